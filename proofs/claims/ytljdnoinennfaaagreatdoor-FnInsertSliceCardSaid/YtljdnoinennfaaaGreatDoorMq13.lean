import Derived.Test.YtljdnoinennfaaaGreatDoorMq11
import Derived.Laws.BitsAllLaws
set_option linter.all false
set_option maxRecDepth 100000
set_option maxHeartbeats 8000000
namespace Go.Proofs.YtljdnoinennfaaaGreatDoor
open Go Go.RowKit Go.Proofs.Tryz
def tA:List Int:=[0,194,224,225,237,238,240,241,244]
def tB:List Int:=[127,223,224,236,237,239,240,243,244]
def tC:List Int:=[0,128,160,128,128,128,144,128,128]
def tD:List Int:=[0,191,191,191,159,191,191,191,143]
def tE:List Int:=[1,2,3,3,3,3,4,4,4]
def tF:List Int:=[127,31,15,15,15,15,7,7,7]
def fA (k:Nat):Int:=tA.getD k 0
def fB (k:Nat):Int:=tB.getD k 0
def fC (k:Nat):Int:=tC.getD k 0
def fD (k:Nat):Int:=tD.getD k 0
def fE (k:Nat):Int:=tE.getD k 0
def fF (k:Nat):Int:=tF.getD k 0
def rowV (k:Nat):Array Value:=#[.int .u8 (fA k),.int .u8 (fB k),.int .u8 (fC k),.int .u8 (fD k),qJ (fE k),.int .u8 (fF k)]
def tab:Array Value:=rowV 0++rowV 1++rowV 2++rowV 3++rowV 4++rowV 5++rowV 6++rowV 7++rowV 8
def zeroV:Array Value:=#[.int .u8 0,.int .u8 0,.int .u8 0,.int .u8 0,qJ 0,.int .u8 0]
theorem idx0 (w:World):(Instr.index 207 (.agg tab) (qJ 0)).run prog w= .ok (.agg (rowV 0)) w:=by kernel_rfl
theorem idx1 (w:World):(Instr.index 207 (.agg tab) (qJ 1)).run prog w= .ok (.agg (rowV 1)) w:=by kernel_rfl
theorem idx2 (w:World):(Instr.index 207 (.agg tab) (qJ 2)).run prog w= .ok (.agg (rowV 2)) w:=by kernel_rfl
theorem idx3 (w:World):(Instr.index 207 (.agg tab) (qJ 3)).run prog w= .ok (.agg (rowV 3)) w:=by kernel_rfl
theorem idx4 (w:World):(Instr.index 207 (.agg tab) (qJ 4)).run prog w= .ok (.agg (rowV 4)) w:=by kernel_rfl
theorem idx5 (w:World):(Instr.index 207 (.agg tab) (qJ 5)).run prog w= .ok (.agg (rowV 5)) w:=by kernel_rfl
theorem idx6 (w:World):(Instr.index 207 (.agg tab) (qJ 6)).run prog w= .ok (.agg (rowV 6)) w:=by kernel_rfl
theorem idx7 (w:World):(Instr.index 207 (.agg tab) (qJ 7)).run prog w= .ok (.agg (rowV 7)) w:=by kernel_rfl
theorem idx8 (w:World):(Instr.index 207 (.agg tab) (qJ 8)).run prog w= .ok (.agg (rowV 8)) w:=by kernel_rfl
theorem idx (k:Nat) (b:k<9) (w:World):(Instr.index 207 (.agg tab) (qJ (k:Int))).run prog w= .ok (.agg (rowV k)) w:=by
 have a:k=0∨k=1∨k=2∨k=3∨k=4∨k=5∨k=6∨k=7∨k=8:=by omega
 rcases a with rfl | rfl | rfl | rfl | rfl | rfl | rfl | rfl | rfl
 ·exact idx0 w
 ·exact idx1 w
 ·exact idx2 w
 ·exact idx3 w
 ·exact idx4 w
 ·exact idx5 w
 ·exact idx6 w
 ·exact idx7 w
 ·exact idx8 w
theorem Jl (a lo hi:Int) (w:World) (b:lo<=a) (c:a<=hi):Calls prog 126 #[.int .u8 a,.int .u8 lo,.int .u8 hi] w fun e w'=>e= .returned (.bool true)∧w'=w:=by
 go_enter func126,ntmps126;go_wp2;go_ret;exact⟨rfl,rfl⟩
theorem Y0 (a lo hi:Int) (w:World) (b:¬ (lo<=a∧a<=hi)):Calls prog 126 #[.int .u8 a,.int .u8 lo,.int .u8 hi] w fun e w'=>e= .returned (.bool false)∧w'=w:=by
 by_cases c:lo<=a
 ·have d:¬a<=hi:=fun g=>b ⟨c,g⟩
  clear b;go_enter func126,ntmps126;go_wp2;go_ret;exact⟨rfl,rfl⟩
 ·clear b
  go_enter func126,ntmps126;go_wp2;go_ret;exact⟨rfl,rfl⟩
def Tab (w:World):Prop:=∃t a,w.heap[1]? =some (.cells tab t a)
theorem zDm (a:Int) (k:Nat) (Z:k<9) (w:World) (P:Tab w) (t:fA k<=a∧a<=fB k) (u:∀j,j<k->¬ (fA j<=a∧a<=fB j)):
  Calls prog 92 #[.int .u8 a] w fun e w'=>e= .returned (.tuple #[.agg (rowV k),.bool true])∧Below w.heap.size w w':=by
 obtain⟨x,y,f⟩:=P
 have z:1<w.heap.size:=by
  rcases xS 1 w.heap.size with h | h
  ·exact h
  ·rw [vJ h]at f;cases f
 have m:(w.alloc (.cells #[.int .u8 0,.int .u8 0,.int .u8 0,.int .u8 0,qJ 0,.int .u8 0] 156)).heap[1]? =some (.cells tab x y):=by
  rw [vP _ _ _ z];exact f
 have n:=qG m;clear f m;go_enter func92,ntmps92
 go_wp2_with (refine wpList_load_row rfl 207 _ rfl 1 rfl x tab y _ n underlying207 rfl (by kernel_rfl) ?_)
 generalize d:w.alloc (.cells #[.int .u8 0,.int .u8 0,.int .u8 0,.int .u8 0,qJ 0,.int .u8 0] 156)=c
 have o:w.heap.size<c.heap.size:=by rw [<- d];simp
 have p:c.heap[w.heap.size]? =some (.cells #[.int .u8 0,.int .u8 0,.int .u8 0,.int .u8 0,qJ 0,.int .u8 0] 156 (0,0)):=by rw [<- d];exact xm _ _
 have q:Below w.heap.size w c:=by rw [<- d];exact(qO _ _).alloc lR _
 have A:=qG p;have B:=qG q;have C:=qG u;have r:=qG t;clear d p q u t n
 go_loopw [7] (fun i wr=>∃j:Nat,j<=k∧i=qJ j∧Below c.heap.size c wr) (fun i _=>9 - (intOf i).toNat)
 case atStart=>exact⟨0,xP _,rfl,qO _ _⟩
 case round=>
  obtain⟨j,aa,rfl,l⟩:=hrel
  have Q:(j:Int)<9:=by omega
  have D:=fun W=>idx j (by omega) W
  have s:rowV j= #[.int .u8 (fA j),.int .u8 (fB j),.int .u8 (fC j),.int .u8 (fD j),qJ (fE j),.int .u8 (fF j)]:=rfl;simp only [s]at D;have g:=qG l;have E:=l.size;clear l s
  by_cases O:j=k
  ·subst O
   have b:wr.heap[w.heap.size]? =some (.cells #[.int .u8 0,.int .u8 0,.int .u8 0,.int .u8 0,qJ 0,.int .u8 0] 156 (0,0)):=(g.block _ o).trans A
   have F:wr.cell? ⟨w.heap.size,0,none⟩=some (.int .u8 0):=by rw [qQ wr w.heap.size 0 _ _ _ b];rfl
   have G:wr.cell? ⟨w.heap.size,1,none⟩=some (.int .u8 0):=by rw [qQ wr w.heap.size 1 _ _ _ b];rfl
   have H:wr.cell? ⟨w.heap.size,2,none⟩=some (.int .u8 0):=by rw [qQ wr w.heap.size 2 _ _ _ b];rfl
   have I:wr.cell? ⟨w.heap.size,3,none⟩=some (.int .u8 0):=by rw [qQ wr w.heap.size 3 _ _ _ b];rfl
   have J:wr.cell? ⟨w.heap.size,4,none⟩=some (qJ 0):=by rw [qQ wr w.heap.size 4 _ _ _ b];rfl
   have K:wr.cell? ⟨w.heap.size,5,none⟩=some (.int .u8 0):=by rw [qQ wr w.heap.size 5 _ _ _ b];rfl
   have R:wr.frozen? ⟨w.heap.size,0,none⟩=false:=xo wr w.heap.size 0 _ _ b;have S:wr.frozen? ⟨w.heap.size,1,none⟩=false:=xo wr w.heap.size 1 _ _ b;have T:wr.frozen? ⟨w.heap.size,2,none⟩=false:=xo wr w.heap.size 2 _ _ b;have U:wr.frozen? ⟨w.heap.size,3,none⟩=false:=xo wr w.heap.size 3 _ _ b;have V:wr.frozen? ⟨w.heap.size,4,none⟩=false:=xo wr w.heap.size 4 _ _ b;have X:wr.frozen? ⟨w.heap.size,5,none⟩=false:=xo wr w.heap.size 5 _ _ b
   have L:w.heap.size<wr.heap.size:=by omega
   have Y:¬wr.heap.size=w.heap.size:=by omega
   clear b;go_wp2_with fail;refine(Jl a (fA j) (fB j) _ r.1 r.2).mono ?_;rintro e w1 ⟨rfl,rfl⟩;go_wp2;have M:=qG (B.trans (g.mono (k7 o)))
   refine xr (v:=.tuple #[.agg (rowV j),.bool true]) (by simp [results,results92,go_sem,F,G,H,I,J,K,L,rowV]) rfl ⟨rfl,?_⟩
   exact((((((M.setCell lR _).setCell lR _).setCell lR _).setCell lR _).setCell lR _).setCell lR _).alloc (by simp;omega) _
  ·have N:=qG (C j (by omega))
   go_wp2_with fail;refine(Y0 a (fA j) (fB j) _ N).mono ?_;rintro e w1 ⟨rfl,rfl⟩;go_wp2;go_roundw
   case rel=>exact⟨j+1,by omega,by go_num,g.alloc E _⟩
   case measure=>simp [intOf];omega
theorem zC4 (a:Int) (w:World) (L:Tab w) (s:∀j,j<9->¬ (fA j<=a∧a<=fB j)):
  Calls prog 92 #[.int .u8 a] w fun e w'=>e= .returned (.tuple #[.agg zeroV,.bool false])∧Below w.heap.size w w':=by
 obtain⟨t,u,f⟩:=L
 have x:1<w.heap.size:=by
  rcases xS 1 w.heap.size with h | h
  ·exact h
  ·rw [vJ h]at f;cases f
 have l:(w.alloc (.cells #[.int .u8 0,.int .u8 0,.int .u8 0,.int .u8 0,qJ 0,.int .u8 0] 156)).heap[1]? =some (.cells tab t u):=by
  rw [vP _ _ _ x];exact f
 have m:=qG l;clear f l;go_enter func92,ntmps92
 go_wp2_with (refine wpList_load_row rfl 207 _ rfl 1 rfl t tab u _ m underlying207 rfl (by kernel_rfl) ?_)
 generalize d:w.alloc (.cells #[.int .u8 0,.int .u8 0,.int .u8 0,.int .u8 0,qJ 0,.int .u8 0] 156)=c
 have n:w.heap.size<c.heap.size:=by rw [<- d];simp
 have o:c.heap[w.heap.size]? =some (.cells #[.int .u8 0,.int .u8 0,.int .u8 0,.int .u8 0,qJ 0,.int .u8 0] 156 (0,0)):=by rw [<- d];exact xm _ _
 have p:Below w.heap.size w c:=by rw [<- d];exact(qO _ _).alloc lR _
 have y:=qG o;have z:=qG p;have A:=qG s;clear d o p s m
 go_loopw [7] (fun i wr=>∃j:Nat,j<=9∧i=qJ j∧Below c.heap.size c wr) (fun i _=>9 - (intOf i).toNat)
 case atStart=>exact⟨0,xP _,rfl,qO _ _⟩
 case round=>
  obtain⟨j,U,rfl,k⟩:=hrel;have g:=qG k;have B:=k.size;clear k
  by_cases r:j<9
  ·have M:(j:Int)<9:=by omega
   have C:=fun W=>idx j r W
   have q:rowV j= #[.int .u8 (fA j),.int .u8 (fB j),.int .u8 (fC j),.int .u8 (fD j),qJ (fE j),.int .u8 (fF j)]:=rfl;simp only [q]at C;clear q;have D:=qG (A j r);go_wp2_with fail;refine(Y0 a (fA j) (fB j) _ D).mono ?_;rintro e w1 ⟨rfl,rfl⟩;go_wp2;go_roundw
   case rel=>exact⟨j+1,by omega,by go_num,g.alloc B _⟩
   case measure=>simp [intOf];omega
  ·obtain rfl:j=9:=by omega
   have b:wr.heap[w.heap.size]? =some (.cells #[.int .u8 0,.int .u8 0,.int .u8 0,.int .u8 0,qJ 0,.int .u8 0] 156 (0,0)):=(g.block _ n).trans y
   have E:wr.cell? ⟨w.heap.size,0,none⟩=some (.int .u8 0):=by rw [qQ wr w.heap.size 0 _ _ _ b];rfl
   have F:wr.cell? ⟨w.heap.size,1,none⟩=some (.int .u8 0):=by rw [qQ wr w.heap.size 1 _ _ _ b];rfl
   have G:wr.cell? ⟨w.heap.size,2,none⟩=some (.int .u8 0):=by rw [qQ wr w.heap.size 2 _ _ _ b];rfl
   have H:wr.cell? ⟨w.heap.size,3,none⟩=some (.int .u8 0):=by rw [qQ wr w.heap.size 3 _ _ _ b];rfl
   have I:wr.cell? ⟨w.heap.size,4,none⟩=some (qJ 0):=by rw [qQ wr w.heap.size 4 _ _ _ b];rfl
   have J:wr.cell? ⟨w.heap.size,5,none⟩=some (.int .u8 0):=by rw [qQ wr w.heap.size 5 _ _ _ b];rfl
   have N:wr.frozen? ⟨w.heap.size,0,none⟩=false:=xo wr w.heap.size 0 _ _ b;have O:wr.frozen? ⟨w.heap.size,1,none⟩=false:=xo wr w.heap.size 1 _ _ b;have P:wr.frozen? ⟨w.heap.size,2,none⟩=false:=xo wr w.heap.size 2 _ _ b;have Q:wr.frozen? ⟨w.heap.size,3,none⟩=false:=xo wr w.heap.size 3 _ _ b;have R:wr.frozen? ⟨w.heap.size,4,none⟩=false:=xo wr w.heap.size 4 _ _ b;have S:wr.frozen? ⟨w.heap.size,5,none⟩=false:=xo wr w.heap.size 5 _ _ b
   have T:w.heap.size<wr.heap.size:=by omega
   clear b;go_wp2;have K:=qG (z.trans (g.mono (k7 n)))
   refine xr (v:=.tuple #[.agg zeroV,.bool false]) (by simp [results,results92,go_sem,E,F,G,H,I,J,zeroV]) rfl ⟨rfl,?_⟩
   exact(((((K.setCell lR _).setCell lR _).setCell lR _).setCell lR _).setCell lR _).setCell lR _
end Go.Proofs.YtljdnoinennfaaaGreatDoor
namespace Go.Proofs.YtljdnoinennfaaaGreatDoor
open Go Go.RowKit
def inr (lo hi:Int) (i:Nat) (z:Int):Prop:=if i=1 then lo<=z∧z<=hi else 128<=z∧z<=191
theorem matched (d f lo hi g:Int) (size:Nat) (bs:List Int) (v:Value) (w:World) (Q:Rd .u8 w v bs) (p:bs≠ []) (ad:bs.length<=1048576) (R:1<=size∧size<=4):
  Calls Tryz.prog 93 #[.agg #[.int .u8 d,.int .u8 f,.int .u8 lo,.int .u8 hi,qJ size,.int .u8 g],v] w fun e w'=>∃n:Nat,e= .returned (qJ n)∧1<=n∧n<=size∧(∀i,1<=i->i<n->i<bs.length∧inr lo hi i (bs.getD i 0))∧(n=size∨(n<size∧(n=bs.length∨¬inr lo hi n (bs.getD n 0))))∧n<=bs.length∧Below w.heap.size w w':=by
 have T:0<bs.length:=kD.2 p
 rcases Q with ⟨_,_,_,e⟩ | ⟨b,off,cap,rfl,⟨S,ae,af⟩,q⟩
 ·exact absurd e p
 have G:b<w.heap.size:=xD w _ (q 0 S);obtain⟨ag,ah⟩:=R
 have x:∀i,i<bs.length->(w.alloc (.cells #[.int .u8 d,.int .u8 f,.int .u8 lo,.int .u8 hi,qJ size,.int .u8 g] 156)).cell? ⟨b,off+i,none⟩=some (.int .u8 (bs.getD i 0)):=fun i hi=>by
  rw [vX _ _ ⟨b,off+i,none⟩ G];exact q i hi
 have H:=qG x;have a:=qG ((qO w.heap.size w).alloc lR (.cells #[.int .u8 d,.int .u8 f,.int .u8 lo,.int .u8 hi,qJ size,.int .u8 g] 156))
 have V:(w.alloc (.cells #[.int .u8 d,.int .u8 f,.int .u8 lo,.int .u8 hi,qJ size,.int .u8 g] 156)).cell? ⟨w.heap.size,2,none⟩=some (.int .u8 lo):=by simp
 have W:(w.alloc (.cells #[.int .u8 d,.int .u8 f,.int .u8 lo,.int .u8 hi,qJ size,.int .u8 g] 156)).cell? ⟨w.heap.size,3,none⟩=some (.int .u8 hi):=by simp
 have X:(w.alloc (.cells #[.int .u8 d,.int .u8 f,.int .u8 lo,.int .u8 hi,qJ size,.int .u8 g] 156)).cell? ⟨w.heap.size,4,none⟩=some (qJ size):=by simp
 clear q x p;go_enter Tryz.func93,Tryz.ntmps93;go_wp2_with fail;generalize w.alloc (.cells #[.int .u8 d,.int .u8 f,.int .u8 lo,.int .u8 hi,qJ size,.int .u8 g] 156)=Z at *;go_quiet (fail);go_wp2_with fail
 go_loop [5,6,7] (fun l u i=>∃ (k:Nat) (h U:Int),1<=k∧k<=size∧k<=bs.length∧l= .int .u8 h∧u= .int .u8 U∧i=qJ k∧(∀z,(h<=z∧z<=U)↔inr lo hi k z)∧(∀i,1<=i->i<k->i<bs.length∧inr lo hi i (bs.getD i 0))) (fun _ _ i=>size - (intOf i).toNat)
 case atStart=>exact⟨1,lo,hi,by omega,by omega,by omega,rfl,rfl,rfl,(fun z=>by unfold inr;rw [xj rfl]),fun i aa ab=>by omega⟩
 case round=>
  obtain⟨k,h,U,r,s,t,rfl,rfl,rfl,E,F⟩:=hrel;have y:=qG E;have j:=qG F;clear E F
  by_cases C:k<size
  ·by_cases o:k=bs.length
   ·have I:((k:Int)==(bs.length:Int))=true:=by simp;omega
    have J:=qG o;clear o;go_wp2;go_ret;exact⟨k,rfl,r,s,j,.inr ⟨C,.inl J⟩,t,⟨a.os,a.tape,a.output,a.size,a.block⟩⟩
   ·have I:((k:Int)==(bs.length:Int))=false:=by simp;omega
    have A:k<bs.length:=by omega
    have K:=H k A
    have Y:=qG (show ∀z,z=bs.getD k 0->(inr lo hi k z↔inr lo hi k (bs.getD k 0))from fun z N=>by rw [N])
    generalize D:bs.getD k 0=z at K;have B:=qG D;clear D o
    by_cases c:h<=z∧z<=U
    ·go_wp2_with fail
     refine(Jl z h U _ c.1 c.2).mono ?_;rintro e w1 ⟨rfl,rfl⟩;have m:=qG c;clear c;go_wp2;go_round
     case rel=>
      have L:∀i,1<=i->i<k+1->i<bs.length∧inr lo hi i (bs.getD i 0):=fun i O ac=>by
       by_cases M:i=k
       ·subst M;exact⟨A,by rw [B.out];exact(y z).1 m⟩
       ·exact j i O (by omega)
      exact⟨k+1,128,191,by omega,by omega,by omega,rfl,rfl,by go_num,(fun z=>by unfold inr;rw [qT (by omega)]),L⟩
     case measure=>simp [intOf];omega
    ·go_wp2_with fail
     refine(Y0 z h U _ c).mono ?_;rintro e w1 ⟨rfl,rfl⟩;have m:=qG c;clear c;go_wp2;go_ret
     exact⟨k,rfl,r,s,j,.inr ⟨C,.inr (by rw [B.out];exact fun P=>m ((y z).2 P))⟩,t,⟨a.os,a.tape,a.output,a.size,a.block⟩⟩
  ·obtain rfl:k=size:=by omega
   go_wp2;go_ret;exact⟨k,rfl,r,s,j,.inl rfl,t,⟨a.os,a.tape,a.output,a.size,a.block⟩⟩
end Go.Proofs.YtljdnoinennfaaaGreatDoor
namespace Go.Proofs.YtljdnoinennfaaaGreatDoor
open Go Go.RowKit Go.Proofs.Tryz
theorem and127 (a:Int) (b:0<=a) (c:a<=127):bits .and .u8 a 127=a:=by
 obtain⟨n,rfl⟩:=xZ b
 have:=u8_and_nat n 127 (by omega) (by omega)
 rw [show(127:Int)=((127:Nat):Int)from rfl,this]
 have e:n&&&127=n%128:=Nat.and_two_pow_sub_one_eq_mod n 7
 rw [e,Nat.mod_eq_of_lt (by omega)]
theorem zDn (c d f g a:Int) (n cap h off:Nat) (w:World) (o:h<w.heap.size) (y:1<=n) (z:n<=cap) (p:cap<=maxLen) (q:0<=a∧a<=127)
  (j:w.cell? ⟨h,off,none⟩=some (.int .u8 a)):
  Calls prog 94 #[.agg #[.int .u8 c,.int .u8 d,.int .u8 f,.int .u8 g,qJ 1,.int .u8 127],.slice (qK h off) n cap] w fun e w'=>e= .returned (.int .i32 (numZ [a]))∧Below w.heap.size w w':=by
 unfold maxLen at p;obtain⟨r,s⟩:=q
 have t:(w.alloc (.cells #[.int .u8 c,.int .u8 d,.int .u8 f,.int .u8 g,qJ 1,.int .u8 127] 156)).cell? ⟨h,off,none⟩=some (.int .u8 a):=by rw [vX _ _ ⟨h,off,none⟩ o];exact j
 clear j
 have u:(w.alloc (.cells #[.int .u8 c,.int .u8 d,.int .u8 f,.int .u8 g,qJ 1,.int .u8 127] 156)).cell? ⟨w.heap.size,4,none⟩=some (qJ 1):=by simp
 have v:(w.alloc (.cells #[.int .u8 c,.int .u8 d,.int .u8 f,.int .u8 g,qJ 1,.int .u8 127] 156)).cell? ⟨w.heap.size,5,none⟩=some (.int .u8 127):=by simp
 have b:=qG ((qO w.heap.size w).alloc lR (.cells #[.int .u8 c,.int .u8 d,.int .u8 f,.int .u8 g,qJ 1,.int .u8 127] 156))
 have i:=qG (show numZ [a]=a from rfl)
 have x:=and127 a r s
 by_cases l:cap=1
 ·have k:n=1:=by omega
  subst l k;go_enter func94,ntmps94;go_wp2_with fail;generalize w.alloc (.cells #[.int .u8 c,.int .u8 d,.int .u8 f,.int .u8 g,qJ 1,.int .u8 127] 156)=m at *;go_quiet (fail);go_wp2_with fail;refine xY 1 ?_;rw [xu];go_wp2;go_ret
  exact⟨by rw [i.out];rfl,⟨b.os,b.tape,b.output,b.size,b.block⟩⟩
 ·skip
  go_enter func94,ntmps94;go_wp2_with fail;generalize w.alloc (.cells #[.int .u8 c,.int .u8 d,.int .u8 f,.int .u8 g,qJ 1,.int .u8 127] 156)=m at *;go_quiet (fail);go_wp2_with fail;refine xY 1 ?_;rw [xu];go_wp2;go_ret
  exact⟨by rw [i.out];rfl,⟨b.os,b.tape,b.output,b.size,b.block⟩⟩
theorem zDo (d f g h a b:Int) (n cap c off:Nat) (w:World) (j:c<w.heap.size) (y:2<=n) (z:n<=cap) (o:cap<=maxLen) (p:194<=a∧a<=223) (q:128<=b∧b<=191)
  (k:w.cell? ⟨c,off,none⟩=some (.int .u8 a)) (l:w.cell? ⟨c,off+1,none⟩=some (.int .u8 b)):
  Calls prog 94 #[.agg #[.int .u8 d,.int .u8 f,.int .u8 g,.int .u8 h,qJ 2,.int .u8 31],.slice (qK c off) n cap] w fun e w'=>e= .returned (.int .i32 (numZ [a,b]))∧Below w.heap.size w w':=by
 unfold maxLen at o;obtain⟨A,B⟩:=p;obtain⟨C,D⟩:=q
 have r:(w.alloc (.cells #[.int .u8 d,.int .u8 f,.int .u8 g,.int .u8 h,qJ 2,.int .u8 31] 156)).cell? ⟨c,off,none⟩=some (.int .u8 a):=by rw [vX _ _ ⟨c,off,none⟩ j];exact k
 clear k
 have s:(w.alloc (.cells #[.int .u8 d,.int .u8 f,.int .u8 g,.int .u8 h,qJ 2,.int .u8 31] 156)).cell? ⟨c,off+1,none⟩=some (.int .u8 b):=by rw [vX _ _ ⟨c,off+1,none⟩ j];exact l
 clear l
 have t:(w.alloc (.cells #[.int .u8 d,.int .u8 f,.int .u8 g,.int .u8 h,qJ 2,.int .u8 31] 156)).cell? ⟨w.heap.size,4,none⟩=some (qJ 2):=by simp
 have u:(w.alloc (.cells #[.int .u8 d,.int .u8 f,.int .u8 g,.int .u8 h,qJ 2,.int .u8 31] 156)).cell? ⟨w.heap.size,5,none⟩=some (.int .u8 31):=by simp
 have i:=qG ((qO w.heap.size w).alloc lR (.cells #[.int .u8 d,.int .u8 f,.int .u8 g,.int .u8 h,qJ 2,.int .u8 31] 156))
 have m:=qG (show numZ [a,b]=(a%32)*64+b%64 by simp only [numZ];omega)
 have v:¬cap=1:=by omega
 go_enter func94,ntmps94;go_wp2_with fail;generalize w.alloc (.cells #[.int .u8 d,.int .u8 f,.int .u8 g,.int .u8 h,qJ 2,.int .u8 31] 156)=x at *;go_quiet (fail);go_wp2_with fail;refine xY 2 ?_;rw [xu];go_wp2;rw [xu];go_wp2;go_ret
 exact⟨by rw [m.out];rfl,⟨i.os,i.tape,i.output,i.size,i.block⟩⟩
theorem zDp (f g h i a b c:Int) (n cap d off:Nat) (w:World) (k:d<w.heap.size) (C:3<=n) (D:n<=cap) (q:cap<=maxLen) (r:224<=a∧a<=239) (s:128<=b∧b<=191) (t:128<=c∧c<=191)
  (l:w.cell? ⟨d,off,none⟩=some (.int .u8 a)) (m:w.cell? ⟨d,off+1,none⟩=some (.int .u8 b)) (o:w.cell? ⟨d,off+2,none⟩=some (.int .u8 c)):
  Calls prog 94 #[.agg #[.int .u8 f,.int .u8 g,.int .u8 h,.int .u8 i,qJ 3,.int .u8 15],.slice (qK d off) n cap] w fun e w'=>e= .returned (.int .i32 (numZ [a,b,c]))∧Below w.heap.size w w':=by
 unfold maxLen at q;obtain⟨E,F⟩:=r;obtain⟨G,H⟩:=s;obtain⟨I,J⟩:=t
 have u:(w.alloc (.cells #[.int .u8 f,.int .u8 g,.int .u8 h,.int .u8 i,qJ 3,.int .u8 15] 156)).cell? ⟨d,off,none⟩=some (.int .u8 a):=by rw [vX _ _ ⟨d,off,none⟩ k];exact l
 clear l
 have v:(w.alloc (.cells #[.int .u8 f,.int .u8 g,.int .u8 h,.int .u8 i,qJ 3,.int .u8 15] 156)).cell? ⟨d,off+1,none⟩=some (.int .u8 b):=by rw [vX _ _ ⟨d,off+1,none⟩ k];exact m
 clear m
 have x:(w.alloc (.cells #[.int .u8 f,.int .u8 g,.int .u8 h,.int .u8 i,qJ 3,.int .u8 15] 156)).cell? ⟨d,off+2,none⟩=some (.int .u8 c):=by rw [vX _ _ ⟨d,off+2,none⟩ k];exact o
 clear o
 have y:(w.alloc (.cells #[.int .u8 f,.int .u8 g,.int .u8 h,.int .u8 i,qJ 3,.int .u8 15] 156)).cell? ⟨w.heap.size,4,none⟩=some (qJ 3):=by simp
 have z:(w.alloc (.cells #[.int .u8 f,.int .u8 g,.int .u8 h,.int .u8 i,qJ 3,.int .u8 15] 156)).cell? ⟨w.heap.size,5,none⟩=some (.int .u8 15):=by simp
 have j:=qG ((qO w.heap.size w).alloc lR (.cells #[.int .u8 f,.int .u8 g,.int .u8 h,.int .u8 i,qJ 3,.int .u8 15] 156))
 have p:=qG (show numZ [a,b,c]=((a%16)*64+b%64)*64+c%64 by simp only [numZ];omega)
 have A:¬cap=1:=by omega
 go_enter func94,ntmps94;go_wp2_with fail;generalize w.alloc (.cells #[.int .u8 f,.int .u8 g,.int .u8 h,.int .u8 i,qJ 3,.int .u8 15] 156)=B at *;go_quiet (fail);go_wp2_with fail;refine xY 3 ?_;rw [xu];go_wp2;rw [xu];go_wp2;rw [xu];go_wp2;go_ret
 exact⟨by rw [p.out];rfl,⟨j.os,j.tape,j.output,j.size,j.block⟩⟩
theorem zDq (g h i j a b c d:Int) (n cap f off:Nat) (w:World) (l:f<w.heap.size) (G:4<=n) (H:n<=cap) (s:cap<=maxLen) (t:240<=a∧a<=244) (u:128<=b∧b<=191) (v:128<=c∧c<=191) (x:128<=d∧d<=191)
  (m:w.cell? ⟨f,off,none⟩=some (.int .u8 a)) (o:w.cell? ⟨f,off+1,none⟩=some (.int .u8 b)) (p:w.cell? ⟨f,off+2,none⟩=some (.int .u8 c)) (q:w.cell? ⟨f,off+3,none⟩=some (.int .u8 d)):
  Calls prog 94 #[.agg #[.int .u8 g,.int .u8 h,.int .u8 i,.int .u8 j,qJ 4,.int .u8 7],.slice (qK f off) n cap] w fun e w'=>e= .returned (.int .i32 (numZ [a,b,c,d]))∧Below w.heap.size w w':=by
 unfold maxLen at s;obtain⟨I,J⟩:=t;obtain⟨K,L⟩:=u;obtain⟨M,N⟩:=v;obtain⟨O,P⟩:=x
 have y:(w.alloc (.cells #[.int .u8 g,.int .u8 h,.int .u8 i,.int .u8 j,qJ 4,.int .u8 7] 156)).cell? ⟨f,off,none⟩=some (.int .u8 a):=by rw [vX _ _ ⟨f,off,none⟩ l];exact m
 clear m
 have z:(w.alloc (.cells #[.int .u8 g,.int .u8 h,.int .u8 i,.int .u8 j,qJ 4,.int .u8 7] 156)).cell? ⟨f,off+1,none⟩=some (.int .u8 b):=by rw [vX _ _ ⟨f,off+1,none⟩ l];exact o
 clear o
 have A:(w.alloc (.cells #[.int .u8 g,.int .u8 h,.int .u8 i,.int .u8 j,qJ 4,.int .u8 7] 156)).cell? ⟨f,off+2,none⟩=some (.int .u8 c):=by rw [vX _ _ ⟨f,off+2,none⟩ l];exact p
 clear p
 have B:(w.alloc (.cells #[.int .u8 g,.int .u8 h,.int .u8 i,.int .u8 j,qJ 4,.int .u8 7] 156)).cell? ⟨f,off+3,none⟩=some (.int .u8 d):=by rw [vX _ _ ⟨f,off+3,none⟩ l];exact q
 clear q
 have C:(w.alloc (.cells #[.int .u8 g,.int .u8 h,.int .u8 i,.int .u8 j,qJ 4,.int .u8 7] 156)).cell? ⟨w.heap.size,4,none⟩=some (qJ 4):=by simp
 have D:(w.alloc (.cells #[.int .u8 g,.int .u8 h,.int .u8 i,.int .u8 j,qJ 4,.int .u8 7] 156)).cell? ⟨w.heap.size,5,none⟩=some (.int .u8 7):=by simp
 have k:=qG ((qO w.heap.size w).alloc lR (.cells #[.int .u8 g,.int .u8 h,.int .u8 i,.int .u8 j,qJ 4,.int .u8 7] 156))
 have r:=qG (show numZ [a,b,c,d]=(((a%8)*64+b%64)*64+c%64)*64+d%64 by simp only [numZ];omega)
 have E:¬cap=1:=by omega
 go_enter func94,ntmps94;go_wp2_with fail;generalize w.alloc (.cells #[.int .u8 g,.int .u8 h,.int .u8 i,.int .u8 j,qJ 4,.int .u8 7] 156)=F at *;go_quiet (fail);go_wp2_with fail;refine xY 4 ?_;rw [xu];go_wp2;rw [xu];go_wp2;rw [xu];go_wp2;rw [xu];go_wp2;go_ret
 exact⟨by rw [r.out];rfl,⟨k.os,k.tape,k.output,k.size,k.block⟩⟩
theorem encZ_byt9 (r:Int):bytes (encZ r):=by
 intro z b
 rcases zy r with a | a | a | a | a | a
 ·rw [yG a]at b;simp at b;omega
 ·rw [yY a.1 a.2]at b;simp at b;omega
 ·rw [yK a.1 a.2]at b;simp at b;omega
 ·rw [zP a.1 (by omega) (.inl a.2)]at b;simp at b;omega
 ·rw [zP (by omega) a.2 (.inr a.1)]at b;simp at b;omega
 ·rw [yB a.1 a.2]at b;simp at b;omega
theorem l1bR (r:Int) (w:World) (d: -2147483648<=r) (f:r<2147483648):
  Calls prog 91 #[qJ r] w fun e w'=>∃a,e= .returned a∧Rd .u8 w' a (encZ r)∧Below w.heap.size w w':=
 (l1b r w d f).mono fun e w' ⟨b,c⟩=>by
  subst c;refine⟨_,b,?_,(qO _ _).alloc lR _⟩;have g:=yH r
  refine .inr ⟨w.heap.size,0,(encZ r).length,rfl,⟨by omega,lR,by unfold maxLen;omega⟩,fun i hi=>?_⟩
  have:=zL w 5 (ints .u8 (encZ r)) i (.int .u8 ((encZ r).getD i 0)) (by simp [ints,qY hi])
  rw [zK]at this;exact this
theorem l1Form1 (a:Int) (v:Value) (w:World) (d:Rd .u8 w v [a]) (f:bytes [a]):
  Calls prog 95 #[v] w fun e w'=>∃n,e= .returned (.tuple #[.int .i64 n,.bool (zT [a])])∧(zT [a]=true->n=numZ [a])∧Below w.heap.size w w':=by
 obtain⟨F,G⟩:=f a (by simp)
 have p:=qG d;have q:=qG f
 rcases d with ⟨_,_,_,e⟩ | ⟨A,off,cap,rfl,B,m⟩
 ·cases e
 ·simp only [q9,xC]at *
  have D:w.cell? ⟨A,off,none⟩=some (.int .u8 a):=m 0 (by simp)
  clear m B f
  have r:¬a<0:=by omega
  have h:decide (encZ (a)= [a])=zT [a]:=by
   rw [Bool.eq_iff_iff,zo,Qj];simp only [numZ]
   exact⟨fun d=>⟨by omega,d⟩,fun d=>d.2⟩
  have i:numZ [a]=a:=rfl;rw [<- h,i];clear h i;have j:=encZ_byt9 (a);have k:=yH (a);obtain⟨b,C⟩:∃b,b=a:=⟨_,rfl⟩;subst C
  have E:0<=b:=by omega
  have s:b<2147483648:=by omega
  have g:¬b<0:=by omega
  clear r;have t:=qG k;have u:=qG j;clear k j;go_enter func95,ntmps95;go_wp2_with fail
  refine(l1bR b _ (by omega) s).mono ?_
  rintro e w1 ⟨H,rfl,o,c⟩;have x:=qG o;have y:=qG ((p.out.cells (w':=w) rfl).below c);have l:Below w.heap.size w w1:=⟨c.os,c.tape,c.output,c.size,c.block⟩;have z:=qG l;clear o c l;go_wp2_with fail
  refine(zAp (encZ b) [b] _ _ _ x.out y.out u.out q.out (by have:=t.out;omega) (by simp)).mono ?_
  rintro e I ⟨rfl,rfl⟩;go_wp2;go_ret2
  exact⟨_,rfl,fun _=>rfl,z.out⟩
theorem l1Form2 (a b:Int) (v:Value) (w:World) (c:Rd .u8 w v [a,b]) (i:bytes [a,b]):
  Calls prog 95 #[v] w fun e w'=>∃n,e= .returned (.tuple #[.int .i64 n,.bool (zT [a,b])])∧(zT [a,b]=true->n=numZ [a,b])∧Below w.heap.size w w':=by
 obtain⟨I,J⟩:=i a (by simp)
 obtain⟨K,d⟩:=i b (by simp)
 have r:=qG c;have s:=qG i
 rcases c with ⟨_,_,_,e⟩ | ⟨p,off,cap,rfl,D,j⟩
 ·cases e
 ·simp only [q9,xC]at *
  have E:w.cell? ⟨p,off,none⟩=some (.int .u8 a):=j 0 (by simp)
  have F:w.cell? ⟨p,off+1,none⟩=some (.int .u8 b):=j 1 (by simp)
  clear j D i
  by_cases B:(a - 192)*64+b - 128<0
  ·have f:zT [a,b]=false:=by
    rw [Bool.eq_false_iff,ne_eq,zo];simp only [numZ];omega
   rw [f];go_enter func95,ntmps95;go_wp2;go_quiet (fail);go_wp2;go_ret2
   exact⟨_,rfl,(fun c=>by cases c),⟨rfl,rfl,rfl,lR,fun _ _=>rfl⟩⟩
  ·have f:decide (encZ ((a - 192)*64+b - 128)= [a,b])=zT [a,b]:=by
    rw [Bool.eq_iff_iff,zo,Qj];simp only [numZ]
    exact⟨fun c=>⟨by omega,c⟩,fun c=>c.2⟩
   have k:numZ [a,b]=(a - 192)*64+b - 128:=rfl;rw [<- f,k];clear f k;have l:=encZ_byt9 ((a - 192)*64+b - 128);have m:=yH ((a - 192)*64+b - 128);generalize C:(a - 192)*64+b - 128=h at *;have G:=qG C
   have H:0<=h:=by omega
   have t:h<2147483648:=by omega
   have g:¬ (a - 192)*64+b - 128<0:=by omega
   clear B;have u:=qG m;have x:=qG l;clear m l;go_enter func95,ntmps95;go_wp2_with fail;go_quiet (fail);go_wp2_with fail
   refine(l1bR h _ (by omega) t).mono ?_
   rintro e w1 ⟨L,rfl,q,d⟩;have y:=qG q;have z:=qG ((r.out.cells (w':=w.drewN nq) rfl).below d);have o:Below w.heap.size w w1:=⟨d.os,d.tape,d.output,d.size,d.block⟩;have A:=qG o;clear q d o;go_wp2_with fail
   refine(zAp (encZ h) [a,b] _ _ _ y.out z.out x.out s.out (by have:=u.out;omega) (by simp)).mono ?_
   rintro e M ⟨rfl,rfl⟩;go_wp2;go_ret2
   exact⟨_,rfl,fun _=>rfl,A.out⟩
theorem l1Form3 (a b c:Int) (v:Value) (w:World) (d:Rd .u8 w v [a,b,c]) (h:bytes [a,b,c]):
  Calls prog 95 #[v] w fun e w'=>∃n,e= .returned (.tuple #[.int .i64 n,.bool (zT [a,b,c])])∧(zT [a,b,c]=true->n=numZ [a,b,c])∧Below w.heap.size w w':=by
 obtain⟨K,L⟩:=h a (by simp)
 obtain⟨M,f⟩:=h b (by simp)
 obtain⟨N,O⟩:=h c (by simp)
 have s:=qG d;have t:=qG h
 rcases d with ⟨_,_,_,e⟩ | ⟨l,off,cap,rfl,E,k⟩
 ·cases e
 ·simp only [q9,xC]at *
  have F:w.cell? ⟨l,off,none⟩=some (.int .u8 a):=k 0 (by simp)
  have G:w.cell? ⟨l,off+1,none⟩=some (.int .u8 b):=k 1 (by simp)
  have H:w.cell? ⟨l,off+2,none⟩=some (.int .u8 c):=k 2 (by simp)
  clear k E h
  by_cases C:(a - 224)*4096+(b - 128)*64+c - 128<0
  ·have i:zT [a,b,c]=false:=by
    rw [Bool.eq_false_iff,ne_eq,zo];simp only [numZ];omega
   rw [i];go_enter func95,ntmps95;go_wp2;go_quiet (fail);go_wp2;go_ret2
   exact⟨_,rfl,(fun d=>by cases d),⟨rfl,rfl,rfl,lR,fun _ _=>rfl⟩⟩
  ·have i:decide (encZ ((a - 224)*4096+(b - 128)*64+c - 128)= [a,b,c])=zT [a,b,c]:=by
    rw [Bool.eq_iff_iff,zo,Qj];simp only [numZ]
    exact⟨fun d=>⟨by omega,d⟩,fun d=>d.2⟩
   have m:numZ [a,b,c]=(a - 224)*4096+(b - 128)*64+c - 128:=rfl;rw [<- i,m];clear i m;have o:=encZ_byt9 ((a - 224)*4096+(b - 128)*64+c - 128);have p:=yH ((a - 224)*4096+(b - 128)*64+c - 128);generalize D:(a - 224)*4096+(b - 128)*64+c - 128=j at *;have I:=qG D
   have J:0<=j:=by omega
   have u:j<2147483648:=by omega
   have g:¬ (a - 224)*4096+(b - 128)*64+c - 128<0:=by omega
   clear C;have x:=qG p;have y:=qG o;clear p o;go_enter func95,ntmps95;go_wp2_with fail;go_quiet (fail);go_wp2_with fail
   refine(l1bR j _ (by omega) u).mono ?_
   rintro e w1 ⟨P,rfl,r,f⟩;have z:=qG r;have A:=qG ((s.out.cells (w':=w.drewN nq) rfl).below f);have q:Below w.heap.size w w1:=⟨f.os,f.tape,f.output,f.size,f.block⟩;have B:=qG q;clear r f q;go_wp2_with fail
   refine(zAp (encZ j) [a,b,c] _ _ _ z.out A.out y.out t.out (by have:=x.out;omega) (by simp)).mono ?_
   rintro e Q ⟨rfl,rfl⟩;go_wp2;go_ret2
   exact⟨_,rfl,fun _=>rfl,B.out⟩
theorem l1Form4 (a b c d:Int) (v:Value) (w:World) (f:Rd .u8 w v [a,b,c,d]) (i:bytes [a,b,c,d]):
  Calls prog 95 #[v] w fun e w'=>∃n,e= .returned (.tuple #[.int .i64 n,.bool (zT [a,b,c,d])])∧(zT [a,b,c,d]=true->n=numZ [a,b,c,d])∧Below w.heap.size w w':=by
 obtain⟨M,N⟩:=i a (by simp)
 obtain⟨O,h⟩:=i b (by simp)
 obtain⟨P,Q⟩:=i c (by simp)
 obtain⟨R,S⟩:=i d (by simp)
 have t:=qG f;have u:=qG i
 rcases f with ⟨_,_,_,e⟩ | ⟨m,off,cap,rfl,F,j⟩
 ·cases e
 ·simp only [q9,xC]at *
  have G:w.cell? ⟨m,off,none⟩=some (.int .u8 a):=j 0 (by simp)
  have H:w.cell? ⟨m,off+1,none⟩=some (.int .u8 b):=j 1 (by simp)
  have I:w.cell? ⟨m,off+2,none⟩=some (.int .u8 c):=j 2 (by simp)
  have J:w.cell? ⟨m,off+3,none⟩=some (.int .u8 d):=j 3 (by simp)
  clear j F i
  by_cases D:(a - 240)*262144+(b - 128)*4096+(c - 128)*64+d - 128<0
  ·have k:zT [a,b,c,d]=false:=by
    rw [Bool.eq_false_iff,ne_eq,zo];simp only [numZ];omega
   rw [k];go_enter func95,ntmps95;go_wp2;go_quiet (fail);go_wp2;go_ret2
   exact⟨_,rfl,(fun f=>by cases f),⟨rfl,rfl,rfl,lR,fun _ _=>rfl⟩⟩
  ·have k:decide (encZ ((a - 240)*262144+(b - 128)*4096+(c - 128)*64+d - 128)= [a,b,c,d])=zT [a,b,c,d]:=by
    rw [Bool.eq_iff_iff,zo,Qj];simp only [numZ]
    exact⟨fun f=>⟨by omega,f⟩,fun f=>f.2⟩
   have o:numZ [a,b,c,d]=(a - 240)*262144+(b - 128)*4096+(c - 128)*64+d - 128:=rfl;rw [<- k,o];clear k o;have p:=encZ_byt9 ((a - 240)*262144+(b - 128)*4096+(c - 128)*64+d - 128);have q:=yH ((a - 240)*262144+(b - 128)*4096+(c - 128)*64+d - 128);generalize E:(a - 240)*262144+(b - 128)*4096+(c - 128)*64+d - 128=l at *;have K:=qG E
   have L:0<=l:=by omega
   have x:l<2147483648:=by omega
   have g:¬ (a - 240)*262144+(b - 128)*4096+(c - 128)*64+d - 128<0:=by omega
   clear D;have y:=qG q;have z:=qG p;clear q p;go_enter func95,ntmps95;go_wp2_with fail;go_quiet (fail);go_wp2_with fail
   refine(l1bR l _ (by omega) x).mono ?_
   rintro e w1 ⟨T,rfl,s,h⟩;have A:=qG s;have B:=qG ((t.out.cells (w':=w.drewN nq) rfl).below h);have r:Below w.heap.size w w1:=⟨h.os,h.tape,h.output,h.size,h.block⟩;have C:=qG r;clear s h r;go_wp2_with fail
   refine(zAp (encZ l) [a,b,c,d] _ _ _ A.out B.out z.out u.out (by have:=y.out;omega) (by simp)).mono ?_
   rintro e U ⟨rfl,rfl⟩;go_wp2;go_ret2
   exact⟨_,rfl,fun _=>rfl,C.out⟩
theorem zDs (q:List Int) (v:Value) (w:World) (f:Rd .u8 w v q) (g:bytes q) (i:1<=q.length) (j:q.length<=4):
  Calls prog 95 #[v] w fun e w'=>∃n,e= .returned (.tuple #[qJ n,.bool (zT q)])∧(zT q=true->n=numZ q)∧Below w.heap.size w w':=by
 have h:q≠ []:=by rintro rfl;simp at i
 rcases shape h with ⟨a,rfl⟩ | ⟨a,b,rfl⟩ | ⟨a,b,c,rfl⟩ | ⟨a,b,c,d,r,rfl⟩
 ·exact l1Form1 a v w f g
 ·exact l1Form2 a b v w f g
 ·exact l1Form3 a b c v w f g
 ·obtain rfl:r= []:=by apply qU;simp only [q9]at j;omega
  exact l1Form4 a b c d v w f g
theorem Tryz.infoD:(prog.info? 5).map (fun i=>(i.zero,i.size,i.bytes))=some (some (.int .u8 0),1,1):=by kernel_rfl
def base0 (q:List Int) (s:Int):List Int:=if q.length=1 then q++ [s]else q
theorem zDt (q:List Int) (t:Nat) (s:Int):ext q t s=base0 q s++List.replicate (t - (base0 q s).length) 128:=rfl
theorem rd_all {w:World} {b off cap:Nat} {q:List Int} (a:∀i,i<q.length->w.cell? ⟨b,off+i,none⟩=some (.int .u8 (q.getD i 0))):
  ∀j u,(ints .u8 q)[j]? =some u->w.cell? ((⟨b,off,none⟩:Addr).add j)=some u:=by
 have:=jJ (o:=0) (l:=q.length) a;simpa using this
def lenOf:Value->Nat | .slice _ n _=>n | _=>0
theorem jk {w:World} {base:Nat} {e:TypeId} {v:Value} {n:Nat} {xs:List Value} (a:w.ownsRow base e 1 v n xs) (c:0<n):∃g cap,v= .slice (qK g 0) n cap:=by
 rcases a.2 with ⟨_,d⟩ | ⟨g,cap,f,b,_⟩
 ·omega
 ·exact⟨g,cap,b⟩
theorem zC6 (xs:List Int) (j:Nat):xs++List.replicate j 128++ [128]=xs++List.replicate (j+1) 128:=by
 rw [xq,List.replicate_succ']
theorem zC7 {q:List Int} {s:Int} (b:bytes q) (d:0<=s) (e:s<=255):bytes (base0 q s):=by
 unfold base0;split
 ·intro z c
  rcases xv.1 c with a | a
  ·exact b z a
  ·simp at a;subst a;exact⟨d,e⟩
 ·exact b
theorem Kp {q:List Int} {t:Nat} {s:Int} (c:bytes q) (d:0<=s) (e:s<=255):bytes (ext q t s):=by
 rw [zDt];intro z b
 rcases xv.1 b with a | a
 ·exact zC7 c d e z a
 ·have:=kK a;subst this;omega
theorem zGl (a:Int) (v:Value) (w:World) (G:Rd .u8 w v [a]) (ab:bytes [a]):
  Calls prog 96 #[v] w fun e w'=>∃r:Bool,e= .returned (.bool r)∧(r=true↔begOk [a])∧Below w.heap.size w w':=by
 obtain⟨bh,hi,bi,bj,bk⟩:=xM Tryz.infoD
 rcases G with ⟨_,_,_,e⟩ | ⟨b,off,cap,rfl,ac,H⟩
 ·cases e
 have ai:b<w.heap.size:=xD w _ (H 0 ac.1)
 have aj:=qG (fun(W:World) (a2:Below w.heap.size w W)=>rd_all (cap:=cap) (w:=W) (q:=[a]) (fun i hi=>(a2.cell (p:=⟨b,off+i,none⟩) ai).trans (H i hi)))
 have ak:=qG ab;clear H ab ac
 rw [show([a]:List Int).length=1 from rfl]
 go_enter func96,ntmps96;go_wp2
 go_loopw [3] (fun i wr=>∃t:Nat,1<t∧t<=5∧i= .int .i64 t∧(∀ (d:Nat) (s:Int),1<d->d<t->128<=s->s<192->(1<1->s=128)->zT (ext [a] d s)=false)∧Below w.heap.size w wr)
  (fun i _=>5 - (intOf i).toNat)
 case atStart=>exact⟨1+1,by omega,by omega,by go_num,fun d s a3 a4=>by omega,qO _ _⟩
 case round=>
  obtain⟨t,a5,bl,rfl,ad,ae⟩:=hrel;have K:=qG ad;have L:=qG ae;clear ad ae
  by_cases a1:t<=4
  ·have a9:decide ((t:Int)<=4)=true:=by simp;omega
   go_wp2;obtain⟨Y,rfl⟩:∃Y:World,Y=wr:=⟨_,rfl⟩
   go_loopw [4] (fun i wx=>∃s:Nat,128<=s∧s<=192∧(1<1->s=128)∧i= .int .i64 s∧(∀c:Int,128<=c->c<s->zT (ext [a] t c)=false)∧Below w.heap.size w wx)
    (fun i _=>192 - (intOf i).toNat)
   case atStart=>exact⟨128,by omega,by omega,fun _=>rfl,rfl,fun c a3 a4=>by omega,L.out⟩
   case round=>
    obtain⟨s,P,bm,l,rfl,af,I⟩:=hrel;have M:=qG af;have B:=qG I;have o:=I.size;have al:=qG l;clear af I l
    by_cases bf:s<192
    ·have am:=qG (Kp (t:=t) ak.out (show(0:Int)<=s by omega) (show(s:Int)<=255 by omega))
     have an:=qG (show ext [a] t s= [a,(s:Int)]++List.replicate (t - 2) 128 by rw [zDt];rfl)
     have C:=qG (aj.out (wr.alloc (.cells #[] 5)) (B.out.alloc o _));have ao:=qG (ke (base:=w.heap.size) (e:=5) (size:=1) wr #[] 0 o (xP _) rfl)
     go_wp2_with (first
      | (at_builtin;have _t:=C;refine a22 _ rfl _ _ rfl w.heap.size _ 0 [] rfl ao.out ⟨b,off,none⟩ 1 cap (ints .u8 [a]) rfl (by simp [ints]) C.out (zF _ _) (by unfold maxLen;omega) (by omega) (by simp;omega) ?_;intro ba w1 u U _;clear C;rw [xN,xJ]at u;obtain⟨h,bn,rfl⟩:=jk u (by omega);have N:=qG u;have O:=qG ((B.out.alloc o _).grown U (by simp;omega) (fun k m=>by cases m;exact o));have P:=O.out.size;clear u U)
      | (at_builtin;refine a22 _ rfl _ _ rfl w.heap.size _ _ _ rfl (N.out.alloc _) ⟨w1.heap.size,0,none⟩ 1 1 [.int .u8 s] rfl rfl (zL w1 5 [.int .u8 s]) (zF .u8 [(s:Int)]) (by unfold maxLen;omega) (by omega) (by simp;omega) ?_;intro bc a0 E V _;obtain⟨A,a6,rfl⟩:=jk E (by omega)))
     have ap:=qG ((O.out.alloc P _).grown V (by simp;omega) (fun k m=>(N.out.lt k m).1))
     have aq:=qG (show a0.ownsRow w.heap.size 5 1 (.slice (some ⟨A,0,none⟩) 2 a6) 2 (ints .u8 [a,(s:Int)])from E)
     clear E V;obtain⟨Z,rfl⟩:∃Z:World,Z=wr:=⟨_,rfl⟩
     go_loopw [5] (fun x wy=>∃j g cp:Nat,2+j<=t∧x= .slice (some ⟨g,0,none⟩) (2+j) cp∧wy.ownsRow w.heap.size 5 1 (.slice (some ⟨g,0,none⟩) (2+j) cp) (2+j) (ints .u8 ([a,(s:Int)]++List.replicate j 128))∧Below w.heap.size w wy)
      (fun x _=>t - lenOf x)
     case atStart=>exact⟨0,_,_,by omega,rfl,by simpa using aq.out,ap.out⟩
     case round=>
      obtain⟨j,f,a7,bo,rfl,ag,J⟩:=hrel;have D:=qG ag;have Q:=qG J;have l:=J.size;clear ag J
      by_cases bg:2+j<t
      ·go_wp2_with (at_builtin;refine a22 _ rfl _ _ rfl w.heap.size _ _ _ rfl (D.out.alloc _) ⟨wr.heap.size,0,none⟩ 1 1 [.int .u8 128] rfl rfl (zL wr 5 [.int .u8 128]) (zF .u8 [128]) (by unfold maxLen;omega) (by omega) (by simp;omega) ?_;intro bd be y X _;obtain⟨n,a8,rfl⟩:=jk y (by omega))
       have ar:=qG ((Q.out.alloc l _).grown X (by simp;omega) (fun k m=>(D.out.lt k m).1))
       have R:ints .u8 ([a,(s:Int)]++List.replicate j 128)++ [.int .u8 128]=ints .u8 ([a,(s:Int)]++List.replicate (j+1) 128):=by rw [<- zC6];simp [ints]
       rw [R]at y;have au:=qG y;clear y X R;go_wp2;go_roundw
       case rel=>exact⟨j+1,n,a8,by omega,rfl,au.out,ar.out⟩
       case measure=>simp [lenOf];omega
      ·have S:=qG (show wr.ownsRow w.heap.size 5 1 (.slice (some ⟨f,0,none⟩) (2+j) a7) (2+j) (ints .u8 (ext [a] t s))by
        rw [an.out,show t - 2=j by omega];exact D.out)
       have av:(ext [a] t s).length=t:=by have:=S.out.1;rw [zC]at this;omega
       have aw:1<=(ext [a] t s).length:=by omega
       have ax:(ext [a] t s).length<=4:=by omega
       clear av;go_wp2_with fail;refine(zDs (ext [a] t s) _ _ (Rd.qd S.out) am.out aw ax).mono ?_;rintro e bp ⟨bq,rfl,-,ah⟩;have T:=qG (Q.out.trans (ah.mono l));clear ah
       cases hok:zT (ext [a] t s)with
       | true=>
        go_wp2;go_ret
        exact⟨true,rfl,⟨fun _=>⟨t,s,a5,a1,by omega,by omega,fun aa=>by have:=al.out aa;omega,hok⟩,fun _=>rfl⟩,T.out⟩
       | false=>
        have ay:=qG hok;clear hok;go_wp2;go_roundw
        case rel=>
         have az:∀c:Int,128<=c->c<((s+1:Nat):Int)->zT (ext [a] t c)=false:=fun c h A=>by
          by_cases f:c=s
          ·rw [f];exact ay.out
          ·exact M.out c h (by omega)
         exact⟨s+1,by omega,by omega,fun aa=>by omega,by go_num,az,T.out⟩
        case measure=>simp [intOf];omega
    ·obtain rfl:s=192:=by omega
     go_wp2;go_roundw
     case rel=>exact⟨t+1,by omega,by omega,by go_num,fun d c h A f n F=>by
      by_cases z:d=t
      ·subst z;exact M.out c f (by omega)
      ·exact K.out d c h (by omega) f n F,B.out⟩
     case measure=>simp [intOf];omega
  ·go_wp2
   go_ret
   refine⟨false,rfl,⟨(fun G=>by cases G),?_⟩,L.out⟩
   rintro ⟨d,s,h,A,f,n,F,z⟩
   rw [K.out d s h (by omega) f n F]at z
   cases z
theorem zGm (q:List Int) (v:Value) (w:World) (F:Rd .u8 w v q) (U:bytes q) (D:2<=q.length) (ba:q.length<=3):
  Calls prog 96 #[v] w fun e w'=>∃r:Bool,e= .returned (.bool r)∧(r=true↔begOk q)∧Below w.heap.size w w':=by
 obtain⟨bc,hi,bd,be,bf⟩:=xM Tryz.infoD
 rcases F with ⟨_,_,_,e⟩ | ⟨b,off,cap,rfl,V,G⟩
 ·subst e;simp at D
 have ac:b<w.heap.size:=xD w _ (G 0 V.1)
 have ad:=qG (fun(W:World) (av:Below w.heap.size w W)=>rd_all (cap:=cap) (w:=W) (q:=q) (fun i hi=>(av.cell (p:=⟨b,off+i,none⟩) ac).trans (G i hi)))
 have ae:=qG U;clear G U V;go_enter func96,ntmps96;go_wp2
 go_loopw [3] (fun i wr=>∃t:Nat,q.length<t∧t<=5∧i= .int .i64 t∧(∀ (a:Nat) (s:Int),q.length<a->a<t->128<=s->s<192->(1<q.length->s=128)->zT (ext q a s)=false)∧Below w.heap.size w wr)
  (fun i _=>5 - (intOf i).toNat)
 case atStart=>exact⟨q.length+1,by omega,by omega,by go_num,fun a s aw D=>by omega,qO _ _⟩
 case round=>
  obtain⟨t,az,bg,rfl,X,Y⟩:=hrel;have J:=qG X;have K:=qG Y;clear X Y
  by_cases au:t<=4
  ·have a2:decide ((t:Int)<=4)=true:=by simp;omega
   go_wp2;obtain⟨S,rfl⟩:∃S:World,S=wr:=⟨_,rfl⟩
   go_loopw [4] (fun i wx=>∃s:Nat,128<=s∧s<=192∧(1<q.length->s=128)∧i= .int .i64 s∧(∀c:Int,128<=c->c<s->zT (ext q t c)=false)∧Below w.heap.size w wx)
    (fun i _=>192 - (intOf i).toNat)
   case atStart=>exact⟨128,by omega,by omega,fun _=>rfl,rfl,fun c aw D=>by omega,K.out⟩
   case round=>
    obtain⟨s,aj,bh,d,rfl,Z,H⟩:=hrel;have a3:=qG Z;have L:=qG H;have l:=H.size;have z:=qG d;clear Z H d
    by_cases a8:s<192
    ·have af:=qG (Kp (t:=t) ae.out (show(0:Int)<=s by omega) (show(s:Int)<=255 by omega))
     have ag:=qG (show ext q t s=q++List.replicate (t - q.length) 128 by rw [zDt];unfold base0;rw [qT (by omega)])
     have A:=qG (ad.out (wr.alloc (.cells #[] 5)) (L.out.alloc l _));have ah:=qG (ke (base:=w.heap.size) (e:=5) (size:=1) wr #[] 0 l (xP _) rfl)
     have a4:((q.length:Int)==1)=false:=by simp;omega
     go_wp2_with (at_builtin;have _t:=A;refine a22 _ rfl _ _ rfl w.heap.size _ 0 [] rfl ah.out ⟨b,off,none⟩ q.length cap (ints .u8 q) rfl (by simp [ints]) A.out (zF _ _) (by unfold maxLen;omega) (by omega) (by simp;omega) ?_;intro a5 w1 m C _;clear A;rw [xN,xJ]at m;obtain⟨u,bi,rfl⟩:=jk m (by omega);have ai:=qG m;have M:=qG ((L.out.alloc l _).grown C (by simp;omega) (fun k E=>by cases E;exact l));have aj:=M.out.size;clear m C)
     obtain⟨T,rfl⟩:∃T:World,T=wr:=⟨_,rfl⟩
     go_loopw [5] (fun x wy=>∃j g cp:Nat,q.length+j<=t∧x= .slice (some ⟨g,0,none⟩) (q.length+j) cp∧wy.ownsRow w.heap.size 5 1 (.slice (some ⟨g,0,none⟩) (q.length+j) cp) (q.length+j) (ints .u8 (q++List.replicate j 128))∧Below w.heap.size w wy)
      (fun x _=>t - lenOf x)
     case atStart=>exact⟨0,_,_,by omega,rfl,by simpa using ai.out,M.out⟩
     case round=>
      obtain⟨j,f,a0,bj,rfl,aa,I⟩:=hrel;have B:=qG aa;have N:=qG I;have d:=I.size;clear aa I
      by_cases a9:q.length+j<t
      ·go_wp2_with (at_builtin;refine a22 _ rfl _ _ rfl w.heap.size _ _ _ rfl (B.out.alloc _) ⟨wr.heap.size,0,none⟩ 1 1 [.int .u8 128] rfl rfl (zL wr 5 [.int .u8 128]) (zF .u8 [128]) (by unfold maxLen;omega) (by omega) (by simp;omega) ?_;intro a6 a7 n R _;obtain⟨h,a1,rfl⟩:=jk n (by omega))
       have ak:=qG ((N.out.alloc d _).grown R (by simp;omega) (fun k E=>(B.out.lt k E).1))
       have O:ints .u8 (q++List.replicate j 128)++ [.int .u8 128]=ints .u8 (q++List.replicate (j+1) 128):=by rw [<- zC6];simp [ints]
       rw [O]at n;have al:=qG n;clear n R O;go_wp2;go_roundw
       case rel=>exact⟨j+1,h,a1,by omega,rfl,al.out,ak.out⟩
       case measure=>simp [lenOf];omega
      ·have P:=qG (show wr.ownsRow w.heap.size 5 1 (.slice (some ⟨f,0,none⟩) (q.length+j) a0) (q.length+j) (ints .u8 (ext q t s))by
        rw [ag.out,show t - q.length=j by omega];exact B.out)
       have am:(ext q t s).length=t:=by have:=P.out.1;rw [zC]at this;omega
       have an:1<=(ext q t s).length:=by omega
       have ao:(ext q t s).length<=4:=by omega
       clear am;go_wp2_with fail;refine(zDs (ext q t s) _ _ (Rd.qd P.out) af.out an ao).mono ?_;rintro e bk ⟨bl,rfl,-,ab⟩;have Q:=qG (N.out.trans (ab.mono d));clear ab
       cases hok:zT (ext q t s)with
       | true=>
        go_wp2;go_ret
        exact⟨true,rfl,⟨fun _=>⟨t,s,az,au,by omega,by omega,fun ax=>by have:=z.out ax;omega,hok⟩,fun _=>rfl⟩,Q.out⟩
       | false=>
        have ap:=qG hok;clear hok
        have C:(1:Int)<(q.length:Int):=by omega
        go_wp2;go_roundw
        case rel=>exact⟨t+1,by omega,by omega,by go_num,fun a c u ay f h y=>by
         by_cases o:a=t
         ·subst o
          have aq:c=128:=y (by omega)
          have ar:s=128:=z.out (by omega)
          subst ar;rw [aq];exact ap.out
         ·exact J.out a c u (by omega) f h y,Q.out⟩
        case measure=>simp [intOf];omega
    ·obtain rfl:s=192:=by omega
     have:=z.out (by omega)
     omega
  ·go_wp2
   go_ret
   refine⟨false,rfl,⟨(fun F=>by cases F),?_⟩,K.out⟩
   rintro ⟨a,s,u,ay,f,h,y,o⟩
   rw [J.out a s u (by omega) f h y]at o
   cases o
theorem zC8 (q:List Int) (v:Value) (w:World) (b:Rd .u8 w v q) (c:bytes q) (g:1<=q.length) (f:q.length<=3):
  Calls prog 96 #[v] w fun e w'=>∃r:Bool,e= .returned (.bool r)∧(r=true↔begOk q)∧Below w.heap.size w w':=by
 by_cases d:q.length=1
 ·obtain⟨a,rfl⟩:=List.length_eq_one_iff.1 d
  exact zGl a v w b c
 ·exact zGm q v w b c (by omega) f
end Go.Proofs.YtljdnoinennfaaaGreatDoor
