import Derived.RegionTactic
import Derived.ChangeAlike
import Derived.Test.YtmjanhcplcalfaaGreatDoorMq06
import Derived.Deep.RegionLaw
import Derived.Deep.AppendLies
set_option linter.all false
set_option maxRecDepth 100000
set_option maxHeartbeats 8000000
namespace Go.Proofs.YtmjanhcplcalfaaGreatDoor
open Go Go.RowKit Go.Proofs.Tryz
def Src (bs:List Int) (a:Value) (p:Nat) (w:World):Prop:=
 (∃ (i:Nat) (x:Int),i<=bs.length∧0<=x∧x<18446744073709551616∧w.heap[p]? =some (.cells #[a,qJ i,.int .u64 x] 91 (0,0)))∧
 (∀z∈bs,0<=z∧z<=255)∧bs.length<=1048576∧
 ((∃ao cap,a= .slice ao 0 cap∧bs= [])∨
  (∃b off cap,a= .slice (qK b off) bs.length cap∧b≠p∧(0<bs.length∧bs.length<=cap∧cap<=maxLen)∧∀i,i<bs.length->w.cell? ⟨b,off+i,none⟩=some (.int .u8 (bs.getD i 0))))
theorem Src.lt {bs:List Int} {c:Value} {p:Nat} {w:World} (a:Src bs c p w):p<w.heap.size:=by
 obtain⟨⟨i,x,_,_,_,b⟩,_⟩:=a;rcases xR p w.heap.size with a | a
 ·exact a
 rw [km a]at b;cases b
theorem Src.turned {bs:List Int} {a:Value} {p:Nat} {w w':World} (f:Src bs a p w) (g:w.grownBy w' (some p))
  (h:∃ (i:Nat) (x:Int),i<=bs.length∧0<=x∧x<18446744073709551616∧w'.heap[p]? =some (.cells #[a,qJ i,.int .u64 x] 91 (0,0))):Src bs a p w':=by
 obtain⟨_,j,k,c⟩:=f;refine⟨h,j,k,?_⟩;rcases c with c | ⟨b,off,cap,l,e,m,n⟩
 ·exact .inl c
 refine .inr ⟨b,off,cap,l,e,m,fun i hi=>?_⟩;have d:=n i hi;rw [qV (w:=w) (g.block b (xQ w _ d) (by simpa using e))];exact d
theorem Src.done2 {bs:List Int} {c:Value} {p:Nat} {w b:World} (h:Src bs c p w) {i:Nat} {a:Value} (j:w.heap[p]? =some (.cells #[c,qJ i,a] 91 (0,0))) (x:Int) (hi:i<=bs.length) (l:0<=x) (m:x<18446744073709551616)
  (n:b.os=w.os) (o:b.tape=w.tape) (q:b.output=w.output) (d:b.heap=(w.setCell ⟨p,2,none⟩ (.int .u64 x)).heap):Src bs c p b∧w.grownBy b (some p):=by
 have f:w.grownBy b (some p):=⟨n,o,q,by rw [d];simp,fun k r g=>by rw [d];exact xm _ _ _ _ (fun e=>g (by subst e;rfl))⟩
 exact⟨h.turned f ⟨i,x,hi,l,m,by rw [d,xD w p 2 _ _ _ j];rfl⟩,f⟩
theorem Src.done1 {bs:List Int} {d:Value} {p:Nat} {w c:World} (m:Src bs d p w) {a b:Value} (n:w.heap[p]? =some (.cells #[d,a,b] 91 (0,0))) (i:Nat) (x:Int) (hi:i<=bs.length) (o:0<=x) (q:x<18446744073709551616)
  (r:c.os=w.os) (s:c.tape=w.tape) (t:c.output=w.output) (f:c.heap=((w.setCell ⟨p,1,none⟩ (qJ i)).setCell ⟨p,2,none⟩ (.int .u64 x)).heap):Src bs d p c∧w.grownBy c (some p):=by
 have g:w.grownBy c (some p):=⟨r,s,t,by rw [f];simp,fun k u l=>by
  have h:k≠p:=fun e=>l (by subst e;rfl)
  rw [f,xm _ _ _ _ h,xm _ _ _ _ h]⟩
 have j:=xD w p 1 _ _ (qJ i) n;exact⟨m.turned g ⟨i,x,hi,o,q,by rw [f,xD _ p 2 _ _ _ j];rfl⟩,g⟩
theorem jD (n:Int):0<=IntKind.u64.wrap n∧IntKind.u64.wrap n<18446744073709551616:=by
 rw [IntKind.wrap_u64];omega
theorem zEh (n k:Int) (d:0<k) (f:k<=1048576):0<=wrap64 ((IntKind.u64.wrap n/8589934592).tmod k)∧wrap64 ((IntKind.u64.wrap n/8589934592).tmod k)<k:=by
 have e:=jD n;generalize IntKind.u64.wrap n=m at *
 have a:0<=m/8589934592:=by omega
 generalize m/8589934592=q at *
 rw [Int.tmod_eq_emod_of_nonneg a];have b:=Int.emod_nonneg q (show k≠0 by omega);have c:=Int.emod_lt_of_pos q d;rw [IntWalk.wrap64_in _ (by omega)];exact⟨b,c⟩
theorem drawN (bs:List Int) (f:Value) (p:Nat) (k:Int) (w:World) (l:Src bs f p w) (m:0<k) (n:k<=1048576):
  Calls prog 26 #[.pointer (qK p 0),qJ k] w fun e w'=>∃r:Int,e= .returned (qJ r)∧(0<=r∧r<k)∧Src bs f p w'∧w.grownBy w' (some p):=by
 have c:=qG l;obtain⟨⟨i,x,hi,B,C,a⟩,h,D,j⟩:=l;have d:=qG a;have q:w.cell? ⟨p,0,none⟩=some f:=by rw [qP w p 0 _ _ _ a];rfl
 have s:w.cell? ⟨p,1,none⟩=some (qJ i):=by rw [qP w p 1 _ _ _ a];rfl
 have t:w.cell? ⟨p,2,none⟩=some (.int .u64 x):=by rw [qP w p 2 _ _ _ a];rfl
 have u:w.frozen? ⟨p,1,none⟩=false:=xp w p 1 _ _ a;have v:w.frozen? ⟨p,2,none⟩=false:=xp w p 2 _ _ a;clear a;by_cases g:i<bs.length
 ·rcases j with ⟨ao,cap,rfl,rfl⟩ | ⟨b,off,cap,rfl,E,⟨F,G,H⟩,o⟩
  ·exact absurd g (Nat.not_lt_zero _)
  have y:=o i g;have A:=h (bs.getD i 0) (by simp [q9,g]);generalize bs.getD i 0=z at *
  clear o h;go_enter func26,ntmps26;go_wp2;go_region;go_wp2;go_region;go_wp2
  ·go_ret
   exact⟨_,rfl,⟨by omega,by omega⟩,c.done1 d (i+1) _ (by omega) (jD _).1 (jD _).2 rfl rfl rfl rfl⟩
  go_ret;exact⟨_,rfl,zEh _ _ m n,c.done1 d (i+1) _ (by omega) (jD _).1 (jD _).2 rfl rfl rfl rfl⟩
 have hi':i=bs.length:=by omega
 subst hi'
 obtain⟨ao,cap,rfl⟩:∃ao cap,f= .slice ao bs.length cap:=by
  rcases j with ⟨ao,cap,rfl,rfl⟩ | ⟨b,off,cap,rfl,_⟩
  ·exact⟨_,_,rfl⟩
  exact⟨_,_,rfl⟩
 clear j h;go_enter func26,ntmps26;go_wp2;go_region;go_wp2
 ·go_ret
  exact⟨_,rfl,⟨by omega,by omega⟩,c.done2 d _ (by omega) (jD _).1 (jD _).2 rfl rfl rfl rfl⟩
 go_ret;exact⟨_,rfl,zEh _ _ m n,c.done2 d _ (by omega) (jD _).1 (jD _).2 rfl rfl rfl rfl⟩
theorem zEi (bs:List Int) (a:Value) (p:Nat) (k:Int) (w:World) (c:Src bs a p w) (j:0<k) (l:k<=1048576):
  Calls prog 20 #[.pointer (qK p 0),qJ k] w fun e w'=>∃b:Bool,e= .returned (.bool b)∧Src bs a p w'∧w.grownBy w' (some p):=by
 have g:=qG c;clear c;go_enter func20,ntmps20;go_wp2_with fail;refine(drawN bs a p k w g j l).mono ?_;rintro e w1 ⟨r,rfl,m,d,f⟩;have h:=qG d;have i:=qG f;clear d f;go_wp2;go_ret;exact⟨_,rfl,h,i⟩
theorem drawWild (bs:List Int) (f:Value) (p:Nat) (w:World) (h:Src bs f p w):
  Calls prog 48 #[.pointer (qK p 0)] w fun e w'=>∃r:Int,e= .returned (qJ r)∧Src bs f p w'∧w.grownBy w' (some p):=by
 have g:=qG h;clear h;go_enter func48,ntmps48;go_wp2_with fail;refine(drawN bs f p 7 w g (by omega) (by omega)).mono ?_;rintro e w1 ⟨r,rfl,i,a,b⟩;have c:=qG a;have d:=qG b;clear a b g;have j:r=0∨r=1∨r=2∨r=3∨r=4∨r=5∨r=6:=by omega
 clear i;rcases j with rfl | rfl | rfl | rfl | rfl | rfl | rfl
 ·go_wp2;go_ret;exact⟨_,rfl,c,d⟩
 ·go_wp2;go_ret;exact⟨_,rfl,c,d⟩
 ·go_wp2;go_ret;exact⟨_,rfl,c,d⟩
 all_goals
  go_wp2_with fail;refine(drawN bs f p _ w1 c (by omega) (by omega)).mono ?_;rintro e m ⟨r,rfl,i,a,b⟩;have k:=qG a;have l:=qG (zH d b);clear a b;go_wp2;go_ret;exact⟨_,rfl,k,l⟩
theorem drawChar (bs:List Int) (c:Value) (p:Nat) (w:World) (k:Src bs c p w):
  Calls prog 49 #[.pointer (qK p 0)] w fun e w'=>∃r:Int,e= .returned (qJ r)∧(0<=r∧r<=1114111)∧Src bs c p w'∧w.grownBy w' (some p):=by
 have j:=qG k;clear k;go_enter func49,ntmps49;go_wp2_with fail;refine(drawN bs c p 12 w j (by omega) (by omega)).mono ?_;rintro e w1 ⟨r,rfl,g,a,b⟩;have d:=qG a;have f:=qG b;clear a b j;have l:r=0∨r=1∨r=2∨r=3∨r=4∨r=5∨r=6∨7<=r:=by omega
 rcases l with rfl | rfl | rfl | rfl | rfl | rfl | rfl | m
 ·go_wp2;go_ret;exact⟨_,rfl,⟨by omega,by omega⟩,d,f⟩
 ·go_wp2;go_ret;exact⟨_,rfl,⟨by omega,by omega⟩,d,f⟩
 rotate_right 1
 ·have o:(r==0)=false:=by simp;omega
  have q:(r==1)=false:=(by simp;omega);have s:(r==2)=false:=(by simp;omega);have t:(r==3)=false:=(by simp;omega);have u:(r==4)=false:=(by simp;omega);have v:(r==5)=false:=(by simp;omega);have x:(r==6)=false:=(by simp;omega);clear g m;go_wp2_with fail;refine(drawN bs c p _ w1 d (by omega) (by omega)).mono ?_;rintro e n ⟨r,rfl,g,a,b⟩;have h:=qG a;have i:=qG (zH f b);clear a b;go_wp2;go_ret;exact⟨_,rfl,⟨by omega,by omega⟩,h,i⟩
 all_goals
  clear g;go_wp2_with fail;refine(drawN bs c p _ w1 d (by omega) (by omega)).mono ?_;rintro e n ⟨r,rfl,g,a,b⟩;have h:=qG a;have i:=qG (zH f b);clear a b;go_wp2;go_ret;exact⟨_,rfl,⟨by omega,by omega⟩,h,i⟩
theorem new1 (bs:List Int) (a:Value) (w:World) (c:Rd .u8 w a bs) (g:∀z∈bs,0<=z∧z<=255) (n:bs.length<=1048576):
  Calls prog 19 #[a] w fun e w'=>e= .returned (.pointer (qK w.heap.size 0))∧Src bs a w.heap.size w'∧Below w.heap.size w w':=by
 have l:=qG g;have m:=qG c
 obtain⟨ao,cap,rfl⟩:∃ao cap,a= .slice ao bs.length cap:=by
  rcases c with ⟨ao,cap,rfl,rfl⟩ | ⟨b,off,cap,rfl,_⟩
  ·exact⟨_,_,rfl⟩
  exact⟨_,_,rfl⟩
 clear g c;go_enter func19,ntmps19;go_wp2;go_ret;have d:=(qO w.heap.size w).alloc lR (.cells #[.slice ao bs.length cap,qJ 0,.int .u64 (88172645463325252+bs.length)] 91);refine⟨rfl,⟨⟨0,88172645463325252+bs.length,xX _,by omega,by omega,xg _ _⟩,l,n,?_⟩,d⟩;rcases m with ⟨q,h,e,o⟩ | ⟨b,off,h,e,j,k⟩
 ·subst o;exact .inl ⟨_,_,rfl,rfl⟩
 refine .inr ⟨b,off,h,e,?_,j,fun i hi=>?_⟩
 ·have:=xQ w _ (k 0 j.1)
  simp at this;omega
 have f:=k i hi;rw [d.cell (p:=⟨b,off+i,none⟩) (xQ w _ f)];exact f
theorem new2 (bs:List Int) (a:Value) (w:World) (b:Rd .u8 w a bs) (c:∀z∈bs,0<=z∧z<=255) (k:bs.length<=1048576):
  Calls prog 4 #[a] w fun e w'=>e= .returned (.pointer (qK w.heap.size 0))∧Src bs a w.heap.size w'∧Below w.heap.size w w':=by
 have g:=qG c;have h:=qG b;clear c b;go_enter func4,ntmps4;go_wp2_with fail;refine(new1 bs a w h g k).mono ?_;rintro e w1 ⟨rfl,d,f⟩;have i:=qG d;have j:=qG f;clear d f;go_wp2;go_ret;exact⟨rfl,i,j⟩
theorem Chg.qB {w w':World} {p:Nat} (a:w.grownBy w' (some p)):Chg [p] w w':=
 ⟨a.os,a.tape,a.output,a.size,fun k b c=>a.block k b (fun e=>c (by cases e;simp))⟩
def SrcB (bs:List Int) (a:Value) (p:Nat) (w:World):Prop:=Src bs a p w∧∀b off cap,a= .slice (qK b off) bs.length cap->0<bs.length->b<p
theorem SrcB.chg {bs:List Int} {f:Value} {p:Nat} {w w':World} {cs:List Nat} (a:SrcB bs f p w) (g:Chg cs w w') (h:∀x∈cs,p<x):SrcB bs f p w':=by
 refine⟨?_,a.2⟩;have l:=a.1.lt;have m:=a.2;obtain⟨⟨i,x,o,q,r,s⟩,t,u,d⟩:=a.1;refine⟨⟨i,x,o,q,r,(g.block p l (fun c=>by have:=h p c;omega)).trans s⟩,t,u,?_⟩;rcases d with d | ⟨b,off,cap,j,v,k,y⟩
 ·exact .inl d
 refine .inr ⟨b,off,cap,j,v,k,fun i hi=>?_⟩;have e:=y i hi;have n:=xQ w _ e;have z:=m b off cap j k.1;rw [qV (w:=w) (g.block b n (fun c=>by have:=h b c;omega))];exact e
theorem SrcB.below {bs:List Int} {d:Value} {p B:Nat} {w w':World} (a:SrcB bs d p w) (e:Below B w w') (h:p<B) (t:B<=w.heap.size):SrcB bs d p w':=by
 refine⟨?_,a.2⟩;obtain⟨⟨i,x,j,k,l,m⟩,n,o,c⟩:=a.1;refine⟨⟨i,x,j,k,l,(e.block p h).trans m⟩,n,o,?_⟩;rcases c with c | ⟨b,off,cap,f,q,g,r⟩
 ·exact .inl c
 refine .inr ⟨b,off,cap,f,q,g,fun i hi=>?_⟩;have s:=a.2 b off cap f g.1;rw [e.cell (p:=⟨b,off+i,none⟩) (by show b<B;omega)];exact r i hi
theorem yY (bs:List Int) (a:Value) (p:Nat) (k:Int) (w:World) (b:SrcB bs a p w) (h:0<k) (i:k<=1048576):
  Calls prog 26 #[.pointer (qK p 0),qJ k] w fun e w'=>∃r:Int,e= .returned (qJ r)∧(0<=r∧r<k)∧SrcB bs a p w'∧Chg [p] w w':=
 (drawN bs a p k w b.1 h i).mono fun e w' ⟨r,c,d,f,g⟩=>⟨r,c,d,⟨f,b.2⟩,Chg.qB g⟩
theorem Zo (bs:List Int) (a:Value) (p:Nat) (k:Int) (w:World) (c:SrcB bs a p w) (h:0<k) (i:k<=1048576):
  Calls prog 20 #[.pointer (qK p 0),qJ k] w fun e w'=>∃b:Bool,e= .returned (.bool b)∧SrcB bs a p w'∧Chg [p] w w':=
 (zEi bs a p k w c.1 h i).mono fun e w' ⟨r,d,f,g⟩=>⟨r,d,⟨f,c.2⟩,Chg.qB g⟩
theorem tallN (n:Nat) (ao:Option Addr) (cap:Nat) (w:World) (f:n<=1048576):
  Calls prog 23 #[.slice ao n cap] w fun e w'=>∃r:Int,e= .returned (qJ r)∧(0<=r∧r<=7)∧w'=w:=by
 go_enter func23,ntmps23;go_wp2_with fail;go_loopw [3,4] (fun b m wr=>∃ (a:Int) (q:Nat),b=qJ a∧m=qJ q∧(2<=a∧a+q<=1048578)∧wr=w) (fun _ m _=>(intOf m).toNat)
 case atStart=>exact⟨2,n,rfl,rfl,by omega,rfl⟩
 obtain⟨a,q,rfl,rfl,g,rfl⟩:=hrel;by_cases c:(q:Int) > 2
 ·go_wp2
  go_roundw
  case rel=>exact⟨a+1,q/2,rfl,by first | rfl | go_num | (simp;omega),by omega,by first | rfl | trivial⟩
  simp [intOf];omega
 by_cases d:a > 7
 ·go_wp2
  go_ret;exact⟨_,rfl,by omega,rfl⟩
 go_wp2;go_ret;exact⟨_,rfl,by omega,rfl⟩
theorem size1 (n:Nat) (ao:Option Addr) (cap:Nat) (m:Int) (w:World) (a:n<=1048576) (b:2<=m∧m<=1048576):
  Calls prog 22 #[.slice ao n cap,qJ m] w fun e w'=>∃r:Int,e= .returned (qJ r)∧(0<r∧r<=m)∧w'=w:=by
 go_enter func22,ntmps22;go_wp2
 ·go_ret
  exact⟨_,rfl,⟨by omega,by omega⟩,rfl⟩
 go_ret;exact⟨_,rfl,⟨by omega,by omega⟩,rfl⟩
inductive Lv:Nat->Int->List Int->Prop
 | nil (l:Int):Lv 0 l []
 | node (c a b:Nat) (l:Int) (A B:List Int) (d:a<=c) (e:b<=c) (f:a=c∨b=c) (g:c<=a+1) (h:c<=b+1) (i:Lv a (l+1) A) (j:Lv b (l+1) B):Lv (c+1) l (A++l::B)
theorem Lv.length {c:Nat} {l:Int} {ls:List Int} (k:Lv c l ls):ls.length+1<=2 ^ c:=by
 induction k with
 | nil=>simp
 | node c a b l A B d e h i j _ _ m n=>
  have f:2 ^ a<=2 ^ c:=vW (by omega) d;have g:2 ^ b<=2 ^ c:=vW (by omega) e;rw [Nat.pow_succ];simp only [qM,xe];omega
theorem len7 {a:Nat} {l:Int} {ls:List Int} (k:Lv a l ls) (b:a<=7):ls.length<=127:=by
 have c:=k.length;have d:2 ^ a<=2 ^ 7:=vW (by omega) b;omega
theorem Lv.tree {e:Nat} {l:Int} {ls:List Int} (k:Lv e l ls):∀c:List Pc,c.length=ls.length->∃T:AT,T.bal∧T.ht=e∧T.flat=c∧T.told l=(c.zip ls).map (fun x=>⟨x.1,x.2⟩):=by
 induction k with
 | nil=>
  intro c d;obtain rfl:c= []:=qW d;exact⟨.nil,xn,rfl,rfl,rfl⟩
 | node e a b l A B v w y z C _ _ r s=>
  intro c d;simp only [qM,xe]at d
  obtain⟨q,f⟩:∃q,c=c.take A.length++q::c.drop (A.length+1):=by
   refine⟨c[A.length]'(by omega),?_⟩;rw [<- ki (by omega),xw]
  obtain⟨g,h,t,i,j⟩:=r (c.take A.length) (by simp;omega);obtain⟨m,n,u,o,p⟩:=s (c.drop (A.length+1)) (by simp;omega);refine⟨.node g q m,⟨h,n,by omega,by omega⟩,by simp only [AT.ht];omega,by simp only [AT.flat,i,o];exact f.symm,?_⟩;simp only [AT.told,j,p]
  conv=>rhs;rw [f]
  rw [List.zip_append (by simp;omega)];simp
theorem Tryz.infoI:(prog.info? 3).map (fun i=>(i.zero,i.size,i.bytes))=some (some (qJ 0),1,8):=by kernel_rfl
theorem Below.grown {B:Nat} {w w':World} {b:Option Nat} (a:w.grownBy w' b) (c:∀q,b=some q->B<=q) (f:B<=w.heap.size):Below B w w':=
 ⟨a.os,a.tape,a.output,a.size,fun k d=>a.block k (by omega) (fun e=>by have:=c k e.symm;omega)⟩
theorem ZY {w:World} {base:Nat} {e:TypeId} {size:Nat} {v:Value} {n:Nat} {xs:List Value} (b:w.ownsRow base e size v n xs):∀q,v.ownBlock=some q->base<=q:=fun q a=>(b.lt q a).1
theorem Chg.qD {bs:List Nat} {a b c:World} (d:Chg bs a b) (k:Below a.heap.size b c):Chg bs a c:=
 ⟨k.os.trans d.os,k.tape.trans d.tape,k.output.trans d.output,vK d.size k.size,fun i hi e=>(k.block i hi).trans (d.block i hi e)⟩
theorem jl {w w':World} {base p:Nat} {e:TypeId} {size:Nat} {v:Value} {n:Nat} {xs:List Value} (a:w.ownsRow base e size v n xs) (c:Chg [p] w w') (d:p<base):w'.ownsRow base e size v n xs:=
 zA a fun k b=>c.block k (a.lt k b).2 (by have:=(a.lt k b).1;simp;omega)
theorem Yc {w:World} {base:Nat} {e:TypeId} {g cap n:Nat} {xs:List Value} (c:w.ownsRow base e 1 (.slice (qK g 0) n cap) n xs):∀j a,xs[j]? =some a->w.cell? ((⟨g,0,none⟩:Addr).add j)=some a:=by
 intro j a b;have f:=c.1;have d:=c.cellAt j (by have:=(xA.1 b).1;omega);rw [Addr.add_lit,xP,d,b]
theorem levelsN (bs:List Int) (aa:Value) (p:Nat):∀ (m:Nat) (a b lean:Int) (w:World),a.toNat=m->(a<=7∧ -1<=a)->(0<=b∧b+a<=1000)->(0<=lean∧lean<=100)->SrcB bs aa p w->
  Calls prog 45 #[.pointer (qK p 0),qJ a,qJ b,qJ lean] w fun e w'=>∃v ls,e= .returned v∧Lv m b ls∧w'.ownsRow w.heap.size 3 1 v ls.length (ints .i64 ls)∧SrcB bs aa p w'∧Chg [p] w w':=by
 intro m
 induction m using Nat.strongRecOn with
 | ind m au=>
 intro a b lean w aw ax ay az ac;have q:=ac.1.lt;obtain⟨ad,hi,a2,a3,a4⟩:=vc Tryz.infoI;have ab:=qG ac;have L:=qG au;clear ac au;by_cases a0:a<=0
 ·go_enter func45,ntmps45
  go_wp2;go_ret;obtain rfl:m=0:=(by omega);exact⟨_,[],rfl,.nil _,kh w _ _ _,ab.out,Chg.refl _ _⟩
 go_enter func45,ntmps45;go_wp2_with fail;refine(yY bs aa p 4 w ab.out (by omega) (by omega)).mono ?_;rintro e w1 ⟨r,rfl,a5,ak,al⟩;have Y:=qG ak;have N:=qG al;clear ak al ab;by_cases a1:r<lean
 ·go_wp2_with fail
  refine(Zo bs aa p 2 w1 Y.out (by omega) (by omega)).mono ?_;rintro e am ⟨av,rfl,an,ao⟩;have Z:=qG an;have M:=qG (N.out.trans ao (fun _ a _=>a) (fun _ a _=>a));clear an ao Y N;cases av
  ·go_wp2_with fail
   refine(L.out (a - 1).toNat (by omega) (a - 1) _ _ am rfl (by omega) (by omega) (by omega) Z.out).mono ?_;rintro e f ⟨ap,A,rfl,l,I,J,n⟩;have ae:=len7 l (by omega);have O:=M.out.size;have z3:=n.size;have j:=qG (zD I O);have s:=qG J;have t:=qG (M.out.trans n (fun _ a _=>a) (fun _ a _=>a));have P:=qG l;clear l I J n Z M;go_wp2_with (at_builtin;refine a34 _ rfl _ _ rfl w.heap.size _ _ _ rfl (j.out.alloc _) ⟨f.heap.size,0,none⟩ 1 1 [qJ b] rfl rfl (zV f 3 [qJ b]) (zG .i64 [b]) (by unfold maxLen;omega) (by omega) (by simp;omega) ?_;intro ai F G H _);have c:Below w.heap.size f F:=((qO w.heap.size f).alloc (by omega) _).trans (Below.grown H (ZY j.out) (by simp;omega));have af:=c.size;have u:=qG (s.out.below c q (by omega));have x:=qG (t.out.qD c);have y:=qG G;clear G H c s t j;refine(L.out (a - 1 - 1).toNat (by omega) (a - 1 - 1) _ _ F rfl (by omega) (by omega) (by omega) u.out).mono ?_;rintro e W ⟨aq,B,rfl,o,h,K,i⟩;have ag:=len7 o (by omega);have ah:=i.size;have d:=qG (jl y.out i q);have z:=qG K;have C:=qG (x.out.trans i (fun _ a _=>a) (fun _ a _=>a));have Q:=qG o;have P5:=qG h;clear o K i y x u
   have D:Hid (Lv m b (A++b::B)):=qG (by
    obtain⟨k,rfl⟩:∃k,m=k+1:=⟨m - 1,by omega⟩
    exact .node k _ _ b A B (by omega) (by omega) (by omega) (by omega) (by omega) P.out Q.out)
   rcases h.2 with ⟨rfl,X⟩ | ⟨g,cap,ar,rfl,_⟩
   ·clear h
    go_wp2_with (at_builtin;refine wpList_append_own_none rfl _ _ 34 rfl w.heap.size 3 ad 1 underlying34 hi _ _ _ rfl (by exact d.out) rfl ?_);go_ret;obtain rfl:B= []:=qW X;refine⟨_,_,rfl,D.out,?_,z.out,C.out⟩;have R:=d.out;simpa [ints]using R
   clear h;go_wp2_with (at_builtin;refine a34 _ rfl _ _ rfl w.heap.size _ _ _ rfl (by exact d.out) ⟨g,0,none⟩ B.length cap (ints .i64 B) rfl (by rw [zC];omega) (by exact Yc P5.out) (zG .i64 B) (by unfold maxLen;omega) (by omega) (by omega) ?_;intro aj T U V _);go_ret;have E:Below w.heap.size W T:=Below.grown V (ZY d.out) (by omega);refine⟨_,_,rfl,D.out,?_,z.out.below E q (by omega),C.out.qD E⟩;have S:(A++b::B).length=A.length+1+B.length:=(by simp;omega);rw [S];simpa [ints]using U
  go_wp2_with fail;refine(L.out (a - 1 - 1).toNat (by omega) (a - 1 - 1) _ _ am rfl (by omega) (by omega) (by omega) Z.out).mono ?_;rintro e f ⟨ap,A,rfl,l,I,J,n⟩;have ae:=len7 l (by omega);have O:=M.out.size;have z3:=n.size;have j:=qG (zD I O);have s:=qG J;have t:=qG (M.out.trans n (fun _ a _=>a) (fun _ a _=>a));have P:=qG l;clear l I J n Z M;go_wp2_with (at_builtin;refine a34 _ rfl _ _ rfl w.heap.size _ _ _ rfl (j.out.alloc _) ⟨f.heap.size,0,none⟩ 1 1 [qJ b] rfl rfl (zV f 3 [qJ b]) (zG .i64 [b]) (by unfold maxLen;omega) (by omega) (by simp;omega) ?_;intro ai F G H _);have c:Below w.heap.size f F:=((qO w.heap.size f).alloc (by omega) _).trans (Below.grown H (ZY j.out) (by simp;omega));have af:=c.size;have u:=qG (s.out.below c q (by omega));have x:=qG (t.out.qD c);have y:=qG G;clear G H c s t j;refine(L.out (a - 1).toNat (by omega) (a - 1) _ _ F rfl (by omega) (by omega) (by omega) u.out).mono ?_;rintro e W ⟨aq,B,rfl,o,h,K,i⟩;have ag:=len7 o (by omega);have ah:=i.size;have d:=qG (jl y.out i q);have z:=qG K;have C:=qG (x.out.trans i (fun _ a _=>a) (fun _ a _=>a));have Q:=qG o;have P5:=qG h;clear o K i y x u
  have D:Hid (Lv m b (A++b::B)):=qG (by
   obtain⟨k,rfl⟩:∃k,m=k+1:=⟨m - 1,by omega⟩
   exact .node k _ _ b A B (by omega) (by omega) (by omega) (by omega) (by omega) P.out Q.out)
  rcases h.2 with ⟨rfl,X⟩ | ⟨g,cap,ar,rfl,_⟩
  ·clear h
   go_wp2_with (at_builtin;refine wpList_append_own_none rfl _ _ 34 rfl w.heap.size 3 ad 1 underlying34 hi _ _ _ rfl (by exact d.out) rfl ?_);go_ret;obtain rfl:B= []:=qW X;refine⟨_,_,rfl,D.out,?_,z.out,C.out⟩;have R:=d.out;simpa [ints]using R
  clear h;go_wp2_with (at_builtin;refine a34 _ rfl _ _ rfl w.heap.size _ _ _ rfl (by exact d.out) ⟨g,0,none⟩ B.length cap (ints .i64 B) rfl (by rw [zC];omega) (by exact Yc P5.out) (zG .i64 B) (by unfold maxLen;omega) (by omega) (by omega) ?_;intro aj T U V _);go_ret;have E:Below w.heap.size W T:=Below.grown V (ZY d.out) (by omega);refine⟨_,_,rfl,D.out,?_,z.out.below E q (by omega),C.out.qD E⟩;have S:(A++b::B).length=A.length+1+B.length:=(by simp;omega);rw [S];simpa [ints]using U
 go_wp2_with fail;refine(L.out (a - 1).toNat (by omega) (a - 1) _ _ w1 rfl (by omega) (by omega) (by omega) Y.out).mono ?_;rintro e f ⟨ap,A,rfl,l,I,J,n⟩;have ae:=len7 l (by omega);have O:=N.out.size;have z3:=n.size;have j:=qG (zD I O);have s:=qG J;have t:=qG (N.out.trans n (fun _ a _=>a) (fun _ a _=>a));have P:=qG l;clear l I J n Y N;go_wp2_with (at_builtin;refine a34 _ rfl _ _ rfl w.heap.size _ _ _ rfl (j.out.alloc _) ⟨f.heap.size,0,none⟩ 1 1 [qJ b] rfl rfl (zV f 3 [qJ b]) (zG .i64 [b]) (by unfold maxLen;omega) (by omega) (by simp;omega) ?_;intro ai F G H _);have c:Below w.heap.size f F:=((qO w.heap.size f).alloc (by omega) _).trans (Below.grown H (ZY j.out) (by simp;omega));have af:=c.size;have u:=qG (s.out.below c q (by omega));have x:=qG (t.out.qD c);have y:=qG G;clear G H c s t j;refine(L.out (a - 1).toNat (by omega) (a - 1) _ _ F rfl (by omega) (by omega) (by omega) u.out).mono ?_;rintro e W ⟨aq,B,rfl,o,h,K,i⟩;have ag:=len7 o (by omega);have ah:=i.size;have d:=qG (jl y.out i q);have z:=qG K;have C:=qG (x.out.trans i (fun _ a _=>a) (fun _ a _=>a));have Q:=qG o;have P5:=qG h;clear o K i y x u
 have D:Hid (Lv m b (A++b::B)):=qG (by
  obtain⟨k,rfl⟩:∃k,m=k+1:=⟨m - 1,by omega⟩
  exact .node k _ _ b A B (by omega) (by omega) (by omega) (by omega) (by omega) P.out Q.out)
 rcases h.2 with ⟨rfl,X⟩ | ⟨g,cap,ar,rfl,_⟩
 ·clear h
  go_wp2_with (at_builtin;refine wpList_append_own_none rfl _ _ 34 rfl w.heap.size 3 ad 1 underlying34 hi _ _ _ rfl (by exact d.out) rfl ?_);go_ret;obtain rfl:B= []:=qW X;refine⟨_,_,rfl,D.out,?_,z.out,C.out⟩;have R:=d.out;simpa [ints]using R
 clear h;go_wp2_with (at_builtin;refine a34 _ rfl _ _ rfl w.heap.size _ _ _ rfl (by exact d.out) ⟨g,0,none⟩ B.length cap (ints .i64 B) rfl (by rw [zC];omega) (by exact Yc P5.out) (zG .i64 B) (by unfold maxLen;omega) (by omega) (by omega) ?_;intro aj T U V _);go_ret;have E:Below w.heap.size W T:=Below.grown V (ZY d.out) (by omega);refine⟨_,_,rfl,D.out,?_,z.out.below E q (by omega),C.out.qD E⟩;have S:(A++b::B).length=A.length+1+B.length:=by simp;omega
 rw [S];simpa [ints]using U
def Low (bs:List Int) (a:Value) (p base:Nat):Prop:=
 p<base∧∀b off cap,a= .slice (qK b off) bs.length cap->0<bs.length->b<base
theorem Src.low {bs:List Int} {d:Value} {p:Nat} {w:World} (e:Src bs d p w):Low bs d p w.heap.size:=by
 refine⟨e.lt,fun b off cap f c=>?_⟩;obtain⟨_,_,_,g⟩:=e;rcases g with ⟨ao,h,rfl,rfl⟩ | ⟨j,k,h,a,_,l,i⟩
 ·simp at c
 rw [f]at a;simp only [xB,xz,vY,kS,kt]at a;obtain⟨⟨rfl,rfl⟩,_⟩:=a;exact xQ w _ (i 0 c)
theorem Src.up {bs:List Int} {a:Value} {p base:Nat} {w w':World} {f:Option Nat} (g:Src bs a p w) (h:Low bs a p base) (j:w.grownBy w' f) (k:∀q,f=some q->base<=q):Src bs a p w':=by
 have n:=g.lt;obtain⟨⟨i,x,o,r,s,t⟩,u,v,c⟩:=g;have A:=h.1;refine⟨⟨i,x,o,r,s,(j.block p n (fun e=>by have:=k p e.symm;omega)).trans t⟩,u,v,?_⟩;rcases c with c | ⟨b,off,cap,l,y,m,z⟩
 ·exact .inl c
 refine .inr ⟨b,off,cap,l,y,m,fun i hi=>?_⟩;have d:=z i hi;have B:=h.2 b off cap l m.1;rw [qV (w:=w) (j.block b (xQ w _ d) (fun e=>by have:=k b e.symm;omega))];exact d
theorem Zp (w:World) (o:Obj):w.grownBy (w.alloc o) none:=
 ⟨rfl,rfl,rfl,by simp,fun k a _=>heap_alloc_old w o a⟩
theorem Xl {b w1 c:World} {p:Option Nat} {d:Option Nat} (a:b.grownBy w1 p) (k:w1.grownBy c d) (g:∀q,d=some q->b.heap.size<=q):b.grownBy c p:=
 ⟨k.os.trans a.os,k.tape.trans a.tape,k.output.trans a.output,vK a.size k.size,fun i hi f=>
  (k.block i (xq hi a.size) (fun e=>by have:=g i e.symm;omega)).trans (a.block i hi f)⟩
structure DS (k:IntKind) (e:TypeId) (bs:List Int) (b:Value) (p:Nat) (a:World) (c:Value) (xs:List Int) (w:World):Prop where
 src:Src bs b p w
 own:w.ownsRow a.heap.size e 1 c xs.length (ints k xs)
 grown:a.grownBy w (some p)
 low:Low bs b p a.heap.size
section
variable {k:IntKind} {e:TypeId} {bs:List Int} {vb:Value} {p:Nat} {w0 w w':World} {out out':Value} {xs ys:List Int}
theorem DS.draw (a:DS k e bs vb p w0 out xs w) (c:Src bs vb p w') (b:w.grownBy w' (some p)):DS k e bs vb p w0 out xs w':=
 ⟨c,a.own.kept b (by
  cases d:out.ownBlock with
  | none=>exact .inl rfl
  | some q=>right;have f:=(a.own.lt q d).1;have g:=a.low.1;intro e;cases e;omega),zH a.grown b,a.low⟩
theorem DS.other {b:Option Nat} (a:DS k e bs vb p w0 out xs w) (c:w.grownBy w' b) (d:∀q,b=some q->w0.heap.size<=q) (f:∀q,out.ownBlock=some q->b≠some q):DS k e bs vb p w0 out xs w':=
 ⟨a.src.up a.low c d,a.own.kept c (by
  cases g:out.ownBlock with
  | none=>exact .inl rfl
  | some q=>right;exact fun e=>f q g e.symm),Xl a.grown c d,a.low⟩
theorem DS.alloc (b:DS k e bs vb p w0 out xs w) (o:Obj):DS k e bs vb p w0 out xs (w.alloc o):=
 b.other (Zp w o) (fun q a=>by cases a) (fun q a=>by simp)
theorem DS.app (a:DS k e bs vb p w0 out xs w) (c:w.grownBy w' out.ownBlock) (d:w'.ownsRow w0.heap.size e 1 out' (xs++ys).length (ints k (xs++ys))):DS k e bs vb p w0 out' (xs++ys) w':=
 ⟨a.src.up a.low c (fun q b=>(a.own.lt q b).1),d,Xl a.grown c (fun q b=>(a.own.lt q b).1),a.low⟩
theorem DS.size (a:DS k e bs vb p w0 out xs w):w0.heap.size<=w.heap.size:=a.grown.size
end
theorem DS.start (k:IntKind) (e:TypeId) {bs:List Int} {b:Value} {p:Nat} {w:World} (a:Src bs b p w):DS k e bs b p w (.slice (qK w.heap.size 0) 0 0) [] (w.alloc (.cells #[] e)):=
 ⟨a.up a.low (Zp w _) (fun q c=>by cases c),by simpa [ints]using kJ w #[] 0 lR (xX _) rfl,by
  have:=Zp w (.cells #[] e)
  exact⟨this.os,this.tape,this.output,this.size,fun i hi _=>this.block i hi (by simp)⟩,a.low⟩
theorem Tryz.infoT:(prog.info? 21).map (fun i=>(i.zero,i.size,i.bytes))=some (some (.int .i32 0),1,4):=by kernel_rfl
theorem Kh (bs:List Int) (c:Value) (p:Nat) (n:Nat) (w:World) (t:Src bs c p w) (E:n<=1048576):
  Calls prog 25 #[.pointer (qK p 0),qJ n] w fun e w'=>∃s xs,e= .returned s∧xs.length=n∧DS .i32 21 bs c p w s xs w':=by
 have y:=qG (DS.start .i32 21 t);clear t;go_enter func25,ntmps25;go_wp2;go_loopw [5,6] (fun C i wr=>∃ (k:Nat) (xs:List Int),k<=n∧i=qJ k∧xs.length=k∧DS .i32 21 bs c p w C xs wr) (fun _ i _=>n - (intOf i).toNat)
 case atStart=>exact⟨0,[],xX _,rfl,rfl,y⟩
 obtain⟨k,xs,F,rfl,q,u⟩:=hrel;have m:=qG u;clear u;by_cases D:k<n
 ·go_wp2_with fail
  refine(zEi bs c p 25 wr m.src (by omega) (by omega)).mono ?_;rintro e w1 ⟨b,rfl,v,x⟩;have l:=qG (m.draw v x);clear v x;cases b with
  | true=>
   go_wp2_with fail;refine(drawWild bs c p w1 l.src).mono ?_;rintro e g ⟨r,rfl,h,j⟩;have a:=qG (l.draw h j);have z:=a.size;clear h j;go_wp2_with (at_builtin;refine Ql _ rfl _ _ rfl w.heap.size _ _ _ rfl (a.own.alloc _) ⟨g.heap.size,0,none⟩ 1 1 [.int .i32 (wrap32 r)] rfl rfl (zV g 21 [.int .i32 (wrap32 r)]) (zG .i32 [wrap32 r]) (by unfold maxLen;omega) (by omega) (by simp;omega) ?_;intro A B d f _);have o:=qG ((a.alloc _).app (ys:=[wrap32 r]) f (by rw [qM,zf];exact d));clear d f;go_wp2;go_roundw
   case rel=>exact⟨k+1,xs++ [wrap32 r],by omega,by go_num,by simp [q],o⟩
   simp [intOf];omega
  | false=>
   go_wp2_with fail;refine(drawChar bs c p w1 l.src).mono ?_;rintro e g ⟨r,rfl,G,h,j⟩;have a:=qG (l.draw h j);have z:=a.size;clear h j;go_wp2_with (at_builtin;refine Ql _ rfl _ _ rfl w.heap.size _ _ _ rfl (a.own.alloc _) ⟨g.heap.size,0,none⟩ 1 1 [.int .i32 r] rfl rfl (zV g 21 [.int .i32 r]) (zG .i32 [r]) (by unfold maxLen;omega) (by omega) (by simp;omega) ?_;intro A B d f _);have o:=qG ((a.alloc _).app (ys:=[r]) f (by rw [qM,zf];exact d));clear d f;go_wp2;go_roundw
   case rel=>exact⟨k+1,xs++ [r],by omega,by go_num,by simp [q],o⟩
   simp [intOf];omega
 obtain rfl:k=n:=by omega
 go_wp2;go_ret;exact⟨_,xs,rfl,q,m⟩
theorem row_read {w:World} {base:Nat} {e:TypeId} {v:Value} {ls:List Int} (a:w.ownsRow base e 1 v ls.length (ints .i64 ls)):
  ∃ao cap,v= .slice ao ls.length cap∧ls.length<=cap∧cap<=maxLen∧∀i,i<ls.length->∃g,ao=some ⟨g,0,none⟩∧base<=g∧g<w.heap.size∧∀w':World,w'.heap[g]? =w.heap[g]?->w'.cell? ⟨g,i,none⟩=some (qJ (ls.getD i 0)):=by
 rcases a.2 with ⟨rfl,d⟩ | ⟨g,cap,k,rfl,f,_,h,j,_⟩
 ·exact⟨none,0,by rw [d],by omega,by unfold maxLen;omega,fun i hi=>by omega⟩
 refine⟨_,cap,rfl,h,j,fun i hi=>⟨g,rfl,f,(a.lt g rfl).2,fun w' c=>?_⟩⟩;have b:=a.cellAt i (by omega);rw [qV (w:=w) c,b];simp [ints,List.getD,hi]
theorem Chg.qA {bs:List Nat} {a b c:World} {B:Nat} (d:Chg bs a b) (k:Below B b c) (f:a.heap.size<=B):Chg bs a c:=
 ⟨k.os.trans d.os,k.tape.trans d.tape,k.output.trans d.output,vK d.size k.size,fun i hi e=>(k.block i (by omega)).trans (d.block i hi e)⟩
def zipI (a:List Pc) (ls:List Int):List It:=(a.zip ls).map (fun x=>⟨x.1,x.2⟩)
theorem zFr (b:List Pc) (ls:List Int) (q:Pc) (c:b.length<ls.length):zipI (b++ [q]) ls=zipI b ls++ [⟨q,ls.getD b.length 0⟩]:=by
 induction b generalizing ls with
 | nil=>cases ls with
  | nil=>simp at c
  | cons a d=>simp [zipI]
 | cons x d e=>cases ls with
  | nil=>simp at c
  | cons a f=>
   have:=e f (by simpa using c);simp only [zipI,xv,List.zip_cons_cons,vL]at this |-;rw [this];simp
theorem Ju (a:List Pc) (ls:List Int) (b:a.length<=ls.length):(zipI a ls).length=a.length:=by simp [zipI];omega
theorem tallH (n:Nat) (ao:Option Addr) (cap:Nat) (w:World) (f:n<=1048576):
  Calls prog 23 #[.slice ao n cap] w fun e w'=>∃r:Int,e= .returned (qJ r)∧(2<=r∧r<=7)∧w'=w:=by
 go_enter func23,ntmps23;go_wp2_with fail;go_loopw [3,4] (fun b m wr=>∃ (a:Int) (q:Nat),b=qJ a∧m=qJ q∧(2<=a∧a+q<=1048578)∧wr=w) (fun _ m _=>(intOf m).toNat)
 case atStart=>exact⟨2,n,rfl,rfl,by omega,rfl⟩
 obtain⟨a,q,rfl,rfl,g,rfl⟩:=hrel;by_cases c:(q:Int) > 2
 ·go_wp2
  go_roundw
  case rel=>exact⟨a+1,q/2,rfl,by first | rfl | go_num | (simp;omega),by omega,by first | rfl | trivial⟩
  simp [intOf];omega
 by_cases d:a > 7
 ·go_wp2
  go_ret;exact⟨_,rfl,by omega,rfl⟩
 go_wp2;go_ret;exact⟨_,rfl,by omega,rfl⟩
def SmQ (zs:List Int) (q:Pc):Prop:=WP zs q∧1<=q.len∧q.len<=40
theorem smq_sum {zs:List Int} {F:List Pc} (a:∀q∈F,SmQ zs q):lsum F<=40*F.length:=by
 induction F with
 | nil=>simp [lsum]
 | cons p F d=>
  rw [zJ,xe];have b:=a p (by simp);have e:=d fun q c=>a q (by simp [c])
  have:=b.2.2;omega
theorem smq_tree {zs:List Int} {T:AT} (b:∀q∈T.flat,SmQ zs q) (j:zs.length<=220000) (k:T.its<=127):T.ok∧T.wp zs∧T.rns<=5080:=by
 have c:=smq_sum b;rw [AT.qh]at c;refine⟨⟨fun p a=>?_,by rw [AT.qe];omega⟩,(zR zs T).2 fun p a=>(b p a).1,by rw [AT.qe];omega⟩;obtain⟨⟨d,e,f,g⟩,l,m⟩:=b p a;have h:=XK (ptx zs p);have i:((ptx zs p).length:Int)=p.len:=YF ⟨d,e,f,g⟩;simp only [pcOk,qU];omega
def PBPost (bs:List Int) (d:Value) (p:Nat) (R:Int) (Z:Nat) (w:World) (e:Ending) (w':World):Prop:=
 ∃ (a b:Value) (zs:List Int) (T:AT),e= .returned (.agg #[a,b])∧own32 w' w.heap.size a zs∧OwI w' w.heap.size b (T.told 0)∧T.ok∧T.bal∧T.wp zs∧T.rns<=R∧zs.length<=Z∧SrcB bs d p w'∧Chg [p] w w'∧∃g n c,a= .slice (qK g 0) n c
theorem drawRaw (bs:List Int) (l:Value) (p:Nat) (size am:Int) (w:World) (a5:SrcB bs l p w) (fn:0<size∧size<=200) (fo:0<=am∧am<=6):
  Calls prog 21 #[.pointer (qK p 0),qJ size,qJ am] w (PBPost bs l p 5080 220 w):=by
 obtain⟨ec,hi,ed,ee,ef⟩:=vc Tryz.qn;have aq:=a5.1.lt;have ar:=qG ((qO w.heap.size w).alloc lR (.cells #[.slice none 0 0,.slice none 0 0] 30));have bl:=qG (show(w.alloc (.cells #[.slice none 0 0,.slice none 0 0] 30)).heap[w.heap.size]? =some (.cells #[.slice none 0 0,.slice none 0 0] 30 (0,0))from xg _ _);have er:w.heap.size<(w.alloc (.cells #[.slice none 0 0,.slice none 0 0] 30)).heap.size:=by simp
 have bm:=qG (a5.below ar.out aq lR);have bn:=qG (Chg.qa (bs:=[p]) ar.out);clear a5;go_enter func21,ntmps21;go_wp2_with fail;generalize w.alloc (.cells #[.slice none 0 0,.slice none 0 0] 30)=d8 at *
 refine(yY bs l p size d8 bm.out (by omega) (by omega)).mono ?_;rintro e w1 ⟨r,rfl,eg,Q,F⟩;obtain⟨k,rfl⟩:=xZ eg.1;have es:=F.size;have bo:=qG ((F.block w.heap.size (by omega) (by simp;omega)).trans bl.out);have bp:=qG Q;have bq:=qG (bn.out.trans F (fun _ d _=>d) (fun _ d _=>d));have au:=qG (Kh bs l p (20+k) w1 Q.1 (by omega));rw [show((20+k:Nat):Int)=20+(k:Int)by omega]at au;clear Q F bn bm ar bl;go_wp2_with fail;refine au.out.mono ?_;rintro e y ⟨cx,zs,rfl,eh,ac⟩;have et:=ac.grown.size;have n:Chg [p] w1 y:=Chg.qB ac.grown;have br:=qG ((n.block w.heap.size (by omega) (by simp;omega)).trans bo.out);have av:=qG (show SrcB bs l p y from⟨ac.src,bp.out.2⟩);have bt:=qG (bq.out.trans n (fun _ d _=>d) (fun _ d _=>d));obtain⟨L,a6⟩:∃L,zs.length=L:=⟨_,rfl⟩
 have G:=qG a6;have eu:20<=L∧L<=220:=by omega
 have ag:own32 y w1.heap.size cx zs:=ac.own
 obtain⟨gs,cs,ei,ej,cy⟩:∃g c,cx= .slice (qK g 0) L c∧L<=c∧c<=maxLen:=by
  rcases ag.2 with ⟨_,ak⟩ | ⟨g,c,fp,aj,_,_,ak,a2,_⟩
  ·omega
  rw [a6]at aj ak;exact⟨g,c,aj,ak,a2⟩
 subst ei;have ev:=ag.lt gs rfl;have bu:=qG ag;have c9:cs<=maxLen:=cy;unfold maxLen at cy;have X:=qG ((qO y.heap.size y).alloc lR (.cells #[.slice (qK gs 0) L cs,.slice none 0 0] 30));have bv:=qG ((X.out.block w.heap.size (by omega)).trans br.out);have bw:=qG (av.out.below X.out (by have:=av.out.1.lt;omega) lR);have bx:=qG (bt.out.qA X.out (by omega));have bz:=qG (show own32 _ w1.heap.size _ zs from zB bu.out X.out lR);have b0:=qG (show(y.alloc (.cells #[.slice (qK gs 0) L cs,.slice none 0 0] 30)).heap[y.heap.size]? =some (.cells #[.slice (qK gs 0) L cs,.slice none 0 0] 30 (0,0))from xg _ _);have da:y.heap.size<(y.alloc (.cells #[.slice (qK gs 0) L cs,.slice none 0 0] 30)).heap.size:=by simp
 clear ac n ag a6 eh au bp bq av bt bu bo br X;go_wp2_with fail;generalize y.alloc (.cells #[.slice (qK gs 0) L cs,.slice none 0 0] 30)=d9 at *
 generalize y.heap.size=bb at *
 refine(yY bs l p (am+1) d9 bw.out (by omega) (by omega)).mono ?_;rintro e cz ⟨o,rfl,fq,ad,A⟩;have ew:=A.size;have H:bb≠p:=by omega
 have b1:=qG ((A.block w.heap.size (by omega) (by simp;omega)).trans bv.out);have b2:=qG ((A.block bb da (by simpa using H)).trans b0.out);have b3:=qG ad;have b4:=qG (bx.out.trans A (fun _ d _=>d) (fun _ d _=>d));have b5:=qG (show own32 cz w1.heap.size _ zs from jl bz.out A (by omega));clear ad A bw bx bz bv b0;go_wp2_with fail;refine(yY bs l p 5 cz b3.out (by omega) (by omega)).mono ?_;rintro e c0 ⟨ek,rfl,fr,c1,R⟩;have ex:=R.size;have b6:=qG ((R.block w.heap.size (by omega) (by simp;omega)).trans b1.out);have b7:=qG ((R.block bb (by omega) (by simpa using H)).trans b2.out);have b8:=qG c1;have b9:=qG (b4.out.trans R (fun _ d _=>d) (fun _ d _=>d));have ca:=qG (show own32 c0 w1.heap.size _ zs from jl b5.out R (by omega));clear c1 R b3 b4 b5 b1 b2;go_wp2_with fail;refine(levelsN bs l p _ o 0 ek c0 rfl (by omega) (by omega) (by omega) b8.out).mono ?_;rintro e j ⟨fs,ls,rfl,a7,c2,a8,S⟩;have ey:=S.size;have ez:=len7 a7 (by omega);have db:=qG ((S.block w.heap.size (by omega) (by simp;omega)).trans b6.out);have dc:=qG ((S.block bb (by omega) (by simpa using H)).trans b7.out);have dd:=qG a8;have de:=qG (b9.out.trans S (fun _ d _=>d) (fun _ d _=>d));have cb:=qG (show own32 j w1.heap.size _ zs from jl ca.out S (by omega));have LV:=qG a7;obtain⟨ao,cap,rfl,ft,el,c3⟩:=row_read c2;have df:=qG c3;unfold maxLen at el;have e0:p<j.heap.size:=a8.1.lt;have e1:bb<j.heap.size:=by omega
 clear a8 S b8 b9 ca b6 b7 a7 c2 c3
 have dg:=qG (fun(s:World) (d:s.heap[gs]? =j.heap[gs]?)=>show ∀i,i<zs.length->s.cell? ⟨gs,0+i,none⟩=some (.int .i32 (zs.getD i 0))from(by
  intro i hi';have h:=cb.out;rw [<- G.out]at h;have aw:=yX h i hi'
  rw [qV (w:=j) d];exact aw))
 have cc:=qG (fun(s:World) (a b:Int) (d:s.heap[gs]? =j.heap[gs]?) (a1:gs<s.heap.size) (aj:0<=a) (ak:1<=b) (a2:a+b<=L)=>(show Calls prog 46 #[.slice (qK gs 0) L cs,qJ a,qJ b] s fun e w'=>e= .returned (.agg #[qJ a,qJ b,qJ (pcAt zs a b).brk])∧Below s.heap.size s w' from(by
  have h:=yo zs gs 0 cs a b s (dg.out s d) a1 aj (by rw [G.out];exact a2) (by omega) (by rw [G.out];exact ej) c9 (by rw [G.out];omega);rw [G.out]at h
  exact h)))
 go_wp2_with fail
 go_loopw [8,29] (fun cq i wr=>∃ (k:Nat) (P:Int) (v:Value) (t:List Pc),k<=ls.length∧i=qJ k∧cq=qJ P∧(0<=P∧P<=L)∧t.length=k∧(∀q∈t,SmQ zs q)∧wr.heap[bb]? =some (.cells #[.slice (qK gs 0) L cs,v] 30 (0,0))∧OwI wr j.heap.size v (zipI t ls)∧SrcB bs l p wr∧Chg [p,bb] j wr)
   (fun _ i _=>ls.length - (intOf i).toNat)
 case atStart=>exact⟨0,0,_,[],xX _,rfl,rfl,⟨by omega,by omega⟩,rfl,by simp,dc.out,kh _ _ _ _,dd.out,Chg.refl _ _⟩
 obtain⟨k,P,v,t,a4,rfl,rfl,fu,m,a9,ht,U,ba,K⟩:=hrel;have cd:=qG a9;have dh:=qG U;have ce:=qG ba;have di:=qG K;have e2:=K.size;obtain⟨bc,bd,be⟩:=zb U;have cf:=qG (Ju t ls (by omega));have cg:=qG ht;have D:=qG m;by_cases d7:k<ls.length
 ·obtain⟨g,rfl,fv,fw,c4⟩:=df.out k d7
  have ch:=c4 wr (K.block g (by omega) (by simp;omega));have e3:(k:Int)<ls.length:=(by omega);obtain⟨al,bf⟩:∃al,al=ls.getD k 0:=⟨_,rfl⟩
  rw [<- bf]at ch;have dj:=qG bf;have E:wr.cell? ⟨bb,0,none⟩=some (.slice (qK gs 0) L cs):=(by rw [qP wr _ 0 _ _ _ ht];rfl);clear a9 U ba K c4 bf ht m be;go_upto_region 6 with fail;clear ch;go_wp2_with fail;refine(yY bs l p L wr ce.out (by omega) (by omega)).mono ?_;rintro e bg ⟨fy,rfl,fz,Q,F⟩;have e4:=F.size;have ax:=qG ((F.block bb (by omega) (by simpa using H)).trans cg.out);have ci:=qG Q;have cj:=qG F;clear Q F E;have E:bg.cell? ⟨bb,0,none⟩=some (.slice (qK gs 0) L cs):=(by rw [qP bg _ 0 _ _ _ ax.out];rfl);go_upto_region 7 with fail;go_cut [46]from 30 to 89 (fun ea wc=>∃b:Bool,ea= .bool b∧(b=true->P<L)∧SrcB bs l p wc∧Chg [p] wr wc)
  case first=>
   go_wp2_with fail;refine(Zo bs l p 2 bg ci.out (by omega) (by omega)).mono ?_;rintro e N ⟨bh,rfl,ae,n⟩;have Y:=qG ((n.block bb (by omega) (by simpa using H)).trans ax.out);have e5:N.cell? ⟨bb,0,none⟩=some (.slice (qK gs 0) L cs):=(by rw [qP N _ 0 _ _ _ Y.out];rfl);have S2:=qG ae;have D2:=qG (cj.out.trans n (fun _ d _=>d) (fun _ d _=>d));clear ae n;cases bh with
   | true=>
    go_wp2_with fail;go_meet;exact⟨decide (P<(L:Int)),rfl,fun d=>by simpa using d,S2.out,D2.out⟩
   | false=>
    go_wp2_with fail;go_meet;exact⟨false,rfl,fun d=>(by cases d),S2.out,D2.out⟩
  case rest=>
  obtain⟨bh,rfl,c5,ae,n⟩:=hcut;have S2:=qG ae;have D2:=qG n;have e6:=n.size;have Y:=qG ((n.block bb (by omega) (by simpa using H)).trans cg.out);obtain⟨N,em⟩:∃z,z=wc:=⟨_,rfl⟩
  subst em;clear ae n E ax ci cj;go_upto_if 46 with fail;go_cut [11]from 30 to 89 (fun eb wc=>∃oi:Int,eb=qJ oi∧(0<=oi∧oi<L)∧wc=N)
  case first=>
   cases bh with
   | true=>
    have e7:=c5 rfl;go_wp2_with fail;go_meet;exact⟨_,rfl,⟨by omega,by omega⟩,rfl⟩
   | false=>
    go_wp2_with fail;go_meet;exact⟨_,rfl,⟨by omega,by omega⟩,rfl⟩
  case rest=>
  obtain⟨oi,rfl,bi,af⟩:=hcut;have Z:=af.symm;subst Z;clear c5;have E:N.cell? ⟨bb,0,none⟩=some (.slice (qK gs 0) L cs):=(by rw [qP N _ 0 _ _ _ Y.out];rfl);go_wp2_with fail;refine(yY bs l p 9 N S2.out (by omega) (by omega)).mono ?_;rintro e an ⟨en,rfl,f0,c6,ap⟩;have e8:=ap.size;have T3:=qG ((ap.block bb (by omega) (by simpa using H)).trans Y.out);have ck:=qG c6;have cl:=qG (D2.out.trans ap (fun _ d _=>d) (fun _ d _=>d));clear c6 ap E Y S2 D2;have E:an.cell? ⟨bb,0,none⟩=some (.slice (qK gs 0) L cs):=(by rw [qP an _ 0 _ _ _ T3.out];rfl);go_upto_if 57 with fail;go_cut [12]from 30 to 89 (fun a3 wc=>∃f:Int,a3=qJ f∧(1<=f∧f<=40∧oi+f<=L)∧wc=an)
  case first=>
   by_cases hgt:(L:Int) - oi<1+en
   ·go_wp2_with fail
    go_meet;exact⟨_,rfl,⟨by omega,by omega,by omega⟩,rfl⟩
   go_wp2_with fail;go_meet;exact⟨_,rfl,⟨by omega,by omega,by omega⟩,rfl⟩
  case rest=>
  obtain⟨f1,rfl,eo,af⟩:=hcut;have Z:=af.symm;subst Z;go_wp2_with fail;refine(Zo bs l p 8 an ck.out (by omega) (by omega)).mono ?_;rintro e u ⟨ep,rfl,ad,A⟩;have e9:=A.size;have ah:=qG ((A.block bb (by omega) (by simpa using H)).trans T3.out);have cm:=qG ad;have cn:=qG (cl.out.trans A (fun _ d _=>d) (fun _ d _=>d));clear ad A E T3 ck cl;have E:u.cell? ⟨bb,0,none⟩=some (.slice (qK gs 0) L cs):=(by rw [qP u _ 0 _ _ _ ah.out];rfl);go_upto_if 64 with fail;go_cut [12]from 30 to 89 (fun a3 wc=>∃f:Int,a3=qJ f∧(1<=f∧f<=40∧oi+f<=L)∧wc=u)
  case first=>
   cases ep with
   | true=>
    by_cases hgt:(40:Int)<(L:Int) - oi
    ·go_wp2_with fail
     go_meet;exact⟨_,rfl,⟨by omega,by omega,by omega⟩,rfl⟩
    go_wp2_with fail;go_meet;exact⟨_,rfl,⟨by omega,by omega,by omega⟩,rfl⟩
   | false=>
    go_wp2_with fail;go_meet;exact⟨_,rfl,eo,rfl⟩
  case rest=>
  obtain⟨f,rfl,V,af⟩:=hcut;have Z:=af.symm;subst Z;have dk:u.cell? ⟨bb,1,none⟩=some v:=(by rw [qP u _ 1 _ _ _ ah.out];rfl);have fa:=xp u bb 1 _ _ ah.out;have ay:=qG (di.out.trans cn.out (ds:=[p,bb]) (fun _ d _=>d) (fun _ d _=>by simp at d;simp [d]));have fc:=ay.out.size;have dl:gs≠bb∧gs≠p∧gs<j.heap.size:=⟨by omega,by omega,by omega⟩
  have dm:=qG (show u.ownsRow j.heap.size 65 4 v k (itVs (zipI t ls))from(by have h:=jl (p:=p) dh.out cn.out (by omega);unfold OwI at h;rwa [cf.out,D.out]at h));have co:=qG (show u.heap[gs]? =j.heap[gs]? from ay.out.block gs dl.2.2 (by simp;omega));have dn:=qG (cc.out u oi f co.out (by omega) bi.1 V.1 V.2.2);have dp:=qG (show(pcAt zs oi f).brk=(pcAt zs oi f).brk from rfl);obtain⟨J,bj⟩:∃J,J=(pcAt zs oi f).brk:=⟨_,rfl⟩
  have dq:=qG (show(⟨oi,f,J⟩:Pc)=pcAt zs oi f by rw [bj];rfl);have cp:=qG (fun(s:World) d a1=>cc.out s oi f d a1 bi.1 V.1 V.2.2);rw [<- bj]at cp;have dr:=qG (show SmQ zs (pcAt zs oi f)from⟨jQ bi.1 (by omega) (by rw [G.out];omega),V.1,V.2.1⟩);clear dn dp bj;go_upto_region 17 with fail
  go_region_law (first
   | (refine step_append_lies _ rfl _ _ 26 rfl j.heap.size 65 ec (.agg #[qJ 0,qJ 0,qJ 0,qJ 0]) 4 32 underlying26 hi ed ee ef rfl (by decide) _ _ _ rfl (by exact(ct.out.alloc _)) ⟨C.heap.size,0,none⟩ 1 1 [qJ oi,qJ f,qJ J,qJ al] rfl rfl (by exact zV C _ _) (by simp [Value.oneCell']) (by omega) (by unfold maxLen;omega) (by omega) (by simp;omega) (C.heap.size+1) (by simp) ?_;intro ai cv I cw M _ _;have aa:Below j.heap.size C I:=((qO j.heap.size C).alloc (by omega) (.cells #[qJ oi,qJ f,qJ J,qJ al] 65)).trans (Below.grown (⟨M.os,M.tape,M.output,M.size,M.block⟩) (ZY ct.out) (by simp;omega));have az:=qG ((aa.block bb (by omega)).trans cr.out);have fd:I.cell? ⟨bb,1,none⟩=some v:=(by rw [qP I _ 1 _ _ _ az.out];rfl);have fe:=xp I bb 1 _ _ az.out;have cq:=aa.size;have dt:=qG (dx.out.below aa (by omega) (by omega));have du:=qG (dw.out.qA aa (by omega));have dv:=qG cw;clear cw M aa)
   | (go_simp;go_wp2_with (go_at_call 46;refine(cp.out _ (by exact co.out) (by show gs<u.heap.size;omega)).mono ?_;rintro e C ⟨rfl,W⟩;have O:Below u.heap.size u C:=(⟨W.os,W.tape,W.output,W.size,W.block⟩);have ff:=O.size;have fg:bb<C.heap.size:=(by omega);have fh:bb≠C.heap.size:=(by omega);have cr:=qG ((O.block bb (by omega)).trans ah.out);have fi:C.cell? ⟨bb,1,none⟩=some v:=(by rw [qP C _ 1 _ _ _ cr.out];rfl);have ct:=qG (zB dm.out O lR);have dw:=qG (ay.out.qA O (by omega));have dx:=qG (cm.out.below O (by have:=cm.out.1.lt;omega) lR);clear W O)))
  all_goals (
   go_wp2_with fail;go_roundw
   case rel=>
    refine⟨k+1,oi+f,_,t++ [⟨oi,f,J⟩],by omega,by go_num,by first | rfl | go_num,⟨by omega,by omega⟩,by simp [D.out],?_,xD I bb 1 _ _ _ az.out,?_,dt.out.below (B:=bb) ((qO bb I).setCell (by simp) _) (by omega) (by omega),du.out.setCell _ _ (.inl (by simp))⟩
    ·intro q m
     rcases xb.1 m with h | h
     ·exact cd.out q h
     simp only [kK]at h;subst h;rw [dq.out];exact dr.out
    have h:I.ownsRow j.heap.size 65 4 (.slice (qK ai 0) (k+1) cv) (k+1) (itVs (zipI (t++ [⟨oi,f,J⟩]) ls)):=by
     rw [zFr _ _ _ (by have:=D.out;omega),zS,D.out,<- dj.out];simpa [itVs,itV]using dv.out
    have aw:OwI I j.heap.size (.slice (qK ai 0) (k+1) cv) (zipI (t++ [⟨oi,f,J⟩]) ls):=by
     unfold OwI;rw [Ju _ _ (by simp [D.out];omega)];simpa [D.out]using h
    refine zA aw fun k a4=>?_
    simp only [Value.ownBlock,xz]at a4;subst a4;have M:=(h.lt ai rfl).1;exact xm _ _ _ _ (by show ai≠bb;omega)
   simp [intOf];omega)
 obtain rfl:k=ls.length:=by omega
 obtain⟨T,c7,eq,bk,c8⟩:=LV.out.tree t D.out;have fj:¬ (ls.length:Int)<(ls.length:Int):=by omega
 have dy:=qG (show zipI t ls=T.told 0 from c8.symm);have dz:T.its=ls.length:=by rw [<- AT.qh,bk,D.out]
 have a0:=qG (smq_tree (zs:=zs) (T:=T) (by rw [bk];exact cd.out) (by rw [G.out];omega) (by omega));have d0:=qG c7;have cu:(zipI t ls).length=ls.length:=by rw [cf.out,D.out]
 rw [cu]at be;subst be;have E:wr.cell? ⟨bb,0,none⟩=some (.slice (qK gs 0) L cs):=by rw [qP wr _ 0 _ _ _ ht];rfl
 have dk:wr.cell? ⟨bb,1,none⟩=some (.slice bc ls.length bd):=by rw [qP wr _ 1 _ _ _ ht];rfl
 have ab:=(K.block w.heap.size (by omega) (by simp;omega)).trans db.out;have d1:wr.cell? ⟨w.heap.size,0,none⟩=some (.slice none 0 0):=by rw [qP wr _ 0 _ _ _ ab];rfl
 have d2:wr.cell? ⟨w.heap.size,1,none⟩=some (.slice none 0 0):=by rw [qP wr _ 1 _ _ _ ab];rfl
 have fk:=xp wr w.heap.size 0 _ _ ab;have fl:=xp wr w.heap.size 1 _ _ ab;have d3:=qG (show own32 wr w.heap.size (.slice (qK gs 0) L cs) zs from zD (zA cb.out (fun q m=>by cases m;exact K.block gs (by omega) (by simp;omega))) (by omega));have d4:=qG (show OwI wr w.heap.size (.slice bc ls.length bd) (T.told 0)from(by rw [<- dy.out];exact OwI.base U (by omega)));have d5:=qG (fun q m=>(U.lt q m).1);have d6:=qG (show Chg [p] w wr from de.out.trans K (fun _ d _=>d) (fun x d fm=>by simp at d;rcases d with d | d;simp [d];omega));clear c8 bk eq c7 dz a9 U ba K ht m ab cu;go_wp2;refine xr (v:=.agg #[.slice (qK gs 0) L cs,.slice bc ls.length bd]) (by simp [results,results21,go_sem,d1,d2]) rfl ⟨_,_,zs,T,rfl,?_,?_,a0.out.1,d0.out,a0.out.2.1,a0.out.2.2,by rw [G.out];omega,?_,?_,⟨_,_,_,rfl⟩⟩
 ·exact zA d3.out (fun q m=>by cases m;rw [xm _ ⟨w.heap.size,1,none⟩ _ _ (by show gs≠w.heap.size;omega),xm _ ⟨w.heap.size,0,none⟩ _ _ (by show gs≠w.heap.size;omega)])
 ·exact zA d4.out (fun q m=>by have h:=d5.out q m;rw [xm _ ⟨w.heap.size,1,none⟩ _ _ (by show q≠w.heap.size;omega),xm _ ⟨w.heap.size,0,none⟩ _ _ (by show q≠w.heap.size;omega)])
 ·exact(ce.out.below (B:=w.heap.size) ((qO w.heap.size wr).setCell (by simp) _) aq (by omega)).below (B:=w.heap.size) ((qO w.heap.size _).setCell (by simp) _) aq (by simp;omega)
 exact(d6.out.setCell _ _ (.inr (by simp))).setCell _ _ (.inr (by simp))
end Go.Proofs.YtmjanhcplcalfaaGreatDoor
