import Derived.Test.YtmjanhcplcalfaaGreatDoorMq03
import Derived.Laws.AppendOwnNone
import Derived.Lib.Hide
import Derived.Test.YtmjanhcplcalfaaGreatDoorMq98
set_option linter.all false
set_option maxRecDepth 100000
set_option maxHeartbeats 8000000
namespace Go.Proofs.YtmjanhcplcalfaaGreatDoor
open Go Go.RowKit Go.Proofs.Tryz
def ItAt (w:World) (b o:Nat) (x:It):Prop:=
 w.cell? ⟨b,o,none⟩=some (qJ x.pc.off)∧w.cell? ⟨b,o+1,none⟩=some (qJ x.pc.len)∧w.cell? ⟨b,o+2,none⟩=some (qJ x.pc.brk)∧w.cell? ⟨b,o+3,none⟩=some (qJ x.lv)
def RdI (B:Nat) (w:World) (v:Value) (xs:List It):Prop:=
 (∃ao cap,v= .slice ao 0 cap∧xs= [])∨
 (∃b off cap,v= .slice (qK b off) xs.length cap∧(0<xs.length∧xs.length<=cap∧cap<=maxLen)∧b<B∧∀i x,xs[i]? =some x->ItAt w b (off+i*4) x)
theorem RdI.below {B B':Nat} {w w':World} {v:Value} {xs:List It} (c:RdI B w v xs) (e:Below B' w w') (k:B<=B'):RdI B w' v xs:=by
 rcases c with c | ⟨b,off,cap,f,g,h,j⟩
 ·exact .inl c
 refine .inr ⟨b,off,cap,f,g,h,fun i x d=>?_⟩;have a:∀o,w'.cell? ⟨b,o,none⟩=w.cell? ⟨b,o,none⟩:=fun o=>e.cell (p:=⟨b,o,none⟩) (by show b<B';omega)
 have:=j i x d;unfold ItAt at this |-;rw [a,a,a,a];exact this
theorem RdI.heap {B:Nat} {w w':World} {v:Value} {xs:List It} (c:RdI B w v xs) (e:w'.heap=w.heap):RdI B w' v xs:=by
 rcases c with c | ⟨b,off,cap,f,g,h,j⟩
 ·exact .inl c
 refine .inr ⟨b,off,cap,f,g,h,fun i x d=>?_⟩;have a:∀o,w'.cell? ⟨b,o,none⟩=w.cell? ⟨b,o,none⟩:=fun o=>qV (w:=w) (by rw [e])
 have:=j i x d;unfold ItAt at this |-;rw [a,a,a,a];exact this
theorem RdI.val {B:Nat} {w:World} {v:Value} {xs:List It} (a:RdI B w v xs):∃ao cap,v= .slice ao xs.length cap:=by
 rcases a with ⟨ao,cap,rfl,rfl⟩ | ⟨b,off,cap,rfl,_⟩
 ·exact⟨_,_,rfl⟩
 exact⟨_,_,rfl⟩
theorem RdI.at {B:Nat} {w:World} {v:Value} {xs:List It} (a:RdI B w v xs) (c:xs≠ []):∃b off cap,v= .slice (qK b off) xs.length cap∧(0<xs.length∧xs.length<=cap∧cap<=maxLen)∧b<B∧∀i x,xs[i]? =some x->ItAt w b (off+i*4) x:=by
 rcases a with ⟨ao,cap,rfl,rfl⟩ | a
 ·exact absurd rfl c
 exact a
theorem RdI.head {B:Nat} {w:World} {v:Value} {x:It} {xs:List It} (h:RdI B w v (x::xs)):∃b off cap,v= .slice (qK b off) (xs.length+1) cap∧xs.length+1<=cap∧cap<=maxLen∧b<B∧ItAt w b off x∧RdI B w (.slice (qK b (off+4)) xs.length (cap - 1)) xs:=by
 obtain⟨b,off,cap,a,c,d,f⟩:=h.at (by simp)
 simp only [xe]at a c;refine⟨b,off,cap,a,by omega,by omega,d,by simpa using f 0 x rfl,?_⟩;cases xs with
 | nil=>exact .inl ⟨_,_,rfl,rfl⟩
 | cons y ys=>
  refine .inr ⟨b,off+4,cap - 1,rfl,⟨by simp,by simp at c |-;omega,by omega⟩,d,fun i z g=>?_⟩;have:=f (i+1) z (by simpa using g);have e:off+4+i*4=off+(i+1)*4:=(by omega);rw [e];exact this
def Rdr (w:World) (a:Nat) (v:Value):Prop:=w.heap[a]? =some (.cells #[v] 170 (0,0))
theorem Rdr.c {w:World} {a:Nat} {v:Value} (b:Rdr w a v):w.cell? ⟨a,0,none⟩=some v:=by rw [qP w a 0 _ _ _ b];rfl
theorem Rdr.fz {w:World} {a:Nat} {v:Value} (b:Rdr w a v):w.frozen? ⟨a,0,none⟩=false:=xp w a 0 _ _ b
theorem Rdr.lt {w:World} {a:Nat} {v:Value} (b:Rdr w a v):a<w.heap.size:=by
 rcases xR a w.heap.size with c | c
 ·exact c
 unfold Rdr at b;rw [km c]at b;cases b
theorem Rdr.set {w:World} {a:Nat} {v:Value} (b:Rdr w a v) (c:Value):Rdr (w.setCell ⟨a,0,none⟩ c) a c:=by
 unfold Rdr at b |-;rw [xD w a 0 _ _ _ b];rfl
theorem Rdr.below {B:Nat} {w w':World} {a:Nat} {v:Value} (b:Rdr w a v) (c:Below B w w') (d:a<B):Rdr w' a v:=(c.block a d).trans b
theorem zFa (B g:Nat) (v:Value) (xs:List It) (h:Int) (w:World) (a:RdI B w v xs) (d:Rdr w g v) (p:B<=g) (i:∀x f,xs=x::f->x.lv≠h) (q:xs.length<=8192):
  Calls prog 109 #[.pointer (qK g 0),qJ h] w fun e w'=>e= .returned (.tuple #[.agg #[qJ 0,qJ 0,qJ 0],.iface 110 (qJ 1)])∧Below w.heap.size w w':=by
 have c:=d.c;have m:=d.lt;cases xs with
 | nil=>
  obtain⟨ao,cap,rfl⟩:=a.val;simp only [xK]at c;clear a d i;go_enter func109,ntmps109;go_wp2;refine xr (v:=.tuple #[.agg #[qJ 0,qJ 0,qJ 0],.iface 110 (qJ 1)]) (by simp [results,results109,go_sem]) rfl ⟨rfl,?_⟩;exact(qO _ _).alloc lR _
 | cons x f=>
  obtain⟨b,off,cap,rfl,r,k,s,⟨l,t,u,y⟩,_⟩:=a.head;have j:=i x f rfl;have n:b<w.heap.size:=xQ w _ l;have o:(x.lv != h)=true:=(by simpa using j);unfold maxLen at k;clear a d i;go_enter func109,ntmps109;go_wp2;refine xr (v:=.tuple #[.agg #[qJ 0,qJ 0,qJ 0],.iface 110 (qJ 1)]) (by simp [results,results109,go_sem]) rfl ⟨rfl,?_⟩;exact(qO _ _).alloc lR _
theorem Chg.alloc {bs:List Nat} {a b:World} (c:Chg bs a b) (o:Obj):Chg bs a (b.alloc o):=
 c.trans (.qa ((qO _ _).alloc lR o)) (fun _ c _=>c) (fun _ c _=>c) (cs:=bs)
theorem Rdr.chg {bs:List Nat} {w w':World} {a:Nat} {v:Value} (b:Rdr w a v) (c:Chg bs w w') (d:a∉bs):Rdr w' a v:=(c.block a b.lt d).trans b
theorem Rdr.alloc {w:World} {a:Nat} {v:Value} (b:Rdr w a v) (o:Obj):Rdr (w.alloc o) a v:=b.chg (bs:=[]) (.qa ((qO _ _).alloc lR o)) (by simp)
theorem takeN_ok (B a:Nat) (v:Value) (x:It) (xs:List It) (w:World) (j:RdI B w v (x::xs)) (d:Rdr w a v) (t:B<=a) (u:xs.length<=8192):
  Calls prog 109 #[.pointer (qK a 0),qJ x.lv] w fun e w'=>e= .returned (.tuple #[pcV x.pc,.nilIface])∧∃i,RdI B w' i xs∧Rdr w' a i∧Chg [a] w w':=by
 have c:=d.c;have f:=d.fz;have p:=d.lt;obtain⟨b,off,cap,rfl,y,n,z,⟨o,A,C,D⟩,k⟩:=j.head;have q:b<w.heap.size:=xQ w _ o;have r:(x.lv != x.lv)=false:=by simp
 have s:¬b=a:=by omega
 unfold maxLen at n;have l:=qG k;have h:=qG d;clear j d k;by_cases m:cap=1
 ·subst m
  obtain rfl:xs= []:=(by apply qW;omega);simp only [xK]at c;go_enter func109,ntmps109;go_wp2;have g:=qG ((((Chg.refl [a] w).setCell ⟨a,0,none⟩ (.slice (qK b off) 0 0) (.inl (by simp))).alloc (.cells #[qJ x.pc.off,qJ x.pc.len,qJ x.pc.brk] 63)).alloc (.cells #[qJ x.pc.off,qJ x.pc.len,qJ x.pc.brk] 63));refine xr (v:=.tuple #[pcV x.pc,.nilIface]) (by simp [results,results109,go_sem];rfl) rfl ⟨rfl,.slice (qK b off) 0 0,.inl ⟨_,_,rfl,rfl⟩,((h.set _).alloc _).alloc _,g⟩
 go_enter func109,ntmps109;go_wp2;have g:=qG ((((Chg.refl [a] w).setCell ⟨a,0,none⟩ (.slice (qK b (off+4)) xs.length (cap - 1)) (.inl (by simp))).alloc (.cells #[qJ x.pc.off,qJ x.pc.len,qJ x.pc.brk] 63)).alloc (.cells #[qJ x.pc.off,qJ x.pc.len,qJ x.pc.brk] 63));refine xr (v:=.tuple #[pcV x.pc,.nilIface]) (by simp [results,results109,go_sem];rfl) rfl ⟨rfl,.slice (qK b (off+4)) xs.length (cap - 1),l.below (B':=B) (g.below (by omega) (by simp;omega)) lR,((h.set _).alloc _).alloc _,g⟩
def bnd (p:Pc):Pc:=⟨min (max p.off 0) (220000 - min (max p.len 1) 8192),min (max p.len 1) 8192,min (max p.brk 0) (min (max p.len 1) 8192)⟩
theorem bnd_eq (p:Pc):(bnd p=p)=(pcOk p=true):=by
 apply propext;obtain⟨a,b,c⟩:=p;simp only [bnd,pcOk,qU,Pc.mk.injEq];omega
theorem pc3 {a b c d e f:Int} (g:a=d) (h:b=e) (i:c=f):Ending.returned (.agg #[qJ a,qJ b,qJ c])=Ending.returned (.agg #[qJ d,qJ e,qJ f]):=by
 subst g h i;rfl
theorem boundedI (p:Pc) (w:World):Calls prog 118 #[pcV p] w fun e w'=>e= .returned (pcV (bnd p))∧Below w.heap.size w w':=by
 obtain⟨a,b,c⟩:=p;unfold pcV;simp only;go_enter func118,ntmps118;go_wp2
 all_goals (refine xr (v:=cnt _ _ _) (by simp [results,results118,go_sem];rfl) rfl ?_;exact⟨pc3 (by simp only [bnd];omega) (by simp only [bnd];omega) (by simp only [bnd];omega),((qO _ _).alloc lR _).alloc (by simp) _⟩)
theorem pieceW (p q:Pc) (b:Bool) (w:World) (l:∀w,Calls prog 118 #[pcV p] w fun e w'=>e= .returned (pcV q)∧Below w.heap.size w w')
  (j:(b=true∧p.off=q.off∧p.len=q.len∧p.brk=q.brk)∨(b=false∧¬p.off=q.off)∨(b=false∧p.off=q.off∧¬p.len=q.len)∨(b=false∧p.off=q.off∧p.len=q.len∧¬p.brk=q.brk)):
  Calls prog 108 #[pcV p] w fun e w'=>e= .returned (errV b 1)∧Below w.heap.size w w':=by
 have g:=qG ((qO w.heap.size w).alloc lR (.cells #[qJ p.off,qJ p.len,qJ p.brk] 63));have h:(w.alloc (.cells #[qJ p.off,qJ p.len,qJ p.brk] 63)).cell? ⟨w.heap.size,0,none⟩=some (qJ p.off):=by simp
 have i:(w.alloc (.cells #[qJ p.off,qJ p.len,qJ p.brk] 63)).cell? ⟨w.heap.size,1,none⟩=some (qJ p.len):=by simp
 have k2:(w.alloc (.cells #[qJ p.off,qJ p.len,qJ p.brk] 63)).cell? ⟨w.heap.size,2,none⟩=some (qJ p.brk):=by simp
 have a:w.heap.size<(w.alloc (.cells #[qJ p.off,qJ p.len,qJ p.brk] 63)).heap.size:=by simp
 have o:=qG l;clear l;obtain⟨s,t,u⟩:=p;obtain⟨z,A,B⟩:=q;simp only at h i k2 a g j;unfold pcV;go_enter func108,ntmps108;go_upto_region 1 with fail;generalize w.alloc (.cells #[qJ s,qJ t,qJ u] 63)=f at *
 go_cut [6] (fun r wc=>r= .bool (!b)∧Below f.heap.size f wc)
 case first=>
  rcases j with ⟨rfl,rfl,rfl,rfl⟩ | ⟨rfl,m⟩ | ⟨rfl,rfl,m⟩ | ⟨rfl,rfl,rfl,m⟩
  all_goals (go_region_with (go_at_call 118;refine(o _).mono ?_;rintro e w1 ⟨rfl,c⟩;have d:=qG (show Below f.heap.size f w1 from⟨c.os,c.tape,c.output,c.size,c.block⟩);have v:=(d.cell (p:=⟨w.heap.size,0,none⟩) a).trans h;have x:=(d.cell (p:=⟨w.heap.size,1,none⟩) a).trans i;have y:=(d.cell (p:=⟨w.heap.size,2,none⟩) a).trans k2;simp only [pcV];clear c))
  all_goals (go_wp2_with fail;go_meet;exact⟨rfl,d⟩)
 obtain⟨rfl,n⟩:=hcut;have k:=qG n;clear n h i k2 j;cases b with
 | true=>
  go_wp2;go_ret;exact⟨rfl,g.trans (k.mono (Qj a))⟩
 | false=>
  go_wp2;go_ret;exact⟨rfl,g.trans (k.mono (Qj a))⟩
theorem pieceI (p:Pc) (w:World):Calls prog 108 #[pcV p] w fun e w'=>e= .returned (errV (pcOk p) 1)∧Below w.heap.size w w':=by
 refine pieceW p (bnd p) (pcOk p) w (boundedI p) ?_;have g:=bnd_eq p;cases hp:pcOk p with
 | true=>
  have e:bnd p=p:=(by rw [g];exact hp);left;rw [e];simp
 | false=>
  right;have e:¬bnd p=p:=by rw [g,hp];simp
  have i:¬ (p.off=(bnd p).off∧p.len=(bnd p).len∧p.brk=(bnd p).brk):=by
   intro h;apply e;generalize bnd p=q at h;obtain⟨a,b,c⟩:=p;obtain⟨k,l,m⟩:=q;simp at h |-;omega
  by_cases d:p.off=(bnd p).off
  ·by_cases f:p.len=(bnd p).len
   ·exact .inr (.inr ⟨rfl,d,f,fun j=>i ⟨d,f,j⟩⟩)
   exact .inr (.inl ⟨rfl,d,f⟩)
  exact .inl ⟨rfl,d⟩
theorem zEc (n:Nat):okI n []=true:=by simp [okI,total]
theorem zw {xs:List It} {j:Nat} {x:It} (a:xs[j]? =some x):xs.take (j+1)=xs.take j++ [x]:=by
 rw [vT,a];rfl
theorem okI_snoc (n:Nat) (xs:List It) (x:It) (a:okI n xs=true):okI n (xs++ [x])=(pcOk x.pc&&decide (0<=x.lv∧x.lv<=(n:Int) - 1)&&decide (total xs+x.pc.len<=8192)):=by
 simp only [okI,xL]at a;simp only [okI,List.all_append,a.1,Qe,zq,total,List.all_cons,List.all_nil,Bool.and_true];simp
theorem zCu (n:Nat) (xs:List It) (j:Nat) (b:okI n xs=true):okI n (xs.take j)=true:=by
 simp only [okI,xL,qU]at b |-;have c:∀x∈xs,pcOk x.pc=true:=fun x a=>by have:=xV.1 b.1 x a;simp only [xL]at this;exact this.1
 refine⟨xV.2 fun x a=>xV.1 b.1 x (xJ a),?_⟩;have e:total xs=total (xs.take j)+total (xs.drop j):=by rw [<- zq,xw]
 have d:=yu (xs.drop j) (xV.2 fun x a=>c x (xT a));omega
theorem zFb {n:Nat} {xs:List It} (a:okI n xs=true):0<=total xs∧total xs<=8192:=by
 simp only [okI,xL,qU]at a;have c:=yu xs (xV.2 fun x b=>by have:=xV.1 a.1 x b;simp only [xL]at this;exact this.1);omega
theorem ZV {B:Nat} {w:World} {b off cap:Nat} {xs:List It} (c:∀i x,xs[i]? =some x->ItAt w b (off+i*4) x) {j:Nat} (a:j<xs.length):∃x,xs[j]? =some x∧ItAt w b (off+j*4) x:=
 ⟨xs[j],by simp [a],c j _ (by simp [a])⟩
theorem itemsI (B:Nat) (v:Value) (xs:List It) (w:World) (ab:RdI B w v xs) (an:B<=w.heap.size) (ap:xs.length<=1048576):
  Calls prog 91 #[v] w fun e w'=>e= .returned (errV (okI xs.length xs) 1)∧Below w.heap.size w w':=by
 rcases ab with ⟨ao,cap,rfl,rfl⟩ | ⟨b,off,cap,rfl,⟨aq,ar,ac⟩,au,H⟩
 ·rw [zEc]
  go_enter func91,ntmps91;go_wp2_with fail;go_loopw [3,10] (fun s i wr=>i=qJ 0∧s=qJ 0∧wr=w) (fun _ _ _=>0)
  case atStart=>exact⟨rfl,rfl,rfl⟩
  obtain⟨rfl,rfl,rfl⟩:=hrel;go_wp2;go_ret;exact⟨rfl,qO _ _⟩
 have h:b<w.heap.size:=by omega
 have N:=qG H;have ae:(xs.length:Int)<=1048576:=by omega
 generalize X:xs.length=n at *
 generalize F:okI n xs=m;have k:=qG F;unfold maxLen at ac;clear H F;go_enter func91,ntmps91;go_wp2_with fail;go_loopw [3,10] (fun s i wr=>∃j:Nat,j<=n∧i=qJ j∧s=qJ (total (xs.take j))∧okI n (xs.take j)=true∧Below w.heap.size w wr) (fun _ i _=>n - (intOf i).toNat)
 case atStart=>exact⟨0,xX _,rfl,by simp [total],by simp [zEc],qO _ _⟩
 obtain⟨j,av,rfl,rfl,y,z⟩:=hrel;have A:=qG y;have c:=qG z;have O:=z.size;have af:=zFb y;generalize G:total (xs.take j)=Y at *
 have C:=qG G;clear y z G;by_cases W:j<n
 ·obtain⟨x,I,J,K,L,M⟩:=ZV (B:=B) (cap:=cap) N (X▸W)
  have ag:(j:Int)<n:=(by omega);have q:=qG I;have P:=(c.cell (p:=⟨b,off+j*4,none⟩) h).trans J;have Q:=(c.cell (p:=⟨b,off+j*4+1,none⟩) h).trans K;have R:=(c.cell (p:=⟨b,off+j*4+2,none⟩) h).trans L;have S:=(c.cell (p:=⟨b,off+j*4+3,none⟩) h).trans M;have ah:b<wr.heap.size:=(by omega);clear J K L M I;have D:=qG ((qO wr.heap.size wr).alloc lR (.cells #[qJ x.pc.off,qJ x.pc.len,qJ x.pc.brk,qJ x.lv] 65));have E:(wr.alloc (.cells #[qJ x.pc.off,qJ x.pc.len,qJ x.pc.brk,qJ x.lv] 65)).heap[wr.heap.size]? =some (.cells #[qJ x.pc.off,qJ x.pc.len,qJ x.pc.brk,qJ x.lv] 65 (0,0)):=xg _ _;have r:wr.heap.size<(wr.alloc (.cells #[qJ x.pc.off,qJ x.pc.len,qJ x.pc.brk,qJ x.lv] 65)).heap.size:=(by simp);go_wp2_with fail;generalize wr.alloc (.cells #[qJ x.pc.off,qJ x.pc.len,qJ x.pc.brk,qJ x.lv] 65)=Z at *
  refine(pieceI x.pc Z).mono ?_;rintro e w1 ⟨rfl,o⟩;have t:=(o.block _ r).trans E;have ai:w1.cell? ⟨wr.heap.size,1,none⟩=some (qJ x.pc.len):=(by rw [qP w1 _ 1 _ _ _ t];rfl);have aj:w1.cell? ⟨wr.heap.size,3,none⟩=some (qJ x.lv):=(by rw [qP w1 _ 3 _ _ _ t];rfl);have ak:wr.heap.size<w1.heap.size:=(by have:=o.size;omega);have l:=qG (c.trans ((D.trans (o.mono (Qj r))).mono O));have g:=qG (okI_snoc n (xs.take j) x A);have u:=qG (show okI n xs=true->okI n (xs.take j++ [x])=true from fun aa=>by rw [<- zw q.out];exact zCu n xs (j+1) aa);rw [C.out]at g;clear o t E r D P Q R S c;cases hpk:pcOk x.pc with
  | false=>
   have a:okI n xs=false:=by
    cases hh:okI n xs with
    | false=>rfl
    | true=>have:=u hh;rw [g.out,hpk]at this;simp at this
   have d:m=false:=k.symm.trans a;clear a;simp only [errV,vD,kH];go_wp2;go_ret;exact⟨by first | rfl | (rw [d];rfl),l⟩
  | true=>
   have T:=hpk;simp only [pcOk,qU]at T;simp only [errV,kA];by_cases am:8192<Y+x.pc.len
   ·have a:okI n xs=false:=by
     cases hh:okI n xs with
     | false=>rfl
     | true=>have:=u hh;rw [g.out]at this;simp at this;omega
    have d:m=false:=k.symm.trans a;clear a;go_wp2;go_ret;exact⟨by first | rfl | (rw [d];rfl),l⟩
   have f:=qG (jS x.lv 0 ((n:Int) - 1) 1 w1);cases hlv:decide (0<=x.lv∧x.lv<=(n:Int) - 1)with
   | false=>
    rw [hlv]at f
    have a:okI n xs=false:=by
     cases hh:okI n xs with
     | false=>rfl
     | true=>have:=u hh;rw [g.out,hlv]at this;simp at this
    have d:m=false:=k.symm.trans a;clear hpk hlv a;simp only [errV,vD,kH]at f;go_wp2_with fail;refine f.mono ?_;rintro e ad ⟨rfl,rfl⟩;go_wp2;go_ret;exact⟨by first | rfl | (rw [d];rfl),l⟩
   | true=>
    rw [hlv]at f;have U:=qG (show okI n (xs.take j++ [x])=true by rw [g.out,hpk,hlv];simp;omega);clear hpk hlv;simp only [errV,kA]at f;go_wp2_with fail;refine f.mono ?_;rintro e ad ⟨rfl,rfl⟩;go_wp2;go_roundw
    case rel=>exact⟨j+1,by omega,by go_num,by rw [zw q.out,zq,C.out];simp [total],by rw [zw q.out];exact U,l⟩
    simp [intOf];omega
 have V:j=n:=by omega
 subst V;have al:¬ (j:Int)<(j:Int):=by omega
 have e:okI j xs=true:=by
  have:=A;rw [xu (by omega)]at this;exact this
 have d:m=true:=k.symm.trans e;clear e;go_wp2;go_ret;exact⟨by first | rfl | (rw [d];rfl),c⟩
def Fine (xs:List It):Prop:=(∀x∈xs,pcOk x.pc=true∧0<=x.lv∧x.lv<=8191)∧total xs<=8192
theorem Fine.len {xs:List It} (b:Fine xs):(xs.length:Int)<=total xs:=yu xs (xV.2 fun x a=>(b.1 x a).1)
theorem Fine.right {a b:List It} (d:Fine (a++b)):Fine b:=by
 have e:=yu a (xV.2 fun x c=>(d.1 x (by simp [c])).1);refine⟨fun x c=>d.1 x (by simp [c]),?_⟩;have:=d.2;rw [zq]at this;omega
theorem Fine.left {a b:List It} (d:Fine (a++b)):Fine a:=by
 have e:=yu b (xV.2 fun x c=>(d.1 x (by simp [c])).1);refine⟨fun x c=>d.1 x (by simp [c]),?_⟩;have:=d.2;rw [zq]at this;omega
theorem J5:∀ (T:AT) (d:Int),T.flat=(T.told d).map (fun x=>x.pc)
 | .nil,_=>rfl
 | .node l p r,d=>by simp only [AT.flat,AT.told,vz,vL,J5 l (d+1),J5 r (d+1)]
theorem Fine.ok {T:AT} {d:Int} (b:Fine (T.told d)):T.ok:=by
 refine⟨fun p a=>?_,by rw [<- AT.rns_told T d];exact b.2⟩;rw [J5 T d,kL]at a;obtain⟨x,c,rfl⟩:=a;exact(b.1 x c).1
def SubPost (B a:Nat) (w:World) (r:Option (AT×List It)) (e:Ending) (w':World):Prop:=
 match r with
 | none=>e= .returned (.tuple #[.pointer none,.iface 110 (qJ 1)])∧Chg [a] w w'
 | some (T,ys)=>∃b bs c,e= .returned (.tuple #[.pointer b,.nilIface])∧Lies w' w.heap.size T b bs∧bs.Nodup∧RdI B w' c ys∧Rdr w' a c∧Chg [a] w w'
theorem zFc {a b:List Nat} {m:Nat} (f:a.Nodup) (g:b.Nodup) (h:∀x∈a,x<m) (i:∀x∈b,m<=x):(a++b).Nodup:=by
 rw [xG];refine⟨f,g,fun x c y d e=>?_⟩;subst e;have:=h x c;have:=i x d;omega
theorem sub_nil (B h:Nat) (v:Value) (xs:List It) (i:Int) (w:World) (a:RdI B w v xs) (d:Rdr w h v) (g:∀x f,xs=x::f->x.lv<i) (o:xs.length<=8192):
  Calls prog 92 #[.pointer (qK h 0),qJ i] w fun e w'=>e= .returned (.tuple #[.pointer none,.nilIface])∧w'=w:=by
 have c:=d.c;have l:=d.lt;cases xs with
 | nil=>
  obtain⟨ao,cap,rfl⟩:=a.val;simp only [xK]at c;clear a d g;go_enter func92,ntmps92;go_wp2_with fail;go_ret2;exact⟨rfl,rfl⟩
 | cons x f=>
  obtain⟨b,off,cap,rfl,p,j,q,⟨k,r,s,t⟩,_⟩:=a.head;have m:=g x f rfl;have n:b<w.heap.size:=xQ w _ k;unfold maxLen at j;clear a d g;go_enter func92,ntmps92;go_wp2_with fail;go_ret2;exact⟨rfl,rfl⟩
theorem subtreeN:∀ (f:Nat) (g:Int) (xs:List It) (B i:Nat) (v:Value) (w:World),0<=g->g+f=8200->g<=8192->Fine xs->RdI B w v xs->Rdr w i v->B<=i->
  Calls prog 92 #[.pointer (qK i 0),qJ g] w (SubPost B i w (parse f g xs)):=by
 intro f
 induction f with
 | zero=>intro g xs B i v w b2 b3 b4;omega
 | succ f be=>
  intro g xs B i v w b2 b3 b4 u I z S;have bf:xs.length<=8192:=(by have:=u.len;have:=u.2;omega);by_cases J:∀x n,xs=x::n->x.lv<g
  ·refine(sub_nil B i v xs g w I z J bf).mono ?_
   rintro e w' ⟨rfl,rfl⟩
   have bg:parse (f+1) g xs=some (.nil,xs):=by
    cases xs with
    | nil=>rfl
    | cons x n=>rw [parse,xd (J x n rfl)]
   rw [bg];exact⟨none,[],v,rfl,⟨rfl,rfl⟩,List.nodup_nil,I,z,Chg.refl _ _⟩
  cases xs with
  | nil=>exact absurd (fun x n d=>by cases d) J
  | cons x n=>
   have bh:¬x.lv<g:=fun d=>J (fun y C e=>by cases e;exact d)
   clear J;have cn:=(u.1 x (by simp)).2;have ac:=qG (be (g+1) (x::n) B i v w (by omega) (by omega) (by omega) u I z S);obtain⟨b,off,cap,rfl,cy,r,cz,⟨ay,b7,b8,b9⟩,_⟩:=I.head;have bi:b<w.heap.size:=xQ w _ ay;have c:=z.c;have co:=z.lt;unfold maxLen at r;have h:=qG (show parse (f+1) g (x::n)=_ by rw [parse,qZ bh]);generalize parse (f+1) g (x::n)=b5 at h |-;have bj:=qG u;clear I z u;go_enter func92,ntmps92;go_wp2_with fail;refine ac.mono ?_;clear ac;cases hp1:parse f (g+1) (x::n)with
   | none=>
    rintro e w1 ⟨rfl,D⟩;have s:=qG D;rw [hp1]at h;clear D hp1;go_wp2_with fail;go_ret2;rw [h.out];exact⟨rfl,s⟩
   | some q=>
    obtain⟨L,ys⟩:=q;rintro e w1 ⟨ca,bl,az,rfl,a0,a1,a2,ab,D⟩;have s:=qG D;have N:=qG a0;have bk:=qG a1;have V:=qG a2;have W:=qG ab;have ad:=(yr _ _ _ _ _ hp1).1;have cp:=ab.lt;have cq:=D.size;have E:=qG (show Fine (L.told (g+1)++ys)from ad▸bj);have ae:ys.length<=8192:=(by have:=E.right.len;have:=E.right.2;omega);rw [hp1]at h;clear D a0 a1 a2 ab hp1 ad c bi ay b7 b8 b9;by_cases A:∀y C,ys=y::C->y.lv≠g
    ·have F:=qG (zFa B i az ys g w1 V W S A ae)
     have bm:=qG (show b5=none by
      rw [h.out];cases ys with
      | nil=>rfl
      | cons y C=>simp only;rw [xd (A y C rfl)])
     clear h A;go_wp2_with fail;refine F.mono ?_;rintro e l ⟨rfl,a3⟩;have G:=qG (s.trans (Chg.qa (bs:=[i]) a3) (fun _ d _=>d) (fun _ d _=>d));clear a3 F s;go_wp2_with fail;go_ret2;rw [bm.out];exact⟨rfl,G.alloc _⟩
    cases ys with
    | nil=>exact absurd (fun y C d=>by cases d) A
    | cons y zs=>
     have bn:y.lv=g:=Classical.byContradiction fun d=>A (fun cx C e=>by cases e;exact d)
     clear A;subst bn;simp only [ne_eq,not_true_eq_false,kH]at h;simp only [xe]at ae;have F:=qG (takeN_ok B i az y zs w1 V W S (by omega));clear V W;go_wp2_with fail;refine F.mono ?_;rintro e l ⟨rfl,cb,a4,a5,T⟩;have cr:=T.size;have af:=qG (N.chg T (fun k j e=>by have:=(N.lt k j).1;simp at e;omega));have ag:=qG (fun k j=>(N.lt k j).2);have G:=qG ((s.trans T (fun _ d _=>d) (fun _ d _=>d)).alloc (.cells #[qJ y.pc.off,qJ y.pc.len,qJ y.pc.brk] 63));have X:=qG ((qO l.heap.size l).alloc lR (.cells #[qJ y.pc.off,qJ y.pc.len,qJ y.pc.brk] 63));have ah:=qG (show Fine zs from(Fine.right (a:=[y]) E.right));have ai:=qG (be (y.lv+1) zs B i cb (l.alloc (.cells #[qJ y.pc.off,qJ y.pc.len,qJ y.pc.brk] 63)) (by omega) (by omega) (by omega) ah (a4.below X (by omega)) (a5.alloc _) S);have aj:(l.alloc (.cells #[qJ y.pc.off,qJ y.pc.len,qJ y.pc.brk] 63)).heap[l.heap.size]? =some (.cells #[qJ y.pc.off,qJ y.pc.len,qJ y.pc.brk] 63 (0,0)):=xg _ _;have cs:(l.alloc (.cells #[qJ y.pc.off,qJ y.pc.len,qJ y.pc.brk] 63)).heap.size=l.heap.size+1:=(by simp);have Y:=qG (af.below X lR);clear a4 a5 T F s N af X;unfold pcV;go_wp2_with fail;generalize l.alloc (.cells #[qJ y.pc.off,qJ y.pc.len,qJ y.pc.brk] 63)=b6 at *
     refine ai.mono ?_;clear ai;cases hp2:parse f (y.lv+1) zs with
     | none=>
      rintro e o ⟨rfl,p⟩;have O:=qG (G.trans p (fun _ d _=>d) (fun _ d _=>d));rw [hp2]at h;clear p hp2;go_wp2_with fail;go_ret2;rw [h.out];exact⟨rfl,O⟩
     | some q=>
      obtain⟨R,cc⟩:=q;rintro e o ⟨cd,br,c0,rfl,U,a6,a7,a8,p⟩;have ct:=p.size;have ak:=(yr _ _ _ _ _ hp2).1;rw [hp2]at h;have al:=qG (Y.chg p (fun k j e=>by have:=(Y.lt k j).1;simp at e;omega));have am:=qG (U.base (base':=w.heap.size) (by omega));have bo:=qG (fun k j=>(U.lt k j).1);have bp:=qG (fun k j=>(U.lt k j).2);have O:=qG (G.trans p (fun _ d _=>d) (fun _ d _=>d));have P:=(p.block l.heap.size (by omega) (by simp;omega)).trans aj;have bq:o.cell? ⟨l.heap.size,0,none⟩=some (qJ y.pc.off):=(by rw [qP o _ 0 _ _ _ P];rfl);have bt:o.cell? ⟨l.heap.size,1,none⟩=some (qJ y.pc.len):=(by rw [qP o _ 1 _ _ _ P];rfl);have bu:o.cell? ⟨l.heap.size,2,none⟩=some (qJ y.pc.brk):=by rw [qP o _ 2 _ _ _ P];rfl
      have Z:Hid (AT.node L y.pc R).ok:=by
       have Q:L.told (y.lv+1)++y::zs=(AT.node L y.pc R).told y.lv++cc:=by
        rw [ak];obtain⟨c1,c2⟩:=y;simp [AT.told]
       exact Fine.ok (Fine.left (Q▸E))
      have cu:=Z.left.bd;have cv:=Z.right.bd;have bv:(L.ht:Int)<=8192:=(by have:=zk L;omega);have bw:(R.ht:Int)<=8192:=(by have:=zk R;omega);have bx:=qG a6;have an:=qG a7;have aa:=qG a8;have ao:=qG (zCt L y.pc R ca cd bl br w.heap.size o al am Z (by omega));clear U a6 a7 a8 p P aj hp2 ak Y G E ah;go_wp2_with fail;refine ao.mono ?_;clear ao;rintro e ce ⟨nb,rfl,c3,a9,K⟩;have cw:=K.size;have ap:=qG a9;have aq:=qG (O.trans (Chg.qa (bs:=[i]) K) (fun _ d _=>d) (fun _ d _=>d));have ar:=qG (an.below K (by omega));have au:=qG (aa.below K (by have:=aa.lt;omega));obtain⟨c4,cf,cg,ch,ci,Q,cj,ba,bc,bd,ck⟩:=a9;simp only [xz,vY]at Q;obtain⟨rfl,_⟩:=Q;have av:=qG (leanN L y.pc R nb cf cg ch ci w.heap.size _ _ _ _ ce ba bc bd bv bw);clear K ba bc bd cj ck al am O an aa bq bt bu;go_wp2_with fail;refine av.mono ?_;rintro e cl ⟨rfl,M⟩;have aw:=qG (aq.trans M (fun _ d _=>d) (fun _ d _=>by simp at d));have bz:=qG (ap.chg M (fun _ _=>by simp));have b0:=qG (ar.below (M.below (B:=B) (by omega) (by simp)) lR);have b1:=qG (au.chg M (by simp));have t:=qG (jS ((L.ht:Int) - R.ht) (-1) 1 1 cl);clear av M ap aq ar au;by_cases ax:L.ht<=R.ht+1∧R.ht<=L.ht+1
      ·have H:decide (-1<=(L.ht:Int) - R.ht∧(L.ht:Int) - R.ht<=1)=true:=by simp;omega
       rw [H]at t;simp only [errV,kA]at t;simp only [xd ax]at h;clear H;go_wp2_with fail;refine t.mono ?_;rintro e cm ⟨rfl,rfl⟩;go_wp2_with fail;go_ret2;rw [h.out];refine⟨_,_,_,rfl,bz,?_,b0,b1,aw⟩;rw [vd];refine⟨fun r=>?_,zFc bk bx (m:=b6.heap.size) (fun k j=>by have:=ag k j;omega) (fun k j=>bo k j)⟩;rcases xb.1 r with r | r
       ·have:=ag nb r;omega
       have:=bp nb r;omega
      have H:decide (-1<=(L.ht:Int) - R.ht∧(L.ht:Int) - R.ht<=1)=false:=(by simp;omega);rw [H]at t;simp only [errV,vD,kH]at t;simp only [qZ ax]at h;clear H;go_wp2_with fail;refine t.mono ?_;rintro e cm ⟨rfl,rfl⟩;go_wp2_with fail;go_ret2;rw [h.out];exact⟨rfl,aw⟩
def msgItems:ByteArray:=⟨#[114,101,97,100,105,110,103,32,116,104,101,32,105,116,101,109,115,32,111,102,32,97,32,116,114,101,101]⟩
def zBj:ByteArray:=⟨#[114,101,97,100,105,110,103,32,116,104,101,32,115,104,97,112,101,32,111,102,32,97,32,116,114,101,101]⟩
def ReadPost (w:World) (r:Option AT) (e:Ending) (w':World):Prop:=
 match r with
 | none=>(∃b,e= .returned (.tuple #[.pointer none,.iface 109 (.agg #[.string b,.iface 110 (qJ 1)])]))∧Below w.heap.size w w'
 | some T=>∃a bs,e= .returned (.tuple #[.pointer a,.nilIface])∧Lies w' w.heap.size T a bs∧bs.Nodup∧T.ok∧Below w.heap.size w w'
theorem zCv {xs:List It} (a:okI xs.length xs=true):Fine xs:=by
 simp only [okI,xL,qU]at a;have c:=yu xs (xV.2 fun x b=>by have:=xV.1 a.1 x b;simp only [xL]at this;exact this.1);refine⟨fun x b=>?_,a.2⟩;have:=xV.1 a.1 x b;simp only [xL,qU]at this;exact⟨this.1,this.2.1,by omega⟩
theorem zFd (xs:List It):readT xs=(if okI xs.length xs=true then(match parse 8200 0 xs with | some (T,[])=>some T | _=>none)else none):=by
 unfold readT;cases parse 8200 0 xs with
 | none=>rfl
 | some q=>obtain⟨T,ys⟩:=q;cases ys<;>rfl
theorem zFe (B:Nat) (v:Value) (xs:List It) (w:World) (m:RdI B w v xs) (I:B<=w.heap.size) (J:xs.length<=1048576):
  Calls prog 66 #[.agg #[v]] w (ReadPost w (readT xs)):=by
 obtain⟨ao,cap,rfl⟩:=m.val;have r:=qG ((qO w.heap.size w).alloc lR (.cells #[.slice ao xs.length cap] 28));have s:(w.alloc (.cells #[.slice ao xs.length cap] 28)).heap[w.heap.size]? =some (.cells #[.slice ao xs.length cap] 28 (0,0)):=xg _ _;have P:(w.alloc (.cells #[.slice ao xs.length cap] 28)).heap.size=w.heap.size+1:=by simp
 have j:=qG (m.below r I);have t:=qG (itemsI B _ xs _ j (by omega) J);have a:=qG (zFd xs);generalize readT xs=Y at a |-;generalize H:xs.length=n at *
 clear m;go_enter func66,ntmps66;go_wp2_with fail;generalize w.alloc (.cells #[.slice ao n cap] 28)=Z at *
 refine t.mono ?_;rintro e w1 ⟨rfl,d⟩;have Q:=d.size;have u:=(d.block w.heap.size (by omega)).trans s;have R:w1.cell? ⟨w.heap.size,0,none⟩=some (.slice ao n cap):=by rw [qP w1 _ 0 _ _ _ u];rfl
 have k:=qG (r.trans (d.mono (by omega)));have C:=qG (j.below d (by omega));have S:w.heap.size<w1.heap.size:=by omega
 clear d u s t j;cases hok:okI n xs with
 | false=>
  rw [hok]at a;simp only [vD,kH]at a;simp only [errV,vD,kH];clear hok;go_wp2_with fail;go_ret2;rw [a.out];exact⟨⟨msgItems,rfl⟩,k⟩
 | true=>
  rw [hok]at a;simp only [kA]at a;have f:=qG (zCv (xs:=xs) (by rw [H];exact hok));have l:=qG ((qO w1.heap.size w1).alloc lR (.cells #[.slice ao n cap] 170));have x:Rdr (w1.alloc (.cells #[.slice ao n cap] 170)) w1.heap.size (.slice ao n cap):=xg _ _;have z:=qG (subtreeN 8200 0 xs B w1.heap.size _ _ (by omega) (by omega) (by omega) f (C.below l (by omega)) x (by omega));have U:(w1.alloc (.cells #[.slice ao n cap] 170)).heap.size=w1.heap.size+1:=(by simp);simp only [errV,kA];clear hok x;go_wp2_with fail;generalize w1.alloc (.cells #[.slice ao n cap] 170)=aa at *
  refine z.mono ?_;clear z;cases hp:parse 8200 0 xs with
  | none=>
   rw [hp]at a;rintro e K ⟨rfl,b⟩;have g:=qG (k.trans ((l.trans (b.below (by omega) (by simp))).mono (by omega)));clear b hp;go_wp2_with fail;go_ret2;rw [a.out];exact⟨⟨zBj,rfl⟩,g⟩
  | some q=>
   obtain⟨T,ys⟩:=q;rw [hp]at a;rintro e K ⟨L,bs,ab,rfl,o,p,h,i,b⟩;have g:=qG (k.trans ((l.trans (b.below (by omega) (by simp))).mono (by omega)));have D:=qG (o.base (base':=w.heap.size) (by omega));have E:=qG p;have c:=(yr _ _ _ _ _ hp).1;have F:=qG (Fine.ok (Fine.left (c▸f)));have A:=i.c;have V:=i.lt;cases ys with
   | nil=>
    obtain⟨M,N,rfl⟩:=h.val;simp only [xK]at A;simp only at a;clear h i b hp o p c;go_wp2_with fail;go_ret2;rw [a.out];exact⟨L,bs,rfl,D,E,F,g⟩
   | cons y O=>
    obtain⟨M,N,rfl⟩:=h.val;simp only [xe]at A;simp only at a
    have W:O.length<=8192:=by
     have G:=(Fine.right (c▸f)).len;have X:=(Fine.right (c▸f)).2;simp only [xe]at G;omega
    clear h i b hp o p c;go_wp2_with fail;go_ret2;rw [a.out];exact⟨⟨zBj,rfl⟩,g⟩
def Fnd (w:World) (b:Nat) (x y z i n k d s:Int):Prop:=w.heap[b]? =some (.cells #[qJ x,qJ y,qJ z,qJ i,qJ n,qJ k,qJ d,qJ s] 245 (0,0))
theorem Fnd.c {w:World} {b:Nat} {x y z i n k d s:Int} (a:Fnd w b x y z i n k d s):w.cell? ⟨b,0,none⟩=some (qJ x)∧w.cell? ⟨b,1,none⟩=some (qJ y)∧w.cell? ⟨b,2,none⟩=some (qJ z)∧w.cell? ⟨b,3,none⟩=some (qJ i)∧w.cell? ⟨b,4,none⟩=some (qJ n)∧w.cell? ⟨b,5,none⟩=some (qJ k)∧w.cell? ⟨b,6,none⟩=some (qJ d)∧w.cell? ⟨b,7,none⟩=some (qJ s):=by
 refine⟨?_,?_,?_,?_,?_,?_,?_,?_⟩<;>rw [qP w b _ _ _ _ a]<;>rfl
theorem Fnd.fz {w:World} {b:Nat} {x y z i n k d s:Int} (a:Fnd w b x y z i n k d s) (j:Nat):w.frozen? ⟨b,j,none⟩=false:=xp w b j _ _ a
theorem Fnd.lt {w:World} {b:Nat} {x y z i n k d s:Int} (a:Fnd w b x y z i n k d s):b<w.heap.size:=by
 rcases xR b w.heap.size with c | c
 ·exact c
 unfold Fnd at a;rw [km c]at a;cases a
theorem Fnd.set7 {w:World} {b:Nat} {x y z i n k d s:Int} (a:Fnd w b x y z i n k d s) (c:Int):Fnd (w.setCell ⟨b,7,none⟩ (qJ c)) b x y z i n k d c:=by
 unfold Fnd at a |-;rw [xD w b 7 _ _ _ a];rfl
theorem Fnd.qC {w:World} {b:Nat} {x y z i n k d s:Int} (e:Fnd w b x y z i n k d s) (a v c:Int):Fnd (((w.setCell ⟨b,3,none⟩ (qJ a)).setCell ⟨b,4,none⟩ (qJ v)).setCell ⟨b,5,none⟩ (qJ c)) b x y z a v c d s:=by
 unfold Fnd at e |-;have f:=xD w b 3 _ _ (qJ a) e;have g:=xD _ b 4 _ _ (qJ v) f;have h:=xD _ b 5 _ _ (qJ c) g;rw [h];rfl
theorem Fnd.below {B:Nat} {w w':World} {b:Nat} {x y z i n k d s:Int} (a:Fnd w b x y z i n k d s) (c:Below B w w') (e:b<B):Fnd w' b x y z i n k d s:=(c.block b e).trans a
def fndV (x y z:Int) (r:Nat×Int×Int×Int×Int):Value:=.agg #[qJ x,qJ y,qJ z,qJ r.1,qJ r.2.1,qJ r.2.2.1,qJ r.2.2.2.1,qJ r.2.2.2.2]
def yQ (m:Pc->Int) (T:AT) (k:Int) (i:Nat) (n b s:Int):Nat×Int×Int×Int×Int:=
 ((seekT m T k).1+i,(seekT m T k).2.1+n,(seekT m T k).2.2.1+b,(seekT m T k).2.2.2.1,(seekT m T k).2.2.2.2+s)
theorem Yn (m:Pc->Int) (T:AT) (k:Int):seekT m T k=yQ m T k 0 0 0 0:=by simp [yQ]
theorem Jp (m:Pc->Int) (k:Int) (i:Nat) (n b s:Int):yQ m .nil k i n b s=(i,n,b,k,s):=by simp [yQ,seekT]
theorem Yo (m:Pc->Int) (l:AT) (p:Pc) (r:AT) (k:Int) (i:Nat) (n b s:Int) (a:k<sumM m (l.told 0)):yQ m (.node l p r) k i n b s=yQ m l k i n b (s+1):=by
 simp only [yQ,seekT,xd a];simp;omega
theorem Yp (m:Pc->Int) (l:AT) (p:Pc) (r:AT) (k:Int) (i:Nat) (n b s:Int) (a:¬k<sumM m (l.told 0)) (c:k - sumM m (l.told 0)<m p):yQ m (.node l p r) k i n b s=(i+l.its,n+l.rns,b+l.bks,k - sumM m (l.told 0),s+1):=by
 simp only [yQ,seekT,qZ a,xd c];simp;omega
theorem YW (m:Pc->Int) (l:AT) (p:Pc) (r:AT) (k:Int) (i:Nat) (n b s:Int) (a:¬k<sumM m (l.told 0)) (c:¬k - sumM m (l.told 0)<m p):yQ m (.node l p r) k i n b s=yQ m r (k - sumM m (l.told 0) - m p) (i+l.its+1) (n+l.rns+p.len) (b+l.bks+p.brk) (s+1):=by
 simp only [yQ,seekT,qZ a,qZ c];simp;omega
structure Rnd (w wx:World) (a:Nat) (i n b s c d lb e j:Int):Prop where
 f:Fnd wx (w.heap.size+1) 0 0 0 i n b 0 s
 g:Fnd wx w.heap.size 0 0 0 0 0 0 0 0
 h:Below w.heap.size w wx
 l:wx.heap[a]? =some (.cells #[qJ c,qJ d,qJ lb] 207 (0,0))
 o:wx.heap[a+1]? =some (.cells #[qJ 1,qJ e,qJ j] 207 (0,0))
 sz:a+2<=wx.heap.size
 lo:w.heap.size+1<a
theorem Rnd.below {w wx wy:World} {a:Nat} {i n b s d e lb f g:Int} (r:Rnd w wx a i n b s d e lb f g) (c:Below wx.heap.size wx wy):Rnd w wy a i n b s d e lb f g:=by
 have j:=r.sz;have h:=r.lo;exact⟨r.f.below c (by omega),r.g.below c (by omega),r.h.trans (c.mono (by omega)),(c.block a (by omega)).trans r.l,(c.block (a+1) (by omega)).trans r.o,by have:=c.size;omega,h⟩
theorem Rnd.qC {w wx:World} {a:Nat} {i n b s e f lb g h:Int} (r:Rnd w wx a i n b s e f lb g h) (x y z:Int):
  Rnd w (((wx.setCell ⟨w.heap.size+1,3,none⟩ (qJ x)).setCell ⟨w.heap.size+1,4,none⟩ (qJ y)).setCell ⟨w.heap.size+1,5,none⟩ (qJ z)) a x y z s e f lb g h:=by
 have j:=r.sz;have l:=r.lo
 have c:∀k,k≠w.heap.size+1->(((wx.setCell ⟨w.heap.size+1,3,none⟩ (qJ x)).setCell ⟨w.heap.size+1,4,none⟩ (qJ y)).setCell ⟨w.heap.size+1,5,none⟩ (qJ z)).heap[k]? =wx.heap[k]?:=fun k d=>by
  rw [xm _ _ _ _ d,xm _ _ _ _ d,xm _ _ _ _ d]
 exact⟨r.f.qC x y z,(c _ (by omega)).trans r.g,((r.h.setCell (by simp) _).setCell (by simp) _).setCell (by simp) _,(c _ (by omega)).trans r.l,(c _ (by omega)).trans r.o,by simpa using j,l⟩
theorem cc3 {w:World} {b:Nat} {x y z:Int} {a:TypeId} (c:w.heap[b]? =some (.cells #[qJ x,qJ y,qJ z] a (0,0))):w.cell? ⟨b,0,none⟩=some (qJ x)∧w.cell? ⟨b,1,none⟩=some (qJ y)∧w.cell? ⟨b,2,none⟩=some (qJ z):=by
 refine⟨?_,?_,?_⟩<;>rw [qP w b _ _ _ _ c]<;>rfl
theorem measR (i n k:Int) (w:World):Calls prog 182 #[cnt i n k] w fun e w'=>e= .returned (qJ n)∧Below w.heap.size w w':=by
 unfold cnt;go_enter func182,ntmps182;go_wp2;go_ret;exact⟨rfl,(qO _ _).alloc lR _⟩
theorem sumM_okR {T:AT} (a:T.ok):sumM (fun p=>p.len) (T.told 0)=T.rns:=by
 rw [Yi,AT.rns_told]
theorem seekER (T:AT) (aq:Option Addr) (bs:List Nat) (base:Nat) (k:Int) (w:World) (bv:Lies w base T aq bs) (ar:T.ok) (cx:0<=k∧k<=8192):
  Calls prog 181 #[.pointer aq,qJ k,.func (.func 182) #[] #[]] w fun e w'=>e= .returned (fndV (seekP (fun p=>p.len) T k).off (seekP (fun p=>p.len) T k).len (seekP (fun p=>p.len) T k).brk (seekT (fun p=>p.len) T k))∧Below w.heap.size w w':=by
 have ag:=qG (Yn (fun p=>p.len) T k);generalize seekT (fun p=>p.len) T k=cq at ag |-;generalize h:seekP (fun p=>p.len) T k=ad;have a5:=qG h.symm;clear h;have a6:=qG bv;have O:=qG ar;have b8:=ar.bd;have b9:(T.ht:Int)<=8192:=by have:=zk T;omega
 have a7:=qG (((qO w.heap.size w).alloc lR (.cells #[qJ 0,qJ 0,qJ 0,qJ 0,qJ 0,qJ 0,qJ 0,qJ 0] 245)).alloc (by simp) (.cells #[qJ 0,qJ 0,qJ 0,qJ 0,qJ 0,qJ 0,qJ 0,qJ 0] 245))
 have a8:Fnd ((w.alloc (.cells #[qJ 0,qJ 0,qJ 0,qJ 0,qJ 0,qJ 0,qJ 0,qJ 0] 245)).alloc (.cells #[qJ 0,qJ 0,qJ 0,qJ 0,qJ 0,qJ 0,qJ 0,qJ 0] 245)) (w.heap.size+1) 0 0 0 0 0 0 0 0:=by
  have:=xg (w.alloc (.cells #[qJ 0,qJ 0,qJ 0,qJ 0,qJ 0,qJ 0,qJ 0,qJ 0] 245)) (.cells #[qJ 0,qJ 0,qJ 0,qJ 0,qJ 0,qJ 0,qJ 0,qJ 0] 245);simpa [Fnd]using this
 have a9:Fnd ((w.alloc (.cells #[qJ 0,qJ 0,qJ 0,qJ 0,qJ 0,qJ 0,qJ 0,qJ 0] 245)).alloc (.cells #[qJ 0,qJ 0,qJ 0,qJ 0,qJ 0,qJ 0,qJ 0,qJ 0] 245)) w.heap.size 0 0 0 0 0 0 0 0:=by
  unfold Fnd;rw [vV _ _ _ (by simp)];exact xg _ _
 have ba:=qG a8;have bc:=qG a9;clear bv ar a8 a9;go_enter func181,ntmps181;go_wp2_with fail;generalize (w.alloc (.cells #[qJ 0,qJ 0,qJ 0,qJ 0,qJ 0,qJ 0,qJ 0,qJ 0] 245)).alloc (.cells #[qJ 0,qJ 0,qJ 0,qJ 0,qJ 0,qJ 0,qJ 0,qJ 0] 245)=dx at *
 go_loopg [0,1] T.ht (fun g cu cv wr=>∃ (S:AT) (ap:Option Addr) (cs:List Nat) (d:Int) (i:Nat) (n b s:Int),cu= .pointer ap∧cv=qJ d∧g=S.ht∧Lies w base S ap cs∧S.ok∧(0<=d∧d<=8192)∧
  ((i:Int)+S.its<=8192∧0<=n∧n+S.rns<=8192∧0<=b∧b+S.bks<=8192∧0<=s∧s+S.ht<=8192)∧Fnd wr (w.heap.size+1) 0 0 0 i n b 0 s∧Fnd wr w.heap.size 0 0 0 0 0 0 0 0∧Below w.heap.size w wr∧cq=yQ (fun p=>p.len) S d i n b s∧Hid (ad=seekP (fun p=>p.len) S d))
 case atStart=>exact⟨T,aq,bs,k,0,0,0,0,rfl,rfl,rfl,a6,O,cx,by omega,ba,bc,a7,ag,a5⟩
 obtain⟨S,ap,cs,d,i,n,b,s,rfl,rfl,rfl,bw,N,cy,bx,D,H,R,U,h⟩:=hrel;clear a6 O ag a5 a7 ba bc b8 b9;have c5:=D.lt;have c6:=H.lt;cases S with
 | nil=>
  obtain⟨rfl,rfl⟩:=bw;rw [Jp]at U;have A:=qG U;have c7:=qG D;have c8:=qG H;have ca:=qG R;obtain⟨m,o,q,t,u,x,y,z⟩:=D.c;obtain⟨au,av,aw,ax,ay,az,a0,a1⟩:=H.c;have cb:=D.fz 6;have B:=fun j=>H.fz j
  have cc:=B 0;have cd:=B 1;have ce:=B 2;have z3:=B 3;have cf:=B 4;have cg:=B 5;have ch:=B 6;have ci:=B 7;clear U D H R bx B;go_wp2;refine xr (v:=fndV 0 0 0 (i,n,b,d,s)) (by simp [results,results181,go_sem,au,av,aw,ax,ay,az,a0,a1];rfl) rfl ⟨by rw [A.out,h.out];rfl,?_⟩
  repeat (refine Below.setCell ?_ (by simp) _)
  exact ca
 | node l p r=>
  obtain⟨nb,ae,bz,bl,br,rfl,dy,V,b0,b1,rfl⟩:=bw;have c9:=N.left.bd;have da:=N.right.bd;have db:=N.piece;have ah:=sumM_okR N.left;have bd:((AT.node l p r).ht:Int)=1+max (l.ht:Int) r.ht:=(by simp only [AT.ht];omega);have be:((AT.node l p r).its:Int)=l.its+1+r.its:=(by simp only [AT.its];omega);have bf:(AT.node l p r).rns=l.rns+p.len+r.rns:=rfl;have bg:(AT.node l p r).bks=l.bks+p.brk+r.bks:=rfl;rw [bd,be,bf,bg]at bx;have dc:0<=l.rns∧l.rns<=8192∧0<=p.len∧p.len<=8192:=(by omega);have I:Hid (d<sumM (fun p=>p.len) (l.told 0)↔d<l.rns):=(by rw [ah];exact Iff.rfl);have C:=qG ah;have J:=qG U;have bh:=qG b0;have cj:=qG b1;have K:=qG V;have O:=qG N;have E:=V.lt;have ai:=qG (D.set7 (s+1));have bi:=qG (show Fnd (wr.setCell ⟨w.heap.size+1,7,none⟩ (qJ (s+1))) w.heap.size 0 0 0 0 0 0 0 0 from by unfold Fnd;rw [xm _ _ _ _ (by simp)];exact H);have aa:=qG (R.setCell (p:=⟨w.heap.size+1,7,none⟩) (by simp) (qJ (s+1)));obtain⟨m,o,q,t,u,x,y,z⟩:=D.c;have ck:=D.fz 7;have aj:=(R.cell (p:=⟨nb,3,none⟩) E).trans V.c3;have cl:(wr.setCell ⟨w.heap.size+1,7,none⟩ (qJ (s+1))).cell? ⟨nb,3,none⟩=some (.pointer ae):=(aa.cell (p:=⟨nb,3,none⟩) E).trans V.c3;clear U D H R b0 b1 V N ah bd be bf bg;go_wp2_with fail;generalize wr.setCell ⟨w.heap.size+1,7,none⟩ (qJ (s+1))=w1 at *
  have dd:=ai.lt;refine(allN l ae bl base w1 (bh.below aa lR)).mono ?_;rintro e cz ⟨rfl,af⟩;have ak:=qG (ai.below af (by omega));have bj:=qG (bi.below af (by omega));have al:=qG (aa.trans (af.mono (by omega)));clear af ai bi aa cl aj m o q t u x y z ck;have de:=ak.lt;go_wp2_with fail;refine(ownN p nb ae bz _ _ _ _ cz ((al.block nb E).trans K)).mono ?_;rintro e f ⟨rfl,W⟩;have df:=W.size;have bk:=qG ((ak.below W (by omega)).below (((qO f.heap.size f).alloc lR (.cells #[qJ l.its,qJ l.rns,qJ l.bks] 207)).alloc (by simp) (.cells #[qJ 1,qJ p.len,qJ p.brk] 207)) (by omega));have bm:=qG ((bj.below W (by omega)).below (((qO f.heap.size f).alloc lR (.cells #[qJ l.its,qJ l.rns,qJ l.bks] 207)).alloc (by simp) (.cells #[qJ 1,qJ p.len,qJ p.brk] 207)) (by omega));have bn:=qG ((((al.trans (W.mono (by omega)))).alloc (by omega) (.cells #[qJ l.its,qJ l.rns,qJ l.bks] 207)).alloc (by simp;omega) (.cells #[qJ 1,qJ p.len,qJ p.brk] 207));clear W ak bj al
  have bo:((f.alloc (.cells #[qJ l.its,qJ l.rns,qJ l.bks] 207)).alloc (.cells #[qJ 1,qJ p.len,qJ p.brk] 207)).heap[f.heap.size]? =some (.cells #[qJ l.its,qJ l.rns,qJ l.bks] 207 (0,0)):=by
   rw [vV _ _ _ (by simp)];exact xg _ _
  have bp:((f.alloc (.cells #[qJ l.its,qJ l.rns,qJ l.bks] 207)).alloc (.cells #[qJ 1,qJ p.len,qJ p.brk] 207)).heap[f.heap.size+1]? =some (.cells #[qJ 1,qJ p.len,qJ p.brk] 207 (0,0)):=by
   have:=xg (f.alloc (.cells #[qJ l.its,qJ l.rns,qJ l.bks] 207)) (.cells #[qJ 1,qJ p.len,qJ p.brk] 207);simpa using this
  have cm:((f.alloc (.cells #[qJ l.its,qJ l.rns,qJ l.bks] 207)).alloc (.cells #[qJ 1,qJ p.len,qJ p.brk] 207)).heap.size=f.heap.size+2:=(by simp);have am:=qG (Rnd.mk bk bm bn bo bp (by omega) (by omega));clear bo bp cm bk bm bn;unfold cnt;go_wp2_with fail;generalize (f.alloc (.cells #[qJ l.its,qJ l.rns,qJ l.bks] 207)).alloc (.cells #[qJ 1,qJ p.len,qJ p.brk] 207)=cr at *
  generalize f.heap.size=a at *
  have dg:=am.lo;refine(measR _ _ _ cr).mono ?_;rintro e c0 ⟨rfl,b2⟩;have F:=qG (am.below b2);clear b2 am;have aj:=(F.h.cell (p:=⟨nb,3,none⟩) E).trans K.c3;have dh:=F.sz;by_cases ao:d<l.rns
  ·have A:=qG (J.trans (Yo _ _ _ _ _ _ _ _ _ (I.2 ao)))
   have cn:Hid (ad=seekP (fun p=>p.len) l d):=qG (h.trans (by simp only [seekP];rw [xd (I.out.2 ao)]));clear J I h;go_wp2;go_roundg l.ht
   case measure=>simp only [AT.ht];omega
   exact⟨l,ae,bl,d,i,n,b,s+1,rfl,rfl,rfl,bh,O.left,cy,by omega,F.f,F.g,F.h,A,cn⟩
  have L:=fun cw=>ao (I.1 cw)
  obtain⟨a2,a3,a4⟩:=cc3 F.l;go_wp2_with fail;refine(measR _ _ _ c0).mono ?_;rintro e c1 ⟨rfl,b3⟩;have P:=qG (F.below b3);clear b3 F aj a2 a3 a4;obtain⟨a2,a3,a4⟩:=cc3 P.l;obtain⟨m,o,q,t,u,x,y,z⟩:=P.f.c;have di:=P.sz;go_wp2_with fail;refine(plusN _ _ _ _ _ _ c1 (by omega) (by omega) (by omega) (by omega) (by omega) (by omega)).mono ?_;rintro e c2 ⟨rfl,b4⟩;have G:=qG (P.below b4);clear b4 P a2 a3 a4 m o q t u x y z;obtain⟨m,o,q,t,u,x,y,z⟩:=G.f.c;have bq:=G.f.fz 3;have bt:=G.f.fz 4;have bu:=G.f.fz 5;have an:=qG (G.qC (i+l.its) (n+l.rns) (b+l.bks));have dj:=G.sz;obtain⟨X,Y,Z⟩:=cc3 an.o;unfold cnt;go_wp2_with fail;generalize ((c2.setCell ⟨w.heap.size+1,3,none⟩ (qJ (i+l.its))).setCell ⟨w.heap.size+1,4,none⟩ (qJ (n+l.rns))).setCell ⟨w.heap.size+1,5,none⟩ (qJ (b+l.bks))=ct at *
  clear G m o q t u x y z bq bt bu;refine(measR _ _ _ ct).mono ?_;rintro e c3 ⟨rfl,b5⟩;have c:=qG (an.below b5);clear b5 an X Y Z;have dk:=c.sz;by_cases ac:d - l.rns<p.len
  ·have A:=qG (J.trans (Yp _ _ _ _ _ _ _ _ _ L (by rw [C.out];exact ac)))
   have co:Hid (ad=p):=qG (h.trans (by simp only [seekP];rw [qZ L,xd (by rw [C.out];exact ac)]));rw [C.out]at A;clear J I C L h;obtain⟨m,o,q,t,u,x,y,z⟩:=c.f.c;obtain⟨au,av,aw,ax,ay,az,a0,a1⟩:=c.g.c;have cb:=c.f.fz 6;have cc:=c.g.fz 0;have cd:=c.g.fz 1;have ce:=c.g.fz 2;have z3:=c.g.fz 3;have cf:=c.g.fz 4;have cg:=c.g.fz 5;have ch:=c.g.fz 6;have ci:=c.g.fz 7;have dl:=c.f.fz 0;have dm:=c.f.fz 1;have dn:=c.f.fz 2;have dp:=(c.h.cell (p:=⟨nb,0,none⟩) E).trans K.c0;have dq:=(c.h.cell (p:=⟨nb,1,none⟩) E).trans K.c1;have dr:=(c.h.cell (p:=⟨nb,2,none⟩) E).trans K.c2;have ds:nb≠w.heap.size+1:=(by omega);have dt:nb≠w.heap.size:=(by omega);go_wp2;refine xr (v:=fndV p.off p.len p.brk (i+l.its,n+l.rns,b+l.bks,d - l.rns,s+1)) (by simp [results,results181,go_sem,au,av,aw,ax,ay,az,a0,a1];rfl) rfl ⟨by rw [A.out,co.out],?_⟩
   repeat (refine Below.setCell ?_ (by simp) _)
   exact c.h
  have A:=qG (J.trans (YW _ _ _ _ _ _ _ _ _ L (by rw [C.out];exact ac)));have cp:Hid (ad=seekP (fun p=>p.len) r (d - l.rns - p.len)):=qG (h.trans (by simp only [seekP];rw [qZ L,qZ (by rw [C.out];exact ac),C.out]));rw [C.out]at A;clear J I C L h;obtain⟨X,Y,Z⟩:=cc3 c.o;go_wp2_with fail;refine(measR _ _ _ c3).mono ?_;rintro e c4 ⟨rfl,b6⟩;have Q:=qG (c.below b6);clear b6 c X Y Z;obtain⟨X,Y,Z⟩:=cc3 Q.o;obtain⟨m,o,q,t,u,x,y,z⟩:=Q.f.c;have du:=Q.sz;go_wp2_with fail;refine(plusN _ _ _ _ _ _ c4 (by omega) (by omega) (by omega) (by omega) (by omega) (by omega)).mono ?_;rintro e dz ⟨rfl,b7⟩;have M:=qG (Q.below b7);clear b7 Q X Y Z m o q t u x y z;obtain⟨m,o,q,t,u,x,y,z⟩:=M.f.c;have bq:=M.f.fz 3;have bt:=M.f.fz 4;have bu:=M.f.fz 5;have ab:=qG (M.qC (i+l.its+1) (n+l.rns+p.len) (b+l.bks+p.brk));have dv:=M.sz;have dw:=(ab.h.cell (p:=⟨nb,4,none⟩) E).trans K.c4;unfold cnt;go_wp2;go_roundg r.ht
  case measure=>simp only [AT.ht];omega
  exact⟨r,bz,br,d - l.rns - p.len,i+l.its+1,n+l.rns+p.len,b+l.bks+p.brk,s+1,rfl,rfl,rfl,cj,O.right,by omega,by omega,ab.f,ab.g,ab.h,A,cp⟩
theorem measI (i n k:Int) (w:World):Calls prog 183 #[cnt i n k] w fun e w'=>e= .returned (qJ i)∧Below w.heap.size w w':=by
 unfold cnt;go_enter func183,ntmps183;go_wp2;go_ret;exact⟨rfl,(qO _ _).alloc lR _⟩
theorem zBn:∀xs:List It,sumM (fun _=>1) xs=(xs.length:Int)
 | []=>rfl
 | x::xs=>by simp only [sumM,zBn xs,xe];omega
theorem sumM_okI {T:AT} (a:T.ok):sumM (fun _=>1) (T.told 0)=(T.its:Int):=by
 rw [zBn,AT.told_length]
theorem seekEI (T:AT) (aq:Option Addr) (bs:List Nat) (base:Nat) (k:Int) (w:World) (bv:Lies w base T aq bs) (ar:T.ok) (cx:0<=k∧k<=8192):
  Calls prog 181 #[.pointer aq,qJ k,.func (.func 183) #[] #[]] w fun e w'=>e= .returned (fndV (seekP (fun _=>1) T k).off (seekP (fun _=>1) T k).len (seekP (fun _=>1) T k).brk (seekT (fun _=>1) T k))∧Below w.heap.size w w':=by
 have ag:=qG (Yn (fun _=>1) T k);generalize seekT (fun _=>1) T k=cq at ag |-;generalize h:seekP (fun _=>1) T k=ad;have a5:=qG h.symm;clear h;have a6:=qG bv;have O:=qG ar;have b8:=ar.bd;have b9:(T.ht:Int)<=8192:=by have:=zk T;omega
 have a7:=qG (((qO w.heap.size w).alloc lR (.cells #[qJ 0,qJ 0,qJ 0,qJ 0,qJ 0,qJ 0,qJ 0,qJ 0] 245)).alloc (by simp) (.cells #[qJ 0,qJ 0,qJ 0,qJ 0,qJ 0,qJ 0,qJ 0,qJ 0] 245))
 have a8:Fnd ((w.alloc (.cells #[qJ 0,qJ 0,qJ 0,qJ 0,qJ 0,qJ 0,qJ 0,qJ 0] 245)).alloc (.cells #[qJ 0,qJ 0,qJ 0,qJ 0,qJ 0,qJ 0,qJ 0,qJ 0] 245)) (w.heap.size+1) 0 0 0 0 0 0 0 0:=by
  have:=xg (w.alloc (.cells #[qJ 0,qJ 0,qJ 0,qJ 0,qJ 0,qJ 0,qJ 0,qJ 0] 245)) (.cells #[qJ 0,qJ 0,qJ 0,qJ 0,qJ 0,qJ 0,qJ 0,qJ 0] 245);simpa [Fnd]using this
 have a9:Fnd ((w.alloc (.cells #[qJ 0,qJ 0,qJ 0,qJ 0,qJ 0,qJ 0,qJ 0,qJ 0] 245)).alloc (.cells #[qJ 0,qJ 0,qJ 0,qJ 0,qJ 0,qJ 0,qJ 0,qJ 0] 245)) w.heap.size 0 0 0 0 0 0 0 0:=by
  unfold Fnd;rw [vV _ _ _ (by simp)];exact xg _ _
 have ba:=qG a8;have bc:=qG a9;clear bv ar a8 a9;go_enter func181,ntmps181;go_wp2_with fail;generalize (w.alloc (.cells #[qJ 0,qJ 0,qJ 0,qJ 0,qJ 0,qJ 0,qJ 0,qJ 0] 245)).alloc (.cells #[qJ 0,qJ 0,qJ 0,qJ 0,qJ 0,qJ 0,qJ 0,qJ 0] 245)=dx at *
 go_loopg [0,1] T.ht (fun g cu cv wr=>∃ (S:AT) (ap:Option Addr) (cs:List Nat) (d:Int) (i:Nat) (n b s:Int),cu= .pointer ap∧cv=qJ d∧g=S.ht∧Lies w base S ap cs∧S.ok∧(0<=d∧d<=8192)∧
  ((i:Int)+S.its<=8192∧0<=n∧n+S.rns<=8192∧0<=b∧b+S.bks<=8192∧0<=s∧s+S.ht<=8192)∧Fnd wr (w.heap.size+1) 0 0 0 i n b 0 s∧Fnd wr w.heap.size 0 0 0 0 0 0 0 0∧Below w.heap.size w wr∧cq=yQ (fun _=>1) S d i n b s∧Hid (ad=seekP (fun _=>1) S d))
 case atStart=>exact⟨T,aq,bs,k,0,0,0,0,rfl,rfl,rfl,a6,O,cx,by omega,ba,bc,a7,ag,a5⟩
 obtain⟨S,ap,cs,d,i,n,b,s,rfl,rfl,rfl,bw,N,cy,bx,D,H,R,U,h⟩:=hrel;clear a6 O ag a5 a7 ba bc b8 b9;have c5:=D.lt;have c6:=H.lt;cases S with
 | nil=>
  obtain⟨rfl,rfl⟩:=bw;rw [Jp]at U;have A:=qG U;have c7:=qG D;have c8:=qG H;have ca:=qG R;obtain⟨m,o,q,t,u,x,y,z⟩:=D.c;obtain⟨au,av,aw,ax,ay,az,a0,a1⟩:=H.c;have cb:=D.fz 6;have B:=fun j=>H.fz j
  have cc:=B 0;have cd:=B 1;have ce:=B 2;have z3:=B 3;have cf:=B 4;have cg:=B 5;have ch:=B 6;have ci:=B 7;clear U D H R bx B;go_wp2;refine xr (v:=fndV 0 0 0 (i,n,b,d,s)) (by simp [results,results181,go_sem,au,av,aw,ax,ay,az,a0,a1];rfl) rfl ⟨by rw [A.out,h.out];rfl,?_⟩
  repeat (refine Below.setCell ?_ (by simp) _)
  exact ca
 | node l p r=>
  obtain⟨nb,ae,bz,bl,br,rfl,dy,V,b0,b1,rfl⟩:=bw;have c9:=N.left.bd;have da:=N.right.bd;have db:=N.piece;have ah:=sumM_okI N.left;have bd:((AT.node l p r).ht:Int)=1+max (l.ht:Int) r.ht:=(by simp only [AT.ht];omega);have be:((AT.node l p r).its:Int)=l.its+1+r.its:=(by simp only [AT.its];omega);have bf:(AT.node l p r).rns=l.rns+p.len+r.rns:=rfl;have bg:(AT.node l p r).bks=l.bks+p.brk+r.bks:=rfl;rw [bd,be,bf,bg]at bx;have dc:0<=(l.its:Int)∧(l.its:Int)<=8192∧0<=1∧1<=8192:=(by omega);have I:Hid (d<sumM (fun _=>1) (l.told 0)↔d<(l.its:Int)):=(by rw [ah];exact Iff.rfl);have C:=qG ah;have J:=qG U;have bh:=qG b0;have cj:=qG b1;have K:=qG V;have O:=qG N;have E:=V.lt;have ai:=qG (D.set7 (s+1));have bi:=qG (show Fnd (wr.setCell ⟨w.heap.size+1,7,none⟩ (qJ (s+1))) w.heap.size 0 0 0 0 0 0 0 0 from by unfold Fnd;rw [xm _ _ _ _ (by simp)];exact H);have aa:=qG (R.setCell (p:=⟨w.heap.size+1,7,none⟩) (by simp) (qJ (s+1)));obtain⟨m,o,q,t,u,x,y,z⟩:=D.c;have ck:=D.fz 7;have aj:=(R.cell (p:=⟨nb,3,none⟩) E).trans V.c3;have cl:(wr.setCell ⟨w.heap.size+1,7,none⟩ (qJ (s+1))).cell? ⟨nb,3,none⟩=some (.pointer ae):=(aa.cell (p:=⟨nb,3,none⟩) E).trans V.c3;clear U D H R b0 b1 V N ah bd be bf bg;go_wp2_with fail;generalize wr.setCell ⟨w.heap.size+1,7,none⟩ (qJ (s+1))=w1 at *
  have dd:=ai.lt;refine(allN l ae bl base w1 (bh.below aa lR)).mono ?_;rintro e cz ⟨rfl,af⟩;have ak:=qG (ai.below af (by omega));have bj:=qG (bi.below af (by omega));have al:=qG (aa.trans (af.mono (by omega)));clear af ai bi aa cl aj m o q t u x y z ck;have de:=ak.lt;go_wp2_with fail;refine(ownN p nb ae bz _ _ _ _ cz ((al.block nb E).trans K)).mono ?_;rintro e f ⟨rfl,W⟩;have df:=W.size;have bk:=qG ((ak.below W (by omega)).below (((qO f.heap.size f).alloc lR (.cells #[qJ l.its,qJ l.rns,qJ l.bks] 207)).alloc (by simp) (.cells #[qJ 1,qJ p.len,qJ p.brk] 207)) (by omega));have bm:=qG ((bj.below W (by omega)).below (((qO f.heap.size f).alloc lR (.cells #[qJ l.its,qJ l.rns,qJ l.bks] 207)).alloc (by simp) (.cells #[qJ 1,qJ p.len,qJ p.brk] 207)) (by omega));have bn:=qG ((((al.trans (W.mono (by omega)))).alloc (by omega) (.cells #[qJ l.its,qJ l.rns,qJ l.bks] 207)).alloc (by simp;omega) (.cells #[qJ 1,qJ p.len,qJ p.brk] 207));clear W ak bj al
  have bo:((f.alloc (.cells #[qJ l.its,qJ l.rns,qJ l.bks] 207)).alloc (.cells #[qJ 1,qJ p.len,qJ p.brk] 207)).heap[f.heap.size]? =some (.cells #[qJ l.its,qJ l.rns,qJ l.bks] 207 (0,0)):=by
   rw [vV _ _ _ (by simp)];exact xg _ _
  have bp:((f.alloc (.cells #[qJ l.its,qJ l.rns,qJ l.bks] 207)).alloc (.cells #[qJ 1,qJ p.len,qJ p.brk] 207)).heap[f.heap.size+1]? =some (.cells #[qJ 1,qJ p.len,qJ p.brk] 207 (0,0)):=by
   have:=xg (f.alloc (.cells #[qJ l.its,qJ l.rns,qJ l.bks] 207)) (.cells #[qJ 1,qJ p.len,qJ p.brk] 207);simpa using this
  have cm:((f.alloc (.cells #[qJ l.its,qJ l.rns,qJ l.bks] 207)).alloc (.cells #[qJ 1,qJ p.len,qJ p.brk] 207)).heap.size=f.heap.size+2:=(by simp);have am:=qG (Rnd.mk bk bm bn bo bp (by omega) (by omega));clear bo bp cm bk bm bn;unfold cnt;go_wp2_with fail;generalize (f.alloc (.cells #[qJ l.its,qJ l.rns,qJ l.bks] 207)).alloc (.cells #[qJ 1,qJ p.len,qJ p.brk] 207)=cr at *
  generalize f.heap.size=a at *
  have dg:=am.lo;refine(measI _ _ _ cr).mono ?_;rintro e c0 ⟨rfl,b2⟩;have F:=qG (am.below b2);clear b2 am;have aj:=(F.h.cell (p:=⟨nb,3,none⟩) E).trans K.c3;have dh:=F.sz;by_cases ao:d<(l.its:Int)
  ·have A:=qG (J.trans (Yo _ _ _ _ _ _ _ _ _ (I.2 ao)))
   have cn:Hid (ad=seekP (fun _=>1) l d):=qG (h.trans (by simp only [seekP];rw [xd (I.out.2 ao)]));clear J I h;go_wp2;go_roundg l.ht
   case measure=>simp only [AT.ht];omega
   exact⟨l,ae,bl,d,i,n,b,s+1,rfl,rfl,rfl,bh,O.left,cy,by omega,F.f,F.g,F.h,A,cn⟩
  have L:=fun cw=>ao (I.1 cw)
  obtain⟨a2,a3,a4⟩:=cc3 F.l;go_wp2_with fail;refine(measI _ _ _ c0).mono ?_;rintro e c1 ⟨rfl,b3⟩;have P:=qG (F.below b3);clear b3 F aj a2 a3 a4;obtain⟨a2,a3,a4⟩:=cc3 P.l;obtain⟨m,o,q,t,u,x,y,z⟩:=P.f.c;have di:=P.sz;go_wp2_with fail;refine(plusN _ _ _ _ _ _ c1 (by omega) (by omega) (by omega) (by omega) (by omega) (by omega)).mono ?_;rintro e c2 ⟨rfl,b4⟩;have G:=qG (P.below b4);clear b4 P a2 a3 a4 m o q t u x y z;obtain⟨m,o,q,t,u,x,y,z⟩:=G.f.c;have bq:=G.f.fz 3;have bt:=G.f.fz 4;have bu:=G.f.fz 5;have an:=qG (G.qC (i+l.its) (n+l.rns) (b+l.bks));have dj:=G.sz;obtain⟨X,Y,Z⟩:=cc3 an.o;unfold cnt;go_wp2_with fail;generalize ((c2.setCell ⟨w.heap.size+1,3,none⟩ (qJ (i+l.its))).setCell ⟨w.heap.size+1,4,none⟩ (qJ (n+l.rns))).setCell ⟨w.heap.size+1,5,none⟩ (qJ (b+l.bks))=ct at *
  clear G m o q t u x y z bq bt bu;refine(measI _ _ _ ct).mono ?_;rintro e c3 ⟨rfl,b5⟩;have c:=qG (an.below b5);clear b5 an X Y Z;have dk:=c.sz;by_cases ac:d - (l.its:Int)<1
  ·have A:=qG (J.trans (Yp _ _ _ _ _ _ _ _ _ L (by rw [C.out];exact ac)))
   have co:Hid (ad=p):=qG (h.trans (by simp only [seekP];rw [qZ L,xd (by rw [C.out];exact ac)]));rw [C.out]at A;clear J I C L h;obtain⟨m,o,q,t,u,x,y,z⟩:=c.f.c;obtain⟨au,av,aw,ax,ay,az,a0,a1⟩:=c.g.c;have cb:=c.f.fz 6;have cc:=c.g.fz 0;have cd:=c.g.fz 1;have ce:=c.g.fz 2;have z3:=c.g.fz 3;have cf:=c.g.fz 4;have cg:=c.g.fz 5;have ch:=c.g.fz 6;have ci:=c.g.fz 7;have dl:=c.f.fz 0;have dm:=c.f.fz 1;have dn:=c.f.fz 2;have dp:=(c.h.cell (p:=⟨nb,0,none⟩) E).trans K.c0;have dq:=(c.h.cell (p:=⟨nb,1,none⟩) E).trans K.c1;have dr:=(c.h.cell (p:=⟨nb,2,none⟩) E).trans K.c2;have ds:nb≠w.heap.size+1:=(by omega);have dt:nb≠w.heap.size:=(by omega);go_wp2;refine xr (v:=fndV p.off p.len p.brk (i+l.its,n+l.rns,b+l.bks,d - (l.its:Int),s+1)) (by simp [results,results181,go_sem,au,av,aw,ax,ay,az,a0,a1];rfl) rfl ⟨by rw [A.out,co.out],?_⟩
   repeat (refine Below.setCell ?_ (by simp) _)
   exact c.h
  have A:=qG (J.trans (YW _ _ _ _ _ _ _ _ _ L (by rw [C.out];exact ac)));have cp:Hid (ad=seekP (fun _=>1) r (d - (l.its:Int) - 1)):=qG (h.trans (by simp only [seekP];rw [qZ L,qZ (by rw [C.out];exact ac),C.out]));rw [C.out]at A;clear J I C L h;obtain⟨X,Y,Z⟩:=cc3 c.o;go_wp2_with fail;refine(measI _ _ _ c3).mono ?_;rintro e c4 ⟨rfl,b6⟩;have Q:=qG (c.below b6);clear b6 c X Y Z;obtain⟨X,Y,Z⟩:=cc3 Q.o;obtain⟨m,o,q,t,u,x,y,z⟩:=Q.f.c;have du:=Q.sz;go_wp2_with fail;refine(plusN _ _ _ _ _ _ c4 (by omega) (by omega) (by omega) (by omega) (by omega) (by omega)).mono ?_;rintro e dz ⟨rfl,b7⟩;have M:=qG (Q.below b7);clear b7 Q X Y Z m o q t u x y z;obtain⟨m,o,q,t,u,x,y,z⟩:=M.f.c;have bq:=M.f.fz 3;have bt:=M.f.fz 4;have bu:=M.f.fz 5;have ab:=qG (M.qC (i+l.its+1) (n+l.rns+p.len) (b+l.bks+p.brk));have dv:=M.sz;have dw:=(ab.h.cell (p:=⟨nb,4,none⟩) E).trans K.c4;unfold cnt;go_wp2;go_roundg r.ht
  case measure=>simp only [AT.ht];omega
  exact⟨r,bz,br,d - (l.its:Int) - 1,i+l.its+1,n+l.rns+p.len,b+l.bks+p.brk,s+1,rfl,rfl,rfl,cj,O.right,by omega,by omega,ab.f,ab.g,ab.h,A,cp⟩
def seg (xs:List It) (lo hi:Nat):List It:=(xs.drop lo).take (hi - lo)
theorem j6 (xs:List It) (lo hi i:Nat) (a:i<hi - lo):(seg xs lo hi)[i]? =xs[lo+i]?:=by
 rw [seg,xN,xd a,vn]
theorem Xi (xs:List It) (lo hi i:Nat) (a:hi - lo<=i):(seg xs lo hi)[i]? =none:=by
 rw [seg,xN,qZ (by omega)]
theorem jz (xs:List It) (lo hi:Nat) (a:hi<=lo):seg xs lo hi= []:=by
 rw [seg,show hi - lo=0 by omega];rfl
theorem seg_full (xs:List It):seg xs 0 xs.length=xs:=by simp [seg]
theorem Yb (xs:List It) (lo hi:Nat) (a:hi<=xs.length):(seg xs lo hi).length=hi - lo:=by
 rw [seg,qN,qR];omega
theorem J8 (xs:List It) (lo a hi:Nat) (y:It) (h:lo<=a) (k:a<hi) (b:xs[a]? =some y):seg xs lo hi=seg xs lo a++y::seg xs (a+1) hi:=by
 apply kX;intro i
 have f:a<xs.length:=by
  rcases xR a xs.length with g | g
  ·exact g
  rw [xW g]at b;cases b
 have c:(seg xs lo a).length=a - lo:=Yb xs lo a (by omega);rcases kB i (a - lo)with g | g | g
 ·rw [xx (by omega),j6 _ _ _ _ (by omega),j6 _ _ _ _ (by omega)]
 ·rw [xa (by omega),c,j6 _ _ _ _ (by omega),g]
  simp only [vG,ks];rw [show lo+(a - lo)=a by omega,b]
 rw [xa (by omega),c];obtain⟨j,e⟩:∃j,i - (a - lo)=j+1:=⟨i - (a - lo) - 1,by omega⟩
 rw [e,xY];by_cases d:i<hi - lo
 ·rw [j6 _ _ _ _ d,j6 _ _ _ _ (by omega),show a+1+j=lo+i by omega]
 rw [Xi _ _ _ _ (by omega),Xi _ _ _ _ (by omega)]
theorem Ys (xs:List It) (lo k:Nat) (x:It) (a:lo<=k) (b:xs[k]? =some x):seg xs lo (k+1)=seg xs lo k++ [x]:=by
 rw [J8 xs lo k (k+1) x a (by omega) b,jz xs (k+1) (k+1) (by omega)]
theorem zEe {xs:List It} {lo hi:Nat} {z:It} (a:z∈seg xs lo hi):∃i,lo<=i∧i<hi∧xs[i]? =some z:=by
 obtain⟨i,hi'⟩:=xM.1 a;by_cases g:i<hi - lo
 ·rw [j6 _ _ _ _ g]at hi';exact⟨lo+i,by omega,by omega,hi'⟩
 rw [Xi _ _ _ _ (by omega)]at hi';cases hi'
def Scan (xs:List It) (b:Int) (lo k:Nat) (at_:Int):Prop:=
 (at_= -1∧∀z∈seg xs lo k,b<z.lv)∨(∃ (a:Nat) (y:It),at_=a∧lo<=a∧a<k∧xs[a]? =some y∧y.lv=b∧(∀z∈seg xs lo a,b<z.lv)∧(∀z∈seg xs (a+1) k,b<z.lv))
theorem Scan.bd {xs:List It} {c:Int} {lo k:Nat} {a:Int} (b:Scan xs c lo k a): -1<=a∧(a:Int)<k∨a= -1:=by
 rcases b with ⟨rfl,_⟩ | ⟨a,y,rfl,_,b,_⟩
 ·right;rfl
 left;omega
theorem zFg (xs:List It) (d:Int) (lo hi k:Nat) (x:It) (i:lo<=k) (j:k<hi) (f:xs[k]? =some x) (l:x.lv<d):cutAt d (seg xs lo hi)=none:=by
 apply Y6;rintro ⟨a,y,b,e,m,g,h⟩;have c:x∈seg xs lo hi:=xM.2 ⟨k - lo,by rw [j6 _ _ _ _ (by omega),show lo+(k - lo)=k by omega];exact f⟩;rw [e]at c;rcases xb.1 c with c | c
 ·have:=g x c;omega
 rcases xC.1 c with rfl | c
 ·omega
 have:=h x c;omega
theorem zEf {A B:List It} {y z:It} {b:Int} (c:∀z∈A,b<z.lv) (d:∀z∈B,b<z.lv) {i:Nat} (a:(A++y::B)[i]? =some z) (f:z.lv=b):i=A.length:=by
 rcases kB i A.length with g | g | g
 ·rw [xx g]at a
  have:=c z (xM.2 ⟨i,a⟩);omega
 ·exact g
 rw [xa (by omega)]at a;obtain⟨j,e⟩:∃j,i - A.length=j+1:=⟨i - A.length - 1,by omega⟩
 rw [e,xY]at a;have:=d z (xM.2 ⟨j,a⟩);omega
theorem zD0 (xs:List It) (b:Int) (lo hi a k:Nat) (x y:It) (n:lo<=a) (o:a<k) (p:k<hi) (i:xs[a]? =some y) (j:xs[k]? =some x) (l:y.lv=b) (m:x.lv=b):cutAt b (seg xs lo hi)=none:=by
 apply Y6;rintro ⟨A,c,B,e,q,d,f⟩;have g:(A++c::B)[k - lo]? =some x:=by rw [<- e,j6 _ _ _ _ (by omega),show lo+(k - lo)=k by omega];exact j
 have h:(A++c::B)[a - lo]? =some y:=by rw [<- e,j6 _ _ _ _ (by omega),show lo+(a - lo)=a by omega];exact i
 have:=zEf d f g m;have:=zEf d f h l;omega
theorem zFh (xs:List It) (a:Int) (lo hi:Nat) (b:∀z∈seg xs lo hi,a<z.lv):cutAt a (seg xs lo hi)=none:=by
 apply Y6;rintro ⟨A,c,B,e,d,f,g⟩;have:=b c (by rw [e];simp);omega
theorem zAg:∀ (f:Nat) (c:Int) (xs:List It),-1<=shp f c xs∧shp f c xs<=f
 | 0,c,xs=>by simp only [shp];split<;>omega
 | f+1,c,xs=>by
  simp only [shp]
  split
  ·omega
  split
  ·omega
  rename_i a y b _;have d:=zAg f (c+1) a;have e:=zAg f (c+1) b
  split
  ·omega
  split<;>omega
theorem shp_cut (f:Nat) (b:Int) (xs:List It) (lo a hi:Nat) (y:It) (c:lo<=a) (d:a<hi) (e:xs[a]? =some y) (g:y.lv=b) (h:∀z∈seg xs lo a,b<z.lv) (i:∀z∈seg xs (a+1) hi,b<z.lv):
  shp (f+1) b (seg xs lo hi)=(if shp f (b+1) (seg xs lo a)<0 then -1 else if shp f (b+1) (seg xs (a+1) hi)<0∨shp f (b+1) (seg xs lo a) - shp f (b+1) (seg xs (a+1) hi) > 1∨shp f (b+1) (seg xs (a+1) hi) - shp f (b+1) (seg xs lo a) > 1 then -1 else max (shp f (b+1) (seg xs lo a)) (shp f (b+1) (seg xs (a+1) hi))+1):=by
 rw [J8 xs lo a hi y c d e,shp,qZ (by simp),je b _ _ _ g h i]
theorem zFi (f:Nat) (a:Int) (xs:List It) (lo hi:Nat) (d:lo<hi) (b:hi<=xs.length) (c:cutAt a (seg xs lo hi)=none):shp (f+1) a (seg xs lo hi)= -1:=by
 rw [shp,qZ (by intro e;have:=Yb xs lo hi b;rw [e]at this;simp at this;omega),c]
theorem shapeN (B:Nat) (v:Value) (xs:List It) (w:World) (r:RdI B w v xs) (av:xs.length<=1048576):∀ (f:Nat) (c:Int) (lo hi:Nat),c+f=41->0<=c->lo<=hi->hi<=xs.length->
  Calls prog 75 #[v,qJ lo,qJ hi,qJ c] w fun e w'=>e= .returned (qJ (shp f c (seg xs lo hi)))∧w'=w:=by
 intro f
 induction f with
 | zero=>
  intro c lo hi ad ae S C;obtain rfl:c=41:=(by omega);obtain⟨ao,cap,rfl⟩:=r.val;clear r;by_cases K:hi<=lo
  ·rw [jz _ _ _ K]
   have G:(lo:Int)>=hi:=(by omega);go_enter func75,ntmps75;go_wp2_with fail;go_ret;exact⟨rfl,rfl⟩
  have e:shp 0 41 (seg xs lo hi)= -1:=(by rw [shp,qZ (by intro e;have:=Yb xs lo hi C;rw [e]at this;simp at this;omega)]);rw [e];have G:¬ (lo:Int)>=hi:=(by omega);go_enter func75,ntmps75;go_wp2_with fail;go_ret;exact⟨rfl,rfl⟩
 | succ f O=>
  intro c lo hi ad ae S C;by_cases K:hi<=lo
  ·rw [jz _ _ _ K]
   obtain⟨ao,cap,rfl⟩:=r.val;clear r O;have G:(lo:Int)>=hi:=(by omega);go_enter func75,ntmps75;go_wp2_with fail;go_ret;exact⟨by simp [shp],rfl⟩
  obtain⟨b,off,cap,rfl,⟨aw,ax,ag⟩,ay,X⟩:=r.at (by intro e;subst e;simp at C;omega)
  have H:=qG O;have Z:=qG X;have o:=qG (show ∀a y,lo<=a->a<hi->xs[a]? =some y->y.lv=c->(∀z∈seg xs lo a,c<z.lv)->(∀z∈seg xs (a+1) hi,c<z.lv)->_ from fun a y=>shp_cut f c xs lo a hi y);have l:=qG (zFi f c xs lo hi (by omega) C);generalize shp (f+1) c (seg xs lo hi)=W at o l |-;unfold maxLen at ag;have G:¬ (lo:Int)>=hi:=(by omega);have ai:¬c > 40:=(by omega);clear O X r;generalize au:xs.length=n at *
  go_enter func75,ntmps75;go_wp2_with fail;go_loopw [9,10] (fun a i wr=>∃ (at_:Int) (k:Nat),lo<=k∧k<=hi∧a=qJ at_∧i=qJ k∧Scan xs c lo k at_∧wr=w) (fun _ i _=>hi - (intOf i).toNat)
  case atStart=>exact⟨-1,lo,lR,S,rfl,rfl,.inl ⟨rfl,by rw [jz _ _ _ lR];simp⟩,rfl⟩
  obtain⟨at_,k,L,az,rfl,rfl,M,rfl⟩:=hrel;have p:=qG M;have aa:=M.bd;clear M;by_cases T:k<hi
  ·obtain⟨x,Y,ah,a0,a1,a2⟩:=ZV (B:=B) (cap:=cap) Z.out (show k<xs.length by omega)
   have u:=qG Y;have aj:b<wr.heap.size:=xQ wr _ ah;have ak:(k:Int)<hi:=(by omega);clear Y;by_cases af:x.lv<c
   ·have d:=qG (l.out (zFg xs c lo hi k x L T u.out af))
    clear o l;go_wp2;go_ret;exact⟨by first | rfl | (rw [d.out];rfl),rfl⟩
   by_cases U:x.lv=c
   ·by_cases aq:0<=at_
    ·have d:=qG (l.out (by
      rcases p.out with ⟨N,_⟩ | ⟨a,y,rfl,A,D,s,t,_,_⟩
      ·omega
      exact zD0 xs c lo hi a k x y A D T s u.out t U))
     clear o l;go_wp2;go_ret;exact⟨by first | rfl | (rw [d.out];rfl),rfl⟩
    have I:=qG (show Scan xs c lo (k+1) k from by
     rcases p.out with ⟨N,g⟩ | ⟨a,y,rfl,_⟩
     ·exact .inr ⟨k,x,rfl,L,by omega,u.out,U,g,by rw [jz _ _ _ lR];simp⟩
     omega)
    clear o l;go_wp2;go_roundw
    case rel=>exact⟨k,k+1,by omega,by omega,rfl,by go_num,I.out,by first | rfl | trivial⟩
    simp [intOf];omega
   have I:=qG (show Scan xs c lo (k+1) at_ from by
    rcases p.out with ⟨N,g⟩ | ⟨a,y,rfl,A,D,s,t,E,F⟩
    ·refine .inl ⟨N,fun z h=>?_⟩
     rw [Ys xs lo k x L u.out]at h;rcases xb.1 h with h | h
     ·exact g z h
     simp at h;subst h;omega
    refine .inr ⟨a,y,rfl,A,by omega,s,t,E,fun z h=>?_⟩;rw [Ys xs (a+1) k x (by omega) u.out]at h;rcases xb.1 h with h | h
    ·exact F z h
    simp at h;subst h;omega)
   clear o l;go_wp2;go_roundw
   case rel=>exact⟨at_,k+1,by omega,by omega,rfl,by go_num,I.out,by first | rfl | trivial⟩
   simp [intOf];omega
  obtain rfl:k=hi:=(by omega);have al:¬ (k:Int)<(k:Int):=(by omega);rcases p.out with ⟨rfl,g⟩ | ⟨a,y,rfl,A,D,s,t,E,F⟩
  ·have d:=qG (l.out (zFh xs c lo k g))
   clear o l g p;go_wp2;go_ret;exact⟨by first | rfl | (rw [d.out];rfl),rfl⟩
  have d:=qG (o.out a y A D s t E F);have ab:=qG (H.out (c+1) lo a (by omega) (by omega) (by omega) (by omega));have P:=qG (H.out (c+1) (a+1) k (by omega) (by omega) (by omega) (by omega));have am:=zAg f (c+1) (seg xs lo a);have an:=zAg f (c+1) (seg xs (a+1) k);generalize shp f (c+1) (seg xs lo a)=m at *
  generalize shp f (c+1) (seg xs (a+1) k)=j at *
  have ap:(f:Int)<=41:=(by omega);clear o l s t E F p H aa;go_wp2_with fail;refine ab.out.mono ?_;rintro e w1 ⟨rfl,rfl⟩;by_cases V:m<0
  ·rw [xd V]at d
   go_wp2_with fail;go_ret;exact⟨by first | rfl | (rw [d.out];rfl),rfl⟩
  rw [qZ V]at d;simp only [Int.natCast_add,Int.cast_ofNat_Int]at P;go_wp2_with fail;refine P.out.mono ?_;rintro e a3 ⟨rfl,rfl⟩;by_cases q:j<0∨m - j > 1∨j - m > 1
  ·rw [xd q]at d
   rcases Int.lt_or_le j 0 with Q | Q
   ·clear q
    go_wp2_with fail;go_ret;exact⟨by first | rfl | (rw [d.out];rfl),rfl⟩
   rcases Int.lt_or_le 1 (m - j)with R | R
   ·clear q
    go_wp2_with fail;go_ret;exact⟨by first | rfl | (rw [d.out];rfl),rfl⟩
   have ac:1<j - m:=(by omega);clear q;go_wp2_with fail;go_ret;exact⟨by first | rfl | (rw [d.out];rfl),rfl⟩
  rw [qZ q]at d;have Q:0<=j:=(by omega);have R:m - j<=1:=(by omega);have ac:j - m<=1:=(by omega);clear q;by_cases ar:j > m
  ·have J:=qG (show W=j+1 by rw [d.out];omega)
   go_wp2_with fail;go_ret;exact⟨by first | rfl | (rw [J.out];rfl),rfl⟩
  have J:=qG (show W=m+1 by rw [d.out];omega);go_wp2_with fail;go_ret;exact⟨by first | rfl | (rw [J.out];rfl),rfl⟩
theorem pieceOkS (p:Pc) (w:World):Calls prog 74 #[pcV p] w fun e w'=>e= .returned (.bool (pcOk p))∧Below w.heap.size w w':=by
 obtain⟨c,a,d⟩:=p;have b:=qG (show pcOk ⟨c,a,d⟩=decide (1<=a∧a<=8192∧0<=c∧c+a<=220000∧0<=d∧d<=a)from rfl);generalize pcOk ⟨c,a,d⟩=m at b |-;unfold pcV;simp only;by_cases f:a<1
 ·go_enter func74,ntmps74
  go_wp2;go_ret;exact⟨by rw [b.out,ka (by omega)];rfl,(qO _ _).alloc lR _⟩
 by_cases g:a > 8192
 ·go_enter func74,ntmps74
  go_wp2;go_ret;exact⟨by rw [b.out,ka (by omega)];rfl,(qO _ _).alloc lR _⟩
 by_cases h:c<0
 ·go_enter func74,ntmps74
  go_wp2;go_ret;exact⟨by rw [b.out,ka (by omega)];rfl,(qO _ _).alloc lR _⟩
 by_cases i:c > 220000
 ·go_enter func74,ntmps74
  go_wp2;go_ret;exact⟨by rw [b.out,ka (by omega)];rfl,(qO _ _).alloc lR _⟩
 by_cases j:c+a<=220000
 ·by_cases k:d>=0
  ·by_cases l:d<=a
   ·go_enter func74,ntmps74
    go_wp2;go_ret;exact⟨by rw [b.out,kR (by omega)];rfl,(qO _ _).alloc lR _⟩
   go_enter func74,ntmps74;go_wp2;go_ret;exact⟨by rw [b.out,ka (by omega)];rfl,(qO _ _).alloc lR _⟩
  go_enter func74,ntmps74;go_wp2;go_ret;exact⟨by rw [b.out,ka (by omega)];rfl,(qO _ _).alloc lR _⟩
 go_enter func74,ntmps74;go_wp2;go_ret;exact⟨by rw [b.out,ka (by omega)];rfl,(qO _ _).alloc lR _⟩
def Pcs (xs:List It):Prop:=∀x∈xs,pcOk x.pc=true
theorem Pcs.total {xs:List It} (c:Pcs xs) (j:Nat):0<=total (xs.take j)∧total (xs.take j)<=8192*(xs.take j).length:=by
 have a:∀x∈xs.take j,pcOk x.pc=true:=fun x b=>c x (xJ b)
 generalize xs.take j=ys at a |-;clear c
 induction ys with
 | nil=>simp [Go.Proofs.YtmjanhcplcalfaaGreatDoor.total]
 | cons y ys e=>
  have d:=a y (by simp);simp only [pcOk,qU]at d;have f:=e (fun x b=>a x (by simp [b]));simp only [Go.Proofs.YtmjanhcplcalfaaGreatDoor.total,xe];omega
theorem zAh (B:Nat) (v:Value) (xs:List It) (w:World) (M:RdI B w v xs) (X:B<=w.heap.size) (Y:xs.length<=1048576) (r:Pcs xs):
  Calls prog 27 #[v] w fun e w'=>e= .returned (qJ (total xs))∧Below w.heap.size w w':=by
 rcases M with ⟨ao,cap,rfl,rfl⟩ | ⟨b,off,cap,rfl,⟨Z,aa,N⟩,ab,t⟩
 ·go_enter func27,ntmps27
  go_wp2_with fail;go_loopw [3,8] (fun s i wr=>i=qJ 0∧s=qJ 0∧wr=w) (fun _ _ _=>0)
  case atStart=>exact⟨rfl,rfl,rfl⟩
  obtain⟨rfl,rfl,rfl⟩:=hrel;go_wp2;go_ret;exact⟨rfl,qO _ _⟩
 have c:b<w.heap.size:=by omega
 have C:=qG t;have h:=qG r;generalize o:total xs=L;have D:=qG o;generalize K:xs.length=n at *
 unfold maxLen at N;clear t r o;go_enter func27,ntmps27;go_wp2_with fail;go_loopw [3,8] (fun s i wr=>∃j:Nat,j<=n∧i=qJ j∧s=qJ (total (xs.take j))∧Below w.heap.size w wr) (fun _ i _=>n - (intOf i).toNat)
 case atStart=>exact⟨0,xX _,rfl,by simp [total],qO _ _⟩
 obtain⟨j,ac,rfl,rfl,g⟩:=hrel;have a:=qG g;have E:=g.size;have k:=h.total j;have l:(xs.take j).length<=1048576:=by rw [qN];omega
 generalize q:total (xs.take j)=d at *
 have m:=qG q;clear g q;by_cases J:j<n
 ·obtain⟨x,f,u,y,z,A⟩:=ZV (B:=B) (cap:=cap) C (K▸J)
  have O:(j:Int)<n:=(by omega);have F:=h x (xM.2 ⟨j,f⟩);simp only [pcOk,qU]at F;have P:=qG f;have Q:=(a.cell (p:=⟨b,off+j*4,none⟩) c).trans u;have R:=(a.cell (p:=⟨b,off+j*4+1,none⟩) c).trans y;have S:=(a.cell (p:=⟨b,off+j*4+2,none⟩) c).trans z;have T:=(a.cell (p:=⟨b,off+j*4+3,none⟩) c).trans A;have U:b<wr.heap.size:=(by omega);have G:=qG (show total (xs.take (j+1))=d+x.pc.len by rw [zw f,zq,m.out];simp [total]);have V:0<=d∧d<=8589934592:=(by omega);clear u y z A f k l;go_wp2;go_roundw
  case rel=>exact⟨j+1,by omega,by go_num,by rw [G.out],a.alloc E _⟩
  simp [intOf];omega
 have H:j=n:=by omega
 subst H;have W:¬ (j:Int)<(j:Int):=by omega
 have I:=qG (show L=d by rw [<- m.out,xu (by omega)];exact D.symm);clear k l;go_wp2;go_ret;exact⟨by first | rfl | (rw [I.out];rfl),a⟩
theorem okT_def (xs:List It):okT xs=(decide (xs.length<=8192)&&xs.all (fun x=>pcOk x.pc)&&decide (total xs<=8192)&&decide (0<=shp 41 0 xs)):=rfl
theorem validS (B:Nat) (v:Value) (xs:List It) (w:World) (f:RdI B w v xs) (al:B<=w.heap.size) (a5:xs.length<=1048576):
  Calls prog 40 #[.agg #[v]] w fun e w'=>e= .returned (.bool (okT xs))∧Below w.heap.size w w':=by
 obtain⟨ao,cap,rfl⟩:=f.val;have a:=qG (okT_def xs);generalize okT xs=aj at a |-;have g:=qG ((qO w.heap.size w).alloc lR (.cells #[.slice ao xs.length cap] 28));have T:=qG (f.below g al);have aq:(w.alloc (.cells #[.slice ao xs.length cap] 28)).heap.size=w.heap.size+1:=by simp
 have U:(w.alloc (.cells #[.slice ao xs.length cap] 28)).heap[w.heap.size]? =some (.cells #[.slice ao xs.length cap] 28 (0,0)):=xg _ _;have ar:(xs.length:Int)<=1048576:=by omega
 by_cases a2:xs.length > 8192
 ·have V:(xs.length:Int) > 8192:=by omega
  clear f;go_enter func40,ntmps40;go_wp2;go_ret;exact⟨by rw [a.out,ka (by omega)];rfl,g⟩
 have V:¬ (xs.length:Int) > 8192:=by omega
 have t:∀j,j<xs.length->∃b off x,ao=some ⟨b,off,none⟩∧b<B∧xs[j]? =some x∧ItAt w b (off+j*4) x:=by
  intro j q;obtain⟨b,off,a6,e,_,M,am⟩:=f.at (by intro e;subst e;simp at q)
  cases e;obtain⟨x,an,ap⟩:=ZV (B:=B) (cap:=cap) am q;exact⟨b,off,x,rfl,M,an,ap⟩
 have W:=qG t
 have X:xs.length<=cap∧cap<=maxLen∨xs.length=0:=by
  rcases f with ⟨_,_,e,rfl⟩ | ⟨_,_,_,e,N,_⟩
  ·right;rfl
  cases e;left;exact⟨N.2.1,N.2.2⟩
 unfold maxLen at X;generalize ai:xs.length=n at *
 clear f t;go_enter func40,ntmps40;go_wp2_with fail;generalize w.alloc (.cells #[.slice ao n cap] 28)=r at *
 go_loopw [12] (fun i wr=>∃j:Nat,j<=n∧i=qJ j∧Pcs (xs.take j)∧Below r.heap.size r wr) (fun i _=>n - (intOf i).toNat)
 case atStart=>exact⟨0,xX _,rfl,by intro x o;simp at o,qO _ _⟩
 obtain⟨j,q,rfl,O,s⟩:=hrel;have u:=qG O;have h:=qG s;have Y:=s.size;clear s O;by_cases ah:j<n
 ·obtain⟨b,off,x,rfl,M,o,P,Q,R,S⟩:=W j ah
  have au:b<r.heap.size:=(by omega);have av:(j:Int)<n:=(by omega);have y:=qG o;have k:=(g.trans (h.mono (by omega)))
  have m:b<w.heap.size:=(by omega);have Z:=(k.cell (p:=⟨b,off+j*4,none⟩) m).trans P;have aa:=(k.cell (p:=⟨b,off+j*4+1,none⟩) m).trans Q;have ab:=(k.cell (p:=⟨b,off+j*4+2,none⟩) m).trans R;have ac:=(k.cell (p:=⟨b,off+j*4+3,none⟩) m).trans S;have aw:b<wr.heap.size:=(by omega);have A:=qG (h.alloc Y (.cells #[qJ x.pc.off,qJ x.pc.len,qJ x.pc.brk,qJ x.lv] 65));have C:=qG (pieceOkS x.pc (wr.alloc (.cells #[qJ x.pc.off,qJ x.pc.len,qJ x.pc.brk,qJ x.lv] 65)));have ax:(wr.alloc (.cells #[qJ x.pc.off,qJ x.pc.len,qJ x.pc.brk,qJ x.lv] 65)).heap.size=wr.heap.size+1:=(by simp);clear P Q R S o k;go_wp2_with fail;generalize wr.alloc (.cells #[qJ x.pc.off,qJ x.pc.len,qJ x.pc.brk,qJ x.lv] 65)=a3 at *
  refine C.mono ?_;rintro e w1 ⟨rfl,c⟩;have l:=qG (A.trans (c.mono (by omega)));clear c C A Z aa ab ac;cases hpk:pcOk x.pc with
  | false=>
   have ad:=qG (show aj=false by
    rw [a.out]
    have:xs.all (fun x=>pcOk x.pc)=false:=by
     cases hh:xs.all (fun x=>pcOk x.pc)with
     | false=>rfl
     | true=>have:=xV.1 hh x (xM.2 ⟨j,y⟩);rw [hpk]at this;cases this
    rw [this];simp)
   clear hpk;go_wp2;go_ret;exact⟨by first | rfl | (rw [ad.out];rfl),g.trans (l.mono (by omega))⟩
  | true=>
   have ae:=qG (show Pcs (xs.take (j+1))from by
    intro z d;rw [zw y.out]at d;rcases xb.1 d with d | d
    ·exact u z d
    simp at d;subst d;exact hpk)
   clear hpk;go_wp2;go_roundw
   case rel=>exact⟨j+1,by omega,by go_num,ae,l⟩
   simp [intOf];omega
 have af:j=n:=by omega
 subst af;have ay:¬ (j:Int)<(j:Int):=by omega
 have D:=qG (show Pcs xs from by have:=u;rw [xu (by omega)]at this;exact this);have E:xs.all (fun x=>pcOk x.pc)=true:=xV.2 D;rw [E,kR (show j<=8192 by omega)]at a;simp only [Qe,Bool.and_true]at a;have F:=(h.block w.heap.size (by omega)).trans U;have G:wr.cell? ⟨w.heap.size,0,none⟩=some (.slice ao j cap):=by rw [qP wr _ 0 _ _ _ F];rfl
 have H:=qG (T.below h (by omega));have ag:w.heap.size<wr.heap.size:=by omega
 clear E F;go_wp2_with fail;refine(zAh B _ xs wr H (by omega) (by omega) D).mono ?_;rintro e w1 ⟨rfl,c⟩;have az:=c.size;have l:=qG (g.trans ((h.trans (c.mono (by omega))).mono (by omega)));have a0:w1.cell? ⟨w.heap.size,0,none⟩=some (.slice ao j cap):=(c.cell (p:=⟨w.heap.size,0,none⟩) ag).trans G;have I:=H.below c (by omega);have J:=qG (shapeN B _ xs w1 I (by omega) 41 0 0 j (by omega) (by omega) (by omega) (by omega));have K:seg xs 0 j=xs:=by rw [<- ai];exact seg_full xs
 rw [K]at J;have a1:w.heap.size<w1.heap.size:=by omega
 clear c I K G;generalize total xs=ak at *
 generalize shp 41 0 xs=a4 at *
 by_cases L:ak<=8192
 ·rw [kR L]at a
  simp only [Qe]at a;go_wp2_with fail;refine J.mono ?_;rintro e a7 ⟨rfl,rfl⟩;go_wp2;go_ret;exact⟨by rw [a.out];rfl,l⟩
 rw [ka L]at a;simp only [Bool.false_and]at a;go_wp2;go_ret;exact⟨by rw [a.out];rfl,l⟩
theorem okT_pcs {xs:List It} (a:okT xs=true):Pcs xs∧xs.length<=8192∧total xs<=8192∧∀x∈xs,0<=x.lv∧x.lv<=8192:=by
 obtain⟨T,d⟩:=zB9 a;obtain⟨h,i,b,j⟩:=jJ d;simp only [okT,xL,qU]at a;refine⟨xV.1 a.1.1.2,a.1.1.1,a.1.2,fun x c=>?_⟩;have g:=AT.told_lv T 0 x (b▸c);have e:=AT.ht_its T;have f:T.its=xs.length:=by rw [b,AT.told_length]
 omega
def itV (x:It):List Value:=[qJ x.pc.off,qJ x.pc.len,qJ x.pc.brk,qJ x.lv]
def itVs (xs:List It):List Value:=xs.flatMap itV
theorem zF (xs:List It):(itVs xs).length=xs.length*4:=by
 induction xs with
 | nil=>rfl
 | cons x xs a=>simp only [itVs,kN,qM]at a |-;rw [a];simp [itV];omega
theorem zS (a b:List It):itVs (a++b)=itVs a++itVs b:=by simp [itVs]
theorem itVs_get (xs:List It) (i k:Nat) (x:It) (a:xs[i]? =some x) (c:k<4):(itVs xs)[i*4+k]? =(itV x)[k]?:=by
 induction xs generalizing i with
 | nil=>simp at a
 | cons y ys b=>
  cases i with
  | zero=>
   simp at a;subst a;simp only [itVs,kN,Nat.zero_mul,xP];rw [xx (by simp [itV];omega)]
  | succ i=>
   simp only [xY]at a;have:=b i a;simp only [itVs,kN]at this |-;rw [xa (by simp [itV];omega)];rw [<- this]
   congr 1
   simp [itV];omega
def OwI (w:World) (base:Nat) (v:Value) (xs:List It):Prop:=w.ownsRow base 65 4 v xs.length (itVs xs)
theorem OwI.rd {w:World} {base:Nat} {v:Value} {xs:List It} (c:OwI w base v xs):RdI w.heap.size w v xs:=by
 unfold OwI at c;have f:=c.lt;rcases c.2 with ⟨d,y⟩ | ⟨g,cap,z,d,o⟩
 ·left;exact⟨none,0,by rw [d],by apply qW;omega⟩
 obtain⟨A,p,r,s,B,t⟩:=o;subst d;have h:=(f g rfl).2;by_cases e:xs.length=0
 ·left;rw [e];exact⟨_,_,rfl,by apply qW;exact e⟩
 right;refine⟨g,0,cap,rfl,⟨by omega,r,s⟩,h,fun i x b=>?_⟩
 have u:i<xs.length:=by
  rcases xR i xs.length with q | q
  ·exact q
  rw [xW q]at b;cases b
 have a:∀k,k<4->w.cell? ⟨g,i*4+k,none⟩=(itV x)[k]?:=fun k n=>by
  rw [qP w g _ _ _ _ p,<- itVs_get xs i k x b n,<- t,xN,xd (by omega)];simp
 have j:=a 0 (by omega);have l:=a 1 (by omega);have k2:=a 2 (by omega);have m:=a 3 (by omega);simp only [xP];exact⟨j,l,k2,m⟩
theorem OwI.below {w w':World} {base B:Nat} {v:Value} {xs:List It} (a:OwI w base v xs) (b:Below B w w') (c:w.heap.size<=B):OwI w' base v xs:=zB a b c
theorem OwI.base {w:World} {base base':Nat} {v:Value} {xs:List It} (a:OwI w base v xs) (b:base'<=base):OwI w base' v xs:=zD a b
theorem Tryz.qn:(prog.info? 65).map (fun i=>(i.zero,i.size,i.bytes))=some (some (.agg #[qJ 0,qJ 0,qJ 0,qJ 0]),4,32):=by kernel_rfl
theorem OwI.shape {w:World} {base:Nat} {v:Value} {xs:List It} (c:OwI w base v xs):(v= .slice none 0 0∧xs= [])∨∃g cap,v= .slice (qK g 0) xs.length cap∧xs.length<=cap∧cap<=maxLen∧base<=g∧g<w.heap.size:=by
 rcases c.2 with ⟨a,b⟩ | ⟨g,cap,f,a,b,h,d,e,_⟩
 ·exact .inl ⟨a,qW b⟩
 exact .inr ⟨g,cap,a,d,e,b,(c.lt g (by rw [a];rfl)).2⟩
theorem OwI.cells {w:World} {base g cap:Nat} {xs:List It} (d:OwI w base (.slice (qK g 0) xs.length cap) xs):∀j a,(itVs xs)[j]? =some a->w.cell? ((⟨g,0,none⟩:Addr).add j)=some a:=by
 intro j a b;have c:=d.cellAt j (by have:=(xA.1 b).1;rw [zF]at this;omega);rw [Addr.add_lit,xP,c,b]
theorem zY (xs:List It):∀b∈itVs xs,b.oneCell'=true:=by
 intro b c;simp only [itVs,itV,List.mem_flatMap,xC,Qa,or_false]at c;obtain⟨x,_,a | a | a | a⟩:=c<;>subst a<;>rfl
theorem own_row2 {w:World} {base:Nat} {e:TypeId} {size:Nat} {v:Value} {n:Nat} {xs:List Value} (b:w.ownsRow base e size v n xs):∀q,v.ownBlock=some q->base<=q:=fun q a=>(b.lt q a).1
theorem own_sl {w:World} {base:Nat} {e:TypeId} {size:Nat} {v:Value} {n:Nat} {xs:List Value} (a:w.ownsRow base e size v n xs):∃ao m cap,v= .slice ao m cap:=by
 rcases a.2 with ⟨rfl,_⟩ | ⟨g,cap,b,rfl,_⟩
 ·exact⟨_,_,_,rfl⟩
 exact⟨_,_,_,rfl⟩
theorem zBq {w:World} {base b n:Nat} {e c:TypeId} {size:Nat} {v:Value} {xs:List Value} {cs:Array Value} {f:Nat×Nat} (g:w.ownsRow base e size v n xs) (h:w.heap[b]? =some (.cells cs c f)) (i:e≠c):some b≠v.ownBlock:=by
 rcases g.2 with ⟨rfl,_⟩ | ⟨g',j,k,rfl,_,d,_⟩
 ·simp [Value.ownBlock]
 intro a;simp only [Value.ownBlock,xz]at a;subst a;rw [h]at d;cases d;exact i rfl
def pcC (q:Pc):List Value:=[qJ q.off,qJ q.len,qJ q.brk]
def pcCs (a:List Pc):List Value:=a.flatMap pcC
theorem zBr (a b:List Pc):pcCs (a++b)=pcCs a++pcCs b:=by simp [pcCs]
theorem Xj (c:List Pc) (i k:Nat) (q:Pc) (b:c[i]? =some q) (g:k<3):(pcCs c)[i*3+k]? =(pcC q)[k]?:=by
 induction c generalizing i with
 | nil=>simp at b
 | cons a d f=>
  have e:pcCs (a::d)=pcC a++pcCs d:=(by simp [pcCs]);rw [e];cases i with
  | zero=>simp at b;subst b;rw [xx (by simp [pcC];omega)];simp
  | succ i=>
   rw [xa (by simp [pcC];omega)];have:=f i (by simpa using b);rw [<- this]
   congr 1
   simp [pcC];omega
theorem Tryz.infoPC:(prog.info? 63).map (fun i=>(i.zero,i.size,i.bytes))=some (some (.agg #[qJ 0,qJ 0,qJ 0]),3,24):=by kernel_rfl
def OwP (w:World) (base:Nat) (v:Value) (a:List Pc):Prop:=w.ownsRow base 63 3 v a.length (pcCs a)
def PcAt (w:World) (b o:Nat) (q:Pc):Prop:=
 w.cell? ⟨b,o,none⟩=some (qJ q.off)∧w.cell? ⟨b,o+1,none⟩=some (qJ q.len)∧w.cell? ⟨b,o+2,none⟩=some (qJ q.brk)
def RdP (B:Nat) (w:World) (v:Value) (a:List Pc):Prop:=
 (∃ao cap,v= .slice ao 0 cap∧a= [])∨
 (∃b off cap,v= .slice (qK b off) a.length cap∧(0<a.length∧a.length<=cap∧cap<=maxLen)∧b<B∧∀i q,a[i]? =some q->PcAt w b (off+i*3) q)
theorem RdP.below {B B':Nat} {w w':World} {v:Value} {d:List Pc} (a:RdP B w v d) (c:Below B' w w') (n:B<=B'):RdP B w' v d:=by
 rcases a with a | ⟨b,off,cap,f,g,h,j⟩
 ·exact .inl a
 refine .inr ⟨b,off,cap,f,g,h,fun i q e=>?_⟩;obtain⟨k,l,m⟩:=j i q e;exact⟨(c.cell (p:=⟨b,off+i*3,none⟩) (by show b<B';omega)).trans k,(c.cell (p:=⟨b,off+i*3+1,none⟩) (by show b<B';omega)).trans l,(c.cell (p:=⟨b,off+i*3+2,none⟩) (by show b<B';omega)).trans m⟩
theorem OwP.rd {w:World} {base:Nat} {v:Value} {a:List Pc} (b:OwP w base v a):RdP w.heap.size w v a:=by
 unfold OwP at b;rcases b.2 with ⟨rfl,c⟩ | ⟨g,cap,h,rfl,j,_,e,f,_⟩
 ·exact .inl ⟨_,_,rfl,qW c⟩
 rcases vZ a.length with c | c
 ·exact .inl ⟨_,_,by rw [c],qW c⟩
 refine .inr ⟨g,0,cap,rfl,⟨c,e,f⟩,(b.lt g rfl).2,fun i q d=>?_⟩;have hi:i<a.length:=(xA.1 d).1;refine⟨?_,?_,?_⟩
 ·have:=b.cellAt (0+i*3) (by omega)
  rw [this,xP];exact(Xj a i 0 q d (by omega)).trans rfl
 ·have:=b.cellAt (0+i*3+1) (by omega)
  rw [this,xP];exact(Xj a i 1 q d (by omega)).trans rfl
 have:=b.cellAt (0+i*3+2) (by omega);rw [this,xP];exact(Xj a i 2 q d (by omega)).trans rfl
def midT:Nat->List Pc->AT
 | 0,_=>.nil
 | f+1,a=>match a[a.length/2]? with
  | none=>.nil
  | some p=>.node (midT f (a.take (a.length/2))) p (midT f (a.drop (a.length/2+1)))
theorem Xk (f:Nat):midT f []= .nil:=by cases f<;>simp [midT]
theorem Ja {f:Nat} {a:List Pc} {p:Pc} (b:a[a.length/2]? =some p):midT (f+1) a= .node (midT f (a.take (a.length/2))) p (midT f (a.drop (a.length/2+1))):=by
 simp only [midT,b]
theorem YI:∀ (f:Nat) (a:List Pc),a.length<=f->(midT f a).flat=a
 | 0,a,e=>by
  obtain rfl:a= []:=qW (by omega);rfl
 | f+1,a,e=>by
  rcases vZ a.length with c | c
  ·obtain rfl:a= []:=qW c
   rw [Xk];rfl
  have b:a.length/2<a.length:=(by omega);have d:a[a.length/2]? =some a[a.length/2]:=qY b;rw [Ja d]
  show(midT f _).flat++_::(midT f _).flat=a
  rw [YI f _ (by rw [qN];omega),YI f _ (by rw [qR];omega)];rw [<- ki b,xw]
theorem RdP.cutL {B b o cap:Nat} {w:World} {a:List Pc} (h:RdP B w (.slice (qK b o) a.length cap) a) (m:Nat) (e:m<=a.length):RdP B w (.slice (qK b o) m cap) (a.take m):=by
 have g:(a.take m).length=m:=by rw [qN];omega
 rcases vZ m with f | f
 ·subst f;exact .inl ⟨_,_,rfl,by simp⟩
 rcases h with ⟨_,_,d,j⟩ | ⟨p,r,s,d,k,l,n⟩
 ·rw [j]at e;simp at e;omega
 simp only [xB,xz,vY,kS]at d;obtain⟨⟨rfl,rfl⟩,_,rfl⟩:=d;refine .inr ⟨b,o,cap,by rw [g],⟨by omega,by omega,k.2.2⟩,l,fun i q c=>n i q ?_⟩;rw [xN]at c
 split at c
 ·exact c
 cases c
theorem RdP.cutR {B b o cap:Nat} {w:World} {a:List Pc} {ao:Option Addr} (g:RdP B w (.slice (qK b o) a.length cap) a) (m:Nat) (h:m<=a.length) (j:m<a.length->ao=some ⟨b,o+m*3,none⟩):RdP B w (.slice ao (a.length - m) (cap - m)) (a.drop m):=by
 have f:(a.drop m).length=a.length - m:=by rw [qR]
 rcases Nat.eq_or_lt_of_le h with c | c
 ·refine .inl ⟨ao,cap - m,by rw [c,vG],vJ (by omega)⟩
 rcases g with ⟨_,_,d,k⟩ | ⟨p,r,s,d,t,l,n⟩
 ·rw [k]at c;simp at c
 simp only [xB,xz,vY,kS]at d;obtain⟨⟨rfl,rfl⟩,_,rfl⟩:=d;refine .inr ⟨b,o+m*3,cap - m,by rw [f,j c],⟨by omega,by omega,by omega⟩,l,fun i q e=>?_⟩;rw [vn]at e;have:=n (m+i) q e;rw [show o+m*3+i*3=o+(m+i)*3 by omega];exact this
theorem zBs {b:World} {base:Nat} {v:Value} {a F:List It} {n m:Nat} (c:a.length=n) (d:F.length=m) (e:b.ownsRow base 65 4 v (n+m) (itVs a++itVs F)):OwI b base v (a++F):=by
 subst c d;unfold OwI;rw [qM,zS];exact e
theorem zBt (f:Nat) (a:List Pc) (b:a.length<=f) (d:Int):((midT f a).told d).length=a.length:=by
 rw [AT.told_length,<- AT.flat_length,YI f a b]
theorem middleL:∀ (f:Nat) (c:List Pc) (B:Nat) (v:Value) (a:Int) (w:World),c.length<=f->RdP B w v c->B<=w.heap.size->c.length<=8192->(0<=a∧a+f<=100000)->
  Calls prog 47 #[v,qJ a] w fun e w'=>∃au,e= .returned au∧OwI w' w.heap.size au ((midT f c).told a)∧Below w.heap.size w w':=by
 intro f
 induction f with
 | zero=>
  intro c B v a w aj P Q ak bg;obtain rfl:c= []:=qW (by omega)
  obtain⟨ao,cap,rfl⟩:∃ao cap,v= .slice ao 0 cap:=by
   rcases P with ⟨ao,cap,rfl,_⟩ | ⟨_,_,_,_,s,_⟩
   ·exact⟨_,_,rfl⟩
   simp at s
  go_enter func47,ntmps47;go_wp2;go_ret;exact⟨_,rfl,kh _ _ _ _,qO _ _⟩
 | succ f a2=>
  intro c B v a w aj P Q ak bg;have G:=qG a2;clear a2;obtain⟨bk,hi,bv,bw,bx⟩:=vc Tryz.qn;rcases P with ⟨ao,cap,rfl,rfl⟩ | ⟨b,o,cap,rfl,s,bl,U⟩
  ·rw [Xk]
   go_enter func47,ntmps47;go_wp2;go_ret;exact⟨_,rfl,kh _ _ _ _,qO _ _⟩
  have t:=qG (show RdP B w (.slice (qK b o) c.length cap) c from .inr ⟨b,o,cap,rfl,s,bl,U⟩);have H:c.length/2<c.length:=(by omega);obtain⟨p,V⟩:∃p,c[c.length/2]? =some p:=⟨_,qY H⟩
  obtain⟨aw,ax,ay⟩:=U _ p V;have u:=qG (Ja (f:=f) V);generalize midT (f+1) c=ar at u |-;unfold maxLen at s;obtain⟨m,C⟩:∃m,m=c.length/2:=⟨_,rfl⟩
  rw [<- C]at H aw ax ay u;obtain⟨n,d⟩:∃n,n=c.length:=⟨_,rfl⟩
  have a3:(n:Int)/2=(m:Int):=(by rw [C,d];omega);have bp:((n:Int)==0)=false:=(by simp;omega);rw [<- d]at s H ak aj;rw [<- d];have bq:=qG d;have I:=qG (t.cutL m (by rw [<- d];omega));obtain⟨A,D⟩:∃A,A=(if cap=m+1 then some (⟨b,o,none⟩:Addr)else some ⟨b,o+(m+1)*3,none⟩):=⟨_,rfl⟩
  have J:=qG (show RdP B w (.slice A (n - (m+1)) (cap - (m+1))) (c.drop (m+1))from(by
   have g:=t.cutR (m+1) (ao:=A) (by rw [<- d];omega) (fun bj=>by rw [<- d]at bj;rw [D,qZ (by omega)])
   rw [<- d]at g;exact g))
  have K:(c.take m).length=m:=(by rw [qN,<- d];omega);have lR:(c.drop (m+1)).length=n - (m+1):=(by rw [qR,<- d]);have x:=qG (zBt f (c.take m) (by omega) (a+1));have X:=qG (zBt f (c.drop (m+1)) (by omega) (a+1));rw [K]at x;rw [lR]at X;have L:=qG (show ar.told a=(midT f (c.take m)).told (a+1)++⟨p,a⟩::(midT f (c.drop (m+1))).told (a+1)from(by rw [u.out];rfl));generalize ar.told a=bu at L |-;have Y:=qG (G (c.take m) B (.slice (qK b o) m cap) (a+1) w (by omega) I Q (by omega) (by omega));by_cases ap:cap=m+1
  case' pos=>
   have a4:n=m+1:=(by omega);have Z:c.drop (m+1)= []:=vJ (by omega);have aa:=qG (fun j (av:Below w.heap.size w j) (S:B<=j.heap.size)=>G (c.drop (m+1)) B (.slice (qK b o) 0 0) (a+1) j (by omega) (.inl ⟨_,_,rfl,Z⟩) S (by omega) (by omega));have br:((m:Int)+1)/2=(m:Int):=(by omega);clear Z J D t I C d K lR a3;subst a4;subst ap
  case' neg=>
   rw [qZ ap]at D;subst D;have aa:=qG (fun j (av:Below w.heap.size w j) (S:B<=j.heap.size)=>G (c.drop (m+1)) B (.slice (qK b (o+(m+1)*3)) (n - (m+1)) (cap - (m+1))) (a+1) j (by omega) (J.below av Q) S (by omega) (by omega));clear J t I C d K lR
  all_goals
   generalize (midT f (c.take m)).told (a+1)=h at *
   generalize (midT f (c.drop (m+1))).told (a+1)=i at *
   clear u U V;go_enter func47,ntmps47;go_wp2_with fail;refine Y.mono ?_;rintro e w1 ⟨az,rfl,a0,k⟩;have ab:=qG k;have a5:=k.size;have a6:=(k.cell (p:=⟨b,o+m*3,none⟩) (by show b<w.heap.size;omega)).trans aw;have a7:=(k.cell (p:=⟨b,o+m*3+1,none⟩) (by show b<w.heap.size;omega)).trans ax;have a8:=(k.cell (p:=⟨b,o+m*3+2,none⟩) (by show b<w.heap.size;omega)).trans ay;have M:=qG a0;have ac:=qG (show(w1.alloc (.cells #[qJ p.off,qJ p.len,qJ p.brk,qJ a] 65)).ownsRow w.heap.size 65 4 az m (itVs h)from(by have g:=M;unfold OwI at g;rw [x.out]at g;exact vI g _));have ad:=qG (zV w1 65 [qJ p.off,qJ p.len,qJ p.brk,qJ a]);clear a0 k Y;go_wp2_with (at_builtin;refine Qm _ rfl _ _ rfl w.heap.size az m (itVs h) rfl (by exact ac) ⟨w1.heap.size,0,none⟩ 1 1 [qJ p.off,qJ p.len,qJ p.brk,qJ a] rfl rfl (by exact ad) (by intro bt al;simp at al;rcases al with rfl | rfl | rfl | rfl<;>rfl) (by unfold maxLen;omega) (by omega) (by first | omega | (simp;omega)) ?_;intro z am l r R;refine vR ?_);refine Lib.hid ?_;have ae:=qG (show OwI am w.heap.size z (h++ [⟨p,a⟩])from zBs (F:=[⟨p,a⟩]) x rfl l);have y:=qG ((ab.alloc a5 (.cells #[qJ p.off,qJ p.len,qJ p.brk,qJ a] 65)).grown r (by simp;omega) (fun q T=>(M.lt q T).1));have a9:=y.size;have af:(h++ [(⟨p,a⟩:It)]).length=m+1:=(by rw [qM,x.out];rfl);have ag:=qG af;clear l r R ad ac M ab a6 a7 a8 af;go_wp2_with fail;refine(aa am (y) (by omega)).mono ?_;rintro e a1 ⟨bm,rfl,E,W⟩;have ba:=qG (show OwI a1 _ bm i from E);have N:=qG (zB ae W lR);have O:=qG (y.trans (W.mono a9));have z3:=O.size;have ah:=qG (show a1.ownsRow w.heap.size 65 4 z (m+1) (itVs (h++ [⟨p,a⟩]))from(by have g:=N;rw [ag.out]at g;exact g));clear W ae y;rcases OwI.shape E with ⟨rfl,rfl⟩ | ⟨bn,bo,rfl,bz,b0,b1,b2⟩
   ·clear E
    go_wp2_with (at_builtin;refine wpList_append_own_none rfl _ _ 26 rfl w.heap.size 65 bk 4 underlying26 hi _ _ _ rfl (by exact ah) rfl ?_);go_ret;refine⟨z,rfl,?_,O⟩;rw [L.out];exact N
   have bc:=qG X;have bd:=qG (OwI.cells ba);have bs:i.length<=8192:=(by rw [bc.out];omega);clear E;generalize aq:i.length=bi at *
   have ai:=qG aq;clear aq;go_wp2_with (at_builtin;refine Qm _ rfl _ _ rfl w.heap.size z (m+1) (itVs (h++ [⟨p,a⟩])) rfl (by exact ah) ⟨bn,0,none⟩ bi bo (itVs i) rfl (by rw [zF,ai.out]) (by exact bd) (zY i) (by unfold maxLen;omega) (by omega) (by first | omega | (simp;omega)) ?_;intro an bh l r R;refine vR ?_);refine Lib.hid ?_;have be:=qG (show OwI bh w.heap.size an (h++ [⟨p,a⟩]++i)from zBs ag ai l);have bf:=qG (O.grown r (by omega) (fun q T=>(N.lt q T).1));clear l r R;go_wp2;go_ret;refine⟨an,rfl,?_,bf⟩;rw [L.out,show h++⟨p,a⟩::i=h++ [⟨p,a⟩]++i by simp];exact be
theorem zD3 {xs:List It} {j:Nat} {x:It} {off:Int} (a:xs[j]? =some x) (d:¬off - total (xs.take j)<=0):rankL (xs.drop j) (off - total (xs.take j))=1+rankL (xs.drop (j+1)) (off - total (xs.take (j+1))):=by
 have b:j<xs.length:=by
  rcases xR j xs.length with q | q
  ·exact q
  rw [xW q]at a;cases a
 have c:xs.drop j=x::xs.drop (j+1):=by
  rw [ki b]
  congr 1
  rw [qY b]at a;exact vA a
 rw [c,rankL,qZ d,zw a,zq]
 congr 2
 simp only [total];omega
theorem rankS (B:Nat) (v:Value) (xs:List It) (off:Int) (w:World) (h:RdI B w v xs) (Q:xs.length<=8192) (k:Pcs xs):
  Calls prog 52 #[v,qJ off] w fun e w'=>e= .returned (qJ (rankL xs off:Nat))∧w'=w:=by
 obtain⟨ao,cap,rfl⟩:=h.val
 have l:∀j,j<xs.length->∃b off x,ao=some ⟨b,off,none⟩∧xs[j]? =some x∧ItAt w b (off+j*4) x:=by
  intro j f;obtain⟨b,off,S,e,_,T,L⟩:=h.at (by intro e;subst e;simp at f)
  cases e;obtain⟨x,M,N⟩:=ZV (B:=B) (cap:=cap) L f;exact⟨b,off,x,rfl,M,N⟩
 have q:=qG l;have r:=qG k;have s:=qG (fun j=>k.total j);have t:=qG (fun(j:Nat) (x:It) a g=>zD3 (xs:=xs) (j:=j) (x:=x) (off:=off) a g);have u:=qG (fun(j:Nat) g=>J0 (xs.drop j) (off - total (xs.take j)) g);have y:=qG (fun(j:Nat) (x:It) (a:xs[j]? =some x)=>show total (xs.take (j+1))=total (xs.take j)+x.pc.len by rw [zw a,zq];simp [total]);have z:=qG (show rankL (xs.drop xs.length) (off - total (xs.take xs.length))=0 by rw [List.drop_length];rfl);have A:=qG (fun j=>show(xs.take j).length<=j by rw [qN];omega);generalize P:xs.length=n at *
 clear h l k;generalize m:rankL xs off=R;have C:=qG (show R=0+rankL (xs.drop 0) (off - total (xs.take 0))by rw [<- m];simp [total]);clear m;go_enter func52,ntmps52;go_wp2_with fail;go_loop [5,9] (fun x i=>∃j:Nat,j<=n∧i=qJ j∧x=qJ (total (xs.take j))∧R=j+rankL (xs.drop j) (off - total (xs.take j))) (fun x i=>n - (intOf i).toNat)
 case atStart=>exact⟨0,xX _,rfl,by simp [total],C⟩
 obtain⟨j,f,rfl,rfl,p⟩:=hrel;have d:=qG p;have ht:=s j;have D:=A j;clear p;by_cases J:j<n
 ·obtain⟨b,o,x,rfl,a,U,V,W,X⟩:=q j J
  have O:(j:Int)<n:=(by omega);have E:=r x (xM.2 ⟨j,a⟩);simp only [pcOk,qU]at E;have F:=qG (y j x a);have G:=qG (t j x a);have H:=qG (u j);generalize total (xs.take j)=K at *
  by_cases I:K>=off
  ·have c:=qG (show R=j by rw [d.out,H.out (by omega)];omega)
   clear a;go_wp2;go_ret;exact⟨by rw [c.out];rfl,rfl⟩
  have c:=qG (show R=(j+1:Nat)+rankL (xs.drop (j+1)) (off - total (xs.take (j+1)))by rw [d.out,G.out (by omega)];omega);clear a;go_wp2;go_round
  case rel=>exact⟨j+1,by omega,by go_num,by rw [F.out],c⟩
  simp [intOf];omega
 obtain rfl:j=n:=by omega
 have I:¬ (j:Int)<(j:Int):=by omega
 have c:=qG (show R=j by rw [d.out,z.out];omega);clear ht D;go_wp2;go_ret;exact⟨by rw [c.out];rfl,rfl⟩
end Go.Proofs.YtmjanhcplcalfaaGreatDoor
