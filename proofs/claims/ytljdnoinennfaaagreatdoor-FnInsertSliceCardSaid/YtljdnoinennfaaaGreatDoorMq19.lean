import Derived.Test.YtljdnoinennfaaaGreatDoorMq18
import Derived.Deep.RegionLaw
import Derived.Deep.AppendLies
set_option linter.all false
set_option maxRecDepth 100000
set_option maxHeartbeats 8000000
namespace Go.Proofs.YtljdnoinennfaaaGreatDoor
open Go Go.RowKit Go.Proofs.Tryz
inductive Lv:Nat->Int->List Int->Prop
 | nil (l:Int):Lv 0 l []
 | node (c a b:Nat) (l:Int) (A B:List Int) (d:a<=c) (e:b<=c) (f:a=c∨b=c) (g:c<=a+1) (h:c<=b+1) (i:Lv a (l+1) A) (j:Lv b (l+1) B):Lv (c+1) l (A++l::B)
theorem Lv.length {c:Nat} {l:Int} {ls:List Int} (k:Lv c l ls):ls.length+1<=2 ^ c:=by
 induction k with
 | nil=>simp
 | node c a b l A B d e h i j _ _ m n=>
  have f:2 ^ a<=2 ^ c:=jg (by omega) d
  have g:2 ^ b<=2 ^ c:=jg (by omega) e
  rw [Nat.pow_succ];simp only [qM,q9];omega
theorem len7 {a:Nat} {l:Int} {ls:List Int} (k:Lv a l ls) (b:a<=7):ls.length<=127:=by
 have c:=k.length
 have d:2 ^ a<=2 ^ 7:=jg (by omega) b
 omega
theorem Lv.tree {e:Nat} {l:Int} {ls:List Int} (k:Lv e l ls):∀c:List Pc,c.length=ls.length->∃T:AT,T.bal∧T.ht=e∧T.flat=c∧T.told l=(c.zip ls).map (fun x=>⟨x.1,x.2⟩):=by
 induction k with
 | nil=>
  intro c d;obtain rfl:c= []:=qU d;exact⟨.nil,xH,rfl,rfl,rfl⟩
 | node e a b l A B r s t u v _ _ o p=>
  intro c d;simp only [qM,q9]at d
  obtain⟨q,f⟩:∃q,c=c.take A.length++q::c.drop (A.length+1):=by
   refine⟨c[A.length]'(by omega),?_⟩
   rw [<- ko (by omega),xG]
  obtain⟨g,h,tA,fA,i⟩:=o (c.take A.length) (by simp;omega)
  obtain⟨j,m,tB,fB,n⟩:=p (c.drop (A.length+1)) (by simp;omega)
  refine⟨.node g q j,⟨h,m,by omega,by omega⟩,by simp only [AT.ht];omega,by simp only [AT.flat,fA,fB];exact f.symm,?_⟩
  simp only [AT.told,i,n]
  conv=>rhs;rw [f]
  rw [List.zip_append (by simp;omega)]
  simp
theorem Tryz.infoI:(prog.info? 3).map (fun i=>(i.zero,i.size,i.bytes))=some (some (qJ 0),1,8):=by kernel_rfl
theorem Below.grown {B:Nat} {w w':World} {b:Option Nat} (a:w.grownBy w' b) (c:∀q,b=some q->B<=q) (f:B<=w.heap.size):Below B w w':=
 ⟨a.os,a.tape,a.output,a.size,fun k d=>a.block k (by omega) (fun e=>by have:=c k e.symm;omega)⟩
theorem ZM {w:World} {base:Nat} {e:TypeId} {size:Nat} {v:Value} {n:Nat} {xs:List Value} (b:w.ownsRow base e size v n xs):∀q,v.ownBlock=some q->base<=q:=fun q a=>(b.lt q a).1
theorem Chg.qC {bs:List Nat} {a b c:World} (d:Chg bs a b) (k:Below a.heap.size b c):Chg bs a c:=
 ⟨k.os.trans d.os,k.tape.trans d.tape,k.output.trans d.output,vV d.size k.size,fun i hi e=>(k.block i hi).trans (d.block i hi e)⟩
theorem jh {w w':World} {base p:Nat} {e:TypeId} {size:Nat} {v:Value} {n:Nat} {xs:List Value} (a:w.ownsRow base e size v n xs) (c:Chg [p] w w') (d:p<base):w'.ownsRow base e size v n xs:=
 zB a fun k b=>c.block k (a.lt k b).2 (by have:=(a.lt k b).1;simp;omega)
theorem YW {w:World} {base:Nat} {e:TypeId} {g cap n:Nat} {xs:List Value} (b:w.ownsRow base e 1 (.slice (qK g 0) n cap) n xs):∀j u,xs[j]? =some u->w.cell? ((⟨g,0,none⟩:Addr).add j)=some u:=by
 intro j u a;have d:=b.1
 have c:=b.cellAt j (by have:=(xK.1 a).1;omega)
 rw [Addr.add_lit,xN,c,a]
theorem levelsN (bs:List Int) (ab:Value) (p:Nat):∀ (m:Nat) (a b lean:Int) (w:World),a.toNat=m->(a<=7∧ -1<=a)->(0<=b∧b+a<=1000)->(0<=lean∧lean<=100)->SrcB bs ab p w->
  Calls prog 61 #[.pointer (some ⟨p,0,none⟩),.int .i64 a,.int .i64 b,.int .i64 lean] w fun e w'=>∃v ls,e= .returned v∧Lv m b ls∧w'.ownsRow w.heap.size 3 1 v ls.length (ints .i64 ls)∧SrcB bs ab p w'∧Chg [p] w w':=by
 intro m
 induction m using Nat.strongRecOn with
 | ind m av=>
 intro a b lean w ax ay az a0 ad;have q:=ad.1.lt;obtain⟨ae,hi,a3,a4,a5⟩:=xM Tryz.infoI;have ac:=qG ad;have L:=qG av;clear ad av
 by_cases a1:a<=0
 ·go_enter func61,ntmps61
  go_wp2;go_ret
  obtain rfl:m=0:=by omega
  exact⟨_,[],rfl,.nil _,km w _ _ _,ac.out,Chg.refl _ _⟩
 ·go_enter func61,ntmps61
  go_wp2_with fail
  refine(yV bs ab p 4 w ac.out (by omega) (by omega)).mono ?_
  rintro e w1 ⟨r,rfl,a6,al,am⟩;have Z:=qG al;have N:=qG am;clear al am ac
  by_cases a2:r<lean
  ·go_wp2_with fail
   refine(Zc bs ab p 2 w1 Z.out (by omega) (by omega)).mono ?_
   rintro e an ⟨aw,rfl,ao,ap⟩;have aa:=qG ao
   have M:=qG (N.out.trans ap (fun _ a _=>a) (fun _ a _=>a))
   clear ao ap Z N;cases aw
   ·go_wp2_with fail
    refine(L.out (a - 1).toNat (by omega) (a - 1) _ _ an rfl (by omega) (by omega) (by omega) aa.out).mono ?_
    rintro e f ⟨aq,A,rfl,l,I,J,n⟩
    have af:=len7 l (by omega)
    have O:=M.out.size;have z3:=n.size;have j:=qG (zD I O);have s:=qG J
    have t:=qG (M.out.trans n (fun _ a _=>a) (fun _ a _=>a))
    have P:=qG l;clear l I J n aa M
    go_wp2_with (at_builtin;refine a34 _ rfl _ _ rfl w.heap.size _ _ _ rfl (j.out.alloc _) ⟨f.heap.size,0,none⟩ 1 1 [.int .i64 b] rfl rfl (zL f 3 [.int .i64 b]) (zF .i64 [b]) (by unfold maxLen;omega) (by omega) (by simp;omega) ?_;intro aj F G H _)
    have c:Below w.heap.size f F:=((qO w.heap.size f).alloc (by omega) _).trans (Below.grown H (ZM j.out) (by simp;omega))
    have ag:=c.size
    have u:=qG (s.out.below c q (by omega))
    have x:=qG (t.out.qC c);have y:=qG G;clear G H c s t j
    refine(L.out (a - 1 - 1).toNat (by omega) (a - 1 - 1) _ _ F rfl (by omega) (by omega) (by omega) u.out).mono ?_
    rintro e X ⟨ar,B,rfl,o,h,K,i⟩
    have ah:=len7 o (by omega)
    have ai:=i.size;have d:=qG (jh y.out i q);have z:=qG K
    have C:=qG (x.out.trans i (fun _ a _=>a) (fun _ a _=>a))
    have Q:=qG o;have R:=qG h;clear o K i y x u
    have D:Hid (Lv m b (A++b::B)):=qG (by
     obtain⟨k,rfl⟩:∃k,m=k+1:=⟨m - 1,by omega⟩
     exact .node k _ _ b A B (by omega) (by omega) (by omega) (by omega) (by omega) P.out Q.out)
    rcases h.2 with ⟨rfl,Y⟩ | ⟨g,cap,au,rfl,_⟩
    ·clear h
     go_wp2_with (at_builtin;refine wpList_append_own_none rfl _ _ 34 rfl w.heap.size 3 ae 1 underlying34 hi _ _ _ rfl (by exact d.out) rfl ?_)
     go_ret;obtain rfl:B= []:=qU Y;refine⟨_,_,rfl,D.out,?_,z.out,C.out⟩;have S:=d.out;simpa [ints]using S
    ·clear h
     go_wp2_with (at_builtin;refine a34 _ rfl _ _ rfl w.heap.size _ _ _ rfl (by exact d.out) ⟨g,0,none⟩ B.length cap (ints .i64 B) rfl (by rw [zC];omega) (by exact YW R.out) (zF .i64 B) (by unfold maxLen;omega) (by omega) (by omega) ?_;intro ak U V W _)
     go_ret
     have E:Below w.heap.size X U:=Below.grown W (ZM d.out) (by omega)
     refine⟨_,_,rfl,D.out,?_,z.out.below E q (by omega),C.out.qC E⟩
     have T:(A++b::B).length=A.length+1+B.length:=by simp;omega
     rw [T];simpa [ints]using V
   ·go_wp2_with fail
    refine(L.out (a - 1 - 1).toNat (by omega) (a - 1 - 1) _ _ an rfl (by omega) (by omega) (by omega) aa.out).mono ?_
    rintro e f ⟨aq,A,rfl,l,I,J,n⟩
    have af:=len7 l (by omega)
    have O:=M.out.size;have z3:=n.size;have j:=qG (zD I O);have s:=qG J
    have t:=qG (M.out.trans n (fun _ a _=>a) (fun _ a _=>a))
    have P:=qG l;clear l I J n aa M
    go_wp2_with (at_builtin;refine a34 _ rfl _ _ rfl w.heap.size _ _ _ rfl (j.out.alloc _) ⟨f.heap.size,0,none⟩ 1 1 [.int .i64 b] rfl rfl (zL f 3 [.int .i64 b]) (zF .i64 [b]) (by unfold maxLen;omega) (by omega) (by simp;omega) ?_;intro aj F G H _)
    have c:Below w.heap.size f F:=((qO w.heap.size f).alloc (by omega) _).trans (Below.grown H (ZM j.out) (by simp;omega))
    have ag:=c.size
    have u:=qG (s.out.below c q (by omega))
    have x:=qG (t.out.qC c);have y:=qG G;clear G H c s t j
    refine(L.out (a - 1).toNat (by omega) (a - 1) _ _ F rfl (by omega) (by omega) (by omega) u.out).mono ?_
    rintro e X ⟨ar,B,rfl,o,h,K,i⟩
    have ah:=len7 o (by omega)
    have ai:=i.size;have d:=qG (jh y.out i q);have z:=qG K
    have C:=qG (x.out.trans i (fun _ a _=>a) (fun _ a _=>a))
    have Q:=qG o;have R:=qG h;clear o K i y x u
    have D:Hid (Lv m b (A++b::B)):=qG (by
     obtain⟨k,rfl⟩:∃k,m=k+1:=⟨m - 1,by omega⟩
     exact .node k _ _ b A B (by omega) (by omega) (by omega) (by omega) (by omega) P.out Q.out)
    rcases h.2 with ⟨rfl,Y⟩ | ⟨g,cap,au,rfl,_⟩
    ·clear h
     go_wp2_with (at_builtin;refine wpList_append_own_none rfl _ _ 34 rfl w.heap.size 3 ae 1 underlying34 hi _ _ _ rfl (by exact d.out) rfl ?_)
     go_ret;obtain rfl:B= []:=qU Y;refine⟨_,_,rfl,D.out,?_,z.out,C.out⟩;have S:=d.out;simpa [ints]using S
    ·clear h
     go_wp2_with (at_builtin;refine a34 _ rfl _ _ rfl w.heap.size _ _ _ rfl (by exact d.out) ⟨g,0,none⟩ B.length cap (ints .i64 B) rfl (by rw [zC];omega) (by exact YW R.out) (zF .i64 B) (by unfold maxLen;omega) (by omega) (by omega) ?_;intro ak U V W _)
     go_ret
     have E:Below w.heap.size X U:=Below.grown W (ZM d.out) (by omega)
     refine⟨_,_,rfl,D.out,?_,z.out.below E q (by omega),C.out.qC E⟩
     have T:(A++b::B).length=A.length+1+B.length:=by simp;omega
     rw [T];simpa [ints]using V
  ·go_wp2_with fail
   refine(L.out (a - 1).toNat (by omega) (a - 1) _ _ w1 rfl (by omega) (by omega) (by omega) Z.out).mono ?_
   rintro e f ⟨aq,A,rfl,l,I,J,n⟩
   have af:=len7 l (by omega)
   have O:=N.out.size;have z3:=n.size;have j:=qG (zD I O);have s:=qG J
   have t:=qG (N.out.trans n (fun _ a _=>a) (fun _ a _=>a))
   have P:=qG l;clear l I J n Z N
   go_wp2_with (at_builtin;refine a34 _ rfl _ _ rfl w.heap.size _ _ _ rfl (j.out.alloc _) ⟨f.heap.size,0,none⟩ 1 1 [.int .i64 b] rfl rfl (zL f 3 [.int .i64 b]) (zF .i64 [b]) (by unfold maxLen;omega) (by omega) (by simp;omega) ?_;intro aj F G H _)
   have c:Below w.heap.size f F:=((qO w.heap.size f).alloc (by omega) _).trans (Below.grown H (ZM j.out) (by simp;omega))
   have ag:=c.size
   have u:=qG (s.out.below c q (by omega))
   have x:=qG (t.out.qC c);have y:=qG G;clear G H c s t j
   refine(L.out (a - 1).toNat (by omega) (a - 1) _ _ F rfl (by omega) (by omega) (by omega) u.out).mono ?_
   rintro e X ⟨ar,B,rfl,o,h,K,i⟩
   have ah:=len7 o (by omega)
   have ai:=i.size;have d:=qG (jh y.out i q);have z:=qG K
   have C:=qG (x.out.trans i (fun _ a _=>a) (fun _ a _=>a))
   have Q:=qG o;have R:=qG h;clear o K i y x u
   have D:Hid (Lv m b (A++b::B)):=qG (by
    obtain⟨k,rfl⟩:∃k,m=k+1:=⟨m - 1,by omega⟩
    exact .node k _ _ b A B (by omega) (by omega) (by omega) (by omega) (by omega) P.out Q.out)
   rcases h.2 with ⟨rfl,Y⟩ | ⟨g,cap,au,rfl,_⟩
   ·clear h
    go_wp2_with (at_builtin;refine wpList_append_own_none rfl _ _ 34 rfl w.heap.size 3 ae 1 underlying34 hi _ _ _ rfl (by exact d.out) rfl ?_)
    go_ret;obtain rfl:B= []:=qU Y;refine⟨_,_,rfl,D.out,?_,z.out,C.out⟩;have S:=d.out;simpa [ints]using S
   ·clear h
    go_wp2_with (at_builtin;refine a34 _ rfl _ _ rfl w.heap.size _ _ _ rfl (by exact d.out) ⟨g,0,none⟩ B.length cap (ints .i64 B) rfl (by rw [zC];omega) (by exact YW R.out) (zF .i64 B) (by unfold maxLen;omega) (by omega) (by omega) ?_;intro ak U V W _)
    go_ret
    have E:Below w.heap.size X U:=Below.grown W (ZM d.out) (by omega)
    refine⟨_,_,rfl,D.out,?_,z.out.below E q (by omega),C.out.qC E⟩
    have T:(A++b::B).length=A.length+1+B.length:=by simp;omega
    rw [T];simpa [ints]using V
end Go.Proofs.YtljdnoinennfaaaGreatDoor
namespace Go.Proofs.YtljdnoinennfaaaGreatDoor
open Go Go.RowKit
theorem row_read {w:World} {base:Nat} {e:TypeId} {v:Value} {ls:List Int} (a:w.ownsRow base e 1 v ls.length (ints .i64 ls)):
  ∃ao cap,v= .slice ao ls.length cap∧ls.length<=cap∧cap<=maxLen∧∀i,i<ls.length->∃g,ao=some ⟨g,0,none⟩∧base<=g∧g<w.heap.size∧∀w':World,w'.heap[g]? =w.heap[g]?->w'.cell? ⟨g,i,none⟩=some (qJ (ls.getD i 0)):=by
 rcases a.2 with ⟨rfl,d⟩ | ⟨g,cap,k,rfl,f,_,h,j,_⟩
 ·exact⟨none,0,by rw [d],by omega,by unfold maxLen;omega,fun i hi=>by omega⟩
 ·refine⟨_,cap,rfl,h,j,fun i hi=>⟨g,rfl,f,(a.lt g rfl).2,fun w' c=>?_⟩⟩
  have b:=a.cellAt i (by omega)
  rw [qV (w:=w) c,b];simp [ints,List.getD,hi]
theorem Chg.qB {bs:List Nat} {a b c:World} {B:Nat} (d:Chg bs a b) (k:Below B b c) (f:a.heap.size<=B):Chg bs a c:=
 ⟨k.os.trans d.os,k.tape.trans d.tape,k.output.trans d.output,vV d.size k.size,fun i hi e=>(k.block i (by omega)).trans (d.block i hi e)⟩
def zipI (a:List Pc) (ls:List Int):List It:=(a.zip ls).map (fun x=>⟨x.1,x.2⟩)
theorem zFw (b:List Pc) (ls:List Int) (q:Pc) (c:b.length<ls.length):zipI (b++ [q]) ls=zipI b ls++ [⟨q,ls.getD b.length 0⟩]:=by
 induction b generalizing ls with
 | nil=>cases ls with
  | nil=>simp at c
  | cons a t=>simp [zipI]
 | cons x t d=>cases ls with
  | nil=>simp at c
  | cons a u=>
   have:=d u (by simpa using c)
   simp only [zipI,xx,List.zip_cons_cons,vN]at this |-;rw [this];simp
theorem Ji (a:List Pc) (ls:List Int) (b:a.length<=ls.length):(zipI a ls).length=a.length:=by simp [zipI];omega
theorem tallH (n:Nat) (ao:Option Addr) (cap:Nat) (w:World) (f:n<=1048576):
  Calls Tryz.prog 31 #[.slice ao n cap] w fun e w'=>∃r:Int,e= .returned (qJ r)∧(2<=r∧r<=7)∧w'=w:=by
 go_enter Tryz.func31,Tryz.ntmps31;go_wp2_with fail
 go_loopw [3,4] (fun b m wr=>∃ (a:Int) (q:Nat),b=qJ a∧m=qJ q∧(2<=a∧a+q<=1048578)∧wr=w) (fun _ m _=>(intOf m).toNat)
 case atStart=>exact⟨2,n,rfl,rfl,by omega,rfl⟩
 case round=>
  obtain⟨a,q,rfl,rfl,g,rfl⟩:=hrel
  by_cases c:(q:Int) > 2
  ·go_wp2
   go_roundw
   case rel=>exact⟨a+1,q/2,rfl,by first | rfl | go_num | (simp;omega),by omega,by first | rfl | trivial⟩
   case measure=>simp [intOf];omega
  ·by_cases d:a > 7
   ·go_wp2
    go_ret
    exact⟨_,rfl,by omega,rfl⟩
   ·go_wp2
    go_ret
    exact⟨_,rfl,by omega,rfl⟩
def SmQ (zs:List Int) (q:Pc):Prop:=WP zs q∧1<=q.len∧q.len<=40
theorem smq_sum {zs:List Int} {F:List Pc} (a:∀q∈F,SmQ zs q):lsum F<=40*F.length:=by
 induction F with
 | nil=>simp [lsum]
 | cons p F d=>
  rw [zJ,q9]
  have b:=a p (by simp)
  have e:=d fun q c=>a q (by simp [c])
  have:=b.2.2;omega
theorem smq_tree {zs:List Int} {T:AT} (b:∀q∈T.flat,SmQ zs q) (j:zs.length<=220000) (k:T.its<=127):T.ok∧T.wp zs∧T.rns<=5080:=by
 have c:=smq_sum b;rw [AT.qf]at c
 refine⟨⟨fun p a=>?_,by rw [AT.qe];omega⟩,(zW zs T).2 fun p a=>(b p a).1,by rw [AT.qe];omega⟩
 obtain⟨⟨d,e,f,g⟩,l,m⟩:=b p a;have h:=Jw (ptx zs p);have i:((ptx zs p).length:Int)=p.len:=Zq ⟨d,e,f,g⟩;simp only [pcOk,qZ];omega
def PBPost (bs:List Int) (d:Value) (p:Nat) (R:Int) (Z:Nat) (w:World) (e:Ending) (w':World):Prop:=
 ∃ (a b:Value) (zs:List Int) (T:AT),e= .returned (.agg #[a,b])∧own32 w' w.heap.size a zs∧OwI w' w.heap.size b (T.told 0)∧T.ok∧T.bal∧T.wp zs∧T.rns<=R∧zs.length<=Z∧SrcB bs d p w'∧Chg [p] w w'∧∃g n c,a= .slice (qK g 0) n c
theorem drawRaw (bs:List Int) (m:Value) (p:Nat) (size am:Int) (w:World) (a5:SrcB bs m p w) (fn:0<size∧size<=200) (fo:0<=am∧am<=6):
  Calls Tryz.prog 29 #[.pointer (some ⟨p,0,none⟩),.int .i64 size,.int .i64 am] w (PBPost bs m p 5080 220 w):=by
 obtain⟨ec,hi,ed,ee,ef⟩:=xM Tryz.qk;have aq:=a5.1.lt;have ar:=qG ((qO w.heap.size w).alloc lR (.cells #[.slice none 0 0,.slice none 0 0] 30))
 have bl:=qG (show(w.alloc (.cells #[.slice none 0 0,.slice none 0 0] 30)).heap[w.heap.size]? =some (.cells #[.slice none 0 0,.slice none 0 0] 30 (0,0))from xm _ _)
 have er:w.heap.size<(w.alloc (.cells #[.slice none 0 0,.slice none 0 0] 30)).heap.size:=by simp
 have bm:=qG (a5.below ar.out aq lR);have bn:=qG (Chg.qa (bs:=[p]) ar.out);clear a5;go_enter Tryz.func29,Tryz.ntmps29;go_wp2_with fail;generalize w.alloc (.cells #[.slice none 0 0,.slice none 0 0] 30)=d8 at *
 refine(yV bs m p size d8 bm.out (by omega) (by omega)).mono ?_
 rintro e w1 ⟨r,rfl,eg,P,F⟩;obtain⟨k,rfl⟩:=xZ eg.1;have es:=F.size
 have bo:=qG ((F.block w.heap.size (by omega) (by simp;omega)).trans bl.out)
 have bp:=qG P
 have bq:=qG (bn.out.trans F (fun _ d _=>d) (fun _ d _=>d))
 have au:=qG (K9 bs m p (20+k) w1 P.1 (by omega))
 rw [show((20+k:Nat):Int)=20+(k:Int)by omega]at au
 clear P F bn bm ar bl;go_wp2_with fail;refine au.out.mono ?_;rintro e y ⟨cx,zs,rfl,eh,ac⟩;have et:=ac.grown.size;have s:Chg [p] w1 y:=Chg.qy ac.grown
 have br:=qG ((s.block w.heap.size (by omega) (by simp;omega)).trans bo.out)
 have av:=qG (show SrcB bs m p y from⟨ac.src,bp.out.2⟩)
 have bt:=qG (bq.out.trans s (fun _ d _=>d) (fun _ d _=>d))
 obtain⟨f,a6⟩:∃f,zs.length=f:=⟨_,rfl⟩;have G:=qG a6
 have eu:20<=f∧f<=220:=by omega
 have ag:own32 y w1.heap.size cx zs:=ac.own
 obtain⟨gs,cs,ei,ej,cy⟩:∃g c,cx= .slice (some ⟨g,0,none⟩) f c∧f<=c∧c<=maxLen:=by
  rcases ag.2 with ⟨_,ak⟩ | ⟨g,c,fp,aj,_,_,ak,a2,_⟩
  ·omega
  ·rw [a6]at aj ak;exact⟨g,c,aj,ak,a2⟩
 subst ei;have ev:=ag.lt gs rfl;have bu:=qG ag;have c9:cs<=maxLen:=cy;unfold maxLen at cy;have X:=qG ((qO y.heap.size y).alloc lR (.cells #[.slice (some ⟨gs,0,none⟩) f cs,.slice none 0 0] 30))
 have bv:=qG ((X.out.block w.heap.size (by omega)).trans br.out)
 have bw:=qG (av.out.below X.out (by have:=av.out.1.lt;omega) lR)
 have bx:=qG (bt.out.qB X.out (by omega))
 have bz:=qG (show own32 _ w1.heap.size _ zs from zA bu.out X.out lR)
 have b0:=qG (show(y.alloc (.cells #[.slice (some ⟨gs,0,none⟩) f cs,.slice none 0 0] 30)).heap[y.heap.size]? =some (.cells #[.slice (some ⟨gs,0,none⟩) f cs,.slice none 0 0] 30 (0,0))from xm _ _)
 have da:y.heap.size<(y.alloc (.cells #[.slice (some ⟨gs,0,none⟩) f cs,.slice none 0 0] 30)).heap.size:=by simp
 clear ac s ag a6 eh au bp bq av bt bu bo br X;go_wp2_with fail;generalize y.alloc (.cells #[.slice (some ⟨gs,0,none⟩) f cs,.slice none 0 0] 30)=d9 at *;generalize y.heap.size=bb at *
 refine(yV bs m p (am+1) d9 bw.out (by omega) (by omega)).mono ?_
 rintro e cz ⟨o,rfl,fq,ad,A⟩;have ew:=A.size
 have H:bb≠p:=by omega
 have b1:=qG ((A.block w.heap.size (by omega) (by simp;omega)).trans bv.out)
 have b2:=qG ((A.block bb da (by simpa using H)).trans b0.out)
 have b3:=qG ad
 have b4:=qG (bx.out.trans A (fun _ d _=>d) (fun _ d _=>d))
 have b5:=qG (show own32 cz w1.heap.size _ zs from jh bz.out A (by omega))
 clear ad A bw bx bz bv b0;go_wp2_with fail
 refine(yV bs m p 5 cz b3.out (by omega) (by omega)).mono ?_
 rintro e c0 ⟨ek,rfl,fr,c1,Q⟩;have ex:=Q.size
 have b6:=qG ((Q.block w.heap.size (by omega) (by simp;omega)).trans b1.out)
 have b7:=qG ((Q.block bb (by omega) (by simpa using H)).trans b2.out)
 have b8:=qG c1
 have b9:=qG (b4.out.trans Q (fun _ d _=>d) (fun _ d _=>d))
 have ca:=qG (show own32 c0 w1.heap.size _ zs from jh b5.out Q (by omega))
 clear c1 Q b3 b4 b5 b1 b2;go_wp2_with fail
 refine(levelsN bs m p _ o 0 ek c0 rfl (by omega) (by omega) (by omega) b8.out).mono ?_
 rintro e l ⟨fs,ls,rfl,a7,c2,a8,R⟩;have ey:=R.size
 have ez:=len7 a7 (by omega)
 have db:=qG ((R.block w.heap.size (by omega) (by simp;omega)).trans b6.out)
 have dc:=qG ((R.block bb (by omega) (by simpa using H)).trans b7.out)
 have dd:=qG a8
 have de:=qG (b9.out.trans R (fun _ d _=>d) (fun _ d _=>d))
 have cb:=qG (show own32 l w1.heap.size _ zs from jh ca.out R (by omega))
 have LV:=qG a7;obtain⟨ao,cap,rfl,ft,el,c3⟩:=row_read c2;have df:=qG c3;unfold maxLen at el;have e0:p<l.heap.size:=a8.1.lt
 have e1:bb<l.heap.size:=by omega
 clear a8 R b8 b9 ca b6 b7 a7 c2 c3
 have dg:=qG (fun(W:World) (d:W.heap[gs]? =l.heap[gs]?)=>show ∀i,i<zs.length->W.cell? ⟨gs,0+i,none⟩=some (.int .i32 (zs.getD i 0))from(by
  intro i hi';have j:=cb.out;rw [<- G.out]at j;have aw:=yU j i hi'
  rw [qV (w:=l) d];exact aw))
 have cc:=qG (fun(W:World) (a b:Int) (d:W.heap[gs]? =l.heap[gs]?) (a1:gs<W.heap.size) (aj:0<=a) (ak:1<=b) (a2:a+b<=f)=>(show Calls Tryz.prog 62 #[.slice (some ⟨gs,0,none⟩) f cs,.int .i64 a,.int .i64 b] W fun e w'=>e= .returned (.agg #[.int .i64 a,.int .i64 b,.int .i64 (pcAt zs a b).brk])∧Below W.heap.size W w' from(by
  have j:=yf zs gs 0 cs a b W (dg.out W d) a1 aj (by rw [G.out];exact a2) (by omega) (by rw [G.out];exact ej) c9 (by rw [G.out];omega)
  rw [G.out]at j
  exact j)))
 go_wp2_with fail
 go_loopw [8,29] (fun cq i wr=>∃ (k:Nat) (O:Int) (v:Value) (t:List Pc),k<=ls.length∧i= .int .i64 k∧cq= .int .i64 O∧(0<=O∧O<=f)∧t.length=k∧(∀q∈t,SmQ zs q)∧wr.heap[bb]? =some (.cells #[.slice (some ⟨gs,0,none⟩) f cs,v] 30 (0,0))∧OwI wr l.heap.size v (zipI t ls)∧SrcB bs m p wr∧Chg [p,bb] l wr)
   (fun _ i _=>ls.length - (intOf i).toNat)
 case atStart=>exact⟨0,0,_,[],xP _,rfl,rfl,⟨by omega,by omega⟩,rfl,by simp,dc.out,km _ _ _ _,dd.out,Chg.refl _ _⟩
 case round=>
  obtain⟨k,O,v,t,a4,rfl,rfl,fu,n,a9,ht,S,ba,K⟩:=hrel;have cd:=qG a9;have dh:=qG S;have ce:=qG ba;have di:=qG K;have e2:=K.size;obtain⟨bc,bd,be⟩:=zc S
  have cf:=qG (Ji t ls (by omega))
  have cg:=qG ht;have D:=qG n
  by_cases d7:k<ls.length
  ·obtain⟨g,rfl,fv,fw,c4⟩:=df.out k d7
   have ch:=c4 wr (K.block g (by omega) (by simp;omega))
   have e3:(k:Int)<ls.length:=by omega
   obtain⟨al,bf⟩:∃al,al=ls.getD k 0:=⟨_,rfl⟩;rw [<- bf]at ch;have dj:=qG bf
   have E:wr.cell? ⟨bb,0,none⟩=some (.slice (some ⟨gs,0,none⟩) f cs):=by rw [qQ wr _ 0 _ _ _ ht];rfl
   clear a9 S ba K c4 bf ht n be
   go_upto_region 6 with fail
   clear ch;go_wp2_with fail
   refine(yV bs m p f wr ce.out (by omega) (by omega)).mono ?_
   rintro e bg ⟨fy,rfl,fz,P,F⟩;have e4:=F.size
   have ax:=qG ((F.block bb (by omega) (by simpa using H)).trans cg.out)
   have ci:=qG P;have cj:=qG F;clear P F E
   have E:bg.cell? ⟨bb,0,none⟩=some (.slice (some ⟨gs,0,none⟩) f cs):=by rw [qQ bg _ 0 _ _ _ ax.out];rfl
   go_upto_region 7 with fail
   go_cut [46]from 30 to 89 (fun ea wc=>∃b:Bool,ea= .bool b∧(b=true->O<f)∧SrcB bs m p wc∧Chg [p] wr wc)
   case first=>
    go_wp2_with fail
    refine(Zc bs m p 2 bg ci.out (by omega) (by omega)).mono ?_
    rintro e M ⟨bh,rfl,ae,s⟩
    have Y:=qG ((s.block bb (by omega) (by simpa using H)).trans ax.out)
    have e5:M.cell? ⟨bb,0,none⟩=some (.slice (some ⟨gs,0,none⟩) f cs):=by rw [qQ M _ 0 _ _ _ Y.out];rfl
    have S2:=qG ae
    have D2:=qG (cj.out.trans s (fun _ d _=>d) (fun _ d _=>d))
    clear ae s
    cases bh with
    | true=>
     go_wp2_with fail;go_meet
     case rel=>exact⟨decide (O<(f:Int)),rfl,fun d=>by simpa using d,S2.out,D2.out⟩
    | false=>
     go_wp2_with fail;go_meet
     case rel=>exact⟨false,rfl,fun d=>(by cases d),S2.out,D2.out⟩
   case rest=>
   obtain⟨bh,rfl,c5,ae,s⟩:=hcut;have S2:=qG ae;have D2:=qG s;have e6:=s.size
   have Y:=qG ((s.block bb (by omega) (by simpa using H)).trans cg.out)
   obtain⟨M,em⟩:∃z,z=wc:=⟨_,rfl⟩;subst em;clear ae s E ax ci cj
   go_upto_if 46 with fail
   go_cut [11]from 30 to 89 (fun eb wc=>∃oi:Int,eb= .int .i64 oi∧(0<=oi∧oi<f)∧wc=M)
   case first=>
    cases bh with
    | true=>
     have e7:=c5 rfl;go_wp2_with fail;go_meet
     case rel=>exact⟨_,rfl,⟨by omega,by omega⟩,rfl⟩
    | false=>
     go_wp2_with fail;go_meet
     case rel=>exact⟨_,rfl,⟨by omega,by omega⟩,rfl⟩
   case rest=>
   obtain⟨oi,rfl,bi,af⟩:=hcut;have Z:=af.symm;subst Z;clear c5
   have E:M.cell? ⟨bb,0,none⟩=some (.slice (some ⟨gs,0,none⟩) f cs):=by rw [qQ M _ 0 _ _ _ Y.out];rfl
   go_wp2_with fail
   refine(yV bs m p 9 M S2.out (by omega) (by omega)).mono ?_
   rintro e an ⟨en,rfl,f0,c6,ap⟩;have e8:=ap.size
   have T3:=qG ((ap.block bb (by omega) (by simpa using H)).trans Y.out)
   have ck:=qG c6
   have cl:=qG (D2.out.trans ap (fun _ d _=>d) (fun _ d _=>d))
   clear c6 ap E Y S2 D2
   have E:an.cell? ⟨bb,0,none⟩=some (.slice (some ⟨gs,0,none⟩) f cs):=by rw [qQ an _ 0 _ _ _ T3.out];rfl
   go_upto_if 57 with fail
   go_cut [12]from 30 to 89 (fun a3 wc=>∃h:Int,a3= .int .i64 h∧(1<=h∧h<=40∧oi+h<=f)∧wc=an)
   case first=>
    by_cases hgt:(f:Int) - oi<1+en
    ·go_wp2_with fail
     go_meet
     case rel=>exact⟨_,rfl,⟨by omega,by omega,by omega⟩,rfl⟩
    ·go_wp2_with fail
     go_meet
     case rel=>exact⟨_,rfl,⟨by omega,by omega,by omega⟩,rfl⟩
   case rest=>
   obtain⟨f1,rfl,eo,af⟩:=hcut;have Z:=af.symm;subst Z;go_wp2_with fail
   refine(Zc bs m p 8 an ck.out (by omega) (by omega)).mono ?_
   rintro e u ⟨ep,rfl,ad,A⟩;have e9:=A.size
   have ah:=qG ((A.block bb (by omega) (by simpa using H)).trans T3.out)
   have cm:=qG ad
   have cn:=qG (cl.out.trans A (fun _ d _=>d) (fun _ d _=>d))
   clear ad A E T3 ck cl
   have E:u.cell? ⟨bb,0,none⟩=some (.slice (some ⟨gs,0,none⟩) f cs):=by rw [qQ u _ 0 _ _ _ ah.out];rfl
   go_upto_if 64 with fail
   go_cut [12]from 30 to 89 (fun a3 wc=>∃h:Int,a3= .int .i64 h∧(1<=h∧h<=40∧oi+h<=f)∧wc=u)
   case first=>
    cases ep with
    | true=>
     by_cases hgt:(40:Int)<(f:Int) - oi
     ·go_wp2_with fail
      go_meet
      case rel=>exact⟨_,rfl,⟨by omega,by omega,by omega⟩,rfl⟩
     ·go_wp2_with fail
      go_meet
      case rel=>exact⟨_,rfl,⟨by omega,by omega,by omega⟩,rfl⟩
    | false=>
     go_wp2_with fail;go_meet
     case rel=>exact⟨_,rfl,eo,rfl⟩
   case rest=>
   obtain⟨h,rfl,U,af⟩:=hcut;have Z:=af.symm;subst Z
   have dk:u.cell? ⟨bb,1,none⟩=some v:=by rw [qQ u _ 1 _ _ _ ah.out];rfl
   have fa:=xo u bb 1 _ _ ah.out
   have ay:=qG (di.out.trans cn.out (ds:=[p,bb]) (fun _ d _=>d) (fun _ d _=>by simp at d;simp [d]))
   have fc:=ay.out.size
   have dl:gs≠bb∧gs≠p∧gs<l.heap.size:=⟨by omega,by omega,by omega⟩
   have dm:=qG (show u.ownsRow l.heap.size 71 4 v k (itVs (zipI t ls))from(by have j:=jh (p:=p) dh.out cn.out (by omega);unfold OwI at j;rwa [cf.out,D.out]at j))
   have co:=qG (show u.heap[gs]? =l.heap[gs]? from ay.out.block gs dl.2.2 (by simp;omega))
   have dn:=qG (cc.out u oi h co.out (by omega) bi.1 U.1 U.2.2)
   have dp:=qG (show(pcAt zs oi h).brk=(pcAt zs oi h).brk from rfl)
   obtain⟨J,bj⟩:∃J,J=(pcAt zs oi h).brk:=⟨_,rfl⟩
   have dq:=qG (show(⟨oi,h,J⟩:Pc)=pcAt zs oi h by rw [bj];rfl)
   have cp:=qG (fun(W:World) d a1=>cc.out W oi h d a1 bi.1 U.1 U.2.2)
   rw [<- bj]at cp
   have dr:=qG (show SmQ zs (pcAt zs oi h)from⟨jO bi.1 (by omega) (by rw [G.out];omega),U.1,U.2.1⟩)
   clear dn dp bj
   go_upto_region 17 with fail
   go_region_law (first
    | (refine step_append_lies _ rfl _ _ 26 rfl l.heap.size 71 ec (.agg #[.int .i64 0,.int .i64 0,.int .i64 0,.int .i64 0]) 4 32 Tryz.underlying26 hi ed ee ef rfl (by decide) _ _ _ rfl (by exact(ct.out.alloc _)) ⟨C.heap.size,0,none⟩ 1 1 [.int .i64 oi,.int .i64 h,.int .i64 J,.int .i64 al] rfl rfl (by exact zL C _ _) (by simp [Value.oneCell']) (by omega) (by unfold maxLen;omega) (by omega) (by simp;omega) (C.heap.size+1) (by simp) ?_;intro ai cv I cw L _ _;have aa:Below l.heap.size C I:=((qO l.heap.size C).alloc (by omega) (.cells #[.int .i64 oi,.int .i64 h,.int .i64 J,.int .i64 al] 71)).trans (Below.grown (⟨L.os,L.tape,L.output,L.size,L.block⟩) (ZM ct.out) (by simp;omega));have az:=qG ((aa.block bb (by omega)).trans cr.out);have fd:I.cell? ⟨bb,1,none⟩=some v:=(by rw [qQ I _ 1 _ _ _ az.out];rfl);have fe:=xo I bb 1 _ _ az.out;have cq:=aa.size;have dt:=qG (dx.out.below aa (by omega) (by omega));have du:=qG (dw.out.qB aa (by omega));have dv:=qG cw;clear cw L aa)
    | (go_simp;go_wp2_with (go_at_call 62;refine(cp.out _ (by exact co.out) (by show gs<u.heap.size;omega)).mono ?_;rintro e C ⟨rfl,V⟩;have N:Below u.heap.size u C:=(⟨V.os,V.tape,V.output,V.size,V.block⟩);have ff:=N.size;have fg:bb<C.heap.size:=(by omega);have fh:bb≠C.heap.size:=(by omega);have cr:=qG ((N.block bb (by omega)).trans ah.out);have fi:C.cell? ⟨bb,1,none⟩=some v:=(by rw [qQ C _ 1 _ _ _ cr.out];rfl);have ct:=qG (zA dm.out N lR);have dw:=qG (ay.out.qB N (by omega));have dx:=qG (cm.out.below N (by have:=cm.out.1.lt;omega) lR);clear V N)))
   all_goals (
    go_wp2_with fail;go_roundw
    case rel=>
     refine⟨k+1,oi+h,_,t++ [⟨oi,h,J⟩],by omega,by go_num,by first | rfl | go_num,⟨by omega,by omega⟩,by simp [D.out],?_,xB I bb 1 _ _ _ az.out,?_,dt.out.below (B:=bb) ((qO bb I).setCell (by simp) _) (by omega) (by omega),du.out.setCell _ _ (.inl (by simp))⟩
     ·intro q n
      rcases xv.1 n with j | j
      ·exact cd.out q j
      ·simp only [kY]at j;subst j;rw [dq.out];exact dr.out
     ·have j:I.ownsRow l.heap.size 71 4 (.slice (some ⟨ai,0,none⟩) (k+1) cv) (k+1) (itVs (zipI (t++ [⟨oi,h,J⟩]) ls)):=by
       rw [zFw _ _ _ (by have:=D.out;omega),zS,D.out,<- dj.out]
       simpa [itVs,itV]using dv.out
      have aw:OwI I l.heap.size (.slice (some ⟨ai,0,none⟩) (k+1) cv) (zipI (t++ [⟨oi,h,J⟩]) ls):=by
       unfold OwI;rw [Ji _ _ (by simp [D.out];omega)];simpa [D.out]using j
      refine zB aw fun k a4=>?_
      simp only [Value.ownBlock,xw]at a4;subst a4;have L:=(j.lt ai rfl).1
      exact xn _ _ _ _ (by show ai≠bb;omega)
    case measure=>simp [intOf];omega)
  ·obtain rfl:k=ls.length:=by omega
   obtain⟨T,c7,eq,bk,c8⟩:=LV.out.tree t D.out
   have fj:¬ (ls.length:Int)<(ls.length:Int):=by omega
   have dy:=qG (show zipI t ls=T.told 0 from c8.symm)
   have dz:T.its=ls.length:=by rw [<- AT.qf,bk,D.out]
   have a0:=qG (smq_tree (zs:=zs) (T:=T) (by rw [bk];exact cd.out) (by rw [G.out];omega) (by omega))
   have d0:=qG c7
   have cu:(zipI t ls).length=ls.length:=by rw [cf.out,D.out]
   rw [cu]at be;subst be
   have E:wr.cell? ⟨bb,0,none⟩=some (.slice (some ⟨gs,0,none⟩) f cs):=by rw [qQ wr _ 0 _ _ _ ht];rfl
   have dk:wr.cell? ⟨bb,1,none⟩=some (.slice bc ls.length bd):=by rw [qQ wr _ 1 _ _ _ ht];rfl
   have ab:=(K.block w.heap.size (by omega) (by simp;omega)).trans db.out
   have d1:wr.cell? ⟨w.heap.size,0,none⟩=some (.slice none 0 0):=by rw [qQ wr _ 0 _ _ _ ab];rfl
   have d2:wr.cell? ⟨w.heap.size,1,none⟩=some (.slice none 0 0):=by rw [qQ wr _ 1 _ _ _ ab];rfl
   have fk:=xo wr w.heap.size 0 _ _ ab;have fl:=xo wr w.heap.size 1 _ _ ab
   have d3:=qG (show own32 wr w.heap.size (.slice (some ⟨gs,0,none⟩) f cs) zs from zD (zB cb.out (fun q n=>by cases n;exact K.block gs (by omega) (by simp;omega))) (by omega))
   have d4:=qG (show OwI wr w.heap.size (.slice bc ls.length bd) (T.told 0)from(by rw [<- dy.out];exact OwI.base S (by omega)))
   have d5:=qG (fun q n=>(S.lt q n).1)
   have d6:=qG (show Chg [p] w wr from de.out.trans K (fun _ d _=>d) (fun x d fm=>by simp at d;rcases d with d | d;simp [d];omega))
   clear c8 bk eq c7 dz a9 S ba K ht n ab cu;go_wp2
   refine xr (v:=.agg #[.slice (some ⟨gs,0,none⟩) f cs,.slice bc ls.length bd]) (by simp [results,Tryz.results29,go_sem,d1,d2]) rfl ⟨_,_,zs,T,rfl,?_,?_,a0.out.1,d0.out,a0.out.2.1,a0.out.2.2,by rw [G.out];omega,?_,?_,⟨_,_,_,rfl⟩⟩
   ·exact zB d3.out (fun q n=>by cases n;rw [xn _ ⟨w.heap.size,1,none⟩ _ _ (by show gs≠w.heap.size;omega),xn _ ⟨w.heap.size,0,none⟩ _ _ (by show gs≠w.heap.size;omega)])
   ·exact zB d4.out (fun q n=>by have j:=d5.out q n;rw [xn _ ⟨w.heap.size,1,none⟩ _ _ (by show q≠w.heap.size;omega),xn _ ⟨w.heap.size,0,none⟩ _ _ (by show q≠w.heap.size;omega)])
   ·exact(ce.out.below (B:=w.heap.size) ((qO w.heap.size wr).setCell (by simp) _) aq (by omega)).below (B:=w.heap.size) ((qO w.heap.size _).setCell (by simp) _) aq (by simp;omega)
   ·exact(d6.out.setCell _ _ (.inr (by simp))).setCell _ _ (.inr (by simp))
theorem zD1 {xs:List It} {j:Nat} {x:It} {off:Int} (a:xs[j]? =some x) (d:¬off - total (xs.take j)<=0):rankL (xs.drop j) (off - total (xs.take j))=1+rankL (xs.drop (j+1)) (off - total (xs.take (j+1))):=by
 have b:j<xs.length:=by
  rcases xS j xs.length with q | q
  ·exact q
  ·rw [xQ q]at a;cases a
 have c:xs.drop j=x::xs.drop (j+1):=by
  rw [ko b]
  congr 1
  rw [qY b]at a;exact vF a
 rw [c,rankL,qT d,yI a,zq]
 congr 2
 simp only [total];omega
theorem rankS (B:Nat) (v:Value) (xs:List It) (off:Int) (w:World) (h:RdI B w v xs) (Q:xs.length<=8192) (k:Pcs xs):
  Calls Tryz.prog 68 #[v,qJ off] w fun e w'=>e= .returned (qJ (rankL xs off:Nat))∧w'=w:=by
 obtain⟨ao,cap,rfl⟩:=h.val
 have l:∀j,j<xs.length->∃b off x,ao=some ⟨b,off,none⟩∧xs[j]? =some x∧ItAt w b (off+j*4) x:=by
  intro j f
  obtain⟨b,off,S,e,_,T,L⟩:=h.at (by intro e;subst e;simp at f)
  cases e;obtain⟨x,M,N⟩:=Jy (B:=B) (cap:=cap) L f;exact⟨b,off,x,rfl,M,N⟩
 have q:=qG l;have r:=qG k
 have s:=qG (fun j=>k.total j)
 have u:=qG (fun(j:Nat) (x:It) a g=>zD1 (xs:=xs) (j:=j) (x:=x) (off:=off) a g)
 have y:=qG (fun(j:Nat) g=>JI (xs.drop j) (off - total (xs.take j)) g)
 have z:=qG (fun(j:Nat) (x:It) (a:xs[j]? =some x)=>show total (xs.take (j+1))=total (xs.take j)+x.pc.len by rw [yI a,zq];simp [total])
 have A:=qG (show rankL (xs.drop xs.length) (off - total (xs.take xs.length))=0 by rw [List.drop_length];rfl)
 have C:=qG (fun j=>show(xs.take j).length<=j by rw [qN];omega)
 generalize P:xs.length=n at *;clear h l k;generalize m:rankL xs off=R
 have D:=qG (show R=0+rankL (xs.drop 0) (off - total (xs.take 0))by rw [<- m];simp [total])
 clear m;go_enter Tryz.func68,Tryz.ntmps68;go_wp2_with fail
 go_loop [5,9] (fun x i=>∃j:Nat,j<=n∧i=qJ j∧x=qJ (total (xs.take j))∧R=j+rankL (xs.drop j) (off - total (xs.take j))) (fun x i=>n - (intOf i).toNat)
 case atStart=>exact⟨0,xP _,rfl,by simp [total],D⟩
 case round=>
  obtain⟨j,f,rfl,rfl,p⟩:=hrel;have d:=qG p;have ht:=s j;have E:=C j;clear p
  by_cases K:j<n
  ·obtain⟨b,o,x,rfl,a,U,V,W,X⟩:=q j K
   have O:(j:Int)<n:=by omega
   have F:=r x (vc.2 ⟨j,a⟩);simp only [pcOk,qZ]at F;have G:=qG (z j x a);have H:=qG (u j x a);have I:=qG (y j);generalize total (xs.take j)=t at *
   by_cases J:t>=off
   ·have c:=qG (show R=j by rw [d.out,I.out (by omega)];omega)
    clear a;go_wp2;go_ret
    exact⟨by rw [c.out];rfl,rfl⟩
   ·have c:=qG (show R=(j+1:Nat)+rankL (xs.drop (j+1)) (off - total (xs.take (j+1)))by rw [d.out,H.out (by omega)];omega)
    clear a;go_wp2;go_round
    case rel=>exact⟨j+1,by omega,by go_num,by rw [G.out],c⟩
    case measure=>simp [intOf];omega
  ·obtain rfl:j=n:=by omega
   have J:¬ (j:Int)<(j:Int):=by omega
   have c:=qG (show R=j by rw [d.out,A.out];omega)
   clear ht E;go_wp2;go_ret
   exact⟨by rw [c.out];rfl,rfl⟩
end Go.Proofs.YtljdnoinennfaaaGreatDoor
