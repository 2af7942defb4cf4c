import Derived.Test.YtljdnoinennfaaaGreatDoorMq36
import Derived.Test.YtljdnoinennfaaaGreatDoorMq34
set_option linter.all false
set_option maxRecDepth 100000
set_option maxHeartbeats 8000000
namespace Go.Proofs.YtljdnoinennfaaaGreatDoor
open Go Go.RowKit
section
variable {base base' g c:Nat} {zs:List Int} {vi:Value} {T:AT} {W:World}
theorem cpPieceK {a:Option Addr} {b k:Nat} (H:own32 W base (.slice (qK g 0) zs.length c) zs) (hi:OwI W base' (.slice a b k) (T.told 0)) (I:BFr zs T) (J:(T.told 0).length=b):
  Calls Tryz.prog 25 #[.agg #[.slice (qK g 0) zs.length c,.slice a b k]] W fun e w'=>∃g' E F G,e= .returned (.agg #[.slice (qK g' 0) zs.length E,.slice F b G])∧own32 w' W.heap.size (.slice (qK g' 0) zs.length E) zs∧OwI w' W.heap.size (.slice F b G) (T.told 0)∧Below W.heap.size W w':=by
 have af:=I.len;have ag:=I.its
 have d:=qG (((qO W.heap.size W).alloc lR (.cells #[.slice (qK g 0) zs.length c,.slice a b k] 30)).alloc (by simp) (.cells #[.slice none 0 0,.slice none 0 0] 30))
 have r:=qG ((D2.new W (.slice (qK g 0) zs.length c) (.slice a b k) 30).below ((qO _ _).alloc lR (.cells #[.slice none 0 0,.slice none 0 0] 30)) (by simp))
 have x:=qG (D2.new (W.alloc (.cells #[.slice (qK g 0) zs.length c,.slice a b k] 30)) (.slice none 0 0) (.slice none 0 0) 30)
 have y:(W.alloc (.cells #[.slice (qK g 0) zs.length c,.slice a b k] 30)).heap.size=W.heap.size+1:=by simp
 rw [y]at x
 have M:((W.alloc (.cells #[.slice (qK g 0) zs.length c,.slice a b k] 30)).alloc (.cells #[.slice none 0 0,.slice none 0 0] 30)).heap.size=W.heap.size+2:=by simp
 have N:=qG (fun(X:World) (t:Below W.heap.size W X)=>cpTextR (W:=X) (zA H t lR) (by omega))
 have O:=qG (fun(X:World) (t:Below W.heap.size W X)=>cpTreeL (T.told 0) (.slice a b k) base' X (OwI.below hi t lR) (by omega))
 have P:=qG J;generalize Z:zs.length=D at *;clear H hi y Z J;go_enter Tryz.func25,Tryz.ntmps25
 go_upto_region 1 with fail
 generalize aa:(W.alloc (.cells #[.slice (qK g 0) D c,.slice a b k] 30)).alloc (.cells #[.slice none 0 0,.slice none 0 0] 30)=h at *;clear aa;have ah:=r.c.1;have ai:=r.c.2
 have Q:W.heap.size+1<h.heap.size:=by omega
 have R:W.heap.size<h.heap.size:=by omega
 clear M
 go_region_with (first
  | (go_at_call 9;refine(N _ (by exact(show Below W.heap.size W _ from⟨d.os,d.tape,d.output,d.size,d.block⟩))).mono ?_;rintro e i ⟨ab,ac,rfl,K,l⟩;have f:Hid (Below h.heap.size h i):=qG (show Below h.heap.size h i from⟨l.os,l.tape,l.output,l.size,l.block⟩);have z:=f.size;have s:=r.below f R;have u0:=s.c.1;have u1:=s.c.2;have S:=qG (show own32 i h.heap.size _ zs from K);clear K l s)
  | (go_at_call 59;refine(O _ (by first | exact(show Below W.heap.size W _ from⟨(d.trans (f.mono (by omega))).os,(d.trans (f.mono (by omega))).tape,(d.trans (f.mono (by omega))).output,(d.trans (f.mono (by omega))).size,(d.trans (f.mono (by omega))).block⟩))).mono ?_;rintro e p ⟨am,rfl,w,m⟩;have o:Hid (Below i.heap.size i p):=qG (show Below i.heap.size i p from⟨m.os,m.tape,m.output,m.size,m.block⟩);have aj:=o.size;obtain⟨ad,ae,L⟩:=zc w;rw [P.out]at L;subst L;have A:=qG (show own32 p h.heap.size _ zs from zA S o lR);have B:=qG (show OwI p i.heap.size _ (T.told 0)from w);have j:=x.below (f.trans (o.mono z)) Q;have U:=j.c.1;have V:=j.c.2;have ak:=j.fz 0;have al:=j.fz 1;have Y:=qG (d.trans ((f.trans (o.mono z)).mono (by omega)));have C:=qG j;clear w m j))
 all_goals (
  go_wp2_with fail
  refine xr (v:=.agg #[.slice (qK ab 0) D ac,.slice ad b ae]) (by simp [results,Tryz.results25,go_sem,U,V]) rfl ⟨_,_,_,_,rfl,?_,?_,?_⟩
  ·refine zD (zB A (fun q u=>?_)) (by omega)
   have n:=zCc A C (by decide) u
   rw [kR _ _ _ _ (by show q≠W.heap.size+1;exact n),kR _ _ _ _ (by show q≠W.heap.size+1;exact n)]
  ·refine zD (zB B (fun q u=>?_)) (by omega)
   have n:=zCc B C (by decide) u
   rw [kR _ _ _ _ (by show q≠W.heap.size+1;exact n),kR _ _ _ _ (by show q≠W.heap.size+1;exact n)]
  ·exact(Y.setCell (by simp) _).setCell (by simp) _)
end
section
variable {W:World} {B g zl c tl k m:Nat} {a:Option Addr} {tx:List Int}
theorem pvS {i j:Nat} (p:PV W B g zl c a tl k tx m) (s:i<=j) (t:j<=tx.length) (q:W.cell? ⟨0,0,none⟩=some (.iface 215 (.agg #[.pointer (qK 2 73)]))):
  Calls Tryz.prog 24 #[.agg #[.slice (qK g 0) zl c,.slice a tl k],qJ i,qJ j] W fun e w'=>∃n,e= .returned (.tuple #[n,qJ 0])∧own32 w' W.heap.size n ((tx.drop i).take (j - i))∧Below W.heap.size W w':=by
 obtain⟨zs,T,rfl,rfl,d,hi,b,rfl,u⟩:=p;have f:=jN d;have r:=b.len
 have o:psTxt zs (T.told 0) i j=((T.tx zs).drop i).take (j - i):=by
  unfold psTxt;rw [b.read];simp only;rw [xj (by omega)]
  unfold cutT;rw [vH,vH]
 have h:J1 zs (T.told 0) i j=0:=by
  unfold J1;rw [b.read];simp only;rw [xj (by omega)]
 have l:=implPS W.heap.size zs g 0 c _ (T.told 0) i j W (yU d) (je d) (by omega) f.1 f.2 hi.rd lR (by have:=b.its;omega) q h
 rw [o,h]at l;exact l
theorem pvC (j:PV W B g zl c a tl k tx m):Calls Tryz.prog 25 #[.agg #[.slice (qK g 0) zl c,.slice a tl k]] W fun e w'=>∃g' b d f,e= .returned (.agg #[.slice (qK g' 0) zl b,.slice d tl f])∧PV w' W.heap.size g' zl b d tl f tx m∧Below W.heap.size W w':=by
 obtain⟨zs,T,rfl,h,l,hi,i,n,o⟩:=j;refine(cpPieceK l hi i h).mono ?_;rintro e w' ⟨g',b,d,f,rfl,p,q,r⟩;exact⟨g',b,d,f,rfl,⟨zs,T,rfl,h,p,q,i,n,o⟩,r⟩
end
end Go.Proofs.YtljdnoinennfaaaGreatDoor
