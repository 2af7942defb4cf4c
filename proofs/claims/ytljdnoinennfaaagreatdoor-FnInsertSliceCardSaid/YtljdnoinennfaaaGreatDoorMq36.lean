import Derived.Test.YtljdnoinennfaaaGreatDoorMq32
import Derived.Test.YtljdnoinennfaaaGreatDoorMq33
import Derived.Test.YtljdnoinennfaaaGreatDoorMq35
set_option linter.all false
set_option maxRecDepth 100000
set_option maxHeartbeats 8000000
namespace Go.Proofs.YtljdnoinennfaaaGreatDoor
open Go Go.RowKit
theorem zi {w w':World} (a:w'.heap=w.heap) (b:w'.os=w.os) (ht:w'.tape=w.tape) (c:w'.output=w.output):Below w.heap.size w w':=⟨b,ht,c,by rw [a];exact lR,fun k _=>by rw [a]⟩
theorem zF6 (bs:List Int) (a:Value) (p:Nat) (k:Int) (w:World) (b:SrcB bs a p w) (d:0<k) (f:k<=1048576):
  Calls Tryz.prog 10 #[.pointer (qK p 0),qJ k] w fun e w'=>∃r:Int,e= .returned (qJ r)∧(0<=r∧r<k)∧SrcB bs a p w'∧Chg [p] w w':=by
 have c:=qG b;clear b;go_enter Tryz.func10,Tryz.ntmps10;go_wp2_with fail;refine(yV bs a p k w c d f).mono ?_;rintro e w1 ⟨r,rfl,g,h,i⟩;go_wp2;go_ret;exact⟨_,rfl,g,h,i⟩
structure BFr (S:List Int) (T:AT):Prop where
 ok:T.ok
 bal:T.bal
 wp:T.wp S
 len:S.length<=220000
theorem BFr.read {S:List Int} {T:AT} (a:BFr S T):pRead S (T.told 0)=some T:=zCz a.bal a.ok a.wp a.len
theorem BFr.its {S:List Int} {T:AT} (a:BFr S T):(T.told 0).length<=8192:=by
 have b:(T.told 0).length=T.its:=AT.told_length T 0;have c:=a.ok.bd;omega
theorem BFr.pcs {S:List Int} {T:AT} (b:BFr S T):∀x∈T.told 0,WP S x.pc∧1<=x.pc.len:=fun x c=>by
 have a:=JT c;exact⟨(zW S T).1 b.wp _ a,yu b.ok _ a⟩
theorem BFr.txl {S:List Int} {T:AT} (b:BFr S T):((T.tx S).length:Int)=T.rns:=by
 rw [<- Z7 S T 0,Kz (fun x a=>(b.pcs x a).1),AT.rns_told]
theorem BFr.txl2 {S:List Int} {T:AT} (a:BFr S T):(T.tx S).length<=8192:=by
 have b:=a.txl;have c:=a.ok.2;omega
theorem jN {w:World} {base g n cap:Nat} {zs:List Int} (a:own32 w base (.slice (qK g 0) n cap) zs):zs.length<=cap∧cap<=maxLen:=by
 rcases a.2 with ⟨e,_⟩ | ⟨g',d,f,e,_,_,b,c,_⟩
 ·cases e
 ·simp only [xF]at e
  obtain⟨_,_,rfl⟩:=e;exact⟨b,c⟩
theorem zGs (w:World):
  Calls Tryz.prog 9 #[.slice none 0 0] w fun e w'=>∃b cap,e= .returned (.slice (qK b 0) 0 cap)∧own32 w' w.heap.size (.slice (qK b 0) 0 cap) []∧Below w.heap.size w w':=by
 have a:=qG (j8 w);have c:=qG ((qO w.heap.size w).alloc lR (.cells #[] 21));go_enter Tryz.func9,Tryz.ntmps9;go_wp2;go_ret;exact⟨_,_,rfl,a,c⟩
theorem cpTextR {base:Nat} {v:Value} {tx:List Int} {W:World} (a:own32 W base v tx) (d:tx.length<=1048576):
  Calls Tryz.prog 9 #[v] W fun e w'=>∃g c,e= .returned (.slice (qK g 0) tx.length c)∧own32 w' W.heap.size (.slice (qK g 0) tx.length c) tx∧Below W.heap.size W w':=by
 rcases a.2 with ⟨rfl,e⟩ | ⟨g,cap,f,rfl,_⟩
 ·have b:tx= []:=qU e
  subst b;exact zGs W
 ·exact zAe tx g 0 cap W (yU a) (je a) d
section
variable {base base' g c:Nat} {zs:List Int} {vi:Value} {T:AT} {W:World}
theorem txK (d:own32 W base (.slice (qK g 0) zs.length c) zs) (hi:OwI W base' vi (T.told 0)) (a:BFr zs T):
  Calls Tryz.prog 7 #[.agg #[.slice (qK g 0) zs.length c,vi]] W fun e w'=>∃b,e= .returned b∧own32 w' W.heap.size b (T.tx zs)∧Below W.heap.size W w'∧b≠ .slice none 0 0:=by
 have f:=jN d;have i:=a.len;have h:=a.txl2;rw [<- Z7 zs T 0]at h |-
 exact ptextS W.heap.size zs g 0 c vi _ W (yU d) (je d) (by omega) f.1 f.2 hi.rd lR a.its a.pcs h
theorem Yu {w:World} {base:Nat} {v:Value} {zs:List Int} (a:own32 w base v zs) (b:v≠ .slice none 0 0):∃g c,v= .slice (qK g 0) zs.length c:=by
 rcases a.2 with ⟨e,_⟩ | ⟨g',d,f,e,_⟩
 ·exact absurd e b
 ·exact⟨_,_,e⟩
theorem insK {ts:List Int} {off:Int} {h i t:Nat} (j:own32 W base (.slice (qK g 0) zs.length c) zs) (hi:OwI W base' vi (T.told 0)) (f:BFr zs T) (ht:own32 W t (.slice (qK h 0) ts.length i) ts) (o:0<=off) (a:off<=T.rns) (u:0<ts.length) (p:T.rns+ts.length<=8192) (q:zs.length+ts.length<=220000) (v:W.cell? ⟨0,0,none⟩=some (.iface 215 (.agg #[.pointer (qK 2 73)]))):
  Calls Tryz.prog 12 #[.agg #[.slice (qK g 0) zs.length c,vi],qJ off,.slice (qK h 0) ts.length i] W fun e w'=>∃g' b d,e= .returned (.tuple #[.agg #[.slice (qK g' 0) (zs++ts).length b,d],qJ 0])∧own32 w' W.heap.size (.slice (qK g' 0) (zs++ts).length b) (zs++ts)∧OwI w' W.heap.size d ((insP (zs++ts) zs.length T off).told 0)∧Below W.heap.size W w':=by
 have k:=jN j;have z:=f.len
 have l:piT zs (T.told 0) off ts=some (insP (zs++ts) zs.length T off):=by
  unfold piT;rw [f.read];simp only;rw [xj ⟨⟨o,a⟩,p,q⟩,qT (by omega)]
 have m:piC zs (T.told 0) off ts=0:=by
  unfold piC;rw [f.read];simp only;rw [xj ⟨o,a⟩,xj ⟨p,q⟩]
 have r:piS zs (T.told 0) off ts=zs++ts:=by unfold piS;rw [l];rfl
 have s:piI zs (T.told 0) off ts=(insP (zs++ts) zs.length T off).told 0:=by unfold piI;rw [l]
 have n:=implPI W.heap.size zs ts g 0 c vi (T.told 0) off h 0 i W (yU j) (je j) (by omega) k.1 k.2 hi.rd lR (by have:=f.its;omega) (yU ht) (je ht) (by omega) v m u
 rw [r,s,m]at n;refine n.mono ?_;rintro e w' ⟨A,d,rfl,a,w,x,y⟩;obtain⟨g',b,rfl⟩:=Yu a (y rfl);exact⟨g',b,d,rfl,a,w,x⟩
end
def PV (W:World) (B g b c:Nat) (a:Option Addr) (d k:Nat) (tx:List Int) (m:Nat):Prop:=
 ∃ (zs:List Int) (T:AT),zs.length=b∧(T.told 0).length=d∧own32 W B (.slice (qK g 0) b c) zs∧OwI W B (.slice a d k) (T.told 0)∧BFr zs T∧T.tx zs=tx∧b<=m
section
variable {W W':World} {B g zl c tl k m:Nat} {a:Option Addr} {tx:List Int}
theorem PV.below (d:PV W B g zl c a tl k tx m) (b:Below W.heap.size W W'):PV W' B g zl c a tl k tx m:=by
 obtain⟨zs,T,e,f,h,i,j⟩:=d;exact⟨zs,T,e,f,zA h b lR,OwI.below i b lR,j⟩
theorem PV.base {B':Nat} (d:PV W B g zl c a tl k tx m) (b:B'<=B):PV W B' g zl c a tl k tx m:=by
 obtain⟨zs,T,e,f,h,i,j⟩:=d;exact⟨zs,T,e,f,zD h b,OwI.base i b,j⟩
theorem PV.keep (i:PV W B g zl c a tl k tx m) {X:Nat} {cs:Array Value} {t:TypeId} {j:Nat×Nat} (f:W.heap[X]? =some (.cells cs t j)) (l:(21:Nat)≠t) (n:(71:Nat)≠t) (h:∀q,q≠X->q<W.heap.size->W'.heap[q]? =W.heap[q]?):PV W' B g zl c a tl k tx m:=by
 obtain⟨zs,T,o,p,d,e,r⟩:=i
 exact⟨zs,T,o,p,zB d (fun q b=>h q (Xd d f l q b) (d.lt q b).2),zB e (fun q b=>h q (Xd e f n q b) (e.lt q b).2),r⟩
theorem pvT (f:PV W B g zl c a tl k tx m):Calls Tryz.prog 7 #[.agg #[.slice (qK g 0) zl c,.slice a tl k]] W fun e w'=>∃g' b,e= .returned (.slice (qK g' 0) tx.length b)∧own32 w' W.heap.size (.slice (qK g' 0) tx.length b) tx∧Below W.heap.size W w':=by
 obtain⟨zs,T,rfl,rfl,h,i,j,rfl,_⟩:=f;refine(txK h i j).mono ?_;rintro e w' ⟨o,rfl,d,l,n⟩;obtain⟨g',b,rfl⟩:=Yu d n;exact⟨g',b,rfl,d,l⟩
theorem pvI {ts:List Int} {n off o p u:Nat} (v:PV W B g zl c a tl k tx m) (ht:own32 W u (.slice (qK o 0) n p) ts) (w:ts.length=n) (q:0<n) (F:off<=tx.length) (G:tx.length+n<=8192) (H:m+n<=220000) (x:W.cell? ⟨0,0,none⟩=some (.iface 215 (.agg #[.pointer (qK 2 73)]))):
  Calls Tryz.prog 12 #[.agg #[.slice (qK g 0) zl c,.slice a tl k],qJ off,.slice (qK o 0) n p] W fun e w'=>∃g' j d f l h,e= .returned (.tuple #[.agg #[.slice (qK g' 0) j d,.slice f l h],qJ 0])∧PV w' W.heap.size g' j d f l h (tx.take off++(ts++tx.drop off)) (m+n)∧Below W.heap.size W w':=by
 obtain⟨zs,T,rfl,rfl,y,z,b,rfl,I⟩:=v;subst w;have D:=b.txl;have E:(zs++ts).length=zs.length+ts.length:=qM
 have s:=Jh (ts:=ts) b.ok b.wp (show 0<=(off:Int)by omega) (by omega) q
 have t:BFr (zs++ts) (insP (zs++ts) zs.length T off):=⟨zA2 b.ok (b.wp.app ts) (by omega) (by omega) (by omega) (by omega) (by omega),zB3 b.bal,s.1,by omega⟩
 have i:=insP_tx (ts:=ts) b.ok b.wp (show 0<=(off:Int)by omega) (by omega)
 rw [vH]at i
 refine(insK y z b ht (show 0<=(off:Int)by omega) (by omega) q (by omega) (by omega) x).mono ?_
 rintro e w' ⟨g',d,J,rfl,A,r,C⟩;obtain⟨f,h,rfl⟩:=zc r
 exact⟨g',_,d,f,_,h,rfl,⟨_,_,rfl,rfl,A,r,t,i,by omega⟩,C⟩
end
structure PX (W:World) (B X g d c:Nat) (a:Option Addr) (e f:Nat) (tx:List Int) (m:Nat):Prop where
 k:D2 W X (.slice (qK g 0) d c) (.slice a e f) 30
 v:PV W B g d c a e f tx m
 b:B<=X
section
variable {W W':World} {B X g zl c tl k m:Nat} {a:Option Addr} {tx:List Int} {x y:Value}
theorem PX.below (b:PX W B X g zl c a tl k tx m) (d:Below W.heap.size W W'):PX W' B X g zl c a tl k tx m:=⟨b.k.below d b.k.lt,b.v.below d,b.b⟩
theorem zCd {X:Nat} {u v:Value} (q:Nat) (a:q≠X):((W.setCell ⟨X,0,none⟩ u).setCell ⟨X,1,none⟩ v).heap[q]? =W.heap[q]?:=by
 rw [kR _ _ _ _ (by show q≠X;exact a),kR _ _ _ _ (by show q≠X;exact a)]
theorem PX.new {B':Nat} (b:PV W B' g zl c a tl k tx m) (d:B<=B') (e:B<=W.heap.size):PX (W.alloc (.cells #[.slice (qK g 0) zl c,.slice a tl k] 30)) B W.heap.size g zl c a tl k tx m:=
 ⟨D2.new _ _ _ _,(b.base d).below ((qO W.heap.size W).alloc lR _),e⟩
theorem PX.set {B':Nat} (b:D2 W X x y 30) (e:PV W B' g zl c a tl k tx m) (f:B<=B') (h:B<=X):PX ((W.setCell ⟨X,0,none⟩ (.slice (qK g 0) zl c)).setCell ⟨X,1,none⟩ (.slice a tl k)) B X g zl c a tl k tx m:=
 ⟨b.set2E _ _,(e.base f).keep b (by decide) (by decide) (fun q d _=>zCd q d),h⟩
end
end Go.Proofs.YtljdnoinennfaaaGreatDoor
