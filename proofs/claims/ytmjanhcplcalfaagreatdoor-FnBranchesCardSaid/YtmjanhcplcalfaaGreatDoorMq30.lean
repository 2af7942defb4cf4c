import Derived.Test.YtmjanhcplcalfaaGreatDoorMq16
import Derived.Test.YtmjanhcplcalfaaGreatDoorMq19
import Derived.Test.YtmjanhcplcalfaaGreatDoorMq18
set_option linter.all false
set_option maxRecDepth 100000
set_option maxHeartbeats 8000000
namespace Go.Proofs.YtmjanhcplcalfaaGreatDoor
open Go Go.RowKit Go.Proofs.Tryz
theorem zT {w w':World} (a:w'.heap=w.heap) (b:w'.os=w.os) (ht:w'.tape=w.tape) (c:w'.output=w.output):Below w.heap.size w w':=⟨b,ht,c,by rw [a];exact lR,fun k _=>by rw [a]⟩
theorem JH (bs:List Int) (a:Value) (p:Nat) (k:Int) (w:World) (b:SrcB bs a p w) (d:0<k) (f:k<=1048576):
  Calls prog 9 #[.pointer (qK p 0),qJ k] w fun e w'=>∃r:Int,e= .returned (qJ r)∧(0<=r∧r<k)∧SrcB bs a p w'∧Chg [p] w w':=by
 have c:=qG b;clear b;go_enter func9,ntmps9;go_wp2_with fail;refine(yY bs a p k w c d f).mono ?_;rintro e w1 ⟨r,rfl,g,h,i⟩;go_wp2;go_ret;exact⟨_,rfl,g,h,i⟩
theorem Ku (bs:List Int) (a:Value) (p:Nat) (n:Nat) (w:World) (b:SrcB bs a p w) (f:n<=1048576):
  Calls prog 10 #[.pointer (qK p 0),qJ n] w fun e w'=>∃g c zs,e= .returned (.slice (qK g 0) n c)∧zs.length=n∧own32 w' w.heap.size (.slice (qK g 0) n c) zs∧SrcB bs a p w'∧Chg [p] w w':=by
 have d:=qG b;clear b;go_enter func10,ntmps10;go_wp2_with fail;refine(jc bs a p n w d f).mono ?_;rintro e w1 ⟨g,c,zs,rfl,h,i,j,k⟩;go_wp2;go_ret;exact⟨_,_,_,rfl,h,i,j,k⟩
structure BFr (S:List Int) (T:AT):Prop where
 ok:T.ok
 bal:T.bal
 wp:T.wp S
 len:S.length<=220000
theorem BFr.read {S:List Int} {T:AT} (a:BFr S T):pRead S (T.told 0)=some T:=zD1 a.bal a.ok a.wp a.len
theorem BFr.its {S:List Int} {T:AT} (a:BFr S T):(T.told 0).length<=8192:=by
 have b:(T.told 0).length=T.its:=AT.told_length T 0;have c:=a.ok.bd;omega
theorem BFr.pcs {S:List Int} {T:AT} (b:BFr S T):∀x∈T.told 0,WP S x.pc∧1<=x.pc.len:=fun x c=>by
 have a:=J9 c;exact⟨(zR S T).1 b.wp _ a,jC b.ok _ a⟩
theorem BFr.txl {S:List Int} {T:AT} (b:BFr S T):((T.tx S).length:Int)=T.rns:=by
 rw [<- Zj S T 0,zA1 (fun x a=>(b.pcs x a).1),AT.rns_told]
theorem BFr.txl2 {S:List Int} {T:AT} (a:BFr S T):(T.tx S).length<=8192:=by
 have b:=a.txl;have c:=a.ok.2;omega
theorem yq {w:World} {base g n cap:Nat} {zs:List Int} (a:own32 w base (.slice (qK g 0) n cap) zs):zs.length<=cap∧cap<=maxLen:=by
 rcases a.2 with ⟨e,_⟩ | ⟨g',d,f,e,_,_,b,c,_⟩
 ·cases e
 simp only [xB]at e;obtain⟨_,_,rfl⟩:=e;exact⟨b,c⟩
section
variable {base base' g c:Nat} {zs:List Int} {vi:Value} {T:AT} {W:World}
theorem valK (a:own32 W base (.slice (qK g 0) zs.length c) zs) (hi:OwI W base' vi (T.told 0)) (b:BFr zs T):
  Calls prog 15 #[.agg #[.slice (qK g 0) zs.length c,vi]] W fun e w'=>e= .returned (.bool true)∧Below W.heap.size W w':=by
 have d:=yq a;have h:=b.len;have f:=pvalidS W.heap.size zs g 0 c vi _ W (yX a) (jh a) (by omega) d.1 d.2 hi.rd lR (by have:=b.its;omega);rw [b.read]at f;exact f
theorem txK (d:own32 W base (.slice (qK g 0) zs.length c) zs) (hi:OwI W base' vi (T.told 0)) (a:BFr zs T):
  Calls prog 6 #[.agg #[.slice (qK g 0) zs.length c,vi]] W fun e w'=>∃b,e= .returned b∧own32 w' W.heap.size b (T.tx zs)∧Below W.heap.size W w'∧b≠ .slice none 0 0:=by
 have f:=yq d;have i:=a.len;have h:=a.txl2;rw [<- Zj zs T 0]at h |-;exact ptextS W.heap.size zs g 0 c vi _ W (yX d) (jh d) (by omega) f.1 f.2 hi.rd lR a.its a.pcs h
theorem Ze {w:World} {base:Nat} {v:Value} {zs:List Int} (a:own32 w base v zs) (b:v≠ .slice none 0 0):∃g c,v= .slice (qK g 0) zs.length c:=by
 rcases a.2 with ⟨e,_⟩ | ⟨g',d,f,e,_⟩
 ·exact absurd e b
 exact⟨_,_,e⟩
theorem insK {ts:List Int} {off:Int} {h i t:Nat} (j:own32 W base (.slice (qK g 0) zs.length c) zs) (hi:OwI W base' vi (T.told 0)) (f:BFr zs T) (ht:own32 W t (.slice (qK h 0) ts.length i) ts) (o:0<=off) (a:off<=T.rns) (u:0<ts.length) (p:T.rns+ts.length<=8192) (q:zs.length+ts.length<=220000) (v:W.cell? ⟨0,0,none⟩=some (.iface 184 (.agg #[.pointer (qK 1 67)]))):
  Calls prog 11 #[.agg #[.slice (qK g 0) zs.length c,vi],qJ off,.slice (qK h 0) ts.length i] W fun e w'=>∃g' b d,e= .returned (.tuple #[.agg #[.slice (qK g' 0) (zs++ts).length b,d],qJ 0])∧own32 w' W.heap.size (.slice (qK g' 0) (zs++ts).length b) (zs++ts)∧OwI w' W.heap.size d ((insP (zs++ts) zs.length T off).told 0)∧Below W.heap.size W w':=by
 have k:=yq j;have z:=f.len
 have l:piT zs (T.told 0) off ts=some (insP (zs++ts) zs.length T off):=by
  unfold piT;rw [f.read];simp only;rw [xd ⟨⟨o,a⟩,p,q⟩,qZ (by omega)]
 have m:piC zs (T.told 0) off ts=0:=by
  unfold piC;rw [f.read];simp only;rw [xd ⟨o,a⟩,xd ⟨p,q⟩]
 have r:piS zs (T.told 0) off ts=zs++ts:=by unfold piS;rw [l];rfl
 have s:piI zs (T.told 0) off ts=(insP (zs++ts) zs.length T off).told 0:=by unfold piI;rw [l]
 have n:=implPI W.heap.size zs ts g 0 c vi (T.told 0) off h 0 i W (yX j) (jh j) (by omega) k.1 k.2 hi.rd lR (by have:=f.its;omega) (yX ht) (jh ht) (by omega) v m u;rw [r,s,m]at n;refine n.mono ?_;rintro e w' ⟨A,d,rfl,a,w,x,y⟩;obtain⟨g',b,rfl⟩:=Ze a (y rfl);exact⟨g',b,d,rfl,a,w,x⟩
end
def PV (d:World) (B g b c:Nat) (a:Option Addr) (e k:Nat) (tx:List Int) (m:Nat):Prop:=
 ∃ (zs:List Int) (T:AT),zs.length=b∧(T.told 0).length=e∧own32 d B (.slice (qK g 0) b c) zs∧OwI d B (.slice a e k) (T.told 0)∧BFr zs T∧T.tx zs=tx∧b<=m
section
variable {W W':World} {B g zl c tl k m:Nat} {a:Option Addr} {tx:List Int}
theorem PV.below (d:PV W B g zl c a tl k tx m) (b:Below W.heap.size W W'):PV W' B g zl c a tl k tx m:=by
 obtain⟨zs,T,e,f,h,i,j⟩:=d;exact⟨zs,T,e,f,zB h b lR,OwI.below i b lR,j⟩
theorem PV.base {B':Nat} (d:PV W B g zl c a tl k tx m) (b:B'<=B):PV W B' g zl c a tl k tx m:=by
 obtain⟨zs,T,e,f,h,i,j⟩:=d;exact⟨zs,T,e,f,zD h b,OwI.base i b,j⟩
theorem PV.keep (j:PV W B g zl c a tl k tx m) {X:Nat} {cs:Array Value} {d:TypeId} {l:Nat×Nat} (h:W.heap[X]? =some (.cells cs d l)) (n:(21:Nat)≠d) (o:(65:Nat)≠d) (i:∀q,q≠X->q<W.heap.size->W'.heap[q]? =W.heap[q]?):PV W' B g zl c a tl k tx m:=by
 obtain⟨zs,T,p,r,e,f,s⟩:=j;exact⟨zs,T,p,r,zA e (fun q b=>i q (Xo e h n q b) (e.lt q b).2),zA f (fun q b=>i q (Xo f h o q b) (f.lt q b).2),s⟩
theorem pvV (b:PV W B g zl c a tl k tx m):Calls prog 15 #[.agg #[.slice (qK g 0) zl c,.slice a tl k]] W fun e w'=>e= .returned (.bool true)∧Below W.heap.size W w':=by
 obtain⟨zs,T,rfl,rfl,d,f,h,rfl,_⟩:=b;exact valK d f h
theorem pvT (f:PV W B g zl c a tl k tx m):Calls prog 6 #[.agg #[.slice (qK g 0) zl c,.slice a tl k]] W fun e w'=>∃g' b,e= .returned (.slice (qK g' 0) tx.length b)∧own32 w' W.heap.size (.slice (qK g' 0) tx.length b) tx∧Below W.heap.size W w':=by
 obtain⟨zs,T,rfl,rfl,h,i,j,rfl,_⟩:=f;refine(txK h i j).mono ?_;rintro e w' ⟨n,rfl,d,k2,l⟩;obtain⟨g',b,rfl⟩:=Ze d l;exact⟨g',b,rfl,d,k2⟩
theorem pvI {ts:List Int} {n off o p t:Nat} (u:PV W B g zl c a tl k tx m) (ht:own32 W t (.slice (qK o 0) n p) ts) (v:ts.length=n) (q:0<n) (E:off<=tx.length) (F:tx.length+n<=8192) (G:m+n<=220000) (w:W.cell? ⟨0,0,none⟩=some (.iface 184 (.agg #[.pointer (qK 1 67)]))):
  Calls prog 11 #[.agg #[.slice (qK g 0) zl c,.slice a tl k],qJ off,.slice (qK o 0) n p] W fun e w'=>∃g' j d f l h,e= .returned (.tuple #[.agg #[.slice (qK g' 0) j d,.slice f l h],qJ 0])∧PV w' W.heap.size g' j d f l h (tx.take off++(ts++tx.drop off)) (m+n)∧Below W.heap.size W w':=by
 obtain⟨zs,T,rfl,rfl,x,y,b,rfl,H⟩:=u;subst v;have C:=b.txl;have D:(zs++ts).length=zs.length+ts.length:=qM;have r:=Jt (ts:=ts) b.ok b.wp (show 0<=(off:Int)by omega) (by omega) q;have s:BFr (zs++ts) (insP (zs++ts) zs.length T off):=⟨zA4 b.ok (b.wp.app ts) (by omega) (by omega) (by omega) (by omega) (by omega),zBd b.bal,r.1,by omega⟩
 have i:=insP_tx (ts:=ts) b.ok b.wp (show 0<=(off:Int)by omega) (by omega);rw [vg]at i;refine(insK x y b ht (show 0<=(off:Int)by omega) (by omega) q (by omega) (by omega) w).mono ?_;rintro e w' ⟨g',d,I,rfl,z,k2,A⟩;obtain⟨f,h,rfl⟩:=zb k2;exact⟨g',_,d,f,_,h,rfl,⟨_,_,rfl,rfl,z,k2,s,i,by omega⟩,A⟩
end
structure PX (d:World) (B X g e c:Nat) (a:Option Addr) (f h:Nat) (tx:List Int) (m:Nat):Prop where
 k:D2 d X (.slice (qK g 0) e c) (.slice a f h) 30
 v:PV d B g e c a f h tx m
 b:B<=X
section
variable {W W':World} {B X g zl c tl k m:Nat} {a:Option Addr} {tx:List Int} {x y:Value}
theorem PX.below (b:PX W B X g zl c a tl k tx m) (d:Below W.heap.size W W'):PX W' B X g zl c a tl k tx m:=⟨b.k.below d b.k.lt,b.v.below d,b.b⟩
theorem zCg {X:Nat} {b v:Value} (q:Nat) (a:q≠X):((W.setCell ⟨X,0,none⟩ b).setCell ⟨X,1,none⟩ v).heap[q]? =W.heap[q]?:=by
 rw [Go.heap_setCell_other _ _ _ _ (by show q≠X;exact a),Go.heap_setCell_other _ _ _ _ (by show q≠X;exact a)]
theorem PX.new {B':Nat} (b:PV W B' g zl c a tl k tx m) (d:B<=B') (e:B<=W.heap.size):PX (W.alloc (.cells #[.slice (qK g 0) zl c,.slice a tl k] 30)) B W.heap.size g zl c a tl k tx m:=
 ⟨D2.new _ _ _ _,(b.base d).below ((qO W.heap.size W).alloc lR _),e⟩
theorem PX.set {B':Nat} (b:D2 W X x y 30) (e:PV W B' g zl c a tl k tx m) (f:B<=B') (h:B<=X):PX ((W.setCell ⟨X,0,none⟩ (.slice (qK g 0) zl c)).setCell ⟨X,1,none⟩ (.slice a tl k)) B X g zl c a tl k tx m:=
 ⟨b.set2E _ _,(e.base f).keep b (by decide) (by decide) (fun q d _=>zCg q d),h⟩
end
theorem At32.part {w:World} {b:Nat} {zs:List Int} (c:At32 w b 0 zs) (q l:Nat) (d:q+l<=zs.length):At32 w b q ((zs.drop q).take l):=fun i hi=>by
 rw [qN,qR]at hi;have a:=c (q+i) (by omega);rw [xP]at a;rw [a,q9,q9,List.getElem?_take_of_lt (by omega),vn]
theorem cpK {ts:List Int} {m g c base:Nat} {x:World} (d:ts.length=m) (a:own32 x base (.slice (qK g 0) m c) ts) (f:m<=1048576):
  Calls prog 8 #[.slice (qK g 0) m c] x fun e w'=>∃b cap,e= .returned (.slice (qK b 0) m cap)∧own32 w' x.heap.size (.slice (qK b 0) m cap) ts∧Below x.heap.size x w':=by
 subst d;exact zEs ts g 0 c x (yX a) (jh a) f
theorem at_take {w:World} {b:Nat} {zs:List Int} (a:At32 w b 0 zs) (l:Nat):At32 w b 0 (zs.take l):=fun i hi=>by
 rw [qN]at hi;rw [a i (by omega),q9,q9,List.getElem?_take_of_lt (by omega)]
theorem zF2 {tx:List Int} {L g c base i:Nat} {x:World} (j:tx.length=L) (h:own32 x base (.slice (qK g 0) L c) tx) (hi:i<=L) (l:L<=1048576):
  Calls prog 8 #[.slice (qK g 0) i c] x fun e w'=>∃b cap,e= .returned (.slice (qK b 0) i cap)∧w'.ownsRow x.heap.size 21 1 (.slice (qK b 0) i cap) i (ints .i32 (tx.take i))∧Below x.heap.size x w':=by
 subst j;have d:(tx.take i).length=i:=by rw [qN];omega
 have f:=zEs (tx.take i) g 0 c x (at_take (yX h) i) (jh h) (by omega);rw [d]at f;refine f.mono ?_;rintro e w' ⟨b,cap,rfl,a,k⟩;unfold own32 at a;rw [d]at a;exact⟨b,cap,rfl,a,k⟩
theorem JI {ts:List Int} {m g c base:Nat} {x:World} (a:ts.length=m) (b:own32 x base (.slice (qK g 0) m c) ts):∀j v,(ints .i32 ts)[j]? =some v->x.cell? ((⟨g,0,none⟩:Addr).add j)=some v:=by
 subst a;exact zAp (yX b)
theorem Jh {ts:List Int} {m g c base:Nat} {x:World} (b:ts.length=m) (d:own32 x base (.slice (qK g 0) m c) ts) (q:Nat) (e:q<=m):∀j v,(ints .i32 (ts.drop q))[j]? =some v->x.cell? ((⟨g,q,none⟩:Addr).add j)=some v:=by
 subst b;have a:=(yX d).part q (ts.length - q) (by omega);rw [xu (by rw [qR];omega)]at a;exact zAp a
theorem own_capK {ts:List Int} {m g c base:Nat} {x:World} (a:ts.length=m) (b:own32 x base (.slice (qK g 0) m c) ts):m<=c∧c<=maxLen:=by
 subst a;exact yq b
theorem zAz {ts:List Int} {m base:Nat} {x:World} {v:Value} (a:ts.length=m) (b:x.ownsRow base 21 1 v m (ints .i32 ts)):own32 x base v ts:=by
 subst a;exact b
theorem jr {w:World} {base n:Nat} {v:Value} {xs:List Value} {e:TypeId} (a:w.ownsRow base e 1 v n xs) (b:v≠ .slice none 0 0):∃g c,v= .slice (qK g 0) n c:=by
 rcases a.2 with ⟨e,_⟩ | ⟨g',d,f,e,_⟩
 ·exact absurd e b
 exact⟨_,_,e⟩
theorem Tryz.infoBr:(prog.info? 21).map (fun i=>(i.zero,i.size,i.bytes))=some (some (.int .i32 0),1,4):=by kernel_rfl
theorem rd_blk {w:World} {v:Value} {bs:List Int} (f:Rd .u8 w v bs):∀b off cap,v= .slice (qK b off) bs.length cap->0<bs.length->b<w.heap.size:=by
 intro b off cap e c;rcases f with ⟨_,_,_,rfl⟩ | ⟨h,i,j,a,k,g⟩
 ·simp at c
 rw [e]at a;simp only [xB,xz,vY,kS,kt]at a;obtain⟨⟨rfl,rfl⟩,rfl⟩:=a;have d:=xQ w _ (g 0 c);simpa using d
theorem SrcB.other {bs:List Int} {a:Value} {p q:Nat} {w w':World} (c:SrcB bs a q w) (f:Chg [p] w w') (l:q≠p) (m:∀b off cap,a= .slice (qK b off) bs.length cap->0<bs.length->b≠p):SrcB bs a q w':=by
 refine⟨?_,c.2⟩;have j:=c.1.lt;obtain⟨⟨i,x,n,o,r,s⟩,t,u,d⟩:=c.1;refine⟨⟨i,x,n,o,r,(f.block q j (by simpa using l)).trans s⟩,t,u,?_⟩;rcases d with d | ⟨b,off,cap,g,v,h,y⟩
 ·exact .inl d
 refine .inr ⟨b,off,cap,g,v,h,fun i hi=>?_⟩;have e:=y i hi;have k:=xQ w _ e;rw [qV (w:=w) (f.block b k (by simpa using m b off cap g h.1))];exact e
section
variable {base base' g c:Nat} {zs:List Int} {vi:Value} {T:AT} {W:World}
def delQ (zs:List Int) (T:AT) (lo hi:Int):AT:=if lo=hi then T else delP zs T lo hi
theorem delK {lo hi':Int} (i:own32 W base (.slice (qK g 0) zs.length c) zs) (hi:OwI W base' vi (T.told 0)) (f:BFr zs T) (n:0<=lo) (a:lo<=hi') (h:hi'<=T.rns) (q:W.cell? ⟨0,0,none⟩=some (.iface 184 (.agg #[.pointer (qK 1 67)]))):
  Calls prog 13 #[.agg #[.slice (qK g 0) zs.length c,vi],qJ lo,qJ hi'] W fun e w'=>∃g' b d,e= .returned (.tuple #[.agg #[.slice (qK g' 0) zs.length b,d],qJ 0])∧own32 w' W.heap.size (.slice (qK g' 0) zs.length b) zs∧OwI w' W.heap.size d ((delQ zs T lo hi').told 0)∧Below W.heap.size W w':=by
 have j:=yq i;have t:=f.len
 have k:pdT zs (T.told 0) lo hi'=some (delQ zs T lo hi'):=by
  unfold pdT delQ;rw [f.read];simp only;rw [xd ⟨n,a,h⟩]
 have l:pdC zs (T.told 0) lo hi'=0:=by
  unfold pdC;rw [f.read];simp only;rw [xd ⟨n,a,h⟩]
 have o:pdS zs (T.told 0) lo hi'=zs:=by unfold pdS;rw [k];rfl
 have p:pdI zs (T.told 0) lo hi'=(delQ zs T lo hi').told 0:=by unfold pdI;rw [k]
 have m:=implPD W.heap.size zs g 0 c vi (T.told 0) lo hi' W (yX i) (jh i) (by omega) j.1 j.2 hi.rd lR (by have:=f.its;omega) q l;rw [o,p,l]at m;refine m.mono ?_;rintro e w' ⟨u,d,rfl,a,h,r,s⟩;obtain⟨g',b,rfl⟩:=Ze a (s rfl);exact⟨g',b,d,rfl,a,h,r⟩
end
section
variable {W:World} {B g zl c tl k m:Nat} {a:Option Addr} {tx:List Int}
theorem pvD {i j:Nat} (q:PV W B g zl c a tl k tx m) (y:i<=j) (z:j<=tx.length) (r:W.cell? ⟨0,0,none⟩=some (.iface 184 (.agg #[.pointer (qK 1 67)]))):
  Calls prog 13 #[.agg #[.slice (qK g 0) zl c,.slice a tl k],qJ i,qJ j] W fun e w'=>∃g' o d f p h,e= .returned (.tuple #[.agg #[.slice (qK g' 0) o d,.slice f p h],qJ 0])∧PV w' W.heap.size g' o d f p h (tx.take i++tx.drop j) m∧Below W.heap.size W w':=by
 obtain⟨zs,T,rfl,rfl,s,t,b,rfl,u⟩:=q;have x:=b.txl
 have n:BFr zs (delQ zs T i j)∧(delQ zs T i j).tx zs=(T.tx zs).take i++(T.tx zs).drop j:=by
  unfold delQ;by_cases e:(i:Int)=j
  ·obtain rfl:i=j:=by omega
   rw [xd rfl,xw];exact⟨b,rfl⟩
  rw [qZ e];have l:=zBp b.ok b.bal b.wp b.len (show 0<=(i:Int)by omega) (show(i:Int)<=j by omega) (by omega);have ht:=delP_tx b.ok b.bal b.wp b.len (show 0<=(i:Int)by omega) (show(i:Int)<=j by omega) (by omega);rw [vg,vg]at ht;exact⟨⟨l.1,l.2.1,l.2.2.1,b.len⟩,ht⟩
 refine(delK s t b (show 0<=(i:Int)by omega) (show(i:Int)<=j by omega) (by omega) r).mono ?_;rintro e w' ⟨g',d,A,rfl,v,k2,w⟩;obtain⟨f,h,rfl⟩:=zb k2;exact⟨g',_,d,f,_,h,rfl,⟨zs,_,rfl,rfl,v,k2,n.1,n.2,u⟩,w⟩
end
end Go.Proofs.YtmjanhcplcalfaaGreatDoor
