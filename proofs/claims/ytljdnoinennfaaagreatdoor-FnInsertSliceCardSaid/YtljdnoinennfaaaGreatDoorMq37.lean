import Derived.Test.YtljdnoinennfaaaGreatDoorMq36
set_option linter.all false
set_option maxRecDepth 100000
set_option maxHeartbeats 8000000
namespace Go.Proofs.YtljdnoinennfaaaGreatDoor
open Go Go.RowKit
theorem At32.part {w:World} {b:Nat} {zs:List Int} (c:At32 w b 0 zs) (q l:Nat) (d:q+l<=zs.length):At32 w b q ((zs.drop q).take l):=fun i hi=>by
 rw [qN,qS]at hi
 have a:=c (q+i) (by omega)
 rw [xN]at a
 rw [a,qW,qW,List.getElem?_take_of_lt (by omega),vn]
theorem size2K (n:Nat) (ao:Option Addr) (cap:Nat) (m:Int) (w:World) (a:n<=1048576) (b:2<=m∧m<=1048576):
  Calls Tryz.prog 21 #[.slice ao n cap,qJ m] w fun e w'=>∃r:Int,e= .returned (qJ r)∧(0<r∧r<=m)∧w'=w:=by
 go_enter Tryz.func21,Tryz.ntmps21;go_wp2_with fail;refine(size1 n ao cap m w a b).mono ?_;rintro e w1 ⟨r,rfl,c,rfl⟩;go_wp2;go_ret;exact⟨_,rfl,c,rfl⟩
theorem cpK {ts:List Int} {m g c base:Nat} {x:World} (d:ts.length=m) (a:own32 x base (.slice (qK g 0) m c) ts) (f:m<=1048576):
  Calls Tryz.prog 9 #[.slice (qK g 0) m c] x fun e w'=>∃b cap,e= .returned (.slice (qK b 0) m cap)∧own32 w' x.heap.size (.slice (qK b 0) m cap) ts∧Below x.heap.size x w':=by
 subst d;exact zAe ts g 0 c x (yU a) (je a) f
theorem at_take {w:World} {b:Nat} {zs:List Int} (a:At32 w b 0 zs) (l:Nat):At32 w b 0 (zs.take l):=fun i hi=>by
 rw [qN]at hi
 rw [a i (by omega),qW,qW,List.getElem?_take_of_lt (by omega)]
theorem cpTakeK {tx:List Int} {a g c base i:Nat} {x:World} (k:tx.length=a) (j:own32 x base (.slice (qK g 0) a c) tx) (hi:i<=a) (m:a<=1048576):
  Calls Tryz.prog 9 #[.slice (qK g 0) i c] x fun e w'=>∃b cap,e= .returned (.slice (qK b 0) i cap)∧w'.ownsRow x.heap.size 21 1 (.slice (qK b 0) i cap) i (ints .i32 (tx.take i))∧Below x.heap.size x w':=by
 subst k
 have f:(tx.take i).length=i:=by rw [qN];omega
 have h:=zAe (tx.take i) g 0 c x (at_take (yU j) i) (je j) (by omega)
 rw [f]at h;refine h.mono ?_;rintro e w' ⟨b,cap,rfl,d,l⟩;unfold own32 at d;rw [f]at d;exact⟨b,cap,rfl,d,l⟩
theorem own_srcK {ts:List Int} {m g c base:Nat} {x:World} (a:ts.length=m) (b:own32 x base (.slice (qK g 0) m c) ts):∀j v,(ints .i32 ts)[j]? =some v->x.cell? ((⟨g,0,none⟩:Addr).add j)=some v:=by
 subst a;exact zAh (yU b)
theorem zGt {ts:List Int} {m g c base:Nat} {x:World} (b:ts.length=m) (d:own32 x base (.slice (qK g 0) m c) ts) (q:Nat) (e:q<=m):∀j v,(ints .i32 (ts.drop q))[j]? =some v->x.cell? ((⟨g,q,none⟩:Addr).add j)=some v:=by
 subst b
 have a:=(yU d).part q (ts.length - q) (by omega)
 rw [xE (by rw [qS];omega)]at a
 exact zAh a
theorem own_capK {ts:List Int} {m g c base:Nat} {x:World} (a:ts.length=m) (b:own32 x base (.slice (qK g 0) m c) ts):m<=c∧c<=maxLen:=by
 subst a;exact jN b
theorem zAt {ts:List Int} {m base:Nat} {x:World} {v:Value} (a:ts.length=m) (b:x.ownsRow base 21 1 v m (ints .i32 ts)):own32 x base v ts:=by
 subst a;exact b
theorem ZY {w:World} {base n:Nat} {v:Value} {xs:List Value} {e:TypeId} (a:w.ownsRow base e 1 v n xs) (b:v≠ .slice none 0 0):∃g c,v= .slice (qK g 0) n c:=by
 rcases a.2 with ⟨e,_⟩ | ⟨g',d,f,e,_⟩
 ·exact absurd e b
 ·exact⟨_,_,e⟩
theorem Tryz.infoBr:(Tryz.prog.info? 21).map (fun i=>(i.zero,i.size,i.bytes))=some (some (.int .i32 0),1,4):=by kernel_rfl
theorem Zo {w:World} {base n:Nat} {v:Value} {xs:List Value} {e:TypeId} (a:w.ownsRow base e 1 v n xs) (b:0<n):∃g c,v= .slice (qK g 0) n c:=by
 rcases a.2 with ⟨_,e⟩ | ⟨g',d,f,e,_⟩
 ·omega
 ·exact⟨_,_,e⟩
theorem rd_blk {w:World} {v:Value} {bs:List Int} (f:Rd .u8 w v bs):∀b off cap,v= .slice (qK b off) bs.length cap->0<bs.length->b<w.heap.size:=by
 intro b off cap e c
 rcases f with ⟨_,_,_,rfl⟩ | ⟨h,i,j,a,k,g⟩
 ·simp at c
 ·rw [e]at a
  simp only [xF,xw,ka,kW,kJ]at a;obtain⟨⟨rfl,rfl⟩,rfl⟩:=a;have d:=xD w _ (g 0 c);simpa using d
theorem SrcB.other {bs:List Int} {a:Value} {p q:Nat} {w w':World} (c:SrcB bs a q w) (f:Chg [p] w w') (l:q≠p) (m:∀b off cap,a= .slice (qK b off) bs.length cap->0<bs.length->b≠p):SrcB bs a q w':=by
 refine⟨?_,c.2⟩;have j:=c.1.lt;obtain⟨⟨i,x,n,o,r,s⟩,t,u,d⟩:=c.1
 refine⟨⟨i,x,n,o,r,(f.block q j (by simpa using l)).trans s⟩,t,u,?_⟩
 rcases d with d | ⟨b,off,cap,g,v,h,y⟩
 ·exact .inl d
 ·refine .inr ⟨b,off,cap,g,v,h,fun i hi=>?_⟩
  have e:=y i hi;have k:=xD w _ e
  rw [qV (w:=w) (f.block b k (by simpa using m b off cap g h.1))]
  exact e
theorem PX.draw {W f:World} {B X g h c i k m p:Nat} {a:Option Addr} {tx bs:List Int} {s:Value} (b:PX W B X g h c a i k tx m) (t:SrcB bs s p W) (j:Chg [p] W f):PX f B X g h c a i k tx m:=by
 obtain⟨cs,u,l⟩:=t.blk
 have n:X≠p:=fun e=>by
  have d:=b.k;unfold D2 at d;rw [e,l]at d;simp only [xw]at d
  injection d with _ h3 _
  exact absurd h3 (by decide)
 exact⟨(j.block X b.k.lt (by simpa using n)).trans b.k,b.v.keep l (by decide) (by decide) (fun q o r=>j.block q r (by simpa using o)),b.b⟩
theorem zAl {x y:World} {o:Obj} (b:y.heap=(x.alloc o).heap) (d:y.os=x.os) (ht:y.tape=x.tape) (e:y.output=x.output):Below x.heap.size x y:=
 have a:=(qO x.heap.size x).alloc lR o
 ⟨d,ht,e,by rw [b];exact a.size,fun k c=>by rw [b];exact a.block k c⟩
theorem zRe {x y z:World} (a:Below y.heap.size y z) (e:y.heap=x.heap) (c:y.os=x.os) (d:y.tape=x.tape) (f:y.output=x.output):Below x.heap.size x z:=
 ⟨a.os.trans c,a.tape.trans d,a.output.trans f,by rw [<- e];exact a.size,fun k b=>(a.block k (by rw [e];exact b)).trans (by rw [e])⟩
theorem zRa {x z:World} (o:Obj) (a:Below (x.alloc o).heap.size (x.alloc o) z):Below x.heap.size x z:=((qO x.heap.size x).alloc lR o).trans (a.mono (by simp))
theorem zD2 {x z:World} {u v:Value} {t:TypeId} (a:Below (x.alloc (.cells #[u,v] t)).heap.size (x.alloc (.cells #[u,v] t)) z):D2 z x.heap.size u v t:=(D2.new x u v t).below a (by simp)
end Go.Proofs.YtljdnoinennfaaaGreatDoor
