import Derived.Test.YtljdnoinennfaaaGreatDoorMq25
import Derived.Deep.RegionLaw
set_option linter.all false
set_option maxRecDepth 100000
set_option maxHeartbeats 8000000
namespace Go.Proofs.YtljdnoinennfaaaGreatDoor
open Go Go.RowKit
theorem zGc {w:World} {base b:Nat} {e:TypeId} {size:Nat} {v:Value} {n:Nat} {xs:List Value} (c:w.ownsRow base e size v n xs) (f:b<base) (x y z:Value):(((w.setCell ⟨b,0,none⟩ x).setCell ⟨b,1,none⟩ y).setCell ⟨b,2,none⟩ z).ownsRow base e size v n xs:=by
 have a:∀j,v.ownBlock≠some (⟨b,j,none⟩:Addr).block:=by
  intro j d;have:=(c.lt b d).1;omega
 exact ownsRow_setCell_other (ownsRow_setCell_other (ownsRow_setCell_other c (a 0) x) (a 1) y) (a 2) z
def zeroG:Value:=.agg #[.slice none 0 0,qJ 0,qJ 0]
def Xg:ByteArray:=⟨#[114,101,97,100,105,110,103,32,97,32,103,97,112,32,98,117,102,102,101,114]⟩
theorem zBt (zs:List Int) (v:Value) (lo hi:Int) (w:World) (f:Gs w v zs) (l:zs.length<=1048576) (i:¬gok zs lo hi):
  Calls Tryz.prog 122 #[.agg #[v,qJ lo,qJ hi]] w fun e w'=>e= .returned (.tuple #[zeroG,.iface 120 (.agg #[.string Xg,.iface 121 (qJ 1)])])∧Below w.heap.size w w':=by
 obtain⟨ao,cap,rfl⟩:=f.val
 have c:=qG (((qO w.heap.size w).alloc lR (.cells #[.slice ao zs.length cap,qJ lo,qJ hi] 91)).alloc (by simp) (.cells #[.slice none 0 0,qJ 0,qJ 0] 129))
 have d:=qG (T3.new (w.alloc (.cells #[.slice ao zs.length cap,qJ lo,qJ hi] 91)) (.slice none 0 0) (qJ 0) (qJ 0) 129);have a:=qG (Kf zs _ lo hi _ (f.below c lR) l)
 rw [show(@decide (gok zs lo hi) (Classical.propDecidable _))=false by simpa using i]at a
 simp only [errV,vK,kQ]at a
 have q:((w.alloc (.cells #[.slice ao zs.length cap,qJ lo,qJ hi] 91)).alloc (.cells #[.slice none 0 0,qJ 0,qJ 0] 129)).heap.size=w.heap.size+2:=by simp
 have h:(w.alloc (.cells #[.slice ao zs.length cap,qJ lo,qJ hi] 91)).heap.size=w.heap.size+1:=by simp
 rw [h]at d;generalize k:zs.length=n at *;clear f i h k;go_enter Tryz.func122,Tryz.ntmps122;go_wp2_with fail;generalize (w.alloc (.cells #[.slice ao n cap,qJ lo,qJ hi] 91)).alloc (.cells #[.slice none 0 0,qJ 0,qJ 0] 129)=u at *;refine a.mono ?_;rintro e w1 ⟨rfl,g⟩
 have b:=qG (d.below g (by omega))
 have j:=qG (c.trans (g.mono (by omega)))
 obtain⟨m,o,p⟩:=b.c;have r:=b.fz 0;have s:=b.fz 1;have t:=b.fz 2;clear g a d c;go_wp2
 refine xr (v:=.tuple #[zeroG,.iface 120 (.agg #[.string Xg,.iface 121 (qJ 1)])]) (by simp [results,Tryz.results122,go_sem,m,o,p];exact⟨rfl,rfl⟩) rfl ?_
 exact⟨rfl,((j.setCell (by simp) _).setCell (by simp) _).setCell (by simp) _⟩
theorem zDf (zs:List Int) (v:Value) (lo hi:Int) (w:World) (q:Gs w v zs) (B:zs.length<=1048576) (C:gok zs lo hi):
  Calls Tryz.prog 122 #[.agg #[v,qJ lo,qJ hi]] w fun e w'=>∃A,e= .returned (.tuple #[.agg #[A,qJ lo,qJ hi],.nilIface])∧w'.ownsRow w.heap.size 21 1 A zs.length (ints .i32 zs)∧Below w.heap.size w w':=by
 obtain⟨ao,cap,rfl⟩:=q.val
 have l:=qG (((qO w.heap.size w).alloc lR (.cells #[.slice ao zs.length cap,qJ lo,qJ hi] 91)).alloc (by simp) (.cells #[.slice none 0 0,qJ 0,qJ 0] 129))
 have m:=qG (T3.new (w.alloc (.cells #[.slice ao zs.length cap,qJ lo,qJ hi] 91)) (.slice none 0 0) (qJ 0) (qJ 0) 129)
 have s:=qG ((T3.new w (.slice ao zs.length cap) (qJ lo) (qJ hi) 91).below ((qO _ _).alloc lR (.cells #[.slice none 0 0,qJ 0,qJ 0] 129)) (by simp))
 have o:=qG (q.below l lR);have i:=qG (Kf zs _ lo hi _ o B)
 rw [show(@decide (gok zs lo hi) (Classical.propDecidable _))=true by simpa using C]at i
 simp only [errV,kP]at i
 have L:((w.alloc (.cells #[.slice ao zs.length cap,qJ lo,qJ hi] 91)).alloc (.cells #[.slice none 0 0,qJ 0,qJ 0] 129)).heap.size=w.heap.size+2:=by simp
 have t:(w.alloc (.cells #[.slice ao zs.length cap,qJ lo,qJ hi] 91)).heap.size=w.heap.size+1:=by simp
 rw [t]at m;generalize z:zs.length=n at *;have p:=qG z;clear q C t z;go_enter Tryz.func122,Tryz.ntmps122;go_wp2_with fail;generalize (w.alloc (.cells #[.slice ao n cap,qJ lo,qJ hi] 91)).alloc (.cells #[.slice none 0 0,qJ 0,qJ 0] 129)=X at *;refine i.mono ?_;rintro e w1 ⟨rfl,c⟩
 have f:=qG (m.below c (by omega))
 have u:=qG (s.below c (by omega))
 have F:=qG (o.below c (by omega))
 have G:=qG (l.trans (c.mono (by omega)))
 have M:=c.size;obtain⟨Y,Z,aa⟩:=f.c;have N:=f.fz 0;have O:=f.fz 1;have P:=f.fz 2;obtain⟨ab,ac,ad⟩:=u.c;clear c i m l s o
 have Q:w.heap.size<w1.heap.size:=by omega
 go_wp2_with fail
 go_region_with (go_at_call 120;refine(clone32 zs _ _ (by exact(F.sl).below ⟨rfl,rfl,rfl,lR,fun _ _=>rfl⟩) (by rw [p.out];exact B)).mono ?_;rintro e D ⟨ae,rfl,r,d⟩;obtain⟨g,h,E⟩:=(Gs.qd r).val;rw [p.out]at E;subst E;have j:=qG (show Below w1.heap.size w1 D from⟨d.os,d.tape,d.output,d.size,d.block⟩);have x:=qG (show D.ownsRow w1.heap.size 21 1 (.slice g n h) zs.length (ints .i32 zs)from r);have a:=qG (f.below j (by omega));have k:=qG (u.below j (by omega));have H:=a.c.1;have I:=a.c.2.1;have J:=a.c.2.2;have R:=a.fz 0;have S:=a.fz 1;have T:=a.fz 2;have U:=k.c.1;have V:=k.c.2.1;have W:=k.c.2.2;have y:=qG (zD (base':=w.heap.size) (zGc (b:=w.heap.size+1) x (by omega) (.slice g n h) (qJ lo) (qJ hi)) (by omega));have K:=qG ((((G.trans (j.mono (by omega))).setCell (show w.heap.size<=(⟨w.heap.size+1,0,none⟩:Addr).block by simp) (.slice g n h)).setCell (show w.heap.size<=(⟨w.heap.size+1,1,none⟩:Addr).block by simp) (qJ lo)).setCell (show w.heap.size<=(⟨w.heap.size+1,2,none⟩:Addr).block by simp) (qJ hi));rw [p.out]at y;clear r d x j a k)
 all_goals (
  go_wp2
  refine xr (v:=.tuple #[.agg #[.slice g n h,qJ lo,qJ hi],.nilIface]) (by simp [results,Tryz.results122,go_sem,H,I,J]) rfl ?_
  exact⟨.slice g n h,rfl,y,K⟩)
structure Row1 (w w':World) (g:Nat) (a:List Value) (t:TypeId):Prop where
 row:w'.heap[g]? =some (.cells a.toArray t (0,0))
 os:w'.os=w.os
 tape:w'.tape=w.tape
 output:w'.output=w.output
 size:w'.heap.size=w.heap.size
 block:∀k,k≠g->w'.heap[k]? =w.heap[k]?
theorem Row1.qA {w:World} {g:Nat} {a:Array Value} {t:TypeId} (b:List Value) (d:w.heap[g]? =some (.cells a t (0,0))):Row1 w (w.setRow g b.toArray) g b t:=
 ⟨setRow_heap w g a _ t _ d,rfl,rfl,rfl,by simp,fun k c=>setRow_other w g k _ c⟩
theorem Row1.refl {w:World} {g:Nat} {a:List Value} {t:TypeId} (b:w.heap[g]? =some (.cells a.toArray t (0,0))):Row1 w w g a t:=⟨b,rfl,rfl,rfl,rfl,fun _ _=>rfl⟩
section
variable {P:Program}
theorem YL {r:Array Oper} {o:Oper} {a:Act} {w:World} {u:Act->World->Prop} {Q:Exit->Act->World->Prop} {G:Prop} (H:o.guard=none) (d s:Operand) (e l:TypeId)
  (x:o.op= .call {callee:=.builtin .copy,args:=#[d,s],argTypes:=#[e,l]}) (f:TypeId) (y:P.underlying e=some (.slice f)) (z:(P.info? f).map (·.size)=some 1)
  (m sp:Option Addr) (h n i p:Nat) (A:a.eval d= .slice m h n) (B:a.eval s= .slice sp i p)
  (g off:Nat) (b:List Value) (t:TypeId) (q:w.heap[g]? =some (.cells b.toArray t (0,0))) (cs:List Value) (C:cs.length=Nat.min i h)
  (I:0<cs.length->m=some ⟨g,off,none⟩∧∃c,sp=some c∧∀j v,cs[j]? =some v->w.cell? (c.add j)=some v)
  (J:off+cs.length<=b.length) (K:∀v∈cs,v.oneCell'=true)
  (D:∀w',Hid (Row1 w w' g (splice b off cs) t)->u (a.put o.dst (goInt cs.length)) w'):
  if Region.wanted o (yielded r a.tmps)=true then Oper.wp P o a w u Q else G:=by
 have E:Region.wanted o (yielded r a.tmps)=true:=by simp [Region.wanted,H]
 rw [xj E]
 by_cases F:cs.length=0
 ·obtain rfl:cs= []:=qU F
  have k:=run_copy_none (P:=P) w e l o.type f m sp h n i p y z (by simpa using C.symm)
  unfold Oper.wp;simp [execOp,x,resolve,invoke,builtin,A,B,k,Result.andThen]
  exact D w (qG (by simpa [splice]using Row1.refl q))
 ·obtain⟨rfl,c,rfl,L⟩:=I (by omega)
  have k:=run_copy_row (P:=P) w e l o.type f g off h n c i p b.toArray t cs y z q C L (by simpa using J) K
  unfold Oper.wp;simp [execOp,x,resolve,invoke,builtin,A,B,k,Result.andThen]
  exact D _ (qG (by simpa [splice]using Row1.qA (splice b off cs) q))
theorem zR {w:World} {q:Array Oper} {r:List Oper} {o:Oper} {a:Act} {Q:Exit->Act->World->Prop} (u:o.guard=none) (d s:Operand) (e k:TypeId)
  (x:o.op= .call {callee:=.builtin .copy,args:=#[d,s],argTypes:=#[e,k]}) (f:TypeId) (y:P.underlying e=some (.slice f)) (z:(P.info? f).map (·.size)=some 1)
  (l sp:Option Addr) (h m i n:Nat) (A:a.eval d= .slice l h m) (B:a.eval s= .slice sp i n)
  (g off:Nat) (b:List Value) (t:TypeId) (p:w.heap[g]? =some (.cells b.toArray t (0,0))) (cs:List Value) (C:cs.length=Nat.min i h)
  (F:0<cs.length->l=some ⟨g,off,none⟩∧∃c,sp=some c∧∀j v,cs[j]? =some v->w.cell? (c.add j)=some v)
  (G:off+cs.length<=b.length) (H:∀v∈cs,v.oneCell'=true)
  (D:∀w',Hid (Row1 w w' g (splice b off cs) t)->wpList P q Q r (a.put o.dst (goInt cs.length)) w'):
  wpList P q Q (o::r) a w:=by
 by_cases E:cs.length=0
 ·obtain rfl:cs= []:=qU E
  refine wpList_copy_nothing u d s e k x f y z l sp h m i n A B (by simpa using C.symm) ?_
  exact D w (qG (by simpa [splice]using Row1.refl p))
 ·obtain⟨rfl,c,rfl,I⟩:=F (by omega)
  refine wpList_copy_own u d s e k x f y z g off h m c i n A B b.toArray t p cs C I (by simpa using G) H ?_
  exact D _ (qG (by simpa [splice]using Row1.qA (splice b off cs) p))
theorem YM (w:World) (t e j:TypeId) (z:Value) (ht:P.underlying t=some (.slice e)) (k:∀w,(zeroValue e).run P w= .ok z w) (l:z.cells= #[z]) (b:z.oneCell'=true) (g o n c:Nat) (s:0<n)
  (a:List Value) (d:TypeId) (p:w.heap[g]? =some (.cells a.toArray d (0,0))) (q:o+n<=a.length):
  (Builtin.clear_ #[t] j #[.slice (qK g o) n c]).run P w= .ok (.tuple #[]) (w.setRow g (splice a o (List.replicate n z)).toArray):=by
 have f:(Builtin.zeroCells z.cells n).toList=List.replicate n z:=by
  rw [l];simp [Builtin.zeroCells];apply List.ext_getElem
  ·simp
  ·intro i b r
   simp [Nat.mod_one]
 have hst:=run_storeCells_at P g o d (List.replicate n z) 0 a.toArray w p (by simpa using q) (by intro v h;rw [kK h];exact b)
 simp only [Nat.add_zero]at hst
 obtain⟨m,rfl⟩:∃m,n=m+1:=⟨n - 1,by omega⟩
 simp [Builtin.clear_,run_underlying ht,k,f,hst,splice]
theorem jH (w:World) (t e b:TypeId) (ht:P.underlying t=some (.slice e)) (a:Option Addr) (c:Nat):(Builtin.clear_ #[t] b #[.slice a 0 c]).run P w= .ok (.tuple #[]) w:=by
 cases a<;>simp [Builtin.clear_,run_underlying ht]
theorem step_clear_row {l:Array Oper} {o:Oper} {a:Act} {w:World} {m:Act->World->Prop} {Q:Exit->Act->World->Prop} {v:Prop} (x:o.guard=none) (d:Operand) (c:TypeId)
  (n:o.op= .call {callee:=.builtin .clear,args:=#[d],argTypes:=#[c]}) (e:TypeId) (p:P.underlying c=some (.slice e)) (z:Value) (y:∀w,(zeroValue e).run P w= .ok z w) (A:z.cells= #[z]) (B:z.oneCell'=true)
  (i:Option Addr) (b j:Nat) (q:a.eval d= .slice i b j) (g off:Nat) (f:List Value) (t:TypeId) (k:w.heap[g]? =some (.cells f.toArray t (0,0)))
  (C:0<b->i=some ⟨g,off,none⟩) (D:off+b<=f.length)
  (r:∀w',Hid (Row1 w w' g (splice f off (List.replicate b z)) t)->m (a.put o.dst (.tuple #[])) w'):
  if Region.wanted o (yielded l a.tmps)=true then Oper.wp P o a w m Q else v:=by
 have s:Region.wanted o (yielded l a.tmps)=true:=by simp [Region.wanted,x]
 rw [xj s]
 by_cases u:b=0
 ·subst u
  have h:=jH (P:=P) w c e o.type p i j;unfold Oper.wp;simp [execOp,n,resolve,invoke,builtin,q,h,Result.andThen]
  exact r w (qG (by simpa [splice]using Row1.refl k))
 ·obtain rfl:=C (by omega)
  have h:=YM (P:=P) w c e o.type z p y A B g off b j (by omega) f t k D
  unfold Oper.wp;simp [execOp,n,resolve,invoke,builtin,q,h,Result.andThen];exact r _ (qG (Row1.qA _ k))
theorem zn {w:World} {m:Array Oper} {n:List Oper} {o:Oper} {a:Act} {Q:Exit->Act->World->Prop} (v:o.guard=none) (d:Operand) (c:TypeId)
  (p:o.op= .call {callee:=.builtin .clear,args:=#[d],argTypes:=#[c]}) (e:TypeId) (q:P.underlying c=some (.slice e)) (z:Value) (x:∀w,(zeroValue e).run P w= .ok z w) (y:z.cells= #[z]) (A:z.oneCell'=true)
  (i:Option Addr) (b j:Nat) (r:a.eval d= .slice i b j) (g off:Nat) (f:List Value) (t:TypeId) (k:w.heap[g]? =some (.cells f.toArray t (0,0)))
  (B:0<b->i=some ⟨g,off,none⟩) (C:off+b<=f.length)
  (s:∀w',Hid (Row1 w w' g (splice f off (List.replicate b z)) t)->wpList P m Q n (a.put o.dst (.tuple #[])) w'):
  wpList P m Q (o::n) a w:=by
 refine wpList_plain v fun D l=>?_
 by_cases u:b=0
 ·subst u
  have h:=jH (P:=P) w c e o.type q i j;unfold Oper.wp;simp [execOp,p,resolve,invoke,builtin,r,h,Result.andThen]
  exact l _ _ (s w (qG (by simpa [splice]using Row1.refl k)))
 ·obtain rfl:=B (by omega)
  have h:=YM (P:=P) w c e o.type z q x y A g off b j (by omega) f t k C
  unfold Oper.wp;simp [execOp,p,resolve,invoke,builtin,r,h,Result.andThen];exact l _ _ (s _ (qG (Row1.qA _ k)))
end
abbrev T3v:=Value×Value×Value
def fl3:List T3v->List Value
 | []=>[]
 | x::R=>x.1::x.2.1::x.2.2::fl3 R
theorem zI (R:List T3v):(fl3 R).length=R.length*3:=by
 induction R with
 | nil=>rfl
 | cons x R a=>simp only [fl3,q9,a];omega
theorem zF0 (a b:List T3v):fl3 (a++b)=fl3 a++fl3 b:=by
 induction a with
 | nil=>rfl
 | cons x a c=>simp only [xx,fl3,c]
theorem Xh (R:List T3v) (n:Nat):(fl3 R).take (n*3)=fl3 (R.take n):=by
 induction n generalizing R with
 | zero=>simp [fl3]
 | succ n a=>
  cases R with
  | nil=>simp [fl3]
  | cons x R=>
   rw [show(n+1)*3=n*3+1+1+1 by omega]
   simp only [fl3,ki,a]
theorem Xi (R:List T3v) (n:Nat):(fl3 R).drop (n*3)=fl3 (R.drop n):=by
 induction n generalizing R with
 | zero=>simp
 | succ n a=>
  cases R with
  | nil=>simp [fl3]
  | cons x R=>
   rw [show(n+1)*3=n*3+1+1+1 by omega]
   simp only [fl3,ku,a]
theorem ze {R cs:List T3v} {sp:List Value} {off:Nat} (c:off+cs.length<=R.length):splice (fl3 R++sp) (off*3) (fl3 cs)=fl3 (splice R off cs)++sp:=by
 unfold splice;have b:=zI R;have a:=zI cs
 rw [zF0,zF0,xW (by omega),vo (by omega),Xh,a,show off*3+cs.length*3=(off+cs.length)*3 by omega,Xi]
 simp only [xq]
theorem fl3_get {R:List T3v} {i:Nat} {x:T3v} (a:R[i]? =some x):(fl3 R)[i*3]? =some x.1∧(fl3 R)[i*3+1]? =some x.2.1∧(fl3 R)[i*3+2]? =some x.2.2:=by
 induction R generalizing i with
 | nil=>simp at a
 | cons y R b=>
  cases i with
  | zero=>simp at a;subst a;exact⟨rfl,rfl,rfl⟩
  | succ i=>
   simp only [vh]at a;have:=b a
   rw [show(i+1)*3=i*3+1+1+1 by omega,show i*3+1+1+1+1=i*3+1+1+1+1 by omega,show i*3+1+1+1+2=i*3+2+1+1+1 by omega]
   simp only [fl3,vh];exact this
def One3 (R:List T3v):Prop:=∀x∈R,x.1.oneCell'=true∧x.2.1.oneCell'=true∧x.2.2.oneCell'=true
theorem One3.fl {R:List T3v} (c:One3 R):∀v∈fl3 R,v.oneCell'=true:=by
 induction R with
 | nil=>simp [fl3]
 | cons x R e=>
  intro v a;simp only [fl3,xR]at a
  have b:=c x (by simp)
  rcases a with rfl | rfl | rfl | a
  ·exact b.1
  ·exact b.2.1
  ·exact b.2.2
  ·exact e (fun y d=>c y (kn _ d)) v a
theorem One3.take {R:List T3v} (b:One3 R) (n:Nat):One3 (R.take n):=fun x a=>b x (xI a)
theorem One3.drop {R:List T3v} (b:One3 R) (n:Nat):One3 (R.drop n):=fun x a=>b x (xX a)
theorem One3.app {a b:List T3v} (d:One3 a) (k:One3 b):One3 (a++b):=fun x c=>by
 rcases xv.1 c with q | q
 ·exact d x q
 ·exact k x q
section
variable {P:Program}
theorem Zj (w:World) (c h j b:TypeId) (d a:Option Addr) (e k f l:Nat) (m:P.underlying c=some (.slice b)) (n:(P.info? b).map (·.size)=some 3) (o:Nat.min f e=0):
  (Builtin.copy_ #[c,h] j #[.slice d e k,.slice a f l]).run P w= .ok (goInt 0) w:=by
 cases hq:P.info? b with
 | none=>simp [hq]at n
 | some i=>
  have g:∀ (x:Addr),(loadCells x 0).run P w= .ok #[] w:=fun x=>by simpa using run_loadCells_list (P:=P) w x [] (by simp)
  cases d<;>cases a<;>simp [Builtin.copy_,run_underlying m,Builtin.lenOf,Builtin.firstCells,sizeOf,typeInfo,hq,o,storeCells,g]
theorem YN (w:World) (e l n c:TypeId) (g o f p:Nat) (a:Addr) (h q:Nat) (b:Array Value) (t:TypeId) (m:Nat) (cs:List Value)
  (r:P.underlying e=some (.slice c)) (k:(P.info? c).map (·.size)=some 3)
  (s:w.heap[g]? =some (.cells b t (0,0))) (u:m=Nat.min h f) (x:cs.length=m*3)
  (y:∀j v,cs[j]? =some v->w.cell? (a.add j)=some v) (z:o+cs.length<=b.size) (A:∀v∈cs,v.oneCell'=true):
  (Builtin.copy_ #[e,l] n #[.slice (qK g o) f p,.slice (some a) h q]).run P w=
   .ok (goInt m) (w.setRow g (b.toList.take o++cs++b.toList.drop (o+cs.length)).toArray):=by
 have d:=run_loadCells_list (P:=P) w a cs y
 have hst:=run_storeCells_at P g o t cs 0 b w s (by simpa using z) A
 cases hq:P.info? c with
 | none=>simp [hq]at k
 | some i=>
  have hi:i.size=3:=by simpa [hq]using k
  rw [x]at d;simp [Builtin.copy_,run_underlying r,Builtin.lenOf,Builtin.firstCells,sizeOf,typeInfo,hq,hi,<- u,d,hst]
theorem Zk {u:Array Oper} {o:Oper} {a:Act} {w:World} {x:Act->World->Prop} {Q:Exit->Act->World->Prop} {H:Prop} (I:o.guard=none) (d s:Operand) (e l:TypeId)
  (y:o.op= .call {callee:=.builtin .copy,args:=#[d,s],argTypes:=#[e,l]}) (f:TypeId) (z:P.underlying e=some (.slice f)) (A:(P.info? f).map (·.size)=some 3)
  (n sp:Option Addr) (h p i q:Nat) (B:a.eval d= .slice n h p) (C:a.eval s= .slice sp i q)
  (g off:Nat) (b:List Value) (t:TypeId) (r:w.heap[g]? =some (.cells b.toArray t (0,0))) (m:Nat) (D:m=Nat.min i h) (cs:List Value) (J:cs.length=m*3)
  (K:0<m->n=some ⟨g,off,none⟩∧∃c,sp=some c∧∀j v,cs[j]? =some v->w.cell? (c.add j)=some v)
  (L:off+cs.length<=b.length) (M:∀v∈cs,v.oneCell'=true)
  (E:∀w',Hid (Row1 w w' g (splice b off cs) t)->x (a.put o.dst (goInt m)) w'):
  if Region.wanted o (yielded u a.tmps)=true then Oper.wp P o a w x Q else H:=by
 have F:Region.wanted o (yielded u a.tmps)=true:=by simp [Region.wanted,I]
 rw [xj F]
 by_cases G:m=0
 ·subst G
  obtain rfl:cs= []:=qU (by omega)
  have k:=Zj (P:=P) w e l o.type f n sp h p i q z A D.symm;unfold Oper.wp;simp [execOp,y,resolve,invoke,builtin,B,C,k,Result.andThen]
  exact E w (qG (by simpa [splice]using Row1.refl r))
 ·obtain⟨rfl,c,rfl,N⟩:=K (by omega)
  have k:=YN (P:=P) w e l o.type f g off h p c i q b.toArray t m cs z A r D J N (by simpa using L) M
  unfold Oper.wp;simp [execOp,y,resolve,invoke,builtin,B,C,k,Result.andThen]
  exact E _ (qG (by simpa [splice]using Row1.qA (splice b off cs) r))
theorem zV {w:World} {x:Array Oper} {y:List Oper} {o:Oper} {a:Act} {Q:Exit->Act->World->Prop} (H:o.guard=none) (d s:Operand) (e l:TypeId)
  (z:o.op= .call {callee:=.builtin .copy,args:=#[d,s],argTypes:=#[e,l]}) (f:TypeId) (A:P.underlying e=some (.slice f)) (B:(P.info? f).map (·.size)=some 3)
  (n sp:Option Addr) (h p i q:Nat) (C:a.eval d= .slice n h p) (D:a.eval s= .slice sp i q)
  (g off:Nat) (b:List Value) (t:TypeId) (r:w.heap[g]? =some (.cells b.toArray t (0,0))) (m:Nat) (E:m=Nat.min i h) (cs:List Value) (I:cs.length=m*3)
  (J:0<m->n=some ⟨g,off,none⟩∧∃c,sp=some c∧∀j v,cs[j]? =some v->w.cell? (c.add j)=some v)
  (K:off+cs.length<=b.length) (L:∀v∈cs,v.oneCell'=true)
  (F:∀w',Hid (Row1 w w' g (splice b off cs) t)->wpList P x Q y (a.put o.dst (goInt m)) w'):
  wpList P x Q (o::y) a w:=by
 refine wpList_plain H fun N u=>?_
 by_cases G:m=0
 ·subst G
  obtain rfl:cs= []:=qU (by omega)
  have k:=Zj (P:=P) w e l o.type f n sp h p i q A B E.symm;unfold Oper.wp;simp [execOp,z,resolve,invoke,builtin,C,D,k,Result.andThen]
  exact u _ _ (F w (qG (by simpa [splice]using Row1.refl r)))
 ·obtain⟨rfl,c,rfl,M⟩:=J (by omega)
  have k:=YN (P:=P) w e l o.type f g off h p c i q b.toArray t m cs A B r E I M (by simpa using K) L
  unfold Oper.wp;simp [execOp,z,resolve,invoke,builtin,C,D,k,Result.andThen]
  exact u _ _ (F _ (qG (by simpa [splice]using Row1.qA (splice b off cs) r)))
theorem zero3 (a b c:Value) (n:Nat):(Builtin.zeroCells #[a,b,c] n).toList=fl3 (List.replicate n (a,b,c)):=by
 apply kV;intro i;have f:=zI (List.replicate n (a,b,c));rw [qP]at f
 by_cases hi:i<n*3
 ·have g:i/3<n:=by omega
  have e:=fl3_get (R:=List.replicate n (a,b,c)) (i:=i/3) (x:=(a,b,c)) (by simp [g])
  have d:i%3=0∨i%3=1∨i%3=2:=by omega
  have h:(Builtin.zeroCells #[a,b,c] n).toList[i]? =some (#[a,b,c][i%3]!):=by
   simp [Builtin.zeroCells,hi]
  rw [h]
  rcases d with d | d | d
  ·rw [show i/3*3=i by omega]at e
   rw [e.1,d];rfl
  ·rw [show i/3*3+1=i by omega]at e
   rw [e.2.1,d];rfl
  ·rw [show i/3*3+2=i by omega]at e
   rw [e.2.2,d];rfl
 ·rw [xQ (by simp [Builtin.zeroCells];omega),xQ (by omega)]
theorem Xj (w:World) (t e l:TypeId) (z:Value) (a b d:Value) (ht:P.underlying t=some (.slice e)) (p:∀w,(zeroValue e).run P w= .ok z w) (q:z.cells= #[a,b,d]) (r:a.oneCell'=true∧b.oneCell'=true∧d.oneCell'=true) (g o n c:Nat) (v:0<n)
  (f:List Value) (i:TypeId) (s:w.heap[g]? =some (.cells f.toArray i (0,0))) (u:o+n*3<=f.length):
  (Builtin.clear_ #[t] l #[.slice (qK g o) n c]).run P w= .ok (.tuple #[]) (w.setRow g (splice f o (fl3 (List.replicate n (a,b,d)))).toArray):=by
 have j:(Builtin.zeroCells z.cells n).toList=fl3 (List.replicate n (a,b,d)):=by rw [q];exact zero3 a b d n
 have h:=zI (List.replicate n (a,b,d));rw [qP]at h
 have hst:=run_storeCells_at P g o i (fl3 (List.replicate n (a,b,d))) 0 f.toArray w s (by simpa [h]using u) (One3.fl (fun x k=>by rw [kK k];exact r))
 simp only [Nat.add_zero]at hst
 obtain⟨m,rfl⟩:∃m,n=m+1:=⟨n - 1,by omega⟩
 simp [Builtin.clear_,run_underlying ht,p,j,hst,splice]
theorem yE {w:World} {q:Array Oper} {r:List Oper} {o:Oper} {a:Act} {Q:Exit->Act->World->Prop} (A:o.guard=none) (d:Operand) (c:TypeId)
  (s:o.op= .call {callee:=.builtin .clear,args:=#[d],argTypes:=#[c]}) (e:TypeId) (u:P.underlying c=some (.slice e)) (z f h i:Value) (B:∀w,(zeroValue e).run P w= .ok z w) (C:z.cells= #[f,h,i]) (D:f.oneCell'=true∧h.oneCell'=true∧i.oneCell'=true)
  (l:Option Addr) (b m:Nat) (v:a.eval d= .slice l b m) (g off:Nat) (j:List Value) (t:TypeId) (n:w.heap[g]? =some (.cells j.toArray t (0,0)))
  (E:0<b->l=some ⟨g,off,none⟩) (F:off+b*3<=j.length)
  (x:∀w',Hid (Row1 w w' g (splice j off (fl3 (List.replicate b (f,h,i)))) t)->wpList P q Q r (a.put o.dst (.tuple #[])) w'):
  wpList P q Q (o::r) a w:=by
 refine wpList_plain A fun G p=>?_
 by_cases y:b=0
 ·subst y
  have k:=jH (P:=P) w c e o.type u l m;unfold Oper.wp;simp [execOp,s,resolve,invoke,builtin,v,k,Result.andThen]
  exact p _ _ (x w (qG (by simpa [splice,fl3]using Row1.refl n)))
 ·obtain rfl:=E (by omega)
  have k:=Xj (P:=P) w c e o.type z f h i u B C D g off b m (by omega) j t n F
  unfold Oper.wp;simp [execOp,s,resolve,invoke,builtin,v,k,Result.andThen];exact p _ _ (x _ (qG (Row1.qA _ n)))
end
def SlB (w:World) (b:Nat) (v:Value) (l:List Int):Prop:=∃off cap,v= .slice (qK b off) l.length cap∧∀i,i<l.length->w.cell? ⟨b,off+i,none⟩=some (.int .i32 (l.getD i 0))
theorem SlB.sl {w w':World} {b a:Nat} {v:Value} {l:List Int} (c:SlB w b v l) (d:Below a w w') (e:b<a) (f:b<w'.heap.size):Sl .i32 w' v l:=by
 obtain⟨off,cap,rfl,g⟩:=c
 exact .inr ⟨b,off,cap,rfl,f,fun i hi=>(d.cell (p:=⟨b,off+i,none⟩) e).trans (g i hi)⟩
structure LnAtB (w:World) (b:Nat) (a:List Value) (c:List (List Int)):Prop where
 len:a.length=c.length
 at_:∀ (i:Nat) v l,a[i]? =some v->c[i]? =some l->SlB w b v l
theorem LnAtB.nil (w:World) (b:Nat):LnAtB w b [] []:=⟨rfl,fun i v l a=>by simp at a⟩
theorem LnAtB.snoc {w:World} {b:Nat} {e:List Value} {f:List (List Int)} {v:Value} {l:List Int} (d:LnAtB w b e f) (g:SlB w b v l):LnAtB w b (e++ [v]) (f++ [l]):=by
 refine⟨by simp [d.len],fun i u m a c=>?_⟩
 rcases kN i e.length with q | q | q
 ·rw [xA q]at a
  rw [xA (by rw [<- d.len];exact q)]at c
  exact d.at_ i u m a c
 ·subst q
  rw [xe lR]at a;rw [d.len,xe lR]at c;simp at a c;subst a c;exact g
 ·rw [xQ (by simp;omega)]at a;cases a
theorem zBw {w:World} {b o c:Nat} {zs:List Int} (a:∀i,i<zs.length->w.cell? ⟨b,o+i,none⟩=some (.int .i32 (zs.getD i 0))) {k:Nat} (d:k<=zs.length):SlB w b (.slice (qK b o) k c) (zs.take k):=by
 refine⟨o,c,by rw [qN,vG d],fun i hi=>?_⟩
 rw [qN]at hi
 rw [a i (by omega)]
 simp [qW,show i<k by omega]
theorem cutLB (zs:List Int) (b o cap:Nat) (w:World) (X:∀i,i<zs.length->w.cell? ⟨b,o+i,none⟩=some (.int .i32 (zs.getD i 0))) (ah:b<w.heap.size) (aw:zs.length<=1048576) (ai:zs.length<=cap) (aj:cap<=maxLen):
  Calls Tryz.prog 77 #[.slice (some ⟨b,o,none⟩) zs.length cap] w fun e w'=>∃v f,e= .returned v∧w'.ownsRow w.heap.size 25 1 v (lns zs).length f∧LnAtB w b f (lns zs)∧Below w.heap.size w w':=by
 obtain⟨ax,hi,ay,az,a0⟩:=xM Tryz.infoS;have Z:=qG X;have aa:=qG (jE zs);generalize V:lns zs=af at *;have ab:=qG V;generalize W:zs.length=ag at *;have D:=qG W;clear X V W;go_enter Tryz.func77,Tryz.ntmps77;go_wp2_with fail
 go_loopw [0,3] (fun tx ls wr=>∃ (m:List (List Int)) (a:List Int) (d c:Nat) (f:List Value),af=m++lns a∧tx= .slice (some ⟨b,d,none⟩) a.length c∧a.length<=c∧c<=maxLen∧a.length<=ag∧
   (∀i,i<a.length->w.cell? ⟨b,d+i,none⟩=some (.int .i32 (a.getD i 0)))∧wr.ownsRow w.heap.size 25 1 ls m.length f∧LnAtB w b f m∧Below w.heap.size w wr)
  (fun tx _ _=>lenV tx)
 case atStart=>exact⟨[],zs,o,cap,[],by simp [ab.out],by rw [D.out],by rw [D.out];exact ai,aj,by rw [D.out];exact lR,fun i hi=>Z.out i (by rw [<- D.out];exact hi),km _ _ _ _,LnAtB.nil _ _,qO _ _⟩
 case round=>
  obtain⟨m,a,d,c,f,M,rfl,ak,Y,a1,H,N,O,B⟩:=hrel;have I:=qG H;have k:=qG N;have J:=qG O;have K:=qG B;have r:=qG M
  have l:=qG (zDa a b d c wr (fun i hi=>(B.cell (p:=⟨b,d+i,none⟩) ah).trans (H i hi)) (by omega) ak Y)
  have al:=B.size
  have am:m.length<=1048577:=by have ac:=aa.out.2;have ad:=r.out;rw [ad,qM]at ac;omega
  have P:=k.out.1;unfold ix at l;unfold maxLen at Y
  by_cases z:fb a<a.length
  ·rw [xj z]at l
   have s:=qG (fb_lns z);have t:=qG (zBw (c:=c) I.out (k7 z));generalize av:fb a=F at *;generalize G:a.length=R at *;have Q:=qG G;clear H N O B M G P;go_wp2_with fail;refine l.out.mono ?_;rintro e w1 ⟨rfl,C⟩;have L:=C.symm;subst L;clear C l
   have an:¬ (F:Int)<0:=by omega
   have ao:(F:Int)<=c:=by omega
   have ap:(F:Int)+1<=c:=by omega
   have aq:(F:Int)+1<=R:=by omega
   have E:=qG (zL wr 25 [.slice (some ⟨b,d,none⟩) F c])
   by_cases ae:c=F+1
   ·subst ae
    go_wp2_with (at_builtin;refine a131 _ rfl _ _ rfl w.heap.size _ _ _ rfl (k.out.alloc _) ⟨wr.heap.size,0,none⟩ 1 1 [.slice (some ⟨b,d,none⟩) F (F+1)] rfl rfl E.out (by intro u g;simp at g;subst g;rfl) (by unfold maxLen;omega) (by omega) (by simp;omega) ?_;intro T U h j _)
    have x:=qG ((K.out.alloc (by omega) (.cells #[.slice (some ⟨b,d,none⟩) F (F+1)] 25)).grown j (by simp;omega) (fun q A=>(k.out.lt q A).1))
    have y:=qG h;clear h j;go_wp2;go_roundw
    case rel=>
     have n:a.drop (F+1)= []:=kt (by rw [Q.out];omega)
     refine⟨m++ [a.take F],[],d,0,f++ [.slice (some ⟨b,d,none⟩) F (F+1)],?_,?_,xP _,by unfold maxLen;omega,xP _,fun i hi=>by simp at hi,?_,J.out.snoc t.out,x.out⟩
     ·rw [r.out,s.out,n];simp
     ·simp
     ·rw [qM];exact y.out
    case measure=>simp [lenV];omega
   ·have ar:¬ ((c:Int)=F+1):=by omega
    have au:(F:Int)+1<c:=by omega
    go_wp2_with (at_builtin;refine a131 _ rfl _ _ rfl w.heap.size _ _ _ rfl (k.out.alloc _) ⟨wr.heap.size,0,none⟩ 1 1 [.slice (some ⟨b,d,none⟩) F c] rfl rfl E.out (by intro u g;simp at g;subst g;rfl) (by unfold maxLen;omega) (by omega) (by simp;omega) ?_;intro T U h j _)
    have x:=qG ((K.out.alloc (by omega) (.cells #[.slice (some ⟨b,d,none⟩) F c] 25)).grown j (by simp;omega) (fun q A=>(k.out.lt q A).1))
    have y:=qG h;clear h j;go_wp2;go_roundw
    case rel=>
     have n:(a.drop (F+1)).length=R - (F+1):=by rw [qS,Q.out]
     refine⟨m++ [a.take F],a.drop (F+1),d+(F+1),c - (F+1),f++ [.slice (some ⟨b,d,none⟩) F c],?_,?_,by rw [n];omega,by unfold maxLen;omega,by rw [n];omega,?_,?_,J.out.snoc t.out,x.out⟩
     ·rw [r.out,s.out];simp
     ·rw [n]
     ·intro i hi
      rw [n]at hi
      rw [vR,I.out (F+1+i) (by omega)]
      simp [qW,vn]
     ·rw [qM];exact y.out
    case measure=>simp [lenV];omega
  ·rw [qT z]at l
   have S:fb a=a.length:=by have:=fb_le a;omega
   have s:=qG (zEw S);have t:=qG (zBw (c:=c) I.out lR);rw [xE lR]at t;generalize G:a.length=R at *;clear H N O B M G P S z;go_wp2_with fail;refine l.out.mono ?_;rintro e w1 ⟨rfl,C⟩;have L:=C.symm;subst L;clear C l;have E:=qG (zL wr 25 [.slice (some ⟨b,d,none⟩) R c])
   go_wp2_with (at_builtin;refine a131 _ rfl _ _ rfl w.heap.size _ _ _ rfl (k.out.alloc _) ⟨wr.heap.size,0,none⟩ 1 1 [.slice (some ⟨b,d,none⟩) R c] rfl rfl E.out (by intro u g;simp at g;subst g;rfl) (by unfold maxLen;omega) (by omega) (by simp;omega) ?_;intro T U h j _)
   have x:=qG ((K.out.alloc (by omega) (.cells #[.slice (some ⟨b,d,none⟩) R c] 25)).grown j (by simp;omega) (fun q A=>(k.out.lt q A).1))
   have y:=qG h;clear h j;go_wp2;go_ret;refine⟨_,f++ [.slice (some ⟨b,d,none⟩) R c],rfl,?_,?_,x.out⟩
   ·rw [r.out,s.out,qM];exact y.out
   ·rw [r.out,s.out];exact J.out.snoc t.out
end Go.Proofs.YtljdnoinennfaaaGreatDoor
namespace Go.Proofs.YtljdnoinennfaaaGreatDoor
open Go Go.RowKit Go.Proofs.Tryz
theorem zBx (ao:Option Addr) (n cap:Nat) (lo hi:Int) (w:World) (b:¬ ((n:Int)<=65536∧0<=lo∧lo<=hi∧hi<=n)) (h:n<=1048576):
  Calls prog 50 #[.agg #[.slice ao n cap,qJ lo,qJ hi]] w fun e w'=>e= .returned (.bool false)∧Below w.heap.size w w':=by
 have a:=qG ((qO w.heap.size w).alloc lR (.cells #[.slice ao n cap,qJ lo,qJ hi] 91))
 by_cases d:(65536:Int)<n
 ·clear b
  go_enter func50,ntmps50;go_wp2;go_ret;exact⟨rfl,a⟩
 by_cases f:lo<0
 ·clear b
  go_enter func50,ntmps50;go_wp2;go_ret;exact⟨rfl,a⟩
 by_cases g:hi<lo
 ·clear b
  go_enter func50,ntmps50;go_wp2;go_ret;exact⟨rfl,a⟩
 ·have c:(n:Int)<hi:=by omega
  clear b;go_enter func50,ntmps50;go_wp2;go_ret;exact⟨rfl,a⟩
theorem zBy (w:World):
  Calls prog 50 #[.agg #[.slice none 0 0,qJ 0,qJ 0]] w fun e w'=>e= .returned (.bool true)∧Below w.heap.size w w':=by
 have a:=qG ((qO w.heap.size w).alloc lR (.cells #[.slice none 0 0,qJ 0,qJ 0] 91));go_enter func50,ntmps50;go_wp2;refine xY 1 ?_;rw [xu];go_wp2;go_ret;exact⟨rfl,a⟩
theorem zBz (g cap n:Nat) (zs:List Int) (lo hi:Nat) (b:Bool) (w:World) (p:Cl w g zs) (y:g<w.heap.size) (q:zs.length=n) (H:n<=cap) (A:lo<=hi) (I:hi<=n) (J:n<=65536) (r:b=true↔(n - (hi - lo)<=8192∧∀i,lo<=i->i<hi->zs.getD i 0=0)):
  Calls prog 50 #[.agg #[.slice (qK g 0) n cap,qJ lo,qJ hi]] w fun e w'=>e= .returned (.bool b)∧Below w.heap.size w w':=by
 have d:=qG ((qO w.heap.size w).alloc lR (.cells #[.slice (qK g 0) n cap,qJ lo,qJ hi] 91));have t:=qG (p.below d y);have f:=qG r;have u:=qG q
 have B:(w.alloc (.cells #[.slice (qK g 0) n cap,qJ lo,qJ hi] 91)).cell? ⟨w.heap.size,0,none⟩=some (.slice (qK g 0) n cap):=by simp
 have C:(w.alloc (.cells #[.slice (qK g 0) n cap,qJ lo,qJ hi] 91)).cell? ⟨w.heap.size,1,none⟩=some (qJ lo):=by simp
 have D:(w.alloc (.cells #[.slice (qK g 0) n cap,qJ lo,qJ hi] 91)).cell? ⟨w.heap.size,2,none⟩=some (qJ hi):=by simp
 clear p r q;go_enter func50,ntmps50;go_wp2;generalize w.alloc (.cells #[.slice (qK g 0) n cap,qJ lo,qJ hi] 91)=G at *
 go_loop [3] (fun i=>∃k:Nat,lo<=k∧k<=hi∧i=qJ k∧∀j,lo<=j->j<k->zs.getD j 0=0) (fun i=>hi - (intOf i).toNat)
 case atStart=>exact⟨lo,lR,A,rfl,fun j a c=>by omega⟩
 case round=>
  obtain⟨k,K,L,rfl,s⟩:=hrel;have m:=qG s;clear s
  by_cases F:k<hi
  ·have x:=t k (by rw [u.out];omega)
   obtain⟨z,l⟩:∃z,z=zs.getD k 0:=⟨_,rfl⟩;rw [<- l]at x;have o:=qG l;clear l
   by_cases h:z=0
   ·subst h
    go_wp2;go_round
    case rel=>exact⟨k+1,by omega,by omega,by go_num,fun j a c=>by
     by_cases e:j=k
     ·rw [e];exact o.symm
     ·exact m j a (by omega)⟩
    case measure=>simp [intOf];omega
   ·have E:(z != 0)=true:=by simpa using h
    obtain rfl:b=false:=by
     cases hbb:b with
     | false=>rfl
     | true=>exact absurd (o.trans ((f.1 hbb).2 k (by omega) (by omega))) h
    go_wp2;go_ret;exact⟨rfl,d⟩
  ·obtain rfl:k=hi:=by omega
   by_cases ht:(n:Int) - ((k:Int) - (lo:Int))<=8192
   ·obtain rfl:b=true:=f.2 ⟨by omega,fun i a c=>m i a (by omega)⟩
    go_wp2
    refine xr (v:=.bool true) (by simp [results,results50,go_sem]) rfl ⟨rfl,d⟩
   ·obtain rfl:b=false:=by
     cases hbb:b with
     | false=>rfl
     | true=>exact absurd (f.1 hbb).1 (by omega)
    go_wp2
    refine xr (v:=.bool false) (by simp [results,results50,go_sem]) rfl ⟨rfl,d⟩
open Classical in
theorem l3ValidN (zs:List Int) (v:Value) (lo hi:Int) (w:World) (h:Gs w v zs) (m:zs.length<=1048576):
  Calls prog 50 #[.agg #[v,qJ lo,qJ hi]] w fun e w'=>e= .returned (.bool (decide (gok zs lo hi)))∧Below w.heap.size w w':=by
 by_cases f:(zs.length:Int)<=65536∧0<=lo∧lo<=hi∧hi<=zs.length
 ·obtain⟨s,j,n,o⟩:=f
  obtain⟨l,rfl⟩:=xZ j;obtain⟨k,rfl⟩:=xZ (Int.le_trans j n)
  rcases h with ⟨rfl,rfl⟩ | ⟨g,cap,rfl,p,q,t,r⟩
  ·obtain rfl:k=0:=by simpa using o
   obtain rfl:l=0:=by omega
   have d:decide (gok [] ((0:Nat):Int) ((0:Nat):Int))=true:=by
    simp only [qZ]
    exact gok_gv.2 ⟨by omega,by simp,fun i a c=>by omega,by simp,by simp⟩
   rw [d];exact zBy w
  ·refine zBz g cap zs.length zs l k _ w r p rfl q (by omega) (by omega) (by omega) ?_
   simp only [qZ];constructor
   ·intro b;have:=gok_gv.1 b;exact⟨this.t,this.z⟩
   ·intro b;exact gok_gv.2 ⟨by omega,by omega,b.2,by omega,b.1⟩
 ·obtain⟨ao,cap,rfl⟩:=h.val
  have d:decide (gok zs lo hi)=false:=by
   simp only [vQ]
   exact fun b=>f ⟨b.1.1,b.1.2.2.1.1,b.1.2.2.1.2,b.1.2.1.2⟩
  rw [d];exact zBx ao zs.length cap lo hi w f m
theorem zF1 (w:World):(w.alloc (.cells #[] 21)).ownsRow w.heap.size 21 1 (.slice (qK w.heap.size 0) 0 0) 0 []:=by
 have:=ke (base:=w.heap.size) (e:=21) (size:=1) w #[] 0 (by simp) (xP _) rfl
 simpa using this
theorem Cl.app {w:World} {g:Nat} {zs:List Int} (a:Cl w g zs) (p l:Nat) (c:p+l<=zs.length):∀j u,(ints .i32 ((zs.drop p).take l))[j]? =some u->w.cell? ((⟨g,p,none⟩:Addr).add j)=some u:=by
 have:=jJ (k:=.i32) (w:=w) (b:=g) (off:=0) (o:=p) (l:=l) (zs:=zs) (fun i hi=>by rw [xN];exact a i hi)
 simpa using this
theorem zDi (w:World):
  Calls prog 51 #[.agg #[.slice none 0 0,qJ 0,qJ 0]] w fun e w'=>∃g cap,e= .returned (.slice (qK g 0) 0 cap)∧w'.ownsRow w.heap.size 21 1 (.slice (qK g 0) 0 cap) 0 (ints .i32 [])∧Below w.heap.size w w':=by
 obtain⟨d,hi,f,h,i⟩:=xM Tryz.qx
 have c:=qG (((qO w.heap.size w).alloc lR (.cells #[.slice none 0 0,qJ 0,qJ 0] 91)).alloc (by simp) (.cells #[] 21))
 have a:=qG (zD (base':=w.heap.size) (zF1 (w.alloc (.cells #[.slice none 0 0,qJ 0,qJ 0] 91))) (by simp))
 have b:(w.alloc (.cells #[.slice none 0 0,qJ 0,qJ 0] 91)).heap.size=w.heap.size+1:=by simp
 rw [b]at a;clear b;go_enter func51,ntmps51;go_wp2_with (at_builtin;refine wpList_append_own_none rfl _ _ 25 rfl w.heap.size 21 d 1 underlying25 hi _ _ _ rfl a rfl ?_);go_ret;exact⟨_,_,rfl,a,c⟩
theorem zDj (g cap n:Nat) (zs:List Int) (lo hi:Nat) (w:World) (R:Cl w g zs) (aa:g<w.heap.size) (S:zs.length=n) (ac:n<=cap) (ad:cap<=maxLen) (ae:lo<=hi) (af:hi<=n) (ag:n<=65536):
  Calls prog 51 #[.agg #[.slice (some ⟨g,0,none⟩) n cap,.int .i64 lo,.int .i64 hi]] w fun e w'=>∃D,e= .returned D∧D≠ .slice none 0 0∧w'.ownsRow w.heap.size 21 1 D (n - (hi - lo)) (ints .i32 (gtext zs lo hi))∧Below w.heap.size w w':=by
 obtain⟨E,hi',F,G,H⟩:=xM Tryz.qx
 have h:=qG (((qO w.heap.size w).alloc lR (.cells #[.slice (some ⟨g,0,none⟩) n cap,.int .i64 lo,.int .i64 hi] 91)).alloc (by simp) (.cells #[] 21))
 have k:=qG (zD (base':=w.heap.size) (zF1 (w.alloc (.cells #[.slice (some ⟨g,0,none⟩) n cap,.int .i64 lo,.int .i64 hi] 91))) (by simp))
 have I:(w.alloc (.cells #[.slice (some ⟨g,0,none⟩) n cap,.int .i64 lo,.int .i64 hi] 91)).heap.size=w.heap.size+1:=by simp
 rw [I]at k
 have J:=qG ((T3.new w (.slice (some ⟨g,0,none⟩) n cap) (.int .i64 lo) (.int .i64 hi) 91).below ((qO _ _).alloc lR (.cells #[] 21)) (by simp))
 have s:=qG (R.below h.out aa)
 have K:=qG (s.out.app 0 lo (by omega))
 have L:(ints .i32 ((zs.drop 0).take lo)).length=lo*1:=by rw [zC,qN,vZ];omega
 have M:=qG L;have c:=qG S
 have m:((w.alloc (.cells #[.slice (some ⟨g,0,none⟩) n cap,.int .i64 lo,.int .i64 hi] 91)).alloc (.cells #[] 21)).heap.size=w.heap.size+2:=by simp
 have t:=h.out.size;clear I L S R;go_enter func51,ntmps51
 go_upto_region 2 with (at_builtin;refine qR _ rfl _ _ 25 rfl w.heap.size 21 E (.int .i32 0) 1 4 underlying25 hi' F G H rfl (by decide) _ 0 [] rfl k.out ⟨g,0,none⟩ lo cap (ints .i32 ((zs.drop 0).take lo)) rfl M.out K.out (zF _ _) (by unfold maxLen;omega) (by omega) t ?_;intro W r b a Q)
 have N:=qG (show W≠ .slice none 0 0 from fun e=>by
  have T:Value.slice (some ⟨w.heap.size+1,0,none⟩) 0 0= .slice none 0 0:=(Q.1 e).1
  cases T)
 have o:=qG b
 have v:=qG (h.out.grown a t (fun q f=>(k.out.lt q f).1))
 have x:((w.alloc (.cells #[.slice (some ⟨g,0,none⟩) n cap,.int .i64 lo,.int .i64 hi] 91)).alloc (.cells #[] 21)).grownBy r (some (w.heap.size+1)):=a
 have U:=qG (show T3 r w.heap.size (.slice (some ⟨g,0,none⟩) n cap) (.int .i64 lo) (.int .i64 hi) 91 from(x.block _ (by rw [m];omega) (by simp)).trans J.out)
 have O:=qG (show Cl r g zs from fun i hi=>(qV (x.block g (by rw [m];omega) (by simp;omega))).trans (s.out i hi))
 have p:=v.out.size
 have ab:w.heap.size+1<r.heap.size:=by have:=a.size;rw [m]at this;omega
 obtain⟨ah,ai,aj⟩:=U.out.c;clear b a x Q h k J s K M m t
 by_cases Z:cap=hi
 ·have P:=qG (O.out.app hi 0 (by rw [c.out];omega))
  obtain rfl:n=hi:=by omega
  have y:=qG (show gtext zs lo n=(zs.drop 0).take lo++(zs.drop n).take 0 by rw [gtext,vZ,kT,kt (by rw [c.out];exact lR)])
  subst Z
  go_wp2_with (at_builtin;refine qR _ rfl _ _ 25 rfl w.heap.size 21 E (.int .i32 0) 1 4 underlying25 hi' F G H rfl (by decide) _ _ _ rfl o.out ⟨g,0,none⟩ 0 _ (ints .i32 ((zs.drop cap).take 0)) rfl (by simp [ints]) (by intro j u X;simp [ints]at X) (zF _ _) (by unfold maxLen;omega) (by omega) p ?_;intro C Y b a d)
  have z:=qG (show C≠ .slice none 0 0 from fun e=>N.out (d.1 e).1)
  have A:=qG b
  have B:=qG (v.out.grown a p (fun q f=>(o.out.lt q f).1))
  clear b a d;go_wp2;go_ret;refine⟨_,rfl,z.out,?_,B.out⟩;rw [y.out,zZ]
  have e:cap - (cap - lo)=0+lo+0:=by omega
  rw [e];simpa using A.out
 ·have P:=qG (O.out.app hi (n - hi) (by rw [c.out];omega))
  have y:=qG (show gtext zs lo hi=(zs.drop 0).take lo++(zs.drop hi).take (n - hi)by rw [gtext,vZ,xE (l:=zs.drop hi) (by rw [qS,c.out];exact lR)])
  have V:=qG (show(ints .i32 ((zs.drop hi).take (n - hi))).length=(n - hi)*1 by rw [zC,qN,qS,c.out];omega)
  go_wp2_with (at_builtin;refine qR _ rfl _ _ 25 rfl w.heap.size 21 E (.int .i32 0) 1 4 underlying25 hi' F G H rfl (by decide) _ _ _ rfl o.out ⟨g,hi,none⟩ (n - hi) (cap - hi) (ints .i32 ((zs.drop hi).take (n - hi))) rfl V.out P.out (zF _ _) (by unfold maxLen;omega) (by omega) p ?_;intro C Y b a d)
  have z:=qG (show C≠ .slice none 0 0 from fun e=>N.out (d.1 e).1)
  have A:=qG b
  have B:=qG (v.out.grown a p (fun q f=>(o.out.lt q f).1))
  clear b a d;go_wp2;go_ret;refine⟨_,rfl,z.out,?_,B.out⟩;rw [y.out,zZ]
  have e:n - (hi - lo)=0+lo+(n - hi):=by omega
  rw [e];simpa using A.out
theorem zF2 (zs:List Int) (v:Value) (lo hi:Nat) (w:World) (j:Gs w v zs) (c:GV zs lo hi):
  Calls prog 51 #[.agg #[v,qJ lo,qJ hi]] w fun e w'=>∃b,e= .returned b∧b≠ .slice none 0 0∧w'.ownsRow w.heap.size 21 1 b (gtext zs lo hi).length (ints .i32 (gtext zs lo hi))∧Below w.heap.size w w':=by
 have d:=c.a;have a:=c.b
 rcases j with ⟨rfl,rfl⟩ | ⟨g,cap,rfl,k,l,m,n⟩
 ·obtain rfl:hi=0:=by simpa using a
  obtain rfl:lo=0:=by omega
  exact(zDi w).mono fun e w' ⟨g,cap,f,h,i⟩=>⟨_,f,by simp,by simpa [gtext]using h,i⟩
 ·rw [zQ d a]
  exact zDj g cap zs.length zs lo hi w n k rfl l m d a c.c
end Go.Proofs.YtljdnoinennfaaaGreatDoor
namespace Go.Proofs.YtljdnoinennfaaaGreatDoor
open Go Go.RowKit
theorem zC0 (w:World) (e:TypeId):(w.alloc (.cells #[] e)).ownsRow w.heap.size e 1 (.slice (qK w.heap.size 0) 0 0) 0 []:=by
 have:=ke (base:=w.heap.size) (e:=e) (size:=1) w #[] 0 (by simp) (xP _) rfl
 simpa using this
theorem Yq {w:World} {base e size:Nat} {v:Value} {n:Nat} {xs:List Value} (a:w.ownsRow base e size v n xs):∃ao cap,v= .slice ao n cap:=by
 rcases a.2 with ⟨rfl,b⟩ | ⟨g,cap,c,rfl,_⟩
 ·exact⟨none,0,by rw [b]⟩
 ·exact⟨_,_,rfl⟩
theorem gkP_gok {zs:List Int} {lo hi:Int}:gkP zs lo hi↔gok zs lo hi:=Iff.rfl
theorem zC1 {w:World} {base:Nat} {v:Value} {n:Nat} {zs:List Int} (a:w.ownsRow base 21 1 v n (ints .i32 zs)) (b:v≠ .slice none 0 0):∃g cap,v= .slice (qK g 0) n cap∧∀j u,(ints .i32 zs)[j]? =some u->w.cell? ((⟨g,0,none⟩:Addr).add j)=some u:=by
 rcases a.2 with ⟨q,_⟩ | ⟨g,cap,c,q,_⟩
 ·exact absurd q b
 ·exact⟨g,cap,q,a.cells (by rw [q];rfl)⟩
theorem zAo {ls:List (List Int)} {k:Nat} {l:List Int} (b:ls[k]? =some l):jn (ls.take (k+1))=(if k=0 then []else jn (ls.take k)++ [10])++l:=by
 have c:k<ls.length:=(xK.1 b).1;rw [vY,b]
 by_cases a:k=0
 ·subst a;simp [jn,jt]
 ·rw [qT a,Qi,zEx (by intro e;have:=kO List.length e;rw [qN]at this;simp only [xC]at this;omega)]
  simp
theorem zC2 {ls:List (List Int)} {k:Nat} (d:k<=ls.length):(jn (ls.take k)).length<=smL ls+ls.length:=by
 by_cases a:ls.take k= []
 ·rw [a];simp [jn]
 ·have b:=jM a
  have c:=yr ls k;rw [qN]at b;omega
theorem Kh (gs:List Gr) (a2:List Int) (o p:Value) (lo hi:Nat) (w:World) (ad:OwL w lo hi o p gs a2) (cg:hi<=w.heap.size) (ch:gs.length<=8193) (ci:1<=gs.length) (a3:∀x∈gs,gkP x.cells x.lo x.hi) (ac:smL (gs.map grT)+gs.length<=4194304):
  Calls Tryz.prog 19 #[.agg #[o,p]] w fun e w'=>∃a0,e= .returned a0∧o32 w' w.heap.size a0 (jn (gs.map grT))∧Below w.heap.size w w':=by
 obtain⟨a,L⟩:∃a,a=gs.map grT:=⟨_,rfl⟩
 have a6:=qG (((qO w.heap.size w).alloc lR (.cells #[o,p] 36)).alloc (by simp) (.cells #[] 21))
 have b7:=qG ((D2.new w o p 36).below ((qO _ _).alloc lR (.cells #[] 21)) (by simp))
 have aj:=qG (zD (base':=w.heap.size) (zC0 (w.alloc (.cells #[o,p] 36)) 21) (by simp))
 have ak:(w.alloc (.cells #[o,p] 36)).heap.size=w.heap.size+1:=by simp
 rw [ak]at aj
 have b8:((w.alloc (.cells #[o,p] 36)).alloc (.cells #[] 21)).heap.size=w.heap.size+2:=by simp
 obtain⟨cj,br,bs,bt,rfl,rfl⟩:=ad.val;obtain⟨bu,M⟩:=ad.rows
 rcases M.row.2 with ⟨_,q⟩ | ⟨bv,cap,ck,q,_,_,cl,bw,_⟩
 ·omega
 simp only [xF,kJ]at q;obtain⟨rfl,rfl⟩:=q
 have F:=qG (fun(w':World) (ac:Below w.heap.size w w')=>M.frame (w':=w') (fun q _ t=>ac.block q (by omega)))
 have a7:=qG (fun(k:Nat) (B:k<gs.length)=>(show ∃x u,gs[k]? =some x∧bu[k]? =some u∧a[k]? =some (grT x)∧gkP x.cells x.lo x.hi from by
  obtain⟨x,u,f,v⟩:=M.get B
  exact⟨x,u,f,v,by rw [L];simp [f],a3 x (xg f)⟩))
 rw [<- L]at ac |-
 have a8:=qG (fun k (B:k<=a.length)=>zC2 (ls:=a) (k:=k) B)
 have a9:=qG (fun k l (j:a[k]? =some l)=>zAo (ls:=a) (k:=k) j)
 have ba:=qG (fun k l (j:a[k]? =some l)=>YB (ls:=a) j)
 have al:a.length=gs.length:=by rw [L,xL]
 generalize az:gs.length=n at *;generalize a2.length=m at *;have bc:=qG az;have G:=qG al;unfold maxLen at bw;clear ad M a3 L ak al az;go_enter Tryz.func19,Tryz.ntmps19;go_wp2_with fail;generalize (w.alloc (.cells #[.slice (some ⟨bv,0,none⟩) n br,.slice bs m bt] 36)).alloc (.cells #[] 21)=ce at *
 go_loopw [3,10] (fun a1 i wr=>∃k:Nat,k<=n∧i= .int .i64 k∧a1≠ .slice none 0 0∧Below w.heap.size w wr∧w.heap.size+1<=wr.heap.size∧wr.ownsRow w.heap.size 21 1 a1 (jn (a.take k)).length (ints .i32 (jn (a.take k))))
  (fun _ i _=>n - (intOf i).toNat)
 case atStart=>exact⟨0,xP _,rfl,by simp,a6.out,by omega,by simpa [jn,ints]using aj.out⟩
 case round=>
  obtain⟨k,B,rfl,ae,N,cm,O⟩:=hrel;have P:=qG N;have H:=qG O;have am:=qG ae;obtain⟨ao,cn,rfl⟩:=Yq O
  have bd:=a8.out k (by rw [G.out];exact B)
  rw [G.out]at bd
  by_cases bp:k<n
  ·obtain⟨x,u,f,v,j,a4⟩:=a7.out k bp
   have Q:=F.out wr N;obtain⟨co,bx,bz⟩:=Q.cells bc.out f v;obtain⟨r,s,b0⟩:=y9 (Q.inner f v);obtain⟨b,c,af,ag,a5⟩:=zEz (gkP_gok.1 a4);have I:=a9.out k _ j;have b9:=ba.out k _ j
   have an:grT x=gtext x.cells b c:=by unfold grT;rw [af,ag];simp
   rw [af]at bx;rw [ag]at bz
   have R:=qG (fun(W:World) (bq:Below w.heap.size w W)=>zF2 x.cells u b c W (Gs.qd ((F.out W bq).inner f v)) a5)
   rw [<- an]at R;generalize cc:x.cells.length=h at *;generalize cd:grT x=K at *
   have be:(k:Int)<n:=by omega
   subst b0;clear O N Q f v j a4 af ag a5 an ae;have ap:=qG ((qO wr.heap.size wr).alloc lR (.cells #[.slice r h s,.int .i64 b,.int .i64 c] 91));have aq:=qG (Q3.new wr (.slice r h s) (.int .i64 b) (.int .i64 c) 91)
   have bf:(wr.alloc (.cells #[.slice r h s,.int .i64 b,.int .i64 c] 91)).heap.size=wr.heap.size+1:=by simp
   have ar:=P.out.size;have S:=qG (zA H.out ap.out lR);have T:=qG (P.out.trans (ap.out.mono ar))
   by_cases ay:k=0
   ·subst ay
    rw [xj rfl,xJ]at I
    go_upto_region 7 with fail
    generalize wr.alloc (.cells #[.slice r h s,.int .i64 b,.int .i64 c] 91)=cf at *;obtain⟨b1,b2,b3⟩:=aq.out.c;go_wp2_with fail;refine(R.out _ T.out).mono ?_;rintro e b4 ⟨b5,rfl,C,D,d⟩;obtain⟨ah,ai,rfl,E⟩:=zC1 D C;have y:=qG (zA S.out d lR)
    have U:=qG (T.out.trans (d.mono (by omega)))
    have bg:=d.size;have V:=qG E;clear D d E C
    go_wp2_with (at_builtin;refine a25 _ rfl _ _ rfl w.heap.size _ _ _ rfl y.out ⟨ah,0,none⟩ K.length ai (ints .i32 K) rfl (by rw [zC,vI]) V.out (zF _ _) (by unfold maxLen;omega) (by omega) (by omega) ?_;intro aa bm z g A)
    have X:=qG (show aa≠ .slice none 0 0 from fun e=>am.out (A.1 e).1)
    have Y:=qG (U.out.grown g (by omega) (fun q t=>(y.out.lt q t).1))
    have Z:=qG z;have bh:=g.size;clear z g A;go_wp2;go_roundw
    case rel=>
     refine⟨0+1,by omega,by go_num,X.out,Y.out,by omega,?_⟩
     rw [I];simpa [jn,ints]using Z.out
    case measure=>simp [intOf];omega
   ·rw [qT ay]at I
    have ca:(0:Int)<(k:Int):=by omega
    have au:=qG (zL (wr.alloc (.cells #[.slice r h s,.int .i64 b,.int .i64 c] 91)) 21 [.int .i32 10]);rw [bf]at au
    go_upto_region 7 with (at_builtin;refine a25 _ rfl _ _ rfl w.heap.size _ _ _ rfl (S.out.alloc _) ⟨wr.heap.size+1,0,none⟩ 1 1 [.int .i32 10] rfl rfl au.out (zF .i32 [10]) (by unfold maxLen;omega) (by omega) (by simp;omega) ?_;intro bn bo ab J ax)
    have bi:=qG (show bn≠ .slice none 0 0 from fun e=>am.out (ax.1 e).1)
    have av:=((qO w.heap.size (wr.alloc (.cells #[.slice r h s,.int .i64 b,.int .i64 c] 91))).alloc (by omega) (.cells #[.int .i32 10] 21)).grown J (by simp;omega) (fun q t=>(S.out.lt q t).1)
    have aw:=qG (T.out.trans av);have bj:=J.size;simp at bj;have cb:w.heap.size<=wr.heap.size:=ar
    have bk:=qG (show Q3 bo wr.heap.size (.slice r h s) (.int .i64 b) (.int .i64 c) 91 from by
     refine((J.block wr.heap.size (by simp;omega) (fun e=>?_)).trans (vP _ _ _ (by simp))).trans aq.out
     have:=(H.out.lt wr.heap.size e.symm).2
     omega)
    have bl:=qG ab;obtain⟨cp,cq,b6⟩:=Yq ab;subst b6;clear ab J ax av;obtain⟨b1,b2,b3⟩:=bk.out.c;go_wp2_with fail;refine(R.out _ aw.out).mono ?_;rintro e b4 ⟨b5,rfl,C,D,d⟩;obtain⟨ah,ai,rfl,E⟩:=zC1 D C;have y:=qG (zA bl.out d lR)
    have U:=qG (aw.out.trans (d.mono (by omega)))
    have bg:=d.size;have V:=qG E;clear D d E C
    go_wp2_with (at_builtin;refine a25 _ rfl _ _ rfl w.heap.size _ _ _ rfl y.out ⟨ah,0,none⟩ K.length ai (ints .i32 K) rfl (by rw [zC,vI]) V.out (zF _ _) (by unfold maxLen;omega) (by omega) (by omega) ?_;intro aa bm z g A)
    have X:=qG (show aa≠ .slice none 0 0 from fun e=>bi.out (A.1 e).1)
    have Y:=qG (U.out.grown g (by omega) (fun q t=>(y.out.lt q t).1))
    have Z:=qG z;have bh:=g.size;clear z g A;go_wp2;go_roundw
    case rel=>
     refine⟨k+1,by omega,by go_num,X.out,Y.out,by omega,?_⟩
     rw [I,qM,qM,zZ,zZ];exact Z.out
    case measure=>simp [intOf];omega
  ·obtain rfl:k=n:=by omega
   have be:¬ (k:Int)<k:=by omega
   rw [xE (by rw [G.out];exact lR)]at H
   clear O N ae;go_wp2;go_ret;refine⟨_,rfl,?_,P.out⟩
   rw [xE (by rw [G.out];exact lR)]
   exact H.out
end Go.Proofs.YtljdnoinennfaaaGreatDoor
