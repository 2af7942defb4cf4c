import Derived.Test.YtmjanhcplcalfaaGreatDoorMq17
import Derived.Test.YtmjanhcplcalfaaGreatDoorMq12
import Derived.StillTailTactics
set_option linter.all false
set_option maxRecDepth 100000
set_option maxHeartbeats 8000000
namespace Go.Proofs.YtmjanhcplcalfaaGreatDoor
open Go Go.RowKit Go.Proofs.Tryz
theorem readCore (B o g cap n:Nat) (zs xs ys:List Int) (lo hi a b d i f j:Nat) (w:World) (J:GC w B o (.slice (qK g 0) n cap) lo hi) (ag:g<w.heap.size) (ah:lo<=hi) (ai:hi<=n) (aj:n<=1048576) (ak:n<=cap) (al:cap<=maxLen) (am:a<=n) (an:b<=n)
  (N:min (a:Int) lo=d) (O:min (b:Int) lo=i) (P:max ((a:Int)+(hi - lo)) hi=f) (Q:max ((b:Int)+(hi - lo)) hi=j) (i1:d<=i) (i2:i<=n) (i3:f<=j) (i4:j<=n)
  (Y:∀w' c,Below w.heap.size w w'->Sl .i32 w' (.slice (qK g d) (i - d) c) xs) (Z:∀w' c,Below w.heap.size w w'->Sl .i32 w' (.slice (qK g f) (j - f) c) ys) (aa:xs.length=i - d) (ab:ys.length=j - f):
  Calls prog 150 #[.pointer (qK B o),qJ a,qJ b] w fun e w'=>∃X,e= .returned X∧w'.ownsRow w.heap.size 21 1 X (xs++ys).length (ints .i32 (xs++ys))∧Below w.heap.size w w':=by
 have s:=qG (fun w J=>gapN B o (.slice (qK g 0) n cap) lo hi w J (by omega) (by omega) (by omega));have t:=qG J;obtain⟨R,S,T⟩:=J;have U:=qG Y;have ae:=qG Z;have I:=qG aa;have u:=qG ab;have K:=qG (show i - d<=1048576 by omega);have L:=qG (show j - f<=1048576 by omega);clear Y Z aa ab;by_cases af:cap=d
 ·by_cases M:cap=f
  ·obtain rfl:i=d:=by omega
   obtain rfl:j=f:=(by omega);subst af;subst M;go_enter func150,ntmps150;go_wp2;go_quiet (fail);have k:=qG (t.out.same (w':=w.drewN nq) rfl);have l:=qG (below_drewN (qO w.heap.size w) nq);have v:=l.out.size;obtain⟨F,G,H⟩:=k.out;clear R S T t;generalize w.drewN nq=w1 at *
   go_wp2;go_quiet ((go_at_call 117;exact Calls.quiet_of (s.out _ (k.out.same rfl))));have m:=qG (below_drewN l.out nq);have V:=m.out.size;clear F G H k l v s N O P Q;generalize w1.drewN nq=h at *
   go_wp2_with fail;have p:=qG (m.out.alloc (by omega) (.cells #[.slice (qK g 0) 0 0,.slice (qK g 0) 0 0] 25));have x:(h.alloc (.cells #[.slice (qK g 0) 0 0,.slice (qK g 0) 0 0] 25)).cell? ⟨h.heap.size,0,none⟩=some (.slice (qK g 0) 0 0):=(by simp);have y:(h.alloc (.cells #[.slice (qK g 0) 0 0,.slice (qK g 0) 0 0] 25)).cell? ⟨h.heap.size,1,none⟩=some (.slice (qK g 0) 0 0):=(by simp);have z:=qG ((Sl.empty (xs:=xs) (w:=h.alloc (.cells #[.slice (qK g 0) 0 0,.slice (qK g 0) 0 0] 25)) (g:=g) (c:=0) (by simp;omega) (by rw [I.out];omega)));have A:=qG ((Sl.empty (xs:=ys) (w:=h.alloc (.cells #[.slice (qK g 0) 0 0,.slice (qK g 0) 0 0] 25)) (g:=g) (c:=0) (by simp;omega) (by rw [u.out];omega)));have W:(h.alloc (.cells #[.slice (qK g 0) 0 0,.slice (qK g 0) 0 0] 25)).heap.size=h.heap.size+1:=(by simp);generalize h.alloc (.cells #[.slice (qK g 0) 0 0,.slice (qK g 0) 0 0] 25)=E at *
   refine(Ji xs ys _ _ _ E z.out A.out (by omega) x y (by rw [I.out];exact K.out) (by rw [u.out];exact L.out)).mono ?_;rintro e ac ⟨ad,rfl,q,r⟩;have C:=qG (zD q (base':=w.heap.size) (by omega));have D:=qG (p.out.trans (r.mono (by omega)));clear q r;go_wp2;go_ret;exact⟨_,rfl,C.out,D.out⟩
  exfalso;omega
 by_cases M:cap=f
 ·obtain rfl:j=f:=by omega
  subst M;go_enter func150,ntmps150;go_wp2;go_quiet (fail);have k:=qG (t.out.same (w':=w.drewN nq) rfl);have l:=qG (below_drewN (qO w.heap.size w) nq);have v:=l.out.size;obtain⟨F,G,H⟩:=k.out;clear R S T t;generalize w.drewN nq=w1 at *
  go_wp2;go_quiet ((go_at_call 117;exact Calls.quiet_of (s.out _ (k.out.same rfl))));have m:=qG (below_drewN l.out nq);have V:=m.out.size;clear F G H k l v s N O P Q;generalize w1.drewN nq=h at *
  go_wp2_with fail;have p:=qG (m.out.alloc (by omega) (.cells #[.slice (qK g d) (i - d) (cap - d),.slice (qK g 0) 0 0] 25));have x:(h.alloc (.cells #[.slice (qK g d) (i - d) (cap - d),.slice (qK g 0) 0 0] 25)).cell? ⟨h.heap.size,0,none⟩=some (.slice (qK g d) (i - d) (cap - d)):=(by simp);have y:(h.alloc (.cells #[.slice (qK g d) (i - d) (cap - d),.slice (qK g 0) 0 0] 25)).cell? ⟨h.heap.size,1,none⟩=some (.slice (qK g 0) 0 0):=(by simp);have z:=qG ((U.out _ (cap - d) p.out));have A:=qG ((Sl.empty (xs:=ys) (w:=h.alloc (.cells #[.slice (qK g d) (i - d) (cap - d),.slice (qK g 0) 0 0] 25)) (g:=g) (c:=0) (by simp;omega) (by rw [u.out];omega)));have W:(h.alloc (.cells #[.slice (qK g d) (i - d) (cap - d),.slice (qK g 0) 0 0] 25)).heap.size=h.heap.size+1:=(by simp);generalize h.alloc (.cells #[.slice (qK g d) (i - d) (cap - d),.slice (qK g 0) 0 0] 25)=E at *
  refine(Ji xs ys _ _ _ E z.out A.out (by omega) x y (by rw [I.out];exact K.out) (by rw [u.out];exact L.out)).mono ?_;rintro e ac ⟨ad,rfl,q,r⟩;have C:=qG (zD q (base':=w.heap.size) (by omega));have D:=qG (p.out.trans (r.mono (by omega)));clear q r;go_wp2;go_ret;exact⟨_,rfl,C.out,D.out⟩
 go_enter func150,ntmps150;go_wp2;go_quiet (fail);have k:=qG (t.out.same (w':=w.drewN nq) rfl);have l:=qG (below_drewN (qO w.heap.size w) nq);have v:=l.out.size;obtain⟨F,G,H⟩:=k.out;clear R S T t;generalize w.drewN nq=w1 at *
 go_wp2;go_quiet ((go_at_call 117;exact Calls.quiet_of (s.out _ (k.out.same rfl))));have m:=qG (below_drewN l.out nq);have V:=m.out.size;clear F G H k l v s N O P Q;generalize w1.drewN nq=h at *
 go_wp2_with fail;have p:=qG (m.out.alloc (by omega) (.cells #[.slice (qK g d) (i - d) (cap - d),.slice (qK g f) (j - f) (cap - f)] 25));have x:(h.alloc (.cells #[.slice (qK g d) (i - d) (cap - d),.slice (qK g f) (j - f) (cap - f)] 25)).cell? ⟨h.heap.size,0,none⟩=some (.slice (qK g d) (i - d) (cap - d)):=by simp
 have y:(h.alloc (.cells #[.slice (qK g d) (i - d) (cap - d),.slice (qK g f) (j - f) (cap - f)] 25)).cell? ⟨h.heap.size,1,none⟩=some (.slice (qK g f) (j - f) (cap - f)):=by simp
 have z:=qG ((U.out _ (cap - d) p.out));have A:=qG ((ae.out _ (cap - f) p.out));have W:(h.alloc (.cells #[.slice (qK g d) (i - d) (cap - d),.slice (qK g f) (j - f) (cap - f)] 25)).heap.size=h.heap.size+1:=by simp
 generalize h.alloc (.cells #[.slice (qK g d) (i - d) (cap - d),.slice (qK g f) (j - f) (cap - f)] 25)=E at *
 refine(Ji xs ys _ _ _ E z.out A.out (by omega) x y (by rw [I.out];exact K.out) (by rw [u.out];exact L.out)).mono ?_;rintro e ac ⟨ad,rfl,q,r⟩;have C:=qG (zD q (base':=w.heap.size) (by omega));have D:=qG (p.out.trans (r.mono (by omega)));clear q r;go_wp2;go_ret;exact⟨_,rfl,C.out,D.out⟩
theorem readN (B o g cap:Nat) (zs:List Int) (lo hi a b:Nat) (w:World) (p:GC w B o (.slice (qK g 0) zs.length cap) lo hi) (l:Cl w g zs) (f:g<w.heap.size) (h:lo<=hi) (i:hi<=zs.length) (q:zs.length<=1048576) (r:zs.length<=cap) (s:cap<=maxLen) (t:a<=b) (u:b<=zs.length - (hi - lo)):
  Calls prog 150 #[.pointer (qK B o),qJ a,qJ b] w fun e w'=>∃k,e= .returned k∧w'.ownsRow w.heap.size 21 1 k (b - a) (ints .i32 (((gtext zs lo hi).drop a).take (b - a)))∧Below w.heap.size w w':=by
 have m:=gread h i t (by rw [zO h i];exact u);have n:(((gtext zs lo hi).drop a).take (b - a)).length=b - a:=by simp only [qN,qR,zO h i];omega
 have j:=readCore B o g cap zs.length zs ((zs.drop (min a lo)).take (min b lo - min a lo)) ((zs.drop (max (a+(hi - lo)) hi)).take (max (b+(hi - lo)) hi - max (a+(hi - lo)) hi)) lo hi a b (min a lo) (min b lo) (max (a+(hi - lo)) hi) (max (b+(hi - lo)) hi) w p f h i q r s (by omega) (by omega) (by omega) (by omega) (by omega) (by omega) (by omega) (by omega) (by omega) (by omega)
  (fun w' c d=>(l.below d f).cut (xq f d.size) (by omega)) (fun w' c d=>(l.below d f).cut (xq f d.size) (by omega))
  (by simp only [qN,qR];omega) (by simp only [qN,qR];omega)
 rw [m,n]at j;exact j
theorem readNil (B o:Nat) (w:World) (b:GC w B o (.slice none 0 0) 0 0):
  Calls prog 150 #[.pointer (qK B o),qJ 0,qJ 0] w fun e w'=>∃i,e= .returned i∧w'.ownsRow w.heap.size 21 1 i 0 (ints .i32 [])∧Below w.heap.size w w':=by
 have f:=qG (fun w b=>gapN B o (.slice none 0 0) 0 0 w b (by omega) (by omega) (by omega));have g:=qG b;obtain⟨t,u,v⟩:=b;go_enter func150,ntmps150;go_wp2;go_quiet (fail);have c:=qG (g.out.same (w':=w.drewN nq) rfl);have d:=qG (below_drewN (qO w.heap.size w) nq);have l:=d.out.size;obtain⟨x,y,z⟩:=c.out;clear t u v g;generalize w.drewN nq=w1 at *
 go_wp2;go_quiet ((go_at_call 117;exact Calls.quiet_of (f.out _ (c.out.same rfl))));have h:=qG (below_drewN d.out nq);have A:=h.out.size;clear x y z c d l f;generalize w1.drewN nq=a at *
 go_wp2_with fail;have m:=qG (h.out.alloc (by omega) (.cells #[.slice none 0 0,.slice none 0 0] 25));have n:(a.alloc (.cells #[.slice none 0 0,.slice none 0 0] 25)).cell? ⟨a.heap.size,0,none⟩=some (.slice none 0 0):=by simp
 have p:(a.alloc (.cells #[.slice none 0 0,.slice none 0 0] 25)).cell? ⟨a.heap.size,1,none⟩=some (.slice none 0 0):=by simp
 have C:(a.alloc (.cells #[.slice none 0 0,.slice none 0 0] 25)).heap.size=a.heap.size+1:=by simp
 generalize a.alloc (.cells #[.slice none 0 0,.slice none 0 0] 25)=s at *
 refine(Ji [] [] _ _ _ s (.inl ⟨rfl,rfl⟩) (.inl ⟨rfl,rfl⟩) (by omega) n p (by simp) (by simp)).mono ?_;rintro e D ⟨E,rfl,j,k⟩;have q:=qG (zD j (base':=w.heap.size) (by omega));have r:=qG (m.out.trans (k.mono (by omega)));clear j k;go_wp2;go_ret;exact⟨_,rfl,q.out,r.out⟩
structure GF (w:World) (B o:Nat):Prop where
 f0:w.frozen? ⟨B,o,none⟩=false
 f1:w.frozen? ⟨B,o+1,none⟩=false
 f2:w.frozen? ⟨B,o+2,none⟩=false
theorem zN {w w':World} {p:Addr} (a:w'.heap[p.block]? =w.heap[p.block]?):w'.frozen? p=w.frozen? p:=by
 unfold World.frozen?;rw [a]
theorem GF.same {w w':World} {B o:Nat} (a:GF w B o) (b:w'.heap[B]? =w.heap[B]?):GF w' B o:=
 ⟨(zN (p:=⟨B,o,none⟩) b).trans a.f0,(zN (p:=⟨B,o+1,none⟩) b).trans a.f1,(zN (p:=⟨B,o+2,none⟩) b).trans a.f2⟩
theorem GC.block {w w':World} {B o:Nat} {v:Value} {lo hi:Int} (b:GC w B o v lo hi) (c:w'.heap[B]? =w.heap[B]?):GC w' B o v lo hi:=
 ⟨(qV (w:=w) (a:=⟨B,o,none⟩) c).trans b.c0,(qV (w:=w) (a:=⟨B,o+1,none⟩) c).trans b.c1,(qV (w:=w) (a:=⟨B,o+2,none⟩) c).trans b.c2⟩
theorem Row1.trans {w w1 b:World} {g:Nat} {L c:List Value} {e d:TypeId} (a:Row1 w w1 g L e) (k:Row1 w1 b g c d):Row1 w b g c d:=
 ⟨k.row,k.os.trans a.os,k.tape.trans a.tape,k.output.trans a.output,k.size.trans a.size,fun i hi=>(k.block i hi).trans (a.block i hi)⟩
theorem Row1.to {w w1:World} {g:Nat} {L a:List Value} {b:TypeId} (c:Row1 w w1 g L b) (e:L=a):Row1 w w1 g a b:=e▸c
theorem Row1.qf {w w1:World} {g:Nat} {L:List Value} {b:TypeId} (a:Row1 w.drew w1 g L b):Row1 w w1 g L b:=⟨a.row,a.os,a.tape,a.output,a.size,a.block⟩
theorem zM {zs cs:List Int} {sp:List Value} {off:Nat} (a:off+cs.length<=zs.length):splice (ints .i32 zs++sp) off (ints .i32 cs)=ints .i32 (splice zs off cs)++sp:=by
 unfold splice;simp only [ints,vz,Qd,List.map_drop,xE];rw [xI (by simp;omega),xS (by simp;omega)];simp only [xj]
theorem js (n:Nat):List.replicate n (Value.int .i32 0)=ints .i32 (List.replicate n 0):=by simp [ints]
theorem ZK {w:World} {g:Nat} {zs:List Int} {sp:List Value} {a:TypeId} (b:w.heap[g]? =some (.cells (ints .i32 zs++sp).toArray a (0,0))):Cl w g zs:=by
 intro i hi;rw [qP w g i _ _ _ b];simp [ints,hi,xx]
theorem zh:(prog.info? 21).map (·.size)=some 1:=by kernel_rfl
theorem Yf (w:World):(zeroValue 21).run prog w= .ok (.int .i32 0) w:=by kernel_rfl
theorem mixed:prog.follows .mixedOrders=true:=by kernel_rfl
theorem Cl.app' {w:World} {g:Nat} {zs:List Int} (c:Cl w g zs) (p l:Nat) (d:p+l<=zs.length):∀j a,(ints .i32 ((zs.drop p).take l))[j]? =some a->w.cell? ((⟨g,p,none⟩:Addr).add j)=some a:=by
 have:=j9 (k:=.i32) (w:=w) (b:=g) (off:=0) (o:=p) (l:=l) (zs:=zs) (fun i hi=>by rw [xP];exact c i hi);simpa using this
theorem zCj (B o g cap n:Nat) (zs:List Int) (sp:List Value) (lo hi p e m:Nat) (w:World) (r:GC w B o (.slice (qK g 0) n cap) lo hi) (D:GF w B o) (E:w.heap[g]? =some (.cells (ints .i32 zs++sp).toArray 21 (0,0))) (F:zs.length=n) (h:B≠g)
  (U:n<=cap) (V:lo<=hi) (W:hi<=n) (X:n<=1048576) (Y:p+(hi - lo)<=n) (Z:(p:Int)+((hi:Int) - (lo:Int))=e) (aa:p<lo) (ab:min (lo:Int) (e:Int)=m):
  Calls prog 157 #[.pointer (qK B o),qJ p] w fun x w'=>x= .returned (.tuple #[])∧∃w1,Row1 w w1 g (ints .i32 (splice (splice zs e ((zs.drop p).take (lo - p))) p (List.replicate (m - p) 0))++sp) 21∧w'=(w1.setCell ⟨B,o+1,none⟩ (qJ p)).setCell ⟨B,o+2,none⟩ (qJ e):=by
 have s:=qG (gapN B o (.slice (qK g 0) n cap) lo hi w r (by omega) (by omega) (by omega));have t:=qG r;have u:=qG D;have v:=qG E;have a:=qG F;have y:e=p+(hi - lo):=by omega
 have Q:=qG y;obtain⟨N,O,P⟩:=r;clear E F D y;have b:=qG (show((zs.drop p).take (lo - p)).length=lo - p by simp only [qN,qR,a.out];omega);have i1:e<=hi:=by omega
 have i2:hi<=cap:=by omega
 have i3:¬cap=e:=by omega
 have i4:p<=lo:=by omega
 have i5:lo<=cap:=by omega
 have R:¬cap=p:=by omega
 have S:p<=m:=by omega
 have T:m<=cap:=by omega
 go_enter func157,ntmps157;go_wp2_with fail;refine s.out.mono ?_;rintro x M ⟨rfl,i,rfl⟩;have d:=qG (show Row1 w (w.drewN i) g (ints .i32 zs++sp) 21 from⟨v.out,rfl,rfl,rfl,rfl,fun _ _=>rfl⟩);have j:=qG (t.out.same (w':=w.drewN i) rfl);have z:=qG (u.out.same (w':=w.drewN i) rfl);obtain⟨G,H,I⟩:=j.out;clear N O P t u v s;generalize w.drewN i=M at *
 go_wp2_with fail;go_still_tail 20,mixed;refine zQ rfl (.tmp 24) (.tmp 34) 25 25 rfl 21 underlying25 zh (qK g e) (qK g p) (hi - e) (cap - e) (lo - p) (cap - p) rfl rfl g e (ints .i32 zs++sp) 21 (by exact d.out.row) (ints .i32 ((zs.drop p).take (lo - p))) (by rw [zC,b.out];show lo - p=min (lo - p) (hi - e);omega) (fun _=>⟨rfl,_,rfl,(ZK d.out.row).app' p (lo - p) (by rw [a.out];omega)⟩) (by rw [zC,b.out,qM,zC,a.out];omega) (zG _ _) ?_;intro C f;have k:=qG (Row1.to (d.out.trans (Row1.qf f.out)) (zM (by rw [b.out,a.out];omega)));have l:=qG (j.out.block (w':=C) (f.out.block B h));have A:=qG (z.out.same (w':=C) (f.out.block B h));obtain⟨G,H,I⟩:=l.out;clear f d j z;go_wp2_with fail;go_still_tail 12,mixed;refine zo rfl (.tmp 47) 25 rfl 21 underlying25 (.int .i32 0) Yf rfl rfl (qK g p) (m - p) (cap - p) rfl g p _ 21 (by exact k.out.row) (fun _=>rfl) (by rw [qM,zC,length_splice _ _ _ (by rw [b.out,a.out];omega),a.out];omega) ?_;intro q c;rw [js]at c;have J:=qG (Row1.to (k.out.trans (Row1.qf c.out)) (zM (by rw [qQ,length_splice _ _ _ (by rw [b.out,a.out];omega),a.out];omega)));have K:=qG (l.out.block (w':=q) (c.out.block B h));have L:=qG (A.out.same (w':=q) (c.out.block B h));obtain⟨G,H,I⟩:=K.out;obtain⟨ac,ad,ae⟩:=L.out;clear c k l A;go_wp2;go_end0;exact⟨rfl,q,J.out,rfl⟩
theorem zDq (B o g cap n:Nat) (zs:List Int) (sp:List Value) (lo hi p e m:Nat) (w:World) (r:GC w B o (.slice (qK g 0) n cap) lo hi) (D:GF w B o) (E:w.heap[g]? =some (.cells (ints .i32 zs++sp).toArray 21 (0,0))) (F:zs.length=n) (h:B≠g)
  (T:n<=cap) (U:lo<=hi) (V:hi<=n) (W:n<=1048576) (X:p+(hi - lo)<=n) (Y:(p:Int)+((hi:Int) - (lo:Int))=e) (Z:lo<=p) (aa:max (hi:Int) (p:Int)=m) (ab:¬cap=lo) (ac:¬cap=hi) (ad:¬cap=m):
  Calls prog 157 #[.pointer (qK B o),qJ p] w fun x w'=>x= .returned (.tuple #[])∧∃w1,Row1 w w1 g (ints .i32 (splice (splice zs lo ((zs.drop hi).take (e - hi))) m (List.replicate (e - m) 0))++sp) 21∧w'=(w1.setCell ⟨B,o+1,none⟩ (qJ p)).setCell ⟨B,o+2,none⟩ (qJ e):=by
 have s:=qG (gapN B o (.slice (qK g 0) n cap) lo hi w r (by omega) (by omega) (by omega));have t:=qG r;have u:=qG D;have v:=qG E;have a:=qG F;have y:e=p+(hi - lo):=by omega
 have R:=qG y;obtain⟨O,P,Q⟩:=r;clear E F D y;have b:=qG (show((zs.drop hi).take (e - hi)).length=p - lo by simp only [qN,qR,a.out];omega);have S:¬ (p:Int)<(lo:Int):=by omega
 have i1:lo<=p:=by omega
 have i2:p<=cap:=by omega
 have i3:hi<=e:=by omega
 have i4:e<=cap:=by omega
 have i5:m<=e:=by omega
 go_enter func157,ntmps157;go_wp2_with fail;refine s.out.mono ?_;rintro x M ⟨rfl,i,rfl⟩;have d:=qG (show Row1 w (w.drewN i) g (ints .i32 zs++sp) 21 from⟨v.out,rfl,rfl,rfl,rfl,fun _ _=>rfl⟩);have j:=qG (t.out.same (w':=w.drewN i) rfl);have z:=qG (u.out.same (w':=w.drewN i) rfl);obtain⟨G,H,I⟩:=j.out;clear O P Q t u v s;generalize w.drewN i=M at *
 go_wp2_with fail;go_still_tail 20,mixed;refine zQ rfl (.tmp 57) (.tmp 67) 25 25 rfl 21 underlying25 zh (qK g lo) (qK g hi) (p - lo) (cap - lo) (e - hi) (cap - hi) rfl rfl g lo (ints .i32 zs++sp) 21 (by exact d.out.row) (ints .i32 ((zs.drop hi).take (e - hi))) (by rw [zC,b.out];show p - lo=min _ _;omega) (fun N=>⟨rfl,_,rfl,(ZK d.out.row).app' hi (e - hi) (by rw [a.out];omega)⟩) (by rw [zC,b.out,qM,zC,a.out];omega) (zG _ _) ?_;intro C f;have k:=qG (Row1.to (d.out.trans (Row1.qf f.out)) (zM (by rw [b.out,a.out];omega)));have l:=qG (j.out.block (w':=C) (f.out.block B h));have A:=qG (z.out.same (w':=C) (f.out.block B h));obtain⟨G,H,I⟩:=l.out;clear f d j z;go_wp2_with fail;go_still_tail 12,mixed;refine zo rfl (.tmp 80) 25 rfl 21 underlying25 (.int .i32 0) Yf rfl rfl (qK g m) (e - m) (cap - m) rfl g m _ 21 (by exact k.out.row) (fun N=>rfl) (by rw [qM,zC,length_splice _ _ _ (by rw [b.out,a.out];omega),a.out];omega) ?_;intro q c;rw [js]at c;have J:=qG (Row1.to (k.out.trans (Row1.qf c.out)) (zM (by rw [qQ,length_splice _ _ _ (by rw [b.out,a.out];omega),a.out];omega)));have K:=qG (l.out.block (w':=q) (c.out.block B h));have L:=qG (A.out.same (w':=q) (c.out.block B h));obtain⟨G,H,I⟩:=K.out;obtain⟨ae,af,ag⟩:=L.out;clear c k l A;go_wp2;go_end0;exact⟨rfl,q,J.out,rfl⟩
theorem zDr (B o g cap n:Nat) (zs:List Int) (sp:List Value) (lo hi p e m:Nat) (w:World) (s:GC w B o (.slice (qK g 0) n cap) lo hi) (E:GF w B o) (F:w.heap[g]? =some (.cells (ints .i32 zs++sp).toArray 21 (0,0))) (G:zs.length=n) (f:B≠g)
  (T:n<=cap) (U:lo<=hi) (V:hi<=n) (W:n<=1048576) (X:p+(hi - lo)<=n) (Y:(p:Int)+((hi:Int) - (lo:Int))=e) (Z:lo<=p) (aa:max (hi:Int) (p:Int)=m) (ab:cap=lo):
  Calls prog 157 #[.pointer (qK B o),qJ p] w fun x w'=>x= .returned (.tuple #[])∧∃w1,Row1 w w1 g (ints .i32 (splice (splice zs lo ((zs.drop hi).take (e - hi))) m (List.replicate (e - m) 0))++sp) 21∧w'=(w1.setCell ⟨B,o+1,none⟩ (qJ p)).setCell ⟨B,o+2,none⟩ (qJ e):=by
 obtain rfl:n=cap:=by omega
 obtain rfl:n=lo:=by omega
 obtain rfl:n=hi:=by omega
 obtain rfl:n=p:=by omega
 obtain rfl:n=e:=by omega
 obtain rfl:n=m:=by omega
 have t:=qG (gapN B o (.slice (qK g 0) n n) n n w s (by omega) (by omega) (by omega));have u:=qG s;have v:=qG E;have y:=qG F;have a:=qG G;have z:n=n+(n - n):=by omega
 have R:=qG z;obtain⟨O,P,Q⟩:=s;clear F G E z;have b:=qG (show((zs.drop n).take (n - n)).length=n - n by simp only [qN,qR,a.out];omega);have S:¬ (n:Int)<(n:Int):=by omega
 go_enter func157,ntmps157;go_wp2_with fail;refine t.out.mono ?_;rintro x N ⟨rfl,h,rfl⟩;have i:=qG (show Row1 w (w.drewN h) g (ints .i32 zs++sp) 21 from⟨y.out,rfl,rfl,rfl,rfl,fun _ _=>rfl⟩);have j:=qG (u.out.same (w':=w.drewN h) rfl);have A:=qG (v.out.same (w':=w.drewN h) rfl);obtain⟨H,I,J⟩:=j.out;clear O P Q u v y t;generalize w.drewN h=N at *
 go_wp2_with fail;go_still_tail 20,mixed;refine zQ rfl (.tmp 57) (.tmp 67) 25 25 rfl 21 underlying25 zh (qK g 0) (qK g 0) 0 0 0 0 rfl rfl g n (ints .i32 zs++sp) 21 (by exact i.out.row) (ints .i32 ((zs.drop n).take (n - n))) (by rw [zC,b.out];show n - n=min _ _;omega) (fun r=>absurd r (by rw [zC,b.out];omega)) (by rw [zC,b.out,qM,zC,a.out];omega) (zG _ _) ?_;intro D d;have k:=qG (Row1.to (i.out.trans (Row1.qf d.out)) (zM (by rw [b.out,a.out];omega)));have l:=qG (j.out.block (w':=D) (d.out.block B f));have C:=qG (A.out.same (w':=D) (d.out.block B f));obtain⟨H,I,J⟩:=l.out;clear d i j A;go_wp2_with fail;go_still_tail 12,mixed;refine zo rfl (.tmp 80) 25 rfl 21 underlying25 (.int .i32 0) Yf rfl rfl (qK g 0) 0 0 rfl g n _ 21 (by exact k.out.row) (fun r=>absurd r (by omega)) (by rw [qM,zC,length_splice _ _ _ (by rw [b.out,a.out];omega),a.out];omega) ?_;intro q c;rw [js]at c;have K:=qG (Row1.to (k.out.trans (Row1.qf c.out)) (zM (by rw [qQ,length_splice _ _ _ (by rw [b.out,a.out];omega),a.out];omega)));have L:=qG (l.out.block (w':=q) (c.out.block B f));have M:=qG (C.out.same (w':=q) (c.out.block B f));obtain⟨H,I,J⟩:=L.out;obtain⟨ac,ad,ae⟩:=M.out;clear c k l C;go_wp2;go_end0;exact⟨rfl,q,by rw [show List.replicate (n - n) (0:Int)=List.replicate 0 0 by rw [vG]];exact K.out,rfl⟩
theorem zDs (B o g cap n:Nat) (zs:List Int) (sp:List Value) (lo hi p e m:Nat) (w:World) (s:GC w B o (.slice (qK g 0) n cap) lo hi) (E:GF w B o) (F:w.heap[g]? =some (.cells (ints .i32 zs++sp).toArray 21 (0,0))) (G:zs.length=n) (f:B≠g)
  (U:n<=cap) (V:lo<=hi) (W:hi<=n) (X:n<=1048576) (Y:p+(hi - lo)<=n) (Z:(p:Int)+((hi:Int) - (lo:Int))=e) (aa:lo<=p) (ab:max (hi:Int) (p:Int)=m) (ac:¬cap=lo) (ad:cap=hi):
  Calls prog 157 #[.pointer (qK B o),qJ p] w fun x w'=>x= .returned (.tuple #[])∧∃w1,Row1 w w1 g (ints .i32 (splice (splice zs lo ((zs.drop hi).take (e - hi))) m (List.replicate (e - m) 0))++sp) 21∧w'=(w1.setCell ⟨B,o+1,none⟩ (qJ p)).setCell ⟨B,o+2,none⟩ (qJ e):=by
 obtain rfl:n=cap:=by omega
 obtain rfl:n=hi:=by omega
 obtain rfl:lo=p:=by omega
 obtain rfl:n=e:=by omega
 obtain rfl:n=m:=by omega
 have t:=qG (gapN B o (.slice (qK g 0) n n) lo n w s (by omega) (by omega) (by omega));have u:=qG s;have v:=qG E;have y:=qG F;have a:=qG G;have z:n=lo+(n - lo):=by omega
 have R:=qG z;obtain⟨O,P,Q⟩:=s;clear F G E z;have b:=qG (show((zs.drop n).take (n - n)).length=lo - lo by simp only [qN,qR,a.out];omega);have S:¬ (lo:Int)<(lo:Int):=by omega
 have T:lo<=n:=by omega
 go_enter func157,ntmps157;go_wp2_with fail;refine t.out.mono ?_;rintro x N ⟨rfl,h,rfl⟩;have i:=qG (show Row1 w (w.drewN h) g (ints .i32 zs++sp) 21 from⟨y.out,rfl,rfl,rfl,rfl,fun _ _=>rfl⟩);have j:=qG (u.out.same (w':=w.drewN h) rfl);have A:=qG (v.out.same (w':=w.drewN h) rfl);obtain⟨H,I,J⟩:=j.out;clear O P Q u v y t;generalize w.drewN h=N at *
 go_wp2_with fail;go_still_tail 20,mixed;refine zQ rfl (.tmp 57) (.tmp 67) 25 25 rfl 21 underlying25 zh (qK g lo) (qK g 0) 0 (n - lo) 0 0 rfl rfl g lo (ints .i32 zs++sp) 21 (by exact i.out.row) (ints .i32 ((zs.drop n).take (n - n))) (by rw [zC,b.out];show lo - lo=min _ _;omega) (fun r=>absurd r (by rw [zC,b.out];omega)) (by rw [zC,b.out,qM,zC,a.out];omega) (zG _ _) ?_;intro D d;have k:=qG (Row1.to (i.out.trans (Row1.qf d.out)) (zM (by rw [b.out,a.out];omega)));have l:=qG (j.out.block (w':=D) (d.out.block B f));have C:=qG (A.out.same (w':=D) (d.out.block B f));obtain⟨H,I,J⟩:=l.out;clear d i j A;go_wp2_with fail;go_still_tail 12,mixed;refine zo rfl (.tmp 80) 25 rfl 21 underlying25 (.int .i32 0) Yf rfl rfl (qK g 0) 0 0 rfl g n _ 21 (by exact k.out.row) (fun r=>absurd r (by omega)) (by rw [qM,zC,length_splice _ _ _ (by rw [b.out,a.out];omega),a.out];omega) ?_;intro q c;rw [js]at c;have K:=qG (Row1.to (k.out.trans (Row1.qf c.out)) (zM (by rw [qQ,length_splice _ _ _ (by rw [b.out,a.out];omega),a.out];omega)));have L:=qG (l.out.block (w':=q) (c.out.block B f));have M:=qG (C.out.same (w':=q) (c.out.block B f));obtain⟨H,I,J⟩:=L.out;obtain⟨ae,af,ag⟩:=M.out;clear c k l C;go_wp2;go_end0;exact⟨rfl,q,by rw [show List.replicate (n - n) (0:Int)=List.replicate 0 0 by rw [vG]];exact K.out,rfl⟩
theorem zDt (B o g cap n:Nat) (zs:List Int) (sp:List Value) (lo hi p e m:Nat) (w:World) (r:GC w B o (.slice (qK g 0) n cap) lo hi) (E:GF w B o) (F:w.heap[g]? =some (.cells (ints .i32 zs++sp).toArray 21 (0,0))) (G:zs.length=n) (h:B≠g)
  (U:n<=cap) (V:lo<=hi) (W:hi<=n) (X:n<=1048576) (Y:p+(hi - lo)<=n) (Z:(p:Int)+((hi:Int) - (lo:Int))=e) (aa:lo<=p) (ab:max (hi:Int) (p:Int)=m) (ac:¬cap=lo) (ad:¬cap=hi) (ae:cap=m):
  Calls prog 157 #[.pointer (qK B o),qJ p] w fun x w'=>x= .returned (.tuple #[])∧∃w1,Row1 w w1 g (ints .i32 (splice (splice zs lo ((zs.drop hi).take (e - hi))) m (List.replicate (e - m) 0))++sp) 21∧w'=(w1.setCell ⟨B,o+1,none⟩ (qJ p)).setCell ⟨B,o+2,none⟩ (qJ e):=by
 obtain rfl:n=cap:=by omega
 obtain rfl:n=m:=by omega
 obtain rfl:n=p:=by omega
 obtain rfl:n=e:=by omega
 obtain rfl:lo=hi:=by omega
 have s:=qG (gapN B o (.slice (qK g 0) n n) lo lo w r (by omega) (by omega) (by omega));have t:=qG r;have u:=qG E;have v:=qG F;have a:=qG G;have y:n=n+(lo - lo):=by omega
 have R:=qG y;obtain⟨O,P,Q⟩:=r;clear F G E y;have b:=qG (show((zs.drop lo).take (n - lo)).length=n - lo by simp only [qN,qR,a.out];omega);have S:¬ (n:Int)<(lo:Int):=by omega
 have T:lo<=n:=by omega
 go_enter func157,ntmps157;go_wp2_with fail;refine s.out.mono ?_;rintro x N ⟨rfl,i,rfl⟩;have d:=qG (show Row1 w (w.drewN i) g (ints .i32 zs++sp) 21 from⟨v.out,rfl,rfl,rfl,rfl,fun _ _=>rfl⟩);have j:=qG (t.out.same (w':=w.drewN i) rfl);have z:=qG (u.out.same (w':=w.drewN i) rfl);obtain⟨H,I,J⟩:=j.out;clear O P Q t u v s;generalize w.drewN i=N at *
 go_wp2_with fail;go_still_tail 20,mixed;refine zQ rfl (.tmp 57) (.tmp 67) 25 25 rfl 21 underlying25 zh (qK g lo) (qK g lo) (n - lo) (n - lo) (n - lo) (n - lo) rfl rfl g lo (ints .i32 zs++sp) 21 (by exact d.out.row) (ints .i32 ((zs.drop lo).take (n - lo))) (by rw [zC,b.out];show n - lo=min _ _;omega) (fun D=>⟨rfl,_,rfl,(ZK d.out.row).app' lo (n - lo) (by rw [a.out];omega)⟩) (by rw [zC,b.out,qM,zC,a.out];omega) (zG _ _) ?_;intro C f;have k:=qG (Row1.to (d.out.trans (Row1.qf f.out)) (zM (by rw [b.out,a.out];omega)));have l:=qG (j.out.block (w':=C) (f.out.block B h));have A:=qG (z.out.same (w':=C) (f.out.block B h));obtain⟨H,I,J⟩:=l.out;clear f d j z;go_wp2_with fail;go_still_tail 12,mixed;refine zo rfl (.tmp 80) 25 rfl 21 underlying25 (.int .i32 0) Yf rfl rfl (qK g 0) 0 0 rfl g n _ 21 (by exact k.out.row) (fun D=>absurd D (by omega)) (by rw [qM,zC,length_splice _ _ _ (by rw [b.out,a.out];omega),a.out];omega) ?_;intro q c;rw [js]at c;have K:=qG (Row1.to (k.out.trans (Row1.qf c.out)) (zM (by rw [qQ,length_splice _ _ _ (by rw [b.out,a.out];omega),a.out];omega)));have L:=qG (l.out.block (w':=q) (c.out.block B h));have M:=qG (A.out.same (w':=q) (c.out.block B h));obtain⟨H,I,J⟩:=L.out;obtain⟨af,ag,ah⟩:=M.out;clear c k l A;go_wp2;go_end0;exact⟨rfl,q,by rw [show List.replicate (n - n) (0:Int)=List.replicate 0 0 by rw [vG]];exact K.out,rfl⟩
theorem moveToN (B o g cap:Nat) (zs:List Int) (sp:List Value) (lo hi p:Nat) (w:World) (e:GC w B o (.slice (qK g 0) zs.length cap) lo hi) (f:GF w B o) (h:w.heap[g]? =some (.cells (ints .i32 zs++sp).toArray 21 (0,0))) (i:B≠g)
  (j:zs.length<=cap) (k:GV zs lo hi) (a:p+(hi - lo)<=zs.length):
  Calls prog 157 #[.pointer (qK B o),qJ p] w fun x w'=>x= .returned (.tuple #[])∧∃w1,Row1 w w1 g (ints .i32 (glay (gtext zs lo hi) p zs.length)++sp) 21∧w'=(w1.setCell ⟨B,o+1,none⟩ (qJ p)).setCell ⟨B,o+2,none⟩ (qJ ((p+(hi - lo):Nat):Int)):=by
 have b:=k.a;have c:=k.b;have s:=k.c;by_cases n:p<lo
 ·rw [<- zDc k n]
  exact zCj B o g cap zs.length zs sp lo hi p (p+(hi - lo)) (min lo (p+(hi - lo))) w e f h rfl i j b c (by omega) a (by omega) n (by omega)
 have d:lo<=p:=by omega
 have r:=gmove_up k d a;rw [<- r];by_cases l:cap=lo
 ·exact zDr B o g cap zs.length zs sp lo hi p (p+(hi - lo)) (max hi p) w e f h rfl i j b c (by omega) a (by omega) d (by omega) l
 by_cases m:cap=hi
 ·exact zDs B o g cap zs.length zs sp lo hi p (p+(hi - lo)) (max hi p) w e f h rfl i j b c (by omega) a (by omega) d (by omega) l m
 by_cases q:cap=max hi p
 ·exact zDt B o g cap zs.length zs sp lo hi p (p+(hi - lo)) (max hi p) w e f h rfl i j b c (by omega) a (by omega) d (by omega) l m q
 exact zDq B o g cap zs.length zs sp lo hi p (p+(hi - lo)) (max hi p) w e f h rfl i j b c (by omega) a (by omega) d (by omega) l m q
def set3 (cs:Array Value) (o:Nat) (a b c:Value):Array Value:=((cs.setIfInBounds o a).setIfInBounds (o+1) b).setIfInBounds (o+2) c
theorem zm (cs:Array Value) (o:Nat) (a b c:Value):(set3 cs o a b c).size=cs.size:=by simp [set3]
theorem zu (cs:Array Value) (o:Nat) (a b c:Value) (j:Nat) (g:o+3<=cs.size):(set3 cs o a b c)[j]? =if j=o then some a else if j=o+1 then some b else if j=o+2 then some c else cs[j]?:=by
 unfold set3;simp only [qS,Array.size_setIfInBounds];by_cases d:j=o
 ·subst d;simp;omega
 by_cases e:j=o+1
 ·subst e;simp;omega
 by_cases f:j=o+2
 ·subst f;simp;omega
 simp [d,e,f,Ne.symm d,Ne.symm e,Ne.symm f]
theorem yM {cs d:Array Value} {o:Nat} {a b c:Value} (n:d.size=cs.size) (h:o+3<=cs.size) (i:d[o]? =some a) (k:d[o+1]? =some b) (l:d[o+2]? =some c) (m:∀j,j≠o->j≠o+1->j≠o+2->d[j]? =cs[j]?):d=set3 cs o a b c:=by
 apply Array.ext_getElem?;intro j;rw [zu _ _ _ _ _ _ h];by_cases e:j=o
 ·subst e;simpa using i
 by_cases f:j=o+1
 ·subst f;simpa using k
 by_cases g:j=o+2
 ·subst g;simpa using l
 simp [e,f,g,m j e f g]
theorem YR (cs:Array Value) (o:Nat) (a b c e f g:Value) (d:o+3<=cs.size):set3 (set3 cs o a b c) o e f g=set3 cs o e f g:=by
 apply yM (by simp [zm]) d
 ·rw [zu _ _ _ _ _ _ (by rw [zm];exact d)];simp
 ·rw [zu _ _ _ _ _ _ (by rw [zm];exact d)];simp
 ·rw [zu _ _ _ _ _ _ (by rw [zm];exact d)];simp
 intro j h i k;rw [zu _ _ _ _ _ _ (by rw [zm];exact d),zu _ _ _ _ _ _ d];simp [h,i,k]
structure GB (w:World) (B o:Nat) (cs:Array Value) (a:TypeId) (v:Value) (lo hi:Int):Prop where
 blk:w.heap[B]? =some (.cells cs a (0,0))
 sz:o+3<=cs.size
 c0:cs[o]? =some v
 c1:cs[o+1]? =some (qJ lo)
 c2:cs[o+2]? =some (qJ hi)
theorem GB.gc {w:World} {B o:Nat} {cs:Array Value} {b:TypeId} {v:Value} {lo hi:Int} (a:GB w B o cs b v lo hi):GC w B o v lo hi:=
 ⟨by rw [qP w B o _ _ _ a.blk];exact a.c0,by rw [qP w B (o+1) _ _ _ a.blk];exact a.c1,by rw [qP w B (o+2) _ _ _ a.blk];exact a.c2⟩
theorem GB.gf {w:World} {B o:Nat} {cs:Array Value} {b:TypeId} {v:Value} {lo hi:Int} (a:GB w B o cs b v lo hi):GF w B o:=
 ⟨xp w B _ _ _ a.blk,xp w B _ _ _ a.blk,xp w B _ _ _ a.blk⟩
theorem GB.lt {w:World} {B o:Nat} {cs:Array Value} {a:TypeId} {v:Value} {lo hi:Int} (b:GB w B o cs a v lo hi):B<w.heap.size:=lt_of_block b.blk
theorem GB.self {w:World} {B o:Nat} {cs:Array Value} {b:TypeId} {v:Value} {lo hi:Int} (a:GB w B o cs b v lo hi):set3 cs o v (qJ lo) (qJ hi)=cs:=
 (yM rfl a.sz a.c0 a.c1 a.c2 (fun _ _ _ _=>rfl)).symm
theorem GB.block {w w':World} {B o:Nat} {cs:Array Value} {b:TypeId} {v:Value} {lo hi:Int} (a:GB w B o cs b v lo hi) (c:w'.heap[B]? =w.heap[B]?):GB w' B o cs b v lo hi:=⟨c.trans a.blk,a.sz,a.c0,a.c1,a.c2⟩
theorem GB.qp {w:World} {B o:Nat} {cs:Array Value} {b:TypeId} {v:Value} {lo hi:Int} (c:w.heap[B]? =some (.cells (set3 cs o v (qJ lo) (qJ hi)) b (0,0))) (a:o+3<=cs.size):GB w B o (set3 cs o v (qJ lo) (qJ hi)) b v lo hi:=
 ⟨c,by rw [zm];exact a,by rw [zu _ _ _ _ _ _ a];simp,by rw [zu _ _ _ _ _ _ a];simp,by rw [zu _ _ _ _ _ _ a];simp⟩
structure ChgP (w w':World) (S:Nat->Prop):Prop where
 os:w'.os=w.os
 tape:w'.tape=w.tape
 output:w'.output=w.output
 size:w.heap.size<=w'.heap.size
 block:∀k,k<w.heap.size->¬S k->w'.heap[k]? =w.heap[k]?
theorem ChgP.trans {w w1 c:World} {S T U:Nat->Prop} (a:ChgP w w1 S) (k:ChgP w1 c T) (d:∀i,i<w.heap.size->S i->U i) (e:∀i,i<w.heap.size->T i->U i):ChgP w c U:=
 ⟨k.os.trans a.os,k.tape.trans a.tape,k.output.trans a.output,vK a.size k.size,fun i hi b=>(k.block i (xq hi a.size) (fun s=>b (e i hi s))).trans (a.block i hi (fun s=>b (d i hi s)))⟩
def Rw (w:World) (g:Nat) (zs:List Int) (sp:List Value):Prop:=w.heap[g]? =some (.cells (ints .i32 zs++sp).toArray 21 (0,0))
structure GPost (w w':World) (B o g:Nat) (cs:Array Value) (a:TypeId) (v:Value) (lo hi:Int) (zs:List Int) (sp:List Value):Prop where
 gb:GB w' B o (set3 cs o v (qJ lo) (qJ hi)) a v lo hi
 rw:Rw w' g zs sp
 chg:ChgP w w' (fun k=>k=B∨k=g)
theorem zCk {w w1:World} {B o g:Nat} {cs:Array Value} {d:TypeId} {v:Value} {lo hi:Int} {L:List Value} {i:TypeId} (c:GB w B o cs d v lo hi) (k:B≠g) (l:Row1 w w1 g L i) (a b:Int):
  ((w1.setCell ⟨B,o+1,none⟩ (qJ a)).setCell ⟨B,o+2,none⟩ (qJ b)).heap[B]? =some (.cells (set3 cs o v (qJ a) (qJ b)) d (0,0)):=by
 have e:w1.heap[B]? =some (.cells cs d (0,0)):=(l.block B k).trans c.blk;have f:=xD w1 B (o+1) _ _ (qJ a) e;have h:=xD _ B (o+2) _ _ (qJ b) f;have m:=c.sz;rw [h]
 congr 2
 apply yM (by simp) c.sz
 ·rw [qS,qS,qZ (by omega),qZ (by omega)];exact c.c0
 ·rw [qS,qS,qZ (by omega),xd rfl,xd (by omega)]
 ·rw [qS,xd rfl,xd (by simp;omega)]
 intro j n p q;rw [qS,qS,qZ (by omega),qZ (by omega)]
theorem zE {w:World} {a:Addr} {v:Value} {k:Nat} (b:k≠a.block):(w.setCell a v).heap[k]? =w.heap[k]?:=xm w a k v b
theorem zDu {w w1:World} {B o g:Nat} {cs:Array Value} {h:TypeId} {v:Value} {lo hi:Int} {zs:List Int} {sp:List Value} (i:GB w B o cs h v lo hi) (f:B≠g) (c:Row1 w w1 g (ints .i32 zs++sp) 21) (a b:Int):
  GPost w ((w1.setCell ⟨B,o+1,none⟩ (qJ a)).setCell ⟨B,o+2,none⟩ (qJ b)) B o g cs h v a b zs sp:=by
 refine⟨GB.qp (zCk i f c a b) i.sz,?_,?_⟩
 ·show _=_
  rw [zE (by show g≠B;exact f.symm),zE (by show g≠B;exact f.symm)];exact c.row
 refine⟨c.os,c.tape,c.output,by simp [c.size],fun k j d=>?_⟩;rw [zE (by show k≠B;exact fun e=>d (.inl e)),zE (by show k≠B;exact fun e=>d (.inl e))];exact c.block k (fun e=>d (.inr e))
theorem zF5 (B o g cap:Nat) (cs:Array Value) (b:TypeId) (zs:List Int) (sp:List Value) (lo hi p:Nat) (w:World) (a:GB w B o cs b (.slice (qK g 0) zs.length cap) lo hi) (h:Rw w g zs sp) (c:B≠g)
  (i:zs.length<=cap) (j:GV zs lo hi) (k:p+(hi - lo)<=zs.length):
  Calls prog 157 #[.pointer (qK B o),qJ p] w fun x w'=>x= .returned (.tuple #[])∧GPost w w' B o g cs b (.slice (qK g 0) zs.length cap) p ((p+(hi - lo):Nat):Int) (glay (gtext zs lo hi) p zs.length) sp:=
 (moveToN B o g cap zs sp lo hi p w a.gc a.gf h c i j k).mono fun x w' ⟨d,w1,e,f⟩=>⟨d,by rw [f];exact zDu a c e _ _⟩
theorem GPost.trans {w w1 f:World} {B o g:Nat} {cs:Array Value} {a:TypeId} {v b:Value} {lo hi c hi':Int} {zs h:List Int} {sp i:List Value} (j:GPost w w1 B o g cs a v lo hi zs sp) (l:o+3<=cs.size) (k:GPost w1 f B o g (set3 cs o v (qJ lo) (qJ hi)) a b c hi' h i):GPost w f B o g cs a b c hi' h i:=by
 have e:=YR cs o v (qJ lo) (qJ hi) b (qJ c) (qJ hi') l;have d:=k.gb;rw [e]at d;exact⟨d,k.rw,j.chg.trans k.chg (fun _ _ s=>s) (fun _ _ s=>s)⟩
theorem KD {w w1:World} {B o g:Nat} {cs:Array Value} {d:TypeId} {v:Value} {lo hi:Int} {zs:List Int} {sp:List Value} (c:GB w B o cs d v lo hi) (h:B≠g) (a:Row1 w w1 g (ints .i32 zs++sp) 21) (b:Int):
  GPost w (w1.setCell ⟨B,o+2,none⟩ (qJ b)) B o g cs d v lo b zs sp:=by
 have i:w1.heap[B]? =some (.cells cs d (0,0)):=(a.block B h).trans c.blk;have l:=xD w1 B (o+2) _ _ (qJ b) i;have m:=c.sz;refine⟨GB.qp ?_ c.sz,?_,?_⟩
 ·rw [l]
  congr 2
  apply yM (by simp) c.sz
  ·rw [qS,qZ (by omega)];exact c.c0
  ·rw [qS,qZ (by omega)];exact c.c1
  ·rw [qS,xd rfl,xd (by omega)]
  intro j n p q;rw [qS,qZ (by omega)]
 ·show _=_
  rw [zE (by show g≠B;exact h.symm)];exact a.row
 refine⟨a.os,a.tape,a.output,by simp [a.size],fun k r f=>?_⟩;rw [zE (by show k≠B;exact fun e=>f (.inl e))];exact a.block k (fun e=>f (.inr e))
theorem removeG (B o g cap:Nat) (cs:Array Value) (u:TypeId) (zs:List Int) (sp:List Value) (lo hi a b:Nat) (w:World) (H:GB w B o cs u (.slice (qK g 0) zs.length cap) lo hi) (I:Rw w g zs sp) (f:B≠g)
  (R:zs.length<=cap) (m:GV zs lo hi) (S:a<=b) (T:b+(hi - lo)<=zs.length):
  Calls prog 151 #[.pointer (qK B o),qJ a,qJ b] w fun x w'=>x= .returned (.tuple #[])∧GPost w w' B o g cs u (.slice (qK g 0) zs.length cap) a ((b+(hi - lo):Nat):Int) (glay ((gtext zs lo hi).take a++(gtext zs lo hi).drop b) a zs.length) sp:=by
 have L:=m.a;have M:=m.b;have X:=m.c;have N:(gtext zs lo hi).length=zs.length - (hi - lo):=zO L M;have A:=H.sz;have i:=qG (zF5 B o g cap cs u zs sp lo hi a w H I f R m (by omega));have r:=qG (glay_cut (xs:=gtext zs lo hi) (p:=a) (q:=b) (n:=zs.length) S (by omega) (by omega));have C:(glay (gtext zs lo hi) a zs.length).length=zs.length:=zg (by omega) (by omega);have D:a+(zs.length - (gtext zs lo hi).length)=a+(hi - lo):=by omega
 rw [D]at r;generalize gtext zs lo hi=tx at *
 generalize glay tx a zs.length=gl at *
 have s:=qG (show splice gl (a+(hi - lo)) (List.replicate (b - a) 0)=glay (tx.take a++tx.drop b) a zs.length from r);generalize glay (tx.take a++tx.drop b) a zs.length=aa at *
 generalize P:zs.length=n at *
 obtain⟨c,J⟩:∃c,c=a+(hi - lo):=⟨_,rfl⟩
 obtain⟨F,K⟩:∃F,F=b+(hi - lo):=⟨_,rfl⟩
 rw [<- J]at i s;rw [<- K];have E:F=c+(b - a):=by omega
 have Y:F<=n:=by omega
 have Z:(c:Int)+(b:Int) - (a:Int)=F:=by omega
 have l:=qG C;have LS:=qG (show(List.replicate (b - a) (0:Int)).length=b - a by simp);have i3:b<=n:=by omega
 have i4:b<=65536:=by omega
 have i5:c<=65536:=by omega
 clear N D r K J T P I C;have i1:c<=F:=by omega
 have i2:F<=cap:=by omega
 have G:=qG E;clear E;by_cases O:cap=c
 ·obtain rfl:c=F:=by omega
  obtain rfl:a=b:=(by have:=G;omega);subst O;go_enter func151,ntmps151;go_wp2_with fail;refine i.mono ?_;rintro x w1 ⟨rfl,h⟩;have d:=qG h;obtain⟨v,y,z⟩:=h.gb.gc;clear h i;go_wp2_with fail;go_still_tail 10,mixed;refine zo rfl (.tmp 27) 25 rfl 21 underlying25 (.int .i32 0) Yf rfl rfl (qK g 0) 0 0 rfl g cap _ 21 (by exact d.rw) (fun Q=>absurd Q (by omega)) (by rw [qM,zC,l.out];omega) ?_;intro k e;rw [js]at e;have t:=qG (Row1.to (Row1.qf e) (zM (by rw [qQ,l.out];omega)));obtain⟨v,y,z⟩:=(d.gb.block (w':=k) (e.block B f)).gc;obtain⟨U,V,W⟩:=(d.gb.block (w':=k) (e.block B f)).gf;clear e;go_wp2;go_end0;refine⟨rfl,d.trans A ?_⟩;have j:=s;rw [vG]at j;rw [<- j];exact KD d.gb f t _
 go_enter func151,ntmps151;go_wp2_with fail;refine i.mono ?_;rintro x w1 ⟨rfl,h⟩;have d:=qG h;obtain⟨v,y,z⟩:=h.gb.gc;clear h i;go_wp2_with fail;go_still_tail 10,mixed;refine zo rfl (.tmp 27) 25 rfl 21 underlying25 (.int .i32 0) Yf rfl rfl (qK g c) (F - c) (cap - c) rfl g c _ 21 (by exact d.rw) (fun _=>rfl) (by rw [qM,zC,l.out];omega) ?_;intro k e;rw [js]at e;have t:=qG (Row1.to (Row1.qf e) (zM (by rw [qQ,l.out];omega)));obtain⟨v,y,z⟩:=(d.gb.block (w':=k) (e.block B f)).gc;obtain⟨U,V,W⟩:=(d.gb.block (w':=k) (e.block B f)).gf;clear e;go_wp2;go_end0;refine⟨rfl,d.trans A ?_⟩;have j:=s;rw [show b - a=F - c by have:=G.out;omega]at j;rw [<- j];exact KD d.gb f t _
theorem ZE {P:Program} {w:World} {c:Array Oper} {f:List Oper} {o:Oper} {a:Act} {Q:Exit->Act->World->Prop} (k:o.guard=none) (d:Operand) (b:TypeId)
  (l:o.op= .call {callee:=.builtin .clear,args:=#[d],argTypes:=#[b]}) (e:TypeId) (m:P.underlying b=some (.slice e)) (g:Option Addr) (h:Nat) (n:a.eval d= .slice g 0 h)
  (p:wpList P c Q f (a.put o.dst (.tuple #[])) w):wpList P c Q (o::f) a w:=by
 refine wpList_plain k fun q j=>?_
 have i:=jI (P:=P) w b e o.type m g h;unfold Oper.wp;simp [execOp,l,resolve,invoke,builtin,n,i,Result.andThen];exact j _ _ p
structure Alk (w w':World):Prop where
 heap:w'.heap=w.heap
 os:w'.os=w.os
 tape:w'.tape=w.tape
 output:w'.output=w.output
theorem XH {P:Program} {w:World} {g:Array Oper} {h:List Oper} {o:Oper} {a:Act} {Q:Exit->Act->World->Prop} (n:o.guard=none) (d s:Operand) (b i:TypeId)
  (p:o.op= .call {callee:=.builtin .copy,args:=#[d,s],argTypes:=#[b,i]}) (c:TypeId) (q:P.underlying b=some (.slice c)) (r:(P.info? c).map (·.size)=some 1)
  (j sp:Option Addr) (e k f l:Nat) (t:a.eval d= .slice j e k) (u:a.eval s= .slice sp f l) (v:Nat.min f e=0) (m:World) (x:Alk m w)
  (y:∀w',Hid (Alk m w')->wpList P g Q h (a.put o.dst (goInt 0)) w'):wpList P g Q (o::h) a w:=
 wpList_copy_nothing n d s b i p c q r j sp e k f l t u v (y w (qG x))
structure GNilPost (w w':World) (B o:Nat) (cs:Array Value) (a:TypeId):Prop where
 gb:GB w' B o cs a (.slice none 0 0) 0 0
 chg:ChgP w w' (fun k=>k=B)
theorem gnil_set {w w1:World} {B o:Nat} {cs:Array Value} {b:TypeId} (a:GB w B o cs b (.slice none 0 0) 0 0) (c:w1.heap=w.heap) (p:w1.os=w.os) (ht:w1.tape=w.tape) (q:w1.output=w.output):
  GNilPost w ((w1.setCell ⟨B,o+1,none⟩ (qJ 0)).setCell ⟨B,o+2,none⟩ (qJ 0)) B o cs b:=by
 have h:w1.heap[B]? =some (.cells cs b (0,0)):=by rw [c];exact a.blk
 have i:=xD w1 B (o+1) _ _ (qJ 0) h;have d:=xD _ B (o+2) _ _ (qJ 0) i;have f:=a.sz
 have e:(cs.setIfInBounds (o+1) (qJ 0)).setIfInBounds (o+2) (qJ 0)=cs:=by
  rw [<- a.self];apply yM (by simp [zm]) a.sz
  ·rw [qS,qS,qZ (by omega),qZ (by omega),zu _ _ _ _ _ _ f];simp
  ·rw [qS,qS,qZ (by omega),xd rfl,xd (by rw [zm];omega)]
  ·rw [qS,xd rfl,xd (by simp [zm];omega)]
  intro j l m n;rw [qS,qS,qZ (by omega),qZ (by omega),zu _ _ _ _ _ _ f];simp [l,m,n]
 rw [e]at d;refine⟨⟨d,a.sz,a.c0,a.c1,a.c2⟩,p,ht,q,by simp [c],fun k r g=>?_⟩;rw [zE (by show k≠B;exact g),zE (by show k≠B;exact g),c]
theorem zGj {w w1:World} {B o:Nat} {cs:Array Value} {c:TypeId} (a:GB w B o cs c (.slice none 0 0) 0 0) (d:w1.heap=w.heap) (n:w1.os=w.os) (ht:w1.tape=w.tape) (p:w1.output=w.output):
  GNilPost w (w1.setCell ⟨B,o+2,none⟩ (qJ 0)) B o cs c:=by
 have g:w1.heap[B]? =some (.cells cs c (0,0)):=by rw [d];exact a.blk
 have f:=xD w1 B (o+2) _ _ (qJ 0) g;have b:=a.sz
 have e:cs.setIfInBounds (o+2) (qJ 0)=cs:=by
  rw [<- a.self];apply yM (by simp [zm]) a.sz
  ·rw [qS,qZ (by omega),zu _ _ _ _ _ _ b];simp
  ·rw [qS,qZ (by omega),zu _ _ _ _ _ _ b];simp
  ·rw [qS,xd rfl,xd (by rw [zm];omega)]
  intro j h i l;rw [qS,qZ (by omega),zu _ _ _ _ _ _ b];simp [h,i,l]
 rw [e]at f;refine⟨⟨f,a.sz,a.c0,a.c1,a.c2⟩,n,ht,p,by simp [d],fun k q m=>?_⟩;rw [zE (by show k≠B;exact m),d]
theorem GNilPost.trans {w w1 b:World} {B o:Nat} {cs:Array Value} {a:TypeId} (c:GNilPost w w1 B o cs a) (k:GNilPost w1 b B o cs a):GNilPost w b B o cs a:=
 ⟨k.gb,c.chg.trans k.chg (fun _ _ s=>s) (fun _ _ s=>s)⟩
theorem Kv (B o:Nat) (cs:Array Value) (j:TypeId) (w:World) (c:GB w B o cs j (.slice none 0 0) 0 0):
  Calls prog 157 #[.pointer (qK B o),qJ 0] w fun x w'=>x= .returned (.tuple #[])∧GNilPost w w' B o cs j:=by
 have h:=qG (gapN B o (.slice none 0 0) 0 0 w c.gc (by omega) (by omega) (by omega));have d:=qG c.gf;have e:=qG c;obtain⟨p,q,r⟩:=c.gc;clear c;go_enter func157,ntmps157;go_wp2_with fail;refine h.mono ?_;rintro x i ⟨rfl,a,rfl⟩;have f:=qG (show(w.drewN a).heap=w.heap from rfl);have k:=qG (show(w.drewN a).os=w.os from rfl);have l:=qG (show(w.drewN a).tape=w.tape from rfl);have m:=qG (show(w.drewN a).output=w.output from rfl);obtain⟨s,t,u⟩:=e.gc.same (w':=w.drewN a) rfl;obtain⟨v,y,z⟩:=d.same (w':=w.drewN a) rfl;have n:=qG d;clear p q r h d;generalize w.drewN a=i at *
 go_wp2_with fail;go_still_tail 20,mixed;refine XH rfl (.tmp 57) (.tmp 67) 25 25 rfl 21 underlying25 zh none none 0 0 0 0 rfl rfl rfl i ⟨rfl,rfl,rfl,rfl⟩ ?_;intro g b;obtain⟨s,t,u⟩:=e.gc.same (w':=g) (b.heap.trans f);obtain⟨v,y,z⟩:=n.same (w':=g) (by rw [b.out.heap.trans f.out]);go_wp2_with fail;go_still_tail 12,mixed;refine ZE rfl (.tmp 80) 25 rfl 21 underlying25 none 0 rfl ?_;go_wp2;go_end0;exact⟨rfl,gnil_set (w1:=g.drew) e (b.heap.trans f) (b.os.trans k) (b.tape.trans l) (b.output.trans m)⟩
theorem zGk (B o:Nat) (cs:Array Value) (b:TypeId) (w:World) (e:GB w B o cs b (.slice none 0 0) 0 0):
  Calls prog 151 #[.pointer (qK B o),qJ 0,qJ 0] w fun x w'=>x= .returned (.tuple #[])∧GNilPost w w' B o cs b:=by
 have c:=qG (Kv B o cs b w e);clear e;go_enter func151,ntmps151;go_wp2_with fail;refine c.mono ?_;rintro x w1 ⟨rfl,a⟩;have d:=qG a;obtain⟨f,g,h⟩:=a.gb.gc;obtain⟨i,j,k⟩:=a.gb.gf;clear a c;go_wp2_with fail;go_still_tail 10,mixed;refine ZE rfl (.tmp 27) 25 rfl 21 underlying25 none 0 rfl ?_;go_wp2;go_end0;exact⟨rfl,d.trans (zGj (w1:=w1.drew) d.gb rfl rfl rfl rfl)⟩
theorem Rw.qd {w:World} {base g n cap:Nat} {zs:List Int} (c:w.ownsRow base 21 1 (.slice (qK g 0) n cap) n (ints .i32 zs)):base<=g∧n<=cap∧cap<=maxLen∧∃sp,Rw w g zs sp∧sp.length=cap - n:=by
 have k:zs.length=n:=by have:=c.1;simpa [ints]using this
 rcases c.2 with ⟨a,l⟩ | ⟨g',m,b,a,d,e,f,h,i,j⟩
 ·cases a
 simp only [xB,xz,vY,kS,kt]at a;obtain⟨rfl,rfl⟩:=a;refine⟨d,f,h,b.toList.drop n,?_,by simp [i]⟩
 show _=_
 rw [e]
 congr 2
 have:b.toList=ints .i32 zs++b.toList.drop n:=by
  rw [<- j,vP,xw]
 exact Array.toList_inj.1 (by simpa using this)
theorem KE {w:World} {base g n cap:Nat} {zs:List Int} {sp:List Value} (b:Rw w g zs sp) (a:zs.length=n) (c:base<=g) (d:n<=cap) (e:cap<=maxLen) (f:sp.length=cap - n):w.ownsRow base 21 1 (.slice (qK g 0) n cap) n (ints .i32 zs):=by
 refine⟨by simp [ints,a],.inr ⟨g,cap,(ints .i32 zs++sp).toArray,rfl,c,b,d,e,by simp [ints,a,f];omega,?_⟩⟩;rw [vP,<- a,<- zC .i32 zs];simp
theorem Jz (B o:Nat) (ao:Option Addr) (a cap:Nat) (lo hi n:Nat) (w:World) (b:GC w B o (.slice ao a cap) lo hi) (f:lo<=hi) (g:hi<=a) (h:a<=1048576) (i:n<=hi - lo):
  Calls prog 156 #[.pointer (qK B o),qJ n] w fun x w'=>x= .returned (.tuple #[])∧∃m,w'=w.drewN m:=by
 have c:=qG (gapN B o (.slice ao a cap) lo hi w b (by omega) (by omega) (by omega));have e:(n:Int)<=(hi:Int) - (lo:Int):=by omega
 clear b;go_enter func156,ntmps156;go_wp2_with fail;refine c.mono ?_;rintro x j ⟨rfl,d,rfl⟩;go_wp2;refine xr (v:=.tuple #[]) (by simp [results,results156,go_sem]) rfl ⟨rfl,d,rfl⟩
theorem Xa {w:World} {g n:Nat} {base:Nat} (a:w.ownsRow base 21 1 (.slice (qK g 0) n n) n (ints .i32 (List.replicate n 0))):Rw w g (List.replicate n 0) []:=by
 obtain⟨_,_,_,sp,b,c⟩:=Rw.qd a;have:sp= []:=qW (by omega);subst this;exact b
structure ZL (w w':World) (B o:Nat) (cs:Array Value) (a:TypeId) (lo hi R:Nat) (zs:List Int) (g:Nat):Prop where
 ge:w.heap.size<=g
 gb:GB w' B o (set3 cs o (.slice (qK g 0) R R) (qJ lo) (qJ hi)) a (.slice (qK g 0) R R) lo hi
 rw:Rw w' g zs []
 chg:ChgP w w' (fun k=>k=B)
theorem JK {w w1 d:World} {B o g:Nat} {cs:Array Value} {e:TypeId} {v:Value} {lo hi m:Int} {zs n:List Int} {R:Nat} (b:GB w B o cs e v lo hi) (c:ChgP w w1 (fun _=>False)) (z:w.heap.size<=g) (D:Rw w1 g zs []) (a:Row1 (w1.setCell ⟨B,o+2,none⟩ (qJ m)) d g (ints .i32 n++ []) 21) (p hi':Nat) (h:lo=p) (i:m=hi'):
  ZL w (d.setCell ⟨B,o,none⟩ (.slice (qK g 0) R R)) B o cs e p hi' R n g:=by
 subst h;subst i;have q:=b.lt;have f:B≠g:=by omega
 have A:=b.sz;have r:w1.heap[B]? =some (.cells cs e (0,0)):=(c.block B q (fun x=>x)).trans b.blk;have s:=xD w1 B (o+2) _ _ (qJ (hi':Int)) r;have t:d.heap[B]? =_:=(a.block B f).trans s;have u:=xD d B o _ _ (.slice (qK g 0) R R) t;refine⟨z,GB.qp ?_ b.sz,?_,?_⟩
 ·rw [u]
  congr 2
  apply yM (by simp) b.sz
  ·rw [qS,xd rfl,xd (by simp;omega)]
  ·rw [qS,qS,qZ (by omega),qZ (by omega)];exact b.c1
  ·rw [qS,qS,qZ (by omega),xd rfl,xd (by omega)]
  intro j C h i;rw [qS,qS,qZ (by omega),qZ (by omega)]
 ·show _=_
  rw [zE (by show g≠B;exact f.symm)];exact a.row
 refine⟨by simpa [World.setCell]using a.os.trans c.os,by simpa [World.setCell]using a.tape.trans c.tape,by simpa [World.setCell]using a.output.trans c.output,?_,fun k y l=>?_⟩
 ·simp only [World.size_setCell,a.size]
  exact c.size
 rw [zE (by show k≠B;exact l),a.block k (by omega),zE (by show k≠B;exact l)];exact c.block k y (fun x=>x)
theorem zDv (B o g cap b:Nat) (cs:Array Value) (ag:TypeId) (zs:List Int) (lo hi n N L v R d:Nat) (w:World) (f:GB w B o cs ag (.slice (qK g 0) b cap) lo hi) (ah:Cl w g zs) (bn:g<w.heap.size) (bo:b<=cap) (O:zs.length=b)
  (bp:lo<=hi) (bq:hi<=b) (br:b<=65536) (bs:hi - lo<n) (bt:(b:Int) - ((hi:Int) - (lo:Int))=L) (bu:v=L+n) (bv:v<=8192) (bw:max (b:Int) 16=N) (P:Dbl v N R) (a0:(R:Int) - ((b - hi:Nat):Int)=d) (bx:hi<b) (a1:g≠B):
  Calls prog 156 #[.pointer (qK B o),qJ n] w fun x w'=>x= .returned (.tuple #[])∧∃g',ZL w w' B o cs ag lo d R (splice (splice (List.replicate R 0) 0 (zs.take lo)) d (zs.drop hi)) g':=by
 obtain⟨a2,hi',a3,a4,a5⟩:=vc Tryz.qw;have Q:=qG (gapN B o (.slice (qK g 0) b cap) lo hi w f.gc (by omega) (by omega) (by omega));have S:=qG (fun w f=>Za B o (qK g 0) b cap lo hi w f (by omega) (by omega) (by omega) (by omega));have T:=qG f;have aj:=qG f.gc;have U:=qG O;have V:=qG P;have a7:=jZ P;have a8:((hi:Int) - (lo:Int))<(n:Int):=by omega
 have a9:b<=R:=by omega
 have ba:R<=65536:=by omega
 have A:=qG (show(zs.take lo).length=lo by rw [qN];omega);have D:=qG (show(zs.drop hi).length=b - hi by rw [qR,O]);obtain⟨j,m,q⟩:=f.gc;obtain⟨l,r,t⟩:=f.gf;have ak:=qG ah;have bc:¬cap=hi:=by omega
 have bd:¬R=d:=by omega
 have be:d<=R:=by omega
 have i1:lo<=cap:=by omega
 have al:=a0;clear ah;clear O P f al;go_enter func156,ntmps156;go_wp2_with fail;refine Q.mono ?_;rintro x bz ⟨rfl,a6,rfl⟩;go_wp2_with fail;go_loopw [4] (fun M wr=>∃c k:Nat,M=qJ c∧Dbl v c R∧16<=c∧c<=65536∧wr=w.drewN k) (fun M _=>v - (intOf M).toNat)
 case atStart=>exact⟨N,a6,rfl,V,by omega,by omega,rfl⟩
 obtain⟨c,k,rfl,ai,b0,b1,rfl⟩:=hrel;have J:=qG ai;clear ai;go_wp2_with fail;refine(S (w.drewN k) (aj.same rfl)).mono ?_;rintro x w1 ⟨rfl,z,rfl⟩;by_cases bl:c<v
 ·have bf:(c:Int) - (L:Int)<(n:Int):=by omega
  have am:=qG (show Dbl v (c*2) R from by
   cases J with
   | stop _ f=>omega
   | more _ _ f k=>exact k)
  have bg:c*2<=65536:=(by omega);go_wp2;go_roundw
  case rel=>exact⟨c*2,k+z,by go_num,am,by omega,by omega,rfl⟩
  simp [intOf];omega
 have bh:¬ (c:Int) - (L:Int)<(n:Int):=by omega
 obtain rfl:c=R:=by
  cases J with
  | stop _ f=>rfl
  | more _ _ f k=>omega
 have W:=qG (show ChgP w ((w.drewN k).drewN z) (fun _=>False)from⟨rfl,rfl,rfl,lR,fun _ _ _=>rfl⟩);have C:=qG (T.block (w':=(w.drewN k).drewN z) rfl);have an:w.heap.size<=((w.drewN k).drewN z).heap.size:=lR;have ao:=qG (show Cl ((w.drewN k).drewN z) g zs from ak);clear j m q l r t Q S V J;obtain⟨j,m,q⟩:=C.gc;obtain⟨l,r,t⟩:=C.gf;generalize (w.drewN k).drewN z=w1 at *
 go_upto_region 5 with (at_make;refine kz _ rfl _ _ 25 rfl w1.heap.size 21 a2 (.int .i32 0) 1 underlying25 hi' a3 a4 .i64 .i64 _ _ c rfl rfl (by omega) (by omega) (by rw [a5];omega) (by unfold maxLen;omega) lR ?_;intro y H u)
 rw [YE]at H;have X:=qG (Xa H);have Y:=qG (show ChgP w y (fun _=>False)from W.trans (show ChgP w1 y (fun _=>False)from⟨u.os,u.tape,u.output,u.size,fun i af _=>u.block i af (by simp)⟩) (fun _ _ s=>s) (fun _ _ s=>s));have ap:w1.heap.size<y.heap.size:=(H.lt _ rfl).2;have aq:=C.lt;have E:=qG (C.block (w':=y) (u.block B aq (by simp)));have Z:=qG (show Cl y g zs from fun i hi=>(qV (a:=⟨g,i,none⟩) (u.block g (by omega) (by simp))).trans (ao i hi));have F:B≠w1.heap.size:=by omega
 clear H u j m q l r t C W;obtain⟨j,m,q⟩:=E.gc;obtain⟨l,r,t⟩:=E.gf;go_still_tail 10,mixed;refine zQ rfl (.tmp 27) (.tmp 36) 25 25 rfl 21 underlying25 zh (qK w1.heap.size 0) (qK g 0) c c lo cap rfl rfl w1.heap.size 0 (ints .i32 (List.replicate c 0)++ []) 21 (by exact X) (ints .i32 (zs.take lo)) (by rw [zC,A.out];show lo=min lo c;omega) (fun _=>⟨rfl,_,rfl,by have:=Z.app' 0 lo (by rw [U.out];omega);rw [vH]at this;exact this⟩) (by rw [zC,A.out,qM,zC,qQ];omega) (zG _ _) ?_;intro e h;have aa:=qG (Row1.to (Row1.qf h) (zM (sp:=[]) (by rw [A.out,qQ];omega)));have G:=qG (E.block (w':=e) (h.block B F));have ab:=qG (show ChgP w e (fun _=>False)from Y.trans (show ChgP y e (fun k=>k=w1.heap.size)from⟨h.os,h.tape,h.output,kM h.size.symm,fun k bm az=>h.block k az⟩) (fun _ _ s=>s) (fun i af s=>by omega));have bi:w1.heap.size<e.heap.size:=by rw [h.out.size];exact ap
 have ar:=qG (show Cl e g zs from fun i hi=>(qV (a:=⟨g,i,none⟩) (h.block g (by omega))).trans (Z i hi));clear h j m q l r t E Y X;obtain⟨j,m,q⟩:=G.gc;obtain⟨l,r,t⟩:=G.gf;go_wp2_with fail;go_quiet (fail);have ac:=qG (show Rw (e.drewN nq) w1.heap.size (splice (List.replicate c 0) 0 (zs.take lo)) []from aa.row);have ad:=qG (G.block (w':=e.drewN nq) rfl);have au:=qG (show ChgP w (e.drewN nq) (fun _=>False)from ab.trans (show ChgP e (e.drewN nq) (fun _=>False)from⟨rfl,rfl,rfl,lR,fun _ _ _=>rfl⟩) (fun _ _ s=>s) (fun _ _ s=>s));have av:=qG (show Cl (e.drewN nq) g zs from ar);clear j m q l r t G ab aa;obtain⟨j,m,q⟩:=ad.gc;obtain⟨l,r,t⟩:=ad.gf;generalize e.drewN nq=K at *
 have aw:=qG (show Cl (K.setCell ⟨B,o+2,none⟩ (qJ d)) g zs from fun i hi=>(qV (a:=⟨g,i,none⟩) (zE (by show g≠B;exact a1))).trans (av i hi));have ax:=qG (show Rw (K.setCell ⟨B,o+2,none⟩ (qJ d)) w1.heap.size (splice (List.replicate c 0) 0 (zs.take lo)) []from(zE (by show w1.heap.size≠B;exact F.symm)).trans ac);go_upto_region 8 with fail;go_upto_region 9 with (refine zQ rfl (.tmp 59) (.tmp 60) 25 25 rfl 21 underlying25 zh (qK w1.heap.size d) (qK g hi) (c - d) (c - d) (b - hi) (cap - hi) rfl rfl w1.heap.size d (ints .i32 (splice (List.replicate c 0) 0 (zs.take lo))++ []) 21 (by exact ax) (ints .i32 (zs.drop hi)) (by rw [zC,D.out];show b - hi=min (b - hi) (c - d);omega) (fun _=>⟨rfl,_,rfl,by have:=aw.app' hi (b - hi) (by rw [U.out];omega);rw [xu (by rw [D.out];exact lR)]at this;exact this⟩) (by rw [zC,D.out,qM,zC,length_splice _ _ _ (by rw [A.out,qQ];omega),qQ];omega) (zG _ _) ?_;intro ae I)
 have ay:=qG (Row1.to I (zM (sp:=[]) (by rw [D.out,length_splice _ _ _ (by rw [A.out,qQ];omega),qQ];omega)));have bj:ae.cell? ⟨B,o,none⟩=some (.slice (qK g 0) b cap):=(qV (a:=⟨B,o,none⟩) (I.block B F)).trans ((kl K ⟨B,o+2,none⟩ ⟨B,o,none⟩ (qJ d) (by simp)).trans j);have bk:ae.frozen? ⟨B,o,none⟩=false:=(zN (p:=⟨B,o,none⟩) (I.block B F)).trans (by simpa using l);clear I j m q l r t;go_wp2;go_end0;exact⟨rfl,w1.heap.size,JK T au an ac ay lo d rfl rfl⟩
theorem zDw (B o g cap b:Nat) (cs:Array Value) (af:TypeId) (zs:List Int) (lo hi n N L u R I:Nat) (w:World) (e:GB w B o cs af (.slice (qK g 0) b cap) lo hi) (ag:Cl w g zs) (bl:g<w.heap.size) (bm:b<=cap) (O:zs.length=b)
  (bn:lo<=hi) (bo:hi<=b) (bp:b<=65536) (bq:hi - lo<n) (br:(b:Int) - ((hi:Int) - (lo:Int))=L) (bs:u=L+n) (bt:u<=8192) (bu:max (b:Int) 16=N) (P:Dbl u N R) (a0:(R:Int) - ((b - hi:Nat):Int)=I) (bv:hi=b) (bw:cap=b) (a1:g≠B):
  Calls prog 156 #[.pointer (qK B o),qJ n] w fun x w'=>x= .returned (.tuple #[])∧∃g',ZL w w' B o cs af lo I R (splice (splice (List.replicate R 0) 0 (zs.take lo)) I (zs.drop hi)) g':=by
 obtain rfl:b=hi:=by omega
 obtain rfl:b=cap:=by omega
 obtain rfl:R=I:=by omega
 obtain⟨a2,hi',a3,a4,a5⟩:=vc Tryz.qw;have Q:=qG (gapN B o (.slice (qK g 0) b b) lo b w e.gc (by omega) (by omega) (by omega));have S:=qG (fun w e=>Za B o (qK g 0) b b lo b w e (by omega) (by omega) (by omega) (by omega));have T:=qG e;have ai:=qG e.gc;have aj:=qG O;have U:=qG P;have a7:=jZ P;have a8:((b:Int) - (lo:Int))<(n:Int):=by omega
 have a9:b<=R:=by omega
 have ba:R<=65536:=by omega
 have z:=qG (show(zs.take lo).length=lo by rw [qN];omega);have C:=qG (show(zs.drop b).length=b - b by rw [qR,O]);obtain⟨h,l,m⟩:=e.gc;obtain⟨j,q,r⟩:=e.gf;have ak:=qG ag;have i1:lo<=b:=by omega
 have al:=a0;clear ag;clear O P e al;go_enter func156,ntmps156;go_wp2_with fail;refine Q.mono ?_;rintro x bx ⟨rfl,a6,rfl⟩;go_wp2_with fail;go_loopw [4] (fun M wr=>∃c k:Nat,M=qJ c∧Dbl u c R∧16<=c∧c<=65536∧wr=w.drewN k) (fun M _=>u - (intOf M).toNat)
 case atStart=>exact⟨N,a6,rfl,U,by omega,by omega,rfl⟩
 obtain⟨c,k,rfl,ah,bz,b0,rfl⟩:=hrel;have J:=qG ah;clear ah;go_wp2_with fail;refine(S (w.drewN k) (ai.same rfl)).mono ?_;rintro x w1 ⟨rfl,y,rfl⟩;by_cases bj:c<u
 ·have bc:(c:Int) - (L:Int)<(n:Int):=by omega
  have am:=qG (show Dbl u (c*2) R from by
   cases J with
   | stop _ e=>omega
   | more _ _ e k=>exact k)
  have bd:c*2<=65536:=(by omega);go_wp2;go_roundw
  case rel=>exact⟨c*2,k+y,by go_num,am,by omega,by omega,rfl⟩
  simp [intOf];omega
 have be:¬ (c:Int) - (L:Int)<(n:Int):=by omega
 obtain rfl:c=R:=by
  cases J with
  | stop _ e=>rfl
  | more _ _ e k=>omega
 have V:=qG (show ChgP w ((w.drewN k).drewN y) (fun _=>False)from⟨rfl,rfl,rfl,lR,fun _ _ _=>rfl⟩);have A:=qG (T.block (w':=(w.drewN k).drewN y) rfl);have an:w.heap.size<=((w.drewN k).drewN y).heap.size:=lR;have ao:=qG (show Cl ((w.drewN k).drewN y) g zs from ak);clear h l m j q r Q S U J;obtain⟨h,l,m⟩:=A.gc;obtain⟨j,q,r⟩:=A.gf;generalize (w.drewN k).drewN y=w1 at *
 go_upto_region 5 with (at_make;refine kz _ rfl _ _ 25 rfl w1.heap.size 21 a2 (.int .i32 0) 1 underlying25 hi' a3 a4 .i64 .i64 _ _ c rfl rfl (by omega) (by omega) (by rw [a5];omega) (by unfold maxLen;omega) lR ?_;intro v G t)
 rw [YE]at G;have W:=qG (Xa G);have X:=qG (show ChgP w v (fun _=>False)from V.trans (show ChgP w1 v (fun _=>False)from⟨t.os,t.tape,t.output,t.size,fun i ae _=>t.block i ae (by simp)⟩) (fun _ _ s=>s) (fun _ _ s=>s));have ap:w1.heap.size<v.heap.size:=(G.lt _ rfl).2;have aq:=A.lt;have D:=qG (A.block (w':=v) (t.block B aq (by simp)));have Y:=qG (show Cl v g zs from fun i b=>(qV (a:=⟨g,i,none⟩) (t.block g (by omega) (by simp))).trans (ao i b));have E:B≠w1.heap.size:=by omega
 clear G t h l m j q r A V;obtain⟨h,l,m⟩:=D.gc;obtain⟨j,q,r⟩:=D.gf;go_still_tail 10,mixed;refine zQ rfl (.tmp 27) (.tmp 36) 25 25 rfl 21 underlying25 zh (qK w1.heap.size 0) (qK g 0) c c lo b rfl rfl w1.heap.size 0 (ints .i32 (List.replicate c 0)++ []) 21 (by exact W) (ints .i32 (zs.take lo)) (by rw [zC,z.out];show lo=min lo c;omega) (fun _=>⟨rfl,_,rfl,by have:=Y.app' 0 lo (by rw [aj.out];omega);rw [vH]at this;exact this⟩) (by rw [zC,z.out,qM,zC,qQ];omega) (zG _ _) ?_;intro d f;have Z:=qG (Row1.to (Row1.qf f) (zM (sp:=[]) (by rw [z.out,qQ];omega)));have F:=qG (D.block (w':=d) (f.block B E));have aa:=qG (show ChgP w d (fun _=>False)from X.trans (show ChgP v d (fun k=>k=w1.heap.size)from⟨f.os,f.tape,f.output,kM f.size.symm,fun k bk ay=>f.block k ay⟩) (fun _ _ s=>s) (fun i ae s=>by omega));have bf:w1.heap.size<d.heap.size:=by rw [f.out.size];exact ap
 have ar:=qG (show Cl d g zs from fun i b=>(qV (a:=⟨g,i,none⟩) (f.block g (by omega))).trans (Y i b));clear f h l m j q r D X W;obtain⟨h,l,m⟩:=F.gc;obtain⟨j,q,r⟩:=F.gf;go_wp2_with fail;go_quiet (fail);have ab:=qG (show Rw (d.drewN nq) w1.heap.size (splice (List.replicate c 0) 0 (zs.take lo)) []from Z.row);have ac:=qG (F.block (w':=d.drewN nq) rfl);have au:=qG (show ChgP w (d.drewN nq) (fun _=>False)from aa.trans (show ChgP d (d.drewN nq) (fun _=>False)from⟨rfl,rfl,rfl,lR,fun _ _ _=>rfl⟩) (fun _ _ s=>s) (fun _ _ s=>s));have av:=qG (show Cl (d.drewN nq) g zs from ar);clear h l m j q r F aa Z;obtain⟨h,l,m⟩:=ac.gc;obtain⟨j,q,r⟩:=ac.gf;generalize d.drewN nq=K at *
 have bg:=qG (show Cl (K.setCell ⟨B,o+2,none⟩ (qJ c)) g zs from fun i b=>(qV (a:=⟨g,i,none⟩) (zE (by show g≠B;exact a1))).trans (av i b));have aw:=qG (show Rw (K.setCell ⟨B,o+2,none⟩ (qJ c)) w1.heap.size (splice (List.replicate c 0) 0 (zs.take lo)) []from(zE (by show w1.heap.size≠B;exact E.symm)).trans ab);go_upto_region 8 with fail;go_upto_region 9 with (refine zQ rfl (.tmp 59) (.tmp 60) 25 25 rfl 21 underlying25 zh (qK w1.heap.size 0) (qK g 0) 0 0 0 0 rfl rfl w1.heap.size c (ints .i32 (splice (List.replicate c 0) 0 (zs.take lo))++ []) 21 (by exact aw) (ints .i32 (zs.drop b)) (by rw [zC,C.out,vG];rfl) (fun az=>absurd az (by rw [zC,C.out,vG];omega)) (by rw [zC,C.out,qM,zC,length_splice _ _ _ (by rw [z.out,qQ];omega),qQ];omega) (zG _ _) ?_;intro ad H)
 have ax:=qG (Row1.to H (zM (sp:=[]) (by rw [C.out,length_splice _ _ _ (by rw [z.out,qQ];omega),qQ];omega)));have bh:ad.cell? ⟨B,o,none⟩=some (.slice (qK g 0) b b):=(qV (a:=⟨B,o,none⟩) (H.block B E)).trans ((kl K ⟨B,o+2,none⟩ ⟨B,o,none⟩ (qJ c) (by simp)).trans h);have bi:ad.frozen? ⟨B,o,none⟩=false:=(zN (p:=⟨B,o,none⟩) (H.block B E)).trans (by simpa using j);clear H h l m j q r;go_wp2;go_end0;exact⟨rfl,w1.heap.size,JK T au an ab ax lo c rfl rfl⟩
theorem zDx (B o g cap b:Nat) (cs:Array Value) (af:TypeId) (zs:List Int) (lo hi n N L u R I:Nat) (w:World) (e:GB w B o cs af (.slice (qK g 0) b cap) lo hi) (ag:Cl w g zs) (bl:g<w.heap.size) (bm:b<=cap) (O:zs.length=b)
  (bn:lo<=hi) (bo:hi<=b) (bp:b<=65536) (bq:hi - lo<n) (br:(b:Int) - ((hi:Int) - (lo:Int))=L) (bs:u=L+n) (bt:u<=8192) (bu:max (b:Int) 16=N) (P:Dbl u N R) (a0:(R:Int) - ((b - hi:Nat):Int)=I) (bv:hi=b) (bw:¬cap=b) (a1:g≠B):
  Calls prog 156 #[.pointer (qK B o),qJ n] w fun x w'=>x= .returned (.tuple #[])∧∃g',ZL w w' B o cs af lo I R (splice (splice (List.replicate R 0) 0 (zs.take lo)) I (zs.drop hi)) g':=by
 obtain rfl:b=hi:=by omega
 obtain rfl:R=I:=by omega
 obtain⟨a2,hi',a3,a4,a5⟩:=vc Tryz.qw;have Q:=qG (gapN B o (.slice (qK g 0) b cap) lo b w e.gc (by omega) (by omega) (by omega));have S:=qG (fun w e=>Za B o (qK g 0) b cap lo b w e (by omega) (by omega) (by omega) (by omega));have T:=qG e;have ai:=qG e.gc;have aj:=qG O;have U:=qG P;have a7:=jZ P;have a8:((b:Int) - (lo:Int))<(n:Int):=by omega
 have a9:b<=R:=by omega
 have ba:R<=65536:=by omega
 have z:=qG (show(zs.take lo).length=lo by rw [qN];omega);have C:=qG (show(zs.drop b).length=b - b by rw [qR,O]);obtain⟨h,l,m⟩:=e.gc;obtain⟨j,q,r⟩:=e.gf;have ak:=qG ag;have i1:lo<=cap:=by omega
 have al:=a0;clear ag;clear O P e al;go_enter func156,ntmps156;go_wp2_with fail;refine Q.mono ?_;rintro x bx ⟨rfl,a6,rfl⟩;go_wp2_with fail;go_loopw [4] (fun M wr=>∃c k:Nat,M=qJ c∧Dbl u c R∧16<=c∧c<=65536∧wr=w.drewN k) (fun M _=>u - (intOf M).toNat)
 case atStart=>exact⟨N,a6,rfl,U,by omega,by omega,rfl⟩
 obtain⟨c,k,rfl,ah,bz,b0,rfl⟩:=hrel;have J:=qG ah;clear ah;go_wp2_with fail;refine(S (w.drewN k) (ai.same rfl)).mono ?_;rintro x w1 ⟨rfl,y,rfl⟩;by_cases bj:c<u
 ·have bc:(c:Int) - (L:Int)<(n:Int):=by omega
  have am:=qG (show Dbl u (c*2) R from by
   cases J with
   | stop _ e=>omega
   | more _ _ e k=>exact k)
  have bd:c*2<=65536:=(by omega);go_wp2;go_roundw
  case rel=>exact⟨c*2,k+y,by go_num,am,by omega,by omega,rfl⟩
  simp [intOf];omega
 have be:¬ (c:Int) - (L:Int)<(n:Int):=by omega
 obtain rfl:c=R:=by
  cases J with
  | stop _ e=>rfl
  | more _ _ e k=>omega
 have V:=qG (show ChgP w ((w.drewN k).drewN y) (fun _=>False)from⟨rfl,rfl,rfl,lR,fun _ _ _=>rfl⟩);have A:=qG (T.block (w':=(w.drewN k).drewN y) rfl);have an:w.heap.size<=((w.drewN k).drewN y).heap.size:=lR;have ao:=qG (show Cl ((w.drewN k).drewN y) g zs from ak);clear h l m j q r Q S U J;obtain⟨h,l,m⟩:=A.gc;obtain⟨j,q,r⟩:=A.gf;generalize (w.drewN k).drewN y=w1 at *
 go_upto_region 5 with (at_make;refine kz _ rfl _ _ 25 rfl w1.heap.size 21 a2 (.int .i32 0) 1 underlying25 hi' a3 a4 .i64 .i64 _ _ c rfl rfl (by omega) (by omega) (by rw [a5];omega) (by unfold maxLen;omega) lR ?_;intro v G t)
 rw [YE]at G;have W:=qG (Xa G);have X:=qG (show ChgP w v (fun _=>False)from V.trans (show ChgP w1 v (fun _=>False)from⟨t.os,t.tape,t.output,t.size,fun i ae _=>t.block i ae (by simp)⟩) (fun _ _ s=>s) (fun _ _ s=>s));have ap:w1.heap.size<v.heap.size:=(G.lt _ rfl).2;have aq:=A.lt;have D:=qG (A.block (w':=v) (t.block B aq (by simp)));have Y:=qG (show Cl v g zs from fun i b=>(qV (a:=⟨g,i,none⟩) (t.block g (by omega) (by simp))).trans (ao i b));have E:B≠w1.heap.size:=by omega
 clear G t h l m j q r A V;obtain⟨h,l,m⟩:=D.gc;obtain⟨j,q,r⟩:=D.gf;go_still_tail 10,mixed;refine zQ rfl (.tmp 27) (.tmp 36) 25 25 rfl 21 underlying25 zh (qK w1.heap.size 0) (qK g 0) c c lo cap rfl rfl w1.heap.size 0 (ints .i32 (List.replicate c 0)++ []) 21 (by exact W) (ints .i32 (zs.take lo)) (by rw [zC,z.out];show lo=min lo c;omega) (fun _=>⟨rfl,_,rfl,by have:=Y.app' 0 lo (by rw [aj.out];omega);rw [vH]at this;exact this⟩) (by rw [zC,z.out,qM,zC,qQ];omega) (zG _ _) ?_;intro d f;have Z:=qG (Row1.to (Row1.qf f) (zM (sp:=[]) (by rw [z.out,qQ];omega)));have F:=qG (D.block (w':=d) (f.block B E));have aa:=qG (show ChgP w d (fun _=>False)from X.trans (show ChgP v d (fun k=>k=w1.heap.size)from⟨f.os,f.tape,f.output,kM f.size.symm,fun k bk ay=>f.block k ay⟩) (fun _ _ s=>s) (fun i ae s=>by omega));have bf:w1.heap.size<d.heap.size:=by rw [f.out.size];exact ap
 have ar:=qG (show Cl d g zs from fun i b=>(qV (a:=⟨g,i,none⟩) (f.block g (by omega))).trans (Y i b));clear f h l m j q r D X W;obtain⟨h,l,m⟩:=F.gc;obtain⟨j,q,r⟩:=F.gf;go_wp2_with fail;go_quiet (fail);have ab:=qG (show Rw (d.drewN nq) w1.heap.size (splice (List.replicate c 0) 0 (zs.take lo)) []from Z.row);have ac:=qG (F.block (w':=d.drewN nq) rfl);have au:=qG (show ChgP w (d.drewN nq) (fun _=>False)from aa.trans (show ChgP d (d.drewN nq) (fun _=>False)from⟨rfl,rfl,rfl,lR,fun _ _ _=>rfl⟩) (fun _ _ s=>s) (fun _ _ s=>s));have av:=qG (show Cl (d.drewN nq) g zs from ar);clear h l m j q r F aa Z;obtain⟨h,l,m⟩:=ac.gc;obtain⟨j,q,r⟩:=ac.gf;generalize d.drewN nq=K at *
 have bg:=qG (show Cl (K.setCell ⟨B,o+2,none⟩ (qJ c)) g zs from fun i b=>(qV (a:=⟨g,i,none⟩) (zE (by show g≠B;exact a1))).trans (av i b));have aw:=qG (show Rw (K.setCell ⟨B,o+2,none⟩ (qJ c)) w1.heap.size (splice (List.replicate c 0) 0 (zs.take lo)) []from(zE (by show w1.heap.size≠B;exact E.symm)).trans ab);go_upto_region 8 with fail;go_upto_region 9 with (refine zQ rfl (.tmp 59) (.tmp 60) 25 25 rfl 21 underlying25 zh (qK w1.heap.size 0) (qK g b) 0 0 0 (cap - b) rfl rfl w1.heap.size c (ints .i32 (splice (List.replicate c 0) 0 (zs.take lo))++ []) 21 (by exact aw) (ints .i32 (zs.drop b)) (by rw [zC,C.out,vG];rfl) (fun az=>absurd az (by rw [zC,C.out,vG];omega)) (by rw [zC,C.out,qM,zC,length_splice _ _ _ (by rw [z.out,qQ];omega),qQ];omega) (zG _ _) ?_;intro ad H)
 have ax:=qG (Row1.to H (zM (sp:=[]) (by rw [C.out,length_splice _ _ _ (by rw [z.out,qQ];omega),qQ];omega)));have bh:ad.cell? ⟨B,o,none⟩=some (.slice (qK g 0) b cap):=(qV (a:=⟨B,o,none⟩) (H.block B E)).trans ((kl K ⟨B,o+2,none⟩ ⟨B,o,none⟩ (qJ c) (by simp)).trans h);have bi:ad.frozen? ⟨B,o,none⟩=false:=(zN (p:=⟨B,o,none⟩) (H.block B E)).trans (by simpa using j);clear H h l m j q r;go_wp2;go_end0;exact⟨rfl,w1.heap.size,JK T au an ab ax lo c rfl rfl⟩
theorem zDy (B o q:Nat) (cs:Array Value) (ae:TypeId) (zs:List Int) (lo hi n M L t R H:Nat) (w:World) (b:GB w B o cs ae (.slice none 0 0) lo hi) (N:zs.length=q)
  (bh:lo<=hi) (bi:hi<=q) (bj:q<=65536) (bk:hi - lo<n) (bl:(q:Int) - ((hi:Int) - (lo:Int))=L) (bm:t=L+n) (bn:t<=8192) (bo:max (q:Int) 16=M) (O:Dbl t M R) (aq:(R:Int) - ((q - hi:Nat):Int)=H) (bp:q=0):
  Calls prog 156 #[.pointer (qK B o),qJ n] w fun x w'=>x= .returned (.tuple #[])∧∃g',ZL w w' B o cs ae lo H R (splice (splice (List.replicate R 0) 0 (zs.take lo)) H (zs.drop hi)) g':=by
 obtain rfl:q=0:=by omega
 obtain rfl:hi=0:=by omega
 obtain rfl:lo=0:=by omega
 obtain rfl:L=0:=by omega
 obtain rfl:R=H:=by omega
 obtain rfl:M=16:=by omega
 obtain⟨ar,hi',au,av,aw⟩:=vc Tryz.qw;have P:=qG (gapN B o (.slice none 0 0) 0 0 w b.gc (by omega) (by omega) (by omega));have Q:=qG (fun w b=>Za B o none 0 0 0 0 w b (by omega) (by omega) (by omega) (by omega));have S:=qG b;have ag:=qG b.gc;have ay:=qG N;have T:=qG O;have az:=jZ O;have a0:((0:Int) - (0:Int))<(n:Int):=by omega
 have a1:0<=R:=by omega
 have a2:R<=65536:=by omega
 have u:=qG (show(zs.take 0).length=0 by rw [qN];omega);have A:=qG (show(zs.drop 0).length=0 - 0 by rw [qR,N]);obtain⟨e,h,j⟩:=b.gc;obtain⟨f,l,m⟩:=b.gf;have a3:¬n=0:=by omega
 have a4:¬ (n:Int)<=0:=by omega
 have a5:(0:Int)<(n:Int):=by omega
 have ah:=aq;clear N O b ah;go_enter func156,ntmps156;go_wp2_with fail;refine P.mono ?_;rintro x bq ⟨rfl,ax,rfl⟩;go_wp2_with fail;go_loopw [4] (fun J wr=>∃c k:Nat,J=qJ c∧Dbl t c R∧16<=c∧c<=65536∧wr=w.drewN k) (fun J _=>t - (intOf J).toNat)
 case atStart=>exact⟨16,ax,rfl,T,by omega,by omega,rfl⟩
 obtain⟨c,k,rfl,af,br,bs,rfl⟩:=hrel;have I:=qG af;clear af;go_wp2_with fail;refine(Q (w.drewN k) (ag.same rfl)).mono ?_;rintro x w1 ⟨rfl,z,rfl⟩;by_cases bf:c<t
 ·have a6:(c:Int) - (0:Int)<(n:Int):=by omega
  have a7:(c:Int)<(n:Int):=by omega
  have ai:=qG (show Dbl t (c*2) R from by
   cases I with
   | stop _ b=>omega
   | more _ _ b k=>exact k)
  have a8:c*2<=65536:=(by omega);go_wp2;go_roundw
  case rel=>exact⟨c*2,k+z,by go_num,ai,by omega,by omega,rfl⟩
  simp [intOf];omega
 have a9:¬ (c:Int) - (0:Int)<(n:Int):=by omega
 have ba:¬ (c:Int)<(n:Int):=by omega
 obtain rfl:c=R:=by
  cases I with
  | stop _ b=>rfl
  | more _ _ b k=>omega
 have U:=qG (show ChgP w ((w.drewN k).drewN z) (fun _=>False)from⟨rfl,rfl,rfl,lR,fun _ _ _=>rfl⟩);have v:=qG (S.block (w':=(w.drewN k).drewN z) rfl);have aj:w.heap.size<=((w.drewN k).drewN z).heap.size:=lR;clear e h j f l m P Q T I;obtain⟨e,h,j⟩:=v.gc;obtain⟨f,l,m⟩:=v.gf;generalize (w.drewN k).drewN z=w1 at *
 go_upto_region 5 with (at_make;refine kz _ rfl _ _ 25 rfl w1.heap.size 21 ar (.int .i32 0) 1 underlying25 hi' au av .i64 .i64 _ _ c rfl rfl (by omega) (by omega) (by rw [aw];omega) (by unfold maxLen;omega) lR ?_;intro y F r)
 rw [YE]at F;have V:=qG (Xa F);have W:=qG (show ChgP w y (fun _=>False)from U.trans (show ChgP w1 y (fun _=>False)from⟨r.os,r.tape,r.output,r.size,fun i ad _=>r.block i ad (by simp)⟩) (fun _ _ s=>s) (fun _ _ s=>s));have ak:w1.heap.size<y.heap.size:=(F.lt _ rfl).2;have al:=v.lt;have C:=qG (v.block (w':=y) (r.block B al (by simp)));have D:B≠w1.heap.size:=by omega
 clear F r e h j f l m v U;obtain⟨e,h,j⟩:=C.gc;obtain⟨f,l,m⟩:=C.gf;go_still_tail 10,mixed;refine zQ rfl (.tmp 27) (.tmp 36) 25 25 rfl 21 underlying25 zh (qK w1.heap.size 0) none c c 0 0 rfl rfl w1.heap.size 0 (ints .i32 (List.replicate c 0)++ []) 21 (by exact V) (ints .i32 (zs.take 0)) (by rw [zC,u.out];show 0=min 0 c;omega) (fun K=>absurd K (by rw [zC,u.out];omega)) (by rw [zC,u.out,qM,zC,qQ];omega) (zG _ _) ?_;intro d g;have X:=qG (Row1.to (Row1.qf g) (zM (sp:=[]) (by rw [u.out,qQ];omega)));have E:=qG (C.block (w':=d) (g.block B D));have Y:=qG (show ChgP w d (fun _=>False)from W.trans (show ChgP y d (fun k=>k=w1.heap.size)from⟨g.os,g.tape,g.output,kM g.size.symm,fun k bg ap=>g.block k ap⟩) (fun _ _ s=>s) (fun i ad s=>by omega));have bc:w1.heap.size<d.heap.size:=by rw [g.out.size];exact ak
 clear g e h j f l m C W V;obtain⟨e,h,j⟩:=E.gc;obtain⟨f,l,m⟩:=E.gf;go_wp2_with fail;go_quiet (fail);have Z:=qG (show Rw (d.drewN nq) w1.heap.size (splice (List.replicate c 0) 0 (zs.take 0)) []from X.row);have aa:=qG (E.block (w':=d.drewN nq) rfl);have am:=qG (show ChgP w (d.drewN nq) (fun _=>False)from Y.trans (show ChgP d (d.drewN nq) (fun _=>False)from⟨rfl,rfl,rfl,lR,fun _ _ _=>rfl⟩) (fun _ _ s=>s) (fun _ _ s=>s));clear e h j f l m E Y X;obtain⟨e,h,j⟩:=aa.gc;obtain⟨f,l,m⟩:=aa.gf;generalize d.drewN nq=ac at *
 have an:=qG (show Rw (ac.setCell ⟨B,o+2,none⟩ (qJ c)) w1.heap.size (splice (List.replicate c 0) 0 (zs.take 0)) []from(zE (by show w1.heap.size≠B;exact D.symm)).trans Z);go_upto_region 8 with fail;go_upto_region 9 with (refine zQ rfl (.tmp 59) (.tmp 60) 25 25 rfl 21 underlying25 zh (qK w1.heap.size 0) none 0 0 0 0 rfl rfl w1.heap.size c (ints .i32 (splice (List.replicate c 0) 0 (zs.take 0))++ []) 21 (by exact an) (ints .i32 (zs.drop 0)) (by rw [zC,A.out];rfl) (fun K=>absurd K (by rw [zC,A.out];omega)) (by rw [zC,A.out,qM,zC,length_splice _ _ _ (by rw [u.out,qQ];omega),qQ];omega) (zG _ _) ?_;intro ab G)
 have ao:=qG (Row1.to G (zM (sp:=[]) (by rw [A.out,length_splice _ _ _ (by rw [u.out,qQ];omega),qQ];omega)));have bd:ab.cell? ⟨B,o,none⟩=some (.slice none 0 0):=(qV (a:=⟨B,o,none⟩) (G.block B D)).trans ((kl ac ⟨B,o+2,none⟩ ⟨B,o,none⟩ (qJ c) (by simp)).trans e);have be:ab.frozen? ⟨B,o,none⟩=false:=(zN (p:=⟨B,o,none⟩) (G.block B D)).trans (by simpa using f);clear G e h j f l m;go_wp2;go_end0;exact⟨rfl,w1.heap.size,JK S am aj Z ao 0 c rfl rfl⟩
structure YS (w w1:World) (B o:Nat) (cs:Array Value) (h:TypeId) (tx:List Int) (n b:Nat) (S:Nat->Prop) (a c:Nat) (f:List Int) (g:List Value) (d e:Nat):Prop where
 gb:GB w1 B o (set3 cs o (.slice (qK a 0) b c) (qJ d) (qJ e)) h (.slice (qK a 0) b c) d e
 rw:Rw w1 a f g
 len:f.length=b
 gv:GV f d e
 tx:gtext f d e=tx
 room:n<=e - d
 cap:b<=c∧c<=maxLen∧g.length=c - b
 low:a<w.heap.size->S a
 ne:B≠a
 chg:ChgP w w1 S
structure JM (w w1:World) (B o:Nat) (cs:Array Value) (e:TypeId) (zs:List Int) (c:Nat) (S:Nat->Prop) (lo hi:Nat) (a b:Nat) (d:List Value):Prop where
 gb:GB w1 B o (set3 cs o (.slice (qK a 0) c b) (qJ lo) (qJ hi)) e (.slice (qK a 0) c b) lo hi
 rw:Rw w1 a zs d
 cap:c<=b∧b<=maxLen∧d.length=b - c
 low:a<w.heap.size->S a
 ne:B≠a
 chg:ChgP w w1 S
theorem zGl (B o g cap:Nat) (cs:Array Value) (d:TypeId) (zs:List Int) (sp:List Value) (lo hi n a:Nat) (S:Nat->Prop) (w:World) (c:GB w B o cs d (.slice (qK g 0) zs.length cap) lo hi) (H:Rw w g zs sp) (j:B≠g) (E:g<w.heap.size)
  (l:zs.length<=cap) (O:cap<=maxLen) (P:sp.length=cap - zs.length) (p:GV zs lo hi) (F:(gtext zs lo hi).length+n<=8192) (Q:S g) (R:S B)
  (T:(n<=hi - lo∧a=zs.length)∨(hi - lo<n∧Dbl ((gtext zs lo hi).length+n) (max zs.length 16) a)):
  Calls prog 156 #[.pointer (qK B o),qJ n] w fun x w1=>x= .returned (.tuple #[])∧∃u v y z A C,YS w w1 B o cs d (gtext zs lo hi) n a S u v y z A C:=by
 have f:=p.a;have h:=p.b;have r:=p.c;have U:(gtext zs lo hi).length=zs.length - (hi - lo):=zO f h;have V:=c.lt;rcases T with ⟨i,rfl⟩ | ⟨i,q⟩
 ·refine(Jz B o _ zs.length cap lo hi n w c.gc f h (by omega) i).mono fun x w1 ⟨D,m,L⟩=>⟨D,g,cap,zs,sp,lo,hi,?_⟩
  subst L;exact⟨by rw [c.self];exact c.block rfl,H,rfl,p,rfl,i,⟨l,O,P⟩,fun _=>Q,j,⟨rfl,rfl,rfl,lR,fun _ _ _=>rfl⟩⟩
 have W:=jZ q;have s:=ZK H;have I:zs.length<=a:=by omega
 have t:∀x w1,(x=Ending.returned (.tuple #[])∧∃g',ZL w w1 B o cs d lo (a - (zs.length - hi)) a (splice (splice (List.replicate a 0) 0 (zs.take lo)) (a - (zs.length - hi)) (zs.drop hi)) g')->(x=Ending.returned (.tuple #[])∧∃u v y z A C,YS w w1 B o cs d (gtext zs lo hi) n a S u v y z A C):=by
  rintro x w1 ⟨D,g',b⟩;rw [ggrow f h I]at b;have J:a - (zs.length - hi)=lo+(a - (gtext zs lo hi).length):=(by omega);rw [J]at b;refine⟨D,g',a,glay (gtext zs lo hi) lo a,[],lo,lo+(a - (gtext zs lo hi).length),b.gb,b.rw,zg (by omega) (by omega),Z9 (by omega) (by omega) (by omega) (by omega),YO (by omega) (by omega),by omega,⟨lR,by unfold maxLen;omega,by simp⟩,fun c=>absurd c (by have:=b.ge;omega),by have:=b.ge;omega,?_⟩;exact⟨b.chg.os,b.chg.tape,b.chg.output,b.chg.size,fun k M N=>b.chg.block k M (fun e=>N (e▸R))⟩
 by_cases K:hi<zs.length
 ·exact(zDv B o g cap zs.length cs d zs lo hi n (max zs.length 16) (gtext zs lo hi).length ((gtext zs lo hi).length+n) a (a - (zs.length - hi)) w c s E l rfl f h r i (by omega) rfl F (by omega) q (by omega) K j.symm).mono t
 by_cases G:cap=zs.length
 ·exact(zDw B o g cap zs.length cs d zs lo hi n (max zs.length 16) (gtext zs lo hi).length ((gtext zs lo hi).length+n) a (a - (zs.length - hi)) w c s E l rfl f h r i (by omega) rfl F (by omega) q (by omega) (by omega) G j.symm).mono t
 exact(zDx B o g cap zs.length cs d zs lo hi n (max zs.length 16) (gtext zs lo hi).length ((gtext zs lo hi).length+n) a (a - (zs.length - hi)) w c s E l rfl f h r i (by omega) rfl F (by omega) q (by omega) (by omega) G j.symm).mono t
theorem zB5 (B o:Nat) (cs:Array Value) (d:TypeId) (n a:Nat) (S:Nat->Prop) (w:World) (c:GB w B o cs d (.slice none 0 0) 0 0) (r:n<=8192) (f:0<n) (s:S B) (g:Dbl n 16 a):
  Calls prog 156 #[.pointer (qK B o),qJ n] w fun x w1=>x= .returned (.tuple #[])∧∃h i j l m p,YS w w1 B o cs d [] n a S h i j l m p:=by
 have u:=jZ g;have v:=c.lt;refine(zDy B o 0 cs d [] 0 0 n 16 0 n a a w (by simpa using c) rfl (by omega) (by omega) (by omega) (by omega) (by omega) (by omega) r (by omega) g (by omega) rfl).mono ?_;rintro x w1 ⟨t,g',b⟩
 have e:splice (splice (List.replicate a (0:Int)) 0 (([]:List Int).take 0)) a (([]:List Int).drop 0)=glay [] 0 a:=by
  simp [splice,glay]
 rw [e]at b;refine⟨t,g',a,glay [] 0 a,[],0,0+(a - ([]:List Int).length),by simpa using b.gb,b.rw,zg (by simp) (by simp),Z9 (by simp) (by simp) (by omega) (by simp),YO (by simp) (by simp),by simp;omega,⟨lR,by unfold maxLen;omega,by simp⟩,fun c=>absurd c (by have:=b.ge;omega),by have:=b.ge;omega,?_⟩;exact⟨b.chg.os,b.chg.tape,b.chg.output,b.chg.size,fun k q f=>b.chg.block k q (fun e=>f (e▸s))⟩
theorem KG {P:Program} {g:Array Oper} {o:Oper} {a:Act} {w:World} {h:Act->World->Prop} {Q:Exit->Act->World->Prop} {p:Prop} (q:o.guard=none) (d s:Operand) (b i:TypeId)
  (r:o.op= .call {callee:=.builtin .copy,args:=#[d,s],argTypes:=#[b,i]}) (c:TypeId) (t:P.underlying b=some (.slice c)) (u:(P.info? c).map (·.size)=some 1)
  (j sp:Option Addr) (e k f l:Nat) (v:a.eval d= .slice j e k) (x:a.eval s= .slice sp f l) (y:Nat.min f e=0)
  (z:h (a.put o.dst (goInt 0)) w):
  if Region.wanted o (yielded g a.tmps)=true then Oper.wp P o a w h Q else p:=by
 have m:Region.wanted o (yielded g a.tmps)=true:=by simp [Region.wanted,q]
 rw [xd m];have n:=run_copy_none (P:=P) w b i o.type c j sp e k f l t u y;unfold Oper.wp;simp [execOp,r,resolve,invoke,builtin,v,x,n,Result.andThen];exact z
theorem zDz {w w1:World} {B o:Nat} {cs:Array Value} {c:TypeId} (a:GB w B o cs c (.slice none 0 0) 0 0) (d:w1.heap=w.heap) (n:w1.os=w.os) (ht:w1.tape=w.tape) (p:w1.output=w.output):
  GNilPost w (w1.setCell ⟨B,o+1,none⟩ (qJ 0)) B o cs c:=by
 have g:w1.heap[B]? =some (.cells cs c (0,0)):=by rw [d];exact a.blk
 have f:=xD w1 B (o+1) _ _ (qJ 0) g;have b:=a.sz
 have e:cs.setIfInBounds (o+1) (qJ 0)=cs:=by
  rw [<- a.self];apply yM (by simp [zm]) a.sz
  ·rw [qS,qZ (by omega),zu _ _ _ _ _ _ b];simp
  ·rw [qS,xd rfl,xd (by rw [zm];omega)]
  ·rw [qS,qZ (by omega),zu _ _ _ _ _ _ b];simp
  intro j h i l;rw [qS,qZ (by omega),zu _ _ _ _ _ _ b];simp [h,i,l]
 rw [e]at f;refine⟨⟨f,a.sz,a.c0,a.c1,a.c2⟩,n,ht,p,by simp [d],fun k q m=>?_⟩;rw [zE (by show k≠B;exact m),d]
theorem zGm (B o:Nat) (cs:Array Value) (c:TypeId) (ap:Option Addr) (cp:Nat) (w:World) (d:GB w B o cs c (.slice none 0 0) 0 0):
  Calls prog 149 #[.pointer (qK B o),qJ 0,.slice ap 0 cp] w fun x w'=>x= .returned (.tuple #[])∧GNilPost w w' B o cs c:=by
 have e:=qG (Jz B o none 0 0 0 0 0 w (by simpa using d.gc) (by omega) (by omega) (by omega) (by omega));have g:=qG d;have n:IntKind.i64.wrap 0=0:=by rw [kQ];rfl
 clear d;go_enter func149,ntmps149;go_wp2_with fail;refine e.mono ?_;rintro x w1 ⟨rfl,m,rfl⟩;have h:=qG (g.block (w':=w.drewN m) rfl);have a:=qG (show Alk w (w.drewN m)from⟨rfl,rfl,rfl,rfl⟩);clear e;generalize w.drewN m=w1 at *
 go_wp2_with fail;refine(Kv B o cs c w1 h).mono ?_;rintro x l ⟨rfl,b⟩;have f:=qG b;obtain⟨p,r,s⟩:=b.gb.gc;obtain⟨t,u,v⟩:=b.gb.gf;clear b;go_upto_region 2 with fail;go_region_law (refine KG rfl (.tmp 29) (.tmp 30) 25 25 rfl 21 underlying25 zh none ap 0 0 0 cp rfl rfl rfl ?_)
 all_goals (
  go_wp2;go_end0;refine⟨rfl,?_⟩;have q:=f.trans (zDz (w1:=l.drew) f.gb rfl rfl rfl rfl)
  exact⟨q.gb,⟨q.chg.os.trans a.os,q.chg.tape.trans a.tape,q.chg.output.trans a.output,by have:=q.chg.size;rw [a.out.heap]at this;exact this,fun k i j=>(q.chg.block k (by rw [a.out.heap];exact i) j).trans (by rw [a.out.heap])⟩⟩)
end Go.Proofs.YtmjanhcplcalfaaGreatDoor
