import Derived.Test.YtljdnoinennfaaaGreatDoorMq16
import Derived.Test.YtljdnoinennfaaaGreatDoorMq17
import Derived.Maps.AppendAt
import Derived.Lib.Hide
set_option linter.all false
set_option maxRecDepth 100000
set_option maxHeartbeats 8000000
namespace Go.Proofs.YtljdnoinennfaaaGreatDoor
open Go Go.RowKit
def Pcs (xs:List It):Prop:=∀x∈xs,pcOk x.pc=true
theorem Pcs.total {xs:List It} (c:Pcs xs) (j:Nat):0<=total (xs.take j)∧total (xs.take j)<=8192*(xs.take j).length:=by
 have a:∀x∈xs.take j,pcOk x.pc=true:=fun x b=>c x (xI b)
 generalize xs.take j=ys at a |-;clear c
 induction ys with
 | nil=>simp [Go.Proofs.YtljdnoinennfaaaGreatDoor.total]
 | cons y ys e=>
  have d:=a y (by simp)
  simp only [pcOk,qZ]at d
  have f:=e (fun x b=>a x (by simp [b]))
  simp only [Go.Proofs.YtljdnoinennfaaaGreatDoor.total,q9];omega
theorem zCy (B:Nat) (v:Value) (xs:List It) (w:World) (M:RdI B w v xs) (X:B<=w.heap.size) (Y:xs.length<=1048576) (r:Pcs xs):
  Calls Tryz.prog 35 #[v] w fun e w'=>e= .returned (qJ (total xs))∧Below w.heap.size w w':=by
 rcases M with ⟨ao,cap,rfl,rfl⟩ | ⟨b,off,cap,rfl,⟨Z,aa,N⟩,ab,t⟩
 ·go_enter Tryz.func35,Tryz.ntmps35
  go_wp2_with fail
  go_loopw [3,8] (fun s i wr=>i=qJ 0∧s=qJ 0∧wr=w) (fun _ _ _=>0)
  case atStart=>exact⟨rfl,rfl,rfl⟩
  case round=>
   obtain⟨rfl,rfl,rfl⟩:=hrel;go_wp2;go_ret;exact⟨rfl,qO _ _⟩
 ·have c:b<w.heap.size:=by omega
  have C:=qG t;have h:=qG r;generalize o:total xs=L;have D:=qG o;generalize K:xs.length=n at *;unfold maxLen at N;clear t r o;go_enter Tryz.func35,Tryz.ntmps35;go_wp2_with fail
  go_loopw [3,8] (fun s i wr=>∃j:Nat,j<=n∧i=qJ j∧s=qJ (total (xs.take j))∧Below w.heap.size w wr) (fun _ i _=>n - (intOf i).toNat)
  case atStart=>exact⟨0,xP _,rfl,by simp [total],qO _ _⟩
  case round=>
   obtain⟨j,ac,rfl,rfl,g⟩:=hrel;have a:=qG g;have E:=g.size;have k:=h.total j
   have l:(xs.take j).length<=1048576:=by rw [qN];omega
   generalize q:total (xs.take j)=d at *;have m:=qG q;clear g q
   by_cases J:j<n
   ·obtain⟨x,f,u,y,z,A⟩:=Jy (B:=B) (cap:=cap) C (K▸J)
    have O:(j:Int)<n:=by omega
    have F:=h x (vc.2 ⟨j,f⟩);simp only [pcOk,qZ]at F;have P:=qG f;have Q:=(a.cell (p:=⟨b,off+j*4,none⟩) c).trans u;have R:=(a.cell (p:=⟨b,off+j*4+1,none⟩) c).trans y;have S:=(a.cell (p:=⟨b,off+j*4+2,none⟩) c).trans z;have T:=(a.cell (p:=⟨b,off+j*4+3,none⟩) c).trans A
    have U:b<wr.heap.size:=by omega
    have G:=qG (show total (xs.take (j+1))=d+x.pc.len by rw [yI f,zq,m.out];simp [total])
    have V:0<=d∧d<=8589934592:=by omega
    clear u y z A f k l;go_wp2;go_roundw
    case rel=>exact⟨j+1,by omega,by go_num,by rw [G.out],a.alloc E _⟩
    case measure=>simp [intOf];omega
   ·have H:j=n:=by omega
    subst H
    have W:¬ (j:Int)<(j:Int):=by omega
    have I:=qG (show L=d by rw [<- m.out,xE (by omega)];exact D.symm)
    clear k l;go_wp2;go_ret
    exact⟨by first | rfl | (rw [I.out];rfl),a⟩
def At32 (w:World) (b o:Nat) (zs:List Int):Prop:=∀i,i<zs.length->w.cell? ⟨b,o+i,none⟩=some (.int .i32 (zs.getD i 0))
theorem At32.below {B:Nat} {w w':World} {b o:Nat} {zs:List Int} (a:At32 w b o zs) (c:Below B w w') (d:b<B):At32 w' b o zs:=fun i hi=>(c.cell (p:=⟨b,o+i,none⟩) d).trans (a i hi)
def own32 (w:World) (base:Nat) (v:Value) (zs:List Int):Prop:=w.ownsRow base 21 1 v zs.length (ints .i32 zs)
theorem Tryz.qv:(Tryz.prog.info? 21).map (fun i=>(i.zero,i.size,i.bytes))=some (some (.int .i32 0),1,4):=by kernel_rfl
theorem j8 (w:World):own32 (w.alloc (.cells #[] 21)) w.heap.size (.slice (qK w.heap.size 0) 0 0) []:=by
 have:=ke (base:=w.heap.size) (e:=21) (size:=1) w #[] 0 (by simp) (xP _) rfl
 simpa [own32,ints]using this
theorem Zt {W:World} {base:Nat} {v:Value} {a F:List Int} {n m:Nat} (b:a.length=n) (c:F.length=m) (d:W.ownsRow base 21 1 v (n+m) (ints .i32 a++ints .i32 F)):own32 W base v (a++F):=by
 unfold own32;rw [qM,b,c,zZ];exact d
theorem zj {w:World} {base:Nat} {v:Value} {zs:List Int} (a:own32 w base v zs):∃ao cap,v= .slice ao zs.length cap:=by
 rcases a.2 with ⟨rfl,b⟩ | ⟨g,cap,c,rfl,_⟩
 ·exact⟨none,0,by rw [b]⟩
 ·exact⟨_,_,rfl⟩
theorem At32.app {w:World} {b o:Nat} {zs:List Int} (f:At32 w b o zs) (p l:Nat) (g:p+l<=zs.length):∀j u,(ints .i32 ((zs.drop p).take l))[j]? =some u->w.cell? ((⟨b,o+p,none⟩:Addr).add j)=some u:=by
 intro j u a
 have d:j<l:=by
  rcases xS j l with q | q
  ·exact q
  ·rw [xQ (by simp [ints];omega)]at a;cases a
 have e:((zs.drop p).take l)[j]? =some (zs.getD (p+j) 0):=by
  rw [xO,xj d,vn]
  simp [qW,qY (show p+j<zs.length by omega)]
 simp only [ints,vA,e,Qk,xw]at a;subst a
 have c:=f (p+j) (by omega)
 rw [<- vR]at c;rw [zK];exact c
theorem yU {w:World} {base g cap:Nat} {zs:List Int} (a:own32 w base (.slice (qK g 0) zs.length cap) zs):At32 w g 0 zs:=by
 intro i hi
 have:=a.cellAt i (by omega)
 rw [xN,this];simp [ints,qY hi]
theorem je {w:World} {base g cap:Nat} {zs:List Int} (a:own32 w base (.slice (qK g 0) zs.length cap) zs):g<w.heap.size:=(a.lt g rfl).2
def itV (x:It):List Value:=[qJ x.pc.off,qJ x.pc.len,qJ x.pc.brk,qJ x.lv]
def itVs (xs:List It):List Value:=xs.flatMap itV
theorem zH (xs:List It):(itVs xs).length=xs.length*4:=by
 induction xs with
 | nil=>rfl
 | cons x xs a=>simp only [itVs,kG,qM]at a |-;rw [a];simp [itV];omega
theorem zS (a b:List It):itVs (a++b)=itVs a++itVs b:=by simp [itVs]
theorem itVs_get (xs:List It) (i k:Nat) (x:It) (a:xs[i]? =some x) (c:k<4):(itVs xs)[i*4+k]? =(itV x)[k]?:=by
 induction xs generalizing i with
 | nil=>simp at a
 | cons y ys b=>
  cases i with
  | zero=>
   simp at a;subst a;simp only [itVs,kG,Nat.zero_mul,xN]
   rw [xA (by simp [itV];omega)]
  | succ i=>
   simp only [vh]at a;have:=b i a;simp only [itVs,kG]at this |-
   rw [xe (by simp [itV];omega)]
   rw [<- this]
   congr 1
   simp [itV];omega
def OwI (w:World) (base:Nat) (v:Value) (xs:List It):Prop:=w.ownsRow base 71 4 v xs.length (itVs xs)
theorem OwI.rd {w:World} {base:Nat} {v:Value} {xs:List It} (c:OwI w base v xs):RdI w.heap.size w v xs:=by
 unfold OwI at c;have f:=c.lt
 rcases c.2 with ⟨d,z⟩ | ⟨g,cap,A,d,p⟩
 ·left;exact⟨none,0,by rw [d],by apply qU;omega⟩
 ·obtain⟨B,r,s,t,C,u⟩:=p
  subst d;have h:=(f g rfl).2
  by_cases e:xs.length=0
  ·left;rw [e];exact⟨_,_,rfl,by apply qU;exact e⟩
  ·right
   refine⟨g,0,cap,rfl,⟨by omega,s,t⟩,h,fun i x b=>?_⟩
   have y:i<xs.length:=by
    rcases xS i xs.length with q | q
    ·exact q
    ·rw [xQ q]at b;cases b
   have a:∀k,k<4->w.cell? ⟨g,i*4+k,none⟩=(itV x)[k]?:=fun k o=>by
    rw [qQ w g _ _ _ _ r,<- itVs_get xs i k x b o,<- u,xO,xj (by omega)]
    simp
   have j:=a 0 (by omega)
   have l:=a 1 (by omega)
   have m:=a 2 (by omega)
   have n:=a 3 (by omega)
   simp only [xN];exact⟨j,l,m,n⟩
theorem OwI.below {w w':World} {base B:Nat} {v:Value} {xs:List It} (a:OwI w base v xs) (b:Below B w w') (c:w.heap.size<=B):OwI w' base v xs:=zA a b c
theorem OwI.base {w:World} {base base':Nat} {v:Value} {xs:List It} (a:OwI w base v xs) (b:base'<=base):OwI w base' v xs:=zD a b
theorem Tryz.qk:(Tryz.prog.info? 71).map (fun i=>(i.zero,i.size,i.bytes))=some (some (.agg #[qJ 0,qJ 0,qJ 0,qJ 0]),4,32):=by kernel_rfl
end Go.Proofs.YtljdnoinennfaaaGreatDoor
namespace Go.Proofs.YtljdnoinennfaaaGreatDoor
open Go Go.RowKit Go.Shelf
attribute [local go_sem] kZ
theorem tellN (T:AT) (u:Option Addr) (bs:List Nat) (base:Nat) (w:World) (A:Lies w base T u bs) (a1:T.ok):
  Calls Tryz.prog 121 #[.pointer u] w fun e w'=>∃v,e= .returned (.agg #[v])∧OwI w' w.heap.size v (T.told 0)∧Below w.heap.size w w':=by
 obtain⟨X,hi,Y,Z,aa⟩:=xM Tryz.qk;have a9:=a1.bd
 have ba:(T.ht:Int)<=8192:=by have:=zv T;omega
 have af:=qG (show IsT w.heap.size w u T from⟨base,bs,A,fun x ay=>(A.lt x ay).2⟩)
 have N:=qG ((qO w.heap.size w).alloc lR (.cells #[.slice none 0 0] 28));have ag:=qG (A.below N lR)
 have bc:(w.alloc (.cells #[.slice none 0 0] 28)).heap.size=w.heap.size+1:=by simp
 have ah:=Boxed.new w 28 (.slice none 0 0);have bd:=Tryz.fld0;clear A;refine(vf (n:=5)).1 ?_;refine callsIn_of_wp_marks Tryz.func121 rfl xH ?_ rfl;simp only [Tryz.ntmps121,vC,q9,xC,Nat.reduceAdd,Nat.reduceSub,vv,vz,vD,vB,xJ,xx]
 gi_wp2_with (first
  | ((try refine⟨xH,?_⟩);gi_at_call 98;refine(vf.2 (allN T u bs base _ ag)).mono ?_;rintro e w1 ⟨rfl,B⟩;have be:=B.size;have O:=qG (N.trans (B.mono (by omega)));have ai:Boxed w1 w.heap.size 28 (.slice none 0 0):=(B.block w.heap.size (by omega)).trans ah;clear B;simp only [cnt])
  | (gi_at_make;refine wpListIn_make_own _ rfl _ _ 26 rfl w.heap.size 71 X (.agg #[qJ 0,qJ 0,qJ 0,qJ 0]) 4 Tryz.underlying26 hi Y Z _ _ _ T.its rfl rfl (by first | rfl | assumption) (by rw [aa];omega) (by unfold maxLen;omega) (by omega) ?_;intro a aw H)
  | ((try refine⟨xH,?_⟩);gi_at_call 118;refine(all_in Fence.wide _ xH rfl _ _).mono ?_;rintro e ax ⟨rfl,rfl⟩))
 have bf:=H.size
 have t:=qG (O.grown H O.size (fun k az=>by cases az))
 have aj:Boxed a w.heap.size 28 (.slice none 0 0):=ai.kept H (by simp)
 have P:=((Boxed.new a 26 (.slice (qK w1.heap.size 0) 0 T.its)).alloc (.cells #[.pointer u] 138)).alloc (.cells #[qJ 0] 3);have C:=(Boxed.new (a.alloc (.cells #[.slice (qK w1.heap.size 0) 0 T.its] 26)) 138 (.pointer u)).alloc (.cells #[qJ 0] 3);have D:=Boxed.new ((a.alloc (.cells #[.slice (qK w1.heap.size 0) 0 T.its] 26)).alloc (.cells #[.pointer u] 138)) 3 (qJ 0);have Q:=((aj.alloc (.cells #[.slice (qK w1.heap.size 0) 0 T.its] 26)).alloc (.cells #[.pointer u] 138)).alloc (.cells #[qJ 0] 3);have R:=((aw.alloc (.cells #[.slice (qK w1.heap.size 0) 0 T.its] 26)).alloc (.cells #[.pointer u] 138)).alloc (.cells #[qJ 0] 3)
 have E:=((t.alloc t.size (.cells #[.slice (qK w1.heap.size 0) 0 T.its] 26)).alloc (by have:=t.size;simp;omega) (.cells #[.pointer u] 138)).alloc (by have:=t.size;simp;omega) (.cells #[qJ 0] 3)
 have ak:(((a.alloc (.cells #[.slice (qK w1.heap.size 0) 0 T.its] 26)).alloc (.cells #[.pointer u] 138)).alloc (.cells #[qJ 0] 3)).heap.size=a.heap.size+3:=by simp
 rw [vE]at C;rw [vE,vE]at D;obtain⟨I,a2⟩:∃I,((a.alloc (.cells #[.slice (qK w1.heap.size 0) 0 T.its] 26)).alloc (.cells #[.pointer u] 138)).alloc (.cells #[qJ 0] 3)=I:=⟨_,rfl⟩;rw [a2]at P C D Q R E ak |-;have bg:=AT.told_length T 0
 refine wpIn_rangeFunc_ownH rfl (by omega) (gf:=141) (lb:=#[.pointer (qK (a.heap.size+1) 0),.pointer (qK (a.heap.size+1+1) 0)]) rfl xH (enters_of Tryz.func141 (by kernel_rfl) rfl)
  (zFp Fence.wide rfl _ xH xH rfl (a.heap.size+1) (a.heap.size+1+1) w.heap.size u T (by omega) I (by omega) (by omega) (by omega) C.cell D.cell (af.below E)) belowK_t (belowK_b (by omega)) (qO _ _) (fun _=>rfl)
  (fun d W=>(∃v,Boxed W a.heap.size 26 v∧W.ownsRow w.heap.size 71 4 v d.length (itVs d)∧True)∧(Boxed W w.heap.size 28 (.slice none 0 0)∧Below w.heap.size w W))
  (fun _ _ _=>False)
  (OwnFrom.and (Own.from (holdsRow_own w.heap.size a.heap.size 26 71 4 (fun d=>d.length) (fun d=>itVs d) (fun _ _=>True)) _) (OwnFrom.and (Own.from (boxed_own w.heap.size 28 (fun _=>.slice none 0 0)) _) (ownFrom_below lR (by omega))))
  (fun _ _ _ _ _ J _ _=>J)
  ⟨⟨_,P,by simpa [itVs]using R,xH⟩,Q,E⟩
  (fun x K W=>∃b,True∧W.heap[b]? =some (.cells #[qJ x.pc.off,qJ x.pc.len,qJ x.pc.brk] 69 (0,0))∧K={tmps:=#[.pointer u,undef,.pointer (qK w.heap.size 0),.pointer (qK a.heap.size 0),qJ x.lv,.pointer (qK b 0),.pointer u,.agg #[qJ T.its,qJ T.rns,qJ T.bks],qJ T.its,.slice (qK w1.heap.size 0) 0 T.its,.pointer u,.func (.func 141) #[] #[.pointer (qK (a.heap.size+1) 0),.pointer (qK (a.heap.size+1+1) 0)],qJ x.lv,.agg #[qJ x.pc.off,qJ x.pc.len,qJ x.pc.brk],undef,undef,undef,undef,undef,undef,undef,undef],defers:=[]})
  (fun x K _ W bt bu J a0 z=>by
   obtain⟨b,a3,L,a4⟩:=J
   refine⟨b,a3,(a0.block b (xU.1 L).1 (fun e=>?_)).trans L,a4⟩
   obtain⟨_,o,ab,F⟩:=z b e.symm
   rw [L]at ab;cases ab;cases F)
  ?assign ?body ?done ?stop
 case assign=>
  rintro l d x W bv ⟨⟨v,m,f,_⟩,h,j⟩ M
  gi_wp2
  have y:=j.size
  refine M _ _ ((KeepsOthers.alloc _ _).from _) ((qO _ W).alloc y _) ⟨⟨v,m.alloc _,f.alloc _,xH⟩,h.alloc _,j.alloc y _⟩ ⟨W.heap.size,xH,xm _ _,rfl⟩
 case body=>
  rintro l d x K W ac ⟨r,z⟩ ⟨⟨v,m,f,_⟩,h,j⟩ ⟨b,_,s,rfl⟩ bw;have F:=m.cell
  have bh:W.cell? ⟨b,0,none⟩=some (qJ x.pc.off):=by rw [qQ W _ 0 _ _ _ s];rfl
  have bi:W.cell? ⟨b,1,none⟩=some (qJ x.pc.len):=by rw [qQ W _ 1 _ _ _ s];rfl
  have bj:W.cell? ⟨b,2,none⟩=some (qJ x.pc.brk):=by rw [qQ W _ 2 _ _ _ s];rfl
  have bk:b<W.heap.size:=(xU.1 s).1;have y:=j.size;have bl:=qG z;have bm:=qG ac;clear z ac s
  gi_wp2_with (gi_at_builtin;refine wpListIn_append_own _ rfl _ _ 26 rfl w.heap.size 71 X (.agg #[qJ 0,qJ 0,qJ 0,qJ 0]) 4 32 Tryz.underlying26 hi Y Z aa rfl (by decide) _ _ _ rfl (f.alloc _) ⟨W.heap.size,0,none⟩ 1 1 (itV x) rfl rfl (zL _ _ _) (by simp [itV,Value.oneCell']) (by unfold maxLen;omega) (by omega) (by simp;omega) ?_;intro br ax U V _;obtain⟨g',bx,rfl⟩:=ownsRow_succ U;obtain⟨ad,a5,a6,a7,ae⟩:=m.appended (by decide) f y (by omega) U V;have al:=(h.alloc _).kept V (h.not_row (by decide) f);have bn:=ad.cell;have bo:=ad.frozen)
  exact⟨a7.from _,ae,⟨⟨_,a5,by simpa [zS,itVs]using a6,xH⟩,al.other (by omega) _,j.trans ae⟩⟩
 case done=>
  rintro q ys W bz rfl ⟨⟨v,m,f,_⟩,h,j⟩ M;have F:=m.cell;have bp:=h.cell;have bq:=h.frozen
  obtain⟨ao,i,cap,rfl⟩:∃ao i cap,v= .slice ao i cap:=by
   rcases f.2 with ⟨rfl,_⟩ | ⟨g,cap,b0,rfl,_⟩
   ·exact⟨_,_,_,rfl⟩
   ·exact⟨_,_,_,rfl⟩
  gi_wp2
  have S:q≠w.heap.size:=by omega
  have G:(W.setCell ⟨w.heap.size,0,none⟩ (.slice ao i cap)).heap[q]? =some (.deferred (some [])):=(xn W ⟨w.heap.size,0,none⟩ q _ S).trans M;have am:=h.set (.slice ao i cap)
  have an:=f.kept (grownBy_setCell' W w.heap.size (.slice ao i cap)) (.inr (h.not_row (by decide) f).symm)
  have ap:=j.setCell (p:=⟨w.heap.size,0,none⟩) lR (.slice ao i cap)
  refine⟨by simp,.inl ⟨_,_,rfl,run_takeDeferred G,?_⟩⟩
  have aq:=am.kept (grownBy_putObj' _ q (.deferred none)) (fun e=>S (by cases e;rfl))
  have ar:=ownsRow_putObj an (.deferred none) G rfl
  have au:=ap.trans (belowK_b (w:=w) lR _ q _ (.deferred none) (by omega) G rfl rfl)
  have av:=aq.cell
  exact⟨.agg #[.slice ao i cap],by simp [results,Tryz.results121,go_sem,av],_,rfl,ar,au⟩
 case stop=>
  rintro q c d W _ _ a8 _;exact a8.elim
end Go.Proofs.YtljdnoinennfaaaGreatDoor
namespace Go.Proofs.YtljdnoinennfaaaGreatDoor
open Go Go.RowKit Go.Proofs.Tryz
theorem zc {w:World} {base:Nat} {v:Value} {xs:List It} (a:OwI w base v xs):∃ao cap,v= .slice ao xs.length cap:=by
 rcases a.2 with ⟨rfl,b⟩ | ⟨g,cap,c,rfl,_⟩
 ·exact⟨none,0,by rw [b]⟩
 ·exact⟨_,_,rfl⟩
theorem nn32 {w:World} {base:Nat} {v:Value} {zs:List Int} (b:own32 w base v zs) (d:0<zs.length):v≠ .slice none 0 0:=by
 rcases b.2 with ⟨_,e⟩ | ⟨g,c,f,e,_⟩
 ·omega
 ·rw [e];intro a;cases a
theorem clone0N (b o cap:Nat) (w:World):
  Calls prog 120 #[.slice (qK b o) 0 cap] w fun e w'=>∃a,e= .returned a∧own32 w' w.heap.size a []∧Below w.heap.size w w'∧a≠ .slice none 0 0:=by
 have c:=qG (j8 w);have d:=qG ((qO w.heap.size w).alloc lR (.cells #[] 21))
 have f:=fun w:World=>Lib.run_eql_slice_nil (P:=prog) w 25 21 (qK b o) 0 cap 0 0 underlying25
 simp only [Option.isNone_some]at f;go_enter func120,ntmps120;go_wp2;go_ret
 exact⟨_,rfl,c,d,by intro g;cases g⟩
theorem cloneN (zs:List Int) (b o cap:Nat) (w:World) (n:∀i,i<zs.length->w.cell? ⟨b,o+i,none⟩=some (.int .i32 (zs.getD i 0))) (x:b<w.heap.size) (A:zs.length<=1048576):
  Calls prog 120 #[.slice (qK b o) zs.length cap] w fun e w'=>∃f,e= .returned f∧own32 w' w.heap.size f zs∧Below w.heap.size w w'∧f≠ .slice none 0 0:=by
 rcases kh zs.length with g | g
 ·obtain rfl:zs= []:=qU g
  exact clone0N b o cap w
 obtain⟨B,hi,C,D,E⟩:=xM Tryz.qv
 have h:(w.alloc (.cells #[] 21)).ownsRow w.heap.size 21 1 (.slice (qK w.heap.size 0) 0 0) 0 []:=by
  have:=ke (base:=w.heap.size) (e:=21) (size:=1) w #[] 0 (by simp) (xP _) rfl
  simpa using this
 have r:=qG h;have a:=qG ((qO w.heap.size w).alloc lR (.cells #[] 21))
 have s:=qG (show ∀j u,(ints .i32 zs)[j]? =some u->(w.alloc (.cells #[] 21)).cell? ((⟨b,o,none⟩:Addr).add j)=some u from(by
  have t:=jJ (o:=0) (l:=zs.length) (fun i hi=>(a.cell (p:=⟨b,o+i,none⟩) x).trans (n i hi))
  simpa using t))
 have c:=fun w:World=>Lib.run_eql_slice_nil (P:=prog) w 25 21 (qK b o) zs.length cap 0 0 underlying25
 simp only [Option.isNone_some]at c;clear h n;go_enter func120,ntmps120
 go_wp2_with (at_builtin;refine a25 _ rfl _ _ rfl w.heap.size _ 0 [] rfl r ⟨b,o,none⟩ zs.length cap (ints .i32 zs) rfl (by rw [zC,vI]) s (zF _ _) (by unfold maxLen;omega) (by omega) a.size ?_;intro y z d m _)
 rw [xN,xJ]at d;have k:=qG d
 have v:=qG (a.grown m a.size (fun q c=>by cases c;exact lR))
 clear d m;go_wp2;go_ret;exact⟨_,rfl,k,v,nn32 k g⟩
theorem tellPM (zs:List Int) (T:AT) (u:Option Addr) (bs:List Nat) (base c b o cap:Nat) (w:World) (t:∀i,i<zs.length->w.cell? ⟨b,o+i,none⟩=some (.int .i32 (zs.getD i 0))) (B:b<w.heap.size) (ah:zs.length<=1048576) (I:Lies w base T u bs) (J:T.ok) (f:w.heap[c]? =some (.cells #[.slice (qK b o) zs.length cap,.pointer u] 142 (0,0))):
  Calls prog 85 #[.pointer (qK c 0)] w fun e w'=>∃s z,e= .returned (.agg #[s,z])∧own32 w' w.heap.size s zs∧OwI w' w.heap.size z (T.told 0)∧Below w.heap.size w w'∧s≠ .slice none 0 0:=by
 have P:c<w.heap.size:=(xU.1 f).1;have a:=qG ((qO w.heap.size w).alloc lR (.cells #[.slice none 0 0,.slice none 0 0] 30))
 have E:=qG (show(w.alloc (.cells #[.slice none 0 0,.slice none 0 0] 30)).heap[w.heap.size]? =some (.cells #[.slice none 0 0,.slice none 0 0] 30 (0,0))from xm _ _)
 have Q:w.heap.size<(w.alloc (.cells #[.slice none 0 0,.slice none 0 0] 30)).heap.size:=by simp
 have x:=(a.block c P).trans f
 have ai:(w.alloc (.cells #[.slice none 0 0,.slice none 0 0] 30)).cell? ⟨c,0,none⟩=some (.slice (qK b o) zs.length cap):=by rw [qQ _ _ 0 _ _ _ x];rfl
 have R:(w.alloc (.cells #[.slice none 0 0,.slice none 0 0] 30)).cell? ⟨c,1,none⟩=some (.pointer u):=by rw [qQ _ _ 1 _ _ _ x];rfl
 have S:=qG (fun W (t:∀i,i<zs.length->W.cell? ⟨b,o+i,none⟩=some (.int .i32 (zs.getD i 0))) (B:b<W.heap.size)=>cloneN zs b o cap W t B ah)
 have U:=qG (fun i hi=>(a.cell (p:=⟨b,o+i,none⟩) B).trans (t i hi))
 have V:b<(w.alloc (.cells #[.slice none 0 0,.slice none 0 0] 30)).heap.size:=by omega
 have X:c<(w.alloc (.cells #[.slice none 0 0,.slice none 0 0] 30)).heap.size:=by omega
 have Y:=qG (I.below a lR)
 have Z:=qG (fun W (A:Lies W base T u bs)=>tellN T u bs base W A J)
 have aa:=qG (fun(W H:World) (A:Lies W base T u bs) (e:H.heap=W.heap)=>A.frame (w':=H) (fun q ap=>by rw [e]))
 clear f x I J t;go_enter func85,ntmps85
 go_upto_region 1 with fail
 generalize w.alloc (.cells #[.slice none 0 0,.slice none 0 0] 30)=m at *
 have aj:m.cell? ⟨w.heap.size,0,none⟩=some (.slice none 0 0):=by rw [qQ m _ 0 _ _ _ E.out];rfl
 go_region_with (first
  | (go_at_call 120;refine(S _ (by exact U) (by exact V)).mono ?_;rintro e w1 ⟨s,rfl,C,h,K⟩;obtain⟨L,M,rfl⟩:=zj C;have ab:=qG K;clear K;have n:Below m.heap.size m w1:=⟨h.os,h.tape,h.output,h.size,h.block⟩;have y:=qG n;have ac:=qG (show own32 w1 m.heap.size (.slice L zs.length M) zs from C);have ad:=qG (Y.below n lR);have ak:w1.cell? ⟨c,1,none⟩=some (.pointer u):=(n.cell (p:=⟨c,1,none⟩) X).trans R;clear C h n)
  | (go_at_call 121;refine(Z _ (by exact aa _ _ ad rfl)).mono ?_;rintro e d ⟨z,rfl,D,j⟩;obtain⟨N,O,rfl⟩:=zc D;have r:Below w1.heap.size w1 d:=⟨j.os,j.tape,j.output,j.size,j.block⟩;have g:=qG (y.trans (r.mono y.size));have F:=qG (zA ac r lR);have G:=qG (show OwI d w1.heap.size (.slice N (T.told 0).length O) (T.told 0)from D);have al:=r.size;have am:=y.size;have l:=(g.block w.heap.size Q).trans E;have ae:d.cell? ⟨w.heap.size,0,none⟩=some (.slice none 0 0):=(by rw [qQ d _ 0 _ _ _ l];rfl);have af:d.cell? ⟨w.heap.size,1,none⟩=some (.slice none 0 0):=(by rw [qQ d _ 1 _ _ _ l];rfl);have an:=xo d w.heap.size 0 _ _ l;have ao:=xo d w.heap.size 1 _ _ l;clear D j r l))
 all_goals
  go_wp2
  refine xr (v:=.agg #[.slice L zs.length M,.slice N (T.told 0).length O]) (by simp [results,results85,go_sem,ae,af]) rfl ⟨_,_,rfl,?_,?_,?_,ab⟩
  ·exact zB (zD F (by omega)) (fun k f=>by have ag:=F.lt k f;rw [xp _ _ _ _ (by simp;omega),xp _ _ _ _ (by simp;omega)];try rfl)
  ·exact zB (zD G (by omega)) (fun k f=>by have ag:=G.lt k f;rw [xp _ _ _ _ (by simp;omega),xp _ _ _ _ (by simp;omega)];try rfl)
  ·exact((⟨(a.trans (g.mono (by omega))).os,(a.trans (g.mono (by omega))).tape,(a.trans (g.mono (by omega))).output,(a.trans (g.mono (by omega))).size,(a.trans (g.mono (by omega))).block⟩:Below w.heap.size w _).setCell lR _).setCell lR _
end Go.Proofs.YtljdnoinennfaaaGreatDoor
namespace Go.Proofs.YtljdnoinennfaaaGreatDoor
open Go Go.RowKit
theorem OwI.shape {w:World} {base:Nat} {v:Value} {xs:List It} (c:OwI w base v xs):(v= .slice none 0 0∧xs= [])∨∃g cap,v= .slice (qK g 0) xs.length cap∧xs.length<=cap∧cap<=maxLen∧base<=g∧g<w.heap.size:=by
 rcases c.2 with ⟨a,b⟩ | ⟨g,cap,f,a,b,h,d,e,_⟩
 ·exact .inl ⟨a,qU b⟩
 ·exact .inr ⟨g,cap,a,d,e,b,(c.lt g (by rw [a];rfl)).2⟩
theorem OwI.cells {w:World} {base g cap:Nat} {xs:List It} (c:OwI w base (.slice (qK g 0) xs.length cap) xs):∀j u,(itVs xs)[j]? =some u->w.cell? ((⟨g,0,none⟩:Addr).add j)=some u:=by
 intro j u a
 have b:=c.cellAt j (by have:=(xK.1 a).1;rw [zH]at this;omega)
 rw [Addr.add_lit,xN,b,a]
theorem zU (xs:List It):∀u∈itVs xs,u.oneCell'=true:=by
 intro u b;simp only [itVs,itV,List.mem_flatMap,xR,Qt,or_false]at b
 obtain⟨x,_,a | a | a | a⟩:=b<;>subst a<;>rfl
theorem zBc {w:World} {base:Nat} {e:TypeId} {size:Nat} {v:Value} {n:Nat} {xs:List Value} (b:w.ownsRow base e size v n xs):∀q,v.ownBlock=some q->base<=q:=fun q a=>(b.lt q a).1
theorem own_sl {w:World} {base:Nat} {e:TypeId} {size:Nat} {v:Value} {n:Nat} {xs:List Value} (a:w.ownsRow base e size v n xs):∃ao m cap,v= .slice ao m cap:=by
 rcases a.2 with ⟨rfl,_⟩ | ⟨g,cap,b,rfl,_⟩
 ·exact⟨_,_,_,rfl⟩
 ·exact⟨_,_,_,rfl⟩
theorem Yj {w:World} {base b n:Nat} {e t:TypeId} {size:Nat} {v:Value} {xs:List Value} {cs:Array Value} {d:Nat×Nat} (f:w.ownsRow base e size v n xs) (g:w.heap[b]? =some (.cells cs t d)) (h:e≠t):some b≠v.ownBlock:=by
 rcases f.2 with ⟨rfl,_⟩ | ⟨g',i,j,rfl,_,c,_⟩
 ·simp [Value.ownBlock]
 ·intro a
  simp only [Value.ownBlock,xw]at a;subst a;rw [g]at c;cases c;exact h rfl
def pcC (q:Pc):List Value:=[qJ q.off,qJ q.len,qJ q.brk]
def pcCs (a:List Pc):List Value:=a.flatMap pcC
theorem zBd (a b:List Pc):pcCs (a++b)=pcCs a++pcCs b:=by simp [pcCs]
theorem X6 (c:List Pc) (i k:Nat) (q:Pc) (b:c[i]? =some q) (f:k<3):(pcCs c)[i*3+k]? =(pcC q)[k]?:=by
 induction c generalizing i with
 | nil=>simp at b
 | cons a t d=>
  have e:pcCs (a::t)=pcC a++pcCs t:=by simp [pcCs]
  rw [e]
  cases i with
  | zero=>simp at b;subst b;rw [xA (by simp [pcC];omega)];simp
  | succ i=>
   rw [xe (by simp [pcC];omega)]
   have:=d i (by simpa using b)
   rw [<- this]
   congr 1
   simp [pcC];omega
theorem Tryz.infoPC:(Tryz.prog.info? 69).map (fun i=>(i.zero,i.size,i.bytes))=some (some (.agg #[qJ 0,qJ 0,qJ 0]),3,24):=by kernel_rfl
def OwP (w:World) (base:Nat) (v:Value) (a:List Pc):Prop:=w.ownsRow base 69 3 v a.length (pcCs a)
def PcAt (w:World) (b o:Nat) (q:Pc):Prop:=
 w.cell? ⟨b,o,none⟩=some (qJ q.off)∧w.cell? ⟨b,o+1,none⟩=some (qJ q.len)∧w.cell? ⟨b,o+2,none⟩=some (qJ q.brk)
def RdP (B:Nat) (w:World) (v:Value) (a:List Pc):Prop:=
 (∃ao cap,v= .slice ao 0 cap∧a= [])∨
 (∃b off cap,v= .slice (qK b off) a.length cap∧(0<a.length∧a.length<=cap∧cap<=maxLen)∧b<B∧∀i q,a[i]? =some q->PcAt w b (off+i*3) q)
theorem RdP.below {B B':Nat} {w w':World} {v:Value} {d:List Pc} (a:RdP B w v d) (c:Below B' w w') (n:B<=B'):RdP B w' v d:=by
 rcases a with a | ⟨b,off,cap,f,g,h,j⟩
 ·exact .inl a
 ·refine .inr ⟨b,off,cap,f,g,h,fun i q e=>?_⟩
  obtain⟨k,l,m⟩:=j i q e
  exact⟨(c.cell (p:=⟨b,off+i*3,none⟩) (by show b<B';omega)).trans k,(c.cell (p:=⟨b,off+i*3+1,none⟩) (by show b<B';omega)).trans l,(c.cell (p:=⟨b,off+i*3+2,none⟩) (by show b<B';omega)).trans m⟩
theorem OwP.rd {w:World} {base:Nat} {v:Value} {a:List Pc} (b:OwP w base v a):RdP w.heap.size w v a:=by
 unfold OwP at b
 rcases b.2 with ⟨rfl,c⟩ | ⟨g,cap,h,rfl,j,_,e,f,_⟩
 ·exact .inl ⟨_,_,rfl,qU c⟩
 ·rcases kh a.length with c | c
  ·exact .inl ⟨_,_,by rw [c],qU c⟩
  ·refine .inr ⟨g,0,cap,rfl,⟨c,e,f⟩,(b.lt g rfl).2,fun i q d=>?_⟩
   have hi:i<a.length:=(xK.1 d).1;refine⟨?_,?_,?_⟩
   ·have:=b.cellAt (0+i*3) (by omega)
    rw [this,xN];exact(X6 a i 0 q d (by omega)).trans rfl
   ·have:=b.cellAt (0+i*3+1) (by omega)
    rw [this,xN];exact(X6 a i 1 q d (by omega)).trans rfl
   ·have:=b.cellAt (0+i*3+2) (by omega)
    rw [this,xN];exact(X6 a i 2 q d (by omega)).trans rfl
def midT:Nat->List Pc->AT
 | 0,_=>.nil
 | f+1,a=>match a[a.length/2]? with
  | none=>.nil
  | some p=>.node (midT f (a.take (a.length/2))) p (midT f (a.drop (a.length/2+1)))
theorem X9 (f:Nat):midT f []= .nil:=by cases f<;>simp [midT]
theorem JU {f:Nat} {a:List Pc} {p:Pc} (b:a[a.length/2]? =some p):midT (f+1) a= .node (midT f (a.take (a.length/2))) p (midT f (a.drop (a.length/2+1))):=by
 simp only [midT,b]
theorem Zv:∀ (f:Nat) (a:List Pc),a.length<=f->(midT f a).flat=a
 | 0,a,e=>by
  obtain rfl:a= []:=qU (by omega)
  rfl
 | f+1,a,e=>by
  rcases kh a.length with c | c
  ·obtain rfl:a= []:=qU c
   rw [X9];rfl
  ·have b:a.length/2<a.length:=by omega
   have d:a[a.length/2]? =some a[a.length/2]:=qY b;rw [JU d]
   show(midT f _).flat++_::(midT f _).flat=a
   rw [Zv f _ (by rw [qN];omega),Zv f _ (by rw [qS];omega)]
   rw [<- ko b,xG]
theorem RdP.cutL {B b o cap:Nat} {w:World} {a:List Pc} (h:RdP B w (.slice (qK b o) a.length cap) a) (m:Nat) (e:m<=a.length):RdP B w (.slice (qK b o) m cap) (a.take m):=by
 have g:(a.take m).length=m:=by rw [qN];omega
 rcases kh m with f | f
 ·subst f;exact .inl ⟨_,_,rfl,by simp⟩
 ·rcases h with ⟨_,_,d,j⟩ | ⟨p,r,s,d,k,l,n⟩
  ·rw [j]at e;simp at e;omega
  ·simp only [xF,xw,ka,kW]at d
   obtain⟨⟨rfl,rfl⟩,_,rfl⟩:=d
   refine .inr ⟨b,o,cap,by rw [g],⟨by omega,by omega,k.2.2⟩,l,fun i q c=>n i q ?_⟩
   rw [xO]at c
   split at c
   ·exact c
   ·cases c
theorem RdP.cutR {B b o cap:Nat} {w:World} {a:List Pc} {ao:Option Addr} (g:RdP B w (.slice (qK b o) a.length cap) a) (m:Nat) (h:m<=a.length) (j:m<a.length->ao=some ⟨b,o+m*3,none⟩):RdP B w (.slice ao (a.length - m) (cap - m)) (a.drop m):=by
 have f:(a.drop m).length=a.length - m:=by rw [qS]
 rcases Nat.eq_or_lt_of_le h with c | c
 ·refine .inl ⟨ao,cap - m,by rw [c,vO],kM (by omega)⟩
 ·rcases g with ⟨_,_,d,k⟩ | ⟨p,r,s,d,t,l,n⟩
  ·rw [k]at c;simp at c
  ·simp only [xF,xw,ka,kW]at d
   obtain⟨⟨rfl,rfl⟩,_,rfl⟩:=d
   refine .inr ⟨b,o+m*3,cap - m,by rw [f,j c],⟨by omega,by omega,by omega⟩,l,fun i q e=>?_⟩
   rw [vn]at e;have:=n (m+i) q e
   rw [show o+m*3+i*3=o+(m+i)*3 by omega]
   exact this
theorem zBe {W:World} {base:Nat} {v:Value} {a F:List It} {n m:Nat} (b:a.length=n) (c:F.length=m) (d:W.ownsRow base 71 4 v (n+m) (itVs a++itVs F)):OwI W base v (a++F):=by
 subst b c;unfold OwI;rw [qM,zS];exact d
theorem zBf (f:Nat) (a:List Pc) (b:a.length<=f) (d:Int):((midT f a).told d).length=a.length:=by
 rw [AT.told_length,<- AT.flat_length,Zv f a b]
theorem middleL:∀ (f:Nat) (c:List Pc) (B:Nat) (v:Value) (a:Int) (w:World),c.length<=f->RdP B w v c->B<=w.heap.size->c.length<=8192->(0<=a∧a+f<=100000)->
  Calls Tryz.prog 63 #[v,qJ a] w fun e w'=>∃av,e= .returned av∧OwI w' w.heap.size av ((midT f c).told a)∧Below w.heap.size w w':=by
 intro f
 induction f with
 | zero=>
  intro c B v a w ak P Q al bh
  obtain rfl:c= []:=qU (by omega)
  obtain⟨ao,cap,rfl⟩:∃ao cap,v= .slice ao 0 cap:=by
   rcases P with ⟨ao,cap,rfl,_⟩ | ⟨_,_,_,_,r,_⟩
   ·exact⟨_,_,rfl⟩
   ·simp at r
  go_enter Tryz.func63,Tryz.ntmps63;go_wp2;go_ret;exact⟨_,rfl,km _ _ _ _,qO _ _⟩
 | succ f a3=>
  intro c B v a w ak P Q al bh;have G:=qG a3;clear a3;obtain⟨bl,hi,bv,bw,bx⟩:=xM Tryz.qk
  rcases P with ⟨ao,cap,rfl,rfl⟩ | ⟨b,o,cap,rfl,r,bm,U⟩
  ·rw [X9]
   go_enter Tryz.func63,Tryz.ntmps63;go_wp2;go_ret;exact⟨_,rfl,km _ _ _ _,qO _ _⟩
  ·have s:=qG (show RdP B w (.slice (qK b o) c.length cap) c from .inr ⟨b,o,cap,rfl,r,bm,U⟩)
   have H:c.length/2<c.length:=by omega
   obtain⟨p,V⟩:∃p,c[c.length/2]? =some p:=⟨_,qY H⟩;obtain⟨ax,ay,az⟩:=U _ p V;have t:=qG (JU (f:=f) V);generalize midT (f+1) c=au at t |-;unfold maxLen at r;obtain⟨m,C⟩:∃m,m=c.length/2:=⟨_,rfl⟩;rw [<- C]at H ax ay az t;obtain⟨n,d⟩:∃n,n=c.length:=⟨_,rfl⟩
   have a4:(n:Int)/2=(m:Int):=by rw [C,d];omega
   have bq:((n:Int)==0)=false:=by simp;omega
   rw [<- d]at r H al ak;rw [<- d];have br:=qG d
   have I:=qG (s.cutL m (by rw [<- d];omega))
   obtain⟨A,D⟩:∃A,A=(if cap=m+1 then some (⟨b,o,none⟩:Addr)else some ⟨b,o+(m+1)*3,none⟩):=⟨_,rfl⟩
   have J:=qG (show RdP B w (.slice A (n - (m+1)) (cap - (m+1))) (c.drop (m+1))from(by
    have g:=s.cutR (m+1) (ao:=A) (by rw [<- d];omega) (fun bk=>by rw [<- d]at bk;rw [D,qT (by omega)])
    rw [<- d]at g;exact g))
   have K:(c.take m).length=m:=by rw [qN,<- d];omega
   have lR:(c.drop (m+1)).length=n - (m+1):=by rw [qS,<- d]
   have x:=qG (zBf f (c.take m) (by omega) (a+1))
   have Y:=qG (zBf f (c.drop (m+1)) (by omega) (a+1))
   rw [K]at x;rw [lR]at Y
   have L:=qG (show au.told a=(midT f (c.take m)).told (a+1)++⟨p,a⟩::(midT f (c.drop (m+1))).told (a+1)from(by rw [t.out];rfl))
   generalize au.told a=bu at L |-
   have Z:=qG (G (c.take m) B (.slice (qK b o) m cap) (a+1) w (by omega) I Q (by omega) (by omega))
   by_cases aq:cap=m+1
   case' pos=>
    have a5:n=m+1:=by omega
    have aa:c.drop (m+1)= []:=kM (by omega)
    have ab:=qG (fun W (aw:Below w.heap.size w W) (S:B<=W.heap.size)=>G (c.drop (m+1)) B (.slice (qK b o) 0 0) (a+1) W (by omega) (.inl ⟨_,_,rfl,aa⟩) S (by omega) (by omega))
    have bs:((m:Int)+1)/2=(m:Int):=by omega
    clear aa J D s I C d K lR a4;subst a5;subst aq
   case' neg=>
    rw [qT aq]at D;subst D
    have ab:=qG (fun W (aw:Below w.heap.size w W) (S:B<=W.heap.size)=>G (c.drop (m+1)) B (.slice (qK b (o+(m+1)*3)) (n - (m+1)) (cap - (m+1))) (a+1) W (by omega) (J.below aw Q) S (by omega) (by omega))
    clear J s I C d K lR
   all_goals
    generalize (midT f (c.take m)).told (a+1)=h at *;generalize (midT f (c.drop (m+1))).told (a+1)=i at *;clear t U V;go_enter Tryz.func63,Tryz.ntmps63;go_wp2_with fail;refine Z.mono ?_;rintro e w1 ⟨a0,rfl,a1,j⟩;have ac:=qG j;have a6:=j.size
    have a7:=(j.cell (p:=⟨b,o+m*3,none⟩) (by show b<w.heap.size;omega)).trans ax
    have a8:=(j.cell (p:=⟨b,o+m*3+1,none⟩) (by show b<w.heap.size;omega)).trans ay
    have a9:=(j.cell (p:=⟨b,o+m*3+2,none⟩) (by show b<w.heap.size;omega)).trans az
    have M:=qG a1
    have ad:=qG (show(w1.alloc (.cells #[qJ p.off,qJ p.len,qJ p.brk,qJ a] 71)).ownsRow w.heap.size 71 4 a0 m (itVs h)from(by have g:=M;unfold OwI at g;rw [x.out]at g;exact vL g _))
    have ae:=qG (zL w1 71 [qJ p.off,qJ p.len,qJ p.brk,qJ a]);clear a1 j Z
    go_wp2_with (at_builtin;refine a26 _ rfl _ _ rfl w.heap.size a0 m (itVs h) rfl (by exact ad) ⟨w1.heap.size,0,none⟩ 1 1 [qJ p.off,qJ p.len,qJ p.brk,qJ a] rfl rfl (by exact ae) (by intro u am;simp at am;rcases am with rfl | rfl | rfl | rfl<;>rfl) (by unfold maxLen;omega) (by omega) (by first | omega | (simp;omega)) ?_;intro z an k l R;refine vW ?_)
    refine Lib.hid ?_
    have af:=qG (show OwI an w.heap.size z (h++ [⟨p,a⟩])from zBe (F:=[⟨p,a⟩]) x rfl k)
    have y:=qG ((ac.alloc a6 (.cells #[qJ p.off,qJ p.len,qJ p.brk,qJ a] 71)).grown l (by simp;omega) (fun q T=>(M.lt q T).1))
    have ba:=y.size
    have ag:(h++ [(⟨p,a⟩:It)]).length=m+1:=by rw [qM,x.out];rfl
    have ah:=qG ag;clear k l R ae ad M ac a7 a8 a9 ag;go_wp2_with fail
    refine(ab an (y) (by omega)).mono ?_
    rintro e a2 ⟨bn,rfl,E,X⟩
    have bc:=qG (show OwI a2 _ bn i from E)
    have N:=qG (zA af X lR);have O:=qG (y.trans (X.mono ba));have z3:=O.size
    have ai:=qG (show a2.ownsRow w.heap.size 71 4 z (m+1) (itVs (h++ [⟨p,a⟩]))from(by have g:=N;rw [ah.out]at g;exact g))
    clear X af y
    rcases OwI.shape E with ⟨rfl,rfl⟩ | ⟨bo,bp,rfl,bz,b0,b1,b2⟩
    ·clear E
     go_wp2_with (at_builtin;refine wpList_append_own_none rfl _ _ 26 rfl w.heap.size 71 bl 4 Tryz.underlying26 hi _ _ _ rfl (by exact ai) rfl ?_)
     go_ret;refine⟨z,rfl,?_,O⟩;rw [L.out];exact N
    ·have bd:=qG Y
     have be:=qG (OwI.cells bc)
     have bt:i.length<=8192:=by rw [bd.out];omega
     clear E;generalize ar:i.length=bj at *;have aj:=qG ar;clear ar
     go_wp2_with (at_builtin;refine a26 _ rfl _ _ rfl w.heap.size z (m+1) (itVs (h++ [⟨p,a⟩])) rfl (by exact ai) ⟨bo,0,none⟩ bj bp (itVs i) rfl (by rw [zH,aj.out]) (by exact be) (zU i) (by unfold maxLen;omega) (by omega) (by first | omega | (simp;omega)) ?_;intro ap bi k l R;refine vW ?_)
     refine Lib.hid ?_
     have bf:=qG (show OwI bi w.heap.size ap (h++ [⟨p,a⟩]++i)from zBe ah aj k)
     have bg:=qG (O.grown l (by omega) (fun q T=>(N.lt q T).1))
     clear k l R;go_wp2;go_ret;refine⟨ap,rfl,?_,bg⟩
     rw [L.out,show h++⟨p,a⟩::i=h++ [⟨p,a⟩]++i by simp]
     exact bf
def cln (n i:Nat):Nat:=min 16 (n - 16*i)
def chP (zs:List Int) (i:Nat):Pc:=⟨((16*i:Nat):Int),((cln zs.length i:Nat):Int),brk ((zs.drop (16*i)).take (cln zs.length i))⟩
def chs (zs:List Int) (j:Nat):List Pc:=(List.range j).map (chP zs)
theorem jf (zs:List Int) (j:Nat):(chs zs j).length=j:=by simp [chs]
theorem zBg (zs:List Int) (j:Nat):chs zs (j+1)=chs zs j++ [chP zs j]:=by simp [chs,List.range_succ]
theorem Tryz.info32P:(Tryz.prog.info? 21).map (fun i=>(i.zero,i.size,i.bytes))=some (some (.int .i32 0),1,4):=by kernel_rfl
def ldT (zs:List Int):AT:=midT 8192 (chs zs ((zs.length+15)/16))
theorem zBh {w:World} {base g cap:Nat} {zs:List Int} (b:own32 w base (.slice (qK g 0) zs.length cap) zs):∀i,i<zs.length->w.cell? ⟨g,0+i,none⟩=some (.int .i32 (zs.getD i 0)):=by
 intro i hi
 have a:=b.cellAt i (by omega)
 rw [xN,a];simp [ints,qW,hi]
theorem zFu {W:World} {base:Nat} {v:Value} {a F:List Pc} {n m:Nat} (b:a.length=n) (c:F.length=m) (d:W.ownsRow base 69 3 v (n+m) (pcCs a++pcCs F)):OwP W base v (a++F):=by
 subst b c;unfold OwP;rw [qM,zBd];exact d
theorem zD0 (W:World):OwP (W.alloc (.cells #[] 69)) W.heap.size (.slice (qK W.heap.size 0) 0 0) []:=
 ⟨rfl,.inr ⟨_,0,#[],rfl,lR,xm _ _,lR,by unfold maxLen;omega,rfl,rfl⟩⟩
theorem zFv (zs:List Int) (j:Nat) (l:Int) (c:l=(cln zs.length j:Nat)):pcCs [chP zs j]= [qJ (16*(j:Int)),qJ l,qJ (brk ((zs.drop (16*(j:Int)).toNat).take l.toNat))]:=by
 have a:(16*(j:Int)).toNat=16*j:=by omega
 have b:l.toNat=cln zs.length j:=by omega
 rw [a,b,c];simp [pcCs,pcC,chP]
theorem specLoad (base:Nat) (zs:List Int) (b cap:Nat) (w:World) (O:own32 w base (.slice (qK b 0) zs.length cap) zs) (bm:zs.length<=8192):
  Calls Tryz.prog 32 #[.slice (qK b 0) zs.length cap] w fun e w'=>∃M aj,e= .returned (.tuple #[.agg #[M,aj],qJ 0])∧own32 w' w.heap.size M zs∧OwI w' w.heap.size aj ((ldT zs).told 0)∧Below w.heap.size w w'∧∃g n c,M= .slice (qK g 0) n c:=by
 obtain⟨b5,hi,b6,b7,b8⟩:=xM Tryz.info32P;have bt:=(O.lt b rfl).2
 have F:=qG (((qO w.heap.size w).alloc lR (.cells #[.slice none 0 0,.slice none 0 0] 30)).alloc (by simp) (.cells #[] 21))
 have T:((w.alloc (.cells #[.slice none 0 0,.slice none 0 0] 30)).alloc (.cells #[] 21)).heap[w.heap.size]? =some (.cells #[.slice none 0 0,.slice none 0 0] 30 (0,0)):=by
  rw [vP _ _ _ (by simp)];exact xm _ _
 have U:((w.alloc (.cells #[.slice none 0 0,.slice none 0 0] 30)).alloc (.cells #[] 21)).ownsRow (w.heap.size+1) 21 1 (.slice (qK (w.heap.size+1) 0) 0 0) 0 []:=by
  refine⟨rfl,.inr ⟨_,0,#[],rfl,lR,?_,lR,by unfold maxLen;omega,rfl,rfl⟩⟩
  have:=xm (w.alloc (.cells #[.slice none 0 0,.slice none 0 0] 30)) (.cells #[] 21);simpa using this
 have G:=qG U;have V:=qG T;have X:=qG (zA O F lR)
 have Y:=qG (fun(j:Nat) (u:Value) (ai:(ints .i32 zs)[j]? =some u)=>X.cells (g:=b) rfl j u ai)
 have bu:w.heap.size+1<((w.alloc (.cells #[.slice none 0 0,.slice none 0 0] 30)).alloc (.cells #[] 21)).heap.size:=by simp
 have hgt:¬ (8192:Int)<(zs.length:Int):=by omega
 obtain⟨n,E⟩:∃n,n=zs.length:=⟨_,rfl⟩;have d:=qG E;rw [<- E]at bm hgt;rw [<- E];clear O U T E;go_enter Tryz.func32,Tryz.ntmps32
 go_upto_region 3 with fail
 go_wp2_with (at_builtin;refine a25 _ rfl _ _ rfl (w.heap.size+1) (.slice (qK (w.heap.size+1) 0) 0 0) 0 [] rfl (by exact G) ⟨b,0,none⟩ n cap (ints .i32 zs) rfl (by rw [zC,<- d.out];omega) (by exact Y) (zF .i32 zs) (by unfold maxLen;omega) (by omega) (by simp) ?_;intro L a y z D;refine vW ?_)
 refine Lib.hid ?_
 have B:=qG (show own32 a (w.heap.size+1) L zs from(by have s:=y;unfold own32;rw [<- d.out];rw [xN,xJ]at s;exact s))
 have C:=qG ((qO (w.heap.size+1) _).grown z (by omega) (fun q h=>(G.lt q h).1))
 have ao:=qG (F.trans (C.mono (by omega)))
 have ap:=qG ((C.block w.heap.size (by omega)).trans V)
 have bv:w.heap.size+1<a.heap.size:=by have:=C.size;omega
 have Z:=qG (show ¬L= .slice none 0 0 from fun e=>absurd (D.1 e).1 (by simp))
 clear y z D G V X Y F C
 obtain⟨g,c,rfl,bn,ak⟩:∃g c,L= .slice (qK g 0) n c∧n<=c∧c<=maxLen:=by
  rcases B.2 with ⟨bo,_⟩ | ⟨g,c,b9,al,_,_,am,bp,_⟩
  ·exact absurd bo Z
  ·rw [<- d.out]at al am;exact⟨g,c,al,am,bp⟩
 have aq:g<a.heap.size:=(B.lt g rfl).2
 have ar:=qG (show ∀i,i<n->a.cell? ⟨g,0+i,none⟩=some (.int .i32 (zs.getD i 0))from fun i hi=>zBh (base:=w.heap.size+1) (cap:=c) (by rw [<- d.out];exact B) i (by rw [<- d.out];exact hi))
 have au:=qG (zD0 a);have av:=qG ((qO a.heap.size a).alloc lR (.cells #[] 69));clear Z;go_wp2_with fail;generalize a.alloc (.cells #[] 69)=b2 at *;generalize (Value.slice (qK a.heap.size 0) 0 0)=b3 at *
 have H:=qG (fun k l W bf bg bh bi bj=>yf zs g 0 c k l W bf bg bh bi bj (by rw [<- d.out];exact bn) ak (by rw [<- d.out];omega))
 simp only [<- d.out]at H;unfold maxLen at ak
 go_loopw [5,6] (fun bk N wr=>∃j:Nat,N=qJ (16*(j:Int))∧16*j<n+16∧OwP wr a.heap.size bk (chs zs j)∧Below a.heap.size a wr) (fun _ N _=>n+16 - (intOf N).toNat)
 case atStart=>exact⟨0,by first | rfl | go_num,by omega,au,av⟩
 case round=>
  obtain⟨j,rfl,ca,an,f⟩:=hrel;have aa:=qG an;have aw:=qG f;have ax:=f.size;clear an
  by_cases ai:16*j<n
  ·have ay:16*(j:Int)<(n:Int):=by omega
   have I:=qG (fun i hi=>(f.cell (p:=⟨g,0+i,none⟩) aq).trans (ar i hi))
   clear f
   by_cases b1:(16:Int)<(n:Int) - 16*(j:Int)
   case' pos=>
    obtain⟨l,P⟩:∃l:Int,l=16:=⟨_,rfl⟩
    have J:l=((cln n j:Nat):Int):=by unfold cln;omega
    have K:=qG (H (16*(j:Int)) 16 wr I (by omega) (by omega) (by omega) (by omega))
   case' neg=>
    obtain⟨l,P⟩:∃l:Int,l=(n:Int) - 16*(j:Int):=⟨_,rfl⟩
    have J:l=((cln n j:Nat):Int):=by unfold cln;omega
    have K:=qG (H (16*(j:Int)) ((n:Int) - 16*(j:Int)) wr I (by omega) (by omega) (by omega) (by omega))
   all_goals
    have t:=qG (zFv zs j l (by rw [<- d.out];exact J))
    rw [P]at t;clear P J I;generalize brk _=b4 at K t;go_wp2_with fail;refine K.mono ?_;rintro e Q ⟨rfl,R⟩;have ab:=qG (aw.trans (R.mono ax));have az:=ab.size;have ac:=qG (zA aa R lR)
    have a0:=qG (fun o=>show(Q.alloc o).ownsRow a.heap.size 69 3 _ j (pcCs (chs zs j))from(by have s:=ac;rw [jf]at s;exact vL s _))
    have a1:=qG (fun bl=>zL Q 69 bl)
    have bw:j<=8192:=by omega
    clear R
    go_wp2_with (at_builtin;refine a107 _ rfl _ _ rfl a.heap.size _ j (pcCs (chs zs j)) rfl (by exact a0 _) ⟨Q.heap.size,0,none⟩ 1 1 (pcCs [chP zs j]) rfl (by rw [t.out];rfl) (by rw [t.out];exact a1 _) (by rw [t.out];intro u ah;simp at ah;rcases ah with rfl | rfl | rfl<;>rfl) (by unfold maxLen;omega) (by omega) (by simp;omega) ?_;intro bd be y z D;refine vW ?_)
    refine Lib.hid ?_
    have a2:=qG (show OwP be a.heap.size bd (chs zs (j+1))from(by rw [zBg];exact zFu (jf zs j) rfl y))
    have a3:=qG ((ab.alloc az _).grown z (by simp;omega) (fun q h=>(ac.lt q h).1))
    clear y z D;go_wp2;go_roundw
    case rel=>exact⟨j+1,by first | rfl | go_num | (congr 1;omega),by omega,a2,a3⟩
    case measure=>simp [intOf];omega
  ·have ay:¬16*(j:Int)<(n:Int):=by omega
   have ad:j=(n+15)/16:=by omega
   have a4:=qG ad;have a5:=qG (zA B f lR)
   have a6:=qG ((f.block w.heap.size (by omega)).trans ap)
   have a7:=qG (ao.trans (f.mono (by omega)))
   have ae:=qG (middleL 8192 (chs zs j) _ _ 0 _ (by rw [jf];omega) (OwP.rd aa) lR (by rw [jf];omega) (by omega))
   clear ad f;go_wp2_with fail;refine ae.mono ?_;rintro e m ⟨cb,rfl,S,A⟩;obtain⟨bq,br,bs,rfl⟩:=own_sl S;have af:=qG S;have ag:=qG (zA a5 A lR)
   have r:=qG ((A.block w.heap.size (by omega)).trans a6)
   have a8:=qG (a7.trans (A.mono (by omega)))
   have a9:m.cell? ⟨w.heap.size,0,none⟩=some (.slice none 0 0):=by rw [qQ m _ 0 _ _ _ r.out];rfl
   have ba:m.cell? ⟨w.heap.size,1,none⟩=some (.slice none 0 0):=by rw [qQ m _ 1 _ _ _ r.out];rfl
   have bx:=xo m w.heap.size 0 _ _ r;have bz:=xo m w.heap.size 1 _ _ r
   have b0:w.heap.size<m.heap.size:=by have:=A.size;omega
   clear S A ae;go_wp2
   refine xr (v:=.tuple #[.agg #[.slice (qK g 0) n c,.slice bq br bs],qJ 0]) (by simp [results,Tryz.results32,go_sem,a9,ba]) rfl ⟨_,_,rfl,?_,?_,?_,⟨_,_,_,rfl⟩⟩
   ·refine zB (zD ag (by omega)) (fun q h=>?_)
    have x:q≠w.heap.size:=fun e=>Yj ag r (by decide) (by rw [h,e])
    rw [xn _ _ _ _ x,xn _ _ _ _ x]
   ·have bc:(ldT zs).told 0=(midT 8192 (chs zs j)).told 0:=by unfold ldT;rw [<- d.out,a4.out]
    rw [bc]
    refine zB (zD af (by omega)) (fun q h=>?_)
    have x:q≠w.heap.size:=fun e=>Yj af r (by decide) (by rw [h,e])
    rw [xn _ _ _ _ x,xn _ _ _ _ x]
   ·exact(a8.setCell (by simp) _).setCell (by simp) _
theorem zAb:∀ (f:Nat) (a:List Pc),a.length<=f->(midT f a).bal∧a.length<2 ^ (midT f a).ht∧((midT f a).ht=0∨2 ^ ((midT f a).ht - 1)<=a.length)
 | 0,a,s=>by
  obtain rfl:a= []:=qU (by omega)
  exact⟨xH,by simp [midT,AT.ht],.inl rfl⟩
 | f+1,a,s=>by
  rcases kh a.length with h | h
  ·obtain rfl:a= []:=qU h
   rw [X9]
   exact⟨xH,by simp [AT.ht],.inl rfl⟩
  ·have i:a.length/2<a.length:=by omega
   have j:a[a.length/2]? =some a[a.length/2]:=qY i
   have k:(a.take (a.length/2)).length=a.length/2:=by rw [qN];omega
   have l:(a.drop (a.length/2+1)).length=a.length - (a.length/2+1):=by rw [qS]
   obtain⟨o,g,b⟩:=zAb f (a.take (a.length/2)) (by omega)
   obtain⟨p,r,d⟩:=zAb f (a.drop (a.length/2+1)) (by omega)
   rw [JU j];rw [k]at g b;rw [l]at r d;generalize (midT f (a.take (a.length/2)))=A at *;generalize (midT f (a.drop (a.length/2+1)))=B at *
   have m:B.ht<=A.ht:=by
    rcases d with d | d
    ·omega
    ·rcases xS A.ht B.ht with q | q
     ·have:=jg (show 0<2 by omega) (show A.ht<=B.ht - 1 by omega)
      omega
     ·exact q
   have t:A.ht<=B.ht+1:=by
    rcases b with b | b
    ·omega
    ·rcases xS (B.ht+1) A.ht with q | q
     ·have u:=jg (show 0<2 by omega) (show B.ht+1<=A.ht - 1 by omega)
      have c:2 ^ (B.ht+1)=2 ^ B.ht*2:=Nat.pow_succ ..;omega
     ·exact q
   have v:=jg (show 0<2 by omega) m
   refine⟨⟨o,p,by omega,by omega⟩,?_,.inr ?_⟩
   ·simp only [AT.ht]
    have e:max A.ht B.ht=A.ht:=by omega
    rw [e];have c:2 ^ (A.ht+1)=2 ^ A.ht*2:=Nat.pow_succ ..
    rw [show 1+A.ht=A.ht+1 by omega]<;>omega
   ·simp only [AT.ht]
    have e:max A.ht B.ht=A.ht:=by omega
    rw [e]
    rcases b with b | b
    ·rw [b];simp;omega
    ·have c:2 ^ A.ht=2 ^ (A.ht - 1)*2:=by
      rcases kh A.ht with q | q
      ·rw [q]at b g;simp at b g;omega
      ·rw [<- Nat.pow_succ,Nat.succ_eq_add_one,Nat.sub_add_cancel q]
     have n:1+A.ht - 1=A.ht:=by omega
     first | (rw [n,c];omega) | (simp only [vU];rw [c];omega)
theorem zBi (zs:List Int):∀j,16*j<zs.length+16->lsum (chs zs j)=((min (16*j) zs.length:Nat):Int)
 | 0,_=>by simp [chs,lsum]
 | j+1,a=>by
  rw [zBg,zO,zBi zs j (by omega),zJ,jc]
  simp only [chP,cln];omega
theorem chP_wp (zs:List Int) (i:Nat) (hi:16*i<zs.length):WP zs (chP zs i)∧1<=(chP zs i).len∧(chP zs i).len<=16:=by
 have a:cln zs.length i<=16∧1<=cln zs.length i∧16*i+cln zs.length i<=zs.length:=by unfold cln;omega
 refine⟨⟨?_,?_,?_,?_⟩,?_,?_⟩
 ·simp only [chP];omega
 ·simp only [chP];omega
 ·simp only [chP];omega
 ·simp only [chP,ptx,vH]
 ·simp only [chP];omega
 ·simp only [chP];omega
theorem ldT_all (zs:List Int) (m:zs.length<=8192):(ldT zs).ok∧(ldT zs).bal∧(ldT zs).wp zs∧(ldT zs).rns=zs.length:=by
 have b:(chs zs ((zs.length+15)/16)).length<=8192:=by rw [jf];omega
 have c:(ldT zs).flat=chs zs ((zs.length+15)/16):=Zv 8192 _ b
 have d:(ldT zs).rns=zs.length:=by rw [AT.qe,c,zBi zs _ (by omega)];omega
 have e:∀p∈(ldT zs).flat,WP zs p∧1<=p.len∧p.len<=16:=by
  intro p a;rw [c]at a;obtain⟨i,hi,rfl⟩:=kS.1 a
  exact chP_wp zs i (by have:=kI.1 hi;omega)
 refine⟨⟨fun p a=>?_,by rw [d];omega⟩,(zAb 8192 _ b).1,(zW zs _).2 fun p a=>(e p a).1,d⟩
 obtain⟨⟨f,g,h,j⟩,n,o⟩:=e p a;have k:=Jw (ptx zs p);have l:((ptx zs p).length:Int)=p.len:=Zq ⟨f,g,h,j⟩;simp only [pcOk,qZ];omega
theorem Chg.qy {w w':World} {p:Nat} (a:w.grownBy w' (some p)):Chg [p] w w':=
 ⟨a.os,a.tape,a.output,a.size,fun k b c=>a.block k b (fun e=>c (by cases e;simp))⟩
def SrcB (bs:List Int) (a:Value) (p:Nat) (w:World):Prop:=Src bs a p w∧∀b off cap,a= .slice (qK b off) bs.length cap->0<bs.length->b<p
theorem SrcB.chg {bs:List Int} {f:Value} {p:Nat} {w w':World} {cs:List Nat} (a:SrcB bs f p w) (g:Chg cs w w') (h:∀x∈cs,p<x):SrcB bs f p w':=by
 refine⟨?_,a.2⟩;have l:=a.1.lt;have m:=a.2;obtain⟨⟨i,x,o,q,r,s⟩,t,u,d⟩:=a.1
 refine⟨⟨i,x,o,q,r,(g.block p l (fun c=>by have:=h p c;omega)).trans s⟩,t,u,?_⟩
 rcases d with d | ⟨b,off,cap,j,v,k,y⟩
 ·exact .inl d
 ·refine .inr ⟨b,off,cap,j,v,k,fun i hi=>?_⟩
  have e:=y i hi;have n:=xD w _ e;have z:=m b off cap j k.1
  rw [qV (w:=w) (g.block b n (fun c=>by have:=h b c;omega))]
  exact e
theorem SrcB.below {bs:List Int} {d:Value} {p B:Nat} {w w':World} (a:SrcB bs d p w) (e:Below B w w') (h:p<B) (t:B<=w.heap.size):SrcB bs d p w':=by
 refine⟨?_,a.2⟩;obtain⟨⟨i,x,j,k,l,m⟩,n,o,c⟩:=a.1;refine⟨⟨i,x,j,k,l,(e.block p h).trans m⟩,n,o,?_⟩
 rcases c with c | ⟨b,off,cap,f,q,g,r⟩
 ·exact .inl c
 ·refine .inr ⟨b,off,cap,f,q,g,fun i hi=>?_⟩
  have s:=a.2 b off cap f g.1
  rw [e.cell (p:=⟨b,off+i,none⟩) (by show b<B;omega)]
  exact r i hi
theorem yV (bs:List Int) (a:Value) (p:Nat) (k:Int) (w:World) (b:SrcB bs a p w) (h:0<k) (i:k<=1048576):
  Calls Tryz.prog 34 #[.pointer (qK p 0),qJ k] w fun e w'=>∃r:Int,e= .returned (qJ r)∧(0<=r∧r<k)∧SrcB bs a p w'∧Chg [p] w w':=
 (drawN bs a p k w b.1 h i).mono fun e w' ⟨r,c,d,f,g⟩=>⟨r,c,d,⟨f,b.2⟩,Chg.qy g⟩
theorem Zc (bs:List Int) (a:Value) (p:Nat) (k:Int) (w:World) (c:SrcB bs a p w) (h:0<k) (i:k<=1048576):
  Calls Tryz.prog 28 #[.pointer (qK p 0),qJ k] w fun e w'=>∃b:Bool,e= .returned (.bool b)∧SrcB bs a p w'∧Chg [p] w w':=
 (Yk bs a p k w c.1 h i).mono fun e w' ⟨r,d,f,g⟩=>⟨r,d,⟨f,c.2⟩,Chg.qy g⟩
theorem tallN (n:Nat) (ao:Option Addr) (cap:Nat) (w:World) (f:n<=1048576):
  Calls Tryz.prog 31 #[.slice ao n cap] w fun e w'=>∃r:Int,e= .returned (qJ r)∧(0<=r∧r<=7)∧w'=w:=by
 go_enter Tryz.func31,Tryz.ntmps31;go_wp2_with fail
 go_loopw [3,4] (fun b m wr=>∃ (a:Int) (q:Nat),b=qJ a∧m=qJ q∧(2<=a∧a+q<=1048578)∧wr=w) (fun _ m _=>(intOf m).toNat)
 case atStart=>exact⟨2,n,rfl,rfl,by omega,rfl⟩
 case round=>
  obtain⟨a,q,rfl,rfl,g,rfl⟩:=hrel
  by_cases c:(q:Int) > 2
  ·go_wp2
   go_roundw
   case rel=>exact⟨a+1,q/2,rfl,by first | rfl | go_num | (simp;omega),by omega,by first | rfl | trivial⟩
   case measure=>simp [intOf];omega
  ·by_cases d:a > 7
   ·go_wp2
    go_ret
    exact⟨_,rfl,by omega,rfl⟩
   ·go_wp2
    go_ret
    exact⟨_,rfl,by omega,rfl⟩
theorem size1 (n:Nat) (ao:Option Addr) (cap:Nat) (m:Int) (w:World) (a:n<=1048576) (b:2<=m∧m<=1048576):
  Calls Tryz.prog 30 #[.slice ao n cap,qJ m] w fun e w'=>∃r:Int,e= .returned (qJ r)∧(0<r∧r<=m)∧w'=w:=by
 go_enter Tryz.func30,Tryz.ntmps30;go_wp2
 ·go_ret
  exact⟨_,rfl,⟨by omega,by omega⟩,rfl⟩
 ·go_ret
  exact⟨_,rfl,⟨by omega,by omega⟩,rfl⟩
end Go.Proofs.YtljdnoinennfaaaGreatDoor
