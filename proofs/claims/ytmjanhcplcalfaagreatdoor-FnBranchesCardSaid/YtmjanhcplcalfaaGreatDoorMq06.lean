import Derived.Test.YtmjanhcplcalfaaGreatDoorMq04
import Derived.Test.YtmjanhcplcalfaaGreatDoorMq05
import Derived.Deep.QuietTactic
import Derived.BigQuiet
import Derived.Maps.AppendAt
import Derived.Lib.SliceRun
import Derived.Lib.QuietBelow
set_option linter.all false
set_option maxRecDepth 100000
set_option maxHeartbeats 8000000
namespace Go.Proofs.YtmjanhcplcalfaaGreatDoor
open Go Go.RowKit Go.Proofs.Tryz
def At32 (w:World) (b o:Nat) (zs:List Int):Prop:=∀i,i<zs.length->w.cell? ⟨b,o+i,none⟩=some (.int .i32 (zs.getD i 0))
theorem At32.below {B:Nat} {w w':World} {b o:Nat} {zs:List Int} (a:At32 w b o zs) (c:Below B w w') (d:b<B):At32 w' b o zs:=fun i hi=>(c.cell (p:=⟨b,o+i,none⟩) d).trans (a i hi)
theorem wps_at {zs:List Int} {xs:List It} {j:Nat} {x:It} (a:xs[j]? =some x) (b:wpB zs x.pc=false):wps zs xs=false:=by
 cases hh:wps zs xs with
 | false=>rfl
 | true=>have:=xV.1 hh x (xM.2 ⟨j,a⟩);rw [b]at this;cases this
theorem pvalidS (B:Nat) (zs:List Int) (b o cap:Nat) (v:Value) (xs:List It) (w:World) (G:At32 w b o zs) (N:b<w.heap.size) (bt:zs.length<=1048576) (bu:zs.length<=cap) (a2:cap<=maxLen) (k:RdI B w v xs) (a3:B<=w.heap.size) (a4:xs.length<=1048576):
  Calls prog 15 #[.agg #[.slice (qK b o) zs.length cap,v]] w fun e w'=>e= .returned (.bool (pRead zs xs).isSome)∧Below w.heap.size w w':=by
 obtain⟨ao,c,rfl⟩:=k.val;have a:=qG (zAc zs xs);generalize (pRead zs xs).isSome=M at a |-;have t:=qG ((qO w.heap.size w).alloc lR (.cells #[.slice (qK b o) zs.length cap,.slice ao xs.length c] 30));have Q:=qG (k.below t a3);have R:=qG (G.below t N);have a7:(w.alloc (.cells #[.slice (qK b o) zs.length cap,.slice ao xs.length c] 30)).heap.size=w.heap.size+1:=by simp
 have S:(w.alloc (.cells #[.slice (qK b o) zs.length cap,.slice ao xs.length c] 30)).heap[w.heap.size]? =some (.cells #[.slice (qK b o) zs.length cap,.slice ao xs.length c] 30 (0,0)):=xg _ _;have u:=qG (validS B _ xs _ Q (by omega) a4);have a8:(zs.length:Int)<=1048576:=by omega
 clear G;by_cases bq:zs.length > 220000
 ·have ag:(zs.length:Int) > 220000:=by omega
  clear k;go_enter func15,ntmps15;go_wp2;go_ret;exact⟨by rw [a.out,ka (by omega)];rfl,t⟩
 have ag:¬ (zs.length:Int) > 220000:=by omega
 rw [kR (show zs.length<=220000 by omega),Qe]at a
 have T:∀j,j<xs.length->∃b off x,ao=some ⟨b,off,none⟩∧b<B∧xs[j]? =some x∧ItAt w b (off+j*4) x:=by
  intro j K;obtain⟨b,off,c,e,_,N,G⟩:=k.at (by intro e;subst e;simp at K)
  cases e;obtain⟨x,a5,a6⟩:=ZV (B:=B) (cap:=cap) G K;exact⟨b,off,x,rfl,N,a5,a6⟩
 have ah:=qG T
 have ai:xs.length<=c∧c<=maxLen∨xs.length=0:=by
  rcases k with ⟨_,_,e,rfl⟩ | ⟨_,_,_,e,aa,_⟩
  ·right;rfl
  cases e;left;exact⟨aa.2.1,aa.2.2⟩
 unfold maxLen at ai a2;have U:Hid (okT xs=true->Pcs xs):=qG fun a1=>(okT_pcs a1).1
 generalize bs:xs.length=n at *
 generalize Z:zs.length=A at *
 clear k T;cases hok:okT xs with
 | false=>
  rw [hok]at u a;clear hok;go_enter func15,ntmps15;go_wp2_with fail;generalize w.alloc (.cells #[.slice (qK b o) A cap,.slice ao n c] 30)=az at *
  refine u.mono ?_;rintro e w1 ⟨rfl,d⟩;have h:=qG (t.trans (d.mono (by omega)));clear d;go_wp2;go_ret;exact⟨by rw [a.out];rfl,h⟩
 | true=>
  have aj:=qG (U hok);rw [hok]at u a;rw [Qe]at a;clear hok U;go_enter func15,ntmps15;go_wp2_with fail;generalize w.alloc (.cells #[.slice (qK b o) A cap,.slice ao n c] 30)=az at *
  refine u.mono ?_;rintro e w1 ⟨rfl,d⟩;have h:=qG (t.trans (d.mono (by omega)));have a9:=d.size;have C:=(d.block w.heap.size (by omega)).trans S;have ak:=qG (R.below d (by omega));have V:w1.cell? ⟨w.heap.size,0,none⟩=some (.slice (qK b o) A cap):=(by rw [qP w1 _ 0 _ _ _ C];rfl);have al:w1.cell? ⟨w.heap.size,1,none⟩=some (.slice ao n c):=(by rw [qP w1 _ 1 _ _ _ C];rfl);have am:=qG C;clear d C S R Q u;go_wp2_with fail;go_loopw [19] (fun i wr=>∃j:Nat,j<=n∧i=qJ j∧wps zs (xs.take j)=true∧Below w1.heap.size w1 wr) (fun i _=>n - (intOf i).toNat)
  case atStart=>exact⟨0,xX _,rfl,rfl,qO _ _⟩
  obtain⟨j,K,rfl,ab,O⟩:=hrel;have W:=qG ab;have I:=qG O;have an:=O.size;clear O ab V al;by_cases ax:j<n
  ·obtain⟨r,off,x,rfl,bv,P,ac,ad,ae,af⟩:=ah j ax
   have ba:(j:Int)<n:=(by omega);have J:=qG P;have ap:=aj x (xM.2 ⟨j,P⟩);simp only [pcOk,qU]at ap;have y:=(h.trans (I.mono (by omega)))
   have D:r<w.heap.size:=(by omega);have bc:=(y.cell (p:=⟨r,off+j*4,none⟩) D).trans ac;have bd:=(y.cell (p:=⟨r,off+j*4+1,none⟩) D).trans ad;have be:=(y.cell (p:=⟨r,off+j*4+2,none⟩) D).trans ae;have bf:=(y.cell (p:=⟨r,off+j*4+3,none⟩) D).trans af;have bg:r<wr.heap.size:=(by omega);have E:=qG (I.alloc an (.cells #[qJ x.pc.off,qJ x.pc.len,qJ x.pc.brk,qJ x.lv] 65));have F:(wr.alloc (.cells #[qJ x.pc.off,qJ x.pc.len,qJ x.pc.brk,qJ x.lv] 65)).heap[wr.heap.size]? =some (.cells #[qJ x.pc.off,qJ x.pc.len,qJ x.pc.brk,qJ x.lv] 65 (0,0)):=xg _ _;have bh:(wr.alloc (.cells #[qJ x.pc.off,qJ x.pc.len,qJ x.pc.brk,qJ x.lv] 65)).cell? ⟨wr.heap.size,0,none⟩=some (qJ x.pc.off):=(by rw [qP _ _ 0 _ _ _ F];rfl);have bi:(wr.alloc (.cells #[qJ x.pc.off,qJ x.pc.len,qJ x.pc.brk,qJ x.lv] 65)).cell? ⟨wr.heap.size,1,none⟩=some (qJ x.pc.len):=(by rw [qP _ _ 1 _ _ _ F];rfl);have bj:(wr.alloc (.cells #[qJ x.pc.off,qJ x.pc.len,qJ x.pc.brk,qJ x.lv] 65)).cell? ⟨wr.heap.size,2,none⟩=some (qJ x.pc.brk):=(by rw [qP _ _ 2 _ _ _ F];rfl);have V:(wr.alloc (.cells #[qJ x.pc.off,qJ x.pc.len,qJ x.pc.brk,qJ x.lv] 65)).cell? ⟨w.heap.size,0,none⟩=some (.slice (qK b o) A cap):=(by rw [E.out.cell (p:=⟨w.heap.size,0,none⟩) (by show w.heap.size<w1.heap.size;omega),qP w1 _ 0 _ _ _ am.out];rfl);have aq:=qG (ak.below E (by omega));have bk:(wr.alloc (.cells #[qJ x.pc.off,qJ x.pc.len,qJ x.pc.brk,qJ x.lv] 65)).heap.size=wr.heap.size+1:=(by simp);have bl:w.heap.size<wr.heap.size:=(by omega);clear ac ad ae af P y F;obtain⟨⟨f,s,g⟩,H⟩:=x;simp only at *
   by_cases ay:f+s > (A:Int)
   ·have z:=qG (show M=false by rw [a.out];exact wps_at J (by simp only [wpB,Bool.and_eq_false_iff,vC,Z];left;omega))
    go_wp2;go_ret;exact⟨by rw [z.out];rfl,h.trans (E.mono (by omega))⟩
   have bm:f<=f+s:=(by omega);have bn:f+s<=(cap:Int):=(by omega);have ar:¬cap=f.toNat:=(by omega);have bo:(0:Int)<=f+s:=(by omega);obtain⟨q,rfl⟩:∃q:Nat,f=q:=⟨f.toNat,by omega⟩
   obtain⟨l,rfl⟩:∃l:Nat,s=l:=⟨s.toNat,by omega⟩
   simp only [vg]at ar
   have au:Hid (∀m:Nat,Calls prog 41 #[.slice (qK b (o+q)) l (cap - q)] ((wr.alloc (.cells #[qJ (q:Int),qJ (l:Int),qJ g,qJ H] 65)).drewN m) fun e w'=>e= .returned (qJ (brk ((zs.drop q).take l)))∧w'=(wr.alloc (.cells #[qJ (q:Int),qJ (l:Int),qJ g,qJ H] 65)).drewN m):=qG fun m=>
    Y9 _ _ _ (zCy (zs:=zs) (fun i hi=>(qV (w:=wr.alloc (.cells #[qJ (q:Int),qJ (l:Int),qJ g,qJ H] 65)) (by simp)).trans (aq i hi)) q l (by omega) (by omega) (by omega) (by unfold maxLen;omega)) (by rw [qN,qR];omega)
   have X:Hid (wpB zs ⟨(q:Int),(l:Int),g⟩=decide (g=brk ((zs.drop q).take l))):=qG (by
    unfold wpB ptx;rw [kR (by rw [Z];exact Int.not_lt.1 ay),Qe]
    rfl)
   generalize brk ((zs.drop q).take l)=br at *
   go_wp2_with fail;generalize wr.alloc (.cells #[qJ (q:Int),qJ (l:Int),qJ g,qJ H] 65)=a0 at *
   go_quiet ((go_at_call 41;exact Calls.quiet_of_same (au _)));have Y:=qG (show Below w1.heap.size w1 (a0.drewN nq)from E.trans (J6 _ _ _));by_cases L:g=br
   ·have av:=qG (show wps zs (xs.take (j+1))=true by rw [zw J.out,zBl,W.out,X.out,kR L];rfl)
    subst L;go_wp2;go_roundw
    case rel=>exact⟨j+1,by omega,by go_num,av,Y⟩
    simp [intOf];omega
   have z:=qG (show M=false by rw [a.out];exact wps_at J (by rw [X.out];exact ka L));go_wp2;go_ret;exact⟨by rw [z.out];rfl,h.trans (Y.mono (by omega))⟩
  have aw:j=n:=(by omega);subst aw;have bp:¬ (j:Int)<(j:Int):=(by omega);have z:=qG (show M=true by rw [a.out];have:=W;rw [xu (by omega)]at this;exact this);go_wp2;go_ret;exact⟨by rw [z.out];rfl,h.trans (I.mono (by omega))⟩
def own32 (w:World) (base:Nat) (v:Value) (zs:List Int):Prop:=w.ownsRow base 21 1 v zs.length (ints .i32 zs)
theorem Tryz.qv:(prog.info? 21).map (fun i=>(i.zero,i.size,i.bytes))=some (some (.int .i32 0),1,4):=by kernel_rfl
theorem ZH (w:World):own32 (w.alloc (.cells #[] 21)) w.heap.size (.slice (qK w.heap.size 0) 0 0) []:=by
 have:=kJ (base:=w.heap.size) (e:=21) (size:=1) w #[] 0 (by simp) (xX _) rfl;simpa [own32,ints]using this
theorem YH {b:World} {base:Nat} {v:Value} {a F:List Int} {n m:Nat} (c:a.length=n) (d:F.length=m) (e:b.ownsRow base 21 1 v (n+m) (ints .i32 a++ints .i32 F)):own32 b base v (a++F):=by
 unfold own32;rw [qM,c,d,zf];exact e
theorem zi {w:World} {base:Nat} {v:Value} {zs:List Int} (a:own32 w base v zs):∃ao cap,v= .slice ao zs.length cap:=by
 rcases a.2 with ⟨rfl,b⟩ | ⟨g,cap,c,rfl,_⟩
 ·exact⟨none,0,by rw [b]⟩
 exact⟨_,_,rfl⟩
theorem At32.app {w:World} {b o:Nat} {zs:List Int} (g:At32 w b o zs) (p l:Nat) (h:p+l<=zs.length):∀j c,(ints .i32 ((zs.drop p).take l))[j]? =some c->w.cell? ((⟨b,o+p,none⟩:Addr).add j)=some c:=by
 intro j c a
 have f:j<l:=by
  rcases xR j l with q | q
  ·exact q
  rw [xW (by simp [ints];omega)]at a;cases a
 have e:((zs.drop p).take l)[j]? =some (zs.getD (p+j) 0):=by
  rw [xN,xd f,vn];simp [q9,qY (show p+j<zs.length by omega)]
 simp only [ints,xU,e,kV,xz]at a;subst a;have d:=g (p+j) (by omega);rw [<- vS]at d;rw [zP];exact d
theorem yX {w:World} {base g cap:Nat} {zs:List Int} (a:own32 w base (.slice (qK g 0) zs.length cap) zs):At32 w g 0 zs:=by
 intro i hi;have:=a.cellAt i (by omega);rw [xP,this];simp [ints,qY hi]
theorem jh {w:World} {base g cap:Nat} {zs:List Int} (a:own32 w base (.slice (qK g 0) zs.length cap) zs):g<w.heap.size:=(a.lt g rfl).2
end Go.Proofs.YtmjanhcplcalfaaGreatDoor
namespace Go.Proofs.YtmjanhcplcalfaaGreatDoor
open Go Go.RowKit Go.Shelf Go.Proofs.Tryz
attribute [local go_sem] kU
theorem tellN (T:AT) (d:Option Addr) (bs:List Nat) (base:Nat) (w:World) (A:Lies w base T d bs) (a1:T.ok):
  Calls prog 96 #[.pointer d] w fun e w'=>∃v,e= .returned (.agg #[v])∧OwI w' w.heap.size v (T.told 0)∧Below w.heap.size w w':=by
 obtain⟨X,hi,Y,Z,aa⟩:=vc Tryz.qn;have a9:=a1.bd;have ba:(T.ht:Int)<=8192:=by have:=zk T;omega
 have af:=qG (show IsT w.heap.size w d T from⟨base,bs,A,fun x ay=>(A.lt x ay).2⟩);have O:=qG ((qO w.heap.size w).alloc lR (.cells #[.slice none 0 0] 28));have ag:=qG (A.below O lR);have bc:(w.alloc (.cells #[.slice none 0 0] 28)).heap.size=w.heap.size+1:=by simp
 have ah:=Boxed.new w 28 (.slice none 0 0);have bd:=Tryz.fld0;clear A;refine(xf (n:=5)).1 ?_;refine callsIn_of_wp_marks func96 rfl xn ?_ rfl;simp only [ntmps96,vq,xe,xK,Nat.reduceAdd,Nat.reduceSub,vh,vk,vv,vm,xH,xv]
 gi_wp2_with (first
  | ((try refine⟨xn,?_⟩);gi_at_call 115;refine(xf.2 (allN T d bs base _ ag)).mono ?_;rintro e w1 ⟨rfl,B⟩;have be:=B.size;have P:=qG (O.trans (B.mono (by omega)));have ai:Boxed w1 w.heap.size 28 (.slice none 0 0):=(B.block w.heap.size (by omega)).trans ah;clear B;simp only [cnt])
  | (gi_at_make;refine wpListIn_make_own _ rfl _ _ 26 rfl w.heap.size 65 X (.agg #[qJ 0,qJ 0,qJ 0,qJ 0]) 4 underlying26 hi Y Z _ _ _ T.its rfl rfl (by first | rfl | assumption) (by rw [aa];omega) (by unfold maxLen;omega) (by omega) ?_;intro b aw I)
  | ((try refine⟨xn,?_⟩);gi_at_call 93;refine(all_in Fence.wide _ xn rfl _ _).mono ?_;rintro e ax ⟨rfl,rfl⟩))
 have bf:=I.size;have u:=qG (P.grown I P.size (fun k az=>by cases az));have aj:Boxed b w.heap.size 28 (.slice none 0 0):=ai.kept I (by simp);have Q:=((Boxed.new b 26 (.slice (qK w1.heap.size 0) 0 T.its)).alloc (.cells #[.pointer d] 127)).alloc (.cells #[qJ 0] 3);have C:=(Boxed.new (b.alloc (.cells #[.slice (qK w1.heap.size 0) 0 T.its] 26)) 127 (.pointer d)).alloc (.cells #[qJ 0] 3);have E:=Boxed.new ((b.alloc (.cells #[.slice (qK w1.heap.size 0) 0 T.its] 26)).alloc (.cells #[.pointer d] 127)) 3 (qJ 0);have R:=((aj.alloc (.cells #[.slice (qK w1.heap.size 0) 0 T.its] 26)).alloc (.cells #[.pointer d] 127)).alloc (.cells #[qJ 0] 3);have S:=((aw.alloc (.cells #[.slice (qK w1.heap.size 0) 0 T.its] 26)).alloc (.cells #[.pointer d] 127)).alloc (.cells #[qJ 0] 3);have F:=((u.alloc u.size (.cells #[.slice (qK w1.heap.size 0) 0 T.its] 26)).alloc (by have:=u.size;simp;omega) (.cells #[.pointer d] 127)).alloc (by have:=u.size;simp;omega) (.cells #[qJ 0] 3);have ak:(((b.alloc (.cells #[.slice (qK w1.heap.size 0) 0 T.its] 26)).alloc (.cells #[.pointer d] 127)).alloc (.cells #[qJ 0] 3)).heap.size=b.heap.size+3:=by simp
 rw [vp]at C;rw [vp,vp]at E;obtain⟨J,a2⟩:∃J,((b.alloc (.cells #[.slice (qK w1.heap.size 0) 0 T.its] 26)).alloc (.cells #[.pointer d] 127)).alloc (.cells #[qJ 0] 3)=J:=⟨_,rfl⟩
 rw [a2]at Q C E R S F ak |-;have bg:=AT.told_length T 0
 refine wpIn_rangeFunc_ownH rfl (by omega) (gf:=112) (lb:=#[.pointer (qK (b.heap.size+1) 0),.pointer (qK (b.heap.size+1+1) 0)]) rfl xn (enters_of func112 (by kernel_rfl) rfl)
  (zFf Fence.wide rfl _ xn xn rfl (b.heap.size+1) (b.heap.size+1+1) w.heap.size d T (by omega) J (by omega) (by omega) (by omega) C.cell E.cell (af.below F)) belowK_t (belowK_b (by omega)) (qO _ _) (fun _=>rfl)
  (fun h a=>(∃v,Boxed a b.heap.size 26 v∧a.ownsRow w.heap.size 65 4 v h.length (itVs h)∧True)∧(Boxed a w.heap.size 28 (.slice none 0 0)∧Below w.heap.size w a))
  (fun _ _ _=>False)
  (OwnFrom.and (Own.from (holdsRow_own w.heap.size b.heap.size 26 65 4 (fun h=>h.length) (fun h=>itVs h) (fun _ _=>True)) _) (OwnFrom.and (Own.from (boxed_own w.heap.size 28 (fun _=>.slice none 0 0)) _) (ownFrom_below lR (by omega))))
  (fun _ _ _ _ _ K _ _=>K)
  ⟨⟨_,Q,by simpa [itVs]using S,xn⟩,R,F⟩
  (fun x L a=>∃f,True∧a.heap[f]? =some (.cells #[qJ x.pc.off,qJ x.pc.len,qJ x.pc.brk] 63 (0,0))∧L={tmps:=#[.pointer d,undef,.pointer (qK w.heap.size 0),.pointer (qK b.heap.size 0),qJ x.lv,.pointer (qK f 0),.pointer d,.agg #[qJ T.its,qJ T.rns,qJ T.bks],qJ T.its,.slice (qK w1.heap.size 0) 0 T.its,.pointer d,.func (.func 112) #[] #[.pointer (qK (b.heap.size+1) 0),.pointer (qK (b.heap.size+1+1) 0)],qJ x.lv,.agg #[qJ x.pc.off,qJ x.pc.len,qJ x.pc.brk],undef,undef,undef,undef,undef,undef,undef,undef],defers:=[]})
  (fun x L _ a br bt K a0 z=>by
   obtain⟨f,a3,M,a4⟩:=K;refine⟨f,a3,(a0.block f (xO.1 M).1 (fun e=>?_)).trans M,a4⟩;obtain⟨_,o,ab,G⟩:=z f e.symm
   rw [M]at ab;cases ab;cases G)
  ?assign ?body ?done ?stop
 case assign=>
  rintro l h x a bu ⟨⟨v,s,i,_⟩,j,q⟩ N;gi_wp2;have y:=q.size;refine N _ _ ((KeepsOthers.alloc _ _).from _) ((qO _ a).alloc y _) ⟨⟨v,s.alloc _,i.alloc _,xn⟩,j.alloc _,q.alloc y _⟩ ⟨a.heap.size,xn,xg _ _,rfl⟩
 case body=>
  rintro l h x L a ac ⟨r,z⟩ ⟨⟨v,s,i,_⟩,j,q⟩ ⟨f,_,t,rfl⟩ bv;have G:=s.cell;have bh:a.cell? ⟨f,0,none⟩=some (qJ x.pc.off):=(by rw [qP a _ 0 _ _ _ t];rfl);have bi:a.cell? ⟨f,1,none⟩=some (qJ x.pc.len):=(by rw [qP a _ 1 _ _ _ t];rfl);have k2:a.cell? ⟨f,2,none⟩=some (qJ x.pc.brk):=(by rw [qP a _ 2 _ _ _ t];rfl);have bj:f<a.heap.size:=(xO.1 t).1;have y:=q.size;have bk:=qG z;have bl:=qG ac;clear z ac t;gi_wp2_with (gi_at_builtin;refine wpListIn_append_own _ rfl _ _ 26 rfl w.heap.size 65 X (.agg #[qJ 0,qJ 0,qJ 0,qJ 0]) 4 32 underlying26 hi Y Z aa rfl (by decide) _ _ _ rfl (i.alloc _) ⟨a.heap.size,0,none⟩ 1 1 (itV x) rfl rfl (zV _ _ _) (by simp [itV,Value.oneCell']) (by unfold maxLen;omega) (by omega) (by simp;omega) ?_;intro bq ax V W _;obtain⟨g',bw,rfl⟩:=ownsRow_succ V;obtain⟨ad,a5,a6,a7,ae⟩:=s.appended (by decide) i y (by omega) V W;have al:=(j.alloc _).kept W (j.not_row (by decide) i);have bm:=ad.cell;have bn:=ad.frozen);exact⟨a7.from _,ae,⟨⟨_,a5,by simpa [zS,itVs]using a6,xn⟩,al.other (by omega) _,q.trans ae⟩⟩
 case done=>
  rintro D ys a bx rfl ⟨⟨v,s,i,_⟩,j,q⟩ N;have G:=s.cell;have bo:=j.cell;have bp:=j.frozen
  obtain⟨ao,m,cap,rfl⟩:∃ao m cap,v= .slice ao m cap:=by
   rcases i.2 with ⟨rfl,_⟩ | ⟨g,cap,bz,rfl,_⟩
   ·exact⟨_,_,_,rfl⟩
   exact⟨_,_,_,rfl⟩
  gi_wp2;have U:D≠w.heap.size:=(by omega);have H:(a.setCell ⟨w.heap.size,0,none⟩ (.slice ao m cap)).heap[D]? =some (.deferred (some [])):=(xm a ⟨w.heap.size,0,none⟩ D _ U).trans N;have am:=j.set (.slice ao m cap);have an:=i.kept (grownBy_setCell' a w.heap.size (.slice ao m cap)) (.inr (j.not_row (by decide) i).symm);have ap:=q.setCell (p:=⟨w.heap.size,0,none⟩) lR (.slice ao m cap);refine⟨by simp,.inl ⟨_,_,rfl,run_takeDeferred H,?_⟩⟩;have aq:=am.kept (grownBy_putObj' _ D (.deferred none)) (fun e=>U (by cases e;rfl));have ar:=ownsRow_putObj an (.deferred none) H rfl;have au:=ap.trans (belowK_b (w:=w) lR _ D _ (.deferred none) (by omega) H rfl rfl);have av:=aq.cell;exact⟨.agg #[.slice ao m cap],by simp [results,results96,go_sem,av],_,rfl,ar,au⟩
 rintro D c h a _ _ a8 _;exact a8.elim
end Go.Proofs.YtmjanhcplcalfaaGreatDoor
namespace Go.Proofs.YtmjanhcplcalfaaGreatDoor
open Go Go.RowKit Go.Proofs.Tryz
theorem zb {w:World} {base:Nat} {v:Value} {xs:List It} (a:OwI w base v xs):∃ao cap,v= .slice ao xs.length cap:=by
 rcases a.2 with ⟨rfl,b⟩ | ⟨g,cap,c,rfl,_⟩
 ·exact⟨none,0,by rw [b]⟩
 exact⟨_,_,rfl⟩
theorem nn32 {w:World} {base:Nat} {v:Value} {zs:List Int} (b:own32 w base v zs) (d:0<zs.length):v≠ .slice none 0 0:=by
 rcases b.2 with ⟨_,e⟩ | ⟨g,c,f,e,_⟩
 ·omega
 rw [e];intro a;cases a
theorem clone0N (b o cap:Nat) (w:World):
  Calls prog 95 #[.slice (qK b o) 0 cap] w fun e w'=>∃a,e= .returned a∧own32 w' w.heap.size a []∧Below w.heap.size w w'∧a≠ .slice none 0 0:=by
 have c:=qG (ZH w);have d:=qG ((qO w.heap.size w).alloc lR (.cells #[] 21));have f:=fun w:World=>Lib.run_eql_slice_nil (P:=prog) w 25 21 (qK b o) 0 cap 0 0 underlying25
 simp only [Option.isNone_some]at f;go_enter func95,ntmps95;go_wp2;go_ret;exact⟨_,rfl,c,d,by intro g;cases g⟩
theorem cloneN (zs:List Int) (b o cap:Nat) (w:World) (r:∀i,i<zs.length->w.cell? ⟨b,o+i,none⟩=some (.int .i32 (zs.getD i 0))) (x:b<w.heap.size) (A:zs.length<=1048576):
  Calls prog 95 #[.slice (qK b o) zs.length cap] w fun e w'=>∃f,e= .returned f∧own32 w' w.heap.size f zs∧Below w.heap.size w w'∧f≠ .slice none 0 0:=by
 rcases vZ zs.length with g | g
 ·obtain rfl:zs= []:=qW g
  exact clone0N b o cap w
 obtain⟨B,hi,C,D,E⟩:=vc Tryz.qv
 have h:(w.alloc (.cells #[] 21)).ownsRow w.heap.size 21 1 (.slice (qK w.heap.size 0) 0 0) 0 []:=by
  have:=kJ (base:=w.heap.size) (e:=21) (size:=1) w #[] 0 (by simp) (xX _) rfl;simpa using this
 have s:=qG h;have a:=qG ((qO w.heap.size w).alloc lR (.cells #[] 21))
 have t:=qG (show ∀j n,(ints .i32 zs)[j]? =some n->(w.alloc (.cells #[] 21)).cell? ((⟨b,o,none⟩:Addr).add j)=some n from(by
  have u:=j9 (o:=0) (l:=zs.length) (fun i hi=>(a.cell (p:=⟨b,o+i,none⟩) x).trans (r i hi))
  simpa using u))
 have c:=fun w:World=>Lib.run_eql_slice_nil (P:=prog) w 25 21 (qK b o) zs.length cap 0 0 underlying25
 simp only [Option.isNone_some]at c;clear h r;go_enter func95,ntmps95;go_wp2_with (at_builtin;refine Ql _ rfl _ _ rfl w.heap.size _ 0 [] rfl s ⟨b,o,none⟩ zs.length cap (ints .i32 zs) rfl (by rw [zC,vP]) t (zG _ _) (by unfold maxLen;omega) (by omega) a.size ?_;intro y z d m _);rw [xP,xH]at d;have k:=qG d;have v:=qG (a.grown m a.size (fun q c=>by cases c;exact lR));clear d m;go_wp2;go_ret;exact⟨_,rfl,k,v,nn32 k g⟩
theorem tellPM (zs:List Int) (T:AT) (h:Option Addr) (bs:List Nat) (base c b o cap:Nat) (w:World) (x:∀i,i<zs.length->w.cell? ⟨b,o+i,none⟩=some (.int .i32 (zs.getD i 0))) (C:b<w.heap.size) (ah:zs.length<=1048576) (J:Lies w base T h bs) (K:T.ok) (g:w.heap[c]? =some (.cells #[.slice (qK b o) zs.length cap,.pointer h] 131 (0,0))):
  Calls prog 69 #[.pointer (qK c 0)] w fun e w'=>∃u A,e= .returned (.agg #[u,A])∧own32 w' w.heap.size u zs∧OwI w' w.heap.size A (T.told 0)∧Below w.heap.size w w'∧u≠ .slice none 0 0:=by
 have Q:c<w.heap.size:=(xO.1 g).1;have d:=qG ((qO w.heap.size w).alloc lR (.cells #[.slice none 0 0,.slice none 0 0] 30));have F:=qG (show(w.alloc (.cells #[.slice none 0 0,.slice none 0 0] 30)).heap[w.heap.size]? =some (.cells #[.slice none 0 0,.slice none 0 0] 30 (0,0))from xg _ _);have R:w.heap.size<(w.alloc (.cells #[.slice none 0 0,.slice none 0 0] 30)).heap.size:=by simp
 have y:=(d.block c Q).trans g;have ai:(w.alloc (.cells #[.slice none 0 0,.slice none 0 0] 30)).cell? ⟨c,0,none⟩=some (.slice (qK b o) zs.length cap):=by rw [qP _ _ 0 _ _ _ y];rfl
 have S:(w.alloc (.cells #[.slice none 0 0,.slice none 0 0] 30)).cell? ⟨c,1,none⟩=some (.pointer h):=by rw [qP _ _ 1 _ _ _ y];rfl
 have U:=qG (fun a (x:∀i,i<zs.length->a.cell? ⟨b,o+i,none⟩=some (.int .i32 (zs.getD i 0))) (C:b<a.heap.size)=>cloneN zs b o cap a x C ah);have V:=qG (fun i hi=>(d.cell (p:=⟨b,o+i,none⟩) C).trans (x i hi));have W:b<(w.alloc (.cells #[.slice none 0 0,.slice none 0 0] 30)).heap.size:=by omega
 have X:c<(w.alloc (.cells #[.slice none 0 0,.slice none 0 0] 30)).heap.size:=by omega
 have Y:=qG (J.below d lR);have Z:=qG (fun a (B:Lies a base T h bs)=>tellN T h bs base a B K);have aa:=qG (fun(a I:World) (B:Lies a base T h bs) (e:I.heap=a.heap)=>B.frame (w':=I) (fun q ap=>by rw [e]));clear g y J K x;go_enter func69,ntmps69;go_upto_region 1 with fail;generalize w.alloc (.cells #[.slice none 0 0,.slice none 0 0] 30)=r at *
 have aj:r.cell? ⟨w.heap.size,0,none⟩=some (.slice none 0 0):=by rw [qP r _ 0 _ _ _ F.out];rfl
 go_region_with (first
  | (go_at_call 95;refine(U _ (by exact V) (by exact W)).mono ?_;rintro e w1 ⟨u,rfl,D,l,L⟩;obtain⟨M,N,rfl⟩:=zi D;have ab:=qG L;clear L;have s:Below r.heap.size r w1:=⟨l.os,l.tape,l.output,l.size,l.block⟩;have z:=qG s;have ac:=qG (show own32 w1 r.heap.size (.slice M zs.length N) zs from D);have ad:=qG (Y.below s lR);have ak:w1.cell? ⟨c,1,none⟩=some (.pointer h):=(s.cell (p:=⟨c,1,none⟩) X).trans S;clear D l s)
  | (go_at_call 96;refine(Z _ (by exact aa _ _ ad rfl)).mono ?_;rintro e f ⟨A,rfl,E,m⟩;obtain⟨O,P,rfl⟩:=zb E;have t:Below w1.heap.size w1 f:=⟨m.os,m.tape,m.output,m.size,m.block⟩;have j:=qG (z.trans (t.mono z.size));have G:=qG (zB ac t lR);have H:=qG (show OwI f w1.heap.size (.slice O (T.told 0).length P) (T.told 0)from E);have al:=t.size;have am:=z.size;have n:=(j.block w.heap.size R).trans F;have ae:f.cell? ⟨w.heap.size,0,none⟩=some (.slice none 0 0):=(by rw [qP f _ 0 _ _ _ n];rfl);have af:f.cell? ⟨w.heap.size,1,none⟩=some (.slice none 0 0):=(by rw [qP f _ 1 _ _ _ n];rfl);have an:=xp f w.heap.size 0 _ _ n;have ao:=xp f w.heap.size 1 _ _ n;clear E m t n))
 all_goals
  go_wp2;refine xr (v:=.agg #[.slice M zs.length N,.slice O (T.told 0).length P]) (by simp [results,results69,go_sem,ae,af]) rfl ⟨_,_,rfl,?_,?_,?_,ab⟩
  ·exact zA (zD G (by omega)) (fun k g=>by have ag:=G.lt k g;rw [xo _ _ _ _ (by simp;omega),xo _ _ _ _ (by simp;omega)];try rfl)
  ·exact zA (zD H (by omega)) (fun k g=>by have ag:=H.lt k g;rw [xo _ _ _ _ (by simp;omega),xo _ _ _ _ (by simp;omega)];try rfl)
  exact((⟨(d.trans (j.mono (by omega))).os,(d.trans (j.mono (by omega))).tape,(d.trans (j.mono (by omega))).output,(d.trans (j.mono (by omega))).size,(d.trans (j.mono (by omega))).block⟩:Below w.heap.size w _).setCell lR _).setCell lR _
def zFj (w:World) (b o:Nat) (zs:List Int):Option AT->Ending->World->Prop
 | none,e,w'=>(∃d,e= .returned (.tuple #[.pointer none,.iface 109 (.agg #[.string d,.iface 110 (qJ 1)])]))∧Below w.heap.size w w'
 | some T,e,w'=>∃c a bs,e= .returned (.tuple #[.pointer (qK c 0),.nilIface])∧w.heap.size<=c∧PK w' c b o zs.length zs.length a∧Lies w' w.heap.size T a bs∧bs.Nodup∧c∉bs∧T.ok∧Below w.heap.size w w'
def msgStore:ByteArray:=⟨#[114,101,97,100,105,110,103,32,97,32,115,116,111,114,101]⟩
def zFk:ByteArray:=⟨#[114,101,97,100,105,110,103,32,112,105,101,99,101,115,32,111,102,32,97,32,115,116,111,114,101]⟩
theorem Js (B:Nat) (zs:List Int) (b o cap:Nat) (v:Value) (xs:List It) (w:World) (J:At32 w b o zs) (ab:b<w.heap.size) (ac:zs.length<=1048576) (ad:zs.length<=cap) (ae:cap<=maxLen) (t:RdI B w v xs) (af:B<=w.heap.size) (ag:xs.length<=1048576):
  Calls prog 34 #[.agg #[.slice (qK b o) zs.length cap,v]] w (zFj w b o zs (pRead zs xs)):=by
 obtain⟨ao,c,rfl⟩:=t.val;have a:=qG (show pRead zs xs=(match readT xs with | none=>none | some T=>if zs.length<=220000∧wps zs xs=true then some T else none)from rfl);generalize pRead zs xs=Z at a |-;have h:=qG ((qO w.heap.size w).alloc lR (.cells #[.slice (qK b o) zs.length cap,.slice ao xs.length c] 30));have u:=qG (t.below h af);have x:=qG (J.below h ab);have ai:(w.alloc (.cells #[.slice (qK b o) zs.length cap,.slice ao xs.length c] 30)).heap.size=w.heap.size+1:=by simp
 have l:(w.alloc (.cells #[.slice (qK b o) zs.length cap,.slice ao xs.length c] 30)).heap[w.heap.size]? =some (.cells #[.slice (qK b o) zs.length cap,.slice ao xs.length c] 30 (0,0)):=xg _ _;have N:=qG l;have y:=qG (zFe B _ xs _ u (by omega) ag);have g:=qG (fun w=>jS (zs.length:Int) 0 220000 1 w);have O:(w.alloc (.cells #[.slice (qK b o) zs.length cap,.slice ao xs.length c] 30)).cell? ⟨w.heap.size,1,none⟩=some (.slice ao xs.length c):=by rw [qP _ _ 1 _ _ _ l];rfl
 have z:=qG (fun w=>clip32N (qK b o) zs.length cap w ad ae);have aj:(zs.length:Int)<=1048576:=by omega
 generalize ap:xs.length=n at *
 clear t J l;by_cases r:zs.length<=220000
 ·have i:decide ((0:Int)<=(zs.length:Int)∧(zs.length:Int)<=220000)=true:=by simp;omega
  rw [i]at g;simp only [errV,kA]at g;have P:=qG r;clear i r;go_enter func34,ntmps34;go_wp2_with fail;generalize w.alloc (.cells #[.slice (qK b o) zs.length cap,.slice ao n c] 30)=aa at *
  refine(g _).mono ?_;rintro e wx ⟨rfl,j⟩;subst j;go_wp2_with fail;refine y.mono ?_;clear y;cases hT:readT xs with
  | none=>
   rw [hT]at a;simp only at a;clear hT;rintro e w1 ⟨⟨ah,rfl⟩,d⟩;have m:=qG (h.trans (d.mono (by omega)));clear d;go_wp2;go_ret2;rw [a.out];exact⟨⟨ah,rfl⟩,m⟩
  | some T=>
   rw [hT]at a;simp only at a;have A:=(jJ hT).2.2.1;have Q:=qG A;clear hT A;rintro e w1 ⟨f,bs,rfl,K,L,M,d⟩;have m:=qG (h.trans (d.mono (by omega)));have ak:=d.size;have C:=qG (x.below d (by omega));have p:=qG (K.base (base':=w.heap.size) (by omega));have R:=qG L;have D:=qG M;have E:=(d.block w.heap.size (by omega)).trans N;have al:w1.cell? ⟨w.heap.size,0,none⟩=some (.slice (qK b o) zs.length cap):=(by rw [qP w1 _ 0 _ _ _ E];rfl);have am:w.heap.size<w1.heap.size:=(by omega);clear d K L M x u E O;go_wp2_with fail;refine(z _).mono ?_;rintro e wx ⟨rfl,j⟩;subst j;have q:=qG ((qO wx.heap.size wx).alloc lR (.cells #[.slice (qK b o) zs.length zs.length,.pointer f] 131));have F:=qG (show PK (wx.alloc (.cells #[.slice (qK b o) zs.length zs.length,.pointer f] 131)) wx.heap.size b o zs.length zs.length f from xg _ _);have G:=qG (p.below q lR);have S:=qG (C.below q (by omega));have U:=qG (m.trans (q.mono (by omega)));have an:(wx.alloc (.cells #[.slice (qK b o) zs.length zs.length,.pointer f] 131)).heap.size=wx.heap.size+1:=(by simp);have H:=qG (checkPN zs T f bs w.heap.size wx.heap.size b o zs.length _ S (by omega) ac lR (by unfold maxLen;omega) G D F);have V:Hid (wx.heap.size∉bs):=qG fun s=>by have:=(p.lt _ s).2;omega
   clear p C z;go_wp2_with fail;generalize wx.alloc (.cells #[.slice (qK b o) zs.length zs.length,.pointer f] 131)=aq at *
   refine H.mono ?_;rintro e ar ⟨rfl,k⟩;have I:=qG (U.trans (k.mono (by omega)));have W:=qG (F.below k (by omega));have X:=qG (G.below k lR);rw [<- Q.out];clear k H;cases hw:wps zs xs with
   | true=>
    rw [hw,xd ⟨P.out,rfl⟩]at a;simp only [kA];clear hw;go_wp2_with fail;go_ret2;rw [a.out];exact⟨_,f,bs,rfl,by omega,W,X,R,V,D,I⟩
   | false=>
    rw [hw,qZ (by simp)]at a;simp only [vD,kH];clear hw;go_wp2_with fail;go_ret2;rw [a.out];exact⟨⟨zFk,rfl⟩,I⟩
 have i:decide ((0:Int)<=(zs.length:Int)∧(zs.length:Int)<=220000)=false:=by simp;omega
 rw [i]at g;simp only [errV,vD,kH]at g;have Y:=qG (show Z=none by rw [a.out];cases readT xs with | none=>rfl | some T=>simp only;rw [qZ (fun s=>r s.1)]);clear i;go_enter func34,ntmps34;go_wp2_with fail;generalize w.alloc (.cells #[.slice (qK b o) zs.length cap,.slice ao n c] 30)=aa at *
 refine(g _).mono ?_;rintro e wx ⟨rfl,j⟩;subst j;go_wp2;go_ret2;rw [Y.out];exact⟨⟨msgStore,rfl⟩,h⟩
def cln (n i:Nat):Nat:=min 16 (n - 16*i)
def chP (zs:List Int) (i:Nat):Pc:=⟨((16*i:Nat):Int),((cln zs.length i:Nat):Int),brk ((zs.drop (16*i)).take (cln zs.length i))⟩
def chs (zs:List Int) (j:Nat):List Pc:=(List.range j).map (chP zs)
theorem jk (zs:List Int) (j:Nat):(chs zs j).length=j:=by simp [chs]
theorem zBu (zs:List Int) (j:Nat):chs zs (j+1)=chs zs j++ [chP zs j]:=by simp [chs,List.range_succ]
theorem Tryz.info32P:(prog.info? 21).map (fun i=>(i.zero,i.size,i.bytes))=some (some (.int .i32 0),1,4):=by kernel_rfl
def ldT (zs:List Int):AT:=midT 8192 (chs zs ((zs.length+15)/16))
theorem zBv {w:World} {base g cap:Nat} {zs:List Int} (b:own32 w base (.slice (qK g 0) zs.length cap) zs):∀i,i<zs.length->w.cell? ⟨g,0+i,none⟩=some (.int .i32 (zs.getD i 0)):=by
 intro i hi;have a:=b.cellAt i (by omega);rw [xP,a];simp [ints,q9,hi]
theorem zFp {b:World} {base:Nat} {v:Value} {a F:List Pc} {n m:Nat} (c:a.length=n) (d:F.length=m) (e:b.ownsRow base 63 3 v (n+m) (pcCs a++pcCs F)):OwP b base v (a++F):=by
 subst c d;unfold OwP;rw [qM,zBr];exact e
theorem zD2 (a:World):OwP (a.alloc (.cells #[] 63)) a.heap.size (.slice (qK a.heap.size 0) 0 0) []:=
 ⟨rfl,.inr ⟨_,0,#[],rfl,lR,xg _ _,lR,by unfold maxLen;omega,rfl,rfl⟩⟩
theorem zFq (zs:List Int) (j:Nat) (l:Int) (c:l=(cln zs.length j:Nat)):pcCs [chP zs j]= [qJ (16*(j:Int)),qJ l,qJ (brk ((zs.drop (16*(j:Int)).toNat).take l.toNat))]:=by
 have a:(16*(j:Int)).toNat=16*j:=by omega
 have b:l.toNat=cln zs.length j:=by omega
 rw [a,b,c];simp [pcCs,pcC,chP]
theorem specLoad (base:Nat) (zs:List Int) (b cap:Nat) (w:World) (O:own32 w base (.slice (qK b 0) zs.length cap) zs) (bm:zs.length<=8192):
  Calls prog 24 #[.slice (qK b 0) zs.length cap] w fun e w'=>∃M ai,e= .returned (.tuple #[.agg #[M,ai],qJ 0])∧own32 w' w.heap.size M zs∧OwI w' w.heap.size ai ((ldT zs).told 0)∧Below w.heap.size w w'∧∃g n c,M= .slice (qK g 0) n c:=by
 obtain⟨b5,hi,b6,b7,b8⟩:=vc Tryz.info32P;have bu:=(O.lt b rfl).2;have E:=qG (((qO w.heap.size w).alloc lR (.cells #[.slice none 0 0,.slice none 0 0] 30)).alloc (by simp) (.cells #[] 21))
 have T:((w.alloc (.cells #[.slice none 0 0,.slice none 0 0] 30)).alloc (.cells #[] 21)).heap[w.heap.size]? =some (.cells #[.slice none 0 0,.slice none 0 0] 30 (0,0)):=by
  rw [vV _ _ _ (by simp)];exact xg _ _
 have U:((w.alloc (.cells #[.slice none 0 0,.slice none 0 0] 30)).alloc (.cells #[] 21)).ownsRow (w.heap.size+1) 21 1 (.slice (qK (w.heap.size+1) 0) 0 0) 0 []:=by
  refine⟨rfl,.inr ⟨_,0,#[],rfl,lR,?_,lR,by unfold maxLen;omega,rfl,rfl⟩⟩;have:=xg (w.alloc (.cells #[.slice none 0 0,.slice none 0 0] 30)) (.cells #[] 21);simpa using this
 have F:=qG U;have V:=qG T;have W:=qG (zB O E lR);have X:=qG (fun(j:Nat) (L:Value) (ah:(ints .i32 zs)[j]? =some L)=>W.cells (g:=b) rfl j L ah);have bv:w.heap.size+1<((w.alloc (.cells #[.slice none 0 0,.slice none 0 0] 30)).alloc (.cells #[] 21)).heap.size:=by simp
 have hgt:¬ (8192:Int)<(zs.length:Int):=by omega
 obtain⟨n,D⟩:∃n,n=zs.length:=⟨_,rfl⟩
 have d:=qG D;rw [<- D]at bm hgt;rw [<- D];clear O U T D;go_enter func24,ntmps24;go_upto_region 3 with fail;go_wp2_with (at_builtin;refine Ql _ rfl _ _ rfl (w.heap.size+1) (.slice (qK (w.heap.size+1) 0) 0 0) 0 [] rfl (by exact F) ⟨b,0,none⟩ n cap (ints .i32 zs) rfl (by rw [zC,<- d.out];omega) (by exact X) (zG .i32 zs) (by unfold maxLen;omega) (by omega) (by simp) ?_;intro K a x y C;refine vR ?_);refine Lib.hid ?_;have A:=qG (show own32 a (w.heap.size+1) K zs from(by have s:=x;unfold own32;rw [<- d.out];rw [xP,xH]at s;exact s));have B:=qG ((qO (w.heap.size+1) _).grown y (by omega) (fun q h=>(F.lt q h).1));have an:=qG (E.trans (B.mono (by omega)));have ao:=qG ((B.block w.heap.size (by omega)).trans V);have bw:w.heap.size+1<a.heap.size:=by have:=B.size;omega
 have Y:=qG (show ¬K= .slice none 0 0 from fun e=>absurd (C.1 e).1 (by simp));clear x y C F V W X E B
 obtain⟨g,c,rfl,bn,aj⟩:∃g c,K= .slice (qK g 0) n c∧n<=c∧c<=maxLen:=by
  rcases A.2 with ⟨bo,_⟩ | ⟨g,c,b9,ak,_,_,al,bp,_⟩
  ·exact absurd bo Y
  rw [<- d.out]at ak al;exact⟨g,c,ak,al,bp⟩
 have ap:g<a.heap.size:=(A.lt g rfl).2;have aq:=qG (show ∀i,i<n->a.cell? ⟨g,0+i,none⟩=some (.int .i32 (zs.getD i 0))from fun i hi=>zBv (base:=w.heap.size+1) (cap:=c) (by rw [<- d.out];exact A) i (by rw [<- d.out];exact hi));have ar:=qG (zD2 a);have au:=qG ((qO a.heap.size a).alloc lR (.cells #[] 63));clear Y;go_wp2_with fail;generalize a.alloc (.cells #[] 63)=b3 at *
 generalize (Value.slice (qK a.heap.size 0) 0 0)=b4 at *
 have G:=qG (fun k l be bf bg bh bi bj=>yo zs g 0 c k l be bf bg bh bi bj (by rw [<- d.out];exact bn) aj (by rw [<- d.out];omega));simp only [<- d.out]at G;unfold maxLen at aj;go_loopw [5,6] (fun bk N wr=>∃j:Nat,N=qJ (16*(j:Int))∧16*j<n+16∧OwP wr a.heap.size bk (chs zs j)∧Below a.heap.size a wr) (fun _ N _=>n+16 - (intOf N).toNat)
 case atStart=>exact⟨0,by first | rfl | go_num,by omega,ar,au⟩
 obtain⟨j,rfl,ca,am,f⟩:=hrel;have Z:=qG am;have av:=qG f;have aw:=f.size;clear am;by_cases ah:16*j<n
 ·have ax:16*(j:Int)<(n:Int):=by omega
  have H:=qG (fun i hi=>(f.cell (p:=⟨g,0+i,none⟩) ap).trans (aq i hi));clear f;by_cases b2:(16:Int)<(n:Int) - 16*(j:Int)
  case' pos=>
   obtain⟨l,P⟩:∃l:Int,l=16:=⟨_,rfl⟩
   have I:l=((cln n j:Nat):Int):=(by unfold cln;omega);have J:=qG (G (16*(j:Int)) 16 wr H (by omega) (by omega) (by omega) (by omega))
  case' neg=>
   obtain⟨l,P⟩:∃l:Int,l=(n:Int) - 16*(j:Int):=⟨_,rfl⟩
   have I:l=((cln n j:Nat):Int):=(by unfold cln;omega);have J:=qG (G (16*(j:Int)) ((n:Int) - 16*(j:Int)) wr H (by omega) (by omega) (by omega) (by omega))
  all_goals
   have t:=qG (zFq zs j l (by rw [<- d.out];exact I));rw [P]at t;clear P I H;generalize brk _=br at J t;go_wp2_with fail;refine J.mono ?_;rintro e Q ⟨rfl,R⟩;have aa:=qG (av.trans (R.mono aw));have ay:=aa.size;have ab:=qG (zB Z R lR);have az:=qG (fun o=>show(Q.alloc o).ownsRow a.heap.size 63 3 _ j (pcCs (chs zs j))from(by have s:=ab;rw [jk]at s;exact vI s _));have a0:=qG (fun bl=>zV Q 63 bl);have bx:j<=8192:=(by omega);clear R;go_wp2_with (at_builtin;refine a94 _ rfl _ _ rfl a.heap.size _ j (pcCs (chs zs j)) rfl (by exact az _) ⟨Q.heap.size,0,none⟩ 1 1 (pcCs [chP zs j]) rfl (by rw [t.out];rfl) (by rw [t.out];exact a0 _) (by rw [t.out];intro L ag;simp at ag;rcases ag with rfl | rfl | rfl<;>rfl) (by unfold maxLen;omega) (by omega) (by simp;omega) ?_;intro bc bd x y C;refine vR ?_);refine Lib.hid ?_;have a1:=qG (show OwP bd a.heap.size bc (chs zs (j+1))from(by rw [zBu];exact zFp (jk zs j) rfl x));have a2:=qG ((aa.alloc ay _).grown y (by simp;omega) (fun q h=>(ab.lt q h).1));clear x y C;go_wp2;go_roundw
   case rel=>exact⟨j+1,by first | rfl | go_num | (congr 1;omega),by omega,a1,a2⟩
   simp [intOf];omega
 have ax:¬16*(j:Int)<(n:Int):=by omega
 have ac:j=(n+15)/16:=by omega
 have a3:=qG ac;have a4:=qG (zB A f lR);have a5:=qG ((f.block w.heap.size (by omega)).trans ao);have a6:=qG (an.trans (f.mono (by omega)));have ad:=qG (middleL 8192 (chs zs j) _ _ 0 _ (by rw [jk];omega) (OwP.rd Z) lR (by rw [jk];omega) (by omega));clear ac f;go_wp2_with fail;refine ad.mono ?_;rintro e m ⟨cb,rfl,S,z⟩;obtain⟨bq,bs,bt,rfl⟩:=own_sl S;have ae:=qG S;have af:=qG (zB a4 z lR);have r:=qG ((z.block w.heap.size (by omega)).trans a5);have a7:=qG (a6.trans (z.mono (by omega)));have a8:m.cell? ⟨w.heap.size,0,none⟩=some (.slice none 0 0):=by rw [qP m _ 0 _ _ _ r.out];rfl
 have a9:m.cell? ⟨w.heap.size,1,none⟩=some (.slice none 0 0):=by rw [qP m _ 1 _ _ _ r.out];rfl
 have bz:=xp m w.heap.size 0 _ _ r;have b0:=xp m w.heap.size 1 _ _ r;have b1:w.heap.size<m.heap.size:=by have:=z.size;omega
 clear S z ad;go_wp2;refine xr (v:=.tuple #[.agg #[.slice (qK g 0) n c,.slice bq bs bt],qJ 0]) (by simp [results,results24,go_sem,a8,a9]) rfl ⟨_,_,rfl,?_,?_,?_,⟨_,_,_,rfl⟩⟩
 ·refine zA (zD af (by omega)) (fun q h=>?_)
  have u:q≠w.heap.size:=fun e=>zBq af r (by decide) (by rw [h,e])
  rw [xm _ _ _ _ u,xm _ _ _ _ u]
 ·have ba:(ldT zs).told 0=(midT 8192 (chs zs j)).told 0:=by unfold ldT;rw [<- d.out,a3.out]
  rw [ba];refine zA (zD ae (by omega)) (fun q h=>?_);have u:q≠w.heap.size:=fun e=>zBq ae r (by decide) (by rw [h,e])
  rw [xm _ _ _ _ u,xm _ _ _ _ u]
 exact(a7.setCell (by simp) _).setCell (by simp) _
theorem zAj:∀ (f:Nat) (a:List Pc),a.length<=f->(midT f a).bal∧a.length<2 ^ (midT f a).ht∧((midT f a).ht=0∨2 ^ ((midT f a).ht - 1)<=a.length)
 | 0,a,s=>by
  obtain rfl:a= []:=qW (by omega);exact⟨xn,by simp [midT,AT.ht],.inl rfl⟩
 | f+1,a,s=>by
  rcases vZ a.length with h | h
  ·obtain rfl:a= []:=qW h
   rw [Xk];exact⟨xn,by simp [AT.ht],.inl rfl⟩
  have i:a.length/2<a.length:=(by omega);have j:a[a.length/2]? =some a[a.length/2]:=qY i;have k:(a.take (a.length/2)).length=a.length/2:=(by rw [qN];omega);have l:(a.drop (a.length/2+1)).length=a.length - (a.length/2+1):=(by rw [qR]);obtain⟨o,g,b⟩:=zAj f (a.take (a.length/2)) (by omega);obtain⟨p,r,d⟩:=zAj f (a.drop (a.length/2+1)) (by omega);rw [Ja j];rw [k]at g b;rw [l]at r d;generalize (midT f (a.take (a.length/2)))=A at *
  generalize (midT f (a.drop (a.length/2+1)))=B at *
  have m:B.ht<=A.ht:=by
   rcases d with d | d
   ·omega
   rcases xR A.ht B.ht with q | q
   ·have:=vW (show 0<2 by omega) (show A.ht<=B.ht - 1 by omega)
    omega
   exact q
  have t:A.ht<=B.ht+1:=by
   rcases b with b | b
   ·omega
   rcases xR (B.ht+1) A.ht with q | q
   ·have u:=vW (show 0<2 by omega) (show B.ht+1<=A.ht - 1 by omega)
    have c:2 ^ (B.ht+1)=2 ^ B.ht*2:=Nat.pow_succ ..;omega
   exact q
  have v:=vW (show 0<2 by omega) m;refine⟨⟨o,p,by omega,by omega⟩,?_,.inr ?_⟩
  ·simp only [AT.ht]
   have e:max A.ht B.ht=A.ht:=(by omega);rw [e];have c:2 ^ (A.ht+1)=2 ^ A.ht*2:=Nat.pow_succ ..;rw [show 1+A.ht=A.ht+1 by omega]<;>omega
  simp only [AT.ht];have e:max A.ht B.ht=A.ht:=(by omega);rw [e];rcases b with b | b
  ·rw [b];simp;omega
  have c:2 ^ A.ht=2 ^ (A.ht - 1)*2:=by
   rcases vZ A.ht with q | q
   ·rw [q]at b g;simp at b g;omega
   rw [<- Nat.pow_succ,Nat.succ_eq_add_one,Nat.sub_add_cancel q]
  have n:1+A.ht - 1=A.ht:=by omega
  first | (rw [n,c];omega) | (simp only [vN];rw [c];omega)
theorem zBw (zs:List Int):∀j,16*j<zs.length+16->lsum (chs zs j)=((min (16*j) zs.length:Nat):Int)
 | 0,_=>by simp [chs,lsum]
 | j+1,a=>by
  rw [zBu,zK,zBw zs j (by omega),zJ,jf];simp only [chP,cln];omega
theorem chP_wp (zs:List Int) (i:Nat) (hi:16*i<zs.length):WP zs (chP zs i)∧1<=(chP zs i).len∧(chP zs i).len<=16:=by
 have a:cln zs.length i<=16∧1<=cln zs.length i∧16*i+cln zs.length i<=zs.length:=by unfold cln;omega
 refine⟨⟨?_,?_,?_,?_⟩,?_,?_⟩
 ·simp only [chP];omega
 ·simp only [chP];omega
 ·simp only [chP];omega
 ·simp only [chP,ptx,vg]
 ·simp only [chP];omega
 simp only [chP];omega
theorem ldT_all (zs:List Int) (m:zs.length<=8192):(ldT zs).ok∧(ldT zs).bal∧(ldT zs).wp zs∧(ldT zs).rns=zs.length:=by
 have b:(chs zs ((zs.length+15)/16)).length<=8192:=by rw [jk];omega
 have c:(ldT zs).flat=chs zs ((zs.length+15)/16):=YI 8192 _ b;have d:(ldT zs).rns=zs.length:=by rw [AT.qe,c,zBw zs _ (by omega)];omega
 have e:∀p∈(ldT zs).flat,WP zs p∧1<=p.len∧p.len<=16:=by
  intro p a;rw [c]at a;obtain⟨i,hi,rfl⟩:=kL.1 a;exact chP_wp zs i (by have:=kC.1 hi;omega)
 refine⟨⟨fun p a=>?_,by rw [d];omega⟩,(zAj 8192 _ b).1,(zR zs _).2 fun p a=>(e p a).1,d⟩;obtain⟨⟨f,g,h,j⟩,n,o⟩:=e p a;have k:=XK (ptx zs p);have l:((ptx zs p).length:Int)=p.len:=YF ⟨f,g,h,j⟩;simp only [pcOk,qU];omega
theorem zEs (zs:List Int) (b o cap:Nat) (w:World) (t:At32 w b o zs) (u:b<w.heap.size) (x:zs.length<=1048576):
  Calls prog 8 #[.slice (qK b o) zs.length cap] w fun e w'=>∃b cap,e= .returned (.slice (qK b 0) zs.length cap)∧own32 w' w.heap.size (.slice (qK b 0) zs.length cap) zs∧Below w.heap.size w w':=by
 have c:=qG (show(w.alloc (.cells #[] 21)).ownsRow w.heap.size 21 1 (.slice (qK w.heap.size 0) 0 0) 0 []from kJ w #[] 0 lR (xX _) rfl);have d:=qG ((qO w.heap.size w).alloc lR (.cells #[] 21));have m:=qG (by have n:=(t.below d u).app 0 zs.length (by omega);simpa using n:∀j l,(ints .i32 zs)[j]? =some l->(w.alloc (.cells #[] 21)).cell? ((⟨b,o,none⟩:Addr).add j)=some l);go_enter func8,ntmps8;go_wp2_with (at_builtin;refine Ql _ rfl _ _ rfl w.heap.size _ _ _ rfl c ⟨b,o,none⟩ zs.length cap (ints .i32 zs) rfl (by rw [zC,vP]) m (zG _ _) (by unfold maxLen;omega) (by omega) (by simp) ?_;intro h v a i k);have f:h≠ .slice none 0 0:=fun e=>by have:=(k.1 e).1;cases this
 rw [xH,xP]at a
 obtain⟨y,z,rfl⟩:∃b cap,h= .slice (qK b 0) zs.length cap:=by
  rcases a.2 with ⟨e,_⟩ | ⟨g,A,B,e,_⟩
  ·exact absurd e f
  exact⟨_,_,e⟩
 have p:=qG a;have r:=qG (d.grown i (by simp) (fun q s=>(c.lt q s).1));clear a i k f;go_wp2;go_ret;exact⟨_,_,rfl,p,r⟩
theorem ZG (xs:List Int) (v d:Value) (w:World) (f:Rd .i32 w v xs) (g:Rd .i32 w d xs) (y:xs.length<=1099511627776):
  Calls prog 17 #[v,d] w fun e w'=>e= .returned (.bool true)∧∃n,w'=w.drewN n:=by
 by_cases h:xs.length=0
 ·have m:xs= []:=qW h
  subst m
  obtain⟨ao,cap,rfl⟩:∃ao cap,v= .slice ao 0 cap:=by
   rcases f with ⟨ao,cap,rfl,_⟩ | ⟨_,_,_,_,c,_⟩
   ·exact⟨_,_,rfl⟩
   simp at c
  obtain⟨A,t,rfl⟩:∃ao cap,d= .slice ao 0 cap:=by
   rcases g with ⟨ao,cap,rfl,_⟩ | ⟨_,_,_,_,c,_⟩
   ·exact⟨_,_,rfl⟩
   simp at c
  clear f g;go_enter func17,ntmps17;go_wp2;refine vf 1 ?_;rw [xF];go_wp2;go_ret;exact⟨rfl,0,rfl⟩
 obtain⟨b,off,cap,rfl,a⟩:∃b off cap,v= .slice (qK b off) xs.length cap∧∀i,i<xs.length->w.cell? ⟨b,off+i,none⟩=some (.int .i32 (xs.getD i 0)):=by
  rcases f with ⟨ao,cap,_,e⟩ | ⟨b,off,cap,e,c,a⟩
  ·subst e;simp at h
  exact⟨b,off,cap,e,a⟩
 obtain⟨B,C,t,rfl,l⟩:∃b off cap,d= .slice (qK b off) xs.length cap∧∀i,i<xs.length->w.cell? ⟨b,off+i,none⟩=some (.int .i32 (xs.getD i 0)):=by
  rcases g with ⟨ao,cap,_,e⟩ | ⟨b,off,cap,e,c,a⟩
  ·subst e;simp at h
  exact⟨b,off,cap,e,a⟩
 clear f g;generalize s:xs.length=n at *
 clear s;have u:((n:Int) != (n:Int))=false:=by simp
 have o:=qG a;have p:=qG l;clear a l;go_enter func17,ntmps17;go_wp2;go_loopw [13] (fun i wr=>∃k nq:Nat,k<=n∧i=qJ k∧wr=w.drewN nq) (fun i _=>n - (intOf i).toNat)
 case atStart=>exact⟨0,0,xX _,rfl,rfl⟩
 obtain⟨k,nq,D,rfl,rfl⟩:=hrel;by_cases j:k<n
 ·have q:=o k j
  have r:=p k j;generalize xs.getD k 0=z at q r;have x:(z != z)=false:=(by simp);go_wp2;go_quiet (fail);go_wp2;go_roundw
  case rel=>exact⟨k+1,_,by omega,by go_num,rfl⟩
  simp [intOf];omega
 go_wp2;go_ret;exact⟨rfl,_,rfl⟩
theorem ptextS (B:Nat) (zs:List Int) (b o cap:Nat) (v:Value) (xs:List It) (w:World) (u:At32 w b o zs) (L:b<w.heap.size) (b1:zs.length<=1048576) (b2:zs.length<=cap) (a8:cap<=maxLen) (f:RdI B w v xs) (a9:B<=w.heap.size) (b3:xs.length<=8192) (ad:∀x∈xs,WP zs x.pc∧1<=x.pc.len) (ht:(txt zs xs).length<=8192):
  Calls prog 6 #[.agg #[.slice (some ⟨b,o,none⟩) zs.length cap,v]] w fun e w'=>∃K,e= .returned K∧own32 w' w.heap.size K (txt zs xs)∧Below w.heap.size w w'∧K≠ .slice none 0 0:=by
 obtain⟨ao,a,rfl⟩:=f.val
 have k:=qG (((qO w.heap.size w).alloc lR (.cells #[.slice (some ⟨b,o,none⟩) zs.length cap,.slice ao xs.length a] 30)).alloc (by simp) (.cells #[] 21))
 have ap:=qG (u.below k.out L)
 have bd:((w.alloc (.cells #[.slice (some ⟨b,o,none⟩) zs.length cap,.slice ao xs.length a] 30)).alloc (.cells #[] 21)).heap.size=w.heap.size+2:=by simp
 have z:((w.alloc (.cells #[.slice (some ⟨b,o,none⟩) zs.length cap,.slice ao xs.length a] 30)).alloc (.cells #[] 21)).heap[w.heap.size]? =some (.cells #[.slice (some ⟨b,o,none⟩) zs.length cap,.slice ao xs.length a] 30 (0,0)):=(vV _ _ _ (by simp)).trans (xg _ _)
 have A:=ZH (w.alloc (.cells #[.slice (some ⟨b,o,none⟩) zs.length cap,.slice ao xs.length a] 30));rw [vp]at A
 have aq:=qG (show own32 _ (w.heap.size+1) _ []from A)
 have O:((w.alloc (.cells #[.slice (some ⟨b,o,none⟩) zs.length cap,.slice ao xs.length a] 30)).alloc (.cells #[] 21)).cell? ⟨w.heap.size,1,none⟩=some (.slice ao xs.length a):=by rw [qP _ _ 1 _ _ _ z];rfl
 have P:∀j,j<xs.length->∃b off x,ao=some ⟨b,off,none⟩∧b<B∧xs[j]? =some x∧ItAt w b (off+j*4) x:=by
  intro j J
  obtain⟨b,off,a,e,_,L,u⟩:=f.at (by intro e;subst e;simp at J)
  cases e;obtain⟨x,ae,af⟩:=ZV (B:=B) (cap:=cap) u J;exact⟨b,off,x,rfl,L,ae,af⟩
 have ar:=qG P
 have au:xs.length<=a∧a<=maxLen∨xs.length=0:=by
  rcases f with ⟨_,_,e,rfl⟩ | ⟨_,_,_,e,ag,_⟩
  ·right;rfl
  cases e;left;exact⟨ag.2.1,ag.2.2⟩
 unfold maxLen at au a8;have av:=qG ad
 have Q:Hid (∀j,(txt zs (xs.take j)).length<=8192):=qG fun j=>by
  have e:=Y7 zs (xs.take j) (xs.drop j);rw [xw]at e;rw [e,qM]at ht;omega
 have aw:=qG z;have be:=qG (f.below k.out a9);generalize bx:xs.length=n at *;generalize a6:zs.length=aa at *;clear f P ad u A z ht;go_enter func6,ntmps6;go_wp2_with fail;generalize (w.alloc (.cells #[.slice (some ⟨b,o,none⟩) aa cap,.slice ao n a] 30)).alloc (.cells #[] 21)=ab at *
 go_loopw [3,11] (fun s i wr=>∃j:Nat,j<=n∧i= .int .i64 j∧own32 wr (w.heap.size+1) s (txt zs (xs.take j))∧Below (w.heap.size+1) ab wr∧s≠ .slice none 0 0) (fun _ i _=>n - (intOf i).toNat)
 case atStart=>exact⟨0,xX _,rfl,aq.out,qO _ _,by simp⟩
 obtain⟨j,J,rfl,M,N,ah⟩:=hrel;have C:=qG ah;clear ah;have D:=qG M;have E:=qG N;have bf:=N.size;obtain⟨b4,b5,rfl⟩:=zi M;clear N M O
 by_cases a5:j<n
 ·obtain⟨g,off,x,rfl,b6,y,ai,aj,ak,al⟩:=ar.out j a5
  have bg:(j:Int)<n:=by omega
  have bh:=qG y;obtain⟨⟨ae,af,ba,bc⟩,b7⟩:=av.out x (xM.2 ⟨j,y⟩);rw [a6]at ba
  have h:=(k.out.trans (E.out.mono (by omega)))
  have m:g<w.heap.size:=by omega
  have bi:=(h.cell (p:=⟨g,off+j*4,none⟩) m).trans ai;have bj:=(h.cell (p:=⟨g,off+j*4+1,none⟩) m).trans aj;have bk:=(h.cell (p:=⟨g,off+j*4+2,none⟩) m).trans ak;have bl:=(h.cell (p:=⟨g,off+j*4+3,none⟩) m).trans al
  have bm:g<wr.heap.size:=by omega
  have R:=qG (Q.out j);have S:=qG (Q.out (j+1))
  have F:=qG (show txt zs (xs.take (j+1))=txt zs (xs.take j)++ptx zs x.pc by rw [zw y];rw [Y7];simp [txt])
  clear ai aj ak al y h bc;obtain⟨⟨am,an,c⟩,d⟩:=x;simp only at *
  obtain⟨q,rfl⟩:∃q:Nat,am=q:=⟨am.toNat,by omega⟩
  obtain⟨l,rfl⟩:∃l:Nat,an=l:=⟨an.toNat,by omega⟩
  have G:=qG (E.out.alloc (by omega) (.cells #[.int .i64 (q:Int),.int .i64 (l:Int),.int .i64 c,.int .i64 d] 65))
  have H:(wr.alloc (.cells #[.int .i64 (q:Int),.int .i64 (l:Int),.int .i64 c,.int .i64 d] 65)).heap[wr.heap.size]? =some (.cells #[.int .i64 (q:Int),.int .i64 (l:Int),.int .i64 c,.int .i64 d] 65 (0,0)):=xg _ _
  have bn:(wr.alloc (.cells #[.int .i64 (q:Int),.int .i64 (l:Int),.int .i64 c,.int .i64 d] 65)).cell? ⟨wr.heap.size,0,none⟩=some (.int .i64 (q:Int)):=by rw [qP _ _ 0 _ _ _ H];rfl
  have bo:(wr.alloc (.cells #[.int .i64 (q:Int),.int .i64 (l:Int),.int .i64 c,.int .i64 d] 65)).cell? ⟨wr.heap.size,1,none⟩=some (.int .i64 (l:Int)):=by rw [qP _ _ 1 _ _ _ H];rfl
  have O:(wr.alloc (.cells #[.int .i64 (q:Int),.int .i64 (l:Int),.int .i64 c,.int .i64 d] 65)).cell? ⟨w.heap.size,0,none⟩=some (.slice (some ⟨b,o,none⟩) aa cap):=by rw [G.out.cell (p:=⟨w.heap.size,0,none⟩) (by show w.heap.size<w.heap.size+1;omega),qP ab _ 0 _ _ _ aw.out];rfl
  have T:=qG (show own32 _ (w.heap.size+1) _ _ from vI D.out (.cells #[.int .i64 (q:Int),.int .i64 (l:Int),.int .i64 c,.int .i64 d] 65))
  have ax:=qG ((ap.out.below G.out (by omega)).app q l (by omega))
  have bp:(wr.alloc (.cells #[.int .i64 (q:Int),.int .i64 (l:Int),.int .i64 c,.int .i64 d] 65)).heap.size=wr.heap.size+1:=by simp
  have bq:w.heap.size<wr.heap.size:=by omega
  have br:(q:Int)<=(q:Int)+(l:Int):=by omega
  have bs:(q:Int)+(l:Int)<=(cap:Int):=by omega
  have bt:¬cap=q:=by omega
  have bu:(0:Int)<=(q:Int)+(l:Int):=by omega
  have t:((zs.drop q).take l).length=l:=by rw [qN,qR];omega
  have ay:=qG (show((zs.drop q).take l).length=q+l - q by rw [t];omega)
  simp only [ptx,vg]at F;have bv:=R.out;have az:=S.out;rw [F.out,qM,t]at az
  have a0:=qG (show(ints .i32 ((zs.drop q).take l)).length=(q+l - q)*1 by rw [zC,t];omega)
  clear H R S t;generalize bz:(zs.drop q).take l=U at *;generalize b0:txt zs (xs.take j)=ac at *;generalize Z:ac.length=a7 at *
  go_wp2_with (at_builtin;refine Ql _ rfl _ _ rfl (w.heap.size+1) _ a7 (ints .i32 ac) rfl (by have I:=T.out;unfold own32 at I;rw [Z]at I;exact I) ⟨b,o+q,none⟩ (q+l - q) (cap - q) (ints .i32 U) rfl a0.out ax.out (zG _ _) (by unfold maxLen;omega) (by omega) (by omega) ?_;intro V a4 W X Y)
  have a1:=qG (show own32 a4 (w.heap.size+1) V (txt zs (xs.take (j+1)))by rw [F.out];exact YH Z ay.out W)
  have a2:=qG (G.out.grown X (by omega) (fun r f=>(T.out.lt r f).1))
  have a3:=qG (show V≠ .slice none 0 0 from fun e=>C.out (Y.1 e).1)
  clear W X Y;go_wp2;go_roundw
  case rel=>exact⟨j+1,by omega,by go_num,a1.out,a2.out,a3.out⟩
  simp [intOf];omega
 obtain rfl:j=n:=by omega
 have bw:¬ (j:Int)<(j:Int):=by omega
 have e:xs.take j=xs:=xu (by omega)
 rw [e]at D C |-;clear e;go_wp2;go_ret
 exact⟨_,rfl,zD D.out (by omega),k.out.trans (E.out.mono (by omega)),C.out⟩
end Go.Proofs.YtmjanhcplcalfaaGreatDoor
namespace Go.Proofs.YtmjanhcplcalfaaGreatDoor
open Go Go.RowKit Go.Sort Go.Proofs.Tryz
structure PCore (w:World) (base c b o cap:Nat) (zs:List Int) (T:AT):Prop where
 k:∃d bs,PK w c b o zs.length cap d∧Lies w base T d bs
 a:At32 w b o zs
 b:b<w.heap.size
 ok:T.ok
 wp:T.wp zs
 n:zs.length<=1048576∧zs.length<=cap∧cap<=maxLen
theorem textN (c b o n cap q m:Nat) (a:Int) (l:Option Addr) (w:World) (i:PK w c b o n cap l) (A:q+m<=n) (B:0<m∨q=0) (C:n<=cap) (r:cap<=maxLen):
  Calls prog 180 #[.pointer (qK c 0),.agg #[qJ (q:Int),qJ (m:Int),qJ a]] w fun e w'=>e= .returned (.slice (qK b (o+q)) m (cap - q))∧Below w.heap.size w w':=by
 have d:=qG ((qO w.heap.size w).alloc lR (.cells #[qJ (q:Int),qJ (m:Int),qJ a] 63));have s:=(d.cell (p:=⟨c,0,none⟩) i.lt).trans i.c0;have f:(w.alloc (.cells #[qJ (q:Int),qJ (m:Int),qJ a] 63)).heap[w.heap.size]? =some (.cells #[qJ (q:Int),qJ (m:Int),qJ a] 63 (0,0)):=xg _ _;have t:(w.alloc (.cells #[qJ (q:Int),qJ (m:Int),qJ a] 63)).cell? ⟨w.heap.size,0,none⟩=some (qJ (q:Int)):=by rw [qP _ _ 0 _ _ _ f];rfl
 have u:(w.alloc (.cells #[qJ (q:Int),qJ (m:Int),qJ a] 63)).cell? ⟨w.heap.size,1,none⟩=some (qJ (m:Int)):=by rw [qP _ _ 1 _ _ _ f];rfl
 have v:(w.alloc (.cells #[qJ (q:Int),qJ (m:Int),qJ a] 63)).heap.size=w.heap.size+1:=by simp
 unfold maxLen at r;have x:(q:Int)<=(q:Int)+(m:Int):=by omega
 have y:(q:Int)+(m:Int)<=(cap:Int):=by omega
 have z:(0:Int)<=(q:Int)+(m:Int):=by omega
 clear i f;by_cases k:cap=q
 ·obtain rfl:q=0:=by omega
  obtain rfl:m=0:=(by omega);subst k;go_enter func180,ntmps180;go_wp2_with fail;generalize w.alloc (.cells #[qJ ((0:Nat):Int),qJ ((0:Nat):Int),qJ a] 63)=h at *
  go_quiet (fail);have g:=qG (show Below w.heap.size w (h.drewN nq)from d.trans (J6 _ _ _));go_wp2;go_ret;exact⟨rfl,g⟩
 have j:=qG (show Ending.returned (.slice (qK b (o+q)) (q+m - q) (cap - q))=Ending.returned (.slice (qK b (o+q)) m (cap - q))by rw [show q+m - q=m by omega]);go_enter func180,ntmps180;go_wp2_with fail;generalize w.alloc (.cells #[qJ (q:Int),qJ (m:Int),qJ a] 63)=h at *
 go_quiet (fail);have g:=qG (show Below w.heap.size w (h.drewN nq)from d.trans (J6 _ _ _));go_wp2;go_ret;exact⟨Eq.trans rfl j,g⟩
end Go.Proofs.YtmjanhcplcalfaaGreatDoor
