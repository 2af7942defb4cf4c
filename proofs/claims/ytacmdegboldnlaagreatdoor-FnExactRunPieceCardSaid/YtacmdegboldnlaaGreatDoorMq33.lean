import Derived.Test.YtacmdegboldnlaaGreatDoorMq16
import Derived.Test.YtacmdegboldnlaaGreatDoorMq28
import Derived.Test.YtacmdegboldnlaaGreatDoorMq29
set_option linter.all false
set_option maxRecDepth 100000
set_option maxHeartbeats 8000000
namespace Go.Proofs.YtacmdegboldnlaaGreatDoor
open Go Go.RowKit Go.Proofs.Tryz
open _root_.Array renaming size→N
open Bool renaming false→VP,true→VR
open Go renaming Calls→VM,below_regrown→qa7,cell_regrown→qa6,redrawn→qab
open _root_.Go.IntKind renaming i64→qad
open List renaming length→L
open Option renaming some→O
open _root_.Go.Value renaming ownBlock→VD,slice→VK
open _root_.Go.World renaming alloc→VF,cell?→VE,heap→Y
section
open Go.Sort Go.BigFrame
section
variable {w w':World} {Z:Nat->Prop} {E c:Nat} {x:VX} {M:SS} {K:KX} {kd b0 b1 b2:Int} {ta:Option Addr} {tl tk:Nat} {ll hh d:Nat}
def del9(ab:EX K w Z E c x M)(ac:hh=ll+d)(ap:0<d)(aq:hh<=L M.tx)(ar:Vd M.ms)(au:L M.un<=1000)(av:M.cp<=1000)(aw:L M.gr<=100000):AX K 117 w Z E c 2 ll hh b2 (VZ ta tl tk) 0 d 0 [] [] (Fy M ll hh []):=by
 unfold AX;have y:=zC (PX.start ab (yZ 2 ll hh b2 (VZ ta tl tk)));have a2:=λc w=>(K.mth c w).1
 have a3:=K.ent K.fLen VT;have r:=zC ac;clear ac;clear ab;go_enter func117,ntmps117;go_upto_region 1 with fail;generalize VF (VF w _) _=f at*;obtain⟨ba,ad⟩:=y.A.1;have s:=zC ad;have z:=zC y.2.2.2.1;clear ad;have a4:=s.len;have a5:(ll:Int)<hh:=by have:=r.A;omega
 have a6:hh<=8192:=VC
 have I:=zC (show yq (decide ((0<=(hh:Int)/\(hh:Int)<=(L M.tx:Nat))/\(0<=(ll:Int)/\(ll:Int)<=(hh:Int)))) 2= .nilIface from by rw[show decide ((0<=(hh:Int)/\(hh:Int)<=(L M.tx:Nat))/\(0<=(ll:Int)/\(ll:Int)<=(hh:Int)))=VR by grind];rfl);have h:VE f (V4 (N (Y w)) 1)=O (qP ll):=c8 1 z;have j:=λd e=>qa6 h d e
 have k:VE f (V4 (N (Y w)) 2)=O (qP hh):=c8 2 z;have l:=λd e=>qa6 k d e
 have J:=s.c6;have m:=λd e=>qa6 J d e
 have P:=zC (λd e=>Calls.regrown_of (Ht (s.I (qa7 f d e))));have Q:=zC (λd e=>Calls.regrown_of (zB1 (grow (qab f d) e) I));clear h k J;go_wp2_with fail;refine wp_region_quiet_below (by rfl) VU ?_
 repeat (quiet_step (first | exact P _ _ | exact Q _ _))
 refine wpQuiet_nil ?_;intro _ an;obtain⟨⟨ae,af⟩,ax⟩:=an;subst ax;have R:=zC (qa7 f ae af);clear j l m P Q;generalize grow (qab f ae) af=q at*;have t:=zC (y.I R);obtain⟨ay,C⟩:=t.A.1;have u:=zC C;have o:=t.2.2.2.1
 have A:=zC (show ∀a:V8,qa3 q a->(VE a (V4 (N (Y w)) 1)=O (qP ll)/\VE a (V4 (N (Y w)) 2)=O (qP hh)/\VE a (V4 E 6)=O (.iface K.ty (V3 c 0)))from λa g=>by
  have S:=(g.block _ (xG.1 o).1).R o
  exact⟨c9 S rfl,c9 S rfl,(C.I g).c6⟩)
 have h:VE q (V4 (N (Y w)) 1)=O (qP ll):=c8 1 o;have k:VE q (V4 (N (Y w)) 2)=O (qP hh):=c8 2 o;have a7:=λc w=>(K.mth c w).2.2.2.2.1
 have a8:=K.ent K.fSli VT;clear C o s z R I;go_upto_region 5 with fail;refine(kS (n:=6)).1 ?_;refine Yi 12 (λa=>VE a (V4 (N (Y w)) 1)=O (qP ll)/\VE a (V4 (N (Y w)) 2)=O (qP hh)/\VE a (V4 E 6)=O (.iface K.ty (V3 c 0))) (by rfl) ?_;refine te 0 (V3 E 0) ?_ ?_
 ·intro a b;go_simp
 go_simp;refine te 1 (V3 (N (Y w)) 1) ?_ ?_
 ·intro a b;go_simp
 go_simp;refine te 2 (qP ll) ?_ ?_
 ·intro a b;obtain⟨j,l,m⟩:=b;go_simp
 go_simp;refine te 3 (V3 E 0) ?_ ?_
 ·intro a b;go_simp
 go_simp;refine te 4 (V3 E 0) ?_ ?_
 ·intro a b;go_simp
 go_simp;refine te 5 (V3 E 6) ?_ ?_
 ·intro a b;go_simp
 go_simp;refine te 6 (.iface K.ty (V3 c 0)) ?_ ?_
 ·intro a b;obtain⟨j,l,m⟩:=b;go_simp
 go_simp;refine te 7 (V3 (N (Y w)) 1) ?_ ?_
 ·intro a b;go_simp
 go_simp;refine te 8 (qP ll) ?_ ?_
 ·intro a b;obtain⟨j,l,m⟩:=b;go_simp
 go_simp;refine te 9 (V3 (N (Y w)) 2) ?_ ?_
 ·intro a b;go_simp
 go_simp;refine te 10 (qP hh) ?_ ?_
 ·intro a b;obtain⟨j,l,m⟩:=b;go_simp
 go_simp;obtain⟨ag,g⟩:∃a,a=q.drew:=⟨_,rfl⟩
 rw[<- g];have p:=zC (show qa3 q ag from by rw[g];exact⟨rfl,rfl,rfl,lR,λ_ _=>rfl⟩);clear g h k
 have T:=zC (by
  have:=K.cSli (lo:=ll) (hi:=hh) (u.I p).cr VC (by rw[u.A.tx];exact aq)
  rw[u.A.tx]at this;exact this)
 refine one 11 (A ag p) ?_;gi_wp2_with fail;refine⟨xN,(vD.2 T).G ?_⟩;rintro az a0 ⟨bc,rfl,D,F⟩;have al:=zC (p.R (F.G p.size));obtain⟨bd,bf,ah⟩:=zS D;obtain⟨G,H⟩:=(t.I p).held F D;have B:L ((M.tx.take hh).drop ll)=d:=by rw[xZ,xO];have:=r.A;omega
 obtain⟨aa,ai⟩:∃aa,aa=(M.tx.take hh).drop ll:=⟨_,rfl⟩
 rw[<- ai]at ah H B;subst ah;obtain⟨a1,aj⟩:=G.1;have U:=zC G;have V:=zC (zCe (off:=ll) VP aj H ⟨VC,by grind,ar,λao=>by cases ao⟩ au av aw (Xd M ll hh []) ⟨by grind [Xd],rfl,by grind [rtx_cut],rfl,by grind [Xd,Lf,EK]⟩);have W:=zC B;clear G H aj D F ai B T;gi_wp2_with fail;refine fin (A a0 al) ?_;gi_wp2_with fail;refine⟨trivial,(vD.2 V).G ?_⟩;rintro az ak ⟨rfl,hst⟩;rw[<- edS_cut M (by have:=r.A;rw[W.A];omega) (by rw[W.A];exact ap)]at hst;obtain⟨bg,v,_⟩:=U.A.step hst;have X:=zC v;have h:VE ak (V4 (N (Y w)) 1)=O (qP ll):=c8 1 v.2.2.2.1;have k:VE ak (V4 (N (Y w)) 2)=O (qP hh):=c8 2 v.2.2.2.1;clear hst v V U t A u;gi_wp2_with fail;have a9:qad.wrap (hh-ll)=d:=by have:=r.A;rw[vU];omega
 have RR:=zC X.2.2.2.2;have am:=zC (X.fin0 (x0:=0) (x1:=d) (x2:=0));go_wp2_with (refine ZD RR ?_);exact yw results117 RR rfl rfl am
def delE9(r:EX K w Z E c x M)(G:ll<=L M.tx):AX K 117 w Z E c 2 ll ll b2 (VZ ta tl tk) 0 0 0 [] [] M:=by
 unfold AX;have f:=zC (PX.start r (yZ 2 ll ll b2 (VZ ta tl tk)));have D:=λc w=>(K.mth c w).1
 have F:=K.ent K.fLen VT;clear r;go_enter func117,ntmps117;go_upto_region 1 with fail;generalize VF (VF w _) _=b at*;obtain⟨H,s⟩:=f.A.1;have g:=zC s;have h:=zC f.2.2.2.1;clear s;have l:=zC (show yq (decide ((0<=(ll:Int)/\(ll:Int)<=(L M.tx:Nat))/\(0<=(ll:Int)/\(ll:Int)<=(ll:Int)))) 2= .nilIface from by rw[show decide ((0<=(ll:Int)/\(ll:Int)<=(L M.tx:Nat))/\(0<=(ll:Int)/\(ll:Int)<=(ll:Int)))=VR by simp_all];rfl);have j:VE b (V4 (N (Y w)) 1)=O (qP ll):=c8 1 h;have v:=λd a=>qa6 j d a
 have k:VE b (V4 (N (Y w)) 2)=O (qP ll):=c8 2 h;have y:=λd a=>qa6 k d a
 have m:=g.c6;have z:=λd a=>qa6 m d a
 have n:=zC (λd a=>Calls.regrown_of (Ht (g.I (qa7 b d a))));have o:=zC (λd a=>Calls.regrown_of (zB1 (grow (qab b d) a) l));clear j k m;go_wp2_with fail;refine wp_region_quiet_below (by rfl) VU ?_
 repeat (quiet_step (first | exact n _ _ | exact o _ _))
 refine wpQuiet_nil ?_;intro _ B;obtain⟨⟨t,u⟩,C⟩:=B;subst C;have p:=zC (qa7 b t u);clear v y z n o;generalize grow (qab b t) u=q at*;have e:=zC (f.I p);have j:VE q (V4 (N (Y w)) 1)=O (qP ll):=c8 1 e.2.2.2.1;have k:VE q (V4 (N (Y w)) 2)=O (qP ll):=c8 2 e.2.2.2.1;clear g h p l;have RR:=zC e.2.2.2.2;have A:=zC (e.fin0 (x0:=0) (x1:=0) (x2:=0));go_wp2_with (refine ZD RR ?_);exact yw results117 RR rfl rfl A
def If:(∀{a s h q t c j e}{b:Int}{k l m tk}(u:EX j a s h q t c)(A:¬ ((0<=b/\b<=L c.tx)/\(0<=e/\e<=b))),BX 117 a h 2 e b k (VZ l m tk) (.iface 109 (qP 2)))/\(∀{a s h q t c j e}{b:Int}{k l m tk}(u:EX j a s h q t c)(A:¬ ((0<=b/\b<=L c.tx)/\(0<=e/\e<=b))),BX 118 a h 3 e b k (VZ l m tk) (.iface 109 (qP 2)))/\(∀{a s h q t c j k l m tk g f}{d:Nat}(u:EX j a s h q t c)(H:f=g+d)(A:f<=L c.tx)(Q:c.sp<=200000)(aa:¬c.sp+d<=200000),BX 118 a h 3 g f k (VZ l m tk) (.iface 109 (qP 10))):=by
 refine⟨@λa s h q t c j e b k l m tk u A=>have v:=zC xN;have w:=zC xN;?_,@λa s h q t c j e b k l m tk u A=>have w:=zC xN;?_,@λa s h q t c j k l m tk g f d u H A Q aa=>have p:=zC xN;?_⟩
 all_goals
  unfold BX
  first
   |(revert p;intro p;have x:=zC (PB.start a (yZ 3 g f k (VZ l m tk))))
   |(revert v;intro v;have x:=zC (PB.start a (yZ 2 e b k (VZ l m tk))))
   |(have x:=zC (PB.start a (yZ 3 e b k (VZ l m tk))))
  have ac:=λq a=>(j.mth q a).1
  have ad:=j.ent j.fLen VT
  first | (revert p;intro p;have I:=zC H;clear H) | skip
  have T:=zC u;clear u
  first
   |(revert v;intro v;go_enter func117,ntmps117)
   |(go_enter func118,ntmps118)
  go_upto_region 1 with fail;generalize VF (VF a _) _=r at*;have y:=zC (T.I x.1);have z:=zC x.2.1;have ae:=y.len
  first
   |(revert p;intro p;(have af:f<=8192:=by omega);(have ag:g<=f:=by have:=I.A;omega);(have ah:qad.wrap (f-g)=d:=by have:=I.A;rw[vU];omega);(have B:=zC (show yq (decide ((0<=(f:Int)/\(f:Int)<=(L c.tx:Nat))/\(0<=(g:Int)/\(g:Int)<=(f:Int)))) 2= .nilIface from by rw[show decide ((0<=(f:Int)/\(f:Int)<=(L c.tx:Nat))/\(0<=(g:Int)/\(g:Int)<=(f:Int)))=VR by simp_all];rfl));have C:VE r (V4 (N (Y a)) 1)=O (qP g):=c8 1 z)
   |((have B:=zC (show yq (decide ((0<=(b:Int)/\(b:Int)<=(L c.tx:Nat))/\(0<=(e:Int)/\(e:Int)<=(b:Int)))) 2=(.iface 109 (qP 2))from by rw[show decide ((0<=(b:Int)/\(b:Int)<=(L c.tx:Nat))/\(0<=(e:Int)/\(e:Int)<=(b:Int)))=VP by simp_all];rfl));have C:VE r (V4 (N (Y a)) 1)=O (qP e):=c8 1 z)
  have U:=λd o=>qa6 C d o
  first
   |(revert w;intro w;have D:VE r (V4 (N (Y a)) 2)=O (qP b):=c8 2 z)
   |(have D:VE r (V4 (N (Y a)) 2)=O (qP f):=c8 2 z)
  have V:=λd o=>qa6 D d o
  have J:=y.c6;have W:=λd o=>qa6 J d o
  have K:=zC (λd o=>Calls.regrown_of (Ht (y.I (qa7 r d o))))
  first
   |(revert w;intro w;have F:=zC (λd o=>Calls.regrown_of (zB1 (grow (qab r d) o) B)))
   |(have F:=zC (λd o=>Calls.regrown_of (zB1 (grow (qab r d) o) B)))
  clear C D J;go_wp2_with fail;refine wp_region_quiet_below (by rfl) VU ?_
  repeat (quiet_step (first | exact K _ _ | exact F _ _))
  refine wpQuiet_nil ?_;intro _ Z;obtain⟨⟨R,S⟩,ab⟩:=Z;subst ab;have G:=zC (qa7 r R S);clear U V W K F;generalize grow (qab r R) S=P at*;have E:=zC (x.I G)
  first | (revert p;intro p;have C:VE P (V4 (N (Y a)) 1)=O (qP g):=c8 1 E.2.1;have D:VE P (V4 (N (Y a)) 2)=O (qP f):=c8 2 E.2.1;(have X:=zC (Hs (n:=d) (y.I G) Q VC))) | skip
  clear y z G B
  first | (revert p;intro p;go_wp2_with fail;refine X.G ?_;rintro ai aj ⟨rfl,rfl⟩) | skip
  have RR:=zC E.2.2;have M:=zC (E.fin (row:=yV 0 0 0 V0 V0));go_wp2_with (refine ZD RR ?_)
  first
   |(revert v;intro v;exact yw results117 RR rfl rfl ⟨rfl,M⟩)
   |(exact yw results118 RR rfl rfl ⟨rfl,M⟩)
def delB9:=@If.1
def sliB9:=@If.2.1
def sliF9:=@If.2.2
def sli9(X:EX K w Z E c x M)(az:hh=ll+d)(a0:hh<=L M.tx)(bi:M.sp+d<=200000):AX K 118 w Z E c 3 ll hh b2 (VZ ta tl tk) 0 0 0 ((M.tx.drop ll).take (hh-ll)) [] {M with sp:=M.sp+d,lg:=M.lg++ [⟨4,ll,0,[]⟩]}:=by
 unfold AX;have H:=zC (PX.start X (yZ 3 ll hh b2 (VZ ta tl tk)));have bk:=X.lt;have bl:=λc w=>(K.mth c w).1
 have bn:=K.ent K.fLen VT;have I:=zC az;clear az;clear X;go_enter func118,ntmps118;go_upto_region 1 with fail;generalize VF (VF w _) _=m at*;obtain⟨bw,a1⟩:=H.A.1;have u:=zC a1;have J:=zC H.2.2.2.1;clear a1;have bp:=u.len;have bq:hh<=8192:=VC
 have ah:ll<=hh:=by have:=I.A;omega
 have a8:qad.wrap (hh-ll)=d:=by have:=I.A;rw[vU];omega
 have ai:=zC (show yq (decide ((0<=(hh:Int)/\(hh:Int)<=(L M.tx:Nat))/\(0<=(ll:Int)/\(ll:Int)<=(hh:Int)))) 2= .nilIface from by rw[show decide ((0<=(hh:Int)/\(hh:Int)<=(L M.tx:Nat))/\(0<=(ll:Int)/\(ll:Int)<=(hh:Int)))=VR by simp_all];rfl);have v:VE m (V4 (N (Y w)) 1)=O (qP ll):=c8 1 J;have y:=λd b=>qa6 v d b
 have z:VE m (V4 (N (Y w)) 2)=O (qP hh):=c8 2 J;have A:=λd b=>qa6 z d b
 have o:=u.c6;have h:=λd b=>qa6 o d b
 have aj:=zC (λd b=>Calls.regrown_of (Ht (u.I (qa7 m d b))));have ak:=zC (λd b=>Calls.regrown_of (zB1 (grow (qab m d) b) ai));clear v z o;go_wp2_with fail;refine wp_region_quiet_below (by rfl) VU ?_
 repeat (quiet_step (first | exact aj _ _ | exact ak _ _))
 refine wpQuiet_nil ?_;intro _ W;obtain⟨⟨q,r⟩,aa⟩:=W;subst aa;have j:=zC (qa7 m q r);clear y A h aj ak;generalize grow (qab m q) r=aw at*;have p:=zC (H.I j);obtain⟨bj,a2⟩:=p.A.1;have al:=zC (WU a2 bi);have v:VE aw (V4 (N (Y w)) 1)=O (qP ll):=c8 1 p.2.2.2.1;have z:VE aw (V4 (N (Y w)) 2)=O (qP hh):=c8 2 p.2.2.2.1;clear a2 u J j ai;go_wp2_with fail;refine al.G ?_;rintro C ab ⟨rfl,D,a3⟩;have P:=zC (p.same ⟨_,D⟩ a3);have am:=zC D;have br:=λc w=>(K.mth c w).2.2.2.2.2.2.1
 have bs:=K.ent K.fCol VT;have bt:=λc w=>(K.mth c w).2.2.2.2.1
 have bu:=K.ent K.fSli VT;have an:VE ab (V4 (N (Y w)) 1)=O (qP ll):=c8 1 P.2.2.2.1;have o:=D.c6;have a9:=λd b=>qa6 an d b
 have h:=λd b=>qa6 o d b
 clear D a3 al p v z a8;go_upto_region 6 with fail;refine(kS (n:=6)).1 ?_;refine zI 6 (by rfl) VU ?_;simp only[vQ,kh,vT,ke];clear an o
 repeat (refine wpQuietIn_step (λ_ _ _ _=>trivial) (λK ax=>?_);go_simp;first | (refine ax _ ?_;clear ax K))
 refine wpQuietIn_nil ?_;intro _ W;obtain⟨⟨q,r⟩,aa⟩:=W;subst aa;have j:=zC (qa7 ab q r);clear a9 h;generalize grow (qab ab q) r=bv at*;have ao:=zC (P.I j);have f:=zC (am.I j);have ap:=zC (K.cCol f.cr f.ey.zl (by rw[f.A.tx];exact ku ah a0));clear P am j;gi_wp2_with fail;refine⟨xN,(vD.2 ap).G ?_⟩;rintro C F ⟨rfl,a4,ac⟩;have k:=zC (f.core (l:=⟨4,ll,0,[]⟩) (T:=M.tx) ac a4 (by rfl) (by rw[K.tSee f.A.cr (by rw[f.A.tx];grind)];exact f.tx));have Q:=zC (ao.same (M2:={M with sp:=M.sp+d,lg:=M.lg++ [⟨4,ll,0,[]⟩]}) ⟨_,k⟩ (ac.weak VS));clear a4 ac ap ao f;gi_wp2_with fail;have R:=Q.2.2.2.1
 have S:=zC (show ∀a:V8,a.heap[N (Y w)]? =F.heap[N (Y w)]?->a.heap[E]? =F.heap[E]?->(VE a (V4 (N (Y w)) 1)=O (qP ll)/\VE a (V4 (N (Y w)) 2)=O (qP hh)/\VE a (V4 E 6)=O (.iface K.ty (V3 c 0)))from λa bd bf=>by
  have aq:=bd.R R
  exact⟨c9 aq rfl,c9 aq rfl,(vO bf).R k.c6⟩)
 have U:=zC (xG.1 R).1;have V:=k.lt;clear R;go_upto_region 7 with fail;refine(kS (n:=6)).1 ?_;refine Yi 11 (λa=>VE a (V4 (N (Y w)) 1)=O (qP ll)/\VE a (V4 (N (Y w)) 2)=O (qP hh)/\VE a (V4 E 6)=O (.iface K.ty (V3 c 0))) (by rfl) ?_;refine te 0 (V3 E 0) ?_ ?_
 ·intro a e;go_simp
 go_simp;refine te 1 (V3 E 0) ?_ ?_
 ·intro a e;go_simp
 go_simp;refine te 2 (V3 E 6) ?_ ?_
 ·intro a e;go_simp
 go_simp;refine te 3 (.iface K.ty (V3 c 0)) ?_ ?_
 ·intro a e;obtain⟨y,A,h⟩:=e;go_simp
 go_simp;refine te 4 (V3 (N (Y w)) 1) ?_ ?_
 ·intro a e;go_simp
 go_simp;refine te 5 (qP ll) ?_ ?_
 ·intro a e;obtain⟨y,A,h⟩:=e;go_simp
 go_simp;refine te 6 (V3 (N (Y w)) 2) ?_ ?_
 ·intro a e;go_simp
 go_simp;refine te 7 (qP hh) ?_ ?_
 ·intro a e;obtain⟨y,A,h⟩:=e;go_simp
 go_simp;obtain⟨s,ad⟩:∃a,a=F.drew:=⟨_,rfl⟩
 rw[<- ad];have g:=zC (show qa3 F s from by rw[ad];exact⟨rfl,rfl,rfl,lR,λ_ _=>rfl⟩);clear ad
 have ar:=zC (show VM prog K.fSli #[V3 c 0,qP ll,qP hh] s λC w'=>∃ay,C=V5 ay/\zH w' (N (Y s)) ay ((M.tx.take hh).drop ll)/\qa3 s w' from by
  have:=K.cSli (k.I g).cr ah (by rw[k.A.tx];exact a0)
  rw[k.A.tx]at this;exact this)
 refine one 8 (S s (g.block _ U) (g.block _ V)) ?_;gi_wp2_with fail;refine⟨xN,(vD.2 ar).G ?_⟩;rintro C G ⟨bx,rfl,t,ae⟩;have B:=zC (g.R (ae.G g.size));rw[List.drop_take]at t;obtain⟨af,ag,a5⟩:=zS t;obtain⟨a6,a7⟩:=(Q.I g).held ae t;have au:L ((M.tx.drop ll).take (hh-ll))=d:=by rw[xO,xZ];have:=I.A;omega
 rw[au]at a5;subst a5;have av:=zC a6;have ba:=zC (And.intro (show zH G (N (Y w)) (VZ af d ag) ((M.tx.drop ll).take (hh-ll))from zF t (by have:=Q.2.1.size;have:=g.size;omega)) (λbg bh=>a7.2 bg bh));clear a6 a7 t ae ar au;gi_wp2_with fail;refine te 9 (.agg (yV 0 0 0 (VZ af d ag) V0)) ?_ ?_
 ·intro a e;go_simp
 go_simp;have RR:=zC av.2.2.2.2;have bc:=zC (av.fin (x0:=0) (x1:=0) (x2:=0) (ms:=[]) ba (vz _ _ _ _));refine one 10 (S G (B.block _ U) (B.block _ V)) ?_;refine zV rfl 79 _ _ rfl (N (Y w)+1) _ (yV 0 0 0 (VZ af d ag) V0) 79 rfl rfl RR (by rfl) rfl (by simp[Value.oneCell']) ?_;refine Qg ?_;go_simp;refine fin (S _ ((kD G _ _ _ VC).R (B.block _ U)) ((kD G _ _ _ VC).R (B.block _ V))) ?_;gi_wp2_with fail;go_wp2_with fail;exact yw results118 RR rfl rfl bc
end
section
variable {w w':World} {Z:Nat->Prop} {E c:Nat} {x:VX} {M:SS} {K:KX} {kd b0 b1 b2:Int} {ta:Option Addr} {tl tq:Nat} {off line o:Nat}
def GD:ByteArray:=⟨#[112,108,97,99,105,110,103,32,97,110,32,111,102,102,115,101,116]⟩
def Hu:ByteArray:=⟨#[102,105,110,100,105,110,103,32,97,32,112,108,97,99,101]⟩
def Hv{v lo hi k}(w){er}(a:yq (decide (lo<=v/\v<=hi)) k=er):VM prog 74 #[qP v,qP lo,qP hi,qP k] w λa w'=>a=V5 er/\w'=w:=(Ju v lo hi k w).G (by simp_all)
def GF{p}[Decidable p]{k}(a:p):yq (decide p) k= .nilIface:=by rw[decide_eq_true a];rfl
def Td{p}[Decidable p]{k}(a:¬p):yq (decide p) k= .iface 109 (qP k):=by rw[decide_eq_false a];rfl
def brkQ(a:EX K w Z E c x M):VM prog K.fBrk #[V3 c 0] w λb w'=>b=V5 (qP (brk M.tx))/\qa3 w w':=by have:=K.cBrk a.cr;rw[a.tx]at this;exact this
def placeX(b:EX K w Z E c x M)(h:off<=L M.tx):VM prog 144 #[.iface K.ty (V3 c 0),qP off] w λd w'=>d=V5 (.tuple #[qP (J9 M.tx off),qP (XM M.tx off),.nilIface])/\EX K w' Z E c x {M with lg:=M.lg++ [⟨4,off,0,[]⟩]}/\KK Wb Z w w':=by
 have u:=λc w=>(K.mth c w).1
 have y:=K.ent K.fLen VT;have z:=λc w=>(K.mth c w).2.2.2.2.2.2.1
 have A:=K.ent K.fCol VT;have LE:=zC (Ht b);have m:=zC (λs=>Hv s (v:=off) (lo:=0) (hi:=L M.tx) (k:=2) (GF VC));have n:=zC b;clear b;go_enter func144,ntmps144;go_wp2_with fail;refine LE.G ?_;rintro d t ⟨rfl,f⟩;have a:=zC (n.I f);have o:=zC (KK.of (l:=Wb) (Z:=Z) f);have e:=zC (K.cCol a.cr a.ey.zl (by rw[a.A.tx];exact h));rw[a.A.tx]at e;clear f LE;go_wp2_with fail;refine(m t).G ?_;rintro d B ⟨rfl,i⟩;have p:=i.J;subst p;clear i;go_wp2_with fail;refine e.G ?_;rintro d C ⟨rfl,j,g⟩;have q:=zC (a.core (l:=⟨4,off,0,[]⟩) (T:=M.tx) g j (by simp[KX.app]) (by rw[K.tSee a.A.cr (by rw[a.A.tx];exact h)];exact a.tx));have r:=zC (o.R g (λ_ b=>b));clear j g e;go_wp2;exact vE (by simp[results,go_sem]) rfl ⟨rfl,q,r⟩
def placeN{b:Int}(d:EX K w Z E c x M)(l:¬ (0<=b/\b<=L M.tx)):VM prog 144 #[.iface K.ty (V3 c 0),qP b] w λa w'=>a=V5 (.tuple #[qP 0,qP 0,.iface 130 (.agg #[.string GD,.iface 109 (qP 2)])])/\qa3 w w':=by
 have n:=λc w=>(K.mth c w).1
 have o:=K.ent K.fLen VT;have LE:=zC (Ht d);have g:=zC (λj=>Hv j (k:=2) (Td l));clear d;go_enter func144,ntmps144;go_wp2_with fail;refine LE.G ?_;rintro a m ⟨rfl,e⟩;have h:=zC e;clear e LE;go_wp2_with fail;refine(g m).G ?_;rintro a p ⟨rfl,f⟩;have i:=f.J;subst i;clear f;go_wp2;exact vE (by simp[results,GD]) rfl ⟨rfl,h⟩
def offX{col}(a:EX K w Z E c x M)(h:ZV M.tx line col=o):VM prog 145 #[.iface K.ty (V3 c 0),qP line,qP col] w λd w'=>d=V5 (.tuple #[qP o,.nilIface])/\EX K w' Z E c x {M with lg:=M.lg++ [⟨5,line,0,[]⟩]}/\KK Wb Z w w':=by
 have J:=λc w=>(K.mth c w).2.1
 have P:=K.ent K.fBrk VT;have Q:=λc w=>(K.mth c w).2.2.2.2.2.2.2.1
 have R:=K.ent K.fOff VT;have S:=λc w=>(K.mth c w).2.2.2.2.2.2.2.2
 have U:=K.ent K.fLin VT;have e:=K.brkO a.cr (by rw[a.tx,h];omega);rw[a.tx]at e;have LE:=zC (brkQ a);have u:=zC (λG=>Hv G (k:=3) (GF e));have v:=zC a;have n:=zC h;clear a h;go_enter func145,ntmps145;go_wp2_with fail;refine LE.G ?_;rintro d H ⟨rfl,i⟩;have f:=zC (v.I i);have y:=zC (KK.of (l:=Wb) (Z:=Z) i);have g:=zC (K.cLin f.cr (by rw[f.A.tx];exact e.2));rw[f.A.tx]at g;clear i LE;go_wp2_with fail;refine(u H).G ?_;rintro d V ⟨rfl,q⟩;have z:=q.J;subst z;clear q;go_wp2_with fail;refine g.G ?_;rintro d I ⟨W,rfl,X,r,j⟩;have A:=(r col).1 (by rw[n.A];omega);have b:=zC (f.I j);have B:=zC (y.R (KK.of j) (λ_ a=>a));have C:=zC (Hv I (k:=3) (GF A));have p:=zC (K.cOff b.cr b.ey.zl (by rw[b.A.tx];exact n));clear r j g;go_wp2_with fail;refine C.G ?_;rintro d aa ⟨rfl,s⟩;have D:=s.J;subst D;clear s;go_wp2_with fail;refine p.G ?_;rintro d ab ⟨rfl,t,m⟩;have F:=zC (b.core (l:=⟨5,line,0,[]⟩) (T:=M.tx) m t (by simp[KX.app]) (by rw[K.tKno b.A.cr (by rw[b.A.tx];exact e.2)];exact b.tx));have K5:=zC (B.R m (λ_ a=>a));clear t m p;go_wp2;exact vE (by simp[results,go_sem]) rfl ⟨rfl,F,K5⟩
def offN{line col}(m:EX K w Z E c x M)(p:ZV M.tx line col<0):VM prog 145 #[.iface K.ty (V3 c 0),qP line,qP col] w λa w'=>a=V5 (.tuple #[qP 0,.iface 130 (.agg #[.string Hu,.iface 109 (qP 3)])])/\qa3 w w':=by
 have H:=λc w=>(K.mth c w).2.1
 have I:=K.ent K.fBrk VT;have J:=λc w=>(K.mth c w).2.2.2.2.2.2.2.2
 have P:=K.ent K.fLin VT;have LE:=zC (brkQ m);have t:=zC m;have u:=zC p;clear m p;by_cases j:0<=line/\line<=brk M.tx
 ·have f:=zC (λl=>Hv l (k:=3) (GF j))
  obtain⟨o,C⟩:∃o:Nat,line=o:=⟨line.toNat,VC⟩
  subst C;go_enter func145,ntmps145;go_wp2_with fail;refine LE.G ?_;rintro a n ⟨rfl,b⟩;have g:=zC (t.I b);have e:=zC b;have h:=zC (K.cLin g.cr (by rw[g.A.tx];exact j.2));rw[g.A.tx]at h;clear b LE;go_wp2_with fail;refine(f n).G ?_;rintro a D ⟨rfl,d⟩;have i:=d.J;subst i;clear d;go_wp2_with fail;refine h.G ?_;rintro a F ⟨G,rfl,Q,q,r⟩;have v:¬ (0<=col/\col<=G):=λB=>by have:=(q col).2 B;have:=u.A;omega
  have y:=zC (e.R (r.G e.size));have z:=zC (Hv F (k:=3) (Td v));clear q r h;go_wp2_with fail;refine z.G ?_;rintro a R ⟨rfl,s⟩;have A:=s.J;subst A;clear s;go_wp2;exact vE (by simp[results,Hu]) rfl ⟨rfl,y⟩
 have f:=zC (λl=>Hv l (k:=3) (Td j));go_enter func145,ntmps145;go_wp2_with fail;refine LE.G ?_;rintro a n ⟨rfl,b⟩;have e:=zC b;clear b LE;go_wp2_with fail;refine(f n).G ?_;rintro a D ⟨rfl,d⟩;have i:=d.J;subst i;clear d;go_wp2;exact vE (by simp[results,Hu]) rfl ⟨rfl,e⟩
theorem zC0:(∀ {w} {Z} {E} {c} {x} {M} {K} {b1} {b2} {ta} {tl} {tq} {off} (l:EX K w Z E c x M) (m:off<=L M.tx),AX K 119 w Z E c 4 off b1 b2 (.slice ta tl tq) 0 (J9 M.tx off) (XM M.tx off) [] [] {M with lg:=M.lg++ [⟨4,off,0,[]⟩]})∧(∀ {w} {Z} {E} {c} {x} {M} {K} {b0:Int} {b1} {b2} {ta} {tl} {tq} (l:EX K w Z E c x M) (m:¬ (0<=b0∧b0<=L M.tx)),BX 119 w E 4 b0 b1 b2 (.slice ta tl tq) (.iface 130 (.agg #[.string GD,.iface 109 (.int .i64 2)])))∧(∀ {w} {Z} {E} {c} {x} {M} {K} {b1} {b2} {ta} {tl} {tq} {line:Nat} {o:Nat} (l:EX K w Z E c x M) (m:ZV M.tx line b1=o),AX K 120 w Z E c 5 line b1 b2 (.slice ta tl tq) 0 o 0 [] [] {M with lg:=M.lg++ [⟨5,line,0,[]⟩]})∧(∀ {w} {Z} {E} {c} {x} {M} {K} {b0} {b1} {b2} {ta} {tl} {tq} (l:EX K w Z E c x M) (m:ZV M.tx b0 b1<0),BX 120 w E 5 b0 b1 b2 (.slice ta tl tq) (.iface 130 (.agg #[.string Hu,.iface 109 (.int .i64 3)]))):=by
 refine⟨@fun w Z E c x M K b1 b2 ta tl tq off l m=>have a:=zC xN;have H:=zC xN;have I:=zC xN;?_,@fun w Z E c x M K b0 b1 b2 ta tl tq l m=>have d:=zC xN;have A:=zC xN;have H:=zC xN;?_,@fun w Z E c x M K b1 b2 ta tl tq line o l m=>have g1:=zC xN;have g:=zC xN;have I:=zC xN;?_,@fun w Z E c x M K b0 b1 b2 ta tl tq l m=>have A:=zC xN;have f:=zC xN;have g:=zC xN;?_⟩
 all_goals
  first
   |(revert g1;intro g1;unfold AX;have h:=zC (PX.start l (yZ 5 line b1 b2 (.slice ta tl tq))))
   |(revert a;intro a;unfold AX;have h:=zC (PX.start l (yZ 4 off b1 b2 (.slice ta tl tq))))
   |(revert d;intro d;unfold BX;have h:=zC (PB.start w (yZ 4 b0 b1 b2 (.slice ta tl tq))))
   |(unfold BX;have h:=zC (PB.start w (yZ 5 b0 b1 b2 (.slice ta tl tq))))
  first
   |(revert g1;intro g1)
   |(revert a;intro a)
   |(skip)
  first | (revert A;intro A;have U:=zC l) | skip
  clear l
  first
   |(revert H;intro H;go_enter func119,ntmps119)
   |(go_enter func120,ntmps120)
  go_upto_region 1 with fail
  generalize VF _ _=s at*
  first
   |(revert g1;intro g1;obtain⟨W,B⟩:=h.A.1;have u:=zC B;have j:=zC h.A.2.2.2.1;clear B;have p:=zC (show ∀y:World,y.heap[N (Y w)]? =s.heap[N (Y w)]?->y.cell? _=O (.iface K.ty (.pointer (O ⟨c,0,none⟩)))->(y.cell? _=O (.int _ line)∧y.cell? _=O (.int _ b1)∧VE y ⟨E,6,none⟩=O _)from fun y r t=>⟨c9 (i:=1) (r.R j.A) rfl,c9 (i:=2) (r.R j.A) rfl,t⟩))
   |(revert f;intro f;have u:=zC (U.A.I h.A.1);have j:=zC h.A.2.1;have p:=zC (show ∀y:World,y.heap[N (Y w)]? =s.heap[N (Y w)]?->VE y ⟨E,6,none⟩=O (.iface K.ty (.pointer (O ⟨c,0,none⟩)))->(y.cell? _=O (.int _ b0)∧y.cell? _=O (.int _ b1)∧y.cell? _=O _)from fun y r t=>⟨c9 (i:=1) (r.R j.A) rfl,c9 (i:=2) (r.R j.A) rfl,t⟩))
   |(revert a;intro a;obtain⟨W,B⟩:=h.A.1;have u:=zC B;have j:=zC h.A.2.2.2.1;clear B;have p:=zC (show ∀y:World,y.heap[N (Y w)]? =s.heap[N (Y w)]?->VE y ⟨E,6,none⟩=O _->(y.cell? _=O (.int _ off)∧y.cell? _=O (.iface K.ty (.pointer (O ⟨c,0,none⟩))))from fun y r t=>⟨c9 (i:=1) (r.R j.A) rfl,t⟩))
   |(have u:=zC (U.A.I h.A.1);have j:=zC h.A.2.1;have p:=zC (show ∀y:World,y.heap[N (Y w)]? =s.heap[N (Y w)]?->VE y ⟨E,6,none⟩=O _->(y.cell? _=O (.int _ b0)∧y.cell? _=O (.iface K.ty (.pointer (O ⟨c,0,none⟩))))from fun y r t=>⟨c9 (i:=1) (r.R j.A) rfl,t⟩))
  refine(kS (n:=6)).1 ?_
  first
   |(revert g1;intro g1;(refine yU (fun y=>VE y ⟨N (Y w),1,none⟩=O (.int .i64 line)∧VE y ⟨N (Y w),2,none⟩=O (.int .i64 b1)∧VE y ⟨E,6,none⟩=O (.iface K.ty (.pointer (O ⟨c,0,none⟩)))) (by kernel_rfl) ?_))
   |(revert f;intro f;(refine yU (fun y=>VE y ⟨N (Y w),1,none⟩=O (.int .i64 b0)∧VE y ⟨N (Y w),2,none⟩=O (.int .i64 b1)∧VE y ⟨E,6,none⟩=O (.iface K.ty (.pointer (O ⟨c,0,none⟩)))) (by kernel_rfl) ?_))
   |(revert a;intro a;(refine yU (fun y=>VE y ⟨N (Y w),1,none⟩=O (.int .i64 off)∧VE y ⟨E,6,none⟩=O (.iface K.ty (.pointer (O ⟨c,0,none⟩)))) (by kernel_rfl) ?_))
   |((refine yU (fun y=>VE y ⟨N (Y w),1,none⟩=O (.int .i64 b0)∧VE y ⟨E,6,none⟩=O (.iface K.ty (.pointer (O ⟨c,0,none⟩)))) (by kernel_rfl) ?_))
  refine tk 0 (.pointer (O ⟨E,0,none⟩)) ?_ ?_
  ·first
    |(revert g;intro g;intro y b;go_simp)
    |(intro y b;go_simp)
  go_simp;refine tk 1 (.pointer (O ⟨E,0,none⟩)) ?_ ?_
  ·first
    |(revert g;intro g;intro y b;go_simp)
    |(intro y b;go_simp)
  go_simp;refine tk 2 (.pointer (O ⟨E,6,none⟩)) ?_ ?_
  ·first
    |(revert g;intro g;intro y b;go_simp)
    |(intro y b;go_simp)
  go_simp;refine tk 3 (.iface K.ty (.pointer (O ⟨c,0,none⟩))) ?_ ?_
  ·first
    |(revert g;intro g;intro y b;obtain⟨P,X,Q⟩:=b;go_simp)
    |(intro y b;obtain⟨P,Q⟩:=b;go_simp)
  go_simp;refine tk 4 (.pointer (O ⟨N (Y w),1,none⟩)) ?_ ?_
  ·first
    |(revert g;intro g;intro y b;go_simp)
    |(intro y b;go_simp)
  go_simp
  first
   |(revert g1;intro g1;refine tk 5 (.int .i64 line) ?_ ?_)
   |(revert a;intro a;refine tk 5 (.int .i64 off) ?_ ?_)
   |(refine tk 5 (.int .i64 b0) ?_ ?_)
  ·first
    |(revert g;intro g;intro y b;obtain⟨P,X,Q⟩:=b;go_simp)
    |(intro y b;obtain⟨P,Q⟩:=b;go_simp)
  go_simp
  first
   |(revert g;intro g
     refine zj 6 _ ?_;go_simp;refine zj 7 _ ?_
     go_simp)
   | skip
  obtain⟨C,R⟩:∃y,y=s.drew:=⟨_,rfl⟩;rw [<- R]
  have v:=zC (show Below (N (Y s)) s C from by rw [R];exact⟨rfl,rfl,rfl,lR,fun _ _=>rfl⟩)
  have D:=zC (xG.1 j.A).1;clear R;have G:=zC (h.A.I v.A);have k:=zC (u.A.I v.A)
  first
   |(revert g1;intro g1;have z:=zC (offX k.A m);refine on 8 (p.A C (v.A.block _ D.A) k.A.c6) ?_)
   |(revert a;intro a;have z:=zC (placeX k.A m);refine on 6 (p.A C (v.A.block _ D.A) k.A.c6) ?_)
   |(revert d;intro d;have z:=zC (placeN k.A m);refine on 6 (p.A C (v.A.block _ D.A) k.A.c6) ?_)
   |(have z:=zC (offN k.A m);refine on 8 (p.A C (v.A.block _ D.A) k.A.c6) ?_)
  gi_wp2_with fail
  refine⟨xN,(vD.2 z.A).G ?_⟩
  first
   |(revert I;intro I;rintro e w3 ⟨rfl,S,V⟩;(have q:=zC (G.A.same ⟨_,S⟩ (V.weak (by decide))));have J:=zC (p.A w3 (q.A.2.2.2.1.R j.A.J) S.c6);clear S V z G k u)
   |(rintro e w3 ⟨rfl,T⟩;have q:=zC (G.A.I T);have J:=zC (p.A w3 (q.A.2.1.R j.A.J) (k.A.I T).c6);clear T z G k u)
  gi_wp2_with fail
  first
   |(revert d;intro d;refine tk 7 (.tuple #[.int .i64 0,.int .i64 0,.iface 130 (.agg #[.string GD,.iface 109 (.int .i64 2)])]) ?_ ?_)
   |(revert f;intro f;refine tk 9 (.tuple #[.int .i64 0,.iface 130 (.agg #[.string Hu,.iface 109 (.int .i64 3)])]) ?_ ?_)
   |(revert a;intro a;refine tk 7 (.tuple #[.int .i64 (J9 M.tx off),.int .i64 (XM M.tx off),.nilIface]) ?_ ?_)
   |(refine tk 9 (.tuple #[.int .i64 o,.nilIface]) ?_ ?_)
  ·intro y b;go_simp
  go_simp
  first
   |(revert a;intro a;refine tk 8 (.int .i64 (J9 M.tx off)) ?_ ?_)
   |(revert g1;intro g1;refine tk 10 (.int .i64 o) ?_ ?_)
   |(revert f;intro f;refine tk 10 (.int .i64 0) ?_ ?_)
   |(refine tk 8 (.int .i64 0) ?_ ?_)
  ·intro y b;go_simp
  go_simp
  first
   |(revert f;intro f;refine tk 11 (.iface 130 (.agg #[.string Hu,.iface 109 (.int .i64 3)])) ?_ ?_)
   |(revert a;intro a;refine tk 9 (.int .i64 (XM M.tx off)) ?_ ?_)
   |(revert d;intro d;refine tk 9 (.int .i64 0) ?_ ?_)
   |(refine tk 11 (.nilIface) ?_ ?_)
  ·intro y b;go_simp
  go_simp
  first
   |(revert d;intro d;refine tk 10 (.iface 130 (.agg #[.string GD,.iface 109 (.int .i64 2)])) ?_ ?_)
   |(revert g1;intro g1;refine tk 12 (.int .i64 o) ?_ ?_)
   |(revert f;intro f;refine tk 12 (.int .i64 0) ?_ ?_)
   |(refine tk 10 (.nilIface) ?_ ?_)
  ·intro y b;go_simp
  go_simp
  first
   |(revert f;intro f;refine tk 13 (.iface 130 (.agg #[.string Hu,.iface 109 (.int .i64 3)])) ?_ ?_)
   |(revert a;intro a;refine tk 11 (.int .i64 (J9 M.tx off)) ?_ ?_)
   |(revert d;intro d;refine tk 11 (.int .i64 0) ?_ ?_)
   |(refine tk 13 (.nilIface) ?_ ?_)
  ·intro y b;go_simp
  go_simp
  first
   |(revert d;intro d;skip
     refine zj 12 _ ?_;go_simp;refine zj 13 _ ?_
     go_simp)
   |(revert a;intro a;skip
     refine zj 12 _ ?_;go_simp;refine zj 13 _ ?_
     go_simp)
   |(skip)
  refine jr (by kernel_rfl) J.A ?_ _
  clear p J
  first
   |(revert a;intro a;have RR:=zC q.A.2.2.2.2;have F:=zC (q.A.fin0 (x0:=0) (x1:=(J9 M.tx off)) (x2:=(XM M.tx off))))
   |(revert A;intro A;have RR:=zC q.A.2.2;have F:=zC (q.A.fin (row:=yV 0 0 0 (.slice none 0 0) (.slice none 0 0))))
   |(have RR:=zC q.A.2.2.2.2;have F:=zC (q.A.fin0 (x0:=0) (x1:=(o:Int)) (x2:=0)))
  go_wp2_with (refine ZD RR.A ?_)
  first
   |(revert d;intro d;exact yw results119 RR.A rfl rfl ⟨rfl,F.A⟩)
   |(revert f;intro f;exact yw results120 RR.A rfl rfl ⟨rfl,F.A⟩)
   |(revert a;intro a;exact yw results119 RR.A rfl rfl F.A)
   |(exact yw results120 RR.A rfl rfl F.A)
def lc9:=@zC0.1
def lcB9:=@zC0.2.1
def off9:=@zC0.2.2.1
def offB9:=@zC0.2.2.2
end
section
variable {w w':World} {Z:Nat->Prop} {E c:Nat} {x:VX} {M:SS} {K:KX} {kd b0 b1 b2:Int} {ta:Option Addr} {tl tq:Nat} {n m k:Nat}
def EL(a:EX K w Z E c x M):VM prog 174 #[V3 E 1] w λd w'=>d=V5 (if M.op then .iface 109 (qP 9)else .nilIface)/\w'=w:=by
 obtain⟨_,_,_,_,b,_⟩:=a.ey.blk.cl;clear a;cases ho:M.op with
 | true=>
  rw[ho]at b;go_enter func174,ntmps174;go_wp2;go_ret;simp
 | false=>
  rw[ho]at b;go_enter func174,ntmps174;go_wp2;go_ret;simp
def GH(e:EX K w Z E c x M){er}(b:(if M.op then Value.iface 109 (qP 9)else yq (decide (0<=b0/\b0<=7)) 11)=er):VM prog 158 #[V3 E 0,qP b0] w λd w'=>d=V5 er/\w'=w:=by
 have a:=zC (EL e);have g:=zC (Hv w (v:=b0) (lo:=0) (hi:=7) (k:=11) rfl);clear e;cases ho:M.op with
 | true=>
  rw[ho]at b a;simp at b a;subst b;go_enter func158,ntmps158;go_wp2_with fail;refine a.G ?_;rintro d i ⟨rfl,rfl⟩;go_wp2;go_ret;simp
 | false=>
  rw[ho]at b a;simp only[Qh,QZ]at b a;subst b;generalize yq _ 11=er at*;go_enter func158,ntmps158;go_wp2_with fail;refine a.G ?_;rintro d i ⟨rfl,f⟩;have h:=f.J;subst h;clear f;go_wp2_with fail;refine g.G ?_;rintro d j ⟨rfl,rfl⟩;go_wp2;go_ret;simp
def ES:(∀{b k c l m d n a e f g h j}(o:EX n b k c l m d)(p:d.op=VR),BX 128 b c 13 a e f (VZ g h j) (.iface 109 (qP 9)))/\(∀{b k c l m d n a e f g h j}(o:EX n b k c l m d)(p:d.op=VP)(s:¬ (0<=a/\a<=7)),BX 128 b c 13 a e f (VZ g h j) (.iface 109 (qP 11)))/\(∀{b k c l m d n a e f g h j}(o:EX n b k c l m d)(p:d.op=VR),BX 129 b c 14 a e f (VZ g h j) (.iface 109 (qP 9)))/\(∀{b k c l m d n a e f g h j}(o:EX n b k c l m d)(p:d.op=VP)(s:¬ (0<=a/\a<=7)),BX 129 b c 14 a e f (VZ g h j) (.iface 109 (qP 11))):=by
 refine⟨@λb k c l m d n a e f g h j o p=>have q:=zC xN;?_,@λb k c l m d n a e f g h j o p s=>have q:=zC xN;have t:=zC xN;?_,@λb k c l m d n a e f g h j o p=>?_,@λb k c l m d n a e f g h j o p s=>have t:=zC xN;?_⟩
 all_goals
  unfold BX
  first
   |(revert q;intro q;have r:=zC (PB.start b (yZ 13 a e f (VZ g h j))))
   |(have r:=zC (PB.start b (yZ 14 a e f (VZ g h j))))
  have x:=zC o;clear o
  first
   |(revert q;intro q;go_enter func128,ntmps128)
   |(go_enter func129,ntmps129)
  go_upto_region 1 with fail;generalize VF _ _=A at*;have u:=zC (x.I r.1);have y:=zC r.2.1
  first
   |(revert t;intro t;(have SX:=zC (GH u (er:=(.iface 109 _)) (by rw[p];simp only[Qh,QZ];exact Td s))))
   |((have SX:=zC (GH (b0:=a) u (by rw[xU p]))))
  have B:A.cell? _=O (.int _ a):=c8 1 y;go_wp2_with fail;refine SX.G ?_;rintro C D ⟨rfl,w⟩;have z:=w.J;subst z;clear w SX;have RR:=zC r.2.2;have v:=zC (r.fin (row:=yV 0 0 0 V0 V0));go_wp2_with (refine ZD RR ?_)
  first
   |(revert q;intro q;exact yw results128 RR rfl rfl ⟨rfl,v⟩)
   |(exact yw results129 RR rfl rfl ⟨rfl,v⟩)
def snapO9:=@ES.1
def snapB9:=@ES.2.1
def backO9:=@ES.2.2.1
def backB9:=@ES.2.2.2
end
section
variable {w w':World} {Z:Nat->Prop} {E c:Nat} {tv:Value} {x:VX} {M:SS} {K:KX} {n m k i j:Nat}
def Xv{base t size n v xs}(a:w.ownsRow base t size v n xs)(d:KA w w'):w'.ownsRow base t size v n xs:=zD a (λb c=>by obtain⟨e,f,g⟩:=jg a c;exact d.block b e t f g)
def TX.ka{v ts}(a:TX w Z v ts)(b:KA w w'):TX w' Z v ts:=⟨Xv a.1 b,a.2⟩
def Wy.ka(a:KA w w'):∀{xs g},Wy w Z xs g->Wy w' Z xs g
 | _,[],b=>b
 | _,_::_,⟨c,d,e,⟨tv,f,h,i,j,k,l⟩,m⟩=>⟨c,d,e,⟨tv,f,h,i,j.ka a,Xv k a,Xv l a⟩,Wy.ka a m⟩
def zBr.ka{v g}(b:zBr w Z v g)(a:KA w w'):zBr w' Z v g:=by
 obtain⟨c,d,e⟩:=b;exact⟨c,Xv d a,e.ka a⟩
def XN.ka(b:KA w w'):∀{vs gs},XN w Z vs gs->XN w' Z vs gs
 | [],[],_=>trivial
 | _::_,_::_,a=>⟨⟨a.1.1.ka b,a.1.2⟩,XN.ka b a.2⟩
 | [],_::_,a=>a
 | _::_,[],a=>a
def WG.ka{v gs}(b:WG w Z v gs)(a:KA w w'):WG w' Z v gs:=by
 obtain⟨c,d,e⟩:=b;exact⟨c,Xv d a,e.ka a⟩
def Tv.ka{v}:∀{b},Tv w Z v b->KA w w'->Tv w' Z v b
 | none,g,_=>g
 | some b,⟨c,tv,h,i,j,k,d,l,m,e,f⟩,a=>⟨c,tv,h,i,j,k,(a.block c _ _ _ d).R d,l.ka a,Xv m a,⟨e.1.ka a,e.2⟩,⟨f.1.ka a,f.2⟩⟩
def EX.turn(a:EX K w Z E c x M)(d:KA w w')(p:∀b,Z b->∀(e)(f)(g),w'.heap[b]?=O (V6 e f g)->w.heap[b]? =w'.heap[b]?):EX K w' Z E c x M:=
 ⟨⟨⟨a.ey.blk.1,(d.block E _ _ _ a.ey.blk.2).R a.ey.blk.2⟩,Xv a.ey.ms d,⟨a.ey.dn.1.ka d,a.ey.dn.2⟩,⟨a.ey.ud.1.ka d,a.ey.ud.2⟩,λj=>⟨(a.ey.cu j).1.ka d,(a.ey.cu j).2⟩,a.ey.cvs,⟨a.ey.sl.1,λi m k n o=>(a.ey.sl.2 i m k n o).ka d⟩,a.ey.ez,λb h=>vh (a.ey.zl b h) d.size,λb h e f g l=>a.ey.zt b h e f g ((p b h e f g l).R l)⟩,K.turn a.cr d,a.tx⟩
theorem KA.put{q o o'}(c:w.heap[q]?=O o)(d:o.isCells=VP):KA w (w.putObj q o'):=⟨rfl,rfl,rfl,VT,λk e f g a=>World.putObj_heap_other (λb=>by
 subst b;rw[c]at a;simp at a;subst a
 simp[Obj.isCells]at d)⟩
def Wy.at{w Z}:∀{xs l},Wy w Z xs l->∀(k)a,l[k]?=O a->∃d e f g h i,xs[k*5]?=O (qP (PN a.put))/\xs[k*5+1]?=O (qP a.off)/\xs[k*5+2]?=O (VZ d (L (Zs a)) e)/\xs[k*5+3]?=O (VZ f (L a.was) g)/\xs[k*5+4]?=O (VZ h (L a.is) i)/\TX w Z (VZ d (L (Zs a)) e) (Zs a)/\zW w 0 (VZ f (L a.was) g) a.was/\zW w 0 (VZ h (L a.is) i) a.is
 | _,[],_,k,a,b=>by simp at b
 | _,s::l,⟨t,u,b,n,q⟩,0,a,c=>by
  simp at c;subst c;obtain⟨tv,v,x,m,j,o,p⟩:=n;obtain⟨_,_,rfl⟩:=zS j.1;obtain⟨_,_,rfl⟩:=o.val;obtain⟨_,_,rfl⟩:=p.val;subst m;subst b;exact⟨_,_,_,_,_,_,rfl,rfl,rfl,rfl,rfl,j,o,p⟩
 | _,s::l,⟨t,u,b,n,q⟩,k+1,a,c=>by
  simp at c;obtain⟨d,e,f,g,h,i,j⟩:=Wy.at q k a c;obtain⟨_,_,_,m,_⟩:=n;subst m;subst b
  exact⟨d,e,f,g,h,i,by
   have r:(k+1)*5=k*5+5:=VC;rw[r]
   simpa using j⟩
def DS(b){v g}(af:zBr w Z v g)(a3:L g<=100000)(c:∀a∈g,L (Zs a)=a.n/\a.n<=8192):
  VM prog 150 #[v,qP (PN (!b))] w λh w'=>h=V5 (qP (yf b g))/\qa3 w w':=by
 obtain⟨a4,o,y⟩:=af;have U:=zC y;have HR:=zC c;have V:=zC (show yf b g<=819200000 from ku (Uf (λa ae=>(c a ae).2)) VC);generalize x:PN _=M at*;have E:=zC x;generalize l:L g=n at*;have F:=zC l;generalize m:yf b g=P at*;have G:=zC m;obtain⟨h,r⟩|⟨j,a5,a6,h,a7,T,a8,ag,ah⟩:=o.2
 ·subst h
  subst r;have W:=xR l;have p:P=0:=(by rw[<- m,W];rfl);subst p;clear o y x l m c;go_enter func150,ntmps150;go_wp2_with fail;refine vI 1 ?_;rw[ve];go_wp2;go_ret;exact⟨rfl,xF _ _⟩
 subst h;unfold maxLen at ag;have ao:=(xG.1 T).1;have X:=zC o;clear o y x l m ah T c;go_enter func150,ntmps150;go_wp2_with fail;go_loopw [5,10] (λS i wr=>∃k:Nat,k<=n/\i=qP k/\S=qP (yf b (g.take k))/\qa3 w wr) (λS i _=>n-(intOf i).toNat)
 case atStart=>exact⟨0,xY _,rfl,rfl,xF _ _⟩
 obtain⟨k,a9,rfl,rfl,d⟩:=hrel;have q:=zC d;have H:=d.size;by_cases ac:k<n
 ·obtain⟨a,c⟩:∃a,g[k]?=O a:=⟨g[k]'(by rw[F.A];exact ac),VT⟩
  obtain⟨ai,aj,ak,al,am,an,z,A,B,C,D,_⟩:=U.at k a c;have e:=zC (zE X d lR);have r:VE wr (V4 j (k*5))=O (qP (PN a.put)):=(by rw[e.A.cellAt (k*5) VC];exact z);have ap:VE wr (V4 j (k*5+1))=O (qP a.off):=(by rw[e.A.cellAt (k*5+1) VC];exact A);have aa:VE wr (V4 j (k*5+2))=O (VZ ai (L (Zs a)) aj):=(by rw[e.A.cellAt (k*5+2) VC];exact B);have aq:VE wr (V4 j (k*5+3))=O (VZ ak (L a.was) al):=(by rw[e.A.cellAt (k*5+3) VC];exact C);have ar:VE wr (V4 j (k*5+4))=O (VZ am (L a.is) an):=(by rw[e.A.cellAt (k*5+4) VC];exact D);have s:=(HR a (vc c)).1;have au:=(HR a (vc c)).2;rw[s]at aa;have f:=Ej (b:=b) c;have ab:=Dq (b:=b) (g:=g) (k+1);rw[G.A]at ab;have av:=V.A;have aw:=zC f;generalize K:yf b (g.take _)=Q at*;have I:=zC K;clear K;generalize yf b (g.take k)=R at*;have ax:(k:Int)<n:=VC;generalize a.n=ad at*;generalize L a.was=az at*;generalize L a.is=a0 at*;generalize a.off=a1 at*;by_cases u:a.put=b
  ·have t:Q=R:=by rw[f,xU u];rfl
   have J:¬PN a.put=M:=by rw[<- E.A,u];cases b<;>simp[PN]
   generalize PN a.put=a2 at*;clear f d c z A B C D s;go_wp2;go_roundw
   case rel=>exact⟨k+1,VC,VY,by rw[I.A,t],q.alloc H _⟩
   simp[intOf];omega
  have t:Q=R+ad:=(by rw[f,xK u]);have J:PN a.put=M:=by rw[<- E.A];cases hq:a.put<;>cases b<;>simp_all
  rw[J]at r;clear f d c z A B C D s;subst t;go_wp2;go_roundw
  case rel=>exact⟨k+1,VC,VY,by rw[I.A,Int.natCast_add],q.alloc H _⟩
  simp[intOf];omega
 obtain rfl:k=n:=VC
 have ay:¬ (k:Int)<k:=VC
 have p:yf b (g.take k)=P:=by rw[<- G.A,vX (by rw[F.A];omega)]
 rw[p];clear d;go_wp2;go_ret;exact⟨rfl,q⟩
def zCf(e:EX K w Z E c x M)(f:M.op=VR)(a)(l kq):VM prog 149 #[V3 E 1,VZ a l kq] w λd w'=>d=V5 (.tuple #[V0,.iface 109 (qP 9)])/\w'=w:=by
 have b:=zC (EL e);rw[f,xU rfl]at b;clear e;go_enter func149,ntmps149;go_wp2_with fail;refine b.G ?_;rintro d g ⟨rfl,rfl⟩;go_wp2;refine vE (by simp[results,go_sem]) rfl ⟨rfl,rfl⟩
def zCg(e:EX K w Z E c x M)(f:M.op=VP)(a)(kq):VM prog 149 #[V3 E 1,VZ a 0 kq] w λd w'=>d=V5 (.tuple #[V0,.iface 109 (qP 6)])/\w'=w:=by
 have b:=zC (EL e);rw[f]at b;simp at b;clear e;go_enter func149,ntmps149;go_wp2_with fail;refine b.G ?_;rintro d g ⟨rfl,rfl⟩;go_wp2;refine vE (by simp[results,go_sem]) rfl ⟨rfl,rfl⟩
def Lj(f:EX K w Z E c x M)(j:M.op=VP){sb a kq ga gl gk us}(e:w.ownsRow 0 137 1 (VZ (qQ sb 0) a kq) a (us++ [VZ ga gl gk]))(g:a=L us+1)(s:L us<=1000):
  VM prog 149 #[V3 E 1,VZ (qQ sb 0) a kq] w λb w'=>b=V5 (.tuple #[VZ ga gl gk,.nilIface])/\w'=w:=by
 have d:=zC (EL f);rw[j]at d;simp at d;have h:=e.cellAt (L us) VC;rw[show(us++ [VK ga gl gk])[L us]?=O (VZ ga gl gk)by simp]at h
 have i:a<=kq/\kq<=maxLen:=by
  obtain⟨b,t⟩|⟨u,v,y,b,_,_,k,l,_⟩:=e.2
  ·cases b
  simp only[kL]at b;obtain⟨_,_,rfl⟩:=b;exact⟨k,l⟩
 unfold maxLen at i;generalize L us=n at*;have m:qad.wrap (a-1)=n:=by rw[vU,g,Int.natCast_add];omega
 have o:¬ (a:Int)=0:=VC
 have p:(n:Int)<a:=VC
 have q:n<a:=VC
 have r:(0:Int)<=n:=VC
 clear f e g;go_enter func149,ntmps149;go_wp2_with fail;refine d.G ?_;rintro b z ⟨rfl,rfl⟩;go_wp2;refine vE (by simp[results,go_sem]) rfl ⟨rfl,rfl⟩
end
def Tf{c:V8}{base t g n k cap xs}(d:c.ownsRow base t 1 (VZ (qQ g 0) n cap) n xs)(m:k<=n):c.ownsRow base t 1 (VZ (qQ g 0) k cap) k (xs.take k):=by
 obtain⟨a,o⟩|⟨p,q,b,a,f,h,r,i,j,s⟩:=d.2
 ·cases a
 simp only[kL,xP,QW]at a;obtain⟨⟨rfl,_⟩,_,rfl⟩:=a;have e:L (xs.take k)=k*1:=by rw[xO,d.1];omega
 refine⟨e,.inr ⟨g,cap,b,rfl,f,h,VC,i,j,?_⟩⟩;have l:List.take (k*1) b.toList=(List.take (n*1) b.toList).take (k*1):=by rw[List.take_take,Qp VC]
 simp_all
def ye.weakX{w w' S S'}(b:ye w w' S)(f:∀a,S a->S' a):ye w w' S':=⟨b.os,b.tape,b.output,b.size,λa c d=>b.block a c (λe=>d (f a e))⟩
section
variable {w w':World} {Z:Nat->Prop} {E c:Nat} {x:VX} {M:SS} {K:KX} {n m k i j:Nat} {r:SR} {b:Bool}
def zB2(ae:(i=1/\j=2)\/(i=2/\j=1)){cs dv uv vs us ga gl gk}(e:w.heap[E]?=O (V6 cs 143 (0,0)))(r:cs[i]?=O dv)(s:cs[j]?=O uv)(h:w.ownsRow 0 137 1 dv (L vs+1) (vs++ [VZ ga gl gk]))(o:w.ownsRow 0 137 1 uv (L us) us)(H:∀a,VD uv=O a->VD dv≠O a)(a9:L vs<=1000)(ba:L us<=1000):
  VM prog 155 #[V3 E i,V3 E j] w λb w'=>b=V5 (.tuple #[])/\∃t u c,w'=(c.setCell (V4 E j) u).setCell (V4 E i) t/\c.heap[E]? =w.heap[E]?/\ye w c (λa=>VD uv=O a)/\c.ownsRow 0 137 1 t (L vs) vs/\c.ownsRow 0 137 1 u (L us+1) (us++ [VZ ga gl gk])/\VD t=VD dv/\∀a,VD u=O a->VD uv=O a\/N (Y w)<=a:=by
 obtain⟨ag,ah,ai,aj,ak⟩:=kB Tryz.qK;have K:=zC e;have M:=zC o
 obtain⟨p,bc,rfl,al⟩:∃g k,dv= .slice (qQ g 0) _ k/\L vs+1<=k/\k<=maxLen:=by
  obtain⟨b,am⟩|⟨g,an,ao,b,_,_,ap,aq,_⟩:=h.2
  ·omega
  exact⟨_,_,b,ap,aq⟩
 obtain⟨v,x,rfl⟩:∃ac k,uv= .slice ac (L us) k:=by
  obtain⟨b,am⟩|⟨g,an,ao,b,_⟩:=o.2
  ·simp_all
  exact⟨_,_,b⟩
 have ar:=c9 e r;have au:=c9 e s;have av:=xW w E i _ _ e;have aw:=xW w E j _ _ e;have P:=(xG.1 e).1
 have q:∀{I:Jo}{k:Nat}{af:Ki}{a:Nat},w.ownsRow 0 137 1 I k af->VD I=O a->a≠E:=λad d b=>by
  subst b;obtain⟨bd,bf,J⟩:=jg ad d;rw[e]at J;simp only[xP,kl]at J
  simp_all
 have Q:=zC H;have R:=h.lt p rfl;have S:=h.cellAt (L vs) VC;rw[show(vs++ [VK ga gl gk])[L vs]?=O (VZ ga gl gk)by simp]at S;have y:=zC (Tf h (k:=L vs) VC);have z:(vs++ [VK ga gl gk]).take (L vs)=vs:=VT
 rw[z]at y;have ax:¬p=E:=q h rfl;have T:∀a,VD (VK v _ x)=O a->E≠a:=λa d b=>q o d b.J
 unfold maxLen at al;have U:=zC (za w 137 [VZ ga gl gk]);have A:=zC ((xF _ w).alloc lR (V6 #[VZ ga gl gk] 137));have ay:N (Y w)+1=N (Y (VF w (V6 #[VZ ga gl gk] 137))):=VT
 generalize X:L vs=m at*;generalize Z:L us=n at*;have az:qad.wrap (((m+1:Nat))-1)=m:=by rw[vU,Int.natCast_add];omega
 have a0:m<((m+1:Nat):Int):=VC
 have a1:(0:Int)<=m:=VC
 generalize aa:m+1=ab at*;have a2:m<ab:=VC
 have B:=zC (And.intro r s);clear h o H X Z z aa q e r s;obtain⟨rfl,rfl⟩|⟨rfl,rfl⟩:=ae
 all_goals
  go_enter func155,ntmps155;go_upto_region 1 with fail
  go_region_law (first
   |(refine step_append_lies _ rfl _ _ 133 rfl 0 137 ag _ 1 24 underlying133 ah ai aj ak rfl VS (VZ v n x) n us rfl (M.alloc _) _ 1 1 _ rfl rfl U (by simp[Value.oneCell']) VC VW VC (xY _) _ rfl ?_;intro g a7 c F f G a8;have C:=zC ((f.block E (show E<N (Y (VF w (V6 #[VZ ga gl gk] 137))) by omega) (λb=>T E b.J rfl)).R (A.block E P));have l:=zC (C.R K);have a3:=c9 l B.1;have a4:=c9 l B.2;have a5:=xW c E 1 _ _ l;have a6:=xW c E 2 _ _ l;have V:=zC F;have D:=zC (show(VF w (V6 _ 137)).grownBy c _ from⟨f.os,f.tape,f.output,f.size,f.block⟩);have W:=zC (show(VD (VK v n x))=O g\/N (Y w)<=g from G.imp id (λb=>by simp_all));clear F f G))
  all_goals
   go_wp2;go_end0;refine⟨rfl,_,_,c,rfl,C,((ye.reflS w _).allocS _).grownS D (λa d=>.inl d),?_,V,rfl,λa d=>?_⟩
   ·refine zD y (λa d=>?_)
    obtain rfl:=(by simpa[VD]using d);exact(D.block p VC (λb=>Q _ b.J rfl)).R (A.block p R.2)
   simp only[VD,xP]at d;subst d;exact W
def WG.topX{v U g}(m:WG w Z v (U++ [g])):∃c d a e f,v=(VZ (qQ c 0) (L U+1) d)/\L a=L U/\w.ownsRow 0 137 1 (VZ (qQ c 0) (L U+1) d) (L U+1) (a++ [VZ e (L g) f])/\XN w Z a U/\zBs w Z (VZ e (L g) f) g:=by
 obtain⟨s,h,n⟩:=m;obtain⟨a,o,rfl,i,j⟩:=n.unsnoc;rw[xL,Vc]at h
 obtain⟨e,f,rfl⟩:∃l k,o= .slice l (L g) k:=by
  obtain⟨⟨t,p,_⟩,_⟩:=j;obtain⟨b,q⟩|⟨u,x,r,b,_⟩:=p.2
  ·simp_all
  exact⟨_,_,b⟩
 obtain⟨b,q⟩|⟨c,d,r,b,_⟩:=h.2
 ·omega
 subst b;exact⟨c,d,a,e,f,rfl,i.len,h,i,j⟩
def shiftU{U g}(a:EX K w Z E c x M)(ae:M.op=VP)(J:M.un=U++ [g])(af:L U<=1000/\L M.re<=1000):
  VM prog 155 #[V3 E 1,V3 E 2] w λh w'=>h=V5 (.tuple #[])/\PJ K w Z E c {M with un:=U,re:=M.re++ [g]} w':=by
 have s:=a.ey.dn.1;rw[J]at s;obtain⟨ag,ah,P,Q,R,z,A,n,S,T⟩:=s.topX;obtain⟨V,o,B⟩:=a.ey.ud.1;have t:=B.len;rw[<- t]at o;rw[<- A]at n z;rw[<- z]at n;refine(zB2 (.inl ⟨rfl,rfl⟩) a.ey.blk.2 (dv:=x.dv) (uv:=x.uv) rfl rfl n o (λd e=>(a.ey.ud.2 d e).2) VC VC).G ?_;rintro h w' ⟨rfl,p,q,C,r,W,X,D,F,aa,ab⟩;have j:Wr C E x _ _ _ _:=⟨a.ey.blk.1,W.R a.ey.blk.2⟩
 have u:=(j.set (x':={x with uv:=q}) 2 q a.ey.blk.1 rfl).set (x':={x with uv:=q,dv:=p}) 1 p a.ey.blk.1 rfl;rw[<- r]at u;have v:∀d,d≠E->w'.heap[d]? =C.heap[d]?:=λd e=>by rw[r];exact(xM _ _ d _ e).R (xM _ _ d _ e)
 have G:ye w w' (λd=>d=E\/VD x.uv=O d):=by
  rw[r];exact((X.weakX (λd e=>.inr e)).setS (V4 E 2) _ (.inl (.inl rfl))).setS (V4 E 1) _ (.inl (.inl rfl))
 have y:=a.put2 (M':={M with un:=U,re:=M.re++ [g]}) G (λd e=>⟨(a.ey.ud.2 d e).1,by obtain⟨ac,ad,h⟩:=jg o e;exact⟨ac,_,ad,h,.inl rfl⟩⟩) u ⟨rfl,rfl⟩ (λf=>⟨yR a.ey.ms f (.inl VS),⟨⟨P,?_,S.kk f VS (λ_ a=>a)⟩,λd e=>a.ey.dn.2 d (by simp_all)⟩,⟨⟨V++ [VZ Q (L g) R],?_,?_⟩,λd e=>?_⟩,λl=>(by simp_all),a.ey.cvs,⟨a.ey.sl.1,λi H k I b=>(a.ey.sl.2 i H k I b).kk f VS VS (λ_ a=>a)⟩⟩)
 ·exact⟨rfl,Z,_,y.1,y.2,λ_ a=>a⟩
 ·rw[<- A];exact zD D (λd e=>v d (j.ne D VS e))
 ·simp
  rw[<- t];exact zD F (λd e=>v d (j.ne F VS e))
 ·exact(B.kk f VS (λ_ a=>a)).app ⟨T.kk f VS (λ_ a=>a),xN⟩
 show ¬Z d/\VD p≠O d
 rw[aa];obtain l|l:=ab d e
 ·exact a.ey.ud.2 d l
 exact⟨λm=>by have:=a.ey.zl d m;omega,λm=>by have:=a.ey.dn.1.nz m;omega⟩
def shiftR{U g}(d:EX K w Z E c x M)(af:M.op=VP)(Q:M.re=U++ [g])(ag:L U<=1000/\L M.un<=1000):
  VM prog 155 #[V3 E 2,V3 E 1] w λj w'=>j=V5 (.tuple #[])/\PJ K w Z E c {M with re:=U,un:=M.un++ [g]} w':=by
 have s:=d.ey.ud.1;rw[Q]at s;obtain⟨ah,ai,R,S,T,z,A,p,V,W⟩:=s.topX;obtain⟨X,q,B⟩:=d.ey.dn.1;have t:=B.len;rw[<- t]at q;rw[<- A]at p z;rw[<- z]at p;refine(zB2 (.inr ⟨rfl,rfl⟩) d.ey.blk.2 (dv:=x.uv) (uv:=x.dv) rfl rfl p q (λa e f=>(d.ey.ud.2 a f).2 e) VC VC).G ?_;rintro j w' ⟨rfl,C,m,D,r,aa,ab,F,G,ac,H⟩;have n:Wr D E x _ _ _ _:=⟨d.ey.blk.1,aa.R d.ey.blk.2⟩
 have u:=(n.set (x':={x with dv:=m}) 1 m d.ey.blk.1 rfl).set (x':={x with dv:=m,uv:=C}) 2 C d.ey.blk.1 rfl;rw[<- r]at u;have v:∀a,a≠E->w'.heap[a]? =D.heap[a]?:=λa e=>by rw[r];exact(xM _ _ a _ e).R (xM _ _ a _ e)
 have I:ye w w' (λa=>a=E\/VD x.dv=O a):=by
  rw[r];exact((ab.weakX (λa e=>.inr e)).setS (V4 E 1) _ (.inl (.inl rfl))).setS (V4 E 2) _ (.inl (.inl rfl))
 have y:=d.put2 (M':={M with re:=U,un:=M.un++ [g]}) I (λa e=>⟨d.ey.dn.2 a e,by obtain⟨ad,ae,j⟩:=jg q e;exact⟨ad,_,ae,j,.inl rfl⟩⟩) u ⟨rfl,rfl⟩ (λh=>⟨yR d.ey.ms h (.inl VS),⟨⟨X++ [VZ S (L g) T],?_,?_⟩,λa e=>?_⟩,⟨⟨R,?_,V.kk h VS (λ_ d=>d)⟩,λa e=>?_⟩,λf=>(by simp_all),d.ey.cvs,⟨d.ey.sl.1,λi J k P b=>(d.ey.sl.2 i J k P b).kk h VS VS (λ_ d=>d)⟩⟩)
 ·exact⟨rfl,Z,_,y.1,y.2,λ_ d=>d⟩
 ·simp
  rw[<- t];exact zD G (λa e=>v a (n.ne G VS e))
 ·exact(B.kk h VS (λ_ d=>d)).app ⟨W.kk h VS (λ_ d=>d),xN⟩
 ·obtain f|f:=H a e
  ·exact d.ey.dn.2 a f
  exact λl=>by have:=d.ey.zl a l;omega
 ·rw[<- A];exact zD F (λa e=>v a (n.ne F VS e))
 show ¬Z a/\VD m≠O a
 have o:VD x.uv=O a:=by rw[<- ac];exact e
 refine⟨(d.ey.ud.2 a o).1,λf=>?_⟩;obtain l|l:=H a f
 ·exact(d.ey.ud.2 a o).2 l
 have:=d.ey.ud.1.nz o;omega
def Lk{kv ks}(a:EX K w Z E c x M)(d:Vd M.ms)(e:zW w 0 kv ks)(f:L ks<=1048576):
  VM prog 154 #[V3 E 0,.agg #[kv]] w λb w'=>b=V5 (.tuple #[])/\StC K w Z E c x {M with ms:=Z0 (M.ms.map (mov (YJ ks)))} w':=by
 refine(DK _ 143 VS E ks _ kv _ 0 w a.tb a.ey.ms d e f).G ?_;rintro b w' ⟨rfl,g,m,h,i,ht,j⟩;obtain⟨k,l⟩:=a.mkd h i ht j;exact⟨rfl,g,k,a.ey.ek l VS⟩
def OkX(b:Bool)(c:SS)(a:SR):Prop:=OkC (a.put != b) c a.off (Zs a)/\(EK (a.put != b) c a.off (Zs a)).tx=Kj a b/\L (Zs a)=a.n/\Vd (EK (a.put != b) c a.off (Zs a)).ms/\L (GW a b)<=1048576
def zB3(e:OkX b M r):{EK (r.put != b) M r.off (Zs r)with ms:=Z0 ((EK (r.put != b) M r.off (Zs r)).ms.map (mov (YJ (GW r b))))}=JX b M r:=by
 obtain⟨f,a,c,_,_⟩:=e;cases hp:(r.put != b)with
 | true=>
  rw[hp]at a
  have d:List.take r.n (List.drop r.off (Kj r b))=Zs r:=by
   unfold Zs Kj;cases b<;>cases hq:r.put<;>simp_all
  unfold JX swM swN Tw;rw[hp,<- a,cond_true,cond_true,a,d,<- a];simp only[EK,Vo,c]
 | false=>
  rw[hp]at a;unfold JX swM swN Tw;rw[hp,<- a,cond_false,cond_false];simp only[EK,Qh,QZ,c]
end
end
def MV(a:List Mk)(b:Nat):Prop:=Vd a/\∀x∈a,x.2.1<=b
def MV.off{ms n}(c:MV ms n){x}(d:x∈ms):0<=x.2.1/\x.2.1<=n/\x.2.1<=8192:=by
 have a:=(c.1.2.1 x d).2;unfold Ts at a;have b:=of_decide_eq_true a;exact⟨b.1,c.2 x d,b.2⟩
def MV.mov{ms}{k e:Nat}{f}(g:MV ms k)(h:∀b∈ms,0<=f b/\f b<=(e:Int))(l:e<=8192):MV (Z0 (ms.map (mov f))) e:=by
 refine⟨zAc (by rw[vW];exact g.1.1) (λb d=>?_) ?_,λb d=>?_⟩
 ·obtain⟨a,c,rfl⟩:=Vf.1 d
  have i:=(g.1.2.1 a c).1;have j:=h a c;exact⟨i,decide_eq_true ⟨j.1,by show f a<=8192;omega⟩⟩
 ·rw[List.pairwise_map];exact g.1.ids
 obtain⟨a,c,rfl⟩:=Vf.1 ((Zh _).subset d);exact(h a c).2
def MV.push{ms}{a off b:Nat}(c:MV ms a)(e:a+b<=8192):MV (Z0 (ms.map (Go.Proofs.YtacmdegboldnlaaGreatDoor.mov (yn off b)))) (a+b):=c.mov (λf d=>by
 have:=c.off d
 grind [yn]) e
def MV.pull{ms n off k}(a:MV ms n)(d:off+k<=n)(e:n<=8192):MV (Z0 (ms.map (Go.Proofs.YtacmdegboldnlaaGreatDoor.mov (js off k)))) (n-k):=a.mov (λc b=>by
 have:=a.off b
 grind [js]) VC
def MV.sett{ms ks n}(b:MV ms n)(f:MV ks n)(g:n<=8192):MV (Z0 (ms.map (Go.Proofs.YtacmdegboldnlaaGreatDoor.mov (YJ ks)))) n:=b.mov (λa e=>by
 unfold YJ
 split
 ·rename_i d
  obtain⟨h,i,j,c⟩:=Eg a.1 ks 0 d;have:(yD a.1 ks 0).toNat=h:=VC;rw[this,vv,c];have:=f.off (vc c)
  simp_all
 have:=b.off e;omega) g
def U6(a:SR):qa0:=if a.put then a.aft else a.bef
def Tg(a:SR):qa0:=if a.put then a.bef else a.aft
structure RV(r:SR):Prop where
 n0:0<r.n
 on:r.off+r.n<=L (U6 r)
 lb:L (U6 r)<=8192
 ed:Tg r=(U6 r).take r.off++(U6 r).drop (r.off+r.n)
 mb:MV r.was (L r.bef)
 ma:MV r.is (L r.aft)
def Ih(r):Zs r=((U6 r).drop r.off).take r.n:=by grind [Zs,U6]
section
variable {r:SR} {b:Bool} {M:SS} {k:Nat}
def RV.rl(a:RV r):L (Zs r)=r.n:=by have:=a.on;rw[Ih,xO,xZ];omega
def RV.sl(a:RV r):L (Tg r)+r.n=L (U6 r):=by have:=a.on;rw[a.ed,xL,xO,xZ];omega
def RV.go(a:RV r):(Tg r).take r.off++(Zs r++(Tg r).drop r.off)=U6 r:=by
 have c:=a.on;have b:L ((U6 r).take r.off)=r.off:=by rw[xO];omega
 rw[a.ed,kg VC,vX VC,QT,b,Qj,ke,Qb VC,vL,Ih]
 grind [U6,List.take_append_drop,List.drop_drop]
theorem JI(a:(r.put != b)=VR):Kj r b=U6 r/\Kj r (!b)=Tg r:=by
 grind [Kj,U6,Tg]
theorem YK(a:(r.put != b)=VP):Kj r b=Tg r/\Kj r (!b)=U6 r:=by
 grind [Kj,U6,Tg]
def RV.ms(a:RV r):MV (GW r b) (L (Kj r b)):=by cases b<;>first | exact a.ma | exact a.mb
def RV.tl(a:RV r):L (Kj r b)<=8192:=by
 have:=a.sl;have:=a.lb;cases hp:(r.put != b)with
 | true=>grind [JI]
 | false=>grind [YK]
def RV.swN(a:RV r)(c:MV M.ms (L (Kj r (!b)))):MV (swN r b M.ms) (L (Kj r b)):=by
 have:=a.sl;have:=a.lb;have:=a.on;unfold Go.Proofs.YtacmdegboldnlaaGreatDoor.swN;cases hp:(r.put != b)with
 | true=>
  rw[(JI hp).2]at c;rw[(JI hp).1,cond_true,<- a.sl];exact c.push VC
 | false=>
  rw[(YK hp).2]at c;rw[(YK hp).1,cond_false,show(L (Tg r))=L (U6 r)-r.n by omega];exact c.pull VC VC
def RV.ok1(a:RV r)(ht:M.tx=Kj r (!b))(c:MV M.ms (L M.tx)):MV (JX b M r).ms (L (JX b M r).tx)/\(JX b M r).tx=Kj r b:=by
 rw[ht]at c;exact⟨(a.swN c).sett a.ms a.tl,rfl⟩
theorem szS_sw(n)(r)(b):zBq n (Tw r b)<=n+(if r.put=b then 0 else r.n):=by
 grind [zBq,Tw]
def JK(b):∀(a)(M),YF (a.foldl (JX b) M).lg<=YF M.lg+yf b a
 | [],_=>Nat.le_add_right _ _
 | r::a,M=>by
  have c:=JK b a (JX b M r)
  grind [YF,JX,lg,zBq,yf,szS_sw,Jb]
def DT(b)(l):yf b l.reverse=yf b l:=by
 simp_all[yf,List.reverse_cons,Qy,Ve,QK,VA,List.map_nil,List.sum_nil]
def DU{b g j r}(a:g[j]?=O r):yf b (g.take j)+(if r.put=b then 0 else r.n)+yf b (g.drop (j+1))=yf b g:=by
 rw[<- Ej a]
 grind [yf,List.take_append_drop]
def RV.ok(a:RV r)(ht:M.tx=Kj r (!b))(e:MV M.ms (L M.tx))(o:(r.put != b)=VR->YF M.lg+r.n<=220000):OkX b M r/\OkS b M r/\MV (JX b M r).ms (L (JX b M r).tx)/\(JX b M r).tx=Kj r b:=by
 have i:=a.sl;have j:=a.lb;have k:=a.on;have g:=a.n0;have f:=a.rl;have l:=a.go;rw[ht]at e;have d:=a.swN e;have m:=(a.ms (b:=b)).1.1;refine⟨⟨⟨VC,?_,e.1,λc=>by simp_all⟩,?_,f,?_,VC⟩,⟨by have:=e.1.1;omega,λn h=>?_,⟨g,VC⟩,VC,λc=>?_⟩,d.sett a.ms a.tl,rfl⟩
 ·cases c:(r.put != b)with
  | true=>rw[xU rfl,ht,(JI c).2];omega
  | false=>simp_all[xK,YK]
 ·unfold EK
  cases c:(r.put != b)with
  | true=>grind [JI]
  | false=>simp;rw[ht,(YK c).2,(YK c).1,f];exact a.ed.J
 ·unfold Go.Proofs.YtacmdegboldnlaaGreatDoor.swN at d
  unfold EK;cases c:(r.put != b)with
  | true=>rw[c]at d;simp only[Vo,f];exact d.1
  | false=>rw[c]at d;simp only[Qh,QZ,f];exact d.1
 ·have:=e.off h;omega
 grind [JI]
def Ch:qa0->List SR->qa0->Prop
 | a,[],b=>a=b
 | a,r::c,b=>RV r/\a=r.bef/\Ch r.aft c b
def Ch.app:∀{t u v g k},Ch t g u->Ch u k v->Ch t (g++k) v
 | _,_,_,[],_,a,b=>by cases a;exact b
 | _,_,_,_::_,_,a,b=>⟨a.1,a.2.1,Ch.app a.2.2 b⟩
def Ch.cut:∀{c v g k},Ch c (g++k) v->∃b,Ch c g b/\Ch b k v
 | c,_,[],_,a=>⟨c,rfl,a⟩
 | _,_,_::_,_,a=>by
  obtain⟨b,d,e⟩:=Ch.cut a.2.2;exact⟨b,⟨a.1,a.2.1,d⟩,e⟩
def Ch.rv:∀{t u g},Ch t g u->∀r∈g,RV r
 | _,_,_::_,b,r,a=>by
  obtain rfl|a:=vC.1 a
  ·exact b.1
  exact Ch.rv b.2.2 r a
def Ch.undo{t u g}(h:Ch t g u)(ht:M.tx=u)(i:MV M.ms (L M.tx)):∀a≤L g,Ch t (g.take (L g-a)) (jq g (L g-a) M).tx/\MV (jq g (L g-a) M).ms (L (jq g (L g-a) M).tx)
 | 0,_=>by
  grind [jq]
 | a+1,s=>by
  obtain⟨e,f⟩:=Ch.undo h ht i a VC;have d:L g-a=L g-(a+1)+1:=VC;have c:g[L g-(a+1)]?=O g[L g-(a+1)]:=xI VC;generalize g[L g-(a+1)]=r at c;generalize L g-(a+1)=n at*;rw[d,Qa,c]at e;rw[d]at f;obtain⟨o,p,j,q,k⟩:=e.cut;obtain⟨l,m⟩:=j.ok1 (b:=VR) k.J f;rw[Kk c];exact⟨by rw[m];show Ch t _ r.bef;simp_all,l⟩
def Ch.undoOk{t u g}(h:Ch t g u)(ht:M.tx=u)(i:MV M.ms (L M.tx))(o:YF M.lg+yf VR g<=220000)(j)(r)(a:g[j]?=O r):OkX VR (jq g (j+1) M) r/\OkS VR (jq g (j+1) M) r:=by
 have m:=(xS.1 a).1;obtain⟨c,d⟩:=h.undo ht i (L g-(j+1)) VC;rw[show L g-(L g-(j+1))=j+1 by omega]at c d;rw[Qa,a]at c;obtain⟨p,q,k,s,l⟩:=c.cut
 obtain⟨v,w,_⟩:=k.ok (b:=VR) l.J d (λn=>by
  have e:=JK VR (g.drop (j+1)).reverse M;have f:=DU (b:=VR) a;rw[DT]at e;rw[xK (by simp_all)]at f
  show YF ((g.drop (j+1)).reverse.foldl (JX VR) M).lg+r.n<=220000
  omega)
 simp_all
def Ch.redo{u v g}(e:Ch u g v)(ht:M.tx=u)(f:MV M.ms (L M.tx)):∀a≤L g,Ch (yT g a M).tx (g.drop a) v/\MV (yT g a M).ms (L (yT g a M).tx)
 | 0,_=>by
  grind [yT]
 | a+1,n=>by
  obtain⟨c,h⟩:=Ch.redo e ht f a VC;have d:g[a]?=O g[a]:=xI VC;rw[ko VC]at c;obtain⟨i,j,k⟩:=c;obtain⟨l,m⟩:=i.ok1 (b:=VP) j h;rw[XH d];exact⟨by rw[m];exact k,l⟩
def Ch.redoOk{u v g}(f:Ch u g v)(ht:M.tx=u)(h:MV M.ms (L M.tx))(o:YF M.lg+yf VP g<=220000)(j)(r)(a:g[j]?=O r):OkX VP (yT g j M) r/\OkS VP (yT g j M) r:=by
 have d:=(xS.1 a).1;obtain⟨c,i⟩:=f.redo ht h j VC;rw[ko d,(xS.1 a).2]at c;obtain⟨k,l,p⟩:=c
 obtain⟨q,s,_⟩:=k.ok (b:=VP) l i (λn=>by
  have m:=JK VP (g.take j) M;have e:=DU (b:=VP) a;rw[xK (by simp_all)]at e
  show YF ((g.take j).foldl (JX VP) M).lg+r.n<=220000
  omega)
 simp_all
end
section
open Go.Sort Go.BigFrame
def zCi:ByteArray:=⟨#[108,111,111,107,105,110,103,32,97,32,107,105,110,100,32,117,112]⟩
section
variable {w w':World} {Z:Nat->Prop} {E c:Nat} {x:VX} {M:SS} {K:KX} {kd b0 b1 b2:Int} {ta:Option Addr} {tl tq:Nat}
def Th(n:kd<1\/16<kd)(w):VM prog 94 #[qP kd] w λg w'=>g=V5 (.tuple #[.agg #[.string ⟨#[]⟩,.nilFunc],.iface 109 (qP 13)])/\qa3 w w':=by
 have o:=Tryz.stN;have d:=zC (Hv (v:=kd) (lo:=1) (hi:=16) (k:=13) (VF w (V6 #[.string ⟨#[]⟩,.nilFunc] 175)) (Td VC));have b:=zC (xJ w (V6 #[.string ⟨#[]⟩,.nilFunc] 175));have h:=zC (bA (xF _ w) (V6 #[.string ⟨#[]⟩,.nilFunc] 175));clear n;go_enter func94,ntmps94;go_upto_region 1 with fail;generalize VF w _=t at*;go_wp2_with fail;refine d.G ?_;rintro g a ⟨rfl,rfl⟩;have c:=λm=>xW a _ m _ _ b
 have p:=c 0;have q:=c 1;have i:=zC (show Below _ w ((a.setCell (V4 (N (Y w)) 0) (.string ⟨#[]⟩)).setCell (V4 (N (Y w)) 1) .nilFunc)from(h.setCell lR _).setCell lR _)
 have e:VE ((a.setCell (V4 (N (Y w)) 0) (.string ⟨#[]⟩)).setCell (V4 (N (Y w)) 1) .nilFunc) (V4 (N (Y w)) 0)=O (.string ⟨#[]⟩):=by
  rw[xH _ _ 0 _ _ _ (vf _ (N (Y w)) 1 _ _ _ (vf a (N (Y w)) 0 _ _ _ b.A))];rfl
 have f:VE ((a.setCell (V4 (N (Y w)) 0) (.string ⟨#[]⟩)).setCell (V4 (N (Y w)) 1) .nilFunc) (V4 (N (Y w)) 1)=O .nilFunc:=by
  rw[xH _ _ 1 _ _ _ (vf _ (N (Y w)) 1 _ _ _ (vf a (N (Y w)) 0 _ _ _ b.A))];rfl
 have j:=zC e;have l:=zC f;have r:VE a (V4 (N (Y w)) 0)=O (.string ⟨#[]⟩):=by rw[xH _ _ 0 _ _ _ b.A];rfl
 have s:VE a (V4 (N (Y w)) 1)=O .nilFunc:=by rw[xH _ _ 1 _ _ _ b.A];rfl
 clear c d e f;go_wp2;refine vE ?_ rfl ⟨rfl,i⟩;simp[results,go_sem,j.A,l.A]
def zB6(f:kd<1\/16<kd)(n:EX K w Z E c x M):BX 75 w E kd b0 b1 b2 (VZ ta tl tq) (.iface 130 (.agg #[.string zCi,.iface 109 (qP 13)])):=by
 unfold BX;have a:=zC (PB.start w (yZ kd b0 b1 b2 (VZ ta tl tq)));have o:=Tryz.stN;have j:=zC (Th f);clear n f;go_enter func75,ntmps75;go_upto_region 1 with fail;generalize VF _ _=e at*;have k:=zC a.2.1;have l:e.cell? _=O (.int _ kd):=c8 0 k;go_wp2_with fail;refine(j e).G ?_;rintro q g ⟨rfl,h⟩;have b:=zC (a.I h);clear h l;have BX:=zC (bA (xF _ g) (V6 #[.string ⟨#[]⟩,.nilFunc] 175));go_upto_region 2 with fail;generalize VF g _=p at*;have d:=zC (b.I BX);have RR:=zC d.2.2;have m:=zC (d.fin (row:=yV 0 0 0 V0 V0));clear b BX;go_wp2_with (refine ZD RR ?_);exact yw results75 RR rfl rfl ⟨rfl,m⟩
end
section
variable {w w':World} {Z:Nat->Prop} {E c:Nat} {x:VX} {M:SS} {K:KX} {kd b0 b1 b2:Int} {ta:Option Addr} {tl tq:Nat} {n m k:Nat}
def zBa(e:EX K w Z E c x M):VM prog 159 #[V3 E 0] w λj w'=>∃h,j=V5 h/\zH w' (N (Y w)) h M.tx/\qa3 w w':=by
 have u:=λc w=>(K.mth c w).1
 have v:=K.ent K.fLen VT;have y:=λc w=>(K.mth c w).2.2.2.2.1
 have z:=K.ent K.fSli VT;have g:=zC (show ∀a,Below _ w a->a.cell? _=O _ from λa b=>(e.I b).c6);have k:=zC (λa(b:Below _ w a)=>Ht (e.I b))
 have l:=zC (λa(b:Below _ w a)=>(by
  have:=K.cSli (lo:=0) (hi:=L M.tx) (e.I b).cr (xY _) (by rw[e.tx];omega)
  rw[e.tx,vX lR,ke]at this;exact this))
 clear e;go_enter func159,ntmps159;go_upto_region 1 with fail;refine(kS (n:=6)).1 ?_;refine yU (λa=>VE a (V4 E 6)=O (.iface K.ty (V3 c 0))) VU ?_;refine zj 0 _ ?_;go_simp;refine zj 1 _ ?_;go_simp;refine zj 2 _ ?_;go_simp;refine zj 3 _ ?_;go_simp;refine zj 4 _ ?_;go_simp;refine zj 5 _ ?_;go_simp;refine zj 6 _ ?_;go_simp;refine zj 7 _ ?_;go_simp;refine zj 9 _ ?_;go_simp;refine zj 10 _ ?_;go_simp;obtain⟨s,b⟩:∃a,a=w.drew:=⟨_,rfl⟩
 rw[<- b];have f:=zC (show qa3 w s from by rw[b];exact⟨rfl,rfl,rfl,lR,λ_ _=>rfl⟩);clear b;refine on 8 (g _ f) ?_;gi_wp2_with fail;refine⟨xN,(vD.2 (k _ f)).G ?_⟩;rintro j A ⟨rfl,p⟩;have d:=zC (f.R (p.G f.size));clear p f;gi_wp2_with fail;refine on 11 (g _ d) ?_;gi_wp2_with fail;have m:=zC (l _ d);refine⟨xN,(vD.2 m).G ?_⟩;rintro j t ⟨h,rfl,q,r⟩;have o:=zC (show zH t _ h _ from zF q d.size);have i:=zC (d.R (r.G d.size));clear r q m d l k;obtain⟨B,C,rfl⟩:=zS o;gi_wp2_with fail;refine on 12 (g _ i) ?_;gi_wp2_with fail;refine jr VU (g _ i) ?_ _;go_wp2;go_ret;exact⟨_,rfl,o,i⟩
theorem Lq:(∀ {w} {Z} {E} {c} {x} {M} {K} {b0} {b1} {b2} {ta} {tl} {tq} (h:EX K w Z E c x M) (B:Vd M.ms) (af:M.sp<=200000) (C:¬M.sp+(L M.tx+L M.ms)<=200000),BX 131 w E 16 b0 b1 b2 (.slice ta tl tq) (.iface 109 (.int .i64 10)))∧(∀ {w} {Z} {E} {c} {x} {M} {K} {b0} {b1} {b2} {ta} {tl} {tq} (h:EX K w Z E c x M) (B:Vd M.ms) (C:M.sp+(L M.tx+L M.ms)<=200000),AX K 131 w Z E c 16 b0 b1 b2 (.slice ta tl tq) 0 0 0 M.tx M.ms {M with sp:=M.sp+(L M.tx+L M.ms)}):=by
 refine⟨@fun w Z E c x M K b0 b1 b2 ta tl tq h B af C=>have g1:=zC xN;?_,@fun w Z E c x M K b0 b1 b2 ta tl tq h B C=>have g:=zC xN;?_⟩
 all_goals
  first
   |(revert g1;intro g1;unfold BX;have o:=zC (PB.start w (yZ 16 b0 b1 b2 (.slice ta tl tq))))
   |(unfold AX;have o:=zC (PX.start h (yZ 16 b0 b1 b2 (.slice ta tl tq))))
  have ar:=h.lt
  first | (revert g;intro g) | skip
  have au:=fun c w=>(K.mth c w).1
  have av:=K.ent K.fLen (by simp)
  obtain⟨m,S⟩:∃m,m=L M.tx:=⟨_,rfl⟩;obtain⟨n,D⟩:∃n,n=L M.ms:=⟨_,rfl⟩
  first | (revert g1;intro g1;have ak:=zC h) | skip
  clear h;go_enter func131,ntmps131
  go_upto_region 1 with fail
  generalize VF (VF w _) _=i at*
  first
   |(revert g;intro g;obtain⟨ao,ag⟩:=o.A.1;have f:=zC ag;clear ag)
   |(have f:=zC (ak.A.I o.A.1))
  obtain⟨j,k,G⟩:=f.A.ey.ms.val;have aw:=f.A.len
  have ax:n<=128:=by rw [D];exact B.1
  rw [<- D]at G
  have p:=zC (show ∀y:World,y.heap[E]? =i.heap[E]?->(VE y ⟨E,6,none⟩=O (.iface K.ty (.pointer (O ⟨c,0,none⟩)))∧VE y ⟨E,0,none⟩=O (.slice j n k))from fun y u=>⟨(vO u).R f.A.c6,(vO u).R (by rw [<- G];exact f.A.ey.blk.cl.1)⟩)
  have LE:=f.A.lt
  have v:=zC (fun y (d:Below (N (Y i)) i y)=>Ht (f.A.I d))
  rw [<- S]at v;have J:=zC S;have P:=zC D;have W:=zC G
  have ay:qad.wrap (m+n)=((m+n:Nat)):=by rw [vU];omega
  clear S D G;refine(kS (n:=6)).1 ?_
  refine yU (fun y=>VE y ⟨E,6,none⟩=O (.iface K.ty (.pointer (O ⟨c,0,none⟩)))∧VE y ⟨E,0,none⟩=O (.slice j n k)) (by kernel_rfl) ?_
  refine zj 0 (.pointer (O ⟨E,0,none⟩)) ?_;go_simp;refine zj 1 (.pointer (O ⟨E,0,none⟩)) ?_;go_simp;refine zj 2 (.pointer (O ⟨E,0,none⟩)) ?_;go_simp;refine zj 3 (.pointer (O ⟨E,6,none⟩)) ?_;go_simp;refine zj 4 (.iface K.ty (.pointer (O ⟨c,0,none⟩))) ?_;go_simp;refine zj 6 (.pointer (O ⟨E,0,none⟩)) ?_;go_simp;refine zj 7 (.pointer (O ⟨E,0,none⟩)) ?_;go_simp;refine zj 8 (.pointer (O ⟨E,0,none⟩)) ?_;go_simp;refine zj 9 (.pointer (O ⟨E,0,none⟩)) ?_;go_simp;refine zj 10 (.slice j n k) ?_;go_simp;refine zj 11 (.int .i64 n) ?_;go_simp;obtain⟨T,d⟩:∃y,y=i.drew:=⟨_,rfl⟩;rw [<- d]
  have a:=zC (show Below (N (Y i)) i T from by rw [d];exact⟨rfl,rfl,rfl,lR,fun _ _=>rfl⟩)
  clear d;refine on 5 (p.A _ (a.A.block _ LE)) ?_
  gi_wp2_with fail
  refine⟨xN,(vD.2 (v.A _ a.A)).G ?_⟩;rintro e y1 ⟨rfl,l⟩;have b:=zC (a.A.R (l.G a.A.size));clear l a
  gi_wp2_with fail
  refine zj 12 (.int .i64 ((m+n:Nat))) ?_;go_simp;refine on 13 (p.A _ (b.A.block _ LE)) ?_
  first
   |(revert g1;intro g1;(have z:=zC (Hs (n:=m+n) (f.A.I b.A) af (by rw [J.A,P.A];omega))))
   |((have z:=zC (WU (n:=m+n) (f.A.I b.A) (by rw [J.A,P.A];exact C))))
  gi_wp2_with fail
  refine⟨xN,(vD.2 z.A).G ?_⟩
  first
   |(revert g;intro g;rintro e w3 ⟨rfl,U,ah⟩;have r:=zC ((o.A.I b.A).same ⟨_,U⟩ ah);have s:=zC U;(have t:=zC (show ∀y:World,y.heap[E]? =w3.heap[E]?->(VE y ⟨E,6,none⟩=O (.iface K.ty (.pointer (O ⟨c,0,none⟩)))∧VE y ⟨E,0,none⟩=O (.slice j n k))from fun y u=>⟨(vO u).R s.A.c6,(vO u).R (by rw [<- W.A];exact s.A.ey.blk.cl.1)⟩));clear U ah z p v b)
   |(rintro e w3 ⟨rfl,rfl⟩)
  gi_wp2_with fail
  first
   |(revert g1;intro g1;refine tk 14 (.iface 109 (.int .i64 10)) ?_ ?_)
   |(refine tk 14 (.nilIface) ?_ ?_)
  ·intro y az;go_simp
  go_simp
  first
   |(revert g;intro g;skip
     refine jr (by kernel_rfl) (t.A _ rfl) ?_ _
     go_upto_region 4 with fail
     have A:=s.A.lt
     have X:=zC (fun y (d:Below (N (Y w3)) w3 y)=>zBa (s.A.I d))
     have aa:=zC (fun y d=>(by
      have ab:=Le 0 M.ms ao.mv y (s.A.I d).ey.ms (by omega)
      rw [W.A]at ab;exact ab))
     refine(kS (n:=6)).1 ?_
     refine yU (fun y=>VE y ⟨E,6,none⟩=O (.iface K.ty (.pointer (O ⟨c,0,none⟩)))∧VE y ⟨E,0,none⟩=O (.slice j n k)) (by kernel_rfl) ?_
     refine zj 0 (.pointer (O ⟨E,0,none⟩)) ?_;go_simp;refine zj 2 (.pointer (O ⟨E,0,none⟩)) ?_;go_simp;refine zj 3 (.pointer (O ⟨E,0,none⟩)) ?_;go_simp;refine zj 4 (.pointer (O ⟨E,0,none⟩)) ?_;go_simp;refine zj 5 (.pointer (O ⟨E,0,none⟩)) ?_;go_simp;refine zj 6 (.slice j n k) ?_;go_simp;obtain⟨T,d⟩:∃y,y=w3.drew:=⟨_,rfl⟩;rw [<- d]
     have a:=zC (show Below (N (Y w3)) w3 T from by rw [d];exact⟨rfl,rfl,rfl,lR,fun _ _=>rfl⟩)
     clear d;refine on 1 (t.A _ (a.A.block _ A)) ?_
     gi_wp2_with fail
     refine⟨xN,(vD.2 (X.A _ a.A)).G ?_⟩;rintro e y1 ⟨a0,rfl,H,l⟩;have b:=zC (a.A.R (l.G a.A.size));obtain⟨ua,uk,ap⟩:=zS H;subst ap;obtain⟨ai,aj⟩:=(r.A.I a.A).held l H;have Q:=zC ai
     have R:=zC (And.intro (show zH y1 (N (Y w)) (.slice ua (L M.tx) uk) M.tx from zF H (by have:=r.A.2.1.size;have:=a.A.size;omega)) (fun q an=>aj.2 q an))
     clear ai aj H l X a
     gi_wp2_with fail
     refine on 7 (t.A _ (b.A.block _ A)) ?_;have ac:=zC (aa.A _ b.A)
     gi_wp2_with fail
     refine⟨xN,(vD.2 ac.A).G ?_⟩;rintro e y2 ⟨a1,rfl,V,I⟩;have ad:=zC (b.A.R (I.G b.A.size));obtain⟨ma,mk,aq⟩:=V.val;subst aq;have ae:=zC (Q.A.I I);have al:=zC (And.intro (zE R.A.1 I lR) R.A.2)
     have am:=zC (V.base (by have:=Q.A.2.1.size;omega))
     clear V I aa ac R Q
     gi_wp2_with fail
     refine zj 8 (.agg (yV 0 0 0 (.slice ua (L M.tx) uk) (.slice ma (L M.ms) mk))) ?_;go_simp;have RR:=zC ae.A.2.2.2.2;have F:=zC (ae.A.fin (x0:=0) (x1:=0) (x2:=0) al.A am.A);rw [J.A,P.A]at F;refine on 9 (t.A _ (ad.A.block _ A)) ?_
     refine zV rfl 79 _ _ rfl (N (Y w)+1) _ (yV 0 0 0 (.slice ua (L M.tx) uk) (.slice ma (L M.ms) mk)) 79 rfl rfl RR.A (by kernel_rfl) rfl (by simp [Value.oneCell']) ?_
     refine Qg ?_;go_simp;refine zj 10 (.nilIface) ?_;go_simp
     refine jr (by kernel_rfl) (t.A _ ((kD y2 _ _ _ (by omega)).R (ad.A.block _ A))) ?_ _
     go_wp2_with fail
     exact yw results131 RR.A rfl rfl F.A)
   |((refine jr (by kernel_rfl) (p.A _ (b.A.block _ LE)) ?_ _);have r:=zC (o.A.I b.A);clear p v z b f;have RR:=zC r.A.2.2;have F:=zC (r.A.fin (row:=yV 0 0 0 (.slice none 0 0) (.slice none 0 0)));go_wp2_with (refine ZD RR.A ?_);exact yw results131 RR.A rfl rfl ⟨rfl,F.A⟩)
def dumpF9:=@Lq.1
def dump9:=@Lq.2
end
end
