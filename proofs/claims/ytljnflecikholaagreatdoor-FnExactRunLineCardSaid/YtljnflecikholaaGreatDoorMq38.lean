import Derived.Test.YtljnflecikholaaGreatDoorMq37
import Derived.Test.YtljnflecikholaaGreatDoorMq35
import Derived.Test.YtljnflecikholaaGreatDoorMq36
set_option linter.all false
set_option maxRecDepth 100000
set_option maxHeartbeats 8000000
namespace Go.Proofs.YtljnflecikholaaGreatDoor
open Go Go.RowKit Go.Proofs.Tryz
noncomputable def WY (g:List LE):LB:=KLX.run g
noncomputable def zBv (s:LB) (l:LE):LB:=if l.kd=1 then J2 s l.lo l.tx else if l.kd=2 then Ju s l.lo (l.hi - l.lo)else if l.kd=3 then jw l.tx else if l.kd=4 then Yx s l.lo else KS s l.lo
def Yg(g)(l):WY (g++ [l])=zBv (WY g) l:=KX.run_snoc KLX g l
section
variable {s:LB}
def seeX_LV{off}(a:LV s.1 s.2):LV (Yx s off).1 (Yx s off).2/\jn (Yx s off).ls=jn s.ls:=by
 obtain⟨c,b⟩:=Kn.ex _ _ off (by rw[LB.lsl];exact a.1.2.2.2);refine⟨?_,rfl⟩;unfold Yx;rw[b.at];exact a.at ⟨by have:=b.1;have:=a.1.2.2.1;omega,by have:=b.2.1;rw[LB.lsl]at this;exact this⟩
def On{a:Nat}(b:LV s.1 s.2)(c:a<=js (jn s.ls)):(LV (KS s a).1 (KS s a).2/\jn (KS s a).ls=jn s.ls)/\a+1<=s.1.length:=by
 rw[Kw b.lne b.ne10]at c;have d:=s.lsl;have e:=b.1.2.2;exact⟨⟨b.at ⟨qF,qF⟩,rfl⟩,qF⟩
end
def LS.lv{c e}(l:LS c e):LV (WY c).1 (WY c).2/\jn (WY c).ls=e:=by
 induction l with
 | nil=>exact Uf [] qH
 | @ins c e j d f g u q a=>
  obtain⟨m,n,h,i⟩:=Ln.ex (off:=d) a.1;have b:=Wj a.1 h i (by rw[a.2];exact g) (by rw[a.2];exact q);rw[Yg,show zBv _ _=J2 _ d j from rfl];rw[a.2]at b;exact b.2
 | @rem c e lo hi f k v a=>
  obtain⟨m,n,h,i⟩:=Ln.ex (off:=lo) a.1;obtain⟨s,t,o,p⟩:=Ln.ex (off:=lo+(hi-lo)) a.1;have b:=Wk a.1 h o i p (by rw[a.2];omega);rw[Yg,show zBv _ _=Ju _ lo (hi-lo)from rfl];rw[a.2,show lo+(hi-lo)=hi by omega]at b;exact b.2
 | @lod c e j f k a=>rw[Yg];exact Uf j k
 | @see c e d f g a=>
  have b:=seeX_LV (off:=d) a.1;rw[Yg,show zBv _ _=Yx _ d from rfl];rw[a.2]at b;exact b
 | @kno c e r f g a=>
  have b:=On a.1 (by rw[a.2];exact g);rw[Yg,show zBv _ _=KS _ r from rfl];rw[a.2]at b;exact b.1
def LV.bd{gs st}(b:LV gs st):gs.length<=8193/\1<=gs.length/\(∀a∈gs,Kq a.cells a.lo a.hi)/\jR (gs.map zK)+gs.length<=4194304/\(∀a∈gs,a.cells.length<=1048576)/\1<=st.length/\st.length<=gs.length:=by
 have d:=jl (by intro e;have f:gs.length=0:=(show(gs.map zK).length=gs.length from xO _).symm.trans (ko List.length e);have:=b.1.1;omega);rw[xO]at d;have:=b.2.2.1;have:=b.1;exact⟨qF,qF,λa c=>(b.2.1 a c).1,qF,λa c=>by have:=(ZR (b.2.1 a c).1).2.2;omega,qF,qF⟩
section
variable {w:World} {lo hi:Nat} {vr vt:Value} {s:LB}
def LbP(d:qS)(e:LB)(f:Ending)(a:qS):Prop:=∃b c,f=qQ (.agg #[b,c])/\Zh a d.heap.size a.heap.size b c e.1 e.2/\qY d a
def repIns{off ts b o ct}(j:Zh w lo hi vr vt s.1 s.2)(k:hi<=w.heap.size)(c:LV s.1 s.2)(d:off<=(jn s.ls).length)(l:0<ts.length)(e:(jn s.ls).length+ts.length<=8192)(m:b<w.heap.size)(f:ts.length<=ct/\ct<=maxLen)(n:∀a,a<ts.length->w.cell? (qP b (o+a))=some (.int .i32 (ts.getD a 0))):
  Calls prog 16 #[.agg #[vr,vt],qC off,qM (qD b o) ts.length ct] w (LbP w (J2 s off ts)):=by
 obtain⟨p,q,g,h⟩:=Ln.ex (off:=off) c;obtain⟨r,t,u,v,x,y,z⟩:=c.bd;have i:=(Wj c g h d e).1;rw[i];exact zA3 s.1 s.2 off p q ts b o _ ct vr vt lo hi w j k r t u v x y z e d g h rfl l m f.1 f.2 n
def repDel{a b}(j:Zh w lo hi vr vt s.1 s.2)(k:hi<=w.heap.size)(c:LV s.1 s.2)(l:a<b)(m:b<=(jn s.ls).length):
  Calls prog 17 #[.agg #[vr,vt],qC a,qC b] w (LbP w (Ju s a (b-a))):=by
 obtain⟨n,o,g,d⟩:=Ln.ex (off:=a) c;obtain⟨p,q,e,h⟩:=Ln.ex (off:=a+(b-a)) c;obtain⟨r,t,u,v,x,y,z⟩:=c.bd;have f:=(Wk c g e d h qF).1;have i:a+(b-a)=b:=qF
 rw[i]at f e;rw[f,YS (xp.1 d).1];exact zA2 s.1 s.2 a b n p o q vr vt lo hi w j k r t u v x y z c.2.2.1 l m g e d h
def repKno{a:Nat}(c:Zh w lo hi vr vt s.1 s.2)(d:hi<=w.heap.size)(b:LV s.1 s.2)(e:a<=js (jn s.ls)):
  Calls prog 19 #[.agg #[vr,vt],qC a] w (LbP w (KS s a)):=by
 obtain⟨f,g,h,i,j,l,m⟩:=b.bd;have k:=(On b e).2;exact knownS s.1 s.2 a _ vr vt lo hi w c d f g h i j rfl qF
def repSee{off}(j:Zh w lo hi vr vt s.1 s.2)(k:hi<=w.heap.size)(e:LV s.1 s.2)(l:off<=(jn s.ls).length):
  Calls prog 18 #[.agg #[vr,vt],qC off] w λd a=>∃b c h i,d=qQ (.tuple #[.agg #[b,c],qC h,qC i])/\Zh a w.heap.size a.heap.size b c (Yx s off).1 (Yx s off).2/\qY w a:=by
 obtain⟨m,n,o,p,q,r,t⟩:=e.bd;have:=e.2.2.1;refine(Og s.1 s.2 off vr vt lo hi w j k m n o p q r t (by unfold LB.ls at l;omega)).mono ?_;rintro d a ⟨b,c,y,f,rfl,z,u,v,x⟩;refine⟨b,c,_,_,rfl,?_,x⟩;have g:Yx s off=(s.1,(jL s.ls).take f):=by unfold Yx;rw[show mAt s.ls s.2.length off=f from Kn.at u]
 rw[g];exact v
end
section
open Go.Sort Go.BigFrame
section
variable {w w':World} {Z:Nat->Prop} {E c:Nat} {x:VX} {M:SS} {K:KX} {kd b0 b1 b2:Int} {ta:Option Addr} {tl tq:Nat} {n m k i p:Nat}
def Ul(b):∀(a:List SR)(M),(a.foldl (WQ b) M).op=M.op
 | [],M=>rfl
 | c::a,M=>by rw[List.foldl_cons];exact Ul b a _
def Um:(∀{c s b t g a d h i j l m o}(p:EX d c s b t g a)(u:a.op=true),BX 119 c b 10 h i j (qM l m o) (.iface 109 (qC 9)))/\(∀{c s b t g a d h i j l m o}(p:EX d c s b t g a)(u:a.op=false)(y:a.re= []),BX 119 c b 10 h i j (qM l m o) (.iface 109 (qC 6)))/\(∀{c s b t g a d h i j l m o}(p:EX d c s b t g a){E z}(u:a.op=false)(y:a.re=E++ [z])(au:E.length<=1000)(ab:z.length<=100000)(ac:∀r∈z,(YG r).length=r.n/\r.n<=8192)(ad:a.sp<=200000)(ae:200000<a.sp+j5 false z),BX 119 c b 10 h i j (qM l m o) (.iface 109 (qC 10))):=by
 refine⟨@λc s b t g a d h i j l m o p u=>have U:=zC xB;?_,@λc s b t g a d h i j l m o p u y=>?_,@λc s b t g a d h i j l m o p E z u y au ab ac ad ae=>have e:=zC xB;?_⟩
 all_goals
  unfold BX;have V:=zC (PB.start c (yp 10 h i j (qM l m o)));have am:=zC p;clear p;go_enter func119,ntmps119;go_upto_region 1 with fail;generalize World.alloc _ _=q at *;have f:=zC (am.below V.1)
  first
   |(revert e;intro e;have J:=f.ey.ud.1;rw[y]at J;obtain⟨av,aw,a6,a7,a8,R,ax,G,ay,ah⟩:=J.topX;have HG:=zC ah;obtain⟨gl,S⟩:∃gl,gl=z.length:=⟨_,rfl⟩;obtain⟨N,ai⟩:∃N,N=E.length+1:=⟨_,rfl⟩;rw[<- S]at G;rw[<- ai]at G R;(have K:=zC (λx(v:Below _ q x)=>Oi (f.below v) u (zE G v lR) qF qF));rw[<- S]at HG;(have A:q.cell? (qP b 2)=some (qM (qD av 0) N aw):=f.ey.blk.cl.2.2.1.trans (ko some R)))
   |(revert U;intro U;skip
     obtain⟨B,aj,C,H⟩:∃O af k,g.uv= .slice O af k:=by
      obtain⟨az,I,_⟩:=f.out.ey.ud.1;rcases I.2 with ⟨w,_⟩ | ⟨a0,a1,a2,w,_⟩
      ·simp_all
      simp_all
     have K:=zC (λx(v:Below _ q x)=>zBs (f.below v) u B aj C)
     have A:q.cell? (qP b 2)=some (qM B aj C):=f.ey.blk.cl.2.2.1.trans (ko some H))
   |(skip
     obtain⟨B,C,H⟩:∃O k,g.uv= .slice O 0 k:=by
      obtain⟨az,I,_⟩:=f.out.ey.ud.1;rw[y]at I;rcases I.2 with ⟨w,_⟩ | ⟨a0,a1,a2,w,_⟩
      ·exact⟨_,_,w⟩
      exact⟨_,_,w⟩
     have K:=zC (λx(v:Below _ q x)=>zBt (f.below v) u B C)
     have A:q.cell? (qP b 2)=some (qM B 0 C):=f.ey.blk.cl.2.2.1.trans (ko some H))
  have an:=λP Q=>cell_regrown A P Q
  have W:=zC (λP Q=>CallsIn.regrown_of (r:=5) (vn.2 ((K _ (below_regrown q P Q)).mono (λw w' ag=>⟨ag.1,ag.2▸xe _ _⟩))))
  first
   |(revert e;intro e;clear A R ai S ax y J G ay ah)
   |(clear A H)
  refine(vZ (n:=6)).1 ?_;refine wpIn_region_quiet_below rfl qI qI ?_
  repeat (refine wpQuietIn_step (λ_ _ _ _=>trivial) (λd F=>?_);go_simp;first | (refine F _ ?_;clear F d) | (apply Exists.intro;refine⟨λ_=>?_,F _ ?_⟩;(first | exact W _ _);clear F d))
  refine wpQuietIn_nil ?_;intro _ aq;obtain⟨⟨a3,ak⟩,a4⟩:=aq;subst a4;have D:=zC (below_regrown q a3 ak);clear an W;generalize grow _ ak=ar at *
  first | (revert e;intro e;have ao:=zC (f.below D)) | skip
  have L:=zC (V.below D)
  first | (revert e;intro e;(have M:=zC (Uj false (HG.kk (l:=YH) (KK.of D) qG (λ_ p=>p)).1 ab ac));rw[show Hu _=1 from rfl]at M;have X:=zC (λx(v:Below _ ar x)=>Hi (ao.below v) ad ae)) | skip
  clear D;gi_wp2_with fail
  first
   |(revert e;intro e;go_wp2_with fail;refine M.mono ?_;rintro w a5 ⟨rfl,T⟩;have Y:=zC (X a5 T);have Z:=zC (L.below T);clear T M X;go_wp2_with fail;refine Y.mono ?_;rintro w a9 ⟨rfl,al⟩;have ap:=al.symm;subst ap;clear al Y;have RR:=zC Z.2.2;have aa:=zC (Z.fin (row:=yg 0 0 0 qN qN)))
   |(have RR:=zC L.2.2;have aa:=zC (L.fin (row:=yg 0 0 0 qN qN)))
  go_wp2_with (refine ZM RR ?_);exact jK results119 RR rfl rfl ⟨rfl,aa⟩
def redoO9:=@Um.1
def redoE9:=@Um.2.1
def redoF9:=@Um.2.2
def redo9{U g}(h:EX K w Z E c x M)(a7:M.op=false)(a8:M.re=U++ [g])(cf:U.length<=1000/\M.un.length<=1000)(ds:g.length<=100000)(eh:0<g.length)(cg:∀b∈g,(YG b).length=b.n/\b.n<=8192)(dt:M.sp+j5 false g<=200000)(a9:∀a b,g[a]?=some b->OkX false (yn g a {M with sp:=M.sp+j5 false g}) b):AX K 119 w Z E c 10 b0 b1 b2 (qM ta tl tq) 0 g.length 0 [] [] {yn g g.length {M with sp:=M.sp+j5 false g} with re:=U,un:=M.un++ [g]}:=by
 unfold AX;have ap:=zC (PX.start h (yp 10 b0 b1 b2 (qM ta tl tq)));obtain⟨dw,ba⟩:∃dr,dr={yn g g.length {M with sp:=M.sp+j5 false g} with re:=U,un:=M.un++ [g]}:=⟨_,rfl⟩
 rw[<- ba];obtain⟨gl,s⟩:∃gl,gl=g.length:=⟨_,rfl⟩
 rw[<- s];have c1:=zC ba;have c2:=zC s;clear ba s;clear h;go_enter func119,ntmps119;go_upto_region 1 with fail;generalize World.alloc (World.alloc w _) _=J at *;obtain⟨ei,ch⟩:=ap.out.1;have O:=zC ch;clear ch;have aq:=O.ey.ud.1;rw[a8]at aq;obtain⟨dx,dy,ej,dz,ci,R,d0,r,d1,cj⟩:=aq.topX;have HG:=zC cj;have s:=c2.out;obtain⟨a4,ck⟩:∃a4,a4=U.length+1:=⟨_,rfl⟩
 rw[<- s]at r;rw[<- ck]at r R;have c3:=zC (λa5(ai:qY J a5)=>Oi (O.below ai) a7 (zE r ai lR) qF qF);have ar:=zC s;rw[<- s]at HG;have bp:=cf;have z:J.cell? (qP E 2)=some (qM (qD dx 0) a4 dy):=O.ey.blk.cl.2.2.1.trans (ko some R);have au:=λd e=>cell_regrown z d e
 have P:=zC (λd e=>CallsIn.regrown_of (r:=5) (vn.2 ((c3 (grow (redrawn J d) e) (below_regrown J d e)).mono (λq w' I=>⟨I.1,I.2▸xe _ _⟩))));clear z R ck s d0 aq r d1 cj;refine(vZ (n:=6)).1 ?_;refine wpIn_region_quiet_below rfl qI qI ?_
 repeat (refine wpQuietIn_step (λ_ _ _ _=>trivial) (λK f=>?_);go_simp;first | (refine f _ ?_;clear f K) | (apply Exists.intro;refine⟨λ_=>?_,f _ ?_⟩;(first | exact P _ _);clear f K))
 refine wpQuietIn_nil ?_;intro _ A;obtain⟨⟨cl,cm⟩,C⟩:=A;subst C;have j:=zC (below_regrown J cl cm);clear au P;generalize grow (redrawn J cl) cm=a3 at *;have bq:=zC (O.below j);have av:=zC (ap.below j);have aw:=zC (HG.kk (l:=YH) (KK.of j) qG (λ_ h=>h));have ax:=zC (Uj false aw.1 ds cg);rw[show Hu (!false)=1 from rfl]at ax;have ay:=zC (λa5(ai:qY a3 a5)=>WC (bq.below ai) dt);obtain⟨k,bc⟩:∃k,k={M with sp:=M.sp+j5 false g}:=⟨_,rfl⟩
 rw[<- bc]at a9 ay;have Q:=zC bc;have c4:=zC a9;have c5:=zC a8;have c6:=zC a7;obtain⟨a6,cn⟩:∃a6,a6=yp 10 b0 b1 b2 (qM ta tl tq):=⟨_,rfl⟩
 rw[<- cn]at av
 obtain⟨B,d2⟩:∃B,dz=some (qP B 0):=by
  obtain⟨⟨d3,d4,_⟩,_⟩:=aw.out;rcases d4.2 with ⟨_,a0⟩ | ⟨d5,d6,d7,q,_⟩
  ·omega
  simp_all
 subst d2;clear j a9 bc a8 a7 cn cg HG O ap cf;gi_wp2_with fail;go_wp2_with fail;refine ax.mono ?_;rintro q bd ⟨rfl,aj⟩;have az:=zC (ay bd aj);have da:=zC (av.below aj);have br:=zC (show KK YH Z a3 bd from KK.of aj);clear aj ax ay av bq;generalize j5 false g=ef at bd az;go_wp2_with fail;refine az.mono ?_;rintro q ek ⟨rfl,co,bf⟩;have db:=zC (da.same ⟨_,co⟩ bf);have dc:=zC (br.trans bf (λ_ h=>h));clear co bf az br;go_wp2_with fail;go_loopw [35] (λi wr=>∃a:Nat,a<=gl/\i=qC a/\PX K w Z E c a6 (yn g a k) Z wr/\KK YH Z a3 wr) (λi _=>gl-(intOf i).toNat)
 case atStart=>exact⟨0,xK _,rfl,db,dc⟩
 obtain⟨a,el,rfl,V,f⟩:=hrel;have bs:=zC V;have dd:=zC f;by_cases ee:a<gl
 ·have eb:(a:Int)<gl:=qF
  obtain⟨b,r⟩:∃b,g[a]?=some b:=⟨_,xw (by rw[<- ar.out];omega)⟩
  have ae:=zC (c4 a b r);have de:=zC (Jh (M:=k) r);obtain⟨⟨d3,u,cp⟩,d8⟩:=aw.kk f qG (λ_ h=>h);rw[<- ar.out]at u;obtain⟨W,D,F,G,v,y,ak,z,al,bg,bh,bi,cq,bj⟩:=cp.at a b r;obtain⟨p,X⟩:∃p,p=b.put:=⟨_,rfl⟩
  obtain⟨kd,bk⟩:∃kd,kd=Hu p:=⟨_,rfl⟩
  obtain⟨m,Y⟩:∃m,m=b.off:=⟨_,rfl⟩
  obtain⟨aa,am⟩:∃n,n=(YG b).length:=⟨_,rfl⟩
  obtain⟨N,cr⟩:∃n,n=b.was.length:=⟨_,rfl⟩
  obtain⟨H,cs⟩:∃n,n=b.is.length:=⟨_,rfl⟩
  rw[<- X,<- bk]at ak;rw[<- Y]at z;rw[<- am]at al bi;rw[<- cr]at bg cq;rw[<- cs]at bh bj
  have df:gl<=ci/\ci<=maxLen:=by
   rcases u.2 with ⟨q,a0⟩ | ⟨d5,d6,d7,q,_,_,em,en,_⟩
   ·cases q
   simp_all
  unfold maxLen at df;have a0:wr.cell? (qP B (a*5))=some (qC kd):=(by rw[u.cellAt (a*5) qF];exact ak);have R:wr.cell? (qP B (a*5+1))=some (qC m):=(by rw[u.cellAt (a*5+1) qF];exact z);have dg:wr.cell? (qP B (a*5+2))=some (qM W aa D):=(by rw[u.cellAt (a*5+2) qF];exact al);have dh:wr.cell? (qP B (a*5+3))=some (qM F N G):=(by rw[u.cellAt (a*5+3) qF];exact bg);have di:wr.cell? (qP B (a*5+4))=some (qM v H y):=(by rw[u.cellAt (a*5+4) qF];exact bh);have bt:=zC (bA (xe wr.heap.size wr) (qR (PD kd m W F v aa N H D G y) 232));have t:=zC (xI wr (qR (PD kd m W F v aa N H D G y) 232));have bu:=zC (Ui p);rw[<- bk]at bu;have ec:=λw=>(Tryz.fldX p w).1
  obtain⟨ct,ab⟩:=V.1;have a1:=zC (λT(L:qY wr T)=>IL (a2:=F) (a3:=v) (l2:=N) (l3:=H) (k1:=D) (k2:=G) (k3:=y) (off:=m) p kd (ab.below L) (by rw[<- am];exact bi.kk (l:=[]) (KK.of L) (λ_ h=>h)) (by have I:=ae.1;rw[X,Y];simpa using I));rw[<- am]at a1;have bv:=zC (λT W2 L(du:KK IK Z T W2)mv'(dv:EX K W2 Z E c {ct with mv:=mv'} (Wl p (yn g a k) m (YG b)))=>Oj (ks:=b.is) dv (by have I:=ae.2.2.2.1;rw[X,Y];simpa using I) (yY (yY bj (KK.of (l:=IK) (Z:=Z) L) (.inl qG)) du (.inl qG)) ae.2.2.2.2)
  have dj:=zC (show {Wl p (yn g a k) m (YG b)with ms:=Zi ((Wl p (yn g a k) m (YG b)).ms.map (mov (YP b.is)))}=yn g (a+1) k from by
   rw[de.out,<- zAb ae.out,X,Y]
   simp[Fm])
  generalize YG b=eg at *;clear V f r u cp d8 ak z al bg bh bi cq bj X bk Y am cr cs ab;go_upto_region 9 with fail;generalize World.alloc wr _=o at *;have ed:=(qZ.1 t).1;have b0:o.cell? (qP wr.heap.size 0)=some (qC kd):=c8 0 t;have b1:o.cell? (qP wr.heap.size 1)=some (qC m):=c8 1 t;have b2:o.cell? (qP wr.heap.size 2)=some (qM W aa D):=c8 2 t;have bw:o.cell? (qP wr.heap.size 3)=some (qM F N G):=c8 3 t;have S:o.cell? (qP wr.heap.size 4)=some (qM v H y):=c8 4 t;have dk:=λd e=>cell_regrown b0 d e
  have au:=λd e=>cell_regrown b1 d e
  have dl:=λd e=>cell_regrown b2 d e
  have dm:=λd e=>cell_regrown bw d e
  have a2:=λd e=>cell_regrown S d e
  have P:=zC (λd e=>CallsIn.regrown_of (F:=Fence.wide) (r:=5) (w:=o) (d:=d) (os:=e) (vn.2 (bu m W F v aa N H D G y (grow (redrawn o d) e))));clear b0 b1 b2 bw S a0 R dg dh di;refine(vZ (n:=6)).1 ?_;refine zM 5 qI qI ?_;simp only[vc,vY,vE,vz]
  repeat (refine wpQuietIn_step (λ_ _ _ _=>trivial) (λK f=>?_);go_simp;first | (refine f _ ?_;clear f K) | (apply Exists.intro;refine⟨λ_=>?_,f _ ?_⟩;(first | exact P _ _);clear f K))
  refine wpQuietIn_nil ?_;intro _ A;obtain⟨⟨cu,cv⟩,C⟩:=A;subst C;have j:=zC (below_regrown o cu cv);clear dk au dl dm a2 P;generalize grow (redrawn o cu) cv=ce at *;have af:=zC (bt.trans (j.mono qF));have bx:=zC ((j.block wr.heap.size qF).trans t);have bz:=zC (a1 ce af);clear j t a1 bt;gi_wp2_with fail;refine⟨xB,(vn.2 bz).mono ?_⟩;rintro q an ⟨rfl,d9,cw,ao⟩;have dn:=zC (ao.ty bx qG);have b3:=zC cw;have b4:=zC (show KK YH Z wr an from(KK.of af).trans (ao.weak qG) (λ_ h=>h));have b5:=zC ao;clear cw ao bz bx;gi_wp2_with fail;have S:an.cell? (qP wr.heap.size 4)=some (qM v H y):=c8 4 dn;have a2:=λd e=>cell_regrown S d e
  clear S;go_upto_region 10 with fail;refine(vZ (n:=6)).1 ?_;refine zM 5 qI qI ?_;simp only[vc,vY,vE,vz]
  repeat (refine wpQuietIn_step (λ_ _ _ _=>trivial) (λK f=>?_);go_simp;first | (refine f _ ?_;clear f K))
  refine wpQuietIn_nil ?_;intro _ A;obtain⟨⟨ac,ad⟩,C⟩:=A;subst C;have j:=zC (below_regrown an ac ad);clear a2;generalize grow (redrawn an ac) ad=ah at *;have b6:=zC (bv ce ah af (b5.trans (KK.of j) (λ_ h=>h)) d9 (b3.below j));have K5:=zC (show KK YH Z wr ah from b4.trans (KK.of j) (λ_ h=>h));clear j b3 b4 b5 bv af;gi_wp2_with fail;refine⟨xB,(vn.2 b6).mono ?_⟩;rintro q cx ⟨rfl,eo,bl,cy⟩;rw[dj.out]at bl;have b7:=zC (show KK YH Z wr cx from K5.trans (cy.weak qG) (λ_ h=>h));have ag:=zC (bs.same ⟨_,bl⟩ b7);have dp:=zC (dd.trans b7 (λ_ h=>h));clear bl cy b6;gi_wp2_with fail;go_wp2;go_roundw
  case rel=>exact⟨a+1,qF,qL,ag,dp⟩
  first | (simp[intOf];omega)
 obtain rfl:a=gl:=qF
 have dq:¬ (a:Int)<a:=qF
 obtain⟨ct,ab⟩:=V.1;obtain⟨bn,cz,ea⟩:=Yu false (g.take a) k;have b8:=Ul false (g.take a) k;have b9:=zC (λT(L:qY wr T)=>shiftR (U:=U) (g:=g) (ab.below L) (by show(yn g a k).op=false;unfold yn;rw[b8,Q.out];exact c6) (by show(yn g a k).re=_;unfold yn;rw[cz,Q.out];exact c5) ⟨bp.1,by show(yn g a k).un.length<=_;unfold yn;rw[bn,Q.out];exact bp.2⟩)
 have ca:=zC (show {yn g a k with re:=U,un:=(yn g a k).un++ [g]}=dw from by
  rw[show(yn g a k).un=M.un from by unfold yn;rw[bn,Q.out],c1.out,Q.out,ar.out])
 clear ab bn cz ea b8 V f;go_upto_region 12 with fail;refine(vZ (n:=6)).1 ?_;refine zM 10 qI qI ?_;simp only[vc,vY,vE,vz]
 repeat (refine wpQuietIn_step (λ_ _ _ _=>trivial) (λK f=>?_);go_simp;first | (refine f _ ?_;clear f K))
 refine wpQuietIn_nil ?_;intro _ A;obtain⟨⟨ac,ad⟩,C⟩:=A;subst C;have j:=zC (below_regrown wr ac ad);clear dq;generalize grow (redrawn wr ac) ad=ah at *;have cb:=zC (b9 ah j);have cc:=zC (bs.below j);clear j b9;gi_wp2_with fail;refine⟨xB,(vn.2 cb).mono ?_⟩;rintro q cx ⟨rfl,hst⟩;rw[ca.out]at hst;obtain⟨ep,c0,_⟩:=cc.out.step hst;have ag:=zC c0;clear hst c0 cb cc ca;gi_wp2_with fail;have RR:=zC ag.2.2.2.2;have cd:=zC (ag.fin0 (x0:=0) (x1:=(a:Nat)) (x2:=0));go_wp2_with (refine ZM RR ?_);exact jK results119 RR rfl rfl cd
end
section
variable {w w':World} {Z:Nat->Prop} {E c:Nat} {x:VX} {M:SS} {K:KX} {kd b0 b1 b2:Int} {ta:Option Addr} {tl tq:Nat} {n m k i p:Nat} {W W2:World} {op:Array Value} {Z1:Nat->Prop} {M2:SS}
def UB(a:qS)(c:Nat)(d:qX)(b:qS):Prop:=qY a b/\b.heap[a.heap.size]?=some (qR #[qO c 0] 107 (0,0))/\b.heap[a.heap.size+1]?=some (qR d 63 (0,0))/\b.heap[a.heap.size+1+1]?=some (qR (yg 0 0 0 qN qN) 81 (0,0))
def UB.start(w)(E)(op):UB w E op (((w.alloc (qR #[qO E 0] 107)).alloc (qR op 63)).alloc (qR (yg 0 0 0 qN qN) 81)):=by
 have b2:=PB.start (w.alloc (qR #[qO E 0] 107)) op;have b1:=bA (xe _ w) (qR #[qO E 0] 107);have b:(w.alloc (qR #[qO E 0] 107)).heap.size=w.heap.size+1:=qH
 have c:=xI w (qR #[qO E 0] 107);refine⟨b1.trans (b2.1.mono qF),(b2.1.block _ qF).trans c,?_,?_⟩
 ·have a:=b2.2.1;rw[b]at a;exact a
 have a:=b2.2.2;rw[b]at a;exact a
def UB.lt(a:UB w E op W):w.heap.size+1+1<W.heap.size:=(qZ.1 a.2.2.2).1
def UB.below(a:UB w E op W)(b:qY W W2):UB w E op W2:=⟨a.1.trans (b.mono a.1.size),(b.block _ (by have:=a.lt;omega)).trans a.2.1,(b.block _ (by have:=a.lt;omega)).trans a.2.2.1,(b.block _ a.lt).trans a.2.2.2⟩
def UB.fin(b:UB w E op W){row}:qY w (W.setRow (w.heap.size+1+1) row):=b.1.trans ⟨rfl,rfl,rfl,qH,λa c=>vG W _ a row qF⟩
def ob10{q x0 x1 x2 ua ma ul uk ml mk f}(a:W.heap[q]?=some (qR (yg x0 x1 x2 (qM ua ul uk) (qM ma ml mk)) 81 f)):W.cell? (qP q 0)=some (qC x0)/\W.cell? (qP q 1)=some (qC x1)/\W.cell? (qP q 2)=some (qC x2)/\W.cell? (qP q 3)=some (qM ua ul uk)/\W.cell? (qP q 4)=some (qM ma ml mk)/\W.cell? (qP q 5)=some (qC 0)/\W.cell? (qP q 6)=some (qC 0)/\W.cell? (qP q 7)=some (qC 0)/\W.cell? (qP q 8)=some (qC 0)/\W.cell? (qP q 9)=some (qC 0):=
 ⟨c7 a rfl,c7 a rfl,c7 a rfl,c7 a rfl,c7 a rfl,c7 a rfl,c7 a rfl,c7 a rfl,c7 a rfl,c7 a rfl⟩
def Un:(∀{e x a y h b c m o p q s t}(f:EX c e x a y h b)(z:b.op=true),BX 118 e a 9 m o p (qM q s t) (.iface 109 (qC 9)))/\(∀{e x a y h b c m o p q s t}(f:EX c e x a y h b)(z:b.op=false)(I:b.un= []),BX 118 e a 9 m o p (qM q s t) (.iface 109 (qC 6)))/\(∀{e x a y h b c m o p q s t}(f:EX c e x a y h b){M E}(z:b.op=false)(I:b.un=M++ [E])(a7:M.length<=1000)(ah:E.length<=100000)(ai:∀r∈E,(YG r).length=r.n/\r.n<=8192)(aj:b.sp<=200000)(ak:200000<b.sp+j5 true E),BX 118 e a 9 m o p (qM q s t) (.iface 109 (qC 10))):=by
 refine⟨@λe x a y h b c m o p q s t f z=>have A:=zC xB;?_,@λe x a y h b c m o p q s t f z I=>?_,@λe x a y h b c m o p q s t f M E z I a7 ah ai aj ak=>have d:=zC xB;?_⟩
 all_goals
  unfold BX;have Q:=zC (UB.start e a (yp 9 m o p (qM q s t)));have a2:=zC f;clear f;refine(vn (n:=6)).1 ?_;refine callsIn_of_wp_marks func118 rfl xB ?_ rfl;simp only[ntmps118,QL,vh,ke,QN,QO,List.push_toArray,QU,vq,vI];gi_wp2_with fail;generalize World.alloc _ _=l at *;have g:=zC (a2.below Q.1)
  first
   |(revert d;intro d;have R:=g.ey.dn.1;rw[I]at R;obtain⟨a8,a9,bl,bn,bp,aa,ba,N,bc,am⟩:=R.topX;have HG:=zC am;obtain⟨gl,ab⟩:∃gl,gl=E.length:=⟨_,rfl⟩;obtain⟨X,an⟩:∃X,X=M.length+1:=⟨_,rfl⟩;rw[<- ab]at N;rw[<- an]at N aa;(have S:=zC (λJ(F:Below _ l J)=>Oi (g.below F) z (zE N F lR) qF qF));rw[<- ab]at HG;(have G:l.cell? (qP a 1)=some (qM (qD a8 0) X a9):=g.ey.blk.cl.2.1.trans (ko some aa)))
   |(revert A;intro A;skip
     obtain⟨K,ao,L,O⟩:∃Y Z k,h.dv= .slice Y Z k:=by
      obtain⟨bd,P,_⟩:=g.out.ey.dn.1;rcases P.2 with ⟨B,_⟩ | ⟨bf,bg,bh,B,_⟩
      ·simp_all
      simp_all
     have S:=zC (λJ(F:Below _ l J)=>zBs (g.below F) z K ao L)
     have G:l.cell? (qP a 1)=some (qM K ao L):=g.ey.blk.cl.2.1.trans (ko some O))
   |(skip
     obtain⟨K,L,O⟩:∃Y k,h.dv= .slice Y 0 k:=by
      obtain⟨bd,P,_⟩:=g.out.ey.dn.1;rw[I]at P;rcases P.2 with ⟨B,_⟩ | ⟨bf,bg,bh,B,_⟩
      ·exact⟨_,_,B⟩
      exact⟨_,_,B⟩
     have S:=zC (λJ(F:Below _ l J)=>zBt (g.below F) z K L)
     have G:l.cell? (qP a 1)=some (qM K 0 L):=g.ey.blk.cl.2.1.trans (ko some O))
  have C:l.cell? _=some (.pointer _):=c8 0 Q.2.1;have a3:=λu v=>cell_regrown G u v
  have T:=λu v=>cell_regrown C u v
  have D:=zC (λu v=>CallsIn.regrown_of (r:=5) (vn.2 ((S _ (below_regrown l u v)).mono (λB w' al=>⟨al.1,al.2▸xe _ _⟩))))
  first
   |(revert d;intro d;clear C G aa an ab ba R N bc am)
   |(clear C G O)
  refine wpIn_region_quiet_below rfl qI qI ?_
  repeat (refine wpQuietIn_step (λ_ _ _ _=>trivial) (λc w=>?_);go_simp;first | (refine w _ ?_;clear w c) | (apply Exists.intro;refine⟨λ_=>?_,w _ ?_⟩;(first | exact D _ _);clear w c))
  refine wpQuietIn_nil ?_;intro _ V;obtain⟨⟨bi,ap⟩,ac⟩:=V;subst ac;have j:=zC (below_regrown l bi ap);clear T a3 D;generalize grow _ ap=W at *
  first | (revert d;intro d;have ad:=zC (g.below j)) | skip
  have H:=zC (Q.below j)
  first
   |(revert d;intro d;skip
     have ae:=zC (HG.kk (l:=YH) (KK.of j) qG (λ_ f=>f));have C:W.cell? _=some (.pointer _):=c8 0 H.2.1;have T:=λu v=>cell_regrown C u v
     have D:=zC (λu v=>CallsIn.regrown_of (r:=5) (vn.2 (Uj true (ae.kk (l:=YH) (KK.of (below_regrown W u v)) qG (λ_ f=>f)).1 ah ai)));rw[show Hu _=2 from rfl]at D;clear j C;gi_wp2_with fail;refine zM 3 qI qI ?_;simp only[vc,vY,vE,vz]
     repeat (refine wpQuietIn_step (λ_ _ _ _=>trivial) (λc w=>?_);go_simp;first | (refine w _ ?_;clear w c) | (apply Exists.intro;refine⟨λ_=>?_,w _ ?_⟩;(first | exact D _ _);clear w c))
     refine wpQuietIn_nil ?_;intro _ V;obtain⟨⟨bj,aq⟩,ac⟩:=V;subst ac;have j:=zC (below_regrown W bj aq);clear T D;generalize grow _ aq=bk at *;have a4:=zC (ad.below j);have af:=zC (H.below j);clear ad H ae j;have ag:=zC (Hi a4 aj ak);gi_wp2_with fail;refine⟨xB,(vn.2 ag).mono ?_⟩;rintro B bq ⟨rfl,ar⟩;have a5:=ar.symm;subst a5;clear ar ag;have RR:=zC af.2.2.2
     have U:=zC (af.fin (row:=yg 0 0 0 qN qN)))
   |(clear j;have RR:=zC H.2.2.2;have U:=zC (H.fin (row:=yg 0 0 0 qN qN)))
  gi_wp2_with (refine zR rfl 81 _ _ rfl _ _ (yg 0 0 0 _ _) 81 rfl rfl RR qI rfl (by simp[Value.oneCell']) ?_);have a6:=kT _ _ _ (yg 0 0 0 qN qN) _ _ RR;obtain⟨au,d,A,av,aw,ax,ay,az,a0,a1⟩:=ob10 a6
  first
   |(revert d;intro d;(exact⟨.tuple #[.agg (yg 0 0 0 qN qN),.iface 109 (qC 10)],by simp[results,go_sem,au,d,A,av,aw,ax,ay,az,a0,a1],rfl,U⟩))
   |(revert A;intro A;(exact⟨_,by simp[results,go_sem,au,d,A,av,aw,ax,ay,az,a0,a1],rfl,U⟩))
def undoO9:=@Un.1
def undoE9:=@Un.2.1
def undoF9:=@Un.2.2
end
attribute [local go_sem] Oper.semAt_some
section
variable {w w':World} {Z:Nat->Prop} {E c:Nat} {x:VX} {M:SS} {K:KX} {kd b0 b1 b2:Int} {ta:Option Addr} {tl tq:Nat} {n m k i p:Nat} {W W2:World} {op:Array Value} {Z1:Nat->Prop} {M2:SS}
def undo9{U g}(l:EX K w Z E c x M)(ap:M.op=false)(cu:M.un=U++ [g])(ei:U.length<=1000/\M.re.length<=1000)(f3:g.length<=100000)(ej:∀b∈g,(YG b).length=b.n/\b.n<=8192)(ek:M.sp+j5 true g<=200000)(b6:∀ee b,g[ee]?=some b->OkX true (ZD g (ee+1) {M with sp:=M.sp+j5 true g}) b):AX K 118 w Z E c 9 b0 b1 b2 (qM ta tl tq) 0 g.length 0 [] [] {ZD g 0 {M with sp:=M.sp+j5 true g} with un:=U,re:=M.re++ [g]}:=by
 unfold AX;obtain⟨f4,cv⟩:∃a,a={ZD g 0 {M with sp:=M.sp+j5 true g} with un:=U,re:=M.re++ [g]}:=⟨_,rfl⟩
 rw[<- cv];obtain⟨gl,af⟩:∃gl,gl=g.length:=⟨_,rfl⟩
 rw[<- af];have e9:=zC cv;have fa:=zC af;clear cv af;have av:=zC (UB.start w E (yp 9 b0 b1 b2 (qM ta tl tq)));have fc:=zC l;obtain⟨Zb,f5⟩:∃Zb:Nat->Prop,Zb=λa=>Z a\/a=w.heap.size:=⟨_,rfl⟩
 have T:=zC (show(∀a,Z a->Zb a)/\Zb w.heap.size/\(∀a,Zb a->Z a\/a=w.heap.size)from by simp_all);clear l f5;refine(vn (n:=6)).1 ?_;refine callsIn_of_wp_marks func118 rfl xB ?_ rfl;simp only[ntmps118,QL,vh,ke,QN,QO,List.push_toArray,QU,vq,vI];gi_wp2_with fail;generalize World.alloc (World.alloc (World.alloc w _) _) _=aq at *
 have a3:=zC (fc.hold av.1 T.1 (λa j=>(T.2.2 a j).imp id (λt=>by
  subst t;refine⟨lR,by have:=av.lt;omega,λbi bj bk r=>?_⟩;rw[av.out.2.1]at r;simp at r
  rw[<- r.2.1];decide)))
 have cb:=a3.ey.dn.1;rw[cu]at cb;obtain⟨el,em,g2,V,X,bl,f6,A,f7,en⟩:=cb.topX;have HG:=zC en;have af:=fa.out;obtain⟨bz,eo⟩:∃bz,bz=U.length+1:=⟨_,rfl⟩
 rw[<- af]at A;rw[<- eo]at A bl;have fd:=zC (λq(ef:qY aq q)=>Oi (a3.below ef) ap (zE A ef lR) qF qF);have a4:=zC af;rw[<- af]at HG;have da:=ei;have aw:aq.cell? (qP E 1)=some (qM (qD el 0) bz em):=a3.ey.blk.cl.2.1.trans (ko some bl);have Y:aq.cell? (qP w.heap.size 0)=some (qO E 0):=c8 0 av.2.1;have cc:=λf h=>cell_regrown aw f h
 have a5:=λf h=>cell_regrown Y f h
 have aa:=zC (λf h=>CallsIn.regrown_of (r:=5) (vn.2 ((fd (grow (redrawn aq f) h) (below_regrown aq f h)).mono (λt w' O=>⟨O.1,O.2▸xe _ _⟩))));clear Y aw bl eo af f6 cb A f7 en;refine wpIn_region_quiet_below rfl qI qI ?_
 repeat (refine wpQuietIn_step (λ_ _ _ _=>trivial) (λK s=>?_);go_simp;first | (refine s _ ?_;clear s K) | (apply Exists.intro;refine⟨λ_=>?_,s _ ?_⟩;(first | exact aa _ _);clear s K))
 refine wpQuietIn_nil ?_;intro _ ab;obtain⟨⟨ep,eq⟩,ad⟩:=ab;subst ad;have m:=zC (below_regrown aq ep eq);clear a5 cc aa;generalize grow (redrawn aq ep) eq=bx at *;have db:=zC (a3.below m);have cd:=zC (av.below m);have ce:=zC (HG.kk (l:=YH) (KK.of m) qG (λ_ l=>l));have Y:bx.cell? (qP w.heap.size 0)=some (qO E 0):=c8 0 cd.2.1;have a5:=λf h=>cell_regrown Y f h
 have aa:=zC (λf h=>CallsIn.regrown_of (r:=5) (vn.2 (Uj true (ce.kk (l:=YH) (KK.of (below_regrown bx f h)) qG (λ_ l=>l)).1 f3 ej)));rw[show Hu (!true)=2 from rfl]at aa;clear m Y;gi_wp2_with fail;refine zM 3 qI qI ?_;simp only[vc,vY,vE,vz]
 repeat (refine wpQuietIn_step (λ_ _ _ _=>trivial) (λK s=>?_);go_simp;first | (refine s _ ?_;clear s K) | (apply Exists.intro;refine⟨λ_=>?_,s _ ?_⟩;(first | exact aa _ _);clear s K))
 refine wpQuietIn_nil ?_;intro _ ab;obtain⟨⟨er,es⟩,ad⟩:=ab;subst ad;have m:=zC (below_regrown bx er es);clear a5 aa;generalize grow (redrawn bx er) es=g0 at *;have bu:=zC (db.below m);have a6:=zC (cd.below m);have dc:=zC (ce.kk (l:=YH) (KK.of m) qG (λ_ l=>l));clear db cd ce m;have SX:=zC (WC bu ek);obtain⟨z,cw⟩:∃z,z={M with sp:=M.sp+j5 true g}:=⟨_,rfl⟩
 rw[<- cw]at b6 SX;have a7:=zC cw;have fe:=zC b6;have ff:=zC cu;have fg:=zC ap;obtain⟨cs,cx⟩:∃cs,cs=j5 true g:=⟨_,rfl⟩
 rw[<- cx]at SX;clear b6 cw cu ap ej HG a3 av ei;simp only[<- cx];clear cx ek;gi_wp2_with fail;refine⟨xB,(vn.2 SX).mono ?_⟩;rintro t ae ⟨rfl,et,bn⟩;have cf:=zC et;have dd:=zC (dc.kk bn qG (λ_ l=>l));have de:=zC ((bn.block w.heap.size (by have:=a6.lt;omega) (.inl T.2.1)).trans a6.2.1);have df:=zC (bn.ty a6.2.2.2 qG);have fh:=zC (((KK.of a6.1).trans bn T.1));have gs:=(qZ.1 df).1;clear et bn SX a6 bu dc;gi_wp2_with fail;refine⟨xB,(backM _ V gl X _).mono ?_⟩;rintro t d ⟨rfl,bp⟩;gi_wp2_with fail;rw[<- bp];have ay:=zC (show qY ae d from by rw[bp];exact bA (xe _ _) _);have dg:=zC (show d.heap[ae.heap.size]?=some (qR #[qM V gl X] 138 (0,0))from by rw[bp];exact xI _ _);have gt:ae.heap.size<d.heap.size:=by rw[bp];simp
 clear bp;have cg:=zC (dd.kk (l:=YH) (KK.of ay) qG (λ_ l=>l));obtain⟨b7,cy,eu⟩:=cg.out.1;rw[<- a4.out]at cy;have fi:=zC cy;have ch:=zC cg.2;have dh:=zC (λk b A=>eu.at k b A);obtain⟨u,f8⟩:∃u:Nat->Prop,u=λa=>Zb a\/a=ae.heap.size\/a=d.heap.size\/a=d.heap.size+1:=⟨_,rfl⟩
 have J:=zC (show(∀a,Zb a->u a)/\u ae.heap.size/\u d.heap.size/\u (d.heap.size+1)/\(∀a,u a->Zb a\/a=ae.heap.size\/a=d.heap.size\/a=d.heap.size+1)from by simp_all);have ci:=zC (cf.ey.zl)
 have fj:=zC (show ∀e H:Obj,e.isCells=false->H.isCells=false->EX K ((d.alloc e).alloc H) u E c x z from λe H ap bw=>by
  have bb:qY d ((d.alloc e).alloc H):=bA (bA (xe _ _) e) H;refine cf.hold (ay.trans (bb.mono qF)) J.1 (λa j=>(J.2.2.2.2 a j).imp id (λO=>?_));have a8:((d.alloc e).alloc H).heap[d.heap.size]?=some e:=(kL _ _ _ qH).trans (World.alloc_heap_new d e);have ag:=(by have di:=World.alloc_heap_new (d.alloc e) H;rwa [kE]at di);rcases O with t | t | t
  ·subst t
   refine⟨lR,qJ,λbi bj bk r=>?_⟩;rw[bb.block _ qF,dg.out]at r;simp at r;rw[<- r.2.1];decide
  ·subst t
   refine⟨qF,qJ,λbi bj bk r=>?_⟩;rw[a8]at r;simp at r;subst r;cases ap
  subst t;refine⟨qF,qH,λbi bj bk r=>?_⟩;rw[ag]at r;simp at r
  subst r;cases bw)
 have dj:=zC (show ∀(b3:SS)(W:qS)(e:Obj),e.isCells=false->d.heap.size+1<W.heap.size->((∃L,EX K W u E c L b3)/\KK YH Zb d W/\∃e,W.heap[d.heap.size+1]?=some e/\e.isCells=false)->((∃L,EX K (W.putObj (d.heap.size+1) e) u E c L b3)/\KK YH Zb d (W.putObj (d.heap.size+1) e)/\∃H,(W.putObj (d.heap.size+1) e).heap[d.heap.size+1]?=some H/\H.isCells=false)from by
  rintro b3 W e az Q ⟨⟨L,C⟩,o,bq,am,an⟩;have ah:KA W (W.putObj (d.heap.size+1) e):=KA.put am an;have ai:(W.putObj (d.heap.size+1) e).heap[d.heap.size+1]?=some e:=World.putObj_heap_same Q;refine⟨⟨L,C.turn ah (λa j bi bj bk r=>?_)⟩,⟨ah.os.trans o.os,ah.tape.trans o.tape,ah.output.trans o.output,vC o.size ah.size,λa j f2=>(World.putObj_heap_other qF).trans (o.block a j f2)⟩,e,ai,az⟩;by_cases t:a=d.heap.size+1
  ·subst t
   rw[ai]at r;simp at r;subst r;cases az
  exact(World.putObj_heap_other t).symm)
 clear f8 cf dd eu cy cg
 refine IT (F:=Fence.wide) rfl qF (gf:=167) rfl xB (enters_of func167 qI rfl) (Tf:=λq:Fin gl=>#[qC (q.val:Nat),rcV b7 q.val]) (Kp:=KpB ae.heap.size (qM V gl X)) (S:=λeg=>eg=Hm gl gl) (OK:=λP q=>q.val+P.length+1=gl)
  ?seq (λb4 b5=>⟨b5.1.trans b4.1,λa j=>(b5.2 a j).trans (b4.2 a j)⟩) (λW e _=>⟨World.putObj_heap_other qF,λa j=>World.putObj_heap_other (by have:=ci a (ch a j);omega)⟩) (λ_=>rfl)
  (λP W=>(∃L,EX K W u E c L (ZD g (gl-P.length) z))/\KK YH Zb d W/\∃e,W.heap[d.heap.size+1]?=some e/\e.isCells=false)
  (λP q ct W=>∃N b I B v y D G,ct={tmps:=#[Value.pointer (qD E 0),Value.agg (yp 9 b0 b1 b2 (qM ta tl tq)),Value.pointer (qD w.heap.size 0),Value.pointer (qD (w.heap.size+1) 0),Value.pointer (qD (w.heap.size+1+1) 0),Value.nilIface,Value.slice V gl X,Value.nilIface,undef,Value.pointer (qD N 0),Value.tuple #[Value.slice V gl X,Value.nilIface],Value.pointer (qD E 0),Value.pointer (qD E 0),Value.pointer (qD E 1),Value.pointer (qD E 0),Value.pointer (qD E 0),Value.pointer (qD E 1),Value.pointer (qD E 1),Value.pointer (qD E 1),Value.slice (qD el 0) bz em,Value.tuple #[Value.slice V gl X,Value.nilIface],Value.slice V gl X,Value.nilIface,Value.nilIface,Value.bool true,Value.pointer (qD E 0),Value.slice V gl X,Value.int .i64 (cs:Nat),Value.nilIface,Value.nilIface,Value.bool false,undef,undef,Value.slice V gl X,Value.func (.func 167) #[] #[qO ae.heap.size 0],Value.int .i64 (q.val:Nat),rcV b7 q.val,undef,undef,undef,undef,undef,undef,undef,undef,undef,undef,undef,undef,undef,undef,undef,undef,undef,undef,undef,undef,undef,undef,undef,undef,undef,undef],defers:=[]}/\(∃L,EX K W u E c L (ZD g (gl-P.length) z))/\KK YH Zb d W/\(∃e,W.heap[d.heap.size+1]?=some e/\e.isCells=false)/\d.heap.size+2<=N/\g[q.val]?=some b/\W.heap[N]?=some (qR #[qC (Hu b.put),qC b.off,qM I (YG b).length B,qM v b.was.length y,qM D b.is.length G] 232 (0,0))/\TX d Zb (qM I (YG b).length B) (YG b)/\zS d 0 (qM v b.was.length y) b.was)
  ?tn ?ax ?st ?assign ?body ?done
 case seq=>
  intro R f0 W al gy f1;refine(backIn Fence.wide 5 xB rfl qF R ae.heap.size gl (qM V gl X) b7 (by have:=a4.out;omega) (λk o=>?_) f0 (λ_ _=>False) (λP x S g1 b6=>?_) W ((al.block _ qF).trans dg) (zE fi al lR) f1).mono ?_
  ·obtain⟨b,A⟩:∃b,g[k]?=some b:=⟨_,xw (by rw[<- a4.out];omega)⟩
   obtain⟨I,B,v,y,D,G,Y,aw,b8,cz,c0,_⟩:=dh.out k b A
   simp_all
  ·simp_all
  simp
 case tn=>exact λP W e az Q l=>dj _ W e az Q l
 case ax=>
  rintro P q ct W e az Q ⟨N,b,I,B,v,y,D,G,bl,C,o,c1,ev,A,a2,b4,b5⟩;obtain⟨f9,ga,gb⟩:=dj _ W e az Q ⟨C,o,c1⟩;exact⟨N,b,I,B,v,y,D,G,bl,f9,ga,gb,ev,A,(World.putObj_heap_other qF).trans a2,b4,b5⟩
 case st=>
  intro e H ap bw;refine⟨⟨x,?_⟩,KK.of (bA (bA (xe _ _) e) H),H,?_,bw⟩
  ·rw[show ZD g (gl-([]:List (Fin gl)).length) z=z from by unfold ZD;rw[vx (by rw[<- a4.out];simp)];rfl]
   exact fj e H ap bw
  have di:=World.alloc_heap_new (d.alloc e) H;simp_all
 case assign=>
  intro R P q W gz Q ⟨⟨L,C⟩,o,bq,am,an⟩ c1 s;obtain⟨b,A⟩:∃b,g[q.val]?=some b:=⟨_,xw (by rw[<- a4.out];exact q.2)⟩
  obtain⟨I,B,v,y,D,G,Y,aw,b8,cz,c0,br,al,gc⟩:=dh q.val b A;have cj:rcV b7 q.val= .agg #[qC (Hu b.put),qC b.off,qM I (YG b).length B,qM v b.was.length y,qM D b.is.length G]:=(by simp[rcV,Y,aw,b8,cz,c0]);have aj:=bA (xe W.heap.size W) (qR #[qC (Hu b.put),qC b.off,qM I (YG b).length B,qM v b.was.length y,qM D b.is.length G] 232);have gu:(W.alloc (qR #[qC (Hu b.put),qC b.off,qM I (YG b).length B,qM v b.was.length y,qM D b.is.length G] 232)).heap.size=W.heap.size+1:=qH;have dk:=s _ (W.alloc (qR #[qC (Hu b.put),qC b.off,qM I (YG b).length B,qM v b.was.length y,qM D b.is.length G] 232)) (aj.block _ qF) (aj.block _ qF) ⟨aj.block _ qF,λa j=>aj.block a (by have:=ci a (ch a j);omega)⟩ ⟨W.heap.size,b,I,B,v,y,D,G,rfl,⟨L,C.below aj⟩,o.trans (KK.of aj) (λ_ l=>l),⟨bq,(aj.block _ qF).trans am,an⟩,qF,A,xI _ _,br,al⟩;rw[cj]at dk;simp only[cj];clear C Y aw b8 cz c0 br al gc cj aj o;gi_wp2;exact dk
 case body=>
  rintro R P q ct W Q c1 ⟨N,b,I,B,v,y,D,G,rfl,⟨L,C⟩,o,⟨bq,am,an⟩,ev,A,a2,br,al⟩;have a9:=zC (fe q.val b A);have dl:gl-P.length=q.val+1:=qF
  have fk:=zC (show ZD g (gl-(P++ [q]).length) z=WQ true (ZD g (q.val+1) z) b from by
   rw[xg,Qs,show gl-(P.length+1)=q.val by omega];exact Xu A)
  rw[dl]at C;rw[fk.out];obtain⟨a0,c2⟩:∃a0,a0=ZD g (q.val+1) z:=⟨_,rfl⟩
  rw[<- c2]at C a9;rw[<- c2];have W8:=zC ((o.block _ qF (.inl T.2.1)).trans ((ay.block _ qF).trans de));have ck:=br.kk o J.1;have dm:=yY al o (.inl qG);obtain⟨p,bs⟩:∃p,p=b.put:=⟨_,rfl⟩
  obtain⟨kd,c3⟩:∃kd,kd=Hu p:=⟨_,rfl⟩
  obtain⟨ac,bt⟩:∃ac,ac=b.off:=⟨_,rfl⟩
  obtain⟨a8,ai⟩:∃n,n=(YG b).length:=⟨_,rfl⟩
  obtain⟨ag,c4⟩:∃n,n=b.was.length:=⟨_,rfl⟩
  obtain⟨b9,ew⟩:∃n,n=b.is.length:=⟨_,rfl⟩
  rw[<- bs,<- c3,<- bt,<- ai,<- c4,<- ew]at a2;rw[<- ai]at ck;have dn:zS W 0 (qM v ag y) b.was:=(by rw[c4];exact dm);have ao:=zC (show W.heap[N]?=some (qR (PD kd ac I v D a8 ag b9 B y G) 232 (0,0))from a2);have fl:=(qZ.1 a2).1;have dp:=zC (Ui p);rw[<- c3]at dp;have gv:=λw=>(Tryz.fldX p w).2
  have bv:=zC (λS(a1:qY W S)=>IL (a2:=v) (a3:=D) (l2:=ag) (l3:=b9) (k1:=B) (k2:=y) (k3:=G) (off:=ac) (!p) kd (C.below a1) (by rw[<- ai];exact ck.kk (l:=[]) (KK.of a1) (λ_ l=>l)) (by have O:=a9.1;rw[bs,bt];simpa using O));rw[<- ai]at bv;have cl:=zC (λS W2 a1(o:KK IK u S W2)mv'(C:EX K W2 u E c {L with mv:=mv'} (Wl (!p) a0 ac (YG b)))=>Oj (ks:=b.was) C (by have O:=a9.2.2.2.1;rw[bs,bt];simpa using O) (yY (yY dn (KK.of (l:=IK) (Z:=u) a1) (.inl qG)) o (.inl qG)) a9.2.2.2.2)
  have dq:=zC (show {Wl (!p) a0 ac (YG b)with ms:=Zi ((Wl (!p) a0 ac (YG b)).ms.map (mov (YP b.was)))}=WQ true a0 b from by
   rw[<- zAb a9.out,bs,bt]
   simp[Fm])
  have fm:=zC o
  have fn:=zC (show ∀a,u a->a<W.heap.size from λa j=>by
   rcases J.out.2.2.2.2 a j with O | O | O | O
   ·have:=ci a O;omega
   ·omega
   ·omega
   omega)
  have dr:=zC (And.intro am an);obtain⟨eh,ex⟩:∃eh,eh=YG b:=⟨_,rfl⟩
  rw[<- ex]at bv cl dq;have ak:W.cell? (qP w.heap.size 0)=some (qO E 0):=c8 0 W8;have ds:W.cell? (qP N 0)=some (qC kd):=c8 0 ao;have dt:W.cell? (qP N 1)=some (qC ac):=c8 1 ao;have du:W.cell? (qP N 2)=some (qM I a8 B):=c8 2 ao;have ba:W.cell? (qP N 3)=some (qM v ag y):=c8 3 ao;have dv:W.cell? (qP N 4)=some (qM D b9 G):=c8 4 ao;have bc:=λf h=>cell_regrown ak f h
  have a5:=λf h=>cell_regrown ds f h
  have cc:=λf h=>cell_regrown dt f h
  have fo:=λf h=>cell_regrown du f h
  have cm:=λf h=>cell_regrown ba f h
  have fp:=λf h=>cell_regrown dv f h
  have aa:=zC (λf h=>CallsIn.regrown_of (F:=Fence.wide) (r:=3) (w:=W) (d:=f) (os:=h) (vn.2 (dp ac I v D a8 ag b9 B y G (grow (redrawn W f) h))));clear C a2 ak ds dt du ba dv o br al ck dm dn bs c3 bt ai c4 ew A c2 dl am an ex;gi_wp2_with fail;refine YW R 5 qI (WF qI) qI ?_;simp only[vc,vY,vE,vz]
  repeat (refine wpQuietIn_step (λ_ _ _ _=>trivial) (λK s=>?_);go_simp;first | (refine s _ ?_;clear s K) | (apply Exists.intro;refine⟨λ_=>?_,s _ ?_⟩;(first | exact aa _ _);clear s K))
  refine wpQuietIn_nil ?_;intro _ ab;obtain⟨⟨ey,ez⟩,ad⟩:=ab;subst ad;have m:=zC (below_regrown W ey ez);clear bc a5 cc fo cm fp aa;generalize grow (redrawn W ey) ez=S at *;have gw:=m.size;have dw:=zC ((m.block N fl).trans ao);have dx:=zC ((m.block w.heap.size qF).trans W8);have dy:=zC (bv S m);clear ao bv W8;gi_wp2_with fail;refine⟨xB,(vn.2 dy).mono ?_⟩;rintro t W2 ⟨rfl,gd,e0,ca⟩;have fq:=zC (ca.ty dw qG);have fr:=zC ((ca.block w.heap.size qF (.inl (J.1 _ T.2.1))).trans dx);have dz:=zC e0;have cn:=zC ca;have co:=m;clear e0 ca dy dw dx m;gi_wp2_with fail;have ak:W2.cell? (qP w.heap.size 0)=some (qO E 0):=c8 0 fr;have ba:W2.cell? (qP N 3)=some (qM v ag y):=c8 3 fq;have bc:=λf h=>cell_regrown ak f h
  have cm:=λf h=>cell_regrown ba f h
  clear ak ba;refine YW R 5 qI (WF qI) qI ?_;simp only[vc,vY,vE,vz]
  repeat (refine wpQuietIn_step (λ_ _ _ _=>trivial) (λK s=>?_);go_simp;first | (refine s _ ?_;clear s K))
  refine wpQuietIn_nil ?_;intro _ ab;obtain⟨⟨e1,e2⟩,ad⟩:=ab;subst ad;have m:=zC (below_regrown W2 e1 e2);clear bc cm;generalize grow (redrawn W2 e1) e2=ed at *;have d0:=zC (cl S ed co (cn.trans (KK.of m) (λ_ l=>l)) gd (dz.below m));have K5:=zC (show KK IK u W ed from((KK.of co).trans cn (λ_ l=>l)).trans (KK.of m) (λ_ l=>l));clear m dz cn cl co;gi_wp2_with fail;refine⟨xB,(vn.2 d0).mono ?_⟩;rintro t e3 ⟨rfl,g3,ar,au⟩;rw[dq.out]at ar;have d1:=zC (show KK IK u W e3 from K5.trans au (λ_ l=>l));have cp:=zC ar;clear ar au d0 K5;gi_wp2_with fail;have bd:∀a,u a->e3.heap[a]? =W.heap[a]?:=λa j=>d1.block a (fn a j) (.inl j)
  refine⟨bd _ J.2.2.1,(bd _ J.2.2.2.1).trans (Qh Q),⟨bd _ J.2.1,λa j=>bd a (J.1 a (ch a j))⟩,⟨_,cp⟩,fm.trans (d1.weak qG) J.1,bq,(bd _ J.2.2.2.1).trans dr.1,dr.2⟩
 rintro eg W e4 ⟨⟨L,C⟩,o,bq,am,an⟩ c5;rw[e4,Fe lR,kh]at C;obtain⟨e5,c6,ge⟩:=Yu true (g.drop 0).reverse z;have d2:=Ul true (g.drop 0).reverse z;have d3:=zC (λS(a1:qY W S)=>shiftU (U:=U) (g:=g) (C.below a1) (by show(ZD g 0 z).op=false;unfold ZD;rw[d2,a7.out];exact fg) (by show(ZD g 0 z).un=_;unfold ZD;rw[e5,a7.out];exact ff) ⟨da.1,by show(ZD g 0 z).re.length<=_;unfold ZD;rw[c6,a7.out];exact da.2⟩)
 have d4:=zC (show {ZD g 0 z with un:=U,re:=(ZD g 0 z).re++ [g]}=f4 from by
  rw[show(ZD g 0 z).re=M.re from by unfold ZD;rw[c6,a7.out],e9.out,a7.out])
 have d5:=zC (show W.heap[w.heap.size]?=some (qR #[qO E 0] 107 (0,0))from(o.block _ qF (.inl T.2.1)).trans ((ay.block _ qF).trans de));have d6:=zC (show W.heap[w.heap.size+1+1]?=some (qR (yg 0 0 0 qN qN) 81 (0,0))from o.ty ((ay.block _ qF).trans df) qG);have d7:=zC (show KK YH Z w W from(fh.trans (KK.of (Z:=Z) ay) (λ_ l=>l)).trans o T.1);have d8:=zC c5;have fs:d.heap.size<W.heap.size:=(qZ.1 c5).1;have ak:W.cell? (qP w.heap.size 0)=some (qO E 0):=c8 0 d5;have bc:=λf h=>cell_regrown ak f h
 clear C o am an c5 e5 c6 ge d2 ak e4;gi_wp2_with fail;refine zM 10 qI qI ?_;simp only[vc,vY,vE,vz]
 repeat (refine wpQuietIn_step (λ_ _ _ _=>trivial) (λK s=>?_);go_simp;first | (refine s _ ?_;clear s K))
 refine wpQuietIn_nil ?_;intro _ ab;obtain⟨⟨e6,e7⟩,ad⟩:=ab;subst ad;have m:=zC (below_regrown W e6 e7);clear bc;generalize grow (redrawn W e6) e7=S at *;have d9:=zC (d3 S m);have gx:=m.size;have ea:=zC ((m.block _ qF).trans d6);have eb:=zC ((m.block _ fs).trans d8);have ec:=zC (d7.trans (KK.of (Z:=Z) m) (λ_ l=>l));clear m d3 d6 d8 d7 d5;gi_wp2_with fail;refine⟨xB,(vn.2 d9).mono ?_⟩;rintro t W2 ⟨rfl,gg,b8,ar,au,e8⟩;rw[d4.out]at ar;have bu:=zC ar;have cq:=zC (au.ty ea qG);have ft:=zC ((au.block _ qF (.inl J.2.2.1)).trans eb);have bf:=zC (ec.trans au (λa j=>J.1 a (T.1 a j)));have fu:=zC (λa(j:Z a)=>e8 a (J.1 a (T.1 a j)));clear ar au e8 d9 ea eb ec d4;gi_wp2_with (refine zR rfl 81 _ _ rfl (w.heap.size+1+1) _ (yg 0 (gl:Nat) 0 qN qN) 81 rfl rfl cq qI rfl (by simp[yg,Value.oneCell']) ?_);have fv:=kT W2 (w.heap.size+1+1) _ (yg 0 (gl:Nat) 0 qN qN) _ _ cq;have fw:=zC (bu.keep (KN.row (row:=yg 0 (gl:Nat) 0 qN qN) cq qG));have cr:=(vG W2 (w.heap.size+1+1) d.heap.size (yg 0 (gl:Nat) 0 qN qN) qF).trans ft;have bg:=zC (show KK YH Z w (W2.setRow (w.heap.size+1+1) (yg 0 (gl:Nat) 0 qN qN))from⟨bf.os,bf.tape,bf.output,by simp;exact bf.size,λa j Q=>(vG W2 _ a _ qF).trans (bf.block a j Q)⟩);generalize W2.setRow (w.heap.size+1+1) _=bh at *;refine⟨qH,.inl ⟨_,_,rfl,run_takeDeferred cr,?_⟩⟩;have ah:KA bh (bh.putObj d.heap.size (.deferred none)):=KA.put cr rfl;have fx:d.heap.size<bh.heap.size:=(qZ.1 cr).1;have fy:(bh.putObj d.heap.size (.deferred none)).heap[w.heap.size+1+1]?=some (qR (yg 0 (gl:Nat) 0 qN qN) 81 (0,0)):=(World.putObj_heap_other qF).trans fv
 have cp:=zC (fw.turn ah (λa j bi bj bk r=>by
  by_cases t:a=d.heap.size
  ·subst t
   rw[World.putObj_heap_same fx]at r;simp at r
  exact(World.putObj_heap_other t).symm))
 have fz:=zC (show KK YH Z w (bh.putObj d.heap.size (.deferred none))from⟨bg.os,bg.tape,bg.output,vC bg.size ah.size,λa j Q=>(World.putObj_heap_other qF).trans (bg.block a j Q)⟩);obtain⟨gh,gi,gj,gk,gm,gn,go,gp,gq,gr⟩:=ob10 fy;exact⟨.tuple #[.agg (yg 0 (gl:Nat) 0 qN qN),.nilIface],by simp[results,results118,go_sem,gh,gi,gj,gk,gm,gn,go,gp,gq,gr,yg],none,0,0,none,0,0,gg,_,rfl,⟨xR _ _ _ _,λa j=>by simp[Value.ownBlock]at j⟩,xR _ _ _ _,cp,fz,fu⟩
end
end
