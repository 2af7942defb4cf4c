import Derived.Test.YtljnflecikholaaGreatDoorMq18
import Derived.Test.YtljnflecikholaaGreatDoorMq17
set_option linter.all false
set_option maxRecDepth 100000
set_option maxHeartbeats 8000000
namespace Go.Proofs.YtljnflecikholaaGreatDoor
open Go Go.RowKit Go.Proofs.Tryz
def tellGpN(ao)(n cap)(lo hi)(w):
  Calls prog 54 #[.agg #[qM ao n cap,qC lo,qC hi]] w λb c=>b=qQ (.agg #[qM ao n cap,qC lo,qC hi])/\qY w c:=by
 have a:=zC (((xe _ w).alloc lR (qR #[qM ao n cap,qC lo,qC hi] 100)).alloc qH (qR #[qM ao n cap,qC lo,qC hi] 86));go_enter func54,ntmps54;go_wp2;refine vg (by simp[results,go_sem]) rfl ⟨rfl,a⟩
def Tryz.infoGP:(prog.info? 86).map (λa=>(a.zero,a.size,a.bytes))=some (some (.agg #[qN,qC 0,qC 0]),3,40):=qI
def Hf{c:qS}{d e f:Nat}{v n xs}(g:c.ownsRow d e f v n xs):∃b a,v= .slice b n a:=by
 rcases g.2 with ⟨rfl,h⟩ | ⟨i,a,j,rfl,_⟩
 ·simp_all
 simp
def J1{c f g:qS}{r}(a:c.grownBy f r)(b:Below c.heap.size f g):c.grownBy g r:=
 ⟨b.os.trans a.os,b.tape.trans a.tape,b.output.trans a.output,vC a.size b.size,λd e h=>(b.block d e).trans (a.block d e h)⟩
def Ss{e b:qS}{g}(a:e.grownBy b (some g))(j)(v):e.grownBy (b.setCell (qP g j) v) (some g):=
 ⟨a.os,a.tape,a.output,by simpa using a.size,λc f d=>(xj b _ c v (λh=>d (by simp[h]))).trans (a.block c f d)⟩
def Su(r g l b c a E F:Nat)(vs)(gs)(w)(G:RC w r 0 (qM (qD g 0) b l) c a)(s:yt 100 w E F (qM (qD g 0) b l) vs gs)(x:gs.length=b)(K:1<=b)(H:b<=1048576)(I:c<=a)(J:a<=b):
  Calls prog 52 #[qO r 0,qC 0,qC (b-(a-c))] w λv d=>∃p,v=qQ p/\d.ownsRow w.heap.size 100 3 p (c+(b-a)) (zU (JF c a vs) (JF c a gs))/\qY w d:=by
 have m:=s.row;rw[x]at m;have k:=(m.lt g rfl).2;have n:=s.len
 have t:b<=l/\l<=maxLen:=by
  rcases m.2 with ⟨y,_⟩ | ⟨L,M,N,y,_,_,O,P,_⟩
  ·cases y
  simp_all
 have u:=Wt (gs:=gs) s.nest.one;have o:(zU vs gs).length=b*3:=by rw[yx n,x]
 have A:∀f e,(zU vs gs)[f]?=some e->w.cell? (qP g f)=some e:=λf e h=>by
  rw[m.cellAt f (by have:=(xp.1 h).1;omega)];exact h
 have B:∀d i,qY w d->U7 3 d (qM (qD g (0*3)) (c-0) i) (c-0) ((zU vs gs).take (c*3)):=λd i j=>by
  refine⟨by rw[xi,o];omega,λe q=>u e (vO q),.inr ⟨g,0*3,i,rfl,ve k j.size,λf e h=>?_⟩⟩;rw[(j.cell k),show 0*3+f=f by omega];exact A f e (by rw[vf]at h;split at h;exact h;cases h)
 have C:∀d i,qY w d->U7 3 d (qM (qD g (a*3)) (b-a) i) (b-a) ((zU vs gs).drop (a*3)):=λd i j=>by
  refine⟨by rw[xz,o];omega,λe q=>u e (vS q),.inr ⟨g,a*3,i,rfl,ve k j.size,λf e h=>?_⟩⟩;rw[(j.cell k)]
  simp_all
 have D:=MQ r 0 g l b ((zU vs gs).take (c*3)) ((zU vs gs).drop (a*3)) c a 0 (b-(a-c)) 0 c a b w G k I J H t.1 t.2 qF qF qF qF qF qF qF qF qF qF B C (by rw[xi,o];omega) (by rw[xz,o];omega);rw[show(b-(a-c))=((b-(a-c):Nat):Int)by omega];refine Calls.mono (D) ?_;rintro v d ⟨p,rfl,z,j⟩;refine⟨p,rfl,?_,j⟩;rw[<- Pv n c qF,<- Pw n a qF,<- yy (by simp[n])]at z;exact z
def tellL(lo hi c g cap n a b)(sv)(vs)(gs)(rn)(st)(w)(o:jQ w lo hi c (qM (qD g 0) n cap) sv vs gs a b rn st)(bj:gs.length=n)(C:1<=n)(D:n<=1048576)(aa:a<=b)(ab:b<=n)(dk:hi<=w.heap.size)(dl:lo<=hi)(cq:1<=a+(n-b)):
  Calls prog 24 #[qO c 0] w λK L=>∃bi,K=qQ (.agg #[bi,sv])/\(yt 86 L lo L.heap.size bi (JF a b vs) (JF a b gs)/\Zr L lo sv st/\bel L.heap.size sv)/\qY w L:=by
 obtain⟨cr,cs,ct,cu,cv⟩:=vw Tryz.infoGP;have c0:=(qZ.1 o.blk).1;obtain⟨u,x,cw⟩:=ju o.starts;generalize dj:st.length=r at *;subst cw;have ay:w.cell? (qP c 0)=some (qM (qD g 0) n cap):=by rw[xF _ _ 0 _ _ _ o.blk];rfl
 have ad:w.cell? (qP c 1)=some (qC a):=by rw[xF _ _ 1 _ _ _ o.blk];rfl
 have T:w.cell? (qP c 2)=some (qC b):=by rw[xF _ _ 2 _ _ _ o.blk];rfl
 have bn:w.cell? (qP c 4)=some (qM u r x):=by rw[xF _ _ 4 _ _ _ o.blk];rfl
 have H:=zC o;have az:=zC (show RC w c 0 _ a b from⟨ay,ad,T⟩);have y:=zC bj;clear o bj ay ad T;go_enter func24,ntmps24;go_upto_region 2 with fail;have U:=zC (((xe _ w).alloc lR (qR #[qN,qN] 28)).alloc qH (qR #[qN,qM u r x] 28));have bp:=zC (show D2 ((w.alloc _).alloc (qR #[qN,qM u r x] 28)) _ qN qN 28 from(kL _ _ _ qH).trans (xI _ _));have a0:=zC ((by have I:=D2.new (w.alloc (qR #[qN,qN] 28)) qN (qM u r x) 28;rw[kE]at I;exact I));have c1:((w.alloc (qR #[qN,qN] 28)).alloc (qR #[qN,qM u r x] 28)).heap.size=w.heap.size+2:=qH
 generalize (w.alloc _).alloc _=A at *;have z:=zC (H.rows.frame (λd _ f=>U.block d qF));have ae:=zC (az.below U lR);have a1:=zC (λap Z=>Yd c 0 _ n cap a b ap (ae.same Z) qF qF qF qF);have af:=zC (λap Z=>Su c g cap n a b lo hi vs gs ap (ae.same Z) (z.frame (λd _ _=>by rw[Z])) y C D aa ab);obtain⟨h,av⟩:∃h,h=a+(n-b):=⟨_,rfl⟩
 have HM:=zC av;have c2:h<=1048576:=qF
 rw[<- av]at af cq;generalize bd:JF a b vs=k at *;generalize bf:JF a b gs=l at *;have ag:=zC bd;have V:=zC bf;clear bd bf av bn;go_cut [18,19,20]from 11 to 20 (λcn co cp wc=>∃M N,cn= .slice M h N/\co=qC h/\cp=qC 0/\wc.ownsRow A.heap.size 100 3 (qM M h N) h (zU k l)/\qY A wc)
 case first=>
  go_region_with (first
   |(go_at_call 53;refine(a1 _ (by exact rfl)).mono ?_;rintro K dm ⟨rfl,nq,rfl⟩)
   |(go_at_call 52;refine(af _ (by exact rfl)).mono ?_;rintro K bk ⟨dn,rfl,aw,E⟩;obtain⟨M,N,rfl⟩:=Hf aw;have bq:=zC (show qY A bk from⟨E.os,E.tape,E.output,E.size,E.block⟩);have br:=zC (show bk.ownsRow A.heap.size _ _ _ _ _ from aw);clear aw E))
  all_goals (go_wp2_with fail;go_meet;exact⟨M,N,rfl,rfl,rfl,br,bq⟩)
 obtain⟨M,N,rfl,rfl,rfl,F,ac⟩:=hcut;rcases F.2 with ⟨_,d⟩ | ⟨ax,dp,dq,d,dr,_,ad,T,_⟩
 ·omega
 simp at d;obtain⟨rfl,rfl⟩:=d;have ah:l.length=h:=by rw[<- V.out,Xy aa (by rw[y.out];exact ab),y.out,<- HM.out]
 have ai:k.length=h:=by rw[<- ag.out,Xy aa (by rw[z.out.len,y.out];exact ab),z.out.len,y.out,<- HM.out]
 have c3:=(F.lt ax rfl).2
 have bs:=zC (λe(aq:e<h)=>(show ∃m i,k[e]?=some m/\l[e]?=some i/\wc.cell? (qP ax (e*3))=some m/\wc.cell? _=some (.int _ i.lo)/\wc.cell? _=some (.int _ i.hi)from by
  have p:k[e]?=some (k[e]'qF):=(by simp[ai,aq]);have q:l[e]?=some (l[e]'qF):=(by simp[ah,aq]);refine⟨_,_,p,q,?_,?_,?_⟩
  ·have:=F.cellAt (e*3+0) qF;rw[ZV p q qF]at this;exact this
  ·have:=F.cellAt (e*3+1) qF;rw[ZV p q qF]at this;exact this
  have:=F.cellAt (e*3+2) qF;rw[ZV p q qF]at this;exact this))
 have a2:=zC (show zd A lo hi k (l.map _)from by rw[<- ag.out,<- V.out,SD];exact z.nest.cut aa (by rw[z.out.len,y.out];exact ab))
 have bt:=zC (fun(e:Nat) m i (O:k[e]?=some m) (P:l[e]?=some i)=>(show ∃s B t,m= .slice s B t from by
  obtain⟨s,t,K⟩:=yw (a2.own e m i.cells O (by simp[P]))
  simp_all))
 have c4:=ac.size;have bu:=zC (a0.below ac qF);have aj:=zC ac;have ak:=zC ah;have a3:=zC ai;unfold maxLen at T;have a4:=zC H.sbl;have bv:=zC (Zg H.starts H.sbl (λd _ f=>U.block d qF));clear F ac ah ai a0 az ae a1 af H z;go_wp2_with fail
 go_loopw [20] (λar wr=>∃e:Nat,e<=h/\ar=qC e/\wc.grownBy wr (some (w.heap.size+1))/\∃au,D2 wr (w.heap.size+1) au (qM u r x) 28/\wr.ownsRow wc.heap.size 86 3 au e (zU (k.take e) (l.take e)))
  (λar _=>h-(intOf ar).toNat)
 case atStart=>exact⟨0,xK _,rfl,yT _ _,_,bu,by simpa[zU]using xR _ _ _ _⟩
 obtain⟨e,aq,rfl,j,au,Q,R⟩:=hrel;have bw:=j.size;have GB:=zC j;have bx:=zC Q;have RR:=zC R;have bz:=Q.c.1;have b0:=Q.c.2;have c5:=zC (λd f=>(R.lt d f));by_cases cl:e<h
 ·obtain⟨m,i,O,P,bl,p,q⟩:=bs e cl
  obtain⟨s,B,t,rfl⟩:=bt e m i O P;have al:some ax≠some (w.heap.size+1):=(by simp only[ne_eq,xE];omega);have b1:=j.cell bl al;have b2:=j.cell p al;have b3:=j.cell q al;have b4:(e:Int)<h:=qF;have b5:=zC O;have b6:=zC P;generalize bg:i.lo=X at *;generalize bh:i.hi=Y at *;have b7:=zC bg;have b8:=zC bh;clear j Q R bl p q O P bg bh;go_upto_region 5 with fail;have am:=zC ((xe _ wr).alloc lR (qR #[qM s B t,qC X,qC Y] 100));have b9:=(Q3.new wr (qM s B t) (qC X) (qC Y) 100).c;have c6:(wr.alloc (qR #[qM s B t,qC X,qC Y] 100)).heap.size=wr.heap.size+1:=qH;generalize wr.alloc _=cm at *;obtain⟨ds,dt,du⟩:=b9;have ca:w.heap.size+1<wc.heap.size:=qF;have a5:=zC (bx.below am qF);have da:=a5.c.1;have cb:=zC (zE RR am lR);have cc:=zC (J1 GB (am.mono bw));clear b1 b2 b3 bz b0
  go_region_law (first
   |(refine step_append_lies _ rfl _ _ 25 rfl _ 86 cr _ 3 40 underlying25 cs ct cu cv rfl qG _ _ _ rfl ((a7.alloc _)) _ 1 1 _ rfl rfl (zV S _ _) (by simp[Value.oneCell']) qF qK qF qJ (S.heap.size+1) qH ?_;intro cj ck a9 ba bc _ _;have an:=((xe _ S).alloc qF _).trans (Below.grown (xe _ _) bc qJ (λd f=>(a7.lt d f).1));have ao:=zC (a6.below an ca);have db:=ao.c.1;have dc:=ao.fz 0;have cd:=zC (J1 cf an);have ce:=zC ba;clear ba bc an)
   |(go_simp;go_wp2_with (go_at_call 54;refine(tellGpN s B t X Y _).mono ?_;rintro K S ⟨rfl,G⟩;have J:qY cm S:=(⟨G.os,G.tape,G.output,G.size,G.block⟩);have dd:=J.size;have de:w.heap.size+1<S.heap.size:=qF;have a6:=zC (a5.below J qF);have df:=a6.c.1;have a7:=zC (zE cb J lR);have cf:=zC (J1 cc (J.mono qF));clear G J)))
  all_goals (
   go_wp2_with fail;go_roundw
   case rel=>
    refine⟨e+1,qF,qL,Ss cd 0 _,_,xN a9 _ 0 _ _ _ ao,?_⟩
    have I:a9.ownsRow wc.heap.size 86 3 (qM (qD cj 0) (e+1) ck) (e+1) (zU (k.take (e+1)) (l.take (e+1))):=by
     rw[vH,vH,b5.out,b6.out,QD,QD,yy (by simp[ak.out,a3.out])];simpa[zU,b7.out,b8.out]using ce.out
    refine zD I λd f=>?_
    have dg:=(I.lt d f).1;exact xj _ _ _ _ (by show d≠w.heap.size+1;omega)
   simp[intOf];omega)
 obtain rfl:e=h:=qF
 have b4:¬ (e:Int)<e:=qF
 have W:=zC (show D2 wr w.heap.size qN qN 28 from(j.block w.heap.size qF qH).trans (bp.below aj qF));have cg:=W.c.1;have ch:=W.c.2;have dh:=W.fz 0;have di:=W.fz 1;have a8:=zC (λd(C:lo<=d)(D:d<hi)=>(show wr.heap[d]? =A.heap[d]? from(j.block d qF qJ).trans (aj.block d qF)));have ci:=zC ((U.trans (aj.mono qF)).grown j qF (λd f=>by simp at f;omega));rw[xU (by rw[a3.out];omega),xU (by rw[ak.out];omega)]at RR;obtain⟨cx,cy,cz⟩:=Hf R;subst cz;clear j Q R;go_wp2;refine vg (v:=.agg #[qM cx e cy,qM u r x]) (by simp[results,results24,go_sem,cg,ch]) rfl ⟨_,rfl,⟨?_,?_,?_⟩,?_⟩
 ·rw[ag.out]
  refine yt.of ?_ ?_ ?_
  ·rw[V.out]
   exact(a2.frame (λd C D=>by rw[xj _ _ _ _ (by show d≠w.heap.size;omega),xj _ _ _ _ (by show d≠w.heap.size;omega)];exact a8 d C D)).mono lR qJ
  ·rw[V.out,ak.out]
   refine zD (zF RR qF) λd f=>?_
   have:=(RR.lt d f).1;rw[xj _ _ _ _ (by show d≠w.heap.size;omega),xj _ _ _ _ (by show d≠w.heap.size;omega)]
  intro d f;have:=(RR.lt d f).2;simp;omega
 ·exact Zg bv a4 (λd C D=>by rw[xj _ _ _ _ (by show d≠w.heap.size;omega),xj _ _ _ _ (by show d≠w.heap.size;omega)];exact a8 d C D)
 ·intro d f
  have:=a4 d f;simp;omega
 exact(ci.setCell lR _).setCell lR _
def IJ{e:qS}{b o zs}(f:∀a,a<zs.length->e.cell? (qP b (o+a))=some (.int .i32 (zs.getD a 0))):∀c d,(zI .i32 zs)[c]?=some d->e.cell? (((qP b o):Addr).add c)=some d:=by
 have:=ZE (o:=0) (l:=zs.length) f;simpa using this
def Ug{b:qS}{base B n v x y z xs}(c:b.ownsRow base 21 1 v n xs)(e:B<base):(((b.setCell (qP B 0) x).setCell (qP B 1) y).setCell (qP B 2) z).ownsRow base 21 1 v n xs:=by
 refine zD c λa d=>?_
 have:=(c.lt a d).1;rw[xj _ _ _ _ (by show a≠B;omega),xj _ _ _ _ (by show a≠B;omega),xj _ _ _ _ (by show a≠B;omega)]
theorem layPl (g cap n) (tx) (w) (R:∀i,i<tx.length->w.cell? ⟨g,0+i,none⟩=some (.int .i32 (tx.getD i 0))) (Y:g<w.heap.size) (S:tx.length=n) (hc:n<=cap) (Z:cap<=maxLen) (ac:n<=1048576):
  Calls prog 69 #[.slice (some ⟨g,0,none⟩) n cap,.int .i64 n,.int .i64 n] w fun e w'=>∃P Q,e= .returned (.agg #[.slice P n Q,.int .i64 n,.int .i64 n])∧w'.ownsRow w.heap.size 21 1 (.slice P n Q) n (zI .i32 tx)∧Below w.heap.size w w':=by
 obtain⟨B,hi',C,D,E⟩:=vw Tryz.qc
 have r:=zC (((xe _ w).alloc lR (.cells #[.slice none 0 0,.int .i64 0,.int .i64 0] 86)).alloc (by simp) (.cells #[] 21))
 have k:=zC (Xt (w.alloc (.cells #[.slice none 0 0,.int .i64 0,.int .i64 0] 86)) 21)
 have I:(w.alloc (.cells #[.slice none 0 0,.int .i64 0,.int .i64 0] 86)).heap.size=w.heap.size+1:=by simp
 rw [I]at k
 have J:=zC ((Q3.new w (.slice none 0 0) (.int .i64 0) (.int .i64 0) 86).below ((xe _ _).alloc lR (.cells #[] 21)) (by simp))
 have K:=zC (IJ (fun i hi=>(r.out.cell Y).trans (R i hi)))
 have s:w.heap.size+1<=((w.alloc (.cells #[.slice none 0 0,.int .i64 0,.int .i64 0] 86)).alloc (.cells #[] 21)).heap.size:=by simp
 have L:=zC (show(zI .i32 tx).length=n*1 by rw [zG,S];omega)
 have aa:(n:Int) - n=0:=by omega
 unfold maxLen at Z;clear S R I;go_enter func69,ntmps69
 go_upto_region 3 with (at_builtin;refine xM _ rfl _ _ 48 rfl _ 21 B _ 1 4 underlying48 hi' C D E rfl (by decide) _ 0 [] rfl k.out _ n cap _ rfl L.out K.out (zJ _ _) (by unfold maxLen;omega) (by omega) s ?_;intro ab O f a W)
 rw [xX,vq]at f;have h:=zC f
 have M:=zC (r.out.grown a (by omega) (fun q b=>by have:=(k.out.lt q b).1;omega))
 have c:=zC (show Below _ ((w.alloc (.cells _ 86)).alloc (.cells #[] 21)) O from(xe _ _).grown a s (fun q b=>(k.out.lt q b).1))
 have N:=zC (J.out.below c.out (by omega))
 have p:w.heap.size+1<=O.heap.size:=by have:=c.out.size;omega
 clear f a W r k K L s c J;go_wp2_with fail;refine xQ 1 ?_;rw [xG]
 by_cases X:cap=n
 ·subst X
  go_upto_region 8 with (at_builtin;refine xM _ rfl _ _ 48 rfl _ 21 B _ 1 4 underlying48 hi' C D E rfl (by decide) _ _ _ rfl h.out _ 0 _ (zI .i32 []) rfl (by simp [zI]) (by intro j u x;simp [zI]at x) (zJ _ _) (by unfold maxLen;omega) (by omega) p ?_;intro y z f a A)
  have l:=zC (show z.ownsRow _ 21 1 y cap (zI _ tx)from by simpa [zI]using f)
  have t:=zC (M.out.grown a (by omega) (fun q b=>by have:=(h.out.lt q b).1;omega))
  have c:=zC ((xe _ _).grown a p (fun q b=>(h.out.lt q b).1))
  have d:=zC (N.out.below c.out (by omega))
  obtain⟨m,o,F⟩:=Eg l.out;subst F;obtain⟨G,g1,H⟩:=d.out.c;have T:=d.out.fz 0;have U:=d.out.fz 1;have V:=d.out.fz 2;clear f a A c;go_wp2
  refine vg (v:=.agg #[.slice m cap o,.int .i64 cap,.int .i64 cap]) (by simp [results,go_sem,G,g1,H]) rfl ?_
  exact⟨m,o,rfl,zF (Ug l.out (by omega)) (by omega),((t.out.setCell (by simp) _).setCell (by simp) _).setCell (by simp) _⟩
 go_upto_region 8 with (at_builtin;refine xM _ rfl _ _ 48 rfl _ 21 B _ 1 4 underlying48 hi' C D E rfl (by decide) _ _ _ rfl h.out _ 0 _ (zI .i32 []) (by first | rfl) (by simp [zI]) (by intro j u x;simp [zI]at x) (zJ _ _) (by unfold maxLen;omega) (by omega) p ?_;intro y z f a A)
 have l:=zC (show z.ownsRow _ 21 1 y n (zI _ tx)from by simpa [zI]using f)
 have t:=zC (M.out.grown a (by omega) (fun q b=>by have:=(h.out.lt q b).1;omega))
 have c:=zC ((xe _ _).grown a p (fun q b=>(h.out.lt q b).1))
 have d:=zC (N.out.below c.out (by omega))
 obtain⟨m,o,F⟩:=Eg l.out;subst F;obtain⟨G,g1,H⟩:=d.out.c;have T:=d.out.fz 0;have U:=d.out.fz 1;have V:=d.out.fz 2;clear f a A c;go_wp2
 refine vg (v:=.agg #[.slice m n o,.int .i64 n,.int .i64 n]) (by simp [results,go_sem,G,g1,H]) rfl ?_
 exact⟨m,o,rfl,zF (Ug l.out (by omega)) (by omega),((t.out.setCell (by simp) _).setCell (by simp) _).setCell (by simp) _⟩
def plainS(tx)(lo)(a)(n cap)(w)(c:jU w lo (qM (some a) n cap) tx)(J:tx.length<=1048576):
  Calls prog 37 #[qM (some a) n cap] w λl m=>∃d b,l=qQ (.agg #[qM d n b,qC n,qC n])/\n=tx.length/\jU m w.heap.size (qM d n b) tx/\qY w m:=by
 have q:∃e,a=(qP e 0)/\n=tx.length/\n<=cap/\cap<=maxLen:=by
  rcases c.2 with ⟨o,_⟩ | ⟨e,b,K,o,_,_,L,M,_⟩
  ·cases o
  simp_all
 obtain⟨e,rfl,f,A,B⟩:=q;have r:=(c.lt e rfl).2;have i:=by unfold jU at c;rw[<- f]at c;exact c
 have j:=zC ((xe _ w).alloc lR (qR #[qN,qC 0,qC 0] 86));have HT:=zC (Q3.new w qN (qC 0) (qC 0) 86);have s:(w.alloc (qR #[qN,qC 0,qC 0] 86)).heap.size=w.heap.size+1:=qH
 have t:=zC (layPl e cap n tx _ (λy z=>(j.cell r).trans (by rw[xX];exact yL i y (by rw[f];exact z))) (by rw[s];omega) f.symm A B qF);have k:=zC f;clear c i f;go_enter func37,ntmps37;go_wp2_with fail;generalize w.alloc _=I at *;refine t.mono ?_;rintro l N ⟨d,b,rfl,p,h⟩;have u:=zC p;have g:=zC (HT.below h qF);have x:=zC (j.trans (h.mono qF));obtain⟨C,D,E⟩:=g.out.c;have F:=g.fz 0;have G:=g.fz 1;have H:=g.fz 2;clear p h;go_wp2;refine vg (v:=.agg #[qM d n b,qC n,qC n]) (by simp[results,go_sem,C,D,E]) rfl ?_;refine⟨d,b,rfl,k,?_,((x.setCell qH _).setCell qH _).setCell qH _⟩;unfold jU;rw[<- k.out];exact zF (Ug u qF) qF
def zBp(zs)(aq)(cap)(w)(af:∀h,h<zs.length->∃s y,aq=some (qP s y)/\s<w.heap.size/\w.cell? (qP s (y+h))=some (.int .i32 (zs.getD h 0)))(cq:zs.length<=8192)(bw:zs.length<=cap)(ag:cap<=maxLen):
  Calls prog 15 #[qM aq zs.length cap] w λf O=>∃ac ad,f=qQ (.tuple #[.agg #[ac,ad],qC 0])/\Zh O w.heap.size O.heap.size ac ad ((yI zs).map Y4) [0]/\qY w O:=by
 obtain⟨bx,bz,b0,b1,b2⟩:=vw Tryz.infoGP;have b9:¬ (8192:Int)<zs.length:=qF
 have H:=zC (((((xe _ w).alloc lR (qR #[qN,qN] 28)).alloc qH (qR #[qC 0] 3)).alloc qJ (qR #[qN,qM (qD (w.heap.size+1) 0) 1 1] 28)));have S:=zC (show D2 (((w.alloc _).alloc (qR #[qC 0] 3)).alloc (qR #[qN,qM (qD (w.heap.size+1) 0) 1 1] 28)) _ qN qN 28 from(kL _ _ _ qJ).trans ((kL _ _ _ qH).trans (xI _ _)));have T:=zC (show D2 _ (w.heap.size+2) _ _ 28 from(by have e:=D2.new ((w.alloc (qR #[qN,qN] 28)).alloc (qR #[qC 0] 3)) qN (qM (qD (w.heap.size+1) 0) 1 1) 28;rw[kE,kE]at e;exact e))
 have SV:=zC (show(((w.alloc _).alloc _).alloc _).ownsRow _ 3 1 _ 1 [.int _ 0]from(by
  have e:=(World.ownsRow_lit (base:=w.heap.size) (e:=3) (size:=1) (w.alloc (qR #[qN,qN] 28)) #[qC 0] 1 qH qK rfl).alloc (qR #[qN,qM (qD (w.heap.size+1) 0) 1 1] 28)
  rw[kE]at e;exact e))
 have ao:(((w.alloc (qR #[qN,qN] 28)).alloc (qR #[qC 0] 3)).alloc (qR #[qN,qM (qD (w.heap.size+1) 0) 1 1] 28)).heap.size=w.heap.size+3:=qH
 have I:=zC (zBi zs aq cap _ (λh bs=>(by obtain⟨s,y,f,b3,e⟩:=af h bs;exact⟨s,y,f,by rw[ao];omega,(H.cell b3).trans e⟩)) qF bw ag);have ap:=j9 zs;have LE:=zC (λg(bt:g∈yI zs)=>ZU bt);generalize bp:yI zs=d at *;generalize bq:zs.length=br at *;obtain⟨i,Q⟩:∃i,i=d.length:=⟨_,rfl⟩
 rw[<- Q]at ap I;have HM:=zC Q;unfold maxLen at ag;clear af Q bp bq;go_enter func15,ntmps15;go_wp2_with fail;generalize ((w.alloc _).alloc _).alloc _=co at *;refine I.mono ?_;rintro f wc ⟨cr,C,rfl,D,R,ah,o⟩;rcases D.2 with ⟨_,a⟩ | ⟨gl,cs,ct,rfl,cu,_,cv,b4,_⟩
 ·omega
 have ca:=(D.lt gl rfl).2;have cb:=o.size
 have ar:=zC (λb(z:b<i)=>(show ∃A n B g,C[b]?=some _/\d[b]?=some g/\g.length<=br/\wc.cell? _=some _/\jU wc _ _ g from by
  have au:C.length=i:=(by rw[R.len,HM.out]);have r:C[b]?=some (C[b]'qF):=(by simp[au,z]);have J:d[b]?=some (d[b]'(by rw[<- HM.out];exact z)):=(by simp[<- HM.out,z]);obtain⟨A,n,B,f⟩:=ah _ (xH r);rw[f]at r;refine⟨A,n,B,_,r,J,LE _ (xH J),?_,R.own b _ _ r J⟩
  rw[D.cellAt b qF];exact r))
 have av:=zC (S.below o qF);have aw:=zC (T.below o qF);have U:=zC (zE SV o qF);have ax:=zC (H.trans (o.mono qF));clear D R ah o S T SV H I;unfold maxLen at b4;go_wp2_with fail
 go_loopw [16] (λh wr=>∃b:Nat,b<=i/\h=qC b/\wc.grownBy wr (some (w.heap.size+2))/\∃P k,D2 wr (w.heap.size+2) P (qM (qD (w.heap.size+1) 0) 1 1) 28/\wr.ownsRow wc.heap.size 86 3 P b (zU k ((d.take b).map Y4))/\zd wr wc.heap.size wr.heap.size k (d.take b))
  (λh _=>i-(intOf h).toNat)
 case atStart=>exact⟨0,xK _,rfl,yT _ _,_,[],aw,xR _ _ _ _,zd.nil _ _ _⟩
 obtain⟨b,z,rfl,j,P,k,p,E,F⟩:=hrel;have ay:=j.size;have GB:=zC j;have az:=zC p;have RR:=zC E;have K:=zC F;have a0:w.heap.size+2<wc.heap.size:=qF
 by_cases bn:b<i
 ·obtain⟨A,n,B,g,b5,ai,cw,aj,G⟩:=ar b bn
  have a1:some gl≠some (w.heap.size+2):=(by simp only[ne_eq,xE];omega);have cc:=j.cell aj a1;have a2:=zC (zD G (λa c=>j.block a (G.lt a c).2 (by have:=(G.lt a c).1;simp;omega)));have a3:=zC (λae(bu:ae.heap=wr.heap)=>plainS g _ A n B ae (zD a2 (λa c=>by rw[bu])) qF);have a4:(b:Int)<i:=qF;have cd:=p.c.1;have a5:=zC ai;have V:k.length=b:=(by rw[F.len,xi,<- HM.out];omega);have a6:=zC V;clear j p E F aj G b5 ai V;go_upto_region 7 with fail
  go_region_law (first
   |(refine step_append_lies _ rfl _ _ 25 rfl _ 86 bx _ 3 40 underlying25 bz b0 b1 b2 rfl qG _ _ _ rfl ((N.alloc _)) _ 1 1 _ rfl rfl (zV l _ _) (by simp[Value.oneCell']) qF qK qF qJ (l.heap.size+1) qH ?_;intro bk bl aa ab x _ _;have L:=((xe _ l).alloc qF _).trans (Below.grown (xe _ _) x qJ (λa c=>(N.lt a c).1));have M:=zC (W.below L a0);have ce:=M.c.1;have cf:=M.fz 0;have cg:=(by have:=x.size;simp at this;omega);have a7:=zC (J1 bc L);have a8:=zC ab;have a9:=zC ((bd.frame (λa _ c=>((xe _ l).alloc lR _).block a c)).kept (kB N _) qG x);clear ab x L)
   |(go_simp;go_wp2_with (go_at_call 37;refine(a3 _ (by exact rfl)).mono ?_;rintro f l ⟨ak,al,rfl,am,an,q⟩;have m:qY wr l:=(⟨q.os,q.tape,q.output,q.size,q.block⟩);have t:jU l wr.heap.size _ g:=an;have ba:=m.size;have ch:w.heap.size+2<l.heap.size:=qF;have W:=zC (az.below m qF);have ci:=W.c.1;have N:=zC (zE RR m lR);have bc:=zC (J1 GB (m.mono qF));have bd:=zC ((K.frame (λa _ c=>m.block a c)).snoc (zF t ay) (λa c=>(t.lt a c).1) (λa c=>(t.lt a c).2) ba);have bf:=zC am;clear q m an t am)))
  all_goals (
   go_wp2_with fail;go_roundw
   case rel=>
    have X:d.take (b+1)=d.take b++ [g]:=(by rw[vH,a5.out];rfl);refine⟨b+1,qF,qL,Ss a7 0 _,_,k++ [qM ak n al],xN aa _ 0 _ _ _ M,?_,?_⟩
    ·have e:aa.ownsRow wc.heap.size 86 3 (qM (qD bk 0) (b+1) bl) (b+1) (zU (k++ [qM ak n al]) ((d.take (b+1)).map Y4)):=by
      rw[X,vX,yy (by rw[a6.out,xO,xi,<- HM.out];omega)];simpa[zU,Y4,<- bf.out]using a8.out
     refine zD e λa c=>?_
     have cj:=(e.lt a c).1;exact xj _ _ _ _ (by show a≠w.heap.size+2;omega)
    rw[X];exact(a9.frame (λa bv _=>xj _ _ _ _ (by show a≠w.heap.size+2;omega))).mono lR qJ
   simp[intOf];omega)
 obtain rfl:b=i:=qF
 have a4:¬ (b:Int)<b:=qF
 have u:=zC (show D2 wr _ _ _ 28 from(j.block _ qF qH).trans av);have bg:=u.c.1;have bh:=u.c.2;have ck:=u.fz 0;have cl:=u.fz 1;have cm:=p.c.1;have cn:=p.c.2;have Y:=zC (zD U (λa c=>j.block a (U.lt a c).2 (by simp only[Value.ownBlock,xE]at c;simp;omega)));have bi:=zC (ax.grown j qF (λa c=>by simp at c;omega));have Z:(d.map Y4).length=b:=by rw[xO,<- HM.out]
 have bj:=zC Z;rw[xU (by simp_all)]at RR K;obtain⟨b6,b7,b8⟩:=Hf E;subst b8;clear j p E F Z;go_wp2;refine vg (v:=.tuple #[.agg #[qM b6 b b7,qM (qD (w.heap.size+1) 0) 1 1],.int _ 0]) (by simp[results,go_sem,bg,bh]) rfl ⟨_,_,rfl,⟨⟨k,?_⟩,?_,?_⟩,?_⟩
 ·refine yt.of ?_ ?_ ?_
  ·have f:(d.map Y4).map Gr.cells=d:=by rw[List.map_map];exact(List.map_congr_left (λg _=>rfl)).trans (List.map_id d)
   rw[f];exact(K.frame (λa bv cp=>by rw[xj _ _ _ _ (by show a≠w.heap.size;omega),xj _ _ _ _ (by show a≠w.heap.size;omega)])).mono qF qH
  ·rw[bj.out]
   refine zD (zF RR qF) λa c=>?_
   have:=(RR.lt a c).1;rw[xj _ _ _ _ (by show a≠w.heap.size;omega),xj _ _ _ _ (by show a≠w.heap.size;omega)]
  intro a c;have:=(RR.lt a c).2;simp;omega
 ·refine zD Y λa c=>?_
  simp only[Value.ownBlock,xE]at c;rw[xj _ _ _ _ (by show a≠w.heap.size;omega),xj _ _ _ _ (by show a≠w.heap.size;omega)]
 ·intro a c
  have:=(Y.lt a c).2;simp;omega
 exact(bi.setCell lR _).setCell lR _
