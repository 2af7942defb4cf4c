import Derived.Test.YtmjanhcplcalfaaGreatDoorMq27
set_option linter.all false
set_option maxRecDepth 100000
set_option maxHeartbeats 8000000
namespace Go.Proofs.YtmjanhcplcalfaaGreatDoor
open Go Go.RowKit Go.Proofs.Tryz
theorem brLaw (G E:List Int) (v I:Value) (w:World) (bq:Rd .u8 w v G) (ek:∀z∈G,0<=z∧z<=255) (cj:G.length<=1048576) (br:Rd .u8 w I E) (el:∀z∈E,0<=z∧z<=255) (e9:E.length<=1048576) (ck:w.cell? ⟨0,0,none⟩=some (.iface 184 (.agg #[.pointer (qK 1 67)]))):
  Calls prog 3 #[v,I] w fun e w'=>e= .returned (.bool true)∧Below w.heap.size w w':=by
 have ew:0<w.heap.size:=xQ w _ ck;have da:=qG (fun P (a4:Below w.heap.size w P)=>(a4.cell (p:=⟨0,0,none⟩) ew).trans ck);have db:=qG bq;have dc:=qG br;have dd:=qG ek;have de:=qG el;have df:=qG (rd_blk bq);have bm:=qG (rd_blk br);obtain⟨ao,cap,rfl⟩:=bq.vl;obtain⟨em,en,rfl⟩:=br.vl;have fv:¬ (1048576:Int)<(G.length:Int):=by omega
 have fw:¬ (1048576:Int)<(E.length:Int):=by omega
 clear bq br ek el ck;go_enter func3,ntmps3;go_wp2_with fail;refine(new2 G _ w db dd cj).mono ?_;rintro e w1 ⟨rfl,f,d⟩;have dg:=qG (show SrcB G (.slice ao G.length cap) w.heap.size w1 from⟨f,df⟩);have bv:=qG d;have ap:=d.size;have ex:=f.lt;clear f d;go_wp2_with fail;refine(new2 E _ w1 (dc.below bv) de e9).mono ?_;rintro e R ⟨rfl,f,d⟩;have dh:=qG (show SrcB E (.slice em E.length en) w1.heap.size R from⟨f,fun b off cp o be=>xq (bm b off cp o be) ap⟩);have di:=qG (dg.below d ex lR);have bw:=qG (bv.trans (d.mono ap));have fy:=bw.size;have W:=f.lt;clear f d dg bv;go_wp2_with fail;refine(drawPB G _ w.heap.size G.length ao cap R di cj).mono ?_;rintro e S ⟨f1,f2,zs,T,rfl,cl,r,eo,ep,eq,fa,er,es,bs,⟨g,f3,bt,et⟩⟩;obtain⟨f4,f5,cm⟩:=zi cl;obtain⟨bu,k2,fc⟩:=zb r;rw [et]at cm;simp only [xB]at cm;obtain⟨rfl,rfl,rfl⟩:=cm;subst et fc;have bx:BFr zs T:=⟨eo,ep,eq,by omega⟩
 have dj:(T.tx zs).length<=5080:=by have:=bx.txl;omega
 have z3:=bs.size;have H:w.heap.size<R.heap.size:=by omega
 have dk:=qG (bw.trans (bs.below (B:=w.heap.size) (by omega) (by simp)));have dl:=qG es;have dm:=qG (dh.other bs (by omega) (fun b off cp o be=>by have:=bm b off cp o be;omega));have dn:=qG (show PV S R.heap.size g zs.length bt bu (T.told 0).length k2 (T.tx zs) 400 from⟨zs,T,rfl,rfl,cl,r,bx,rfl,er⟩);generalize (T.told 0).length=cg at *
 generalize zs.length=ch at *
 generalize T.tx zs=tx at *
 obtain⟨L,cn⟩:∃L,tx.length=L:=⟨_,rfl⟩
 have l:=qG cn;rw [cn]at dj;have aq:=qG ((qO S.heap.size S).alloc lR (.cells #[.slice (qK g 0) ch bt,.slice bu cg k2] 30));have dp:=qG (show Px R.heap.size S.heap.size tx 400 (S.alloc (.cells #[.slice (qK g 0) ch bt,.slice bu cg k2] 30))from⟨_,_,_,_,_,_,PX.new dn lR z3⟩);go_upto_region 6 with fail;generalize S.alloc (.cells #[.slice (qK g 0) ch bt,.slice bu cg k2] 30)=e8 at *
 have ey:=aq.size;have dq:=qG (dl.below aq (by omega) lR);have dr:=qG (dm.below aq (by omega) lR);have ai:=qG (show An (Bw w R.heap.size) (Px R.heap.size S.heap.size tx 400) e8 from⟨⟨dk.trans (aq.mono (by omega)),by omega⟩,dp⟩);clear cl r eo ep eq fa er es bs bx di dh bw cn dn dp aq dl dm dk z3 ey;generalize S.heap.size=fz at *
 generalize R.heap.size=D at *
 generalize w1.heap.size=ci at *
 have bn:=qG (show ∀b off cp,Value.slice em E.length en= .slice (qK b off) E.length cp->0<E.length->b≠w.heap.size from fun b off cp o be=>by have:=bm b off cp o be;omega);clear df bm db dc dd de;obtain⟨f6,f7,f8,f9,ga,gb,co⟩:=ai.2;obtain⟨fd,fe⟩:=co.k.c;have ds:=qG co.v;clear co;go_wp2_with fail;refine(pvT ds).mono ?_;rintro e gc ⟨F,k,rfl,cq,d⟩;rw [l.out]at cq |-;have dt:=qG cq;clear cq fd fe ds;have du:=goA dq ai H d;have dv:=goA dr ai W d;have ar:=goN (q:=Ro D F L k tx) (goS ai d) (Ro.of dt rfl l ai.1.2);clear d ai dq dr;clear dt;go_wp2_with fail;refine(cpK l ar.2.1.1 (by omega)).mono ?_;rintro e gd ⟨ge,cc,rfl,o,d⟩;have dw:=qG o;clear o;have dx:=goA du ar H d;have dy:=goA dv ar W d;have aj:=goS ar d;clear d ar du dv;have bz:=qG (lqL (tx:=tx) (by rw [l.out];exact dw) (by rw [l.out];omega) (da _ aj.1.1));rw [l.out]at bz;go_wp2_with fail;refine bz.mono ?_;rintro e ae ⟨cr,cs,ct,cu,cv,cw,rfl,o,d⟩;have dz:=qG (o.base aj.1.2);clear o bz dw;have d0:=goA dx aj H d;have d1:=goA dy aj W d;have au:=goS aj d;clear d aj dx dy;have d:=(qO ae.heap.size ae).alloc lR (.cells #[.slice cr cs ct,.slice cu cv cw] 36);have x:=qG (show Lx D ae.heap.size tx (ae.alloc (.cells #[.slice cr cs ct,.slice cu cv cw] 36))from⟨_,_,_,_,_,_,LX.new dz lR au.1.2⟩);go_upto_region 8 with fail;generalize ae.alloc (.cells #[.slice cr cs ct,.slice cu cv cw] 36)=a6 at *
 have d2:=goA d0 au H d;have d3:=goA d1 au W d;have d4:=goN (q:=Lx D ae.heap.size tx) (goS au d) (x);clear d au d0 d1;clear x dz;generalize ae.heap.size=f0 at *
 have ez:IntKind.i64.wrap ((L:Int)+1)=(L:Int)+1:=i64w _ (by omega) (by omega);go_wp2_with fail;refine(JH G _ w.heap.size ((L:Int)+1) a6 d2 (by omega) (by omega)).mono ?_;rintro e ff ⟨oi,rfl,r,f,h⟩;obtain⟨i1,rfl⟩:=xZ r.1;have b0:i1<=L:=by omega
 clear r;have d5:=goD d4 h lR H;have d6:=qG f;have d7:=qG (d3.other h (by omega) bn);clear f h d4 d2 d3;go_wp2_with fail;refine(JH E _ ci ((L:Int)+1) ff d7 (by omega) (by omega)).mono ?_;rintro e fg ⟨oi,rfl,r,f,h⟩;obtain⟨i2,rfl⟩:=xZ r.1;have b1:i2<=L:=by omega
 clear r;have d8:=goD d5 h ap W;have d9:=qG (d6.chg h (by simp;omega));have ea:=qG f;clear f h d5 d6 d7;clear ez;go_wp2_with fail;refine(JH G _ w.heap.size 9 fg d9 (by omega) (by omega)).mono ?_;rintro e fh ⟨oi,rfl,r,f,h⟩;obtain⟨m,rfl⟩:=xZ r.1;have b2:IntKind.i64.wrap (1+(m:Int))=((m+1:Nat):Int):=by rw [i64w _ (by omega) (by omega)];omega
 have b3:=goD d8 h lR H;have eb:=qG f;have ec:=qG (ea.other h (by omega) bn);clear f h d8 d9 ea;go_wp2_with fail;refine(Ku G _ w.heap.size (m+1) fh eb (by omega)).mono ?_;rintro e fi ⟨cx,cy,U,rfl,af,A,f,h⟩;obtain⟨t,bf⟩:∃z,z=m+1:=⟨_,rfl⟩
 rw [<- bf]at af A |-;have e0:0<t∧t<=9:=by omega
 have ak:=qG af;have x:=qG (zD A b3.1.2);clear af A bf b2 r;have ed:=goN (q:=Ro D cx t cy U) (goD b3 h lR H) (⟨x,ak⟩);have ee:=qG f;have ef:=qG (ec.other h (by omega) bn);clear f h b3 eb ec;clear x;go_wp2_with fail;refine(JH E _ ci 9 fi ef (by omega) (by omega)).mono ?_;rintro e fj ⟨oi,rfl,r,f,h⟩;obtain⟨m,rfl⟩:=xZ r.1;have b2:IntKind.i64.wrap (1+(m:Int))=((m+1:Nat):Int):=by rw [i64w _ (by omega) (by omega)];omega
 have b4:=goD ed h ap W;have eg:=qG (ee.chg h (by simp;omega));have eh:=qG f;clear f h ed ee ef;go_wp2_with fail;refine(Ku E _ ci (m+1) fj eh (by omega)).mono ?_;rintro e J ⟨cz,c0,V,rfl,af,A,f,h⟩;obtain⟨u,bf⟩:∃z,z=m+1:=⟨_,rfl⟩
 rw [<- bf]at af A |-;have e1:0<u∧u<=9:=by omega
 have al:=qG af;have x:=qG (zD A b4.1.2);clear af A bf b2 r;have am:=goN (q:=Ro D cz u c0 V) (goD b4 h ap W) (⟨x,al⟩);have ei:=qG (eg.chg h (by simp;omega));have e2:=qG f;clear f h b4 eg eh;clear x;clear e2 bn;obtain⟨bg,hi',bh,bi,bj⟩:=vc Tryz.infoBr;have M:=am.2.2.2.2.1;have X:=am.2.2.1;have Y:=qG M;have av:=qG X;have b5:=M.cap.1;have b6:=M.cap.2;have b7:=X.cap.1;have b8:i1<=k:=by omega
 obtain⟨C,ag⟩:∃C:Addr,C=if k=i1 then⟨F,0,none⟩else⟨F,i1,none⟩:=⟨_,rfl⟩
 have aw:=qG ag
 have ax:=qG (show ∀P,own32 P D (.slice (qK F 0) L k) tx->∀j I,(ints .i32 (tx.drop i1))[j]? =some I->P.cell? (C.add j)=some I from by
  intro P a4;by_cases Q:k=i1
  ·rw [vE (by rw [l.out];omega)];intro j I ce;simp [ints]at ce
  rw [ag,qZ Q];exact Jh l a4 i1 b0)
 clear M X ag;go_upto_region 14 with fail;go_cut [15] (fun s wc=>∃g c,s= .slice (qK g 0) (L+t) c∧own32 wc J.heap.size (.slice (qK g 0) (L+t) c) (tx.take i1++(U++tx.drop i1))∧Below J.heap.size J wc)
 case first=>
  as_aux_lemma=>
   refine(kD (n:=6)).1 ?_;refine ZD (fun _=>True) (by kernel_rfl) ?_;refine tk 0 (.slice (qK F 0) L k) ?_ ?_
   ·intro w _;go_simp
   go_simp;refine tk 1 (qJ i1) ?_ ?_
   ·intro w _;go_simp
   go_simp;refine tk 2 (.slice (qK F 0) i1 k) ?_ ?_
   ·intro w _;go_simp
   go_simp;refine tk 4 (.slice (qK cx 0) t cy) ?_ ?_
   ·intro w _;go_simp
   go_simp;refine tk 6 (.slice (qK F 0) L k) ?_ ?_
   ·intro w _;go_simp
   go_simp;refine tk 7 (qJ i1) ?_ ?_
   ·intro w _;go_simp
   go_simp;refine tk 8 (.slice (some C) (L - i1) (k - i1)) ?_ ?_
   ·intro w _;(have Z:=aw;by_cases Q:k=i1<;>(first | rw [xd Q]at Z | rw [qZ Q]at Z)<;>subst Z<;>go_simp)
   go_simp;refine on 3 xn ?_;obtain⟨y,ah⟩:∃y,y=J.drew:=⟨_,rfl⟩
   rw [<- ah];have N:=qG (show Below J.heap.size J y from by rw [ah];exact zT rfl rfl rfl rfl);clear ah;gi_wp2_with fail;refine⟨xn,(xf.2 (zF2 (i:=i1) l (zB Y.1 N lR) b0 (by omega))).mono ?_⟩;rintro e fk ⟨fl,fm,rfl,bk,bl⟩;have O:=qG (N.trans (bl.mono N.size));have aa:=qG (zD bk N.size);have ay:=O.size;have az:=qG (JI ak (zB av.1 O lR));clear bk bl;gi_wp2_with fail;refine on 5 xn ?_
   (refine wpListIn_append_own _ rfl _ _ 25 rfl J.heap.size 21 bg (.int .i32 0) 1 4 underlying25 hi' bh bi bj rfl (by decide) _ i1 (ints .i32 (tx.take i1)) rfl aa ⟨cx,0,none⟩ t cy (ints .i32 U) rfl (by rw [zC,ak.out,vP]) az (zG _ _) (by unfold maxLen;omega) (by omega) ay ?_;intro a5 a6 a7 a8 a9)
   have a0:a5≠ .slice none 0 0:=fun e=>by have:=(a9.1 e).1;cases this
   have ab:=qG (show a6.ownsRow J.heap.size 21 1 a5 (i1+t) (ints .i32 (tx.take i1++U))from by rw [zf];exact a7);have ac:=qG (O.grown a8 ay (fun q ad=>(aa.lt q ad).1));obtain⟨fn,fo,c1⟩:=jr ab a0;subst c1;have a1:=ac.size;have b9:=qG (ax _ (zB Y.1 ac lR));have ca:=qG (show(ints .i32 (tx.drop i1)).length=(L - i1)*1 by rw [zC,qR,l.out,vP]);clear a7 a8 a9 a0 aa O az;gi_wp2_with fail;refine on 9 xn ?_
   (refine wpListIn_append_own _ rfl _ _ 25 rfl J.heap.size 21 bg (.int .i32 0) 1 4 underlying25 hi' bh bi bj rfl (by decide) _ (i1+t) (ints .i32 (tx.take i1++U)) rfl ab C (L - i1) (k - i1) (ints .i32 (tx.drop i1)) rfl ca b9 (zG _ _) (by unfold maxLen;omega) (by omega) a1 ?_;intro ba cf A bc bd)
   have a2:ba≠ .slice none 0 0:=fun e=>by have:=(bd.1 e).1;cases this
   have a3:=qG (show cf.ownsRow J.heap.size 21 1 ba (L+t) (ints .i32 (tx.take i1++(U++tx.drop i1)))from by rw [show(L+t)=(i1+t)+(L - i1)by omega,<- xj,zf];exact A);have cb:=qG (ac.grown bc a1 (fun q ad=>(ab.lt q ad).1));obtain⟨c2,c3,c4⟩:=jr a3 a2;subst c4;clear A bc bd a2;gi_wp2_with fail;refine on 10 xn ?_;gi_wp2_with fail;refine doneC (by kernel_rfl) xn ?_ _;gi_wp2_with fail;go_meet;exact⟨c2,c3,rfl,zAz (by simp only [qM,qN,qR,l.out,ak.out];omega) a3,cb⟩
 obtain⟨K,c5⟩:∃q,q=wc:=⟨_,rfl⟩
 subst c5;obtain⟨fp,fq,rfl,o,d⟩:=hcut;have bo:=qG (show(tx.take i1++(U++tx.drop i1)).length=L+t by simp only [qM,qN,qR,l.out,ak.out];omega);obtain⟨fr,c6⟩:∃z,z=tx.take i1++(U++tx.drop i1):=⟨_,rfl⟩
 rw [<- c6]at o bo;have e3:=qG c6;have x:=qG (zD o am.1.2);clear o c6 Y av b5 b6 b7 b8 aw ax C;have ej:=goA ei am H d;have an:=goN (q:=Ro D fp (L+t) fq fr) (goS am d) (⟨x,bo⟩);clear d am ei;clear x;have M:=an.2.2.2.2.2.1;have X:=an.2.2.1;have Y:=qG M;have av:=qG X;have b5:=M.cap.1;have b6:=M.cap.2;have b7:=X.cap.1;have b8:i2<=k:=by omega
 obtain⟨C,ag⟩:∃C:Addr,C=if k=i2 then⟨F,0,none⟩else⟨F,i2,none⟩:=⟨_,rfl⟩
 have aw:=qG ag
 have ax:=qG (show ∀P,own32 P D (.slice (qK F 0) L k) tx->∀j I,(ints .i32 (tx.drop i2))[j]? =some I->P.cell? (C.add j)=some I from by
  intro P a4;by_cases Q:k=i2
  ·rw [vE (by rw [l.out];omega)];intro j I ce;simp [ints]at ce
  rw [ag,qZ Q];exact Jh l a4 i2 b1)
 clear M X ag;go_upto_region 15 with fail;go_cut [16] (fun s wc=>∃g c,s= .slice (qK g 0) (L+u) c∧own32 wc K.heap.size (.slice (qK g 0) (L+u) c) (tx.take i2++(V++tx.drop i2))∧Below K.heap.size K wc)
 case first=>
  as_aux_lemma=>
   refine(kD (n:=6)).1 ?_;refine ZD (fun _=>True) (by kernel_rfl) ?_;refine tk 0 (.slice (qK F 0) L k) ?_ ?_
   ·intro w _;go_simp
   go_simp;refine tk 1 (qJ i2) ?_ ?_
   ·intro w _;go_simp
   go_simp;refine tk 2 (.slice (qK F 0) i2 k) ?_ ?_
   ·intro w _;go_simp
   go_simp;refine tk 4 (.slice (qK cz 0) u c0) ?_ ?_
   ·intro w _;go_simp
   go_simp;refine tk 6 (.slice (qK F 0) L k) ?_ ?_
   ·intro w _;go_simp
   go_simp;refine tk 7 (qJ i2) ?_ ?_
   ·intro w _;go_simp
   go_simp;refine tk 8 (.slice (some C) (L - i2) (k - i2)) ?_ ?_
   ·intro w _;(have Z:=aw;by_cases Q:k=i2<;>(first | rw [xd Q]at Z | rw [qZ Q]at Z)<;>subst Z<;>go_simp)
   go_simp;refine on 3 xn ?_;obtain⟨y,ah⟩:∃y,y=K.drew:=⟨_,rfl⟩
   rw [<- ah];have N:=qG (show Below K.heap.size K y from by rw [ah];exact zT rfl rfl rfl rfl);clear ah;gi_wp2_with fail;refine⟨xn,(xf.2 (zF2 (i:=i2) l (zB Y.1 N lR) b1 (by omega))).mono ?_⟩;rintro e fk ⟨fl,fm,rfl,bk,bl⟩;have O:=qG (N.trans (bl.mono N.size));have aa:=qG (zD bk N.size);have ay:=O.size;have az:=qG (JI al (zB av.1 O lR));clear bk bl;gi_wp2_with fail;refine on 5 xn ?_
   (refine wpListIn_append_own _ rfl _ _ 25 rfl K.heap.size 21 bg (.int .i32 0) 1 4 underlying25 hi' bh bi bj rfl (by decide) _ i2 (ints .i32 (tx.take i2)) rfl aa ⟨cz,0,none⟩ u c0 (ints .i32 V) rfl (by rw [zC,al.out,vP]) az (zG _ _) (by unfold maxLen;omega) (by omega) ay ?_;intro a5 a6 a7 a8 a9)
   have a0:a5≠ .slice none 0 0:=fun e=>by have:=(a9.1 e).1;cases this
   have ab:=qG (show a6.ownsRow K.heap.size 21 1 a5 (i2+u) (ints .i32 (tx.take i2++V))from by rw [zf];exact a7);have ac:=qG (O.grown a8 ay (fun q ad=>(aa.lt q ad).1));obtain⟨fn,fo,c1⟩:=jr ab a0;subst c1;have a1:=ac.size;have b9:=qG (ax _ (zB Y.1 ac lR));have ca:=qG (show(ints .i32 (tx.drop i2)).length=(L - i2)*1 by rw [zC,qR,l.out,vP]);clear a7 a8 a9 a0 aa O az;gi_wp2_with fail;refine on 9 xn ?_
   (refine wpListIn_append_own _ rfl _ _ 25 rfl K.heap.size 21 bg (.int .i32 0) 1 4 underlying25 hi' bh bi bj rfl (by decide) _ (i2+u) (ints .i32 (tx.take i2++V)) rfl ab C (L - i2) (k - i2) (ints .i32 (tx.drop i2)) rfl ca b9 (zG _ _) (by unfold maxLen;omega) (by omega) a1 ?_;intro ba cf A bc bd)
   have a2:ba≠ .slice none 0 0:=fun e=>by have:=(bd.1 e).1;cases this
   have a3:=qG (show cf.ownsRow K.heap.size 21 1 ba (L+u) (ints .i32 (tx.take i2++(V++tx.drop i2)))from by rw [show(L+u)=(i2+u)+(L - i2)by omega,<- xj,zf];exact A);have cb:=qG (ac.grown bc a1 (fun q ad=>(ab.lt q ad).1));obtain⟨c2,c3,c4⟩:=jr a3 a2;subst c4;clear A bc bd a2;gi_wp2_with fail;refine on 10 xn ?_;gi_wp2_with fail;refine doneC (by kernel_rfl) xn ?_ _;gi_wp2_with fail;go_meet;exact⟨c2,c3,rfl,zAz (by simp only [qM,qN,qR,l.out,al.out];omega) a3,cb⟩
 obtain⟨gf,c5⟩:∃q,q=wc:=⟨_,rfl⟩
 subst c5;obtain⟨fs,ft,rfl,o,d⟩:=hcut;have bp:=qG (show(tx.take i2++(V++tx.drop i2)).length=L+u by simp only [qM,qN,qR,l.out,al.out];omega);obtain⟨fu,c7⟩:∃z,z=tx.take i2++(V++tx.drop i2):=⟨_,rfl⟩
 rw [<- c7]at o bp;have e4:=qG c7;have x:=qG (zD o an.1.2);clear o c7 Y av b5 b6 b7 b8 aw ax C;have e5:=goA ej an H d;have cd:=goN (q:=Ro D fs (L+u) ft fu) (goS an d) (⟨x,bp⟩);clear d an ej;clear x;clear hi' bh bi bj bg;obtain⟨c8,eu⟩:∃z,z=L+t:=⟨_,rfl⟩
 rw [<- eu]at bo cd |-;have e6:L<=c8∧c8<=L+9∧0<c8:=by omega
 clear eu;obtain⟨c9,ev⟩:∃z,z=L+u:=⟨_,rfl⟩
 rw [<- ev]at bp cd |-;have e7:L<=c9∧c9<=L+9∧0<c9:=by omega
 clear ev;refine ‹∀ (a:Act) (w:World),Code.wp prog _ _ a w->_› _ _ ?_;exact brB cd e5 cj dj H b0 b1 e0 e1 e6 e7 da l ak al bo bp e3 e4
end Go.Proofs.YtmjanhcplcalfaaGreatDoor
