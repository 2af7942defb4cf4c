import Derived.Test.YtljdnoinennfaaaGreatDoorMq37
import Derived.Test.YtljdnoinennfaaaGreatDoorMq38
import Derived.Test.YtljdnoinennfaaaGreatDoorMq46
import Derived.Test.YtljdnoinennfaaaGreatDoorMq12
import Derived.Test.YtljdnoinennfaaaGreatDoorMq14
import Derived.Test.YtljdnoinennfaaaGreatDoorMq15
set_option linter.all false
set_option maxRecDepth 100000
set_option maxHeartbeats 8000000
namespace Go.Proofs.YtljdnoinennfaaaGreatDoor
open Go Go.RowKit
theorem insLaw (Y Z:List Int) (v u:Value) (w:World) (cj:Rd .u8 w v Y) (G:∀z∈Y,0<=z∧z<=255) (g4:Y.length<=1048576) (ck:Rd .u8 w u Z) (g5:∀z∈Z,0<=z∧z<=255) (g6:Z.length<=1048576) (eg:w.cell? ⟨0,0,none⟩=some (.iface 215 (.agg #[.pointer (qK 2 73)]))) (g7:Tab w):
  Calls Tryz.prog 4 #[v,u] w fun e w'=>e= .returned (.bool true)∧Below w.heap.size w w':=by
 have hv:0<w.heap.size:=xD w _ eg
 have bc:=qG (fun W (d3:Below w.heap.size w W)=>(d3.cell (p:=⟨0,0,none⟩) hv).trans eg)
 have b0:=qG (fun W (d3:Below w.heap.size w W)=>Kq g7 d3 lR)
 have cz:=qG cj;have c0:=qG ck;have c1:=qG G;have c2:=qG g5;have c3:=qG (rd_blk cj);have b1:=qG (rd_blk ck);obtain⟨ao,cap,rfl⟩:=cj.vl;obtain⟨g8,g9,rfl⟩:=ck.vl
 have kb:¬ (1048576:Int)<(Y.length:Int):=by omega
 have kc:¬ (1048576:Int)<(Z.length:Int):=by omega
 clear cj ck G g5 eg g7;go_enter Tryz.func4,Tryz.ntmps4;go_wp2_with fail;refine(new2 Y _ w cz c1 g4).mono ?_;rintro e w1 ⟨rfl,H,a⟩
 have e0:=qG (show SrcB Y (.slice ao Y.length cap) w.heap.size w1 from⟨H,c3⟩)
 have aa:=qG a;have a1:=a.size;have b2:=H.lt;clear H a;go_wp2_with fail;refine(new2 Z _ w1 (c0.below aa) c2 g6).mono ?_;rintro e D ⟨rfl,H,a⟩
 have e1:=qG (show SrcB Z (.slice g8 Z.length g9) w1.heap.size D from⟨H,fun b off cp d d4=>xz (b1 b off cp d d4) a1⟩)
 have e2:=qG (e0.below a b2 lR);have I:=qG (aa.trans (a.mono a1));have kd:=I.size;have c4:=H.lt;clear H a e0 aa;go_wp2_with fail;refine(drawPB Y _ w.heap.size Y.length ao cap D e2 g4).mono ?_;rintro e bs ⟨kx,ky,zs,T,rfl,el,a8,ha,hb,hc,i0,hd,he,cl,⟨g,k0,cm,hf⟩⟩;obtain⟨k1,fv,em⟩:=zj el;obtain⟨cn,co,i1⟩:=zc a8;rw [hf]at em;simp only [xF]at em;obtain⟨rfl,rfl,rfl⟩:=em;subst hf i1
 have c5:BFr zs T:=⟨ha,hb,hc,by omega⟩
 have hw:(T.tx zs).length<=5080:=by have:=c5.txl;omega
 have z3:=cl.size
 have aj:=qG (I.trans (cl.below (B:=w.heap.size) (by omega) (by simp)))
 have e3:=qG he
 have e4:=qG (e1.other cl (by omega) (fun b off cp d d4=>by have:=b1 b off cp d d4;omega))
 have e5:=qG (show PV bs D.heap.size g zs.length cm cn (T.told 0).length co (T.tx zs) 400 from⟨zs,T,rfl,rfl,el,a8,c5,rfl,hd⟩)
 generalize (T.told 0).length=d1 at *;generalize zs.length=d2 at *;generalize T.tx zs=tx at *;obtain⟨h,en⟩:∃h,tx.length=h:=⟨_,rfl⟩;have k:=qG en;rw [en]at hw;clear el a8 ha hb hc i0 hd he cl c5 e2 e1 I en;have bd:=qG ((qO bs.heap.size bs).alloc lR (.cells #[.slice (qK g 0) d2 cm,.slice cn d1 co] 30));have ak:=qG (PX.new e5 lR z3)
 go_upto_region 6 with fail
 generalize bs.alloc (.cells #[.slice (qK g 0) d2 cm,.slice cn d1 co] 30)=im at *;have kf:=bd.size
 have al:=qG (aj.trans (bd.mono (by omega)))
 have e6:=qG (e3.below bd (by omega) lR)
 have e7:=qG (e4.below bd (by omega) lR)
 clear e5 bd e3 e4 aj;generalize bs.heap.size=X at *;obtain⟨bt,ai⟩:=ak.k.c;go_wp2_with fail;refine(pvT ak.v).mono ?_;rintro e i2 ⟨eo,Q,rfl,ep,a⟩;rw [k.out]at ep |-;have kg:=ak.k.lt
 have be:=qG (zD ep (show D.heap.size<=im.heap.size by have:=ak.b;omega))
 have e8:=qG (ak.below a);have ar:=qG (al.trans (a.mono al.size))
 have e9:=qG (e6.below a (by have:=ak.b;omega) lR)
 have b3:=qG (e7.below a (by have:=ak.b;omega) lR)
 clear ep a ak al e6 e7 bt ai;go_wp2_with fail
 refine(size2K Z.length g8 g9 60 i2 g6 ⟨by omega,by omega⟩).mono ?_
 rintro e i3 ⟨r,rfl,hg,rfl⟩;go_wp2_with fail
 refine(zF6 Z _ w1.heap.size r i3 b3 hg.1 (by omega)).mono ?_
 rintro e hh ⟨k2,rfl,hi,H,l⟩;obtain⟨eh,rfl⟩:=xZ hi.1
 have hx:IntKind.i64.wrap (1+(eh:Int))=((eh+1:Nat):Int):=by rw [i64w _ (by omega) (by omega)];omega
 have fa:=qG (e8.draw b3 l)
 have bf:=qG (show own32 hh D.heap.size _ tx from jV be b3 l (by decide))
 have fc:=qG (e9.chg l (by simp;omega))
 have b4:=qG H
 have au:=qG (ar.trans (l.below (B:=w.heap.size) ar.size (by simp;omega)))
 clear H l e8 be e9 b3 ar;go_wp2_with fail
 refine(zGh Z _ w1.heap.size (eh+1) hh b4.1 (by omega)).mono ?_
 rintro e aq ⟨i4,rs,rfl,i5,hj,bu,hk⟩;have l:=Chg.qy bu.grown;have b5:=qG (fa.draw b4 l)
 have bg:=qG (show own32 aq D.heap.size _ tx from jV bf b4 l (by decide))
 have fd:=qG (fc.chg l (by simp;omega))
 have ab:=qG (au.trans (l.below (B:=w.heap.size) au.size (by simp;omega)))
 have c6:=qG bu.own;have kj:=bu.grown.size;have bh:=qG hj;obtain⟨hl,i6,rfl⟩:∃g c,i4= .slice (qK g 0) rs.length c:=ZY bu.own hk
 have hy:1<=rs.length:=by omega
 have kk:rs.length<=240:=by omega
 clear i5 hj bu hk l fa bf fc b4 au hx hi hg;obtain⟨k3,i7,i8,i9,jb⟩:=xM Tryz.qw
 have ac:=qG (show(aq.alloc (.cells #[] 5)).ownsRow aq.heap.size 5 1 (.slice (qK aq.heap.size 0) 0 0) 0 []from ke aq #[] 0 lR (xP _) rfl)
 have c7:=qG ((qO aq.heap.size aq).alloc lR (.cells #[] 5));have fe:=qG ((zA c6 c7 lR).cells (g:=hl) rfl)
 go_wp2_with (at_builtin;refine a22 _ rfl _ _ rfl aq.heap.size _ _ _ rfl ac ⟨hl,0,none⟩ rs.length i6 (ints .u8 rs) rfl (by rw [zC,vI]) fe (zF _ _) (by unfold maxLen;omega) (by omega) (by simp) ?_;intro U cg C N _)
 rw [xJ,xN]at C
 have a:=c7.grown N (by simp) (fun q az=>(ac.lt q az).1)
 have ff:=qG C;have a2:=qG (b5.below a);have bi:=qG (zA bg a lR)
 have fg:=qG (fd.below a (by have:=b5.k.lt;have:=b5.b;omega) lR)
 have fh:=qG (zA c6 a lR);have F:=qG (ab.trans (a.mono ab.size));clear C N a ac c7 fe b5 bg fd c6 ab i7 i8 i9 jb
 refine(zF5 rs U cg (Rd.qd ff) bh (b0 _ F) (by omega)).mono ?_
 rintro e jj ⟨k4,rfl,eq,a⟩;have hz:=ju rs;have bj:=decs_pos hy;obtain⟨er,cp,rfl⟩:=Zo eq bj;have a3:=qG eq;have fi:=qG (a2.below a);have fj:=qG (zA bi a lR)
 have h0:w.heap.size<cg.heap.size:=by have:=a2.k.lt;have:=a2.b;omega
 have fk:=qG (fg.below a h0 lR);have fl:=qG (zA fh a lR);have av:=qG (F.trans (a.mono F.size));have fm:=a.size
 have h1:D.heap.size<=cg.heap.size:=by have:=a2.k.lt;have:=a2.b;omega
 clear eq a a2 bi fg fh F ff;go_wp2_with fail
 refine(specDec rs _ jj (Rd.qd fl) bh (by omega)).mono ?_
 rintro e a9 ⟨k5,rfl,es,a⟩;have c8:=qG (zGk bh);have c9:=qG (J5 _ rs lR bh);generalize decs rs=f at *;obtain⟨m,et⟩:∃m,f.length=m:=⟨_,rfl⟩;have o:=qG et;rw [et]at a3 hz bj es |-;have fn:=qG es
 have aw:=qG (show own32 a9 D.heap.size (.slice (qK er 0) m cp) f from zA (zD (zAt o a3) h1) a lR)
 have ax:=qG (fi.below a);have fo:=qG (zA fj a lR)
 have fp:=qG (fk.below a (by omega) lR)
 have ad:=qG (av.trans (a.mono av.size));have kp:cg.heap.size<=a9.heap.size:=vV fm a.size;clear et es a a3 fi fj fk fl av bh fm;go_wp2_with fail
 refine(Xe f _ _ a9 (Rd.qd aw) (Rd.qd (zAt o fn)) (by rw [o.out];omega)).mono ?_
 rintro e cq ⟨rfl,nq,rfl⟩;have a:=zi (w:=a9) (w':=a9.drewN nq) rfl rfl rfl rfl;have bk:=qG (zA aw a lR);have fq:=qG (ax.below a);have fr:=qG (zA fo a lR)
 have bl:=qG (fp.below a (by omega) lR)
 have ay:=qG (ad.trans (a.mono ad.size));clear a aw ax fo fp ad fn;generalize a9.drewN nq=io at *
 have h2:IntKind.i64.wrap ((h:Int)+1)=(h:Int)+1:=i64w _ (by omega) (by omega)
 go_wp2_with fail
 refine(zF6 Y _ w.heap.size ((h:Int)+1) io bl (by omega) (by omega)).mono ?_
 rintro e E ⟨oi,rfl,a8,H,l⟩;obtain⟨i,rfl⟩:=xZ a8.1
 have da:i<=h:=by omega
 have db:=qG (show own32 E D.heap.size _ f from jV bk bl l (by decide))
 have b6:=qG (fq.draw bl l)
 have bm:=qG (show own32 E D.heap.size _ tx from jV fr bl l (by decide))
 have dc:=qG (ay.trans (l.below (B:=w.heap.size) ay.size (by simp)))
 clear H l bk fq fr bl ay h2 a8;obtain⟨eu,hi',cr,ct,cu⟩:=xM Tryz.infoBr;have dd:=own_capK k bm;have h3:=dd.1;have h4:=dd.2
 have h5:i<=Q:=by omega
 clear dd
 go_upto_region 12 with fail
 go_cut [12] (fun d5 O=>∃ag ah,d5= .slice (qK ag 0) (i+m) ah∧O.ownsRow E.heap.size 21 1 (.slice (qK ag 0) (i+m) ah) (i+m) (ints .i32 (tx.take i++f))∧Below E.heap.size E O)
 case first=>
  as_aux_lemma=>
   go_wp2_with fail
   refine(cpTakeK (i:=i) k bm da (by omega)).mono ?_
   rintro e jm ⟨k6,k8,rfl,hm,cv⟩;have fs:=qG (hm);have ab:=qG (cv)
   have h6:=qG (own_srcK o (show own32 jm D.heap.size (.slice (qK er 0) m cp) f from zA db cv lR))
   have ft:=cv.size;clear hm cv
   go_wp2_with (at_builtin;refine qR _ rfl _ _ 25 rfl E.heap.size 21 eu (.int .i32 0) 1 4 Tryz.underlying25 hi' cr ct cu rfl (by decide) _ i (ints .i32 (tx.take i)) rfl fs ⟨er,0,none⟩ m cp (ints .i32 f) rfl (by rw [zC,o.out,vI]) h6 (zF _ _) (by unfold maxLen;omega) (by omega) ft ?_;intro U O C N ap)
   have am:U≠ .slice none 0 0:=fun e=>by have:=(ap.1 e).1;cases this
   have an:=qG (show O.ownsRow E.heap.size 21 1 U (i+m) (ints .i32 (tx.take i++f))from by rw [zZ];exact C)
   have bn:=qG (ab.grown N ft (fun q az=>(fs.lt q az).1))
   obtain⟨ag,ah,bv⟩:=ZY an am;subst bv;clear C N ap am;go_wp2;go_meet;exact⟨ag,ah,rfl,an,bn⟩
 case rest=>
  obtain⟨O,a0⟩:∃q,q=wc:=⟨_,rfl⟩;subst a0;obtain⟨ag,ah,rfl,C,cw⟩:=hcut;have ac:=qG (C);have F:=qG (cw);have bo:=cw.size
  have bi:=qG (show own32 O D.heap.size (.slice (qK eo 0) h Q) tx from zA bm cw lR)
  clear C cw
  go_upto_region 13 with fail
  go_cut [12] (fun d5 a6=>∃g2 g3,d5= .slice (qK g2 0) (h+m) g3∧a6.ownsRow E.heap.size 21 1 (.slice (qK g2 0) (h+m) g3) (h+m) (ints .i32 (tx.take i++(f++tx.drop i)))∧Below E.heap.size E a6)
  case first=>
   as_aux_lemma=>
    by_cases il:Q=i
    ·have h7:=qG (show tx.drop i= []from kt (by rw [k.out];omega))
     obtain rfl:h=i:=by omega
     subst il
     go_wp2_with (at_builtin;refine qR _ rfl _ _ 25 rfl E.heap.size 21 eu (.int .i32 0) 1 4 Tryz.underlying25 hi' cr ct cu rfl (by decide) _ (Q+m) (ints .i32 (tx.take Q++f)) rfl ac ⟨eo,0,none⟩ 0 _ (ints .i32 []) rfl (by simp [ints]) (by intro j u d0;simp [ints]at d0) (zF _ _) (by unfold maxLen;omega) (by omega) bo ?_;intro U O C N ap)
     have am:U≠ .slice none 0 0:=fun e=>by have:=(ap.1 e).1;cases this
     have an:=qG (show O.ownsRow E.heap.size 21 1 U (Q+m) (ints .i32 (tx.take Q++(f++tx.drop Q)))from by rw [h7.out,show(Q+m)=(Q+m)+0 by omega,kA];simpa [ints]using C)
     have bn:=qG (F.grown N bo (fun q az=>(ac.lt q az).1))
     obtain⟨ag,ah,bv⟩:=ZY an am;subst bv;clear C N ap am;go_wp2;go_meet;exact⟨ag,ah,rfl,an,bn⟩
    ·have h8:=qG (zGt k bi i (by omega))
     have h9:=qG (show(ints .i32 (tx.drop i)).length=(h - i)*1 by rw [zC,qS,k.out,vI])
     go_wp2_with (at_builtin;refine qR _ rfl _ _ 25 rfl E.heap.size 21 eu (.int .i32 0) 1 4 Tryz.underlying25 hi' cr ct cu rfl (by decide) _ (i+m) (ints .i32 (tx.take i++f)) rfl ac ⟨eo,i,none⟩ (h - i) (Q - i) (ints .i32 (tx.drop i)) rfl h9 h8 (zF _ _) (by unfold maxLen;omega) (by omega) bo ?_;intro U O C N ap)
     have am:U≠ .slice none 0 0:=fun e=>by have:=(ap.1 e).1;cases this
     have an:=qG (show O.ownsRow E.heap.size 21 1 U (h+m) (ints .i32 (tx.take i++(f++tx.drop i)))from by rw [show(h+m)=(i+m)+(h - i)by omega,<- xq,zZ];exact C)
     have bn:=qG (F.grown N bo (fun q az=>(ac.lt q az).1))
     obtain⟨ag,ah,bv⟩:=ZY an am;subst bv;clear C N ap am;go_wp2;go_meet;exact⟨ag,ah,rfl,an,bn⟩
  case rest=>
   obtain⟨x,a0⟩:∃q,q=wc:=⟨_,rfl⟩;subst a0;obtain⟨j0,j1,rfl,hn,a⟩:=hcut
   have S:=qG (show(tx.take i++(f++tx.drop i)).length=h+m by simp only [qM,qN,qS,k.out,o.out];omega)
   have ia:D.heap.size<=E.heap.size:=by have:=b6.k.lt;have:=b6.b;omega
   have de:=qG (show((tx.take i++(f++tx.drop i)).drop i).take (i+m - i)=f by rw [Qm (by rw [qN,k.out];omega),show i+m - i=m by omega,Ql o.out])
   have df:=qG (show((tx.take i++(f++tx.drop i)).drop 0).take (h+m - 0)=tx.take i++(f++tx.drop i)by rw [vZ,Nat.sub_zero,xE (by rw [S.out];exact lR)])
   have dg:=qG (show own32 x D.heap.size (.slice (qK j0 0) (h+m) j1) (tx.take i++(f++tx.drop i))from zD (zAt S hn) ia)
   have b7:=qG (zA db a lR);have b8:=qG (b6.below a);have dh:=qG (zA bm a lR);have aa:=qG (dc.trans (a.mono dc.size));clear hn a ac F bo bi db b6 bm dc h5 h3 h4 hi' cr ct cu
   have fu:=qG (fun(P:World) (ei:PV P D.heap.size g d2 cm cn d1 co tx 400) (ej ek I:Nat) (ht:own32 P I (.slice (qK ej 0) m ek) f) (a:Below w.heap.size w P)=>pvI (off:=i) ei ht o bj (by rw [k.out];exact da) (by rw [k.out];omega) (by omega) (bc P a))
   have di:=qG (fun(P:World) (B n iw:Nat) (iy:Option Addr) (s cs:Nat) (iz:Option Addr) (ei:LQ P B iy n iw iz s cs tx) (ej ek I:Nat) (ht:own32 P I (.slice (qK ej 0) m ek) f) (a:Below w.heap.size w P)=>lqI (off:=i) ei ht o bj (by rw [k.out];exact da) (by rw [k.out];omega) (bc P a))
   have dj:=qG (fun(P:World) (g c base:Nat) (d0:own32 P base (.slice (qK g 0) m c) f)=>cpK o d0 (by omega))
   generalize tx.take i++(f++tx.drop i)=ch at *;obtain⟨ev,ew⟩:=b8.k.c;have dk:=b8.k.lt
   go_upto_region 14 with fail
   go_cut [13,14] (fun iq ir wc=>∃a7 d6 d7 d8 d9 ea eb,iq= .pointer (qK a7 0)∧ir=qJ 0∧PX wc x.heap.size a7 d6 d7 d8 d9 ea eb ch (400+m)∧Below x.heap.size x wc)
   case first=>
    as_aux_lemma=>
     clear dg dh di de df S c8 c9 k b0 cz c0 c1 c2 c3 b1
     go_region_with (first
      | (go_at_call 9;refine(dj _ _ _ _ (by first | exact zA b7 (zi rfl rfl rfl rfl) lR | exact zA b7 (zAl rfl rfl rfl rfl) lR)).mono ?_;rintro e A ⟨br,j2,rfl,bw,G⟩;have J:Hid (Below x.heap.size x A):=(by first | exact qG (zRe G rfl rfl rfl rfl) | exact qG (zRa (.cells #[.slice none 0 0,.slice none 0 0] 30) (zRe (x:=x.alloc (.cells #[.slice none 0 0,.slice none 0 0] 30)) G rfl rfl rfl rfl)));have bp:=qG bw;have y:=J.size;(first | (have a4:=qG (zD2 (x:=x) (u:=.slice none 0 0) (v:=.slice none 0 0) (t:=30) (zRe (x:=x.alloc (.cells #[.slice none 0 0,.slice none 0 0] 30)) G rfl rfl rfl rfl))) | skip);have K:=qG (b8.below J);have ae:=qG (aa.trans (J.mono aa.size));have ib:=K.k.lt;have ic:=K.k.c.1;have fv:=K.k.c.2;clear bw G)
      | (go_at_call 12;refine(fu _ (by first | exact K.v.below (zi rfl rfl rfl rfl) | exact K.v.below (zAl rfl rfl rfl rfl)) _ _ _ (by first | exact zA bp (zi rfl rfl rfl rfl) lR | exact zA bp (zAl rfl rfl rfl rfl) lR) (by first | exact ae.trans ((zi rfl rfl rfl rfl).mono ae.size) | exact ae.trans ((zAl rfl rfl rfl rfl).mono ae.size))).mono ?_;rintro e bx ⟨d6,d7,d8,d9,ea,eb,rfl,ba,R⟩;have af:Hid (Below x.heap.size x bx):=(by first | exact qG (J.trans ((zRe (x:=A) R rfl rfl rfl rfl).mono y)) | exact qG (J.trans ((zRa (.cells #[.slice none 0 0,.slice none 0 0] 30) (zRe (x:=A.alloc (.cells #[.slice none 0 0,.slice none 0 0] 30)) R rfl rfl rfl rfl)).mono y)));have a5:=qG (show PV bx A.heap.size _ _ _ _ _ _ _ _ from ba.base (by first | exact lR | simp));have bq:=af.size;(first | (have L:=qG ((a4.below (zRe (x:=A) R rfl rfl rfl rfl) a4.lt));have dl:=L.c.1;have dm:=L.c.2;have dn:=L.fz 0;have a1:=L.fz 1) | (have M:=qG (zD2 (x:=A) (u:=.slice none 0 0) (v:=.slice none 0 0) (t:=30) (zRe (x:=A.alloc (.cells #[.slice none 0 0,.slice none 0 0] 30)) R rfl rfl rfl rfl));have dl:=M.c.1;have dm:=M.c.2;have dn:=M.fz 0;have a1:=M.fz 1) | skip);clear R ba))
     all_goals (
      go_wp2_with fail;go_meet
      first
       | exact⟨_,_,_,_,_,_,_,rfl,rfl,PX.set L a5 y lR,(af.setCell lR _).setCell lR _⟩
       | exact⟨_,_,_,_,_,_,_,rfl,rfl,PX.set M a5 y y,(af.setCell (by simpa using y) _).setCell (by simpa using y) _⟩
       | exact⟨_,_,_,_,_,_,_,rfl,rfl,PX.new a5 y bq,af.alloc bq _⟩)
   case rest=>
    obtain⟨k9,a0⟩:∃q,q=wc:=⟨_,rfl⟩;subst a0;obtain⟨a7,d6,d7,d8,d9,ea,eb,rfl,rfl,bz,a⟩:=hcut;clear ev ew dk fu;have b9:=qG bz;have kq:=a.size;clear bz;clear b8;have fw:=qG (zA dg a lR);have fy:=qG (zA b7 a lR);have fz:=qG (zA dh a lR);have I:=qG (aa.trans (a.mono aa.size));clear a dg b7 dh aa;obtain⟨bt,ai⟩:=b9.k.c
    have id:IntKind.i64.wrap ((i:Int)+(m:Int))=((i+m:Nat):Int):=by rw [i64w _ (by omega) (by omega)];omega
    go_wp2_with fail;refine(pvC b9.v).mono ?_;rintro e la ⟨lb,kw,lc,ld,rfl,d,a⟩;have f0:=qG d;clear d bt ai;have f1:=qG (zA fw a lR);have Q3:=qG (zA fy a lR);have T3:=qG (zA fz a lR);have aj:=qG (I.trans (a.mono I.size));have f2:=qG (b9.below a);clear a fw fy fz I b9;go_wp2_with fail
    refine(pvS (i:=i) (j:=i+m) f0 (by omega) (by rw [S.out];omega) (bc _ aj)).mono ?_
    rintro e lf ⟨lg,rfl,d,a⟩;rw [de.out]at d
    obtain⟨lh,li,ho⟩:=Zo d (by rw [o.out];exact bj)
    rw [o.out]at ho;subst ho;have f3:=qG d;have kr:=aj.size;clear d f0 de id;have f4:=qG (zA f1 a lR);have f5:=qG (zA Q3 a lR);have f6:=qG (zA T3 a lR);have al:=qG (aj.trans (a.mono aj.size));have ca:=qG (f2.below a);clear a f1 Q3 T3 aj f2;obtain⟨bt,ai⟩:=ca.k.c;go_wp2_with fail
    refine(pvS (i:=0) (j:=h+m) ca.v (by omega) (by rw [S.out];exact lR) (bc _ al)).mono ?_
    rintro e cx ⟨lj,rfl,d,a⟩;rw [df.out]at d
    obtain⟨lk,ll,hp⟩:=Zo d (by rw [S.out];omega)
    rw [S.out]at hp;subst hp;have f7:=qG d;clear d bt ai df;have f8:=qG (zA f4 a lR);have dp:=qG (zA f5 a lR);have be:=qG (zA f6 a lR);have ar:=qG (al.trans (a.mono al.size));have ie:=qG (ca.below a);have dq:=qG (zA f3 a lR);clear a f4 f5 f6 al ca f3;clear ie;go_wp2_with fail
    refine(Xe f _ _ cx (Rd.qd dq) (Rd.qd dp) (by rw [o.out];omega)).mono ?_
    rintro e cq ⟨rfl,nq,rfl⟩;have a:=zi (w:=cx) (w':=cx.drewN nq) rfl rfl rfl rfl;have f9:=qG (zA f7 a lR);clear f7;have dr:=qG (zA f8 a lR);have ga:=qG (zA dp a lR);have bf:=qG (zA be a lR);have au:=qG (ar.trans (a.mono ar.size));have gb:=qG (zA dq a lR);clear a f8 dp be ar dq;generalize cx.drewN nq=ci at *;go_wp2_with fail
    refine(Xe ch _ _ ci (Rd.qd f9) (Rd.qd dr) (by rw [S.out];omega)).mono ?_
    rintro e cq ⟨rfl,nq,rfl⟩;have a:=zi (w:=ci) (w':=ci.drewN nq) rfl rfl rfl rfl;clear f9;have gc:=qG (zA dr a lR);have gd:=qG (zA ga a lR);have bg:=qG (zA bf a lR);have ab:=qG (au.trans (a.mono au.size));have ge:=qG (zA gb a lR);clear a dr ga bf au gb;generalize ci.drewN nq=kv at *;go_wp2_with fail
    refine(cpK k bg (by omega)).mono ?_
    rintro e O ⟨lm,cc,rfl,d,a⟩;have gf:=qG d;clear d bg;have gg:=qG (zA gc a lR);have gh:=qG (zA gd a lR);have F:=qG (ab.trans (a.mono ab.size));have gi:=qG (zA ge a lR);clear a gc gd ab ge;go_wp2_with fail
    have ds:=qG (lqL (tx:=tx) (by rw [k.out];exact gf) (by rw [k.out];omega) (bc _ F))
    rw [k.out]at ds;refine ds.mono ?_;rintro e a6 ⟨b2,hq,hr,c4,hs,hu,rfl,d,a⟩;have ig:=a.size;have gj:=qG ((qO a6.heap.size a6).alloc lR (.cells #[.slice b2 hq hr,.slice c4 hs hu] 36));have ax:=qG (LX.new d lR ig);clear d gf ds;have gk:=qG (zA gg a lR);have a3:=qG (zA gh a lR);have av:=qG (F.trans (a.mono F.size));have gm:=qG (zA gi a lR);clear a gg gh F gi
    go_upto_region 22 with fail
    generalize a6.alloc (.cells #[.slice b2 hq hr,.slice c4 hs hu] 36)=V at *;have a:=gj;clear gj;have dt:=qG (zA gk a lR);have aw:=qG (zA a3 a lR);have ad:=qG (av.trans (a.mono av.size));have cb:=qG (zA gm a lR);clear a gk a3 av gm;obtain⟨ev,ew⟩:=ax.k.c;have dk:=ax.k.lt
    go_upto_region 22 with fail
    go_cut [21,22] (fun it iu wc=>∃a7 br ec ai ed ee ef,it= .pointer (qK a7 0)∧iu=qJ 0∧LX wc V.heap.size a7 br ec ai ed ee ef ch∧Below V.heap.size V wc)
    case first=>
     as_aux_lemma=>
      clear dt aw S c8 c9 k b0 cz c0 c1 c2 c3 b1
      go_region_with (first
       | (go_at_call 9;refine(dj _ _ _ _ (by first | exact zA cb (zi rfl rfl rfl rfl) lR | exact zA cb (zAl rfl rfl rfl rfl) lR)).mono ?_;rintro e A ⟨br,j2,rfl,bw,G⟩;have J:Hid (Below V.heap.size V A):=(by first | exact qG (zRe G rfl rfl rfl rfl) | exact qG (zRa (.cells #[.slice none 0 0,.slice none 0 0] 36) (zRe (x:=V.alloc (.cells #[.slice none 0 0,.slice none 0 0] 36)) G rfl rfl rfl rfl)));have bp:=qG bw;have y:=J.size;(first | (have a4:=qG (zD2 (x:=V) (u:=.slice none 0 0) (v:=.slice none 0 0) (t:=36) (zRe (x:=V.alloc (.cells #[.slice none 0 0,.slice none 0 0] 36)) G rfl rfl rfl rfl))) | skip);have K:=qG (ax.below J);have ae:=qG (ad.trans (J.mono ad.size));have ib:=K.k.lt;have ic:=K.k.c.1;have fv:=K.k.c.2;clear bw G)
       | (go_at_call 13;refine(di _ _ _ _ _ _ _ _ (by first | exact K.v.below (zi rfl rfl rfl rfl) | exact K.v.below (zAl rfl rfl rfl rfl)) _ _ _ (by first | exact zA bp (zi rfl rfl rfl rfl) lR | exact zA bp (zAl rfl rfl rfl rfl) lR) (by first | exact ae.trans ((zi rfl rfl rfl rfl).mono ae.size) | exact ae.trans ((zAl rfl rfl rfl rfl).mono ae.size))).mono ?_;rintro e bx ⟨br,ec,ai,ed,ee,ef,rfl,ba,R⟩;have af:Hid (Below V.heap.size V bx):=(by first | exact qG (J.trans ((zRe (x:=A) R rfl rfl rfl rfl).mono y)) | exact qG (J.trans ((zRa (.cells #[.slice none 0 0,.slice none 0 0] 36) (zRe (x:=A.alloc (.cells #[.slice none 0 0,.slice none 0 0] 36)) R rfl rfl rfl rfl)).mono y)));have a5:=qG (show LQ bx A.heap.size _ _ _ _ _ _ _ from ba.base (by first | exact lR | simp));have bq:=af.size;(first | (have L:=qG ((a4.below (zRe (x:=A) R rfl rfl rfl rfl) a4.lt));have dl:=L.c.1;have dm:=L.c.2;have dn:=L.fz 0;have a1:=L.fz 1) | (have M:=qG (zD2 (x:=A) (u:=.slice none 0 0) (v:=.slice none 0 0) (t:=36) (zRe (x:=A.alloc (.cells #[.slice none 0 0,.slice none 0 0] 36)) R rfl rfl rfl rfl));have dl:=M.c.1;have dm:=M.c.2;have dn:=M.fz 0;have a1:=M.fz 1;have ih:=qG (ba.base (B':=A.heap.size+1) (by simp))) | skip);clear R ba))
      all_goals (
       go_wp2_with fail;go_meet
       first
        | exact⟨_,_,_,_,_,_,_,rfl,rfl,LX.set L a5 y lR (by have du:=a4.lt;exact du),(af.setCell lR _).setCell lR _⟩
        | exact⟨_,_,_,_,_,_,_,rfl,rfl,LX.set M ih (by omega) y (by omega),(af.setCell (by simpa using y) _).setCell (by simpa using y) _⟩
        | exact⟨_,_,_,_,_,_,_,rfl,rfl,LX.new a5 y bq,af.alloc bq _⟩)
    case rest=>
     obtain⟨ln,a0⟩:∃q,q=wc:=⟨_,rfl⟩;subst a0;obtain⟨lo,br,ec,ai,ed,ee,ef,rfl,rfl,bz,a⟩:=hcut;clear ev ew dk di dj ax;have cd:=qG bz;clear bz;have gn:=qG (zA dt a lR);have bk:=qG (zA aw a lR);have ay:=qG (ad.trans (a.mono ad.size));have go:=qG (zA cb a lR);clear a dt aw ad cb;obtain⟨ex,ey⟩:=cd.k.c;go_wp2_with fail;refine(lqV cd.v).mono ?_;rintro e lp ⟨rfl,a⟩;clear ex ey;have gp:=qG (zA gn a lR);have gq:=qG (zA bk a lR);have dv:=qG (ay.trans (a.mono ay.size));have gr:=qG (zA go a lR);have ce:=qG (cd.below a);clear a gn bk ay go cd;obtain⟨ex,ey⟩:=ce.k.c;go_wp2_with fail;refine(lqT ce.v).mono ?_;rintro e cy ⟨lq,rfl,d,a⟩;have gs:=qG d;clear d ex ey;have gt:=qG (zA gp a lR);have gu:=qG (zA gq a lR);have dw:=qG (dv.trans (a.mono dv.size));have gv:=qG (zA gr a lR);have ii:=qG (ce.below a);clear a gp gq dv gr ce;clear ii;go_wp2_with fail
     refine(Xe ch _ _ cy (Rd.qd gs) (Rd.qd gt) (by rw [S.out];omega)).mono ?_
     rintro e cq ⟨rfl,nq,rfl⟩;have a:=zi (w:=cy) (w':=cy.drewN nq) rfl rfl rfl rfl;clear gs gt;have gw:=qG (zA gu a lR);have dx:=qG (dw.trans (a.mono dw.size));have gx:=qG (zA gv a lR);clear a gu dw gv;generalize cy.drewN nq=ip at *;go_wp2_with fail
     refine(implEnc f _ ip (Rd.qd gx) (by rw [o.out];omega) (fun z iv=>by have du:=c9 z iv;unfold real at du;omega)).mono ?_
     rintro e j3 ⟨j4,rfl,d,a⟩;have ij:=Jk f;rw [o.out]at ij;have gy:=qG d;clear d gx;have gz:=qG (zA gw a lR);have cf:=qG (dx.trans (a.mono dx.size));clear a gw dx;go_wp2_with fail
     have dy:=qG (zF5 (encs f) j4 j3 (Rd.qd gy) (Xl f) (b0 _ cf) (by omega))
     rw [c8.out]at dy;refine dy.mono ?_;rintro e ez ⟨lr,rfl,d,a⟩;have g0:=qG d;clear d dy gy;have g1:=qG (zA gz a lR);have dz:=qG (cf.trans (a.mono cf.size));clear a gz cf;go_wp2_with fail
     refine(Xe f _ _ ez (Rd.qd g0) (Rd.qd g1) (by rw [o.out];omega)).mono ?_
     rintro e cq ⟨rfl,nq,rfl⟩;have a:=zi (w:=ez) (w':=ez.drewN nq) rfl rfl rfl rfl;clear g0 g1;have ik:=qG (dz.trans (a.mono dz.size));clear a dz;go_wp2;go_ret;exact⟨rfl,ik⟩
end Go.Proofs.YtljdnoinennfaaaGreatDoor
