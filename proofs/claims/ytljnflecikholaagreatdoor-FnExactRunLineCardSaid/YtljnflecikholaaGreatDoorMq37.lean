import Derived.Test.YtljnflecikholaaGreatDoorMq30
import Derived.Test.YtljnflecikholaaGreatDoorMq32
import Derived.Test.YtljnflecikholaaGreatDoorMq26
import Derived.Test.YtljnflecikholaaGreatDoorMq33
set_option linter.all false
set_option maxRecDepth 100000
set_option maxHeartbeats 8000000
namespace Go.Proofs.YtljnflecikholaaGreatDoor
open Go Go.RowKit Go.Proofs.Tryz
def KU(a:qS)(b o):a.setCells b o []=a:=rfl
def one3(ao)(n c)(x y):∀a∈ [Value.slice ao n c,qC x,qC y],a.oneCell'=true:=by
 intro a b;simp at b;rcases b with rfl | rfl | rfl<;>rfl
noncomputable def midI (x:Gr) (cc:Nat) (ts:List Int):List Gr:=if(yI ts).length=1 then [jh x cc ts]else Ey x cc (yI ts)
def zA3(gs)(st)(ar c)(x)(ts)(b o P ct)(vr vt)(lo cq)(w)(X:Zh w lo cq vr vt gs st)(lm:cq<=w.heap.size)(N:gs.length<=8193)(cg:1<=gs.length)(fc:∀x∈gs,Kq x.cells x.lo x.hi)(hu:jR (gs.map zK)+gs.length<=4194304)(hv:∀x∈gs,x.cells.length<=1048576)(hw:1<=st.length)(ln:st.length<=gs.length)(cn:(jn (gs.map zK)).length+P<=8192)(hx:ar<=(jn (gs.map zK)).length)(fd:Ln (gs.map zK) ar c)(cs:gs[c]?=some x)
  (hy:ts.length=P) (n9:1<=P) (lp:b<w.heap.size) (oa:P<=ct) (fe:ct<=maxLen) (du:∀bz,bz<ts.length->w.cell? (qP b (o+bz))=some (.int .i32 (ts.getD bz 0))):
  Calls prog 16 #[.agg #[vr,vt],qC ar,qM (qD b o) P ct] w λA ay=>∃(hq hr:qT),A=qQ (.agg #[hq,hr])/\Zh ay w.heap.size ay.heap.size hq hr (gs.take c++midI x (ar-zq (gs.map zK) c) ts++gs.drop (c+1)) ((jL (gs.map zK)).take (c+1))/\qY w ay:=by
 obtain⟨lr,lt,lu,lv,lw⟩:=vw Tryz.infoGPT;obtain⟨fg,fh,lx,fi,ly⟩:=vw Tryz.qc;have d2:=zC (((xe w.heap.size w).alloc lR (qR #[vr,vt] 28)).alloc qH (qR #[qN,qN] 28));have ft:=zC ((D2.new w vr vt 28).below ((xe _ _).alloc lR (qR #[qN,qN] 28)) qH);have d3:=zC (D2.new (w.alloc (qR #[vr,vt] 28)) qN qN 28);have fu:(w.alloc (qR #[vr,vt] 28)).heap.size=w.heap.size+1:=qH
 rw[fu]at d3;have fv:((w.alloc (qR #[vr,vt] 28)).alloc (qR #[qN,qN] 28)).heap.size=w.heap.size+2:=qH
 have fw:=zC (Og gs st ar vr vt lo cq _ (X.below d2 lm) (by rw[fv];omega) N cg fc hu hv hw ln qF);obtain⟨lz,l0,l1,l2,rfl,rfl⟩:=X.val;have fx:=zC fd;have b3:(gs.map zK)[c]?=some (zK x):=by rw[xZ,cs];rfl
 have im:=fd.colS hx b3;have fy:=fc x (xH cs)
 have d4:=zC (show(zK x).length+P<=8192 from by
   have mo:=Yj b3;have K:=jl (ls:=gs.map zK) (by intro A;rw[A]at b3;simp at b3);have mp:(gs.map zK).length=gs.length:=xO _
   omega)
 have io:=(xp.1 cs).1;have fz:=zC (show(jL (gs.map zK)).length=gs.length by rw[ji,xO]);have f0:=zC cs;obtain⟨g,h1⟩:∃dt,dt=ar-zq (gs.map zK) c:=⟨_,rfl⟩
 have f1:=zC (show(ar-(zq (gs.map zK) c))=(g:Int)by omega);rw[<- h1];have d5:g<=(zK x).length:=qF
 have mq:P<=8192:=qF
 have f2:=zC (show(gs.map zK).length=gs.length by simp);have d6:=zC (λm(M:qY w m)=>(λbz cq=>(M.cell (p:=(qP b (o+bz))) lp).trans (du bz cq)));have HM:=zC hy;have ip:=fe;have f3:=zC fe;have d7:=zC fy;have f4:=zC (show(yI ts).length<=P+1 by have:=(j9 ts).2;omega);have d8:=zC (j9 ts).1;have f5:=zC (λf(b0:f∈yI ts)=>(show f.length<=P from by have:=ZU b0;omega));have d9:=zC (λm M=>rowsS ts b o ct m (d6 m M) (by have:=M.size;omega) qF qF f3);rw[HM.out]at d9;have c0:=zC (show midI x g ts=if(yI ts).length=1 then [jh x g ts]else Ey x g (yI ts)from rfl);generalize k8:midI x g ts=G at *;unfold maxLen at ip;clear X fc hu hv b3 fd cs fu im h1 du cn hx fy hy fe k8;generalize k9:gs.map zK=LS at *;generalize la:jL LS=e7 at *;generalize hl:yI ts=B at *;generalize hm:gs.length=L at *;have ah:=zC hm;have iq:=zC hl;clear hm hl;have mr:¬ (P:Int)=0:=qF
 go_enter func16,ntmps16;go_wp2_with fail;generalize lb:st.length=lh at *;generalize (w.alloc (qR #[qM lz L l0,qM l1 lh l2] 28)).alloc (qR #[qN,qN] 28)=n6 at *;refine fw.mono ?_;rintro A bd ⟨oc,od,a,a0,rfl,fj,fk,b1,cv⟩;obtain rfl:=fj.uniq fx;have ir:=cv.size;have ms:=by have:=fk.2.1;rw[f2.out]at this;exact this
 have mt:=fk.ltS fj qF;have b4:=zC (show(e7.take a0).length=a0 by rw[xi,fz.out];omega);obtain⟨oe,af,og,O,h2,h3⟩:=b1.val;rw[ah.out]at h2;rw[b4.out]at h3;subst h2 h3;obtain⟨j,dw⟩:=b1.rows;have bh:=dw.len;rcases dw.row.2 with ⟨_,i⟩ | ⟨ag,oh,oi,i,-,-,l3,l4,-⟩
 ·simp_all
 rw[ah.out]at i l3;simp at i;obtain⟨rfl,rfl⟩:=i;have hst2:=b1.starts;unfold Zr at hst2;rw[b4.out]at hst2;rcases hst2.2 with ⟨_,i⟩ | ⟨Q,oj,ol,i,-,-,z3,l5,-⟩
 ·omega
 simp at i;obtain⟨rfl,rfl⟩:=i;have bi:=zC (ft.below cv qF);have f6:=zC (d3.below cv qF);have f7:=zC (d2.trans (cv.mono qF));have c1:=bi.fz 0;have ea:=bi.fz 1;have au:=bi.c.1;have aa:=bi.c.2;rw[f1.out]
 have c2:∀a,a≠w.heap.size->((bd.setCell (qP w.heap.size 0) (qM (qD ag 0) L af)).setCell (qP w.heap.size 1) (qM (qD Q 0) a0 O)).heap[a]? =bd.heap[a]?:=λa n7=>by
  rw[kb _ _ _ _ qF,kb _ _ _ _ qF]
 have it:((bd.setCell (qP w.heap.size 0) (qM (qD ag 0) L af)).setCell (qP w.heap.size 1) (qM (qD Q 0) a0 O)).heap.size=bd.heap.size:=qH
 have f8:=zC (dw.frame (λa cg e0=>c2 a qF));have eb:=zC (Zg b1.starts b1.bl (λa cg e0=>c2 a qF));have a3:=zC (bi.set2 (qM (qD ag 0) L af) (qM (qD Q 0) a0 O));have c3:=zC (show D2 ((bd.setCell (qP w.heap.size 0) (qM (qD ag 0) L af)).setCell (qP w.heap.size 1) (qM (qD Q 0) a0 O)) (w.heap.size+1) _ _ _ from(c2 _ qF).trans f6);have bj:=zC (show qY w ((bd.setCell (qP w.heap.size 0) (qM (qD ag 0) L af)).setCell (qP w.heap.size 1) (qM (qD Q 0) a0 O))from(f7.setCell lR _).setCell lR _);clear bi f6 f7 c2 b1 cv fj fk dw hst2 ft d3 fw;go_upto_region 4 with fail;generalize (bd.setCell (qP w.heap.size 0) (qM (qD ag 0) L af)).setCell (qP w.heap.size 1) (qM (qD Q 0) a0 O)=l at *;have bk:=zC (f8.mono (lo':=w.heap.size) (hi':=l.heap.size) qF qF);have ec:=zC (show Zr l w.heap.size _ _ from zF eb qF)
 have ed:=zC (show bel l.heap.size (qM (qD Q 0) (a+1) O)from λi p=>by
  have:=(eb.lt Q rfl).2;simp only[Value.ownBlock,xE]at p
  omega)
 have c4:=bj.size;have b5:=a3.lt;have f9:=c3.lt;have mu:=(bk.row.lt ag rfl).2;clear f8 eb c1 ea au aa hw k9 la lb it ir d2 fv;unfold maxLen at l4 l5;have b6:=zC (λm(M:qY l m)=>bk.frame (λi _ p=>M.block i p));obtain⟨om,av,cw,br⟩:=bk.out.get (by rw[ah.out];exact io);obtain rfl:=by rw[f0.out]at cw;exact vU cw
 have a4:=zC (λm M=>(b6 m M).inner cw br);have c5:=zC (λm M=>(b6 m M).cells ah cw br);obtain⟨am,an,h4⟩:=yw (a4 l (xe _ _));have iu:=zC h4;have ee:=zC (λD li(lj:∀ae∈D,ae∈j)=>Wt (gs:=li) (λae az=>bk.nest.one ae (lj ae az)));have ga:=zC (ee (j.take a) (gs.take a) (λae az=>vO az));have gb:=zC (ee (j.drop (a+1)) (gs.drop (a+1)) (λae az=>vS az));have mv:(a:Int)<L:=qF
 clear cw br h4 ee
 -- the parts
 have gc:=zC (d9 l bj);go_wp2_with fail;refine gc.mono ?_;rintro A u ⟨oo,a1,rfl,dx,h5,h6,cx⟩;have iv:=cx.size;rcases dx.2 with ⟨_,i⟩ | ⟨gl,h7,op,rfl,oq,l6,os,l7,-⟩
 ·have:=d8.out;omega
 unfold maxLen at l7;have mw:=(dx.lt gl rfl).2;have gd:=zC dx;have ge:=zC h5;have gf:=zC h6;have gg:=zC cx;obtain⟨ex,l8,l9⟩:=c5.out u cx;rw[iu.out]at ex a4 c5;generalize dn:x.lo=a9 at *;generalize dp:x.hi=ba at *;generalize n4:x.cells.length=al at *;have ef:=a3.below cx b5;have c6:=ef.c.1;have da:=ef.c.2;have mx:=f4.out;have my:=d8.out;clear dx h5 h6 cx ef gc d9 l6;have db:=zC ((xe u.heap.size u).alloc lR (qR #[qM am al an,qC a9,qC ba] 86));have dc:=zC (Q3.new u (qM am al an) (qC a9) (qC ba) 86);have mz:u.heap.size<(u.alloc (qR #[qM am al an,qC a9,qC ba] 86)).heap.size:=qH
 have dd:=zC (gg.trans (db.mono iv));have eg:=zC (zE gd db lR);have eh:=zC ((ge.frame (λi _ p=>db.block i p)).mono lR (show u.heap.size<=(u.alloc (qR #[qM am al an,qC a9,qC ba] 86)).heap.size by simp));go_upto_region 6 with fail;generalize u.alloc (qR #[qM am al an,qC a9,qC ba] 86)=d at *;clear ex l8 l9 c6 da gd ge db;have de:=zC ((xe d.heap.size d).alloc lR (qR #[] 86));have df:=zC (Ef d 86);have gh:=zC (Hg ((b6 d dd).frame (λi _ p=>de.block i qF)) ah a qF);have gi:=zC (UC bh ah a qF);have ei:=a3.below dd b5;have c6:=ei.c.1;have da:=ei.c.2;have m0:w.heap.size≠d.heap.size:=qF
 have m1:w.heap.size<d.heap.size:=qF
 have m2:ag<d.heap.size:=qF
 have gj:l.heap.size<=d.heap.size:=qF
 clear ei;go_upto_if 41 with (at_builtin;refine QW _ rfl _ _ rfl d.heap.size _ 0 [] rfl df (qP ag 0) a af (zU (j.take a) (gs.take a)) rfl gi gh ga qK qF qH ?_;intro nz a7 ab a8 _)
 rw[xX,vq]at ab;obtain⟨h8,W,ma⟩:=jC ab;subst ma;have ai:=zC (jy.start (dd.trans (de.mono gj)) gj qH df a8 ab);have b7:=zC (de.grown a8 qH (λi p=>(df.lt i p).1));have gk:=b7.size;clear ab a8 df gh de c6 da gi ga
 have b8:=zC (show G.length=if B.length=1 then 1 else B.length from by
  rw[c0.out]
  split
  ·rfl
  rename_i K;unfold Ey
  have gm:B.tail≠ []:=by
   intro A;have:=ko List.length A;rw[QQ]at this;simp at this;omega
  rw[xg,Oa gm,QQ]
  simp;omega)
 have m3:G.length<=P+1:=by rw[b8.out];split<;>omega
 go_cut [9,11]from 12 to 107 (λn8 e8 wc=>∃I J D,e8= .slice I (a+G.length) J/\jy l d.heap.size wc j D gs G a (qM I (a+G.length) J))
 case first=>
  by_cases bs:B.length=1
  ·have iw:=zC (show G= [jh x g ts]by rw[c0.out,xS bs])
   have bl:=zC (zA0 x w.heap.size (qM am al an) g ts (qD b o) P ct a7 (a4 a7 ai.b) (by rw[dn,dp];exact d7) HM.symm (.inr ⟨b,o,ct,by rw[HM.out],qF,d6 a7 (bj.trans (ai.b.mono c4))⟩) d5 (by rw[HM.out];exact d4));have b9:=dc.below b7 (show u.heap.size<d.heap.size by omega);obtain⟨u0,u1,u2⟩:=b9.c;rw[dn,dp]at bl;generalize e5:jh x g ts=aq at *;generalize dq:aq.lo=bt at *;generalize dr:aq.hi=bu at *;generalize lc:aq.cells.length=bv at *;have gn:=zC dq;have go:=zC dr;have iy:G.length=1:=(by rw[b8.out,xS bs]);clear dq dr b9;rw[bs]at *;go_wp2_with fail;refine bl.mono ?_;rintro A v ⟨q,r,rfl,a2,y⟩;have dg:=y.size;have bn:=zC ((zE ai.row0 y lR).alloc (qR #[qM q bv r,qC bt,qC bu] 86));have a5:=zC (zV v 86 [qM q bv r,qC bt,qC bu]);have ao:=zC (fun(Y:qT) (t:qS) (N:(v.alloc (qR #[qM q bv r,qC bt,qC bu] 86)).grownBy t (Value.slice h8 a W).ownBlock) (z:t.ownsRow d.heap.size 86 3 Y (a+1) (zU (j.take a) (gs.take a)++ [qM q bv r,qC bt,qC bu]))=>ai.put0 (x:=aq) bh y a2 (by rw[gn.out,go.out];exact N) (by rw[gn.out,go.out];exact z));clear a2 y bl;go_wp2_with (at_builtin;refine QW _ rfl _ _ rfl d.heap.size _ _ _ rfl bn (qP v.heap.size 0) 1 1 [qM q bv r,qC bt,qC bu] rfl rfl a5 (by intro av br;simp at br;rcases br with rfl | rfl | rfl<;>rfl) qK qF qJ ?_;intro cm aj ac aw _);have ca:=zC (ao cm aj aw ac);obtain⟨dy,c7,cy⟩:=jC ac;subst cy;clear ac aw;go_wp2_with fail;go_meet;exact⟨_,_,_,by rw[iy],by rw[iw.out];exact ca⟩
  generalize ds:B.length=hp at *;obtain⟨e,rfl⟩:∃e,hp=e+2:=⟨hp-2,qF⟩
  have gp:=zC ds;have gq:=zC (show G=Ey x g B by rw[c0.out,xJ bs]);have ej:=zC (show G.length=e+2 by rw[b8.out,xJ bs]);have m4:=d4.out;have dh:Kq x.cells x.lo x.hi:=(by rw[dn,dp];exact d7);have ek:=j7 dh d5 lR;have gr:=zC ek.1;have gt:(zK (delG x g (zK x).length)).length=g:=(by rw[ek.2];simp;omega);have iz:=zC gt
  have el:=zC (fun(c:Nat) (e9:c<e+2)=>(show ∃T h U f,a1[c]?=some (qM (qD T 0) h U)/\B[c]?=some f/\f.length<=P/\h=f.length/\d.cell? (qP gl c)=some (qM (qD T 0) h U)/\jU d l.heap.size (qM (qD T 0) h U) f/\T<d.heap.size from by
   have i0:a1.length=e+2:=(by rw[eh.out.len,ds]);have aa:a1[c]?=some (a1[c]'qF):=(by simp[i0,e9]);have em:B[c]?=some (B[c]'(by rw[ds];exact e9)):=(by simp[ds,e9]);obtain⟨ar,h,U,A⟩:=gf.out _ (xH aa);rw[A]at aa;have z:=eh.own c _ _ aa em;rcases z.2 with ⟨a,_⟩ | ⟨fl,mb,ot,a,_⟩
   ·cases a
   simp at a;obtain⟨rfl,rfl,rfl⟩:=a;refine⟨fl,_,_,_,aa,em,f5 _ (xH em),rfl,?_,z,(z.lt fl rfl).2⟩
   rw[eg.out.cellAt c qF];exact aa))
  have TX:=zC (II x w.heap.size (qM am al an) a7 (a4 a7 ai.b) dh);have en:=zC (fun(m:qS) (M:qY l m)=>Sz x w.heap.size (qM am al an) g (zK x).length m (a4 m M) dh d5 lR);have bl:=zC (fun(ae:qT) (f:Nat) (dv:qV) (hz:qW) (ff h0:Nat) (m:qS) (z:jU m f ae (delG x g (zK x).length).cells) (lq:ff=dv.length) (ob:dv.length<=P) (du:Sl .i32 m (qM hz ff h0) dv)=>zA0 (delG x g (zK x).length) f ae g dv hz ff h0 m z gr lq du qF qF);rw[dn,dp]at TX en;clear ek gt dh;generalize e5:delG x g (zK x).length=aq at *;have i1:=zC e5;obtain⟨fm,fn,fo,fp,mc,h9,md,ia,ib,ic,ou⟩:=el.out 0 qF;generalize p:jh aq g fp=ad at *;have gu:=zC p
  have eo:=zC (show G=ad::Us B.tail ((zK x).drop g)from by
   rw[gq.out];unfold Ey;rw[i1.out]
   have i2:B.headD []=fp:=by
    match B,h9 with
    | ar::pf,mn=>simpa using mn
   rw[i2,gu.out]
   rfl)
  generalize ld:zK x=bc at *;generalize e6:bc.length=s at *;have i3:=zC e6;obtain⟨C,dz⟩:∃C,C=bc.drop g:=⟨_,rfl⟩
  rw[<- dz]at eo;have gv:=zC dz;obtain⟨cr,id⟩:∃cr,cr=s-g:=⟨_,rfl⟩
  have cb:=zC (show C.length=cr by rw[dz,xz,e6,id]);have m5:cr+g<=s:=qF;have m6:s<=cr+g:=qF;have b9:=dc.below b7 (show u.heap.size<d.heap.size by omega);obtain⟨u0,u1,u2⟩:=b9.c
  have cc:=zC (fun(m:qS) (M:qY d m)=>(show(m.cell? (qP u.heap.size 0)=some (qM am al an)/\m.cell? (qP u.heap.size 1)=some (qC a9)/\m.cell? (qP u.heap.size 2)=some (qC ba)/\m.cell? (qP gl 0)=some (qM (qD fm 0) fn fo))from by
   have ep:=dc.below M (show u.heap.size<d.heap.size by omega)
   exact⟨ep.c.1,ep.c.2.1,ep.c.2.2,(M.cell (p:=(qP gl 0)) (show gl<d.heap.size by omega)).trans ib⟩))
  have gw:=zC ic;have gx:=zC ia;have i4:gl<d.heap.size:=qF;generalize dq:aq.lo=bt at *;generalize dr:aq.hi=bu at *;generalize lc:aq.cells.length=bv at *;generalize hn:ad.lo=bw at *;generalize ho:ad.hi=bx at *;generalize lf:ad.cells.length=ax at *;have eq:=zC hn;have er:=zC ho;clear dq dr hn ho h9 mc ib ic dz id e6 ld ia b9 e5 p bs b8 c0 gq;go_upto_region 9 with fail;go_wp2_with fail;refine TX.mono ?_;rintro A v ⟨bf,Z,rfl,ie,⟨ov,e1⟩,y⟩;unfold maxLen at e1;have dg:=y.size;have es:=zC (show PS d v bf s Z bc from⟨b7.trans (y.mono gk),zF ie gk⟩);have gy:=zC y;have bp:=zC (ai.b.trans (y.mono ai.b.size));obtain⟨me,mf,mg,mh⟩:=cc.out v es.b;have m7:u.heap.size<v.heap.size:=qF;have m8:gl<v.heap.size:=qF;have m9:(0:Int)<(e:Int)+2:=qF;have na:(0:Int)<((e+2:Nat):Int):=qF;clear ie y TX u0 u1 u2;go_upto_region 10 with fail;go_cut [11]from 14 to 107 (λe8 wc=>∃I J lk,e8= .slice I (a+1) J/\jy l d.heap.size wc j [lk] gs [ad] a (qM I (a+1) J)/\PS d wc bf s Z bc)
  case first=>
   clear a3 c3 bj bk ec ed b6 c5 a4 f0 f1 fx fz f2 b4 d6 HM f3 d7 f4 d8 f5 ah iq gb eh gf ej eo d4 gv cb el b7 dd gg eg gp i3;have i5:=zC (show a+1<=maxLen by unfold maxLen;omega);have i6:=zC (show(a+1)*40<=140737488355328 by omega)
   go_region_held2 (λay=>ay.cell? (qP u.heap.size 0)=some (qM am al an)/\ay.cell? (qP u.heap.size 1)=some (qC a9)/\ay.cell? (qP u.heap.size 2)=some (qC ba)/\ay.cell? (qP gl 0)=some (qM (qD fm 0) fn fo)) (first | go_keep) (first
    |(go_at_call 41;refine(en _ (by exact(show qY l _ from⟨bp.os,bp.tape,bp.output,bp.size,bp.block⟩))).mono ?_;rintro A aj ⟨ow,ox,rfl,ig,b2⟩;have di:qY v aj:=⟨b2.os,b2.tape,b2.output,b2.size,b2.block⟩;have nb:=di.size;have cd:=zC (es.below di);have i7:=zC (gy.trans (di.mono dg));obtain⟨oy,oz,o0,o1⟩:=cc.out aj cd.b;have i8:=zC (show jU aj v.heap.size _ _ from ig);have et:=zC (bl _ v.heap.size fp (qD fm 0) fn fo aj i8 gx md (Sl.qa (zE gw cd.b lR)));rw[gu.out,lf,eq.out,er.out]at et;clear ig b2 di)
    |(go_at_call 39;refine et.mono ?_;rintro A k ⟨R,c8,rfl,ak,d0⟩;have gz:=d0.size;have g0:=zC (cd.below d0);have eu:qY a7 k:=i7.trans (d0.mono qF);obtain⟨o2,o3,o4,o5⟩:=cc.out k g0.b;have H:=zC ((zE ai.row0 eu lR).alloc (qR #[qM R ax c8,qC bw,qC bx] 86));have g1:jU k a7.heap.size (qM R ax c8) ad.cells:=zF ak qF;have a5:=zC (zV k 86 [qM R ax c8,qC bw,qC bx]);have ao:=zC (fun(Y:qT) (t:qS) (N:(k.alloc (qR #[qM R ax c8,qC bw,qC bx] 86)).grownBy t (Value.slice h8 a W).ownBlock) (z:t.ownsRow d.heap.size 86 3 Y (a+1) (zU (j.take a) (gs.take a)++ [qM R ax c8,qC bw,qC bx]))=>(show jy l d.heap.size t j [qM R ax c8] gs [ad] a Y/\PS d t bf s Z bc from⟨ai.put0 (x:=ad) bh eu g1 (by rw[eq.out,er.out];exact N) (by rw[eq.out,er.out];exact z),g0.grow H N⟩));have nc:u.heap.size<k.heap.size:=qF;have nd:gl<k.heap.size:=qF;have ne:u.heap.size≠k.heap.size:=qF;have nf:gl≠k.heap.size:=qF;have ng:d.heap.size<=k.heap.size:=qF;have i9:=zC (show d.heap.size<=(k.alloc (qR #[qM R ax c8,qC bw,qC bx] 86)).heap.size from(by rw[kE];omega));clear ak d0 eu g1 et)
    |(refine step_append_lies _ rfl _ _ 25 rfl d.heap.size 86 lr (.agg #[qN,qC 0,qC 0]) 3 40 underlying25 lt lu lv lw rfl qG _ a (zU (j.take a) (gs.take a)) rfl (H) (qP k.heap.size 0) 1 1 [qM R ax c8,qC bw,qC bx] rfl rfl (a5) (one3 _ _ _ _ _) Nat.one_pos (i5) (i6) (i9) _ rfl ?_;intro n0 n1 k2 hh hi _ k3;have a6:=ao _ _ hi hh;have ev:=zC a6.1;have dj:=zC a6.2;obtain⟨o6,o7,o8,o9⟩:=cc.out k2 dj.b;clear hh hi k3 a6))
   all_goals
    go_wp2_with fail;go_meet;exact⟨_,_,_,rfl,ev,dj⟩
  obtain⟨mi,mj,u9,rfl,ih,ii⟩:=hcut;have ev:=zC ih;have dj:=zC ii;have g2:B.tail.length=e+1:=(by rw[QQ,gp.out];rfl);have g3:=zC g2;have g4:=zC (fun(c:Nat) (f:qV) (X:B[c+1]?=some f)=>(show B.tail[c]?=some f from by rw[List.getElem?_tail];exact X));clear ih ii g2 en bl me mf mg mh es gy bp ai dc cc gw gx gr iz;go_wp2_with fail;go_loopw [11,13] (λll fa wr=>∃(c:Nat)(D:qU)(E:List Gr)(I:qW)(J:Nat),(1<=c/\c<=e+2)/\fa=qC c/\ll= .slice I (a+c) J/\E.length=c/\jy l d.heap.size wr j D gs E a (qM I (a+c) J)/\(c<e+2->E=ad::(B.tail.take (c-1)).map Y4/\PS d wr bf s Z bc)/\(c=e+2->E=G)) (λ_ fa _=>e+2-(intOf fa).toNat)
  case atStart=>exact⟨1,[u9],[ad],mi,mj,⟨lR,qF⟩,rfl,rfl,rfl,ev,λ_=>⟨qH,dj⟩,λX=>qF⟩
  obtain⟨c,D,E,I,J,⟨pa,pb⟩,rfl,rfl,fq,V,cu,fr⟩:=hrel;have ew:=zC V;by_cases hk:c<e+2
  ·obtain⟨ij,cz⟩:=cu hk
   obtain⟨T,h,U,f,az,b0,pc,ik,au,z,ml⟩:=el c hk;have ex:=(cz.b.cell (p:=(qP gl c)) i4).trans au;have g5:wr.ownsRow d.heap.size 86 3 (qM I (a+c) J) (a+c) (zU (j.take a++D) (gs.take a++E)):=(by have:=V.row;rw[fq]at this;exact this);have dk:=zC g5;have ey:=zC cz;have g6:=zC ij;have ce:=zC fq;have dl:=zC ik;have g7:=zC (zE z cz.b lR);have nh:=cz.b.size;have ni:=V.le.2;have nj:(c:Int)<(e:Int)+2:=qF;have nk:(c:Int)<((e+2:Nat):Int):=qF;have nl:IntKind.i64.wrap ((e:Int)+2-1)=(e:Int)+1:=(by rw[KJ _ qF qF];omega);clear V cu fr ij cz fq g5 au z ik;by_cases k5:c=e+1
   ·obtain rfl:=k5
    have nm:((e:Int)+1==(e:Int)+1)=true:=qH;have nn:(0:Int)<=(e:Int)+1:=qF;have no:(e:Int)+1<(e:Int)+2:=qF;have ez:=zC (zE eg ey.b lR);have g8:=zC (show wr.drew.ownsRow l.heap.size 48 1 (qM (qD gl 0) (e+2) h7) (e+2) a1 from zD ez (λ_ _=>rfl))
    have cf:=zC (show wr.drew.ownsRow l.heap.size 21 1 (qM (qD T 0) h U) h (zI .i32 f)from by
     have K:=g7.out;unfold jU at K;rw[<- dl.out]at K
     exact zD K (λ_ _=>rfl))
    have j0:=zC ew.drew
    have g9:h<=U:=by
     rcases cf.out.2 with ⟨A,_⟩ | ⟨fl,mb,pd,A,_,_,mm,_⟩
     ·cases A
     simp only[jW]at A;obtain⟨_,_,rfl⟩:=A;exact mm
    have np:h<=8192:=(by have:=dl.out;omega);have ha:=zC (fun(k:qS) (ap n W:Nat) (i:qV) (N:wr.drew.grownBy k (some T)) (z:k.ownsRow l.heap.size 21 1 (qM (qD ap 0) n W) n (zI .i32 i)) (p:i.length=n)=>Sy (k:=e+1) j0 g8 qF cf ml N z p);have nq:gl<wr.heap.size:=(ez.lt gl rfl).2;have hb:=zC (fun(m:qS) (cu:m.ownsRow l.heap.size 48 1 (qM (qD gl 0) (e+2) h7) (e+2) a1)=>cu.frozenAt (e+1));have c1:wr.frozen? (qP gl (e+1))=false:=hb wr ez
    have j1:=zC (show E++ [Y4 (f++C)]=G by
     rw[g6.out,eo.out];have cg:=g4 e f b0
     have e0:B.tail.getLastD []=f:=by
      have:=FD g3;rw[cg]at this;exact(vU this).symm
     unfold Us;rw[XD g3.out,e0]
     simp)
    go_upto_region 15 with fail;go_cut []from 64 to 93 (λwc=>∃ap W n,wc.cell? (qP gl (e+1))=some (qM (qD ap 0) n W)/\jU wc l.heap.size (qM (qD ap 0) n W) (f++C)/\jy l d.heap.size wc j D gs E a (qM I (a+(e+1)) J))
    case first=>
     by_cases n3:s<=g
     ·have hc:=zC (show C= []from xL (by rw[cb.out];omega))
      obtain rfl:s=g:=qF;have bq:=zC (ha wr.drew T h U f (yT _ _) cf dl.symm);by_cases k6:Z=s
      ·subst k6
       go_region_law (first
        |(refine step_append_room rfl _ _ 48 rfl 21 fg 1 underlying48 fh fi T 0 h U rfl _ _ _ [] rfl qH qH qH (by simp;exact g9) qH ?_;rw[KU]))
       all_goals
        go_wp2_with fail;go_meet;exact⟨T,U,h,bq.1,by rw[hc.out,vT];exact bq.2.1,bq.2.2⟩
      have j2:¬ (Z:Int)=(s:Int):=qF;have e1:(s:Int)<=(Z:Int):=qF
      go_region_law (first
       |(refine step_append_room rfl _ _ 48 rfl 21 fg 1 underlying48 fh fi T 0 h U rfl _ _ _ [] rfl qH qH qH (by simp;exact g9) qH ?_;rw[KU]))
      all_goals
       go_wp2_with fail;go_meet;exact⟨T,U,h,bq.1,by rw[hc.out,vT];exact bq.2.1,bq.2.2⟩
     have j3:0<s-g:=qF;have j2:¬ (Z:Int)=(g:Int):=qF;have e1:(g:Int)<=(Z:Int):=qF;have nr:(g:Int)<=(s:Int):=qF;have ns:¬Z=g:=qF;have j4:=zC (show(zI .i32 C).length=(s-g)*1 by rw[zG,cb.out];omega)
     have ka:=zC (show ∀S av,(zI .i32 C)[S]?=some av->wr.drew.cell? (((qP bf g):Addr).add S)=some av from by
      intro S av cn;have K:=ey.wh.cells rfl (g+S) av (by rw[gv.out]at cn;simp only[zI,xZ,vJ]at cn |-;exact cn);rw[UF,xX]at K;rw[UF]
      exact K)
     have kc:=zC (show h+(s-g)<=maxLen by unfold maxLen;omega);have kd:=zC (show(h+(s-g))*4<=140737488355328 by omega);have kg:=zC (show l.heap.size<=wr.drew.heap.size from by show l.heap.size<=wr.heap.size;omega);have kk:=zC (show(f++C).length=h+(s-g)by rw[xg,cb.out,<- dl.out];omega)
     go_region_law (first
      |(refine step_append_lies _ rfl _ _ 48 rfl l.heap.size 21 fg (.int .i32 0) 1 4 underlying48 fh lx fi ly rfl qG _ h (zI .i32 f) rfl (cf) (qP bf g) (s-g) (Z-g) (zI .i32 C) rfl (j4) (ka) (zJ _ _) j3 (kc) (kd) (kg) _ rfl ?_;intro ap W k ab a8 k4 n2;rw[<- zm]at ab;have F:=zC (ha k ap (h+(s-g)) W (f++C) a8 ab kk);have dm:=yX g8 cf qG a8;have km:=dm.cellAt (e+1) qF;have nt:=hb k dm;obtain⟨hs,il⟩:∃hs,a1[e+1]?=some hs:=(by have K:=dm.1;exact⟨_,xw (show e+1<a1.length by omega)⟩);rw[il]at km;clear ab a8 k4 dm il))
     all_goals
      go_wp2_with fail;go_meet;exact⟨ap,W,h+(s-g),F.1,F.2.1,F.2.2⟩
    obtain⟨ap,W,n,pe,ab,d1⟩:=hcut;have kn:=zC d1;have hd:wc.ownsRow d.heap.size 86 3 (qM I (a+(e+1)) J) (a+(e+1)) (zU (j.take a++D) (gs.take a++E)):=(by have:=d1.row;rw[ce.out]at this;exact this);have kp:=zC hd;have nu:=d1.le.2;have he:(f++C).length<=1048576:=(by rw[xg,cb.out];omega);have ch:=zC (plainS (f++C) l.heap.size (qP ap 0) n W wc ab he);clear d1 hd ab he b0 az;go_wp2_with fail;refine ch.mono ?_;rintro A v ⟨q,r,rfl,bg,a2,y⟩;have dg:=y.size;have bn:=zC ((zE kp y lR).alloc (qR #[qM q n r,qC n,qC n] 86));have a5:=zC (zV v 86 [qM q n r,qC n,qC n]);have ao:=zC (fun(Y:qT) (t:qS) (N:(v.alloc (qR #[qM q n r,qC n,qC n] 86)).grownBy t (Value.slice I (a+(e+1)) J).ownBlock) (z:t.ownsRow d.heap.size 86 3 Y (a+(e+1)+1) (zU (j.take a++D) (gs.take a++E)++ [qM q n r,qC n,qC n]))=>(show jy l d.heap.size t j (D++ [qM q n r]) gs (E++ [Y4 (f++C)]) a Y from kn.put (x:=Y4 (f++C)) bh y a2 (by show(v.alloc (qR #[qM q n r,qC ((f++C).length:Int),qC ((f++C).length:Int)] 86)).grownBy _ _;rw[<- bg];exact N) (by show t.ownsRow _ _ _ _ (a+E.length+1) (_++ [qM q n r,qC ((f++C).length:Int),qC ((f++C).length:Int)]);rw[ce.out,<- bg];exact z)));clear a2 y ch bg;go_wp2_with (at_builtin;refine QW _ rfl _ _ rfl d.heap.size _ _ _ rfl bn (qP v.heap.size 0) 1 1 [qM q n r,qC n,qC n] rfl rfl a5 (one3 _ _ _ _ _) qK qF qJ ?_;intro cm aj ac aw _);have ca:=zC (ao cm aj aw ac);obtain⟨dy,c7,cy⟩:=jC ac;subst cy;clear ac aw ao;go_wp2;go_roundw
    case rel=>exact⟨e+1+1,_,E++ [Y4 (f++C)],dy,c7,⟨qF,qF⟩,qL,rfl,by rw[xg,ce.out];rfl,ca,λX=>qF,λ_=>j1⟩
    simp[intOf];omega
   have gm:¬ (c:Int)=(e:Int)+1:=qF;have nv:¬ (c:Int)=(e:Int)+2-1:=qF;have ch:=zC (plainS f l.heap.size (qP T 0) h U wr g7 qF)
   have kq:=zC (show E++ [Y4 f]=ad::(B.tail.take (c+1-1)).map Y4 by
    rw[g6.out];obtain⟨S,rfl⟩:∃S,c=S+1:=⟨c-1,qF⟩
    rw[show S+1+1-1=S+1 by omega,show S+1-1=S by omega,vH,g4.out S f b0]
    simp)
   clear b0 az;go_wp2_with fail;refine ch.mono ?_;rintro A v ⟨q,r,rfl,bg,a2,y⟩;have dg:=y.size;have bn:=zC ((zE dk y lR).alloc (qR #[qM q h r,qC h,qC h] 86));have a5:=zC (zV v 86 [qM q h r,qC h,qC h]);have ao:=zC (fun(Y:qT) (t:qS) (N:(v.alloc (qR #[qM q h r,qC h,qC h] 86)).grownBy t (Value.slice I (a+c) J).ownBlock) (z:t.ownsRow d.heap.size 86 3 Y (a+c+1) (zU (j.take a++D) (gs.take a++E)++ [qM q h r,qC h,qC h]))=>(show jy l d.heap.size t j (D++ [qM q h r]) gs (E++ [Y4 f]) a Y/\PS d t bf s Z bc from⟨ew.put (x:=Y4 f) bh y a2 (by show(v.alloc (qR #[qM q h r,qC (f.length:Int),qC (f.length:Int)] 86)).grownBy _ _;rw[<- bg];exact N) (by show t.ownsRow _ _ _ _ (a+E.length+1) (_++ [qM q h r,qC (f.length:Int),qC (f.length:Int)]);rw[ce.out,<- bg];exact z),(ey.below y).grow bn N⟩));clear a2 y ch bg;go_wp2_with (at_builtin;refine QW _ rfl _ _ rfl d.heap.size _ _ _ rfl bn (qP v.heap.size 0) 1 1 [qM q h r,qC h,qC h] rfl rfl a5 (one3 _ _ _ _ _) qK qF qJ ?_;intro cm aj ac aw _);have a6:=ao cm aj aw ac;have ca:=zC a6.1;have cd:=zC a6.2;obtain⟨dy,c7,cy⟩:=jC ac;subst cy;clear ac aw a6 ao;go_wp2;go_roundw
   case rel=>exact⟨c+1,_,E++ [Y4 f],dy,c7,⟨qF,qF⟩,qL,rfl,by rw[xg,ce.out];rfl,ca,λ_=>⟨kq,cd⟩,λX=>qF⟩
   simp[intOf];omega
  obtain rfl:c=e+2:=qF;have nw:¬ ((e:Int)+2)<(e:Int)+2:=qF;have EX:=zC (fr rfl);clear V cu fr;go_wp2_with fail;go_meet;exact⟨_,_,D,by rw[ej.out],by rw[ej.out,<- EX.out];exact ew⟩
 obtain⟨I,J,D,rfl,V⟩:=hcut;have dk:=zC V.row;have nx:=V.b.size;have ny:=V.le;have e2:=a3.below V.b b5;have c6:=e2.c.1;have da:=e2.c.2;have ks:=zC (Hh (b6 wc V.b) ah (a+1) qF);have hf:=zC (UD bh ah (a+1));have hg:=zC (fun(Y:qT) (t:qS) (N:wc.grownBy t (Value.slice I (a+G.length) J).ownBlock) (z:t.ownsRow d.heap.size 86 3 Y (a+G.length+(L-(a+1))) (zU (j.take a++D) (gs.take a++G)++zU (j.drop (a+1)) (gs.drop (a+1))))=>V.fin bk ah c4 (show a<=a+1 by omega) (show a+1<=L by omega) N z);clear e2 V c5 a4 b8;generalize n5:G.length=cp at *;by_cases k7:af=a+1
 ·have kt:L=a+1:=qF
  have kv:(af:Int)=(a:Int)+1:=qF;have kw:=zC (show zU (j.drop (a+1)) (gs.drop (a+1))= []from xL (by rw[hf.out];omega));subst k7;go_upto_region 18 with (at_builtin;refine QW _ rfl _ _ rfl d.heap.size _ _ _ rfl dk (qP ag 0) 0 _ [] rfl qH (by intro S av X;simp at X) (by intro av X;simp at X) qK qF qF ?_;intro hj k ak co e4)
  have ci:k.ownsRow d.heap.size 86 3 hj (a+cp+(L-(a+1))) (zU (j.take a++D) (gs.take a++G)++zU (j.drop (a+1)) (gs.drop (a+1))):=by
   rw[kw.out,kt,kh];exact ak
  obtain⟨R,c8,fs⟩:=jC ak;subst fs;have F:=zC (hg _ _ co ci);clear ak ci co e4;have gz:=F.2.size;have H:=zC (c3.below F.2 f9);have cj:=zC (a3.below F.2 b5);have au:=H.c.1;have aa:=H.c.2;have c1:=H.fz 0;have ea:=H.fz 1;have kx:=cj.c.1;have kz:=cj.c.2;have k0:(a:Int)+1<=(O:Int):=qF;have k1:w.heap.size≠w.heap.size+1:=qF;go_wp2;refine vg (v:=.agg #[qM R (a+cp) c8,qM (qD Q 0) (a+1) O]) (by simp[results,results16,go_sem,au,aa]) rfl ?_;refine⟨_,_,rfl,⟨⟨j.take a++D++j.drop (a+1),?_⟩,?_,?_⟩,?_⟩
  ·have e3:k.heap.size<=((k.setCell (qP (w.heap.size+1) 0) (qM R (a+cp) c8)).setCell (qP (w.heap.size+1) 1) (qM (qD Q 0) (a+1) O)).heap.size:=qH
   refine(F.1.offD (L:=w.heap.size+1) H qG qG (λi p=>?_)).mono lR e3;rw[xj _ _ _ _ (by show i≠w.heap.size+1;exact p),xj _ _ _ _ (by show i≠w.heap.size+1;exact p)]
  ·have K:=YT (k:=a+1) ec qF (by rw[b4.out];omega)
   rw[ky,vu qF]at K;have ck:Zr k w.heap.size (qM (qD Q 0) (a+1) O) (e7.take (a+1)):=zE K F.2 lR;refine zD ck (λi p=>?_);have cl:i≠w.heap.size+1:=jx ck H qG p;rw[xj _ _ _ _ (by show i≠w.heap.size+1;exact cl),xj _ _ _ _ (by show i≠w.heap.size+1;exact cl)]
  ·exact yW ed qJ
  exact((bj.trans (F.2.mono c4)).setCell qH _).setCell qH _
 have kv:¬ (af:Int)=(a:Int)+1:=qF
 go_upto_region 18 with (at_builtin;refine QW _ rfl _ _ rfl d.heap.size _ _ _ rfl dk ⟨ag,(a+1)*3,none⟩ (L-(a+1)) (af-(a+1)) (zU (j.drop (a+1)) (gs.drop (a+1))) rfl hf ks gb qK qF qF ?_;intro hj k ak co e4)
 have ci:=ak;obtain⟨R,c8,fs⟩:=jC ak;subst fs;have F:=zC (hg _ _ co ci);clear ak ci co e4;have gz:=F.2.size;have H:=zC (c3.below F.2 f9);have cj:=zC (a3.below F.2 b5);have au:=H.c.1;have aa:=H.c.2;have c1:=H.fz 0;have ea:=H.fz 1;have kx:=cj.c.1;have kz:=cj.c.2;have k0:(a:Int)+1<=(O:Int):=qF
 have k1:w.heap.size≠w.heap.size+1:=qF
 go_wp2;refine vg (v:=.agg #[qM R (a+cp+(L-(a+1))) c8,qM (qD Q 0) (a+1) O]) (by simp[results,results16,go_sem,au,aa]) rfl ?_;refine⟨_,_,rfl,⟨⟨j.take a++D++j.drop (a+1),?_⟩,?_,?_⟩,?_⟩
 ·have e3:k.heap.size<=((k.setCell (qP (w.heap.size+1) 0) (qM R (a+cp+(L-(a+1))) c8)).setCell (qP (w.heap.size+1) 1) (qM (qD Q 0) (a+1) O)).heap.size:=qH
  refine(F.1.offD (L:=w.heap.size+1) H qG qG (λi p=>?_)).mono lR e3;rw[xj _ _ _ _ (by show i≠w.heap.size+1;exact p),xj _ _ _ _ (by show i≠w.heap.size+1;exact p)]
 ·have K:=YT (k:=a+1) ec qF (by rw[b4.out];omega)
  rw[ky,vu qF]at K;have ck:Zr k w.heap.size (qM (qD Q 0) (a+1) O) (e7.take (a+1)):=zE K F.2 lR;refine zD ck (λi p=>?_);have cl:i≠w.heap.size+1:=jx ck H qG p;rw[xj _ _ _ _ (by show i≠w.heap.size+1;exact cl),xj _ _ _ _ (by show i≠w.heap.size+1;exact cl)]
 ·exact yW ed qJ
 exact((bj.trans (F.2.mono c4)).setCell qH _).setCell qH _
section
open Go.Sort Go.BigFrame
def Mm{c:qS}{base t g n k cap xs}(d:c.ownsRow base t 1 (qM (qD g 0) n cap) n xs)(m:k<=n):c.ownsRow base t 1 (qM (qD g 0) k cap) k (xs.take k):=by
 rcases d.2 with ⟨a,o⟩ | ⟨p,q,b,a,f,h,r,i,j,s⟩
 ·cases a
 simp only[jW,xE,Addr.mk.injEq]at a;obtain⟨⟨rfl,_⟩,_,rfl⟩:=a;have e:(xs.take k).length=k*1:=by rw[xi,d.1];omega
 refine⟨e,.inr ⟨g,cap,b,rfl,f,h,qF,i,j,?_⟩⟩;have l:List.take (k*1) b.toList=(List.take (n*1) b.toList).take (k*1):=by rw[ky,vu qF]
 simp_all
def zQ.weakX{w w' S S'}(b:zQ w w' S)(f:∀a,S a->S' a):zQ w w' S':=⟨b.os,b.tape,b.output,b.size,λa c d=>b.block a c (λe=>d (f a e))⟩
section
variable {w w':World} {Z:Nat->Prop} {E c:Nat} {x:VX} {M:SS} {K:KX} {n m k i j:Nat} {r:SR} {b:Bool}
def zAa(aa:(i=1/\j=2)\/(i=2/\j=1)){cs dv uv vs us ga gl gk}(e:w.heap[E]?=some (qR cs 144 (0,0)))(r:cs[i]?=some dv)(s:cs[j]?=some uv)(h:w.ownsRow 0 138 1 dv (vs.length+1) (vs++ [qM ga gl gk]))(o:w.ownsRow 0 138 1 uv us.length us)(H:∀a,uv.ownBlock=some a->dv.ownBlock≠some a)(a5:vs.length<=1000)(a6:us.length<=1000):
  Calls prog 147 #[qO E i,qO E j] w λb w'=>b=qQ (.tuple #[])/\∃t u c,w'=(c.setCell (qP E j) u).setCell (qP E i) t/\c.heap[E]? =w.heap[E]?/\zQ w c (λa=>uv.ownBlock=some a)/\c.ownsRow 0 138 1 t vs.length vs/\c.ownsRow 0 138 1 u (us.length+1) (us++ [qM ga gl gk])/\t.ownBlock=dv.ownBlock/\∀a,u.ownBlock=some a->uv.ownBlock=some a\/w.heap.size<=a:=by
 obtain⟨ac,ad,ae,af,ag⟩:=vw Tryz.qx;have K:=zC e;have L:=zC o
 obtain⟨p,a7,rfl,ah⟩:∃g k,dv= .slice (qD g 0) _ k/\vs.length+1<=k/\k<=maxLen:=by
  rcases h.2 with ⟨b,ai⟩ | ⟨g,aj,ak,b,_,_,al,am,_⟩
  ·omega
  exact⟨_,_,b,al,am⟩
 obtain⟨v,x,rfl⟩:∃Y k,uv= .slice Y us.length k:=by
  rcases o.2 with ⟨b,ai⟩ | ⟨g,aj,ak,b,_⟩
  ·simp_all
  exact⟨_,_,b⟩
 have an:=c9 e r;have ao:=c9 e s;have ap:=xY w E i _ _ e;have aq:=xY w E j _ _ e;have M:=(qZ.1 e).1
 have q:∀{I:qT}{k:Nat}{ab:qU}{a:Nat},w.ownsRow 0 138 1 I k ab->I.ownBlock=some a->a≠E:=λZ d b=>by
  subst b;obtain⟨a8,a9,J⟩:=jr Z d;rw[e]at J;simp only[xE,kf]at J
  simp_all
 have N:=zC H;have O:=h.lt p rfl;have P:=h.cellAt vs.length qF;rw[show(vs++ [Value.slice ga gl gk])[vs.length]?=some (qM ga gl gk)by simp]at P;have y:=zC (Mm h (k:=vs.length) qF);have z:(vs++ [Value.slice ga gl gk]).take vs.length=vs:=qH
 rw[z]at y;have ar:¬p=E:=q h rfl;have Q:∀a,(Value.slice v _ x).ownBlock=some a->E≠a:=λa d b=>q o d b.symm
 unfold maxLen at ah;have R:=zC (zV w 138 [qM ga gl gk]);have A:=zC ((xe _ w).alloc lR (qR #[qM ga gl gk] 138));have au:w.heap.size+1=(w.alloc (qR #[qM ga gl gk] 138)).heap.size:=qH
 generalize U:vs.length=m at *;generalize V:us.length=n at *;have av:IntKind.i64.wrap (((m+1:Nat))-1)=m:=by rw[vA,Int.natCast_add];omega
 have aw:m<((m+1:Nat):Int):=qF
 have ax:(0:Int)<=m:=qF
 generalize W:m+1=X at *;have ay:m<X:=qF
 have B:=zC (And.intro r s);clear h o H U V z W q e r s;rcases aa with ⟨rfl,rfl⟩ | ⟨rfl,rfl⟩
 all_goals
  go_enter func147,ntmps147;go_upto_region 1 with fail
  go_region_law (first
   |(refine step_append_lies _ rfl _ _ 134 rfl 0 138 ac _ 1 24 underlying134 ad ae af ag rfl qG (qM v n x) n us rfl (L.alloc _) _ 1 1 _ rfl rfl R (by simp[Value.oneCell']) qF qK qF (xK _) _ rfl ?_;intro g a3 c F f G a4;have C:=zC ((f.block E (show E<(w.alloc (qR #[qM ga gl gk] 138)).heap.size by omega) (λb=>Q E b.symm rfl)).trans (A.block E M));have l:=zC (C.trans K);have az:=c9 l B.1;have a0:=c9 l B.2;have a1:=xY c E 1 _ _ l;have a2:=xY c E 2 _ _ l;have S:=zC F;have D:=zC (show(w.alloc (qR _ 138)).grownBy c _ from⟨f.os,f.tape,f.output,f.size,f.block⟩);have T:=zC (show(Value.slice v n x).ownBlock=some g\/w.heap.size<=g from G.imp id (λb=>by simp_all));clear F f G))
  all_goals
   go_wp2;go_end0;refine⟨rfl,_,_,c,rfl,C,((zQ.reflS w _).allocS _).grownS D (λa d=>.inl d),?_,S,rfl,λa d=>?_⟩
   ·refine zD y (λa d=>?_)
    obtain rfl:=(by simpa[Value.ownBlock]using d);exact(D.block p qF (λb=>N _ b.symm rfl)).trans (A.block p O.2)
   simp only[Value.ownBlock,xE]at d;subst d;exact T
def Ko.topX{v U g}(m:Ko w Z v (U++ [g])):∃c d a e f,v=(qM (qD c 0) (U.length+1) d)/\a.length=U.length/\w.ownsRow 0 138 1 (qM (qD c 0) (U.length+1) d) (U.length+1) (a++ [qM e g.length f])/\Jt w Z a U/\zB2 w Z (qM e g.length f) g:=by
 obtain⟨s,h,n⟩:=m;obtain⟨a,o,rfl,i,j⟩:=n.unsnoc;rw[xg,Qs]at h
 obtain⟨e,f,rfl⟩:∃l k,o= .slice l g.length k:=by
  obtain⟨⟨t,p,_⟩,_⟩:=j;rcases p.2 with ⟨b,q⟩ | ⟨u,x,r,b,_⟩
  ·simp_all
  exact⟨_,_,b⟩
 rcases h.2 with ⟨b,q⟩ | ⟨c,d,r,b,_⟩
 ·omega
 subst b;exact⟨c,d,a,e,f,rfl,i.len,h,i,j⟩
def shiftU{U g}(a:EX K w Z E c x M)(aa:M.op=false)(J:M.un=U++ [g])(ab:U.length<=1000/\M.re.length<=1000):
  Calls prog 147 #[qO E 1,qO E 2] w λh w'=>h=qQ (.tuple #[])/\Ht K w Z E c {M with un:=U,re:=M.re++ [g]} w':=by
 have s:=a.ey.dn.1;rw[J]at s;obtain⟨ac,ad,L,N,O,z,A,n,P,Q⟩:=s.topX;obtain⟨R,o,B⟩:=a.ey.ud.1;have t:=B.len;rw[<- t]at o;rw[<- A]at n z;rw[<- z]at n;refine(zAa (.inl ⟨rfl,rfl⟩) a.ey.blk.2 (dv:=x.dv) (uv:=x.uv) rfl rfl n o (λd e=>(a.ey.ud.2 d e).2) qF qF).mono ?_;rintro h w' ⟨rfl,p,q,C,r,S,T,D,F,V,W⟩;have j:W8 C E x _ _ _ _:=⟨a.ey.blk.1,S.trans a.ey.blk.2⟩
 have u:=(j.set (x':={x with uv:=q}) 2 q a.ey.blk.1 rfl).set (x':={x with uv:=q,dv:=p}) 1 p a.ey.blk.1 rfl;rw[<- r]at u;have v:∀d,d≠E->w'.heap[d]? =C.heap[d]?:=λd e=>by rw[r];exact(xj _ _ d _ e).trans (xj _ _ d _ e)
 have G:zQ w w' (λd=>d=E\/x.uv.ownBlock=some d):=by
  rw[r];exact((T.weakX (λd e=>.inr e)).setS (qP E 2) _ (.inl (.inl rfl))).setS (qP E 1) _ (.inl (.inl rfl))
 have y:=a.put2 (M':={M with un:=U,re:=M.re++ [g]}) G (λd e=>⟨(a.ey.ud.2 d e).1,by obtain⟨X,Y,h⟩:=jr o e;exact⟨X,_,Y,h,.inl rfl⟩⟩) u ⟨rfl,rfl⟩ (λf=>⟨yY a.ey.ms f (.inl qG),⟨⟨L,?_,P.kk f qG (λ_ a=>a)⟩,λd e=>a.ey.dn.2 d (by simp_all)⟩,⟨⟨R++ [qM N g.length O],?_,?_⟩,λd e=>?_⟩,λl=>(by simp_all),a.ey.cvs,⟨a.ey.sl.1,λi H k I b=>(a.ey.sl.2 i H k I b).kk f qG qG (λ_ a=>a)⟩⟩)
 ·exact⟨rfl,Z,_,y.1,y.2,λ_ a=>a⟩
 ·rw[<- A];exact zD D (λd e=>v d (j.ne D qG e))
 ·simp
  rw[<- t];exact zD F (λd e=>v d (j.ne F qG e))
 ·exact(B.kk f qG (λ_ a=>a)).app ⟨Q.kk f qG (λ_ a=>a),xB⟩
 show ¬Z d/\p.ownBlock≠some d
 rw[V];rcases W d e with l | l
 ·exact a.ey.ud.2 d l
 exact⟨λm=>by have:=a.ey.zl d m;omega,λm=>by have:=a.ey.dn.1.nz m;omega⟩
def shiftR{U g}(d:EX K w Z E c x M)(ab:M.op=false)(N:M.re=U++ [g])(ac:U.length<=1000/\M.un.length<=1000):
  Calls prog 147 #[qO E 2,qO E 1] w λj w'=>j=qQ (.tuple #[])/\Ht K w Z E c {M with re:=U,un:=M.un++ [g]} w':=by
 have s:=d.ey.ud.1;rw[N]at s;obtain⟨ad,ae,O,P,Q,z,A,p,R,S⟩:=s.topX;obtain⟨T,q,B⟩:=d.ey.dn.1;have t:=B.len;rw[<- t]at q;rw[<- A]at p z;rw[<- z]at p;refine(zAa (.inr ⟨rfl,rfl⟩) d.ey.blk.2 (dv:=x.uv) (uv:=x.dv) rfl rfl p q (λa e f=>(d.ey.ud.2 a f).2 e) qF qF).mono ?_;rintro j w' ⟨rfl,C,m,D,r,V,W,F,G,X,H⟩;have n:W8 D E x _ _ _ _:=⟨d.ey.blk.1,V.trans d.ey.blk.2⟩
 have u:=(n.set (x':={x with dv:=m}) 1 m d.ey.blk.1 rfl).set (x':={x with dv:=m,uv:=C}) 2 C d.ey.blk.1 rfl;rw[<- r]at u;have v:∀a,a≠E->w'.heap[a]? =D.heap[a]?:=λa e=>by rw[r];exact(xj _ _ a _ e).trans (xj _ _ a _ e)
 have I:zQ w w' (λa=>a=E\/x.dv.ownBlock=some a):=by
  rw[r];exact((W.weakX (λa e=>.inr e)).setS (qP E 1) _ (.inl (.inl rfl))).setS (qP E 2) _ (.inl (.inl rfl))
 have y:=d.put2 (M':={M with re:=U,un:=M.un++ [g]}) I (λa e=>⟨d.ey.dn.2 a e,by obtain⟨Y,aa,j⟩:=jr q e;exact⟨Y,_,aa,j,.inl rfl⟩⟩) u ⟨rfl,rfl⟩ (λh=>⟨yY d.ey.ms h (.inl qG),⟨⟨T++ [qM P g.length Q],?_,?_⟩,λa e=>?_⟩,⟨⟨O,?_,R.kk h qG (λ_ d=>d)⟩,λa e=>?_⟩,λf=>(by simp_all),d.ey.cvs,⟨d.ey.sl.1,λi J k L b=>(d.ey.sl.2 i J k L b).kk h qG qG (λ_ d=>d)⟩⟩)
 ·exact⟨rfl,Z,_,y.1,y.2,λ_ d=>d⟩
 ·simp
  rw[<- t];exact zD G (λa e=>v a (n.ne G qG e))
 ·exact(B.kk h qG (λ_ d=>d)).app ⟨S.kk h qG (λ_ d=>d),xB⟩
 ·rcases H a e with f | f
  ·exact d.ey.dn.2 a f
  exact λl=>by have:=d.ey.zl a l;omega
 ·rw[<- A];exact zD F (λa e=>v a (n.ne F qG e))
 show ¬Z a/\m.ownBlock≠some a
 have o:x.uv.ownBlock=some a:=by rw[<- X];exact e
 refine⟨(d.ey.ud.2 a o).1,λf=>?_⟩;rcases H a f with l | l
 ·exact(d.ey.ud.2 a o).2 l
 have:=d.ey.ud.1.nz o;omega
def Oj{kv ks}(a:EX K w Z E c x M)(d:Vd M.ms)(e:zS w 0 kv ks)(f:ks.length<=1048576):
  Calls prog 146 #[qO E 0,.agg #[kv]] w λb w'=>b=qQ (.tuple #[])/\StC K w Z E c x {M with ms:=Zi (M.ms.map (mov (YP ks)))} w':=by
 refine(U1 _ 144 qG E ks _ kv _ 0 w a.tb a.ey.ms d e f).mono ?_;rintro b w' ⟨rfl,g,m,h,i,ht,j⟩;obtain⟨k,l⟩:=a.mkd h i ht j;exact⟨rfl,g,k,a.ey.ek l qG⟩
def OkX(b:Bool)(c:SS)(a:SR):Prop:=OkC (a.put != b) c a.off (YG a)/\(Wl (a.put != b) c a.off (YG a)).tx=Ks a b/\(YG a).length=a.n/\Vd (Wl (a.put != b) c a.off (YG a)).ms/\(Fm a b).length<=1048576
def zAb(e:OkX b M r):{Wl (r.put != b) M r.off (YG r)with ms:=Zi ((Wl (r.put != b) M r.off (YG r)).ms.map (mov (YP (Fm r b))))}=WQ b M r:=by
 obtain⟨f,a,c,_,_⟩:=e;cases hp:(r.put != b)with
 | true=>
  rw[hp]at a
  have d:List.take r.n (List.drop r.off (Ks r b))=YG r:=by
   unfold YG Ks;cases b<;>cases hq:r.put<;>simp_all
  unfold WQ swM swN zB6;rw[hp,<- a,cond_true,cond_true,a,d,<- a];simp only[Wl,if_true,c]
 | false=>
  rw[hp]at a;unfold WQ swM swN zB6;rw[hp,<- a,cond_false,cond_false];simp only[Wl,Qb,if_false,c]
end
end
def MV(a:List Mk)(b:Nat):Prop:=Vd a/\∀x∈a,x.2.1<=b
def MV.off{ms n}(c:MV ms n){x}(d:x∈ms):0<=x.2.1/\x.2.1<=n/\x.2.1<=8192:=by
 have a:=(c.1.2.1 x d).2;unfold TA at a;have b:=of_decide_eq_true a;exact⟨b.1,c.2 x d,b.2⟩
def MV.mov{ms}{k e:Nat}{f}(g:MV ms k)(h:∀b∈ms,0<=f b/\f b<=(e:Int))(l:e<=8192):MV (Zi (ms.map (mov f))) e:=by
 refine⟨Rb (by rw[xO];exact g.1.1) (λb d=>?_) ?_,λb d=>?_⟩
 ·obtain⟨a,c,rfl⟩:=Qt.1 d
  have i:=(g.1.2.1 a c).1;have j:=h a c;exact⟨i,decide_eq_true ⟨j.1,by show f a<=8192;omega⟩⟩
 ·rw[List.pairwise_map];exact g.1.ids
 obtain⟨a,c,rfl⟩:=Qt.1 ((Zt _).subset d);exact(h a c).2
def MV.push{ms}{a off b:Nat}(c:MV ms a)(e:a+b<=8192):MV (Zi (ms.map (Go.Proofs.YtljnflecikholaaGreatDoor.mov (jF off b)))) (a+b):=c.mov (λf d=>by
 have:=c.off d;unfold jF
 split<;>omega) e
def MV.pull{ms n off k}(a:MV ms n)(d:off+k<=n)(e:n<=8192):MV (Zi (ms.map (Go.Proofs.YtljnflecikholaaGreatDoor.mov (ZB off k)))) (n-k):=a.mov (λc b=>by
 have:=a.off b;unfold ZB
 split<;>omega) qF
def MV.sett{ms ks n}(b:MV ms n)(f:MV ks n)(g:n<=8192):MV (Zi (ms.map (Go.Proofs.YtljnflecikholaaGreatDoor.mov (YP ks)))) n:=b.mov (λa e=>by
 unfold YP
 split
 ·rename_i d
  obtain⟨h,i,j,c⟩:=EE a.1 ks 0 d;have:(yJ a.1 ks 0).toNat=h:=qF;rw[this,xP,c];have:=f.off (xH c)
  simp_all
 have:=b.off e;omega) g
def UH(a:SR):qV:=if a.put then a.aft else a.bef
def Mn(a:SR):qV:=if a.put then a.bef else a.aft
structure RV(r:SR):Prop where
 n0:0<r.n
 on:r.off+r.n<=(UH r).length
 lb:(UH r).length<=8192
 ed:Mn r=(UH r).take r.off++(UH r).drop (r.off+r.n)
 mb:MV r.was r.bef.length
 ma:MV r.is r.aft.length
def IQ(r):YG r=((UH r).drop r.off).take r.n:=by unfold YG UH;split<;>rfl
section
variable {r:SR} {b:Bool} {M:SS} {k:Nat}
def RV.rl(a:RV r):(YG r).length=r.n:=by have:=a.on;rw[IQ,xi,xz];omega
def RV.sl(a:RV r):(Mn r).length+r.n=(UH r).length:=by have:=a.on;rw[a.ed,xg,xi,xz];omega
def RV.go(a:RV r):(Mn r).take r.off++(YG r++(Mn r).drop r.off)=UH r:=by
 have c:=a.on;have b:((UH r).take r.off).length=r.off:=by rw[xi];omega
 rw[a.ed,vB qF,xU qF,List.drop_append,b,kh,vz,vx qF,vq,IQ]
 conv=>rhs;rw[<- vy r.off (UH r),<- vy r.n ((UH r).drop _),List.drop_drop]
def Yz(a:(r.put != b)=true):Ks r b=UH r/\Ks r (!b)=Mn r:=by
 unfold Ks UH Mn;cases b<;>cases hq:r.put<;>simp_all
def YV(a:(r.put != b)=false):Ks r b=Mn r/\Ks r (!b)=UH r:=by
 unfold Ks UH Mn;cases b<;>cases hq:r.put<;>simp_all
def RV.ms(a:RV r):MV (Fm r b) (Ks r b).length:=by cases b<;>first | exact a.ma | exact a.mb
def RV.tl(a:RV r):(Ks r b).length<=8192:=by
 have:=a.sl;have:=a.lb;cases hp:(r.put != b)with
 | true=>rw[(Yz hp).1];omega
 | false=>rw[(YV hp).1];omega
def RV.swN(a:RV r)(c:MV M.ms (Ks r (!b)).length):MV (swN r b M.ms) (Ks r b).length:=by
 have:=a.sl;have:=a.lb;have:=a.on;unfold Go.Proofs.YtljnflecikholaaGreatDoor.swN;cases hp:(r.put != b)with
 | true=>
  rw[(Yz hp).2]at c;rw[(Yz hp).1,cond_true,<- a.sl];exact c.push qF
 | false=>
  rw[(YV hp).2]at c;rw[(YV hp).1,cond_false,show(Mn r).length=(UH r).length-r.n by omega];exact c.pull qF qF
def RV.ok(c:RV r)(ht:M.tx=Ks r (!b))(e:MV M.ms M.tx.length):OkX b M r/\OkS b M r/\MV (WQ b M r).ms (WQ b M r).tx.length/\(WQ b M r).tx=Ks r b:=by
 have j:=c.sl;have k:=c.lb;have l:=c.on;have g:=c.n0;have f:=c.rl;have h:=c.go;rw[ht]at e;have d:=c.swN e;have m:=(c.ms (b:=b)).1.1;refine⟨⟨⟨qF,?_,e.1⟩,?_,f,?_,qF⟩,⟨by have:=e.1.1;omega,λn i=>?_,⟨g,qF⟩,qF,λa=>?_⟩,d.sett c.ms c.tl,rfl⟩
 ·cases a:(r.put != b)with
  | true=>rw[xS rfl,ht,(Yz a).2];omega
  | false=>rw[xJ qH,ht,(YV a).2];omega
 ·unfold Wl
  cases a:(r.put != b)with
  | true=>simp;rw[ht,(Yz a).2,(Yz a).1];exact h
  | false=>simp;rw[ht,(YV a).2,(YV a).1,f];exact c.ed.symm
 ·unfold Go.Proofs.YtljnflecikholaaGreatDoor.swN at d
  unfold Wl;cases a:(r.put != b)with
  | true=>rw[a]at d;simp only[if_true,f];exact d.1
  | false=>rw[a]at d;simp only[Qb,if_false,f];exact d.1
 ·have:=e.off i;omega
 rw[(Yz a).1];omega
def Ch:qV->List SR->qV->Prop
 | a,[],b=>a=b
 | a,r::c,b=>RV r/\a=r.bef/\Ch r.aft c b
def Ch.app:∀{t u v g k},Ch t g u->Ch u k v->Ch t (g++k) v
 | _,_,_,[],_,a,b=>by cases a;exact b
 | _,_,_,_::_,_,a,b=>⟨a.1,a.2.1,Ch.app a.2.2 b⟩
def Ch.cut:∀{c v g k},Ch c (g++k) v->∃b,Ch c g b/\Ch b k v
 | c,_,[],_,a=>⟨c,rfl,a⟩
 | _,_,_::_,_,a=>by
  obtain⟨b,d,e⟩:=Ch.cut a.2.2;exact⟨b,⟨a.1,a.2.1,d⟩,e⟩
def Ch.rv:∀{t u g},Ch t g u->∀r∈g,RV r
 | _,_,_::_,b,r,a=>by
  rcases kS.1 a with rfl | a
  ·exact b.1
  exact Ch.rv b.2.2 r a
def Ch.undo{t u g}(i:Ch t g u)(ht:M.tx=u)(j:MV M.ms M.tx.length):∀a,a<=g.length->Ch t (g.take (g.length-a)) (ZD g (g.length-a) M).tx/\MV (ZD g (g.length-a) M).ms (ZD g (g.length-a) M).tx.length
 | 0,_=>by
  have h:ZD g g.length M=M:=(by unfold ZD;simp);rw[Nat.sub_zero,kX,h,ht]
  simp_all
 | a+1,v=>by
  obtain⟨e,f⟩:=Ch.undo i ht j a qF;have d:g.length-a=g.length-(a+1)+1:=qF;have c:g[g.length-(a+1)]?=some g[g.length-(a+1)]:=xw qF;generalize g[g.length-(a+1)]=r at c;generalize g.length-(a+1)=q at *;rw[d,vH,c]at e;rw[d]at f;obtain⟨s,k,l,m,n⟩:=e.cut;obtain⟨_,_,o,p⟩:=l.ok (b:=true) n.symm f;rw[Xu c];exact⟨by rw[p];show Ch t _ r.bef;rw[<- m];exact k,o⟩
def Ch.undoOk{t u g}(e:Ch t g u)(ht:M.tx=u)(f:MV M.ms M.tx.length)(j)(r)(c:g[j]?=some r):OkX true (ZD g (j+1) M) r/\OkS true (ZD g (j+1) M) r:=by
 have m:=(xp.1 c).1;obtain⟨a,d⟩:=e.undo ht f (g.length-(j+1)) qF;rw[show g.length-(g.length-(j+1))=j+1 by omega]at a d;rw[vH,c]at a;obtain⟨n,o,h,p,i⟩:=a.cut;obtain⟨k,l,_⟩:=h.ok (b:=true) i.symm d;exact⟨k,l⟩
def Ch.redo{u v g}(f:Ch u g v)(ht:M.tx=u)(h:MV M.ms M.tx.length):∀a,a<=g.length->Ch (yn g a M).tx (g.drop a) v/\MV (yn g a M).ms (yn g a M).tx.length
 | 0,_=>by
  have d:yn g 0 M=M:=rfl;rw[d,vz,ht]
  simp_all
 | a+1,o=>by
  obtain⟨c,i⟩:=Ch.redo f ht h a qF;have e:g[a]?=some g[a]:=xw qF;rw[vN qF]at c;obtain⟨j,k,l⟩:=c;obtain⟨_,_,m,n⟩:=j.ok (b:=false) k i;rw[Jh e];exact⟨by rw[n];exact l,m⟩
def Ch.redoOk{u v g}(e:Ch u g v)(ht:M.tx=u)(f:MV M.ms M.tx.length)(j)(r)(a:g[j]?=some r):OkX false (yn g j M) r/\OkS false (yn g j M) r:=by
 have d:=(xp.1 a).1;obtain⟨c,h⟩:=e.redo ht f j qF;rw[vN d,(xp.1 a).2]at c;obtain⟨i,k,n⟩:=c;obtain⟨l,m,_⟩:=i.ok (b:=false) k h;exact⟨l,m⟩
end
inductive LS:List LE->qV->Prop
 | nil:LS [] []
 | ins {g:List LE} {t ts:qV} {off:Nat}:LS g t->off<=t.length->0<ts.length->t.length+ts.length<=8192->LS (g++ [⟨1,off,0,ts⟩]) (t.take off++(ts++t.drop off))
 | rem {g:List LE} {t:qV} {lo hi:Nat}:LS g t->lo<hi->hi<=t.length->LS (g++ [⟨2,lo,hi,[]⟩]) (t.take lo++t.drop hi)
 | lod {g:List LE} {t ts:qV}:LS g t->ts.length<=8192->LS (g++ [⟨3,0,0,ts⟩]) ts
 | see {g:List LE} {t:qV} {off:Nat}:LS g t->off<=t.length->LS (g++ [⟨4,off,0,[]⟩]) t
 | kno {g:List LE} {t:qV} {line:Nat}:LS g t->(line:Int)<=js t->LS (g++ [⟨5,line,0,[]⟩]) t
structure zBa(cp k:Nat)(a:qV)(ms:List Mk)(b c:List (List SR))(d:List SR):Prop where
 tl:a.length<=8192
 mv:MV ms a.length
 nl:b.length+c.length<=cp
 gl:∀g,g∈b\/g∈c->0<g.length/\g.length<=k
 cu:∃t,Ch t (b.flatten++d) a
 cr:∃t,Ch a c.reverse.flatten t
structure Iv(k:Nat)(M:SS):Prop where
 cp:1<=M.cp/\M.cp<=1000
 sp:M.sp<=200000
 doc:zBa M.cp k M.tx M.ms M.un M.re (if M.op then M.gr else [])
 gr:M.gr.length<=k
 og:M.op=true->M.gr≠ []->M.re= []
 sl:M.sl.length=8/\∀(i:Nat)(a:SK),M.sl[i]?=some (some a)->zBa M.cp k a.tx a.ms a.un a.re []
 ll:M.lg.length<=k*10000
 ls:LS M.lg M.tx
section
variable {k:Nat} {M:SS} {cp:Nat} {tx:List Int} {ms:List Mk} {un re:List (List SR)} {gr:List SR}
def zBa.mono{k'}(a:zBa cp k tx ms un re gr)(d:k<=k'):zBa cp k' tx ms un re gr:=⟨a.tl,a.mv,a.nl,λb c=>⟨(a.gl b c).1,vC (a.gl b c).2 d⟩,a.cu,a.cr⟩
def Iv.lm(a:Iv k M):M.lg.length<=(k+1)*10000:=vC a.ll (QM _ (Nat.le_succ k))
def Iv.qf(c:Iv k M):M.sl.length=8/\∀(b:Nat)(a),M.sl[b]?=some (some a)->zBa M.cp (k+1) a.tx a.ms a.un a.re []:=⟨c.sl.1,λb a d=>(c.sl.2 b a d).mono qF⟩
def Iv.next(a:Iv k M):Iv (k+1) M:=⟨a.cp,a.sp,a.doc.mono qF,by have:=a.gr;omega,a.og,a.qf,a.lm,a.ls⟩
def Iv.paid{n}(a:Iv k M)(b:n<=200000):Iv k {M with sp:=n}:=⟨a.cp,b,a.doc,a.gr,a.og,a.sl,a.ll,a.ls⟩
def Iv.see{off}(a:Iv k M)(b:off<=M.tx.length):Iv (k+1) {M with lg:=M.lg++ [⟨4,off,0,[]⟩]}:=⟨a.cp,a.sp,a.doc.mono qF,by have:=a.gr;show M.gr.length<=k+1;omega,a.og,a.qf,by have:=a.ll;simp;omega,a.ls.see b⟩
def Iv.kno{b:Nat}(a:Iv k M)(c:b<=js M.tx):Iv (k+1) {M with lg:=M.lg++ [⟨5,b,0,[]⟩]}:=⟨a.cp,a.sp,a.doc.mono qF,by have:=a.gr;show M.gr.length<=k+1;omega,a.og,a.qf,by have:=a.ll;simp;omega,a.ls.kno c⟩
def Iv.begin(a:Iv k M)(d:M.op=false):Iv (k+1) {M with op:=true,gr:=[]}:=by
 have b:=a.doc;rw[d]at b;exact⟨a.cp,a.sp,b.mono qF,xK _,λ_ c=>absurd rfl c,a.qf,a.lm,a.ls⟩
def F6{α c l}{d b:α}(a:b∈jb c l d):b∈l\/b=d:=by
 unfold jb at a
 have:=by
  split at a
  ·exact vS a
  exact a
 simpa using this
def Ch.psh{t v g c}(a:Ch t (un.flatten++g) v):∃d,Ch d (jb c un g).flatten v:=by
 have b:(un++ [g]).flatten=un.flatten++g:=qH
 rw[<- b]at a;unfold jb
 split
 ·cases hl:un++ [g]with
  | nil=>simp at hl
  | cons h i=>
   rw[hl,List.flatten_cons]at a;obtain⟨e,_,f⟩:=a.cut;exact⟨e,f⟩
 exact⟨t,a⟩
def Iv.endE(a:Iv k M)(d:M.op=true)(e:M.gr= []):Iv (k+1) {M with op:=false}:=by
 have b:=a.doc;rw[d,xS rfl,e]at b;exact⟨a.cp,a.sp,b.mono qF,by simp_all,λc=>(by cases c),a.qf,a.lm,a.ls⟩
def Iv.end(b:Iv k M)(f:M.op=true)(g:0<M.gr.length):Iv (k+1) {M with op:=false,un:=jb M.cp M.un M.gr}:=by
 have d:=b.doc;have h:=b.og f (by intro i;rw[i]at g;simp at g);rw[f,xS rfl]at d;obtain⟨q,ht⟩:=d.cu;have o:=d.nl;have p:=b.gr;refine⟨b.cp,b.sp,⟨d.tl,d.mv,?_,λj l=>?_,?_,d.cr⟩,by show M.gr.length<=k+1;omega,λe=>(by cases e),b.qf,b.lm,b.ls⟩
 ·have:=EB (a:=M.gr) (show M.un.length<=M.cp by omega)
  show(jb _ _ _).length+M.re.length<=M.cp
  rw[h];exact this
 ·rcases l with e | e
  ·rcases F6 e with m | rfl
   ·have:=d.gl j (.inl m);omega
   omega
  simp_all
 obtain⟨n,e⟩:=ht.psh (c:=M.cp);exact⟨n,by simpa using e⟩
def edR_rv{lo hi ps}(b:MV M.ms M.tx.length)(j:M.tx.length<=8192)(l:hi=lo/\0<ps.length/\lo<=M.tx.length/\M.tx.length+ps.length<=8192\/lo<hi/\hi<=M.tx.length/\ps= []):RV (XV M lo hi ps)/\MV (OE M lo hi ps) (Hs M lo hi ps).length:=by
 have c:MV (OE M lo hi ps) (Hs M lo hi ps).length:=by
  unfold OE Hs;rcases l with ⟨rfl,e,f,g⟩ | ⟨e,f,rfl⟩
  ·rw[xS rfl]
   have:=b.push (off:=hi) g;simp;rw[show min hi _+(ps.length+(M.tx.length-hi))=M.tx.length+ps.length by omega];exact this
  rw[xJ qF];have:=b.pull (off:=lo) (k:=hi-lo) qF j;simp only[xg,xi,xz,ke];rw[show min lo _+(0+(M.tx.length-hi))=M.tx.length-(hi-lo)by omega,show hi-lo=((hi-lo:Nat):Int)by omega];exact this
 refine⟨?_,c⟩;rcases l with ⟨rfl,e,f,g⟩ | ⟨e,f,rfl⟩
 ·have a:UH (XV M hi hi ps)=Hs M hi hi ps:=by simp[UH,XV]
  have d:Mn (XV M hi hi ps)=M.tx:=by simp[Mn,XV]
  have h:(Hs M hi hi ps).length=M.tx.length+ps.length:=by
   unfold Hs;simp only[xg,xi,xz];omega
  refine⟨by show 0<hi-hi+ps.length;omega,by rw[a,h];show hi+(hi-hi+ps.length)<=_;omega,by rw[a,h];exact g,?_,b,c⟩;rw[a,d]
  show M.tx=(Hs M hi hi ps).take hi++(Hs M hi hi ps).drop (hi+(hi-hi+ps.length))
  have m:(M.tx.take hi).length=hi:=(by rw[xi];omega);unfold Hs;rw[vB qF,xU qF,List.drop_append,m,vx qF,vq,show hi+(hi-hi+ps.length)-hi=ps.length by omega,ki qF,List.drop_length,vq,vy]
 have i:decide (hi=lo)=false:=decide_eq_false qF;have a:UH (XV M lo hi [])=M.tx:=by simp[UH,XV,i]
 have d:Mn (XV M lo hi [])=Hs M lo hi []:=by simp[Mn,XV,i]
 refine⟨by show 0<hi-lo+0;omega,by rw[a];show lo+(hi-lo+0)<=_;omega,by rw[a];exact j,?_,b,c⟩;rw[a,d]
 show Hs M lo hi []=M.tx.take lo++M.tx.drop (lo+(hi-lo+0))
 rw[show lo+(hi-lo+0)=hi by omega];rfl
def Iv.ed{lo hi ps}(b:Iv k M)(j:hi=lo/\0<ps.length/\lo<=M.tx.length/\M.tx.length+ps.length<=8192\/lo<hi/\hi<=M.tx.length/\ps= []):Iv (k+1) (Fo M lo hi ps):=by
 obtain⟨s,p⟩:=edR_rv b.doc.mv b.doc.tl j;have w:=b.gr;have x:=b.ll;have l:=b.cp;have e:=b.doc
 have m:(Hs M lo hi ps).length<=8192:=by
  have:=e.tl;unfold Hs;simp only[xg,xi,xz];rcases j with ⟨rfl,f,g,q⟩ | ⟨f,g,rfl⟩<;>simp<;>omega
 have n:LS (M.lg++ [zB7 lo hi ps]) (Hs M lo hi ps):=by
  unfold zB7 Hs;rcases j with ⟨rfl,f,g,q⟩ | ⟨f,g,rfl⟩
  ·rw[xS rfl];exact b.ls.ins g f q
  rw[xJ qF,vq];exact b.ls.rem f g
 have o:Ch M.tx [XV M lo hi ps] (Hs M lo hi ps):=⟨s,rfl,rfl⟩
 unfold Fo;cases ho:M.op with
 | true=>
  rw[ho,xS rfl]at e;obtain⟨r,ht⟩:=e.cu;refine⟨l,b.sp,⟨m,p,?_,λh i=>?_,⟨r,?_⟩,⟨_,rfl⟩⟩,?_,λ_ _=>rfl,b.qf,?_,n⟩
  ·have:=e.nl;simp;omega
  ·rcases i with d | d
   ·have:=e.gl h (.inl (by simpa using d));omega
   cases d
  ·have:=ht.app o;simpa using this
  ·simp;omega
  simp;omega
 | false=>
  rw[ho]at e;obtain⟨r,ht⟩:=e.cu;obtain⟨t,u⟩:=Ch.psh (c:=M.cp) (Ch.app (by simpa using ht) o);refine⟨l,b.sp,⟨m,p,?_,λh i=>?_,⟨t,?_⟩,⟨_,rfl⟩⟩,?_,λd=>(by cases d),b.qf,?_,n⟩
  ·have:=e.nl
   have:=EB (a:=[XV M lo hi ps]) (show M.un.length<=M.cp by omega);simpa using this
  ·rcases i with d | d
   ·simp at d
    rcases F6 d with v | rfl
    ·have:=e.gl h (.inl v);omega
    simp
   cases d
  ·simpa using u
  ·simp;omega
  simp;omega
def Iv.marks{ms'}(a:Iv k M)(b:MV ms' M.tx.length):Iv (k+1) {M with ms:=ms'}:=⟨a.cp,a.sp,⟨a.doc.tl,b,a.doc.nl,(a.doc.mono (Nat.le_succ k)).gl,a.doc.cu,a.doc.cr⟩,by have:=a.gr;show M.gr.length<=k+1;omega,a.og,a.qf,a.lm,a.ls⟩
def MV.set{m n}(i:MV ms n)(q:n<=8192)(d:WR ms m n=0):MV (Zi (ms++ [m])) n:=by
 unfold WR at d
 split at d
 ·omega
 split at d
 ·omega
 split at d
 ·omega
 split at d
 ·omega
 rename_i g h f j;have g:=by simpa using g
 have h:=by simpa using h
 have f:=by simpa using f
 have j:=by simpa using j
 have k:∀a∈ms++ [m],(XF a=true/\TA a=true)/\a.2.1<=n:=λa c=>by
  rcases vD.1 c with e | e
  ·exact⟨i.1.2.1 a e,i.2 a e⟩
  rw[kR]at e;subst e;exact⟨⟨g,decide_eq_true ⟨f.1,qF⟩⟩,f.2⟩
 refine⟨Rb qJ (λa c=>(k a c).1) ?_,λa c=>(k a ((Zt _).subset c)).2⟩;rw[Qu];refine⟨i.1.ids,qH,λo p b l=>?_⟩;rw[kR]at l;subst l;exact(ZW ms b.1).1 h o p
def MV.cut{j n}(b:MV ms n):MV (FY ms j) n:=by
 have a:(FY ms j).Sublist ms:=by
  have:(ms.take j++ms.drop (j+1)).Sublist (ms.take j++ms.drop j):=List.Sublist.append (List.Sublist.refl _) (by rw[<- List.drop_drop];exact List.drop_sublist _ _);rw[vy]at this;exact this
 exact⟨⟨vC a.length_le b.1.1,λc d=>b.1.2.1 c (a.subset d),b.1.2.2.sublist a⟩,λc d=>b.2 c (a.subset d)⟩
def Iv.snap{i}(c:Iv k M)(g:M.op=false):Iv (k+1) {M with sl:=M.sl.set i (some ⟨M.tx,M.ms,M.un,M.re⟩)}:=by
 have d:=c.doc;rw[g]at d;have a:=c.next;refine⟨a.cp,a.sp,a.doc,a.gr,a.og,⟨by simp[c.sl.1],λe f b=>?_⟩,a.ll,a.ls⟩;rw[Qk]at b
 split at b
 ·split at b
  ·simp at b
   subst b;exact d.mono qF
  cases b
 exact c.qf.2 e f b
def Iv.back{c:Nat}{kk}(a:Iv k M)(d:M.op=false)(e:M.sl[c]?=some (some kk)):Iv (k+1) {M with tx:=kk.tx,ms:=kk.ms,un:=kk.un,re:=kk.re,lg:=M.lg++ [⟨3,0,0,kk.tx⟩]}:=by
 have b:=a.qf.2 c kk e;refine⟨a.cp,a.sp,?_,by have:=a.gr;show M.gr.length<=k+1;omega,λf=>(by simp_all),a.qf,by have:=a.ll;simp;omega,a.ls.lod b.tl⟩
 show zBa M.cp _ kk.tx kk.ms kk.un kk.re (if M.op then M.gr else [])
 rw[d];exact b
end
section
variable {k:Nat} {M:SS} {b:Bool}
def Js(b):∀(a:List SR)(M),(a.foldl (WQ b) M).sp=M.sp/\(a.foldl (WQ b) M).sl=M.sl/\(a.foldl (WQ b) M).gr=M.gr/\(a.foldl (WQ b) M).op=M.op
 | [],_=>⟨rfl,rfl,rfl,rfl⟩
 | c::a,M=>Js b a (WQ b M c)
def RV.ls{r}(a:RV r)(ht:M.tx=Ks r (!b))(c:LS M.lg M.tx):LS (WQ b M r).lg (WQ b M r).tx:=by
 have e:=a.sl;have f:=a.lb;have d:=a.on;have g:=a.n0
 show LS (M.lg++ [zB6 r b]) (Ks r b)
 unfold zB6;cases hp:(r.put != b)with
 | true=>
  rw[ht,(Yz hp).2]at c;rw[cond_true,(Yz hp).1,<- IQ,<- a.go];exact c.ins qF (by have:=a.rl;omega) (by have:=a.rl;omega)
 | false=>
  rw[ht,(YV hp).2]at c;rw[cond_false,(YV hp).1,a.ed];exact c.rem qF d
def Ch.undoL{t u g}(e:Ch t g u)(ht:M.tx=u)(f:MV M.ms M.tx.length)(h:LS M.lg M.tx):∀a,a<=g.length->LS (ZD g (g.length-a) M).lg (ZD g (g.length-a) M).tx
 | 0,_=>by
  have j:ZD g g.length M=M:=(by unfold ZD;simp);rw[Nat.sub_zero,j];exact h
 | a+1,s=>by
  have c:=Ch.undoL e ht f h a qF;obtain⟨i,o⟩:=Ch.undo e ht f a qF;have d:g.length-a=g.length-(a+1)+1:=qF;have b:g[g.length-(a+1)]?=some _:=xw qF;generalize g[g.length-(a+1)]=m at b;generalize g.length-(a+1)=n at *;rw[d,vH,b]at i;rw[d]at c;obtain⟨p,q,k,r,l⟩:=i.cut;rw[Xu b];exact k.ls l.symm c
def Ch.redoL{u v g}(c:Ch u g v)(ht:M.tx=u)(d:MV M.ms M.tx.length)(e:LS M.lg M.tx):∀a,a<=g.length->LS (yn g a M).lg (yn g a M).tx
 | 0,_=>e
 | a+1,j=>by
  have f:=Ch.redoL c ht d e a qF;obtain⟨b,i⟩:=Ch.redo c ht d a qF;have h:g[a]?=some g[a]:=xw qF;rw[vN qF]at b;rw[Jh h];exact b.1.ls b.2.1 f
def Iv.undoT{U g}(d:Iv k M)(e:M.op=false)(f:M.un=U++ [g]):∃b a,Ch b U.flatten a/\Ch a g M.tx:=by
 have c:=d.doc;rw[e,f]at c;obtain⟨b,ht⟩:=c.cu;simp at ht;obtain⟨a,h,i⟩:=ht.cut;exact⟨b,a,h,i⟩
def Iv.redoT{U g}(d:Iv k M)(e:M.re=U++ [g]):∃a c,Ch M.tx g a/\Ch a U.reverse.flatten c:=by
 have b:=d.doc;rw[e]at b;obtain⟨f,ht⟩:=b.cr;simp at ht;obtain⟨a,h,i⟩:=ht.cut;exact⟨a,f,h,i⟩
def Iv.undo{U g}(a:Iv k M)(Q:k<=10000)(E:M.op=false)(l:M.un=U++ [g])(F:M.sp+j5 true g<=200000):Iv (k+1) {ZD g 0 {M with sp:=M.sp+j5 true g} with un:=U,re:=M.re++ [g]}:=by
 obtain⟨G,H,R,d⟩:=a.undoT E l;have N:=a.doc.gl g (.inl (by rw[l];simp));have m:=a.doc.mv;obtain⟨s,t⟩:=d.undo (M:={M with sp:=M.sp+j5 true g}) rfl m g.length lR;have n:=d.undoL (M:={M with sp:=M.sp+j5 true g}) rfl m a.ls g.length lR;have o:=Js true (g.drop 0).reverse {M with sp:=M.sp+j5 true g};have p:=Yu true (g.drop 0).reverse {M with sp:=M.sp+j5 true g};have q:=Xv true (g.drop 0).reverse {M with sp:=M.sp+j5 true g};rw[kh]at s t n
 change (ZD g 0 _).sp=_/\(ZD g 0 _).sl=_/\(ZD g 0 _).gr=_/\(ZD g 0 _).op=_ at o
 change (ZD g 0 _).un=_/\(ZD g 0 _).re=_/\(ZD g 0 _).cp=_ at p
 change (ZD g 0 _).lg.length=_ at q
 generalize ZD g 0 {M with sp:=M.sp+j5 true g}=c at *;obtain⟨u,v,w,I⟩:=o;obtain⟨J,K,h⟩:=p;simp at u v w I J K h;have y:=a.qf;have z:=a.cp;have O:=a.gr;have P:=a.ll;have r:=a.doc.nl;have A:=a.doc.cr;rw[l]at r;have B:H=c.tx:=s;subst B;refine⟨by rw[h];exact z,by rw[u];exact F,⟨?_,t,?_,λe C=>?_,⟨G,?_⟩,?_⟩,by show c.gr.length<=k+1;rw[w];omega,λj=>?_,?_,?_,n⟩
 ·show c.tx.length<=8192
  cases hgq:g with
  | nil=>simp_all
  | cons S e=>
   rw[hgq]at d;rw[d.2.1];exact d.1.tl (b:=true)
 ·show U.length+(M.re++ [g]).length<=c.cp
  rw[h];simp at r |-;omega
 ·show 0<e.length/\e.length<=k+1
  rcases C with j | j
  ·have:=a.doc.gl e (.inl (by simp_all));omega
  rcases vD.1 j with i | i
  ·have:=a.doc.gl e (.inr i);omega
  rw[kR]at i;subst i;omega
 ·simp_all
 ·obtain⟨x,L⟩:=A
  refine⟨x,?_⟩
  show Ch c.tx (M.re++ [g]).reverse.flatten x
  simp;exact d.app L
 ·simp_all
 ·show c.sl.length=8/\∀(D:Nat)(f:SK),c.sl[D]?=some (some f)->zBa c.cp (k+1) f.tx f.ms f.un f.re []
  rw[v,h];exact y
 show c.lg.length<=_
 rw[q];simp;omega
def Iv.redo{U g}(a:Iv k M)(V:k<=10000)(u:M.op=false)(m:M.re=U++ [g])(I:M.sp+j5 false g<=200000):Iv (k+1) {yn g g.length {M with sp:=M.sp+j5 false g} with re:=U,un:=M.un++ [g]}/\M.un++ [g]=jb M.cp M.un g:=by
 obtain⟨J,K,h,L⟩:=a.redoT m;have Q:=a.doc.gl g (.inr (by rw[m];simp));have n:=a.doc.mv;obtain⟨v,N⟩:=h.redo (M:={M with sp:=M.sp+j5 false g}) rfl n g.length lR;have B:=h.redoL (M:={M with sp:=M.sp+j5 false g}) rfl n a.ls g.length lR;have o:=Js false (g.take g.length) {M with sp:=M.sp+j5 false g};have p:=Yu false (g.take g.length) {M with sp:=M.sp+j5 false g};have q:=Xv false (g.take g.length) {M with sp:=M.sp+j5 false g};rw[List.drop_length]at v
 change (yn g g.length _).sp=_/\(yn g g.length _).sl=_/\(yn g g.length _).gr=_/\(yn g g.length _).op=_ at o
 change (yn g g.length _).un=_/\(yn g g.length _).re=_/\(yn g g.length _).cp=_ at p
 change (yn g g.length _).lg.length=_ at q
 generalize yn g g.length {M with sp:=M.sp+j5 false g}=c at *;obtain⟨w,x,y,z⟩:=o;obtain⟨O,P,j⟩:=p;simp at w x y z O P j;have C:=a.qf;have D:=a.cp;have R:=a.gr;have S:=a.ll;have r:=a.doc.nl;have s:=a.doc.cu;rw[m]at r;simp only[xg,vh,ke]at r;have E:c.tx=J:=v;subst E;refine⟨⟨by rw[j];exact D,by rw[w];exact I,⟨?_,N,?_,λi G=>?_,?_,⟨K,L⟩⟩,by show c.gr.length<=k+1;rw[y];omega,λe=>?_,?_,?_,B⟩,?_⟩
 ·show c.tx.length<=8192
  have F:g[g.length-1]?=some g[g.length-1]:=xw qF
  have t:g=g.take (g.length-1)++ [g[g.length-1]]:=by
   conv=>lhs;rw[<- kX (l:=g),show g.length=g.length-1+1 by omega,vH,F]
   rfl
  generalize g[g.length-1]=T at t;rw[t]at h;obtain⟨_,_,d,_,e⟩:=h.cut;rw[<- (e)];exact d.tl (b:=false)
 ·show(M.un++ [g]).length+U.length<=c.cp
  rw[j];simp;omega
 ·show 0<i.length/\i.length<=k+1
  rcases G with e | e
  ·rcases vD.1 e with d | d
   ·have:=a.doc.gl i (.inl d);omega
   rw[kR]at d;subst d;omega
  have:=a.doc.gl i (.inr (by simp_all));omega
 ·rw[u]at s
  obtain⟨A,ht⟩:=s;refine⟨A,?_⟩
  show Ch A ((M.un++ [g]).flatten++if c.op then c.gr else []) c.tx
  rw[z,u];simp at ht |-;exact ht.app h
 ·simp_all
 ·show c.sl.length=8/\∀(H:Nat)(f:SK),c.sl[H]?=some (some f)->zBa c.cp (k+1) f.tx f.ms f.un f.re []
  rw[x,j];exact C
 ·show c.lg.length<=_
  rw[q];simp;omega
 unfold jb;rw[xJ qF]
def Iv.gn{g}(e:Iv k M)(f:g∈M.un\/g∈M.re)(h:M.op=false):∀a∈g,RV a:=by
 intro a d;have b:=e.doc;rw[h]at b;rcases f with c | c
 ·obtain⟨i,ht⟩:=b.cu
  exact ht.rv a (by simp;exact⟨g,c,d⟩)
 obtain⟨i,ht⟩:=b.cr;exact ht.rv a (by simp;exact⟨g,c,d⟩)
end
