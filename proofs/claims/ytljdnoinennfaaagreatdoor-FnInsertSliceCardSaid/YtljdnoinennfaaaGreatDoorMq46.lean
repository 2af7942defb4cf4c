import Derived.Test.YtljdnoinennfaaaGreatDoorMq45
import Derived.Test.YtljdnoinennfaaaGreatDoorMq36
import Derived.Test.YtljdnoinennfaaaGreatDoorMq34
set_option linter.all false
set_option maxRecDepth 100000
set_option maxHeartbeats 8000000
namespace Go.Proofs.YtljdnoinennfaaaGreatDoor
open Go Go.RowKit
noncomputable def insM (x:Gr) (cc:Nat) (L:List (List Int)):List Gr:=[insG (delG x cc (grT x).length) cc (L.headD [])]++plR L.tail ((grT x).drop cc)
noncomputable def yQ (gs:List Gr) (k:Nat) (x:Gr) (cc:Nat) (ts:List Int):List Gr:=
 gs.take k++(if(lns ts).length=1 then [insG x cc ts]else insM x cc (lns ts))++gs.drop (k+1)
def Y8 (gs:List Gr) (off:Nat) (ts:List Int) (w:World) (lo c:Nat) (h:Int) (e:Ending) (w':World):Prop:=
 e= .returned (.tuple #[])∧∃ (k:Nat) (x:Gr) (g' f d b:Nat) (sv':Value) (g:List Value) (a:List Gr),Ln (gs.map grT) off k∧gs[k]? =some x∧LCr w' lo w'.heap.size c (.slice (qK g' 0) a.length f) sv' g a d b (h+ts.length) ((stL (gs.map grT)).take (k+1))∧(d<=b∧b<=a.length∧a.length<=65536)∧cutG d b a=yQ gs k x (off - sAt (gs.map grT) k) ts∧Below lo w w'
theorem cut_glay {α:Type} {z:α} {xs:List α} {p a:Nat} (c:p<=xs.length) (d:xs.length<=a):cutG p (p+(a - xs.length)) (glayA z xs p a)=xs:=by
 unfold glayA cutG
 have b:(xs.take p).length=p:=by simp;omega
 rw [Ql b,<- xq,Qm (by simp;omega),xG]
theorem KE {α:Type} {xs:List α} {k:Nat} (a:α) (b:k<xs.length):xs.set k a=xs.take k++ [a]++xs.drop (k+1):=by
 rw [List.set_eq_take_append_cons_drop,xj b];simp
theorem zH9 {ts:List Int} (b:10∈ts):∃a c,ts=a++10::c∧10∉a:=by
 induction ts with
 | nil=>simp at b
 | cons t ts h=>
  by_cases e:t=10
  ·exact⟨[],ts,by rw [e];rfl,by simp⟩
  ·have d:10∈ts:=by
    rcases xR.1 b with q | q
    ·exact absurd q.symm e
    ·exact q
   obtain⟨a,c,f,g⟩:=h d
   exact⟨t::a,c,by rw [f];rfl,by intro q;rcases xR.1 q with q | q;exact e q.symm;exact g q⟩
theorem insLC2 (lo hi c g cap n off:Nat) (dw:Value) (Y:List Value) (gs:List Gr) (D:Int) (Z:List Int) (ts:List Int) (b o m ba:Nat) (w:World) (ca:LCr w lo hi c (.slice (some ⟨g,0,none⟩) n cap) dw Y gs n n D Z) (bc:gs.length=n) (fn:n<=8193) (fo:hi<=w.heap.size) (aa:lo<=c) (fp:c<hi) (cb:1<=Z.length) (hst:Z=(stL (gs.map grT)).take Z.length) (fq:Z.length<=n) (cd:∀x∈gs,okG x) (b9:(jn (gs.map grT)).length+m<=8192) (dx:off<=(jn (gs.map grT)).length)
  (dy:ts.length=m) (gz:2<=(lns ts).length) (bd:b<lo) (fr:m<=ba) (fs:ba<=maxLen) (g0:0<=D∧D<=8192) (be:∀i,i<ts.length->w.cell? ⟨b,o+i,none⟩=some (.int .i32 (ts.getD i 0))):
  Calls Tryz.prog 171 #[.pointer (some ⟨c,0,none⟩),.int .i64 off,.slice (some ⟨b,o,none⟩) m ba] w (Y8 gs off ts w lo c D):=by
 unfold Y8
 have f5:lo<=w.heap.size:=by omega
 have cr:=qG (Kv lo hi c g cap n off dw Y gs D Z w ca bc fn fo aa fp cb hst fq cd (by omega) (by omega))
 have ct:=qG cd;have ef:=qG cb;have cu:=qG be;have t:=qG bc;have ax:=qG dy
 have N:=qG (show(gs.map grT).length=n by rw [xL,bc])
 have eg:=qG dx;have cv:=qG b9
 have eh:n<=cap:=by
  have O:=ca.rows.row;rw [bc]at O
  rcases O.2 with ⟨e,_⟩ | ⟨_,_,_,e,_,_,fv,_⟩
  ·cases e
  ·simp only [xF]at e
   obtain⟨_,_,rfl⟩:=e;exact fv
 have f6:m<=8192:=by omega
 have ei:=qG (show(lns ts).length<=m+1 by have:=(jE ts).2;omega)
 have cw:=qG (fun(l:List Int) (b8:l∈lns ts)=>(show l.length<=m from by have:=jy b8;omega))
 clear ca cd hst cb be b9 dx dy;generalize fj:gs.map grT=H at *;generalize ds:lns ts=f at *;have cx:=qG ds;clear ds;go_enter Tryz.func171,Tryz.ntmps171;go_wp2_with fail;refine cr.out.mono ?_;rintro e w1 ⟨k,bf,fw,rfl,al,cf,ab,bg⟩
 have T:k<n:=by have:=al.1;rw [N.out]at this;exact this
 obtain⟨x,am⟩:∃x,gs[k]? =some x:=⟨gs[k]'(by rw [t.out];exact T),by simp [t.out,T]⟩
 have bm:H[k]? =some (grT x):=by rw [<- fj,vA,am];rfl
 have af:=al.col eg.out bm;obtain⟨cc,cg⟩:∃cc,cc=off - sAt H k:=⟨_,rfl⟩;rw [<- cg]at af
 have cy:(off:Int) - (sAt H k:Nat)=(cc:Nat):=by have:=af.2;omega
 rw [cy];have P:=ab.rows.len
 obtain⟨u,d1⟩:∃u,Y[k]? =some u:=⟨Y[k]'(by rw [P,t.out];exact T),by simp [P,t.out,T]⟩
 have cz:=cf.lt al ef.out
 have f7:bf<=n:=by have:=cf.2.1;rw [N.out]at this;exact this
 have AT:=qG (atN c g cap n k n n w1 ⟨ab.cells.1,ab.cells.2.1,ab.cells.2.2.1⟩ T lR eh (by omega))
 have ay:=qG ab;have c0:=qG bg;have ej:=qG al;have U:=qG am;have C:=qG d1;have ek:=qG cg;have ag:=qG af;have c1:=qG cz;have f8:=(YE (ct.out x (xg am)).1).2.1
 have f9:cc<=8192:=by have:=af.1;omega
 have el:=qG (show(grT x).length+m<=8192 from by
   have c2:=YB (ls:=H) (i:=k) (l:=grT x) bm
   have O:=jM (ls:=H) (by intro e;have:=N.out;rw [e]at this;simp at this;omega)
   have:=cv.out;have em:=N.out
   omega)
 have ga:n+m<=8193:=by
   have O:=jM (ls:=H) (by intro e;have:=N.out;rw [e]at this;simp at this;omega)
   have:=cv.out;have em:=N.out;omega
 have en:=qG (show ∀i,i<ts.length->w1.cell? ⟨b,o+i,none⟩=some (.int .i32 (ts.getD i 0))from fun i hi=>(bg.cell (p:=⟨b,o+i,none⟩) bd).trans (cu.out i hi))
 have gb:=bg.size;have PX:=qG (ct.out x (xg am)).1;clear ab bg al cf am d1 cg af cz cy bm P cr cu;go_wp2_with fail;refine AT.out.mono ?_;rintro e wx ⟨rfl,d2⟩;have eo:=d2.symm;subst eo;clear d2 AT
 have bn:=qG (cutLB ts b o ba w1 en.out (by omega) (by rw [ax.out];omega) (by rw [ax.out];exact fr) fs)
 rw [ax.out,cx.out]at bn;go_wp2_with fail;refine bn.out.mono ?_;rintro e L ⟨g1,G,rfl,an,d3,ao⟩;have ep:=ao.size
 obtain⟨q,d⟩:∃q,f.length=q+2:=⟨f.length - 2,by omega⟩
 have A:=qG d
 have gc:q+1<=m:=by have:=ei.out;omega
 rw [d]at an
 rcases an.2 with ⟨_,z⟩ | ⟨E,K,g2,z,g3,_,z3,fy,_⟩
 ·omega
 subst z;unfold maxLen at fy;have gd:=(an.lt E rfl).2;have c3:=qG an;have az:=qG d3;have bo:=qG (ay.out.below ao lR ay.out.lt);have c4:=qG ay.out
 have c5:=qG (c0.out.trans (ao.mono (by omega)))
 have c6:=qG (show Below lo w1 L from ao.mono (by omega))
 have ge:¬ (((q+2:Nat):Int)=1):=by omega
 have c7:=qG (zFc bo.out.rows t.out U.out C.out PX.out);clear an d3 ao bn ay c0 d
 have gf:(((q:Int)+2)==1)=false:=by simp;omega
 go_wp2_with fail;refine c7.out.mono ?_;rintro e wy ⟨rfl,ac,rfl⟩
 have a0:=qG (show LCr (L.drewN ac) lo L.heap.size c (.slice (some ⟨g,0,none⟩) n cap) _ Y gs n n D _ from(bo.out.mono lR ep).same rfl)
 have bp:=qG (yM c5.out ac)
 have c8:=qG (show(L.drewN ac).ownsRow w1.heap.size 25 1 (.slice (some ⟨E,0,none⟩) (q+2) K) (q+2) G from zB c3.out (fun _ _=>rfl))
 have T3:=qG (yM c6.out ac);have gg:(L.drewN ac).heap.size=L.heap.size:=rfl;generalize L.drewN ac=aj at *;clear bo c5 c7 c3 c6;have a1:=qG (rowReadN (a:=cc) (b:=(grT x).length) a0.out.rows t.out U.out C.out PX.out ag.out.1 lR)
 rw [xE (by rw [qS];exact lR)]at a1
 obtain⟨h,bh⟩:∃h,h=(grT x).drop cc:=⟨_,rfl⟩;rw [<- bh]at a1;have eq:=qG bh
 have er:h.length=(grT x).length - cc:=by rw [bh,qS]
 obtain⟨I,d4⟩:∃I,I=h.length:=⟨_,rfl⟩;have c9:=qG d4
 have gh:I<=8192:=by omega
 clear bh er d4;generalize dt:(grT x).length=b7 at *;have ah:=qG dt;clear dt;go_wp2_with fail;refine a1.out.mono ?_;rintro e aq ⟨g4,rfl,ch,ad⟩;obtain⟨ar,au,d5⟩:=y9 ch;rw [<- c9.out]at d5;subst d5;have es:=ad.size
 have bq:=qG (a0.out.below ad (by omega) a0.out.lt)
 have da:=qG ch;have db:=qG (zA c8.out ad lR)
 have dc:=qG (bp.out.trans (ad.mono (by have:=bp.out.size;omega)))
 have dd:=qG (T3.out.trans (ad.mono (by have:=T3.out.size;omega)))
 have br:=qG (zFc bq.out.rows t.out U.out C.out PX.out);rw [ah.out]at br;clear ch ad a1 a0 bp c8 T3;go_wp2_with fail;refine br.out.mono ?_;rintro e wz ⟨rfl,R,rfl⟩
 have V:=qG (show LCr (aq.drewN R) lo L.heap.size c (.slice (some ⟨g,0,none⟩) n cap) _ Y gs n n D _ from bq.out.same rfl)
 have a2:=qG (show o32 (aq.drewN R) aj.heap.size (.slice ar I au) h from zB da.out (fun q _=>rfl))
 have a3:=qG (show(aq.drewN R).ownsRow w1.heap.size 25 1 (.slice (some ⟨E,0,none⟩) (q+2) K) (q+2) G from zB db.out (fun _ _=>rfl))
 have de:=qG (yM dc.out R);have df:=qG (yM dd.out R);have gi:aj.heap.size<=(aq.drewN R).heap.size:=es;generalize aq.drewN R=gy at *;clear bq da dc br db dd
 have bs:=qG (rowDelN (a:=cc) (b:=b7) V.out.rows t.out U.out C.out (by omega) PX.out ag.out.1 (by rw [ah.out];exact lR))
 have bt:=qG (Y6 PX.out (a:=cc) (b:=b7) ag.out.1 (by rw [ah.out];exact lR))
 have et:=qG (V.out.rows.nest.bl u (xg C.out));have gj:=V.out.rows.bl g rfl;have dg:=qG (c4.out.rows.nest.bl u (xg C.out));have gk:=c4.out.rows.bl g rfl;obtain⟨z,ci⟩:∃z,z=delG x cc b7:=⟨_,rfl⟩;rw [<- ci]at bs bt;have eu:=qG ci;clear ci
 obtain⟨B,bi⟩:∃B,f[0]? =some B:=⟨f[0]'(by rw [A.out];omega),by simp [A.out]⟩
 have P:=az.out.len
 obtain⟨a8,cj⟩:∃a8,G[0]? =some a8:=⟨G[0]'(by rw [P,A.out];omega),by simp [P,A.out]⟩
 have bu:=qG (az.out.at_ 0 a8 B cj bi);have ev:=qG bi;have dh:=qG cj;have ew:B.length<=m:=cw.out B (xg bi)
 obtain⟨J,Q,fz⟩:∃J Q,a8= .slice (some ⟨b,J,none⟩) B.length Q:=by obtain⟨J,Q,e,_⟩:=bu.out;exact⟨J,Q,e⟩
 subst fz;obtain⟨a9,bj⟩:∃a9,a9=B.length:=⟨_,rfl⟩;have di:=qG bj;rw [<- bj]at bu dh;rw [<- bj]at ew;clear bi cj bj P;go_wp2_with fail;refine bs.out.mono ?_;rintro e bk ⟨rfl,u6,d6,d7,av⟩
 obtain⟨d8,ck⟩:=V.out.rowed (by omega) C.out aa d6 av
 have gm:=av.size
 have a4:=qG (fun(q:Nat) (d:w1.heap.size<=q)=>(show ¬ (q=g∨u.ownBlock=some q)from fun s=>by
   rcases s with s | s
   ·omega
   ·have:=dg.out q s;omega))
 have a5:=qG (show o32 bk aj.heap.size (.slice ar I au) h from zB a2.out (fun q d=>av.block q (a2.out.lt q d).2 (a4.out q (by have:=(a2.out.lt q d).1;omega))))
 have ai:=qG (show bk.ownsRow w1.heap.size 25 1 (.slice (some ⟨E,0,none⟩) (q+2) K) (q+2) G from zB a3.out (fun q d=>av.block q (a3.out.lt q d).2 (a4.out q (a3.out.lt q d).1)))
 have bv:=qG d8;have dj:=qG (de.out.trans ck);have bw:=qG (df.out.trans ck)
 have ex:(gs.set k z).length=n:=by rw [kB,t.out]
 have ey:(grT z).length=cc:=by rw [bt.out.2];have:=ag.out.1;have:=ah.out;simp only [qM,qN,qS];omega
 have ez:¬ (b=g∨u6.ownBlock=some b):=by rw [d7];exact V.out.off bd C.out
 have e0:b<bk.heap.size:=by omega
 have gn:=el.out;have go:=ag.out.1
 have dk:=qG (zFa (p:=cc) (ts:=B) (ap:=some ⟨b,J,none⟩) (m:=a9) (cp:=Q) bv.out.rows ex (Y7 U.out) (Y7 C.out) lR bt.out.1 (by omega) di.out (by omega) (fun w' dv=>by
  have c2:=bu.out.sl bw.out bd e0
  rcases c2 with ⟨e,_⟩ | ⟨g5,g6,g7,e,O,f0⟩
  ·cases e
  ·simp only [xF,xw,ka,kW]at e
   obtain⟨⟨rfl,rfl⟩,_,rfl⟩:=e
   exact .inr ⟨b,J,Q,by rw [di.out],xz O dv.size,fun i hi=>(qV (a:=⟨b,J+i,none⟩) (dv.block b O ez)).trans (f0 i hi)⟩))
 have e1:bk.cell? ⟨E,0,none⟩=some (.slice (some ⟨b,J,none⟩) a9 Q):=by
  have:=ai.out.cellAt 0 (by omega)
  rw [this];exact dh.out
 clear d8 ck d6 av bs V a2 de a3 df ey;go_wp2_with fail;refine dk.out.mono ?_;rintro e y ⟨rfl,u7,cl,aw⟩;simp only [List.set_set]at cl;obtain⟨d9,F⟩:=bv.out.rowed lR (Y7 C.out) aa cl aw;have gp:=aw.size
 have bx:=qG (fun(q:Nat) (d:w1.heap.size<=q)=>(show ¬ (q=g∨u6.ownBlock=some q)from by rw [d7];exact a4.out q d))
 have dl:=qG (show o32 y aj.heap.size (.slice ar I au) h from zB a5.out (fun q d=>aw.block q (a5.out.lt q d).2 (bx.out q (by have:=(a5.out.lt q d).1;omega))))
 have bz:=qG (show y.ownsRow w1.heap.size 25 1 (.slice (some ⟨E,0,none⟩) (q+2) K) (q+2) G from zB ai.out (fun q d=>aw.block q (ai.out.lt q d).2 (bx.out q (ai.out.lt q d).1)))
 have b0:=qG (dj.out.trans F);have X:=qG (bw.out.trans F);have a6:=qG d9
 have dm:(gs.set k (insG z cc B)).length=n:=by rw [kB,t.out]
 have e2:b<y.heap.size:=by omega
 have gq:=(bz.out.lt E rfl).2
 have dn:=qG (fun(W:World) (be:Below lo w1 W) (dz:W.ownsRow w1.heap.size 25 1 (.slice (some ⟨E,0,none⟩) (q+2) K) (q+2) G) (ce:o32 W aj.heap.size (.slice ar I au) h) (ft:b<W.heap.size)=>plainRowsO f.tail h E 1 (K - 1) (.slice ar I au) W q (by rw [Qh,A.out];rfl) (dz.lt E rfl).2 (by omega) (by unfold maxLen;omega) (fun j b9=>by
  have b1:j+1<f.length:=by rw [A.out];omega
  have dp:j+1<G.length:=by rw [az.out.len];exact b1
  refine⟨G[j+1],f[j+1],by simp [b1],(az.out.at_ (j+1) _ _ (qY dp) (qY b1)).sl be bd ft,?_⟩
  have:=dz.cellAt (1+j) (by omega)
  rw [this,Nat.add_comm 1 j]
  exact qY dp) (Sl.qd ce) (by omega) (fun l b8=>by have:=cw.out l (List.mem_of_mem_tail b8);omega) (by rw [<- c9.out];omega))
 have dq:=qG (fun(fu:List Value) (W:World) (d0:Below y.heap.size y W) (ce:OwG 129 W y.heap.size W.heap.size (.slice (some ⟨y.heap.size,0,none⟩) (q+1) (q+1)) fu (plR f.tail h))=>rowsInsN (p:=k+1) (a6.out.below d0 lR a6.out.lt) dm (by have:=d0.size;omega) aa ce (by rw [zF8 (by intro e;have:=kO List.length e;rw [Qh,A.out]at this;simp at this),Qh,A.out];rfl) (by omega) lR lR (by omega) (by omega) (by omega))
 have e3:lo<=y.heap.size:=by have:=b0.out.size;omega
 have gr:c<y.heap.size:=a6.out.lt
 have gt:¬ (K:Int)=1:=by omega
 have gu:(1:Int)<=K:=by omega
 have gv:IntKind.i64.wrap ((k:Int)+1)=((k+1:Nat):Int):=by rw [i64wS _ (by omega) (by omega)];omega
 generalize du:insG z cc B=v at *;have e4:=qG du;clear d9 F cl aw dk bv a5 dj ai bw e1 du a4 bx dg et
 go_upto_region 8 with fail
 go_cut []from 11 to 68 (fun wc=>∃fk fl ak fm,LCr wc lo wc.heap.size c (.slice (some ⟨fk,0,none⟩) ak fl) fw fm (glayA nilG ((gs.set k v).take (k+1)++(plR f.tail h++(gs.set k v).drop (k+1))) (k+1+(q+1)) ak) (k+1+(q+1)) (k+1+(ak - n)) D ((stL H).take bf)∧n+(q+1)<=ak∧ak<=65536∧Below lo y wc)
 case first=>
  go_region_with (first
   | (go_at_call 76;refine(dn.out _ (by exact⟨X.out.os,X.out.tape,X.out.output,X.out.size,X.out.block⟩) (by exact zB bz.out (fun _ _=>rfl)) (by exact zB dl.out (fun _ _=>rfl)) (by exact e2)).mono ?_;rintro e ea ⟨f1,rfl,eb,F⟩;have b2:Below y.heap.size y ea:=⟨F.os,F.tape,F.output,F.size,F.block⟩;have e5:=qG (dq.out f1 ea b2 eb);have e6:=qG b2;clear eb F b2)
   | (go_at_call 180;refine(e5.out).mono ?_;rintro e g8 ⟨rfl,cm,cn,M,co,S,cq,bl,ae⟩;have a7:=qG S;have e7:=qG cq;have e8:=qG bl;have e9:=qG ((e6.out.mono e3).trans ae);clear S cq bl ae))
  all_goals
   go_wp2_with fail;go_meet;exact⟨cm,cn,M,co,a7.out,e7.out,e8.out,e9.out⟩
 case rest=>
  obtain⟨cm,cn,M,co,S,cq,bl,ae⟩:=hcut
  rename World=>w8
  have gw:=ae.size;have fa:=qG (b0.out.trans ae);have a7:=qG (S.setN (D+m));obtain⟨g9,ha,hb,hc,hd⟩:=S.cells;have gx:=S.fz 3;obtain⟨f2,cs,ec⟩:=j7 a7.out.starts
  have b3:((stL H).take bf).length=bf:=by rw [qN,jG,N.out];omega
  rw [b3]at ec;subst ec
  have b4:=qG (zFb k a7.out b3 c1.out (by omega) aa)
  rw [kH,vG (by have:=c1.out;omega)]at b4
  clear S ae b0 b3 dn dq a6 bz dl X;go_wp2_with fail;refine b4.out.mono ?_;rintro e f3 ⟨rfl,ed,ee,f4⟩;have fc:=qG ed;have fd:=qG ((fa.out.setCell (p:=⟨c,3,none⟩) aa (.int .i64 (D+m))).trans ee)
  have fe:w8.heap.size<=f3.heap.size:=by rw [f4];simp
  clear ed ee b4;go_wp2;go_end0
  have ff:(plR f.tail h).length=q+1:=by
   rw [zF8 (by intro e;have:=kO List.length e;rw [Qh,A.out]at this;simp at this),Qh,A.out];rfl
  have fg:((gs.set k v).take (k+1)++(plR f.tail h++(gs.set k v).drop (k+1))).length=n+(q+1):=by
   simp only [qM,qN,qS,ff,dm];omega
  have b5:(glayA nilG ((gs.set k v).take (k+1)++(plR f.tail h++(gs.set k v).drop (k+1))) (k+1+(q+1)) M).length=M:=zg (by omega) (by omega)
  refine⟨rfl,k,x,cm,cn,k+1+(q+1),k+1+(M - n),.slice f2 (k+1) cs,co,glayA nilG ((gs.set k v).take (k+1)++(plR f.tail h++(gs.set k v).drop (k+1))) (k+1+(q+1)) M,ej.out,U.out,?_,⟨by omega,by rw [b5];omega,by rw [b5];exact bl⟩,?_,fd.out⟩
  ·rw [b5,ax.out]
   exact fc.out.mono lR fe
  ·have fh:k+1+(M - n)=k+1+(q+1)+(M - ((gs.set k v).take (k+1)++(plR f.tail h++(gs.set k v).drop (k+1))).length):=by rw [fg];omega
   rw [fh,cut_glay (by omega) (by omega)]
   unfold yQ insM
   rw [cx.out,qT (by rw [A.out];omega),<- ek.out,ah.out,<- eu.out,<- eq.out]
   have fi:f.headD []=B:=by
    have b6:=ev.out
    match f,b6 with
    | a::r,b6=>simpa using b6
   rw [fi,e4.out,KE v (by rw [t.out];exact T)]
   have dr:(gs.take k++ [v]).length=k+1:=by simp [t.out];omega
   rw [Ql dr,Qm dr];simp only [xq]
theorem zFd {ts:List Int} (d:(lns ts).length=1):10∉ts:=by
 intro b;obtain⟨a,c,rfl,e⟩:=zH9 b;rw [lns_cut a c e,q9]at d;have:=(jE c).1;omega
theorem insLC (lo hi c g cap n off:Nat) (j:Value) (l:List Value) (gs:List Gr) (d:Int) (a:List Int) (ts:List Int) (b o m f:Nat) (w:World) (r:LCr w lo hi c (.slice (qK g 0) n cap) j l gs n n d a) (h:gs.length=n) (s:n<=8193) (t:hi<=w.heap.size) (u:lo<=c) (v:c<hi) (y:1<=a.length) (hst:a=(stL (gs.map grT)).take a.length) (z:a.length<=n) (A:∀x∈gs,okG x) (B:(jn (gs.map grT)).length+m<=8192) (C:off<=(jn (gs.map grT)).length)
  (p:ts.length=m) (D:b<lo) (E:m<=f) (F:f<=maxLen) (G:0<=d∧d<=8192) (H:∀i,i<ts.length->w.cell? ⟨b,o+i,none⟩=some (.int .i32 (ts.getD i 0))):
  Calls Tryz.prog 171 #[.pointer (qK c 0),qJ off,.slice (qK b o) m f] w (Y8 gs off ts w lo c d):=by
 by_cases q:(lns ts).length=1
 ·refine(insLC1 lo hi c g cap n off j l gs d a ts b o m f w r h s t u v y hst z A B C p (zFd q) D E F G H).mono ?_
  rintro e w' ⟨K,k,x,sv',L,M,I,N,O⟩;have J:k<gs.length:=(xK.1 I).1
  refine⟨K,k,x,g,cap,n,n,sv',L,gs.set k (insG x (off - sAt (gs.map grT) k) ts),M,I,?_,⟨lR,by rw [kB,h];exact lR,by rw [kB,h];omega⟩,?_,O⟩
  ·rw [kB,h,p]
   exact N
  ·rw [zCb]
   unfold yQ;rw [xj q,KE _ J]
 ·exact insLC2 lo hi c g cap n off j l gs d a ts b o m f w r h s t u v y hst z A B C p (by have:=(jE ts).1;omega) D E F G H
end Go.Proofs.YtljdnoinennfaaaGreatDoor
namespace Go.Proofs.YtljdnoinennfaaaGreatDoor
open Go Go.RowKit Go.Proofs.Tryz
theorem Tryz.mRoomL (c : Option Addr) (w : World) : (Go.method 389 76 (.pointer c) "loop.example/s01685/impl.room").run prog w = .ok (174, .pointer c) w := by kernel_rfl
theorem Tryz.mInsertL (c : Option Addr) (w : World) : (Go.method 389 76 (.pointer c) "loop.example/s01685/impl.insert").run prog w = .ok (171, .pointer c) w := by kernel_rfl
theorem Tryz.nInsertL (c : Addr) (w : World) : (Go.nilAhead 389 76 (.pointer (some c)) "loop.example/s01685/impl.insert").run prog w = .ok (some false) w := by kernel_rfl
theorem roomLC (lo hi c:Nat) (g h:Value) (i:List Value) (gs:List Gr) (a b:Nat) (d:Int) (j:List Int) (w:World) (f:LCr w lo hi c g h i gs a b d j) (k:0<=d∧d<=8192):
  Calls prog 174 #[.pointer (qK c 0)] w fun e w'=>e= .returned (qJ (8192 - d))∧w'=w:=by
 obtain⟨l,m,n,o,p⟩:=f.cells
 have w1:IntKind.i64.wrap (8192 - d)=8192 - d:=i64wS _ (by omega) (by omega)
 clear f;go_enter func174,ntmps174;go_wp2;go_ret;exact⟨rfl,rfl⟩
theorem insTextL (lo hi c g cap n off:Nat) (d:Value) (f:List Value) (gs:List Gr) (r:Nat) (a:List Int) (ts:List Int) (b o m h:Nat) (w:World) (j:LCr w lo hi c (.slice (qK g 0) n cap) d f gs n n (r:Int) a) (W:r=(jn (gs.map grT)).length) (t:gs.length=n) (u:n<=8193) (v:hi<=w.heap.size) (y:lo<=c) (z:c<hi) (A:1<=a.length) (hst:a=(stL (gs.map grT)).take a.length) (B:a.length<=n) (C:∀x∈gs,okG x) (D:(jn (gs.map grT)).length+m<=8192) (E:off<=(jn (gs.map grT)).length)
  (F:ts.length=m) (ai:1<=m) (G:b<lo) (H:m<=h) (I:h<=maxLen) (J:∀i,i<ts.length->w.cell? ⟨b,o+i,none⟩=some (.int .i32 (ts.getD i 0))):
  Calls prog 43 #[.iface 76 (.pointer (qK c 0)),qJ off,.slice (qK b o) m h] w fun e w'=>e= .returned .nilIface∧Y8 gs off ts w lo c r (.returned (.tuple #[])) w':=by
 have q:=insLC lo hi c g cap n off d f gs r a ts b o m h w j t u v y z A hst B C D E F G H I (by omega) J
 have k:∀e w',Y8 gs off ts w lo c r e w'->e= .returned (.tuple #[])∧Y8 gs off ts w lo c r (.returned (.tuple #[])) w':=by
  intro e w' U;obtain⟨rfl,X⟩:=U;exact⟨rfl,rfl,X⟩
 generalize V:Y8 gs off ts w lo c r (.returned (.tuple #[]))=ah at k |-;have L:=qG (q.mono k);clear q k V
 have M:(0:Int)<=(r:Int)∧(r:Int)<=8192:=by omega
 have s:(0:Int)<=(off:Int)∧(off:Int)<=(r:Int):=by omega
 have ac:=Tryz.mLengthL;have ad:=Tryz.mRoomL;have ae:=Tryz.mInsertL;have af:=Tryz.nInsertL;have N:=qG (lengthLC lo hi c _ d f gs n n r a w j);have O:=qG (roomLC lo hi c _ d f gs n n r a w j M)
 have l:=qG (fun w=>jP off 0 r 2 w)
 rw [show decide ((0:Int)<=(off:Int)∧(off:Int)<=(r:Int))=true by simpa using s]at l
 simp only [errV,kP]at l
 have p:=qG (fun w=>jP (m:Int) 0 (8192 - r) 10 w)
 rw [show decide (0<=(m:Int)∧(m:Int)<=8192 - (r:Int))=true by rw [qZ];omega]at p
 simp only [errV,kP]at p
 have ag:(m:Int) > 0:=by omega
 clear j s C hst J I H G D E A B y z v u t F W;go_enter func43,ntmps43;go_wp2_with fail;refine N.mono ?_;rintro e w1 ⟨rfl,Y⟩;have P:=Y.symm;subst P;go_wp2_with fail;refine(l _).mono ?_;rintro e wx ⟨rfl,Z⟩;have Q:=Z.symm;subst Q;go_wp2_with fail;refine O.mono ?_;rintro e wy ⟨rfl,aa⟩;have R:=aa.symm;subst R;go_wp2_with fail;refine(p _).mono ?_;rintro e wz ⟨rfl,ab⟩;have S:=ab.symm;subst S;go_wp2_with fail;refine L.mono ?_;rintro e aj ⟨rfl,K⟩;have T:=qG K;clear K;go_wp2;go_ret;exact⟨rfl,T⟩
end Go.Proofs.YtljdnoinennfaaaGreatDoor
namespace Go.Proofs.YtljdnoinennfaaaGreatDoor
open Go Go.RowKit
def offR (gs:List Gr) (off:Int):Prop:=0<=off∧off<=(jn (gs.map grT)).length
def LjIns (gs:List Gr) (off:Nat) (ts:List Int) (a:List Gr) (S:List Int):Prop:=∃ (k:Nat) (x:Gr),Ln (gs.map grT) off k∧gs[k]? =some x∧a=yQ gs k x (off - sAt (gs.map grT) k) ts∧S=(stL (gs.map grT)).take (k+1)
def LjAns (gs:List Gr) (a:List Int) (off:Int) (ts:List Int) (b:List Gr) (S:List Int) (C:Int):Prop:=
 (LV gs a∧offR gs off∧(jn (gs.map grT)).length+ts.length<=8192∧ts≠ []∧LjIns gs off.toNat ts b S∧C=0)∨(LV gs a∧offR gs off∧ts= []∧b=gs∧S=a∧C=0)∨
 (LV gs a∧offR gs off∧(ts≠ []∧¬ (jn (gs.map grT)).length+ts.length<=8192)∧b= []∧S= []∧C=10)∨(LV gs a∧¬offR gs off∧b= []∧S= []∧C=2)∨(¬LV gs a∧b= []∧S= []∧C=1)
theorem LjIns.ex (gs:List Gr) (off:Nat) (ts:List Int) (b:1<=gs.length):∃f S,LjIns gs off ts f S:=by
 have d:gs.map grT≠ []:=by intro e;have:=kO List.length e;simp at this;rw [this]at b;simp at b
 obtain⟨k,c⟩:=Ln.ex (gs.map grT) off d;have a:=c.1;rw [xL]at a
 exact⟨_,_,k,gs[k],c,by simp [a],rfl,rfl⟩
theorem zEc (gs:List Gr) (k:Nat) (x:Gr) (cc:Nat) (ts:List Int):1<=(yQ gs k x cc ts).length:=by
 unfold yQ insM
 split<;>simp<;>omega
theorem implLj (gs:List Gr) (s:List Int) (off:Int) (ts:List Int) (Q:Value) (d f:Value) (lo hi:Nat) (w:World) (z:List Gr) (S:List Int) (C:Int) (a0:LjAns gs s off ts z S C) (F:OwL w lo hi d f gs s) (bz:hi<=w.heap.size) (a1:∀x∈gs,x.cells.length<=1048576) (b0:gs.length<=1048576) (hst:s.length<=1048576) (J:Sl .i32 w Q ts) (a2:∀E n c,Q= .slice E n c->n<=c∧c<=maxLen) (b1:ts.length<=1048576) (aa:w.cell? ⟨0,0,none⟩=some (.iface 215 (.agg #[.pointer (qK 2 73)]))) (a3:C=0) (b2:ts≠ []):
  Calls Tryz.prog 13 #[.agg #[d,f],qJ off,Q] w (JA w z S C):=by
 have V:=qG a3;clear a3;have be:0<w.heap.size:=xD w _ aa
 have W:=qG (((qO w.heap.size w).alloc lR (.cells #[d,f] 36)).alloc (by simp) (.cells #[.slice none 0 0,.slice none 0 0] 36))
 have af:=qG (show D2 ((w.alloc (.cells #[d,f] 36)).alloc (.cells #[.slice none 0 0,.slice none 0 0] 36)) (w.heap.size+1) (.slice none 0 0) (.slice none 0 0) 36 from(by have ag:=D2.new (w.alloc (.cells #[d,f] 36)) (.slice none 0 0) (.slice none 0 0) 36;rw [vE]at ag;exact ag))
 have bf:((w.alloc (.cells #[d,f] 36)).alloc (.cells #[.slice none 0 0,.slice none 0 0] 36)).heap.size=w.heap.size+2:=by simp
 have ah:=qG (zDy gs s d f lo hi _ (F.below W bz) (by rw [bf];omega) a1 b0 hst)
 have bg:=qG ((W.cell (p:=⟨0,0,none⟩) be).trans aa);obtain⟨b3,b4,b5,b6,rfl,rfl⟩:=F.val;have X:=qG a0;unfold JA;clear F a1 aa a0;generalize ay:gs.length=n at *;generalize az:s.length=m at *;have A:=qG ay;have cl:=qG az;clear ay az
 by_cases o:LV gs s
 ·have Y:=qG (ah.mono (fun e w' F=>F.1 o))
  unfold RLOk at Y;have ai:=(zDx gs s).1 o;have t:=qG ai;have bh:=qG o;clear ah o ai;go_enter Tryz.func13,Tryz.ntmps13;go_wp2_with fail;generalize (w.alloc (.cells #[.slice b3 n b4,.slice b5 m b6] 36)).alloc (.cells #[.slice none 0 0,.slice none 0 0] 36)=r at *;refine Y.mono ?_;rintro e w1 ⟨c,g,b7,b8,rfl,b9,y,K⟩;rw [A.out]at y;have bi:=y.lt;have cm:=K.size
  have aj:=qG (af.below K (by omega))
  have ak:=qG (W.trans (K.mono (by omega)))
  have cn:=qG ((K.cell (p:=⟨0,0,none⟩) (by show 0<r.heap.size;omega)).trans bg)
  have al:=qG y
  have co:1<=n:=by have:=t.1.1;rw [A.out]at this;exact this.1
  have bj:n<=8193:=by have:=t.1.1;rw [A.out]at this;exact this.2
  clear y K Y af
  have am:∀ (a:World) (g' B j h:Nat) (sv':Value) (D:List Value) (b:List Gr) (Z:Int),LCr a r.heap.size a.heap.size c (.slice (qK g' 0) b.length B) sv' D b j h Z S->j<=h->h<=b.length->b.length<=65536->1<=b.length->cutG j h b=z->1<=j+(b.length - h)->w1.heap.size<=a.heap.size->Calls Tryz.prog 46 #[.pointer (qK c 0),.nilIface] a fun e w'=>∃d f,e= .returned (.tuple #[.agg #[d,f],qJ 0])∧OwL w' r.heap.size w'.heap.size d f z S∧Below a.heap.size a w':=by
   intro a g' B j h sv' D b Z y O P ax bu bv bw ct
   have:=zCg r.heap.size a.heap.size c g' B b.length j h sv' D b Z S a y rfl bu (by omega) O P bw lR (by omega) (by omega)
   rw [bv]at this;exact this
  have bk:(0:Int)<=((jn (gs.map grT)).length:Nat)∧(((jn (gs.map grT)).length:Nat):Int)<=8192:=by have:=t.1.2.2;omega
  obtain⟨G,H,I,ab⟩:∃G H I,Q= .slice G H I:=by
   rcases J with ⟨e,_⟩ | ⟨_,_,_,e,_⟩<;>exact⟨_,_,_,e⟩
  have bl:H=ts.length:=by
   rcases J with ⟨e,ac⟩ | ⟨_,_,_,e,_⟩
   ·rw [ab]at e;cases e;rw [ac];rfl
   ·rw [ab]at e;cases e;rfl
  subst ab
  have an:∀E,G=some E->E.block<w.heap.size:=by
   intro E e;subst e
   rcases J with ⟨e,_⟩ | ⟨ad,a4,ca,e,a5,_⟩
   ·cases e
   ·simp only [xF,xw]at e
    rw [e.1];exact a5
  have ao:Below w.heap.size w w1:=ak;have ap:=J.below ao
  -- the call,and its four ways
  have M:(C=0∧Calls Tryz.prog 43 #[.iface 76 (.pointer (qK c 0)),qJ off,.slice G H I] w1 fun e a=>e= .returned .nilIface∧Below r.heap.size w1 a∧Calls Tryz.prog 46 #[.pointer (qK c 0),.nilIface] a fun e w'=>∃d f,e= .returned (.tuple #[.agg #[d,f],qJ 0])∧OwL w' r.heap.size w'.heap.size d f z S∧Below a.heap.size a w')∨
    False:=by
   rcases X with ⟨_,L,a6,a7,a8,i⟩ | ⟨_,L,cb,R,T,i⟩ | ⟨_,L,a6,R,T,i⟩ | ⟨_,L,R,T,i⟩ | ⟨l,_⟩
   ·refine .inl ⟨i,?_⟩
    obtain⟨a9,rfl⟩:∃k:Nat,off=k:=⟨off.toNat,by have:=L.1;omega⟩
    rw [vH]at a8
    have bm:a9<=(jn (gs.map grT)).length:=by have:=L.2;omega
    have bn:1<=ts.length:=by
     rcases kh ts.length with q | q
     ·exact absurd (qU q) a7
     ·exact q
    have aq:=a2 G H I rfl
    rcases ap with ⟨e,ac⟩ | ⟨ad,a4,ca,e,a5,cc⟩
    ·exact absurd ac a7
    ·simp only [xF]at e
     obtain⟨rfl,rfl,rfl⟩:=e
     have bo:ad<r.heap.size:=by have:=an _ rfl;simp only at this;omega
     refine(insTextL r.heap.size w1.heap.size c g n n a9 b7 b8 gs _ s ts ad a4 ts.length I w1 al rfl A bj lR b9 bi t.2.1.1 t.2.2 (by have:=t.2.1.2;rw [A.out]at this;exact this) t.1.2.1 a6 bm rfl bn bo aq.1 aq.2 cc).mono ?_
     rintro e a ⟨rfl,_,k,x,g',B,j,h,sv',D,b,cd,ce,ba,⟨O,P,ax⟩,hcut,u⟩;refine⟨rfl,u,?_⟩;obtain⟨cw,cx,cf,bc,R,T⟩:=a8;obtain rfl:=cf.uniq cd;rw [ce]at bc;obtain rfl:=vF bc
     have ar:1<=(cutG j h b).length:=by rw [hcut];exact zEc _ _ _ _ _
     rw [Zn O P]at ar;rw [<- T]at ba
     exact am a g' B j h sv' D b _ ba O P ax (by omega) (by rw [hcut,R]) ar u.size
   ·exact absurd cb b2
   ·exact absurd (i.symm.trans V) (by decide)
   ·exact absurd (i.symm.trans V) (by decide)
   ·exact absurd bh l
  clear am al X J ap a2 bl an ao bk b1
  rcases M with ⟨i,M⟩ | cg
  ·subst i
   have au:=qG M;clear M;go_wp2_with fail;refine au.mono ?_;rintro e a ⟨rfl,u,bd⟩;have av:=qG bd;have cp:=u.size
   have aw:=qG (aj.below u (by omega))
   have bp:=qG (ak.trans (u.mono (by omega)))
   clear u au aj bd;go_wp2_with fail;refine av.mono ?_;rintro e cy ⟨cz,c0,rfl,ae,U⟩;obtain⟨ch,ci,cj,ck,rfl,rfl⟩:=ae.val;have cq:=U.size
   have N:=qG (aw.below U (by omega))
   have bq:=qG (bp.trans (U.mono (by omega)))
   have br:=qG ae;have bs:=N.c.1;have bt:=N.c.2;have cr:=N.fz 0;have cs:=N.fz 1;clear ae U av aw;generalize S.length=bx at *;generalize z.length=gl at *;go_wp2
   refine xr (v:=.tuple #[.agg #[.slice ch gl ci,.slice cj bx ck],qJ 0]) (by simp [results,Tryz.results13,go_sem,bs,bt]) rfl ⟨_,_,rfl,?_,?_⟩
   ·refine(br.frame (fun q cu cv=>?_)).mono (by omega) (by simp)
    rw [xn _ _ _ _ (by show q≠w.heap.size+1;omega),xn _ _ _ _ (by show q≠w.heap.size+1;omega)]
   ·exact(bq.setCell (by simp) _).setCell (by simp) _
  ·exact cg.elim
 ·rcases X with ⟨l,_⟩ | ⟨l,_⟩ | ⟨l,_⟩ | ⟨l,_⟩ | ⟨_,_,_,i⟩
  ·exact absurd l o
  ·exact absurd l o
  ·exact absurd l o
  ·exact absurd l o
  ·exact absurd (i.symm.trans V) (by decide)
def preL (A:List (List Int)):List Int:=A.flatMap (fun l=>l++ [10])
def postL (B:List (List Int)):List Int:=B.flatMap (fun l=>10::l)
theorem zFe (A Y:List (List Int)) (d:Y≠ []):jn (A++Y)=preL A++jn Y:=by
 induction A with
 | nil=>simp [preL]
 | cons a A f=>
  have c:A++Y≠ []:=by simp [d]
  have e:jn (a::(A++Y))=a++10::jn (A++Y):=by
   cases hA:A++Y with
   | nil=>exact absurd hA c
   | cons b r=>rfl
  rw [xx,e,f];simp [preL]
theorem zCm (B:List (List Int)):∀ (Y:List (List Int)),Y≠ []->jn (Y++B)=jn Y++postL B:=by
 induction B with
 | nil=>intro Y _;simp [postL]
 | cons b B c=>
  intro Y a
  have e:Y++b::B=(Y++ [b])++B:=by simp
  rw [e,c (Y++ [b]) (by simp),zEx a]
  simp [postL]
theorem preL_len (A:List (List Int)):(preL A).length=smL A+A.length:=by
 induction A with
 | nil=>rfl
 | cons a A b=>
  have e:preL (a::A)=a++ [10]++preL A:=by simp [preL]
  rw [e];simp only [qM,q9,xC,b,smL];omega
theorem jn_parts {a:List (List Int)} {k:Nat} {T:List Int} (c:a[k]? =some T):jn a=preL (a.take k)++(T++postL (a.drop (k+1)))∧(preL (a.take k)).length=sAt a k:=by
 have d:k<a.length:=(xK.1 c).1
 have e:a=a.take k++([T]++a.drop (k+1)):=by
  have b:=xG k a
  have f:a.drop k=T::a.drop (k+1):=by
   rw [ko d];have:=(xK.1 c).2;rw [this]
  rw [f]at b;exact b.symm
 refine⟨?_,?_⟩
 ·conv=>lhs;rw [e]
  rw [zFe _ _ (by simp),zCm _ _ (by simp)]
  simp [jn,jt]
 ·rw [preL_len]
  unfold sAt;simp;omega
theorem lns_gl (P z:List Int) (a:10∉P):lns (P++z)=(P++(lns z).headD [])::(lns z).tail:=by
 induction P with
 | nil=>exact YA z
 | cons c P f=>
  have b:c≠10:=fun e=>a (by simp [e])
  have d:10∉P:=fun e=>a (by simp [e])
  have:=f d;simp only [xx,lns,qT b,this];simp
theorem lns_last (z t:List Int) (g:10∉t):lns (z++t)=(lns z).dropLast++ [(lns z).getLastD []++t]:=by
 induction z with
 | nil=>simp [lns,zD8 g]
 | cons c z f=>
  by_cases e:c=10
  ·subst e
   rw [xx,JX,JX,f];have d:=Zf z
   cases hz:lns z with
   | nil=>exact absurd hz d
   | cons a r=>simp
  ·have d:=Zf z
   simp only [xx,lns,qT e,f]
   cases hz:lns z with
   | nil=>exact absurd hz d
   | cons a r=>
    cases r with
    | nil=>simp
    | cons b r=>simp
theorem plG_ok {l:List Int} (c:10∉l) (d:l.length<=8192):okG (plG l):=by
 refine⟨?_,by rw [ZX];exact c⟩
 exact zAx (x:=plG l) (lo:=l.length) (hi:=l.length) ⟨lR,lR,fun i a b=>by omega,by show l.length<=65536;omega,by show l.length - (l.length - l.length)<=8192;omega⟩ rfl rfl
theorem plR_map (a:List (List Int)) (t:List Int):(plR a t).map grT=a.dropLast++ [a.getLastD []++t]:=by
 unfold plR;rw [vT,List.map_map]
 have e:(grT∘plG)=id:=by funext l;exact ZX l
 rw [e];simp [ZX]
theorem zFf {x:Gr} {cc:Nat} {ts:List Int} (g:okG x) (l:cc<=(grT x).length) (s:(grT x).length+ts.length<=8192):(if(lns ts).length=1 then [insG x cc ts]else insM x cc (lns ts)).map grT=lns ((grT x).take cc++(ts++(grT x).drop cc)):=by
 have h:10∉(grT x).take cc:=fun e=>g.2 (xI e)
 have i:10∉(grT x).drop cc:=fun e=>g.2 (xX e)
 split
 ·rename_i d
  have m:=zFd d;have:=(Z0 (x:=x) (p:=cc) (ts:=ts) g.1 l s).2;simp only [vN,List.map_nil,this];rw [zD8];intro e
  rcases xv.1 e with e | e
  ·exact h e
  ·rcases xv.1 e with e | e
   ·exact m e
   ·exact i e
 ·rename_i d
  obtain⟨f,r,c⟩:∃f r,lns ts=f::r:=⟨_,_,YA ts⟩
  have n:r≠ []:=by
   intro e;rw [e]at c;rw [c]at d;exact d rfl
  have t:f.length<=ts.length:=jy (by rw [c];simp)
  have j:=Y6 (x:=x) (a:=cc) (b:=(grT x).length) g.1 l lR
  have k:grT (delG x cc (grT x).length)=(grT x).take cc:=by rw [j.2];simp
  have u:(grT (delG x cc (grT x).length)).length=cc:=by rw [k];simp;omega
  have i1:=(Z0 (x:=delG x cc (grT x).length) (p:=cc) (ts:=f) j.1 (by omega) (by omega)).2
  unfold insM;rw [vT,plR_map,c];simp only [List.headD_cons,List.tail_cons,vN,List.map_nil,i1,k];rw [lns_gl _ _ h,lns_last _ _ i,c]
  have o:((grT x).take cc).take cc=(grT x).take cc:=by rw [kH,Nat.min_self]
  have q:((grT x).take cc).drop cc= []:=kt (by simp;omega)
  rw [o,q]
  cases r with
  | nil=>exact absurd rfl n
  | cons b r=>simp
theorem JD {gs:List Gr} {k off:Nat} {x:Gr} {ts:List Int} (c:gs[k]? =some x) (i:∀g∈gs,okG g) (j:Ln (gs.map grT) off k) (l:off<=(jn (gs.map grT)).length) (u:(jn (gs.map grT)).length+ts.length<=8192):
  (yQ gs k x (off - sAt (gs.map grT) k) ts).map grT=(gs.map grT).take k++lns ((grT x).take (off - sAt (gs.map grT) k)++(ts++(grT x).drop (off - sAt (gs.map grT) k)))++(gs.map grT).drop (k+1)∧
  jn ((yQ gs k x (off - sAt (gs.map grT) k) ts).map grT)=(jn (gs.map grT)).take off++(ts++(jn (gs.map grT)).drop off):=by
 have a:(gs.map grT)[k]? =some (grT x):=by rw [vA,c];rfl
 have q:=j.col l a;have d:=i x (xg c)
 have p:(grT x).length<=(jn (gs.map grT)).length:=by
  have r:=YB a
  have s:=jM (ls:=gs.map grT) (by intro e;rw [e]at a;simp at a)
  have t:1<=(gs.map grT).length:=by have:=(xK.1 a).1;omega
  omega
 obtain⟨cc,m⟩:∃cc,cc=off - sAt (gs.map grT) k:=⟨_,rfl⟩;rw [<- m]at q |-
 have f:=zFf (x:=x) (cc:=cc) (ts:=ts) d q.1 (by omega)
 have b:(yQ gs k x cc ts).map grT=(gs.map grT).take k++lns ((grT x).take cc++(ts++(grT x).drop cc))++(gs.map grT).drop (k+1):=by
  unfold yQ;rw [vT,vT,f,List.map_take,List.map_drop]
 refine⟨b,?_⟩;obtain⟨n,o⟩:=jn_parts a
 rw [b,xq,zFe _ _ (by simp [Zf]),zCm _ _ (Zf _),zAr,n]
 have h:off=(preL ((gs.map grT).take k)).length+cc:=by rw [o];omega
 rw [h,Qn,List.drop_length_add_append];rw [xW q.1,vo q.1];simp only [xq]
theorem LV_of {a:List Gr} {m:Nat} (f:∀g∈a,okG g) (h:(jn (a.map grT)).length<=8192) (j:1<=m) (c:m<=a.length):LV a ((stL (a.map grT)).take m):=by
 have b:(a.map grT).length=a.length:=xL _
 have d:((stL (a.map grT)).take m).length=m:=by rw [qN,jG,b];omega
 have i:=jM (ls:=a.map grT) (by intro e;have:=kO List.length e;rw [b]at this;simp at this;rw [this]at c;simp at c;omega)
 refine⟨⟨by omega,by omega,by omega,by omega⟩,f,h,?_⟩
 rw [d]
theorem stL_same {a b:List (List Int)} {k:Nat} (c:a.take k=b.take k) (d:k<a.length) (f:k<b.length):(stL a).take (k+1)=(stL b).take (k+1):=by
 apply kV;intro i;rw [xO,xO]
 split
 ·rename_i hi
  rw [zAg (by omega),zAg (by omega)]
  have e:a.take i=b.take i:=by
   have:=kO (List.take i) c
   rw [kH,kH,vG (by omega)]at this
   exact this
  rw [e]
 ·rfl
theorem plG_gk {l:List Int} (c:l.length<=8192):gkP (plG l).cells (plG l).lo (plG l).hi:=
 zAx (x:=plG l) (lo:=l.length) (hi:=l.length) ⟨lR,lR,fun i a b=>by omega,by show l.length<=65536;omega,by show l.length - (l.length - l.length)<=8192;omega⟩ rfl rfl
theorem mid_ok {x:Gr} {cc:Nat} {ts:List Int} (d:okG x) (e:cc<=(grT x).length) (j:(grT x).length+ts.length<=8192):∀g∈(if(lns ts).length=1 then [insG x cc ts]else insM x cc (lns ts)),okG g:=by
 have k:=zFf (x:=x) (cc:=cc) (ts:=ts) d e j;intro g c
 have f:grT g∈lns ((grT x).take cc++(ts++(grT x).drop cc)):=by
  rw [<- k];exact List.mem_map_of_mem c
 have h:=jy f;refine⟨?_,Xq _ _ f⟩
 split at c
 ·rw [kY]at c
  subst c;exact(Z0 (x:=x) (p:=cc) (ts:=ts) d.1 e j).1
 ·unfold insM at c
  rcases xv.1 c with c | c
  ·rw [kY]at c
   subst c;have i:=Y6 (x:=x) (a:=cc) (b:=(grT x).length) d.1 e lR
   have m:(grT (delG x cc (grT x).length)).length=cc:=by rw [i.2];simp;omega
   have n:((lns ts).headD []).length<=ts.length:=by
    cases hL:lns ts with
    | nil=>exact absurd hL (Zf ts)
    | cons a r=>exact jy (by rw [hL];simp)
   exact(Z0 i.1 (by omega) (by omega)).1
  ·unfold plR at c
   have o:((grT x).take cc++(ts++(grT x).drop cc)).length=(grT x).length+ts.length:=by simp only [qM,qN,qS];omega
   rcases xv.1 c with c | c
   ·obtain⟨l,_,rfl⟩:=kS.1 c
    rw [ZX]at h
    exact plG_gk (by omega)
   ·rw [kY]at c
    subst c;rw [ZX]at h
    exact plG_gk (by omega)
theorem zEd {gs:List Gr} {k off:Nat} {x:Gr} {ts:List Int} (c:gs[k]? =some x) (d:∀g∈gs,okG g) (h:Ln (gs.map grT) off k) (i:off<=(jn (gs.map grT)).length) (p:(jn (gs.map grT)).length+ts.length<=8192):
  LV (yQ gs k x (off - sAt (gs.map grT) k) ts) ((stL (gs.map grT)).take (k+1)):=by
 have b:(gs.map grT)[k]? =some (grT x):=by rw [vA,c];rfl
 have q:=h.col i b;have l:=d x (xg c);have m:k<gs.length:=(xK.1 c).1
 have s:(grT x).length<=(jn (gs.map grT)).length:=by
  have t:=YB b
  have u:=jM (ls:=gs.map grT) (by intro e;rw [e]at b;simp at b)
  have v:1<=(gs.map grT).length:=by have:=(xK.1 b).1;omega
  omega
 obtain⟨f,j⟩:=JD (ts:=ts) c d h i p;obtain⟨cc,r⟩:∃cc,cc=off - sAt (gs.map grT) k:=⟨_,rfl⟩;rw [<- r]at q f j |-
 have n:=mid_ok (x:=x) (cc:=cc) (ts:=ts) l q.1 (by omega)
 have o:k<(yQ gs k x cc ts).length:=by
  have:=kO List.length f;rw [xL]at this;have w:=(jE ((grT x).take cc++(ts++(grT x).drop cc))).1;simp only [qM,qN,xL]at this;omega
 have hst:(stL (gs.map grT)).take (k+1)=(stL ((yQ gs k x cc ts).map grT)).take (k+1):=by
  refine stL_same ?_ (by rw [xL];exact m) (by rw [xL];exact o)
  rw [f,xq,xW (by simp;omega),kH,Nat.min_self]
 rw [hst]
 refine LV_of (fun g a=>?_) ?_ (by omega) (by omega)
 ·unfold yQ at a
  rcases xv.1 a with a | a
  ·rcases xv.1 a with a | a
   ·exact d g (xI a)
   ·exact n g a
  ·exact d g (xX a)
 ·rw [j]
  simp only [qM,qN,qS];omega
structure LT (gs:List Gr) (a tx:List Int):Prop where
 v:LV gs a
 t:jn (gs.map grT)=tx
section
variable {gs:List Gr} {st tx ts:List Int}
theorem LT.n (a:LT gs st tx):gs.length<=8193:=a.v.1.2.1
theorem LT.p (a:LT gs st tx):1<=gs.length:=a.v.1.1
theorem LT.s (a:LT gs st tx):st.length<=8193:=by have b:=a.v.1.2.2.2;have:=a.n;omega
theorem LT.l (b:LT gs st tx):tx.length<=8192:=by have a:=b.v.2.2.1;rw [b.t]at a;exact a
theorem LT.c (b:LT gs st tx):∀x∈gs,x.cells.length<=1048576:=fun x a=>by
 have c:=(b.v.2.1 x a).1.1.1;omega
theorem LT.ne (b:LT gs st tx):gs.map grT≠ []:=fun e=>by
 have a:=kO List.length e;have:=b.p;simp at a;rw [a]at this;simp at this
theorem LT.sm (a:LT gs st tx):smL (gs.map grT)+gs.length<=4194304:=by
 have b:=jM a.ne;have c:=a.l;have d:=a.p;rw [a.t,xL]at b;omega
theorem LT.load (a:tx.length<=8192):LT ((lns tx).map plG) ((stL (lns tx)).take 1) tx:=
 ⟨LV_load a lR (by have:=jE tx;omega),by rw [zAs,zAr]⟩
theorem LT.ins (a:LT gs st tx) {off:Nat} (d:off<=tx.length) (f:0<ts.length) (c:tx.length+ts.length<=8192):∃b S,LjAns gs st off ts b S 0∧LT b S (tx.take off++(ts++tx.drop off)):=by
 have ht:=a.t;subst ht;obtain⟨b,S,g⟩:=LjIns.ex gs off ts a.p
 refine⟨b,S,.inl ⟨a.v,⟨by omega,by omega⟩,c,fun e=>by rw [e]at f;simp at f,by rw [vH];exact g,rfl⟩,?_⟩
 obtain⟨k,x,h,i,rfl,rfl⟩:=g;exact⟨zEd i a.v.2.1 h d c,(JD i a.v.2.1 h d c).2⟩
end
section
variable {gs:List Gr} {st tx ts:List Int} {vr vt:Value} {lo hi:Nat} {W:World}
theorem llK {base g c:Nat} (b:own32 W base (.slice (qK g 0) tx.length c) tx) (a:tx.length<=8192) (f:W.cell? ⟨0,0,none⟩=some (.iface 215 (.agg #[.pointer (qK 2 73)]))):
  Calls Tryz.prog 8 #[.slice (qK g 0) tx.length c] W (JA W ((lns tx).map plG) ((stL (lns tx)).take 1) 0):=by
 refine(implLl base tx g c W b (by omega) (jN b) f a).mono ?_
 rintro e w' ⟨h,i,rfl,d,j⟩;rw [llG,llS,xj a,xj a]at d;rw [stL_oneR (Zf tx)]
 exact⟨h,i,by rw [llC,xj a],d,j⟩
theorem lvK (b:OwL W lo hi vr vt gs st) (c:hi<=W.heap.size) (a:LT gs st tx):
  Calls Tryz.prog 17 #[.agg #[vr,vt]] W fun e w'=>e= .returned (.bool true)∧Below W.heap.size W w':=
 validC gs st vr vt lo hi true W ⟨fun _=>a.v,fun _=>rfl⟩ b c (by have:=a.n;omega) (by have:=a.s;omega) a.c (fun _=>a.sm)
theorem ltK (f:OwL W lo hi vr vt gs st) (g:hi<=W.heap.size) (a:LT gs st tx):
  Calls Tryz.prog 19 #[.agg #[vr,vt]] W fun e w'=>∃c,e= .returned c∧own32 w' W.heap.size c tx∧Below W.heap.size W w':=by
 have b:=Kh gs st vr vt lo hi W f g a.n a.p (fun x d=>(a.v.2.1 x d).1) a.sm
 rw [a.t]at b;exact b
theorem ljK {off:Int} {a:List Gr} {S:List Int} {base g c:Nat} (f:LjAns gs st off ts a S 0) (h:OwL W lo hi vr vt gs st) (i:hi<=W.heap.size) (b:LT gs st tx) (d:own32 W base (.slice (qK g 0) ts.length c) ts) (j:ts.length<=1048576) (k:ts≠ []) (l:W.cell? ⟨0,0,none⟩=some (.iface 215 (.agg #[.pointer (qK 2 73)]))):
  Calls Tryz.prog 13 #[.agg #[vr,vt],qJ off,.slice (qK g 0) ts.length c] W (JA W a S 0):=
 implLj gs st off ts _ vr vt lo hi W a S 0 f h i b.c (by have:=b.n;omega) (by have:=b.s;omega) (Sl.qd d) (fun m n o e=>by simp only [xF]at e;obtain⟨_,rfl,rfl⟩:=e;exact jN d) j l rfl k
end
def LQ (W:World) (B:Nat) (b:Option Addr) (n c:Nat) (d:Option Addr) (s cs:Nat) (tx:List Int):Prop:=
 ∃ (gs:List Gr) (a:List Int) (lo hi:Nat),OwL W lo hi (.slice b n c) (.slice d s cs) gs a∧B<=lo∧hi<=W.heap.size∧LT gs a tx
section
variable {W W':World} {B n cr s cs:Nat} {ar as_:Option Addr} {tx ts:List Int}
theorem LQ.below (c:LQ W B ar n cr as_ s cs tx) (a:Below W.heap.size W W'):LQ W' B ar n cr as_ s cs tx:=by
 obtain⟨gs,d,lo,hi,e,f,b,g⟩:=c;exact⟨gs,d,lo,hi,e.below a b,f,vV b a.size,g⟩
theorem LQ.base {B':Nat} (a:LQ W B ar n cr as_ s cs tx) (f:B'<=B):LQ W B' ar n cr as_ s cs tx:=by
 obtain⟨gs,b,lo,hi,c,g,d,e⟩:=a
 exact⟨gs,b,lo,hi,c,by omega,d,e⟩
theorem LQ.of {w':World} {e:Ending} {f:List Gr} {S:List Int} (j:JA W f S 0 e w') (k:LT f S tx):∃a g b c h d,e= .returned (.tuple #[.agg #[.slice a g b,.slice c h d],qJ 0])∧LQ w' W.heap.size a g b c h d tx∧Below W.heap.size W w':=by
 obtain⟨m,n,rfl,i,l⟩:=j;obtain⟨a,b,c,d,rfl,rfl⟩:=i.val;exact⟨a,_,b,c,_,d,rfl,⟨f,S,_,_,i,lR,lR,k⟩,l⟩
theorem lqL {l g c:Nat} (m:own32 W l (.slice (qK g 0) tx.length c) tx) (j:tx.length<=8192) (n:W.cell? ⟨0,0,none⟩=some (.iface 215 (.agg #[.pointer (qK 2 73)]))):
  Calls Tryz.prog 8 #[.slice (qK g 0) tx.length c] W fun e w'=>∃a b d f h i,e= .returned (.tuple #[.agg #[.slice a b d,.slice f h i],qJ 0])∧LQ w' W.heap.size a b d f h i tx∧Below W.heap.size W w':=
 (llK m j n).mono fun e w' k=>LQ.of k (LT.load j)
theorem lqV (a:LQ W B ar n cr as_ s cs tx):Calls Tryz.prog 17 #[.agg #[.slice ar n cr,.slice as_ s cs]] W fun e w'=>e= .returned (.bool true)∧Below W.heap.size W w':=by
 obtain⟨gs,f,lo,hi,b,g,c,d⟩:=a;exact lvK b c d
theorem lqT (b:LQ W B ar n cr as_ s cs tx):Calls Tryz.prog 19 #[.agg #[.slice ar n cr,.slice as_ s cs]] W fun e w'=>∃a,e= .returned a∧own32 w' W.heap.size a tx∧Below W.heap.size W w':=by
 obtain⟨gs,g,lo,hi,c,h,d,f⟩:=b;exact ltK c d f
theorem lqI {a off j k o:Nat} (p:LQ W B ar n cr as_ s cs tx) (ht:own32 W o (.slice (qK j 0) a k) ts) (q:ts.length=a) (b:0<a) (r:off<=tx.length) (t:tx.length+a<=8192) (u:W.cell? ⟨0,0,none⟩=some (.iface 215 (.agg #[.pointer (qK 2 73)]))):
  Calls Tryz.prog 13 #[.agg #[.slice ar n cr,.slice as_ s cs],qJ off,.slice (qK j 0) a k] W fun e w'=>∃c d f g h i,e= .returned (.tuple #[.agg #[.slice c d f,.slice g h i],qJ 0])∧LQ w' W.heap.size c d f g h i (tx.take off++(ts++tx.drop off))∧Below W.heap.size W w':=by
 obtain⟨gs,z,lo,hi,v,A,w,l⟩:=p;subst q;obtain⟨C,S,x,y⟩:=l.ins (ts:=ts) r b t
 exact(ljK x v w l ht (by omega) (fun e=>by rw [e]at b;simp at b) u).mono fun e w' m=>LQ.of m y
end
structure LX (W:World) (B X:Nat) (a:Option Addr) (n c:Nat) (d:Option Addr) (s cs:Nat) (tx:List Int):Prop where
 k:D2 W X (.slice a n c) (.slice d s cs) 36
 v:LQ W B a n c d s cs tx
 b:B<=X
section
variable {W W':World} {B X n cr s cs:Nat} {ar as_:Option Addr} {tx:List Int} {x y:Value}
theorem LX.below (a:LX W B X ar n cr as_ s cs tx) (b:Below W.heap.size W W'):LX W' B X ar n cr as_ s cs tx:=⟨a.k.below b a.k.lt,a.v.below b,a.b⟩
theorem LX.new {B':Nat} (a:LQ W B' ar n cr as_ s cs tx) (b:B<=B') (c:B<=W.heap.size):LX (W.alloc (.cells #[.slice ar n cr,.slice as_ s cs] 36)) B W.heap.size ar n cr as_ s cs tx:=
 ⟨D2.new _ _ _ _,(a.base b).below ((qO W.heap.size W).alloc lR _),c⟩
theorem LX.set {B':Nat} (a:D2 W X x y 36) (b:LQ W B' ar n cr as_ s cs tx) (j:B<=B') (c:B<=X) (k:X<B'):LX ((W.setCell ⟨X,0,none⟩ (.slice ar n cr)).setCell ⟨X,1,none⟩ (.slice as_ s cs)) B X ar n cr as_ s cs tx:=by
 obtain⟨gs,d,lo,hi,e,l,f,g⟩:=b
 exact⟨a.set2E _ _,⟨gs,d,lo,hi,e.frame (fun q h i=>zCd q (by omega)),by omega,by simpa using f,g⟩,c⟩
end
end Go.Proofs.YtljdnoinennfaaaGreatDoor
