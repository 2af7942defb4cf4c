import Derived.Test.YtmjanhcplcalfaaGreatDoorMq23
import Derived.Test.YtmjanhcplcalfaaGreatDoorMq22
import Derived.Test.YtmjanhcplcalfaaGreatDoorMq30
set_option linter.all false
set_option maxRecDepth 100000
set_option maxHeartbeats 8000000
namespace Go.Proofs.YtmjanhcplcalfaaGreatDoor
open Go Go.RowKit Go.Proofs.Tryz
noncomputable def yT (gs:List Gr) (k k2:Nat) (x y:Gr) (c1 c2:Nat):List Gr:=
 if k=k2 then gs.set k (delG x c1 c2)else(gs.set k (insG (delG x c1 (grT x).length) c1 ((grT y).drop c2))).take (k+1)++gs.drop (k2+1)
def RemPost (gs:List Gr) (off m:Nat) (w:World) (lo c:Nat) (h:Int) (e:Ending) (w':World):Prop:=
 e= .returned (.tuple #[])∧∃ (k k2:Nat) (x y:Gr) (g' f d b:Nat) (sv':Value) (g:List Value) (a:List Gr),Ln (gs.map grT) off k∧Ln (gs.map grT) (off+m) k2∧gs[k]? =some x∧gs[k2]? =some y∧LCr w' lo w'.heap.size c (.slice (qK g' 0) a.length f) sv' g a d b (h - m) ((stL (gs.map grT)).take (k+1))∧(d<=b∧b<=a.length∧a.length<=8193)∧cutG d b a=yT gs k k2 x y (off - sAt (gs.map grT) k) (off+m - sAt (gs.map grT) k2)∧Below lo w w'
theorem jO {α:Type} {xs:List α} {i:Nat} {a b:α} (c:xs[i]? =some b):(xs.set i a)[i]? =some a:=by
 have:=(xA.1 c).1;simp [this]
theorem cut_lay {gs:List Gr} {a b n:Nat} (f:gs.length=n) (g:a<=b) (h:b<=n):cutG a b (glayA nilG (gs.take a++gs.drop b) a n)=gs.take a++gs.drop b:=by
 have c:(gs.take a).length=a:=by simp;omega
 have d:(gs.take a++gs.drop b).length=n - (b - a):=by simp only [qM,qN,qR];omega
 have e:glayA nilG (gs.take a++gs.drop b) a n=(gs.take a++List.replicate (b - a) nilG)++gs.drop b:=by
  unfold glayA;rw [d,ku c,kG c,show n - (n - (b - a))=b - a by omega,xj]
 rw [e];unfold cutG;rw [xI (by simp;omega),ku c,kG (by simp;omega)]
theorem zGu {LS:List (List Int)} {k k2:Nat} {a b:List Int} (g:k<k2) (h:LS[k]? =some a) (d:LS[k2]? =some b) (n:(jn LS).length<=8192):a.length+b.length<=8192:=by
 have f:(LS.take k2)[k]? =some a:=by rw [xN,xd g];exact h
 have i:=ZB f;have j:=yO d;have l:=yD LS (k2+1);have c:k2<LS.length:=(xA.1 d).1;have m:=y9 (ls:=LS) (by intro e;rw [e]at c;simp at c);omega
theorem remLC (lo hi c g cap n off:Nat) (cr:Value) (j:List Value) (gs:List Gr) (f:Int) (J:List Int) (ao:Option Addr) (m d5:Nat) (w:World) (a9:LCr w lo hi c (.slice (qK g 0) n cap) cr j gs n n f J) (K:gs.length=n) (aj:n<=8193) (d6:hi<=w.heap.size) (o:lo<=c) (d7:c<hi) (ba:1<=J.length) (hst:J=(stL (gs.map grT)).take J.length) (d8:J.length<=n) (ak:∀x∈gs,okG x) (bc:(jn (gs.map grT)).length<=8192) (ct:off+m<=(jn (gs.map grT)).length) (e7:0<=f∧f<=8192):
  Calls prog 145 #[.pointer (qK c 0),qJ off,.slice ao m d5] w (RemPost gs off m w lo c f):=by
 unfold RemPost;have br:=qG (YU lo hi c g cap n off cr j gs f J w a9 K aj d6 o d7 ba hst d8 ak (by omega) (by omega))
 have bs:=qG (fun(r:Nat) (al:Value) (w1:World) (W:LCr w1 lo w1.heap.size c (.slice (qK g 0) n cap) al j gs n n f ((stL (gs.map grT)).take r)) (e8:1<=r) (bw:r<=n)=>(show Calls prog 148 #[.pointer (qK c 0),qJ ((off+m:Nat):Int)] w1 _ from by
  have bt:((stL (gs.map grT)).take r).length=r:=(by rw [qN,yK,xE,K];omega);have:=YU lo w1.heap.size c g cap n (off+m) al j gs f ((stL (gs.map grT)).take r) w1 W K aj lR o W.lt (by omega) (by rw [bt]) (by omega) ak bc (by omega);rw [bt]at this
  exact this))
 have N:=qG ak;have da:=qG ba;have d:=qG K;have v:=qG (show(gs.map grT).length=n by rw [xE,K]);have bu:=qG ct;have db:=qG bc;have el:off+m<=8192:=by omega
 have dc:n<=cap:=by
  have bv:=a9.rows.row;rw [K]at bv;rcases bv.2 with ⟨e,_⟩ | ⟨_,_,_,e,_,_,b0,_⟩
  ·cases e
  simp only [xB]at e;obtain⟨_,_,rfl⟩:=e;exact b0
 have em:lo<=w.heap.size:=by omega
 clear a9 ak hst ba bc ct;generalize ai:gs.map grT=LS at *
 have dd:IntKind.i64.wrap ((off:Int)+(m:Int))=((off+m:Nat):Int):=by rw [i64wS _ (by omega) (by omega)];omega
 go_enter func145,ntmps145;go_wp2_with fail;refine br.out.mono ?_;rintro e w1 ⟨k,r,al,rfl,X,bd,W,be⟩;have de:=bd.lt X da.out;have bw:r<=n:=by have:=bd.2.1;rw [v.out]at this;exact this
 have bx:1<=r:=by omega
 have O:k<n:=by have:=X.1;rw [v.out]at this;exact this
 obtain⟨x,am⟩:∃x,gs[k]? =some x:=⟨gs[k]'(by rw [d.out];exact O),by simp [d.out,O]⟩
 have P:LS[k]? =some (grT x):=by rw [<- ai,xU,am];rfl
 have Q:=X.col (by have:=bu.out;omega) P;obtain⟨cc,bf⟩:∃cc,cc=off - sAt LS k:=⟨_,rfl⟩
 rw [<- bf]at Q;rw [show(off:Int) - (sAt LS k:Nat)=(cc:Nat)by have:=Q.2;omega];have bz:=qG (bs.out r al w1 W bx bw);have df:=qG be;have a1:=qG X;have l:=qG am;have a2:=qG bf;have ab:=qG Q;have en:=qG de;have eo:=be.size;have ep:=(j8 (N.out x (qT am)).1).2.1;have eq:cc<=8192:=by have:=Q.1;omega
 clear br bs W be X am P bf Q bd;go_wp2_with fail;refine bz.out.mono ?_;rintro e an ⟨k2,u,cu,rfl,L,aq,M,bg⟩;have er:=aq.lt L bx;have es:u<=n:=by have:=aq.2.1;rw [v.out]at this;exact this
 have R:k2<n:=by have:=L.1;rw [v.out]at this;exact this
 obtain⟨y,ar⟩:∃y,gs[k2]? =some y:=⟨gs[k2]'(by rw [d.out];exact R),by simp [d.out,R]⟩
 have ac:LS[k2]? =some (grT y):=by rw [<- ai,xU,ar];rfl
 have S:=L.col bu.out ac;obtain⟨i,bh⟩:∃i,i=off+m - sAt LS k2:=⟨_,rfl⟩
 rw [<- bh]at S;rw [show((off+m:Nat):Int) - (sAt LS k2:Nat)=(i:Nat)by have:=S.2;omega]
 have et:k<=k2:=by
  rcases xR k2 k with q | q
  ·have b0:=L.2.2 (by rw [v.out];omega)
   have eu:=Xw LS (show k2+1<=k by omega);have b1:=a1.out.2.1;omega
  exact q
 have b2:k<u:=by have:=aq.1;omega
 have T:=M.rows.len;obtain⟨V,cv⟩:∃V,j[k]? =some V:=⟨j[k]'(by rw [T,d.out];exact O),by simp [T,d.out,O]⟩
 obtain⟨u2,cw⟩:∃V,j[k2]? =some V:=⟨j[k2]'(by rw [T,d.out];exact R),by simp [T,d.out,R]⟩
 have AT:=qG (fun(q:Nat) (E:q<n)=>atN c g cap n q n n an ⟨M.cells.1,M.cells.2.1,M.cells.2.2.1⟩ E lR dc (by omega));have G:=qG M;have ev:=bg.size;have ad:=qG (df.out.trans bg);have b3:=qG L;have A:=qG ar;have a3:=qG bh;have b4:=qG S;have t:=qG cv;have b5:=qG cw;have ew:=(j8 (N.out y (qT ar)).1).2.1;have ex:i<=8192:=by have:=S.1;omega
 clear bz M bg L aq ar ac S bh cv cw T dd;go_wp2_with fail;refine(AT.out k O).mono ?_;rintro e wx ⟨rfl,Y⟩;have dg:=Y.symm;subst dg;clear Y;by_cases co:k=k2
 ·subst co
  have dh:y=x:=(by have b6:=l.out;rw [A.out]at b6;exact vA b6);have di:cc<=i:=(by rw [a2.out,a3.out];omega);have H:=qG (zB6 (a:=cc) (b:=i) G.out.rows d.out l.out t.out lR (N.out x (qT l.out)).1 di (by rw [<- dh];exact b4.out.1));have dj:((k:Int)==(k:Int))=true:=(by simp);clear AT;go_wp2_with fail;refine H.out.mono ?_;rintro e I ⟨rfl,u3,cx,_,bi⟩;obtain⟨au,cy⟩:=G.out.rowed lR t.out o cx bi;have ey:=bi.size;have dk:=qG (ad.out.trans cy);have B:=qG (au.setN (f - m));obtain⟨d9,ea,eb,ec,ed⟩:=au.cells;have dl:=au.fz 3;obtain⟨bj,cs,Z⟩:=yk B.out.starts;have C:((stL LS).take u).length=u:=(by rw [qN,yK,v.out];omega);rw [C]at Z;subst Z;have D:=qG (Xb k B.out C b2 (by omega) o);rw [vX,ve (by omega)]at D;clear au cy cx bi H G ad C;go_wp2_with fail;refine D.out.mono ?_;rintro e cq ⟨rfl,cz,c0,ee⟩;have L5:=qG cz;have ae:=qG ((dk.out.setCell (p:=⟨c,3,none⟩) o (qJ (f - m))).trans c0);have dm:I.heap.size<=cq.heap.size:=(by rw [ee];simp);clear cz c0 D;go_wp2;go_end0;refine⟨rfl,k,k,x,y,g,cap,n,n,.slice bj (k+1) cs,j.set k u3,gs.set k (delG x cc i),a1.out,b3.out,l.out,A.out,?_,⟨lR,by rw [vO,d.out];exact lR,by rw [vO,d.out];exact aj⟩,?_,ae.out⟩
  ·rw [vO,d.out]
   exact L5.out.mono lR dm
  rw [JG];unfold yT;rw [xd rfl,<- a2.out,<- a3.out]
 have dn:k<k2:=by omega
 have dj:((k:Int)==(k2:Int))=false:=by simp;omega
 have dp:=qG (show(grT x).length+(grT y).length<=8192 from zGu (LS:=LS) (k:=k) (k2:=k2) dn (by rw [<- ai,xU,l.out];rfl) (by rw [<- ai,xU,A.out];rfl) db.out);have b7:=(N.out x (qT l.out)).1;have a4:=(N.out y (qT A.out)).1;have b8:=qG (JO G.out.rows d.out A.out b5.out a4);have PX:=qG b7;have dq:=qG a4;clear b7 a4;go_wp2_with fail;refine(AT.out k2 R).mono ?_;rintro e wx ⟨rfl,Y⟩;have dr:=Y.symm;subst dr;clear Y AT;go_wp2_with fail;refine b8.out.mono ?_;rintro e wy ⟨rfl,av,rfl⟩;have B:=qG (show LCr (an.drewN av) lo (an.drewN av).heap.size c (.slice (qK g 0) n cap) cu j gs n n f ((stL LS).take u)from G.out.same rfl);have a5:=qG (zy ad.out av);generalize an.drewN av=I at *
 clear G ad b8;have ds:i<=(grT y).length:=b4.out.1;have af:=qG (KH (a:=i) (b:=(grT y).length) B.out.rows d.out A.out b5.out dq.out ds lR);rw [xu (by rw [qR];exact lR)]at af;obtain⟨h,aw⟩:∃h,h=(grT y).drop i:=⟨_,rfl⟩
 rw [<- aw]at af;have dt:=qG aw;have du:h.length=(grT y).length - i:=by rw [aw,qR]
 obtain⟨F,c1⟩:∃F,F=h.length:=⟨_,rfl⟩
 have b9:=qG c1;have ez:F<=8192:=by omega
 have e0:cc+F<=8192:=by have:=dp.out;have:=ab.out.1;omega
 clear aw du c1;generalize ac:(grT y).length=e5 at *
 clear ac;go_wp2_with fail;refine af.out.mono ?_;rintro e ax ⟨e9,rfl,bk,ay⟩;obtain⟨bl,bm,c2⟩:=yG bk;rw [<- b9.out]at c2;subst c2;have dv:=ay.size;have L5:=qG (B.out.below ay lR B.out.lt);have ca:=qG bk;have ae:=qG (a5.out.trans (ay.mono (by have:=a5.out.size;omega)));have cb:=qG (JO L5.out.rows d.out l.out t.out PX.out);clear bk ay af B a5;go_wp2_with fail;refine cb.out.mono ?_;rintro e wz ⟨rfl,aa,rfl⟩;have U:=qG (show LCr (ax.drewN aa) lo I.heap.size c (.slice (qK g 0) n cap) cu j gs n n f ((stL LS).take u)from L5.out.same rfl);have ag:=qG (show o32 (ax.drewN aa) I.heap.size (.slice bl F bm) h from zA ca.out (fun q _=>rfl));have cd:=qG (zy ae.out aa);have ce:I.heap.size<=(ax.drewN aa).heap.size:=dv;generalize ax.drewN aa=cq at *
 clear L5 ca ae cb;have H:=qG (zB6 (a:=cc) (b:=(grT x).length) U.out.rows d.out l.out t.out ce PX.out ab.out.1 lR);have a6:=qG (jN PX.out (a:=cc) (b:=(grT x).length) ab.out.1 lR);have e1:=U.out.rows.bl g rfl;have cf:=U.out.rows.nest.bl V (qT t.out);have cg:=qG cf;obtain⟨z,bn⟩:∃z,z=delG x cc (grT x).length:=⟨_,rfl⟩
 rw [<- bn]at H a6;have dw:=qG bn;have dx:=qG ab.out.1;clear bn cf;generalize P:(grT x).length=e6 at *
 have ch:=qG P;go_wp2_with fail;refine H.out.mono ?_;rintro e ef ⟨rfl,u6,c3,eg,az⟩;obtain⟨c4,c5⟩:=U.out.rowed ce t.out o c3 az;have e2:=az.size
 have ah:=qG (show o32 ef I.heap.size (.slice bl F bm) h from zA ag.out (fun q E=>az.block q (ag.out.lt q E).2 (fun s=>by
  have b1:=(ag.out.lt q E).1;rcases s with s | s
  ·omega
  have:=cg.out q s;omega)))
 have a7:=qG c4;have ci:=qG (cd.out.trans c5);have dy:(gs.set k z).length=n:=by rw [vO,d.out]
 have dz:(grT z).length=cc:=by rw [a6.out.2];have:=dx.out;have:=ch.out;simp only [qM,qN,qR];omega
 have cj:=qG (zB7 (p:=cc) (ts:=h) (ap:=bl) (m:=F) (cp:=bm) a7.out.rows dy (jO l.out) (jO t.out) lR a6.out.1 (by omega) b9.out (by omega) (fun w' d4=>Sl.qd (zA ah.out (fun q E=>d4.block q (ah.out.lt q E).2 (fun s=>by
  have b1:=(ah.out.lt q E).1;rcases s with s | s
  ·omega
  rw [eg]at s
  have:=cg.out q s;omega)))))
 clear c4 c5 c3 az H U ag cd P dz;go_wp2_with fail;refine cj.out.mono ?_;rintro e fa ⟨rfl,u7,bo,bp⟩;simp only [List.set_set]at bo;obtain⟨c6,c7⟩:=a7.out.rowed lR (jO t.out) o bo bp;have e3:=bp.size;have ck:=qG (ci.out.trans c7);have cl:(gs.set k (insG z cc h)).length=n:=by rw [vO,d.out]
 have cm:=qG (rowsDelN (a:=k+1) (b:=k2+1) c6 cl lR o (by omega) (by omega) (by omega));clear c6 c7 bo bp cj a7 ah ci;go_wp2_with fail;refine cm.out.mono ?_;rintro e eh ⟨rfl,ei,a0,bq⟩;have e4:=bq.size;have d0:=qG (ck.out.trans bq);have cn:=qG (a0.setN (f - m));obtain⟨d9,ea,eb,ec,ed⟩:=a0.cells;have dl:=a0.fz 3;obtain⟨bj,cs,Z⟩:=yk cn.out.starts;have C:((stL LS).take u).length=u:=by rw [qN,yK,v.out];omega
 rw [C]at Z;subst Z;have D:=qG (Xb k cn.out C b2 (by omega) o);rw [vX,ve (by omega)]at D;clear a0 bq cm ck C;go_wp2_with fail;refine D.out.mono ?_;rintro e ej ⟨rfl,c8,c9,ek⟩;have d1:=qG c8;have d2:=qG ((d0.out.setCell (p:=⟨c,3,none⟩) o (qJ (f - m))).trans c9);have d3:eh.heap.size<=ej.heap.size:=by rw [ek];simp
 clear c8 c9 D;go_wp2;go_end0;have a8:(glayA nilG ((gs.set k (insG z cc h)).take (k+1)++(gs.set k (insG z cc h)).drop (k2+1)) (k+1) n).length=n:=zL (by simp only [qM,qN,qR];omega) (by simp only [qM,qN,qR];omega);refine⟨rfl,k,k2,x,y,g,cap,k+1,k2+1,.slice bj (k+1) cs,ei,glayA nilG ((gs.set k (insG z cc h)).take (k+1)++(gs.set k (insG z cc h)).drop (k2+1)) (k+1) n,a1.out,b3.out,l.out,A.out,?_,⟨by omega,by rw [a8];omega,by rw [a8];exact aj⟩,?_,d2.out⟩
 ·rw [a8]
  exact d1.out.mono lR d3
 rw [cut_lay cl (by omega) (by omega)];unfold yT;rw [qZ co,<- a2.out,<- a3.out,<- dt.out,ch.out,<- dw.out,List.drop_set_of_lt (by omega)]
noncomputable def insM (x:Gr) (cc:Nat) (L:List (List Int)):List Gr:=[insG (delG x cc (grT x).length) cc (L.headD [])]++plR L.tail ((grT x).drop cc)
noncomputable def yU (gs:List Gr) (k:Nat) (x:Gr) (cc:Nat) (ts:List Int):List Gr:=
 gs.take k++(if(lns ts).length=1 then [insG x cc ts]else insM x cc (lns ts))++gs.drop (k+1)
def Yh (gs:List Gr) (off:Nat) (ts:List Int) (w:World) (lo c:Nat) (h:Int) (e:Ending) (w':World):Prop:=
 e= .returned (.tuple #[])∧∃ (k:Nat) (x:Gr) (g' f d b:Nat) (sv':Value) (g:List Value) (a:List Gr),Ln (gs.map grT) off k∧gs[k]? =some x∧LCr w' lo w'.heap.size c (.slice (qK g' 0) a.length f) sv' g a d b (h+ts.length) ((stL (gs.map grT)).take (k+1))∧(d<=b∧b<=a.length∧a.length<=65536)∧cutG d b a=yU gs k x (off - sAt (gs.map grT) k) ts∧Below lo w w'
theorem cut_glay {α:Type} {z:α} {xs:List α} {p a:Nat} (c:p<=xs.length) (d:xs.length<=a):cutG p (p+(a - xs.length)) (glayA z xs p a)=xs:=by
 unfold glayA cutG;have b:(xs.take p).length=p:=by simp;omega
 rw [ku b,<- xj,kG (by simp;omega),xw]
theorem KL {α:Type} {xs:List α} {k:Nat} (a:α) (b:k<xs.length):xs.set k a=xs.take k++ [a]++xs.drop (k+1):=by
 rw [kT,xd b];simp
theorem zGv {ts:List Int} (b:10∈ts):∃a c,ts=a++10::c∧10∉a:=by
 induction ts with
 | nil=>simp at b
 | cons d ts i=>
  by_cases e:d=10
  ·exact⟨[],ts,by rw [e];rfl,by simp⟩
  have f:10∈ts:=by
   rcases xC.1 b with q | q
   ·exact absurd q.symm e
   exact q
  obtain⟨a,c,g,h⟩:=i f;exact⟨d::a,c,by rw [g];rfl,by intro q;rcases xC.1 q with q | q;exact e q.symm;exact h q⟩
theorem insLC2 (lo hi c g cap n off:Nat) (du:Value) (W:List Value) (gs:List Gr) (C:Int) (X:List Int) (ts:List Int) (b o m a9:Nat) (w:World) (b8:LCr w lo hi c (.slice (qK g 0) n cap) du W gs n n C X) (ba:gs.length=n) (fl:n<=8193) (fm:hi<=w.heap.size) (Y:lo<=c) (fn:c<hi) (b9:1<=X.length) (hst:X=(stL (gs.map grT)).take X.length) (fo:X.length<=n) (ca:∀x∈gs,okG x) (b7:(jn (gs.map grT)).length+m<=8192) (dv:off<=(jn (gs.map grT)).length)
  (dw:ts.length=m) (gx:2<=(lns ts).length) (bc:b<lo) (fp:m<=a9) (fq:a9<=maxLen) (gy:0<=C∧C<=8192) (bd:∀i,i<ts.length->w.cell? ⟨b,o+i,none⟩=some (.int .i32 (ts.getD i 0))):
  Calls prog 143 #[.pointer (qK c 0),qJ off,.slice (qK b o) m a9] w (Yh gs off ts w lo c C):=by
 unfold Yh;have f3:lo<=w.heap.size:=by omega
 have co:=qG (YU lo hi c g cap n off du W gs C X w b8 ba fl fm Y fn b9 hst fo ca (by omega) (by omega));have cq:=qG ca;have ed:=qG b9;have cr:=qG bd;have t:=qG ba;have aw:=qG dw;have M:=qG (show(gs.map grT).length=n by rw [xE,ba]);have ee:=qG dv;have ct:=qG b7
 have ef:n<=cap:=by
  have N:=b8.rows.row;rw [ba]at N;rcases N.2 with ⟨e,_⟩ | ⟨_,_,_,e,_,_,ft,_⟩
  ·cases e
  simp only [xB]at e;obtain⟨_,_,rfl⟩:=e;exact ft
 have f4:m<=8192:=by omega
 have eg:=qG (show(lns ts).length<=m+1 by have:=(jG ts).2;omega);have cu:=qG (fun(l:List Int) (b6:l∈lns ts)=>(show l.length<=m from by have:=ZI b6;omega));clear b8 ca hst b9 bd b7 dv dw;generalize fh:gs.map grT=LS at *
 generalize dq:lns ts=f at *
 have cv:=qG dq;clear dq;go_enter func143,ntmps143;go_wp2_with fail;refine co.out.mono ?_;rintro e w1 ⟨k,be,fu,rfl,ak,cd,Z,bf⟩;have S:k<n:=by have:=ak.1;rw [M.out]at this;exact this
 obtain⟨x,al⟩:∃x,gs[k]? =some x:=⟨gs[k]'(by rw [t.out];exact S),by simp [t.out,S]⟩
 have bl:LS[k]? =some (grT x):=by rw [<- fh,xU,al];rfl
 have ad:=ak.col ee.out bl;obtain⟨cc,ce⟩:∃cc,cc=off - sAt LS k:=⟨_,rfl⟩
 rw [<- ce]at ad;have cw:(off:Int) - (sAt LS k:Nat)=(cc:Nat):=by have:=ad.2;omega
 rw [cw];have O:=Z.rows.len;obtain⟨ai,dz⟩:∃ai,W[k]? =some ai:=⟨W[k]'(by rw [O,t.out];exact S),by simp [O,t.out,S]⟩
 have cx:=cd.lt ak ed.out;have f5:be<=n:=by have:=cd.2.1;rw [M.out]at this;exact this
 have AT:=qG (atN c g cap n k n n w1 ⟨Z.cells.1,Z.cells.2.1,Z.cells.2.2.1⟩ S lR ef (by omega));have ax:=qG Z;have cy:=qG bf;have eh:=qG ak;have T:=qG al;have B:=qG dz;have ei:=qG ce;have ae:=qG ad;have cz:=qG cx;have f6:=(j8 (cq.out x (qT al)).1).2.1;have f7:cc<=8192:=by have:=ad.1;omega
 have ej:=qG (show(grT x).length+m<=8192 from by
   have c0:=ZB (ls:=LS) (i:=k) (l:=grT x) bl;have N:=y9 (ls:=LS) (by intro e;have:=M.out;rw [e]at this;simp at this;omega);have:=ct.out;have ek:=M.out
   omega)
 have f8:n+m<=8193:=by
   have N:=y9 (ls:=LS) (by intro e;have:=M.out;rw [e]at this;simp at this;omega);have:=ct.out;have ek:=M.out;omega
 have el:=qG (show ∀i,i<ts.length->w1.cell? ⟨b,o+i,none⟩=some (.int .i32 (ts.getD i 0))from fun i hi=>(bf.cell (p:=⟨b,o+i,none⟩) bc).trans (cr.out i hi));have f9:=bf.size;have PX:=qG (cq.out x (qT al)).1;clear Z bf ak cd al dz ce ad cx cw bl O co cr;go_wp2_with fail;refine AT.out.mono ?_;rintro e wx ⟨rfl,d0⟩;have em:=d0.symm;subst em;clear d0 AT;have bm:=qG (cutLB ts b o a9 w1 el.out (by omega) (by rw [aw.out];omega) (by rw [aw.out];exact fp) fq);rw [aw.out,cv.out]at bm;go_wp2_with fail;refine bm.out.mono ?_;rintro e K ⟨gz,G,rfl,am,d1,an⟩;have en:=an.size;obtain⟨q,d⟩:∃q,f.length=q+2:=⟨f.length - 2,by omega⟩
 have y:=qG d;have ga:q+1<=m:=by have:=eg.out;omega
 rw [d]at am;rcases am.2 with ⟨_,z⟩ | ⟨D,J,g0,z,g1,_,z3,fv,_⟩
 ·omega
 subst z;unfold maxLen at fv;have gb:=(am.lt D rfl).2;have c1:=qG am;have ay:=qG d1;have bn:=qG (ax.out.below an lR ax.out.lt);have c2:=qG ax.out;have c3:=qG (cy.out.trans (an.mono (by omega)));have c4:=qG (show Below lo w1 K from an.mono (by omega));have gc:¬ (((q+2:Nat):Int)=1):=by omega
 have c5:=qG (JO bn.out.rows t.out T.out B.out PX.out);clear am d1 an bm ax cy d;have gd:(((q:Int)+2)==1)=false:=by simp;omega
 go_wp2_with fail;refine c5.out.mono ?_;rintro e wy ⟨rfl,aa,rfl⟩;have az:=qG (show LCr (K.drewN aa) lo K.heap.size c (.slice (qK g 0) n cap) _ W gs n n C _ from(bn.out.mono lR en).same rfl);have bo:=qG (zy c3.out aa);have c6:=qG (show(K.drewN aa).ownsRow w1.heap.size 25 1 (.slice (qK D 0) (q+2) J) (q+2) G from zA c1.out (fun _ _=>rfl));have T3:=qG (zy c4.out aa);have ge:(K.drewN aa).heap.size=K.heap.size:=rfl;generalize K.drewN aa=ah at *
 clear bn c3 c5 c1 c4;have a0:=qG (KH (a:=cc) (b:=(grT x).length) az.out.rows t.out T.out B.out PX.out ae.out.1 lR);rw [xu (by rw [qR];exact lR)]at a0;obtain⟨h,bg⟩:∃h,h=(grT x).drop cc:=⟨_,rfl⟩
 rw [<- bg]at a0;have eo:=qG bg;have ep:h.length=(grT x).length - cc:=by rw [bg,qR]
 obtain⟨H,d2⟩:∃H,H=h.length:=⟨_,rfl⟩
 have c7:=qG d2;have gf:H<=8192:=by omega
 clear bg ep d2;generalize dr:(grT x).length=b5 at *
 have af:=qG dr;clear dr;go_wp2_with fail;refine a0.out.mono ?_;rintro e ao ⟨g2,rfl,cf,ab⟩;obtain⟨aq,ar,d3⟩:=yG cf;rw [<- c7.out]at d3;subst d3;have eq:=ab.size;have L5:=qG (az.out.below ab (by omega) az.out.lt);have c8:=qG cf;have c9:=qG (zB c6.out ab lR);have da:=qG (bo.out.trans (ab.mono (by have:=bo.out.size;omega)));have db:=qG (T3.out.trans (ab.mono (by have:=T3.out.size;omega)));have bp:=qG (JO L5.out.rows t.out T.out B.out PX.out);rw [af.out]at bp;clear cf ab a0 az bo c6 T3;go_wp2_with fail;refine bp.out.mono ?_;rintro e wz ⟨rfl,Q,rfl⟩;have U:=qG (show LCr (ao.drewN Q) lo K.heap.size c (.slice (qK g 0) n cap) _ W gs n n C _ from L5.out.same rfl);have a1:=qG (show o32 (ao.drewN Q) ah.heap.size (.slice aq H ar) h from zA c8.out (fun q _=>rfl));have a2:=qG (show(ao.drewN Q).ownsRow w1.heap.size 25 1 (.slice (qK D 0) (q+2) J) (q+2) G from zA c9.out (fun _ _=>rfl));have dc:=qG (zy da.out Q);have dd:=qG (zy db.out Q);have gg:ah.heap.size<=(ao.drewN Q).heap.size:=eq;generalize ao.drewN Q=gw at *
 clear L5 c8 da bp c9 db;have bq:=qG (zB6 (a:=cc) (b:=b5) U.out.rows t.out T.out B.out (by omega) PX.out ae.out.1 (by rw [af.out];exact lR));have br:=qG (jN PX.out (a:=cc) (b:=b5) ae.out.1 (by rw [af.out];exact lR));have er:=qG (U.out.rows.nest.bl ai (qT B.out));have gh:=U.out.rows.bl g rfl;have de:=qG (c2.out.rows.nest.bl ai (qT B.out));have gi:=c2.out.rows.bl g rfl;obtain⟨z,cg⟩:∃z,z=delG x cc b5:=⟨_,rfl⟩
 rw [<- cg]at bq br;have es:=qG cg;clear cg;obtain⟨A,bh⟩:∃A,f[0]? =some A:=⟨f[0]'(by rw [y.out];omega),by simp [y.out]⟩
 have O:=ay.out.len;obtain⟨a7,ch⟩:∃a7,G[0]? =some a7:=⟨G[0]'(by rw [O,y.out];omega),by simp [O,y.out]⟩
 have bs:=qG (ay.out.at_ 0 a7 A ch bh);have et:=qG bh;have df:=qG ch;have eu:A.length<=m:=cu.out A (qT bh);obtain⟨I,P,fw⟩:∃I P,a7= .slice (qK b I) A.length P:=by obtain⟨I,P,e,_⟩:=bs.out;exact⟨I,P,e⟩
 subst fw;obtain⟨a8,bi⟩:∃a8,a8=A.length:=⟨_,rfl⟩
 have dg:=qG bi;rw [<- bi]at bs df;rw [<- bi]at eu;clear bh ch bi O;go_wp2_with fail;refine bq.out.mono ?_;rintro e bj ⟨rfl,u6,d4,d5,au⟩;obtain⟨d6,ci⟩:=U.out.rowed (by omega) B.out Y d4 au;have gj:=au.size
 have a3:=qG (fun(q:Nat) (d:w1.heap.size<=q)=>(show ¬ (q=g∨ai.ownBlock=some q)from fun s=>by
   rcases s with s | s
   ·omega
   have:=de.out q s;omega))
 have a4:=qG (show o32 bj ah.heap.size (.slice aq H ar) h from zA a1.out (fun q d=>au.block q (a1.out.lt q d).2 (a3.out q (by have:=(a1.out.lt q d).1;omega))));have ag:=qG (show bj.ownsRow w1.heap.size 25 1 (.slice (qK D 0) (q+2) J) (q+2) G from zA a2.out (fun q d=>au.block q (a2.out.lt q d).2 (a3.out q (a2.out.lt q d).1)));have bt:=qG d6;have dh:=qG (dc.out.trans ci);have bu:=qG (dd.out.trans ci);have ev:(gs.set k z).length=n:=by rw [vO,t.out]
 have ew:(grT z).length=cc:=by rw [br.out.2];have:=ae.out.1;have:=af.out;simp only [qM,qN,qR];omega
 have ex:¬ (b=g∨u6.ownBlock=some b):=by rw [d5];exact U.out.off bc B.out
 have ey:b<bj.heap.size:=by omega
 have gk:=ej.out;have gm:=ae.out.1
 have di:=qG (zB7 (p:=cc) (ts:=A) (ap:=some ⟨b,I,none⟩) (m:=a8) (cp:=P) bt.out.rows ev (jO T.out) (jO B.out) lR br.out.1 (by omega) dg.out (by omega) (fun w' dt=>by
  have c0:=bs.out.sl bu.out bc ey;rcases c0 with ⟨e,_⟩ | ⟨g3,g4,g5,e,N,fy⟩
  ·cases e
  simp only [xB,xz,vY,kS]at e;obtain⟨⟨rfl,rfl⟩,_,rfl⟩:=e
  exact .inr ⟨b,I,P,by rw [dg.out],xq N dt.size,fun i hi=>(qV (a:=⟨b,I+i,none⟩) (dt.block b N ex)).trans (fy i hi)⟩))
 have ez:bj.cell? ⟨D,0,none⟩=some (.slice (qK b I) a8 P):=by
  have:=ag.out.cellAt 0 (by omega);rw [this];exact df.out
 clear d6 ci d4 au bq U a1 dc a2 dd ew;go_wp2_with fail;refine di.out.mono ?_;rintro e v ⟨rfl,u7,cj,av⟩;simp only [List.set_set]at cj;obtain⟨d7,E⟩:=bt.out.rowed lR (jO B.out) Y cj av;have gn:=av.size;have bv:=qG (fun(q:Nat) (d:w1.heap.size<=q)=>(show ¬ (q=g∨u6.ownBlock=some q)from by rw [d5];exact a3.out q d));have dj:=qG (show o32 v ah.heap.size (.slice aq H ar) h from zA a4.out (fun q d=>av.block q (a4.out.lt q d).2 (bv.out q (by have:=(a4.out.lt q d).1;omega))));have bw:=qG (show v.ownsRow w1.heap.size 25 1 (.slice (qK D 0) (q+2) J) (q+2) G from zA ag.out (fun q d=>av.block q (ag.out.lt q d).2 (bv.out q (ag.out.lt q d).1)));have bx:=qG (dh.out.trans E);have V:=qG (bu.out.trans E);have a5:=qG d7;have dk:(gs.set k (insG z cc A)).length=n:=by rw [vO,t.out]
 have e0:b<v.heap.size:=by omega
 have go:=(bw.out.lt D rfl).2
 have dl:=qG (fun(F:World) (bd:Below lo w1 F) (dx:F.ownsRow w1.heap.size 25 1 (.slice (qK D 0) (q+2) J) (q+2) G) (cb:o32 F ah.heap.size (.slice aq H ar) h) (fr:b<F.heap.size)=>plainRowsO f.tail h D 1 (J - 1) (.slice aq H ar) F q (by rw [Qb,y.out];rfl) (dx.lt D rfl).2 (by omega) (by unfold maxLen;omega) (fun j b7=>by
  have bz:j+1<f.length:=(by rw [y.out];omega);have dm:j+1<G.length:=(by rw [ay.out.len];exact bz);refine⟨G[j+1],f[j+1],by simp [bz],(ay.out.at_ (j+1) _ _ (qY dm) (qY bz)).sl bd bc fr,?_⟩;have:=dx.cellAt (1+j) (by omega);rw [this,Nat.add_comm 1 j]
  exact qY dm) (Sl.qd cb) (by omega) (fun l b6=>by have:=cu.out l (List.mem_of_mem_tail b6);omega) (by rw [<- c7.out];omega))
 have dn:=qG (fun(fs:List Value) (F:World) (dy:Below v.heap.size v F) (cb:OwG 118 F v.heap.size F.heap.size (.slice (qK v.heap.size 0) (q+1) (q+1)) fs (plR f.tail h))=>rowsInsN (p:=k+1) (a5.out.below dy lR a5.out.lt) dk (by have:=dy.size;omega) Y cb (by rw [zF4 (by intro e;have:=kZ List.length e;rw [Qb,y.out]at this;simp at this),Qb,y.out];rfl) (by omega) lR lR (by omega) (by omega) (by omega));have e1:lo<=v.heap.size:=by have:=bx.out.size;omega
 have gp:c<v.heap.size:=a5.out.lt;have gq:¬ (J:Int)=1:=by omega
 have gr:(1:Int)<=J:=by omega
 have gt:IntKind.i64.wrap ((k:Int)+1)=((k+1:Nat):Int):=by rw [i64wS _ (by omega) (by omega)];omega
 generalize ds:insG z cc A=u at *
 have e2:=qG ds;clear d7 E cj av di bt a4 dh ag bu ez ds a3 bv de er;go_upto_region 8 with fail;go_cut []from 11 to 68 (fun wc=>∃fi fj aj fk,LCr wc lo wc.heap.size c (.slice (qK fi 0) aj fj) fu fk (glayA nilG ((gs.set k u).take (k+1)++(plR f.tail h++(gs.set k u).drop (k+1))) (k+1+(q+1)) aj) (k+1+(q+1)) (k+1+(aj - n)) C ((stL LS).take be)∧n+(q+1)<=aj∧aj<=65536∧Below lo v wc)
 case first=>
  go_region_with (first
   | (go_at_call 60;refine(dl.out _ (by exact⟨V.out.os,V.out.tape,V.out.output,V.out.size,V.out.block⟩) (by exact zA bw.out (fun _ _=>rfl)) (by exact zA dj.out (fun _ _=>rfl)) (by exact e0)).mono ?_;rintro e d8 ⟨fz,rfl,d9,E⟩;have b0:Below v.heap.size v d8:=⟨E.os,E.tape,E.output,E.size,E.block⟩;have e3:=qG (dn.out fz d8 b0 d9);have e4:=qG b0;clear d9 E b0)
   | (go_at_call 152;refine(e3.out).mono ?_;rintro e g6 ⟨rfl,ck,cl,L,cm,R,cn,bk,ac⟩;have a6:=qG R;have e5:=qG cn;have e6:=qG bk;have e7:=qG ((e4.out.mono e1).trans ac);clear R cn bk ac))
  all_goals
   go_wp2_with fail;go_meet;exact⟨ck,cl,L,cm,a6.out,e5.out,e6.out,e7.out⟩
 obtain⟨ck,cl,L,cm,R,cn,bk,ac⟩:=hcut
 rename World=>w8
 have gu:=ac.size;have e8:=qG (bx.out.trans ac);have a6:=qG (R.setN (C+m));obtain⟨g7,g8,g9,ha,hb⟩:=R.cells;have gv:=R.fz 3;obtain⟨f0,cs,ea⟩:=yk a6.out.starts;have b1:((stL LS).take be).length=be:=by rw [qN,yK,M.out];omega
 rw [b1]at ea;subst ea;have b2:=qG (Xb k a6.out b1 cz.out (by omega) Y);rw [vX,ve (by have:=cz.out;omega)]at b2;clear R ac bx b1 dl dn a5 bw dj V;go_wp2_with fail;refine b2.out.mono ?_;rintro e f1 ⟨rfl,eb,ec,f2⟩;have e9:=qG eb;have fa:=qG ((e8.out.setCell (p:=⟨c,3,none⟩) Y (qJ (C+m))).trans ec);have fc:w8.heap.size<=f1.heap.size:=by rw [f2];simp
 clear eb ec b2;go_wp2;go_end0
 have fd:(plR f.tail h).length=q+1:=by
  rw [zF4 (by intro e;have:=kZ List.length e;rw [Qb,y.out]at this;simp at this),Qb,y.out];rfl
 have fe:((gs.set k u).take (k+1)++(plR f.tail h++(gs.set k u).drop (k+1))).length=n+(q+1):=by
  simp only [qM,qN,qR,fd,dk];omega
 have b3:(glayA nilG ((gs.set k u).take (k+1)++(plR f.tail h++(gs.set k u).drop (k+1))) (k+1+(q+1)) L).length=L:=zL (by omega) (by omega);refine⟨rfl,k,x,ck,cl,k+1+(q+1),k+1+(L - n),.slice f0 (k+1) cs,cm,glayA nilG ((gs.set k u).take (k+1)++(plR f.tail h++(gs.set k u).drop (k+1))) (k+1+(q+1)) L,eh.out,T.out,?_,⟨by omega,by rw [b3];omega,by rw [b3];exact bk⟩,?_,fa.out⟩
 ·rw [b3,aw.out]
  exact e9.out.mono lR fc
 have ff:k+1+(L - n)=k+1+(q+1)+(L - ((gs.set k u).take (k+1)++(plR f.tail h++(gs.set k u).drop (k+1))).length):=by rw [fe];omega
 rw [ff,cut_glay (by omega) (by omega)];unfold yU insM;rw [cv.out,qZ (by rw [y.out];omega),<- ei.out,af.out,<- es.out,<- eo.out]
 have fg:f.headD []=A:=by
  have b4:=et.out
  match f,b4 with
  | a::r,b4=>simpa using b4
 rw [fg,e2.out,KL u (by rw [t.out];exact S)];have dp:(gs.take k++ [u]).length=k+1:=by simp [t.out];omega
 rw [ku dp,kG dp];simp only [xj]
theorem zF7 {ts:List Int} (d:(lns ts).length=1):10∉ts:=by
 intro b;obtain⟨a,c,rfl,e⟩:=zGv b;rw [lns_cut a c e,xe]at d;have:=(jG c).1;omega
theorem insLC (lo hi c g cap n off:Nat) (j:Value) (l:List Value) (gs:List Gr) (d:Int) (a:List Int) (ts:List Int) (b o m f:Nat) (w:World) (r:LCr w lo hi c (.slice (qK g 0) n cap) j l gs n n d a) (h:gs.length=n) (s:n<=8193) (t:hi<=w.heap.size) (u:lo<=c) (v:c<hi) (y:1<=a.length) (hst:a=(stL (gs.map grT)).take a.length) (z:a.length<=n) (A:∀x∈gs,okG x) (B:(jn (gs.map grT)).length+m<=8192) (C:off<=(jn (gs.map grT)).length)
  (p:ts.length=m) (D:b<lo) (E:m<=f) (F:f<=maxLen) (G:0<=d∧d<=8192) (H:∀i,i<ts.length->w.cell? ⟨b,o+i,none⟩=some (.int .i32 (ts.getD i 0))):
  Calls prog 143 #[.pointer (qK c 0),qJ off,.slice (qK b o) m f] w (Yh gs off ts w lo c d):=by
 by_cases q:(lns ts).length=1
 ·refine(insLC1 lo hi c g cap n off j l gs d a ts b o m f w r h s t u v y hst z A B C p (zF7 q) D E F G H).mono ?_
  rintro e w' ⟨K,k,x,sv',L,M,I,N,O⟩;have J:k<gs.length:=(xA.1 I).1;refine⟨K,k,x,g,cap,n,n,sv',L,gs.set k (insG x (off - sAt (gs.map grT) k) ts),M,I,?_,⟨lR,by rw [vO,h];exact lR,by rw [vO,h];omega⟩,?_,O⟩
  ·rw [vO,h,p]
   exact N
  rw [JG];unfold yU;rw [xd q,KL _ J]
 exact insLC2 lo hi c g cap n off j l gs d a ts b o m f w r h s t u v y hst z A B C p (by have:=(jG ts).1;omega) D E F G H
theorem Tryz.mSliceL (c : Option Addr) (w : World) : (Go.method 369 70 (.pointer c) "loop.example/s01685/impl.slice").run prog w = .ok (147, .pointer c) w := by kernel_rfl
theorem Tryz.mRemoveL (c : Option Addr) (w : World) : (Go.method 369 70 (.pointer c) "loop.example/s01685/impl.remove").run prog w = .ok (145, .pointer c) w := by kernel_rfl
theorem Tryz.nRemoveL (c : Addr) (w : World) : (Go.nilAhead 369 70 (.pointer (some c)) "loop.example/s01685/impl.remove").run prog w = .ok (some false) w := by kernel_rfl
theorem RemPost.far {gs:List Gr} {off m:Nat} {w a:World} {lo c:Nat} {b:Int} {e:Ending} {w':World} (d:RemPost gs off m a lo c b e w') (f:Below w.heap.size w a) (g:lo<=w.heap.size):RemPost gs off m w lo c b e w':=by
 obtain⟨h,k,k2,x,y,g',i,j,l,sv',n,o,p,q,r,s,t,u,v,z⟩:=d;exact⟨h,k,k2,x,y,g',i,j,l,sv',n,o,p,q,r,s,t,u,v,(f.mono g).trans z⟩
theorem zGw (lo hi c:Nat) (d f:Value) (g:List Value) (gs:List Gr) (h i:Nat) (r:Int) (j:List Int) (a:Int) (w:World) (k:LCr w lo hi c d f g gs h i r j) (o:0<=a∧a<=r):
  Calls prog 39 #[.iface 70 (.pointer (qK c 0)),qJ a,qJ a] w fun e w'=>e= .returned .nilIface∧w'=w:=by
 have s:=Tryz.mLengthL;have l:=qG (KO lo hi c d f g gs h i r j w k);have b:=qG (fun w=>ZC a a r w);rw [show decide ((0<=a∧a<=r)∧(0<=a∧a<=a))=true by rw [qU];omega]at b;simp only [errV,kA]at b;clear k o;go_enter func39,ntmps39;go_wp2_with fail;refine l.mono ?_;rintro e w1 ⟨rfl,p⟩;have m:=p.symm;subst m;go_wp2_with fail;refine(b _).mono ?_;rintro e wx ⟨rfl,q⟩;have n:=q.symm;subst n;go_wp2;go_ret;exact⟨rfl,rfl⟩
theorem Tryz.mRoomL (c : Option Addr) (w : World) : (Go.method 369 70 (.pointer c) "loop.example/s01685/impl.room").run prog w = .ok (146, .pointer c) w := by kernel_rfl
theorem Tryz.mInsertL (c : Option Addr) (w : World) : (Go.method 369 70 (.pointer c) "loop.example/s01685/impl.insert").run prog w = .ok (143, .pointer c) w := by kernel_rfl
theorem Tryz.nInsertL (c : Addr) (w : World) : (Go.nilAhead 369 70 (.pointer (some c)) "loop.example/s01685/impl.insert").run prog w = .ok (some false) w := by kernel_rfl
theorem roomLC (lo hi c:Nat) (g h:Value) (i:List Value) (gs:List Gr) (a b:Nat) (d:Int) (j:List Int) (w:World) (f:LCr w lo hi c g h i gs a b d j) (k:0<=d∧d<=8192):
  Calls prog 146 #[.pointer (qK c 0)] w fun e w'=>e= .returned (qJ (8192 - d))∧w'=w:=by
 obtain⟨l,m,n,o,p⟩:=f.cells;have w1:IntKind.i64.wrap (8192 - d)=8192 - d:=i64wS _ (by omega) (by omega);clear f;go_enter func146,ntmps146;go_wp2;go_ret;exact⟨rfl,rfl⟩
theorem insTextL (lo hi c g cap n off:Nat) (d:Value) (f:List Value) (gs:List Gr) (r:Nat) (a:List Int) (ts:List Int) (b o m h:Nat) (w:World) (j:LCr w lo hi c (.slice (qK g 0) n cap) d f gs n n (r:Int) a) (W:r=(jn (gs.map grT)).length) (t:gs.length=n) (u:n<=8193) (v:hi<=w.heap.size) (y:lo<=c) (z:c<hi) (A:1<=a.length) (hst:a=(stL (gs.map grT)).take a.length) (B:a.length<=n) (C:∀x∈gs,okG x) (D:(jn (gs.map grT)).length+m<=8192) (E:off<=(jn (gs.map grT)).length)
  (F:ts.length=m) (ai:1<=m) (G:b<lo) (H:m<=h) (I:h<=maxLen) (J:∀i,i<ts.length->w.cell? ⟨b,o+i,none⟩=some (.int .i32 (ts.getD i 0))):
  Calls prog 35 #[.iface 70 (.pointer (qK c 0)),qJ off,.slice (qK b o) m h] w fun e w'=>e= .returned .nilIface∧Yh gs off ts w lo c r (.returned (.tuple #[])) w':=by
 have q:=insLC lo hi c g cap n off d f gs r a ts b o m h w j t u v y z A hst B C D E F G H I (by omega) J
 have k:∀e w',Yh gs off ts w lo c r e w'->e= .returned (.tuple #[])∧Yh gs off ts w lo c r (.returned (.tuple #[])) w':=by
  intro e w' U;obtain⟨rfl,X⟩:=U;exact⟨rfl,rfl,X⟩
 generalize V:Yh gs off ts w lo c r (.returned (.tuple #[]))=ah at k |-;have L:=qG (q.mono k);clear q k V;have M:(0:Int)<=(r:Int)∧(r:Int)<=8192:=by omega
 have s:(0:Int)<=(off:Int)∧(off:Int)<=(r:Int):=by omega
 have ac:=Tryz.mLengthL;have ad:=Tryz.mRoomL;have ae:=Tryz.mInsertL;have af:=Tryz.nInsertL;have N:=qG (KO lo hi c _ d f gs n n r a w j);have O:=qG (roomLC lo hi c _ d f gs n n r a w j M);have l:=qG (fun w=>jS off 0 r 2 w);rw [show decide ((0:Int)<=(off:Int)∧(off:Int)<=(r:Int))=true by simpa using s]at l;simp only [errV,kA]at l;have p:=qG (fun w=>jS (m:Int) 0 (8192 - r) 10 w);rw [show decide (0<=(m:Int)∧(m:Int)<=8192 - (r:Int))=true by rw [qU];omega]at p;simp only [errV,kA]at p;have ag:(m:Int) > 0:=by omega
 clear j s C hst J I H G D E A B y z v u t F W;go_enter func35,ntmps35;go_wp2_with fail;refine N.mono ?_;rintro e w1 ⟨rfl,Y⟩;have P:=Y.symm;subst P;go_wp2_with fail;refine(l _).mono ?_;rintro e wx ⟨rfl,Z⟩;have Q:=Z.symm;subst Q;go_wp2_with fail;refine O.mono ?_;rintro e wy ⟨rfl,aa⟩;have R:=aa.symm;subst R;go_wp2_with fail;refine(p _).mono ?_;rintro e wz ⟨rfl,ab⟩;have S:=ab.symm;subst S;go_wp2_with fail;refine L.mono ?_;rintro e aj ⟨rfl,K⟩;have T:=qG K;clear K;go_wp2;go_ret;exact⟨rfl,T⟩
theorem sliceLC (lo hi c g cap n a b D:Nat) (bs:Value) (au:List Value) (gs:List Gr) (bt:Int) (w:World) (V:LCr w lo hi c (.slice (qK g 0) n cap) bs au gs n n bt ((stL (gs.map grT)).take D)) (av:gs.length=n) (dk:n<=8193) (dl:hi<=w.heap.size) (en:c<hi) (dm:1<=D) (dn:D<=n) (bu:∀x∈gs,okG x) (br:(jn (gs.map grT)).length<=8192) (eo:a<=b) (bv:b<=(jn (gs.map grT)).length):
  Calls prog 147 #[.pointer (qK c 0),qJ a,qJ b] w fun e w'=>∃bo,e= .returned bo∧o32 w' w.heap.size bo (((jn (gs.map grT)).take b).drop a)∧Below w.heap.size w w':=by
 obtain⟨bw,bx,dq,dr,ds⟩:=vc Tryz.qw;have Z:=qG (fun(z:World) (S:Below w.heap.size w z)=>V.below S dl (by omega));have cd:=qG bu;have a1:=qG av
 have ce:n<=cap:=by
  have f:=V.rows.row;rw [av]at f;rcases f.2 with ⟨e,_⟩ | ⟨_,_,_,e,_,_,dt,_⟩
  ·cases e
  simp only [xB]at e;obtain⟨_,_,rfl⟩:=e;exact dt
 have cf:=qG (fun(k:Nat) (bp:k<n)=>(show ∃x t,gs[k]? =some x∧au[k]? =some t∧(gs.map grT)[k]? =some (grT x)from by
  have cg:k<gs.length:=(by omega);obtain⟨x,t,E,W⟩:=V.rows.get cg
  exact⟨x,t,E,W,by simp [E]⟩))
 have m:=qG (show(gs.map grT).length=n by rw [xE,av]);have d4:=V.lt;clear V bu;obtain⟨d,du⟩:∃d,d=b - a:=⟨_,rfl⟩
 have d5:(b:Int) - (a:Int)=(d:Nat):=by omega
 have d6:d<=8192:=by omega
 clear du;have a2:=qG (fun(z:World) (S:Below w.heap.size w z)=>zDp lo hi c D a (.slice (qK g 0) n cap) bs au gs n n bt (gs.map grT) z (Z.out z S) (by rw [m.out];exact dn) dm (by rw [m.out];exact dk) (by omega));generalize el:gs.map grT=LS at *
 go_enter func147,ntmps147;go_wp2_with (at_make;refine wpList_make_own _ rfl _ _ 25 rfl w.heap.size 21 bw (.int .i32 0) 1 underlying25 bx dq dr .i64 .i64 _ d rfl rfl (by omega) (by rw [ds];omega) (by unfold maxLen;omega) lR ?_;intro w1 bd I);have ai:=qG (show Below w.heap.size w w1 from⟨I.os,I.tape,I.output,I.size,fun k bp=>I.block k bp (by simp)⟩);have ch:=qG bd;clear bd I;refine(a2.out w1 ai.out).mono ?_;rintro e ep ⟨A,rfl,bz,dv,_,b0⟩;have ci:=b0.symm;subst ci;clear b0;have aa:=Z.out w1 ai.out;have a3:=qG (show((stL LS).take D).length=D by rw [qN,yK,m.out];omega);obtain⟨eq,cs,b1⟩:=yk aa.starts;rw [a3.out]at b1;have hst:=aa.starts;unfold o64 at hst;rw [a3.out]at hst;subst b1;rcases hst.2 with ⟨_,q⟩ | ⟨dw,er,es,q,_,_,et,eu,_⟩
 ·omega
 simp only [xB,kt]at q;obtain⟨rfl,rfl⟩:=q
 have a4:w1.cell? ⟨dw,A,none⟩=some (qJ ((sAt LS A:Nat):Int)):=by
  have:=yb hst A bz;rw [this];have f:=Yz (ls:=LS) (i:=A) (by rw [m.out];omega);simp only [q9]at f |-;rw [xN,xd bz,f];rfl
 obtain⟨_,_,_,_,dx⟩:=aa.cells;have d7:(A:Int)<D:=by omega
 have cj:=qG (fun(i:Nat) (hi:i<=n)=>(show sAt LS i<=20000 from by
  have:=y9 (ls:=LS) (by intro e;have:=m.out;rw [e]at this;simp at this;omega);have:=yD LS i;have:=m.out
  unfold sAt;omega))
 have ck:=qG (show(jn LS).length<sAt LS n from by
  have:=y9 (ls:=LS) (by intro e;have:=m.out;rw [e]at this;simp at this;omega);unfold sAt;rw [xu (by rw [m.out];exact lR)];have:=m.out
  omega)
 have cl:=qG (fun(j:Nat)=>(show(((jn LS).take (min b (sAt LS j))).drop a).length<=8192 from by rw [qR,qN];omega));have cm:=qG (fun(j:Nat) (l:List Int) (C:LS[j]? =some l) (dg:sAt LS j<b)=>zE4 (lo:=a) C dg bv);have cn:=qG (fun(j:Nat) (l:List Int) (C:LS[j]? =some l)=>zCf C);have co:=qG (show((jn LS).take (min b (sAt LS A))).drop a= []from vJ (by rw [qN];omega));have cp:=qG bv;clear aa hst dv a2;generalize bk:sAt LS A=em at a4;have cq:=qG bk;clear bk;go_wp2_with fail;clear a4 dx;go_loopw [7,8,9] (fun bq ap dh wr=>∃j:Nat,j<=n∧ap=qJ j∧dh=qJ ((sAt LS j:Nat):Int)∧Below w.heap.size w wr∧o32 wr w.heap.size bq (((jn LS).take (min b (sAt LS j))).drop a)∧bq≠ .slice none 0 0) (fun _ ap _ _=>n+1 - (intOf ap).toNat)
 case atStart=>exact⟨A,by omega,rfl,by rw [cq.out],ai.out,by rw [co.out];exact ch.out,by simp⟩
 obtain⟨j,b2,rfl,rfl,X,ag,aw⟩:=hrel;have aj:=qG X;have ak:=qG ag;have ab:=qG aw;have d8:=X.size;have d9:=cj.out j b2;have ea:=cl.out j;obtain⟨ax,ay,rfl⟩:=yG ag;by_cases dc:sAt LS j<b
 ·have a5:j<n:=by
   rcases Nat.eq_or_lt_of_le b2 with e | e
   ·have:=ck.out;rw [<- e]at this;have:=cp.out;omega
   exact e
  obtain⟨x,t,E,W,C⟩:=cf.out j a5;have hst:=cm.out j _ C dc;have a6:=cn.out j _ C;have K:=Z.out wr X;have AT:=qG (atN c g cap n j n n wr ⟨K.cells.1,K.cells.2.1,K.cells.2.2.1⟩ a5 lR ce (by omega));have ac:=(cd.out x (qT E)).1;have a7:=qG (JO K.rows a1.out E W ac);have al:=qG (fun(p q:Nat) (z:World) (S:Below w.heap.size w z) (dp:p<=q) (y:q<=(grT x).length)=>KH (a:=p) (b:=q) (Z.out z S).rows a1.out E W ac dp y);have eb:=(j8 ac).2.1;generalize dd:grT x=bn at *
  generalize de:((jn LS).take (min b (sAt LS j))).drop a=T at *
  have ad:=qG hst;have G:=qG a6;generalize bl:bn.length=o at *
  have cr:=qG bl;generalize bm:sAt LS j=s at *
  have ec:=qG bm;generalize R:T.length=r at *
  have ae:=qG R;have ct:(s:Int)<(b:Nat):=(by omega);clear X ag aw E W C hst a6 K ac dd de bl bm R;go_wp2_with fail;refine AT.out.mono ?_;rintro e wx ⟨rfl,b3⟩;have cu:=b3.symm;subst cu;clear b3 AT;go_wp2_with fail;refine a7.out.mono ?_;rintro e wy ⟨rfl,nq,rfl⟩;have B:=qG (zy aj.out nq);have L:=qG (show o32 (wr.drewN nq) w.heap.size (.slice ax r ay) T from zA ak.out (fun q _=>rfl));generalize wr.drewN nq=df at *
  clear aj ak a7;by_cases bj:a<=s+o
  ·have cv:(a:Int)<=(s:Int)+(o:Int):=by omega
   obtain⟨u,b4⟩:∃u,u=a - s:=⟨_,rfl⟩
   obtain⟨U,b5⟩:∃U,U=min b (s+o):=⟨_,rfl⟩
   obtain⟨h,b6⟩:∃h,h=U - s:=⟨_,rfl⟩
   have ed:max ((a:Int) - (s:Int)) 0=(u:Nat):=(by omega);have ee:min (b:Int) ((s:Int)+(o:Int))=(U:Nat):=(by omega);have ef:(U:Int) - (s:Int)=(h:Nat):=(by omega);have cw:u<=h:=(by omega);have cx:h<=o:=(by omega);have hst:=ad.out.1 bj;rw [<- b4,<- b5,<- b6]at hst;have M:=qG hst;have N:=qG (al.out u h df B.out cw cx);clear hst ad al b4 b5 b6;have eg:h<=8192:=(by omega);obtain⟨J,az⟩:∃J,J=(bn.drop u).take (h - u):=⟨_,rfl⟩
   rw [<- az]at N M;have a8:J.length=h - u:=(by rw [az,qN,qR,cr.out];omega);have H:=qG a8;obtain⟨v,b7⟩:∃v,v=h - u:=⟨_,rfl⟩
   rw [<- b7]at H;have eh:v<=8192:=(by omega);have cy:=B.out.size;clear az a8 b7;go_upto_region 9 with fail;go_cut [7]from 26 to 63 (fun di wc=>∃af aq,di= .slice af (r+v) aq∧wc.ownsRow w.heap.size 21 1 (.slice af (r+v) aq) (r+v) (ints .i32 (T++J))∧(af=none->r+v=0->False)∧Below w.heap.size w wc)
   case first=>
    go_wp2_with fail;refine N.out.mono ?_;rintro e b8 ⟨ev,rfl,ah,Y⟩;have ei:=Y.size;have a9:=qG (B.out.trans (Y.mono cy))
    have O:=qG (show b8.ownsRow w.heap.size 21 1 (.slice ax r ay) r (ints .i32 T)from by
     have f:=zB L.out Y lR;unfold o32 at f;rw [ae.out]at f
     exact f)
    rcases YT ah with ⟨rfl,b9⟩ | ⟨ca,dy,rfl⟩
    ·have cz:v=0:=by have:=H.out;rw [b9]at this;simpa using this.symm
     subst b9 cz;clear ah Y N L B;go_wp2_with (at_builtin;refine wpList_append_own_none rfl _ _ 25 rfl w.heap.size 21 bw 1 underlying25 bx _ _ _ rfl O.out rfl ?_);go_meet;refine⟨ax,ay,by simp,by simpa using O.out,fun ar dj=>ab.out ?_,a9.out⟩;subst ar;have:r=0:=(by omega);subst this;rcases O.out.2 with ⟨F,_⟩ | ⟨g',dz,d0,F,_⟩
     ·exact F
     simp at F
    have c0:=qG (show ∀j t,(ints .i32 J)[j]? =some t->b8.cell? ((⟨ca,0,none⟩:Addr).add j)=some t from fun j t br=>World.ownsRow.cells ah rfl j t br);rw [H.out];clear ah Y N L B;go_wp2_with (at_builtin;refine Ql _ rfl _ _ rfl w.heap.size _ _ _ rfl O.out ⟨ca,0,none⟩ v dy (ints .i32 J) rfl (by rw [zC,vP,H.out]) c0.out (zG _ _) (by unfold maxLen;omega) (by omega) (by omega) ?_;intro da ej ao be bf);have c1:=qG (show da≠ .slice none 0 0 from fun e=>ab.out (bf.1 e).1);have c2:=qG (a9.out.grown be (by omega) (fun q y=>(O.out.lt q y).1));have ba:=qG ao;obtain⟨d1,d2,d3⟩:=Zz ao;subst d3;clear ao be bf;go_wp2_with fail;go_meet;refine⟨d1,d2,rfl,by rw [zf];exact ba.out,fun ar dj=>c1.out ?_,c2.out⟩;subst ar;rcases ba.out.2 with ⟨F,_⟩ | ⟨g',dz,d0,F,_⟩
    ·exact F
    simp at F
   obtain⟨af,aq,rfl,cb,cc,a0⟩:=hcut;have am:=qG cb;have bc:=qG a0;have an:=qG cc;have c3:=a0.size;clear cb a0 cc N L B ab;by_cases y:s+o<b
   ·have c4:(s:Int)+(o:Int)<(b:Nat):=by omega
    have hst2:=M.out;rw [xd y]at hst2;have P:=qG hst2;have c5:=qG (zV wc 21 [.int .i32 10]);clear hst2 M;go_wp2_with (at_builtin;refine Ql _ rfl _ _ rfl w.heap.size _ _ _ rfl (am.out.alloc _) ⟨wc.heap.size,0,none⟩ 1 1 [.int .i32 10] rfl rfl c5.out (zG .i32 [10]) (by unfold maxLen;omega) (by omega) (by simp;omega) ?_;intro db ek bg bh bi)
    have c6:=qG (show db≠ .slice none 0 0 from fun e=>by
     have f:=(bi.1 e).1
     first
      | exact an.out f.1 f.2.1
      | (injection f with i1 i2 i3;exact an.out i1 i2))
    have c7:=qG ((bc.out.alloc c3 (.cells #[.int .i32 10] 21)).grown bh (by simp;omega) (fun q y=>(am.out.lt q y).1));have c8:=qG bg;clear bg bh bi;have Q:j+1<=n:=(by omega);go_wp2;go_roundw
    case rel=>
     refine⟨j+1,Q,by go_num,by rw [G.out];go_num,c7.out,?_,c6.out⟩;rw [G.out,<- P.out];unfold o32;rw [qM,qM,ae.out,H.out,zf];exact c8.out
    simp [intOf];omega
   have c4:¬ (s:Int)+(o:Int)<(b:Nat):=(by omega);have hst2:=M.out;rw [qZ y,jd]at hst2;have P:=qG hst2;have Q:j+1<=n:=(by omega);clear hst2 M;go_wp2;go_roundw
   case rel=>
    refine⟨j+1,Q,by go_num,by rw [G.out];go_num,bc.out,?_,fun e=>?_⟩
    ·rw [G.out,<- P.out]
     unfold o32;rw [qM,ae.out,H.out];exact am.out
    simp only [xB]at e;exact an.out e.1 e.2.1
   simp [intOf];omega
  have cv:¬ (a:Int)<=(s:Int)+(o:Int):=(by omega);have P:=qG (ad.out.2 bj);have Q:j+1<=n:=(by omega);clear ad al;go_wp2;go_roundw
  case rel=>
   refine⟨j+1,Q,by go_num,by rw [G.out];go_num,B.out,?_,ab.out⟩;rw [G.out,P.out];exact L.out
  simp [intOf];omega
 have ct:¬ ((sAt LS j:Nat):Int)<(b:Nat):=by omega
 have c9:=qG (show((jn LS).take (min b (sAt LS j))).drop a=((jn LS).take b).drop a by rw [ve (by omega)]);generalize sAt LS j=s at *
 generalize R:(((jn LS).take (min b s)).drop a).length=r at *
 have ae:=qG R;clear ag X R aw;go_wp2;go_ret;refine⟨_,rfl,?_,aj.out⟩;rw [<- c9.out];exact ak.out
end Go.Proofs.YtmjanhcplcalfaaGreatDoor
namespace Go.Proofs.YtmjanhcplcalfaaGreatDoor
open Go Go.RowKit Go.Shelf Go.Sort Go.Proofs.Tryz
theorem delTextL (lo hi c g cap n a b:Nat) (sv:Value) (vs:List Value) (gs:List Gr) (r:Nat) (st:List Int) (w:World) (h:LCr w lo hi c (.slice (some ⟨g,0,none⟩) n cap) sv vs gs n n (r:Int) st) (hr:r=(jn (gs.map grT)).length) (hN:gs.length=n) (h2:n<=8193) (hh:hi<=w.heap.size) (hlc:lo<=c) (hch:c<hi) (hs1:1<=st.length) (hst:st=(stL (gs.map grT)).take st.length) (hsn:st.length<=n) (hok:∀x∈gs,okG x) (hj:(jn (gs.map grT)).length<=8192) (hab:a<b) (hb:b<=(jn (gs.map grT)).length):
  Calls prog 39 #[.iface 70 (.pointer (some ⟨c,0,none⟩)),.int .i64 a,.int .i64 b] w fun e w'=>e= .returned .nilIface∧RemPost gs a (b - a) w lo c r (.returned (.tuple #[])) w':=by
 have mL:=Tryz.mLengthL;have mS:=Tryz.mSliceL;have mR:=Tryz.mRemoveL;have nR:=Tryz.nRemoveL;have hlw:lo<=w.heap.size:=by omega
 have HL:=qG (KO lo hi c _ sv vs gs n n r st w h);have HKB:=qG (fun w=>ZC a b r w);rw [show decide ((0<=(b:Int)∧(b:Int)<=r)∧(0<=(a:Int)∧(a:Int)<=b))=true by rw [qU];omega]at HKB;simp only [errV,kA]at HKB;have HSL:=qG (fun W (hW:Below w.heap.size w W)=>sliceLC lo hi c g cap n a b st.length sv vs gs r W (by rw [<- hst];exact h.below hW hh (by omega)) hN h2 (by have:=hW.size;omega) hch hs1 hsn hok hj (by omega) hb);obtain⟨m,hm⟩:∃m,m=b - a:=⟨_,rfl⟩
 have HSV:=qG (fun W base' v (ho:o32 W base' v (((jn (gs.map grT)).take b).drop a))=>show ∃ao ct,v= .slice ao m ct from(by
  obtain⟨a1,c1,e1⟩:=yG ho
  exact⟨a1,c1,by rw [e1,qR,qN,ve hb,hm]⟩))
 have HRM:=qG (fun W ao ct (hW:Below w.heap.size w W)=>remLC lo hi c g cap n a sv vs gs r st ao m ct W (h.below hW hh (by omega)) hN h2 (by have:=hW.size;omega) hlc hch hs1 hst hsn hok hj (by omega) (by omega));rw [<- hm];have hlt:(a:Int)<(b:Int):=by omega
 have B1:=qG (qO w.heap.size w);clear h hst hok hm hr;generalize ((jn (gs.map grT)).take b).drop a=tx at *
 go_enter func39,ntmps39;go_wp2_with fail;refine HL.out.mono ?_;rintro e w1 ⟨rfl,hw1⟩;have hw1':=hw1.symm;subst hw1';clear hw1;go_wp2_with fail;refine(HKB.out _).mono ?_;rintro e wx ⟨rfl,hwx⟩;have hw2:=hwx.symm;subst hw2;clear hwx;go_upto_region 5 with fail;refine(kD (n:=6)).1 ?_;refine wpIn_region_any (by kernel_rfl) ?_;refine wpAnyIn_take (i:=0) (fuel:=9) (v:=.iface 70 (.pointer (some ⟨c,0,none⟩))) rfl rfl (by kernel_rfl) (by kernel_rfl) (by kernel_rfl) (fun _ _ _ h=>h) ⟨Or.inl ⟨by rfl,?_⟩,fun w=>by rfl⟩ ?_
 ·intro w;go_simp
 refine wpAnyIn_take (i:=1) (fuel:=8) (v:=.int .i64 a) rfl rfl (by kernel_rfl) (by kernel_rfl) (by kernel_rfl) (fun _ _ _ h=>h) ⟨Or.inl ⟨by rfl,?_⟩,fun w=>by rfl⟩ ?_
 ·intro w;go_simp
 refine wpAnyIn_take (i:=2) (fuel:=7) (v:=.iface 70 (.pointer (some ⟨c,0,none⟩))) rfl rfl (by kernel_rfl) (by kernel_rfl) (by kernel_rfl) (fun _ _ _ h=>h) ⟨Or.inl ⟨by rfl,?_⟩,fun w=>by rfl⟩ ?_
 ·intro w;go_simp
 refine wpAnyIn_take (i:=3) (fuel:=6) (v:=.int .i64 a) rfl rfl (by kernel_rfl) (by kernel_rfl) (by kernel_rfl) (fun _ _ _ h=>h) ⟨Or.inl ⟨by rfl,?_⟩,fun w=>by rfl⟩ ?_
 ·intro w;go_simp
 refine wpAnyIn_take (i:=4) (fuel:=5) (v:=.int .i64 b) rfl rfl (by kernel_rfl) (by kernel_rfl) (by kernel_rfl) (fun _ _ _ h=>h) ⟨Or.inl ⟨by rfl,?_⟩,fun w=>by rfl⟩ ?_
 ·intro w;go_simp
 refine wpAnyIn_take (i := 6) (fuel := 4) (v := .func (.method "loop.example/s01685/impl.remove") #[.iface 70 (.pointer (some ⟨c, 0, none⟩))] #[]) rfl rfl (by kernel_rfl) (by kernel_rfl) (by kernel_rfl) (fun _ _ _ h => h) ⟨Or.inl ⟨by rfl, ?_⟩, fun w => by rfl⟩ ?_
 ·intro w;go_simp
 refine wpAnyIn_take (i := 7) (fuel := 3) (v := .func (.method "loop.example/s01685/impl.remove") #[.iface 70 (.pointer (some ⟨c, 0, none⟩))] #[]) rfl rfl (by kernel_rfl) (by kernel_rfl) (by kernel_rfl) (fun _ _ _ h => h) ⟨Or.inl ⟨by rfl, ?_⟩, fun w => by rfl⟩ ?_
 ·intro w;go_simp
 refine wpAnyIn_take (i:=8) (fuel:=2) (v:=.iface 70 (.pointer (some ⟨c,0,none⟩))) rfl rfl (by kernel_rfl) (by kernel_rfl) (by kernel_rfl) (fun _ _ _ h=>h) ⟨Or.inl ⟨by rfl,?_⟩,fun w=>by rfl⟩ ?_
 ·intro w;go_simp
 refine Zs (i:=5) (j:=9) rfl rfl (by kernel_rfl) ?_;have B2:=qG (show RowKit.Below w.heap.size w {w with drawn:=w.drawn+1} from⟨B1.out.os,B1.out.tape,B1.out.output,B1.out.size,B1.out.block⟩);generalize ({w with drawn:=w.drawn+1}:World)=w2 at *
 clear B1 HKB HL;gi_wp2_with fail;refine⟨xn,(xf.2 (HSL.out _ B2.out)).mono ?_⟩;rintro e w3 ⟨v3,rfl,ho3,hb3⟩;obtain⟨a3,c3,rfl⟩:=HSV.out _ _ _ ho3;have B3:=qG (B2.out.trans (hb3.mono B2.out.size));clear hb3 ho3 HSL HSV;gi_wp2_with fail;refine⟨xn,(xf.2 (HRM.out _ _ _ B3.out)).mono ?_⟩;rintro e w4 hc4;have he4:=hc4.1;subst he4;have C4:=qG (hc4.far B3.out hlw);clear hc4 HRM;gi_wp2_with fail;go_wp2;go_ret;exact⟨rfl,C4.out⟩
end Go.Proofs.YtmjanhcplcalfaaGreatDoor
namespace Go.Proofs.YtmjanhcplcalfaaGreatDoor
open Go Go.RowKit Go.Proofs.Tryz
def ZF (w:World) (c:List Gr) (S:List Int) (C:Int) (e:Ending) (w':World):Prop:=∃a b,e= .returned (.tuple #[.agg #[a,b],qJ C])∧OwL w' w.heap.size w'.heap.size a b c S∧Below w.heap.size w w'
def inRR (gs:List Gr) (a b:Int):Prop:=0<=a∧a<=b∧b<=(jn (gs.map grT)).length
def LdRem (gs:List Gr) (a b:Nat) (c:List Gr) (S:List Int):Prop:=∃ (k k2:Nat) (x y:Gr),Ln (gs.map grT) a k∧Ln (gs.map grT) b k2∧gs[k]? =some x∧gs[k2]? =some y∧c=yT gs k k2 x y (a - sAt (gs.map grT) k) (b - sAt (gs.map grT) k2)∧S=(stL (gs.map grT)).take (k+1)
def LdAns (gs:List Gr) (c:List Int) (a b:Int) (d:List Gr) (S:List Int) (C:Int):Prop:=
 (LV gs c∧inRR gs a b∧a<b∧LdRem gs a.toNat b.toNat d S∧C=0)∨(LV gs c∧inRR gs a b∧a=b∧d=gs∧S=c∧C=0)∨
 (LV gs c∧¬inRR gs a b∧d= []∧S= []∧C=2)∨(¬LV gs c∧d= []∧S= []∧C=1)
theorem Ln.ex (L:List (List Int)) (off:Nat) (c:L≠ []):∃k,Ln L off k:=by
 have d:∀m,m<L.length->sAt L 0<=off->(∃k,Ln L off k)∨sAt L m<=off:=by
  intro m
  induction m with
  | zero=>intro _ b;exact .inr b
  | succ m e=>
   intro g b;rcases e (by omega) b with a | a
   ·exact .inl a
   rcases xR off (sAt L (m+1))with h2 | h2
   ·exact .inl ⟨m,by omega,a,fun _=>h2⟩
   exact .inr h2
 have f:0<L.length:=by cases L with | nil=>exact absurd rfl c | cons _ _=>simp
 have b:sAt L 0<=off:=by simp [sAt,smL]
 rcases d (L.length - 1) (by omega) b with a | a
 ·exact a
 exact⟨L.length - 1,by omega,a,fun c=>by omega⟩
theorem LdRem.ex (gs:List Gr) (a b:Nat) (g:1<=gs.length):∃j S,LdRem gs a b j S:=by
 have c:gs.map grT≠ []:=by intro e;have:=kZ List.length e;simp at this;rw [this]at g;simp at g
 obtain⟨k,h⟩:=Ln.ex (gs.map grT) a c;obtain⟨k2,i⟩:=Ln.ex (gs.map grT) b c;have d:=h.1;have f:=i.1;rw [xE]at d f;exact⟨_,_,k,k2,gs[k],gs[k2],h,i,by simp [d],by simp [f],rfl,rfl⟩
theorem zE5 (gs:List Gr) (k k2:Nat) (x y:Gr) (a b:Nat) (c:k<gs.length):1<=(yT gs k k2 x y a b).length:=by
 unfold yT
 split
 ·simp;omega
 simp;omega
theorem implLdr (gs:List Gr) (r:List Int) (a b:Int) (i j:Value) (lo hi:Nat) (w:World) (F:List Gr) (S:List Int) (C:Int) (av:LdAns gs r a b F S C) (J:OwL w lo hi i j gs r) (bp:hi<=w.heap.size) (aw:∀x∈gs,x.cells.length<=1048576) (bq:gs.length<=1048576) (hst:r.length<=1048576) (aa:w.cell? ⟨0,0,none⟩=some (.iface 184 (.agg #[.pointer (qK 1 67)]))) (ax:C=0):
  Calls prog 14 #[.agg #[i,j],qJ a,qJ b] w (ZF w F S C):=by
 have af:=qG ax;clear ax;have a6:0<w.heap.size:=xQ w _ aa;have W:=qG (((qO w.heap.size w).alloc lR (.cells #[i,j] 36)).alloc (by simp) (.cells #[.slice none 0 0,.slice none 0 0] 36));have ag:=qG (show D2 ((w.alloc (.cells #[i,j] 36)).alloc (.cells #[.slice none 0 0,.slice none 0 0] 36)) (w.heap.size+1) (.slice none 0 0) (.slice none 0 0) 36 from(by have G:=D2.new (w.alloc (.cells #[i,j] 36)) (.slice none 0 0) (.slice none 0 0) 36;rw [vp]at G;exact G));have a7:((w.alloc (.cells #[i,j] 36)).alloc (.cells #[.slice none 0 0,.slice none 0 0] 36)).heap.size=w.heap.size+2:=by simp
 have ah:=qG (KC gs r i j lo hi _ (J.below W bp) (by rw [a7];omega) aw bq hst);have a8:=qG ((W.cell (p:=⟨0,0,none⟩) a6).trans aa);obtain⟨br,bs,bt,bu,rfl,rfl⟩:=J.val;have L:=qG av;unfold ZF;clear J aw aa av;generalize ar:gs.length=n at *
 generalize au:r.length=m at *
 have t:=qG ar;have b6:=qG au;clear ar au;by_cases B:LV gs r
 ·have X:=qG (ah.mono (fun e w' J=>J.1 B))
  unfold RLOk at X;have ai:=(zB2 gs r).1 B;have A:=qG ai;have aj:=qG B;clear ah B ai;go_enter func14,ntmps14;go_wp2_with fail;generalize (w.alloc (.cells #[.slice br n bs,.slice bt m bu] 36)).alloc (.cells #[.slice none 0 0,.slice none 0 0] 36)=z at *
  refine X.mono ?_;rintro e w1 ⟨c,g,ab,ac,rfl,bv,E,K⟩;rw [t.out]at E;have a9:=E.lt;have b7:=K.size;have ak:=qG (ag.below K (by omega));have ba:=qG (W.trans (K.mono (by omega)));have b8:=qG ((K.cell (p:=⟨0,0,none⟩) (by show 0<z.heap.size;omega)).trans a8);have M:=qG E;have bc:1<=n:=(by have:=A.1.1;rw [t.out]at this;exact this.1);have al:n<=8193:=(by have:=A.1.1;rw [t.out]at this;exact this.2);clear E K X ag;by_cases u:inRR gs a b
  ·-- a told core,whatever it is
   have Y:∀ (d:World) (g' H o l:Nat) (sv':Value) (I:List Value) (h:List Gr) (Z:Int),LCr d z.heap.size d.heap.size c (.slice (qK g' 0) h.length H) sv' I h o l Z S->o<=l->l<=h.length->h.length<=8193->1<=h.length->cutG o l h=F->1<=o+(h.length - l)->w1.heap.size<=d.heap.size->Calls prog 38 #[.pointer (qK c 0),.nilIface] d fun e w'=>∃i j,e= .returned (.tuple #[.agg #[i,j],qJ 0])∧OwL w' z.heap.size w'.heap.size i j F S∧Below d.heap.size d w':=by
    intro d g' H o l sv' I h Z E P Q aq bl bm bn cd;have:=Jy z.heap.size d.heap.size c g' H h.length o l sv' I h Z S d E rfl bl (by omega) P Q bn lR (by omega) (by omega);rw [bm]at this;exact this
   have N:C=0∧Calls prog 39 #[.iface 70 (.pointer (qK c 0)),qJ a,qJ b] w1 fun e d=>e= .returned .nilIface∧Below z.heap.size w1 d∧Calls prog 38 #[.pointer (qK c 0),.nilIface] d fun e w'=>∃i j,e= .returned (.tuple #[.agg #[i,j],qJ 0])∧OwL w' z.heap.size w'.heap.size i j F S∧Below d.heap.size d w':=by
    rcases L with ⟨_,_,ay,az,s⟩ | ⟨_,_,ay,R,T,s⟩ | ⟨_,f,_⟩ | ⟨f,_⟩
    ·refine⟨s,?_⟩
     obtain⟨ad,rfl⟩:∃k:Nat,a=k:=⟨a.toNat,by have:=u.1;omega⟩
     obtain⟨U,rfl⟩:∃k:Nat,b=k:=⟨b.toNat,by have:=u.2.1;omega⟩
     rw [vg,vg]at az;have bd:U<=(jn (gs.map grT)).length:=(by have:=u.2.2;omega);refine(delTextL z.heap.size w1.heap.size c g n n ad U ab ac gs _ r w1 M rfl t al lR bv a9 A.2.1.1 A.2.2 (by have:=A.2.1.2;rw [t.out]at this;exact this) A.1.2.1 A.1.2.2 (by omega) bd).mono ?_;rintro e d ⟨rfl,_,k,k2,x,y,g',H,o,l,sv',I,h,a0,a1,bw,bx,a2,⟨P,Q,aq⟩,hcut,D⟩;rw [show ad+(U - ad)=U by omega]at a1 hcut;refine⟨rfl,D,?_⟩;obtain⟨cg,ch,ci,cj,bz,b0,a3,a4,R,T⟩:=az;obtain rfl:=bz.uniq a0;obtain rfl:=b0.uniq a1;rw [bw]at a3;rw [bx]at a4;obtain rfl:=vA a3;obtain rfl:=vA a4;have am:1<=(cutG o l h).length:=(by rw [hcut];exact zE5 _ _ _ _ _ _ _ (by have:=a0.1;rw [xE]at this;exact this));rw [ZJ P Q]at am;rw [<- T]at a2;exact Y d g' H o l sv' I h _ a2 P Q aq (by omega) (by rw [hcut,R]) am D.size
    ·refine⟨s,?_⟩
     subst ay;refine(zGw z.heap.size w1.heap.size c _ ab ac gs n n _ r a w1 M ⟨u.1,u.2.2⟩).mono ?_;rintro e d ⟨rfl,b1⟩;have be:=b1.symm;subst be;refine⟨rfl,qO _ _,?_⟩;have G:=M;rw [<- t.out,<- T]at G;have bf:1<=gs.length:=(by rw [t.out];exact bc);exact Y _ g gs.length gs.length gs.length ab ac gs _ G lR lR (by rw [t.out];exact al) bf (by rw [JG,R]) (by omega) lR
    ·exact absurd u f
    exact absurd aj f
   obtain⟨s,N⟩:=N;subst s;have an:=qG N;clear N L Y M;go_wp2_with fail;refine an.mono ?_;rintro e d ⟨rfl,D,a5⟩;have ao:=qG a5;have b9:=D.size;have ap:=qG (ak.below D (by omega));have bg:=qG (ba.trans (D.mono (by omega)));clear D an ak a5;go_wp2_with fail;refine ao.mono ?_;rintro e ck ⟨cl,cm,rfl,ae,V⟩;obtain⟨b2,b3,b4,b5,rfl,rfl⟩:=ae.val;have ca:=V.size;have O:=qG (ap.below V (by omega));have bh:=qG (bg.trans (V.mono (by omega)));have bi:=qG ae;have bj:=O.c.1;have bk:=O.c.2;have cb:=O.fz 0;have cc:=O.fz 1;clear ae V ao ap;generalize S.length=bo at *
   generalize F.length=gl at *
   go_wp2;refine xr (v:=.tuple #[.agg #[.slice b2 gl b3,.slice b4 bo b5],qJ 0]) (by simp [results,results14,go_sem,bj,bk]) rfl ⟨_,_,rfl,?_,?_⟩
   ·refine(bi.frame (fun q ce cf=>?_)).mono (by omega) (by simp)
    rw [xm _ _ _ _ (by show q≠w.heap.size+1;omega),xm _ _ _ _ (by show q≠w.heap.size+1;omega)]
   exact(bh.setCell (by simp) _).setCell (by simp) _
  rcases L with ⟨_,f,_⟩ | ⟨_,f,_⟩ | ⟨_,_,R,T,s⟩ | ⟨f,_⟩
  ·exact absurd f u
  ·exact absurd f u
  ·exact absurd (s.symm.trans af) (by decide)
  exact absurd aj f
 rcases L with ⟨f,_⟩ | ⟨f,_⟩ | ⟨f,_⟩ | ⟨_,_,_,s⟩
 ·exact absurd f B
 ·exact absurd f B
 ·exact absurd f B
 exact absurd (s.symm.trans af) (by decide)
def offR (gs:List Gr) (off:Int):Prop:=0<=off∧off<=(jn (gs.map grT)).length
def LjIns (gs:List Gr) (off:Nat) (ts:List Int) (a:List Gr) (S:List Int):Prop:=∃ (k:Nat) (x:Gr),Ln (gs.map grT) off k∧gs[k]? =some x∧a=yU gs k x (off - sAt (gs.map grT) k) ts∧S=(stL (gs.map grT)).take (k+1)
def LjAns (gs:List Gr) (a:List Int) (off:Int) (ts:List Int) (b:List Gr) (S:List Int) (C:Int):Prop:=
 (LV gs a∧offR gs off∧(jn (gs.map grT)).length+ts.length<=8192∧ts≠ []∧LjIns gs off.toNat ts b S∧C=0)∨(LV gs a∧offR gs off∧ts= []∧b=gs∧S=a∧C=0)∨
 (LV gs a∧offR gs off∧(ts≠ []∧¬ (jn (gs.map grT)).length+ts.length<=8192)∧b= []∧S= []∧C=10)∨(LV gs a∧¬offR gs off∧b= []∧S= []∧C=2)∨(¬LV gs a∧b= []∧S= []∧C=1)
theorem LjIns.ex (gs:List Gr) (off:Nat) (ts:List Int) (b:1<=gs.length):∃f S,LjIns gs off ts f S:=by
 have d:gs.map grT≠ []:=by intro e;have:=kZ List.length e;simp at this;rw [this]at b;simp at b
 obtain⟨k,c⟩:=Ln.ex (gs.map grT) off d;have a:=c.1;rw [xE]at a;exact⟨_,_,k,gs[k],c,by simp [a],rfl,rfl⟩
theorem zE6 (gs:List Gr) (k:Nat) (x:Gr) (cc:Nat) (ts:List Int):1<=(yU gs k x cc ts).length:=by
 unfold yU insM
 split<;>simp<;>omega
theorem implLj (gs:List Gr) (s:List Int) (off:Int) (ts:List Int) (Q:Value) (d f:Value) (lo hi:Nat) (w:World) (z:List Gr) (S:List Int) (C:Int) (a0:LjAns gs s off ts z S C) (F:OwL w lo hi d f gs s) (bx:hi<=w.heap.size) (a1:∀x∈gs,x.cells.length<=1048576) (bz:gs.length<=1048576) (hst:s.length<=1048576) (J:Sl .i32 w Q ts) (a2:∀E n c,Q= .slice E n c->n<=c∧c<=maxLen) (b0:ts.length<=1048576) (aa:w.cell? ⟨0,0,none⟩=some (.iface 184 (.agg #[.pointer (qK 1 67)]))) (a3:C=0) (b1:ts≠ []):
  Calls prog 12 #[.agg #[d,f],qJ off,Q] w (ZF w z S C):=by
 have V:=qG a3;clear a3;have bd:0<w.heap.size:=xQ w _ aa;have W:=qG (((qO w.heap.size w).alloc lR (.cells #[d,f] 36)).alloc (by simp) (.cells #[.slice none 0 0,.slice none 0 0] 36));have af:=qG (show D2 ((w.alloc (.cells #[d,f] 36)).alloc (.cells #[.slice none 0 0,.slice none 0 0] 36)) (w.heap.size+1) (.slice none 0 0) (.slice none 0 0) 36 from(by have ag:=D2.new (w.alloc (.cells #[d,f] 36)) (.slice none 0 0) (.slice none 0 0) 36;rw [vp]at ag;exact ag));have be:((w.alloc (.cells #[d,f] 36)).alloc (.cells #[.slice none 0 0,.slice none 0 0] 36)).heap.size=w.heap.size+2:=by simp
 have ah:=qG (KC gs s d f lo hi _ (F.below W bx) (by rw [be];omega) a1 bz hst);have bf:=qG ((W.cell (p:=⟨0,0,none⟩) bd).trans aa);obtain⟨b2,b3,b4,b5,rfl,rfl⟩:=F.val;have X:=qG a0;unfold ZF;clear F a1 aa a0;generalize ay:gs.length=n at *
 generalize az:s.length=m at *
 have A:=qG ay;have ck:=qG az;clear ay az;by_cases o:LV gs s
 ·have Y:=qG (ah.mono (fun e w' F=>F.1 o))
  unfold RLOk at Y;have ai:=(zB2 gs s).1 o;have t:=qG ai;have bg:=qG o;clear ah o ai;go_enter func12,ntmps12;go_wp2_with fail;generalize (w.alloc (.cells #[.slice b2 n b3,.slice b4 m b5] 36)).alloc (.cells #[.slice none 0 0,.slice none 0 0] 36)=r at *
  refine Y.mono ?_;rintro e w1 ⟨c,g,b6,b7,rfl,b8,y,K⟩;rw [A.out]at y;have bh:=y.lt;have cl:=K.size;have aj:=qG (af.below K (by omega));have ak:=qG (W.trans (K.mono (by omega)));have cm:=qG ((K.cell (p:=⟨0,0,none⟩) (by show 0<r.heap.size;omega)).trans bf);have al:=qG y;have cn:1<=n:=(by have:=t.1.1;rw [A.out]at this;exact this.1);have bi:n<=8193:=(by have:=t.1.1;rw [A.out]at this;exact this.2);clear y K Y af
  have am:∀ (a:World) (g' B j h:Nat) (sv':Value) (D:List Value) (b:List Gr) (Z:Int),LCr a r.heap.size a.heap.size c (.slice (qK g' 0) b.length B) sv' D b j h Z S->j<=h->h<=b.length->b.length<=65536->1<=b.length->cutG j h b=z->1<=j+(b.length - h)->w1.heap.size<=a.heap.size->Calls prog 38 #[.pointer (qK c 0),.nilIface] a fun e w'=>∃d f,e= .returned (.tuple #[.agg #[d,f],qJ 0])∧OwL w' r.heap.size w'.heap.size d f z S∧Below a.heap.size a w':=by
   intro a g' B j h sv' D b Z y O P ax bt bu bv cs;have:=Jy r.heap.size a.heap.size c g' B b.length j h sv' D b Z S a y rfl bt (by omega) O P bv lR (by omega) (by omega);rw [bu]at this;exact this
  have bj:(0:Int)<=((jn (gs.map grT)).length:Nat)∧(((jn (gs.map grT)).length:Nat):Int)<=8192:=by have:=t.1.2.2;omega
  obtain⟨G,H,I,ab⟩:∃G H I,Q= .slice G H I:=by
   rcases J with ⟨e,_⟩ | ⟨_,_,_,e,_⟩<;>exact⟨_,_,_,e⟩
  have bk:H=ts.length:=by
   rcases J with ⟨e,ac⟩ | ⟨_,_,_,e,_⟩
   ·rw [ab]at e;cases e;rw [ac];rfl
   rw [ab]at e;cases e;rfl
  subst ab
  have an:∀E,G=some E->E.block<w.heap.size:=by
   intro E e;subst e;rcases J with ⟨e,_⟩ | ⟨ad,a4,b9,e,a5,_⟩
   ·cases e
   simp only [xB,xz]at e;rw [e.1];exact a5
  have ao:Below w.heap.size w w1:=ak;have ap:=J.below ao
  -- the call,and its four ways
  have M:(C=0∧Calls prog 35 #[.iface 70 (.pointer (qK c 0)),qJ off,.slice G H I] w1 fun e a=>e= .returned .nilIface∧Below r.heap.size w1 a∧Calls prog 38 #[.pointer (qK c 0),.nilIface] a fun e w'=>∃d f,e= .returned (.tuple #[.agg #[d,f],qJ 0])∧OwL w' r.heap.size w'.heap.size d f z S∧Below a.heap.size a w')∨
    False:=by
   rcases X with ⟨_,L,a6,a7,a8,i⟩ | ⟨_,L,ca,R,T,i⟩ | ⟨_,L,a6,R,T,i⟩ | ⟨_,L,R,T,i⟩ | ⟨l,_⟩
   ·refine .inl ⟨i,?_⟩
    obtain⟨on,rfl⟩:∃k:Nat,off=k:=⟨off.toNat,by have:=L.1;omega⟩
    rw [vg]at a8;have bl:on<=(jn (gs.map grT)).length:=by have:=L.2;omega
    have bm:1<=ts.length:=by
     rcases vZ ts.length with q | q
     ·exact absurd (qW q) a7
     exact q
    have aq:=a2 G H I rfl;rcases ap with ⟨e,ac⟩ | ⟨ad,a4,b9,e,a5,cb⟩
    ·exact absurd ac a7
    simp only [xB]at e;obtain⟨rfl,rfl,rfl⟩:=e;have bn:ad<r.heap.size:=(by have:=an _ rfl;simp only at this;omega);refine(insTextL r.heap.size w1.heap.size c g n n on b6 b7 gs _ s ts ad a4 ts.length I w1 al rfl A bi lR b8 bh t.2.1.1 t.2.2 (by have:=t.2.1.2;rw [A.out]at this;exact this) t.1.2.1 a6 bl rfl bm bn aq.1 aq.2 cb).mono ?_;rintro e a ⟨rfl,_,k,x,g',B,j,h,sv',D,b,cc,cd,a9,⟨O,P,ax⟩,hcut,u⟩;refine⟨rfl,u,?_⟩;obtain⟨cv,cw,ce,ba,R,T⟩:=a8;obtain rfl:=ce.uniq cc;rw [cd]at ba;obtain rfl:=vA ba;have ar:1<=(cutG j h b).length:=(by rw [hcut];exact zE6 _ _ _ _ _);rw [ZJ O P]at ar;rw [<- T]at a9;exact am a g' B j h sv' D b _ a9 O P ax (by omega) (by rw [hcut,R]) ar u.size
   ·exact absurd ca b1
   ·exact absurd (i.symm.trans V) (by decide)
   ·exact absurd (i.symm.trans V) (by decide)
   exact absurd bg l
  clear am al X J ap a2 bk an ao bj b0;rcases M with ⟨i,M⟩ | cf
  ·subst i
   have au:=qG M;clear M;go_wp2_with fail;refine au.mono ?_;rintro e a ⟨rfl,u,bc⟩;have av:=qG bc;have co:=u.size;have aw:=qG (aj.below u (by omega));have bo:=qG (ak.trans (u.mono (by omega)));clear u au aj bc;go_wp2_with fail;refine av.mono ?_;rintro e cx ⟨cy,cz,rfl,ae,U⟩;obtain⟨cg,ch,ci,cj,rfl,rfl⟩:=ae.val;have cp:=U.size;have N:=qG (aw.below U (by omega));have bp:=qG (bo.trans (U.mono (by omega)));have bq:=qG ae;have br:=N.c.1;have bs:=N.c.2;have cq:=N.fz 0;have cr:=N.fz 1;clear ae U av aw;generalize S.length=bw at *
   generalize z.length=gl at *
   go_wp2;refine xr (v:=.tuple #[.agg #[.slice cg gl ch,.slice ci bw cj],qJ 0]) (by simp [results,results12,go_sem,br,bs]) rfl ⟨_,_,rfl,?_,?_⟩
   ·refine(bq.frame (fun q ct cu=>?_)).mono (by omega) (by simp)
    rw [xm _ _ _ _ (by show q≠w.heap.size+1;omega),xm _ _ _ _ (by show q≠w.heap.size+1;omega)]
   exact(bp.setCell (by simp) _).setCell (by simp) _
  exact cf.elim
 rcases X with ⟨l,_⟩ | ⟨l,_⟩ | ⟨l,_⟩ | ⟨l,_⟩ | ⟨_,_,_,i⟩
 ·exact absurd l o
 ·exact absurd l o
 ·exact absurd l o
 ·exact absurd l o
 exact absurd (i.symm.trans V) (by decide)
noncomputable def midG (k k2:Nat) (x y:Gr) (c1 c2:Nat):Gr:=if k=k2 then delG x c1 c2 else insG (delG x c1 (grT x).length) c1 ((grT y).drop c2)
theorem Ln.mono {L:List (List Int)} {a b k k2:Nat} (c:Ln L a k) (e:Ln L b k2) (i:a<=b):k<=k2:=by
 rcases xR k2 k with d | d
 ·have f:=e.2.2 (by have:=c.1;omega)
  have g:=Xw L (show k2+1<=k by omega);have h:=c.2.1;omega
 exact d
theorem KS {LS:List (List Int)} {k k2:Nat} {a b:List Int} (g:k<k2) (h:LS[k]? =some a) (d:LS[k2]? =some b) (n:(jn LS).length<=8192):a.length+b.length<=8192:=by
 have f:(LS.take k2)[k]? =some a:=by rw [xN,xd g];exact h
 have i:=ZB f;have j:=yO d;have l:=yD LS (k2+1);have c:k2<LS.length:=(xA.1 d).1;have m:=y9 (ls:=LS) (by intro e;rw [e]at c;simp at c);omega
theorem Kx {α:Type} {xs:List α} {k:Nat} (a:α) (b:k<xs.length):xs.set k a=xs.take k++ [a]++xs.drop (k+1):=by
 rw [kT,xd b];simp
theorem YD {gs:List Gr} {k k2:Nat} {x y:Gr} {a b:Nat} (c:k<gs.length):yT gs k k2 x y a b=gs.take k++ [midG k k2 x y a b]++gs.drop (k2+1):=by
 unfold yT midG
 split
 ·rename_i e;subst e;exact Kx _ c
 rw [Kx _ c,xI (by simp;omega)];rw [xu (by simp;omega)]
def preL (A:List (List Int)):List Int:=A.flatMap (fun l=>l++ [10])
def postL (B:List (List Int)):List Int:=B.flatMap (fun l=>10::l)
theorem zB8 (A Y:List (List Int)) (d:Y≠ []):jn (A++Y)=preL A++jn Y:=by
 induction A with
 | nil=>simp [preL]
 | cons a A f=>
  have c:A++Y≠ []:=by simp [d]
  have e:jn (a::(A++Y))=a++10::jn (A++Y):=by
   cases hA:A++Y with
   | nil=>exact absurd hA c
   | cons b r=>rfl
  rw [xv,e,f];simp [preL]
theorem KT (B:List (List Int)):∀ (Y:List (List Int)),Y≠ []->jn (Y++B)=jn Y++postL B:=by
 induction B with
 | nil=>intro Y _;simp [postL]
 | cons b B c=>
  intro Y a;have e:Y++b::B=(Y++ [b])++B:=(by simp);rw [e,c (Y++ [b]) (by simp),zEv a];simp [postL]
theorem preL_len (A:List (List Int)):(preL A).length=smL A+A.length:=by
 induction A with
 | nil=>rfl
 | cons a A b=>
  have e:preL (a::A)=a++ [10]++preL A:=(by simp [preL]);rw [e];simp only [qM,xe,xK,b,smL];omega
theorem KU {LS:List (List Int)} {k:Nat} {T:List Int} (b:LS[k]? =some T):jn LS=preL (LS.take k)++(T++postL (LS.drop (k+1)))∧(preL (LS.take k)).length=sAt LS k:=by
 have c:k<LS.length:=(xA.1 b).1
 have e:LS=LS.take k++([T]++LS.drop (k+1)):=by
  have a:=xw k LS
  have d:LS.drop k=T::LS.drop (k+1):=by
   rw [ki c];have:=(xA.1 b).2;rw [this]
  rw [d]at a;exact a.symm
 refine⟨?_,?_⟩
 ·conv=>lhs;rw [e]
  rw [zB8 _ _ (by simp),KT _ _ (by simp)];simp [jn,jt]
 rw [preL_len];unfold sAt;simp;omega
theorem lns_gl (P z:List Int) (a:10∉P):lns (P++z)=(P++(lns z).headD [])::(lns z).tail:=by
 induction P with
 | nil=>exact YN z
 | cons c P f=>
  have b:c≠10:=fun e=>a (by simp [e])
  have d:10∉P:=fun e=>a (by simp [e])
  have:=f d;simp only [xv,lns,qZ b,this];simp
theorem lns_last (z e:List Int) (h:10∉e):lns (z++e)=(lns z).dropLast++ [(lns z).getLastD []++e]:=by
 induction z with
 | nil=>simp [lns,zDb h]
 | cons c z g=>
  by_cases f:c=10
  ·subst f
   rw [xv,Jc,Jc,g];have d:=Zt z;cases hz:lns z with
   | nil=>exact absurd hz d
   | cons a r=>simp
  have d:=Zt z;simp only [xv,lns,qZ f,g];cases hz:lns z with
  | nil=>exact absurd hz d
  | cons a r=>
   cases r with
   | nil=>simp
   | cons b r=>simp
theorem plG_ok {l:List Int} (c:10∉l) (d:l.length<=8192):okG (plG l):=by
 refine⟨?_,by rw [Zd];exact c⟩;exact zB4 (x:=plG l) (lo:=l.length) (hi:=l.length) ⟨lR,lR,fun i a b=>by omega,by show l.length<=65536;omega,by show l.length - (l.length - l.length)<=8192;omega⟩ rfl rfl
theorem plR_map (L:List (List Int)) (a:List Int):(plR L a).map grT=L.dropLast++ [L.getLastD []++a]:=by
 unfold plR;rw [vz,List.map_map];have e:(grT∘plG)=id:=by funext l;exact Zd l
 rw [e];simp [Zd]
theorem zF8 {x:Gr} {cc:Nat} {ts:List Int} (g:okG x) (l:cc<=(grT x).length) (s:(grT x).length+ts.length<=8192):(if(lns ts).length=1 then [insG x cc ts]else insM x cc (lns ts)).map grT=lns ((grT x).take cc++(ts++(grT x).drop cc)):=by
 have h:10∉(grT x).take cc:=fun e=>g.2 (xJ e)
 have i:10∉(grT x).drop cc:=fun e=>g.2 (xT e)
 split
 ·rename_i d
  have m:=zF7 d;have:=(ju (x:=x) (p:=cc) (ts:=ts) g.1 l s).2;simp only [vL,List.map_nil,this];rw [zDb];intro e;rcases xb.1 e with e | e
  ·exact h e
  rcases xb.1 e with e | e
  ·exact m e
  exact i e
 rename_i d;obtain⟨f,r,c⟩:∃f r,lns ts=f::r:=⟨_,_,YN ts⟩
 have n:r≠ []:=by
  intro e;rw [e]at c;rw [c]at d;exact d rfl
 have t:f.length<=ts.length:=ZI (by rw [c];simp);have j:=jN (x:=x) (a:=cc) (b:=(grT x).length) g.1 l lR;have k:grT (delG x cc (grT x).length)=(grT x).take cc:=by rw [j.2];simp
 have u:(grT (delG x cc (grT x).length)).length=cc:=by rw [k];simp;omega
 have i1:=(ju (x:=delG x cc (grT x).length) (p:=cc) (ts:=f) j.1 (by omega) (by omega)).2;unfold insM;rw [vz,plR_map,c];simp only [List.headD_cons,List.tail_cons,vL,List.map_nil,i1,k];rw [lns_gl _ _ h,lns_last _ _ i,c];have o:((grT x).take cc).take cc=(grT x).take cc:=by rw [vX,Nat.min_self]
 have q:((grT x).take cc).drop cc= []:=vE (by simp;omega);rw [o,q];cases r with
 | nil=>exact absurd rfl n
 | cons b r=>simp
theorem JT {gs:List Gr} {k off:Nat} {x:Gr} {ts:List Int} (c:gs[k]? =some x) (i:∀g∈gs,okG g) (j:Ln (gs.map grT) off k) (l:off<=(jn (gs.map grT)).length) (u:(jn (gs.map grT)).length+ts.length<=8192):
  (yU gs k x (off - sAt (gs.map grT) k) ts).map grT=(gs.map grT).take k++lns ((grT x).take (off - sAt (gs.map grT) k)++(ts++(grT x).drop (off - sAt (gs.map grT) k)))++(gs.map grT).drop (k+1)∧
  jn ((yU gs k x (off - sAt (gs.map grT) k) ts).map grT)=(jn (gs.map grT)).take off++(ts++(jn (gs.map grT)).drop off):=by
 have a:(gs.map grT)[k]? =some (grT x):=by rw [xU,c];rfl
 have q:=j.col l a;have d:=i x (qT c)
 have p:(grT x).length<=(jn (gs.map grT)).length:=by
  have r:=ZB a;have s:=y9 (ls:=gs.map grT) (by intro e;rw [e]at a;simp at a);have t:1<=(gs.map grT).length:=(by have:=(xA.1 a).1;omega);omega
 obtain⟨cc,m⟩:∃cc,cc=off - sAt (gs.map grT) k:=⟨_,rfl⟩
 rw [<- m]at q |-;have f:=zF8 (x:=x) (cc:=cc) (ts:=ts) d q.1 (by omega)
 have b:(yU gs k x cc ts).map grT=(gs.map grT).take k++lns ((grT x).take cc++(ts++(grT x).drop cc))++(gs.map grT).drop (k+1):=by
  unfold yU;rw [vz,vz,f,Qd,List.map_drop]
 refine⟨b,?_⟩;obtain⟨n,o⟩:=KU a;rw [b,xj,zB8 _ _ (by simp [Zt]),KT _ _ (Zt _),zAx,n];have h:off=(preL ((gs.map grT).take k)).length+cc:=by rw [o];omega
 rw [h,kP,Qf];rw [xI q.1,xS q.1];simp only [xj]
theorem Ky {k k2:Nat} {x y:Gr} {c d:Nat} (h:okG x) (m:c<=(grT x).length) (n:d<=(grT y).length) (o:k=k2->x=y∧c<=d) (q:k≠k2->(grT x).length+(grT y).length<=8192):gkP (midG k k2 x y c d).cells (midG k k2 x y c d).lo (midG k k2 x y c d).hi∧grT (midG k k2 x y c d)=(grT x).take c++(grT y).drop d:=by
 unfold midG
 split
 ·rename_i e
  obtain⟨rfl,r⟩:=o e;exact jN h.1 r n
 rename_i e;have f:=jN (x:=x) (a:=c) (b:=(grT x).length) h.1 m lR;have g:grT (delG x c (grT x).length)=(grT x).take c:=by rw [f.2];simp
 have i:(grT (delG x c (grT x).length)).length=c:=by rw [g];simp;omega
 have s:=q e;have i1:=ju (x:=delG x c (grT x).length) (p:=c) (ts:=(grT y).drop d) f.1 (by omega) (by rw [i,qR];omega);refine⟨i1.1,?_⟩;rw [i1.2,g];have j:((grT x).take c).take c=(grT x).take c:=by rw [vX,Nat.min_self]
 have l:((grT x).take c).drop c= []:=vE (by simp;omega);rw [j,l,jd]
theorem JU {gs:List Gr} {k k2 a b:Nat} {x y:Gr} (d:gs[k]? =some x) (n:gs[k2]? =some y) (C:∀g∈gs,okG g) (p:Ln (gs.map grT) a k) (q:Ln (gs.map grT) b k2) (D:a<=b) (E:b<=(jn (gs.map grT)).length) (F:(jn (gs.map grT)).length<=8192):
  (yT gs k k2 x y (a - sAt (gs.map grT) k) (b - sAt (gs.map grT) k2)).map grT=(gs.map grT).take k++ [(grT x).take (a - sAt (gs.map grT) k)++(grT y).drop (b - sAt (gs.map grT) k2)]++(gs.map grT).drop (k2+1)∧
  jn ((yT gs k k2 x y (a - sAt (gs.map grT) k) (b - sAt (gs.map grT) k2)).map grT)=(jn (gs.map grT)).take a++(jn (gs.map grT)).drop b:=by
 have i:(gs.map grT)[k]? =some (grT x):=by rw [xU,d];rfl
 have j:(gs.map grT)[k2]? =some (grT y):=by rw [xU,n];rfl
 have l:=p.col (by omega) i;have m:=q.col E j;have K:=p.mono q D;have t:=C x (qT d);have u:k<gs.length:=(xA.1 d).1;obtain⟨f,r⟩:∃c,c=a - sAt (gs.map grT) k:=⟨_,rfl⟩
 obtain⟨h,s⟩:∃c,c=b - sAt (gs.map grT) k2:=⟨_,rfl⟩
 rw [<- r]at l;rw [<- s]at m;rw [<- r,<- s]
 have v:=(Ky (k:=k) (k2:=k2) t l.1 m.1 (fun e=>by
  subst e;rw [d]at n
  exact⟨vA n,by omega⟩) (fun e=>KS (show k<k2 by omega) i j F)).2
 have o:(yT gs k k2 x y f h).map grT=(gs.map grT).take k++ [(grT x).take f++(grT y).drop h]++(gs.map grT).drop (k2+1):=by
  rw [YD u,vz,vz,Qd,List.map_drop];simp [v]
 refine⟨o,?_⟩;obtain⟨G,H⟩:=KU i;obtain⟨I,J⟩:=KU j;rw [o,xj,zB8 _ _ (by simp),KT _ _ (by simp)];have w:a=(preL ((gs.map grT).take k)).length+f:=by rw [H];omega
 have z:b=(preL ((gs.map grT).take k2)).length+h:=by rw [J];omega
 have A:(jn (gs.map grT)).take a=preL ((gs.map grT).take k)++(grT x).take f:=by
  rw [G,w,kP,xI l.1]
 have B:(jn (gs.map grT)).drop b=(grT y).drop h++postL ((gs.map grT).drop (k2+1)):=by
  rw [I,z,Qf,xS m.1]
 rw [A,B];simp [jn,jt]
theorem LV_of {a:List Gr} {m:Nat} (f:∀g∈a,okG g) (h:(jn (a.map grT)).length<=8192) (j:1<=m) (c:m<=a.length):LV a ((stL (a.map grT)).take m):=by
 have b:(a.map grT).length=a.length:=xE _;have d:((stL (a.map grT)).take m).length=m:=by rw [qN,yK,b];omega
 have i:=y9 (ls:=a.map grT) (by intro e;have:=kZ List.length e;rw [b]at this;simp at this;rw [this]at c;simp at c;omega);refine⟨⟨by omega,by omega,by omega,by omega⟩,f,h,?_⟩;rw [d]
theorem zCo {L a:List (List Int)} {k:Nat} (b:L.take k=a.take k) (c:k<L.length) (d:k<a.length):(stL L).take (k+1)=(stL a).take (k+1):=by
 apply kX;intro i;rw [xN,xN]
 split
 ·rename_i hi
  rw [zAo (by omega),zAo (by omega)]
  have e:L.take i=a.take i:=by
   have:=kZ (List.take i) b;rw [vX,vX,ve (by omega)]at this;exact this
  rw [e]
 rfl
theorem plG_gk {l:List Int} (c:l.length<=8192):gkP (plG l).cells (plG l).lo (plG l).hi:=
 zB4 (x:=plG l) (lo:=l.length) (hi:=l.length) ⟨lR,lR,fun i a b=>by omega,by show l.length<=65536;omega,by show l.length - (l.length - l.length)<=8192;omega⟩ rfl rfl
theorem mid_ok {x:Gr} {cc:Nat} {ts:List Int} (d:okG x) (e:cc<=(grT x).length) (j:(grT x).length+ts.length<=8192):∀g∈(if(lns ts).length=1 then [insG x cc ts]else insM x cc (lns ts)),okG g:=by
 have k:=zF8 (x:=x) (cc:=cc) (ts:=ts) d e j;intro g c
 have f:grT g∈lns ((grT x).take cc++(ts++(grT x).drop cc)):=by
  rw [<- k];exact List.mem_map_of_mem c
 have h:=ZI f;refine⟨?_,Xx _ _ f⟩
 split at c
 ·rw [kK]at c
  subst c;exact(ju (x:=x) (p:=cc) (ts:=ts) d.1 e j).1
 unfold insM at c;rcases xb.1 c with c | c
 ·rw [kK]at c
  subst c;have i:=jN (x:=x) (a:=cc) (b:=(grT x).length) d.1 e lR;have m:(grT (delG x cc (grT x).length)).length=cc:=by rw [i.2];simp;omega
  have n:((lns ts).headD []).length<=ts.length:=by
   cases hL:lns ts with
   | nil=>exact absurd hL (Zt ts)
   | cons a r=>exact ZI (by rw [hL];simp)
  exact(ju i.1 (by omega) (by omega)).1
 unfold plR at c;have o:((grT x).take cc++(ts++(grT x).drop cc)).length=(grT x).length+ts.length:=by simp only [qM,qN,qR];omega
 rcases xb.1 c with c | c
 ·obtain⟨l,_,rfl⟩:=kL.1 c
  rw [Zd]at h;exact plG_gk (by omega)
 rw [kK]at c;subst c;rw [Zd]at h;exact plG_gk (by omega)
theorem zE7 {gs:List Gr} {k off:Nat} {x:Gr} {ts:List Int} (c:gs[k]? =some x) (d:∀g∈gs,okG g) (h:Ln (gs.map grT) off k) (i:off<=(jn (gs.map grT)).length) (p:(jn (gs.map grT)).length+ts.length<=8192):
  LV (yU gs k x (off - sAt (gs.map grT) k) ts) ((stL (gs.map grT)).take (k+1)):=by
 have b:(gs.map grT)[k]? =some (grT x):=by rw [xU,c];rfl
 have q:=h.col i b;have l:=d x (qT c);have m:k<gs.length:=(xA.1 c).1
 have s:(grT x).length<=(jn (gs.map grT)).length:=by
  have t:=ZB b;have u:=y9 (ls:=gs.map grT) (by intro e;rw [e]at b;simp at b);have v:1<=(gs.map grT).length:=(by have:=(xA.1 b).1;omega);omega
 obtain⟨f,j⟩:=JT (ts:=ts) c d h i p;obtain⟨cc,r⟩:∃cc,cc=off - sAt (gs.map grT) k:=⟨_,rfl⟩
 rw [<- r]at q f j |-;have n:=mid_ok (x:=x) (cc:=cc) (ts:=ts) l q.1 (by omega)
 have o:k<(yU gs k x cc ts).length:=by
  have:=kZ List.length f;rw [xE]at this;have w:=(jG ((grT x).take cc++(ts++(grT x).drop cc))).1;simp only [qM,qN,xE]at this;omega
 have hst:(stL (gs.map grT)).take (k+1)=(stL ((yU gs k x cc ts).map grT)).take (k+1):=by
  refine zCo ?_ (by rw [xE];exact m) (by rw [xE];exact o);rw [f,xj,xI (by simp;omega),vX,Nat.min_self]
 rw [hst];refine LV_of (fun g a=>?_) ?_ (by omega) (by omega)
 ·unfold yU at a
  rcases xb.1 a with a | a
  ·rcases xb.1 a with a | a
   ·exact d g (xJ a)
   exact n g a
  exact d g (xT a)
 rw [j];simp only [qM,qN,qR];omega
theorem zE8 {gs:List Gr} {k k2 a b:Nat} {x y:Gr} (f:gs[k]? =some x) (h:gs[k2]? =some y) (i:∀g∈gs,okG g) (l:Ln (gs.map grT) a k) (m:Ln (gs.map grT) b k2) (t:a<=b) (u:b<=(jn (gs.map grT)).length) (v:(jn (gs.map grT)).length<=8192):
  LV (yT gs k k2 x y (a - sAt (gs.map grT) k) (b - sAt (gs.map grT) k2)) ((stL (gs.map grT)).take (k+1)):=by
 have n:(gs.map grT)[k]? =some (grT x):=by rw [xU,f];rfl
 have o:(gs.map grT)[k2]? =some (grT y):=by rw [xU,h];rfl
 have p:=l.col (by omega) n;have q:=m.col u o;have I:=l.mono m t;have r:=i x (qT f);have E:=i y (qT h);have j:k<gs.length:=(xA.1 f).1;obtain⟨w,z⟩:=JU f h i l m t u v;obtain⟨A,B⟩:∃c,c=a - sAt (gs.map grT) k:=⟨_,rfl⟩
 obtain⟨C,D⟩:∃c,c=b - sAt (gs.map grT) k2:=⟨_,rfl⟩
 rw [<- B]at p;rw [<- D]at q;rw [<- B,<- D]at w z |-
 have s:=Ky (k:=k) (k2:=k2) r p.1 q.1 (fun e=>by
  subst e;rw [f]at h
  exact⟨vA h,by omega⟩) (fun e=>KS (show k<k2 by omega) n o v)
 have F:=s.1;have G:=s.2
 have H:(yT gs k k2 x y A C).length=k+1+(gs.length - (k2+1)):=by
  rw [YD j];simp;omega
 have hst:(stL (gs.map grT)).take (k+1)=(stL ((yT gs k k2 x y A C).map grT)).take (k+1):=by
  refine zCo ?_ (by rw [xE];exact j) (by rw [xE,H];omega);rw [w,xj,xI (by simp;omega),vX,Nat.min_self]
 rw [hst];refine LV_of (fun g d=>?_) ?_ (by omega) (by omega)
 ·rw [YD j]at d
  rcases xb.1 d with d | d
  ·rcases xb.1 d with d | d
   ·exact i g (xJ d)
   rw [kK]at d;subst d;refine⟨F,?_⟩;rw [G];intro e;rcases xb.1 e with e | e
   ·exact r.2 (xJ e)
   exact E.2 (xT e)
  exact i g (xT d)
 rw [z];simp only [qM,qN,qR];omega
structure LT (gs:List Gr) (a tx:List Int):Prop where
 v:LV gs a
 t:jn (gs.map grT)=tx
section
variable {gs:List Gr} {st tx ts:List Int}
theorem LT.n (a:LT gs st tx):gs.length<=8193:=a.v.1.2.1
theorem LT.p (a:LT gs st tx):1<=gs.length:=a.v.1.1
theorem LT.s (a:LT gs st tx):st.length<=8193:=by have b:=a.v.1.2.2.2;have:=a.n;omega
theorem LT.l (b:LT gs st tx):tx.length<=8192:=by have a:=b.v.2.2.1;rw [b.t]at a;exact a
theorem LT.c (b:LT gs st tx):∀x∈gs,x.cells.length<=1048576:=fun x a=>by
 have c:=(b.v.2.1 x a).1.1.1;omega
theorem LT.ne (b:LT gs st tx):gs.map grT≠ []:=fun e=>by
 have a:=kZ List.length e;have:=b.p;simp at a;rw [a]at this;simp at this
theorem LT.sm (a:LT gs st tx):smL (gs.map grT)+gs.length<=4194304:=by
 have b:=y9 a.ne;have c:=a.l;have d:=a.p;rw [a.t,xE]at b;omega
theorem LT.load (a:tx.length<=8192):LT ((lns tx).map plG) ((stL (lns tx)).take 1) tx:=
 ⟨LV_load a lR (by have:=jG tx;omega),by rw [zAy,zAx]⟩
theorem LT.ins (a:LT gs st tx) {off:Nat} (d:off<=tx.length) (f:0<ts.length) (c:tx.length+ts.length<=8192):∃b S,LjAns gs st off ts b S 0∧LT b S (tx.take off++(ts++tx.drop off)):=by
 have ht:=a.t;subst ht;obtain⟨b,S,g⟩:=LjIns.ex gs off ts a.p;refine⟨b,S,.inl ⟨a.v,⟨by omega,by omega⟩,c,fun e=>by rw [e]at f;simp at f,by rw [vg];exact g,rfl⟩,?_⟩;obtain⟨k,x,h,i,rfl,rfl⟩:=g;exact⟨zE7 i a.v.2.1 h d c,(JT i a.v.2.1 h d c).2⟩
end
section
variable {gs:List Gr} {st tx ts:List Int} {vr vt:Value} {lo hi:Nat} {W:World}
theorem llK {base g c:Nat} (b:own32 W base (.slice (qK g 0) tx.length c) tx) (a:tx.length<=8192) (f:W.cell? ⟨0,0,none⟩=some (.iface 184 (.agg #[.pointer (qK 1 67)]))):
  Calls prog 7 #[.slice (qK g 0) tx.length c] W (ZF W ((lns tx).map plG) ((stL (lns tx)).take 1) 0):=by
 refine(implLl base tx g c W b (by omega) (yq b) f a).mono ?_;rintro e w' ⟨h,i,rfl,d,j⟩;rw [llG,llS,xd a,xd a]at d;rw [stL_oneR (Zt tx)];exact⟨h,i,by rw [llC,xd a],d,j⟩
theorem lvK (b:OwL W lo hi vr vt gs st) (c:hi<=W.heap.size) (a:LT gs st tx):
  Calls prog 16 #[.agg #[vr,vt]] W fun e w'=>e= .returned (.bool true)∧Below W.heap.size W w':=
 validC gs st vr vt lo hi true W ⟨fun _=>a.v,fun _=>rfl⟩ b c (by have:=a.n;omega) (by have:=a.s;omega) a.c (fun _=>a.sm)
theorem ltK (f:OwL W lo hi vr vt gs st) (g:hi<=W.heap.size) (a:LT gs st tx):
  Calls prog 18 #[.agg #[vr,vt]] W fun e w'=>∃c,e= .returned c∧own32 w' W.heap.size c tx∧Below W.heap.size W w':=by
 have b:=Kt gs st vr vt lo hi W f g a.n a.p (fun x d=>(a.v.2.1 x d).1) a.sm;rw [a.t]at b;exact b
theorem ljK {off:Int} {a:List Gr} {S:List Int} {base g c:Nat} (f:LjAns gs st off ts a S 0) (h:OwL W lo hi vr vt gs st) (i:hi<=W.heap.size) (b:LT gs st tx) (d:own32 W base (.slice (qK g 0) ts.length c) ts) (j:ts.length<=1048576) (k:ts≠ []) (l:W.cell? ⟨0,0,none⟩=some (.iface 184 (.agg #[.pointer (qK 1 67)]))):
  Calls prog 12 #[.agg #[vr,vt],qJ off,.slice (qK g 0) ts.length c] W (ZF W a S 0):=
 implLj gs st off ts _ vr vt lo hi W a S 0 f h i b.c (by have:=b.n;omega) (by have:=b.s;omega) (Sl.qd d) (fun m n o e=>by simp only [xB]at e;obtain⟨_,rfl,rfl⟩:=e;exact yq d) j l rfl k
end
def LQ (b:World) (B:Nat) (c:Option Addr) (n d:Nat) (e:Option Addr) (s cs:Nat) (tx:List Int):Prop:=
 ∃ (gs:List Gr) (a:List Int) (lo hi:Nat),OwL b lo hi (.slice c n d) (.slice e s cs) gs a∧B<=lo∧hi<=b.heap.size∧LT gs a tx
section
variable {W W':World} {B n cr s cs:Nat} {ar as_:Option Addr} {tx ts:List Int}
theorem LQ.below (c:LQ W B ar n cr as_ s cs tx) (a:Below W.heap.size W W'):LQ W' B ar n cr as_ s cs tx:=by
 obtain⟨gs,d,lo,hi,e,f,b,g⟩:=c;exact⟨gs,d,lo,hi,e.below a b,f,vK b a.size,g⟩
theorem LQ.base {B':Nat} (a:LQ W B ar n cr as_ s cs tx) (f:B'<=B):LQ W B' ar n cr as_ s cs tx:=by
 obtain⟨gs,b,lo,hi,c,g,d,e⟩:=a;exact⟨gs,b,lo,hi,c,by omega,d,e⟩
theorem LQ.of {w':World} {e:Ending} {f:List Gr} {S:List Int} (j:ZF W f S 0 e w') (k:LT f S tx):∃a g b c h d,e= .returned (.tuple #[.agg #[.slice a g b,.slice c h d],qJ 0])∧LQ w' W.heap.size a g b c h d tx∧Below W.heap.size W w':=by
 obtain⟨m,n,rfl,i,l⟩:=j;obtain⟨a,b,c,d,rfl,rfl⟩:=i.val;exact⟨a,_,b,c,_,d,rfl,⟨f,S,_,_,i,lR,lR,k⟩,l⟩
theorem lqL {l g c:Nat} (m:own32 W l (.slice (qK g 0) tx.length c) tx) (j:tx.length<=8192) (n:W.cell? ⟨0,0,none⟩=some (.iface 184 (.agg #[.pointer (qK 1 67)]))):
  Calls prog 7 #[.slice (qK g 0) tx.length c] W fun e w'=>∃a b d f h i,e= .returned (.tuple #[.agg #[.slice a b d,.slice f h i],qJ 0])∧LQ w' W.heap.size a b d f h i tx∧Below W.heap.size W w':=
 (llK m j n).mono fun e w' k=>LQ.of k (LT.load j)
theorem lqV (a:LQ W B ar n cr as_ s cs tx):Calls prog 16 #[.agg #[.slice ar n cr,.slice as_ s cs]] W fun e w'=>e= .returned (.bool true)∧Below W.heap.size W w':=by
 obtain⟨gs,f,lo,hi,b,g,c,d⟩:=a;exact lvK b c d
theorem lqT (b:LQ W B ar n cr as_ s cs tx):Calls prog 18 #[.agg #[.slice ar n cr,.slice as_ s cs]] W fun e w'=>∃a,e= .returned a∧own32 w' W.heap.size a tx∧Below W.heap.size W w':=by
 obtain⟨gs,g,lo,hi,c,h,d,f⟩:=b;exact ltK c d f
theorem lqI {a off j k o:Nat} (p:LQ W B ar n cr as_ s cs tx) (ht:own32 W o (.slice (qK j 0) a k) ts) (q:ts.length=a) (b:0<a) (r:off<=tx.length) (t:tx.length+a<=8192) (u:W.cell? ⟨0,0,none⟩=some (.iface 184 (.agg #[.pointer (qK 1 67)]))):
  Calls prog 12 #[.agg #[.slice ar n cr,.slice as_ s cs],qJ off,.slice (qK j 0) a k] W fun e w'=>∃c d f g h i,e= .returned (.tuple #[.agg #[.slice c d f,.slice g h i],qJ 0])∧LQ w' W.heap.size c d f g h i (tx.take off++(ts++tx.drop off))∧Below W.heap.size W w':=by
 obtain⟨gs,z,lo,hi,v,A,w,l⟩:=p;subst q;obtain⟨C,S,x,y⟩:=l.ins (ts:=ts) r b t;exact(ljK x v w l ht (by omega) (fun e=>by rw [e]at b;simp at b) u).mono fun e w' m=>LQ.of m y
end
structure LX (a:World) (B X:Nat) (c:Option Addr) (n d:Nat) (e:Option Addr) (s cs:Nat) (tx:List Int):Prop where
 k:D2 a X (.slice c n d) (.slice e s cs) 36
 v:LQ a B c n d e s cs tx
 b:B<=X
section
variable {W W':World} {B X n cr s cs:Nat} {ar as_:Option Addr} {tx:List Int} {x y:Value}
theorem LX.below (a:LX W B X ar n cr as_ s cs tx) (b:Below W.heap.size W W'):LX W' B X ar n cr as_ s cs tx:=⟨a.k.below b a.k.lt,a.v.below b,a.b⟩
theorem LX.new {B':Nat} (a:LQ W B' ar n cr as_ s cs tx) (b:B<=B') (c:B<=W.heap.size):LX (W.alloc (.cells #[.slice ar n cr,.slice as_ s cs] 36)) B W.heap.size ar n cr as_ s cs tx:=
 ⟨D2.new _ _ _ _,(a.base b).below ((qO W.heap.size W).alloc lR _),c⟩
theorem LX.set {B':Nat} (a:D2 W X x y 36) (b:LQ W B' ar n cr as_ s cs tx) (j:B<=B') (c:B<=X) (k:X<B'):LX ((W.setCell ⟨X,0,none⟩ (.slice ar n cr)).setCell ⟨X,1,none⟩ (.slice as_ s cs)) B X ar n cr as_ s cs tx:=by
 obtain⟨gs,d,lo,hi,e,l,f,g⟩:=b;exact⟨a.set2E _ _,⟨gs,d,lo,hi,e.frame (fun q h i=>zCg q (by omega)),by omega,by simpa using f,g⟩,c⟩
end
section
variable {gs:List Gr} {st tx ts:List Int}
theorem LT.del (c:LT gs st tx) {a b:Nat} (e:a<=b) (g:b<=tx.length):∃d S,LdAns gs st a b d S 0∧LT d S (tx.take a++tx.drop b):=by
 have f:=c.l;have ht:=c.t;subst ht;rcases Nat.lt_or_eq_of_le e with n | rfl
 ·obtain⟨d,S,h⟩:=LdRem.ex gs a b c.p
  refine⟨d,S,.inl ⟨c.v,⟨by omega,by omega,by omega⟩,by omega,by rw [vg,vg];exact h,rfl⟩,?_⟩;obtain⟨k,k2,x,y,i,j,l,m,rfl,rfl⟩:=h;exact⟨zE8 l m c.v.2.1 i j e g f,(JU l m c.v.2.1 i j e g f).2⟩
 exact⟨gs,st,.inr (.inl ⟨c.v,⟨by omega,by omega,by omega⟩,rfl,rfl,rfl,rfl⟩),c.v,(xw _ _).symm⟩
end
section
variable {gs:List Gr} {st tx ts:List Int} {vr vt:Value} {lo hi:Nat} {W:World}
theorem ldrK {a b:Int} {c:List Gr} {S:List Int} (e:LdAns gs st a b c S 0) (f:OwL W lo hi vr vt gs st) (g:hi<=W.heap.size) (d:LT gs st tx) (h:W.cell? ⟨0,0,none⟩=some (.iface 184 (.agg #[.pointer (qK 1 67)]))):
  Calls prog 14 #[.agg #[vr,vt],qJ a,qJ b] W (ZF W c S 0):=
 implLdr gs st a b vr vt lo hi W c S 0 e f g d.c (by have:=d.n;omega) (by have:=d.s;omega) h rfl
end
section
variable {W W':World} {B n cr s cs:Nat} {ar as_:Option Addr} {tx:List Int}
theorem lqD {i j:Nat} (l:LQ W B ar n cr as_ s cs tx) (m:i<=j) (o:j<=tx.length) (p:W.cell? ⟨0,0,none⟩=some (.iface 184 (.agg #[.pointer (qK 1 67)]))):
  Calls prog 14 #[.agg #[.slice ar n cr,.slice as_ s cs],qJ i,qJ j] W fun e w'=>∃a b c d f g,e= .returned (.tuple #[.agg #[.slice a b c,.slice d f g],qJ 0])∧LQ w' W.heap.size a b c d f g (tx.take i++tx.drop j)∧Below W.heap.size W w':=by
 obtain⟨gs,v,lo,hi,q,w,r,h⟩:=l;obtain⟨x,S,t,u⟩:=h.del m o;exact(ldrK t q r h p).mono fun e w' k=>LQ.of k u
end
structure Sd (b D:Nat) (w w':World):Prop where
 b:Below b w w'
 k:∀q,D<=q->q<w.heap.size->w'.heap[q]? =w.heap[q]?
class St (b D:Nat) (p:World->Prop):Prop where
 mv:∀w w',p w->Sd b D w w'->p w'
def An (p q:World->Prop) (w:World):Prop:=p w∧q w
section
variable {b D X p g n c m:Nat} {w w' w0:World} {tx zs bs:List Int} {vb:Value}
theorem Sd.of (a:Below w.heap.size w w') (d:b<=w.heap.size):Sd b D w w':=⟨a.mono d,fun q _ c=>a.block q c⟩
theorem Sd.chg (a:Chg [p] w w') (d:b<=p) (g:p<D) (e:b<=w.heap.size):Sd b D w w':=⟨a.below e (by simp;exact d),fun q f c=>a.block q c (by simp;omega)⟩
theorem mv {q:World->Prop} [hq:St b D q] (s:Sd b D w w') (a:q w):q w':=hq.mv w w' a s
instance {q r:World->Prop} [St b D q] [St b D r]:St b D (An q r):=⟨fun w w' a s=>⟨mv s a.1,mv s a.2⟩⟩
def Ro (D g n c:Nat) (zs:List Int) (w:World):Prop:=own32 w D (.slice (qK g 0) n c) zs∧zs.length=n
def Px (D X:Nat) (tx:List Int) (m:Nat) (w:World):Prop:=∃g b c a d k,PX w D X g b c a d k tx m
def Lx (D X:Nat) (tx:List Int) (w:World):Prop:=∃a n b c s cs,LX w D X a n b c s cs tx
def Bw (a:World) (D:Nat) (w:World):Prop:=Below a.heap.size a w∧D<=w.heap.size
theorem KV {e size:Nat} {v:Value} {xs:List Value} (s:Sd b D w w') (a:w.ownsRow D e size v n xs):w'.ownsRow D e size v n xs:=zA a (fun q c=>s.k q (a.lt q c).1 (a.lt q c).2)
instance:St b D (Ro D g n c zs):=⟨fun w w' a s=>⟨KV s a.1,a.2⟩⟩
instance:St b D (Px D X tx m):=⟨fun w w' f s=>by
 obtain⟨g,h,c,a,i,k,⟨d,⟨zs,T,j,l,n,o,p⟩,e⟩⟩:=f
 exact⟨g,h,c,a,i,k,⟨(s.k X e d.lt).trans d,⟨zs,T,j,l,KV s n,KV s o,p⟩,e⟩⟩⟩
instance:St b D (Lx D X tx):=⟨fun w w' d s=>by
 obtain⟨e,n,f,g,h,cs,⟨a,⟨gs,i,lo,hi,j,k,l,m⟩,c⟩⟩:=d
 exact⟨e,n,f,g,h,cs,⟨(s.k X c a.lt).trans a,⟨gs,i,lo,hi,j.frame (fun q o p=>s.k q (by omega) (by omega)),k,vK l s.b.size,m⟩,c⟩⟩⟩
instance:St w0.heap.size D (Bw w0 D):=⟨fun w w' a s=>⟨a.1.trans s.b,vK a.2 s.b.size⟩⟩
theorem Px.up {b:Nat} (d:Px b X tx m w) (e:D<=b):Px D X tx m w:=by
 obtain⟨g,f,c,a,h,k,⟨i,j,l⟩⟩:=d;exact⟨g,f,c,a,h,k,⟨i,j.base e,by omega⟩⟩
theorem Lx.up {a:Nat} (b:Lx a X tx w) (c:D<=a):Lx D X tx w:=by
 obtain⟨d,n,e,f,g,cs,⟨h,i,j⟩⟩:=b;exact⟨d,n,e,f,g,cs,⟨h,i.base c,by omega⟩⟩
theorem Ro.of {v:Value} {k:Nat} (a:own32 w k v zs) (b:v= .slice (qK g 0) n c) (d:zs.length=n) (e:D<=k):Ro D g n c zs w:=by
 subst b;exact⟨zD a e,d⟩
theorem Ro.cap (a:Ro D g n c zs w):n<=c∧c<=maxLen:=own_capK a.2 a.1
def P5 (D b:Nat) (w:World):Prop:=D<=b∧b<w.heap.size∧∀j,j<5->∃g d c a e k tx m,w.cell? ⟨b,j*2,none⟩=some (.slice (qK g 0) d c)∧w.cell? ⟨b,j*2+1,none⟩=some (.slice a e k)∧PV w D g d c a e k tx m
def L5 (D a:Nat) (w:World):Prop:=D<=a∧a<w.heap.size∧∀j,j<5->∃b n c d s cs tx,w.cell? ⟨a,j*2,none⟩=some (.slice b n c)∧w.cell? ⟨a,j*2+1,none⟩=some (.slice d s cs)∧LQ w D b n c d s cs tx
theorem Xd {a:Addr} (s:Sd b D w w') (c:D<=a.block) (d:a.block<w.heap.size):w'.cell? a=w.cell? a:=by simp only [World.cell?,s.k _ c d]
theorem pv_sd {B g d c e k m:Nat} {a:Option Addr} (s:Sd b D w w') (f:PV w D g d c a e k tx m):PV w' D g d c a e k tx m:=by
 obtain⟨zs,T,h,i,j,l,n⟩:=f;exact⟨zs,T,h,i,KV s j,KV s l,n⟩
theorem lq_sd {n a c cs:Nat} {d e:Option Addr} (s:Sd b D w w') (f:LQ w D d n a e c cs tx):LQ w' D d n a e c cs tx:=by
 obtain⟨gs,g,lo,hi,h,i,j,k⟩:=f;exact⟨gs,g,lo,hi,h.frame (fun q l m=>s.k q (by omega) (by omega)),i,vK j s.b.size,k⟩
instance {f:Nat}:St b D (P5 D f):=⟨fun w w' d s=>⟨d.1,xq d.2.1 s.b.size,fun j e=>by
 obtain⟨g,h,c,a,i,k,tx,m,l,n,o⟩:=d.2.2 j e
 exact⟨g,h,c,a,i,k,tx,m,(Xd s d.1 d.2.1).trans l,(Xd s d.1 d.2.1).trans n,pv_sd (B:=0) s o⟩⟩⟩
instance {d:Nat}:St b D (L5 D d):=⟨fun w w' a s=>⟨a.1,xq a.2.1 s.b.size,fun j c=>by
 obtain⟨e,n,f,g,h,cs,tx,i,k,l⟩:=a.2.2 j c
 exact⟨e,n,f,g,h,cs,tx,(Xd s a.1 a.2.1).trans i,(Xd s a.1 a.2.1).trans k,lq_sd s l⟩⟩⟩
theorem P5.new {c d e f g h i k l m n o p q k2 r s t u v x y z A B:Nat} {J K L M N:Nat} {C E F G H:Option Addr} {O P Q R S:List Int} (T:D<=w.heap.size) (U:PV w D c d e C f g O J) (V:PV w D h i k E l m P K) (W:PV w D n o p F q k2 Q L) (X:PV w D r s t G u v R M) (Y:PV w D x y z H A B S N):P5 D w.heap.size (w.alloc (.cells #[.slice (qK c 0) d e,.slice C f g,.slice (qK h 0) i k,.slice E l m,.slice (qK n 0) o p,.slice F q k2,.slice (qK r 0) s t,.slice G u v,.slice (qK x 0) y z,.slice H A B] 30)):=by
 have a:=xg w (.cells #[.slice (qK c 0) d e,.slice C f g,.slice (qK h 0) i k,.slice E l m,.slice (qK n 0) o p,.slice F q k2,.slice (qK r 0) s t,.slice G u v,.slice (qK x 0) y z,.slice H A B] 30);have b:=(qO w.heap.size w).alloc lR (.cells #[.slice (qK c 0) d e,.slice C f g,.slice (qK h 0) i k,.slice E l m,.slice (qK n 0) o p,.slice F q k2,.slice (qK r 0) s t,.slice G u v,.slice (qK x 0) y z,.slice H A B] 30);refine⟨T,by simp,fun j I=>?_⟩
 match j,I with
 | 0,_=>exact⟨_,_,_,_,_,_,_,_,(qP _ _ 0 _ _ _ a).trans rfl,(qP _ _ 1 _ _ _ a).trans rfl,U.below b⟩
 | 1,_=>exact⟨_,_,_,_,_,_,_,_,(qP _ _ 2 _ _ _ a).trans rfl,(qP _ _ 3 _ _ _ a).trans rfl,V.below b⟩
 | 2,_=>exact⟨_,_,_,_,_,_,_,_,(qP _ _ 4 _ _ _ a).trans rfl,(qP _ _ 5 _ _ _ a).trans rfl,W.below b⟩
 | 3,_=>exact⟨_,_,_,_,_,_,_,_,(qP _ _ 6 _ _ _ a).trans rfl,(qP _ _ 7 _ _ _ a).trans rfl,X.below b⟩
 | 4,_=>exact⟨_,_,_,_,_,_,_,_,(qP _ _ 8 _ _ _ a).trans rfl,(qP _ _ 9 _ _ _ a).trans rfl,Y.below b⟩
theorem L5.new {c d e f g h i k l m n k2 o p q r s t u v:Nat} {x y z A B C E F G H:Option Addr} {J K L M N:List Int} (O:D<=w.heap.size) (P:LQ w D x c d y e f J) (Q:LQ w D z g h A i k K) (R:LQ w D B l m C n k2 L) (S:LQ w D E o p F q r M) (T:LQ w D G s t H u v N):L5 D w.heap.size (w.alloc (.cells #[.slice x c d,.slice y e f,.slice z g h,.slice A i k,.slice B l m,.slice C n k2,.slice E o p,.slice F q r,.slice G s t,.slice H u v] 36)):=by
 have a:=xg w (.cells #[.slice x c d,.slice y e f,.slice z g h,.slice A i k,.slice B l m,.slice C n k2,.slice E o p,.slice F q r,.slice G s t,.slice H u v] 36);have b:=(qO w.heap.size w).alloc lR (.cells #[.slice x c d,.slice y e f,.slice z g h,.slice A i k,.slice B l m,.slice C n k2,.slice E o p,.slice F q r,.slice G s t,.slice H u v] 36);refine⟨O,by simp,fun j I=>?_⟩
 match j,I with
 | 0,_=>exact⟨_,_,_,_,_,_,_,(qP _ _ 0 _ _ _ a).trans rfl,(qP _ _ 1 _ _ _ a).trans rfl,P.below b⟩
 | 1,_=>exact⟨_,_,_,_,_,_,_,(qP _ _ 2 _ _ _ a).trans rfl,(qP _ _ 3 _ _ _ a).trans rfl,Q.below b⟩
 | 2,_=>exact⟨_,_,_,_,_,_,_,(qP _ _ 4 _ _ _ a).trans rfl,(qP _ _ 5 _ _ _ a).trans rfl,R.below b⟩
 | 3,_=>exact⟨_,_,_,_,_,_,_,(qP _ _ 6 _ _ _ a).trans rfl,(qP _ _ 7 _ _ _ a).trans rfl,S.below b⟩
 | 4,_=>exact⟨_,_,_,_,_,_,_,(qP _ _ 8 _ _ _ a).trans rfl,(qP _ _ 9 _ _ _ a).trans rfl,T.below b⟩
theorem Ro.cut {b:Addr} {k:Nat} (a:Ro D g n c zs w) (j:k<=n) (d:b=if c=k then⟨g,0,none⟩else⟨g,k,none⟩):Rd .i32 w (.slice (some b) (n - k) (c - k)) (zs.drop k):=by
 by_cases h:n - k=0
 ·exact .inl ⟨some b,c - k,by rw [h],vE (by rw [a.2];omega)⟩
 have l:=a.cap;rw [qZ (by omega)]at d;subst d;have e:(zs.drop k).length=n - k:=by rw [qR,a.2]
 refine .inr ⟨g,k,c - k,by rw [e],⟨by omega,by omega,by omega⟩,fun i hi=>?_⟩;have f:=Jh a.2 a.1 k j i (.int .i32 ((zs.drop k).getD i 0)) (by rw [ints,xU,qY hi,kV,q9,qY hi];rfl);rw [<- f];unfold Addr.add;split<;>simp_all
theorem An.add {a r q:World->Prop} (b:An a r w) (x:q w):An a (An q r) w:=⟨b.1,x,b.2⟩
theorem goS {r:World->Prop} {x y:World} [St w.heap.size D r] (a:Hid (An (Bw w D) r x)) (b:Below x.heap.size x y):Hid (An (Bw w D) r y):=qG (mv (show Sd w.heap.size D x y from Sd.of b a.1.1.size) a)
theorem goD {r:World->Prop} {x y:World} [St w.heap.size D r] (a:Hid (An (Bw w D) r x)) (b:Chg [p] x y) (c:w.heap.size<=p) (d:p<D):Hid (An (Bw w D) r y):=qG (mv (show Sd w.heap.size D x y from Sd.chg b c d a.1.1.size) a)
theorem goN {r q:World->Prop} (a:Hid (An (Bw w0 D) r w)) (b:q w):Hid (An (Bw w0 D) (An q r) w):=qG (An.add a b)
theorem goA {r:World->Prop} {x y:World} (a:Hid (SrcB bs vb p x)) (b:Hid (An (Bw w D) r x)) (c:p<D) (d:Below x.heap.size x y):Hid (SrcB bs vb p y):=qG (a.below d (xq c b.1.2) lR)
theorem pxI {b:World} {B g l c o k m n off p q r:Nat} {a:Option Addr} {tx ts wt:List Int} (s:PV b B g l c a o k tx m) (ht:own32 b r (.slice (qK p 0) n q) ts) (t:ts.length=n) (u:0<n) (v:off<=tx.length) (w:tx.length+n<=8192) (x:m+n<=220000) (y:wt=tx.take off++(ts++tx.drop off)) (z:b.cell? ⟨0,0,none⟩=some (.iface 184 (.agg #[.pointer (qK 1 67)]))):
  Calls prog 11 #[.agg #[.slice (qK g 0) l c,.slice a o k],qJ off,.slice (qK p 0) n q] b fun e w'=>∃g' d f h i j,e= .returned (.tuple #[.agg #[.slice (qK g' 0) d f,.slice h i j],qJ 0])∧PV w' b.heap.size g' d f h i j wt (m+n)∧Below b.heap.size b w':=by
 subst y;exact pvI s ht t u v w x z
theorem lxI {a:World} {B n j s cs b off k l p:Nat} {m o:Option Addr} {tx ts wt:List Int} (q:LQ a B m n j o s cs tx) (ht:own32 a p (.slice (qK k 0) b l) ts) (r:ts.length=b) (t:0<b) (u:off<=tx.length) (v:tx.length+b<=8192) (w:wt=tx.take off++(ts++tx.drop off)) (x:a.cell? ⟨0,0,none⟩=some (.iface 184 (.agg #[.pointer (qK 1 67)]))):
  Calls prog 12 #[.agg #[.slice m n j,.slice o s cs],qJ off,.slice (qK k 0) b l] a fun e w'=>∃c d f g h i,e= .returned (.tuple #[.agg #[.slice c d f,.slice g h i],qJ 0])∧LQ w' a.heap.size c d f g h i wt∧Below a.heap.size a w':=by
 subst w;exact lqI q ht r t u v x
end
def begB (k:Nat):Code->Bool
 | .region b _ _=>b==k
 | .seq a _=>begB k a
 | .loop c=>begB k c
 | .block _ c=>begB k c
 | .scope c=>begB k c
 | _=>false
def sufO (k:Nat):Code->Option Code
 | .seq a b=>if begB k a then some (.seq a b)else sufO k b
 | .block _ c=>sufO k c
 | .scope c=>sufO k c
 | c=>if begB k c then some c else none
noncomputable def sufB (k:Nat):Code:=(Tryz.f3.body.bind (sufO k)).getD .skip
end Go.Proofs.YtmjanhcplcalfaaGreatDoor
