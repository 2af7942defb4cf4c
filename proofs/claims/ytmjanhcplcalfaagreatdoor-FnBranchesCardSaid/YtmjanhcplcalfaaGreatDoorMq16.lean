import Derived.Test.YtmjanhcplcalfaaGreatDoorMq07
import Derived.Test.YtmjanhcplcalfaaGreatDoorMq15
set_option linter.all false
set_option maxRecDepth 100000
set_option maxHeartbeats 8000000
namespace Go.Proofs.YtmjanhcplcalfaaGreatDoor
open Go Go.RowKit Go.Proofs.Tryz
theorem Xo {w:World} {base b n:Nat} {e d:TypeId} {size:Nat} {v:Value} {xs:List Value} {cs:Array Value} {h:Nat×Nat} (i:w.ownsRow base e size v n xs) (c:w.heap[b]? =some (.cells cs d h)) (j:e≠d):∀q,v.ownBlock=some q->q≠b:=by
 intro q a f;subst f;rcases i.2 with ⟨rfl,_⟩ | ⟨g,cap,l,rfl,_,k,_⟩
 ·simp [Value.ownBlock]at a
 simp only [Value.ownBlock,xz]at a;subst a;rw [k]at c;simp only [xz]at c
 injection c with _ h2 _
 exact j h2
theorem SrcB.blk {bs:List Int} {b:Value} {p:Nat} {w:World} (c:SrcB bs b p w):∃cs a,w.heap[p]? =some (.cells cs 91 a):=by
 obtain⟨⟨i,x,_,_,_,d⟩,_⟩:=c.1;exact⟨_,_,d⟩
theorem Yy {bs:List Int} {c:Value} {p:Nat} {w w':World} {base n:Nat} {e:TypeId} {size:Nat} {v:Value} {xs:List Value} (a:w.ownsRow base e size v n xs) (d:SrcB bs c p w) (f:Chg [p] w w') (g:e≠91):w'.ownsRow base e size v n xs:=by
 obtain⟨cs,i,h⟩:=d.blk;exact zA a fun q b=>f.block q (a.lt q b).2 (by simpa using Xo a h g q b)
theorem zG3 (x:Option Addr) (w:World):Calls prog 25 #[.pointer x,qJ 0] w fun e w'=>e= .returned (.slice (qK w.heap.size 0) 0 0)∧w'=w.alloc (.cells #[] 21):=by
 go_enter func25,ntmps25;go_wp2;go_loopw [5,6] (fun a i wr=>a= .slice (qK w.heap.size 0) 0 0∧i=qJ 0∧wr=w.alloc (.cells #[] 21)) (fun _ i _=>0)
 case atStart=>exact⟨rfl,rfl,rfl⟩
 obtain⟨rfl,rfl,rfl⟩:=hrel;go_wp2;go_ret;exact⟨rfl,rfl⟩
theorem jc (bs:List Int) (b:Value) (p:Nat) (n:Nat) (w:World) (a:SrcB bs b p w) (l:n<=1048576):
  Calls prog 25 #[.pointer (qK p 0),qJ n] w fun e w'=>∃g c zs,e= .returned (.slice (qK g 0) n c)∧zs.length=n∧own32 w' w.heap.size (.slice (qK g 0) n c) zs∧SrcB bs b p w'∧Chg [p] w w':=by
 rcases vZ n with i | i
 ·subst i
  refine(zG3 _ w).mono ?_;rintro e w' ⟨rfl,rfl⟩;have f:=(qO w.heap.size w).alloc lR (.cells #[] 21);exact⟨_,_,[],rfl,rfl,ZH w,a.below f a.1.lt lR,Chg.qa f⟩
 refine(Kh bs b p n w a.1 l).mono ?_;rintro e w' ⟨v,zs,rfl,j,d⟩;have h:own32 w' w.heap.size v zs:=d.own
 obtain⟨g,c,rfl⟩:∃g c,v= .slice (qK g 0) n c:=by
  rcases h.2 with ⟨_,m⟩ | ⟨g,c,o,k,_⟩
  ·omega
  rw [j]at k;exact⟨g,c,k⟩
 exact⟨g,c,zs,rfl,j,h,⟨d.src,a.2⟩,Chg.qB d.grown⟩
structure PBS (bs:List Int) (e:Value) (p bb:Nat) (w:World) (zs:List Int) (T:AT) (b d:Value) (a:World):Prop where
 kb:a.heap[bb]? =some (.cells #[b,d] 30 (0,0))
 kr:a.heap[w.heap.size]? =some (.cells #[.slice none 0 0,.slice none 0 0] 30 (0,0))
 o:own32 a (w.heap.size+1) b zs
 i:OwI a (w.heap.size+1) d (T.told 0)
 s:SrcB bs e p a
 c:Chg [p] w a
 l1:p<w.heap.size
 l2:w.heap.size<bb
section
variable {bs:List Int} {vb:Value} {p bb:Nat} {w W W':World} {zs:List Int} {T:AT} {vs vi:Value}
theorem PBS.lt (a:PBS bs vb p bb w zs T vs vi W):bb<W.heap.size:=(xO.1 a.kb).1
theorem PBS.draw (a:PBS bs vb p bb w zs T vs vi W) (f:SrcB bs vb p W') (b:Chg [p] W W'):PBS bs vb p bb w zs T vs vi W':=
 have c:=a.lt;have d:=a.l1;have e:=a.l2
 ⟨(b.block bb c (by simp;omega)).trans a.kb,(b.block w.heap.size (by omega) (by simp;omega)).trans a.kr,Yy a.o a.s b (by decide),Yy a.i a.s b (by decide),f,a.c.trans b (fun _ a _=>a) (fun _ a _=>a),d,e⟩
theorem PBS.below (a:PBS bs vb p bb w zs T vs vi W) (b:Below W.heap.size W W'):PBS bs vb p bb w zs T vs vi W':=
 have c:=a.lt;have d:=a.l1;have e:=a.l2;have f:=a.c.size
 ⟨(b.block bb c).trans a.kb,(b.block w.heap.size (by omega)).trans a.kr,zB a.o b lR,OwI.below a.i b lR,a.s.below b (by omega) lR,a.c.qA b (by omega),d,e⟩
theorem PBS.cells (a:PBS bs vb p bb w zs T vs vi W):W.cell? ⟨bb,0,none⟩=some vs∧W.cell? ⟨bb,1,none⟩=some vi∧W.frozen? ⟨bb,0,none⟩=false∧W.frozen? ⟨bb,1,none⟩=false:=by
 refine⟨?_,?_,xp W bb 0 _ _ a.kb,xp W bb 1 _ _ a.kb⟩
 ·rw [qP W _ 0 _ _ _ a.kb];rfl
 rw [qP W _ 1 _ _ _ a.kb];rfl
theorem PBS.store (a:PBS bs vb p bb w zs T vs vi W) {f:List Int} {g:AT} {c d:Value} {B:Nat} (n:bb<B) (h:own32 W B c f) (hi:OwI W B d (g.told 0)):PBS bs vb p bb w f g c d ((W.setCell ⟨bb,0,none⟩ c).setCell ⟨bb,1,none⟩ d):=by
 have l:=a.lt;have i:=a.l1;have j:=a.l2;have m:=a.c.size;have k:(W.setCell ⟨bb,0,none⟩ c).heap[bb]? =some (.cells #[c,vi] 30 (0,0)):=by rw [xD W bb 0 _ _ _ a.kb];rfl
 have e:∀q,q≠bb->((W.setCell ⟨bb,0,none⟩ c).setCell ⟨bb,1,none⟩ d).heap[q]? =W.heap[q]?:=fun q b=>by
  rw [xm _ ⟨bb,1,none⟩ _ _ b,xm _ ⟨bb,0,none⟩ _ _ b]
 refine⟨?_,(e _ (by omega)).trans a.kr,?_,?_,?_,?_,i,j⟩
 ·rw [xD _ bb 1 _ _ _ k];rfl
 ·exact zA (zD h (by omega)) (fun q b=>e q (by have:=(h.lt q b).1;omega))
 ·exact zA (zD hi (by omega)) (fun q b=>e q (by have:=(hi.lt q b).1;omega))
 ·exact(a.s.below (B:=bb) ((qO bb W).setCell (by simp) _) (by omega) (by omega)).below (B:=bb) ((qO bb _).setCell (by simp) _) (by omega) (by simp;omega)
 exact(a.c.setCell _ _ (.inr (by simp;omega))).setCell _ _ (.inr (by simp;omega))
end
theorem YM {zs ts:List Int} {T:AT} {off:Int} (a:T.ok) (e:T.bal) (b:T.wp zs) (f:0<=off) (g:off<=T.rns) (h:T.rns+ts.length<=8192) (i:zs.length+ts.length<=220000):
  (if ts.length=0 then T else insP (zs++ts) zs.length T off).ok∧(if ts.length=0 then T else insP (zs++ts) zs.length T off).bal∧(if ts.length=0 then T else insP (zs++ts) zs.length T off).wp (zs++ts)∧(if ts.length=0 then T else insP (zs++ts) zs.length T off).rns=T.rns+ts.length:=by
 by_cases d:ts.length=0
 ·rw [xd d]
  exact⟨a,e,b.app ts,by omega⟩
 rw [qZ d];have c:=Jt (ts:=ts) a b f g (by omega);exact⟨zA4 a (b.app ts) f g (by rw [qM];omega) (by rw [qM];omega) (by rw [qM];omega),zBd e,c.1,c.2.1⟩
theorem Kl {zs:List Int} {T:AT} {lo hi:Int} (b:T.ok) (c:T.bal) (d:T.wp zs) (e:zs.length<=220000) (f:0<=lo) (g:lo<=hi) (h:hi<=T.rns):
  (if lo=hi then T else delP zs T lo hi).ok∧(if lo=hi then T else delP zs T lo hi).bal∧(if lo=hi then T else delP zs T lo hi).wp zs∧(if lo=hi then T else delP zs T lo hi).rns<=T.rns:=by
 by_cases a:lo=hi
 ·rw [xd a];exact⟨b,c,d,kY _⟩
 rw [qZ a];exact zBp b c d e f g h
theorem drawPB (bs:List Int) (l:Value) (p n:Nat) (cy:Option Addr) (cc:Nat) (w:World) (cz:SrcB bs l p w) (dr:n<=1048576):
  Calls prog 5 #[.pointer (qK p 0),.slice cy n cc] w (PBPost bs l p 5080 400 w):=by
 have a5:=cz.1.lt;have cd:=qG ((qO w.heap.size w).alloc lR (.cells #[.slice none 0 0,.slice none 0 0] 30));have c8:=qG (show(w.alloc (.cells #[.slice none 0 0,.slice none 0 0] 30)).heap[w.heap.size]? =some (.cells #[.slice none 0 0,.slice none 0 0] 30 (0,0))from xg _ _);have e4:w.heap.size<(w.alloc (.cells #[.slice none 0 0,.slice none 0 0] 30)).heap.size:=by simp
 have c9:=qG (cz.below cd.out a5 lR);have da:=qG (Chg.qa (bs:=[p]) cd.out);have ce:=qG (fun w=>size1 n cy cc 200 w dr (by omega));have db:=qG (fun w=>tallH n cy cc w dr);clear cz;go_enter func5,ntmps5;go_wp2_with fail;generalize w.alloc (.cells #[.slice none 0 0,.slice none 0 0] 30)=el at *
 refine(Zo bs l p 2 el c9.out (by omega) (by omega)).mono ?_;rintro e w1 ⟨az,rfl,ds,b6⟩;have e5:=b6.size;have cf:=qG ((b6.block w.heap.size (by omega) (by simp;omega)).trans c8.out);have cg:=qG ds;have ch:=qG (da.out.trans b6 (fun _ a _=>a) (fun _ a _=>a));clear ds b6 da c9 cd c8;cases az with
 | true=>
  go_wp2_with fail;refine(ce.out _).mono ?_;rintro e wx ⟨r,rfl,ep,bi⟩;have bd:=bi.symm;subst bd;go_wp2_with fail;refine(db.out _).mono ?_;rintro e wx ⟨a,rfl,fh,bi⟩;have bd:=bi.symm;subst bd;go_wp2_with fail;refine(drawRaw bs l p r (a - 1) w1 cg.out ⟨by omega,by omega⟩ ⟨by omega,by omega⟩).mono ?_;rintro e ai ⟨E,L,zs,T,rfl,Q,R,ab,aj,ak,a8,dn,ap,S,am⟩;obtain⟨c1,c2,rfl⟩:=zi Q;obtain⟨ae,k2,rfl⟩:=zb R;have d0:=S.size;have be:=(S.block w.heap.size (by omega) (by simp;omega)).trans cf.out;have ci:ai.cell? ⟨w.heap.size,0,none⟩=some (.slice none 0 0):=(by rw [qP ai _ 0 _ _ _ be];rfl);have cj:ai.cell? ⟨w.heap.size,1,none⟩=some (.slice none 0 0):=(by rw [qP ai _ 1 _ _ _ be];rfl);have d1:=xp ai w.heap.size 0 _ _ be;have d2:=xp ai w.heap.size 1 _ _ be;have ck:=qG Q;have cl:=qG R;have V:=qG (And.intro ab (And.intro aj (And.intro ak (And.intro a8 dn))));have a6:=qG ap;have a7:=qG (ch.out.trans S (fun _ a _=>a) (fun _ a _=>a));have cm:=qG (fun q O=>(Q.lt q O).1);have cn:=qG (fun q O=>(R.lt q O).1);have d3:=qG am;clear Q R ab aj ak a8 dn ap S be am;go_wp2;refine xr (v:=.agg #[.slice c1 zs.length c2,.slice ae (T.told 0).length k2]) (by simp [results,results5,go_sem,ci,cj]) rfl ⟨_,_,zs,T,rfl,?_,?_,V.out.1,V.out.2.1,V.out.2.2.1,V.out.2.2.2.1,by have:=V.out.2.2.2.2;omega,?_,?_,d3.out⟩
  ·exact zA (zD ck.out (by omega)) (fun q O=>by have J:=cm.out q O;rw [xm _ ⟨w.heap.size,1,none⟩ _ _ (by show q≠w.heap.size;omega),xm _ ⟨w.heap.size,0,none⟩ _ _ (by show q≠w.heap.size;omega)])
  ·exact zA (zD cl.out (by omega)) (fun q O=>by have J:=cn.out q O;rw [xm _ ⟨w.heap.size,1,none⟩ _ _ (by show q≠w.heap.size;omega),xm _ ⟨w.heap.size,0,none⟩ _ _ (by show q≠w.heap.size;omega)])
  ·exact(a6.out.below (B:=w.heap.size) ((qO w.heap.size ai).setCell (by simp) _) a5 (by omega)).below (B:=w.heap.size) ((qO w.heap.size _).setCell (by simp) _) a5 (by simp;omega)
  exact(a7.out.setCell _ _ (.inr (by simp))).setCell _ _ (.inr (by simp))
 | false=>
  go_wp2_with fail;refine(ce.out _).mono ?_;rintro e wx ⟨r,rfl,ep,bi⟩;have bd:=bi.symm;subst bd;go_wp2_with fail;refine(yY bs l p r w1 cg.out (by omega) (by omega)).mono ?_;rintro e ai ⟨m,rfl,eq,ap,S⟩;obtain⟨er,rfl⟩:=xZ eq.1;have d0:=S.size;have dc:=qG ((S.block w.heap.size (by omega) (by simp;omega)).trans cf.out);have a6:=qG ap;have a7:=qG (ch.out.trans S (fun _ a _=>a) (fun _ a _=>a));clear ap S ch cg cf ce db;go_wp2_with fail;refine(jc bs l p er ai a6.out (by omega)).mono ?_;rintro e dt ⟨es,du,af,rfl,c3,dv,bj,a0⟩;have z3:=a0.size;have dd:=qG ((a0.block w.heap.size (by omega) (by simp;omega)).trans dc.out);have co:=qG bj;have de:=qG (a7.out.trans a0 (fun _ a _=>a) (fun _ a _=>a));have cp:=qG (specLoad ai.heap.size af es du dt (by rw [c3];exact dv) (by omega));rw [c3]at cp;have df:af.length<=199:=(by omega);have b0:=qG (ldT_all af (by omega));have dg:=qG df;clear bj a0 a7 a6 dc dv c3 df;go_wp2_with fail;refine cp.out.mono ?_;rintro e U ⟨E,L,rfl,c4,c5,b7,am⟩;obtain⟨c1,c2,ba⟩:=zi c4;obtain⟨ae,k2,bk⟩:=zb c5;have d4:=qG am;have e6:=b7.size;have d5:p<dt.heap.size:=co.out.1.lt;have cq:=qG (b7.alloc b7.size (.cells #[E,L] 30));have cr:=qG ((qO U.heap.size U).alloc lR (.cells #[E,L] 30));have dh:=qG (show own32 (U.alloc (.cells #[E,L] 30)) (w.heap.size+1) E af from zD (zB c4 cr.out lR) (by omega));have di:=qG (show OwI (U.alloc (.cells #[E,L] 30)) (w.heap.size+1) L ((ldT af).told 0)from zD (zB c5 cr.out lR) (by omega));have dj:=qG ((cq.out.block w.heap.size (by omega)).trans dd.out);have dk:=qG (show(U.alloc (.cells #[E,L] 30)).heap[U.heap.size]? =some (.cells #[E,L] 30 (0,0))from xg _ _);have b1:=qG (co.out.below cq.out d5 lR);have dl:=qG (de.out.qA cq.out (by omega));have d6:U.heap.size<(U.alloc (.cells #[E,L] 30)).heap.size:=(by simp);subst ba bk;clear c4 c5 b7 am cp de co dd cr;go_wp2_with fail;generalize ek:U.alloc (.cells #[.slice c1 af.length c2,.slice ae ((ldT af).told 0).length k2] 30)=em at *
  clear ek;have d7:w.heap.size<U.heap.size:=(by omega);have e7:p<U.heap.size:=(by omega);generalize U.heap.size=bb at *
  refine(yY bs l p 12 em b1.out (by omega) (by omega)).mono ?_;rintro e dw ⟨fi,rfl,et,dx,a1⟩;obtain⟨eu,rfl⟩:=xZ et.1;have e8:=a1.size;have d8:=qG ((a1.block w.heap.size (by omega) (by simp;omega)).trans dj.out);have d9:=qG ((a1.block bb d6 (by simp;omega)).trans dk.out);have ea:=qG dx;have eb:=qG (dl.out.trans a1 (fun _ a _=>a) (fun _ a _=>a));have ec:=qG (show own32 dw (w.heap.size+1) _ af from Yy dh.out b1.out a1 (by decide));have ed:=qG (show OwI dw (w.heap.size+1) _ ((ldT af).told 0)from Yy di.out b1.out a1 (by decide));clear dx a1 b1 dl dh di dj dk;go_wp2_with fail
  go_loopw [7] (fun en wr=>∃ (j:Nat) (zs:List Int) (T:AT) (E L:Value),en=qJ j∧j<=11∧(zs.length+11*j<=320∧T.rns+11*j<=320)∧(T.ok∧T.bal∧T.wp zs)∧wr.heap[bb]? =some (.cells #[E,L] 30 (0,0))∧wr.heap[w.heap.size]? =some (.cells #[.slice none 0 0,.slice none 0 0] 30 (0,0))∧own32 wr (w.heap.size+1) E zs∧OwI wr (w.heap.size+1) L (T.told 0)∧(∃g n c,E= .slice (qK g 0) n c)∧SrcB bs l p wr∧Chg [p] w wr)
   (fun k _=>(intOf k).toNat)
  case atStart=>exact⟨eu,af,ldT af,_,_,rfl,by omega,⟨by have:=dg.out;omega,by have J:=b0.out.2.2.2;have:=dg.out;omega⟩,⟨b0.out.1,b0.out.2.1,b0.out.2.2.1⟩,d9.out,d8.out,ec.out,ed.out,d4.out,ea.out,eb.out⟩
  obtain⟨j,zs,T,E,L,rfl,fj,b8,⟨ab,aj,ak⟩,bc,a2,Q,R,am,b9,bl⟩:=hrel;have e9:=bl.size;have fa:bb<wr.heap.size:=(xO.1 bc).1;obtain⟨ae,k2,bk⟩:=zb R
  obtain⟨gs,ba,fk,fl⟩:∃g,(∃c,E= .slice (qK g 0) zs.length c∧zs.length<=c∧c<=maxLen)∧w.heap.size+1<=g∧g<wr.heap.size:=by
   obtain⟨g,n,c,e⟩:=am;rcases Q.2 with ⟨al,_⟩ | ⟨g',ev,fm,al,ew,_,ex,ey,_⟩
   ·rw [e]at al;cases al
   exact⟨g',⟨ev,al,ex,ey⟩,ew,(Q.lt g' (by rw [al];rfl)).2⟩
  obtain⟨cs,ba,fn,fo⟩:=ba;have b2:=AT.told_length T 0;rw [b2]at bk;by_cases ff:0<j
  ·obtain⟨z,rfl⟩:∃z,j=z+1:=⟨j - 1,by omega⟩
   have ct:=qG (show PBS bs l p bb w zs T E L wr from⟨bc,a2,Q,R,b9,bl,a5,d7⟩);have dm:=ab.bd;have b3:=qG (zAh wr.heap.size L (T.told 0) wr (OwI.rd R) lR (by rw [b2];omega) (jF ab));rw [show total (T.told 0)=T.rns by rw [AT.rns_told]]at b3;have A:=qG (And.intro ab (And.intro aj ak));subst ba;subst bk;have b4:=qG (fun(a9:World) (lo hi:Int) (c0:0<=lo) (eo:lo<=hi) (al:hi<=T.rns) (ay:PBS bs l p bb w zs T (.slice (qK gs 0) zs.length cs) (.slice ae T.its k2) a9)=>delS zs T gs 0 cs _ ae k2 lo hi a9 (zc rfl ay.o) (ay.o.lt gs rfl).2 ay.i ab aj ak c0 eo al (by omega));have ao:=qG (fun(a9:World) (ts:List Int) (off:Int) (ad ah:Nat) (c0:0<=off) (al:off<=T.rns) (fg:ts.length<=11) (ht:own32 a9 bb (.slice (qK ad 0) ts.length ah) ts) (ay:PBS bs l p bb w zs T (.slice (qK gs 0) zs.length cs) (.slice ae T.its k2) a9)=>insS zs ts T gs 0 cs _ ae k2 ad 0 ah off a9 (zc rfl ay.o) (ay.o.lt gs rfl).2 (zc rfl ht) (ht.lt ad rfl).2 ay.i ab aj ak c0 al (by omega) (by omega));have ee:=dm.2.1;have ef:T.rns+11*((z:Int)+1)<=320:=(by have:=b8.2;omega);have fc:zs.length+11*(z+1)<=320:=b8.1;have cu:=ct.out.cells.2.1;clear Q R ab aj ak b8 b9 bl bc a2 am dm b2;obtain⟨C,a8⟩:∃C,T.rns=C:=⟨_,rfl⟩
   have y:=qG a8;rw [a8]at b3 ee ef;clear a8;have fd:(0:Int)<((z+1:Nat):Int):=(by omega);go_wp2_with fail;refine b3.out.mono ?_;rintro e ez ⟨rfl,dy⟩;have cv:=qG (ct.out.below dy);clear dy cu ct b3;go_wp2_with fail;refine(Zo bs l p 3 ez cv.out.s (by omega) (by omega)).mono ?_;rintro e bm ⟨a3,rfl,ap,S⟩;have au:=qG (cv.out.draw ap S);clear ap S cv;cases a3 with
   | true=>
    go_wp2_with fail;refine(yY bs l p (C+1) bm au.out.s (by omega) (by omega)).mono ?_;rintro e ca ⟨lo,rfl,cb,bj,a0⟩;have b5:=qG (au.out.draw bj a0);have eg:=b5.out.lt;clear bj a0 au;obtain⟨bn,bo,bp,bq⟩:=b5.out.cells;go_upto_region 10 with fail;have eh:IntKind.i64.wrap (C - lo)=C - lo:=i64w _ (by omega) (by omega);have fe:IntKind.i64.wrap (C - lo+1)=C - lo+1:=i64w _ (by omega) (by omega);refine(kD (n:=6)).1 ?_;refine wpIn_region_any (by kernel_rfl) ?_;refine wpAnyIn_take (i:=1) (fuel:=12) (v:=.int .i64 lo) rfl rfl (by kernel_rfl) (by kernel_rfl) (by kernel_rfl) (fun _ _ _ a=>a) ⟨Or.inl ⟨by rfl,?_⟩,fun w=>by rfl⟩ ?_
    ·intro w;go_simp
    refine wpAnyIn_take (i:=2) (fuel:=11) (v:=.int .i64 lo) rfl rfl (by kernel_rfl) (by kernel_rfl) (by kernel_rfl) (fun _ _ _ a=>a) ⟨Or.inl ⟨by rfl,?_⟩,fun w=>by rfl⟩ ?_
    ·intro w;go_simp
    refine wpAnyIn_take (i:=3) (fuel:=10) (v:=.pointer (qK p 0)) rfl rfl (by kernel_rfl) (by kernel_rfl) (by kernel_rfl) (fun _ _ _ a=>a) ⟨Or.inl ⟨by rfl,?_⟩,fun w=>by rfl⟩ ?_
    ·intro w;go_simp
    refine wpAnyIn_take (i:=4) (fuel:=9) (v:=.int .i64 C) rfl rfl (by kernel_rfl) (by kernel_rfl) (by kernel_rfl) (fun _ _ _ a=>a) ⟨Or.inl ⟨by rfl,?_⟩,fun w=>by rfl⟩ ?_
    ·intro w;go_simp
    refine wpAnyIn_take (i:=5) (fuel:=8) (v:=.int .i64 lo) rfl rfl (by kernel_rfl) (by kernel_rfl) (by kernel_rfl) (fun _ _ _ a=>a) ⟨Or.inl ⟨by rfl,?_⟩,fun w=>by rfl⟩ ?_
    ·intro w;go_simp
    refine wpAnyIn_take (i:=6) (fuel:=7) (v:=.int .i64 (C - lo)) rfl rfl (by kernel_rfl) (by kernel_rfl) (by kernel_rfl) (fun _ _ _ a=>a) ⟨Or.inl ⟨by rfl,?_⟩,fun w=>by rfl⟩ ?_
    ·intro w;go_simp
    refine wpAnyIn_take (i:=7) (fuel:=6) (v:=.int .i64 (C - lo+1)) rfl rfl (by kernel_rfl) (by kernel_rfl) (by kernel_rfl) (fun _ _ _ a=>a) ⟨Or.inl ⟨by rfl,?_⟩,fun w=>by rfl⟩ ?_
    ·intro w;go_simp
    have PX:=qG (show PBS bs l p bb w zs T (.slice (qK gs 0) zs.length cs) (.slice ae T.its k2) {ca with drawn:=ca.drawn+1} from b5.out.below ⟨rfl,rfl,rfl,lR,fun _ _=>rfl⟩);generalize ({ca with drawn:=ca.drawn+1}:World)=dp at *
    clear b5 bn bo bp bq eg;obtain⟨bn,bo,bp,bq⟩:=PX.out.cells;refine wpAnyIn_ready (rs:=[0,8]) (by kernel_rfl) (by simp) (AllReadyIn.cons rfl ?_ (AllReadyIn.cons rfl ?_ AllReadyIn.nil))
    ·intro ax N
     go_simp;refine N _ _ ?_;refine Zh (i1:=8) (i2:=9) (i3:=10) (i4:=11) (i5:=12) rfl rfl rfl rfl rfl (by kernel_rfl) ?_;gi_wp2_with fail;refine⟨xn,(xf.2 (yY bs l p (C - lo+1) dp PX.out.s (by omega) (by omega))).mono ?_⟩;rintro e aq ⟨x,rfl,c6,br,bt⟩;have D:=qG (PX.out.draw br bt);have bf:=qG (b4.out aq lo (lo+x/2) cb.1 (by omega) (by rw [y.out];omega) D.out);have P:=qG (Kl (lo:=lo) (hi:=lo+x/2) A.out.1 A.out.2.1 A.out.2.2 (by omega) cb.1 (by omega) (by rw [y.out];omega));have wc:IntKind.i64.wrap (lo+x/2)=lo+x/2:=i64w _ (by omega) (by omega);have wd:IntKind.i64.wrap (x/2)=x/2:=i64w _ (by omega) (by omega);have wt:IntKind.i64.wrap (x.tdiv 2)=x/2:=(by rw [Int.tdiv_eq_ediv_of_nonneg c6.1];exact wd);clear br bt;gi_wp2_with fail;refine⟨xn,(xf.2 bf.out).mono ?_⟩;rintro e ar ⟨bu,bv,rfl,t,h,F,G⟩;generalize (if lo=lo+x/2 then T else delP zs T lo (lo+x/2))=d at h P;have W:=qG (show d.rns+11*(z:Int)<=320 by have J:=P.out.2.2.2;rw [y.out]at J;omega);have X:=qG (show d.ok∧d.bal∧d.wp zs from⟨P.out.1,P.out.2.1,P.out.2.2.1⟩);obtain⟨az,bw,H⟩:=zi t;obtain⟨a3,bx,I⟩:=zb h;generalize zs.length=bg at H;generalize (d.told 0).length=bh at I;subst H I;clear wc wd wt bf P b4;have P5:=qG (D.out.below F);have cw:=D.out.lt;have b:=qG (P5.out.store cw t h);have Y:=qG G;obtain⟨u0,u1,u2,u3⟩:=P5.out.cells;clear t h F G;gi_wp2_with fail;go_wp2_with fail;go_roundw
     case rel=>exact⟨z,zs,d,_,_,by first | rfl | go_num | (congr 1;omega),by omega,⟨by omega,W.out⟩,X.out,b.out.kb,b.out.kr,b.out.o,b.out.i,Y.out,b.out.s,b.out.c⟩
     (simp [intOf];try omega)
    intro ax N;go_simp;refine⟨xn,(xf.2 (yY bs l p (C - lo+1) dp PX.out.s (by omega) (by omega))).mono ?_⟩;rintro e aq ⟨x,rfl,c6,br,bt⟩;have D:=qG (PX.out.draw br bt);have bf:=qG (b4.out aq lo (lo+x/2) cb.1 (by omega) (by rw [y.out];omega) D.out);have P:=qG (Kl (lo:=lo) (hi:=lo+x/2) A.out.1 A.out.2.1 A.out.2.2 (by omega) cb.1 (by omega) (by rw [y.out];omega));have wc:IntKind.i64.wrap (lo+x/2)=lo+x/2:=i64w _ (by omega) (by omega);have wd:IntKind.i64.wrap (x/2)=x/2:=i64w _ (by omega) (by omega);have wt:IntKind.i64.wrap (x.tdiv 2)=x/2:=(by rw [Int.tdiv_eq_ediv_of_nonneg c6.1];exact wd);clear br bt;refine N _ _ ?_;refine wpAnyIn_take (i:=9) (fuel:=4) (v:=.int .i64 (x/2)) rfl rfl (by kernel_rfl) (by kernel_rfl) (by kernel_rfl) (fun _ _ _ a=>a) ⟨Or.inl ⟨by rfl,?_⟩,fun w=>by rfl⟩ ?_
    ·intro w;go_simp
    refine wpAnyIn_take (i:=10) (fuel:=3) (v:=.int .i64 (lo+x/2)) rfl rfl (by kernel_rfl) (by kernel_rfl) (by kernel_rfl) (fun _ _ _ a=>a) ⟨Or.inl ⟨by rfl,?_⟩,fun w=>by rfl⟩ ?_
    ·intro w;go_simp
    obtain⟨e0,e1,e2,e3⟩:=D.out.cells;refine jM (i1:=0) (i2:=11) (i3:=12) rfl rfl rfl (by kernel_rfl) ?_;gi_wp2_with fail;refine⟨xn,(xf.2 bf.out).mono ?_⟩;rintro e ar ⟨bu,bv,rfl,t,h,F,G⟩;generalize (if lo=lo+x/2 then T else delP zs T lo (lo+x/2))=d at h P;have W:=qG (show d.rns+11*(z:Int)<=320 by have J:=P.out.2.2.2;rw [y.out]at J;omega);have X:=qG (show d.ok∧d.bal∧d.wp zs from⟨P.out.1,P.out.2.1,P.out.2.2.1⟩);obtain⟨az,bw,H⟩:=zi t;obtain⟨a3,bx,I⟩:=zb h;generalize zs.length=bg at H;generalize (d.told 0).length=bh at I;subst H I;clear wc wd wt bf P b4;have P5:=qG (D.out.below F);have cw:=D.out.lt;have b:=qG (P5.out.store cw t h);have Y:=qG G;obtain⟨u0,u1,u2,u3⟩:=P5.out.cells;clear t h F G;gi_wp2_with fail;go_wp2_with fail;go_roundw
    case rel=>exact⟨z,zs,d,_,_,by first | rfl | go_num | (congr 1;omega),by omega,⟨by omega,W.out⟩,X.out,b.out.kb,b.out.kr,b.out.o,b.out.i,Y.out,b.out.s,b.out.c⟩
    (simp [intOf];try omega)
   | false=>
    have ei:=au.out.lt;obtain⟨bn,bo,bp,bq⟩:=au.out.cells;go_upto_region 11 with fail;have eh:IntKind.i64.wrap (C+1)=C+1:=i64w _ (by omega) (by omega);refine(kD (n:=6)).1 ?_;refine wpIn_region_any (by kernel_rfl) ?_;refine wpAnyIn_take (i:=1) (fuel:=10) (v:=.pointer (qK p 0)) rfl rfl (by kernel_rfl) (by kernel_rfl) (by kernel_rfl) (fun _ _ _ a=>a) ⟨Or.inl ⟨by rfl,?_⟩,fun w=>by rfl⟩ ?_
    ·intro w;go_simp
    refine wpAnyIn_take (i:=2) (fuel:=9) (v:=.int .i64 C) rfl rfl (by kernel_rfl) (by kernel_rfl) (by kernel_rfl) (fun _ _ _ a=>a) ⟨Or.inl ⟨by rfl,?_⟩,fun w=>by rfl⟩ ?_
    ·intro w;go_simp
    refine wpAnyIn_take (i:=3) (fuel:=8) (v:=.int .i64 (C+1)) rfl rfl (by kernel_rfl) (by kernel_rfl) (by kernel_rfl) (fun _ _ _ a=>a) ⟨Or.inl ⟨by rfl,?_⟩,fun w=>by rfl⟩ ?_
    ·intro w;go_simp
    refine wpAnyIn_take (i:=5) (fuel:=7) (v:=.pointer (qK p 0)) rfl rfl (by kernel_rfl) (by kernel_rfl) (by kernel_rfl) (fun _ _ _ a=>a) ⟨Or.inl ⟨by rfl,?_⟩,fun w=>by rfl⟩ ?_
    ·intro w;go_simp
    refine wpAnyIn_take (i:=6) (fuel:=6) (v:=.pointer (qK p 0)) rfl rfl (by kernel_rfl) (by kernel_rfl) (by kernel_rfl) (fun _ _ _ a=>a) ⟨Or.inl ⟨by rfl,?_⟩,fun w=>by rfl⟩ ?_
    ·intro w;go_simp
    have PX:=qG (show PBS bs l p bb w zs T (.slice (qK gs 0) zs.length cs) (.slice ae T.its k2) {bm with drawn:=bm.drawn+1} from au.out.below ⟨rfl,rfl,rfl,lR,fun _ _=>rfl⟩);generalize ({bm with drawn:=bm.drawn+1}:World)=dq at *
    clear au bn bo bp bq ei;obtain⟨bn,bo,bp,bq⟩:=PX.out.cells;refine wpAnyIn_ready (rs:=[0,4]) (by kernel_rfl) (by simp) (AllReadyIn.cons rfl ?_ (AllReadyIn.cons rfl ?_ AllReadyIn.nil))
    ·intro ax N
     go_simp;refine N _ _ ?_;refine Zh (i1:=4) (i2:=7) (i3:=8) (i4:=9) (i5:=10) rfl rfl rfl rfl rfl (by kernel_rfl) ?_;gi_wp2_with fail;refine⟨xn,(xf.2 (yY bs l p (C+1) dq PX.out.s (by omega) (by omega))).mono ?_⟩;rintro e aq ⟨off,rfl,an,o,s⟩;have D:=qG (PX.out.draw o s);clear o s;gi_wp2_with fail;refine⟨xn,(xf.2 (yY bs l p 12 aq D.out.s (by omega) (by omega))).mono ?_⟩;rintro e ar ⟨dz,rfl,bz,o,s⟩;have P5:=qG (D.out.draw o s);clear o s;obtain⟨m,rfl⟩:=xZ bz.1;gi_wp2_with fail;refine⟨xn,(xf.2 (jc bs l p m ar P5.out.s (by omega))).mono ?_⟩;rintro e a4 ⟨ad,ah,ts,rfl,u,ag,o,s⟩;have K:=qG (P5.out.draw o s);have cx:=P5.out.lt;have M:=qG (ao.out a4 ts off ad ah an.1 (by rw [y.out];omega) (by omega) (by rw [u];exact zD ag (by omega)) K.out);have f:=qG (YM (ts:=ts) (off:=off) A.out.1 A.out.2.1 A.out.2.2 an.1 (by rw [y.out];omega) (by rw [y.out];omega) (by omega));have av:=qG u;have Z:=qG (show(zs++ts).length=zs.length+m by rw [qM,u]);rw [u]at M;clear o s ag u;gi_wp2_with fail;refine⟨xn,(xf.2 M.out).mono ?_⟩;rintro e c7 ⟨bu,bv,rfl,t,h,F,G⟩;rw [av.out]at f;generalize (if m=0 then T else insP (zs++ts) zs.length T off)=d at h f;have W:=qG (show(zs++ts).length+11*z<=320∧d.rns+11*(z:Int)<=320 from⟨by rw [Z.out];omega,by have J:=f.out.2.2.2;rw [y.out]at J;omega⟩);have X:=qG (show d.ok∧d.bal∧d.wp (zs++ts)from⟨f.out.1,f.out.2.1,f.out.2.2.1⟩);generalize zs++ts=ac at *
     obtain⟨az,bw,H⟩:=zi t;obtain⟨a3,bx,I⟩:=zb h;generalize ac.length=bg at H;generalize (d.told 0).length=bh at I;subst H I;clear M f ao Z;have aa:=qG (K.out.below F);have aw:=K.out.lt;have b:=qG (aa.out.store aw t h);have Y:=qG G;obtain⟨u0,u1,u2,u3⟩:=aa.out.cells;clear t h F G;gi_wp2_with fail;go_wp2_with fail;go_roundw
     case rel=>exact⟨z,ac,d,_,_,by first | rfl | go_num | (congr 1;omega),by omega,W.out,X.out,b.out.kb,b.out.kr,b.out.o,b.out.i,Y.out,b.out.s,b.out.c⟩
     (simp [intOf];try omega)
    intro ax N;go_simp;refine⟨xn,(xf.2 (yY bs l p (C+1) dq PX.out.s (by omega) (by omega))).mono ?_⟩;rintro e aq ⟨off,rfl,an,o,s⟩;have D:=qG (PX.out.draw o s);clear o s;refine N _ _ ?_;obtain⟨ej,cu,fp,fq⟩:=D.out.cells;refine wpAnyIn_ready (rs:=[0,7]) (by kernel_rfl) (by simp) (AllReadyIn.cons rfl ?_ (AllReadyIn.cons rfl ?_ AllReadyIn.nil))
    ·intro ax N
     go_simp;refine N _ _ ?_;refine XG (i1:=7) (i2:=8) (i3:=9) (i4:=10) rfl rfl rfl rfl (by kernel_rfl) ?_;gi_wp2_with fail;refine⟨xn,(xf.2 (yY bs l p 12 aq D.out.s (by omega) (by omega))).mono ?_⟩;rintro e ar ⟨dz,rfl,bz,o,s⟩;have P5:=qG (D.out.draw o s);clear o s;obtain⟨m,rfl⟩:=xZ bz.1;gi_wp2_with fail;refine⟨xn,(xf.2 (jc bs l p m ar P5.out.s (by omega))).mono ?_⟩;rintro e a4 ⟨ad,ah,ts,rfl,u,ag,o,s⟩;have K:=qG (P5.out.draw o s);have cx:=P5.out.lt;have M:=qG (ao.out a4 ts off ad ah an.1 (by rw [y.out];omega) (by omega) (by rw [u];exact zD ag (by omega)) K.out);have f:=qG (YM (ts:=ts) (off:=off) A.out.1 A.out.2.1 A.out.2.2 an.1 (by rw [y.out];omega) (by rw [y.out];omega) (by omega));have av:=qG u;have Z:=qG (show(zs++ts).length=zs.length+m by rw [qM,u]);rw [u]at M;clear o s ag u;gi_wp2_with fail;refine⟨xn,(xf.2 M.out).mono ?_⟩;rintro e c7 ⟨bu,bv,rfl,t,h,F,G⟩;rw [av.out]at f;generalize (if m=0 then T else insP (zs++ts) zs.length T off)=d at h f;have W:=qG (show(zs++ts).length+11*z<=320∧d.rns+11*(z:Int)<=320 from⟨by rw [Z.out];omega,by have J:=f.out.2.2.2;rw [y.out]at J;omega⟩);have X:=qG (show d.ok∧d.bal∧d.wp (zs++ts)from⟨f.out.1,f.out.2.1,f.out.2.2.1⟩);generalize zs++ts=ac at *
     obtain⟨az,bw,H⟩:=zi t;obtain⟨a3,bx,I⟩:=zb h;generalize ac.length=bg at H;generalize (d.told 0).length=bh at I;subst H I;clear M f ao Z;have aa:=qG (K.out.below F);have aw:=K.out.lt;have b:=qG (aa.out.store aw t h);have Y:=qG G;obtain⟨u0,u1,u2,u3⟩:=aa.out.cells;clear t h F G;gi_wp2_with fail;go_wp2_with fail;go_roundw
     case rel=>exact⟨z,ac,d,_,_,by first | rfl | go_num | (congr 1;omega),by omega,W.out,X.out,b.out.kb,b.out.kr,b.out.o,b.out.i,Y.out,b.out.s,b.out.c⟩
     (simp [intOf];try omega)
    intro ax N;go_simp;refine⟨xn,(xf.2 (yY bs l p 12 aq D.out.s (by omega) (by omega))).mono ?_⟩;rintro e ar ⟨dz,rfl,bz,o,s⟩;have P5:=qG (D.out.draw o s);clear o s;obtain⟨m,rfl⟩:=xZ bz.1;refine N _ _ ?_;obtain⟨e0,e1,e2,e3⟩:=P5.out.cells;refine wpAnyIn_ready (rs:=[0,8]) (by kernel_rfl) (by simp) (AllReadyIn.cons rfl ?_ (AllReadyIn.cons rfl ?_ AllReadyIn.nil))
    ·intro ax N
     go_simp;refine N _ _ ?_;refine jM (i1:=8) (i2:=9) (i3:=10) rfl rfl rfl (by kernel_rfl) ?_;gi_wp2_with fail;refine⟨xn,(xf.2 (jc bs l p m ar P5.out.s (by omega))).mono ?_⟩;rintro e a4 ⟨ad,ah,ts,rfl,u,ag,o,s⟩;have K:=qG (P5.out.draw o s);have cx:=P5.out.lt;have M:=qG (ao.out a4 ts off ad ah an.1 (by rw [y.out];omega) (by omega) (by rw [u];exact zD ag (by omega)) K.out);have f:=qG (YM (ts:=ts) (off:=off) A.out.1 A.out.2.1 A.out.2.2 an.1 (by rw [y.out];omega) (by rw [y.out];omega) (by omega));have av:=qG u;have Z:=qG (show(zs++ts).length=zs.length+m by rw [qM,u]);rw [u]at M;clear o s ag u;gi_wp2_with fail;refine⟨xn,(xf.2 M.out).mono ?_⟩;rintro e c7 ⟨bu,bv,rfl,t,h,F,G⟩;rw [av.out]at f;generalize (if m=0 then T else insP (zs++ts) zs.length T off)=d at h f;have W:=qG (show(zs++ts).length+11*z<=320∧d.rns+11*(z:Int)<=320 from⟨by rw [Z.out];omega,by have J:=f.out.2.2.2;rw [y.out]at J;omega⟩);have X:=qG (show d.ok∧d.bal∧d.wp (zs++ts)from⟨f.out.1,f.out.2.1,f.out.2.2.1⟩);generalize zs++ts=ac at *
     obtain⟨az,bw,H⟩:=zi t;obtain⟨a3,bx,I⟩:=zb h;generalize ac.length=bg at H;generalize (d.told 0).length=bh at I;subst H I;clear M f ao Z;have aa:=qG (K.out.below F);have aw:=K.out.lt;have b:=qG (aa.out.store aw t h);have Y:=qG G;obtain⟨u0,u1,u2,u3⟩:=aa.out.cells;clear t h F G;gi_wp2_with fail;go_wp2_with fail;go_roundw
     case rel=>exact⟨z,ac,d,_,_,by first | rfl | go_num | (congr 1;omega),by omega,W.out,X.out,b.out.kb,b.out.kr,b.out.o,b.out.i,Y.out,b.out.s,b.out.c⟩
     (simp [intOf];try omega)
    intro ax N;go_simp;refine⟨xn,(xf.2 (jc bs l p m ar P5.out.s (by omega))).mono ?_⟩;rintro e a4 ⟨ad,ah,ts,rfl,u,ag,o,s⟩;have K:=qG (P5.out.draw o s);have cx:=P5.out.lt;have M:=qG (ao.out a4 ts off ad ah an.1 (by rw [y.out];omega) (by omega) (by rw [u];exact zD ag (by omega)) K.out);have f:=qG (YM (ts:=ts) (off:=off) A.out.1 A.out.2.1 A.out.2.2 an.1 (by rw [y.out];omega) (by rw [y.out];omega) (by omega));have av:=qG u;have Z:=qG (show(zs++ts).length=zs.length+m by rw [qM,u]);rw [u]at M;clear o s ag u;refine N _ _ ?_;obtain⟨fr,fs,ft,du⟩:=K.out.cells;refine jM (i1:=0) (i2:=9) (i3:=10) rfl rfl rfl (by kernel_rfl) ?_;gi_wp2_with fail;refine⟨xn,(xf.2 M.out).mono ?_⟩;rintro e c7 ⟨bu,bv,rfl,t,h,F,G⟩;rw [av.out]at f;generalize (if m=0 then T else insP (zs++ts) zs.length T off)=d at h f;have W:=qG (show(zs++ts).length+11*z<=320∧d.rns+11*(z:Int)<=320 from⟨by rw [Z.out];omega,by have J:=f.out.2.2.2;rw [y.out]at J;omega⟩);have X:=qG (show d.ok∧d.bal∧d.wp (zs++ts)from⟨f.out.1,f.out.2.1,f.out.2.2.1⟩);generalize zs++ts=ac at *
    obtain⟨az,bw,H⟩:=zi t;obtain⟨a3,bx,I⟩:=zb h;generalize ac.length=bg at H;generalize (d.told 0).length=bh at I;subst H I;clear M f ao Z;have aa:=qG (K.out.below F);have aw:=K.out.lt;have b:=qG (aa.out.store aw t h);have Y:=qG G;obtain⟨u0,u1,u2,u3⟩:=aa.out.cells;clear t h F G;gi_wp2_with fail;go_wp2_with fail;go_roundw
    case rel=>exact⟨z,ac,d,_,_,by first | rfl | go_num | (congr 1;omega),by omega,W.out,X.out,b.out.kb,b.out.kr,b.out.o,b.out.i,Y.out,b.out.s,b.out.c⟩
    (simp [intOf];try omega)
  obtain rfl:j=0:=(by omega);have ci:wr.cell? ⟨w.heap.size,0,none⟩=some (.slice none 0 0):=(by rw [qP wr _ 0 _ _ _ a2];rfl);have cj:wr.cell? ⟨w.heap.size,1,none⟩=some (.slice none 0 0):=(by rw [qP wr _ 1 _ _ _ a2];rfl);have d1:=xp wr w.heap.size 0 _ _ a2;have d2:=xp wr w.heap.size 1 _ _ a2;have ej:wr.cell? ⟨bb,0,none⟩=some E:=(by rw [qP wr _ 0 _ _ _ bc];rfl);have cu:wr.cell? ⟨bb,1,none⟩=some L:=(by rw [qP wr _ 1 _ _ _ bc];rfl);have ck:=qG Q;have cl:=qG R;have V:=qG (And.intro ab (And.intro aj (And.intro ak (And.intro (show T.rns<=5080 by omega) (show zs.length<=400 by omega)))));have a6:=qG b9;have a7:=qG bl;have cm:=qG (fun q O=>(Q.lt q O).1);have cn:=qG (fun q O=>(R.lt q O).1);subst ba bk;clear Q R ab aj ak b8 b9 bl bc a2 am b2;go_wp2;refine xr (v:=.agg #[.slice (qK gs 0) zs.length cs,.slice ae T.its k2]) (by simp [results,results5,go_sem,ci,cj]) rfl ⟨_,_,zs,T,rfl,?_,?_,V.out.1,V.out.2.1,V.out.2.2.1,V.out.2.2.2.1,V.out.2.2.2.2,?_,?_,⟨_,_,_,rfl⟩⟩
  ·exact zA (zD ck.out (by omega)) (fun q O=>by have J:=cm.out q O;rw [xm _ ⟨w.heap.size,1,none⟩ _ _ (by show q≠w.heap.size;omega),xm _ ⟨w.heap.size,0,none⟩ _ _ (by show q≠w.heap.size;omega)])
  ·exact zA (zD cl.out (by omega)) (fun q O=>by have J:=cn.out q O;rw [xm _ ⟨w.heap.size,1,none⟩ _ _ (by show q≠w.heap.size;omega),xm _ ⟨w.heap.size,0,none⟩ _ _ (by show q≠w.heap.size;omega)])
  ·exact(a6.out.below (B:=w.heap.size) ((qO w.heap.size wr).setCell (by simp) _) a5 (by omega)).below (B:=w.heap.size) ((qO w.heap.size _).setCell (by simp) _) a5 (by simp;omega)
  exact(a7.out.setCell _ _ (.inr (by simp))).setCell _ _ (.inr (by simp))
end Go.Proofs.YtmjanhcplcalfaaGreatDoor
