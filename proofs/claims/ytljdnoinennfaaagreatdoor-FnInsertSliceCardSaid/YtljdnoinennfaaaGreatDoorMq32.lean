import Derived.Test.YtljdnoinennfaaaGreatDoorMq31
set_option linter.all false
set_option maxRecDepth 100000
set_option maxHeartbeats 8000000
namespace Go.Proofs.YtljdnoinennfaaaGreatDoor
open Go Go.RowKit
theorem Xd {w:World} {base b n:Nat} {e t:TypeId} {size:Nat} {v:Value} {xs:List Value} {cs:Array Value} {f:Nat×Nat} (h:w.ownsRow base e size v n xs) (c:w.heap[b]? =some (.cells cs t f)) (i:e≠t):∀q,v.ownBlock=some q->q≠b:=by
 intro q a d;subst d
 rcases h.2 with ⟨rfl,_⟩ | ⟨g,cap,k,rfl,_,j,_⟩
 ·simp [Value.ownBlock]at a
 ·simp only [Value.ownBlock,xw]at a
  subst a;rw [j]at c;simp only [xw]at c
  injection c with _ h2 _
  exact i h2
theorem SrcB.blk {bs:List Int} {b:Value} {p:Nat} {w:World} (c:SrcB bs b p w):∃cs a,w.heap[p]? =some (.cells cs 104 a):=by
 obtain⟨⟨i,x,_,_,_,d⟩,_⟩:=c.1;exact⟨_,_,d⟩
theorem jV {bs:List Int} {c:Value} {p:Nat} {w w':World} {base n:Nat} {e:TypeId} {size:Nat} {v:Value} {xs:List Value} (a:w.ownsRow base e size v n xs) (d:SrcB bs c p w) (f:Chg [p] w w') (g:e≠104):w'.ownsRow base e size v n xs:=by
 obtain⟨cs,i,h⟩:=d.blk
 exact zB a fun q b=>f.block q (a.lt q b).2 (by simpa using Xd a h g q b)
theorem zG8 (x:Option Addr) (w:World):Calls Tryz.prog 33 #[.pointer x,qJ 0] w fun e w'=>e= .returned (.slice (qK w.heap.size 0) 0 0)∧w'=w.alloc (.cells #[] 21):=by
 go_enter Tryz.func33,Tryz.ntmps33;go_wp2
 go_loopw [5,6] (fun a i wr=>a= .slice (qK w.heap.size 0) 0 0∧i=qJ 0∧wr=w.alloc (.cells #[] 21)) (fun _ i _=>0)
 case atStart=>exact⟨rfl,rfl,rfl⟩
 case round=>
  obtain⟨rfl,rfl,rfl⟩:=hrel;go_wp2;go_ret;exact⟨rfl,rfl⟩
theorem jx (bs:List Int) (b:Value) (p:Nat) (n:Nat) (w:World) (a:SrcB bs b p w) (l:n<=1048576):
  Calls Tryz.prog 33 #[.pointer (qK p 0),qJ n] w fun e w'=>∃g c zs,e= .returned (.slice (qK g 0) n c)∧zs.length=n∧own32 w' w.heap.size (.slice (qK g 0) n c) zs∧SrcB bs b p w'∧Chg [p] w w':=by
 rcases kh n with i | i
 ·subst i
  refine(zG8 _ w).mono ?_;rintro e w' ⟨rfl,rfl⟩;have f:=(qO w.heap.size w).alloc lR (.cells #[] 21);exact⟨_,_,[],rfl,rfl,j8 w,a.below f a.1.lt lR,Chg.qa f⟩
 ·refine(K9 bs b p n w a.1 l).mono ?_
  rintro e w' ⟨v,zs,rfl,j,d⟩;have h:own32 w' w.heap.size v zs:=d.own
  obtain⟨g,c,rfl⟩:∃g c,v= .slice (qK g 0) n c:=by
   rcases h.2 with ⟨_,m⟩ | ⟨g,c,o,k,_⟩
   ·omega
   ·rw [j]at k;exact⟨g,c,k⟩
  exact⟨g,c,zs,rfl,j,h,⟨d.src,a.2⟩,Chg.qy d.grown⟩
structure PBS (bs:List Int) (d:Value) (p bb:Nat) (w:World) (zs:List Int) (T:AT) (a b:Value) (W:World):Prop where
 kb:W.heap[bb]? =some (.cells #[a,b] 30 (0,0))
 kr:W.heap[w.heap.size]? =some (.cells #[.slice none 0 0,.slice none 0 0] 30 (0,0))
 o:own32 W (w.heap.size+1) a zs
 i:OwI W (w.heap.size+1) b (T.told 0)
 s:SrcB bs d p W
 c:Chg [p] w W
 l1:p<w.heap.size
 l2:w.heap.size<bb
section
variable {bs:List Int} {vb:Value} {p bb:Nat} {w W W':World} {zs:List Int} {T:AT} {vs vi:Value}
theorem PBS.lt (a:PBS bs vb p bb w zs T vs vi W):bb<W.heap.size:=(xU.1 a.kb).1
theorem PBS.draw (a:PBS bs vb p bb w zs T vs vi W) (f:SrcB bs vb p W') (b:Chg [p] W W'):PBS bs vb p bb w zs T vs vi W':=
 have c:=a.lt;have d:=a.l1;have e:=a.l2
 ⟨(b.block bb c (by simp;omega)).trans a.kb,(b.block w.heap.size (by omega) (by simp;omega)).trans a.kr,jV a.o a.s b (by decide),jV a.i a.s b (by decide),f,a.c.trans b (fun _ a _=>a) (fun _ a _=>a),d,e⟩
theorem PBS.below (a:PBS bs vb p bb w zs T vs vi W) (b:Below W.heap.size W W'):PBS bs vb p bb w zs T vs vi W':=
 have c:=a.lt;have d:=a.l1;have e:=a.l2;have f:=a.c.size
 ⟨(b.block bb c).trans a.kb,(b.block w.heap.size (by omega)).trans a.kr,zA a.o b lR,OwI.below a.i b lR,a.s.below b (by omega) lR,a.c.qB b (by omega),d,e⟩
theorem PBS.cells (a:PBS bs vb p bb w zs T vs vi W):W.cell? ⟨bb,0,none⟩=some vs∧W.cell? ⟨bb,1,none⟩=some vi∧W.frozen? ⟨bb,0,none⟩=false∧W.frozen? ⟨bb,1,none⟩=false:=by
 refine⟨?_,?_,xo W bb 0 _ _ a.kb,xo W bb 1 _ _ a.kb⟩
 ·rw [qQ W _ 0 _ _ _ a.kb];rfl
 ·rw [qQ W _ 1 _ _ _ a.kb];rfl
theorem PBS.store (a:PBS bs vb p bb w zs T vs vi W) {f:List Int} {g:AT} {c d:Value} {B:Nat} (n:bb<B) (h:own32 W B c f) (hi:OwI W B d (g.told 0)):PBS bs vb p bb w f g c d ((W.setCell ⟨bb,0,none⟩ c).setCell ⟨bb,1,none⟩ d):=by
 have l:=a.lt;have i:=a.l1;have j:=a.l2;have m:=a.c.size
 have k:(W.setCell ⟨bb,0,none⟩ c).heap[bb]? =some (.cells #[c,vi] 30 (0,0)):=by rw [xB W bb 0 _ _ _ a.kb];rfl
 have e:∀q,q≠bb->((W.setCell ⟨bb,0,none⟩ c).setCell ⟨bb,1,none⟩ d).heap[q]? =W.heap[q]?:=fun q b=>by
  rw [xn _ ⟨bb,1,none⟩ _ _ b,xn _ ⟨bb,0,none⟩ _ _ b]
 refine⟨?_,(e _ (by omega)).trans a.kr,?_,?_,?_,?_,i,j⟩
 ·rw [xB _ bb 1 _ _ _ k];rfl
 ·exact zB (zD h (by omega)) (fun q b=>e q (by have:=(h.lt q b).1;omega))
 ·exact zB (zD hi (by omega)) (fun q b=>e q (by have:=(hi.lt q b).1;omega))
 ·exact(a.s.below (B:=bb) ((qO bb W).setCell (by simp) _) (by omega) (by omega)).below (B:=bb) ((qO bb _).setCell (by simp) _) (by omega) (by simp;omega)
 ·exact(a.c.setCell _ _ (.inr (by simp;omega))).setCell _ _ (.inr (by simp;omega))
end
theorem Zz {zs ts:List Int} {T:AT} {off:Int} (a:T.ok) (e:T.bal) (b:T.wp zs) (f:0<=off) (g:off<=T.rns) (h:T.rns+ts.length<=8192) (i:zs.length+ts.length<=220000):
  (if ts.length=0 then T else insP (zs++ts) zs.length T off).ok∧(if ts.length=0 then T else insP (zs++ts) zs.length T off).bal∧(if ts.length=0 then T else insP (zs++ts) zs.length T off).wp (zs++ts)∧(if ts.length=0 then T else insP (zs++ts) zs.length T off).rns=T.rns+ts.length:=by
 by_cases d:ts.length=0
 ·rw [xj d]
  exact⟨a,e,b.app ts,by omega⟩
 ·rw [qT d]
  have c:=Jh (ts:=ts) a b f g (by omega)
  exact⟨zA2 a (b.app ts) f g (by rw [qM];omega) (by rw [qM];omega) (by rw [qM];omega),zB3 e,c.1,c.2.1⟩
theorem Kc {zs:List Int} {T:AT} {lo hi:Int} (b:T.ok) (c:T.bal) (d:T.wp zs) (e:zs.length<=220000) (f:0<=lo) (g:lo<=hi) (h:hi<=T.rns):
  (if lo=hi then T else delP zs T lo hi).ok∧(if lo=hi then T else delP zs T lo hi).bal∧(if lo=hi then T else delP zs T lo hi).wp zs∧(if lo=hi then T else delP zs T lo hi).rns<=T.rns:=by
 by_cases a:lo=hi
 ·rw [xj a];exact⟨b,c,d,Qd _⟩
 ·rw [qT a];exact delP_all b c d e f g h
theorem drawPB (bs:List Int) (l:Value) (p n:Nat) (c1:Option Addr) (cc:Nat) (w:World) (c2:SrcB bs l p w) (du:n<=1048576):
  Calls Tryz.prog 6 #[.pointer (some ⟨p,0,none⟩),.slice c1 n cc] w (PBPost bs l p 5080 400 w):=by
 have a8:=c2.1.lt;have cf:=qG ((qO w.heap.size w).alloc lR (.cells #[.slice none 0 0,.slice none 0 0] 30))
 have db:=qG (show(w.alloc (.cells #[.slice none 0 0,.slice none 0 0] 30)).heap[w.heap.size]? =some (.cells #[.slice none 0 0,.slice none 0 0] 30 (0,0))from xm _ _)
 have e7:w.heap.size<(w.alloc (.cells #[.slice none 0 0,.slice none 0 0] 30)).heap.size:=by simp
 have dc:=qG (c2.below cf.out a8 lR);have dd:=qG (Chg.qa (bs:=[p]) cf.out)
 have cg:=qG (fun w=>size1 n c1 cc 200 w du (by omega))
 have de:=qG (fun w=>tallH n c1 cc w du)
 clear c2;go_enter Tryz.func6,Tryz.ntmps6;go_wp2_with fail;generalize w.alloc (.cells #[.slice none 0 0,.slice none 0 0] 30)=eo at *
 refine(Zc bs l p 2 eo dc.out (by omega) (by omega)).mono ?_
 rintro e w1 ⟨a2,rfl,dv,b8⟩;have e8:=b8.size
 have ch:=qG ((b8.block w.heap.size (by omega) (by simp;omega)).trans db.out)
 have ci:=qG dv
 have cj:=qG (dd.out.trans b8 (fun _ a _=>a) (fun _ a _=>a))
 clear dv b8 dd dc cf db
 cases a2 with
 | true=>
  go_wp2_with fail;refine(cg.out _).mono ?_;rintro e wx ⟨r,rfl,es,bk⟩;have bf:=bk.symm;subst bf;go_wp2_with fail;refine(de.out _).mono ?_;rintro e wx ⟨a,rfl,fk,bk⟩;have bf:=bk.symm;subst bf;go_wp2_with fail
  refine(drawRaw bs l p r (a - 1) w1 ci.out ⟨by omega,by omega⟩ ⟨by omega,by omega⟩).mono ?_
  rintro e al ⟨F,M,zs,T,rfl,R,S,ad,am,an,bc,dr,au,U,ap⟩;obtain⟨c4,c5,rfl⟩:=zj R;obtain⟨ag,ah,rfl⟩:=zc S;have d3:=U.size
  have bg:=(U.block w.heap.size (by omega) (by simp;omega)).trans ch.out
  have ck:al.cell? ⟨w.heap.size,0,none⟩=some (.slice none 0 0):=by rw [qQ al _ 0 _ _ _ bg];rfl
  have cl:al.cell? ⟨w.heap.size,1,none⟩=some (.slice none 0 0):=by rw [qQ al _ 1 _ _ _ bg];rfl
  have d4:=xo al w.heap.size 0 _ _ bg;have d5:=xo al w.heap.size 1 _ _ bg;have cm:=qG R;have cn:=qG S;have X:=qG (And.intro ad (And.intro am (And.intro an (And.intro bc dr))));have a9:=qG au
  have ba:=qG (cj.out.trans U (fun _ a _=>a) (fun _ a _=>a))
  have co:=qG (fun q P=>(R.lt q P).1)
  have cp:=qG (fun q P=>(S.lt q P).1)
  have d6:=qG ap;clear R S ad am an bc dr au U bg ap;go_wp2
  refine xr (v:=.agg #[.slice c4 zs.length c5,.slice ag (T.told 0).length ah]) (by simp [results,Tryz.results6,go_sem,ck,cl]) rfl ⟨_,_,zs,T,rfl,?_,?_,X.out.1,X.out.2.1,X.out.2.2.1,X.out.2.2.2.1,by have:=X.out.2.2.2.2;omega,?_,?_,d6.out⟩
  ·exact zB (zD cm.out (by omega)) (fun q P=>by have K:=co.out q P;rw [xn _ ⟨w.heap.size,1,none⟩ _ _ (by show q≠w.heap.size;omega),xn _ ⟨w.heap.size,0,none⟩ _ _ (by show q≠w.heap.size;omega)])
  ·exact zB (zD cn.out (by omega)) (fun q P=>by have K:=cp.out q P;rw [xn _ ⟨w.heap.size,1,none⟩ _ _ (by show q≠w.heap.size;omega),xn _ ⟨w.heap.size,0,none⟩ _ _ (by show q≠w.heap.size;omega)])
  ·exact(a9.out.below (B:=w.heap.size) ((qO w.heap.size al).setCell (by simp) _) a8 (by omega)).below (B:=w.heap.size) ((qO w.heap.size _).setCell (by simp) _) a8 (by simp;omega)
  ·exact(ba.out.setCell _ _ (.inr (by simp))).setCell _ _ (.inr (by simp))
 | false=>
  go_wp2_with fail;refine(cg.out _).mono ?_;rintro e wx ⟨r,rfl,es,bk⟩;have bf:=bk.symm;subst bf;go_wp2_with fail
  refine(yV bs l p r w1 ci.out (by omega) (by omega)).mono ?_
  rintro e al ⟨m,rfl,et,au,U⟩;obtain⟨eu,rfl⟩:=xZ et.1;have d3:=U.size
  have df:=qG ((U.block w.heap.size (by omega) (by simp;omega)).trans ch.out)
  have a9:=qG au
  have ba:=qG (cj.out.trans U (fun _ a _=>a) (fun _ a _=>a))
  clear au U cj ci ch cg de;go_wp2_with fail
  refine(jx bs l p eu al a9.out (by omega)).mono ?_
  rintro e dw ⟨ev,dx,ai,rfl,c6,dy,bl,a3⟩;have z3:=a3.size
  have dg:=qG ((a3.block w.heap.size (by omega) (by simp;omega)).trans df.out)
  have cq:=qG bl
  have dh:=qG (ba.out.trans a3 (fun _ a _=>a) (fun _ a _=>a))
  have cr:=qG (specLoad al.heap.size ai ev dx dw (by rw [c6];exact dy) (by omega))
  rw [c6]at cr
  have di:ai.length<=199:=by omega
  have b2:=qG (ldT_all ai (by omega))
  have dj:=qG di;clear bl a3 ba a9 df dy c6 di;go_wp2_with fail;refine cr.out.mono ?_;rintro e V ⟨F,M,rfl,c7,c8,b9,ap⟩;obtain⟨c4,c5,bd⟩:=zj c7;obtain⟨ag,ah,bm⟩:=zc c8;have d7:=qG ap;have e9:=b9.size;have d8:p<dw.heap.size:=cq.out.1.lt;have ct:=qG (b9.alloc b9.size (.cells #[F,M] 30));have cu:=qG ((qO V.heap.size V).alloc lR (.cells #[F,M] 30))
  have dk:=qG (show own32 (V.alloc (.cells #[F,M] 30)) (w.heap.size+1) F ai from zD (zA c7 cu.out lR) (by omega))
  have dl:=qG (show OwI (V.alloc (.cells #[F,M] 30)) (w.heap.size+1) M ((ldT ai).told 0)from zD (zA c8 cu.out lR) (by omega))
  have dm:=qG ((ct.out.block w.heap.size (by omega)).trans dg.out)
  have dn:=qG (show(V.alloc (.cells #[F,M] 30)).heap[V.heap.size]? =some (.cells #[F,M] 30 (0,0))from xm _ _)
  have b3:=qG (cq.out.below ct.out d8 lR)
  have dp:=qG (dh.out.qB ct.out (by omega))
  have d9:V.heap.size<(V.alloc (.cells #[F,M] 30)).heap.size:=by simp
  subst bd bm;clear c7 c8 b9 ap cr dh cq dg cu;go_wp2_with fail;generalize en:V.alloc (.cells #[.slice c4 ai.length c5,.slice ag ((ldT ai).told 0).length ah] 30)=ep at *;clear en
  have ea:w.heap.size<V.heap.size:=by omega
  have fa:p<V.heap.size:=by omega
  generalize V.heap.size=bb at *
  refine(yV bs l p 12 ep b3.out (by omega) (by omega)).mono ?_
  rintro e dz ⟨fl,rfl,ew,d0,a4⟩;obtain⟨ex,rfl⟩:=xZ ew.1;have fc:=a4.size
  have eb:=qG ((a4.block w.heap.size (by omega) (by simp;omega)).trans dm.out)
  have ec:=qG ((a4.block bb d9 (by simp;omega)).trans dn.out)
  have ed:=qG d0
  have ee:=qG (dp.out.trans a4 (fun _ a _=>a) (fun _ a _=>a))
  have ef:=qG (show own32 dz (w.heap.size+1) _ ai from jV dk.out b3.out a4 (by decide))
  have eg:=qG (show OwI dz (w.heap.size+1) _ ((ldT ai).told 0)from jV dl.out b3.out a4 (by decide))
  clear d0 a4 b3 dp dk dl dm dn;go_wp2_with fail
  go_loopw [7] (fun eq wr=>∃ (j:Nat) (zs:List Int) (T:AT) (F M:Value),eq= .int .i64 j∧j<=11∧(zs.length+11*j<=320∧T.rns+11*j<=320)∧(T.ok∧T.bal∧T.wp zs)∧wr.heap[bb]? =some (.cells #[F,M] 30 (0,0))∧wr.heap[w.heap.size]? =some (.cells #[.slice none 0 0,.slice none 0 0] 30 (0,0))∧own32 wr (w.heap.size+1) F zs∧OwI wr (w.heap.size+1) M (T.told 0)∧(∃g n c,F= .slice (some ⟨g,0,none⟩) n c)∧SrcB bs l p wr∧Chg [p] w wr)
   (fun k _=>(intOf k).toNat)
  case atStart=>exact⟨ex,ai,ldT ai,_,_,rfl,by omega,⟨by have:=dj.out;omega,by have K:=b2.out.2.2.2;have:=dj.out;omega⟩,⟨b2.out.1,b2.out.2.1,b2.out.2.2.1⟩,ec.out,eb.out,ef.out,eg.out,d7.out,ed.out,ee.out⟩
  case round=>
   obtain⟨j,zs,T,F,M,rfl,fm,ca,⟨ad,am,an⟩,be,a5,R,S,ap,cb,bn⟩:=hrel;have fd:=bn.size;have fe:bb<wr.heap.size:=(xU.1 be).1;obtain⟨ag,ah,bm⟩:=zc S
   obtain⟨gs,bd,fn,fo⟩:∃g,(∃c,F= .slice (some ⟨g,0,none⟩) zs.length c∧zs.length<=c∧c<=maxLen)∧w.heap.size+1<=g∧g<wr.heap.size:=by
    obtain⟨g,n,c,e⟩:=ap
    rcases R.2 with ⟨ao,_⟩ | ⟨g',ey,fp,ao,ez,_,e0,e1,_⟩
    ·rw [e]at ao;cases ao
    ·exact⟨g',⟨ey,ao,e0,e1⟩,ez,(R.lt g' (by rw [ao];rfl)).2⟩
   obtain⟨cs,bd,fq,fr⟩:=bd;have b4:=AT.told_length T 0;rw [b4]at bm
   by_cases fi:0<j
   ·obtain⟨A,rfl⟩:∃A,j=A+1:=⟨j - 1,by omega⟩
    have cv:=qG (show PBS bs l p bb w zs T F M wr from⟨be,a5,R,S,cb,bn,a8,ea⟩)
    have dq:=ad.bd
    have b5:=qG (zCy wr.heap.size M (T.told 0) wr (OwI.rd S) lR (by rw [b4];omega) (jC ad))
    rw [show total (T.told 0)=T.rns by rw [AT.rns_told]]at b5
    have C:=qG (And.intro ad (And.intro am an));subst bd;subst bm
    have b6:=qG (fun(W:World) (lo hi:Int) (c3:0<=lo) (er:lo<=hi) (ao:hi<=T.rns) (a1:PBS bs l p bb w zs T (.slice (some ⟨gs,0,none⟩) zs.length cs) (.slice ag T.its ah) W)=>delS zs T gs 0 cs _ ag ah lo hi W (zY rfl a1.o) (a1.o.lt gs rfl).2 a1.i ad am an c3 er ao (by omega))
    have ar:=qG (fun(W:World) (ts:List Int) (off:Int) (af ak:Nat) (c3:0<=off) (ao:off<=T.rns) (fj:ts.length<=11) (ht:own32 W bb (.slice (some ⟨af,0,none⟩) ts.length ak) ts) (a1:PBS bs l p bb w zs T (.slice (some ⟨gs,0,none⟩) zs.length cs) (.slice ag T.its ah) W)=>insS zs ts T gs 0 cs _ ag ah af 0 ak off W (zY rfl a1.o) (a1.o.lt gs rfl).2 (zY rfl ht) (ht.lt af rfl).2 a1.i ad am an c3 ao (by omega) (by omega))
    have eh:=dq.2.1
    have ei:T.rns+11*((A:Int)+1)<=320:=by have:=ca.2;omega
    have ff:zs.length+11*(A+1)<=320:=ca.1;have cw:=cv.out.cells.2.1;clear R S ad am an ca cb bn be a5 ap dq b4;obtain⟨D,bc⟩:∃D,T.rns=D:=⟨_,rfl⟩;have y:=qG bc;rw [bc]at b5 eh ei;clear bc
    have fg:(0:Int)<((A+1:Nat):Int):=by omega
    go_wp2_with fail;refine b5.out.mono ?_;rintro e e2 ⟨rfl,d1⟩;have cx:=qG (cv.out.below d1);clear d1 cw cv b5;go_wp2_with fail
    refine(Zc bs l p 3 e2 cx.out.s (by omega) (by omega)).mono ?_
    rintro e bo ⟨a6,rfl,au,U⟩;have ax:=qG (cx.out.draw au U);clear au U cx
    cases a6 with
    | true=>
     go_wp2_with fail
     refine(yV bs l p (D+1) bo ax.out.s (by omega) (by omega)).mono ?_
     rintro e cd ⟨lo,rfl,ce,bl,a3⟩;have b7:=qG (ax.out.draw bl a3);have ej:=b7.out.lt;clear bl a3 ax;obtain⟨bp,bq,br,bt⟩:=b7.out.cells
     go_upto_region 10 with fail
     have ek:IntKind.i64.wrap (D - lo)=D - lo:=i64w _ (by omega) (by omega)
     have fh:IntKind.i64.wrap (D - lo+1)=D - lo+1:=i64w _ (by omega) (by omega)
     refine(wpIn_wide (n:=6)).1 ?_
     refine wpIn_region_any (by kernel_rfl) ?_
     refine wpAnyIn_take (i:=1) (fuel:=12) (v:=.int .i64 lo) rfl rfl (by kernel_rfl) (by kernel_rfl) (by kernel_rfl) (fun _ _ _ a=>a) ⟨Or.inl ⟨by rfl,?_⟩,fun w=>by rfl⟩ ?_
     ·intro w;go_simp
     refine wpAnyIn_take (i:=2) (fuel:=11) (v:=.int .i64 lo) rfl rfl (by kernel_rfl) (by kernel_rfl) (by kernel_rfl) (fun _ _ _ a=>a) ⟨Or.inl ⟨by rfl,?_⟩,fun w=>by rfl⟩ ?_
     ·intro w;go_simp
     refine wpAnyIn_take (i:=3) (fuel:=10) (v:=.pointer (some ⟨p,0,none⟩)) rfl rfl (by kernel_rfl) (by kernel_rfl) (by kernel_rfl) (fun _ _ _ a=>a) ⟨Or.inl ⟨by rfl,?_⟩,fun w=>by rfl⟩ ?_
     ·intro w;go_simp
     refine wpAnyIn_take (i:=4) (fuel:=9) (v:=.int .i64 D) rfl rfl (by kernel_rfl) (by kernel_rfl) (by kernel_rfl) (fun _ _ _ a=>a) ⟨Or.inl ⟨by rfl,?_⟩,fun w=>by rfl⟩ ?_
     ·intro w;go_simp
     refine wpAnyIn_take (i:=5) (fuel:=8) (v:=.int .i64 lo) rfl rfl (by kernel_rfl) (by kernel_rfl) (by kernel_rfl) (fun _ _ _ a=>a) ⟨Or.inl ⟨by rfl,?_⟩,fun w=>by rfl⟩ ?_
     ·intro w;go_simp
     refine wpAnyIn_take (i:=6) (fuel:=7) (v:=.int .i64 (D - lo)) rfl rfl (by kernel_rfl) (by kernel_rfl) (by kernel_rfl) (fun _ _ _ a=>a) ⟨Or.inl ⟨by rfl,?_⟩,fun w=>by rfl⟩ ?_
     ·intro w;go_simp
     refine wpAnyIn_take (i:=7) (fuel:=6) (v:=.int .i64 (D - lo+1)) rfl rfl (by kernel_rfl) (by kernel_rfl) (by kernel_rfl) (fun _ _ _ a=>a) ⟨Or.inl ⟨by rfl,?_⟩,fun w=>by rfl⟩ ?_
     ·intro w;go_simp
     have PX:=qG (show PBS bs l p bb w zs T (.slice (some ⟨gs,0,none⟩) zs.length cs) (.slice ag T.its ah) {cd with drawn:=cd.drawn+1} from b7.out.below ⟨rfl,rfl,rfl,lR,fun _ _=>rfl⟩)
     generalize ({cd with drawn:=cd.drawn+1}:World)=ds at *
     clear b7 bp bq br bt ej;obtain⟨bp,bq,br,bt⟩:=PX.out.cells
     refine wpAnyIn_ready (rs:=[0,8]) (by kernel_rfl) (by simp) (AllReadyIn.cons rfl ?_ (AllReadyIn.cons rfl ?_ AllReadyIn.nil))
     ·intro a0 O
      go_simp;refine O _ _ ?_
      refine Z1 (i1:=8) (i2:=9) (i3:=10) (i4:=11) (i5:=12) rfl rfl rfl rfl rfl (by kernel_rfl) ?_
      gi_wp2_with fail
      refine⟨xH,(vf.2 (yV bs l p (D - lo+1) ds PX.out.s (by omega) (by omega))).mono ?_⟩
      rintro e av ⟨x,rfl,c9,bu,bv⟩;have E:=qG (PX.out.draw bu bv)
      have bh:=qG (b6.out av lo (lo+x/2) ce.1 (by omega) (by rw [y.out];omega) E.out)
      have Q:=qG (Kc (lo:=lo) (hi:=lo+x/2) C.out.1 C.out.2.1 C.out.2.2 (by omega) ce.1 (by omega) (by rw [y.out];omega))
      have wc:IntKind.i64.wrap (lo+x/2)=lo+x/2:=i64w _ (by omega) (by omega)
      have wd:IntKind.i64.wrap (x/2)=x/2:=i64w _ (by omega) (by omega)
      have cy:IntKind.i64.wrap (x.tdiv 2)=x/2:=by rw [Int.tdiv_eq_ediv_of_nonneg c9.1];exact wd
      clear bu bv
      gi_wp2_with fail
      refine⟨xH,(vf.2 bh.out).mono ?_⟩;rintro e aw ⟨bw,bx,rfl,t,h,G,H⟩
      generalize (if lo=lo+x/2 then T else delP zs T lo (lo+x/2))=d at h Q
      have Y:=qG (show d.rns+11*(A:Int)<=320 by have K:=Q.out.2.2.2;rw [y.out]at K;omega)
      have Z:=qG (show d.ok∧d.bal∧d.wp zs from⟨Q.out.1,Q.out.2.1,Q.out.2.2.1⟩)
      obtain⟨a2,bz,I⟩:=zj t;obtain⟨a6,b0,J⟩:=zc h;generalize zs.length=bi at I;generalize (d.told 0).length=bj at J;subst I J;clear wc wd cy bh Q b6;have z:=qG (E.out.below G);have cz:=E.out.lt;have b:=qG (z.out.store cz t h);have aa:=qG H;obtain⟨u0,u1,u2,u3⟩:=z.out.cells;clear t h G H
      gi_wp2_with fail
      go_wp2_with fail;go_roundw
      case rel=>exact⟨A,zs,d,_,_,by first | rfl | go_num | (congr 1;omega),by omega,⟨by omega,Y.out⟩,Z.out,b.out.kb,b.out.kr,b.out.o,b.out.i,aa.out,b.out.s,b.out.c⟩
      case measure=>(simp [intOf];try omega)
     ·intro a0 O
      go_simp
      refine⟨xH,(vf.2 (yV bs l p (D - lo+1) ds PX.out.s (by omega) (by omega))).mono ?_⟩
      rintro e av ⟨x,rfl,c9,bu,bv⟩;have E:=qG (PX.out.draw bu bv)
      have bh:=qG (b6.out av lo (lo+x/2) ce.1 (by omega) (by rw [y.out];omega) E.out)
      have Q:=qG (Kc (lo:=lo) (hi:=lo+x/2) C.out.1 C.out.2.1 C.out.2.2 (by omega) ce.1 (by omega) (by rw [y.out];omega))
      have wc:IntKind.i64.wrap (lo+x/2)=lo+x/2:=i64w _ (by omega) (by omega)
      have wd:IntKind.i64.wrap (x/2)=x/2:=i64w _ (by omega) (by omega)
      have cy:IntKind.i64.wrap (x.tdiv 2)=x/2:=by rw [Int.tdiv_eq_ediv_of_nonneg c9.1];exact wd
      clear bu bv;refine O _ _ ?_
      refine wpAnyIn_take (i:=9) (fuel:=4) (v:=.int .i64 (x/2)) rfl rfl (by kernel_rfl) (by kernel_rfl) (by kernel_rfl) (fun _ _ _ a=>a) ⟨Or.inl ⟨by rfl,?_⟩,fun w=>by rfl⟩ ?_
      ·intro w;go_simp
      refine wpAnyIn_take (i:=10) (fuel:=3) (v:=.int .i64 (lo+x/2)) rfl rfl (by kernel_rfl) (by kernel_rfl) (by kernel_rfl) (fun _ _ _ a=>a) ⟨Or.inl ⟨by rfl,?_⟩,fun w=>by rfl⟩ ?_
      ·intro w;go_simp
      obtain⟨e3,e4,e5,e6⟩:=E.out.cells
      refine jL (i1:=0) (i2:=11) (i3:=12) rfl rfl rfl (by kernel_rfl) ?_
      gi_wp2_with fail
      refine⟨xH,(vf.2 bh.out).mono ?_⟩;rintro e aw ⟨bw,bx,rfl,t,h,G,H⟩
      generalize (if lo=lo+x/2 then T else delP zs T lo (lo+x/2))=d at h Q
      have Y:=qG (show d.rns+11*(A:Int)<=320 by have K:=Q.out.2.2.2;rw [y.out]at K;omega)
      have Z:=qG (show d.ok∧d.bal∧d.wp zs from⟨Q.out.1,Q.out.2.1,Q.out.2.2.1⟩)
      obtain⟨a2,bz,I⟩:=zj t;obtain⟨a6,b0,J⟩:=zc h;generalize zs.length=bi at I;generalize (d.told 0).length=bj at J;subst I J;clear wc wd cy bh Q b6;have z:=qG (E.out.below G);have cz:=E.out.lt;have b:=qG (z.out.store cz t h);have aa:=qG H;obtain⟨u0,u1,u2,u3⟩:=z.out.cells;clear t h G H
      gi_wp2_with fail
      go_wp2_with fail;go_roundw
      case rel=>exact⟨A,zs,d,_,_,by first | rfl | go_num | (congr 1;omega),by omega,⟨by omega,Y.out⟩,Z.out,b.out.kb,b.out.kr,b.out.o,b.out.i,aa.out,b.out.s,b.out.c⟩
      case measure=>(simp [intOf];try omega)
    | false=>
     have el:=ax.out.lt;obtain⟨bp,bq,br,bt⟩:=ax.out.cells
     go_upto_region 11 with fail
     have ek:IntKind.i64.wrap (D+1)=D+1:=i64w _ (by omega) (by omega)
     refine(wpIn_wide (n:=6)).1 ?_
     refine wpIn_region_any (by kernel_rfl) ?_
     refine wpAnyIn_take (i:=1) (fuel:=10) (v:=.pointer (some ⟨p,0,none⟩)) rfl rfl (by kernel_rfl) (by kernel_rfl) (by kernel_rfl) (fun _ _ _ a=>a) ⟨Or.inl ⟨by rfl,?_⟩,fun w=>by rfl⟩ ?_
     ·intro w;go_simp
     refine wpAnyIn_take (i:=2) (fuel:=9) (v:=.int .i64 D) rfl rfl (by kernel_rfl) (by kernel_rfl) (by kernel_rfl) (fun _ _ _ a=>a) ⟨Or.inl ⟨by rfl,?_⟩,fun w=>by rfl⟩ ?_
     ·intro w;go_simp
     refine wpAnyIn_take (i:=3) (fuel:=8) (v:=.int .i64 (D+1)) rfl rfl (by kernel_rfl) (by kernel_rfl) (by kernel_rfl) (fun _ _ _ a=>a) ⟨Or.inl ⟨by rfl,?_⟩,fun w=>by rfl⟩ ?_
     ·intro w;go_simp
     refine wpAnyIn_take (i:=5) (fuel:=7) (v:=.pointer (some ⟨p,0,none⟩)) rfl rfl (by kernel_rfl) (by kernel_rfl) (by kernel_rfl) (fun _ _ _ a=>a) ⟨Or.inl ⟨by rfl,?_⟩,fun w=>by rfl⟩ ?_
     ·intro w;go_simp
     refine wpAnyIn_take (i:=6) (fuel:=6) (v:=.pointer (some ⟨p,0,none⟩)) rfl rfl (by kernel_rfl) (by kernel_rfl) (by kernel_rfl) (fun _ _ _ a=>a) ⟨Or.inl ⟨by rfl,?_⟩,fun w=>by rfl⟩ ?_
     ·intro w;go_simp
     have PX:=qG (show PBS bs l p bb w zs T (.slice (some ⟨gs,0,none⟩) zs.length cs) (.slice ag T.its ah) {bo with drawn:=bo.drawn+1} from ax.out.below ⟨rfl,rfl,rfl,lR,fun _ _=>rfl⟩)
     generalize ({bo with drawn:=bo.drawn+1}:World)=dt at *
     clear ax bp bq br bt el;obtain⟨bp,bq,br,bt⟩:=PX.out.cells
     refine wpAnyIn_ready (rs:=[0,4]) (by kernel_rfl) (by simp) (AllReadyIn.cons rfl ?_ (AllReadyIn.cons rfl ?_ AllReadyIn.nil))
     ·intro a0 O
      go_simp;refine O _ _ ?_
      refine Z1 (i1:=4) (i2:=7) (i3:=8) (i4:=9) (i5:=10) rfl rfl rfl rfl rfl (by kernel_rfl) ?_
      gi_wp2_with fail
      refine⟨xH,(vf.2 (yV bs l p (D+1) dt PX.out.s (by omega) (by omega))).mono ?_⟩
      rintro e av ⟨off,rfl,aq,o,s⟩;have E:=qG (PX.out.draw o s);clear o s
      gi_wp2_with fail
      refine⟨xH,(vf.2 (yV bs l p 12 av E.out.s (by omega) (by omega))).mono ?_⟩
      rintro e aw ⟨d2,rfl,b1,o,s⟩;have z:=qG (E.out.draw o s);clear o s;obtain⟨m,rfl⟩:=xZ b1.1
      gi_wp2_with fail
      refine⟨xH,(vf.2 (jx bs l p m aw z.out.s (by omega))).mono ?_⟩
      rintro e a7 ⟨af,ak,ts,rfl,u,aj,o,s⟩;have L:=qG (z.out.draw o s);have c0:=z.out.lt
      have N:=qG (ar.out a7 ts off af ak aq.1 (by rw [y.out];omega) (by omega) (by rw [u];exact zD aj (by omega)) L.out)
      have f:=qG (Zz (ts:=ts) (off:=off) C.out.1 C.out.2.1 C.out.2.2 aq.1 (by rw [y.out];omega) (by rw [y.out];omega) (by omega))
      have ay:=qG u
      have ab:=qG (show(zs++ts).length=zs.length+m by rw [qM,u])
      rw [u]at N;clear o s aj u
      gi_wp2_with fail
      refine⟨xH,(vf.2 N.out).mono ?_⟩;rintro e da ⟨bw,bx,rfl,t,h,G,H⟩;rw [ay.out]at f
      generalize (if m=0 then T else insP (zs++ts) zs.length T off)=d at h f
      have Y:=qG (show(zs++ts).length+11*A<=320∧d.rns+11*(A:Int)<=320 from⟨by rw [ab.out];omega,by have K:=f.out.2.2.2;rw [y.out]at K;omega⟩)
      have Z:=qG (show d.ok∧d.bal∧d.wp (zs++ts)from⟨f.out.1,f.out.2.1,f.out.2.2.1⟩)
      generalize zs++ts=ae at *;obtain⟨a2,bz,I⟩:=zj t;obtain⟨a6,b0,J⟩:=zc h;generalize ae.length=bi at I;generalize (d.told 0).length=bj at J;subst I J;clear N f ar ab;have ac:=qG (L.out.below G);have az:=L.out.lt;have b:=qG (ac.out.store az t h);have aa:=qG H;obtain⟨u0,u1,u2,u3⟩:=ac.out.cells;clear t h G H
      gi_wp2_with fail
      go_wp2_with fail;go_roundw
      case rel=>exact⟨A,ae,d,_,_,by first | rfl | go_num | (congr 1;omega),by omega,Y.out,Z.out,b.out.kb,b.out.kr,b.out.o,b.out.i,aa.out,b.out.s,b.out.c⟩
      case measure=>(simp [intOf];try omega)
     ·intro a0 O
      go_simp
      refine⟨xH,(vf.2 (yV bs l p (D+1) dt PX.out.s (by omega) (by omega))).mono ?_⟩
      rintro e av ⟨off,rfl,aq,o,s⟩;have E:=qG (PX.out.draw o s);clear o s;refine O _ _ ?_;obtain⟨em,cw,fs,ft⟩:=E.out.cells
      refine wpAnyIn_ready (rs:=[0,7]) (by kernel_rfl) (by simp) (AllReadyIn.cons rfl ?_ (AllReadyIn.cons rfl ?_ AllReadyIn.nil))
      ·intro a0 O
       go_simp;refine O _ _ ?_
       refine Js (i1:=7) (i2:=8) (i3:=9) (i4:=10) rfl rfl rfl rfl (by kernel_rfl) ?_
       gi_wp2_with fail
       refine⟨xH,(vf.2 (yV bs l p 12 av E.out.s (by omega) (by omega))).mono ?_⟩
       rintro e aw ⟨d2,rfl,b1,o,s⟩;have z:=qG (E.out.draw o s);clear o s;obtain⟨m,rfl⟩:=xZ b1.1
       gi_wp2_with fail
       refine⟨xH,(vf.2 (jx bs l p m aw z.out.s (by omega))).mono ?_⟩
       rintro e a7 ⟨af,ak,ts,rfl,u,aj,o,s⟩;have L:=qG (z.out.draw o s);have c0:=z.out.lt
       have N:=qG (ar.out a7 ts off af ak aq.1 (by rw [y.out];omega) (by omega) (by rw [u];exact zD aj (by omega)) L.out)
       have f:=qG (Zz (ts:=ts) (off:=off) C.out.1 C.out.2.1 C.out.2.2 aq.1 (by rw [y.out];omega) (by rw [y.out];omega) (by omega))
       have ay:=qG u
       have ab:=qG (show(zs++ts).length=zs.length+m by rw [qM,u])
       rw [u]at N;clear o s aj u
       gi_wp2_with fail
       refine⟨xH,(vf.2 N.out).mono ?_⟩;rintro e da ⟨bw,bx,rfl,t,h,G,H⟩;rw [ay.out]at f
       generalize (if m=0 then T else insP (zs++ts) zs.length T off)=d at h f
       have Y:=qG (show(zs++ts).length+11*A<=320∧d.rns+11*(A:Int)<=320 from⟨by rw [ab.out];omega,by have K:=f.out.2.2.2;rw [y.out]at K;omega⟩)
       have Z:=qG (show d.ok∧d.bal∧d.wp (zs++ts)from⟨f.out.1,f.out.2.1,f.out.2.2.1⟩)
       generalize zs++ts=ae at *;obtain⟨a2,bz,I⟩:=zj t;obtain⟨a6,b0,J⟩:=zc h;generalize ae.length=bi at I;generalize (d.told 0).length=bj at J;subst I J;clear N f ar ab;have ac:=qG (L.out.below G);have az:=L.out.lt;have b:=qG (ac.out.store az t h);have aa:=qG H;obtain⟨u0,u1,u2,u3⟩:=ac.out.cells;clear t h G H
       gi_wp2_with fail
       go_wp2_with fail;go_roundw
       case rel=>exact⟨A,ae,d,_,_,by first | rfl | go_num | (congr 1;omega),by omega,Y.out,Z.out,b.out.kb,b.out.kr,b.out.o,b.out.i,aa.out,b.out.s,b.out.c⟩
       case measure=>(simp [intOf];try omega)
      ·intro a0 O
       go_simp
       refine⟨xH,(vf.2 (yV bs l p 12 av E.out.s (by omega) (by omega))).mono ?_⟩
       rintro e aw ⟨d2,rfl,b1,o,s⟩;have z:=qG (E.out.draw o s);clear o s;obtain⟨m,rfl⟩:=xZ b1.1;refine O _ _ ?_;obtain⟨e3,e4,e5,e6⟩:=z.out.cells
       refine wpAnyIn_ready (rs:=[0,8]) (by kernel_rfl) (by simp) (AllReadyIn.cons rfl ?_ (AllReadyIn.cons rfl ?_ AllReadyIn.nil))
       ·intro a0 O
        go_simp;refine O _ _ ?_
        refine jL (i1:=8) (i2:=9) (i3:=10) rfl rfl rfl (by kernel_rfl) ?_
        gi_wp2_with fail
        refine⟨xH,(vf.2 (jx bs l p m aw z.out.s (by omega))).mono ?_⟩
        rintro e a7 ⟨af,ak,ts,rfl,u,aj,o,s⟩;have L:=qG (z.out.draw o s);have c0:=z.out.lt
        have N:=qG (ar.out a7 ts off af ak aq.1 (by rw [y.out];omega) (by omega) (by rw [u];exact zD aj (by omega)) L.out)
        have f:=qG (Zz (ts:=ts) (off:=off) C.out.1 C.out.2.1 C.out.2.2 aq.1 (by rw [y.out];omega) (by rw [y.out];omega) (by omega))
        have ay:=qG u
        have ab:=qG (show(zs++ts).length=zs.length+m by rw [qM,u])
        rw [u]at N;clear o s aj u
        gi_wp2_with fail
        refine⟨xH,(vf.2 N.out).mono ?_⟩;rintro e da ⟨bw,bx,rfl,t,h,G,H⟩;rw [ay.out]at f
        generalize (if m=0 then T else insP (zs++ts) zs.length T off)=d at h f
        have Y:=qG (show(zs++ts).length+11*A<=320∧d.rns+11*(A:Int)<=320 from⟨by rw [ab.out];omega,by have K:=f.out.2.2.2;rw [y.out]at K;omega⟩)
        have Z:=qG (show d.ok∧d.bal∧d.wp (zs++ts)from⟨f.out.1,f.out.2.1,f.out.2.2.1⟩)
        generalize zs++ts=ae at *;obtain⟨a2,bz,I⟩:=zj t;obtain⟨a6,b0,J⟩:=zc h;generalize ae.length=bi at I;generalize (d.told 0).length=bj at J;subst I J;clear N f ar ab;have ac:=qG (L.out.below G);have az:=L.out.lt;have b:=qG (ac.out.store az t h);have aa:=qG H;obtain⟨u0,u1,u2,u3⟩:=ac.out.cells;clear t h G H
        gi_wp2_with fail
        go_wp2_with fail;go_roundw
        case rel=>exact⟨A,ae,d,_,_,by first | rfl | go_num | (congr 1;omega),by omega,Y.out,Z.out,b.out.kb,b.out.kr,b.out.o,b.out.i,aa.out,b.out.s,b.out.c⟩
        case measure=>(simp [intOf];try omega)
       ·intro a0 O
        go_simp
        refine⟨xH,(vf.2 (jx bs l p m aw z.out.s (by omega))).mono ?_⟩
        rintro e a7 ⟨af,ak,ts,rfl,u,aj,o,s⟩;have L:=qG (z.out.draw o s);have c0:=z.out.lt
        have N:=qG (ar.out a7 ts off af ak aq.1 (by rw [y.out];omega) (by omega) (by rw [u];exact zD aj (by omega)) L.out)
        have f:=qG (Zz (ts:=ts) (off:=off) C.out.1 C.out.2.1 C.out.2.2 aq.1 (by rw [y.out];omega) (by rw [y.out];omega) (by omega))
        have ay:=qG u
        have ab:=qG (show(zs++ts).length=zs.length+m by rw [qM,u])
        rw [u]at N;clear o s aj u;refine O _ _ ?_;obtain⟨fu,fv,fw,dx⟩:=L.out.cells
        refine jL (i1:=0) (i2:=9) (i3:=10) rfl rfl rfl (by kernel_rfl) ?_
        gi_wp2_with fail
        refine⟨xH,(vf.2 N.out).mono ?_⟩;rintro e da ⟨bw,bx,rfl,t,h,G,H⟩;rw [ay.out]at f
        generalize (if m=0 then T else insP (zs++ts) zs.length T off)=d at h f
        have Y:=qG (show(zs++ts).length+11*A<=320∧d.rns+11*(A:Int)<=320 from⟨by rw [ab.out];omega,by have K:=f.out.2.2.2;rw [y.out]at K;omega⟩)
        have Z:=qG (show d.ok∧d.bal∧d.wp (zs++ts)from⟨f.out.1,f.out.2.1,f.out.2.2.1⟩)
        generalize zs++ts=ae at *;obtain⟨a2,bz,I⟩:=zj t;obtain⟨a6,b0,J⟩:=zc h;generalize ae.length=bi at I;generalize (d.told 0).length=bj at J;subst I J;clear N f ar ab;have ac:=qG (L.out.below G);have az:=L.out.lt;have b:=qG (ac.out.store az t h);have aa:=qG H;obtain⟨u0,u1,u2,u3⟩:=ac.out.cells;clear t h G H
        gi_wp2_with fail
        go_wp2_with fail;go_roundw
        case rel=>exact⟨A,ae,d,_,_,by first | rfl | go_num | (congr 1;omega),by omega,Y.out,Z.out,b.out.kb,b.out.kr,b.out.o,b.out.i,aa.out,b.out.s,b.out.c⟩
        case measure=>(simp [intOf];try omega)
   ·obtain rfl:j=0:=by omega
    have ck:wr.cell? ⟨w.heap.size,0,none⟩=some (.slice none 0 0):=by rw [qQ wr _ 0 _ _ _ a5];rfl
    have cl:wr.cell? ⟨w.heap.size,1,none⟩=some (.slice none 0 0):=by rw [qQ wr _ 1 _ _ _ a5];rfl
    have d4:=xo wr w.heap.size 0 _ _ a5;have d5:=xo wr w.heap.size 1 _ _ a5
    have em:wr.cell? ⟨bb,0,none⟩=some F:=by rw [qQ wr _ 0 _ _ _ be];rfl
    have cw:wr.cell? ⟨bb,1,none⟩=some M:=by rw [qQ wr _ 1 _ _ _ be];rfl
    have cm:=qG R;have cn:=qG S
    have X:=qG (And.intro ad (And.intro am (And.intro an (And.intro (show T.rns<=5080 by omega) (show zs.length<=400 by omega)))))
    have a9:=qG cb;have ba:=qG bn
    have co:=qG (fun q P=>(R.lt q P).1)
    have cp:=qG (fun q P=>(S.lt q P).1)
    subst bd bm;clear R S ad am an ca cb bn be a5 ap b4;go_wp2
    refine xr (v:=.agg #[.slice (some ⟨gs,0,none⟩) zs.length cs,.slice ag T.its ah]) (by simp [results,Tryz.results6,go_sem,ck,cl]) rfl ⟨_,_,zs,T,rfl,?_,?_,X.out.1,X.out.2.1,X.out.2.2.1,X.out.2.2.2.1,X.out.2.2.2.2,?_,?_,⟨_,_,_,rfl⟩⟩
    ·exact zB (zD cm.out (by omega)) (fun q P=>by have K:=co.out q P;rw [xn _ ⟨w.heap.size,1,none⟩ _ _ (by show q≠w.heap.size;omega),xn _ ⟨w.heap.size,0,none⟩ _ _ (by show q≠w.heap.size;omega)])
    ·exact zB (zD cn.out (by omega)) (fun q P=>by have K:=cp.out q P;rw [xn _ ⟨w.heap.size,1,none⟩ _ _ (by show q≠w.heap.size;omega),xn _ ⟨w.heap.size,0,none⟩ _ _ (by show q≠w.heap.size;omega)])
    ·exact(a9.out.below (B:=w.heap.size) ((qO w.heap.size wr).setCell (by simp) _) a8 (by omega)).below (B:=w.heap.size) ((qO w.heap.size _).setCell (by simp) _) a8 (by simp;omega)
    ·exact(ba.out.setCell _ _ (.inr (by simp))).setCell _ _ (.inr (by simp))
end Go.Proofs.YtljdnoinennfaaaGreatDoor
