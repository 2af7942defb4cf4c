import Derived.Test.YtmjanhcplcalfaaGreatDoorMq13
import Derived.Test.YtmjanhcplcalfaaGreatDoorMq08
set_option linter.all false
set_option maxRecDepth 100000
set_option maxHeartbeats 8000000
namespace Go.Proofs.YtmjanhcplcalfaaGreatDoor
open Go Go.RowKit Go.Proofs.Tryz
theorem RdI.takeX {B:Nat} {w:World} {b off cap n:Nat} {xs:List It} (f:RdI B w (.slice (qK b off) n cap) xs) (g:xs.length=n) (j:Nat) (m:j<=n):RdI B w (.slice (qK b off) j cap) (xs.take j):=by
 by_cases d:j=0
 ·subst d;exact .inl ⟨_,_,rfl,rfl⟩
 obtain⟨o,p,q,e,h,k,l⟩:=f.at (by intro e;subst e;simp at g;omega)
 cases e;have c:(xs.take j).length=j:=by rw [qN];omega
 refine .inr ⟨_,_,_,by rw [c],⟨by omega,by omega,h.2.2⟩,k,fun i x a=>l i x ?_⟩;rw [xN]at a
 split at a
 ·exact a
 cases a
theorem jF {T:AT} (b:T.ok):Pcs (T.told 0):=fun x a=>b.1 _ (by rw [<- AT.qj T 0];exact kL.2 ⟨x,a,rfl⟩)
theorem ownI_its {w:World} {base:Nat} {v:Value} {T:AT} (a:OwI w base v (T.told 0)) (d:0<T.its):∃g c,v= .slice (qK g 0) T.its c∧OwI w base (.slice (qK g 0) T.its c) (T.told 0):=by
 rcases a.shape with ⟨_,b⟩ | ⟨g,c,rfl,_⟩
 ·have:=AT.told_length T 0
  rw [b]at this;simp at this;omega
 rw [AT.told_length]at a |-;exact⟨g,c,rfl,a⟩
theorem cutS0 (n a b R:Nat) (g:Value) (off:Int) (w:World) (m:R<=n) (o:n<=a) (h:a<=maxLen)
  (i:Hid (Calls prog 52 #[.slice (qK b 0) n a,qJ off] w fun e w'=>e= .returned (qJ (R:Nat))∧w'=w))
  (j:Hid (Calls prog 27 #[.slice (qK b 0) R a] w fun e w'=>e= .returned (qJ off)∧Below w.heap.size w w')):
  Calls prog 51 #[g,.slice (qK b 0) n a,qJ off] w fun e w'=>e= .returned (.slice (qK b 0) n a)∧Below w.heap.size w w':=by
 unfold maxLen at h;have l:(R:Int)<=(a:Int):=by omega
 go_enter func51,ntmps51;go_wp2_with fail;refine i.mono ?_;rintro e w1 ⟨rfl,k⟩;have d:=k.symm;subst d;go_wp2_with fail;refine j.mono ?_;rintro e p ⟨rfl,c⟩;have f:=qG c;clear c;go_wp2;go_ret;exact⟨rfl,f⟩
theorem cutS1 (S:List Int) (T U:AT) (y:It) (b o cap base l f r:Nat) (off a:Int) (w:World) (N:∀i,i<S.length->w.cell? ⟨b,o+i,none⟩=some (.int .i32 (S.getD i 0))) (al:b<w.heap.size) (am:S.length<=cap) (an:cap<=maxLen) (bq:S.length<=220000)
  (E:OwI w base (.slice (qK l 0) T.its f) (T.told 0)) (ba:T.its<=8192) (ao:T.bal) (br:base<=w.heap.size) (O:(T.told 0)[r]? =some y) (bs:r<T.its)
  (bc:0<=y.pc.off) (bt:y.pc.off+y.pc.len<=S.length) (bu:1<=y.pc.len) (bv:y.pc.len<=8192) (bw:0<=off) (v:off<a) (P:a<=8192) (ap:1<=y.pc.len - (a - off))
  (aq:(T.put r (pcAt S y.pc.off (y.pc.len - (a - off)))).ins (r+1) (pcAt S (y.pc.off+y.pc.len - (a - off)) (a - off))=U)
  (ar:Hid (Calls prog 52 #[.slice (qK l 0) T.its f,qJ off] w fun e w'=>e= .returned (qJ ((r:Int)+1))∧w'=w))
  (au:Hid (Calls prog 27 #[.slice (qK l 0) (r+1) f] w fun e w'=>e= .returned (qJ a)∧Below w.heap.size w w')):
  Calls prog 51 #[.slice (qK b o) S.length cap,.slice (qK l 0) T.its f,qJ off] w fun e w'=>∃s,e= .returned s∧OwI w' w.heap.size s (U.told 0)∧Below w.heap.size w w':=by
 have t:=AT.told_length T 0
 obtain⟨bx,be⟩:T.its<=f∧f<=maxLen:=by
  rcases E.2 with ⟨v,_⟩ | ⟨g,cp,bz,v,_,_,P,ap,_⟩
  ·cases v
  rw [t]at v P;cases v;exact⟨P,ap⟩
 have bh:=(E.lt l rfl).2;have G:=qG (fun c (k:Below w.heap.size w c)=>copyS (T.told 0) l 0 f c (fun j a7 a8=>(show OwI c base (.slice (qK l 0) (T.told 0).length f) (T.told 0)from(by rw [t];exact zB E k lR)).cells j a7 a8) (by have:=k.size;omega) (by omega));rw [t]at G;have ab:=qG (fun c (k:Below w.heap.size w c)=>yo S b o cap y.pc.off (y.pc.len - (a - off)) c (fun i hi=>(k.cell (p:=⟨b,o+i,none⟩) al).trans (N i hi)) (by have:=k.size;omega) bc (by omega) (by omega) am an (by omega));have ac:=qG (fun c (k:Below w.heap.size w c)=>yo S b o cap (y.pc.off+y.pc.len - (a - off)) (a - off) c (fun i hi=>(k.cell (p:=⟨b,o+i,none⟩) al).trans (N i hi)) (by have:=k.size;omega) (by omega) (by omega) (by omega) am an (by omega))
 have A:=qG (fun g cp c (bd:OwI c w.heap.size (.slice (qK g 0) T.its cp) ((T.put r (pcAt S y.pc.off (y.pc.len - (a - off)))).told 0))=>(show Calls prog 56 #[.slice (qK g 0) T.its cp,qJ ((r:Int)+1),pcV (pcAt S (y.pc.off+y.pc.len - (a - off)) (a - off))] c fun e w'=>∃s,e= .returned s∧OwI w' c.heap.size s (U.told 0)∧Below c.heap.size c w' from(by
  have h:=zEp (T.put r (pcAt S y.pc.off (y.pc.len - (a - off)))) (r+1) (pcAt S (y.pc.off+y.pc.len - (a - off)) (a - off)) w.heap.size g cp c (AT.qk _ _ _ ao) (by rw [AT.qi];exact ba) (by rw [AT.qi];omega) (by rw [AT.qi];exact bd);rw [AT.qi,aq]at h
  exact h)))
 have ad:=qG (AT.qu T r (pcAt S y.pc.off (y.pc.len - (a - off))) 0 y O);have ae:=qG (show((T.put r (pcAt S y.pc.off (y.pc.len - (a - off)))).told 0).length=T.its by rw [AT.told_length,AT.qi]);have H:=qG O;have ax:=qG t;unfold pcV at A;unfold pcAt at A ad ae;simp only at A;generalize brk (List.take (y.pc.len - (a - off)).toNat (List.drop y.pc.off.toNat S))=C at *
 generalize brk (List.take (a - off).toNat (List.drop (y.pc.off+y.pc.len - (a - off)).toNat S))=k2 at *
 generalize T.put r ⟨y.pc.off,y.pc.len - (a - off),C⟩=ak at *
 clear aq ao O t E N;generalize T.told 0=X at *
 generalize T.its=n at *
 have bi:¬a=off:=by omega
 have bj:(r:Int)+1<=(f:Int):=by omega
 have bk:(r:Int)<(n:Int):=by omega
 unfold maxLen at be;go_enter func51,ntmps51;go_wp2_with fail;refine ar.mono ?_;rintro e w1 ⟨rfl,bf⟩;have ay:=bf.symm;subst ay;go_wp2_with fail;refine au.mono ?_;rintro e Q ⟨rfl,R⟩;have af:=qG R;have ag:=R.size;clear R ar au;go_wp2_with fail;refine(G _ af).mono ?_;rintro e d ⟨g,cp,rfl,V,W⟩;have bl:=V.lt g rfl;have bm:=W.size
 have I:d.ownsRow Q.heap.size 65 4 (.slice (qK g 0) n cp) n (itVs X):=by
  have h:=V;unfold OwI at h;rw [ax.out]at h;exact h
 obtain⟨Y,Z,aa⟩:=OwI.c3 I H;have J:=qG ((af.trans (W.mono ag)).alloc (by omega) (.cells #[qJ y.pc.off,qJ y.pc.len,qJ y.pc.brk] 63));have ah:=qG (vI I (.cells #[qJ y.pc.off,qJ y.pc.len,qJ y.pc.brk] 63));have B:=qG (show(d.alloc (.cells #[qJ y.pc.off,qJ y.pc.len,qJ y.pc.brk] 63)).heap[d.heap.size]? =some (.cells #[qJ y.pc.off,qJ y.pc.len,qJ y.pc.brk] 63 (0,0))from xg _ _);have az:d.heap.size<(d.alloc (.cells #[qJ y.pc.off,qJ y.pc.len,qJ y.pc.brk] 63)).heap.size:=by simp
 clear W V I G;go_upto_region 7 with fail;generalize d.alloc (.cells #[qJ y.pc.off,qJ y.pc.len,qJ y.pc.brk] 63)=D at *
 have K:D.cell? ⟨d.heap.size,0,none⟩=some (qJ y.pc.off):=by rw [qP D _ 0 _ _ _ B.out];rfl
 have L:D.cell? ⟨d.heap.size,1,none⟩=some (qJ y.pc.len):=by rw [qP D _ 1 _ _ _ B.out];rfl
 clear Y Z aa;go_wp2_with fail;refine(ab _ J).mono ?_;rintro e m ⟨rfl,x⟩;have bn:=x.size;have q:m.ownsRow Q.heap.size 65 4 (.slice (qK g 0) n cp) n (itVs X):=zB ah x lR;have hst:=OwI.setPc q H ⟨y.pc.off,y.pc.len - (a - off),C⟩;rw [<- ad.out]at hst;have a0:=qG hst;have a1:m.frozen? ⟨g,r*4,none⟩=false:=q.frozenAt _;have a2:m.frozen? ⟨g,r*4+1,none⟩=false:=q.frozenAt _;have a3:m.frozen? ⟨g,r*4+2,none⟩=false:=q.frozenAt _;obtain⟨Y,Z,aa⟩:=OwI.c3 q H;have ai:=qG ((J.trans (x.mono (by omega))).grown hst.2 (by omega) (fun z a9=>by cases a9;omega));have aj:=qG ((hst.2.block d.heap.size (by omega) (by intro h;cases h;omega)).trans ((x.block d.heap.size az).trans B));have bo:m.heap.size<=(((m.setCell ⟨g,r*4,none⟩ (qJ y.pc.off)).setCell ⟨g,r*4+1,none⟩ (qJ (y.pc.len - (a - off)))).setCell ⟨g,r*4+2,none⟩ (qJ C)).heap.size:=hst.2.size;clear x q hst K L ab J ah B;go_upto_region 9 with fail;generalize ((m.setCell ⟨g,r*4,none⟩ (qJ y.pc.off)).setCell ⟨g,r*4+1,none⟩ (qJ (y.pc.len - (a - off)))).setCell ⟨g,r*4+2,none⟩ (qJ C)=u at *
 clear Y Z aa a1 a2 a3;have K:u.cell? ⟨d.heap.size,0,none⟩=some (qJ y.pc.off):=by rw [qP u _ 0 _ _ _ aj.out];rfl
 have L:u.cell? ⟨d.heap.size,1,none⟩=some (qJ y.pc.len):=by rw [qP u _ 1 _ _ _ aj.out];rfl
 go_wp2_with fail;refine(ac _ ai).mono ?_;rintro e bg ⟨rfl,F⟩;have bp:=F.size;have M:=qG (ai.trans (F.mono (by omega)));have a4:=qG (show OwI bg w.heap.size (.slice (qK g 0) n cp) (ak.told 0)from zD (zB (show OwI u Q.heap.size (.slice (qK g 0) n cp) (ak.told 0)from(by unfold OwI;rw [ae.out];exact a0.1)) F lR) ag);clear F K L ac;go_wp2_with fail;refine(A _ _ _ a4).mono ?_;rintro e b0 ⟨s,rfl,av,aw⟩;have a5:=qG (OwI.base av M.size);have a6:=qG (M.trans (aw.mono M.size));clear av aw;go_wp2;go_ret;exact⟨_,rfl,a5,a6⟩
theorem cutS (S:List Int) (T:AT) (off:Int) (b o cap base r h:Nat) (w:World) (Z:∀i,i<S.length->w.cell? ⟨b,o+i,none⟩=some (.int .i32 (S.getD i 0))) (aa:b<w.heap.size) (ab:S.length<=cap) (ac:cap<=maxLen) (ad:S.length<=220000) (d:T.ok) (ae:T.bal) (af:T.wp S) (u:0<=off) (f:off<=T.rns) (v:OwI w base (.slice (qK r 0) T.its h) (T.told 0)) (K:base<=w.heap.size):
  Calls prog 51 #[.slice (qK b o) S.length cap,.slice (qK r 0) T.its h,qJ off] w fun e w'=>∃g c,e= .returned (.slice (qK g 0) (cutP S T off).its c)∧OwI w' base (.slice (qK g 0) (cutP S T off).its c) ((cutP S T off).told 0)∧Below w.heap.size w w':=by
 have E:=AT.told_length T 0;have am:=d.bd
 obtain⟨ag,ah⟩:T.its<=h∧h<=maxLen:=by
  rcases v.2 with ⟨f,_⟩ | ⟨g,cp,ao,f,_,_,L,ai,_⟩
  ·cases f
  rw [E]at f L;cases f;exact⟨L,ai⟩
 have G:=OwI.rd v;have m:=rankS w.heap.size _ (T.told 0) off w G (by omega) (jF d);have M:=Kc d u f;rw [<- M]at m;obtain⟨a,s,c⟩:=sk_at d u f;have H:=fun j (X:j<=T.its)=>zAh w.heap.size _ _ w (G.takeX E j X) lR (by rw [qN];omega) (fun x D=>jF d x (xJ D))
 by_cases hi:skI T off=0
 ·have A:cutN T off=skR T off:=by rw [cutN,xd hi];omega
  rw [A]at m;have n:=H (skR T off) a;rw [yV,s,hi,Int.sub_zero]at n;rw [cutP,xd hi];refine(cutS0 T.its h r (skR T off) _ off w a ag ah (qG m) (qG n)).mono ?_;rintro e w' ⟨rfl,z⟩;exact⟨r,h,rfl,OwI.below v z lR,z⟩
 obtain⟨ap,aq,k⟩:=c.resolve_left hi;have I:skR T off<T.its:=by rw [<- AT.qh];exact(zW k).2
 have A:cutN T off=skR T off+1:=by rw [cutN,qZ hi]
 rw [A]at m;have n:=H (skR T off+1) I;have N:=d.1 _ (qT k);have t:=(zR S T).1 af _ (qT k);simp only [pcOk,qU]at N;have O:=t.2.2.1
 have P:total ((T.told 0).take (skR T off+1))=off - skI T off+(skP T off).len:=by
  rw [yV];have Q:=(zW k).1
  conv=>lhs;rw [Q]
  rw [jg _ _ _ _ (by rw [qN];have:=(zW k).2;omega),zK,zJ,jf,s];omega
 rw [P]at n;obtain⟨y,aj,l⟩:=XN k
 have R:off - skI T off+(skP T off).len<=8192:=by
  have U:=(jF d).total (skR T off+1);have J:=d.2;rw [<- AT.rns_told T 0]at J
  have B:total (T.told 0)=total ((T.told 0).take (skR T off+1))+total ((T.told 0).drop (skR T off+1)):=by
   rw [<- zq,xw]
  have an:0<=total ((T.told 0).drop (skR T off+1)):=by
   rw [ZP]
   have C:∀p∈((T.told 0).drop (skR T off+1)).map It.pc,1<=p.len:=by
    intro p t;obtain⟨x,D,rfl⟩:=kL.1 t;exact Yj d x (xT D)
   generalize ((T.told 0).drop (skR T off+1)).map It.pc=F at C;clear U B J
   induction F with
   | nil=>simp [lsum]
   | cons p F al=>rw [zJ];have:=C p (by simp);have:=al (fun q Y=>C q (by simp [Y]));omega
  omega
 have V:(T.put (skR T off) (pcAt S y.pc.off (y.pc.len - (off - skI T off+(skP T off).len - off)))).ins (skR T off+1) (pcAt S (y.pc.off+y.pc.len - (off - skI T off+(skP T off).len - off)) (off - skI T off+(skP T off).len - off))=cutP S T off:=by
  rw [cutP,qZ hi,l,show(skP T off).len - (off - skI T off+(skP T off).len - off)=skI T off by omega,show(skP T off).off+(skP T off).len - (off - skI T off+(skP T off).len - off)=(skP T off).off+skI T off by omega,show off - skI T off+(skP T off).len - off=(skP T off).len - skI T off by omega]
 have W:=t.1;refine(cutS1 S T _ y b o cap base r h (skR T off) off (off - skI T off+(skP T off).len) w Z aa ab ac ad v (by omega) ae K aj I (by rw [l];exact W) (by rw [l];exact O) (by rw [l];omega) (by rw [l];omega) u (by omega) R (by rw [l];omega) V (qG m) (qG n)).mono ?_;rintro e w' ⟨ar,rfl,ak,z⟩;obtain⟨g,c,rfl,B⟩:=ownI_its ak (by rw [<- AT.qh,yN d u f hi];simp;omega);exact⟨g,c,rfl,OwI.base B K,z⟩
theorem Zr {w:World} {base:Nat} {v:Value} {zs:List Int} {n:Nat} (b:own32 w base v zs) (e:zs.length=n) (f:v≠ .slice none 0 0):∃g c,v= .slice (qK g 0) n c∧n<=c∧c<=maxLen∧base<=g∧g<w.heap.size:=by
 rcases b.2 with ⟨h,_⟩ | ⟨g,c,k,a,i,l,d,j,_⟩
 ·exact absurd h f
 rw [e]at a d;refine⟨g,c,a,d,j,i,?_⟩;have:=b.lt g (by rw [a];rfl);exact this.2
def yC (w:World) (b o:Nat) (zs:List Int):Prop:=∀i,i<zs.length->w.cell? ⟨b,o+i,none⟩=some (.int .i32 (zs.getD i 0))
theorem Z1 {w:World} {b o:Nat} {ts:List Int} (d:yC w b o ts):∀j v,(ints .i32 ts)[j]? =some v->w.cell? ((⟨b,o,none⟩:Addr).add j)=some v:=by
 intro j v a;unfold ints at a;rw [xU]at a;cases hj:ts[j]? with
 | none=>rw [hj]at a;cases a
 | some z=>
  rw [hj]at a;have c:=(xA.1 hj).1;have:=d j c;rw [q9,hj]at this;simp only [kV,xz]at a;subst a;rw [zP];exact this
theorem zc {w:World} {base g cap n:Nat} {zs:List Int} (b:zs.length=n) (c:own32 w base (.slice (qK g 0) n cap) zs):yC w g 0 zs:=by
 subst b;intro i hi;have a:=c.cellAt i (by omega);rw [xP,a];simp [ints,q9,hi]
def XP (w:World) (S:List Int) (X:List It) (e:Ending) (w':World):Prop:=
 ∃a b,e= .returned (.agg #[a,b])∧own32 w' w.heap.size a S∧OwI w' w.heap.size b X∧Below w.heap.size w w'∧∃g n c,a= .slice (qK g 0) n c
theorem insSA (zs ts S:List Int) (X G:List It) (ck:List It) (n m k a5 R:Nat) (b o cap:Nat) (K:Option Addr) (D am a6 dg:Nat) (off aw dh:Int) (w:World)
  (a7:Hid (zs.length=n)) (cl:Hid (ts.length=m)) (di:Hid (S=zs++ts)) (br:Hid (X.length=k)) (ew:n<=220000) (ex:m<=8192) (ey:n+m<=220000) (ez:k<=8192) (e0:R<=k) (e1:k<=D) (d9:D<=maxLen) (e2:0<=off∧off<=8192)
  (ea:Hid (yC w b o zs)) (eb:b<w.heap.size) (ec:Hid (yC w am a6 ts)) (ed:am<w.heap.size)
  (dj:Hid (∀ (j:Nat) (y:It),X[j]? =some y->0<=y.pc.off∧1<=y.pc.len∧y.pc.len<=8192∧y.pc.off+y.pc.len<=n))
  (dk:Hid (∀a,Below w.heap.size w a->Calls prog 50 #[.slice K k D] a fun e w'=>∃g cp,e= .returned (.slice (qK g 0) k cp)∧OwI w' a.heap.size (.slice (qK g 0) k cp) X∧Below a.heap.size a w'))
  (cm:Hid (∀a base d l,OwI a base (.slice (qK d 0) k l) X->Calls prog 52 #[.slice (qK d 0) k l,qJ off] a fun e w'=>e= .returned (qJ (R:Int))∧w'=a))
  (an:Hid (∀a base d l,OwI a base (.slice (qK d 0) a5 l) ck->Calls prog 52 #[.slice (qK d 0) a5 l,qJ off] a fun e w'=>e= .returned (qJ (R:Int))∧w'=a))
  (cn:Hid (∀a base d l,OwI a base (.slice (qK d 0) k l) X->Calls prog 27 #[.slice (qK d 0) R l] a fun e w'=>e= .returned (qJ aw)∧Below a.heap.size a w'))
  (ax:Hid (∀a base gs cs d l,yC a gs 0 S->gs<a.heap.size->n+m<=cs->cs<=maxLen->OwI a base (.slice (qK d 0) k l) X->base<=a.heap.size->Calls prog 51 #[.slice (qK gs 0) (n+m) cs,.slice (qK d 0) k l,qJ off] a fun e w'=>∃g c,e= .returned (.slice (qK g 0) a5 c)∧OwI w' base (.slice (qK g 0) a5 c) ck∧Below a.heap.size a w'))
  (b3:Hid (∀a gs cs,yC a gs 0 S->gs<a.heap.size->n+m<=cs->cs<=maxLen->0<m->Calls prog 46 #[.slice (qK gs 0) (n+m) cs,qJ (n:Int),qJ (m:Int)] a fun e w'=>e= .returned (.agg #[qJ (n:Int),qJ (m:Int),qJ dh])∧Below a.heap.size a w'))
  (bs:Hid (∀a gs cs (y:It),yC a gs 0 S->gs<a.heap.size->n+m<=cs->cs<=maxLen->0<=y.pc.off->1<=y.pc.len->y.pc.off+y.pc.len=n->Calls prog 46 #[.slice (qK gs 0) (n+m) cs,qJ y.pc.off,qJ (y.pc.len+(m:Int))] a fun e w'=>e= .returned (.agg #[qJ y.pc.off,qJ (y.pc.len+(m:Int)),qJ (pcAt S y.pc.off (y.pc.len+(m:Int))).brk])∧Below a.heap.size a w'))
  (ao:Hid (∀a base g c,¬ (∃r y,R=r+1∧X[r]? =some y∧aw=off∧y.pc.off+y.pc.len=n)->0<m->OwI a base (.slice (qK g 0) a5 c) ck->Calls prog 56 #[.slice (qK g 0) a5 c,qJ (R:Int),.agg #[qJ (n:Int),qJ (m:Int),qJ dh]] a fun e w'=>∃df,e= .returned df∧OwI w' a.heap.size df G∧Below a.heap.size a w'))
  (bt:Hid (∀r y,R=r+1->X[r]? =some y->aw=off->y.pc.off+y.pc.len=n->0<m->G=X.set r ⟨pcAt S y.pc.off (y.pc.len+(m:Int)),y.lv⟩))
  (dl:Hid (m=0->G=X)):
  Calls prog 29 #[.agg #[.slice (qK b o) n cap,.slice K k D],qJ off,.slice (qK am a6) m dg] w (XP w S G):=by
 obtain⟨e3,hi,e4,e5,e6⟩:=vc Tryz.qv;unfold maxLen at d9;have b4:=qG (((qO w.heap.size w).alloc lR (.cells #[.slice (qK b o) n cap,.slice K k D] 30)).alloc (by simp) (.cells #[.slice none 0 0,.slice none 0 0] 30))
 have ct:=qG (show((w.alloc (.cells #[.slice (qK b o) n cap,.slice K k D] 30)).alloc (.cells #[.slice none 0 0,.slice none 0 0] 30)).heap[w.heap.size]? =some (.cells #[.slice (qK b o) n cap,.slice K k D] 30 (0,0))by
  rw [vV _ _ _ (by simp)];exact xg _ _)
 have ds:=qG (show((w.alloc (.cells #[.slice (qK b o) n cap,.slice K k D] 30)).alloc (.cells #[.slice none 0 0,.slice none 0 0] 30)).heap[w.heap.size+1]? =some (.cells #[.slice none 0 0,.slice none 0 0] 30 (0,0))by
  have:=xg (w.alloc (.cells #[.slice (qK b o) n cap,.slice K k D] 30)) (.cells #[.slice none 0 0,.slice none 0 0] 30)
  rw [show(w.alloc (.cells #[.slice (qK b o) n cap,.slice K k D] 30)).heap.size=w.heap.size+1 by simp]at this;exact this)
 have ej:w.heap.size+2<=((w.alloc (.cells #[.slice (qK b o) n cap,.slice K k D] 30)).alloc (.cells #[.slice none 0 0,.slice none 0 0] 30)).heap.size:=by simp
 go_enter func29,ntmps29;go_upto_region 1 with fail;generalize (w.alloc (.cells #[.slice (qK b o) n cap,.slice K k D] 30)).alloc (.cells #[.slice none 0 0,.slice none 0 0] 30)=h at *
 have cu:h.cell? ⟨w.heap.size,0,none⟩=some (.slice (qK b o) n cap):=by rw [qP h _ 0 _ _ _ ct.out];rfl
 have cv:=qG (ZH h);have bw:=qG ((qO h.heap.size h).alloc lR (.cells #[] 21));have cw:=qG (Z1 (show yC (h.alloc (.cells #[] 21)) b o zs from fun i hi=>(bw.out.cell (p:=⟨b,o+i,none⟩) (by show b<_;omega)).trans ((b4.out.cell (p:=⟨b,o+i,none⟩) eb).trans (ea.out i hi))));have cx:(h.alloc (.cells #[] 21)).cell? ⟨w.heap.size,0,none⟩=some (.slice (qK b o) n cap):=(bw.out.cell (p:=⟨w.heap.size,0,none⟩) (by show w.heap.size<_;omega)).trans cu;have b5:=qG (show(h.alloc (.cells #[] 21)).ownsRow h.heap.size 21 1 (.slice (qK h.heap.size 0) 0 0) 0 []from cv.out);have dt:=qG (show(ints .i32 zs).length=n*1 by rw [zC,a7.out];omega);have LT:=qG (show(ints .i32 ts).length=m*1 by rw [zC,cl.out];omega);go_upto_region 2 with fail;go_upto_region 3 with (at_builtin;refine Ql _ rfl _ _ rfl h.heap.size (.slice (qK h.heap.size 0) 0 0) 0 [] rfl (by exact b5.out) ⟨b,o,none⟩ n cap (ints .i32 zs) rfl (by exact dt.out) (by exact cw.out) (zG .i32 zs) (by unfold maxLen;omega) (by omega) (by simp) ?_;intro dd cg bl bm bn;refine vR ?_)
 refine Lib.hid ?_;have b6:=qG (show own32 cg h.heap.size dd zs from(by have t:=bl;unfold own32;rw [a7.out];rw [xP,xH]at t;exact t));have bx:=qG (bw.out.trans ((qO h.heap.size _).grown bm (by simp) (fun q f=>(b5.out.lt q f).1)));have cy:=qG (show ¬dd= .slice none 0 0 from fun e=>absurd (bn.1 e).1 (by simp));clear bl bm bn cv b5 cw cx bw cu;obtain⟨dm,dn,rfl,ee,dp,ef,eg⟩:=Zr b6.out a7.out cy.out;have du:=bx.out.size;have b7:=qG (show cg.ownsRow h.heap.size 21 1 (.slice (qK dm 0) n dn) n (ints .i32 zs)from(by have t:=b6.out;unfold own32 at t;rw [a7.out]at t;exact t));have cz:=qG (Z1 (show yC cg am a6 ts from fun i hi=>(bx.out.cell (p:=⟨am,a6+i,none⟩) (by show am<_;omega)).trans ((b4.out.cell (p:=⟨am,a6+i,none⟩) ed).trans (ec.out i hi))));unfold maxLen at dp;go_upto_region 4 with (at_builtin;refine Ql _ rfl _ _ rfl h.heap.size (.slice (qK dm 0) n dn) n (ints .i32 zs) rfl (by exact b7.out) ⟨am,a6,none⟩ m dg (ints .i32 ts) rfl (by exact LT.out) (by exact cz.out) (zG .i32 ts) (by unfold maxLen;omega) (by omega) (by omega) ?_;intro de V bl bm bn;refine vR ?_)
 refine Lib.hid ?_;have bz:=qG (show own32 V h.heap.size de S from(by rw [di.out];exact YH a7.out cl.out bl));have b0:=qG (bx.out.trans ((qO h.heap.size _).grown bm (by omega) (fun q f=>(b7.out.lt q f).1)));have c0:=qG (show ¬de= .slice none 0 0 from fun e=>absurd (bn.1 e).1 (by simp));have aa:=qG (show S.length=n+m by rw [di.out,qM,a7.out,cl.out]);clear bl bm bn b6 b7 cz bx cy ee dp ef eg du;obtain⟨gs,cs,rfl,ay,az,e7,e8⟩:=Zr bz.out aa.out c0.out;have ek:=b0.out.size;have c1:=(b0.out.block w.heap.size (by omega)).trans ct.out;have cx:V.cell? ⟨w.heap.size,1,none⟩=some (.slice K k D):=by rw [qP V _ 1 _ _ _ c1];rfl
 have b8:=qG ((b0.out.block (w.heap.size+1) (by omega)).trans ds.out);have b9:=qG (b4.out.trans (b0.out.mono (by omega)));have ca:=qG (dk.out V b9.out);clear c1 c0 dk;by_cases ch:m=0
 ·have dv:=qG (dl.out ch)
  subst ch;clear dl bt ao bs b3 ax an cm cn dj;go_wp2_with fail;refine ca.out.mono ?_;rintro e E ⟨d,l,rfl,W,L⟩;have dw:=L.size;have ab:=qG (b9.out.trans (L.mono (by omega)));have Q:=qG (show own32 E w.heap.size _ S from zD (zB bz.out L lR) (by omega));have P:=qG (show OwI E w.heap.size (.slice (qK d 0) k l) G from(by rw [dv.out];exact zD W (by omega)));have T:=qG (show w.heap.size+1<gs∧w.heap.size+1<d from⟨by omega,by have:=(W.lt d rfl).1;omega⟩);have a9:=(L.block (w.heap.size+1) (by omega)).trans b8.out;clear L W;have H:E.cell? ⟨w.heap.size+1,0,none⟩=some (.slice none 0 0):=(by rw [qP E _ 0 _ _ _ a9];rfl);have I:E.cell? ⟨w.heap.size+1,1,none⟩=some (.slice none 0 0):=(by rw [qP E _ 1 _ _ _ a9];rfl);have a0:=xp E (w.heap.size+1) 0 _ _ a9;have a1:=xp E (w.heap.size+1) 1 _ _ a9;clear a9;go_wp2;refine xr (v:=.agg #[.slice (qK gs 0) (n+0) cs,.slice (qK d 0) k l]) (by simp [results,results29,go_sem,H,I]) rfl ⟨_,_,rfl,?_,?_,?_,⟨_,_,_,rfl⟩⟩
  ·exact zA Q.out (fun q f=>by cases f;rw [xo _ _ _ _ (by simp;have:=T.out;omega),xo _ _ _ _ (by simp;have:=T.out;omega)])
  ·exact zA P.out (fun q f=>by cases f;rw [xo _ _ _ _ (by simp;have:=T.out;omega),xo _ _ _ _ (by simp;have:=T.out;omega)])
  exact(ab.out.setCell (by simp) _).setCell (by simp) _
 have ar:0<m:=by omega
 have el:(0:Int)<(m:Int):=by omega
 have em:¬ (m:Int)=0:=by omega
 go_wp2_with fail;refine ca.out.mono ?_;rintro e E ⟨d,l,rfl,W,L⟩;have dw:=L.size;have ab:=qG (b9.out.trans (L.mono (by omega)));have Q:=qG (show own32 E h.heap.size _ S from zB bz.out L lR);have P:=qG W;have a2:=qG ((L.block (w.heap.size+1) (by omega)).trans b8.out);have dx:=qG (W.lt d rfl)
 obtain⟨e9,eh⟩:k<=l∧l<=maxLen:=by
  rcases W.2 with ⟨bp,_⟩ | ⟨g,cp,fa,bp,_,_,bq,cj,_⟩
  ·cases bp
  rw [br.out]at bp bq;cases bp;exact⟨bq,cj⟩
 unfold maxLen at eh;have ba:=qG (cm.out E _ d l W);clear L W b8 bz ca ch cm;rcases vZ R with dq | dq
 ·subst dq
  go_wp2_with fail;refine ba.out.mono ?_;rintro e wx ⟨rfl,Y⟩;have U:=Y.symm;subst U;have bc:=qG (show ¬ (∃r y,(0:Nat)=r+1∧X[r]? =some y∧aw=off∧y.pc.off+y.pc.len=(n:Int))from fun⟨r,_,ev,_⟩=>by omega);clear ba;have ac:=qG (ax.out E V.heap.size gs cs d l (zc aa.out Q.out) (by omega) ay az P.out (by omega));go_wp2_with fail;refine ac.out.mono ?_;rintro e M ⟨ap,cc,rfl,N,A⟩;have c2:=A.size;have ad:=qG (ab.out.trans (A.mono (by omega)));have J:=qG (show own32 M h.heap.size _ S from zB Q.out A lR);have ae:=qG ((A.block (w.heap.size+1) (by omega)).trans a2.out);have af:=qG N;have RC:=qG (an.out M _ ap cc N);clear A N ac ax ab Q P a2;go_wp2_with fail;refine RC.out.mono ?_;rintro e wx ⟨rfl,Y⟩;have U:=Y.symm;subst U;have ag:=qG (b3.out M gs cs (zc aa.out J.out) (by omega) ay az ar);clear RC an;go_wp2_with fail;refine ag.out.mono ?_;rintro e aq ⟨rfl,u⟩;have c3:=u.size;have ah:=qG (ad.out.trans (u.mono (by omega)));have ai:=qG (show own32 aq h.heap.size _ S from zB J.out u lR);have aj:=qG ((u.block (w.heap.size+1) (by omega)).trans ae.out);have ak:=qG (ao.out aq _ ap cc bc.out ar (OwI.below af.out u lR));clear u ag ad J ae af ao;go_wp2_with fail;refine ak.out.mono ?_;rintro e s ⟨dr,rfl,C,B⟩;obtain⟨bu,bv,rfl⟩:=zb C;have c4:=B.size;have bd:=qG (ah.out.trans (B.mono (by omega)));have be:=qG (show own32 s w.heap.size _ S from zD (zB ai.out B lR) (by omega));have bf:=qG (show OwI s w.heap.size _ G from zD C (by omega));have bg:=qG (fun q f=>(C.lt q f).1);have x:=(B.block (w.heap.size+1) (by omega)).trans aj.out;clear B C ak ah ai aj;generalize G.length=bo at *
  have H:s.cell? ⟨w.heap.size+1,0,none⟩=some (.slice none 0 0):=(by rw [qP s _ 0 _ _ _ x];rfl);have I:s.cell? ⟨w.heap.size+1,1,none⟩=some (.slice none 0 0):=(by rw [qP s _ 1 _ _ _ x];rfl);have a0:=xp s (w.heap.size+1) 0 _ _ x;have a1:=xp s (w.heap.size+1) 1 _ _ x;clear x;go_wp2;refine xr (v:=.agg #[.slice (qK gs 0) (n+m) cs,.slice bu bo bv]) (by simp [results,results29,go_sem,H,I]) rfl ⟨_,_,rfl,?_,?_,?_,⟨_,_,_,rfl⟩⟩
  ·exact zA be.out (fun q f=>by cases f;rw [xo _ _ _ _ (by simp;omega),xo _ _ _ _ (by simp;omega)])
  ·exact zA bf.out (fun q f=>by have t:=bg.out q f;rw [xo _ _ _ _ (by simp;omega),xo _ _ _ _ (by simp;omega)])
  exact(bd.out.setCell (by simp) _).setCell (by simp) _
 obtain⟨r,ei⟩:∃r,R=r+1:=⟨R - 1,by omega⟩
 subst ei;obtain⟨y,co⟩:∃y,X[r]? =some y:=⟨_,qY (by rw [br.out];omega)⟩
 have c5:=dj.out r y co;have bh:=qG co;have bi:=qG (cn.out E _ d l P.out);have en:(0:Int)<(r:Int)+1:=by omega
 have eo:(r:Int)+1<=(l:Int):=by omega
 have ep:(r:Int)<(k:Int):=by omega
 rw [show((r+1:Nat):Int)=(r:Int)+1 by omega]at ba an ao;clear co cn;go_wp2_with fail;refine ba.out.mono ?_;rintro e wx ⟨rfl,Y⟩;have U:=Y.symm;subst U;clear ba;by_cases b2:aw=off
 ·have dy:=qG b2
  rw [b2]at bi;clear b2;go_wp2_with fail;refine bi.out.mono ?_;rintro e F ⟨rfl,O⟩;have c6:=O.size
  have c7:F.ownsRow V.heap.size 65 4 (.slice (qK d 0) k l) k (itVs X):=by
   have t:=P.out;unfold OwI at t;rw [br.out]at t;exact zB t O lR
  obtain⟨cq,cr,k2⟩:=OwI.c3 c7 bh.out;have b1:=qG (O.alloc c6 (.cells #[qJ y.pc.off,qJ y.pc.len,qJ y.pc.brk] 63));have eq:=qG ((qO F.heap.size F).alloc lR (.cells #[qJ y.pc.off,qJ y.pc.len,qJ y.pc.brk] 63));have c8:=qG (show(F.alloc (.cells #[qJ y.pc.off,qJ y.pc.len,qJ y.pc.brk] 63)).heap[F.heap.size]? =some (.cells #[qJ y.pc.off,qJ y.pc.len,qJ y.pc.brk] 63 (0,0))from xg _ _);have er:F.heap.size<(F.alloc (.cells #[qJ y.pc.off,qJ y.pc.len,qJ y.pc.brk] 63)).heap.size:=(by simp);clear O c7 bi;go_upto_region 10 with fail;generalize F.alloc (.cells #[qJ y.pc.off,qJ y.pc.len,qJ y.pc.brk] 63)=au at *
  have H:au.cell? ⟨F.heap.size,0,none⟩=some (qJ y.pc.off):=(by rw [qP au _ 0 _ _ _ c8.out];rfl);have I:au.cell? ⟨F.heap.size,1,none⟩=some (qJ y.pc.len):=(by rw [qP au _ 1 _ _ _ c8.out];rfl);clear cq cr k2;have cb:=qG (ab.out.trans (b1.out.mono (by omega)));have bj:=qG (show own32 au h.heap.size _ S from zB Q.out b1.out lR);have cd:=qG (OwI.below P.out b1.out lR);have ce:=qG ((b1.out.block (w.heap.size+1) (by omega)).trans a2.out);clear ab Q P a2;by_cases ci:y.pc.off+y.pc.len=(n:Int)
  ·have c9:=qG (bs.out au gs cs y (zc aa.out bj.out) (by omega) ay az c5.1 c5.2.1 ci)
   have dz:=qG (bt.out r y rfl bh.out dy.out ci ar);clear bs bt;go_wp2_with fail;refine c9.out.mono ?_;rintro e Z ⟨rfl,a8⟩;have es:=a8.size
   have a3:Z.ownsRow V.heap.size 65 4 (.slice (qK d 0) k l) k (itVs X):=by
    have t:=cd.out;unfold OwI at t;rw [br.out]at t;exact zB t a8 lR
   have hst:=OwI.setPc a3 bh.out ⟨y.pc.off,y.pc.len+(m:Int),(pcAt S y.pc.off (y.pc.len+(m:Int))).brk⟩;have a0:Z.frozen? ⟨d,r*4,none⟩=false:=a3.frozenAt _;have a1:Z.frozen? ⟨d,r*4+1,none⟩=false:=a3.frozenAt _;have d0:Z.frozen? ⟨d,r*4+2,none⟩=false:=a3.frozenAt _;obtain⟨cq,cr,k2⟩:=OwI.c3 a3 bh.out;have d1:=dx.out;have d2:=qG ((cb.out.trans (a8.mono (by omega))).grown hst.2 (by omega) (fun z d7=>by cases d7;omega));have d3:=qG (show own32 (((Z.setCell ⟨d,r*4,none⟩ (qJ y.pc.off)).setCell ⟨d,r*4+1,none⟩ (qJ (y.pc.len+(m:Int)))).setCell ⟨d,r*4+2,none⟩ (qJ (pcAt S y.pc.off (y.pc.len+(m:Int))).brk)) w.heap.size _ S from zD (zA (zB bj.out a8 lR) (fun q f=>hst.2.block q (by cases f;show gs<_;omega) (by intro t;cases f;have et:gs=d:=vA t;omega))) (by omega));have d4:=qG (show OwI (((Z.setCell ⟨d,r*4,none⟩ (qJ y.pc.off)).setCell ⟨d,r*4+1,none⟩ (qJ (y.pc.len+(m:Int)))).setCell ⟨d,r*4+2,none⟩ (qJ (pcAt S y.pc.off (y.pc.len+(m:Int))).brk)) w.heap.size (.slice (qK d 0) k l) G from(by rw [dz.out];unfold OwI;rw [vO,br.out];exact zD hst.1 (by omega)));have d5:=qG ((hst.2.block (w.heap.size+1) (by omega) (by intro t;cases t;omega)).trans ((a8.block (w.heap.size+1) (by omega)).trans ce.out));have T:=qG (show w.heap.size+1<gs∧w.heap.size+1<d from⟨by omega,by omega⟩);have eu:Z.heap.size<=(((Z.setCell ⟨d,r*4,none⟩ (qJ y.pc.off)).setCell ⟨d,r*4+1,none⟩ (qJ (y.pc.len+(m:Int)))).setCell ⟨d,r*4+2,none⟩ (qJ (pcAt S y.pc.off (y.pc.len+(m:Int))).brk)).heap.size:=hst.2.size;clear a8 a3 hst H I c9 d1;generalize (pcAt S y.pc.off (y.pc.len+(m:Int))).brk=d6 at *
   go_upto_region 12 with fail;generalize (((Z.setCell ⟨d,r*4,none⟩ (qJ y.pc.off)).setCell ⟨d,r*4+1,none⟩ (qJ (y.pc.len+(m:Int)))).setCell ⟨d,r*4+2,none⟩ (qJ d6))=a4 at *
   clear cq cr k2 a0 a1 d0;have bk:=d5.out;have H:a4.cell? ⟨w.heap.size+1,0,none⟩=some (.slice none 0 0):=(by rw [qP a4 _ 0 _ _ _ bk];rfl);have I:a4.cell? ⟨w.heap.size+1,1,none⟩=some (.slice none 0 0):=(by rw [qP a4 _ 1 _ _ _ bk];rfl);have a0:=xp a4 (w.heap.size+1) 0 _ _ bk;have a1:=xp a4 (w.heap.size+1) 1 _ _ bk;clear bk;go_wp2;refine xr (v:=.agg #[.slice (qK gs 0) (n+m) cs,.slice (qK d 0) k l]) (by simp [results,results29,go_sem,H,I]) rfl ⟨_,_,rfl,?_,?_,?_,⟨_,_,_,rfl⟩⟩
   ·exact zA d3.out (fun q f=>by cases f;rw [xo _ _ _ _ (by simp;have:=T.out;omega),xo _ _ _ _ (by simp;have:=T.out;omega)])
   ·exact zA d4.out (fun q f=>by cases f;rw [xo _ _ _ _ (by simp;have:=T.out;omega),xo _ _ _ _ (by simp;have:=T.out;omega)])
   exact(d2.out.setCell (by simp) _).setCell (by simp) _
  have bc:=qG (show ¬ (∃av al,r+1=av+1∧X[av]? =some al∧aw=off∧al.pc.off+al.pc.len=(n:Int))from fun⟨av,al,bp,bq,_,d8⟩=>by
   obtain rfl:r=av:=by omega
   rw [bh.out]at bq;cases bq;exact ci d8)
  clear bs bt;have ac:=qG (ax.out au V.heap.size gs cs d l (zc aa.out bj.out) (by omega) ay az cd.out (by omega));go_wp2_with fail;refine ac.out.mono ?_;rintro e M ⟨ap,cc,rfl,N,A⟩;have c2:=A.size;have ad:=qG (cb.out.trans (A.mono (by omega)));have J:=qG (show own32 M h.heap.size _ S from zB bj.out A lR);have ae:=qG ((A.block (w.heap.size+1) (by omega)).trans ce.out);have af:=qG N;have RC:=qG (an.out M _ ap cc N);clear A N ac ax cb bj cd ce;go_wp2_with fail;refine RC.out.mono ?_;rintro e wx ⟨rfl,Y⟩;have U:=Y.symm;subst U;have ag:=qG (b3.out M gs cs (zc aa.out J.out) (by omega) ay az ar);clear RC an;go_wp2_with fail;refine ag.out.mono ?_;rintro e aq ⟨rfl,u⟩;have c3:=u.size;have ah:=qG (ad.out.trans (u.mono (by omega)));have ai:=qG (show own32 aq h.heap.size _ S from zB J.out u lR);have aj:=qG ((u.block (w.heap.size+1) (by omega)).trans ae.out);have ak:=qG (ao.out aq _ ap cc bc.out ar (OwI.below af.out u lR));clear u ag ad J ae af ao;go_wp2_with fail;refine ak.out.mono ?_;rintro e s ⟨dr,rfl,C,B⟩;obtain⟨bu,bv,rfl⟩:=zb C;have c4:=B.size;have bd:=qG (ah.out.trans (B.mono (by omega)));have be:=qG (show own32 s w.heap.size _ S from zD (zB ai.out B lR) (by omega));have bf:=qG (show OwI s w.heap.size _ G from zD C (by omega));have bg:=qG (fun q f=>(C.lt q f).1);have x:=(B.block (w.heap.size+1) (by omega)).trans aj.out;clear B C ak ah ai aj;generalize G.length=bo at *
  have H:s.cell? ⟨w.heap.size+1,0,none⟩=some (.slice none 0 0):=(by rw [qP s _ 0 _ _ _ x];rfl);have I:s.cell? ⟨w.heap.size+1,1,none⟩=some (.slice none 0 0):=(by rw [qP s _ 1 _ _ _ x];rfl);have a0:=xp s (w.heap.size+1) 0 _ _ x;have a1:=xp s (w.heap.size+1) 1 _ _ x;clear x;go_wp2;refine xr (v:=.agg #[.slice (qK gs 0) (n+m) cs,.slice bu bo bv]) (by simp [results,results29,go_sem,H,I]) rfl ⟨_,_,rfl,?_,?_,?_,⟨_,_,_,rfl⟩⟩
  ·exact zA be.out (fun q f=>by cases f;rw [xo _ _ _ _ (by simp;omega),xo _ _ _ _ (by simp;omega)])
  ·exact zA bf.out (fun q f=>by have t:=bg.out q f;rw [xo _ _ _ _ (by simp;omega),xo _ _ _ _ (by simp;omega)])
  exact(bd.out.setCell (by simp) _).setCell (by simp) _
 have bc:=qG (show ¬ (∃av al,r+1=av+1∧X[av]? =some al∧aw=off∧al.pc.off+al.pc.len=(n:Int))from fun⟨_,_,_,_,cj,_⟩=>b2 cj);clear bs bt;go_wp2_with fail;refine bi.out.mono ?_;rintro e F ⟨rfl,O⟩;have c6:=O.size;have da:=qG (ab.out.trans (O.mono (by omega)));have cf:=qG (show own32 F h.heap.size _ S from zB Q.out O lR);have db:=qG (OwI.below P.out O lR);have dc:=qG ((O.block (w.heap.size+1) (by omega)).trans a2.out);clear O ab Q P a2 bi;have ac:=qG (ax.out F V.heap.size gs cs d l (zc aa.out cf.out) (by omega) ay az db.out (by omega));go_wp2_with fail;refine ac.out.mono ?_;rintro e M ⟨ap,cc,rfl,N,A⟩;have c2:=A.size;have ad:=qG (da.out.trans (A.mono (by omega)));have J:=qG (show own32 M h.heap.size _ S from zB cf.out A lR);have ae:=qG ((A.block (w.heap.size+1) (by omega)).trans dc.out);have af:=qG N;have RC:=qG (an.out M _ ap cc N);clear A N ac ax da cf db dc;go_wp2_with fail;refine RC.out.mono ?_;rintro e wx ⟨rfl,Y⟩;have U:=Y.symm;subst U;have ag:=qG (b3.out M gs cs (zc aa.out J.out) (by omega) ay az ar);clear RC an;go_wp2_with fail;refine ag.out.mono ?_;rintro e aq ⟨rfl,u⟩;have c3:=u.size;have ah:=qG (ad.out.trans (u.mono (by omega)));have ai:=qG (show own32 aq h.heap.size _ S from zB J.out u lR);have aj:=qG ((u.block (w.heap.size+1) (by omega)).trans ae.out);have ak:=qG (ao.out aq _ ap cc bc.out ar (OwI.below af.out u lR));clear u ag ad J ae af ao;go_wp2_with fail;refine ak.out.mono ?_;rintro e s ⟨dr,rfl,C,B⟩;obtain⟨bu,bv,rfl⟩:=zb C;have c4:=B.size;have bd:=qG (ah.out.trans (B.mono (by omega)));have be:=qG (show own32 s w.heap.size _ S from zD (zB ai.out B lR) (by omega));have bf:=qG (show OwI s w.heap.size _ G from zD C (by omega));have bg:=qG (fun q f=>(C.lt q f).1);have x:=(B.block (w.heap.size+1) (by omega)).trans aj.out;clear B C ak ah ai aj;generalize G.length=bo at *
 have H:s.cell? ⟨w.heap.size+1,0,none⟩=some (.slice none 0 0):=by rw [qP s _ 0 _ _ _ x];rfl
 have I:s.cell? ⟨w.heap.size+1,1,none⟩=some (.slice none 0 0):=by rw [qP s _ 1 _ _ _ x];rfl
 have a0:=xp s (w.heap.size+1) 0 _ _ x;have a1:=xp s (w.heap.size+1) 1 _ _ x;clear x;go_wp2;refine xr (v:=.agg #[.slice (qK gs 0) (n+m) cs,.slice bu bo bv]) (by simp [results,results29,go_sem,H,I]) rfl ⟨_,_,rfl,?_,?_,?_,⟨_,_,_,rfl⟩⟩
 ·exact zA be.out (fun q f=>by cases f;rw [xo _ _ _ _ (by simp;omega),xo _ _ _ _ (by simp;omega)])
 ·exact zA bf.out (fun q f=>by have t:=bg.out q f;rw [xo _ _ _ _ (by simp;omega),xo _ _ _ _ (by simp;omega)])
 exact(bd.out.setCell (by simp) _).setCell (by simp) _
theorem zD9 {S:List Int} {n:Nat} {T:AT} {off:Int} {r:Nat} {y:It} (g:T.ok) (h:0<=off) (i:off<=T.rns) (j:cutN T off=r+1) (k:(T.told 0)[r]? =some y) (ht:total ((T.told 0).take (cutN T off))=off) (l:y.pc.off+y.pc.len=(n:Int)):
  insP S n T off=T.put r (pcAt S y.pc.off (y.pc.len+((S.length:Int) - n))):=by
 obtain⟨a,s,c⟩:=sk_at g h i
 have hi:skI T off=0:=by
  rcases Decidable.em (skI T off=0)with hi | hi
  ·exact hi
  exfalso;obtain⟨m,o,d⟩:=c.resolve_left hi;rw [cutN,qZ hi,yV]at ht;have e:=(zW d).1;rw [e,jg _ _ _ _ (by rw [qN];have:=(zW d).2;omega),zK,zJ,jf,s]at ht;omega
 have f:T.flat[r]? =some y.pc:=by rw [<- AT.qj T 0,xU,k];rfl
 have b:ahead T (r+1)=y.pc:=by rw [ahead,vN,q9,f];rfl
 rw [insP,j,cutP,xd hi,addP,xd (by rw [meetB,qU,b];exact⟨by omega,l⟩),b,vN]
theorem zDa {S:List Int} {n:Nat} {T:AT} {off:Int} (g:T.ok) (l:∀p∈T.flat,p.off+p.len<=(n:Int)) (h:0<=off) (i:off<=T.rns) (m:¬ (∃r y,cutN T off=r+1∧(T.told 0)[r]? =some y∧total ((T.told 0).take (cutN T off))=off∧y.pc.off+y.pc.len=(n:Int))):
  insP S n T off=(cutP S T off).ins (cutN T off) (pcAt S n ((S.length:Int) - n)):=by
 obtain⟨a,s,c⟩:=sk_at g h i;rw [insP,addP,qZ];intro f;simp only [meetB,qU]at f;obtain⟨o,b⟩:=f;by_cases hi:skI T off=0
 ·refine m ?_
  have d:cutN T off=skR T off:=(by rw [cutN,xd hi];omega);rw [cutP,xd hi]at b;obtain⟨r,j⟩:∃r,cutN T off=r+1:=⟨cutN T off - 1,by omega⟩
  have e:=yH (T:=T) (R:=cutN T off) o (by omega);obtain⟨y,q,t⟩:=XN e;refine⟨r,y,j,by rw [<- q,j];rfl,?_,by rw [t];exact b⟩;rw [yV,d,s,hi];omega
 obtain⟨v,w,k⟩:=c.resolve_left hi;have d:cutN T off=skR T off+1:=by rw [cutN,qZ hi]
 have u:=l _ (qT k)
 have e:ahead (cutP S T off) (cutN T off)=pcAt S (skP T off).off (skI T off):=by
  rw [ahead,d,vN,q9,yN g h i hi,xa (by rw [qN];omega)];have:skR T off - (T.flat.take (skR T off)).length=0:=(by rw [qN];have:=(zW k).2;omega);rw [this];rfl
 rw [e]at b;simp only [pcAt]at b;omega
theorem insS (zs ts:List Int) (T:AT) (b o cap base:Nat) (E:Option Addr) (q B F N:Nat) (off:Int) (w:World) (ae:yC w b o zs) (af:b<w.heap.size) (ht:yC w B F ts) (ag:B<w.heap.size) (O:OwI w base (.slice E T.its q) (T.told 0)) (h:T.ok) (P:T.bal) (Q:T.wp zs) (k:0<=off) (f:off<=T.rns) (ap:T.rns+ts.length<=8192) (ah:zs.length+ts.length<=220000):
  Calls prog 29 #[.agg #[.slice (qK b o) zs.length cap,.slice E T.its q],qJ off,.slice (qK B F) ts.length N] w (XP w (zs++ts) ((if ts.length=0 then T else insP (zs++ts) zs.length T off).told 0)):=by
 have t:=AT.told_length T 0;have am:=h.bd
 obtain⟨ai,aj⟩:T.its<=q∧q<=maxLen:=by
  rcases O.2 with ⟨f,G⟩ | ⟨g,cp,aq,f,_,_,G,ak,_⟩
  ·simp only [xB]at f;exact⟨by omega,by unfold maxLen;omega⟩
  rw [t]at f G;cases f;exact⟨G,ak⟩
 have C:(zs++ts).length=zs.length+ts.length:=qM;have D:=Q.app ts;have H:=(zR zs T).1 Q;have I:=ZR (S:=zs++ts) h D (by omega) k f;have an:=I.bd;have U:=(jR (S:=zs++ts) h k f).1
 obtain⟨R,_⟩:cutN T off<=T.its∧True:=by
  obtain⟨a,s,c⟩:=sk_at h k f;refine⟨?_,xn⟩;by_cases hi:skI T off=0
  ·rw [cutN,xd hi];omega
  obtain⟨ar,au,al⟩:=c.resolve_left hi;have:=(zW al).2;rw [AT.qh]at this;rw [cutN,qZ hi];omega
 have J:((zs++ts).length:Int) - (zs.length:Int)=(ts.length:Int):=by omega
 refine insSA zs ts (zs++ts) (T.told 0) _ ((cutP (zs++ts) T off).told 0) zs.length ts.length T.its (cutP (zs++ts) T off).its (cutN T off) b o cap E q B F N off (total ((T.told 0).take (cutN T off))) (pcAt (zs++ts) (zs.length:Int) (ts.length:Int)).brk w (qG rfl) (qG rfl) (qG rfl) (qG t) (by omega) (by omega) ah (by omega) R ai aj ⟨k,by omega⟩ (qG ae) af (qG ht) ag (qG ?_) (qG ?_) (qG ?_) (qG ?_) (qG ?_) (qG ?_) (qG ?_) (qG ?_) (qG ?_) (qG ?_) (qG ?_)
 ·intro j y u
  have K:y.pc∈T.flat:=(by rw [<- AT.qj T 0];exact kL.2 ⟨y,xM.2 ⟨j,u⟩,rfl⟩);have V:=h.1 _ K;simp only [pcOk,qU]at V;have:=(H _ K).2.2.1;omega
 ·intro e W
  have d:=copyA (T.told 0) _ base e (OwI.below O W lR) (by omega);rw [t]at d;exact d
 ·intro e base' v z i
  have d:=rankS e.heap.size _ (T.told 0) off e (OwI.rd i) (by omega) (jF h);rw [<- Kc h k f]at d;exact d
 ·intro e base' v z i
  have d:=rankS e.heap.size _ ((cutP (zs++ts) T off).told 0) off e (OwI.rd i) (by rw [AT.told_length];omega) (jF I);rw [zBb h D (by omega) k f]at d;exact d
 ·intro e base' v z i
  exact zAh e.heap.size _ _ e ((OwI.rd i).takeX t _ R) lR (by rw [qN];omega) (fun x ac=>jF h x (xJ ac))
 ·intro e base' gs cs v z l m L n i X
  have d:=cutS (zs++ts) T off gs 0 cs base' v z e l m (by omega) n (by omega) h P D k f i X;rw [C]at d;exact d
 ·intro e gs cs l m L n A
  have d:=yo (zs++ts) gs 0 cs (zs.length:Int) (ts.length:Int) e l m (by omega) (by omega) (by omega) (by omega) n (by omega);rw [C]at d;exact d
 ·intro e gs cs y l m L n Y ao M
  have d:=yo (zs++ts) gs 0 cs y.pc.off (y.pc.len+(ts.length:Int)) e l m Y (by omega) (by omega) (by omega) n (by omega);rw [C]at d;exact d
 ·intro e base' g c Z A i
  have d:=zEp (cutP (zs++ts) T off) (cutN T off) (pcAt (zs++ts) (zs.length:Int) (ts.length:Int)) base' g c e (Zl P) (by omega) U i;rw [qZ (by omega),zDa h (fun p ad=>(H p ad).2.2.1) k f Z,J];exact d
 ·intro r y aa u ab M A
  rw [qZ (by omega),zD9 h k f aa u ab M,J];exact AT.qu T r _ 0 y u
 intro A;rw [xd A]
end Go.Proofs.YtmjanhcplcalfaaGreatDoor
