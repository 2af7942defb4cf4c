import Derived.Test.YtljdnoinennfaaaGreatDoorMq22
import Derived.Test.YtljdnoinennfaaaGreatDoorMq23
import Derived.Test.YtljdnoinennfaaaGreatDoorMq24
import Derived.Test.YtljdnoinennfaaaGreatDoorMq29
set_option linter.all false
set_option maxRecDepth 100000
set_option maxHeartbeats 8000000
namespace Go.Proofs.YtljdnoinennfaaaGreatDoor
open Go Go.RowKit Go.Proofs.Tryz
theorem Ze {w:World} {base:Nat} {v:Value} {zs:List Int} {n:Nat} (b:own32 w base v zs) (e:zs.length=n) (f:v≠ .slice none 0 0):∃g c,v= .slice (qK g 0) n c∧n<=c∧c<=maxLen∧base<=g∧g<w.heap.size:=by
 rcases b.2 with ⟨h,_⟩ | ⟨g,c,k,a,i,l,d,j,_⟩
 ·exact absurd h f
 ·rw [e]at a d
  refine⟨g,c,a,d,j,i,?_⟩
  have:=b.lt g (by rw [a];rfl)
  exact this.2
def yC (w:World) (b o:Nat) (zs:List Int):Prop:=∀i,i<zs.length->w.cell? ⟨b,o+i,none⟩=some (.int .i32 (zs.getD i 0))
theorem ZP {w:World} {b o:Nat} {ts:List Int} (d:yC w b o ts):∀j v,(ints .i32 ts)[j]? =some v->w.cell? ((⟨b,o,none⟩:Addr).add j)=some v:=by
 intro j v a;unfold ints at a;rw [vA]at a
 cases hj:ts[j]? with
 | none=>rw [hj]at a;cases a
 | some z=>
  rw [hj]at a;have c:=(xK.1 hj).1;have:=d j c;rw [qW,hj]at this;simp only [Qk,xw]at a;subst a;rw [zK];exact this
theorem zY {w:World} {base g cap n:Nat} {zs:List Int} (b:zs.length=n) (c:own32 w base (.slice (qK g 0) n cap) zs):yC w g 0 zs:=by
 subst b;intro i hi
 have a:=c.cellAt i (by omega)
 rw [xN,a];simp [ints,qW,hi]
def XE (w:World) (S:List Int) (X:List It) (e:Ending) (w':World):Prop:=
 ∃a b,e= .returned (.agg #[a,b])∧own32 w' w.heap.size a S∧OwI w' w.heap.size b X∧Below w.heap.size w w'∧∃g n c,a= .slice (qK g 0) n c
theorem insSA (zs ts S:List Int) (X F:List It) (ck:List It) (n m k a5 R:Nat) (b o cap:Nat) (J:Option Addr) (C am a6 dh:Nat) (off aw di:Int) (w:World)
  (a7:Hid (zs.length=n)) (cl:Hid (ts.length=m)) (dj:Hid (S=zs++ts)) (br:Hid (X.length=k)) (ex:n<=220000) (ey:m<=8192) (ez:n+m<=220000) (e0:k<=8192) (e1:R<=k) (e2:k<=C) (ea:C<=maxLen) (e3:0<=off∧off<=8192)
  (eb:Hid (yC w b o zs)) (ec:b<w.heap.size) (ed:Hid (yC w am a6 ts)) (ee:am<w.heap.size)
  (dk:Hid (∀ (j:Nat) (y:It),X[j]? =some y->0<=y.pc.off∧1<=y.pc.len∧y.pc.len<=8192∧y.pc.off+y.pc.len<=n))
  (dl:Hid (∀W,Below w.heap.size w W->Calls prog 66 #[.slice J k C] W fun e w'=>∃g cp,e= .returned (.slice (some ⟨g,0,none⟩) k cp)∧OwI w' W.heap.size (.slice (some ⟨g,0,none⟩) k cp) X∧Below W.heap.size W w'))
  (cm:Hid (∀W base a h,OwI W base (.slice (some ⟨a,0,none⟩) k h) X->Calls prog 68 #[.slice (some ⟨a,0,none⟩) k h,.int .i64 off] W fun e w'=>e= .returned (.int .i64 (R:Int))∧w'=W))
  (an:Hid (∀W base a h,OwI W base (.slice (some ⟨a,0,none⟩) a5 h) ck->Calls prog 68 #[.slice (some ⟨a,0,none⟩) a5 h,.int .i64 off] W fun e w'=>e= .returned (.int .i64 (R:Int))∧w'=W))
  (cn:Hid (∀W base a h,OwI W base (.slice (some ⟨a,0,none⟩) k h) X->Calls prog 35 #[.slice (some ⟨a,0,none⟩) R h] W fun e w'=>e= .returned (.int .i64 aw)∧Below W.heap.size W w'))
  (ax:Hid (∀W base gs cs a h,yC W gs 0 S->gs<W.heap.size->n+m<=cs->cs<=maxLen->OwI W base (.slice (some ⟨a,0,none⟩) k h) X->base<=W.heap.size->Calls prog 67 #[.slice (some ⟨gs,0,none⟩) (n+m) cs,.slice (some ⟨a,0,none⟩) k h,.int .i64 off] W fun e w'=>∃g c,e= .returned (.slice (some ⟨g,0,none⟩) a5 c)∧OwI w' base (.slice (some ⟨g,0,none⟩) a5 c) ck∧Below W.heap.size W w'))
  (b3:Hid (∀W gs cs,yC W gs 0 S->gs<W.heap.size->n+m<=cs->cs<=maxLen->0<m->Calls prog 62 #[.slice (some ⟨gs,0,none⟩) (n+m) cs,.int .i64 (n:Int),.int .i64 (m:Int)] W fun e w'=>e= .returned (.agg #[.int .i64 (n:Int),.int .i64 (m:Int),.int .i64 di])∧Below W.heap.size W w'))
  (bs:Hid (∀W gs cs (y:It),yC W gs 0 S->gs<W.heap.size->n+m<=cs->cs<=maxLen->0<=y.pc.off->1<=y.pc.len->y.pc.off+y.pc.len=n->Calls prog 62 #[.slice (some ⟨gs,0,none⟩) (n+m) cs,.int .i64 y.pc.off,.int .i64 (y.pc.len+(m:Int))] W fun e w'=>e= .returned (.agg #[.int .i64 y.pc.off,.int .i64 (y.pc.len+(m:Int)),.int .i64 (pcAt S y.pc.off (y.pc.len+(m:Int))).brk])∧Below W.heap.size W w'))
  (ao:Hid (∀W base g c,¬ (∃r y,R=r+1∧X[r]? =some y∧aw=off∧y.pc.off+y.pc.len=n)->0<m->OwI W base (.slice (some ⟨g,0,none⟩) a5 c) ck->Calls prog 72 #[.slice (some ⟨g,0,none⟩) a5 c,.int .i64 (R:Int),.agg #[.int .i64 (n:Int),.int .i64 (m:Int),.int .i64 di]] W fun e w'=>∃dg,e= .returned dg∧OwI w' W.heap.size dg F∧Below W.heap.size W w'))
  (bt:Hid (∀r y,R=r+1->X[r]? =some y->aw=off->y.pc.off+y.pc.len=n->0<m->F=X.set r ⟨pcAt S y.pc.off (y.pc.len+(m:Int)),y.lv⟩))
  (dm:Hid (m=0->F=X)):
  Calls prog 37 #[.agg #[.slice (some ⟨b,o,none⟩) n cap,.slice J k C],.int .i64 off,.slice (some ⟨am,a6,none⟩) m dh] w (XE w S F):=by
 obtain⟨e4,hi,e5,e6,e7⟩:=xM Tryz.qv;unfold maxLen at ea
 have b4:=qG (((qO w.heap.size w).alloc lR (.cells #[.slice (some ⟨b,o,none⟩) n cap,.slice J k C] 30)).alloc (by simp) (.cells #[.slice none 0 0,.slice none 0 0] 30))
 have cu:=qG (show((w.alloc (.cells #[.slice (some ⟨b,o,none⟩) n cap,.slice J k C] 30)).alloc (.cells #[.slice none 0 0,.slice none 0 0] 30)).heap[w.heap.size]? =some (.cells #[.slice (some ⟨b,o,none⟩) n cap,.slice J k C] 30 (0,0))by
  rw [vP _ _ _ (by simp)];exact xm _ _)
 have dt:=qG (show((w.alloc (.cells #[.slice (some ⟨b,o,none⟩) n cap,.slice J k C] 30)).alloc (.cells #[.slice none 0 0,.slice none 0 0] 30)).heap[w.heap.size+1]? =some (.cells #[.slice none 0 0,.slice none 0 0] 30 (0,0))by
  have:=xm (w.alloc (.cells #[.slice (some ⟨b,o,none⟩) n cap,.slice J k C] 30)) (.cells #[.slice none 0 0,.slice none 0 0] 30)
  rw [show(w.alloc (.cells #[.slice (some ⟨b,o,none⟩) n cap,.slice J k C] 30)).heap.size=w.heap.size+1 by simp]at this;exact this)
 have ek:w.heap.size+2<=((w.alloc (.cells #[.slice (some ⟨b,o,none⟩) n cap,.slice J k C] 30)).alloc (.cells #[.slice none 0 0,.slice none 0 0] 30)).heap.size:=by simp
 go_enter func37,ntmps37
 go_upto_region 1 with fail
 generalize (w.alloc (.cells #[.slice (some ⟨b,o,none⟩) n cap,.slice J k C] 30)).alloc (.cells #[.slice none 0 0,.slice none 0 0] 30)=f at *
 have cv:f.cell? ⟨w.heap.size,0,none⟩=some (.slice (some ⟨b,o,none⟩) n cap):=by rw [qQ f _ 0 _ _ _ cu.out];rfl
 have cw:=qG (j8 f);have bw:=qG ((qO f.heap.size f).alloc lR (.cells #[] 21))
 have cx:=qG (ZP (show yC (f.alloc (.cells #[] 21)) b o zs from fun i hi=>(bw.out.cell (p:=⟨b,o+i,none⟩) (by show b<_;omega)).trans ((b4.out.cell (p:=⟨b,o+i,none⟩) ec).trans (eb.out i hi))))
 have cy:(f.alloc (.cells #[] 21)).cell? ⟨w.heap.size,0,none⟩=some (.slice (some ⟨b,o,none⟩) n cap):=(bw.out.cell (p:=⟨w.heap.size,0,none⟩) (by show w.heap.size<_;omega)).trans cv
 have b5:=qG (show(f.alloc (.cells #[] 21)).ownsRow f.heap.size 21 1 (.slice (some ⟨f.heap.size,0,none⟩) 0 0) 0 []from cw.out)
 have du:=qG (show(ints .i32 zs).length=n*1 by rw [zC,a7.out];omega)
 have LT:=qG (show(ints .i32 ts).length=m*1 by rw [zC,cl.out];omega)
 go_upto_region 2 with fail
 go_upto_region 3 with (at_builtin;refine a25 _ rfl _ _ rfl f.heap.size (.slice (some ⟨f.heap.size,0,none⟩) 0 0) 0 [] rfl (by exact b5.out) ⟨b,o,none⟩ n cap (ints .i32 zs) rfl (by exact du.out) (by exact cx.out) (zF .i32 zs) (by unfold maxLen;omega) (by omega) (by simp) ?_;intro de cg bl bm bn;refine vW ?_)
 refine Lib.hid ?_
 have b6:=qG (show own32 cg f.heap.size de zs from(by have s:=bl;unfold own32;rw [a7.out];rw [xN,xJ]at s;exact s))
 have bx:=qG (bw.out.trans ((qO f.heap.size _).grown bm (by simp) (fun q d=>(b5.out.lt q d).1)))
 have cz:=qG (show ¬de= .slice none 0 0 from fun e=>absurd (bn.1 e).1 (by simp))
 clear bl bm bn cw b5 cx cy bw cv;obtain⟨dn,dp,rfl,ef,dq,eg,eh⟩:=Ze b6.out a7.out cz.out;have dv:=bx.out.size
 have b7:=qG (show cg.ownsRow f.heap.size 21 1 (.slice (some ⟨dn,0,none⟩) n dp) n (ints .i32 zs)from(by have s:=b6.out;unfold own32 at s;rw [a7.out]at s;exact s))
 have c0:=qG (ZP (show yC cg am a6 ts from fun i hi=>(bx.out.cell (p:=⟨am,a6+i,none⟩) (by show am<_;omega)).trans ((b4.out.cell (p:=⟨am,a6+i,none⟩) ee).trans (ed.out i hi))))
 unfold maxLen at dq
 go_upto_region 4 with (at_builtin;refine a25 _ rfl _ _ rfl f.heap.size (.slice (some ⟨dn,0,none⟩) n dp) n (ints .i32 zs) rfl (by exact b7.out) ⟨am,a6,none⟩ m dh (ints .i32 ts) rfl (by exact LT.out) (by exact c0.out) (zF .i32 ts) (by unfold maxLen;omega) (by omega) (by omega) ?_;intro df U bl bm bn;refine vW ?_)
 refine Lib.hid ?_
 have bz:=qG (show own32 U f.heap.size df S from(by rw [dj.out];exact Zt a7.out cl.out bl))
 have b0:=qG (bx.out.trans ((qO f.heap.size _).grown bm (by omega) (fun q d=>(b7.out.lt q d).1)))
 have c1:=qG (show ¬df= .slice none 0 0 from fun e=>absurd (bn.1 e).1 (by simp))
 have aa:=qG (show S.length=n+m by rw [dj.out,qM,a7.out,cl.out])
 clear bl bm bn b6 b7 c0 bx cz ef dq eg eh dv;obtain⟨gs,cs,rfl,ay,az,e8,e9⟩:=Ze bz.out aa.out c1.out;have el:=b0.out.size
 have c2:=(b0.out.block w.heap.size (by omega)).trans cu.out
 have cy:U.cell? ⟨w.heap.size,1,none⟩=some (.slice J k C):=by rw [qQ U _ 1 _ _ _ c2];rfl
 have b8:=qG ((b0.out.block (w.heap.size+1) (by omega)).trans dt.out)
 have b9:=qG (b4.out.trans (b0.out.mono (by omega)))
 have ca:=qG (dl.out U b9.out);clear c2 c1 dl
 by_cases ch:m=0
 ·have dw:=qG (dm.out ch)
  subst ch;clear dm bt ao bs b3 ax an cm cn dk;go_wp2_with fail;refine ca.out.mono ?_;rintro e D ⟨a,h,rfl,V,K⟩;have dx:=K.size
  have ab:=qG (b9.out.trans (K.mono (by omega)))
  have P:=qG (show own32 D w.heap.size _ S from zD (zA bz.out K lR) (by omega))
  have O:=qG (show OwI D w.heap.size (.slice (some ⟨a,0,none⟩) k h) F from(by rw [dw.out];exact zD V (by omega)))
  have Q:=qG (show w.heap.size+1<gs∧w.heap.size+1<a from⟨by omega,by have:=(V.lt a rfl).1;omega⟩)
  have a9:=(K.block (w.heap.size+1) (by omega)).trans b8.out
  clear K V
  have G:D.cell? ⟨w.heap.size+1,0,none⟩=some (.slice none 0 0):=by rw [qQ D _ 0 _ _ _ a9];rfl
  have H:D.cell? ⟨w.heap.size+1,1,none⟩=some (.slice none 0 0):=by rw [qQ D _ 1 _ _ _ a9];rfl
  have a0:=xo D (w.heap.size+1) 0 _ _ a9;have a1:=xo D (w.heap.size+1) 1 _ _ a9;clear a9;go_wp2
  refine xr (v:=.agg #[.slice (some ⟨gs,0,none⟩) (n+0) cs,.slice (some ⟨a,0,none⟩) k h]) (by simp [results,results37,go_sem,G,H]) rfl ⟨_,_,rfl,?_,?_,?_,⟨_,_,_,rfl⟩⟩
  ·exact zB P.out (fun q d=>by cases d;rw [xp _ _ _ _ (by simp;have:=Q.out;omega),xp _ _ _ _ (by simp;have:=Q.out;omega)])
  ·exact zB O.out (fun q d=>by cases d;rw [xp _ _ _ _ (by simp;have:=Q.out;omega),xp _ _ _ _ (by simp;have:=Q.out;omega)])
  ·exact(ab.out.setCell (by simp) _).setCell (by simp) _
 have ar:0<m:=by omega
 have em:(0:Int)<(m:Int):=by omega
 have en:¬ (m:Int)=0:=by omega
 go_wp2_with fail;refine ca.out.mono ?_;rintro e D ⟨a,h,rfl,V,K⟩;have dx:=K.size
 have ab:=qG (b9.out.trans (K.mono (by omega)))
 have P:=qG (show own32 D f.heap.size _ S from zA bz.out K lR)
 have O:=qG V
 have a2:=qG ((K.block (w.heap.size+1) (by omega)).trans b8.out)
 have dy:=qG (V.lt a rfl)
 obtain⟨fa,ei⟩:k<=h∧h<=maxLen:=by
  rcases V.2 with ⟨bp,_⟩ | ⟨g,cp,fc,bp,_,_,bq,cj,_⟩
  ·cases bp
  ·rw [br.out]at bp bq;cases bp;exact⟨bq,cj⟩
 unfold maxLen at ei;have ba:=qG (cm.out D _ a h V);clear K V b8 bz ca ch cm
 rcases kh R with dr | dr
 ·subst dr
  go_wp2_with fail;refine ba.out.mono ?_;rintro e wx ⟨rfl,Y⟩;have T:=Y.symm;subst T
  have bc:=qG (show ¬ (∃r y,(0:Nat)=r+1∧X[r]? =some y∧aw=off∧y.pc.off+y.pc.len=(n:Int))from fun⟨r,_,ew,_⟩=>by omega)
  clear ba
  have ac:=qG (ax.out D U.heap.size gs cs a h (zY aa.out P.out) (by omega) ay az O.out (by omega))
  go_wp2_with fail;refine ac.out.mono ?_;rintro e L ⟨ap,cc,rfl,M,x⟩;have c3:=x.size
  have ad:=qG (ab.out.trans (x.mono (by omega)))
  have I:=qG (show own32 L f.heap.size _ S from zA P.out x lR)
  have ae:=qG ((x.block (w.heap.size+1) (by omega)).trans a2.out)
  have af:=qG M;have RC:=qG (an.out L _ ap cc M);clear x M ac ax ab P O a2;go_wp2_with fail;refine RC.out.mono ?_;rintro e wx ⟨rfl,Y⟩;have T:=Y.symm;subst T
  have ag:=qG (b3.out L gs cs (zY aa.out I.out) (by omega) ay az ar)
  clear RC an;go_wp2_with fail;refine ag.out.mono ?_;rintro e aq ⟨rfl,t⟩;have c4:=t.size
  have ah:=qG (ad.out.trans (t.mono (by omega)))
  have ai:=qG (show own32 aq f.heap.size _ S from zA I.out t lR)
  have aj:=qG ((t.block (w.heap.size+1) (by omega)).trans ae.out)
  have ak:=qG (ao.out aq _ ap cc bc.out ar (OwI.below af.out t lR));clear t ag ad I ae af ao;go_wp2_with fail;refine ak.out.mono ?_;rintro e l ⟨ds,rfl,B,A⟩;obtain⟨bu,bv,rfl⟩:=zc B;have c5:=A.size
  have bd:=qG (ah.out.trans (A.mono (by omega)))
  have be:=qG (show own32 l w.heap.size _ S from zD (zA ai.out A lR) (by omega))
  have bf:=qG (show OwI l w.heap.size _ F from zD B (by omega))
  have bg:=qG (fun q d=>(B.lt q d).1)
  have u:=(A.block (w.heap.size+1) (by omega)).trans aj.out
  clear A B ak ah ai aj;generalize F.length=bo at *
  have G:l.cell? ⟨w.heap.size+1,0,none⟩=some (.slice none 0 0):=by rw [qQ l _ 0 _ _ _ u];rfl
  have H:l.cell? ⟨w.heap.size+1,1,none⟩=some (.slice none 0 0):=by rw [qQ l _ 1 _ _ _ u];rfl
  have a0:=xo l (w.heap.size+1) 0 _ _ u;have a1:=xo l (w.heap.size+1) 1 _ _ u;clear u;go_wp2
  refine xr (v:=.agg #[.slice (some ⟨gs,0,none⟩) (n+m) cs,.slice bu bo bv]) (by simp [results,results37,go_sem,G,H]) rfl ⟨_,_,rfl,?_,?_,?_,⟨_,_,_,rfl⟩⟩
  ·exact zB be.out (fun q d=>by cases d;rw [xp _ _ _ _ (by simp;omega),xp _ _ _ _ (by simp;omega)])
  ·exact zB bf.out (fun q d=>by have s:=bg.out q d;rw [xp _ _ _ _ (by simp;omega),xp _ _ _ _ (by simp;omega)])
  ·exact(bd.out.setCell (by simp) _).setCell (by simp) _
 ·obtain⟨r,ej⟩:∃r,R=r+1:=⟨R - 1,by omega⟩
  subst ej
  obtain⟨y,co⟩:∃y,X[r]? =some y:=⟨_,qY (by rw [br.out];omega)⟩
  have c6:=dk.out r y co;have bh:=qG co;have bi:=qG (cn.out D _ a h O.out)
  have eo:(0:Int)<(r:Int)+1:=by omega
  have ep:(r:Int)+1<=(h:Int):=by omega
  have eq:(r:Int)<(k:Int):=by omega
  rw [show((r+1:Nat):Int)=(r:Int)+1 by omega]at ba an ao
  clear co cn;go_wp2_with fail;refine ba.out.mono ?_;rintro e wx ⟨rfl,Y⟩;have T:=Y.symm;subst T;clear ba
  by_cases b2:aw=off
  ·have dz:=qG b2
   rw [b2]at bi;clear b2;go_wp2_with fail;refine bi.out.mono ?_;rintro e E ⟨rfl,N⟩;have c7:=N.size
   have c8:E.ownsRow U.heap.size 71 4 (.slice (some ⟨a,0,none⟩) k h) k (itVs X):=by
    have s:=O.out;unfold OwI at s;rw [br.out]at s;exact zA s N lR
   obtain⟨cq,cr,ct⟩:=OwI.c3 c8 bh.out;have b1:=qG (N.alloc c7 (.cells #[.int .i64 y.pc.off,.int .i64 y.pc.len,.int .i64 y.pc.brk] 69));have er:=qG ((qO E.heap.size E).alloc lR (.cells #[.int .i64 y.pc.off,.int .i64 y.pc.len,.int .i64 y.pc.brk] 69))
   have c9:=qG (show(E.alloc (.cells #[.int .i64 y.pc.off,.int .i64 y.pc.len,.int .i64 y.pc.brk] 69)).heap[E.heap.size]? =some (.cells #[.int .i64 y.pc.off,.int .i64 y.pc.len,.int .i64 y.pc.brk] 69 (0,0))from xm _ _)
   have es:E.heap.size<(E.alloc (.cells #[.int .i64 y.pc.off,.int .i64 y.pc.len,.int .i64 y.pc.brk] 69)).heap.size:=by simp
   clear N c8 bi
   go_upto_region 10 with fail
   generalize E.alloc (.cells #[.int .i64 y.pc.off,.int .i64 y.pc.len,.int .i64 y.pc.brk] 69)=au at *
   have G:au.cell? ⟨E.heap.size,0,none⟩=some (.int .i64 y.pc.off):=by rw [qQ au _ 0 _ _ _ c9.out];rfl
   have H:au.cell? ⟨E.heap.size,1,none⟩=some (.int .i64 y.pc.len):=by rw [qQ au _ 1 _ _ _ c9.out];rfl
   clear cq cr ct
   have cb:=qG (ab.out.trans (b1.out.mono (by omega)))
   have bj:=qG (show own32 au f.heap.size _ S from zA P.out b1.out lR)
   have cd:=qG (OwI.below O.out b1.out lR)
   have ce:=qG ((b1.out.block (w.heap.size+1) (by omega)).trans a2.out)
   clear ab P O a2
   by_cases ci:y.pc.off+y.pc.len=(n:Int)
   ·have da:=qG (bs.out au gs cs y (zY aa.out bj.out) (by omega) ay az c6.1 c6.2.1 ci)
    have d0:=qG (bt.out r y rfl bh.out dz.out ci ar);clear bs bt;go_wp2_with fail;refine da.out.mono ?_;rintro e Z ⟨rfl,a8⟩;have et:=a8.size
    have a3:Z.ownsRow U.heap.size 71 4 (.slice (some ⟨a,0,none⟩) k h) k (itVs X):=by
     have s:=cd.out;unfold OwI at s;rw [br.out]at s;exact zA s a8 lR
    have hst:=OwI.setPc a3 bh.out ⟨y.pc.off,y.pc.len+(m:Int),(pcAt S y.pc.off (y.pc.len+(m:Int))).brk⟩;have a0:Z.frozen? ⟨a,r*4,none⟩=false:=a3.frozenAt _;have a1:Z.frozen? ⟨a,r*4+1,none⟩=false:=a3.frozenAt _;have d1:Z.frozen? ⟨a,r*4+2,none⟩=false:=a3.frozenAt _;obtain⟨cq,cr,ct⟩:=OwI.c3 a3 bh.out;have d2:=dy.out
    have d3:=qG ((cb.out.trans (a8.mono (by omega))).grown hst.2 (by omega) (fun z d8=>by cases d8;omega))
    have d4:=qG (show own32 (((Z.setCell ⟨a,r*4,none⟩ (.int .i64 y.pc.off)).setCell ⟨a,r*4+1,none⟩ (.int .i64 (y.pc.len+(m:Int)))).setCell ⟨a,r*4+2,none⟩ (.int .i64 (pcAt S y.pc.off (y.pc.len+(m:Int))).brk)) w.heap.size _ S from zD (zB (zA bj.out a8 lR) (fun q d=>hst.2.block q (by cases d;show gs<_;omega) (by intro s;cases d;have eu:gs=a:=vF s;omega))) (by omega))
    have d5:=qG (show OwI (((Z.setCell ⟨a,r*4,none⟩ (.int .i64 y.pc.off)).setCell ⟨a,r*4+1,none⟩ (.int .i64 (y.pc.len+(m:Int)))).setCell ⟨a,r*4+2,none⟩ (.int .i64 (pcAt S y.pc.off (y.pc.len+(m:Int))).brk)) w.heap.size (.slice (some ⟨a,0,none⟩) k h) F from(by rw [d0.out];unfold OwI;rw [kB,br.out];exact zD hst.1 (by omega)))
    have d6:=qG ((hst.2.block (w.heap.size+1) (by omega) (by intro s;cases s;omega)).trans ((a8.block (w.heap.size+1) (by omega)).trans ce.out))
    have Q:=qG (show w.heap.size+1<gs∧w.heap.size+1<a from⟨by omega,by omega⟩)
    have ev:Z.heap.size<=(((Z.setCell ⟨a,r*4,none⟩ (.int .i64 y.pc.off)).setCell ⟨a,r*4+1,none⟩ (.int .i64 (y.pc.len+(m:Int)))).setCell ⟨a,r*4+2,none⟩ (.int .i64 (pcAt S y.pc.off (y.pc.len+(m:Int))).brk)).heap.size:=hst.2.size;clear a8 a3 hst G H da d2;generalize (pcAt S y.pc.off (y.pc.len+(m:Int))).brk=d7 at *
    go_upto_region 12 with fail
    generalize (((Z.setCell ⟨a,r*4,none⟩ (.int .i64 y.pc.off)).setCell ⟨a,r*4+1,none⟩ (.int .i64 (y.pc.len+(m:Int)))).setCell ⟨a,r*4+2,none⟩ (.int .i64 d7))=a4 at *;clear cq cr ct a0 a1 d1;have bk:=d6.out
    have G:a4.cell? ⟨w.heap.size+1,0,none⟩=some (.slice none 0 0):=by rw [qQ a4 _ 0 _ _ _ bk];rfl
    have H:a4.cell? ⟨w.heap.size+1,1,none⟩=some (.slice none 0 0):=by rw [qQ a4 _ 1 _ _ _ bk];rfl
    have a0:=xo a4 (w.heap.size+1) 0 _ _ bk;have a1:=xo a4 (w.heap.size+1) 1 _ _ bk;clear bk;go_wp2
    refine xr (v:=.agg #[.slice (some ⟨gs,0,none⟩) (n+m) cs,.slice (some ⟨a,0,none⟩) k h]) (by simp [results,results37,go_sem,G,H]) rfl ⟨_,_,rfl,?_,?_,?_,⟨_,_,_,rfl⟩⟩
    ·exact zB d4.out (fun q d=>by cases d;rw [xp _ _ _ _ (by simp;have:=Q.out;omega),xp _ _ _ _ (by simp;have:=Q.out;omega)])
    ·exact zB d5.out (fun q d=>by cases d;rw [xp _ _ _ _ (by simp;have:=Q.out;omega),xp _ _ _ _ (by simp;have:=Q.out;omega)])
    ·exact(d3.out.setCell (by simp) _).setCell (by simp) _
   ·have bc:=qG (show ¬ (∃av al,r+1=av+1∧X[av]? =some al∧aw=off∧al.pc.off+al.pc.len=(n:Int))from fun⟨av,al,bp,bq,_,d9⟩=>by
     obtain rfl:r=av:=by omega
     rw [bh.out]at bq;cases bq;exact ci d9)
    clear bs bt
    have ac:=qG (ax.out au U.heap.size gs cs a h (zY aa.out bj.out) (by omega) ay az cd.out (by omega))
    go_wp2_with fail;refine ac.out.mono ?_;rintro e L ⟨ap,cc,rfl,M,x⟩;have c3:=x.size
    have ad:=qG (cb.out.trans (x.mono (by omega)))
    have I:=qG (show own32 L f.heap.size _ S from zA bj.out x lR)
    have ae:=qG ((x.block (w.heap.size+1) (by omega)).trans ce.out)
    have af:=qG M;have RC:=qG (an.out L _ ap cc M);clear x M ac ax cb bj cd ce;go_wp2_with fail;refine RC.out.mono ?_;rintro e wx ⟨rfl,Y⟩;have T:=Y.symm;subst T
    have ag:=qG (b3.out L gs cs (zY aa.out I.out) (by omega) ay az ar)
    clear RC an;go_wp2_with fail;refine ag.out.mono ?_;rintro e aq ⟨rfl,t⟩;have c4:=t.size
    have ah:=qG (ad.out.trans (t.mono (by omega)))
    have ai:=qG (show own32 aq f.heap.size _ S from zA I.out t lR)
    have aj:=qG ((t.block (w.heap.size+1) (by omega)).trans ae.out)
    have ak:=qG (ao.out aq _ ap cc bc.out ar (OwI.below af.out t lR));clear t ag ad I ae af ao;go_wp2_with fail;refine ak.out.mono ?_;rintro e l ⟨ds,rfl,B,A⟩;obtain⟨bu,bv,rfl⟩:=zc B;have c5:=A.size
    have bd:=qG (ah.out.trans (A.mono (by omega)))
    have be:=qG (show own32 l w.heap.size _ S from zD (zA ai.out A lR) (by omega))
    have bf:=qG (show OwI l w.heap.size _ F from zD B (by omega))
    have bg:=qG (fun q d=>(B.lt q d).1)
    have u:=(A.block (w.heap.size+1) (by omega)).trans aj.out
    clear A B ak ah ai aj;generalize F.length=bo at *
    have G:l.cell? ⟨w.heap.size+1,0,none⟩=some (.slice none 0 0):=by rw [qQ l _ 0 _ _ _ u];rfl
    have H:l.cell? ⟨w.heap.size+1,1,none⟩=some (.slice none 0 0):=by rw [qQ l _ 1 _ _ _ u];rfl
    have a0:=xo l (w.heap.size+1) 0 _ _ u;have a1:=xo l (w.heap.size+1) 1 _ _ u;clear u;go_wp2
    refine xr (v:=.agg #[.slice (some ⟨gs,0,none⟩) (n+m) cs,.slice bu bo bv]) (by simp [results,results37,go_sem,G,H]) rfl ⟨_,_,rfl,?_,?_,?_,⟨_,_,_,rfl⟩⟩
    ·exact zB be.out (fun q d=>by cases d;rw [xp _ _ _ _ (by simp;omega),xp _ _ _ _ (by simp;omega)])
    ·exact zB bf.out (fun q d=>by have s:=bg.out q d;rw [xp _ _ _ _ (by simp;omega),xp _ _ _ _ (by simp;omega)])
    ·exact(bd.out.setCell (by simp) _).setCell (by simp) _
  ·have bc:=qG (show ¬ (∃av al,r+1=av+1∧X[av]? =some al∧aw=off∧al.pc.off+al.pc.len=(n:Int))from fun⟨_,_,_,_,cj,_⟩=>b2 cj)
   clear bs bt;go_wp2_with fail;refine bi.out.mono ?_;rintro e E ⟨rfl,N⟩;have c7:=N.size
   have db:=qG (ab.out.trans (N.mono (by omega)))
   have cf:=qG (show own32 E f.heap.size _ S from zA P.out N lR)
   have dc:=qG (OwI.below O.out N lR)
   have dd:=qG ((N.block (w.heap.size+1) (by omega)).trans a2.out)
   clear N ab P O a2 bi
   have ac:=qG (ax.out E U.heap.size gs cs a h (zY aa.out cf.out) (by omega) ay az dc.out (by omega))
   go_wp2_with fail;refine ac.out.mono ?_;rintro e L ⟨ap,cc,rfl,M,x⟩;have c3:=x.size
   have ad:=qG (db.out.trans (x.mono (by omega)))
   have I:=qG (show own32 L f.heap.size _ S from zA cf.out x lR)
   have ae:=qG ((x.block (w.heap.size+1) (by omega)).trans dd.out)
   have af:=qG M;have RC:=qG (an.out L _ ap cc M);clear x M ac ax db cf dc dd;go_wp2_with fail;refine RC.out.mono ?_;rintro e wx ⟨rfl,Y⟩;have T:=Y.symm;subst T
   have ag:=qG (b3.out L gs cs (zY aa.out I.out) (by omega) ay az ar)
   clear RC an;go_wp2_with fail;refine ag.out.mono ?_;rintro e aq ⟨rfl,t⟩;have c4:=t.size
   have ah:=qG (ad.out.trans (t.mono (by omega)))
   have ai:=qG (show own32 aq f.heap.size _ S from zA I.out t lR)
   have aj:=qG ((t.block (w.heap.size+1) (by omega)).trans ae.out)
   have ak:=qG (ao.out aq _ ap cc bc.out ar (OwI.below af.out t lR));clear t ag ad I ae af ao;go_wp2_with fail;refine ak.out.mono ?_;rintro e l ⟨ds,rfl,B,A⟩;obtain⟨bu,bv,rfl⟩:=zc B;have c5:=A.size
   have bd:=qG (ah.out.trans (A.mono (by omega)))
   have be:=qG (show own32 l w.heap.size _ S from zD (zA ai.out A lR) (by omega))
   have bf:=qG (show OwI l w.heap.size _ F from zD B (by omega))
   have bg:=qG (fun q d=>(B.lt q d).1)
   have u:=(A.block (w.heap.size+1) (by omega)).trans aj.out
   clear A B ak ah ai aj;generalize F.length=bo at *
   have G:l.cell? ⟨w.heap.size+1,0,none⟩=some (.slice none 0 0):=by rw [qQ l _ 0 _ _ _ u];rfl
   have H:l.cell? ⟨w.heap.size+1,1,none⟩=some (.slice none 0 0):=by rw [qQ l _ 1 _ _ _ u];rfl
   have a0:=xo l (w.heap.size+1) 0 _ _ u;have a1:=xo l (w.heap.size+1) 1 _ _ u;clear u;go_wp2
   refine xr (v:=.agg #[.slice (some ⟨gs,0,none⟩) (n+m) cs,.slice bu bo bv]) (by simp [results,results37,go_sem,G,H]) rfl ⟨_,_,rfl,?_,?_,?_,⟨_,_,_,rfl⟩⟩
   ·exact zB be.out (fun q d=>by cases d;rw [xp _ _ _ _ (by simp;omega),xp _ _ _ _ (by simp;omega)])
   ·exact zB bf.out (fun q d=>by have s:=bg.out q d;rw [xp _ _ _ _ (by simp;omega),xp _ _ _ _ (by simp;omega)])
   ·exact(bd.out.setCell (by simp) _).setCell (by simp) _
theorem AT.split_its (T:AT) (k:Nat) (d:k<=T.its):(T.split k).1.its=k∧(T.split k).2.its=T.its - k:=by
 have c:=AT.split_flat T k d;have a:=kO List.length c.1;have b:=kO List.length c.2;rw [AT.flat_length,qN,AT.flat_length]at a;rw [AT.flat_length,qS,AT.flat_length]at b
 exact⟨by omega,b⟩
theorem splitS:∀ (T:AT) (k:Nat) (v:Value) (base:Nat) (w:World),T.bal->T.its<=8192->k<=T.its->OwI w base v (T.told 0)->
  Calls prog 69 #[v,qJ (k:Int)] w fun e w'=>∃x y,e= .returned (.tuple #[x,y])∧OwI w' w.heap.size x ((T.split k).1.told 0)∧OwI w' w.heap.size y ((T.split k).2.told 0)∧Below w.heap.size w w':=by
 intro T
 induction T with
 | nil=>
  intro k v base w _ _ ak M;obtain⟨ao,cb,rfl⟩:=(OwI.rd M).val;have bj:=qG (qO w.heap.size w);clear M;go_enter func69,ntmps69;go_wp2
  refine xr (v:=.tuple #[_,_]) (by simp [results,results69,go_sem]) rfl ⟨_,_,rfl,⟨rfl,.inl ⟨rfl,rfl⟩⟩,⟨rfl,.inl ⟨rfl,rfl⟩⟩,bj⟩
 | node l p r bh bi=>
  intro k v base w bq b9 ak M;have ac:=AT.told_length (AT.node l p r) 0;obtain⟨D,c,bx,bz⟩:=bq
  obtain⟨b,t,rfl,cc,b0⟩:∃b t,v= .slice (qK b 0) (AT.node l p r).its t∧(AT.node l p r).its<=t∧t<=maxLen:=by
   rcases M.2 with ⟨a3,O⟩ | ⟨g,cp,cd,a3,_,_,O,b1,_⟩
   ·exact absurd O (by rw [ac];simp only [AT.its];omega)
   ·rw [ac]at a3 O;exact⟨g,cp,a3,O,b1⟩
  unfold maxLen at b0;have b3:l.its+1+r.its=(AT.node l p r).its:=rfl
  have ad:(AT.node l p r).told 0=l.told 1++⟨p,0⟩::r.told 1:=by simp [AT.told]
  have a7:(AT.node l p r).told 0=l.told 1++(⟨p,0⟩::r.told 1):=ad
  have a8:(AT.node l p r).told 0=(l.told 1++ [⟨p,0⟩])++r.told 1:=by rw [ad];simp
  have a9:((AT.node l p r).told 0)[l.its]? =some ⟨p,0⟩:=by
   rw [ad,xe (by rw [AT.told_length];exact lR),AT.told_length,vO];rfl
  have LV:=yO (AT.node l p r) (by omega)
  have bk:=qG (XF (A:=[]) (Z:=l.told 1) (B:=⟨p,0⟩::r.told 1) (by rw [ad];simp) LV)
  have bl:=qG (XF (A:=l.told 1++ [⟨p,0⟩]) (Z:=r.told 1) (B:=[]) (by rw [ad];simp) LV)
  have ae:=qG (Xb w.heap.size (.slice (qK b 0) (AT.node l p r).its t) ((AT.node l p r).told 0) w M.rd (by omega) (A:=[]) (B:=[]) (l:=l) (q:=p) (r:=r) (e:=0) (by simp) ⟨fun a G=>by simp at G,fun a G=>by simp at G⟩ 0 ((AT.node l p r).its:Int) rfl (by simp))
  rw [xC,xN]at ae;have aq:=(M.lt b rfl).2
  have ar:=qG (fun W (C:Below w.heap.size w W)=>zA M C lR)
  have af:=qG (fun W (C:Below w.heap.size w W)=>liftS (-1) (l.told 1) (.slice (qK b 0) l.its t) W (.inr ⟨b,0,t,by rw [AT.told_length],xz aq C.size,yF (ar W C) ac a7⟩) (by rw [AT.told_length];omega) (by omega) bk)
  have ag:=qG (fun W (u:Value) (C:Below w.heap.size w W) (bw:SrcI W u (r.told 1))=>liftS (-1) (r.told 1) u W bw (by rw [AT.told_length];omega) (by omega) bl)
  have ba:=qG (fun W (C:Below w.heap.size w W)=>(show SrcI W (.slice (qK b ((l.its+1)*4)) ((AT.node l p r).its - (l.its+1)) (t - (l.its+1))) (r.told 1)from .inr ⟨b,(l.its+1)*4,t - (l.its+1),by rw [AT.told_length];congr 1;omega,xz aq C.size,by have P:=JW (ar W C) ac a8;rw [qM,AT.told_length]at P;exact P⟩))
  have bc:=qG (fun(W:World) (C:Below w.heap.size w W) (bv:r.its=0)=>(show SrcI W (.slice (qK b 0) 0 0) (r.told 1)from(by
   have P:r.told 1= []:=qU (by rw [AT.told_length];exact bv)
   rw [P]
   exact .inr ⟨b,0,0,rfl,xz aq C.size,by intro j u br;simp [itVs]at br⟩)))
  rw [jK,AT.told_length,show(1:Int)+ -1=0 by omega]at af ag
  have ap:=qG (fun W (C:Below w.heap.size w W)=>OwI.c3 (by have P:=ar W C;rw [ac]at P;exact P) a9)
  have bd:=qG (fun(W:World) (u:Value) (bs:Nat) (G:OwI W bs u (l.told 0)) (ak:k<=l.its)=>bh k u bs W D (by omega) ak G)
  have be:=qG (fun(W:World) (u:Value) (bs:Nat) (G:OwI W bs u (r.told 0)) (ak:k - l.its - 1<=r.its)=>bi (k - l.its - 1) u bs W c (by omega) ak G)
  have bf:=qG (fun(s:k<=l.its) (W:World) (u u2:Value) (bs al:Nat) (G:OwI W bs u ((l.split k).2.told 0)) (O:OwI W al u2 (r.told 0))=>joinS (l.split k).2 r p bs al u u2 W (AT.split_bal l k D).2 c (by rw [(AT.split_its l k s).2];omega) G O)
  have bg:=qG (fun(s:k - l.its - 1<=r.its) (W:World) (u u2:Value) (bs al:Nat) (G:OwI W bs u (l.told 0)) (O:OwI W al u2 ((r.split (k - l.its - 1)).1.told 0))=>joinS l (r.split (k - l.its - 1)).1 p bs al u u2 W D (AT.split_bal r _ c).1 (by rw [(AT.split_its r _ s).1];omega) G O)
  unfold pcV at bf bg
  have bm:=qG (fun s:k<=l.its=>(show(AT.node l p r).split k=((l.split k).1,AT.spl (l.split k).2 p r)from(by simp only [AT.split,xj s])))
  have bn:=qG (fun s:¬k<=l.its=>(show(AT.node l p r).split k=(AT.spl l p (r.split (k - l.its - 1)).1,(r.split (k - l.its - 1)).2)from(by simp only [AT.split,qT s])))
  clear bh bi bx bz D c ac ad a7 a8 a9 LV;generalize (AT.node l p r).its=n at *;generalize (AT.node l p r).split k=ca at *;have b4:=qG (qO w.heap.size w);have b5:=qG (M);clear M
  have b6:(l.its:Int)<=(t:Int):=by omega
  have b7:(l.its:Int)+1<=(t:Int):=by omega
  have b8:(l.its:Int)<(n:Int):=by omega
  by_cases s:k<=l.its
  ·have ah:=qG (bf s)
   rw [bm.out s]
   have bo:(k:Int)<=(l.its:Int):=by omega
   generalize (l.split k).1=bu at *;generalize (l.split k).2=S2 at *;go_enter func69,ntmps69;go_wp2_with fail;refine ae.mono ?_;rintro e w1 ⟨rfl,q,am⟩
   have Q:=qG (show Below w.heap.size w w1 from(by rw [am];exact⟨rfl,rfl,rfl,lR,fun _ _=>rfl⟩))
   have au:=Q.size;clear am ae;go_wp2_with fail;refine(af w1 Q).mono ?_;rintro e N ⟨gl,b2,rfl,an,D⟩;have m:=qG (Q.trans (D.mono au));have bp:=D.size;have ai:=qG an;clear an D af
   by_cases bt:t=l.its+1
   ·have aj:r.its=0:=by omega
    have av:n=l.its+1:=by omega
    have f:=qG (ag N _ m (bc N m aj));rw [aj]at f;go_wp2_with fail;refine f.mono ?_;rintro e H ⟨a4,a5,rfl,I,c⟩
    have R:=qG (m.trans (c.mono (by omega)))
    have aw:=c.size;have S:=qG I;have U:=qG (zA ai c lR);clear I c f av;have o:=qG (bd H _ _ U s);go_wp2_with fail;refine o.mono ?_;rintro e h ⟨x,y,rfl,J,K,d⟩
    have E:=qG (R.trans (d.mono (by omega)))
    have ax:=d.size;have ay:=qG J;have F:=qG (ah h y _ _ _ K (zA S d lR));obtain⟨Y,aa,ab⟩:=ap h E;clear J K d o;go_wp2_with fail;refine F.mono ?_;rintro e a6 ⟨z,rfl,L,i⟩
    have V:=qG (E.trans (i.mono (by omega)))
    have az:=qG (zD (zA ay i lR) (show w.heap.size<=H.heap.size by omega))
    have X:=qG (zD L (show w.heap.size<=h.heap.size by omega))
    clear L i F Y aa ab;go_wp2
    refine xr (v:=.tuple #[_,_]) (by simp [results,results69,go_sem]) rfl ⟨_,_,rfl,az,X,V⟩
   ·have f:=qG (ag N _ m (ba N m))
    rw [show r.its=n - (l.its+1)by omega]at f
    go_wp2_with fail;refine f.mono ?_;rintro e H ⟨a4,a5,rfl,I,c⟩
    have R:=qG (m.trans (c.mono (by omega)))
    have aw:=c.size;have S:=qG I;have U:=qG (zA ai c lR);clear I c f;have o:=qG (bd H _ _ U s);go_wp2_with fail;refine o.mono ?_;rintro e h ⟨x,y,rfl,J,K,d⟩
    have E:=qG (R.trans (d.mono (by omega)))
    have ax:=d.size;have ay:=qG J;have F:=qG (ah h y _ _ _ K (zA S d lR));obtain⟨Y,aa,ab⟩:=ap h E;clear J K d o;go_wp2_with fail;refine F.mono ?_;rintro e a6 ⟨z,rfl,L,i⟩
    have V:=qG (E.trans (i.mono (by omega)))
    have az:=qG (zD (zA ay i lR) (show w.heap.size<=H.heap.size by omega))
    have X:=qG (zD L (show w.heap.size<=h.heap.size by omega))
    clear L i F Y aa ab;go_wp2
    refine xr (v:=.tuple #[_,_]) (by simp [results,results69,go_sem]) rfl ⟨_,_,rfl,az,X,V⟩
  ·have a0:k - l.its - 1<=r.its:=by omega
   have ah:=qG (bg a0);rw [bn.out s]
   have bo:¬ (k:Int)<=(l.its:Int):=by omega
   generalize (r.split (k - l.its - 1)).1=bu at *;generalize (r.split (k - l.its - 1)).2=S2 at *;go_enter func69,ntmps69;go_wp2_with fail;refine ae.mono ?_;rintro e w1 ⟨rfl,q,am⟩
   have Q:=qG (show Below w.heap.size w w1 from(by rw [am];exact⟨rfl,rfl,rfl,lR,fun _ _=>rfl⟩))
   have au:=Q.size;clear am ae;go_wp2_with fail;refine(af w1 Q).mono ?_;rintro e N ⟨gl,b2,rfl,an,D⟩;have m:=qG (Q.trans (D.mono au));have bp:=D.size;have ai:=qG an;clear an D af
   by_cases bt:t=l.its+1
   ·have aj:r.its=0:=by omega
    have av:n=l.its+1:=by omega
    have f:=qG (ag N _ m (bc N m aj));rw [aj]at f;go_wp2_with fail;refine f.mono ?_;rintro e H ⟨a4,a5,rfl,I,c⟩
    have R:=qG (m.trans (c.mono (by omega)))
    have aw:=c.size;have S:=qG I;have U:=qG (zA ai c lR);clear I c f av;have o:=qG (be H _ _ S a0)
    rw [show((k - l.its - 1:Nat):Int)=(k:Int) - (l.its:Int) - 1 by omega]at o
    go_wp2_with fail;refine o.mono ?_;rintro e h ⟨x,y,rfl,J,K,d⟩
    have E:=qG (R.trans (d.mono (by omega)))
    have ax:=d.size;have a1:=qG K;have F:=qG (ah h _ x _ _ (zA U d lR) J);obtain⟨Y,aa,ab⟩:=ap h E;clear J K d o;go_wp2_with fail;refine F.mono ?_;rintro e a6 ⟨z,rfl,L,i⟩
    have V:=qG (E.trans (i.mono (by omega)))
    have a2:=qG (zD (zA a1 i lR) (show w.heap.size<=H.heap.size by omega))
    have X:=qG (zD L (show w.heap.size<=h.heap.size by omega))
    clear L i F Y aa ab;go_wp2
    refine xr (v:=.tuple #[_,_]) (by simp [results,results69,go_sem]) rfl ⟨_,_,rfl,X,a2,V⟩
   ·have f:=qG (ag N _ m (ba N m))
    rw [show r.its=n - (l.its+1)by omega]at f
    go_wp2_with fail;refine f.mono ?_;rintro e H ⟨a4,a5,rfl,I,c⟩
    have R:=qG (m.trans (c.mono (by omega)))
    have aw:=c.size;have S:=qG I;have U:=qG (zA ai c lR);clear I c f;have o:=qG (be H _ _ S a0)
    rw [show((k - l.its - 1:Nat):Int)=(k:Int) - (l.its:Int) - 1 by omega]at o
    go_wp2_with fail;refine o.mono ?_;rintro e h ⟨x,y,rfl,J,K,d⟩
    have E:=qG (R.trans (d.mono (by omega)))
    have ax:=d.size;have a1:=qG K;have F:=qG (ah h _ x _ _ (zA U d lR) J);obtain⟨Y,aa,ab⟩:=ap h E;clear J K d o;go_wp2_with fail;refine F.mono ?_;rintro e a6 ⟨z,rfl,L,i⟩
    have V:=qG (E.trans (i.mono (by omega)))
    have a2:=qG (zD (zA a1 i lR) (show w.heap.size<=H.heap.size by omega))
    have X:=qG (zD L (show w.heap.size<=h.heap.size by omega))
    clear L i F Y aa ab;go_wp2
    refine xr (v:=.tuple #[_,_]) (by simp [results,results69,go_sem]) rfl ⟨_,_,rfl,X,a2,V⟩
end Go.Proofs.YtljdnoinennfaaaGreatDoor
namespace Go.Proofs.YtljdnoinennfaaaGreatDoor
open Go Go.RowKit
theorem insP_meet8 {S:List Int} {n:Nat} {T:AT} {off:Int} {r:Nat} {y:It} (g:T.ok) (h:0<=off) (i:off<=T.rns) (j:cutN T off=r+1) (k:(T.told 0)[r]? =some y) (ht:total ((T.told 0).take (cutN T off))=off) (l:y.pc.off+y.pc.len=(n:Int)):
  insP S n T off=T.put r (pcAt S y.pc.off (y.pc.len+((S.length:Int) - n))):=by
 obtain⟨a,s,c⟩:=sk_at g h i
 have hi:skI T off=0:=by
  rcases Decidable.em (skI T off=0)with hi | hi
  ·exact hi
  ·exfalso
   obtain⟨m,o,d⟩:=c.resolve_left hi;rw [cutN,qT hi,yR]at ht;have e:=(zX d).1
   rw [e,jd _ _ _ _ (by rw [qN];have:=(zX d).2;omega),zO,zJ,jc,s]at ht
   omega
 have f:T.flat[r]? =some y.pc:=by rw [<- AT.qj T 0,vA,k];rfl
 have b:ahead T (r+1)=y.pc:=by rw [ahead,vU,qW,f];rfl
 rw [insP,j,cutP,xj hi,addP,xj (by rw [meetB,qZ,b];exact⟨by omega,l⟩),b,vU]
theorem insP_more8 {S:List Int} {n:Nat} {T:AT} {off:Int} (g:T.ok) (l:∀p∈T.flat,p.off+p.len<=(n:Int)) (h:0<=off) (i:off<=T.rns) (m:¬ (∃r y,cutN T off=r+1∧(T.told 0)[r]? =some y∧total ((T.told 0).take (cutN T off))=off∧y.pc.off+y.pc.len=(n:Int))):
  insP S n T off=(cutP S T off).ins (cutN T off) (pcAt S n ((S.length:Int) - n)):=by
 obtain⟨a,s,c⟩:=sk_at g h i;rw [insP,addP,qT];intro f;simp only [meetB,qZ]at f;obtain⟨o,b⟩:=f
 by_cases hi:skI T off=0
 ·refine m ?_
  have d:cutN T off=skR T off:=by rw [cutN,xj hi];omega
  rw [cutP,xj hi]at b
  obtain⟨r,j⟩:∃r,cutN T off=r+1:=⟨cutN T off - 1,by omega⟩
  have e:=yS (T:=T) (R:=cutN T off) o (by omega)
  obtain⟨y,q,t⟩:=XC e
  refine⟨r,y,j,by rw [<- q,j];rfl,?_,by rw [t];exact b⟩
  rw [yR,d,s,hi];omega
 ·obtain⟨v,w,k⟩:=c.resolve_left hi
  have d:cutN T off=skR T off+1:=by rw [cutN,qT hi]
  have u:=l _ (xg k)
  have e:ahead (cutP S T off) (cutN T off)=pcAt S (skP T off).off (skI T off):=by
   rw [ahead,d,vU,qW,yL g h i hi,xe (by rw [qN];omega)]
   have:skR T off - (T.flat.take (skR T off)).length=0:=by rw [qN];have:=(zX k).2;omega
   rw [this];rfl
  rw [e]at b;simp only [pcAt]at b;omega
theorem insS (zs ts:List Int) (T:AT) (b o cap base:Nat) (D:Option Addr) (n A E M:Nat) (off:Int) (w:World) (ae:yC w b o zs) (af:b<w.heap.size) (ht:yC w A E ts) (ag:A<w.heap.size) (N:OwI w base (.slice D T.its n) (T.told 0)) (f:T.ok) (O:T.bal) (P:T.wp zs) (i:0<=off) (e:off<=T.rns) (ap:T.rns+ts.length<=8192) (ah:zs.length+ts.length<=220000):
  Calls Tryz.prog 37 #[.agg #[.slice (qK b o) zs.length cap,.slice D T.its n],qJ off,.slice (qK A E) ts.length M] w (XE w (zs++ts) ((if ts.length=0 then T else insP (zs++ts) zs.length T off).told 0)):=by
 have q:=AT.told_length T 0;have am:=f.bd
 obtain⟨ai,aj⟩:T.its<=n∧n<=maxLen:=by
  rcases N.2 with ⟨e,F⟩ | ⟨g,cp,aq,e,_,_,F,ak,_⟩
  ·simp only [xF]at e;exact⟨by omega,by unfold maxLen;omega⟩
  ·rw [q]at e F;cases e;exact⟨F,ak⟩
 have B:(zs++ts).length=zs.length+ts.length:=qM;have C:=P.app ts;have G:=(zW zs T).1 P
 have H:=ZI (S:=zs++ts) f C (by omega) i e
 have an:=H.bd;have R:=(jZ (S:=zs++ts) f i e).1
 obtain⟨Q,_⟩:cutN T off<=T.its∧True:=by
  obtain⟨a,s,c⟩:=sk_at f i e;refine⟨?_,xH⟩
  by_cases hi:skI T off=0
  ·rw [cutN,xj hi];omega
  ·obtain⟨ar,au,al⟩:=c.resolve_left hi
   have:=(zX al).2;rw [AT.qf]at this;rw [cutN,qT hi];omega
 have I:((zs++ts).length:Int) - (zs.length:Int)=(ts.length:Int):=by omega
 refine insSA zs ts (zs++ts) (T.told 0) _ ((cutP (zs++ts) T off).told 0) zs.length ts.length T.its (cutP (zs++ts) T off).its (cutN T off) b o cap D n A E M off (total ((T.told 0).take (cutN T off))) (pcAt (zs++ts) (zs.length:Int) (ts.length:Int)).brk w (qG rfl) (qG rfl) (qG rfl) (qG q) (by omega) (by omega) ah (by omega) Q ai aj ⟨i,by omega⟩ (qG ae) af (qG ht) ag (qG ?_) (qG ?_) (qG ?_) (qG ?_) (qG ?_) (qG ?_) (qG ?_) (qG ?_) (qG ?_) (qG ?_) (qG ?_)
 ·intro j y t
  have J:y.pc∈T.flat:=by rw [<- AT.qj T 0];exact kS.2 ⟨y,vc.2 ⟨j,t⟩,rfl⟩
  have U:=f.1 _ J;simp only [pcOk,qZ]at U;have:=(G _ J).2.2.1;omega
 ·intro W V
  have d:=copyA (T.told 0) _ base W (OwI.below N V lR) (by omega)
  rw [q]at d;exact d
 ·intro W base' u v h
  have d:=rankS W.heap.size _ (T.told 0) off W (OwI.rd h) (by omega) (jC f)
  rw [<- KO f i e]at d;exact d
 ·intro W base' u v h
  have d:=rankS W.heap.size _ ((cutP (zs++ts) T off).told 0) off W (OwI.rd h) (by rw [AT.told_length];omega) (jC H)
  rw [zB1 f C (by omega) i e]at d;exact d
 ·intro W base' u v h
  exact zCy W.heap.size _ _ W ((OwI.rd h).takeX q _ Q) lR (by rw [qN];omega) (fun x ac=>jC f x (xI ac))
 ·intro W base' gs cs u v k l K m h X
  have d:=cutS (zs++ts) T off gs 0 cs base' u v W k l (by omega) m (by omega) f O C i e h X
  rw [B]at d;exact d
 ·intro W gs cs k l K m z
  have d:=yf (zs++ts) gs 0 cs (zs.length:Int) (ts.length:Int) W k l (by omega) (by omega) (by omega) (by omega) m (by omega)
  rw [B]at d;exact d
 ·intro W gs cs y k l K m Y ao L
  have d:=yf (zs++ts) gs 0 cs y.pc.off (y.pc.len+(ts.length:Int)) W k l Y (by omega) (by omega) (by omega) m (by omega)
  rw [B]at d;exact d
 ·intro W base' g c Z z h
  have d:=insertS (cutP (zs++ts) T off) (cutN T off) (pcAt (zs++ts) (zs.length:Int) (ts.length:Int)) base' g c W (Z9 O) (by omega) R h
  rw [qT (by omega),insP_more8 f (fun p ad=>(G p ad).2.2.1) i e Z,I]
  exact d
 ·intro r y aa t ab L z
  rw [qT (by omega),insP_meet8 f i e aa t ab L,I]
  exact AT.qp T r _ 0 y t
 ·intro z
  rw [xj z]
end Go.Proofs.YtljdnoinennfaaaGreatDoor
