import Derived.Test.YtljdnoinennfaaaGreatDoorMq30
set_option linter.all false
set_option maxRecDepth 100000
set_option maxHeartbeats 8000000
namespace Go.Proofs.YtljdnoinennfaaaGreatDoor
open Go Go.RowKit
theorem AT.rem_its0 (T:AT) (a:0<T.its):(T.rem 0).its=T.its - 1:=by
 rw [<- AT.flat_length,AT.rem_flat T 0 a];simp only [qM,qN,qS,AT.flat_length];omega
theorem bothS (h a:AT) (a3 bb:Nat) (R A:Value) (w:World) (I:h.bal) (B:a.bal) (bf:h.its+a.its<=8192) (v:OwI w a3 R (h.told 0)) (k:OwI w bb A (a.told 0)):
  Calls Tryz.prog 70 #[R,A] w fun e w'=>∃ad,e= .returned ad∧OwI w' w.heap.size ad ((AT.join h a).told 0)∧Below w.heap.size w w':=by
 have H:=AT.told_length h 0;have o:=AT.told_length a 0
 obtain⟨ao,P,a4⟩:∃ao P,R= .slice ao h.its P:=by
  obtain⟨ao,D,E⟩:=(OwI.rd v).val
  exact⟨ao,D,by rw [E,H]⟩
 subst a4
 cases h with
 | nil=>
  obtain⟨n,j,S⟩:∃n j,A= .slice n a.its j:=by
   obtain⟨n,D,E⟩:=(OwI.rd k).val
   exact⟨n,D,by rw [E,o]⟩
  subst S
  have ak:=qG (copyG (a.told 0) _ w (SrcI.of k) (by omega))
  have r:AT.join .nil a=a:=rfl;rw [r];clear v k H o I B r;go_enter Tryz.func70,Tryz.ntmps70;go_wp2_with fail;refine ak.mono ?_;rintro e w1 ⟨g,cp,rfl,F,G⟩;have L:=qG F;have M:=qG G;clear F G;go_wp2;go_ret;exact⟨_,rfl,L,M⟩
 | node l ap m=>
  have Y:(AT.node l ap m).its=l.its+1+m.its:=rfl
  have a8:¬ (((AT.node l ap m).its:Int)=0):=by omega
  have al:=qG (copyG ((AT.node l ap m).told 0) _ w (SrcI.of v) (by omega))
  cases a with
  | nil=>
   obtain⟨n,j,S⟩:∃n j,A= .slice n 0 j:=by
    obtain⟨n,D,E⟩:=(OwI.rd k).val
    exact⟨n,D,by rw [E,o];rfl⟩
   subst S;have r:AT.join (.node l ap m) .nil= .node l ap m:=rfl;rw [r];generalize AT.node l ap m=h at *;clear v k H o I B r Y;go_enter Tryz.func70,Tryz.ntmps70;go_wp2_with fail;refine al.mono ?_;rintro e w1 ⟨g,cp,rfl,F,G⟩;have L:=qG F;have M:=qG G;clear F G;go_wp2;go_ret;exact⟨_,rfl,L,M⟩
  | node c i d=>
   have am:(AT.node c i d).its=c.its+1+d.its:=rfl
   have a9:¬ (((AT.node c i d).its:Int)=0):=by omega
   obtain⟨b,j,rfl,bg,a5⟩:∃b j,A= .slice (qK b 0) (AT.node c i d).its j∧(AT.node c i d).its<=j∧j<=maxLen:=by
    rcases k.2 with ⟨C,x⟩ | ⟨g,cp,bh,C,_,_,x,a6,_⟩
    ·exact absurd x (by rw [o];omega)
    ·rw [o]at C x;exact⟨g,cp,C,x,a6⟩
   have r:AT.join (.node l ap m) (.node c i d)=AT.spl (.node l ap m) (AT.first (.node c i d)) (AT.rem (.node c i d) 0):=rfl
   rw [r]
   obtain⟨s,Q,f,ag,_⟩:=AT.first_at (AT.node c i d) 0 (by simp)
   have Z:((AT.node c i d).told 0)[0]? =some ⟨AT.first (AT.node c i d),f⟩:=by rw [ag];rfl
   have aa:=AT.rem_bal (AT.node c i d) 0 B (by omega)
   have an:=AT.rem_its0 (AT.node c i d) (by omega)
   generalize AT.node l ap m=h at *;generalize AT.node c i d=a at *
   have aq:=qG (fun W (J:OwI W bb (.slice (qK b 0) a.its j) (a.told 0))=>zEu a 0 bb b j W B (by omega) (by omega) J)
   have ab:=qG (fun W (u:Value) (ae af:Nat) (C:OwI W ae (.slice ao h.its P) (h.told 0)) (x:OwI W af u ((a.rem 0).told 0))=>joinS h (a.rem 0) (AT.first a) ae af _ u W I aa.1 (by omega) C x)
   unfold pcV at ab
   obtain⟨T,V,X⟩:=OwI.c3 (by have N:=k;unfold OwI at N;rw [o]at N;exact N) Z
   rw [Nat.zero_mul]at T;rw [Nat.zero_mul,xN]at V;rw [Nat.zero_mul,xN]at X;simp only at T V X;have O:=(k.lt b rfl).2;have ar:=qG v;have au:=qG k
   generalize AT.first a=q at *
   generalize a.rem 0=a2 at *;generalize AT.spl h q a2=U at *
   have ba:(0:Int)<(a.its:Int):=by omega
   clear v k H o I B r Y am ag Z aa an;unfold maxLen at a5;go_enter Tryz.func70,Tryz.ntmps70
   go_upto_region 5 with fail
   go_cut [4] (fun s wc=>OwI wc w.heap.size s (U.told 0)∧Below w.heap.size w wc)
   case first=>
    go_region_with (first
     | (go_at_call 71;refine(aq _ (by exact zB au (fun _ _=>rfl))).mono ?_;rintro e K ⟨bi,rfl,ah,y⟩;have t:Below w.heap.size w K:=⟨y.os,y.tape,y.output,y.size,y.block⟩;have av:=qG t;have ac:=t.size;have aw:=qG ah;have ax:=qG (zA ar t lR);have bc:=(t.cell (p:=⟨b,0,none⟩) O).trans T;have bd:=(t.cell (p:=⟨b,1,none⟩) O).trans V;have be:=(t.cell (p:=⟨b,2,none⟩) O).trans X;clear y ah t)
     | (go_at_call 104;refine(ab _ _ _ _ (by exact zB ax (fun _ _=>rfl)) (by exact zB aw (fun _ _=>rfl))).mono ?_;rintro e a7 ⟨bj,rfl,ai,z⟩;have ay:=qG (av.trans ((show Below K.heap.size K a7 from⟨z.os,z.tape,z.output,z.size,z.block⟩).mono ac));have az:=qG (zD ai (show w.heap.size<=K.heap.size from ac));clear z ai))
    all_goals (go_wp2_with fail;go_meet;exact⟨az,ay⟩)
   case rest=>
   obtain⟨J,aj⟩:=hcut;have a0:=qG J;have a1:=qG aj;clear J aj;go_wp2;go_ret;exact⟨_,rfl,a0,a1⟩
end Go.Proofs.YtljdnoinennfaaaGreatDoor
namespace Go.Proofs.YtljdnoinennfaaaGreatDoor
open Go Go.RowKit Go.Proofs.Tryz
theorem delSA (zs:List Int) (X dg ar bk bl bm D K:List It) (n k au O s a z:Nat) (b o cap:Nat) (H:Option Addr) (E:Nat) (lo hi:Int) (w:World)
  (V:Hid (zs.length=n)) (fs:Hid (X.length=k)) (P:Hid (D.length=s)) (ft:n<=220000) (fu:k<=8192) (fv:s<=8192) (fw:a<=8192) (fy:z<=8192) (fz:a<=z) (f0:k<=E) (eg:E<=maxLen) (f1:0<=lo∧lo<=8192) (f2:lo<=hi∧hi<=8192)
  (eh:Hid (yC w b o zs)) (ei:b<w.heap.size)
  (dh:Hid (∀ (j:Nat) (y:It),D[j]? =some y->0<=y.pc.off∧1<=y.pc.len∧y.pc.len<=8192∧y.pc.off+y.pc.len<=n))
  (di:Hid (∀W,Below w.heap.size w W->Calls prog 66 #[.slice H k E] W fun e w'=>∃g cp,e= .returned (.slice (qK g 0) k cp)∧OwI w' W.heap.size (.slice (qK g 0) k cp) X∧Below W.heap.size W w'))
  (dj:Hid (∀W base gs cs u A,yC W gs 0 zs->gs<W.heap.size->n<=cs->cs<=maxLen->OwI W base (.slice (qK u 0) k A) X->base<=W.heap.size->Calls prog 67 #[.slice (qK gs 0) n cs,.slice (qK u 0) k A,qJ lo] W fun e w'=>∃g c,e= .returned (.slice (qK g 0) au c)∧OwI w' base (.slice (qK g 0) au c) dg∧Below W.heap.size W w'))
  (dk:Hid (∀W base gs cs u A,yC W gs 0 zs->gs<W.heap.size->n<=cs->cs<=maxLen->OwI W base (.slice (qK u 0) au A) dg->base<=W.heap.size->Calls prog 67 #[.slice (qK gs 0) n cs,.slice (qK u 0) au A,qJ hi] W fun e w'=>∃g c,e= .returned (.slice (qK g 0) O c)∧OwI w' base (.slice (qK g 0) O c) ar∧Below W.heap.size W w'))
  (dl:Hid (∀W base u A,OwI W base (.slice (qK u 0) O A) ar->Calls prog 68 #[.slice (qK u 0) O A,qJ lo] W fun e w'=>e= .returned (qJ (a:Int))∧w'=W))
  (dm:Hid (∀W base u A,OwI W base (.slice (qK u 0) O A) ar->Calls prog 68 #[.slice (qK u 0) O A,qJ hi] W fun e w'=>e= .returned (qJ (z:Int))∧w'=W))
  (dn:Hid (∀W base u A,OwI W base (.slice (qK u 0) O A) ar->Calls prog 69 #[.slice (qK u 0) O A,qJ (a:Int)] W fun e w'=>∃x y,e= .returned (.tuple #[x,y])∧OwI w' W.heap.size x bk∧OwI w' W.heap.size y bl∧Below W.heap.size W w'))
  (dp:Hid (∀W base v,OwI W base v bl->Calls prog 69 #[v,qJ ((z:Int) - (a:Int))] W fun e w'=>∃x y,e= .returned (.tuple #[x,y])∧OwI w' W.heap.size y bm∧Below W.heap.size W w'))
  (dq:Hid (∀W base v base' N,OwI W base v bk->OwI W base' N bm->Calls prog 70 #[v,N] W fun e w'=>∃N,e= .returned N∧OwI w' W.heap.size N D∧Below W.heap.size W w'))
  (ej:Hid (∀W gs cs (d f:It),yC W gs 0 zs->gs<W.heap.size->n<=cs->cs<=maxLen->0<=d.pc.off->1<=d.pc.len->1<=f.pc.len->d.pc.off+d.pc.len=f.pc.off->f.pc.off+f.pc.len<=n->Calls prog 62 #[.slice (qK gs 0) n cs,qJ d.pc.off,qJ (d.pc.len+f.pc.len)] W fun e w'=>e= .returned (.agg #[qJ d.pc.off,qJ (d.pc.len+f.pc.len),qJ (pcAt zs d.pc.off (d.pc.len+f.pc.len)).brk])∧Below W.heap.size W w'))
  (ek:Hid (lo=hi->K=X))
  (el:Hid (lo≠hi->¬ (0<a∧a<s)->K=D))
  (em:Hid (∀r d f,lo≠hi->a=r+1->D[r]? =some d->D[r+1]? =some f->¬d.pc.off+d.pc.len=f.pc.off->K=D))
  (en:Hid (∀r d f,lo≠hi->a=r+1->r+1<s->D[r]? =some d->D[r+1]? =some f->d.pc.off+d.pc.len=f.pc.off->∀W base g c,W.ownsRow base 71 4 (.slice (qK g 0) s c) s (itVs (D.set r ⟨⟨d.pc.off,d.pc.len+f.pc.len,(pcAt zs d.pc.off (d.pc.len+f.pc.len)).brk⟩,d.lv⟩))->Calls prog 71 #[.slice (qK g 0) s c,qJ ((r:Int)+1)] W fun e w'=>∃N,e= .returned N∧OwI w' W.heap.size N K∧Below W.heap.size W w')):
  Calls prog 36 #[.agg #[.slice (qK b o) n cap,.slice H k E],qJ lo,qJ hi] w (XE w zs K):=by
 unfold maxLen at eg
 have b0:=qG (((qO w.heap.size w).alloc lR (.cells #[.slice (qK b o) n cap,.slice H k E] 30)).alloc (by simp) (.cells #[.slice none 0 0,.slice none 0 0] 30))
 have b1:=qG (show((w.alloc (.cells #[.slice (qK b o) n cap,.slice H k E] 30)).alloc (.cells #[.slice none 0 0,.slice none 0 0] 30)).heap[w.heap.size]? =some (.cells #[.slice (qK b o) n cap,.slice H k E] 30 (0,0))by
  rw [vP _ _ _ (by simp)];exact xm _ _)
 have du:=qG (show((w.alloc (.cells #[.slice (qK b o) n cap,.slice H k E] 30)).alloc (.cells #[.slice none 0 0,.slice none 0 0] 30)).heap[w.heap.size+1]? =some (.cells #[.slice none 0 0,.slice none 0 0] 30 (0,0))by
  have:=xm (w.alloc (.cells #[.slice (qK b o) n cap,.slice H k E] 30)) (.cells #[.slice none 0 0,.slice none 0 0] 30)
  rw [show(w.alloc (.cells #[.slice (qK b o) n cap,.slice H k E] 30)).heap.size=w.heap.size+1 by simp]at this;exact this)
 have ez:w.heap.size+2<=((w.alloc (.cells #[.slice (qK b o) n cap,.slice H k E] 30)).alloc (.cells #[.slice none 0 0,.slice none 0 0] 30)).heap.size:=by simp
 have e0:IntKind.i64.wrap ((z:Int) - (a:Int))=(z:Int) - (a:Int):=i64w _ (by omega) (by omega)
 go_enter func36,ntmps36
 go_upto_region 1 with fail
 generalize (w.alloc (.cells #[.slice (qK b o) n cap,.slice H k E] 30)).alloc (.cells #[.slice none 0 0,.slice none 0 0] 30)=m at *
 have b2:m.cell? ⟨w.heap.size,0,none⟩=some (.slice (qK b o) n cap):=by rw [qQ m _ 0 _ _ _ b1.out];rfl
 have b3:=qG (j8 m);have am:=qG ((qO m.heap.size m).alloc lR (.cells #[] 21))
 have b4:=qG (ZP (show yC (m.alloc (.cells #[] 21)) b o zs from fun i hi=>(am.cell (p:=⟨b,o+i,none⟩) (by show b<_;omega)).trans ((b0.cell (p:=⟨b,o+i,none⟩) ei).trans (eh i hi))))
 have a2:(m.alloc (.cells #[] 21)).cell? ⟨w.heap.size,0,none⟩=some (.slice (qK b o) n cap):=(am.cell (p:=⟨w.heap.size,0,none⟩) (by show w.heap.size<_;omega)).trans b2
 have a3:=qG (show(m.alloc (.cells #[] 21)).ownsRow m.heap.size 21 1 (.slice (qK m.heap.size 0) 0 0) 0 []from b3)
 have dv:=qG (show(ints .i32 zs).length=n*1 by rw [zC,V.out];omega)
 go_upto_region 2 with (at_builtin;refine a25 _ rfl _ _ rfl m.heap.size (.slice (qK m.heap.size 0) 0 0) 0 [] rfl (by exact a3) ⟨b,o,none⟩ n cap (ints .i32 zs) rfl (by exact dv) (by exact b4) (zF .i32 zs) (by unfold maxLen;omega) (by omega) (by simp) ?_;intro dc ai dd de df;refine vW ?_)
 refine Lib.hid ?_
 have a4:=qG (show own32 ai m.heap.size dc zs from(by have C:=dd;unfold own32;rw [V.out];rw [xN,xJ]at C;exact C))
 have an:=qG (am.trans ((qO m.heap.size _).grown de (by simp) (fun q h=>(a3.lt q h).1)))
 have b5:=qG (show ¬dc= .slice none 0 0 from fun e=>absurd (df.1 e).1 (by simp))
 clear dd de df b3 a3 b4 a2 am b2;obtain⟨gs,cs,rfl,bn,bo,f3,f4⟩:=Ze a4 V b5;have e1:=an.size
 have b6:=(an.block w.heap.size (by omega)).trans b1
 have a2:ai.cell? ⟨w.heap.size,1,none⟩=some (.slice H k E):=by rw [qQ ai _ 1 _ _ _ b6];rfl
 have b7:=qG ((an.block (w.heap.size+1) (by omega)).trans du)
 have a5:=qG (b0.trans (an.mono (by omega)))
 have b8:=qG (di ai a5);clear b6 b5 di;go_wp2_with fail;refine b8.mono ?_;rintro e L ⟨u,A,rfl,bp,aj⟩;have dw:=aj.size
 have a6:=qG (a5.trans (aj.mono (by omega)))
 have ao:=qG (show own32 L m.heap.size _ zs from zA a4 aj lR)
 have a7:=qG bp
 have R:=qG ((aj.block (w.heap.size+1) (by omega)).trans b7)
 have b9:=qG (fun q h=>(bp.lt q h).1)
 clear aj bp b8 a5 a4 b7 a2
 by_cases bh:lo=hi
 ·have dx:=qG (ek bh)
  subst bh
  have dy:=qG (show OwI L ai.heap.size (.slice (qK u 0) k A) K from(by rw [dx.out];exact a7))
  have F:L.cell? ⟨w.heap.size+1,0,none⟩=some (.slice none 0 0):=by rw [qQ L _ 0 _ _ _ R.out];rfl
  have G:L.cell? ⟨w.heap.size+1,1,none⟩=some (.slice none 0 0):=by rw [qQ L _ 1 _ _ _ R.out];rfl
  have S:=xo L (w.heap.size+1) 0 _ _ R;have T:=xo L (w.heap.size+1) 1 _ _ R;go_wp2
  refine xr (v:=.agg #[.slice (qK gs 0) n cs,.slice (qK u 0) k A]) (by simp [results,results36,go_sem,F,G]) rfl ⟨_,_,rfl,?_,?_,?_,⟨_,_,_,rfl⟩⟩
  ·exact zB (zD ao (by omega)) (fun q h=>by cases h;rw [xp _ _ _ _ (by simp;omega),xp _ _ _ _ (by simp;omega)])
  ·exact zB (zD dy (by omega)) (fun q h=>by have C:=b9 q h;rw [xp _ _ _ _ (by simp;omega),xp _ _ _ _ (by simp;omega)])
  ·exact(a6.setCell (by simp) _).setCell (by simp) _
 have a8:=qG bh
 have ca:=qG (dj L _ gs cs u A (zY V ao) (by omega) bn bo a7 dw)
 clear dj a7 b9;go_wp2_with fail;refine ca.mono ?_;rintro e dr ⟨eo,ep,rfl,ds,Y⟩;have e2:=Y.size
 have cb:=qG (a6.trans (Y.mono (by omega)))
 have a9:=qG (show own32 dr m.heap.size _ zs from zA ao Y lR)
 have cc:=qG ((Y.block (w.heap.size+1) (by omega)).trans R)
 have e3:=Y;clear Y a6 ao R
 have cd:=qG (dk dr _ gs cs eo ep (zY V a9) (by omega) bn bo ds (by omega))
 clear dk ca ds;go_wp2_with fail;refine cd.mono ?_;rintro e av ⟨bq,br,rfl,aw,Z⟩;have e4:=Z.size
 have ce:=qG (cb.trans (Z.mono (by omega)))
 have cf:=qG (show own32 av m.heap.size _ zs from zA a9 Z lR)
 have cg:=qG ((Z.block (w.heap.size+1) (by omega)).trans cc)
 have e5:=Z;clear Z cb a9 cc;have ch:=qG (dl av _ bq br aw);have ci:=qG (dm av _ bq br aw);have cj:=qG (dn av _ bq br aw);clear cd dl dm dn aw;go_wp2_with fail;refine ch.mono ?_;rintro e wx ⟨rfl,bs⟩;have ba:=bs.symm;subst ba;go_wp2_with fail;refine ci.mono ?_;rintro e wx ⟨rfl,bs⟩;have ba:=bs.symm;subst ba;go_wp2_with fail;refine cj.mono ?_;rintro e dt ⟨f5,f6,rfl,bt,bu,aa⟩;obtain⟨f7,f8,rfl⟩:=zc bt;obtain⟨f9,ga,rfl⟩:=zc bu;have e6:=aa.size
 have ck:=qG (ce.trans (aa.mono (by omega)))
 have cl:=qG (show own32 dt m.heap.size _ zs from zA cf aa lR)
 have cm:=qG ((aa.block (w.heap.size+1) (by omega)).trans cg)
 have e7:=aa;clear aa ce cf cg;have cn:=qG bt;have co:=qG (dp dt _ _ bu);generalize bk.length=fo at *;generalize bl.length=fp at *;clear ch ci cj dp bt bu;go_wp2_with fail;refine co.mono ?_;rintro e ab ⟨gb,gc,rfl,bv,ac⟩;obtain⟨gd,ge,rfl⟩:=zc bv;have e8:=ac.size
 have cq:=qG (ck.trans (ac.mono (by omega)))
 have cr:=qG (show own32 ab m.heap.size _ zs from zA cl ac lR)
 have ct:=qG ((ac.block (w.heap.size+1) (by omega)).trans cm)
 have cu:=ac;clear ac ck cl cm;have cv:=qG (dq ab _ _ _ _ (OwI.below cn cu lR) bv);generalize bm.length=fq at *;clear co dq bv cn cu;go_wp2_with fail;refine cv.mono ?_;rintro e l ⟨gf,rfl,ax,ad⟩;have e9:=ad.size
 have bc:=qG (cq.trans (ad.mono (by omega)))
 have bd:=qG (show own32 l m.heap.size _ zs from zA cr ad lR)
 have J:=qG ((ad.block (w.heap.size+1) (by omega)).trans ct)
 have dz:=ad;clear ad cq cr ct;have be:=qG ax
 have cw:=qG (fun q h=>(ax.lt q h).1)
 obtain⟨ay,I,ak⟩:=zc ax;rw [P.out]at ak;have d0:=qG ak;clear cv dz ax
 by_cases bi:0<a∧a<s
 ·obtain⟨r,eq⟩:∃r,a=r+1:=⟨a - 1,by omega⟩
  obtain⟨d,ae⟩:∃y,D[r]? =some y:=⟨_,qY (by rw [P.out];omega)⟩
  obtain⟨f,af⟩:∃y,D[r+1]? =some y:=⟨_,qY (by rw [P.out];omega)⟩
  obtain⟨t,gg,er,gh,es⟩:∃g c,ay=some ⟨g,0,none⟩∧s<=I∧I<=maxLen:=by
   rcases be.2 with ⟨az,a0⟩ | ⟨g,cp,gi,az,_,_,a0,et,_⟩
   ·rw [P.out]at a0;omega
   ·rw [P.out]at az a0;rw [ak]at az;cases az;exact⟨g,0,rfl,a0,et⟩
  subst er;subst ak;subst eq;have cx:=dh r d ae;have cy:=dh (r+1) f af;have cz:=qG ae;have fa:=qG af;have c0:=qG (em r d f a8 rfl ae af);have c1:=qG (en r d f a8 rfl bi.2 ae af)
  have ah:l.ownsRow ab.heap.size 71 4 (.slice (qK t 0) s I) s (itVs D):=by
   have C:=be;unfold OwI at C;rw [P.out]at C;exact C
  have fc:=(ah.lt t rfl);obtain⟨bw,bx,bz⟩:=OwI.c3 ah ae;have d1:=OwI.c3 ah af;obtain⟨eu,ev,ew⟩:=d1
  have fd:(0:Int)<(r:Int)+1:=by omega
  have fe:(r:Int)+1<(s:Int):=by omega
  have ff:(r:Int)<(s:Int):=by omega
  have c2:=qG ((bc.alloc (by omega) (.cells #[qJ d.pc.off,qJ d.pc.len,qJ d.pc.brk] 69)).alloc (by simp;omega) (.cells #[qJ f.pc.off,qJ f.pc.len,qJ f.pc.brk] 69))
  have bf:=qG (((qO l.heap.size l).alloc lR (.cells #[qJ d.pc.off,qJ d.pc.len,qJ d.pc.brk] 69)).alloc (by simp) (.cells #[qJ f.pc.off,qJ f.pc.len,qJ f.pc.brk] 69))
  have bg:=qG (show own32 ((l.alloc (.cells #[qJ d.pc.off,qJ d.pc.len,qJ d.pc.brk] 69)).alloc (.cells #[qJ f.pc.off,qJ f.pc.len,qJ f.pc.brk] 69)) m.heap.size _ zs from zA bd bf lR)
  have c3:=qG (zA ah bf lR)
  have c4:=qG ((bf.block (w.heap.size+1) (by omega)).trans J)
  have c5:=qG (show((l.alloc (.cells #[qJ d.pc.off,qJ d.pc.len,qJ d.pc.brk] 69)).alloc (.cells #[qJ f.pc.off,qJ f.pc.len,qJ f.pc.brk] 69)).heap[l.heap.size]? =some (.cells #[qJ d.pc.off,qJ d.pc.len,qJ d.pc.brk] 69 (0,0))by
   rw [vP _ _ _ (by simp)];exact xm _ _)
  have c6:=qG (show((l.alloc (.cells #[qJ d.pc.off,qJ d.pc.len,qJ d.pc.brk] 69)).alloc (.cells #[qJ f.pc.off,qJ f.pc.len,qJ f.pc.brk] 69)).heap[l.heap.size+1]? =some (.cells #[qJ f.pc.off,qJ f.pc.len,qJ f.pc.brk] 69 (0,0))by
   have:=xm (l.alloc (.cells #[qJ d.pc.off,qJ d.pc.len,qJ d.pc.brk] 69)) (.cells #[qJ f.pc.off,qJ f.pc.len,qJ f.pc.brk] 69)
   rw [show(l.alloc (.cells #[qJ d.pc.off,qJ d.pc.len,qJ d.pc.brk] 69)).heap.size=l.heap.size+1 by simp]at this;exact this)
  have fg:l.heap.size+2<=((l.alloc (.cells #[qJ d.pc.off,qJ d.pc.len,qJ d.pc.brk] 69)).alloc (.cells #[qJ f.pc.off,qJ f.pc.len,qJ f.pc.brk] 69)).heap.size:=by simp
  unfold maxLen at es;clear ae af ah bi
  go_upto_region 14 with fail
  go_upto_region 15 with fail
  generalize (l.alloc (.cells #[qJ d.pc.off,qJ d.pc.len,qJ d.pc.brk] 69)).alloc (.cells #[qJ f.pc.off,qJ f.pc.len,qJ f.pc.brk] 69)=B at *
  have F:B.cell? ⟨l.heap.size,0,none⟩=some (qJ d.pc.off):=by rw [qQ B _ 0 _ _ _ c5.out];rfl
  have G:B.cell? ⟨l.heap.size,1,none⟩=some (qJ d.pc.len):=by rw [qQ B _ 1 _ _ _ c5.out];rfl
  have d2:B.cell? ⟨l.heap.size+1,0,none⟩=some (qJ f.pc.off):=by rw [qQ B _ 0 _ _ _ c6.out];rfl
  have d3:B.cell? ⟨l.heap.size+1,1,none⟩=some (qJ f.pc.len):=by rw [qQ B _ 1 _ _ _ c6.out];rfl
  clear bw bx bz eu ev ew
  by_cases bj:d.pc.off+d.pc.len=f.pc.off
  ·have c7:=qG (ej B gs cs d f (zY V bg) (by omega) bn bo cx.1 cx.2.1 cy.2.1 bj cy.2.2.2)
   have c8:=qG (c1 bj);go_wp2_with fail;refine c7.mono ?_;rintro e M ⟨rfl,ag⟩;have fh:=ag.size;have U:M.ownsRow ab.heap.size 71 4 (.slice (qK t 0) s I) s (itVs D):=zA c3 ag lR;have hst:=OwI.setPc U cz ⟨d.pc.off,d.pc.len+f.pc.len,(pcAt zs d.pc.off (d.pc.len+f.pc.len)).brk⟩;have S:M.frozen? ⟨t,r*4,none⟩=false:=U.frozenAt _;have T:M.frozen? ⟨t,r*4+1,none⟩=false:=U.frozenAt _;have d4:M.frozen? ⟨t,r*4+2,none⟩=false:=U.frozenAt _;obtain⟨bw,bx,bz⟩:=OwI.c3 U cz
   have d5:=qG ((c2.trans (ag.mono (by omega))).grown hst.2 (by omega) (fun x ef=>by cases ef;omega))
   have d6:=qG (show own32 (((M.setCell ⟨t,r*4,none⟩ (qJ d.pc.off)).setCell ⟨t,r*4+1,none⟩ (qJ (d.pc.len+f.pc.len))).setCell ⟨t,r*4+2,none⟩ (qJ (pcAt zs d.pc.off (d.pc.len+f.pc.len)).brk)) m.heap.size _ zs from zB (zA bg ag lR) (fun q h=>hst.2.block q (by cases h;show gs<_;omega) (by intro C;cases h;have fi:gs=t:=vF C;omega)))
   have d7:=qG ((hst.2.block (w.heap.size+1) (by omega) (by intro C;cases C;omega)).trans ((ag.block (w.heap.size+1) (by omega)).trans c4))
   have c9:=qG (c8 (((M.setCell ⟨t,r*4,none⟩ (qJ d.pc.off)).setCell ⟨t,r*4+1,none⟩ (qJ (d.pc.len+f.pc.len))).setCell ⟨t,r*4+2,none⟩ (qJ (pcAt zs d.pc.off (d.pc.len+f.pc.len)).brk)) _ t I hst.1);have fj:M.heap.size<=(((M.setCell ⟨t,r*4,none⟩ (qJ d.pc.off)).setCell ⟨t,r*4+1,none⟩ (qJ (d.pc.len+f.pc.len))).setCell ⟨t,r*4+2,none⟩ (qJ (pcAt zs d.pc.off (d.pc.len+f.pc.len)).brk)).heap.size:=hst.2.size;clear ag U hst F G d2 d3 c7 c1 c8 c0;generalize (pcAt zs d.pc.off (d.pc.len+f.pc.len)).brk=ed at *
   go_upto_region 17 with fail
   generalize (((M.setCell ⟨t,r*4,none⟩ (qJ d.pc.off)).setCell ⟨t,r*4+1,none⟩ (qJ (d.pc.len+f.pc.len))).setCell ⟨t,r*4+2,none⟩ (qJ ed))=fr at *;clear bw bx bz S T d4;go_wp2_with fail;refine c9.mono ?_;rintro e Q ⟨gj,rfl,a1,al⟩;have fk:=al.size;obtain⟨ex,ey,rfl⟩:=zc a1
   have d8:=qG (d5.trans (al.mono (by omega)))
   have d9:=qG (show own32 Q m.heap.size _ zs from zA d6 al lR)
   have ea:=qG a1
   have ap:=qG ((al.block (w.heap.size+1) (by omega)).trans d7)
   have eb:=qG (fun q h=>(a1.lt q h).1)
   clear al a1 c9;generalize K.length=ee at *
   have F:Q.cell? ⟨w.heap.size+1,0,none⟩=some (.slice none 0 0):=by rw [qQ Q _ 0 _ _ _ ap.out];rfl
   have G:Q.cell? ⟨w.heap.size+1,1,none⟩=some (.slice none 0 0):=by rw [qQ Q _ 1 _ _ _ ap.out];rfl
   have S:=xo Q (w.heap.size+1) 0 _ _ ap;have T:=xo Q (w.heap.size+1) 1 _ _ ap;go_wp2
   refine xr (v:=.agg #[.slice (qK gs 0) n cs,.slice ex ee ey]) (by simp [results,results36,go_sem,F,G]) rfl ⟨_,_,rfl,?_,?_,?_,⟨_,_,_,rfl⟩⟩
   ·exact zB (zD d9 (by omega)) (fun q h=>by cases h;rw [xp _ _ _ _ (by simp;omega),xp _ _ _ _ (by simp;omega)])
   ·exact zB (zD ea (by omega)) (fun q h=>by have C:=eb q h;rw [xp _ _ _ _ (by simp;omega),xp _ _ _ _ (by simp;omega)])
   ·exact(d8.setCell (by simp) _).setCell (by simp) _
  ·have da:=qG (show OwI B ab.heap.size (.slice (qK t 0) s I) K from(by rw [c0.out bj];unfold OwI;rw [P.out];exact c3))
   have aq:=c4
   have ec:=qG (fun q h=>(da.lt q h).1)
   have F:B.cell? ⟨w.heap.size+1,0,none⟩=some (.slice none 0 0):=by rw [qQ B _ 0 _ _ _ aq.out];rfl
   have G:B.cell? ⟨w.heap.size+1,1,none⟩=some (.slice none 0 0):=by rw [qQ B _ 1 _ _ _ aq.out];rfl
   have S:=xo B (w.heap.size+1) 0 _ _ aq;have T:=xo B (w.heap.size+1) 1 _ _ aq;go_wp2
   refine xr (v:=.agg #[.slice (qK gs 0) n cs,.slice (qK t 0) s I]) (by simp [results,results36,go_sem,F,G]) rfl ⟨_,_,rfl,?_,?_,?_,⟨_,_,_,rfl⟩⟩
   ·exact zB (zD bg (by omega)) (fun q h=>by cases h;rw [xp _ _ _ _ (by simp;omega),xp _ _ _ _ (by simp;omega)])
   ·exact zB (zD da (by omega)) (fun q h=>by have C:=ec q h;rw [xp _ _ _ _ (by simp;omega),xp _ _ _ _ (by simp;omega)])
   ·exact(c2.setCell (by simp) _).setCell (by simp) _
 ·have db:=qG (show OwI l ab.heap.size (.slice ay s I) K from(by rw [el.out a8.out bi,<- d0.out];exact be))
  have fl:¬ ((0:Int)<(a:Int)∧(a:Int)<(s:Int)):=by omega
  subst ak
  by_cases fn:(0:Int)<(a:Int)
  ·have fm:¬ (a:Int)<(s:Int):=by omega
   have F:l.cell? ⟨w.heap.size+1,0,none⟩=some (.slice none 0 0):=by rw [qQ l _ 0 _ _ _ J.out];rfl
   have G:l.cell? ⟨w.heap.size+1,1,none⟩=some (.slice none 0 0):=by rw [qQ l _ 1 _ _ _ J.out];rfl
   have S:=xo l (w.heap.size+1) 0 _ _ J;have T:=xo l (w.heap.size+1) 1 _ _ J;go_wp2
   refine xr (v:=.agg #[.slice (qK gs 0) n cs,.slice ay s I]) (by simp [results,results36,go_sem,F,G]) rfl ⟨_,_,rfl,?_,?_,?_,⟨_,_,_,rfl⟩⟩
   ·exact zB (zD bd (by omega)) (fun q h=>by cases h;rw [xp _ _ _ _ (by simp;omega),xp _ _ _ _ (by simp;omega)])
   ·exact zB (zD db (by omega)) (fun q h=>by have C:=cw q h;rw [xp _ _ _ _ (by simp;omega),xp _ _ _ _ (by simp;omega)])
   ·exact(bc.setCell (by simp) _).setCell (by simp) _
  ·skip
   have F:l.cell? ⟨w.heap.size+1,0,none⟩=some (.slice none 0 0):=by rw [qQ l _ 0 _ _ _ J.out];rfl
   have G:l.cell? ⟨w.heap.size+1,1,none⟩=some (.slice none 0 0):=by rw [qQ l _ 1 _ _ _ J.out];rfl
   have S:=xo l (w.heap.size+1) 0 _ _ J;have T:=xo l (w.heap.size+1) 1 _ _ J;go_wp2
   refine xr (v:=.agg #[.slice (qK gs 0) n cs,.slice ay s I]) (by simp [results,results36,go_sem,F,G]) rfl ⟨_,_,rfl,?_,?_,?_,⟨_,_,_,rfl⟩⟩
   ·exact zB (zD bd (by omega)) (fun q h=>by cases h;rw [xp _ _ _ _ (by simp;omega),xp _ _ _ _ (by simp;omega)])
   ·exact zB (zD db (by omega)) (fun q h=>by have C:=cw q h;rw [xp _ _ _ _ (by simp;omega),xp _ _ _ _ (by simp;omega)])
   ·exact(bc.setCell (by simp) _).setCell (by simp) _
end Go.Proofs.YtljdnoinennfaaaGreatDoor
namespace Go.Proofs.YtljdnoinennfaaaGreatDoor
open Go Go.RowKit
theorem Xc {T:AT} {r:Nat} {y:It} (a:(T.told 0)[r]? =some y):T.flat[r]? =some y.pc:=by
 rw [<- AT.qj T 0,vA,a];rfl
theorem delS (zs:List Int) (T:AT) (b o cap base:Nat) (J:Option Addr) (A:Nat) (lo hi:Int) (w:World) (al:yC w b o zs) (am:b<w.heap.size) (P:OwI w base (.slice J T.its A) (T.told 0)) (K:T.ok) (Q:T.bal) (R:T.wp zs) (L:0<=lo) (S:lo<=hi) (i:hi<=T.rns) (C:zs.length<=220000):
  Calls Tryz.prog 36 #[.agg #[.slice (qK b o) zs.length cap,.slice J T.its A],qJ lo,qJ hi] w (XE w zs ((if lo=hi then T else delP zs T lo hi).told 0)):=by
 have G:=AT.told_length T 0;have ar:=K.bd
 obtain⟨an,ao⟩:T.its<=A∧A<=maxLen:=by
  rcases P.2 with ⟨i,M⟩ | ⟨g,cp,a4,i,_,_,M,ap,_⟩
  ·simp only [xF]at i;exact⟨by omega,by unfold maxLen;omega⟩
  ·rw [G]at i M;cases i;exact⟨M,ap⟩
 have F:=delF K Q R C L S i;have au:=F.ok2.bd;have av:=F.ok1.bd;have aw:=F.okJ.bd;have ax:=F.okX.bd;have ay:=F.okY.bd;have az:=F.okW.bd;have U:=F.a2;have a0:=F.z2;have V:=F.az;have X:=(zW zs _).1 F.wpJ
 have Y:(((dlZ zs T lo hi - cutN T lo:Nat)):Int)=(dlZ zs T lo hi:Int) - (cutN T lo:Int):=by omega
 have N:∀ (r:Nat) (a h:It),cutN T lo=r+1->((dlJ zs T lo hi).told 0)[r]? =some a->((dlJ zs T lo hi).told 0)[r+1]? =some h->ahead (dlJ zs T lo hi) (cutN T lo)=a.pc∧atP (dlJ zs T lo hi) (cutN T lo)=h.pc:=by
  intro r a h k l p;rw [k,ahead,atP,vU,qW,qW,Xc l,Xc p];exact⟨rfl,rfl⟩
 refine delSA zs (T.told 0) ((cutP zs T lo).told 0) ((dl2 zs T lo hi).told 0) ((dlX zs T lo hi).told 0) ((dlY zs T lo hi).told 0) ((dlW zs T lo hi).told 0) ((dlJ zs T lo hi).told 0) _ zs.length T.its (cutP zs T lo).its (dl2 zs T lo hi).its (dlJ zs T lo hi).its (cutN T lo) (dlZ zs T lo hi) b o cap J A lo hi w (qG rfl) (qG G) (qG (AT.told_length _ _)) C (by omega) (by omega) (by omega) (by omega) V an ao ⟨L,by omega⟩ ⟨S,by omega⟩ (qG al) am (qG ?_) (qG ?_) (qG ?_) (qG ?_) (qG ?_) (qG ?_) (qG ?_) (qG ?_) (qG ?_) (qG ?_) (qG ?_) (qG ?_) (qG ?_) (qG ?_)
 ·intro j y H
  have O:=xg (Xc H);have Z:=F.okJ.1 _ O;simp only [pcOk,qZ]at Z;have:=(X _ O).2.2.1;omega
 ·intro W ad
  have d:=copyA (T.told 0) _ base W (OwI.below P ad lR) (by omega)
  rw [G]at d;exact d
 ·intro W base' gs cs m n q s t u f I
  exact cutS zs T lo gs 0 cs base' m n W q s t u C K Q R L (by omega) f I
 ·intro W base' gs cs m n q s t u f I
  exact cutS zs (cutP zs T lo) hi gs 0 cs base' m n W q s t u C F.ok1 F.bal1 F.wp1 (by omega) (by rw [F.rn1];exact i) f I
 ·intro W base' m n f
  have d:=rankS W.heap.size _ ((dl2 zs T lo hi).told 0) lo W (OwI.rd f) (by rw [AT.told_length];omega) (jC F.ok2)
  rw [F.ra]at d;exact d
 ·intro W base' m n f
  have d:=rankS W.heap.size _ ((dl2 zs T lo hi).told 0) hi W (OwI.rd f) (by rw [AT.told_length];omega) (jC F.ok2)
  rw [F.rz]at d;exact d
 ·intro W base' m n f
  exact splitS (dl2 zs T lo hi) (cutN T lo) _ base' W F.bal2 (by omega) U f
 ·intro W base' v f
  have d:=splitS (dlY zs T lo hi) (dlZ zs T lo hi - cutN T lo) v base' W F.balY (by omega) (by rw [F.yits];omega) f
  rw [Y]at d;refine d.mono ?_;rintro e w' ⟨x,y,rfl,_,H,aq⟩;exact⟨x,y,rfl,H,aq⟩
 ·intro W base' v ae af f ag
  exact bothS (dlX zs T lo hi) (dlW zs T lo hi) base' ae v af W F.balX F.balW F.its f ag
 ·intro W gs cs a h q s t u ah a1 a2 B a3
  exact yf zs gs 0 cs a.pc.off (a.pc.len+h.pc.len) W q s ah (by omega) (by omega) t u (by omega)
 ·intro ai
  rw [xj ai]
 ·intro z aj
  rw [qT z,delP,healP,qT];simp only [healB,qZ]
  exact fun d=>aj d.1
 ·intro r a h z k l p B
  obtain⟨D,E⟩:=N r a h k l p;rw [qT z,delP,healP,qT];simp only [healB,qZ,D,E]
  exact fun d=>B d.2
 ·intro r a h z k ak l p B W base' g c f
  obtain⟨D,E⟩:=N r a h k l p;have aa:=AT.qp (dlJ zs T lo hi) r (pcAt zs a.pc.off (a.pc.len+h.pc.len)) 0 a l
  have ab:delP zs T lo hi=((dlJ zs T lo hi).put r (pcAt zs a.pc.off (a.pc.len+h.pc.len))).rem (r+1):=by
   rw [delP,healP,xj,D,E,k,vU];simp only [healB,qZ,D,E]
   exact⟨by omega,B⟩
  have ac:OwI W base' (.slice (qK g 0) (dlJ zs T lo hi).its c) (((dlJ zs T lo hi).put r (pcAt zs a.pc.off (a.pc.len+h.pc.len))).told 0):=by
   unfold OwI;rw [AT.told_length,AT.qi,aa];exact f
  have d:=zEu ((dlJ zs T lo hi).put r (pcAt zs a.pc.off (a.pc.len+h.pc.len))) (r+1) base' g c W (AT.qn _ _ _ F.balJ) (by rw [AT.qi];omega) (by rw [AT.qi];exact ak) (by rw [AT.qi];exact ac)
  rw [AT.qi]at d;rw [qT z,ab];exact d
end Go.Proofs.YtljdnoinennfaaaGreatDoor
