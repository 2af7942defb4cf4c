import Derived.Test.YtacmdegboldnlaaGreatDoorMq13
set_option linter.all false
set_option maxRecDepth 100000
set_option maxHeartbeats 8000000
namespace Go.Proofs.YtacmdegboldnlaaGreatDoor
open Go Go.RowKit Go.Proofs.Tryz
open And renaming intro→qa5
open _root_.Array renaming size→N
open Option renaming some→O
open _root_.Go.World renaming heap→Y
def Uz:∀(af)(d)(b)(e)(t u)(n bb)(l)(i),d.tI+e.tI<af->d.bal->e.bal->(AT.tN d b e).ok->zM i l d t n->zM i l e u bb->(n++bb).Nodup->l<=N (Y i)->
  Calls prog 264 #[.pointer t,JP b,.pointer u] i (ZF l (AT.spl d b e) (n++bb) i):=by
 intro af
 induction af with
 | zero=>
  intro d b e t u n bb l i h;omega
 | succ af b1=>
  intro d b e t u n bb l i h bn bp ag a3 a4 bq c0;have bA:=ag.left.bd;have cl:=ag.right.bd;have cm:(d.ht:Int)<=8192:=(by have:=zh d;omega);have cn:(e.ht:Int)<=8192:=(by have:=zh e;omega);have a9:=a3.lt;have ba:=a4.lt;have am:=zC ((xF _ i).alloc lR (V6 #[qP b.off,qP b.len,qP b.brk] 85));have an:(i.alloc (V6 #[qP b.off,qP b.len,qP b.brk] 85)).heap[N (Y i)]?=O _:=xJ _ _;have co:N (Y (i.alloc (V6 #[qP b.off,qP b.len,qP b.brk] 85)))=N (Y i)+1:=VT;have C:=zC (a3.I am lR);have D:=zC (a4.I am lR);have ao:=zC (zr.qa (bs:=n++bb) am);have ap:=zC bq;have H:=zC ag;have b2:=zC a9;have b3:=zC ba;have E:=zC (qa5 bn bp);have I:=zC b1;generalize bv:AT.spl d b e=a5;have F:=zC bv;clear a3 a4 bq ag a9 ba bn bp b1 bv;unfold JP;go_enter func264,ntmps264;go_wp2_with fail;generalize i.alloc _=v at*;have cp:v.cell? (V4 (N (Y i)) 0)=O (qP b.off):=(by rw[xH v _ 0 _ _ _ an];rfl);have cq:v.cell? (V4 (N (Y i)) 1)=O (qP b.len):=(by rw[xH v _ 1 _ _ _ an];rfl);have cr:v.cell? (V4 (N (Y i)) 2)=O (qP b.brk):=(by rw[xH v _ 2 _ _ _ an];rfl);have cs:N (Y i)<N (Y v):=VC;refine(j6 d t n l v C).G ?_;rintro c2 c3 ⟨rfl,rfl⟩;go_wp2_with fail;refine(j6 e u bb l _ D).G ?_;rintro c4 ah ⟨rfl,rfl⟩;by_cases hgt:d.ht > e.ht+1
  ·have b4:(d.ht:Int) > e.ht+1:=VC
   cases d with
   | nil=>grind [AT.ht]
   | tN f m g=>
    obtain⟨j,ai,aj,p,q,rfl,a8,s,y,z,rfl⟩:=C.A
    have J:Hid (a5=AT.rep f m (AT.spl g b e)):=by
     rw[<- F.A,AT.spl_gt _ _ _ _ _ hgt];exact rfl
    obtain⟨Z,aa,cj,ck⟩:=AT.qC E.1;have b5:=AT.spl_bal g b e aa E.2;have b6:(AT.tN f m g).ht=1+max _ _:=rfl
    have K:(AT.tN g b e).ok:=H.sub (by
     grind [AT.tF, List.append_assoc])
    have M:(AT.tN f m (AT.spl g b e)).ok:=H.of_flat (by simp only[AT.tF,AT.spl_flat,vB,vH]);have P:=ap.A;simp only[vH,vR,vB]at P;obtain⟨nb,r⟩:=P;have x:=(vM.1 r).2.1;have bc:=(vM.1 r).1;have bd:∀a∈p,a∉q++bb:=λa o h=>(vM.1 r).2.2 a o a h rfl
    have Q:j∉q++bb:=λh=>nb (ki _ h)
    have R:j∉p:=λh=>nb (kY _ h)
    have S:=zC (λa6 X=>I g b e aj u q bb l a6 (by have:(AT.tN f m g).tI=f.tI+1+g.tI:=rfl;omega) aa E.2 K (z.heap X) (D.heap X) x (by grind));have k:=zC (qa5 Q (qa5 R (qa5 x (qa5 bc bd))));have aq:=zC M;have ar:=zC s;have b7:=zC y;have ct:=s.c4;have b8:=s.lt
    have au:=zC (show ∀a∈j::(p++(q++bb)),a<N (Y ah) from λa o=>by
     simp at o;obtain c|c|c|c:=o
     ·omega
     ·exact(y.lt a c).2
     ·exact(z.lt a c).2
     exact(D.lt a c).2)
    clear s y z Z aa K M nb r x bc bd Q R F I;have b9:decide (e.ht+1<1+((max f.ht g.ht:Nat):Int))=true:=VV;go_upto_region 2 with fail;go_cut [] (λwc=>CutR l j (N (Y ah)) f m (AT.spl g b e) ai p (q++bb) (j::(q++bb)) (1+max (f.ht:Int) g.ht) (f.tI+1+g.tI) (f.rns+m.len+g.rns) (f.bks+m.brk+g.bks) ah wc)
    case first=>
     unfold JP at S;go_region_with (go_at_call 264;refine(S _ (by exact rfl)).G ?_;intro cf cg br;obtain⟨u3,ab,rfl,ac,Sp,ak,A⟩:=br.drawn (w:=ah) rfl rfl rfl rfl;have av:=zC (ar.chg A k.1);have ca:=zC ac;have cb:=zC (b7.chg A k.2.2.2.2);have aw:=zC Sp;have bf:=zC ak;have ax:=zC A;have cu:=av.c4;have cv:=av.fz 4;clear br ac Sp ak A)
     all_goals (
      go_wp2_with fail;go_meet
      have T:=Y6 (by
       rw[vR,vM]
       exact⟨λh=>(xV.1 h).elim k.2.1 k.1,k.2.2.2.1,k.2.2.1,λa o bw a7 b=>k.2.2.2.2 a o (b▸a7)⟩) au aw bf
      have ay:j∉ab:=λh=>(vR.1 T).1 (ki _ h)
      exact⟨u3,ab,(av.set4 u3).heap rfl,(ca.other _ _ ay).heap rfl,(cb.other _ _ k.2.1).heap rfl,T,bf,((ax.R (zr.refl [] _) (λa c _=>by simp_all) (λa c _=>by simp at c)).setCell _ _ (.inl VT)).drawn rfl rfl rfl rfl⟩)
    obtain⟨u3,ab,bx,ac,bz,Sp,ak,A⟩:=hcut;have bg:=zC (Yk f m _ j ai u3 p ab l _ _ _ _ wc bx bz ac a8 Sp aq VC VC);have ax:=zC (ao.R A (λ_ c _=>c) (λa c _=>by grind))
    have az:=zC (show ∀a∈j::(p++ab),a∈(j::(p++q))++bb\/N (Y i)<=a from λa o=>by
     grind)
    have aw:=zC Sp;clear bx ac bz Sp ak A;go_wp2_with fail;refine bg.G ?_;intro b V W;have HM:=zC (ZG ax az aw W);obtain⟨u4,c5,rfl,_⟩:=W;clear bg;go_wp2;go_ret;rw[J.A];exact HM
  have b4:¬ (d.ht:Int) > e.ht+1:=VC;go_wp2_with fail;refine(j6 e u bb l _ D).G ?_;rintro cf cg ⟨rfl,rfl⟩;go_wp2_with fail;refine(j6 d t n l _ C).G ?_;rintro c6 V ⟨rfl,rfl⟩;by_cases bu:e.ht > d.ht+1
  ·have cc:(e.ht:Int) > d.ht+1:=VC
   cases e with
   | nil=>grind [AT.ht]
   | tN f m g=>
    obtain⟨j,ai,aj,p,q,rfl,a8,s,y,z,rfl⟩:=D.A
    have J:Hid (a5=AT.rep (AT.spl d b f) m g):=by
     rw[<- F.A,AT.spl_lt _ _ _ _ _ hgt bu];exact rfl
    obtain⟨Z,aa,cj,ck⟩:=AT.qC E.2;have b5:=AT.spl_bal d b f E.1 Z;have b6:(AT.tN f m g).ht=1+max _ _:=rfl
    have K:(AT.tN d b f).ok:=H.sub (by
     grind [AT.tF])
    have M:(AT.tN (AT.spl d b f) m g).ok:=H.of_flat (by simp only[AT.tF,AT.spl_flat,vB,vH]);have P:=ap.A;have bh:=List.perm_middle.nodup_iff.1 P;simp only[vR]at bh;obtain⟨nb,r⟩:=bh;rw[<- vB]at nb r;have x:=(vM.1 r).1;have bi:=(vM.1 r).2.1;have bj:∀a∈q,a∉n++p:=λa o h=>(vM.1 r).2.2 a h a o rfl
    have Q:j∉n++p:=λh=>nb (kY _ h)
    have R:j∉q:=λh=>nb (ki _ h)
    have S:=zC (λa6 X=>I d b f t ai n p l a6 (by have:(AT.tN f m g).tI=f.tI+1+g.tI:=rfl;omega) E.1 Z K (C.heap X) (y.heap X) x (by grind));have k:=zC (qa5 Q (qa5 R (qa5 x (qa5 bi bj))));have aq:=zC M;have ar:=zC s;have cd:=zC z;have cw:=s.c3;have b8:=s.lt
    have au:=zC (show ∀a∈j::((n++p)++q),a<N (Y V) from λa o=>by
     simp only[vC,xV]at o;obtain c|(c|c)|c:=o
     ·omega
     ·exact(C.lt a c).2
     ·exact(y.lt a c).2
     exact(z.lt a c).2)
    clear s y z Z aa K M nb r x bi bj Q R F I P;have b9:decide (d.ht+1<1+((max f.ht g.ht:Nat):Int))=true:=VV;have cx:decide (1+((max f.ht g.ht:Nat):Int)+1<d.ht)=false:=VV;go_upto_region 5 with fail;go_cut [] (λwc=>CutL l j (N (Y V)) g m (AT.spl d b f) aj q (n++p) (j::(n++p)) (1+max (f.ht:Int) g.ht) (f.tI+1+g.tI) (f.rns+m.len+g.rns) (f.bks+m.brk+g.bks) V wc)
    case first=>
     unfold JP at S;go_region_with (go_at_call 264;refine(S _ (by exact rfl)).G ?_;intro ch ci bt;obtain⟨u5,ad,rfl,w,G,al,B⟩:=bt.drawn (w:=V) rfl rfl rfl rfl;have a0:=zC (ar.chg B k.1);have a1:=zC w;have ce:=zC (cd.chg B k.2.2.2.2);have a2:=zC G;have bk:=zC al;have U:=zC B;have cy:=a0.c3;have cz:=a0.fz 3;clear bt w G al B)
     all_goals (
      go_wp2_with fail;go_meet
      have T:=Wz (by
       rw[vR,vM]
       exact⟨λh=>(xV.1 h).elim k.1 k.2.1,k.2.2.1,k.2.2.2.1,λa o bw a7 b=>k.2.2.2.2 bw a7 (b▸o)⟩) au a2 bk
      have ay:j∉ad:=λh=>(vR.1 T).1 (kY _ h)
      exact⟨u5,ad,(a0.set3 u5).heap rfl,(a1.other _ _ ay).heap rfl,(ce.other _ _ k.2.1).heap rfl,T,bk,((U.R (zr.refl [] _) (λa c _=>by simp_all) (λa c _=>by simp at c)).setCell _ _ (.inl VT)).drawn rfl rfl rfl rfl⟩)
    obtain⟨u5,ad,ae,w,b0,G,al,B⟩:=hcut;have bl:=zC (Yk _ m g j u5 aj ad q l _ _ _ _ wc ae w b0 a8 G aq VC VC);have U:=zC (ao.R B (λ_ c _=>c) (λa c _=>by grind))
    have az:=zC (show ∀a∈j::(ad++q),a∈n++(j::(p++q))\/N (Y i)<=a from λa o=>by
     grind)
    have a2:=zC G;clear ae w b0 G al B;go_wp2_with fail;refine bl.G ?_;intro b c1 W;have HM:=zC (ZG U az a2 W);obtain⟨u6,da,rfl,_⟩:=W;clear bl;go_wp2;go_ret;rw[J.A];exact HM
  have cc:¬ (e.ht:Int) > d.ht+1:=VC
  have J:Hid (a5=AT.tN d b e):=by
   rw[<- F.A,AT.spl_eq _ _ _ hgt bu];exact rfl
  clear F I;go_wp2_with fail;refine(Gk d b e t u n bb l _ C D H VC).G ?_;rintro ch ci ⟨nb,rfl,db,w,ae⟩;have a1:=zC w;have U:=zC (ao.R (zr.qa ae) (λ_ c _=>c) (λ_ c _=>c));clear w ae;go_wp2;go_ret;rw[J.A];refine⟨_,_,rfl,a1,?_,λa o=>?_,U⟩
  ·rw[vR]
   refine⟨λh=>?_,ap⟩;obtain c|c:=xV.1 h
   ·have:=(b2 nb c).2;omega
   have:=(b3 nb c).2;omega
  grind
def UT(f:Nat)(i Y:AT)(g:List Nat)(h:V8)(j:Ending)(c:V8):Prop:=
 ∃d e a b,j=V5 (.tuple #[.pointer d,.pointer e])/\zM c f i d a/\zM c f Y e b/\(a++b).Nodup/\(∀x∈a++b,x∈g\/h.heap.size<=x)/\zr g h c
def AT.split_le(l)(p)(r)(k)(a:k<=l.tI):AT.split (.tN l p r) k=((l.split k).1,AT.spl (l.split k).2 p r):=by
 grind [AT.split]
def AT.split_gt(l)(p)(r)(k)(a:¬k<=l.tI):AT.split (.tN l p r) k=(AT.spl l p (r.split (k-l.tI-1)).1,(r.split (k-l.tI-1)).2):=by
 grind [AT.split]
def Sj:∀(t:AT)(e)(aa)(C)(h)(o),t.bal->t.ok->e<=t.tI->zM o h t aa C->C.Nodup->h<=o.heap.size->
  Calls prog 256 #[.pointer aa,qP e] o (UT h (t.split e).1 (t.split e).2 C o):=by
 intro t
 induction t with
 | nil=>
  intro e aa C h o _ _ b7 ab am b8;obtain⟨rfl,rfl⟩:=ab;go_enter func256,ntmps256;go_wp2_with fail;go_ret2;exact⟨none,none,[],[],rfl,⟨rfl,rfl⟩,⟨rfl,rfl⟩,VT,VT,zr.refl _ _⟩
 | tN f u i bu bv=>
  intro e aa C h o bg an b7 ab am b8;have a1:=ab.lt;obtain⟨cc,aq,br,x,D,rfl,cm,ad,ar,bs,rfl⟩:=ab;obtain⟨bl,bn,cn,co⟩:=AT.qC bg;have a2:=am;simp only[vR,vM,xV,Vh]at a2;obtain⟨⟨bh,bi⟩,bj,bk,au⟩:=a2;have a3:∀a∈D,a∉x:=λa c k=>au a k a c rfl
  have a4:∀a∈x,a∉D:=λa c k=>au a c a k rfl
  have ce:=an.bd;have cf:(AT.tN f u i).tI=f.tI+1+i.tI:=rfl;have Q:=ad.c3;have cg:=ad.lt;have a5:=zC (JU f aq x h o ar);generalize bp:(AT.tN f u i).split e=bq;have R:=zC bp;have a6:=zC ar;have HR:=zC bs;have a7:=zC ad;have S:=zC an;have T:=zC a1;have g:=zC (qa5 bh (qa5 bi (qa5 bj (qa5 bk (qa5 a3 a4)))));have bw:=zC bu;have bx:=zC bv;have A:=zC (qa5 bl bn);have ch:=Tryz.fld0;clear ad ar bs bp am an a1 bh bi bj bk au a3 a4 bu bv bg bl bn;go_enter func256,ntmps256;go_wp2_with fail;refine a5.G ?_;rintro m bt ⟨rfl,E⟩;have ci:=E.size;have U:=zC (a6.I E lR);have V:=zC (HR.I E lR);have v:=zC (Nd.chg (cs:=[]) a7 (zr.qa E) VT);have W:=zC (zr.qa (bs:=cc::(x++D)) E);clear E a5 a6 HR a7 Q;have Q:=v.c3;have a8:=v.c4;have cj:=v.lt;unfold Zu;by_cases ac:e<=f.tI
  ·have bz:(e:Int)<=f.tI:=VC
   have ae:Hid (bq=((f.split e).1,AT.spl (f.split e).2 u i)):=by
    rw[<- R.A,AT.split_le _ _ _ _ ac];exact rfl
   have af:=AT.split_bal f e A.1;have ag:=AT.split_flat f e ac;have B:=zC (bw e aq x h bt A.1 S.left ac U g.2.2.1 VC);clear R;generalize (f.split e).1=ao at*;generalize (f.split e).2=Y at*;go_wp2_with fail;refine B.G ?_;rintro m I ⟨av,aw,y,z,rfl,J,K,r,s,l⟩;have b0:=l.size;have j:=zC (v.chg l g.1);have b1:=zC (V.chg l g.2.2.2.2.1);have b2:=j.c0;have b3:=j.c1;have b4:=j.c2;have ck:=j.c4;have b5:=j.lt;have ah:=zC (W.R l (λ_ b _=>b) (λa b _=>by simp[b]));have X:=zC J;have Z:=zC K;have w:=zC s;have F:=(vM.1 r).1;have G:=(vM.1 r).2.1;have ai:∀a∈y,a∉z:=λa c k=>(vM.1 r).2.2 a c a k rfl
   have a9:=vM.2 ⟨G,g.2.2.2.1,λa c ap p m=>by
    subst m;rcases s a (ki _ c)with b | b
    ·exact g.2.2.2.2.1 a p b
    have:=(T a (by simp[p])).2;omega⟩
   have ba:∀a∈y,a∉z++D:=λa c k=>by
    obtain b|b:=xV.1 k
    ·simp_all
    rcases s a (kY _ c)with d | d
    ·exact g.2.2.2.2.1 a b d
    have:=(T a (by simp[b])).2;omega
   have aj:(AT.tN Y u i).ok:=S.sub (by
    grind [zv,List.Sublist.append_right,List.drop_sublist])
   have n:=zC (qa5 F (qa5 a9 ba));have ak:=zC aj;clear J K r s l F G ai a9 ba B v U V W Q a8 ag;go_upto_region 6 with fail;go_region_with (go_at_call 264;refine(Uz _ Y u i aw br z D h _ (Nat.lt_succ_self _) (af.2) (A.2) (ak) (by exact Z.heap rfl) (by exact b1.heap rfl) (n.2.1) (by show h<=I.heap.size;omega)).G ?_;intro b9 ca H;have al:=zC (H.drawn (w:=I) rfl rfl rfl rfl);obtain⟨u4,cd,rfl,_⟩:=H)
   all_goals (
    go_wp2;go_ret2;obtain⟨u5,ax,ay,az,a0,M,P⟩:=al.A;cases ay;rw[ae.A];refine⟨av,u4,y,ax,rfl,X.chg P n.2.2,az,vM.2 ⟨n.1,a0,λa c ap p m=>?_⟩,λa c=>?_,ah.R P (λ_ b _=>b) (λa c cb=>?_)⟩
    ·subst m
     obtain b|b:=M a p
     ·exact n.2.2 a c b
     have:=(X.lt a c).2;omega
    ·obtain b|b:=xV.1 c
     ·rcases w.A a (kY _ b)with d | d
      ·simp_all
      omega
     obtain d|d:=M a b
     ·obtain d|d:=xV.1 d
      ·rcases w.A a (ki _ d)with q | q
       ·simp_all
       omega
      grind
     omega
    obtain d|d:=xV.1 c
    ·rcases w.A a (ki _ d)with q | q
     ·simp[q]
     omega
    grind)
  have bz:¬ (e:Int)<=f.tI:=VC
  have ae:Hid (bq=(AT.spl f u (i.split (e-f.tI-1)).1,(i.split (e-f.tI-1)).2)):=by
   rw[<- R.A,AT.split_gt _ _ _ _ ac];exact rfl
  have af:=AT.split_bal i (e-f.tI-1) A.2;have ag:=AT.split_flat i (e-f.tI-1) VC;have B:=zC (bx (e-f.tI-1) br D h bt A.2 S.right VC V g.2.2.2.1 VC);have bc:((e-f.tI-1:Nat):Int)=e-f.tI-1:=VC;rw[bc]at B;clear R bc;generalize (i.split (e-f.tI-1)).1=ao at*;generalize (i.split (e-f.tI-1)).2=Y at*;go_wp2_with fail;refine B.G ?_;rintro m I ⟨av,aw,y,z,rfl,J,K,r,s,l⟩;have b0:=l.size;have j:=zC (v.chg l g.2.1);have b6:=zC (U.chg l g.2.2.2.2.2);have b2:=j.c0;have b3:=j.c1;have b4:=j.c2;have cl:=j.c3;have b5:=j.lt;have ah:=zC (W.R l (λ_ b _=>b) (λa b _=>by simp[b]));have X:=zC J;have Z:=zC K;have w:=zC s;have F:=(vM.1 r).1;have G:=(vM.1 r).2.1;have ai:∀a∈y,a∉z:=λa c k=>(vM.1 r).2.2 a c a k rfl
  have bd:=vM.2 ⟨g.2.2.1,F,λa c ap p m=>by
   subst m;rcases s a (kY _ p)with b | b
   ·exact g.2.2.2.2.2 a c b
   have:=(T a (by simp[c])).2;omega⟩
  have bf:∀a∈z,a∉x++y:=λa c k=>by
   obtain b|b:=xV.1 k
   ·rcases s a (ki _ c)with d | d
    ·exact g.2.2.2.2.2 a b d
    have:=(T a (by simp[b])).2;omega
   simp_all
  have aj:(AT.tN f u ao).ok:=S.sub (by
   grind [zv,List.Sublist.append_left,List.take_sublist])
  have n:=zC (qa5 G (qa5 bd bf));have ak:=zC aj;clear J K r s l F G ai bd bf B v U V W Q a8 ag;go_upto_region 8 with fail;go_region_with (go_at_call 264;refine(Uz _ f u ao aq av x y h _ (Nat.lt_succ_self _) (A.1) (af.1) (ak) (by exact b6.heap rfl) (by exact X.heap rfl) (n.2.1) (by show h<=I.heap.size;omega)).G ?_;intro b9 ca H;have al:=zC (H.drawn (w:=I) rfl rfl rfl rfl);obtain⟨u4,cd,rfl,_⟩:=H)
  all_goals (
   go_wp2;go_ret2;obtain⟨u5,ax,ay,az,a0,M,P⟩:=al;cases ay;rw[ae.A];refine⟨u4,aw,ax,z,rfl,az,Z.chg P n.2.2,vM.2 ⟨a0,n.1,λa c ap p m=>?_⟩,λa c=>?_,ah.R P (λ_ b _=>b) (λa c cb=>?_)⟩
   ·subst m
    obtain b|b:=M a c
    ·exact n.2.2 a p b
    have:=(Z.lt a p).2;omega
   ·obtain b|b:=xV.1 c
    ·obtain d|d:=M a b
     ·obtain d|d:=xV.1 d
      ·simp_all
      rcases w.A a (kY _ d)with q | q
      ·simp_all
      omega
     omega
    rcases w.A a (ki _ b)with d | d
    ·simp_all
    omega
   obtain d|d:=xV.1 c
   ·simp[d]
   rcases w a (kY _ d)with q | q
   ·simp[q]
   omega)
def joinN(p l:AT)(aj Q:qa1)(i bb:List Nat)(m:Nat)(n:V8)(ae:p.bal)(K:l.bal)(ak:p.ok)(R:l.ok)(a6:p.rns+l.rns<=8192)(S:zM n m p aj i)(y:zM n m l Q bb)(o:(i++bb).Nodup)(bx:m<=N (Y n)):
  Calls prog 257 #[.pointer aj,.pointer Q] n (ZF m (AT.join p l) (i++bb) n):=by
 generalize r:AT.join p l=M;cases p with
 | nil=>
  obtain⟨rfl,rfl⟩:=S;have w:=zC (show M=l from r.J);have q:=zC y;have G:=zC o;clear y o r;go_enter func257,ntmps257;go_wp2_with fail;go_ret;rw[w.A];exact⟨Q,bb,rfl,q,by simpa using G.A,λc d=>.inl (by simpa using d),zr.refl _ _⟩
 | tN t u v=>
  have A:=zC S;obtain⟨bz,u1,u2,b0,b1,rfl,_⟩:=S;cases l with
  | nil=>
   obtain⟨rfl,rfl⟩:=y;have w:=zC (show M=AT.tN t u v from r.J);have G:=zC o;clear o r;go_enter func257,ntmps257;go_wp2_with fail;go_ret;rw[w.A];exact⟨_,i,rfl,A,by simpa using G.A,λc d=>.inl (by simpa using d),zr.refl _ _⟩
  | tN f g h=>
   have q:=zC y;obtain⟨b2,b3,b4,b5,b6,rfl,_⟩:=y;have H:0<(AT.tN f g h).tI:=(by simp only[AT.tI];omega);have w:=zC (show M=AT.spl (AT.tN t u v) (AT.tN f g h).first ((AT.tN f g h).rem 0)from r.J);obtain⟨a7,F⟩:=AT.first_flat (AT.tN f g h) VT;have V:=AT.rem_bal (AT.tN f g h) 0 K H;have I:((AT.tN f g h).rem 0).tF=a7:=by rw[AT.rem_flat _ 0 H,F];simp
   have an:=zC (show(AT.tN (AT.tN t u v) (AT.tN f g h).first ((AT.tN f g h).rem 0)).ok from by
    refine⟨λah s=>?_,?_⟩
    ·rw[zv,I,<- F,xV]at s
     obtain s|s:=s
     ·exact ak.1 ah s
     exact R.1 ah s
    have B:(AT.tN (AT.tN t u v) (AT.tN f g h).first ((AT.tN f g h).rem 0)).tF=(AT.tN t u v).tF++(AT.tN f g h).tF:=by rw[zv,I,<- F]
    rw[AT.rns_of_flat,B,Qy,Ve,<- AT.rns_of_flat,<- AT.rns_of_flat];exact a6)
   have W:=zC (Gn (AT.tN f g h) _ bb m n q VT);have X:i.Nodup:=(vM.1 o).1;have Z:bb.Nodup:=(vM.1 o).2.1;have aa:∀c∈i,c∉bb:=λc d P=>(vM.1 o).2.2 c d c P rfl
   have C:=zC (qa5 X (qa5 Z aa));have J:=zC (qa5 ae (qa5 K V.1));have ao:=zC R;generalize (AT.tN f g h).first=b at*
   clear o r X Z aa ae K V ak R F I;go_enter func257,ntmps257;go_wp2_with fail;refine W.G ?_;rintro B e ⟨rfl,T⟩;have ap:=T.size;have D:=zC (T.alloc ap (V6 #[qP b.off,qP b.len,qP b.brk] 85));have x:(e.alloc (V6 #[qP b.off,qP b.len,qP b.brk] 85)).heap[N (Y e)]?=O (V6 #[qP b.off,qP b.len,qP b.brk] 85 (0,0)):=xJ _ _;have bg:N (Y (e.alloc (V6 #[qP b.off,qP b.len,qP b.brk] 85)))=N (Y e)+1:=VT;clear T W;unfold JP;go_upto_region 6 with fail;generalize e.alloc (V6 #[qP b.off,qP b.len,qP b.brk] 85)=k at*;have aq:=zC (A.I D lR);have ar:=zC (q.I D lR);have bh:k.cell? (V4 (N (Y e)) 0)=O (qP b.off):=(by rw[xH k _ 0 _ _ _ x];rfl);have bi:k.cell? (V4 (N (Y e)) 1)=O (qP b.len):=(by rw[xH k _ 1 _ _ _ x];rfl);have bj:k.cell? (V4 (N (Y e)) 2)=O (qP b.brk):=(by rw[xH k _ 2 _ _ _ x];rfl);have au:N (Y e)<N (Y k):=VC;have av:=zC (λc d=>(A.lt c d).2);have aw:=zC (λc d=>(q.lt c d).2);have ax:=zC x;have ab:=zC (fun(ai:V8) (a4:ai.heap=k.heap)=>removeN (AT.tN f g h) 0 _ bb m ai J.2.1 ao H (ar.heap a4) C.2.1);simp only[Int.natCast_zero]at ab;have ay:=zC (zr.qa (bs:=i++bb) D);clear x A q D
   go_region_with (first
    |(go_at_call 266;refine(ab _ (by exact rfl)).G ?_;intro br j af;obtain⟨u3,al,rfl,am,Sp,U,z⟩:=af.drawn (w:=k) rfl rfl rfl rfl;have bk:=z.size;have az:=zC (aq.chg z C.2.2);have a0:=zC am;have a1:=zC (show(i++al).Nodup from(vM.2 ⟨C.1,Sp,λc d bv a5 B=>(by subst B;obtain a|a:=U c a5;exact C.2.2 c d a;have:=av c d;omega)⟩));have ac:=zC U;have a2:=zC (ay.R z (λ_ a _=>a) (λc a _=>(by simp[a])) (ds:=i++bb));have ad:N (Y e)∉bb:=(λP=>(by have:=aw _ P;omega));have E:=(z.block (N (Y e)) au ad).R ax;have bl:j.cell? (V4 (N (Y e)) 0)=O (qP b.off):=(by rw[xH j _ 0 _ _ _ E];rfl);have bn:j.cell? (V4 (N (Y e)) 1)=O (qP b.len):=(by rw[xH j _ 1 _ _ _ E];rfl);have bp:j.cell? (V4 (N (Y e)) 2)=O (qP b.brk):=(by rw[xH j _ 2 _ _ _ E];rfl);have bq:N (Y e)<N (Y j):=VC;clear af am Sp U z ad E)
    |(go_at_call 264;refine(Uz _ (AT.tN t u v) b ((AT.tN f g h).rem 0) _ u3 i al m _ (by exact Nat.lt_succ_self _) (by exact J.1) (by exact J.2.2) (by exact an) (by exact az.heap rfl) (by exact a0.heap rfl) (by exact a1) (by show m<=N (Y j);omega)).G ?_;intro bt bu ag;have a3:=zC (ag.drawn (w:=j) rfl rfl rfl rfl);obtain⟨u4,b7,rfl,_⟩:=ag))
   all_goals (
    go_wp2;go_ret;obtain⟨u5,a8,a9,ba,bc,bd,bf⟩:=a3;rw[w.A];refine⟨u5,a8,a9,ba,bc,λc d=>?_,a2.R bf (λ_ a _=>a) (λc d bw=>?_)⟩
    ·obtain a|a:=bd c d
     ·obtain a|a:=xV.1 a
      ·exact .inl (kY _ a)
      obtain a|a:=ac.A c a
      ·exact .inl (ki _ a)
      exact .inr VC
     exact .inr VC
    obtain a|a:=xV.1 d
    ·exact kY _ a
    obtain a|a:=ac c a
    ·exact ki _ a
    omega)
