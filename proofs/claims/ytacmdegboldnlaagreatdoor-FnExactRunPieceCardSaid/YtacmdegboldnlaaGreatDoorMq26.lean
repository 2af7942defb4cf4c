import Derived.Test.YtacmdegboldnlaaGreatDoorMq25
import Derived.Test.YtacmdegboldnlaaGreatDoorMq19
import Derived.Test.YtacmdegboldnlaaGreatDoorMq12
set_option linter.all false
set_option maxRecDepth 100000
set_option maxHeartbeats 8000000
namespace Go.Proofs.YtacmdegboldnlaaGreatDoor
open Go Go.RowKit Go.Proofs.Tryz
open And renaming intro→qa5
open _root_.Array renaming size→N
open Bool renaming false→VP
open Go renaming below_regrown→qa7,cell_regrown→qa6,wpQuietIn_nil→qa9,wpQuietIn_step→qa8
open List renaming length→L
open Option renaming some→O
open _root_.Go.Value renaming ownBlock→VD
open _root_.Go.World renaming alloc→VF,cell?→VE,heap→Y,setCell→VG
section
open Go.Sort Go.BigFrame
def Wm(b:List Mk)(a:Mk)(c:Int):Int:=
 if Xe a=VP then 12 else if yF b a.1=true then 5 else if decide (0<=a.2.1/\a.2.1<=c)=VP then 2 else if decide (L b<128)=VP then 10 else 0
def set7(B)(xs)(v)(m)(len)(w)(c:zW w B v xs)(d:Vd xs)(g:L xs<=1048576)(e:0<=len/\len<=8192):
  Calls prog 108 #[v,jF m,qP len] w λa w'=>∃k,a=V5 (.tuple #[k,qP (Wm xs m len)])/\zW w' (N (Y w)) k (if Wm xs m len=0 then Z0 (xs++ [m])else [])/\qa3 w w':=by
 cases h1:Xe m with
 | false=>
  have a:Wm xs m len=12:=(by unfold Wm;rw[xU h1]);rw[a,xK VS];exact spVal B xs v m len w c g d e h1
 | true=>
  have f:¬Xe m=VP:=(by rw[h1];simp);cases h2:yF xs m.1 with
  | true=>
   have a:Wm xs m len=5:=(by unfold Wm;rw[xK f,xU h2]);rw[a,xK VS];exact spTaken B xs v m len w c g d e h1 h2
  | false=>
   have h:¬yF xs m.1=true:=(by rw[h2];simp);by_cases b:0<=m.2.1/\m.2.1<=len
   ·have j:¬decide (0<=m.2.1/\m.2.1<=len)=VP:=by simpa using b
    by_cases i:L xs<128
    ·have a:Wm xs m len=0:=by unfold Wm;rw[xK f,xK h,xK j,xK (by simpa using i)]
     rw[a,xU rfl];exact spOk B xs v m len w c d e h1 h2 b i
    have a:Wm xs m len=10:=(by unfold Wm;rw[xK f,xK h,xK j,xU (by simpa using i)]);rw[a,xK VS];exact spFull B xs v m len w c g d e h1 h2 b VC
   have a:Wm xs m len=2:=(by unfold Wm;rw[xK f,xK h,xU (by simpa using b)]);rw[a,xK VS];exact spOff B xs v m len w c g d e h1 h2 b
section
variable {w w':World} {B s:Nat} {x:V7} {M:SS} {b0 b1 b2:Int} {ta:Option Addr} {tl tq:Nat}
def zAq:(∀{f l g v a b c d p q r}(s:SM f l g v a)(y:Vd a.ms)(z:L a.ms<=1048576)(A:L a.tx<=8192)(hst:Wm a.ms (b,c,d) (L a.tx)=0),A7 87 f l g 6 b c d (VZ p q r) 0 0 0 [] [] {a with ms:=Z0 (a.ms++ [(b,c,d)])})/\(∀{f l g v a b c d p q r}(t)(s:SM f l g v a)(y:Vd a.ms)(z:L a.ms<=1048576)(A:L a.tx<=8192)(hst:Wm a.ms (b,c,d) (L a.tx)=t)(P:¬t=0),A7 87 f l g 6 b c d (VZ p q r) t 0 0 [] [] a):=by
 refine⟨@λf l g v a b c d p q r s y z A hst=>have T:=zC xN;?_,@λf l g v a b c d p q r t s y z A hst P=>have j:=zC xN;?_⟩
 all_goals
  unfold A7;have k:=zC (Pr.start s (yZ 6 b c d (VZ p q r)));have U:=s.hB;clear s;go_enter func87,ntmps87;go_upto_region 1 with fail;generalize VF _ _=M at*;have aw:=c8 0 k.2.1;obtain⟨ag,u⟩:=k.A.sm;obtain⟨B,C,a0,a1,a2,a3,a4,_⟩:=u.blk.c;obtain⟨⟨ap,aq,ah⟩,⟨ar,mk,Q⟩,_⟩:=u.vs;rw[ah]at B;rw[Q]at C;have G:=zC u.ms;rw[Q]at G;have V:=u.lt;have W:=c8 1 k.2.1;have X:=c8 2 k.2.1;have Z:=c8 3 k.2.1;have H:=(xG.1 k.2.1).1;obtain⟨D,E⟩:∃m,m=L a.tx:=⟨_,rfl⟩
  obtain⟨au,ai⟩:∃m,m=L a.ms:=⟨_,rfl⟩
  first
   |(revert j;intro j;(have o:=zC (show Wm _ _ D=t by rw[E];exact hst)))
   |((have o:=zC (show Wm _ _ D=0 by rw[E];exact hst)))
  rw[<- E]at B A;rw[<- ai]at C G;have al:=zC (λan ao=>set7 0 _ _ (b,c,d) D an (G.kt (KT.of ao)) y z ⟨VC,VC⟩);have aa:=zC (show ∀e:V8,Below _ M e->(e.cell? _=O _/\e.cell? _=O _/\e.cell? _=O (.int _ b)/\e.cell? _=O (.int _ c)/\e.cell? _=O (.int _ d))from λe h=>⟨(h.U V).R B,(h.U V).R C,(h.U H).R W,(h.U H).R X,(h.U H).R Z⟩);have am:=zC u;clear u ah Q hst E ai B C W X Z;go_upto_region 2 with fail;refine(kS (n:=6)).1 ?_;refine yU (λe=>VE e (V4 g 0)=O (VZ ap D aq)/\VE e (V4 g 1)=O (VZ ar au mk)/\VE e (V4 (N (Y f)) 1)=O (qP b)/\VE e (V4 (N (Y f)) 2)=O (qP c)/\VE e (V4 (N (Y f)) 3)=O (qP d)) VU ?_;refine zj 0 _ ?_;go_simp;refine zj 1 _ ?_;go_simp;refine zj 2 _ ?_;go_simp;refine zj 3 _ ?_;go_simp;refine zj 4 _ ?_;go_simp;refine zj 5 _ ?_;go_simp;refine zj 6 _ ?_;go_simp;refine zj 7 _ ?_;go_simp;refine zj 8 _ ?_;go_simp;refine zj 9 _ ?_;go_simp;refine zj 10 _ ?_;go_simp;refine zj 11 _ ?_;go_simp;refine zj 12 _ ?_;go_simp;refine zj 13 _ ?_;go_simp;refine zj 14 _ ?_;go_simp;refine zj 15 _ ?_;go_simp;obtain⟨R,h⟩:∃e,e=M.drew:=⟨_,rfl⟩
  rw[<- h];have w:=zC (show qa3 M R from by rw[h];exact⟨rfl,rfl,rfl,lR,λ_ _=>rfl⟩);clear h;have I:=zC (al R w);unfold jF at I;refine on 16 (aa R w) ?_;gi_wp2_with fail;refine⟨xN,(vD.2 I).G ?_⟩;rintro a5 aj ⟨a6,rfl,F,ak⟩;rw[o.A]at F;have J:=zC (w.R (ak.G w.size));obtain⟨a7,a8,rfl⟩:=F.val;have ab:=zC F
  first
   |(revert j;intro j;obtain⟨av,S⟩:∃m,m=L (if t=0 then Z0 (a.ms++ [(b,c,d)])else []):=⟨_,rfl⟩)
   |(obtain⟨av,S⟩:∃m,m=L (if 0=(0:Int)then Z0 (a.ms++ [(b,c,d)])else []):=⟨_,rfl⟩)
  rw[<- S]at ab |-;clear F ak I S;generalize ae:Wm _ _ _=af at*;gi_wp2_with fail;refine zj 17 _ ?_;go_simp;refine zj 18 _ ?_;go_simp;refine zj 19 _ ?_;go_simp;refine zj 20 _ ?_;go_simp;refine zj 21 _ ?_;go_simp;refine jr VU (aa _ J) ?_ _
  first
   |(revert j;intro j;obtain rfl:=o.A)
   |(obtain rfl:=o.A)
  have K:=zC (k.I J)
  first
   |(revert T;intro T;have x:=zC (am.I J);have T3:=x.ms' (zW.base (show zW aj _ _ (Z0 (a.ms++ [(b,c,d)]))from ab) (xY _));have ac:=zC (K.step (St.set x T3));have ax:=x.blk.c.2.1;have j:=x.blk.f 1;clear T3 o ae;go_upto_region 5 with fail;generalize VG aj _ _=az at*;have RR:=zC ac.2.2;have ad:=zC (ac.fin0 (x0:=0) (x1:=0) (x2:=0) U))
   |((have ay:(af==0)=VP:=by simpa using P);clear o ae P;have RR:=zC K.2.2;have ad:=zC (K.fin0 (x0:=af) (x1:=0) (x2:=0) U))
  go_wp2_with (refine ZD RR ?_);exact jC results87 RR rfl ad
def mark7:=@zAq.1
def markN7:=@zAq.2
end
section
variable {w w':World} {B s:Nat} {x:V7} {M:SS} {b0 b1 b2:Int} {ta:Option Addr} {tl tq:Nat}
def EJ:(∀{l o d A b h r s t u v}(B:SM l o d A b)(G:L b.ms<=1048576)(E:yD h b.ms 0= -1),A7 87 l o d 8 h r s (VZ t u v) 4 0 0 [] [] b)/\(∀{l o d A b h r s t u v}(B:SM l o d A b)(G:L b.ms<=1048576)(E:yD h b.ms 0= -1),A7 87 l o d 7 h r s (VZ t u v) 4 0 0 [] [] b)/\(∀{l o d A b h r s t u v}(a:Nat)(c)(B:SM l o d A b)(G:L b.ms<=1048576)(E:yD h b.ms 0=a)(w:b.ms[a]?=O c),A7 87 l o d 8 h r s (VZ t u v) 0 c.2.1 c.2.2 [] [] b)/\(∀{l o d A b h r s t u v}(a:Nat)(c)(B:SM l o d A b)(G:L b.ms<=1048576)(E:yD h b.ms 0=a)(w:b.ms[a]?=O c),A7 87 l o d 7 h r s (VZ t u v) 0 c.2.1 0 [] [] {b with ms:=b.ms.take a++b.ms.drop (a+1)}):=by
 refine⟨@λl o d A b h r s t u v B G E=>have I:=zC xN;?_,@λl o d A b h r s t u v B G E=>?_,@λl o d A b h r s t u v a c B G E w=>have I:=zC xN;have bt:=zC xN;?_,@λl o d A b h r s t u v a c B G E w=>have bu:=zC xN;?_⟩
 all_goals
  unfold A7
  first
   |(revert I;intro I;have V:=zC (Pr.start B (yZ 8 h r s (VZ t u v))))
   |(have V:=zC (Pr.start B (yZ 7 h r s (VZ t u v))))
  have aj:=B.hB;clear B;go_enter func87,ntmps87;go_upto_region 1 with fail;generalize VF (VF l _) _=b8 at*;have dd:=c8 0 V.2.1;obtain⟨av,ag⟩:=V.A.sm;obtain⟨dm,ah,dn,dp,dq,dr,ds,_⟩:=ag.blk.c;obtain⟨_,⟨bi,mk,bj⟩,_⟩:=ag.vs;rw[bj]at ah;have J:=zC ag.ms;rw[bj]at J;have ck:=c8 1 V.2.1;obtain⟨e,bk⟩:∃bc,bc=L b.ms:=⟨_,rfl⟩
  have D:=zC bk;rw[<- bk]at ah J G;have AT:=zC (λg ae=>at7 (N (Y g)) b.ms (VZ bi e mk) h g (J.kt (KT.of ae)).rd lR VC);rw[E]at AT;have cl:=λbd bf=>qa6 ah bd bf
  have cm:=λbd bf=>qa6 ck bd bf
  have ak:=zC ag;clear ag bj bk E;go_upto_region 6 with fail;refine(kS (n:=6)).1 ?_;refine zI 6 VU VU ?_;simp only[vQ,kh,vT,ke]
  repeat (refine qa8 (λ_ _ _ _=>trivial) (λc3 b9=>?_);go_simp;first | (refine b9 _ ?_;clear b9 c3))
  refine qa9 ?_;rintro _ ⟨⟨ca,cb⟩,rfl⟩;have al:=zC (qa7 b8 ca cb);generalize grow (redrawn b8 ca) cb=c1 at*;have bv:=zC (AT c1 al);gi_wp2_with fail;refine⟨xN,(vD.2 bv).G ?_⟩;rintro C k ⟨rfl,cc⟩;have K:=zC (al.R (cc.G al.size));have W:=zC (V.I K);clear cl cm cc bv AT al;gi_wp2_with fail
  first
   |(revert bu;intro bu;skip
     obtain⟨m,p,ai,cd,aw⟩:∃P p,Value.slice bi e mk= .slice (qQ P 0) e p/\e<=p/\p<=maxLen:=by
      obtain⟨_,f⟩|⟨P,p,C,c6,bl,_⟩:=J.A.shape
      ·simp_all
      exact⟨P,p,by rw[C,D.A],by simp_all,bl⟩
     simp at ai;obtain⟨rfl,rfl⟩:=ai;have am:=zC (ak.I K);have F:=zC (by have f:=J.kt (KT.of K);unfold zW at f;rw[<- D.A]at f;exact f);have cn:a<e:=(by rw[D.A];exact(xS.1 w).1);have ax:VE k (V4 m (a*3))=O (qP c.1):=(by have f:=F.cellAt (a*3+0) VC;rw[zx _ a 0 c w VC]at f;exact f);have ay:VE k (V4 m (a*3+1))=O (qP c.2.1):=(by rw[F.A.cellAt (a*3+1) VC,zx _ a 1 c w VC];rfl);have az:VE k (V4 m (a*3+2))=O (qP c.2.2):=(by rw[F.A.cellAt (a*3+2) VC,zx _ a 2 c w VC];rfl);have an:=(K.U ak.lt).R ah;have co:(a:Int)<e:=VC;have cp:¬ (a:Int)<0:=VC;have BM:=zC ((xF (N (Y k)) k).alloc lR (V6 #[qP c.1,qP c.2.1,qP c.2.2] 168));have X:=zC (show(VF k (V6 #[qP c.1,qP c.2.1,qP c.2.2] 168)).heap[N (Y k)]?=O (V6 #[qP c.1,qP c.2.1,qP c.2.2] 168 (0,0))from xJ _ _);have bw:=am.lt;have cq:=zC w;have R:=zC (W.I BM);have bx:=zC (am.I BM);have ao:=zC (zE F BM lR);have a0:=(BM.U bw).R an;unfold maxLen at aw;clear w;go_upto_region 10 with fail;generalize VF k _=q at*;generalize N (Y k)=au at*;have bz:=c8 0 R.2.1;have a1:=c8 1 X;clear ax ay az an;obtain⟨bn,bp,bq,br,bs⟩:=kB Tryz.qt
     have b0:=zC (show z8 b.ms=z8 (b.ms.take a)++(YR c++z8 (b.ms.drop (a+1)))by
      have f:=xS.1 cq
      conv=>lhs;rw[<- vK a b.ms,ko f.1,f.2]
      rw[jc];rfl)
     have a2:L (z8 (b.ms.take a))=a*3:=(by rw[zO,xO,Qp (by rw[<- D.A];omega)]);have b1:L (z8 (b.ms.drop (a+1)))=(e-(a+1))*3:=by rw[zO,xZ,D.A]
     have cr:=zC (show ∀g,qa3 q g->∀j x,(z8 (b.ms.take a))[j]?=O x->VE g (((V4 m 0):Addr).add j)=O x from λg ae j x Q=>by
      have b2:=(xS.1 Q).1
      rw[zR,vg,ae.U (ao.A.lt m rfl).2,ao.A.cellAt j VC,b0.A,vN b2];exact Q)
     have cs:=zC (show ∀g,qa3 q g->∀j x,(z8 (b.ms.drop (a+1)))[j]?=O x->VE g ((⟨m,(a+1)*3,none⟩:Addr).add j)=O x from λg ae j x Q=>by
      have b2:=(xS.1 Q).1;rw[zR,ae.U (ao.A.lt m rfl).2,ao.A.cellAt ((a+1)*3+j) VC,b0.A,xQ VC,a2,xQ (by simp[YR];omega)]
      rw[show(a+1)*3+j-a*3-L (YR c)=j by simp[YR];omega];exact Q)
     have a3:=zC ((xF (N (Y q)) q).alloc lR (V6 #[] 168));have ct:=zC (show(VF q (V6 #[] 168)).ownsRow (N (Y q)) 168 3 (VZ (qQ (N (Y q)) 0) 0 0) 0 []from Qo q #[] 0 lR (xY _) rfl);have b3:=bx.lt;have de:a<=mk:=VC;have a4:=zC (qa5 a2 b1);have cu:=zC (zq (b.ms.take a));have b4:=zC (zq (b.ms.drop (a+1)));clear a2 b1;go_upto_region 13 with (at_builtin;refine wpList_append_own_at _ rfl _ _ 48 rfl (N (Y q)) 168 bn (.agg #[qP 0,qP 0,qP 0]) 3 24 underlying48 bp bq br bs rfl VS (VZ (qQ (N (Y q)) 0) 0 0) 0 [] rfl (ct) (V4 m 0) a mk (z8 (b.ms.take a)) rfl (a4.1) (cr _ a3) (cu) VW VC VT ?_;intro b6 aa ba b7 _ _)
     have S:=zC (a3.grown b7 a3.size (λH bg=>by simp only[VD,xP]at bg;omega));have ap:=zC (by rw[vg,vL]at ba;exact ba);have df:=(S.U b3).R a0;obtain⟨y,ce⟩:∃bc,bc=a+1:=⟨_,rfl⟩
     have a5:=zC ce;have dg:IntKind.i64.wrap (a+1)=y:=(by rw[vU];omega);have dh:y<=e:=VC;have di:y<=mk:=VC;have dj:(y:Int)<=e:=VC;have cv:¬au=d:=by have:=W.A;omega
     have b5:=zC (show ∀g U,aa.grownBy g (VD b6)->g.ownsRow (N (Y q)) 168 3 U (a+(e-y)) (z8 (b.ms.take a)++z8 (b.ms.drop (a+1)))->Pr l o d (yZ 7 h r s (VZ t u v)) {b with ms:=b.ms.take a++b.ms.drop (a+1)} (g.setCell (V4 d 1) U)/\VE g (V4 d 1)=O (VZ (qQ m 0) e mk)/\g.frozen? (V4 d 1)=VP/\VE (g.setCell (V4 d 1) U) (V4 au 1)=O (qP c.2.1)from λg U c4 c5=>by
      have cw:=(xF (N (Y q)) aa).grown c4 S.size (λH bg=>(ap.lt H bg).1);have aq:=S.R cw;have a6:=bx.I aq
      have cx:zW g 0 U (b.ms.take a++b.ms.drop (a+1)):=by
       unfold zW;rw[jc,show(L (b.ms.take a++b.ms.drop (a+1)))=a+(e-y)by rw[xL,xO,xZ,<- D.A];omega];exact zF c5 (xY _)
      refine⟨(R.I aq).step (St.set a6 (a6.ms' cx)),(aq.U b3).R a0,a6.blk.f 1,?_⟩
      exact(vO (xM g (V4 d 1) au U cv)).R ((aq.U (xG.1 X).1).R a1))
     clear ba b7 a0 ce bz a1
     obtain⟨cf,cg,rfl⟩:∃af H,b6= .slice af a H:=by
      obtain⟨C,ch⟩|⟨ci,p,cj,C,_⟩:=ap.A.2
      ·simp_all
      exact⟨_,_,C⟩
     by_cases c0:mk=y
     ·have cy:e=y:=VC
      have ar:=zC (show(L (z8 (b.ms.drop (a+1))))=0*3 by rw[a4.A.2,<- a5.A];omega);have a7:=zC (show ∀j x,(z8 (b.ms.drop (a+1)))[j]?=O x->VE aa (((V4 m 0):Addr).add j)=O x from λj x Q=>by have f:=(xS.1 Q).1;rw[ar.A]at f;omega);have dk:=zC (show a+(e-y)=a+0 by omega);subst c0;subst cy;go_upto_region 14 with (at_builtin;refine wpList_append_own_at _ rfl _ _ 48 rfl (N (Y q)) 168 bn (.agg #[qP 0,qP 0,qP 0]) 3 24 underlying48 bp bq br bs rfl VS (VZ cf a cg) a (z8 (b.ms.take a)) rfl (ap) (V4 m 0) 0 0 (z8 (b.ms.drop (a+1))) rfl (ar) (a7) (b4) VW VC (by have:=S.size;omega) ?_;intro ab ac T ad _ _;have z:=zC (b5 ac ab ad (by simp_all));have a8:=z.2.1;have I:=z.2.2.1;have a9:∃af H bh,ab= .slice af bh H:=(by obtain⟨C,ch⟩|⟨ci,p,cj,C,_⟩:=T.2;simp_all;simp_all);obtain⟨da,db,dc,rfl⟩:=a9;clear T ad)
      have Z:=zC z.1;have cz:=z.2.2.2;clear a8 I z;generalize VG ac _ _=c2 at*;have RR:=zC Z.2.2;have M:=zC (Z.fin0 (x0:=0) (x1:=c.2.1) (x2:=0) aj);go_wp2_with (refine ZD RR ?_);exact jC results87 RR rfl M
     have ar:=zC (show(L (z8 (b.ms.drop (a+1))))=(e-y)*3 by rw[a4.A.2,<- a5.A]);have a7:=zC (show ∀j x,(z8 (b.ms.drop (a+1)))[j]?=O x->VE aa (((V4 m (y*3)):Addr).add j)=O x from by rw[a5.A];exact cs aa S);go_upto_region 14 with (at_builtin;refine wpList_append_own_at _ rfl _ _ 48 rfl (N (Y q)) 168 bn (.agg #[qP 0,qP 0,qP 0]) 3 24 underlying48 bp bq br bs rfl VS (VZ cf a cg) a (z8 (b.ms.take a)) rfl (ap) (V4 m (y*3)) (e-y) (mk-y) (z8 (b.ms.drop (a+1))) rfl (ar) (a7) (b4) VW VC (by have:=S.size;omega) ?_;intro ab ac T ad _ _;have z:=zC (b5 ac ab ad (T));have a8:=z.2.1;have I:=z.2.2.1;have a9:∃af H bh,ab= .slice af bh H:=(by obtain⟨C,ch⟩|⟨ci,p,cj,C,_⟩:=T.2;simp_all;simp_all);obtain⟨da,db,dc,rfl⟩:=a9;clear T ad)
     have Z:=zC z.1;have cz:=z.2.2.2;clear a8 I z;generalize VG ac _ _=c2 at*;have RR:=zC Z.2.2;have M:=zC (Z.fin0 (x0:=0) (x1:=c.2.1) (x2:=0) aj);go_wp2_with (refine ZD RR ?_)
     exact jC results87 RR rfl M)
   |(revert bt;intro bt;skip
     obtain⟨m,p,ai,cd,aw⟩:∃P p,Value.slice bi e mk= .slice (qQ P 0) e p/\e<=p/\p<=maxLen:=by
      obtain⟨_,f⟩|⟨P,p,C,c6,bl,_⟩:=J.A.shape
      ·simp_all
      exact⟨P,p,by rw[C,D.A],by simp_all,bl⟩
     simp at ai;obtain⟨rfl,rfl⟩:=ai;have am:=zC (ak.I K);have F:=zC (by have f:=J.kt (KT.of K);unfold zW at f;rw[<- D.A]at f;exact f);have cn:a<e:=(by rw[D.A];exact(xS.1 w).1);have ax:VE k (V4 m (a*3))=O (qP c.1):=(by have f:=F.cellAt (a*3+0) VC;rw[zx _ a 0 c w VC]at f;exact f);have ay:VE k (V4 m (a*3+1))=O (qP c.2.1):=(by rw[F.A.cellAt (a*3+1) VC,zx _ a 1 c w VC];rfl);have az:VE k (V4 m (a*3+2))=O (qP c.2.2):=(by rw[F.A.cellAt (a*3+2) VC,zx _ a 2 c w VC];rfl);have an:=(K.U ak.lt).R ah;have co:(a:Int)<e:=VC;have cp:¬ (a:Int)<0:=VC;have BM:=zC ((xF (N (Y k)) k).alloc lR (V6 #[qP c.1,qP c.2.1,qP c.2.2] 168));have X:=zC (show(VF k (V6 #[qP c.1,qP c.2.1,qP c.2.2] 168)).heap[N (Y k)]?=O (V6 #[qP c.1,qP c.2.1,qP c.2.2] 168 (0,0))from xJ _ _);have bw:=am.lt;have R:=zC (W.I BM);unfold maxLen at aw;clear w;go_upto_region 10 with fail;generalize VF k _=q at*;generalize N (Y k)=au at*;have bz:=c8 0 R.2.1;have a1:=c8 1 X;have dl:=c8 2 X;clear ax ay az an;have RR:=zC R.2.2;have M:=zC (R.fin0 (x0:=0) (x1:=c.2.1) (x2:=c.2.2) aj);clear cd aw;go_wp2_with (refine ZD RR ?_)
     exact jC results87 RR rfl M)
   |(have RR:=zC W.2.2;have M:=zC (W.fin0 (x0:=4) (x1:=0) (x2:=0) aj);go_wp2_with (refine ZD RR ?_);exact jC results87 RR rfl M)
def lookN7:=@EJ.1
def dropN7:=@EJ.2.1
def look7:=@EJ.2.2.1
def drop7:=@EJ.2.2.2
end
section
variable {w w':World} {B s:Nat} {x:V7} {M:SS} {b0 b1 b2:Int} {ta:Option Addr} {tl tq:Nat}
theorem Xt:(∀ {w} {B} {a} {x} {M} {b0} {b1} {b2} {ta} {tl} {tq} (b:SM w B a x M) (d:b0<0),A7 86 w B a 1 b0 b1 b2 (.slice ta tl tq) 2 0 0 [] [] M)∧(∀ {w} {B} {a} {x} {M} {b0:Int} {b1} {b2} {ta} {tl} {tq} (b:SM w B a x M) (d:L M.tx<b0),A7 86 w B a 1 b0 b1 b2 (.slice ta tl tq) 2 0 0 [] [] M)∧(∀ {w} {B} {a} {x} {M} {b0} {b1} {b2} {ta} {tl} {tq} (b:SM w B a x M) (d:b0<0),A7 86 w B a 4 b0 b1 b2 (.slice ta tl tq) 2 0 0 [] [] M)∧(∀ {w} {B} {a} {x} {M} {b0:Int} {b1} {b2} {ta} {tl} {tq} (b:SM w B a x M) (d:L M.tx<b0),A7 86 w B a 4 b0 b1 b2 (.slice ta tl tq) 2 0 0 [] [] M)∧(∀ {w} {B} {a} {x} {M} {b0} {b1} {b2} {ta} {tl} {tq} (b:SM w B a x M) (d:b0<0),A7 86 w B a 2 b0 b1 b2 (.slice ta tl tq) 2 0 0 [] [] M)∧(∀ {w} {B} {a} {x} {M} {b0} {b1} {b2} {ta} {tl} {tq} (b:SM w B a x M) (d:0<=b0) (hc:b1<b0),A7 86 w B a 2 b0 b1 b2 (.slice ta tl tq) 2 0 0 [] [] M)∧(∀ {w} {B} {a} {x} {M} {b0} {b1:Int} {b2} {ta} {tl} {tq} (b:SM w B a x M) (d:0<=b0) (hc:b0<=b1) (o:L M.tx<b1),A7 86 w B a 2 b0 b1 b2 (.slice ta tl tq) 2 0 0 [] [] M):=by
 refine⟨@fun w B a x M b0 b1 b2 ta tl tq b d=>have g1:=zC xN;?_,@fun w B a x M b0 b1 b2 ta tl tq b d=>have g1:=zC xN;have j:=zC xN;?_,@fun w B a x M b0 b1 b2 ta tl tq b d=>have k:=zC xN;?_,@fun w B a x M b0 b1 b2 ta tl tq b d=>have k:=zC xN;have j:=zC xN;?_,@fun w B a x M b0 b1 b2 ta tl tq b d=>?_,@fun w B a x M b0 b1 b2 ta tl tq b d hc=>have l:=zC xN;?_,@fun w B a x M b0 b1 b2 ta tl tq b d hc o=>have m:=zC xN;?_⟩
 all_goals
  unfold A7
  first
   |(revert g1;intro g1;have c:=zC (Pr.start b (yZ 1 b0 b1 b2 (.slice ta tl tq))))
   |(revert k;intro k;have c:=zC (Pr.start b (yZ 4 b0 b1 b2 (.slice ta tl tq))))
   |(have c:=zC (Pr.start b (yZ 2 b0 b1 b2 (.slice ta tl tq))))
  have g:=b.hB;clear b;go_enter func86,ntmps86
  go_upto_region 1 with fail
  generalize VF _ _=y at*;have r:=c7 (i:=0) c.A.2.1 rfl;obtain⟨x1,h⟩:=c.A.sm;obtain⟨p,q,z,A,C,D,E,_⟩:=h.blk.c;obtain⟨⟨G,H,e⟩,⟨ma,mk,f⟩,_⟩:=h.vs;rw [e]at p;rw [f]at q;have s:=c7 (i:=1) c.A.2.1 rfl;have t:=c7 (i:=2) c.A.2.1 rfl
  first
   |(revert m;intro m;skip
     have n:¬b0<0:=by omega
     have u:¬b1<b0:=by omega
     by_cases v:L M.tx<b0
     all_goals
      clear e f;have RR:=zC c.A.2.2;have F:=zC (c.A.fin0 (x0:=2) (x1:=0) (x2:=0) g);go_wp2_with (refine ZD RR.A ?_)
      exact jC results86 RR.A rfl F.A)
   |(revert l;intro l;skip
     have n:¬b0<0:=by omega
     by_cases o:L M.tx<b0
     all_goals
      clear e f;have RR:=zC c.A.2.2;have F:=zC (c.A.fin0 (x0:=2) (x1:=0) (x2:=0) g);go_wp2_with (refine ZD RR.A ?_)
      exact jC results86 RR.A rfl F.A)
   |(revert j;intro j;(have n:¬b0<0:=by omega);clear h e f;have RR:=zC c.A.2.2;have F:=zC (c.A.fin0 (x0:=2) (x1:=0) (x2:=0) g);go_wp2_with (refine ZD RR.A ?_);exact jC results86 RR.A rfl F.A)
   |(clear h e f;have RR:=zC c.A.2.2;have F:=zC (c.A.fin0 (x0:=2) (x1:=0) (x2:=0) g);go_wp2_with (refine ZD RR.A ?_);exact jC results86 RR.A rfl F.A)
def insN7:=@Xt.1
def insP7:=@Xt.2.1
def lcN7:=@Xt.2.2.1
def lcP7:=@Xt.2.2.2.1
def delN7:=@Xt.2.2.2.2.1
def delQ7:=@Xt.2.2.2.2.2.1
def delP7:=@Xt.2.2.2.2.2.2
def I7:(∀{d e f m b a c h j k l}(n:SM d e f m b)(p:a<0),A7 86 d e f 3 a c h (VZ j k l) 2 0 0 [] [] b)/\(∀{d e f m b a c h j k l}(n:SM d e f m b)(p:0<=a)(t:c<a),A7 86 d e f 3 a c h (VZ j k l) 2 0 0 [] [] b)/\(∀{d e f m b a}{c:Int}{h j k l}(n:SM d e f m b)(p:0<=a)(t:a<=c)(y:L b.tx<c),A7 86 d e f 3 a c h (VZ j k l) 2 0 0 [] [] b):=by
 refine⟨@λd e f m b a c h j k l n p=>?_,@λd e f m b a c h j k l n p t=>have w:=zC xN;?_,@λd e f m b a c h j k l n p t y=>have x:=zC xN;?_⟩
 all_goals
  unfold A7;have g:=zC (Pr.start n (yZ 3 a c h (VZ j k l)));have s:=n.hB;clear n;go_enter func86,ntmps86;go_upto_region 1 with fail;generalize VF _ _=H at*;have C:=c8 0 g.2.1;obtain⟨u,v⟩:=g.A.sm;obtain⟨A,B,I,J,K,M,P,_⟩:=v.blk.c;obtain⟨⟨Q,R,q⟩,⟨S,mk,r⟩,_⟩:=v.vs;rw[q]at A;rw[r]at B;have D:=c8 1 g.2.1;have E:=c8 2 g.2.1
  first
   |(revert x;intro x;skip
     have z:¬a<0:=VC;have F:¬c<a:=VC;by_cases G:L b.tx<a
     all_goals
      clear q r;have RR:=zC g.2.2;have o:=zC (g.fin0 (x0:=2) (x1:=0) (x2:=0) s);go_wp2_with (refine ZD RR ?_)
      exact jC results86 RR rfl o)
   |(revert w;intro w;skip
     have z:¬a<0:=VC;by_cases y:L b.tx<a
     all_goals
      clear q r;have RR:=zC g.2.2;have o:=zC (g.fin0 (x0:=2) (x1:=0) (x2:=0) s);go_wp2_with (refine ZD RR ?_)
      exact jC results86 RR rfl o)
   |(clear v q r;have RR:=zC g.2.2;have o:=zC (g.fin0 (x0:=2) (x1:=0) (x2:=0) s);go_wp2_with (refine ZD RR ?_);exact jC results86 RR rfl o)
def sliN7:=@I7.1
def sliQ7:=@I7.2.1
def sliP7:=@I7.2.2
end
section
variable {w w':World} {B s:Nat} {x:V7} {M:SS} {b0 b1 b2:Int} {ta:Option Addr} {tl tq:Nat}
def DM(w)(op):qa3 w (VF (VF w (V6 op 61)) (V6 (yV 0 0 0 V0 V0) 79)):=((xF _ w).alloc lR _).alloc VT _
def insE7(a)(bs)(j:SM w B s x M)(o:∀c,qa3 w c->Rd .u8 c (VZ ta tl tq) bs)(p:bytes bs)(q:L bs<=1048576)(K:a<=L M.tx)(k:yJ bs= []):A7 86 w B s 1 a b1 b2 (VZ ta tl tq) 0 0 0 [] [] M:=by
 unfold A7;have b:=zC (Pr.start j (yZ 1 a b1 b2 (VZ ta tl tq)));have C:=zC (DM w (yZ 1 a b1 b2 (VZ ta tl tq)));have D:=j.hB;clear j;go_enter func86,ntmps86;go_upto_region 1 with fail;generalize VF _ _=H at*;have U:=c8 0 b.2.1;obtain⟨P,d⟩:=b.A.sm;obtain⟨r,Q,aa,ab,ac,ad,ae,_⟩:=d.blk.c;obtain⟨⟨af,ag,t⟩,⟨ah,mk,u⟩,_⟩:=d.vs;rw[t]at r;rw[u]at Q;have V:=c8 1 b.2.1;have W:=c8 4 b.2.1;have l:=zC (λc I=>ON bs _ c (o c I) p q);obtain⟨g,v⟩:∃g,g=L M.tx:=⟨_,rfl⟩
 rw[<- v]at r K;have X:¬ (a:Int)<0:=VC
 have Z:¬ (g:Int)<a:=VC
 have E:=zC d;have m:=zC (l H C);clear d t u v o p q l;go_wp2_with fail;refine m.G ?_;rintro ai R ⟨S,rfl,y,z⟩;have f:=zC (show zH R 0 S _ from zF y (xY _));obtain⟨aj,ak,rfl⟩:=zS f;have n:=zC (b.I z);obtain⟨T,A⟩:∃J,J=yJ bs:=⟨_,rfl⟩
 rw[<- A]at f k |-;obtain⟨h,e⟩:∃h,h=L T:=⟨_,rfl⟩
 have HM:=zC e;have F:h=0:=by rw[e,k];rfl
 rw[<- e]at f |-;clear y z m A e E;subst F;clear k;have RR:=zC n.2.2;have G:=zC (n.fin0 (x0:=0) (x1:=0) (x2:=0) D);go_wp2_with (refine ZD RR ?_);exact jC results86 RR rfl G
def Ia:(∀{d k l m b n o e f g}(c)(a)(t:SM d k l m b)(w:∀j,qa3 d j->Rd .u8 j (VZ e f g) a)(x:bytes a)(y:L a<=1048576)(u:c<=L b.tx)(p:0<L (yJ a))(q:L b.tx<=8192)(P:L (yJ a)<=1048576)(h:8192<L b.tx+L (yJ a)),A7 86 d k l 1 c n o (VZ e f g) 10 0 0 [] [] b)/\(∀{d k l m b n o e f g}(c)(a)(t:SM d k l m b)(w:∀j,qa3 d j->Rd .u8 j (VZ e f g) a)(x:bytes a)(y:L a<=1048576)(u:c<=L b.tx)(p:0<L (yJ a))(q:L b.tx+L (yJ a)<=8192)(E:b.sp<=200000)(h:¬b.sp+L (yJ a)<=200000),A7 86 d k l 1 c n o (VZ e f g) 10 0 0 [] [] b)/\(∀{d k l m b n o e f g}(c)(a)(t:SM d k l m b)(w:∀j,qa3 d j->Rd .u8 j (VZ e f g) a)(x:bytes a)(y:L a<=1048576)(u:c<=L b.tx)(p:0<L (yJ a))(q:L b.tx+L (yJ a)<=8192)(E:b.sp<=200000)(h:b.sp+L (yJ a)<=200000)(ag:L b.ms<=4096)(ah:∀m∈b.ms,0<=m.2.1/\m.2.1<=8192)(ai:L b.lg<1000000000)(aj:L b.gr<=100000),A7 86 d k l 1 c n o (VZ e f g) 0 (L (yJ a)) 0 [] [] (Fy {b with sp:=b.sp+L (yJ a)} c c (yJ a))):=by
 refine⟨@λd k l m b n o e f g c a t w x y u p q P h=>have s:=zC xN;?_,@λd k l m b n o e f g c a t w x y u p q E h=>have U:=zC xN;?_,@λd k l m b n o e f g c a t w x y u p q E h ag ah ai aj=>have B:=zC xN;?_⟩
 all_goals
  unfold A7;have C:=zC (Pr.start t (yZ 1 c n o (VZ e f g)));have aq:=zC (DM d (yZ 1 c n o (VZ e f g)));have K:=t.hB;clear t;go_enter func86,ntmps86;go_upto_region 1 with fail;generalize VF _ _=av at*;have a2:=c8 0 C.2.1;obtain⟨Q,G⟩:=C.A.sm;obtain⟨R,ay,a7,a8,a9,ba,bc,_⟩:=G.blk.c;obtain⟨⟨bd,bf,ak⟩,⟨bg,mk,al⟩,_⟩:=G.vs;rw[ak]at R;rw[al]at ay;have a3:=c8 1 C.2.1;have a4:=c8 4 C.2.1
  first | (revert s;intro s;rw[<- show(L (yJ a))=L (yJ a) from rfl]at h) | skip
  have V:=zC (λj aw=>ON a _ j (w j aw) x y);obtain⟨v,H⟩:∃v,v=L b.tx:=⟨_,rfl⟩
  have W:=zC H
  first
   |(revert s;intro s;rw[<- H]at R u q h)
   |(rw[<- H]at R u q)
  have s:¬ (c:Int)<0:=VC;have B:¬ (v:Int)<c:=VC;have X:=zC G;have Z:=zC (V av aq);clear G ak al H w x y V;go_wp2_with fail;refine Z.G ?_;rintro S az ⟨a0,rfl,am,T⟩;have z:=zC (show zH az 0 a0 _ from zF am (xY _));obtain⟨bh,bi,rfl⟩:=zS z;have A:=zC (C.I T);have aa:=zC (X.I T);obtain⟨an,I⟩:∃ax,ax=yJ a:=⟨_,rfl⟩
  have ab:=zC I
  first
   |(revert s;intro s;rw[<- I]at z p P h |-)
   |(rw[<- I]at z p q h |-)
  obtain⟨r,J⟩:∃r,r=L an:=⟨_,rfl⟩
  have HM:=zC J
  first
   |(revert s;intro s;rw[<- J]at z p P h |-)
   |(rw[<- J]at z p q h |-)
  have ar:=c8 1 A.2.1;clear am T Z I J X;have a5:IntKind.i64.wrap (v+r)=(v+r):=by rw[vU];omega
  first
   |(revert B;intro B;(have ac:¬ (8192:Int)<v+r:=by omega);(have M:=zC (RB r aa E VC h));go_wp2_with fail;refine M.G ?_;rintro S a1 ⟨rfl,hst⟩;have ad:=zC (A.step hst);obtain⟨bj,ao,ap⟩:=hst;have au:=zC (z.kt ap.kt);(have ae:=zC (zCa c c _ an 0 ao (by have D:=au.A;rw[HM.A]at D;exact D) ⟨lR,by rw[<- W.A];exact u⟩ (by rw[<- W.A,<- HM.A];exact q) (.inl ⟨rfl,by rw[<- HM.A];exact p⟩) ag ah ai aj));rw[<- HM.A]at ae;have a6:=c8 1 ad.2.1;clear ao ap ar;go_wp2_with fail;refine ae.G ?_;rintro S bk ⟨rfl,hst⟩;have af:=zC (ad.step hst);clear hst;have RR:=zC af.2.2;have F:=zC (af.fin0 (x0:=0) (x1:=r) (x2:=0) K))
   |(revert U;intro U;(have ac:¬ (8192:Int)<v+r:=by omega);(have M:=zC (Dk r aa E VC h));go_wp2_with fail;refine M.G ?_;rintro S a1 ⟨rfl,rfl⟩;have RR:=zC A.2.2;have F:=zC (A.fin0 (x0:=10) (x1:=0) (x2:=0) K))
   |((have ac:(8192:Int)<v+r:=by omega);have RR:=zC A.2.2;have F:=zC (A.fin0 (x0:=10) (x1:=0) (x2:=0) K))
  go_wp2_with (refine ZD RR ?_)
  first
   |(revert B;intro B;(exact jC results86 RR rfl (by have D:=F.A;rw[HM.A,ab.A]at D;rw[HM.A,ab.A];exact D)))
   |(exact jC results86 RR rfl F)
def insF7:=@Ia.1
def insG7:=@Ia.2.1
def ins7:=@Ia.2.2
def zCb:(∀{f g h d c j k l m}(b a)(n:SM f g h d c)(t:b<=a/\a<=L c.tx)(r:a=b),A7 86 f g h 2 b a j (VZ k l m) 0 0 0 [] [] c)/\(∀{f g h d c j k l m}(b a o)(n:SM f g h d c)(t:b<=a/\a<=L c.tx)(r:a=b+o)(M:0<o)(z:L c.tx<=8192)(A:L c.ms<=4096)(B:∀d∈c.ms,0<=d.2.1/\d.2.1<=8192)(C:L c.lg<1000000000)(D:L c.gr<=100000),A7 86 f g h 2 b a j (VZ k l m) 0 o 0 [] [] (Fy c b a [])):=by
 refine⟨@λf g h d c j k l m b a n t r=>?_,@λf g h d c j k l m b a o n t r M z A B C D=>have p:=zC xN;?_⟩
 all_goals
  unfold A7;have q:=zC r;clear r;have e:=zC (Pr.start n (yZ 2 b a j (VZ k l m)));have x:=n.hB;clear n;go_enter func86,ntmps86;go_upto_region 1 with fail;generalize VF _ _=aa at*;have Q:=c8 0 e.2.1;obtain⟨E,v⟩:=e.A.sm;obtain⟨F,P,ab,ac,ad,ae,af,_⟩:=v.blk.c;obtain⟨⟨ag,ah,G⟩,⟨ai,mk,H⟩,_⟩:=v.vs;rw[G]at F;rw[H]at P;have R:=c8 1 e.2.1;have S:=c8 2 e.2.1;obtain⟨u,w⟩:∃u,u=L c.tx:=⟨_,rfl⟩
  have T:=zC w;rw[<- w]at F t;have p:¬ (b:Int)<0:=VC;have U:¬ (u:Int)<b:=VC;have V:¬ (a:Int)<b:=VC;have W:¬ (u:Int)<a:=VC
  first
   |(revert p;intro p;(have I:=zC (zCa b a _ [] 0 v (vz _ _ _ _) VC (by simp;exact z) (.inr ⟨by have:=q.A;omega,rfl,rfl⟩) A B C D));(have J:IntKind.i64.wrap (a-b)=o:=by have:=q.A;rw[vU];omega);(have K:(b:Int)<a:=by have:=q.A;omega))
   |((have J:(a:Int)-b=0:=by have:=q.A;omega);(have K:¬ (b:Int)<a:=by have:=q.A;omega))
  clear v G H w
  first
   |(revert p;intro p;go_wp2_with fail;refine I.G ?_;rintro aj ak ⟨rfl,hst⟩;have s:=zC (e.step hst);have X:=c8 1 s.2.1;have Z:=c8 2 s.2.1;clear hst;have RR:=zC s.2.2;have y:=zC (s.fin0 (x0:=0) (x1:=o) (x2:=0) x))
   |(have RR:=zC e.2.2;have y:=zC (e.fin0 (x0:=0) (x1:=0) (x2:=0) x))
  go_wp2_with (refine ZD RR ?_);exact jC results86 RR rfl y
def del0:=@zCb.1
def del7:=@zCb.2
end
section
variable {w w':World} {B s:Nat} {x:V7} {M:SS} {b0 b1 b2:Int} {ta:Option Addr} {tl tq:Nat}
def lc7(a)(n:SM w B s x M)(z:a<=L M.tx)(A:L M.tx<=8192)(S:L M.lg<1000000000):A7 86 w B s 4 a b1 b2 (VZ ta tl tq) 0 (J9 M.tx a) (XM M.tx a) [] [] {M with lg:=M.lg++ [⟨4,a,0,[]⟩]}:=by
 unfold A7;have f:=zC (Pr.start n (yZ 4 a b1 b2 (VZ ta tl tq)));have H:=n.hB;clear n;go_enter func86,ntmps86;go_upto_region 1 with fail;generalize VF _ _=ae at*;have aa:=c8 0 f.2.1;obtain⟨T,k⟩:=f.A.sm;obtain⟨C,U,ag,ah,ai,aj,ak,_⟩:=k.blk.c;obtain⟨⟨al,am,D⟩,⟨an,mk,E⟩,_⟩:=k.vs;rw[D]at C;rw[E]at U;have ab:=c8 1 f.2.1;obtain⟨e,o⟩:∃e,e=L M.tx:=⟨_,rfl⟩
 have g:=zC o;rw[<- o]at C z A;have ac:¬ (a:Int)<0:=VC
 have ad:¬ (e:Int)<a:=VC
 have I:=zC (Iw 4 a 0 _ [] k (.inl ⟨rfl,rfl⟩) (Qr S));clear k D E o;go_wp2_with fail;refine I.G ?_;rintro R p ⟨rfl,hst⟩;have m:=zC (f.step hst);obtain⟨V,l⟩:=m.A.sm;obtain⟨W,X,F⟩:=zS l.tx;have d:=l.blk.c.1;have h:=l.tx;rw[F]at d h;simp at d h;rw[<- g.A]at d;have q:=c8 1 m.2.1;have J:=λb c=>qa6 d b c
 have K:=λb c=>qa6 q b c
 have t:=zC (λb c=>CallsIn.regrown_of (r:=5) (w:=p) (d:=b) (os:=c) (vD.2 ((lcS _ (VZ W e X) a _ (by rw[g.A];exact(Rd.qe h).I (qa7 p b c)) (by rw[<- g.A];exact A) (by rw[<- g.A];exact z)).G (λR w' v=>⟨v.1,v.2▸xF _ _⟩))));clear l hst F h;go_upto_region 27 with fail;refine(kS (n:=6)).1 ?_;refine wpIn_region_quiet_below rfl VU VU ?_
 repeat (refine qa8 (λ_ _ _ _=>trivial) (λy j=>?_);go_simp;first | (refine j _ ?_;clear j y) | (apply Exists.intro;refine⟨λ_=>?_,j _ ?_⟩;(first | exact t _ _);clear j y))
 refine qa9 ?_;rintro _ ⟨⟨Z,G⟩,rfl⟩;have P:=zC (qa7 p Z G);generalize grow _ G=af at*;have u:=zC (m.I P);clear J K t d q;gi_wp2_with fail;have RR:=zC u.2.2;have Q:=zC (u.fin0 (x0:=0) (x1:=J9 M.tx a) (x2:=XM M.tx a) H);go_wp2_with (refine ZD RR ?_);exact jC results86 RR rfl Q
def offN7(j:SM w B s x M)(t:L M.tx<=8192)(o)(u:ZV M.tx b0 b1=o)(W:o<0):A7 86 w B s 5 b0 b1 b2 (VZ ta tl tq) 3 0 0 [] [] M:=by
 unfold A7;have a:=zC (Pr.start j (yZ 5 b0 b1 b2 (VZ ta tl tq)));have A:=j.hB;clear j;go_enter func86,ntmps86;go_upto_region 1 with fail;generalize VF _ _=K at*;have V:=c8 0 a.2.1;obtain⟨R,e⟩:=a.A.sm;obtain⟨k,S,X,Z,aa,ab,ac,_⟩:=e.blk.c;obtain⟨⟨ad,ae,l⟩,⟨af,mk,v⟩,_⟩:=e.vs;rw[l]at k;rw[v]at S;have C:=c8 1 a.2.1;have D:=c8 2 a.2.1;obtain⟨b,m⟩:∃b,b=L M.tx:=⟨_,rfl⟩
 have n:=zC m;have f:=zC (e.tx);rw[l]at f;rw[<- m]at k t f;have E:=λc d=>qa6 k c d
 have F:=λc d=>qa6 C c d
 have G:=λc d=>qa6 D c d
 have H:=zC u;clear e l v m u;have I:b0<0\/(¬b0<0/\b<b0)\/(¬b0<0/\¬b<b0):=VC
 obtain y|⟨y,T⟩|⟨y,T⟩:=I
 all_goals
  go_upto_region 30 with fail;refine(kS (n:=6)).1 ?_;refine zI 8 VU VU ?_;simp only[vQ,kh,vT,ke]
  repeat (refine qa8 (λ_ _ _ _=>trivial) (λQ r=>?_);go_simp;first | (refine r _ ?_;clear r Q))
  refine qa9 ?_;rintro _ ⟨⟨U,z⟩,rfl⟩;have p:=zC (qa7 K U z);generalize grow _ z=P at*;have g:=zC (offS _ _ b0 b1 P (Rd.qe (by have h:=f.kt (KT.of p);unfold zH at h;rw[<- n.A]at h;exact h)) (by rw[<- n.A];exact t));rw[H.A]at g;gi_wp2_with fail;refine⟨xN,(vD.2 g).G ?_⟩;rintro ag ah ⟨rfl,rfl⟩;have q:=zC (a.I p);clear E F G g;gi_wp2_with fail;have RR:=zC q.2.2;have J:=zC (q.fin0 (x0:=3) (x1:=0) (x2:=0) A);go_wp2_with (refine ZD RR ?_);exact jC results86 RR rfl J
def off7(a g:Nat)(m:SM w B s x M)(v:L M.tx<=8192)(y:ZV M.tx a b1=g)(T:L M.lg<1000000000):A7 86 w B s 5 a b1 b2 (VZ ta tl tq) 0 g 0 [] [] {M with lg:=M.lg++ [⟨5,a,0,[]⟩]}:=by
 unfold A7;have b:=zC (Pr.start m (yZ 5 a b1 b2 (VZ ta tl tq)));have C:=m.hB;clear m;go_enter func86,ntmps86;go_upto_region 1 with fail;generalize VF _ _=Q at*;have Z:=c8 0 b.2.1;obtain⟨U,e⟩:=b.A.sm;obtain⟨n,V,ae,af,ag,ah,ai,_⟩:=e.blk.c;obtain⟨⟨aj,ak,o⟩,⟨al,mk,z⟩,_⟩:=e.vs;rw[o]at n;rw[z]at V;have D:=c8 1 b.2.1;have E:=c8 2 b.2.1;obtain⟨f,p⟩:∃f,f=L M.tx:=⟨_,rfl⟩
 have q:=zC p;have h:=zC (e.tx);rw[o]at h;rw[<- p]at n v h;have F:=λc d=>qa6 n c d
 have G:=λc d=>qa6 D c d
 have H:=λc d=>qa6 E c d
 have I:=zC e;have J:=zC y;clear e o z p y;have aa:¬ (a:Int)<0:=VC
 by_cases ad:(f:Int)<a
 all_goals
  go_upto_region 30 with fail;refine(kS (n:=6)).1 ?_;refine zI 8 VU VU ?_;simp only[vQ,kh,vT,ke]
  repeat (refine qa8 (λ_ _ _ _=>trivial) (λS u=>?_);go_simp;first | (refine u _ ?_;clear u S))
  refine qa9 ?_;rintro _ ⟨⟨W,A⟩,rfl⟩;have j:=zC (qa7 Q W A);generalize grow _ A=R at*;have k:=zC (offS _ _ a b1 R (Rd.qe (by have l:=h.kt (KT.of j);unfold zH at l;rw[<- q.A]at l;exact l)) (by rw[<- q.A];exact v));rw[J.A]at k;gi_wp2_with fail;refine⟨xN,(vD.2 k).G ?_⟩;rintro X am ⟨rfl,rfl⟩;have r:=zC (b.I j);have ab:=c8 1 r.2.1;clear F G H k;gi_wp2_with fail;have ac:¬ (g:Int)<0:=VC;have K:=zC (Iw 5 a 0 _ [] (I.I j) (.inl ⟨rfl,rfl⟩) (Qr T));go_wp2_with fail;refine K.G ?_;rintro X an ⟨rfl,hst⟩;have t:=zC (r.step hst);clear hst;have RR:=zC t.2.2;have P:=zC (t.fin0 (x0:=0) (x1:=g) (x2:=0) C);go_wp2_with (refine ZD RR ?_);exact jC results86 RR rfl P
end
section
variable {w w':World} {B s:Nat} {x:V7} {M:SS} {b0 b1 b2:Int} {ta:Option Addr} {tl tq:Nat}
def DN:(∀{b c d s t e f g h j k o l m n p q}(a)(u:a=1\/a=2\/a=3\/a=4\/a=5\/a=16)(v:SM b c d s t)(w:∀r,qa3 b r->A7 86 r c d a e f g (VZ h j k) l m n p q o),A7 64 b c d a e f g (VZ h j k) l m n p q o)/\(∀{b c d s t e f g h j k o l m n p q}(a)(u:a=6\/a=7\/a=8)(v:SM b c d s t)(w:∀r,qa3 b r->A7 87 r c d a e f g (VZ h j k) l m n p q o),A7 64 b c d a e f g (VZ h j k) l m n p q o)/\(∀{b c d s t e f g h j k o l m n p q}(a)(u:a=9\/a=10\/a=11\/a=12)(v:SM b c d s t)(w:∀r,qa3 b r->A7 88 r c d a e f g (VZ h j k) l m n p q o),A7 64 b c d a e f g (VZ h j k) l m n p q o)/\(∀{b c d s t e f g h j k o l m n p q}(a)(u:a=13\/a=14)(v:SM b c d s t)(w:∀r,qa3 b r->A7 89 r c d a e f g (VZ h j k) l m n p q o),A7 64 b c d a e f g (VZ h j k) l m n p q o):=by
 refine⟨@λb c d s t e f g h j k o l m n p q a u v w=>have y:=zC xN;?_,@λb c d s t e f g h j k o l m n p q a u v w=>have z:=zC xN;?_,@λb c d s t e f g h j k o l m n p q a u v w=>have A:=zC xN;?_,@λb c d s t e f g h j k o l m n p q a u v w=>?_⟩
 all_goals
  unfold A7 at w |-;have x:=zC (Pr.start v (yZ a e f g (VZ h j k)));have F:=zC (w _ (DM b (yZ a e f g (VZ h j k))));have G:=v.hB;clear v w
  first
   |(revert y;intro y;obtain rfl|rfl|rfl|rfl|rfl|rfl:=u)
   |(revert A;intro A;obtain rfl|rfl|rfl|rfl:=u)
   |(revert z;intro z;obtain rfl|rfl|rfl:=u)
   |(obtain rfl|rfl:=u)
  all_goals
   go_enter func64,ntmps64;go_upto_region 1 with fail;generalize I:VF _ _=R at*;have J:=c8 0 x.2.1;have K:=c8 1 x.2.1;have M:=c8 2 x.2.1;have P:=c8 3 x.2.1;have Q:=c8 4 x.2.1;have B:=x.1.choose_spec.2.kt.1;clear I;go_wp2_with fail;refine F.G ?_;rintro S T ⟨U,V,W,X,Z,mk,rfl,D,E,hst⟩;have C:=zC (x.step hst);have RR:=zC C.2.2;have H:=zC (C.fin (x0:=l) (x1:=m) (x2:=n) (zF D B) (zW.base E B) G);clear D E hst;go_wp2_with (refine ZD RR ?_);exact jC results64 RR rfl H
def actT7:=@DN.1
def actM7:=@DN.2.1
def actP7:=@DN.2.2.1
def actS7:=@DN.2.2.2
end
section
variable {w w':World} {B s:Nat} {x:V7} {M:SS} {b0 b1 b2:Int} {ta:Option Addr} {tl tq:Nat}
def actMv7(b:SM w B s x M):A7 64 w B s 15 b0 b1 b2 (VZ ta tl tq) 0 0 0 [] [] M:=by
 unfold A7;have a:=zC (Pr.start b (yZ 15 b0 b1 b2 (VZ ta tl tq)));have c:=b.hB;clear b;go_enter func64,ntmps64;go_upto_region 1 with fail;generalize VF _ _=f at*;have e:=c8 0 a.2.1;have RR:=zC a.2.2;have d:=zC (a.fin0 (x0:=0) (x1:=0) (x2:=0) c);go_wp2_with (refine ZD RR ?_);exact jC results64 RR rfl d
def actK7(kd)(e:kd<1\/16<kd)(b:SM w B s x M):A7 64 w B s kd b0 b1 b2 (VZ ta tl tq) 13 0 0 [] [] M:=by
 unfold A7;have a:=zC (Pr.start b (yZ kd b0 b1 b2 (VZ ta tl tq)));have c:=b.hB;clear b;have f:(kd==1)=VP:=VV
 have g:(kd==2)=VP:=VV
 have h:(kd==3)=VP:=VV
 have j:(kd==4)=VP:=VV
 have k:(kd==5)=VP:=VV
 have l:(kd==6)=VP:=VV
 have m:(kd==7)=VP:=VV
 have n:(kd==8)=VP:=VV
 have o:(kd==9)=VP:=VV
 have p:(kd==10)=VP:=VV
 have q:(kd==11)=VP:=VV
 have r:(kd==12)=VP:=VV
 have t:(kd==13)=VP:=VV
 have u:(kd==14)=VP:=VV
 have v:(kd==15)=VP:=VV
 have y:(kd==16)=VP:=VV
 clear e;go_enter func64,ntmps64;go_upto_region 1 with fail;generalize VF _ _=A at*;have z:=c8 0 a.2.1;have RR:=zC a.2.2;have d:=zC (a.fin0 (x0:=13) (x1:=0) (x2:=0) c);go_wp2_with (refine ZD RR ?_);exact jC results64 RR rfl d
end
abbrev Xx(a b c:Int)(d e:Jo)(f g h i j:Int):qa2:=#[qP a,qP b,qP c,d,e,qP f,qP g,qP h,qP i,qP j]
section
variable {w w':World} {B s:Nat} {x:V7} {M:SS} {b0 b1 b2:Int} {ta:Option Addr} {tl tq:Nat}
def Pr.ob{W W' op R cs f}(q:Pr w B s op M W)(r:W.heap[R]?=O (V6 cs 79 f))(z:N (Y w)+1<R)(A:B<=N (Y w))(c:∀a,a≠R->W'.heap[a]? =W.heap[a]?)(n:N (Y W)<=N (Y W'))(k:W'.os=W.os/\W'.tape=W.tape/\W'.output=W.output):Pr w B s op M W':=by
 obtain⟨⟨t,b,l⟩,u,v⟩:=q;have d:=KT.at r (.inr (.inr (.inr rfl))) n (λa _ g=>c a g)
 have h:∀{a:Nat}{i:qa2}{o:TypeId}{j:Nat×Nat},W.heap[a]?=O (V6 i o j)->o≠79->a≠R:=λe ht y=>by
  simp_all
 obtain⟨C,x,_⟩:=b.sl;obtain⟨ls,b1,_⟩:=b.lg;have m:=b.blk;unfold S7 at m;have p:=b.to d ((c s (h m VS)).R b.blk) ⟨rfl,rfl,rfl,rfl⟩ (λa g=>by obtain⟨_,_,e⟩:=jg x g;exact c a (h e VS)) (λa g=>by obtain⟨_,_,e⟩:=jg b1 g;exact c a (h e VS)) (b.tx.kt d) (b.ms.kt d) (b.un.kt d) (b.re.kt d) (b.gr.kt d) rfl b.ul;exact⟨⟨t,p,l.kt.R d,l.bl.R ⟨k.1,k.2.1,k.2.2,n,λa g=>c a VC⟩,λa i j e=>(c a (by have:=(xG.1 e).1;omega)).R (l.ob a i j e)⟩,(c _ VC).R u,(c _ VC).R v⟩
def Pr.obC{W op R j v cs f}(c:Pr w B s op M W)(d:W.heap[R]?=O (V6 cs 79 f))(e:N (Y w)+1<R)(g:B<=N (Y w)):Pr w B s op M (W.setCell (V4 R j) v):=c.ob d e g (λa b=>xM W _ a v b) VT ⟨rfl,rfl,rfl⟩
def Pr.obR{W op R row cs f}(c:Pr w B s op M W)(d:W.heap[R]?=O (V6 cs 79 f))(e:N (Y w)+1<R)(g:B<=N (Y w)):Pr w B s op M (W.setRow R row):=c.ob d e g (λa b=>kD W R a row b) VT ⟨rfl,rfl,rfl⟩
def sr8{ops rest c a W Q b u v x0 x1 x2 l li un re o tv mv}(d:W.heap[b]?=O (V6 (yV 0 0 0 V0 V0) 79 (0,0)))(e:wpList prog ops Q rest (a.put c.dst undef) (W.setRow b (Xx x0 x1 x2 tv mv l li un re o)))
  (f:c.guard=none:=by rfl) (g:c.op= .store 79 u v:=by rfl) (h:a.eval u= .pointer (qQ b 0):=by rfl) (i:a.eval v= .agg (Xx x0 x1 x2 tv mv l li un re o):=by rfl) (j:(Xx x0 x1 x2 tv mv l li un re o).all (·.oneCell')=true:=by simp[Value.oneCell']):wpList prog ops Q (c::rest) a W:=
 yE f 79 u v g b _ _ 79 h i d VU rfl j e
def T9{fn R tmps}{b:V8}{q x0 x1 x2 l li un re o ua ma ul uk ml mk cs f}(r:fn.results= #[.cell 4 79])(s:b.heap[q]?=O (V6 cs 79 f))(t:tmps[4]?=O (V3 q 0))(u:R (V5 (.agg (Xx x0 x1 x2 (VZ ua ul uk) (VZ ma ml mk) l li un re o))) (b.setRow q (Xx x0 x1 x2 (VZ ua ul uk) (VZ ma ml mk) l li un re o))):bodyPost prog fn R .ret {tmps:=tmps,defers:=[]} (b.setRow q (Xx x0 x1 x2 (VZ ua ul uk) (VZ ma ml mk) l li un re o)):=by
 have a:=QH b q _ (Xx x0 x1 x2 (VZ ua ul uk) (VZ ma ml mk) l li un re o) _ _ s;have c:=c8 0 a;have d:=c8 1 a;have e:=c8 2 a;have g:=c8 3 a;have h:=c8 4 a;have j:=c8 5 a;have k:=c8 6 a;have m:=c8 7 a;have n:=c8 8 a;have p:=c8 9 a;generalize b.setRow q _=v at*;exact vE (by simp[results,r,go_sem,t,c,d,e,g,h,j,k,m,n,p]) rfl u
theorem KT.U{W q j v cs f}(c:W.heap[q]?=O (V6 cs 79 f)):KT W (W.setCell (V4 q j) v):=KT.at c (.inr (.inr (.inr rfl))) VT (λa _ b=>xM W _ a v b)
def St.row{w1 row cs f}(m:St w B s M w1)(n:w1.heap[N (Y w)+1]?=O (V6 cs 79 f))(r:B<=N (Y w)):St w B s M (w1.setRow (N (Y w)+1) row):=by
 obtain⟨o,b,j⟩:=m;have c:KT w1 (w1.setRow _ row):=KT.setRow n;refine⟨o,?_,j.kt.R c,j.bl.R ⟨rfl,rfl,rfl,VT,λa e=>kD w1 _ a _ VC⟩,λa h i d=>(kD w1 _ a _ (by have:=(xG.1 d).1;omega)).R (j.ob a h i d)⟩;obtain⟨t,p,_⟩:=b.sl;obtain⟨ls,b1,_⟩:=b.lg
 have g:∀{a:Nat}{h:qa2}{l:TypeId}{i:Nat×Nat},w1.heap[a]?=O (V6 h l i)->l≠79->a≠N (Y w)+1:=λd ht q=>by
  simp_all
 have k:=b.blk;unfold S7 at k;refine b.to c ((kD w1 _ s _ (g k VS)).R b.blk) ⟨rfl,rfl,rfl,rfl⟩ (λa e=>?_) (λa e=>?_) (b.tx.kt c) (b.ms.kt c) (b.un.kt c) (b.re.kt c) (b.gr.kt c) rfl b.ul
 ·obtain⟨_,_,d⟩:=jg p e
  exact kD w1 _ a _ (g d VS)
 obtain⟨_,_,d⟩:=jg b1 e;exact kD w1 _ a _ (g d VS)
def zCc(b:V8)(i j:Nat)(k l m:Int)(n:qa0)(o:List Mk)(a:SS)(p:Ending)(c:V8):Prop:=
 ∃d e f g h mk,p=V5 (.agg (Xx k l m (VZ d e f) (VZ g h mk) (L a.tx) (brk a.tx+1) (L a.un) (L a.re) (if a.op then 1 else 0)))/\zH c (N (Y b)) (VZ d e f) n/\zW c (N (Y b)) (VZ g h mk) o/\St b i j a c
end
section
variable {w w':World} {B s:Nat} {x:V7} {M:SS} {b0 b1 b2:Int} {ta:Option Addr} {tl tq:Nat}
def sr9{ops rest c a W Q b u v x0 x1 x2 tv mv cs}(d:W.heap[b]?=O (V6 cs 79 (0,0)))(e:cs.size=10)(f:wpList prog ops Q rest (a.put c.dst undef) (W.setRow b (yV x0 x1 x2 tv mv)))
  (g:c.guard=none:=by rfl) (h:c.op= .store 79 u v:=by rfl) (i:a.eval u= .pointer (qQ b 0):=by rfl) (j:a.eval v= .agg (yV x0 x1 x2 tv mv):=by rfl) (k:(yV x0 x1 x2 tv mv).all (·.oneCell')=true:=by simp[Value.oneCell']):wpList prog ops Q (c::rest) a W:=
 yE g 79 u v h b _ _ 79 i j d VU e k f
def zAr:(∀{c r k am an y z A B C D d h j R S}(E)(T:SM c r k am an)(ab:∀al,qa3 c al->A7 64 al r k E y z A (VZ B C D) 0 h j R S d)(ax:L d.tx<=8192)(a3:L d.un<=1000000/\L d.re<=1000000),Calls prog 33 #[V3 k 0,.agg (yZ E y z A (VZ B C D))] c (zCc c r k 0 h j R S d))/\(∀{c r k am an y z A B C D d}(e E)(bg:¬e=0)(T:SM c r k am an)(ab:∀al,qa3 c al->A7 64 al r k E y z A (VZ B C D) e 0 0 [] [] d)(ax:L d.tx<=8192)(a3:L d.un<=1000000/\L d.re<=1000000),Calls prog 33 #[V3 k 0,.agg (yZ E y z A (VZ B C D))] c (zCc c r k e 0 0 [] [] d)):=by
 refine⟨@λc r k am an y z A B C D d h j R S E T ab ax a3=>have f:=zC xN;?_,@λc r k am an y z A B C D d e E bg T ab ax a3=>have ao:=zC xN;?_⟩
 all_goals
  unfold A7 at ab;have P:=zC (Pr.start T (yZ E y z A (VZ B C D)));have bp:=zC (ab _ (DM c (yZ E y z A (VZ B C D))));have p:=T.hB;have cc:=T.lt;clear T ab;go_enter func33,ntmps33;go_upto_region 1 with fail;generalize b6:VF _ _=cm at*;have cd:=c8 0 P.2.1;have ce:=c8 1 P.2.1;have cf:=c8 2 P.2.1;have cg:=c8 3 P.2.1;have ch:=c8 4 P.2.1;have ci:=(xG.1 P.2.2).1;clear b6;go_wp2_with fail;refine bp.G ?_;rintro b8 ac ⟨H,I,J,K,M,mk,rfl,bh,bi,hst⟩;have a7:=zC (P.step hst);have w:=(xG.1 a7.2.2).1;have ap:=(xF _ ac).alloc lR (V6 (yV 0 0 0 V0 V0) 79);have a8:=zC (a7.I ap);have Q:=zC (show(VF ac (V6 (yV 0 0 0 V0 V0) 79)).heap[N (Y ac)]?=O _ from xJ _ _)
  first
   |(revert f;intro f;skip
     have ad:=zC (a8.obR (row:=yV 0 h j (VZ H I J) (VZ K M mk)) Q w p);have q:=zC (QH _ _ _ (yV 0 h j (VZ H I J) (VZ K M mk)) _ _ Q)
     have ae:=zC (show zH ((ac.alloc _).setRow _ (yV 0 h j (VZ H I J) (VZ K M mk))) (N (Y c)) _ R/\zW ((ac.alloc _).setRow _ (yV 0 h j (VZ H I J) (VZ K M mk))) (N (Y c)) _ S from
      ⟨(show zH _ _ _ _ from zF (zE bh ap lR) VC).kt (KT.setRow Q),(zW.base (zW.I bi ap lR) VC).kt (KT.setRow Q)⟩))
   |(have ad:=zC (a8.obR (row:=yV e 0 0 (VZ H I J) (VZ K M mk)) Q w p);have q:=zC (QH _ _ _ (yV e 0 0 (VZ H I J) (VZ K M mk)) _ _ Q))
  clear bh bi hst ap;go_upto_region 2 with (refine ZD Q ?_)
  generalize World.setRow _ _ _=u at*;generalize N (Y ac)=b at*
  first
   |(revert ao;intro ao;have af:=c8 0 q;(have cj:(e==0)=VP:=by simpa using bg);have a9:=zC (ad.obR (row:=yV e 0 0 V0 V0) q w p);have V:=zC (QH u b _ (yV e 0 0 V0 V0) _ _ q);have ae:=zC (show zH (u.setRow b (yV e 0 0 V0 V0)) (N (Y c)) _ []/\zW (u.setRow b (yV e 0 0 V0 V0)) (N (Y c)) _ []from⟨vz _ _ _ _,vz _ _ _ _⟩);go_upto_region 4 with (refine sr9 q rfl ?_);clear af ad q;generalize World.setRow u _ _=aa at*;obtain⟨b9,ay⟩:=a9.A.sm)
   |(obtain⟨b9,ay⟩:=ad.A.sm)
  obtain⟨⟨cn,co,bj⟩,_⟩:=ay.vs;have aq:=ay.blk.c.1;rw[bj]at aq;obtain⟨a,a4⟩:∃a,a=L d.tx:=⟨_,rfl⟩
  have ar:=zC a4;rw[<- a4]at aq
  first
   |(revert f;intro f;have af:=c8 0 q;have ag:=c8 5 q;have ah:=λn=>xW u b n _ _ q;have au:=zC (ad.obC (j:=5) (v:=.int .i64 a) q w p);have x:=zC (show(u.setCell _ _).heap[b]?=O (V6 (Xx 0 h j _ _ a 0 0 0 0) 79 _)from(vf u b 5 _ _ _ q).R rfl);have az:=zC (show zH (u.setCell (V4 b 5) (qP a)) _ _ R/\zW (u.setCell (V4 b 5) (qP a)) _ _ S from⟨ae.1.kt (KT.U q),ae.2.kt (KT.U q)⟩))
   |(have ag:=c8 5 V;have ah:=λn=>xW aa b n _ _ V;have au:=zC (a9.obC (j:=5) (v:=.int .i64 a) V w p);have x:=zC (show(aa.setCell _ _).heap[b]?=O (V6 (Xx e 0 0 _ _ a 0 0 0 0) 79 _)from(vf aa b 5 _ _ _ V).R rfl);have az:=zC (show zH (aa.setCell (V4 b 5) (qP (a:Nat))) (N (Y c)) V0 []/\zW (aa.setCell (V4 b 5) (qP (a:Nat))) (N (Y c)) V0 []from⟨ae.1.kt (KT.U V),ae.2.kt (KT.U V)⟩))
  clear ay bj a4;go_upto_region 5 with fail
  first
   |(revert ao;intro ao;generalize VG aa _ _=b7 at*)
   |(generalize VG u _ _=b7 at*)
  obtain⟨ca,U⟩:=au.A.sm;have bq:=zC (brk7 U ax)
  first
   |(revert f;intro f;clear U aq af ag ah)
   |(clear U aq ag ah)
  go_wp2_with fail;refine bq.G ?_;rintro b8 F ⟨rfl,rfl⟩;obtain⟨ca,U⟩:=au.A.sm;obtain⟨_,_,⟨cp,cq,bk⟩,⟨cr,cs,bl⟩,_⟩:=U.vs;obtain⟨_,_,a5,a6,_,cb,_⟩:=U.blk.c;rw[bk]at a5;rw[bl]at a6;obtain⟨l,a1⟩:∃a,a=L d.un:=⟨_,rfl⟩
  obtain⟨o,a2⟩:∃a,a=L d.re:=⟨_,rfl⟩
  obtain⟨m,aw⟩:∃a,a=brk d.tx:=⟨_,rfl⟩
  have br:0<=m/\m<=8192:=(by rw[aw];have ck:=J5 d.tx;omega);have cl:IntKind.i64.wrap (m+1)=m+1:=(by rw[vU];omega);have s:=zC (qa5 a1 (qa5 a2 aw));rw[<- a1]at a5;rw[<- a2]at a6;rw[<- aw];have bs:=c8 6 x;have bt:=c8 7 x;have bu:=c8 8 x;have ah:=λn=>xW F b n _ _ x
  have ba:=zC (au.obC (j:=6) (v:=.int .i64 (m+1)) x w p)
  first
   |(revert f;intro f;have W:=(show(F.setCell _ _).heap[b]?=O (V6 (Xx 0 h j _ _ a (m+1) 0 0 0) 79 _)from(vf F b 6 _ _ _ x).R rfl))
   |(have W:=(show(F.setCell _ _).heap[b]?=O (V6 (Xx e 0 0 _ _ a (m+1) 0 0 0) 79 _)from(vf F b 6 _ _ _ x).R rfl))
  have bc:=zC (ba.obC (j:=7) (v:=.int .i64 l) W w p)
  first
   |(revert f;intro f;have X:=(show((F.setCell _ _).setCell _ _).heap[b]?=O (V6 (Xx 0 h j _ _ a _ l 0 0) 79 _)from(vf _ b 7 _ _ _ W).R rfl))
   |(have X:=(show((F.setCell _ _).setCell _ _).heap[b]?=O (V6 (Xx e 0 0 _ _ a _ l 0 0) 79 _)from(vf _ b 7 _ _ _ W).R rfl))
  have ai:=zC (bc.obC (j:=8) (v:=.int .i64 o) X w p)
  first
   |(revert f;intro f;have g:=zC (show(((F.setCell _ _).setCell _ _).setCell _ _).heap[b]?=O (V6 (Xx 0 h j _ _ a _ l o 0) 79 _)from(vf _ b 8 _ _ _ X).R rfl))
   |(have g:=zC (show(((F.setCell _ _).setCell _ _).setCell _ _).heap[b]?=O (V6 (Xx e 0 0 _ _ a _ l o 0) 79 _)from(vf _ b 8 _ _ _ X).R rfl))
  have K8:=((KT.U x).R (KT.U W)).R (KT.U (j:=8) (v:=.int .i64 o) X);have Z:=zC (qa5 (az.1.kt K8) (az.2.kt K8));clear U bk bl a1 a2 aw ba bc W X K8 br;go_upto_region 8 with fail;generalize VG _ _ _=G at*;obtain⟨ct,bn⟩:=ai.A.sm;have bd:=bn.blk.c.2.2.2.2.2.1;clear bn a5 a6 cb bs bt bu ah;cases hop:d.op
  ·rw[hop]at bd
   have aj:=zC hop;clear hop;have af:=c8 0 g;have bv:=c8 1 g;have bw:=c8 2 g;have bx:=c8 3 g;have bz:=c8 4 g;have ag:=c8 5 g;have b0:=c8 6 g;have b1:=c8 7 g;have b2:=c8 8 g;have b3:=c8 9 g;have RR:=zC ai.2.2
   first
    |(revert f;intro f;(have ak:=zC (show zCc c r k 0 h j R S d (V5 (.agg (Xx 0 h j _ _ a (m+1) l o 0))) (G.setRow _ (Xx 0 h j (VZ H I J) (VZ K M mk) a (m+1) l o 0))from⟨_,_,_,_,_,_,by rw[ar.A,s.A.1,s.A.2.1,s.A.2.2,aj.A];rfl,Z.1.kt (KT.setRow RR),Z.2.kt (KT.setRow RR),ai.1.row RR p⟩)))
    |((have ak:=zC (show zCc c r k e 0 0 [] [] d (V5 (.agg (Xx e 0 0 V0 V0 a (m+1) l o 0))) (G.setRow (N (Y c)+1) (Xx e 0 0 V0 V0 a (m+1) l o 0))from⟨_,_,_,_,_,_,by rw[ar.A,s.A.1,s.A.2.1,s.A.2.2,aj.A];rfl,Z.1.kt (KT.setRow RR),Z.2.kt (KT.setRow RR),ai.1.row RR p⟩)))
   go_wp2_with (refine sr8 RR ?_);exact T9 results33 RR rfl ak
  rw[hop]at bd;have aj:=zC hop;clear hop;have b4:=c8 9 g;have b5:=xW G b 9 _ _ g;have a0:=zC (ai.obC (j:=9) (v:=.int .i64 1) g w p)
  first
   |(revert f;intro f;have t:=zC (show(G.setCell _ _).heap[b]?=O (V6 (Xx 0 h j _ _ a _ l o 1) 79 _)from(vf G b 9 _ _ _ g).R rfl))
   |(have t:=zC (show(G.setCell _ _).heap[b]?=O (V6 (Xx e 0 0 _ _ a _ l o 1) 79 _)from(vf G b 9 _ _ _ g).R rfl))
  have av:=zC (qa5 (Z.1.kt (KT.U (j:=9) (v:=.int .i64 1) g)) (Z.2.kt (KT.U (j:=9) (v:=.int .i64 1) g)));go_upto_region 10 with fail;generalize VG G _ _=bf at*;clear b4 b5;have af:=c8 0 t;have bv:=c8 1 t;have bw:=c8 2 t;have bx:=c8 3 t;have bz:=c8 4 t;have ag:=c8 5 t;have b0:=c8 6 t;have b1:=c8 7 t;have b2:=c8 8 t;have b3:=c8 9 t;have RR:=zC a0.2.2
  first
   |(revert f;intro f;(have ak:=zC (show zCc c r k 0 h j R S d (V5 (.agg (Xx 0 h j _ _ a (m+1) l o 1))) (bf.setRow _ (Xx 0 h j (VZ H I J) (VZ K M mk) a (m+1) l o 1))from⟨_,_,_,_,_,_,by rw[ar.A,s.A.1,s.A.2.1,s.A.2.2,aj.A];rfl,av.1.kt (KT.setRow RR),av.2.kt (KT.setRow RR),a0.1.row RR p⟩)))
   |((have ak:=zC (show zCc c r k e 0 0 [] [] d (V5 (.agg (Xx e 0 0 V0 V0 a (m+1) l o 1))) (bf.setRow (N (Y c)+1) (Xx e 0 0 V0 V0 a (m+1) l o 1))from⟨_,_,_,_,_,_,by rw[ar.A,s.A.1,s.A.2.1,s.A.2.2,aj.A];rfl,av.1.kt (KT.setRow RR),av.2.kt (KT.setRow RR),a0.1.row RR p⟩)))
  go_wp2_with (refine sr8 RR ?_);exact T9 results33 RR rfl ak
def step7:=@zAr.1
def stepN7:=@zAr.2
end
end
structure Rs where
 ec:Int
 x1:Int
 x2:Int
 T:qa0
 ms:List Mk
 M:SS
def yc(a:Rs):Ob:=⟨a.ec,a.x1,a.x2,a.T,a.ms,L a.M.tx,brk a.M.tx+1,L a.M.un,L a.M.re,if a.M.op then 1 else 0⟩
def Mt(a:SS)(b:List Rs)(c:Nat):SS:=(a::b.map Rs.M).getD c a
def DO{M0 rs k r}(a:rs[k]?=O r):Mt M0 rs (k+1)=r.M:=by
 unfold Mt;rw[kJ,vv,vZ,a];rfl
def Ib{M0 rs qs k}(a:k<=L rs):Mt M0 (rs++qs) k=Mt M0 rs k:=by
 unfold Mt;rw[vv,vv,Qy,<- vH,vN VV]
section
variable {e:TypeId} {size:Nat} {w w':World} {lo hi hi':Nat} {vs:List Value} {cs:List (List Value)} {ns:List Nat}
def yI.keep(b:yI e size w lo hi vs cs ns)(l:∀c∈vs,∀a,VD c=O a->w'.heap[a]? =w.heap[a]?):yI e size w' lo hi vs cs ns:=
 ⟨b.len,b.len2,λf c g h d i j=>zD (b.own f c g h d i j) (λa k=>l c (vc d) a k),b.bl,b.ne⟩
def yI.ty(a:yI e size w lo hi vs cs ns){v}(c:v∈vs){q}(d:VD v=O q):∃cs b,w.heap[q]?=O (V6 cs e b):=by
 obtain⟨f,hi⟩:=kG.1 c;have g:=(xS.1 hi).1;have h:=a.len;have i:=a.len2;exact jg (a.own f v _ _ hi (xI VC) (xI VC)) d
def ZU.snoc{v' tv mv vts vms xs o}(c:yI 21 1 w lo hi vts (xs.map λa=>zQ .i32 a.t) (xs.map λa=>L a.t))(d:yI 168 3 w lo hi vms (xs.map λa=>z8 a.m) (xs.map λa=>L a.m))(h:w.ownsRow lo 79 10 v' (L xs+1) (jI vts vms xs++GV o tv mv))(ht:zH w lo tv o.t)(i:zW w lo mv o.m)
  (j:∀b,VD tv=O b->hi<=b/\b<hi') (k:∀b,VD mv=O b->hi<=b/\b<hi') (e:hi<=hi') (l:belO hi' v'):ZU w lo hi' v' (vts++ [tv]) (vms++ [mv]) (xs++ [o]):=by
 have f:L vts=L xs:=by rw[c.len,vW]
 have g:L vms=L xs:=by rw[d.len,vW]
 have m:=c.snoc ht j e;have n:=d.snoc i k e;refine⟨?_,l,?_,?_⟩
 ·rw[xL,Di f g];simpa[jI]using h
 ·simp_all
 simp_all
end
def Jl(b:Nat)(a:Int)(x:Ob):Ob:=if b=0 then {x with c:=a} else if b=1 then {x with x:=a} else if b=2 then {x with y:=a} else if b=5 then {x with l:=a} else if b=6 then {x with n:=a} else if b=7 then {x with u:=a} else if b=8 then {x with r:=a} else {x with o:=a}
def Km(j)(z)(x):(Jl j z x).t=x.t/\(Jl j z x).m=x.m:=by
 unfold Jl
 repeat' split
 all_goals simp
def U3:∀(vts vms)(xs)(i a)(x)(b),L vts=L xs->L vms=L xs->xs[i]?=O x->(a<10/\a≠3/\a≠4)->(jI vts vms xs).set (i*10+a) (qP b)=jI vts vms (xs.set i (Jl a b x))
 | [],_,[],i,a,x,b,_,_,l,_=>by simp at l
 | f::vts,g::vms,h::xs,0,a,x,b,c,d,e,j=>by
  simp at e;subst e;rw[Vn,jI,jI,QV,vg,List.set_append_left _ _ (by show a<10;omega)]
  congr 1
  have k:a=0\/a=1\/a=2\/a=5\/a=6\/a=7\/a=8\/a=9:=VC;obtain rfl|rfl|rfl|rfl|rfl|rfl|rfl|rfl:=k<;>rfl
 | f::vts,g::vms,h::xs,i+1,a,x,b,c,d,e,j=>by
  rw[Va,jI,jI,kE _ _ (by show 10<=_;omega),show(i+1)*10+a-L (GV h f g)=i*10+a by show _-10=_;omega,U3 vts vms xs i a x b (by simpa using c) (by simpa using d) (by simpa using e) j]
 | [],_,_::_,_,_,_,_,c,_,_,_=>by simp at c
 | _::_,_,[],_,_,_,_,c,_,_,_=>by simp at c
 | _::_,[],_::_,_,_,_,_,_,d,_,_=>by simp at d
def yO{α β:Type}{f:α->β}{a:List α}{i x y}(b:a[i]?=O x)(d:f y=f x):(a.set i y).map f=a.map f:=by
 apply QP;intro e;rw[vZ,vZ,QG]
 split
 ·rename_i c
  subst c;rw[xU (xS.1 b).1,b];simp[d]
 rfl
def Kx(e:Ki)(f g:V8):Prop:=∀(b)(c)(a)(d),f.heap[b]?=O (V6 c a d)->a≠79->a≠168->(a=21->∀v∈e,VD v≠O b)->g.heap[b]?=O (V6 c a d)
theorem Kx.refl(vts)(w):Kx vts w w:=λ_ _ _ _ a _ _ _=>a
theorem Kx.R{vts a b c}(l:Kx vts a b)(m:Kx vts b c):Kx vts a c:=λd e f g k h i j=>m d e f g (l d e f g k h i j) h i j
section
variable {w w':World} {lo hi g n i:Nat} {vts vms:List Value} {xs:List Ob} {x:Ob}
def ZU.num(b:ZU w lo hi (VZ (qQ g 0) n n) vts vms xs)(t:L xs=n)(e:xs[i]?=O x){j}(u:j<10/\j≠3/\j≠4)(z):ZU (w.setCell (V4 g (i*10+j)) (qP z)) lo hi (VZ (qQ g 0) n n) vts vms (xs.set i (Jl j z x))/\Kx vts w (w.setCell (V4 g (i*10+j)) (qP z)):=by
 have p:L vts=L xs:=by rw[b.nt.len,vW]
 have q:L vms=L xs:=by rw[b.nm.len,vW]
 have k:=b.row;rw[t]at k;obtain⟨B,C,D⟩:=jg k rfl;have hst:=(k.stored (i*10+j) (qP z)).1;rw[U3 vts vms xs i j x z p q e u]at hst
 have l:∀{a:Nat}{d:qa2}{h:TypeId}{f:Nat×Nat},w.heap[a]?=O (V6 d h f)->h≠79->(w.setCell _ (qP z)).heap[a]? =w.heap[a]?:=λ{a d h f}c ht=>xM _ (V4 g (i*10+j)) a _ (λv=>by
  simp_all)
 refine⟨⟨by simp_all,b.rb,?_,?_⟩,λa d h f c r y A=>(l c r).R c⟩
 ·rw[yO e (by rw[(Km j z x).1]),yO e (by rw[(Km j z x).1])]
  exact b.nt.keep (λs m a o=>by obtain⟨d,f,c⟩:=b.nt.ty m o;exact l c VS)
 rw[yO e (by rw[(Km j z x).2]),yO e (by rw[(Km j z x).2])];exact b.nm.keep (λs m a o=>by obtain⟨d,f,c⟩:=b.nm.ty m o;exact l c VS)
theorem yI.put{e size m vs cs ns v c c0}(a:yI e size w lo hi vs cs ns)(r:vs[i]?=O v)(t:cs[i]?=O c0)(u:ns[i]?=O m)(x:w'.ownsRow lo e size v m c)(s:w.grownBy w' (VD v)):yI e size w' lo hi vs (cs.set i c) ns:=by
 refine⟨by rw[QL];exact a.len,a.len2,λg h n o j b p=>?_,a.bl,a.ne⟩;rw[QG]at b
 split at b
 ·simp_all
 rename_i l;have f:=a.own g h n o j b p;exact zD f (λd k=>s.block d (f.lt d k).2 (λq=>a.ne i g v h d l r j q.J k))
def Xu:∀(vts vms)(xs)(i)(x b),xs[i]?=O x->(∀d e,GV b d e=GV x d e)->jI vts vms (xs.set i b)=jI vts vms xs
 | [],_,_,_,_,_,_,_=>by simp[jI]
 | _::_,[],_,_,_,_,_,_=>by simp[jI]
 | _::_,_::_,[],_,_,_,a,_=>by simp at a
 | f::vts,g::vms,h::xs,0,x,b,a,c=>by
  simp at a;subst a;rw[Vn,jI,jI,c]
 | f::vts,g::vms,h::xs,i+1,x,b,a,c=>by
  rw[Va,jI,jI,Xu vts vms xs i x b (by simpa using a) c]
def ZU.keepR(i:ZU w lo hi (VZ (qQ g 0) n n) vts vms xs){e v m size ys}(d:w.ownsRow lo e size v m ys)(h:w.grownBy w' (VD v)){q:Nat}{cs t f}(b:w.heap[q]?=O (V6 cs t f))(ht:t≠e):w'.heap[q]? =w.heap[q]?:=h.block q (xG.1 b).1 (λc=>by
 obtain⟨j,k,a⟩:=jg d c.J;rw[b]at a;simp at a
 exact ht a.2.1)
theorem ZU.txt {v} {zs} (a:ZU w lo hi (.slice (O ⟨g,0,none⟩) n n) vts vms xs) (b:xs[i]? =O x) (h:vts[i]? =O v) (r:L zs=L x.t) (s:w'.ownsRow lo 21 1 v (L x.t) (zQ .i32 zs)) (j:w.grownBy w' (VD v)):ZU w' lo hi (.slice (O ⟨g,0,none⟩) n n) vts vms (xs.set i {x with t:=zs})∧Kx vts w w':=by
 have k:=a.nt.own i v _ _ h (by rw [vZ,b];rfl) (by rw [vZ,b];rfl)
 have c:=fun {q cs t f}=>a.keepR (q:=q) (cs:=cs) (t:=t) (f:=f) k j
 refine⟨⟨?_,a.rb,?_,?_⟩,fun q cs t f e z A m=>?_⟩
 ·rw [QL,Xu vts vms xs i x {x with t:=zs} b (fun _ _=>rfl)]
  exact zD a.row (fun q d=>by obtain⟨cs,f,e⟩:=jg a.row d;exact c e (by decide))
 ·have l:=a.nt.put h (by rw [vZ,b];rfl) (by simp_all) s j
  rw [yO (f:=fun x:Ob=>L x.t) b r,List.map_set]
  exact l
 ·rw [yO (y:={x with t:=zs}) b rfl,yO (y:={x with t:=zs}) b rfl]
  exact a.nm.keep (fun u o q d=>by obtain⟨cs,f,e⟩:=a.nm.ty o d;exact c e (by decide))
 by_cases ht:t=21
 ·rw [j.block q (xG.1 e).1 (fun p=>m ht v (vc h) p.J)];exact e
 exact(c e ht).R e
theorem ZU.mks {v} {zs} (a:ZU w lo hi (.slice (O ⟨g,0,none⟩) n n) vts vms xs) (b:xs[i]? =O x) (j:vms[i]? =O v) (k:L zs=L x.m) (h:zW w' lo v zs) (l:w.grownBy w' (VD v)):ZU w' lo hi (.slice (O ⟨g,0,none⟩) n n) vts vms (xs.set i {x with m:=zs})∧Kx vts w w':=by
 have o:=a.nm.own i v _ _ j (by rw [vZ,b];rfl) (by rw [vZ,b];rfl)
 have c:=fun {q cs t f}=>a.keepR (q:=q) (cs:=cs) (t:=t) (f:=f) o l
 unfold zW at h;rw [k]at h
 refine⟨⟨?_,a.rb,?_,?_⟩,fun q cs t f e z r A=>(c e r).R e⟩
 ·rw [QL,Xu vts vms xs i x {x with m:=zs} b (fun _ _=>rfl)]
  exact zD a.row (fun q d=>by obtain⟨cs,f,e⟩:=jg a.row d;exact c e (by decide))
 ·rw [yO (y:={x with m:=zs}) b rfl,yO (y:={x with m:=zs}) b rfl]
  exact a.nt.keep (fun u s q d=>by obtain⟨cs,f,e⟩:=a.nt.ty s d;exact c e (by decide))
 have p:=a.nm.put j (by rw [vZ,b];rfl) (by simp_all) h l
 rw [yO (f:=fun x:Ob=>L x.m) b k,List.map_set]
 exact p
def ZU.cellAt(c:ZU w lo hi (VZ (qQ g 0) n n) vts vms xs)(d:L xs=n)(b:xs[i]?=O x){vt vm}(e:vts[i]?=O vt)(f:vms[i]?=O vm){j}(h:j<10){u}(k:(GV x vt vm)[j]?=O u):VE w (V4 g (i*10+j))=O u:=by
 have a:=c.row;rw[d]at a;have l:=(xS.1 b).1;rw[a.cellAt _ VC,Dh e f b h,k]
def ZU.fzAt(b:ZU w lo hi (VZ (qQ g 0) n n) vts vms xs)(c:L xs=n)(j):w.frozen? (V4 g j)=VP:=by
 have a:=b.row;rw[c]at a;exact a.frozenAt j
end
def mk1(b:Int)(a:Ob):Ob:=⟨b,b+1,b+1+1,marks .i32 (b+1+1+1) (L a.t),GU (b+1+1+1+L a.t) (L a.m),(b+1+1+1+L a.t+3*L a.m),(b+1+1+1+L a.t+3*L a.m)+1,(b+1+1+1+L a.t+3*L a.m)+1+1,(b+1+1+1+L a.t+3*L a.m)+1+1+1,(b+1+1+1+L a.t+3*L a.m)+1+1+1+1⟩
def Ta(a:Ob):Nat:=8+L a.t+3*L a.m
def yi:List Ob->Nat
 | []=>0
 | x::xs=>Ta x+yi xs
def Zy:Int->List Ob->List Ob
 | _,[]=>[]
 | a,x::xs=>mk1 a x::Zy (a+Ta x) xs
def Ye:∀(b:Int)(a:List Ob),L (Zy b a)=L a
 | _,[]=>rfl
 | b,x::a=>by simp[Zy,Ye]
def Ho:∀(b a),yi (b++a)=yi b+yi a
 | [],a=>by simp[yi]
 | x::b,a=>by rw[vH,yi,yi,Ho];omega
def Hp:∀(a)(b c),Zy a (b++c)=Zy a b++Zy (a+yi b) c
 | a,[],c=>by simp[Zy,yi]
 | a,x::b,c=>by
  rw[vH,Zy,Zy,Hp,vH,yi]
  congr 3
  push_cast;omega
def U4{k}{a:List Ob}{j x}(b:a[j]?=O x):Zy k (a.take (j+1))=Zy k (a.take j)++ [mk1 (k+yi (a.take j)) x]:=by
 rw[Js b,Hp];rfl
def U5{a:List Ob}{j x}(b:a[j]?=O x):yi (a.take (j+1))=yi (a.take j)+Ta x:=by
 rw[Js b,Ho];simp[yi]
def Li(xs)(j):yi (xs.take j)<=yi xs:=by
 conv=>rhs;rw[<- vK j xs,Ho]
 omega
def Kn:∀(xs),yi xs<=8*ZT xs
 | []=>by simp[yi]
 | x::xs=>by
  have:=Kn xs;unfold ZT zBm at*;simp[yi,Ta];omega
def zAs{k xs j x}(a:xs[j]?=O x):(Zy k xs)[j]?=O (mk1 (k+yi (xs.take j)) x):=by
 have b:=(xS.1 a).1
 conv=>lhs;rw[<- vK _ xs,Hp,U4 a]
 rw[vN (by simp[Ye];omega),xQ (by simp[Ye];omega)];simp[Ye,Qp (Qr b)]
def zAt{xs}{a:Nat}{x}(e:ZT xs<=1048576)(c:xs[a]?=O x):L x.t+L x.m<=1048576:=by
 have b:=JZ c;have d:=Pp xs (a+1);unfold zBm at b;omega
def MkP9(b:V8)(c g h d:Nat)(e i:Ki)(f:List Ob)(j:Ending)(a:V8):Prop:=j=V5 (qP (1+yi f))/\ZU a c g (VZ (qQ h 0) d d) e i (Zy 1 f)/\Kx e b a/\Below c b a
theorem zAu (lo hi g nn) (vts vms) (xs) (w) (C:ZU w lo hi (.slice (O ⟨g,0,none⟩) nn nn) vts vms xs) (b2:ZT xs<=1048576) (ad:L xs=nn):
  Calls prog 27 #[.slice (O ⟨g,0,none⟩) nn nn,.int .i64 1] w (MkP9 w lo hi g nn vts vms xs):=by
 have cx:nn<=1048576:=by unfold ZT at b2;omega
 have cy:=(C.row.lt g rfl).1
 have cz:lo<=N (Y w):=by have:=(C.row.lt g rfl).2;omega
 have ca:=zC C;have E:=zC ad;have cb:=Kn xs;have a6:=zC (Li xs)
 have cc:=zC (show L vts=nn by rw [C.nt.len,vW];exact ad)
 have cd:=zC (show L vms=nn by rw [C.nm.len,vW];exact ad)
 have ce:=zC (show yi xs<=8388608 by omega)
 clear C ad cb;go_enter func27,ntmps27;go_wp2_with fail
 go_loopw [1,5] (fun cr i wr=>∃j:Nat,j<=nn∧i= .int .i64 j∧cr= .int .i64 (1+(yi (xs.take j)))∧ZU wr lo hi (.slice (O ⟨g,0,none⟩) nn nn) vts vms (Zy 1 (xs.take j)++xs.drop j)∧Kx vts w wr∧Below lo w wr) (fun _ i _=>nn - (intOf i).toNat)
 case atStart=>exact⟨0,xY _,rfl,by simp [yi],by simpa [Zy]using ca.A,Kx.refl _ _,xF _ _⟩
 obtain⟨j,dk,rfl,rfl,z,b3,b4⟩:=hrel;have ag:=zC b4;have ah:=zC b3;have a7:=a6.A j;have c0:=ce.A
 by_cases aw:j<nn
 ·obtain⟨x,ae⟩:∃y,xs[j]? =O y:=⟨_,xI (by rw [E.A];exact aw)⟩
  obtain⟨cs,B⟩:∃y,vts[j]? =O y:=⟨_,xI (by rw [cc.A];exact aw)⟩
  obtain⟨ct,D⟩:∃y,vms[j]? =O y:=⟨_,xI (by rw [cd.A];exact aw)⟩
  have J:=U5 ae;have cf:=a6.A (j+1);have ai:=zC (U4 (k:=1) ae)
  have a8:xs.drop j=x::xs.drop (j+1):=by
   obtain⟨a,b⟩:=xS.1 ae;rw [<- b,<- ko a]
  have M:L (Zy 1 (xs.take j))=j:=by rw [Ye,xO,E.A];omega
  rw [a8]at z;obtain⟨T,b5⟩:∃T,yi (xs.take j)=T:=⟨_,rfl⟩;rw [b5]at a7 J ai |-;obtain⟨A,ay⟩:∃A,Zy 1 (xs.take j)=A:=⟨_,rfl⟩;obtain⟨R,af⟩:∃R,xs.drop (j+1)=R:=⟨_,rfl⟩;rw [ay,af]at z;rw [ay]at M ai
  have F:∀ (x y:Ob),(A++x::R).set j y=A++y::R:=fun x y=>by simp_all
  have n:∀ (x:Ob),(A++x::R)[j]? =O x:=fun x=>by simp_all
  have l:∀ (x:Ob),L (A++x::R)=nn:=fun x=>by rw [xL,vA,M,<- af,xZ,E.A];omega
  unfold Ta at J;obtain⟨K,az⟩:∃K:Int,K=1+T:=⟨_,rfl⟩;rw [<- az]
  have c1:0<=K∧K<=8388609:=by omega
  have a9:L x.t<=8388608∧L x.m<=1048576:=by have:=zAt b2 ae;omega
  have ba:=zC az;have aj:=zC J;have cg:=zC af;clear az J b5 ay;have M0:=zC z;have bc:=zC ah.A;have bd:=zC ag.A
  have bf:=M0.A.cellAt (l _) (n _) B D (show 0<10 by omega) rfl
  have bg:=M0.A.fzAt (l _) (j*10+0)
  have r:=M0.A.num (l _) (n _) (j:=0) (by omega) (K)
  rw [F]at r
  have ak:=zC (show ZU _ lo hi _ vts vms (A++{x with c:=K}::R)from r.1)
  have al:=zC (bc.A.R r.2)
  have am:=zC (bd.A.setCell (p:=⟨g,j*10+0,none⟩) (by omega) (.int .i64 (K)))
  have ch:=M0.A.cellAt (l _) (n _) B D (show 1<10 by omega) rfl
  have ci:=M0.A.fzAt (l _) (j*10+1)
  have s:=ak.A.num (l _) (n _) (j:=1) (by omega) (K+1)
  rw [F]at s
  have M2:=zC (show ZU _ lo hi _ vts vms (A++{x with c:=K,x:=K+1}::R)from s.1)
  have an:=zC (al.A.R s.2)
  have ao:=zC (am.A.setCell (p:=⟨g,j*10+1,none⟩) (by omega) (.int .i64 (K+1)))
  have cj:=M0.A.cellAt (l _) (n _) B D (show 2<10 by omega) rfl
  have ck:=M0.A.fzAt (l _) (j*10+2)
  have u:=M2.A.num (l _) (n _) (j:=2) (by omega) (K+1+1)
  rw [F]at u
  have G:=zC (show ZU _ lo hi _ vts vms (A++{x with c:=K,x:=K+1,y:=K+1+1}::R)from u.1)
  have d:=zC (an.A.R u.2)
  have P:=zC (ao.A.setCell (p:=⟨g,j*10+2,none⟩) (by omega) (.int .i64 (K+1+1)))
  simp at bf bg ak al am M2 an ao G d P;clear r s u M0 ak M2 bc al an bd am ao;have c2:=zC M;clear z ag ah M af
  go_upto_region 10 with fail
  generalize VG (VG (VG wr _ _) _ _) _ _=cq at*;clear bf ch cj bg ci ck
  have ap:=G.A.cellAt (l _) (n _) B D (show 3<10 by omega) rfl
  have Q:=G.A.nt.own j cs _ _ B (by rw [vZ,n];rfl) (by rw [vZ,n];rfl)
  obtain⟨at_,dl,cu⟩:=yL Q;subst cu
  have S:=zC (Rf _ _ lo _ (K+1+1+1) cq Q (by show L x.t<=_;omega) (by omega) (by omega))
  have U:=zC Q;have v:=zC B;have o:=zC D;have HG:=zC n;have HS:=zC F;have f:=zC l
  have EX:=zC (show ∀ (b1:Ob),b1.t=x.t->L b1.t=L x.t from fun _ e=>by rw [e])
  obtain⟨I,a0⟩:∃H,H=L x.t:=⟨_,rfl⟩;have aq:=zC a0;simp at S ap U v;rw [<- a0]at S ap U aj a9 v;clear Q B D n F l a0 a8;go_wp2_with fail;refine S.A.G ?_;rintro e b6 ⟨rfl,b7,a1⟩
  have TX:=G.A.txt (zs:=marks .i32 (K+1+1+1) I) (HG.A _) v.A (by rw [yp];exact aq.A) (by show b6.ownsRow lo 21 1 _ (L x.t) _;rw [<- aq.A];exact b7) a1
  rw [HS.A]at TX;have V:=zC TX.1;have bh:=zC (d.A.R TX.2)
  have ar:=zC (P.A.grown a1 (by have:=P.A.size;omega) (fun q ax=>(U.A.lt q ax).1))
  have au:=V.A.cellAt (f.A _) (HG.A _) v.A o.A (show 4<10 by omega) rfl
  have W:=V.A.nm.own j ct _ _ o.A (by rw [vZ,HG.A];rfl) (by rw [vZ,HG.A];rfl)
  obtain⟨dm,dn,cv⟩:=yL W;subst cv;have Z:=zC W
  have aa:=zC (Gh x.m _ lo (K+1+1+1+I) b6 (W) (by omega) (by omega) (by omega))
  obtain⟨b8,a2⟩:∃H,H=L x.m:=⟨_,rfl⟩;have bi:=zC a2;simp at au Z o aa;rw [<- a2]at aa au Z aj a9 o;clear b7 a1 TX G d P S ap U W a2;go_wp2_with fail;refine aa.A.G ?_;rintro e w3 ⟨rfl,b9,a3⟩
  have TX:=V.A.mks (HG.A _) o.A (by rw [jx];exact bi.A) b9 a3
  rw [HS.A]at TX;have h:=zC TX.1;have K5:=zC (bh.A.R TX.2)
  have bj:=zC (ar.A.grown a3 (by have:=ar.A.size;omega) (fun q ax=>(Z.A.lt q ax).1))
  obtain⟨d,a4⟩:∃H:Int,H=K+1+1+1+I+3*b8:=⟨_,rfl⟩;rw [<- a4]
  have c3:0<=d∧d<=100000000:=by omega
  have bk:=zC a4;clear b9 a3 TX V bh ar aa au Z a4 cf a7
  obtain⟨cw,a5⟩:∃X:Ob,X={x with c:=K,x:=K+1,y:=K+1+1,t:=marks .i32 (K+1+1+1) I,m:=GU (K+1+1+1+I) b8}:=⟨_,rfl⟩
  rw [<- a5]at h;have cl:=zC a5;clear a5
  have c4:=h.A.cellAt (f.A _) (HG.A _) v.A o.A (show 5<10 by omega) rfl
  have c5:=h.A.fzAt (f.A _) (j*10+5)
  have r:=h.A.num (f.A _) (HG.A _) (j:=5) (by omega) (d)
  rw [HS.A]at r;have bl:=zC r.1;have bn:=zC (K5.A.R r.2)
  have bp:=zC (bj.A.setCell (p:=⟨g,j*10+5,none⟩) (by omega) (.int .i64 (d)))
  have c6:=h.A.cellAt (f.A _) (HG.A _) v.A o.A (show 6<10 by omega) rfl
  have da:=h.A.fzAt (f.A _) (j*10+6)
  have s:=bl.A.num (f.A _) (HG.A _) (j:=6) (by omega) (d+1)
  rw [HS.A]at s;have bq:=zC s.1;have br:=zC (bn.A.R s.2)
  have bs:=zC (bp.A.setCell (p:=⟨g,j*10+6,none⟩) (by omega) (.int .i64 (d+1)))
  have db:=h.A.cellAt (f.A _) (HG.A _) v.A o.A (show 7<10 by omega) rfl
  have dc:=h.A.fzAt (f.A _) (j*10+7)
  have u:=bq.A.num (f.A _) (HG.A _) (j:=7) (by omega) (d+1+1)
  rw [HS.A]at u;have bt:=zC u.1;have K8:=zC (br.A.R u.2)
  have bu:=zC (bs.A.setCell (p:=⟨g,j*10+7,none⟩) (by omega) (.int .i64 (d+1+1)))
  have dd:=h.A.cellAt (f.A _) (HG.A _) v.A o.A (show 8<10 by omega) rfl
  have de:=h.A.fzAt (f.A _) (j*10+8)
  have ab:=bt.A.num (f.A _) (HG.A _) (j:=8) (by omega) (d+1+1+1)
  rw [HS.A]at ab;have bv:=zC ab.1;have bw:=zC (K8.A.R ab.2)
  have bx:=zC (bu.A.setCell (p:=⟨g,j*10+8,none⟩) (by omega) (.int .i64 (d+1+1+1)))
  have df:=h.A.cellAt (f.A _) (HG.A _) v.A o.A (show 9<10 by omega) rfl
  have dg:=h.A.fzAt (f.A _) (j*10+9)
  have ac:=bv.A.num (f.A _) (HG.A _) (j:=9) (by omega) (d+1+1+1+1)
  rw [HS.A]at ac;have cm:=zC ac.1;have cn:=zC (bw.A.R ac.2)
  have co:=zC (bx.A.setCell (p:=⟨g,j*10+9,none⟩) (by omega) (.int .i64 (d+1+1+1+1)))
  clear r s u ab ac bl bq bt bv bn br K8 bw bp bs bu bx;clear h K5 bj;go_wp2;go_roundw
  case rel=>
   refine⟨j+1,by omega,by go_num,?_,?_,cn.A,co.A⟩
   ·have bz:=aj.A
    have dh:=bk.A;have di:=ba.A
    congr 1
    omega
   rw [ai.A,cg.A,vB];have bz:=cm.A
   have cp:mk1 (1+(T:Int)) x=Jl 9 (d+1+1+1+1) (Jl 8 (d+1+1+1) (Jl 7 (d+1+1) (Jl 6 (d+1) (Jl 5 (d) cw)))):=by
    rw [<- ba.A,cl.A];unfold mk1;rw [<- aq.A,<- bi.A,bk.A];simp [Jl]
   show ZU _ _ _ _ _ _ (A++(mk1 (1+(T:Int)) x::R))
   rw [cp];exact bz
  simp [intOf];omega
 obtain rfl:j=nn:=by omega
 have dj:¬ (j:Int)<j:=by omega
 have av:xs.take j=xs:=vX (by rw [E.A];omega)
 have b0:xs.drop j= []:=Qb (by rw [E.A];omega)
 rw [av,b0,kW]at z;rw [av];have HM:=zC z;clear z b3 b4 av b0;go_wp2;go_ret;exact⟨rfl,HM.A,ah.A,ag.A⟩
def zAv(lo hi g nn)(vts vms)(xs)(w)(o:ZU w lo hi (VZ (qQ g 0) nn nn) vts vms (Zy 1 xs))(K:ZT xs<=1048576)(B:L xs=nn):
  Calls prog 29 #[VZ (qQ g 0) nn nn,qP 1] w λy ad=>y=V5 (qP (1+(yi xs)))/\ad=w:=by
 have ak:nn<=1048576:=by unfold ZT at K;omega
 have c:=zC o;have Q:=zC B;have R:=Kn xs;have E:=zC (Li xs);have d:=zC (show(L (Zy 1 xs))=nn by rw[Ye];exact B);have S:=zC (show L vts=nn by rw[o.nt.len,vW];exact d);have T:=zC (show L vms=nn by rw[o.nm.len,vW];exact d);have U:=zC (show yi xs<=8388608 by omega);have V:=zC (show xs.take nn=xs from vX VC);clear o B R;go_enter func29,ntmps29;go_wp2_with fail;go_loopw [1,5] (λae z wr=>∃a:Nat,a<=nn/\z=qP a/\ae=qP (1+(yi (xs.take a)))/\wr=w) (λ_ z _=>nn-(intOf z).toNat)
 case atStart=>exact⟨0,xY _,rfl,by simp[yi],rfl⟩
 obtain⟨a,aw,rfl,rfl,rfl⟩:=hrel;have W:=E a;have al:=U.A;by_cases x:a<nn
 ·obtain⟨i,p⟩:∃m,xs[a]?=O m:=⟨_,xI (by rw[Q.A];exact x)⟩
  obtain⟨ag,e⟩:∃m,vts[a]?=O m:=⟨_,xI (by rw[S.A];exact x)⟩
  obtain⟨ah,f⟩:∃m,vms[a]?=O m:=⟨_,xI (by rw[T.A];exact x)⟩
  have n:=U5 p;have am:=E (a+1);have b:=zAs (k:=1) p;have an:=zAt K p;obtain⟨A,M⟩:∃A,yi (xs.take a)=A:=⟨_,rfl⟩
  rw[M]at W n b |-;obtain⟨h,C⟩:∃h:Int,h=1+A:=⟨_,rfl⟩
  rw[<- C]at b |-;have j:=c.nt.own a ag _ _ e (by rw[vZ,b];rfl) (by rw[vZ,b];rfl);have l:=c.nm.own a ah _ _ f (by rw[vZ,b];rfl) (by rw[vZ,b];rfl);have q:=c.cellAt d b e f (show 0<10 by omega) rfl;have F:=c.cellAt d b e f (show 1<10 by omega) rfl;have G:=c.cellAt d b e f (show 2<10 by omega) rfl;have H:=c.cellAt d b e f (show 3<10 by omega) rfl;have I:=c.cellAt d b e f (show 4<10 by omega) rfl;have r:=c.cellAt d b e f (show 5<10 by omega) rfl;have s:=c.cellAt d b e f (show 6<10 by omega) rfl;have t:=c.cellAt d b e f (show 7<10 by omega) rfl;have u:=c.cellAt d b e f (show 8<10 by omega) rfl;have v:=c.cellAt d b e f (show 9<10 by omega) rfl;rw[QI]at q;obtain⟨at_,ax,ai⟩:=yL j;obtain⟨ay,az,aj⟩:=yL l;subst ai aj;unfold mk1 at q F G H I r s t u v j l;simp only[yp,jx]at q F G H I r s t u v j l;have HT:=zC (Rg _ (L i.t) (h+1+1+1) wr (Rd.qe j) VC VC VC);have HM:=zC (Gi _ _ (L i.m) (h+1+1+1+L i.t) wr (show zW wr lo _ (GU (h+1+1+1+L i.t) (L i.m))by unfold zW;rw[jx];exact l).rd VC VC VC);unfold Ta at n;generalize L i.t=J at*;generalize L i.m=ac at*;have X:=zC C;have Z:=zC n;have ao:0<=h/\h<=8388609:=VC;have aa:(a:Int)<nn:=VC;obtain⟨P,D⟩:∃af:Int,af=h+1+1+1+J+3*ac:=⟨_,rfl⟩
  rw[<- D]at r s t u v HM;have ab:=zC D;have ap:0<=P/\P<=100000000:=VC;clear p e f b j l C n M D;go_wp2_with fail;refine HT.G ?_;rintro y a0 ⟨rfl,rfl⟩;have aq:¬h+1+1+1+J<0:=VC;go_wp2_with fail;refine HM.G ?_;rintro y a1 ⟨rfl,rfl⟩;clear HT HM;go_wp2;go_roundw
  case rel=>
   refine⟨a+1,VC,VY,?_,xN⟩;have ar:=Z.A;have au:=ab.A;have av:=X.A
   congr 1
   omega
  simp[intOf];omega
 obtain rfl:a=nn:=VC
 have aa:¬ (a:Int)<a:=VC
 rw[V.A];go_wp2;go_ret;simp
