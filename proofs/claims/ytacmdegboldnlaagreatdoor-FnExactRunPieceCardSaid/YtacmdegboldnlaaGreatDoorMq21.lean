import Derived.Test.YtacmdegboldnlaaGreatDoorMq20
set_option linter.all false
set_option maxRecDepth 100000
set_option maxHeartbeats 8000000
namespace Go.Proofs.YtacmdegboldnlaaGreatDoor
open Go Go.RowKit Go.Proofs.Tryz
open _root_.Array renaming size→N
open Go renaming Calls→VM,maxLen→VL
open Go.RowKit renaming intOf→VN
open List renaming length→L
open Option renaming some→O
open _root_.Go.World renaming cell?→VE,heap→Y
def Xo(B0)(v)(X)(W)(d:ZX B0 W v X)(f:L X<=1048576){A B l r p e}(g:X=A++(AT.tN l p r).tT e++B)(h:AT.Fit A B e)(k)(i:L A+l.tI=k):
  VM prog 71 #[v,qP k] W λa b=>a=V5 (.tuple #[qP (L A),qP ((L A+(AT.tN l p r).tI:Nat))])/\∃c,b=W.drewN c:=by
 subst i;refine ID B0 v X W d f _ _ _ e ?_;rw[g];exact Hi.of h
def zA0(B0)(v)(X)(W)(f:ZX B0 W v X)(g:L X<=1048576)(h:∀x∈X,0<=x.lv/\x.lv<=1000000){A B l r p e}(b:X=A++(AT.tN l p r).tT e++B)(k)(i:L A+l.tI=k):
  VM prog 90 #[v,qP (L A),qP k] W λc d=>c=V5 (qP l.ht)/\d=W:=by
 subst i;have a:=DF B0 v X W f g h (L A) (L A+l.tI) VC (by rw[b];simp only[xL,AT.tQ,AT.tI];omega);rw[show Zx X _ _=l.tT _ by rw[b];exact Sz A B l r p e,Jj]at a;exact a
def zA1(B0)(v)(X)(W)(f:ZX B0 W v X)(g:L X<=1048576)(h:∀x∈X,0<=x.lv/\x.lv<=1000000){A B l r p e}(b:X=A++(AT.tN l p r).tT e++B)(k)(i:L A+l.tI=k):
  VM prog 90 #[v,qP (k+1),qP ((L A+(AT.tN l p r).tI:Nat))] W λc d=>c=V5 (qP r.ht)/\d=W:=by
 subst i;have a:=DF B0 v X W f g h (L A+l.tI+1) (L A+(AT.tN l p r).tI) (by simp only[AT.tI];omega) (by rw[b];simp only[xL,AT.tQ];omega);rw[show Zx X _ _=r.tT _ by rw[b];exact Mp A B l r p e,Jj]at a;exact a
def childT(B0)(v)(X)(W)(h:ZX B0 W v X)(i:L X<=1048576)(j:X≠ [])(d:Int)(b a:Nat)(k:d=b)(l:b<=a)(m:a<=L X):
  VM prog 68 #[v,qP d,qP a] W λe f=>∃c:Nat,e=V5 (qP c)/\Am X b a c/\∃g,f=W.drewN g:=by
 subst k;exact Sy B0 v X W h i j b a l m
def Mq(a:Option (Nat×Int)):Int:=match a with | none=> -1 | some (b,_)=>b
def BOK(d:List It)(e:Nat)(f:Option (Nat×Int)):Prop:=∀a b,f=O (a,b)->a<e/\∃c,d[a]?=O c/\c.lv=b
def Mr{a:List (Int×Int)}{k e d}(c:a[k]?=O (e,d)):AT.scan (a.take (k+1)) 0 none=(if 2<=d\/d<= -2 then AT.bst (AT.scan (a.take k) 0 none) k e else AT.scan (a.take k) 0 none):=by
 have b:k<L a:=by
  obtain f|f:=kC k (L a)
  ·exact f
  simp_all
 rw[List.take_succ_eq_append_getElem b,AT.scan_append];have g:=by rw[xI b]at c;exact kK c
 rw[g];simp only[AT.scan];rw[xO,vg,show min k _=k by omega]
def jD(b:AT)(f:b.tI<=100000):∀a∈b.tT 0,0<=a.lv/\a.lv<=1000000:=by
 intro a c;have d:=AT.told_lv b 0 a c;have e:=AT.ht_its b;omega
def zA2{X A B}{f S2:AT}{e}(c:X=A++f.tT e++B)(d:∀a∈X,0<=a.lv/\a.lv<=100000)(g:0<=e/\e<=200000)(h:S2.tI<=200000):∀a∈A++S2.tT e++B,0<=a.lv/\a.lv<=1000000:=by
 intro a b;rw[xV,xV]at b;obtain(b|b)|b:=b
 ·have:=d a (by rw[c];simp[b]);omega
 ·have:=AT.told_lv S2 e a b;have:=AT.ht_its S2;omega
 have:=d a (by rw[c];simp[b]);omega
def zA3(b:AT)(f:b.tI<=100000):∀a∈b.tT 0,0<=a.lv/\a.lv<=100000:=by
 intro a c;have d:=AT.told_lv b 0 a c;have e:=AT.ht_its b;omega
def yd(base g cap f)(U)(d4:f<=cap/\cap<=VL)(fl:f<=100000)(ab)(T)(w)(ey:T.tI=f)(d5:AT.Fx T ab U)(fm:ab<=2*f+2)(d6:zL w base (VZ (qQ g 0) f cap) (T.tT 0)):
  VM prog 67 #[VZ (qQ g 0) f cap] w λa c0=>a=V5 (.tuple #[])/\zL c0 base (VZ (qQ g 0) f cap) (U.tT 0)/\w.grownBy c0 (O g):=by
 have ei:=zC d6;have ej:=zC d5;have a6:=zC d4;unfold VL at d4;clear d6 d5;go_enter func67,ntmps67;go_wp2_with fail;go_loopw [2] (λc1 wr=>∃(s ca:Nat)(e:AT),c1=qP s/\s+ca<=2*f+2/\e.tI=f/\AT.Fx e ca U/\zL wr base (VZ (qQ g 0) f cap) (e.tT 0)/\w.grownBy wr (O g)) (λc1 _=>2*f+3-(VN c1).toNat)
 case atStart=>exact⟨0,ab,T,rfl,VC,ey,ej,ei,yW _ _⟩
 obtain⟨s,ca,e,rfl,fn,c5,d7,cc,d8⟩:=hrel;obtain⟨G,ez⟩:∃q,q=wr:=⟨_,rfl⟩
 subst ez;have cg:=zC d7;have bd:=zC d8;have dj:=zC cc;have A:=zC (show(L (e.tT 0))=f from by rw[AT.tQ];exact c5);have am:=zC (λj=>(zL.rd cc).heap (w':=G.drewN j) rfl);have bw:=zC (jD e VC);have bx:=zC (λn q(cb:(e.tT 0)[n]?=O q)=>zL.lv (by have i:=cc;unfold zL at i;rw[AT.tQ,c5]at i;exact i) cb);have ch:=zC (λn ak=>AT.at_idx e 0 n ak);have dk:=zC (show(L (e.dif 0))=f from by rw[AT.dif_length];exact c5);have an:=zC (fun(b k) (d s) c a j t W n ak=>Xo _ _ _ _ (am j) (by rw[A.A];omega) (A:=b) (B:=k) (l:=d) (r:=s) (p:=c) (e:=a) t W n ak);have ao:=zC (fun(b k) (d s) c a j t n ak=>zA0 _ _ _ _ (am j) (by rw[A.A];omega) bw (A:=b) (B:=k) (l:=d) (r:=s) (p:=c) (e:=a) t n ak);have ap:=zC (fun(b k) (d s) c a j t n ak=>zA1 _ _ _ _ (am j) (by rw[A.A];omega) bw (A:=b) (B:=k) (l:=d) (r:=s) (p:=c) (e:=a) t n ak);have e5:(s:Int)<=2*f+2:=VC
 clear d7 d8 cc;go_wp2_with fail;go_loopw [3,26] (λet c2 wr=>∃(n j:Nat)(af:Option _),n<=f/\c2=qP n/\af=AT.scan ((e.dif 0).take n) 0 none/\BOK (e.tT 0) n af/\et=qP (Mq af)/\wr=G.drewN j) (λ_ c2 _=>f-(VN c2).toNat)
 case atStart=>exact⟨0,0,none,xY _,rfl,rfl,(by intro K ab D;cases D),rfl,rfl⟩
 obtain⟨n,j,af,ak,rfl,Z,d9,rfl,rfl⟩:=hrel;have aq:=zC Z;have bz:=zC d9;clear Z d9;by_cases fi:n<f
 ·obtain⟨b,d,c,l,k,a,t,cd,ea,e0,W⟩:=ch.A n VC
  have ci:=AT.ht_its d;have cj:=AT.ht_its l;have e6:d.tI+1+l.tI<=f:=(by have i:=A.A;rw[t]at i;simp only[xL,AT.tQ,AT.tI]at i;omega);have a7:=zC (Mr ea)
  obtain⟨c6,da,ce⟩:=by
   have i:=(Hi.of (l:=d) (r:=l) (p:=c) W).mid;rw[<- t,cd]at i;exact i
  have dl:=zC da;have ck:=bx n c6 da;rw[ce]at ck;have ek:=zC ck;have bf:=zC (an b k d l c a j t W n cd);have b0:=zC (λj=>ao b k d l c a j t n cd);have bg:=zC (λj=>ap b k d l c a j t n cd);have e7:(n:Int)<f:=VC;generalize L b=ae at*;generalize (AT.tN d c l).tI=V at*;generalize ac:d.ht=ai at*;generalize ad:l.ht=aj at*;have dm:=ce;clear t ea W da ce ac ad ck;go_wp2_with fail;refine bf.G ?_;rintro u E ⟨rfl,eb,rfl⟩;rw[World.drewN_drewN];go_wp2_with fail;refine(b0 _).G ?_;rintro u E ⟨rfl,rfl⟩;go_wp2_with fail;refine(bg _).G ?_;rintro u E ⟨rfl,rfl⟩;by_cases p:2<=(ai:Int)-aj\/(ai:Int)-aj<= -2
  ·rw[xU p]at a7
   cases af with
   | none=>
    have ag:(Mq none)= -1:=rfl;rw[ag];have R:=zC (show AT.scan _ 0 none=O _ from by rw[a7.A,<- aq.A];rfl);have S:=zC (show BOK _ (n+1) (O (n,a))from λK ab D=>by cases D;exact⟨VC,c6,dl,dm⟩);obtain p|p:=p
    ·have a8:=p
     clear p;go_wp2;go_quiet (fail);go_wp2;go_roundw
     case rel=>exact⟨_,_,_,VC,VY,R.J,S,rfl,by first | rfl⟩
     simp[VN];omega
    have dn:¬2<=(ai:Int)-aj:=VC;have a8:=p;clear p;go_wp2;go_quiet (fail);go_wp2;go_roundw
    case rel=>exact⟨_,_,_,VC,VY,R.J,S,rfl,by first | rfl⟩
    simp[VN];omega
   | some e4=>
    obtain⟨K,cf⟩:=e4;obtain⟨fo,ec,db,ed⟩:=bz.A K cf rfl;have cl:=bx K ec db;rw[ed]at cl;have el:=zC cl;have em:=zC db;have ag:(Mq (O (K,cf)))=K:=rfl;rw[ag];have e8:(K:Int)<f:=VC;have e9:¬ (K:Int)<0:=VC;have fa:=el.A;have fc:=ek.A;clear db cl;by_cases d0:cf<a
    ·have R:=zC (show AT.scan _ 0 none=O _ from by rw[a7.A,<- aq.A];simp only[AT.bst];rw[xU d0])
     have S:=zC (show BOK _ (n+1) (O (n,a))from λK ab D=>by cases D;exact⟨VC,c6,dl,dm⟩);obtain p|p:=p
     ·have a8:=p
      clear p;go_wp2;go_quiet (fail);go_wp2;go_roundw
      case rel=>exact⟨_,_,_,VC,VY,R.J,S,rfl,by first | rfl⟩
      simp[VN];omega
     have dn:¬2<=(ai:Int)-aj:=VC;have a8:=p;clear p;go_wp2;go_quiet (fail);go_wp2;go_roundw
     case rel=>exact⟨_,_,_,VC,VY,R.J,S,rfl,by first | rfl⟩
     simp[VN];omega
    have R:=zC (show AT.scan _ 0 none=O _ from by rw[a7.A,<- aq.A];simp only[AT.bst];rw[xK d0]);have S:=zC (show BOK _ (n+1) (O (K,cf))from λfk ab D=>by cases D;exact⟨VC,ec,em,ed⟩);obtain p|p:=p
    ·have a8:=p
     clear p;go_wp2;go_quiet (fail);go_wp2;go_roundw
     case rel=>exact⟨_,_,_,VC,VY,R.J,S,rfl,by first | rfl⟩
     simp[VN];omega
    have dn:¬2<=(ai:Int)-aj:=VC;have a8:=p;clear p;go_wp2;go_quiet (fail);go_wp2;go_roundw
    case rel=>exact⟨_,_,_,VC,VY,R.J,S,rfl,by first | rfl⟩
    simp[VN];omega
  rw[xK p]at a7;have R:=zC (show AT.scan _ 0 none=af from by rw[a7.A,<- aq.A]);have S:=zC (show BOK (e.tT 0) (n+1) af from λK ab D=>by obtain⟨J,bn⟩:=bz.A K ab D;exact⟨VC,bn⟩);have a8:¬2<=(ai:Int)-aj:=VC;generalize bh:Mq af=fj;have en:=zC bh;clear bh;go_wp2;go_roundw
  case rel=>exact⟨_,_,af,VC,VY,R.J,S,by rw[en.A],rfl⟩
  simp[VN];omega
 obtain rfl:f=n:=VC
 have Z:=aq.A;rw[vX (by rw[dk.A];omega),AT.scan_tree]at Z;have fd:¬ (f:Int)<f:=VC
 by_cases a0:e.wd=0
 ·rw[xU a0]at Z
  subst Z
  have dp:U=e:=by
   cases cg.A with
   | stop _=>rfl
   | go D _=>exact absurd a0 D
  have ah:=zC (show zL (G.drewN j) base _ (U.tT 0)from(by rw[dp];exact zD dj (λ_ _=>rfl)));have eo:=zC (zJ bd (yS G j _));have ag:(Mq none)= -1:=rfl;rw[ag];clear dp a0 aq bz ch an ao ap am bw bx;go_wp2;refine vE (by simp[results]) rfl ⟨rfl,ah,eo⟩
 rw[xK a0]at Z;obtain⟨b,d,c,l,k,a,t,br,e1,e2,ee,dc,e0,W⟩:=AT.step_at e 0 a0;simp only[AT.bst,vg]at Z;subst Z
 obtain⟨a1,ef,eg⟩:∃a1,ca=a1+1/\AT.Fx e.step a1 U:=by
  cases cg.A with
  | stop D=>exact absurd D a0
  | go D bn=>simp_all
 have ag:∀q,(Mq (O (e.wi,q)))=e.wi:=λ_=>rfl
 rw[ag];have cm:=A.A;rw[t]at cm;simp only[xL,AT.tQ,AT.tI]at cm
 have dq:e.step.tI=f:=by
  have i:=AT.tQ e.step 0;rw[dc]at i;simp only[xL,AT.tQ,AT.rot_its,AT.tI]at i;omega
 have dr:e.tT 0≠ []:=by intro i;have ds:=A.A;rw[i]at ds;simp at ds;omega
 have cn:=zA3 e VC
 have bh:0<=a/\a<=100000:=by
  obtain⟨q,cb,ce⟩:=(Hi.of (l:=d) (r:=l) (p:=c) W).mid;rw[<- t]at cb;have:=cn q (kG.2 ⟨_,cb⟩);omega
 have b1:=zC dq;have b2:=zC dc;have b3:=zC eg;have dt:=zC cn;have bi:=zC (λj eu ev ew ex J bn=>childT _ _ _ _ (am j) (by rw[A.A];omega) dr eu ev ew ex J bn);have b4:=zC (λj=>show zL (G.drewN j) base (VZ (qQ g 0) f cap) (e.tT 0)from zD dj (λ_ _=>rfl));generalize e.wi=wi at*;have ci:=AT.ht_its d;have cj:=AT.ht_its l;clear a0 eg dq e1 e2 cn dr aq bz ch cg bx dk bw ag;have bf:=zC (an b k d l c a j t W wi br);have b0:=zC (λj=>ao b k d l c a j t wi br);have bg:=zC (λj=>ap b k d l c a j t wi br);have C:=zC t;have ah:=zC W;have fe:(wi:Int)<(f:Int):=VC
 have ff:¬ (wi:Int)<0:=VC
 obtain⟨V,dd⟩:∃V,V=(AT.tN d c l).tI:=⟨_,rfl⟩
 rw[<- dd]at bf bg;have du:V=d.tI+1+l.tI:=dd;have ep:=zC du;have dv:=zC br;have b5:wi+1<=L b+V:=VC
 have b6:L b+V<=f:=VC
 have co:L b<=wi:=VC
 have dw:wi=L b+d.tI:=VC
 have a9:=zC dw;have b7:=zC ef;clear t W dd du br dw cm dc ef;go_wp2_with fail;refine bf.G ?_;rintro u E ⟨rfl,eb,rfl⟩;rw[World.drewN_drewN];generalize j+eb=ba;go_wp2_with fail;refine(b0 ba).G ?_;rintro u E ⟨rfl,rfl⟩;go_wp2_with fail;refine(bg ba).G ?_;rintro u E ⟨rfl,rfl⟩;clear bf b0 bg;by_cases bp:l.ht<d.ht
 ·have bj:(l.ht:Int)<(d.ht:Int):=VC
  cases d with
  | nil=>simp[AT.ht]at bp
  | tN o h m=>
   have F:e.tT 0=b++(AT.tN o h m).tT (a+1)++(⟨c,a⟩::(l.tT (a+1)++k)):=C.R (JA _ _ _ _ _ _);have aa:AT.Fit b (⟨c,a⟩::(l.tT (a+1)++k)) (a+1):=ah.ofLeft
   have ar:Hi (e.tT 0) (L b) (L b+o.tI) wi (a+1):=by
    have i:=Hi.of (l:=o) (r:=m) (p:=h) aa;rw[<- F,dv.A]at i;exact i
   have au:=zC ar;have eq:=ar.ih;have av:=zC F;have cp:=zC aa;have H:=zC (λj=>an b _ o m h (a+1) j F aa (L b+o.tI) rfl);have M:=zC (λj=>ao b _ o m h (a+1) j F (L b+o.tI) rfl);have I:=zC (λj=>ap b _ o m h (a+1) j F (L b+o.tI) rfl);rw[dv.A]at H I;obtain⟨ae,a3⟩:∃ae,ae=L b:=⟨_,rfl⟩
   obtain⟨X,al⟩:∃X,X=L b+o.tI:=⟨_,rfl⟩
   rw[<- al]at H M I au eq;rw[<- a3]at H M au b5 b6 co;have cq:=zC al;obtain⟨ai,ac⟩:∃q,q=(AT.tN o h m).ht:=⟨_,rfl⟩
   rw[<- ac]at bj;simp only[<- a3,<- ac];obtain⟨aj,ad⟩:∃q,q=l.ht:=⟨_,rfl⟩
   rw[<- ad]at bj;simp only[<- ad];obtain⟨c3,de⟩:∃q,q=o.ht:=⟨_,rfl⟩
   rw[<- de]at M;have dx:=zC de;obtain⟨a2,a4⟩:∃q,q=m.ht:=⟨_,rfl⟩
   rw[<- a4]at I;have aw:=zC a4;have bk:=zC bp;clear F aa ar a3 al bp ci cj ee ac ad de a4;go_wp2_with fail;refine(bi ba _ (wi+1) (ae+V) VC b5 (by rw[A.A];exact b6)).G ?_;rintro u E ⟨fp,rfl,_,df,rfl⟩;rw[World.drewN_drewN];generalize ba+df=d1;go_wp2_with fail;refine(bi d1 _ ae wi rfl co (by rw[A.A];omega)).G ?_;rintro u E ⟨dg,rfl,bs,e3,rfl⟩;have cr:X=dg:=(Am.root au bs).J;subst cr;rw[World.drewN_drewN];generalize d1+e3=bq;clear bs;go_wp2_with fail;refine(H bq).G ?_;rintro u E ⟨rfl,dh,rfl⟩;rw[World.drewN_drewN];generalize bq+dh=B;go_wp2_with fail;refine(I B).G ?_;rintro u E ⟨rfl,rfl⟩;go_wp2_with fail;refine(M B).G ?_;rintro u E ⟨rfl,rfl⟩;clear H M I bi an ao ap am;by_cases es:c3<a2
   ·have cs:(c3:Int)<(a2:Int):=VC
    cases m with
    | nil=>have i:=aw.A;simp[AT.ht]at i;omega
    | tN v x y=>
     have bl:L (b++(AT.tN o h (.tN v x y)).tT (a+1)++(⟨c,a⟩::(l.tT (a+1)++k)))=f:=(by rw[<- av.A];exact A);have b8:=zC (IG base g cap f b _ o v y x h (a+1) (G.drewN B) bl (by rw[<- av.A];exact b4 B) a6 VC cp (by rw[<- av.A];exact jD e VC) X cq);have ct:=zC (zA2 (S2:=.tN (.tN (.tN o h v) x y) c l) C dt ⟨bh.1,VC⟩ (by have i:=A.A;rw[C.A]at i;simp only[xL,AT.tQ,AT.tI]at i |-;omega));have cu:=zC (show wi=L b+(AT.tN (.tN o h v) x y).tI from(by have i:=a9.A;simp only[AT.tI]at i |-;omega));have cv:=zC (show(L (b++(AT.tN (.tN (.tN o h v) x y) c l).tT a++k))=f from(by have i:=A.A;rw[C.A]at i;simp only[xL,AT.tQ,AT.tI]at i |-;omega))
     have ax:=zC (show b++(AT.tN (.tN o h v) x (.tN y c l)).tT a++k=e.step.tT 0 from(by
      rw[b2.A]
      have J:AT.rot (.tN o h (.tN v x y)) c l=AT.tN (.tN o h v) x (.tN y c l):=by
       unfold AT.rot;rw[xU bk.A,xU (by simp only[AT.lean];have:=dx.A;have:=aw.A;omega)];rfl
      rw[J]))
     clear bl;go_wp2_with fail;refine b8.G ?_;rintro u bt ⟨rfl,bu,bv⟩;have cw:=zC (show zL bt base (VZ (qQ g 0) f cap) (b++(AT.tN (.tN (.tN o h v) x y) c l).tT a++k)from(by rw[JA];exact bu));have cx:=zC (zJ (zJ bd (yS G B (O g))) bv);clear bu bv b8;go_wp2_with fail;refine(IF base g cap f b k (.tN o h v) y l x c a bt cv cw a6 VC ah ct wi cu).G ?_;rintro u a5 ⟨rfl,P,Q⟩;have ay:=zC (show zL a5 base (VZ (qQ g 0) f cap) (e.step.tT 0)from(by rw[<- ax.A];exact P));have az:=zC (zJ cx Q);clear P Q;go_wp2;go_roundw
     case rel=>exact⟨s+1,a1,e.step,VY,by have:=b7.A;omega,b1,b3,ay,az⟩
     simp[VN];omega
   have cs:¬ (c3:Int)<(a2:Int):=VC;have cu:=zC (show wi=L b+(AT.tN o h m).tI from a9)
   have ax:=zC (show b++(AT.tN o h (.tN m c l)).tT a++k=e.step.tT 0 from(by
    rw[b2.A]
    have J:AT.rot (.tN o h m) c l=AT.tN o h (.tN m c l):=by
     unfold AT.rot;rw[xU bk.A,xK (by simp only[AT.lean];have:=dx.A;have:=aw.A;omega)];rfl
    rw[J]))
   have b9:=zC (IF base g cap f b k o m l h c a (G.drewN B) (by rw[<- C.A];exact A) (by rw[<- C.A];exact b4 B) a6 VC ah (by rw[<- C.A];exact jD e VC) wi cu);go_wp2_with fail;refine b9.G ?_;rintro u a5 ⟨rfl,P,Q⟩;have ay:=zC (show zL a5 base (VZ (qQ g 0) f cap) (e.step.tT 0)from(by rw[<- ax.A];exact P));have az:=zC (zJ (zJ bd (yS G B (O g))) Q);clear P Q;go_wp2;go_roundw
   case rel=>exact⟨s+1,a1,e.step,VY,by have:=b7.A;omega,b1,b3,ay,az⟩
   simp[VN];omega
 have bj:¬ (l.ht:Int)<(d.ht:Int):=VC
 have dy:d.ht+2<=l.ht:=VC
 cases l with
 | nil=>simp[AT.ht]at dy
 | tN m h r=>
  obtain⟨z,bc⟩:∃z,z=b++d.tT (a+1)++ [⟨c,a⟩]:=⟨_,rfl⟩
  have F:e.tT 0=z++(AT.tN m h r).tT (a+1)++k:=(by rw[bc];exact C.R (ZO _ _ _ _ _ _));have aa:AT.Fit z k (a+1):=(by rw[bc];exact ah.ofRight);have cy:L z=wi+1:=(by rw[bc];simp only[xL,AT.tQ,vA,vS];have:=a9.A;omega);have cz:L z+(AT.tN m h r).tI=L b+V:=by have J:=ep.A;have bn:=a9.A;simp only[AT.tI]at J |-;omega
  have ar:Hi (e.tT 0) (wi+1) (L z+m.tI) (L b+V) (a+1):=by
   have i:=Hi.of (l:=m) (r:=r) (p:=h) aa;rw[<- F,cz,cy]at i;rw[cy];exact i
  have au:=zC ar;have av:=zC F;have cp:=zC aa;have H:=zC (λj=>an z _ m r h (a+1) j F aa (L z+m.tI) rfl);have M:=zC (λj=>ao z _ m r h (a+1) j F (L z+m.tI) rfl);have I:=zC (λj=>ap z _ m r h (a+1) j F (L z+m.tI) rfl);rw[cz]at H I;have fg:=zC (show b++(AT.tN d c (.tN m h r)).tT a++k=z++(AT.tN m h r).tT (a+1)++k from(by rw[bc];exact ZO _ _ _ _ _ _));have er:=zC (λd2=>show b++(AT.tN d c d2).tT a++k=z++d2.tT (a+1)++k from(by rw[bc];exact ZO _ _ _ _ _ _));obtain⟨ae,a3⟩:∃ae,ae=L b:=⟨_,rfl⟩
  obtain⟨d3,eh⟩:∃d3,d3=L z:=⟨_,rfl⟩
  obtain⟨X,al⟩:∃X,X=L z+m.tI:=⟨_,rfl⟩
  rw[<- al]at H M I au;rw[<- eh]at H M;rw[<- a3]at H I au b5 b6 co;have cq:=zC al;obtain⟨ai,ac⟩:∃q,q=d.ht:=⟨_,rfl⟩
  rw[<- ac]at bj;simp only[<- a3,<- ac];obtain⟨aj,ad⟩:∃q,q=(AT.tN m h r).ht:=⟨_,rfl⟩
  rw[<- ad]at bj;simp only[<- ad];obtain⟨a2,a4⟩:∃q,q=m.ht:=⟨_,rfl⟩
  rw[<- a4]at M;have aw:=zC a4;obtain⟨c4,di⟩:∃q,q=r.ht:=⟨_,rfl⟩
  rw[<- di]at I;have dz:=zC di;have bk:=zC bp;have fh:(X:Int)<(f:Int):=(by have i:=ar.ih;rw[<- al]at i;omega);clear F aa ar a3 eh al bp ci cj ee dy ac ad a4 di bc cy cz;go_wp2_with fail;refine(bi ba _ (wi+1) (ae+V) VC b5 (by rw[A.A];exact b6)).G ?_;rintro u E ⟨dg,rfl,bs,df,rfl⟩;have cr:X=dg:=(Am.root au bs).J;subst cr;rw[World.drewN_drewN];generalize ba+df=bq;clear bs;go_wp2_with fail;refine(H bq).G ?_;rintro u E ⟨rfl,dh,rfl⟩;rw[World.drewN_drewN];generalize bq+dh=B;go_wp2_with fail;refine(I B).G ?_;rintro u E ⟨rfl,rfl⟩;go_wp2_with fail;refine(M B).G ?_;rintro u E ⟨rfl,rfl⟩;clear H M I bi an ao ap am;by_cases es:c4<a2
  ·have cs:(c4:Int)<(a2:Int):=VC
   cases m with
   | nil=>have i:=aw.A;simp[AT.ht]at i;omega
   | tN v x y=>
    have bl:L (z++(AT.tN (.tN v x y) h r).tT (a+1)++k)=f:=(by rw[<- av.A];exact A);have b9:=zC (IF base g cap f z k v y r x h (a+1) (G.drewN B) bl (by rw[<- av.A];exact b4 B) a6 VC cp (by rw[<- av.A];exact jD e VC) X cq);have ct:=zC (zA2 (S2:=.tN d c (.tN v x (.tN y h r))) C dt ⟨bh.1,VC⟩ (by have i:=A.A;rw[C.A]at i;simp only[xL,AT.tQ,AT.tI]at i |-;omega));have cv:=zC (show(L (b++(AT.tN d c (.tN v x (.tN y h r))).tT a++k))=f from(by have i:=A.A;rw[C.A]at i;simp only[xL,AT.tQ,AT.tI]at i |-;omega))
    have ax:=zC (show b++(AT.tN (.tN d c v) x (.tN y h r)).tT a++k=e.step.tT 0 from(by
     rw[b2.A]
     have J:AT.rot d c (.tN (.tN v x y) h r)=AT.tN (.tN d c v) x (.tN y h r):=by
      unfold AT.rot;rw[xK bk.A,xU (by simp only[AT.lean];have:=dz.A;have:=aw.A;omega)];rfl
     rw[J]))
    clear bl;go_wp2_with fail;refine b9.G ?_;rintro u bt ⟨rfl,bu,bv⟩;have cw:=zC (show zL bt base (VZ (qQ g 0) f cap) (b++(AT.tN d c (.tN v x (.tN y h r))).tT a++k)from(by rw[er.A];exact bu));have cx:=zC (zJ (zJ bd (yS G B (O g))) bv);clear bu bv b9;go_wp2_with fail;refine(IG base g cap f b k d v (.tN y h r) x c a bt cv cw a6 VC ah ct wi a9).G ?_;rintro u a5 ⟨rfl,P,Q⟩;have ay:=zC (show zL a5 base (VZ (qQ g 0) f cap) (e.step.tT 0)from(by rw[<- ax.A];exact P));have az:=zC (zJ cx Q);clear P Q;go_wp2;go_roundw
    case rel=>exact⟨s+1,a1,e.step,VY,by have:=b7.A;omega,b1,b3,ay,az⟩
    simp[VN];omega
  have cs:¬ (c4:Int)<(a2:Int):=VC
  have ax:=zC (show b++(AT.tN (.tN d c m) h r).tT a++k=e.step.tT 0 from(by
   rw[b2.A]
   have J:AT.rot d c (.tN m h r)=AT.tN (.tN d c m) h r:=by
    unfold AT.rot;rw[xK bk.A,xK (by simp only[AT.lean];have:=dz.A;have:=aw.A;omega)];rfl
   rw[J]))
  have b8:=zC (IG base g cap f b k d m r h c a (G.drewN B) (by rw[<- C.A];exact A) (by rw[<- C.A];exact b4 B) a6 VC ah (by rw[<- C.A];exact jD e VC) wi a9);go_wp2_with fail;refine b8.G ?_;rintro u a5 ⟨rfl,P,Q⟩;have ay:=zC (show zL a5 base (VZ (qQ g 0) f cap) (e.step.tT 0)from(by rw[<- ax.A];exact P));have az:=zC (zJ (zJ bd (yS G B (O g))) Q);clear P Q;go_wp2;go_roundw
  case rel=>exact⟨s+1,a1,e.step,VY,by have:=b7.A;omega,b1,b3,ay,az⟩
  simp[VN];omega
def UW(b:List It)(g h s:Nat)(a:V8)(t:∀c d,(zG b)[c]?=O d->VE a (((V4 g h):Addr).add c)=O d)(B:g<N (Y a))(D:L b<=1048576):
  VM prog 34 #[VZ (qQ g h) (L b) s] a λy r=>∃e f,y=V5 (VZ (qQ e 0) (L b) f)/\zL r (N (Y a)) (VZ (qQ e 0) (L b) f) b/\qa3 a r:=by
 have l:=zC (show(a.alloc (V6 #[] 87)).ownsRow (N (Y a)) 87 4 (VZ (qQ (N (Y a)) 0) 0 0) 0 []from⟨rfl,.inr ⟨_,0,#[],rfl,lR,xJ _ _,lR,VW,rfl,rfl⟩⟩);have i:=zC ((xF (N (Y a)) a).alloc lR (V6 #[] 87))
 have RC:=zC (show ∀c d,(zG b)[c]?=O d->VE (a.alloc (V6 #[] 87)) (((V4 g h):Addr).add c)=O d from λc d z=>by
  have m:=t c d z;rw[zR]at m |-
  exact(i.U (p:=(V4 g (h+c))) B).R m)
 have C:=i.size;clear t;go_enter func34,ntmps34;go_wp2_with (at_builtin;refine a26 _ rfl _ _ rfl (N (Y a)) _ _ _ rfl (by exact l) (V4 g h) (L b) s (zG b) rfl (zK b) (by exact RC) (zg b) VW VC VC ?_;intro n x k o q;have u:=zC (i.R ((xF (N (Y a)) _).grown o VC (Ry l))));rw[vg,vL]at k;have j:zL x (N (Y a)) n b:=k
 obtain⟨e,f,rfl⟩:∃e f,n= .slice (qQ e 0) (L b) f:=by
  obtain⟨rfl,_⟩|⟨e,f,E,rfl,_⟩:=j.2
  ·exact absurd (q.1 rfl).1 (λA=>by have v:Value.slice (qQ (N (Y a)) 0) 0 0= .slice none 0 0:=A;cases v)
  exact⟨_,_,rfl⟩
 have w:=zC j;clear k o j q;go_wp2;go_ret;exact⟨e,f,rfl,w,u⟩
def Oz:∀(Y:List It)(a:Nat)(c:It)(b:Pc),Y[a]?=O c->(((zG Y).set (a*4) (qP b.off)).set (a*4+1) (qP b.len)).set (a*4+2) (qP b.brk)=zG (Y.set a ⟨b,c.lv⟩)
 | [],a,c,b,d=>by simp at d
 | e::Y,0,c,b,d=>by
  simp only[Qz,xP]at d;subst d;simp[zG,Jg]
 | e::Y,a+1,c,b,d=>by
  simp only[kV]at d;have f:=Oz Y a c b d;have g:zG (e::Y)=Jg e++zG Y:=(by simp[zG]);have h:zG ((e::Y).set (a+1) ⟨b,c.lv⟩)=Jg e++zG (Y.set a ⟨b,c.lv⟩):=(by simp[zG]);have i:L (Jg e)=4:=rfl;rw[g,h,<- f,kE _ _ VC,kE _ _ VC,kE _ _ VC,i,show(a+1)*4-4=a*4 by omega,show(a+1)*4+1-4=a*4+1 by omega,show(a+1)*4+2-4=a*4+2 by omega]
def zL.setPc{d:V8}{j c k e:Nat}{Y:List It}(l:d.ownsRow j 87 4 (VZ (qQ c 0) e k) e (zG Y)){a:Nat}{g:It}(m:Y[a]?=O g)(b:Pc):(((d.setCell (V4 c (a*4)) (qP b.off)).setCell (V4 c (a*4+1)) (qP b.len)).setCell (V4 c (a*4+2)) (qP b.brk)).ownsRow j 87 4 (VZ (qQ c 0) e k) e (zG (Y.set a ⟨b,g.lv⟩))/\d.grownBy (((d.setCell (V4 c (a*4)) (qP b.off)).setCell (V4 c (a*4+1)) (qP b.len)).setCell (V4 c (a*4+2)) (qP b.brk)) (O c):=by
 have h:=l.stored (a*4) (qP b.off);have i:=h.1.stored (a*4+1) (qP b.len);have f:=i.1.stored (a*4+2) (qP b.brk);rw[Oz Y a g b m]at f;exact⟨f.1,zJ (zJ h.2 i.2) f.2⟩
def zL.c3{f:V8}{p b q k:Nat}{Y:List It}(i:f.ownsRow p 87 4 (VZ (qQ b 0) k q) k (zG Y)){a:Nat}{c:It}(g:Y[a]?=O c):VE f (V4 b (a*4))=O (qP c.pc.off)/\VE f (V4 b (a*4+1))=O (qP c.pc.len)/\VE f (V4 b (a*4+2))=O (qP c.pc.brk):=by
 have j:a<L Y:=by
  obtain b|b:=kC a (L Y)
  ·exact b
  rw[vY b]at g;cases g
 have l:zG Y=zG (Y.take a)++Jg c++zG (Y.drop (a+1)):=by
  have m:Y=Y.take a++ [c]++Y.drop (a+1):=by
   have n:Y[a]=c:=(by rw[xI j]at g;exact kK g);rw[vB,Vs,<- n,<- ko j,vK]
  conv=>lhs;rw[m]
  rw[zd,zd];simp[zG]
 have o:L (zG (Y.take a))=a*4:=by rw[zK,xO];omega
 have r:L (Jg c)=4:=rfl
 have h:∀e<4,(zG Y)[a*4+e]? =(Jg c)[e]?:=by
  intro e s;rw[l,vB,xQ VC,o,show a*4+e-a*4=e by omega,vN VC]
 refine⟨?_,?_,?_⟩
 ·have d:=i.cells (g:=b) rfl (a*4+0) _ ((h 0 VC).R rfl)
  rw[zR,vg]at d;exact d
 ·have d:=i.cells (g:=b) rfl (a*4+1) _ ((h 1 VC).R rfl)
  rw[zR,vg]at d;exact d
 have d:=i.cells (g:=b) rfl (a*4+2) _ ((h 2 VC).R rfl);rw[zR,vg]at d;exact d
def Mu{X}(k){b}{d:V8}(e:∀a c,(zG X)[a]?=O c->VE d (((V4 b 0):Addr).add a)=O c):∀a c,(zG (X.take k))[a]?=O c->VE d (((V4 b 0):Addr).add a)=O c:=by
 grind [zG,zd,List.take_append_drop,List.getElem?_append_left,Nat.lt_or_ge]
def Mv{X}(k)(h:k<=L X){b}{d:V8}(i:∀a c,(zG X)[a]?=O c->VE d (((V4 b 0):Addr).add a)=O c):∀a c,(zG (X.drop k))[a]?=O c->VE d (((V4 b (k*4)):Addr).add a)=O c:=by
 intro a c g;have e:zG X=zG (X.take k)++zG (X.drop k):=by rw[<- zd,vK]
 have f:L (zG (X.take k))=k*4:=by rw[zK,xO];omega
 simp_all[xQ,zR,vg]
def LC(h:AT)(k)(a)(base b cap)(w)(ck:h.bal)(c6:h.tI<=8192)(cl:k<=h.tI)(bn:zL w base (VZ (qQ b 0) h.tI cap) (h.tT 0)):
  VM prog 39 #[VZ (qQ b 0) h.tI cap,qP k,JP a] w λaj ci=>∃cj,aj=V5 cj/\zL ci (N (Y w)) cj ((h.ins k a).tT 0)/\qa3 w ci:=by
 obtain⟨ak,al,am,an,ao⟩:=kB Tryz.qu;have ar:=AT.tQ h 0
 obtain⟨da,cv⟩:h.tI<=cap/\cap<=VL:=by
  obtain⟨l,_⟩|⟨H,b2,ax,l,_,_,I,ap,_⟩:=bn.2
  ·cases l
  rw[ar]at l I;cases l;exact⟨I,ap⟩
 have cw:=(bn.lt b rfl).2;have bj:=zC ((xF _ w).alloc lR (V6 #[qP a.off,qP a.len,qP a.brk] 85));have bp:=zC (show(w.alloc (V6 #[qP a.off,qP a.len,qP a.brk] 85)).heap[N (Y w)]?=O _ from xJ _ _);have bq:zL _ base _ _:=zE bn bj lR;have RC:=zC (λg j q=>(show zL _ base _ _ from(by rw[ar];exact bq)).cells g j q);have LV:=zC (λg Q(W:(h.tT 0)[g]?=O Q)=>zL.lv (by have c:=bq;unfold zL at c;rw[ar]at c;exact c) W);have cq:=zC (jD h VC);have br:=zC (λg(q:g<h.tI)=>(show ∃Q,(h.tT 0)[g]?=O Q from⟨_,xI VC⟩));have ay:=zC (show AT.insLv 0 (h.tT 0) k=AT.nb _ _ from rfl);have b3:=zC (show h.tI<=k->(h.tT 0)[k]?=none from λc5=>vY VC);have bs:=zC (AT.ins_fx h k a ck);have bt:=zC (AT.insR_told h 0 k a cl);have B:=zC (show(AT.insR h k a).tI=h.tI+1 from(by have c:=AT.tQ (AT.insR h k a) 0;rw[AT.insR_told h 0 k a cl]at c;simp only[xL,vA,xO,xZ,ar]at c;omega));have b4:=AT.ht_its h;generalize AT.insR h k a=aw at*;generalize AT.ins h k a=b1 at*;have bu:=zC b4;generalize cu:h.tT 0=i at*;generalize h.ht=th at*;generalize h.tI=m at*;have az:=zC (show(L (i.take k))=k from(by rw[xO];omega));have a0:=zC (show(L (i.drop k))=m-k from(by rw[xZ];omega));have ae:=zC (UW _ b 0 cap _ (Mu k RC) VV (by rw[az.A];omega));rw[az.A]at ae;have au:=zC (Mv k VC RC);have bv:N (Y w)<N (Y (w.alloc (V6 #[qP a.off,qP a.len,qP a.brk] 85))):=VT
 have cx:(k:Int)<=cap:=VC
 have av:b<N (Y (w.alloc (V6 #[qP a.off,qP a.len,qP a.brk] 85))):=VC
 have cy:=zC ar;unfold VL at cv;unfold JP;clear ck bn bq cu b4 ar;generalize AT.insLv 0 i k=ba at*;have BX:=zC (λg Q W=>cq Q (kG.2 ⟨g,W⟩));by_cases ct:k=0
 ·subst ct
  have b5:=zC (rfl:0=0)
  focus
   by_cases b0:0<m;have C:=zC xN;rotate_left;rotate_left
   all_goals
    first
     |(revert C;intro C;obtain⟨aq,S⟩:=br.A 0 b0;have b6:=LV 0 aq S;rw[QV,vg]at b6;have cr:=BX 0 aq S;have bk:=zC S;generalize a9:aq.lv=A at*;have bl:=zC a9;(have bw:(0:Int)<m:=by omega);(have gl:0<A+1:=by omega);clear S a9)
     |((have bw:¬ (0:Int)<m:=by omega))
    skip
    first
     |(revert C;intro C;(have af:=zC (show ba=A+1 from(by rw[ay.A];rw[xU b5.A,bk.A,AT.nb_none,AT.nb_some,bl.A];omega))))
     |((have af:=zC (show ba=0 from(by rw[ay.A];rw[xU b5.A,b3.A VC];rfl))))
    go_enter func39,ntmps39;go_wp2_with fail;generalize w.alloc _=r at*;refine ae.G ?_;rintro aj e ⟨H,b2,rfl,Z,o⟩;have ag:=o.size;have a1:=zC (bj.R (o.G VC));have s:=(o.block _ bv).R bp;have b7:VE e (V4 (N (Y w)) 0)=O (qP a.off):=(by rw[xH e _ 0 _ _ _ s];rfl);have b8:VE e (V4 (N (Y w)) 1)=O (qP a.len):=(by rw[xH e _ 1 _ _ _ s];rfl);have b9:VE e (V4 (N (Y w)) 2)=O (qP a.brk):=(by rw[xH e _ 2 _ _ _ s];rfl);have v:=zC ((by have c:=Z;unfold zL at c;rw[az.A]at c;exact c));have T:=zC (λg j q=>(show VE e (((V4 b _):Addr).add g)=O j from(by have c:=au g j q;rw[zR]at c |-;exact(o.U av).R c)))
    first
     |(revert C;intro C;have D:=zC (za e 87 [qP a.off,qP a.len,qP a.brk,qP (A+1)]))
     |(have D:=zC (za e 87 [qP a.off,qP a.len,qP a.brk,qP (0)]))
    clear Z o s ae au
    first
     |(revert C;intro C;(go_wp2_with (at_builtin;refine xX _ rfl _ _ 26 rfl _ 87 ak _ 4 32 underlying26 al am an ao rfl VS _ (0) _ rfl (by exact vV v _) _ 1 1 _ rfl rfl (by exact D) (by intro j u;simp at u;obtain rfl|rfl|rfl|rfl:=u<;>rfl) VW VC VV ?_;intro ai J y z _;refine Qq ?_)))
     |((go_wp2_with (at_builtin;refine xX _ rfl _ _ 26 rfl _ 87 ak _ 4 32 underlying26 al am an ao rfl VS _ (0) _ rfl (by exact vV v _) _ 1 1 _ rfl rfl (by exact D) (by intro j u;simp at u;obtain rfl|rfl|rfl|rfl:=u<;>rfl) VW VC VV ?_;intro ai J y z _;refine Qq ?_)))
    refine Lib.hid ?_
    first
     |(revert C;intro C;have x:=zC ((xF _ e).alloc ag (V6 #[qP a.off,qP a.len,qP a.brk,qP (A+1)] 87)))
     |(have x:=zC ((xF _ e).alloc ag (V6 #[qP a.off,qP a.len,qP a.brk,qP (0)] 87)))
    have a2:=zC (a1.R ((x.grown z VV (λa f=>(v.lt a f).1)).G VC));have U:=zC (x.grown z VV (λa f=>(v.lt a f).1));have ca:=U.size;have a3:=zC (λg j q=>(show VE J (((V4 b _):Addr).add g)=O j from(by have c:=T g j q;rw[zR]at c |-;exact(U.U av).R c)))
    obtain⟨cm,cn,rfl⟩:∃H X,ai= .slice (qQ H 0) (0+1) X:=by
     obtain⟨_,aa⟩|⟨H,X,ax,l,_⟩:=y.2
     ·omega
     exact⟨_,_,l⟩
    have K:=zC y;clear y z D T x;go_wp2_with (at_builtin;refine xX _ rfl _ _ 26 rfl _ 87 ak _ 4 32 underlying26 al am an ao rfl VS _ _ _ rfl (by exact K) _ (m) _ _ rfl (by rw[zK,a0.A,Nat.sub_zero]) (by exact a3) (zg _) VW VC VC ?_;intro M E P F _;refine Qq ?_);refine Lib.hid ?_;have a4:=zC (a2.R (((xF _ J).grown F VC (λa f=>(K.lt a f).1)).G VC));have cb:=F.size
    have t:zL E (N (Y r)) M (aw.tT 0):=by
     have c:=P;rw[show 0+1+(m)=m+1 by omega]at c;unfold zL;rw[AT.tQ,B.A,bt.A,af.A]
     first
      |(revert C;intro C;(have ah:zG (i.take (0)++⟨a,A+1⟩::i.drop (0))=zG (i.take (0))++ [qP a.off,qP a.len,qP a.brk,qP (A+1)]++zG (i.drop (0)):=by simp[zG,Jg]))
      |((have ah:zG (i.take (0)++⟨a,0⟩::i.drop (0))=zG (i.take (0))++ [qP a.off,qP a.len,qP a.brk,qP (0)]++zG (i.drop (0)):=by simp[zG,Jg]))
     rw[ah];exact c
    obtain⟨bc,bd,bf⟩:∃R n,M= .slice _ _ n/\m+1<=n/\n<=VL:=by
     obtain⟨_,aa⟩|⟨R,n,ax,l,_,_,I,ap,_⟩:=t.2
     ·rw[AT.tQ,B.A]at aa;omega
     rw[AT.tQ,B.A]at l I;exact⟨R,n,l,I,ap⟩
    obtain⟨rfl,bg,bh⟩:=bf;obtain⟨bi,co,ab⟩:=bs.A;have a5:=zC (yd _ bc bd _ b1 ⟨bg,bh⟩ VC bi aw E B ab (by have:=bu.A;omega) t);have a6:=zC (λa f=>(t.lt a f).1);clear P F t ab;go_wp2_with fail;refine a5.G ?_;rintro aj cp ⟨rfl,ac,ad⟩;have a7:=zC (a4.R (((xF (N (Y r)) E).grown ad VC (λa f=>by have l:=a6 a (by simpa[Value.ownBlock]using f);omega)).G VC));have a8:=zC (zF ac (show N (Y w)<=N (Y r) by omega));clear ac ad;go_wp2;go_ret;exact⟨_,rfl,a8,a7⟩
 obtain⟨d,rfl⟩:∃d,k=d+1:=⟨k-1,VC⟩
 obtain⟨Q,W⟩:=br.A d VC;have cz:=LV d Q W;have c0:=BX d Q W;have bx:=zC W;generalize ch:Q.lv=G at*;have bz:=zC ch;have c1:(0:Int)<d+1:=VC
 have c2:(d:Int)<m:=VC
 have c3:0<G+1:=VC
 have c4:(d:Int)+1<=cap:=VC
 clear W ch;by_cases b0:d+1<m
 ·obtain⟨aq,S⟩:=br _ b0
  have b6:=LV _ aq S;have cr:=BX _ aq S;have bk:=zC S;generalize a9:aq.lv=A at*;have bl:=zC a9;have bw:(d:Int)+1<m:=VC;clear S a9
  focus
   by_cases cf:G+1<A+1;have V:=zC xN;rotate_left;have cc:=zC xN;rotate_left
   all_goals
    first
     |(revert cc;intro cc;have cs:=cf;(have af:=zC (show ba=G+1 from(by rw[ay.A];rw[xK VC,bk.A,Qw,bx.A,AT.nb_some,AT.nb_some,bz.A,bl.A];omega))))
     |(have cs:=cf;(have af:=zC (show ba=A+1 from(by rw[ay.A];rw[xK VC,bk.A,Qw,bx.A,AT.nb_some,AT.nb_some,bz.A,bl.A];omega))))
    go_enter func39,ntmps39;go_wp2_with fail;generalize w.alloc _=r at*;refine ae.G ?_;rintro aj e ⟨H,b2,rfl,Z,o⟩;have ag:=o.size;have a1:=zC (bj.R (o.G VC));have s:=(o.block _ bv).R bp;have b7:VE e (V4 (N (Y w)) 0)=O (qP a.off):=(by rw[xH e _ 0 _ _ _ s];rfl);have b8:VE e (V4 (N (Y w)) 1)=O (qP a.len):=(by rw[xH e _ 1 _ _ _ s];rfl);have b9:VE e (V4 (N (Y w)) 2)=O (qP a.brk):=(by rw[xH e _ 2 _ _ _ s];rfl);have v:=zC ((by have c:=Z;unfold zL at c;rw[az.A]at c;exact c));have T:=zC (λg j q=>(show VE e (((V4 b _):Addr).add g)=O j from(by have c:=au g j q;rw[zR]at c |-;exact(o.U av).R c)))
    first
     |(revert V;intro V;have D:=zC (za e 87 [qP a.off,qP a.len,qP a.brk,qP (A+1)]))
     |(have D:=zC (za e 87 [qP a.off,qP a.len,qP a.brk,qP (G+1)]))
    clear Z o s ae au
    first
     |(revert V;intro V;(go_wp2_with (at_builtin;refine xX _ rfl _ _ 26 rfl _ 87 ak _ 4 32 underlying26 al am an ao rfl VS _ _ _ rfl (by exact vV v _) _ 1 1 _ rfl rfl (by exact D) (by intro j u;simp at u;obtain rfl|rfl|rfl|rfl:=u<;>rfl) VW VC VV ?_;intro ai J y z _;refine Qq ?_)))
     |((go_wp2_with (at_builtin;refine xX _ rfl _ _ 26 rfl _ 87 ak _ 4 32 underlying26 al am an ao rfl VS _ _ _ rfl (by exact vV v _) _ 1 1 _ rfl rfl (by exact D) (by intro j u;simp at u;obtain rfl|rfl|rfl|rfl:=u<;>rfl) VW VC VV ?_;intro ai J y z _;refine Qq ?_)))
    refine Lib.hid ?_
    first
     |(revert V;intro V;have x:=zC ((xF _ e).alloc ag (V6 #[qP a.off,qP a.len,qP a.brk,qP (A+1)] 87)))
     |(have x:=zC ((xF _ e).alloc ag (V6 #[qP a.off,qP a.len,qP a.brk,qP (G+1)] 87)))
    have a2:=zC (a1.R ((x.grown z VV (λa f=>(v.lt a f).1)).G VC));have U:=zC (x.grown z VV (λa f=>(v.lt a f).1));have ca:=U.size;have a3:=zC (λg j q=>(show VE J (((V4 b _):Addr).add g)=O j from(by have c:=T g j q;rw[zR]at c |-;exact(U.U av).R c)))
    obtain⟨cm,cn,rfl⟩:∃H X,ai= .slice (qQ H 0) (d+1+1) X:=by
     obtain⟨_,aa⟩|⟨H,X,ax,l,_⟩:=y.2
     ·omega
     exact⟨_,_,l⟩
    have K:=zC y;clear y z D T x;by_cases cg:cap=d+1
    ·exfalso;omega
    go_wp2_with (at_builtin;refine xX _ rfl _ _ 26 rfl _ 87 ak _ 4 32 underlying26 al am an ao rfl VS _ _ _ rfl (by exact K) _ _ _ _ rfl (by rw[zK,a0.A]) (by exact a3) (zg _) VW VC VC ?_;intro M E P F _;refine Qq ?_);refine Lib.hid ?_;have a4:=zC (a2.R (((xF _ J).grown F VC (λa f=>(K.lt a f).1)).G VC));have cb:=F.size
    have t:zL E (N (Y r)) M (aw.tT 0):=by
     have c:=P;rw[show d+1+1+(m-(d+1))=m+1 by omega]at c;unfold zL;rw[AT.tQ,B.A,bt.A,af.A]
     first
      |(revert V;intro V;(have ah:zG (i.take (d+1)++⟨a,A+1⟩::i.drop (d+1))=zG (i.take (d+1))++ [qP a.off,qP a.len,qP a.brk,qP (A+1)]++zG (i.drop (d+1)):=by simp[zG,Jg]))
      |((have ah:zG (i.take (d+1)++⟨a,G+1⟩::i.drop (d+1))=zG (i.take (d+1))++ [qP a.off,qP a.len,qP a.brk,qP (G+1)]++zG (i.drop (d+1)):=by simp[zG,Jg]))
     rw[ah];exact c
    obtain⟨bc,bd,bf⟩:∃R n,M= .slice _ _ n/\m+1<=n/\n<=VL:=by
     obtain⟨_,aa⟩|⟨R,n,ax,l,_,_,I,ap,_⟩:=t.2
     ·rw[AT.tQ,B.A]at aa;omega
     rw[AT.tQ,B.A]at l I;exact⟨R,n,l,I,ap⟩
    obtain⟨rfl,bg,bh⟩:=bf;obtain⟨bi,co,ab⟩:=bs.A;have a5:=zC (yd _ bc bd _ b1 ⟨bg,bh⟩ VC bi aw E B ab (by have:=bu.A;omega) t);have a6:=zC (λa f=>(t.lt a f).1);clear P F t ab;go_wp2_with fail;refine a5.G ?_;rintro aj cp ⟨rfl,ac,ad⟩;have a7:=zC (a4.R (((xF (N (Y r)) E).grown ad VC (λa f=>by have l:=a6 a (by simpa[Value.ownBlock]using f);omega)).G VC));have a8:=zC (zF ac (show N (Y w)<=N (Y r) by omega));clear ac ad;go_wp2;go_ret;exact⟨_,rfl,a8,a7⟩
 have bw:¬ (d:Int)+1<m:=VC
 skip;have af:=zC (show ba=G+1 from(by rw[ay.A];rw[xK VC,b3.A VC,Qw,bx.A,AT.nb_some,AT.nb_none,bz.A];omega));go_enter func39,ntmps39;go_wp2_with fail;generalize w.alloc _=r at*;refine ae.G ?_;rintro aj e ⟨H,b2,rfl,Z,o⟩;have ag:=o.size;have a1:=zC (bj.R (o.G VC));have s:=(o.block _ bv).R bp;have b7:VE e (V4 (N (Y w)) 0)=O (qP a.off):=by rw[xH e _ 0 _ _ _ s];rfl
 have b8:VE e (V4 (N (Y w)) 1)=O (qP a.len):=by rw[xH e _ 1 _ _ _ s];rfl
 have b9:VE e (V4 (N (Y w)) 2)=O (qP a.brk):=by rw[xH e _ 2 _ _ _ s];rfl
 have v:=zC ((by have c:=Z;unfold zL at c;rw[az.A]at c;exact c));have T:=zC (λg j q=>(show VE e (((V4 b _):Addr).add g)=O j from(by have c:=au g j q;rw[zR]at c |-;exact(o.U av).R c)));have D:=zC (za e 87 [qP a.off,qP a.len,qP a.brk,qP (G+1)]);clear Z o s ae au;go_wp2_with (at_builtin;refine xX _ rfl _ _ 26 rfl _ 87 ak _ 4 32 underlying26 al am an ao rfl VS _ _ _ rfl (by exact vV v _) _ 1 1 _ rfl rfl (by exact D) (by intro j u;simp at u;obtain rfl|rfl|rfl|rfl:=u<;>rfl) VW VC VV ?_;intro ai J y z _;refine Qq ?_);refine Lib.hid ?_;have x:=zC ((xF _ e).alloc ag (V6 #[qP a.off,qP a.len,qP a.brk,qP (G+1)] 87));have a2:=zC (a1.R ((x.grown z VV (λa f=>(v.lt a f).1)).G VC));have U:=zC (x.grown z VV (λa f=>(v.lt a f).1));have ca:=U.size;have a3:=zC (λg j q=>(show VE J ((⟨b,(d+1)*4,none⟩:Addr).add g)=O j from(by have c:=T g j q;rw[zR]at c |-;exact(U.U (p:=⟨b,(d+1)*4+g,none⟩) av).R c)))
 obtain⟨cm,cn,rfl⟩:∃H X,ai= .slice (qQ H 0) (d+1+1) X:=by
  obtain⟨_,aa⟩|⟨H,X,ax,l,_⟩:=y.2
  ·omega
  exact⟨_,_,l⟩
 have K:=zC y;clear y z D T x
 focus
  by_cases cg:cap=d+1;have cd:=zC xN;rotate_left;have ce:=zC xN;rotate_left
  all_goals
   first
    |(revert cd;intro cd;subst cg;(go_wp2_with (at_builtin;refine a26 _ rfl _ _ rfl (N (Y r)) _ (d+1+1) _ rfl (by exact K) (V4 b 0) (0) (0) (zG (i.drop (d+1))) rfl (by rw[zK,a0.A];omega) (by have c:i.drop (d+1)= []:=xR (by rw[a0.A];omega);rw[c];intro g j q;simp[zG]at q) (zg _) VW VC VC ?_;intro M E P F _;refine Qq ?_)))
    |((go_wp2_with (at_builtin;refine a26 _ rfl _ _ rfl (N (Y r)) _ (d+1+1) _ rfl (by exact K) ⟨b,(d+1)*4,none⟩ (m-(d+1)) (cap-(d+1)) (zG (i.drop (d+1))) rfl (by rw[zK,a0.A]) (by exact a3) (zg _) VW VC VC ?_;intro M E P F _;refine Qq ?_)))
   refine Lib.hid ?_;have a4:=zC (a2.R (((xF (N (Y r)) J).grown F VC (λa f=>(K.lt a f).1)).G VC));have cb:=F.size
   have t:zL E (N (Y r)) M (aw.tT 0):=by
    have c:=P
    first
     |(revert ce;intro ce;(rw[show d+1+1+(m-(d+1))=m+1 by omega]at c))
     |((rw[show d+1+1+(0)=m+1 by omega]at c))
    unfold zL;rw[AT.tQ,B.A,bt.A,af.A];have ah:zG (i.take (d+1)++⟨a,G+1⟩::i.drop (d+1))=zG (i.take (d+1))++ [qP a.off,qP a.len,qP a.brk,qP (G+1)]++zG (i.drop (d+1)):=(by simp[zG,Jg]);rw[ah];exact c
   obtain⟨bc,bd,bf⟩:∃R n,M= .slice (qQ R 0) (m+1) n/\m+1<=n/\n<=VL:=by
    obtain⟨_,aa⟩|⟨R,n,ax,l,_,_,I,ap,_⟩:=t.2
    ·rw[AT.tQ,B.A]at aa;omega
    rw[AT.tQ,B.A]at l I;exact⟨R,n,l,I,ap⟩
   obtain⟨rfl,bg,bh⟩:=bf;obtain⟨bi,co,ab⟩:=bs;have a5:=zC (yd (N (Y r)) bc bd (m+1) b1 ⟨bg,bh⟩ VC bi aw E B ab (by have:=bu.A;omega) t);have a6:=zC (λa f=>(t.lt a f).1);clear P F t ab;go_wp2_with fail;refine a5.G ?_;rintro aj cp ⟨rfl,ac,ad⟩;have a7:=zC (a4.R (((xF (N (Y r)) E).grown ad VC (λa f=>by have l:=a6 a (by simpa[Value.ownBlock]using f);omega)).G VC));have a8:=zC (zF ac (show N (Y w)<=N (Y r) by omega));clear ac ad;go_wp2;go_ret;exact⟨_,rfl,a8,a7⟩
def ZX.takeX{B w b off cap n xs}(f:ZX B w (VZ (qQ b off) n cap) xs)(m:L xs=n)(j)(o:j<=n):ZX B w (VZ (qQ b off) j cap) (xs.take j):=by
 by_cases c:j=0
 ·subst c;exact .inl ⟨_,_,rfl,rfl⟩
 obtain⟨p,q,r,g,h,i,k⟩:=f.at (by grind)
 cases g;have a:L (xs.take j)=j:=by rw[xO];omega
 refine .inr ⟨_,_,_,by rw[a],⟨VC,VC,h.2.2⟩,i,λd e l=>k d e ?_⟩
 grind
def ZP{a:AT}(b:a.ok):Pcs (a.tT 0):=λc d=>b.1 _ (by grind [AT.qh])
theorem zA4{w base v}{a:AT}(d:zL w base v (a.tT 0))(e:0<a.tI):∃b c,v= .slice (qQ b 0) a.tI c/\zL w base (VZ (qQ b 0) a.tI c) (a.tT 0):=by
 obtain⟨_,f⟩|⟨b,c,rfl,_⟩:=d.shape
 ·grind [AT.tQ]
 grind [AT.tQ]
def cutS0(n ct bt c)(sv)(off)(w)(l:c<=n)(m:n<=ct)(g:ct<=VL)
  (h:Hid (VM prog 35 #[VZ (qQ bt 0) n ct,qP off] w λa b=>a=V5 (qP c)/\b=w))
  (i:Hid (VM prog 36 #[VZ (qQ bt 0) c ct] w λa b=>a=V5 (qP off)/\qa3 w b)):
  VM prog 38 #[sv,VZ (qQ bt 0) n ct,qP off] w λa b=>a=V5 (VZ (qQ bt 0) n ct)/\qa3 w b:=by
 unfold VL at g;have k:(c:Int)<=ct:=VC
 go_enter func38,ntmps38;go_wp2_with fail;refine h.G ?_;rintro a o ⟨rfl,j⟩;have e:=j.J;subst e;go_wp2_with fail;refine i.G ?_;rintro a p ⟨rfl,d⟩;have f:=zC d;clear d;go_wp2;go_ret;exact⟨rfl,f⟩
def cutS1(S)(c M:AT)(a:It)(b o cap base bt ct d)(off en)(w)(P:∀l<L S,VE w (V4 b (o+l))=O (.int .i32 (S.getD l 0)))(aj:b<N (Y w))(ak:L S<=cap)(al:cap<=VL)(bx:L S<=220000)
  (A:zL w base (VZ (qQ bt 0) c.tI ct) (c.tT 0)) (a9:c.tI<=8192) (am:c.bal) (bz:base<=N (Y w)) (Q:(c.tT 0)[d]?=O a) (b0:d<c.tI)
  (ba:0<=a.pc.off) (b1:a.pc.off+a.pc.len<=L S) (b2:1<=a.pc.len) (b3:a.pc.len<=8192) (b4:0<=off) (t:off<en) (R:en<=8192) (an:1<=a.pc.len-(en-off))
  (ao:(c.put d (zY S a.pc.off (a.pc.len-(en-off)))).ins (d+1) (zY S (a.pc.off+a.pc.len-(en-off)) (en-off))=M)
  (ap:Hid (VM prog 35 #[VZ (qQ bt 0) c.tI ct,qP off] w λg i=>g=V5 (qP (d+1))/\i=w))
  (aq:Hid (VM prog 36 #[VZ (qQ bt 0) (d+1) ct] w λg i=>g=V5 (qP en)/\qa3 w i)):
  VM prog 38 #[VZ (qQ b o) (L S) cap,VZ (qQ bt 0) c.tI ct,qP off] w λg i=>∃p,g=V5 p/\zL i (N (Y w)) p (M.tT 0)/\qa3 w i:=by
 have r:=AT.tQ c 0
 obtain⟨b5,bd⟩:c.tI<=ct/\ct<=VL:=by
  obtain⟨t,_⟩|⟨e,m,b6,t,_,_,R,an,_⟩:=A.2
  ·cases t
  rw[r]at t R;cases t;exact⟨R,an⟩
 have bi:=(A.lt bt rfl).2;have C:=zC (λf k=>UW (c.tT 0) bt 0 ct f (λa5 a6 a7=>(show zL f base (VZ (qQ bt 0) (L (c.tT 0)) ct) (c.tT 0)from(by rw[r];exact zE A k lR)).cells a5 a6 a7) (by have:=k.size;omega) VC);rw[r]at C;have aa:=zC (λf(k:qa3 w f)=>ZB S b o cap a.pc.off (a.pc.len-(en-off)) f (λl K=>(k.U aj).R (P l K)) (by have:=k.size;omega) ba VC VC ak al VC);have ab:=zC (λf(k:qa3 w f)=>ZB S b o cap (a.pc.off+a.pc.len-(en-off)) (en-off) f (λl K=>(k.U aj).R (P l K)) (by have:=k.size;omega) VC VC VC ak al VC)
 have v:=zC (λe m f(bc:zL f (N (Y w)) (VZ (qQ e 0) c.tI m) ((c.put d (zY S a.pc.off (a.pc.len-(en-off)))).tT 0))=>(show VM prog 39 #[VZ (qQ e 0) c.tI m,qP (d+1),JP (zY S (a.pc.off+a.pc.len-(en-off)) (en-off))] f λg i=>∃p,g=V5 p/\zL i (N (Y f)) p (M.tT 0)/\qa3 f i from(by
  have j:=LC (c.put d (zY S a.pc.off (a.pc.len-(en-off)))) (d+1) (zY S (a.pc.off+a.pc.len-(en-off)) (en-off)) (N (Y w)) e m f (AT.qi _ _ _ am) (by rw[AT.qf];exact a9) (by rw[AT.qf];omega) (by rw[AT.qf];exact bc);rw[AT.qf,ao]at j
  exact j)))
 have ac:=zC (AT.qy c d (zY S a.pc.off (a.pc.len-(en-off))) 0 a Q);have ad:=zC (show(L ((c.put d (zY S a.pc.off (a.pc.len-(en-off)))).tT 0))=c.tI by rw[AT.tQ,AT.qf]);have D:=zC Q;have av:=zC r;unfold JP at v;unfold zY at v ac ad;simp only at v;generalize brk (List.take (a.pc.len-(en-off)).toNat (List.drop a.pc.off.toNat S))=y at*;generalize brk (List.take (en-off).toNat (List.drop (a.pc.off+a.pc.len-(en-off)).toNat S))=bu at*;generalize c.put d ⟨a.pc.off,a.pc.len-(en-off),y⟩=ai at*;clear ao am Q r A P;generalize c.tT 0=bv at*;generalize c.tI=J at*;have bj:¬en=off:=VC
 have bk:(d:Int)+1<=ct:=VC
 have bl:(d:Int)<J:=VC
 unfold VL at bd;go_enter func38,ntmps38;go_wp2_with fail;refine ap.G ?_;rintro g b7 ⟨rfl,bf⟩;have aw:=bf.J;subst aw;go_wp2_with fail;refine aq.G ?_;rintro g bg ⟨rfl,T⟩;have ae:=zC T;have af:=T.size;clear T ap aq;go_wp2_with fail;refine(C _ ae).G ?_;rintro g h ⟨e,m,rfl,U,V⟩;have bn:=U.lt e rfl;have bp:=V.size
 have E:=by
  have j:=U;unfold zL at j;rw[av.A]at j;exact j
 obtain⟨W,X,Z⟩:=zL.c3 E D;have F:=zC ((ae.R (V.G af)).alloc VC (V6 #[qP a.pc.off,qP a.pc.len,qP a.pc.brk] 85));have ag:=zC (vV E (V6 #[qP a.pc.off,qP a.pc.len,qP a.pc.brk] 85));have x:=zC (show(h.alloc (V6 #[qP a.pc.off,qP a.pc.len,qP a.pc.brk] 85)).heap[N (Y h)]?=O (V6 #[qP a.pc.off,qP a.pc.len,qP a.pc.brk] 85 (0,0))from xJ _ _);have ax:N (Y h)<N (Y (h.alloc (V6 #[qP a.pc.off,qP a.pc.len,qP a.pc.brk] 85))):=VT
 clear V U E C;go_upto_region 7 with fail;generalize h.alloc (V6 #[qP a.pc.off,qP a.pc.len,qP a.pc.brk] 85)=z at*;have G:VE z (V4 (N (Y h)) 0)=O (qP a.pc.off):=by rw[xH z _ 0 _ _ _ x.A];rfl
 have H:VE z (V4 (N (Y h)) 1)=O (qP a.pc.len):=by rw[xH z _ 1 _ _ _ x.A];rfl
 clear W X Z;go_wp2_with fail;refine(aa _ F).G ?_;rintro g q ⟨rfl,u⟩;have bq:=u.size;have n:=zE ag u lR;have hst:=zL.setPc n D ⟨a.pc.off,a.pc.len-(en-off),y⟩;rw[<- ac.A]at hst;have ay:=zC hst;have az:q.frozen? (V4 e (d*4))=false:=n.frozenAt _;have a0:q.frozen? (V4 e (d*4+1))=false:=n.frozenAt _;have a1:q.frozen? (V4 e (d*4+2))=false:=n.frozenAt _;obtain⟨W,X,Z⟩:=zL.c3 n D;have ah:=zC ((F.R (u.G VC)).grown hst.2 VC (λbw a8=>by cases a8;omega));have K5:=zC ((hst.2.block (N (Y h)) VC (by intro j;cases j;omega)).R ((u.block (N (Y h)) ax).R x));have br:N (Y q)<=N (Y (((q.setCell (V4 e (d*4)) (qP a.pc.off)).setCell (V4 e (d*4+1)) (qP (a.pc.len-(en-off)))).setCell (V4 e (d*4+2)) (qP y))):=hst.2.size;clear u n hst G H aa F ag x;go_upto_region 9 with fail;generalize ((q.setCell (V4 e (d*4)) (qP a.pc.off)).setCell (V4 e (d*4+1)) (qP (a.pc.len-(en-off)))).setCell (V4 e (d*4+2)) (qP y)=s at*;clear W X Z az a0 a1;have G:VE s (V4 (N (Y h)) 0)=O (qP a.pc.off):=by rw[xH s _ 0 _ _ _ K5.A];rfl
 have H:VE s (V4 (N (Y h)) 1)=O (qP a.pc.len):=by rw[xH s _ 1 _ _ _ K5.A];rfl
 go_wp2_with fail;refine(ab _ ah).G ?_;rintro g bh ⟨rfl,B⟩;have bs:=B.size;have I:=zC (ah.R (B.G VC));have a2:=zC (show zL bh (N (Y w)) (VZ (qQ e 0) J m) (ai.tT 0)from zF (zE (show zL s (N (Y bg)) (VZ (qQ e 0) J m) (ai.tT 0)from(by unfold zL;rw[ad.A];exact ay.1)) B lR) af);clear B G H ab;go_wp2_with fail;refine(v _ _ _ a2).G ?_;rintro g b8 ⟨p,rfl,ar,au⟩;have a3:=zC (zL.base ar I.size);have a4:=zC (I.R (au.G I.size));clear ar au;go_wp2;go_ret;exact⟨_,rfl,a3,a4⟩
def cutS(S)(T)(off)(b o cap base bt ct)(w)(U:∀m<L S,VE w (V4 b (o+m))=O (.int .i32 (S.getD m 0)))(V:b<N (Y w))(W:L S<=cap)(X:cap<=VL)(Z:L S<=220000)(a:T.ok)(aa:T.bal)(ab:T.wp S)(r:0<=off)(f:off<=T.rns)(s:zL w base (VZ (qQ bt 0) T.tI ct) (T.tT 0))(ac:base<=N (Y w)):
  VM prog 38 #[VZ (qQ b o) (L S) cap,VZ (qQ bt 0) T.tI ct,qP off] w λP z=>∃n j,P=V5 (VZ (qQ n 0) (zb S T off).tI j)/\zL z base (VZ (qQ n 0) (zb S T off).tI j) ((zb S T off).tT 0)/\qa3 w z:=by
 have C:=AT.tQ T 0;have ah:=a.bd
 obtain⟨ad,ae⟩:T.tI<=ct/\ct<=VL:=by
  obtain⟨f,_⟩|⟨n,al,am,f,_,_,an,ao,_⟩:=s.2
  ·cases f
  grind
 have t:=zL.rd s;have d:=Fk _ _ _ off w t VC (ZP a);have D:=UI a r f;rw[<- D]at d;obtain⟨A,B,j⟩:=Y9 a r f;have u:=λQ R=>Sc _ _ _ w (t.takeX C Q R) lR (by grind) (λp q=>ZP a p (kH q))
 by_cases c:jR T off=0
 ·have k:zN T off=j7 T off:=by rw[zN,xU c];omega
  rw[k]at d;have e:=u _ A;rw[ZA,B,c,Int.sub_zero]at e;rw[zb,xU c];refine(cutS0 _ ct bt _ _ off w A ad ae (zC d) (zC e)).G ?_
  grind [zL.I]
 obtain⟨ap,aq,g⟩:=j.resolve_left c;have v:j7 T off<T.tI:=by rw[<- AT.qd];exact(zm g).2
 have k:zN T off=j7 T off+1:=by rw[zN,xK c]
 rw[k]at d;have e:=u (j7 T off+1) v;have E:=a.1 _ (vc g);have i:=(ze S T).1 ab _ (vc g);simp only[jU,vn]at E;have ai:=i.2.2.1
 have F:total ((T.tT 0).take (j7 T off+1))=off-jR T off+(jp T off).len:=by
  rw[ZA];have G:=(zm g).1
  conv=>lhs;rw[G]
  rw[Y8 _ _ _ _ (by grind),zZ,zT,Y7,B];omega
 rw[F]at e;obtain⟨h,af,ag⟩:=Oj g
 have H:off-jR T off+(jp T off).len<=8192:=by
  have I:=(ZP a).total (j7 T off+1);have x:=a.2;rw[<- AT.rns_told T 0]at x
  have J:total (T.tT 0)=total ((T.tT 0).take (j7 T off+1))+total ((T.tT 0).drop (j7 T off+1)):=by
   rw[<- ji,vK]
  have aj:0<=total ((T.tT 0).drop (j7 T off+1)):=by
   rw[Yl]
   have K:∀l∈((T.tT 0).drop (j7 T off+1)).map It.pc,1<=l.len:=by
    intro l i;obtain⟨p,q,rfl⟩:=Vf.1 i;exact KV a p (Qc q)
   generalize ((T.tT 0).drop (j7 T off+1)).map It.pc=y at K;clear I J x
   induction y with
   | nil=>simp[zz]
   | cons l y ar=>rw[zT];grind
  omega
 have M:(T.put (j7 T off) (zY S h.pc.off (h.pc.len-(off-jR T off+(jp T off).len-off)))).ins (j7 T off+1) (zY S (h.pc.off+h.pc.len-(off-jR T off+(jp T off).len-off)) (off-jR T off+(jp T off).len-off))=zb S T off:=by
  rw[zb,xK c,ag,show(jp T off).len-(off-jR T off+(jp T off).len-off)=jR T off by omega,show(jp T off).off+(jp T off).len-(off-jR T off+(jp T off).len-off)=(jp T off).off+jR T off by omega,show off-jR T off+(jp T off).len-off=(jp T off).len-jR T off by omega]
 have ak:=i.1;refine(cutS1 S T _ h b o cap base bt ct _ off _ w U V W X Z s VC aa ac af v (by simp_all) (by simp_all) (by simp_all) (by simp_all) r VC H (by grind) M (zC d) (zC e)).G ?_
 grind [zA4,AT.qd,jP,zL.base]
def copyS0(a:V8):VM prog 34 #[V0] a λg c=>∃d e,g=V5 (VZ (qQ d 0) 0 e)/\zL c (N (Y a)) (VZ (qQ d 0) 0 e) []/\qa3 a c:=by
 obtain⟨h,i,j,k,l⟩:=kB Tryz.qu;have b:=zC (show(a.alloc (V6 #[] 87)).ownsRow (N (Y a)) 87 4 (VZ (qQ (N (Y a)) 0) 0 0) 0 []from⟨rfl,.inr ⟨_,0,#[],rfl,lR,xJ _ _,lR,VW,rfl,rfl⟩⟩);have f:=zC ((xF (N (Y a)) a).alloc lR (V6 #[] 87));go_enter func34,ntmps34;go_wp2_with (at_builtin;refine wpList_append_own_none rfl _ _ 26 rfl (N (Y a)) 87 h 4 underlying26 i _ _ _ rfl b rfl ?_);go_ret;exact⟨_,_,rfl,b,f⟩
def zC9(a:List It)(f:Jo)(l:Nat)(b:V8)(g:zL b l f a)(m:L a<=1048576):
  VM prog 34 #[f] b λh d=>∃c e,h=V5 (VZ (qQ c 0) (L a) e)/\zL d (N (Y b)) (VZ (qQ c 0) (L a) e) a/\qa3 b d:=by
 obtain⟨rfl,rfl⟩|⟨c,n,rfl,_,_,_,o⟩:=g.shape
 ·exact copyS0 b
 exact UW a c 0 n b (λi j k=>g.cells i j k) o m
