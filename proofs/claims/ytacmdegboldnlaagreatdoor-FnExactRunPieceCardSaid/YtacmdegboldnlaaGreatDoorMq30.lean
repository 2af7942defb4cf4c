import Derived.Test.YtacmdegboldnlaaGreatDoorMq15
import Derived.Test.YtacmdegboldnlaaGreatDoorMq12
import Derived.Test.YtacmdegboldnlaaGreatDoorMq20
set_option linter.all false
set_option maxRecDepth 100000
set_option maxHeartbeats 8000000
namespace Go.Proofs.YtacmdegboldnlaaGreatDoor
open Go Go.RowKit Go.Proofs.Tryz
open _root_.Array renaming size→N
open Go renaming Calls→VM,cell_regrown→qa6,maxLen→VL
open List renaming length→L
open Option renaming some→O
open _root_.Go.Value renaming ownBlock→VD
open _root_.Go.World renaming alloc→VF,cell?→VE,heap→Y
def yl(c:V8)(d e:Nat)(b:qa0):Prop:=∀a<L b,VE c (V4 d (e+a))=O (.int .i32 (b.getD a 0))
def Yw{e:V8}{f g:Nat}{d:qa0}(i:yl e f g d):∀b c,(zQ .i32 d)[b]?=O c->VE e (((V4 f g):Addr).add b)=O c:=by
 intro b c a;unfold zQ at a;rw[vZ]at a;cases hj:d[b]? with
 | none=>rw[hj]at a;cases a
 | some j=>
  rw[hj]at a;have h:=(xS.1 hj).1;have:=i b h;rw[vv,hj]at this;simp only[Vr,xP]at a;subst a;rw[zR];exact this
def Me(c:V8)(d:qa1)(e g:Nat)(f:qa0):Prop:=L f=e/\(d=none/\e=0/\g=0\/∃a b,d=O (V4 a b)/\a<N (Y c)/\yl c a b f)
theorem Me.I{e f:V8}{g:qa1}{h i:Nat}{j:qa0}(k:Me e g h i j)(l:qa3 e f):Me f g h i j:=
 ⟨k.1,k.2.imp id (λ⟨a,b,m,c,n⟩=>⟨a,b,m,vh c l.size,λd o=>(l.U (p:=(V4 a (b+d))) c).R (n d o)⟩)⟩
def apO{a:V8}{q:Array Oper}{r:List Oper}{f:Oper}{g:Act}{s:Exit->Act->V8->Prop}(t:f.guard=none)(h i:Operand)
  (u:f.op= .call {callee:=.builtin .append,args:=#[h,i],argTypes:=#[25,25]}) (e:Nat) (b:Jo) (d:Nat) (j:Ki) (v:g.eval h=b) (o:a.ownsRow e 21 1 b d j)
  (w:qa1) (c p:Nat) (k:qa0) (x:g.eval i= .slice w c p) (B:Me a w c p k) (C:d+c<=VL) (D:(d+c)*4<=140737488355328) (E:e<=N (Y a))
  (y:∀l m,m.ownsRow e 21 1 l (d+c) (j++zQ .i32 k)->a.grownBy m (VD b)->(l= .slice none 0 0↔b= .slice none 0 0/\c=0)->wpList prog q s r (g.put f.dst l) m):wpList prog q s (f::r) g a:=by
 obtain⟨z,A,F,G,H⟩:=kB Tryz.qn;obtain⟨I,⟨rfl,rfl,rfl⟩ | ⟨K,M,rfl,P,J⟩⟩:=B
 ·obtain rfl:k= []:=xR I
  exact wpList_append_own_none t h i 25 u e 21 z 1 underlying25 A b d j v o x (y b a (by simpa[zQ]using o) ⟨rfl,rfl,rfl,lR,λ_ _ _=>rfl⟩ ⟨λn=>⟨n,rfl⟩,λn=>n.1⟩)
 exact xX a t h i 25 u e 21 z (.int .i32 0) 1 4 underlying25 A F G H rfl VS b d j v o _ c p (zQ .i32 k) x (by rw[zc];omega) (Yw J) (zn _ _) C D E y
def PH(a:qa0):AT:=jK 8192 (Wd a ((L a+15)/16))
def We{w base g cap zs}(b:zH w base (VZ (qQ g 0) (L zs) cap) zs):∀a<L zs,VE w (V4 g (0+a))=O (.int .i32 (zs.getD a 0)):=by
 intro a d;have c:=b.cellAt a VC
 grind [zQ]
def UM{W base v E F n m}(a:L E=n)(b:L F=m)(c:W.ownsRow base 85 3 v (n+m) (Yv E++Yv F)):Gt W base v (E++F):=by
 grind [Gt,List.length_append,F0]
def Gu(a:V8):Gt (VF a (V6 #[] 85)) (N (Y a)) (VZ (qQ (N (Y a)) 0) 0 0) []:=
 ⟨rfl,.inr ⟨_,0,#[],rfl,lR,xJ _ _,lR,VC,rfl,rfl⟩⟩
def UN(zs)(a)(b:Int)(e:b=(Db (L zs) a)):Yv [Dc zs a]= [qP (16*a),qP b,qP (brk ((zs.drop (16*(a:Int)).toNat).take b.toNat))]:=by
 have c:(16*(a:Int)).toNat=16*a:=VC
 have d:b.toNat=Db (L zs) a:=VC
 rw[c,d,e];rfl
def SF(zs)(sa)(cap)(w)(af:Me w sa zs.length cap zs)(bp:zs.length<=8192):
  Calls prog 17 #[.slice sa zs.length cap] w λg H=>∃I ae,g= .returned (.tuple #[.agg #[I,ae],qP 0])/\zH H w.heap.size I zs/\zL H w.heap.size ae ((PH zs).tT 0)/\Below w.heap.size w H/\∃h b d,I= .slice (qQ h 0) b d:=by
 obtain⟨ce,x,cf,cg,ch⟩:=kB Tryz.info32P;obtain⟨bq,br,bs,bt,bu⟩:=kB Tryz.infoPC;have z:=zC (((xF _ w).alloc lR (.cells #[.slice none 0 0,.slice none 0 0] 30)).alloc (by simp) (.cells #[] 21))
 have R:((w.alloc (.cells #[.slice none 0 0,.slice none 0 0] 30)).alloc (.cells #[] 21)).heap[w.heap.size]?=some (.cells #[.slice none 0 0,.slice none 0 0] 30 (0,0)):=by
  rw[kX _ _ _ (by simp)];exact xJ _ _
 have S:((w.alloc (.cells #[.slice none 0 0,.slice none 0 0] 30)).alloc (.cells #[] 21)).ownsRow (w.heap.size+1) 21 1 (.slice (qQ (w.heap.size+1) 0) 0 0) 0 []:=by
  refine⟨rfl,.inr ⟨_,0,#[],rfl,lR,?_,lR,by unfold maxLen;omega,rfl,rfl⟩⟩;have:=xJ (w.alloc (.cells #[.slice none 0 0,.slice none 0 0] 30)) (.cells #[] 21);simpa using this
 have A:=zC S;have T:=zC R;have B:=zC (af.I z);have b2:w.heap.size+1<((w.alloc (.cells #[.slice none 0 0,.slice none 0 0] 30)).alloc (.cells #[] 21)).heap.size:=by simp
 have hgt:¬ (8192:Int)<zs.length:=by omega
 obtain⟨b,y⟩:∃b,b=zs.length:=⟨_,rfl⟩
 have f:=zC y;rw[<- y]at bp hgt B;rw[<- y];clear af S R y;go_enter func17,ntmps17;go_upto_region 3 with fail;go_wp2_with (at_builtin;refine apO rfl _ _ rfl _ (.slice _ 0 0) 0 [] rfl (by exact A) sa b cap zs rfl (by exact B) (by unfold maxLen;omega) (by omega) (by simp) ?_;intro G c p q u;refine Qq ?_);refine Lib.hid ?_;have s:=zC (show zH c _ G zs from(by have m:=p;unfold zH;rw[<- f.A];rw[vg,vL]at m;exact m));have t:=zC ((xF _ _).grown q (by omega) (λj k=>(A.lt j k).1));have al:=zC (z.R (t.G (by omega)));have am:=zC ((t.block _ (by omega)).R T);have b3:w.heap.size+1<c.heap.size:=by have:=t.size;omega
 have U:=zC (show ¬G= .slice none 0 0 from λg=>absurd (u.1 g).1 (by simp));clear p q u A T B z t
 obtain⟨h,d,rfl,bv,ag⟩:∃h d,G= .slice _ b d/\b<=d/\d<=maxLen:=by
  rcases s.A.2 with ⟨bw,_⟩ | ⟨h,d,ci,ah,_,_,ai,bx,_⟩
  ·exact absurd bw U
  rw[<- f.A]at ah ai;exact⟨h,d,ah,ai,bx⟩
 have an:=(s.lt h rfl).2;have ao:=zC (λJ x=>We (base:=w.heap.size+1) (cap:=d) (by rw[<- f.A];exact s) J (by rw[<- f.A];exact x));have ap:=zC (show Gt (c.alloc _) c.heap.size (Value.slice (qQ c.heap.size 0) 0 0) []from Gu c);have aq:=zC ((xF _ c).alloc lR (.cells #[] 85));clear U;go_wp2_with fail;generalize c.alloc _=cb at *;generalize (Value.slice (some _) 0 0)=cc at *;have C:=zC (λbc e bd bf bg bh bi bj=>ZB zs h 0 d bc e bd bf bg bh bi bj (by rw[<- f.A];exact bv) ag (by rw[<- f.A];omega));simp only[<- f.A]at C;unfold maxLen at ag;go_loopw [5,6] (λbk K wr=>∃a:Nat,K=qP (16*a)/\16*a<b+16/\Gt wr c.heap.size bk (Wd zs a)/\Below c.heap.size c wr) (λ_ K _=>b+16-(intOf K).toNat)
 case atStart=>exact⟨0,by first | rfl,by omega,ap,aq⟩
 obtain⟨a,rfl,cj,aj,i⟩:=hrel;have V:=zC aj;have ar:=zC i;have au:=i.size;clear aj;by_cases b9:16*a<b
 ·have av:16*(a:Int)<b:=by omega
  have D:=zC (λJ x=>(i.U an).R (ao J x));clear i;by_cases ca:16<(b:Int)-16*a
  case' pos=>
   obtain⟨e,M⟩:∃e:Int,e=16:=⟨_,rfl⟩
   have E:e=((Db b a):Int):=(by unfold Db;omega);have F:=zC (C (16*a) 16 wr D (by omega) (by omega) (by omega) (by omega))
  case' neg=>
   obtain⟨e,M⟩:∃e:Int,e=b-16*a:=⟨_,rfl⟩
   have E:e=((Db b a):Int):=(by unfold Db;omega);have F:=zC (C (16*a) (b-16*a) wr D (by omega) (by omega) (by omega) (by omega))
  all_goals
   have n:=zC (UN zs a e (by rw[<- f.A];exact E));rw[M]at n;clear M E D;generalize brk _=cd at F n;go_wp2_with fail;refine F.G ?_;rintro g ak ⟨rfl,P⟩;have W:=zC (ar.R (P.G au));have aw:=W.size;have X:=zC (zE V P lR);have ax:=zC (λbl=>show(ak.alloc bl).ownsRow _ 85 3 _ a _ from(by have m:=X.A;rw[yh]at m;exact vV m _));have ay:=zC (λbn=>za ak 85 bn);have b4:a<=8192:=(by omega);clear P;go_wp2_with (at_builtin;refine xX _ rfl _ _ 95 rfl _ 85 bq _ 3 24 underlying95 br bs bt bu rfl (by decide) _ a _ rfl (by exact ax _) _ 1 1 (Yv _) rfl (by rw[n.A];rfl) (by rw[n.A];exact ay _) (by rw[n.A];intro b8 ad;simp at ad;rcases ad with rfl | rfl | rfl<;>rfl) (by unfold maxLen;omega) (by omega) (by simp;omega) ?_;intro a9 ba p q u;refine Qq ?_);refine Lib.hid ?_;have az:=zC (show Gt ba _ a9 (Wd zs _)from(by rw[Kc];exact UM (yh zs a) rfl p));have a0:=zC ((W.alloc aw _).grown q (by simp;omega) (λj k=>(X.lt j k).1));clear p q u;go_wp2;go_roundw
   case rel=>exact⟨_,by first | rfl,by omega,az,a0⟩
   simp[intOf];omega
 have av:¬16*(a:Int)<b:=by omega
 have Z:a=(b+15)/16:=by omega
 have a1:=zC Z;have a2:=zC (zE s i lR);have a3:=zC ((i.block _ (by omega)).R am);have a4:=zC (al.R (i.G (by omega)));have aa:=zC (middleL 8192 _ _ _ 0 _ (by rw[yh];omega) (Gt.rd V) lR (by rw[yh];omega) (by omega));clear Z i;go_wp2_with fail;refine aa.G ?_;rintro g l ⟨ck,rfl,Q,r⟩;obtain⟨bz,b0,b1,rfl⟩:=Rz Q;have ab:=zC Q;have ac:=zC (zE a2 r lR);have K5:=zC ((r.block _ (by omega)).R a3);have a5:=zC (a4.R (r.G (by omega)));have a6:l.cell? ⟨w.heap.size,0,none⟩=some (.slice none 0 0):=by rw[xH l _ 0 _ _ _ K5.A];rfl
 have a7:l.cell? ⟨w.heap.size,1,none⟩=some (.slice none 0 0):=by rw[xH l _ 1 _ _ _ K5.A];rfl
 have b5:=xW l _ 0 _ _ K5;have b6:=xW l _ 1 _ _ K5;have b7:w.heap.size<l.heap.size:=by have:=r.size;omega
 clear Q r aa;go_wp2;refine vE (v:=.tuple #[.agg #[.slice (qQ h 0) b d,.slice bz b0 b1],.int _ 0]) (by simp[results,go_sem,a6,a7]) rfl ⟨_,_,rfl,?_,?_,?_,⟨_,_,_,rfl⟩⟩
 ·refine zD (zF ac (by omega)) (λj k=>?_)
  have o:j≠w.heap.size:=λg=>FY ac K5 (by decide) (by rw[k,g])
  rw[xM _ _ _ _ o,xM _ _ _ _ o]
 ·have a8:(PH zs).tT 0=(jK 8192 (Wd zs a)).tT 0:=by unfold PH;rw[<- f.A,a1.A]
  rw[a8];refine zD (zF ab (by omega)) (λj k=>?_);have o:j≠w.heap.size:=λg=>FY ab K5 (by decide) (by rw[k,g])
  rw[xM _ _ _ _ o,xM _ _ _ _ o]
 exact(a5.setCell (by simp) _).setCell (by simp) _
def Ut:∀(d:Nat)(a:List Pc),L a<=d->(jK d a).bal/\L a<2 ^ (jK d a).ht/\((jK d a).ht=0\/2 ^ ((jK d a).ht-1)<=L a)
 | 0,a,u=>by
  obtain rfl:a= []:=xR VC;exact⟨xN,by simp[jK,AT.ht],.inl rfl⟩
 | d+1,a,u=>by
  obtain k|k:=QA (L a)
  ·obtain rfl:a= []:=xR k
   rw[Jh];exact⟨xN,by simp[AT.ht],.inl rfl⟩
  have l:L a/2<L a:=VC;have m:a[L a/2]?=O a[L a/2]:=xI l;have n:L (a.take (L a/2))=L a/2:=(by rw[xO];omega);have o:L (a.drop (L a/2+1))=L a-(L a/2+1):=(by rw[xZ]);obtain⟨r,j,e⟩:=Ut d (a.take (L a/2)) VC;obtain⟨s,t,h⟩:=Ut d (a.drop (L a/2+1)) VC;rw[Jy m];rw[n]at j e;rw[o]at t h;generalize (jK d (a.take (L a/2)))=b at*;generalize (jK d (a.drop (L a/2+1)))=c at*
  have p:c.ht<=b.ht:=by
   obtain h|h:=h
   ·omega
   obtain f|f:=kC b.ht c.ht
   ·have:=Nat.pow_le_pow_right (show 0<2 by omega) (show b.ht<=c.ht-1 by omega)
    omega
   exact f
  have v:b.ht<=c.ht+1:=by
   obtain e|e:=e
   ·omega
   obtain f|f:=kC (c.ht+1) b.ht
   ·have w:=Nat.pow_le_pow_right (show 0<2 by omega) (show c.ht+1<=b.ht-1 by omega)
    have g:2 ^ (c.ht+1)=2 ^ c.ht*2:=Nat.pow_succ ..;omega
   exact f
  have x:=Nat.pow_le_pow_right (show 0<2 by omega) p;refine⟨⟨r,s,VC,VC⟩,?_,.inr ?_⟩
  ·simp only[AT.ht]
   have i:max b.ht c.ht=b.ht:=VC;rw[i];have g:2 ^ (b.ht+1)=2 ^ b.ht*2:=Nat.pow_succ ..;rw[show 1+b.ht=b.ht+1 by omega]<;>omega
  simp only[AT.ht];have i:max b.ht c.ht=b.ht:=VC;rw[i];obtain e|e:=e
  ·rw[e];simp;omega
  have g:2 ^ b.ht=2 ^ (b.ht-1)*2:=by
   obtain f|f:=QA b.ht
   ·rw[f]at e j;simp at e j;omega
   rw[<- Nat.pow_succ,Nat.succ_eq_add_one,Nat.sub_add_cancel f]
  have q:1+b.ht-1=b.ht:=VC
  first | (rw[q,g];omega) | (simp only[Qw];rw[g];omega)
def Fd(b:qa0):∀a,16*a<L b+16->zz (Wd b a)=((min (16*a) (L b):Nat):Int)
 | 0,_=>by simp[Wd,zz]
 | a+1,c=>by
  rw[Kc,zZ,Fd b a VC,zT,Y7];simp only[Dc,Db];omega
def chP_wp(a:qa0)(b:Nat)(d:16*b<L a):WP a (Dc a b)/\1<=(Dc a b).len/\(Dc a b).len<=16:=by
 have c:Db (L a) b<=16/\1<=Db (L a) b/\16*b+Db (L a) b<=L a:=by unfold Db;omega
 refine⟨⟨?_,?_,?_,?_⟩,?_,?_⟩
 ·simp only[Dc];omega
 ·simp only[Dc];omega
 ·simp only[Dc];omega
 ·simp only[Dc,Z7,kQ]
 ·simp only[Dc];omega
 simp only[Dc];omega
def Ok(a:qa0)(p:L a<=8192):(PH a).ok/\(PH a).bal/\(PH a).wp a/\(PH a).rns=L a:=by
 have d:L (Wd a ((L a+15)/16))<=8192:=by rw[yh];omega
 have e:(PH a).tF=Wd a ((L a+15)/16):=Yb 8192 _ d;have f:(PH a).rns=L a:=by rw[AT.qc,e,Fd a _ VC];omega
 have g:∀b∈(PH a).tF,WP a b/\1<=b.len/\b.len<=16:=by
  intro b c;rw[e]at c;obtain⟨h,i,rfl⟩:=Vf.1 c;exact chP_wp a h (by have:=Q8.1 i;omega)
 refine⟨⟨λb c=>?_,by rw[f];omega⟩,(Ut 8192 _ d).1,(ze a _).2 λb c=>(g b c).1,f⟩;obtain⟨⟨j,k,l,m⟩,q,r⟩:=g b c;have n:=Um (Z7 a b);have o:(L (Z7 a b):Int)=b.len:=Z8 ⟨j,k,l,m⟩;simp only[jU,vn];omega
def fx(a:qa0)(b:List Pc):qa0:=b.flatMap (Z7 a)
theorem SJ(S):fx S []= []:=rfl
theorem jl(S)(a)(F):fx S (a::F)=Z7 S a++fx S F:=Qv
theorem YP(S)(F G):fx S (F++G)=fx S F++fx S G:=by simp[fx]
def SQ{S}:∀{F},(∀a∈F,WP S a)->(L (fx S F))=zz F
 | [],_=>rfl
 | a::F,b=>by
  rw[jl,zT,xL];have e:=Z8 (b a VT);have f:=SQ (F:=F) (λc d=>b c (by simp[d]));omega
theorem fx_at{S F}{a c:Nat}(e:∀b∈F,WP S b)(g:zz (F.take a)=c):fx S (F.take a)=(fx S F).take c/\fx S (F.drop a)=(fx S F).drop c:=by
 have f:=SQ (F:=F.take a) (λb d=>e b (kH d))
 grind [fx,YP,List.take_append_drop]
theorem Ol{S T off}(b:T.ok)(j:T.wp S)(c:0<=off)(d:off<=T.rns):fx S (zb S T off).tF=fx S T.tF:=by
 by_cases a:jR T off=0
 ·grind [zb]
 rw[jP b c d a];obtain⟨o,r,k⟩:=Y9 b c d;obtain⟨s,t,e⟩:=k.resolve_left a;have g:=(ze S T).1 j _ (vc e);obtain⟨f,l,m,n⟩:=g;have h:=Us (p:=zY S _ (jR T off)) (q:=zY S ((jp T off).off+jR T off) ((jp T off).len-jR T off)) (Za f VC VC) (Za VC VC VC) rfl
 have i:zY S (zY S (jp T off).off (jR T off)).off ((zY S (jp T off).off (jR T off)).len+(zY S ((jp T off).off+jR T off) ((jp T off).len-jR T off)).len)=jp T off:=by
  have:(zY S (jp T off).off (jR T off)).len+(zY S ((jp T off).off+jR T off) ((jp T off).len-jR T off)).len=(jp T off).len:=(by show jR T off+((jp T off).len-jR T off)=_;omega);rw[this];exact pcAt_of ⟨f,l,m,n⟩
 rw[i]at h
 conv=>rhs;rw[(zm e).1]
 grind [YP,jl,List.append_assoc]
def Uu{S T off}(a:T.ok)(b:T.wp S)(c:0<=off)(d:off<=T.rns):fx S ((zb S T off).tF.take (zN T off))=(fx S T.tF).take off.toNat/\fx S ((zb S T off).tF.drop (zN T off))=(fx S T.tF).drop off.toNat:=by
 grind [ZH,ze,Ym,fx_at,Ol]
def Om{zs ts T off}(b:T.ok)(i:T.wp zs)(c:0<=off)(d:off<=T.rns):(Jf (zs++ts) (L zs) T off).tx (zs++ts)=(T.tx zs).take off.toNat++(ts++(T.tx zs).drop off.toNat):=by
 have e:=i.app ts;have o:L (zs++ts)=L zs+L ts:=xL;have j:(L (zs++ts):Int)-L zs=L ts:=VC
 have f:=Uu b e c d;have k:=ZH (S:=zs++ts) b c d;have l:=(ze _ _).1 (Ym b e c d)
 have m:Z7 (zs++ts) (zY (zs++ts) (L zs) (L ts))=ts:=by
  unfold Z7 zY;simp
 rw[<- tx_app i ts,Zd,Zd]
 show fx _ _=(fx _ _).take _++(ts++(fx _ _).drop _)
 rw[<- f.1,<- f.2,Jf,Ws,j];by_cases a:JQ (L zs) (zb (zs++ts) T off) (zN T off)=true
 ·rw[xU a]
  simp only[JQ,vn]at a;have g:=yx a.1 k.1;rw[jO _ _ _ _ g];have n:=l _ (vc g);have h:=Us (q:=zY _ (L zs) (L ts)) n (Za VC VC VC) a.2;have p:Z7 (zs++ts) (zY (zs++ts) (zU (zb (zs++ts) T off) (zN T off)).off ((zU (zb (zs++ts) T off) (zN T off)).len+L ts))=Z7 (zs++ts) (zU (zb (zs++ts) T off) (zN T off))++ts:=by rw[m]at h;exact h
  grind [zN,zb,zU,YP,jl,List.take_add_one,SJ]
 simp_all[xK,AT.ins_flat,YP,jl]
def delP_tx{S T lo hi}(c:T.ok)(y:T.bal)(e:T.wp S)(z:L S<=220000)(d:0<=lo)(n:lo<=hi)(o:hi<=T.rns):(YO S T lo hi).tx S=(T.tx S).take lo.toNat++(T.tx S).drop hi.toNat:=by
 have a:=zBu c y e z d n o;have f:=ZH (S:=S) c d VC;have g:hi<=(zb S T lo).rns:=by rw[a.rn1];exact o
 have p:=FU (S:=S) a.ok1 VC g f.1 f.2 n;have q:=Uu c e d VC;have h:=Uu a.ok1 a.wp1 VC g;rw[Ol c e d VC]at h;have i:=AT.split_flat _ _ a.a2;have r:(Da S T lo hi).tF=(ZN S T lo hi).tF.take _:=i.1;have s:(Kt S T lo hi).tF=(ZN S T lo hi).tF.drop _:=i.2;have t:=AT.split_flat (Kt S T lo hi) (JV S T lo hi-zN T lo) (by have:=a.yits;have:=a.z2;omega)
 have u:(UJ S T lo hi).tF=(ZN S T lo hi).tF.drop (JV S T lo hi):=by
  have j:(UJ S T lo hi).tF=(Kt S T lo hi).tF.drop (JV S T lo hi-zN T lo):=t.2;rw[j,s,QO]
  congr 1
  have:=a.az;omega
 have v:fx S (Zw S T lo hi).tF=(fx S T.tF).take lo.toNat++(fx S T.tF).drop hi.toNat:=by
  rw[Zw,AT.join_flat,YP,r,u];have w:(ZN S T lo hi).tF.take (zN T lo)=(zb S T lo).tF.take (zN T lo):=p.2;rw[w,q.1];have x:fx S ((ZN S T lo hi).tF.drop (JV S T lo hi))=(fx S T.tF).drop hi.toNat:=h.2;rw[x]
 rw[Zd,Zd]
 show fx S _=(fx S _).take _++(fx S _).drop _
 rw[<- v,YO];cases hhb:jJ _ _ with
 | false=>rw[ju,xK (by rw[hhb];simp)]
 | true=>
  have b:=hhb;simp only[jJ,vn]at b;have k:=(ze S _).1 a.wpJ;have l:=yx (T:=Zw S T lo hi) b.1.1 VC;have m:=WO b.1.2;have j:=Us (k _ (vc l)) (k _ (vc m)) b.2;rw[Yu hhb]
  conv=>rhs;rw[Ur b.1.1 l m]
  grind [YP,jl,List.append_assoc]
theorem SU(zs):∀a,fx zs (Wd zs a)=zs.take (16*a)
 | 0=>rfl
 | a+1=>by
  rw[Kc,YP,SU zs a,jl,SJ,kW]
  have b:Z7 zs (Dc zs a)=(zs.drop (16*a)).take (Db (L zs) a):=by
   unfold Z7 Dc;simp only[kQ]
  rw[b]
  have c:(zs.drop (16*a)).take (Db (L zs) a)=(zs.drop (16*a)).take 16:=by
   unfold Db;by_cases d:16<=L zs-16*a
   ·simp
   simp
  grind
theorem Gv(zs)(a:L zs<=8192):(PH zs).tx zs=zs:=by
 grind [fx,PH,Zd,Yb,yh,SU,List.take_of_length_le]
section
open Go.Shelf Go.Sort
def Si(b:V8)(g c h i j:Nat)(k:qa0)(l:AT)(d:List Nat)(e:V8):Prop:=
 ∃f a,PM e g c h i j k l f a/\(∀x∈a,x∈d\/N (Y b)<=x)/\zr (c::d) b e
def healN(S)(T)(u)(bs)(x l q ad ae a:Nat)(p)(i:PM p x l q ad ae S T u bs)(m:T.ok)(ay:T.bal)(I:T.wp S)(dc:a<=8192):
  VM prog 258 #[V3 l 0,qP a] p λc cr=>c=V5 (.tuple #[])/\Si p x l q ad ae S (ju S T a) bs cr:=by
 have a0:=i.k.c1;have cy:=m.bd;have a1:=zC (JU T u bs x p i.t);have D:=zC (λp=>Jt a 1 (T.tI-1) p);have j:=zC i;have cz:=i.k.lt;have wi:IntKind.i64.wrap _=T.tI-1:=Zv _ VC VC;have wr:IntKind.i64.wrap _=a-1:=Zv _ VC VC;have E:=zC (show ju S T a=if jJ T a=true then(T.put _ _).rem a else T from rfl);generalize ju S T a=av at*;by_cases ar:0<a/\a<T.tI
 ·rw[show decide _=true by grind]at D
  have y:=yx (T:=T) ar.1 VC;have P:=WO ar.2;have cd:=m.1 _ (vc y);have ce:=m.1 _ (vc P);simp only[jU,vn]at cd ce;have ag:(((a-1:Nat)):Int)=a-1:=VC;have ah:=zC (λh G=>Up T u bs x l q ad _ ae _ _ h (i.k.I G i.k.lt) (i.t.I G lR) m y);have a2:=zC (λh G=>Up T u bs x l q ad _ ae a _ h (i.k.I G i.k.lt) (i.t.I G lR) m P);rw[ag]at ah;have a3:=zC (λh=>Rt (zU T a) (Ks T a) h VC);have Q:=zC (show jJ T a=decide ((zU T a).off+(zU T a).len=(Ks T a).off)by grind [jJ]);have a4:=zC (λh=>zC7 (zU T a) (Ks T a) h VC VC);have a5:=(ze S T).1 I _ (vc y);have a6:=(ze S T).1 I _ (vc P)
  have R:=zC (λt=>show(⟨_,_,(zU T a).brk+(Ks T a).brk⟩:Pc)=zY S _ ((zU T a).len+(Ks T a).len)by
   rw[<- UH a5 t VC]
   rw[show(Ks T a).brk=brk ((S.drop _).take _)from a6.2.2.2])
  have a7:=zC (λaw=>Oi (R:=a) m I i.n aw VC);have U:=zC (λh c ax w=>Mh T (a-1) c u bs x h m.w ax VC w i.nd);rw[ag]at U;have ai:=zC (λh c ax w=>Sg (T.put (a-1) c) a u bs x h (AT.qi _ _ _ ay) ax (by grind [AT.qf]) w i.nd)
  have a8:=zC (λc=>show(T.put _ c).rns=T.rns-(zU T a).len+c.len by
   rw[AT.qc,AT.qc,jO T _ c _ y,zZ,zT];have c0:=(zm y).1
   grind [zz,zU,zZ,zT])
  generalize jJ T a=aw at*;generalize zU T a=b at*;generalize Ks T a=g at*;have aj:=zC (λcs t=>show(T.put _ ⟨_,_,_⟩).okw from⟨by rw[R.A t];exact a7 cs,by rw[a8.A];grind⟩);clear i m ay I y P ag a5 a6 a7 a8;generalize au:T.tI=cq at*;clear au;go_enter func258,ntmps258;go_wp2_with fail;refine a1.G ?_;rintro c cv ⟨rfl,C⟩;have z:=zC C;have cf:=C.size;have cg:=Tryz.fld0;unfold Zu;clear C a0;go_wp2_with fail;refine(D _).G ?_;rintro c wx ⟨rfl,az⟩;have ak:=az.J;subst ak;clear D;go_wp2_with fail;refine(ah _ z).G ?_;rintro c dd ⟨rfl,b4⟩;have V:=zC (z.R (b4.G cf));clear b4 ah;go_wp2_with fail;refine(a2 _ V).G ?_;rintro c o ⟨rfl,b5⟩;have W:=zC (V.R (b5.G V.size));clear b5 a2;have al:=zC ((W.alloc W.size (V6 #[qP b.off,qP b.len,qP b.brk] 85)).alloc (by have:=W.size;simp;omega) (V6 #[qP g.off,qP g.len,qP g.brk] 85))
  have X:=zC (show(VF (VF o (V6 #[qP b.off,qP b.len,qP b.brk] 85)) (V6 #[qP g.off,qP g.len,qP g.brk] 85)).heap[N (Y o)]?=O _ by
   rw[kX _ _ _ VT];exact xJ _ _)
  have Z:=zC (by
   have:=xJ (VF o (V6 #[qP b.off,qP b.len,qP b.brk] 85)) (V6 #[qP g.off,qP g.len,qP g.brk] 85)
   rw[show(N (Y (VF o (V6 #[qP b.off,qP b.len,qP b.brk] 85))))=N (Y o)+1 by simp]at this;exact this)
  have c1:N (Y o)+2<=N (Y (VF (VF o (V6 #[qP b.off,qP b.len,qP b.brk] 85)) (V6 #[qP g.off,qP g.len,qP g.brk] 85))):=VT;go_upto_region 2 with fail;generalize (o.alloc _).alloc _=k at*;generalize N (Y o)=fb at*;have a9:VE k (V4 fb 0)=O (qP b.off):=(by rw[xH k _ 0 _ _ _ X.A];rfl);have ba:VE k (V4 fb 1)=O (qP b.len):=(by rw[xH k _ 1 _ _ _ X.A];rfl);have bc:VE k (V4 fb 2)=O (qP b.brk):=(by rw[xH k _ 2 _ _ _ X.A];rfl);have bd:VE k (V4 (fb+1) 0)=O (qP g.off):=(by rw[xH k _ 0 _ _ _ Z.A];rfl);have bf:VE k (V4 (fb+1) 1)=O (qP g.len):=(by rw[xH k _ 1 _ _ _ Z.A];rfl);have bg:VE k (V4 (fb+1) 2)=O (qP g.brk):=(by rw[xH k _ 2 _ _ _ Z.A];rfl);clear z V W;go_wp2_with fail;refine(a3 _).G ?_;rintro c b6 ⟨rfl,s⟩;have aa:=zC (al.R (s.G al.size));have ab:=zC (j.I aa);have bh:=ab.k.c1;have bi:=(s.U (by grind)).R a9;have am:=(s.U (by grind)).R ba;have bj:=(s.U (by grind)).R bc;have bk:=(s.U (by grind)).R bd;have bl:=(s.U (by grind)).R bf;have bn:=(s.U (by grind)).R bg;have bp:=λd e=>qa6 bi d e
  have bq:=λd e=>qa6 am d e
  have br:=λd e=>qa6 bj d e
  have bt:=λd e=>qa6 bk d e
  have bu:=λd e=>qa6 bl d e
  have bv:=λd e=>qa6 bn d e
  have bw:=λd e=>qa6 bh d e
  clear s a9 ba bc bd bf bg bi am bj bk bl bn bh X Z al a3;rw[<- Q.A];cases hbc:aw with
  | true=>
   have t:=(by have f:=Q.A;rw[hbc]at f;simpa using f.J);have bx:=zC (aj hbc t);have F:=zC (show av=(T.put _ ⟨_,_,_⟩).rem a by rw[E.A,xU hbc,R.A t]);have an:=zC (λh w=>U h _ bx w);have ao:=zC (λh w=>ai h _ bx w);rw[<- F.A]at ao;have bz:=zC (λd e=>CallsIn.regrown_of (r:=5) (w:=b6) (d:=d) (os:=e) (vD.2 (a4 _)));simp at an;generalize T.put _ ⟨b.off,_,_⟩=da at*;clear t hbc aj R U ai Q E;go_upto_region 3 with fail;refine(kS (n:=6)).1 ?_;refine zI 9 (by rfl) VU ?_;simp only[vQ,kh,vT,ke]
   repeat (refine wpQuietIn_step (λ_ _ _ _=>xN) (λb3 ac=>?_);go_simp;first | (refine ac _ ?_;clear ac b3) | (apply Exists.intro;refine⟨λ_=>?_,ac _ ?_⟩;(first | exact bz _ _);clear ac b3))
   refine wpQuietIn_nil ?_;intro _ cp;obtain⟨⟨cw,b7⟩,cx⟩:=cp;subst cx;have b0:=zC (below_regrown b6 cw b7);clear bp bq br bt bu bv bw bz;generalize grow _ b7=db at*;have A:=zC (ab.I b0);have A7:=zC (aa.R (b0.G aa.size));have c2:=A7.size;clear ab;gi_wp2_with fail;refine⟨xN,(vD.2 (an _ A.t)).G ?_⟩;rintro c de ⟨rfl,b8,J⟩;have K8:=zC (A.k.chg J A.cb);have ch:=zC (A.rt.chg J A.lb A.bb);have ci:=zC ((zr.qa (bs:=l::bs) A7).R J (λ_ f _=>f) (λ_ f _=>Qm _ f));have c3:=J.size;have cj:=K8.c1;have b1:=zC (ao _ b8);clear b8 J an ao;gi_wp2_with fail;go_wp2_with fail;refine b1.G ?_;rintro c b9 ⟨u9,af,rfl,ca,cb,cc,K⟩;have c4:=K.size;have c5:=j.lb;have ap:=zC (show ∀B∈af,B∈bs\/N (Y p)<=B from λB H=>(cc B H).imp id (λf=>VC))
   have b2:l∉af:=λf=>by
    obtain M|M:=ap.A l f
    ·exact j.cb M
    omega
   have ck:q∉af:=λf=>by
    obtain M|M:=ap.A q f
    ·exact j.bb M
    omega
   have aq:=zC (K8.chg K j.cb);have cl:=zC (ch.chg K VC j.bb);have cm:=zC (ci.R K (λ_ f _=>f) (λ_ f _=>Qm _ f));have cn:=zC ca;have co:=zC cb;have am:=aq.c1;have c6:=aq.fz 1;clear ca cb cc K b1 cj;go_wp2;refine Qx (v:=.tuple #[]) (by simp[results]) rfl ⟨rfl,u9,af,⟨aq.set1 u9,cn.other (V4 l 1) (.pointer u9) b2,co,b2,ck,j.bc,λct cu=>by rw[<- cl.A ct cu];unfold VE;rw[xM b9 _ q _ j.A.bc],vh (show q<N (Y b9) by omega) (Nat.le_of_eq VT),j.cap1,j.cap2,j.n⟩,ap,cm.setCell (V4 l 1) (.pointer u9) (.inl VT)⟩
  | false=>
   have F:=zC (show av=T by rw[E.A,xK (by simp_all)]);clear hbc aj R U ai Q E a4 bp bq br bt bu bv bw;go_wp2;refine Qx (by simp[results]) rfl ⟨rfl,u,bs,?_,λB H=>.inl H,zr.qa aa⟩;rw[F.A];exact ab
 have F:=zC (show av=T by
  rw[E.A,xK]
  grind [jJ])
 rw[show decide _=false by grind]at D;clear i m ay I ar;generalize au:T.tI=cq at*;clear au;go_enter func258,ntmps258;go_wp2_with fail;refine a1.G ?_;rintro c cv ⟨rfl,C⟩;have z:=zC C;have cg:=Tryz.fld0;unfold Zu;clear C a0;go_wp2_with fail;refine(D _).G ?_;rintro c wx ⟨rfl,az⟩;have ak:=az.J;subst ak;go_wp2;refine vE (by simp[results]) rfl ⟨rfl,u,bs,?_,λB H=>.inl H,zr.qa z⟩;rw[F.A];exact j.I z
def chgT{c bs ds w w1 w2}(d:zr (c::bs) w w1)(e:zr ds w1 w2)(g:∀a∈ds,a∈bs\/N (Y w)<=a):zr (c::bs) w w2:=
 d.R e (λ_ b _=>b) (λa b f=>by
  grind)
def Wg{x m}{a b:List Nat}(d:∀y∈b,y∈a\/m<=y)(e:x∉a)(f:x<m):x∉b:=λc=>by
 grind
def Mi{a c b:List Nat}{m}(d:(a++c).Nodup)(e:∀x∈a,x<m)(f:b.Nodup)(g:∀x∈b,x∈c\/m<=x):(a++b).Nodup:=by
 grind
def removeC(S)(T)(u)(bs)(g i m n o e cd:Nat)(ao)(off)(w)(f:PM w g i m n o S T u bs)(J:T.ok)(ag:T.bal)(ah:T.wp S)(bg:0<=off)(bh:off+e<=T.rns)(ce:g<=N (Y w)):
  VM prog 244 #[V3 i 0,qP off,VZ ao e cd] w λk ca=>k=V5 (.tuple #[])/\Si w g i m n o S (YO S T off (off+e)) bs ca:=by
 have b2:=J.bd;have b:=zC (zBu J ag ah f.n bg VC bh);have am:=zC (cutI S T u bs g i m n o off w f J ag ah bg VC ce);have K:=zC (λh u1 Z aa l=>cutI S _ u1 Z g i m n o (off+e) h aa b.ok1 b.bal1 b.wp1 VC (by rw[b.A.rn1];exact bh) l);have C:=zC (λh u2 v x y l=>Sj _ _ u2 v g h b.bal2 b.ok2 b.a2 x y l);have cn:=b.az;have an:(((JV S T off (off+e)-zN T off:Nat)))=(JV S T off (off+e):Int)-(zN T off):=VC
 have r:=zC (λh u2 v x y l=>Sj _ (JV S T off (off+e)-zN T off) u2 v g h b.balY b.okY (by rw[b.A.yits];have:=b.z2;omega) x y l);rw[an]at r;have M:=zC (λh ab ac ad ae d x y l=>joinN _ _ ab ac ad ae g h b.balX b.balW b.okX b.okW b.sum d x y l);have P:=zC (λh u5 af aa=>healN S _ u5 af g i m n o (zN T off) h aa b.okJ b.balJ b.wpJ (by have c:=b.a2;have j:=b.ok2.bd;omega));have co:zN T off<=8192:=by have c:=b.a2;have j:=b.ok2.bd;omega
 have cp:JV S T off (off+e)<=8192:=by have c:=b.z2;have j:=b.ok2.bd;omega
 have cq:IntKind.i64.wrap _=off+e:=Zv _ VC VC;have wz:IntKind.i64.wrap _=(JV S T off (off+e))-(zN T off):=Zv _ VC VC;have D:=f.cb;have E:=f.bb;have b3:=f.bc;have F:=f.k.lt;have G:=f.lb;have Q:=zC (And.intro f.cap1 (And.intro f.cap2 f.n));have ap:=zC (show ju S _ _=YO S T off (off+e)from rfl);rw[ap.A]at P;unfold UT at C r;rw[show((ZN S T off _).split _).1=Da S T off _ from rfl,show((ZN S T off _).split _).2=Kt S T off _ from rfl]at C;rw[show((Kt S T off _).split _).2=UJ S T off _ from rfl]at r;rw[show AT.join _ _=Zw S T off _ from rfl]at M;have aq:=zC (show JV S T off (off+e)=zN _ _ from rfl);rw[<- aq.A,show zb S _ _=ZN S T off _ from rfl]at K;generalize ((Kt S T off _).split _).1=cz at*;clear aq ap;generalize YO S T off _=c0 at*;generalize Zw S T off _=b9 at*;generalize UJ S T off _=c1 at*;generalize Da S T off _=TX at*;generalize Kt S T off _=c2 at*;generalize JV S T off _=c3 at*;generalize ZN S T off _=c4 at*;generalize zN T off=c5 at*;generalize zb S T off=c6 at*;clear f J ag ah b an b2;go_enter func244,ntmps244;go_wp2_with fail;refine am.G ?_;rintro k cf ⟨rfl,u1,Z,bi,bj,ai⟩;have ar:=zC ai;have R:=zC bj;have cr:=ai.size;have au:=zC (K cf u1 Z bi VC);clear bi bj ai am K;go_wp2_with fail;refine au.G ?_;rintro k cg ⟨rfl,u2,v,p,bk,aj⟩;have cs:=aj.size;have H:=zC (λa d=>(bk a d).elim (R a) (λc=>.inr VC))
 have av:=zC (ar.R aj (λ_ c _=>c) (λa c j=>by
  obtain z|z:=vC.1 c
  ·simp_all
  obtain ak|ak:=R.A a z
  ·simp_all
  omega))
 have b4:=p.k.c1;have aw:=zC p.k;have ax:=zC p.rt;have ay:=zC (C cg u2 v p.t p.nd VC);clear p bk aj au C ar R;go_wp2_with fail;refine ay.G ?_;rintro k ch ⟨ab,ci,ad,cj,rfl,bl,bn,al,bp,A⟩;have ct:=A.size;have U:=zC (λa d=>(bp a d).elim (H a) (λc=>.inr VC));have az:=zC (chgT av A H);have a0:=zC (aw.chg A (Wg H D F));have a1:=zC (ax.chg A VC (Wg H E G));have V:=zC bl;have W:=zC al;have a2:=zC (r ch ci cj bn (vM.1 al).2.1 VC);clear bl bn al bp A b4 ay r av aw ax;go_wp2_with fail;refine a2.G ?_;rintro k ck ⟨db,ac,dc,ae,rfl,cl,bq,br,bt,q⟩;have cu:=q.size;have s:=zC (λa d=>U a (ki _ d));have X:=zC (λa d=>bt a (ki _ d));have a3:=zC (Mi W (λa d=>(V.lt a d).2) (vM.1 br).2.1 X)
 have t:=zC (λa d=>by
  obtain c|c:=xV.1 d
  ·exact U a (kY _ c)
  obtain j|j:=X.A a c
  ·exact s a j
  omega)
 have a4:=zC (chgT az q s);have a5:=zC (a0.chg q (Wg s D F));have a6:=zC (a1.chg q VC (Wg s E G));have a7:=zC (V.chg q (λa d c=>(vM.1 W).2.2 a d a c rfl));have a8:=zC (M ck ab ac ad ae a7 bq a3 VC);clear cl bq br bt q a2 M az a0 a1 V a7 W U X;go_wp2_with fail;refine a8.G ?_;rintro k bu ⟨u5,af,rfl,bv,bw,bx,B⟩;have cv:=B.size;have I:=zC (λa d=>(bx a d).elim (t a) (λc=>.inr VC));have a9:=zC (chgT a4 B t);have K5:=zC (a5.chg B (Wg t D F));have ba:=zC (a6.chg B VC (Wg t E G));have bc:=Wg I D F;have cw:=K5.c1;have cx:=K5.fz 1
 have b5:=zC (show PM _ g i m n o S b9 u5 af from
  ⟨K5.set1 u5,bv.other _ _ bc,bw,bc,Wg I E G,b3,λcb cc=>by rw[<- ba.A cb cc];grind [VE,heap_setCell_other],vh (show m<N (Y bu) by omega) (Nat.le_of_eq VT),Q.1,Q.2.1,Q.2.2⟩)
 have bd:=zC (a9.setCell (V4 i 1) (.pointer u5) (.inl VT));have bf:=zC (P _ _ _ b5);clear bv bw bx B a8 P a4 a5 a6 a9 K5 ba a3 t s;go_wp2_with fail;generalize bu.setCell _ _=da at*;refine bf.G ?_;rintro k dd ⟨rfl,u7,cm,bz,b0,b1⟩;have cy:=bd.size;have b6:=zC bz;have b7:=zC (λa d=>(b0 a d).elim (I a) (λc=>.inr VC))
 have b8:=zC (bd.R b1 (λ_ c _=>c) (λa c j=>by
  obtain z|z:=vC.1 c
  ·simp_all
  obtain ak|ak:=I a z
  ·simp_all
  omega))
 clear bz b0 b1 bf;go_wp2;refine Qx (by simp[results]) rfl ⟨rfl,u7,cm,b6,b7,b8⟩
end
def yg{w base v xs}(c:zL w base v xs):∃b a,v= .slice b (L xs) a:=by
 obtain⟨rfl,d⟩|⟨e,a,f,rfl,_⟩:=c.2
 ·simp_all
 simp
def cloneN(zs)(b o cap)(a)(n:∀c<L zs,VE a (V4 b (o+c))=O (.int .i32 (zs.getD c 0)))(v:b<N (Y a))(D:L zs<=1048576):
  VM prog 52 #[VZ (qQ b o) (L zs) cap] a λj k=>∃m,j=V5 m/\zH k (N (Y a)) m zs/\qa3 a k:=by
 obtain⟨w,g,x,y,z⟩:=kB Tryz.qn
 have h:=by
  have:=Qo (base:=N (Y a)) (e:=21) (size:=1) a #[] 0 VT (xY _) rfl;simpa using this
 have q:=zC h;have d:=zC ((xF _ a).alloc lR (V6 #[] 21))
 have r:=zC ((by
  have s:=YT (o:=0) (l:=L zs) (λc g=>(d.U (p:=(V4 b (o+c))) v).R (n c g))
  simpa using s))
 have e:=λa:V8=>Lib.run_eql_slice_nil a 25 21 (qQ b o) (L zs) cap 0 0 underlying25
 simp at e;clear h n;go_enter func52,ntmps52;go_wp2_with (at_builtin;refine xX _ rfl _ _ 25 rfl _ 21 w _ 1 4 underlying25 g x y z rfl VS _ 0 [] rfl q _ _ cap _ rfl (by rw[zc,Nat.mul_one]) r (zn _ _) (by grind [VL]) VC d.size ?_;intro A B f i _);rw[vg,vL]at f;have t:=zC f;have u:=zC (d.grown i d.size (λC e=>by cases e;simp));clear f i;go_wp2;go_ret;exact⟨_,rfl,t,u⟩
def cloneO(zs)(sa)(cap)(a)(f:Me a sa (L zs) cap zs)(g:L zs<=1048576):
  VM prog 52 #[VZ sa (L zs) cap] a λe b=>∃c,e=V5 c/\zH b (N (Y a)) c zs/\qa3 a b:=by
 obtain⟨_,⟨rfl,h,rfl⟩ | ⟨i,j,rfl,k,l⟩⟩:=f
 ·obtain rfl:=xR h
  have d:=λa:V8=>Lib.run_eql_slice_nil a 25 21 none 0 0 0 0 underlying25
  simp at d;simp;go_enter func52,ntmps52;go_wp2;go_ret;exact⟨_,rfl,vz _ _ _ _,xF _ _⟩
 exact cloneN zs i j cap a l k g
def tellPO(zs)(T)(u)(bs)(base c)(sa)(cap)(w)(l:Me w sa (L zs) cap zs)(aa:L zs<=1048576)(D:zM w base T u bs)(E:T.ok)(b:w.heap[c]?=O (V6 #[VZ sa (L zs) cap,.pointer u] 101 (0,0))):
  VM prog 22 #[V3 c 0] w λj p=>∃q r,j=V5 (.agg #[q,r])/\zH p (N (Y w)) q zs/\zL p (N (Y w)) r (T.tT 0)/\qa3 w p:=by
 have F:=(xG.1 b).1;have a:=zC ((xF _ w).alloc lR (V6 #[V0,V0] 30));have G:=zC (show(VF w (V6 #[V0,V0] 30)).heap[N (Y w)]?=O _ from xJ _ _);have H:N (Y w)<N (Y (VF w (V6 #[V0,V0] 30))):=VT
 have m:=(a.block c F).R b;have af:VE (VF w (V6 #[V0,V0] 30)) (V4 c 0)=O (VZ sa (L zs) cap):=by rw[xH _ _ 0 _ _ _ m];rfl
 have I:VE (VF w (V6 #[V0,V0] 30)) (V4 c 1)=O (.pointer u):=by rw[xH _ _ 1 _ _ _ m];rfl
 have J:=zC (λf l=>cloneO zs sa cap f l aa);have K:=zC (l.I a);have M:c<N (Y (VF w (V6 #[V0,V0] 30))):=VC
 have P:=zC (D.I a lR);have Q:=zC (λf s=>tellN T u bs base f s E);have R:=zC (fun(f Z:V8) (s:zM f base T u bs) (j:Z.heap=f.heap)=>s.frame (λak al=>by rw[j]));clear b m D E l;go_enter func22,ntmps22;go_upto_region 1 with fail;generalize w.alloc _=C at*
 go_region_with (first
  |(go_at_call 52;refine(J _ (by exact K)).G ?_;rintro j x ⟨q,rfl,y,g⟩;obtain⟨ab,ac,rfl⟩:=zS y;have k:qa3 C x:=⟨g.os,g.tape,g.output,g.size,g.block⟩;have n:=zC k;have S:=zC (show zH x (N (Y C)) _ zs from y);have U:=zC (P.I k lR);have ag:=(k.U M).R I;clear y g k)
  |(go_at_call 53;refine(Q _ (R _ _ U rfl)).G ?_;rintro j d ⟨r,rfl,z,h⟩;obtain⟨ad,ae,rfl⟩:=yg z;have o:Below _ x d:=⟨h.os,h.tape,h.output,h.size,h.block⟩;have e:=zC (n.R (o.G n.size));have A:=zC (zE S o lR);have B:=zC (z);have ah:=n.size;have i:=(e.block _ H).R G;have V:d.cell? _=O V0:=(by rw[xH d _ 0 _ _ _ i];rfl);have W:d.cell? _=O V0:=(by rw[xH d _ 1 _ _ _ i];rfl);have ai:=xW d _ 0 _ _ i;have aj:=xW d _ 1 _ _ i;clear z h o i))
 all_goals
  go_wp2;refine vE (v:=.agg #[VZ ab (L zs) ac,VZ ad (L (T.tT 0)) ae]) (by simp[results,go_sem,V,W]) rfl ⟨_,_,rfl,?_,?_,?_⟩
  ·exact zD (zF A VC) (λt b=>by have X:=A.lt t b;grind [Below.heap_setCell])
  ·exact zD (zF B VC) (λt b=>by have X:=B.lt t b;grind [Below.heap_setCell])
  exact((⟨(a.R (e.G VC)).os,(a.R (e.G VC)).tape,(a.R (e.G VC)).output,(a.R (e.G VC)).size,(a.R (e.G VC)).block⟩:Below _ w _).setCell lR _).setCell lR _
def Sp{d e:List Nat}{c f g:Nat}(m:d.Nodup)(h:∀a∈d,a<f)(n:e.Nodup)(i:∀a∈e,f<=a/\a<g)(p:f<=g)(q:g<=c):(c::(d++e)).Nodup:=by
 refine vR.2 ⟨λb=>?_,vM.2 ⟨m,n,λa j k l o=>?_⟩⟩
 ·obtain b|b:=xV.1 b
  ·have:=h c b;omega
  have:=i c b;omega
 have:=h a j;have:=i k l;omega
def Fj:∀(h:Nat)(b:List Pc)(i:Nat)(x:Jo)(c:V8),L b<=h->F1 i c x b->i<=N (Y c)->L b<=8192->(jK h b).ok->
  VM prog 47 #[x] c λD af=>∃ag ah,D=V5 (.pointer ag)/\zM af (N (Y c)) (jK h b) ag ah/\ah.Nodup/\qa3 c af:=by
 intro h
 induction h with
 | zero=>
  intro b i x c ad n C ae o;obtain rfl:b= []:=xR VC
  obtain⟨y,e,rfl⟩:∃y e,x= .slice y 0 e:=by
   obtain⟨y,e,rfl,_⟩|⟨_,_,_,_,A,_⟩:=n
   ·exact⟨_,_,rfl⟩
   simp at A
  go_enter func47,ntmps47;go_wp2;go_ret;exact⟨none,[],rfl,⟨rfl,rfl⟩,List.nodup_nil,xF _ _⟩
 | succ h an=>
  intro b i x c ad n C ae o;have I:=zC an;clear an;obtain⟨y,e,rfl,rfl⟩|⟨d,f,e,rfl,A,bj,E⟩:=n
  ·rw[Jh]
   go_enter func47,ntmps47;go_wp2;go_ret;exact⟨none,[],rfl,⟨rfl,rfl⟩,List.nodup_nil,xF _ _⟩
  have HR:=zC (show F1 i c (VZ (qQ d f) (L b) e) b from .inr ⟨d,f,e,rfl,A,bj,E⟩);have J:L b/2<L b:=VC;obtain⟨j,F⟩:∃j,b[L b/2]?=O j:=⟨_,xI J⟩
  obtain⟨P,Q,R⟩:=E _ j F;rw[Jy F]at o |-;unfold VL at A;obtain⟨a,B⟩:∃a,a=L b/2:=⟨_,rfl⟩
  rw[<- B]at J P Q R o;rw[<- B];obtain⟨k,m⟩:∃k,k=L b:=⟨_,rfl⟩
  have ao:(k:Int)/2=(a:Int):=(by rw[B,m];omega);have bl:((k:Int)==0)=false:=VV;rw[<- m]at A J ae ad;rw[<- m];have ap:=zC (HR.cutL a (by rw[<- m];omega));have U:L (b.take a)=a:=(by rw[xO,<- m];omega);have lR:L (b.drop (a+1))=k-(a+1):=(by rw[xZ,<- m]);have aq:=zC (λg n z=>I (b.take a) i (VZ (qQ d f) a e) g VC n z VC o.left);have ar:=zC o;have bn:(a:Int)<(k:Int):=VC;have bp:¬ (a:Int)<0:=VC;have bq:(a:Int)<=(e:Int):=VC;have br:(a:Int)+1<=(k:Int):=VC;have bs:(a:Int)+1<=(e:Int):=VC;have s:d<N (Y c):=VC;have V:=zC (fun(ba bc:qa1) (bd bf:List Nat) (g:V8) bg bh bi=>Gk (jK h (b.take a)) j (jK h (b.drop (a+1))) ba bc bd bf (N (Y c)) g bg bh ar bi);unfold JP at V;have bt:IntKind.i64.wrap ((a:Int)+1)=(a:Int)+1:=(by rw[vU];omega);have bu:(0:Int)<=(a:Int)+1:=VC;by_cases a7:e=a+1
  case' pos=>
   have au:k=a+1:=VC;have W:b.drop (a+1)= []:=Qk VC;have X:=zC (fun(g:V8) (l:qa3 c g)=>show F1 i g (VZ (qQ d f) 0 0) (b.drop (a+1))from .inl ⟨_,_,rfl,W⟩);have Z:=zC (λg n z=>I (b.drop (a+1)) i (VZ (qQ d f) 0 0) g VC n z VC o.right);have bv:((a:Int)+1)/2=(a:Int):=VC;clear W HR B m U lR ao o E F;subst au;subst a7
  case' neg=>
   have X:=zC (fun(g:V8) (l:qa3 c g)=>show F1 i g (VZ (qQ d (f+(a+1)*3)) (k-(a+1)) (e-(a+1))) (b.drop (a+1))from(by
    have aa:=HR.cutR (a+1) (ao:=O ⟨d,f+(a+1)*3,none⟩) (by rw[<- m];omega) (λ_=>rfl)
    rw[<- m]at aa;exact aa.I l C))
   have Z:=zC (λg n z=>I (b.drop (a+1)) i (VZ (qQ d (f+(a+1)*3)) (k-(a+1)) (e-(a+1))) g VC n z VC o.right);clear HR B m U lR o E F;have bw:¬ (e-(a+1)=0):=VC
  all_goals
   generalize jK h (b.take a)=a8 at*;generalize jK h (b.drop (a+1))=a9 at*;have av:True:=xN;go_enter func47,ntmps47;go_wp2_with fail
   go_region_with (first
    |(go_at_call 47;clear av;refine(aq _ (by exact ap) (by exact C)).G ?_;rintro D q ⟨u1,G,rfl,S,aj,u⟩;have aw:=zC aj;have ax:=zC (show ∀p∈G,p<N (Y q) from λp M=>(S.lt p M).2);clear aj;have t:Hid (qa3 c q):=zC ⟨u.os,u.tape,u.output,u.size,u.block⟩;have ay:=zC (show zM q (N (Y c)) a8 u1 G from S);have K:=t.size;have bx:=(t.U (p:=(V4 d (f+a*3))) s).R P;have bz:=(t.U (p:=(V4 d (f+a*3+1))) s).R Q;have b0:=(t.U (p:=(V4 d (f+a*3+2))) s).R R;clear S u)
    |(go_at_call 47;refine(Z _ (by exact X q t) (by exact ku C K)).G ?_;rintro D r ⟨u2,H,rfl,T,ak,l⟩;have az:=zC ak;have a0:=zC (show ∀p∈H,N (Y q)<=p/\p<N (Y r) from λp M=>T.lt p M);have a1:=zC (show N (Y q)<=N (Y r) from l.size);clear ak;have ab:Hid (qa3 q r):=zC ⟨l.os,l.tape,l.output,l.size,l.block⟩;have w:Hid (qa3 c r):=zC (t.R (ab.G K));have a2:=zC (zM.base K (show zM r (N (Y q)) a9 u2 H from T));have a3:=zC (ay.I ab lR);have ac:=w.size;have b1:=(w.U (p:=(V4 d (f+a*3))) s).R P;have b2:=(w.U (p:=(V4 d (f+a*3+1))) s).R Q;have b3:=(w.U (p:=(V4 d (f+a*3+2))) s).R R;clear T l)
    |(go_at_call 73;refine(V u1 u2 G H _ (by exact a3) (by exact a2) (by exact ac)).G ?_;rintro D al ⟨ai,rfl,bk,am,v⟩;have a4:=zC (show(ai::(G++H)).Nodup from Sp aw ax az a0 a1 (show N (Y r)<=ai from bk));have a5:=zC am;have a6:Hid (qa3 c al):=zC (w.R ((show qa3 r al from⟨v.os,v.tape,v.output,v.size,v.block⟩).G ac));clear am v))
   all_goals (
    go_wp2;go_ret
    exact⟨_,_,rfl,a5,a4,a6⟩)
def Sq(a:qa0)(c b o cap)(e d:Int)(w)(i:∀f<L a,VE w (V4 b (o+f))=O (.int .i32 (a.getD f 0)))(j:VE w (V4 c 0)=O (VZ (qQ b o) (L a) cap))(k:b<N (Y w))(l:c<N (Y w))(m:0<=e)(t:e+d<=L a)(u:0<d)(n:L a<=cap)(p:cap<=VL)(q:L a<=1048576):
  VM prog 46 #[V3 c 0,qP e,qP d] w λg h=>g=V5 (.agg #[qP e,qP d,qP (brk ((a.drop e.toNat).take d.toNat))])/\qa3 w h:=by
 obtain⟨r,rfl⟩:=QY m;obtain⟨s,rfl⟩:=QY (show 0<=d by omega);exact Ka a c b o cap r s w i j k l VC VC n p q
def loadN(base)(zs)(b cap)(w)(A:zH w base (VZ (qQ b 0) (L zs) cap) zs)(n:L zs<=cap/\cap<=VL)(a7:L zs<=8192)(X:(PH zs).ok):
  VM prog 19 #[VZ (qQ b 0) (L zs) cap] w λl m=>∃i r s,l=V5 (V3 i 0)/\N (Y w)<=i/\i<N (Y m)/\m.heap[i]?=O (V6 #[VZ (qQ b 0) (L zs) (L zs),.pointer r] 101 (0,0))/\zM m (N (Y w)) (PH zs) r s/\s.Nodup/\i∉s/\qa3 w m:=by
 obtain⟨a8,a9,ba,bc,bd⟩:=kB Tryz.infoPC;have ad:=(A.lt b rfl).2;have p:=zC (λt=>Og (qQ b 0) _ cap t n.1 n.2);have q:=zC (We A);obtain⟨a,j⟩:∃a,a=L zs:=⟨_,rfl⟩
 have g:=zC j;rw[<- j]at a7 n p;rw[<- j];simp only[<- j]at q;clear j;go_enter func19,ntmps19;go_wp2_with fail;refine(p w).G ?_;rintro l d ⟨rfl,bf⟩;subst bf;have E:=zC ((xF _ d).alloc lR (V6 #[VZ (qQ b 0) a a,.pointer none] 101));have F:=zC (show(VF d (V6 #[VZ (qQ b 0) a a,.pointer none] 101)).heap[N (Y d)]?=O _ from xJ _ _);have bg:N (Y (VF d (V6 #[VZ (qQ b 0) a a,.pointer none] 101)))=N (Y d)+1:=VT
 go_wp2_with fail;generalize d.alloc _=e at*;have ae:=zC (λu v=>(E.U ad).R (q u v));have af:=zC (show e.cell? _=O (VZ _ a a)from(by rw[xH e _ 0 _ _ _ F.A];rfl));have ag:=zC (show Gt e (N (Y e)) _ (Wd zs 0)from⟨rfl,.inl ⟨rfl,rfl⟩⟩);have G:=zC (λaw ax t ay bq az a0 a1 a2 a3=>Sq zs (N (Y d)) b 0 a aw ax t ay VC az a0 a1 a2 a3 (by rw[<- g.A];omega) VC (by rw[<- g.A];omega));simp only[<- g.A]at G;clear p q n A;go_loopw [4,5] (λa4 x wr=>∃c:Nat,x=qP (16*c)/\16*c<a+16/\Gt wr (N (Y e)) a4 (Wd zs c)/\qa3 e wr) (λ_ x _=>a+16-(intOf x).toNat)
 case atStart=>exact⟨0,by rfl,VC,ag,xF _ _⟩
 obtain⟨c,rfl,br,Z,f⟩:=hrel;have H:=zC Z;have I:=zC f;have J:=f.size;clear Z;by_cases bl:16*c<a
 ·have ah:16*(c:Int)<a:=VC
  have K:=zC (λu v=>(f.U (by grind)).R (ae u v));have ai:=zC ((f.U (by simp_all)).R af);clear f;have M:(if a-16*(c:Int)<16 then a-16*(c:Int)else 16)=((Db a c):Int):=by unfold Db;split<;>omega
  have P:=zC (G (16*c) (if(a:Int)-16*c<16 then a-16*c else 16) wr K ai VC VC VC VC VC);have k:=zC (UN zs c (if a-16*(c:Int)<16 then a-16*c else 16) (by rw[<- g.A];exact M));clear M K;generalize brk _=bn at P k;have bh:c<=8192:=VC;go_wp2_with (first | (go_at_call 46;refine P.G ?_;rintro l aa ⟨rfl,B⟩;have Q:=zC (I.R (B.G J));have aj:=Q.size;have R:=zC (zE H B lR);have ak:=zC (λa5=>show(aa.alloc a5).ownsRow _ 85 3 _ c _ from(by have h:=R.A;rw[yh]at h;exact vV h _));have al:=zC (λa6=>za aa 85 a6);clear B) | (at_builtin;refine xX _ rfl _ _ 95 rfl _ 85 a8 _ 3 24 underlying95 a9 ba bc bd rfl VS _ c _ rfl (ak _) _ 1 1 (Yv _) rfl (by rw[k.A];rfl) (by rw[k.A];exact al _) (by rw[k.A];intro r U;simp at U;obtain rfl|rfl|rfl:=U<;>rfl) (by grind [VL]) VC VV ?_;intro ar au V W av;refine Qq ?_))
  all_goals
   refine Lib.hid ?_;have am:=zC (show Gt au _ ar (Wd zs _)from(by rw[Kc];exact UM (yh zs c) rfl V));have an:=zC ((Q.alloc aj _).grown W VV (λy z=>(R.lt y z).1));clear V W av;go_wp2;go_roundw
   case rel=>exact⟨_,by rfl,VC,am,an⟩
   grind [intOf]
 have ah:¬16*(c:Int)<a:=VC
 have S:c=(a+15)/16:=VC
 have HT:=zC (show PH zs=jK 8192 _ from(by unfold PH;rw[<- g.A,<- S]));have ao:=zC (Fj 8192 _ _ _ wr (by rw[yh];omega) (Gt.rd H) lR (by rw[yh];omega) (by rw[<- HT.A];exact X));clear S f X;generalize jK 8192 _=bp at*;go_wp2_with fail;refine ao.G ?_;rintro l o ⟨u5,ab,rfl,C,ac,D⟩;have ap:=zC ac;have aq:=zC (show N (Y d)∉ab from λh=>by have:=(C.lt _ h).1;omega);clear ac;have BX:=zC (I.R (D.G J));have K5:=zC ((BX.block _ VC).R F);have T:=zC C;have bi:=D.size;have bj:=xW o _ 1 _ _ K5;have bk:VE o (V4 (N (Y d)) 1)=O (.pointer none):=by rw[xH o _ 1 _ _ _ K5.A];rfl
 clear C D;go_wp2;refine vE (by simp[results,go_sem]) rfl ⟨_,u5,ab,rfl,lR,VV,?_,?_,ap,aq,?_⟩
 ·have h:=vf o _ 1 _ _ (.pointer u5) K5
  simp_all
 ·rw[HT.A]
  exact(zM.base VC T).frame (λy z=>xM _ _ _ _ (by have:=(T.lt y z).1;grind))
 exact(E.R (BX.G VC)).setCell VT _
def zC8:AT.nil.ok:=⟨(λb a=>by simp[AT.tF]at a),by simp[AT.rns]⟩
def loadZ(g:V8):
  VM prog 19 #[V0] g λe h=>∃f,e=V5 (V3 f 0)/\N (Y g)<=f/\h.heap[f]?=O (V6 #[V0,.pointer none] 101 (0,0))/\qa3 g h:=by
 have i:=zC (λb=>Og none 0 0 b lR (xY _));have j:=zC (fun(b:V8)=>Fj 0 [] (N (Y b)) V0 b lR (Gt.rd (show Gt b (N (Y b)) V0 []from⟨rfl,.inl ⟨rfl,rfl⟩⟩)) lR VT zC8);go_enter func19,ntmps19;go_wp2_with fail;refine(i _).G ?_;rintro e a ⟨rfl,r⟩;subst r;have k:=zC ((xF (N (Y a)) a).alloc lR (V6 #[V0,.pointer none] 101));have l:=zC (show(VF a (V6 #[V0,.pointer none] 101)).heap[N (Y a)]?=O (V6 #[V0,.pointer none] 101 (0,0))from xJ _ _);have u:N (Y (VF a (V6 #[V0,.pointer none] 101)))=N (Y a)+1:=VT
 go_wp2_with fail;generalize VF a (V6 #[V0,.pointer none] 101)=o at*;go_loopw [4,5] (λp q wr=>p= .slice none 0 0/\q=qP 0/\wr=o) (λ_ _ _=>0)
 case atStart=>exact⟨rfl,rfl,rfl⟩
 obtain⟨rfl,rfl,rfl⟩:=hrel;go_wp2_with fail;refine(j _).G ?_;rintro e c ⟨u5,z,rfl,s,t,d⟩;obtain⟨rfl,rfl⟩:=s;have K5:=zC ((d.block (N (Y a)) VC).R l);have m:=zC (k.R (d.G VC));have w:=d.size;have x:=xW c (N (Y a)) 1 _ _ K5;have y:VE c (V4 (N (Y a)) 1)=O (.pointer none):=by rw[xH c _ 1 _ _ _ K5.A];rfl
 clear d t;go_wp2;refine vE (v:=.pointer (qQ (N (Y a)) 0)) (by simp[results,results19,go_sem]) rfl ⟨N (Y a),rfl,lR,?_,m.setCell lR _⟩;have n:=vf c (N (Y a)) 1 _ _ (.pointer none) K5;simpa using n
abbrev Xc:=qa0×AT
def Xc.t(a:Xc):qa0:=a.2.tx a.1
theorem Xc.rns{a:Xc}(b:a.2.wp a.1):a.2.rns=L a.t:=by rw[<- AT.qg b];rfl
def WR(a:Xc)(c:Nat)(b:qa0):Xc:=(a.1++b,Jf (a.1++b) (L a.1) a.2 c)
def WS(a:Xc)(b c:Nat):Xc:=(a.1,YO a.1 a.2 b (b+c:Nat))
def Ji(a:qa0):Xc:=(a,if L a<=8192 then PH a else .tN .nil ⟨0,L a,0⟩ .nil)
def lodQ_t(ts):(Ji ts).t=ts:=by
 unfold Ji Xc.t;simp
 split
 ·grind [Gv]
 simp[AT.tx,Z7]
def DD{ts}(a:L ts<=8192):Ji ts=(ts,PH ts):=by grind [Ji]
structure VQ(a:Xc):Prop where
 ok:a.2.ok
 bal:a.2.bal
 wp:a.2.wp a.1
 n:L a.1<=220000
def VQ.nil:VQ ([],.nil):=⟨zC8,xN,xN,xY _⟩
theorem VQ.rns{s}(a:VQ s):s.2.rns=L s.t:=Xc.rns a.wp
def VQ.ins{s off ts}(a:VQ s)(f:off<=L s.t)(c:0<L ts)(g:L s.t+L ts<=8192)(h:L s.1+L ts<=220000):VQ (WR s off ts)/\(WR s off ts).t=s.t.take off++(ts++s.t.drop off):=by
 have e:=a.rns;obtain⟨d,i,_⟩:=FX (off:=off) a.ok a.wp VC VC c;have b:=Om (ts:=ts) (off:=off) a.ok a.wp VC VC;rw[kQ]at b;exact⟨⟨insP_ok a.ok (a.wp.app ts) VC VC (by grind) (by grind) (by grind),Rp a.bal,d,by grind [WR]⟩,b⟩
def VQ.rem{s off m}(a:VQ s)(g:off+m<=L s.t):VQ (WS s off m)/\(WS s off m).t=s.t.take off++s.t.drop (off+m):=by
 have f:=a.rns;obtain⟨c,d,e,_⟩:=Rx a.ok a.bal a.wp a.n (show(0:Int)<=(off:Nat)by omega) (show(off:Int)<=(off+m:Nat)by omega) VC;have b:=delP_tx a.ok a.bal a.wp a.n VC (show(off:Int)<=(off+m:Nat)by omega) VC;exact⟨⟨c,d,e,a.n⟩,b⟩
def VQ.lod{ts}(a:L ts<=8192):VQ (Ji ts)/\(Ji ts).t=ts:=by
 obtain⟨b,c,d,e⟩:=Ok ts a;rw[DD a];exact⟨⟨b,c,d,by grind⟩,Gv ts a⟩
structure CQ(w:V8)(Z:Nat->Prop)(c:Nat)(a:Xc)(d:Option Nat)(e:Jo)(u:qa1)(bs:List Nat):Prop where
 ps:PS w 0 c d e a.1 a.2 u bs
 v:VQ a
 bd:L a.t<=8192
 off:∀q,(q=c\/d=O q\/q∈bs)->¬Z q
 sh:d=none->∀b o l k,e= .slice (qQ b o) l k->Z b/\∃(cs:qa2)(f:Nat×Nat),w.heap[b]?=O (V6 cs 21 f)
def JT(a:V8)(b:Nat->Prop)(c:Nat)(d:Xc):Prop:=∃ob sv u bs,CQ a b c d ob sv u bs
def zM.ty{w base}:∀{T c b},zM w base T c b->∀d∈b,∃(g:qa2)(h:Nat×Nat),w.heap[d]?=O (V6 g 171 h)
 | .nil,c,b,i,d,e=>by rw[i.2]at e;cases e
 | .tN n o p,c,b,⟨d,q,r,s,t,u,v,j,k,l,m⟩,f,a=>by
  subst m;simp at a;obtain rfl|a|a:=a
  ·exact⟨_,_,j⟩
  ·exact k.ty f a
  exact l.ty f a
section
variable {w w':World} {Z Z':Nat->Prop} {c:Nat} {s:Xc} {ob:Option Nat} {sv:Value} {u:Option Addr} {bs:List Nat}
def CQ.lt(b:CQ w Z c s ob sv u bs){q}(a:q=c\/ob=O q\/q∈bs):q<N (Y w):=by
 obtain rfl|a|a:=a
 ·exact(xG.1 b.ps.k).1
 ·obtain⟨d,e⟩|⟨d,_⟩:=b.ps.st
  ·exact(d.lt q (e.R a)).2
  grind
 exact(b.ps.t.lt q a).2
def CQ.ty(e:CQ w Z c s ob sv u bs){q}(d:q=c\/ob=O q\/q∈bs):∃(a:qa2)(g:TypeId)(b:Nat×Nat),w.heap[q]?=O (V6 a g b)/\g∉Wb:=by
 obtain rfl|d|d:=d
 ·exact⟨_,_,_,e.ps.k,VS⟩
 ·obtain⟨h,i⟩|⟨h,_⟩:=e.ps.st
  ·obtain⟨a,b,f⟩:=jg h (i.R d)
   exact⟨a,_,b,f,VS⟩
  grind
 obtain⟨a,b,f⟩:=e.ps.t.ty q d;exact⟨a,_,b,f,VS⟩
def CQ.keep(b:CQ w Z c s ob sv u bs)(n:∀(a:Nat)(f)(m)(g),w.heap[a]?=O (V6 f m g)->m∉Wb->w'.heap[a]? =w.heap[a]?)(x:∀a,Z a->Z' a)(y:∀a,Z' a->(a=c\/ob=O a\/a∈bs)->Z a):CQ w' Z' c s ob sv u bs:=by
 have l:∀a,(a=c\/ob=O a\/a∈bs)->w'.heap[a]? =w.heap[a]?:=λa d=>by
  obtain⟨f,m,g,j,ht⟩:=b.ty d
  grind
 refine⟨⟨(l c (.inl rfl)).R b.ps.k,b.ps.t.frame (λa d=>l a (.inr (.inr d))),b.ps.nd,b.ps.cb,?_,b.ps.sb,b.ps.n⟩,b.v,b.bd,λa d o=>b.off a d (y a o d),λj h k p q r=>?_⟩
 ·obtain⟨i,e⟩|⟨i,h,k,e,z⟩:=b.ps.st
  ·exact .inl ⟨zD i (λa d=>l a (.inr (.inl (e.J.R d)))),e⟩
  obtain⟨_,f,g,j⟩:=b.sh i h k _ _ e;exact .inr ⟨i,h,k,e,λt v=>(vO (n h f _ g j VS)).R (z t v)⟩
 obtain⟨i,f,g,e⟩:=b.sh j h k p q r;exact⟨x h i,f,g,(n h f _ g e VS).R e⟩
theorem JT.step(b:JT w Z c s)(g:KN Wb w w')(h:∀a,Z a->Z' a)(i:∀a,Z' a->Z a\/N (Y w)<=a):JT w' Z' c s:=by
 obtain⟨ob,sv,u,bs,b⟩:=b;refine⟨ob,sv,u,bs,b.keep (λa j k l d ht=>g.ty d ht) h (λa e f=>(i a e).elim id (λm=>?_))⟩;have:=b.lt f;omega
def JT.turn(a:JT w Z c s)(h:KA w w'):JT w' Z c s:=by
 obtain⟨ob,sv,u,bs,a⟩:=a;exact⟨ob,sv,u,bs,a.keep (λb d e f g _=>h.block b d e f g) (λ_ a=>a) (λ_ a _=>a)⟩
def JT.more(b:JT w Z c s)(i:∀a,Z a->Z' a)(j:∀a,Z' a->Z a\/∃(e:qa2)(d:TypeId)(f:Nat×Nat),w.heap[a]?=O (V6 e d f)/\d∈Wb):JT w Z' c s:=by
 obtain⟨ob,sv,u,bs,b⟩:=b;refine⟨ob,sv,u,bs,b.keep (λ_ _ _ _ _ _=>rfl) i (λa g h=>(j a g).elim id (λ⟨e,d,f,k,ht⟩=>?_))⟩;obtain⟨l,m,n,o,p⟩:=b.ty h
 simp_all
def Sr{l}(e:CQ w Z c s ob sv u bs)(b:zr l w w')(f:∀a∈l,a=c\/ob=O a\/a∈bs):KK Wb Z w w':=
 ⟨b.os,b.tape,b.output,b.size,λa g h=>b.block a g (λd=>by
  obtain⟨j,k,m,n,o⟩:=e.ty (f a d);obtain i|⟨p,q,r,t,ht⟩:=h
  ·exact e.off a (f a d) i
  grind)⟩
def Ss{v ts}(g:TX w Z v ts)(l:0<L ts):∃f i,v= .slice (qQ f 0) (L ts) i/\∀a c,(zQ .i32 ts)[a]?=O c->VE w (((V4 f 0):Addr).add a)=O c:=by
 obtain⟨e,m⟩|⟨j,k,n,rfl,_,o,p,q,_⟩:=id g.1.2
 ·omega
 refine⟨j,k,rfl,λa c b=>?_⟩;have d:=by have:=(xS.1 b).1;rw[zc]at this;exact this
 have e:c= .int .i32 (ts.getD a 0):=by
  simp only[zQ,vZ]at b;rw[xI d]at b;simp at b;rw[<- b];simp[vv,d]
 rw[e];have h:=jN g.1 a d;rw[zR,vg];exact h
def cInsQ{v ts off}(a:JT w Z c s)(m:∀b,Z b->b<N (Y w))(n:TX w Z v ts)(j:0<L ts)(o:off<=L s.t)(p:L s.t+L ts<=8192)(q:L s.1+L ts<=220000):
  VM prog 238 #[V3 c 0,qP off,v] w λd w'=>d=V5 (.tuple #[])/\JT w' Z c (WR s off ts)/\KK Wb Z w w':=by
 obtain⟨ob,sv,u,bs,a⟩:=a;obtain⟨I,r,rfl,t⟩:=Ss n j
 obtain⟨h,i,rfl⟩:∃h i,sv= .slice h (L s.1) i:=by
  obtain⟨k,x⟩|⟨k,J,K,x,M⟩:=a.ps.st
  ·obtain⟨d,P⟩|⟨Q,y,R,d,_⟩:=k.2
   ·simp_all
   simp_all
  simp_all
 have G:=a.v.rns;refine(insertO s.1 ts s.2 u bs 0 c r h i ob off _ w a.ps a.v.ok a.v.bal a.v.wp VC VC (xY _) j VC VC t).G ?_;rintro d w' ⟨rfl,z,A,S,y,B,C,D,E⟩
 have l:∀b∈c::(ob.toList++bs),b=c\/ob=O b\/b∈bs:=λb e=>by
  simp_all
 obtain⟨F,T⟩:=a.v.ins o j p q;refine⟨rfl,⟨_,_,z,A,B,F,by grind,λb e g=>?_,λd=>by cases d⟩,Sr a E l⟩;have H:=m b g;obtain rfl|e|e:=e
 ·exact a.off _ (.inl rfl) g
 ·obtain f|f:=D
  ·exact a.off b (.inr (.inl (f.R e))) g
  grind
 obtain f|f:=C b e
 ·exact a.off b (.inr (.inr f)) g
 omega
def CQ.blk(b:CQ w Z c s ob sv u bs)(p:∀l,Z l->l<N (Y w))(x:sv≠ .slice none 0 0):∃a d i,sv= .slice (qQ a d) (L s.1) i/\a∉bs/\a≠c/\Hd w a d s.1/\a<N (Y w)/\L s.1<=i/\i<=VL:=by
 obtain⟨e,g⟩|⟨e,a,d,g,q⟩:=b.ps.st
 ·obtain⟨f,y⟩|⟨j,r,z,f,_,_,t,v,_⟩:=e.2
  ·simp_all
  subst f;have k:=b.ps.sb j (by rw[<- g];rfl);exact⟨j,0,r,rfl,k.1,k.2,λm n=>by rw[vg];exact jN e m n,(e.lt j rfl).2,t,v⟩
 have h:=(b.sh e a d _ _ g).1;exact⟨a,d,_,g,λo=>b.off a (.inr (.inr o)) h,λf=>b.off a (.inl f) h,q,p a h,lR,by have:=b.ps.n;grind [VL]⟩
def CQ.nil(a:CQ w Z c s ob V0 u bs):s.1= []/\s.2= .nil/\u=none:=by
 have b:s.1= []:=by
  obtain⟨f,g⟩|⟨f,h,i,g,j⟩:=a.ps.st
  ·obtain⟨_,k⟩|⟨l,m,n,b,_⟩:=f.2
   ·simp_all
   grind
  cases g
 have d:=Sn a.v.ok (by have:=a.v.wp;rw[b]at this;exact this);have e:=a.ps.t;rw[d]at e;exact⟨b,d,e.1⟩
def cRemQ{e m ct aT}(a:JT w Z c s)(I:∀b,Z b->b<N (Y w))(ab:0<m)(J:e+m<=L s.t):
  VM prog 244 #[V3 c 0,qP e,VZ aT m ct] w λg w'=>g=V5 (.tuple #[])/\JT w' Z c (WS s e m)/\KK Wb Z w w':=by
 obtain⟨ob,sv,u,bs,a⟩:=a;have X:=a.v.rns
 have z:sv≠ .slice none 0 0:=λg=>by
  subst g;obtain⟨ac,p,_⟩:=a.nil
  grind [AT.rns]
 obtain⟨o,q,r,rfl,K,M,P,t,Q,R⟩:=a.blk I z;have A:PM w 0 c o q r s.1 s.2 u bs:=⟨a.ps.k,a.ps.t,a.ps.nd,a.ps.cb,K,M,P,t,Q,R,a.ps.n⟩
 refine(removeC s.1 s.2 u bs 0 c o q r m ct aT e w A a.v.ok a.v.bal a.v.wp VC VC (xY _)).G ?_;rintro g w' ⟨rfl,S,T,h,v,x⟩;obtain⟨U,V⟩:=a.v.rem J
 have B:=x.block o t (λf=>by
  simp_all)
 have aa:=a.bd;have C:(e:Int)+m=((e+m:Nat)):=VC
 rw[C]at h
 have D:L (WS s e m).t<=8192:=by
  rw[V];simp only[xL,xO,xZ];omega
 refine⟨rfl,⟨ob,_,S,T,⟨h.k,h.t,h.nd,h.cb,?_,?_,h.n⟩,U,D,?_,?_⟩,Sr a x (λb d=>(vC.1 d).imp id .inr)⟩
 ·obtain⟨k,i⟩|⟨k,l,n,i,y⟩:=a.ps.st
  ·exact .inl ⟨zD k (λb d=>by grind [VD,Option.some.injEq]),i⟩
  refine .inr ⟨k,l,n,i,λG H=>?_⟩;simp only[kL,xP,QW]at i;obtain⟨⟨rfl,rfl,_⟩,_⟩:=i;exact(vO B).R (y G H)
 ·intro b d
  have f:=a.ps.sb b d;refine⟨λj=>?_,f.2⟩;obtain W|W:=v b j
  ·grind
  have:=a.lt (.inr (.inl d));omega
 ·intro b d f
  obtain rfl|d|d:=d
  ·exact a.off _ (.inl rfl) f
  ·exact a.off b (.inr (.inl d)) f
  obtain j|j:=v b d
  ·exact a.off b (.inr (.inr j)) f
  grind
 intro g l n E F p;obtain⟨k,ad,ae,y⟩:=a.sh g l n E F p
 grind
def CQ.so(e:CQ w Z c s ob sv u bs):∃d b,sv= .slice d (L s.1) b/\Me w d (L s.1) b s.1/\(d=none\/L s.1<=b/\b<=VL):=by
 have r:=e.ps.n;obtain⟨a,f⟩|⟨a,g,h,f,m⟩:=e.ps.st
 ·obtain⟨i,n⟩|⟨j,t,v,i,_,_,o,p,_⟩:=id a.2
  ·exact⟨none,0,by grind,⟨rfl,.inl ⟨rfl,n,rfl⟩⟩,.inl rfl⟩
  subst i;exact⟨_,_,rfl,⟨rfl,.inr ⟨j,0,rfl,(a.lt j rfl).2,λk l=>by rw[vg];exact jN a k l⟩⟩,.inr ⟨o,p⟩⟩
 subst f;obtain⟨_,x,y,q⟩:=e.sh a g h _ _ rfl;exact⟨_,_,rfl,⟨rfl,.inr ⟨g,h,rfl,(xG.1 q).1,m⟩⟩,.inr ⟨lR,by grind [VL]⟩⟩
def CQ.pc(a:CQ w Z c s ob sv u bs):∃b d g,JS w 0 c b d g s.1 s.2:=by
 obtain⟨o,h,rfl,⟨_,⟨rfl,e,rfl⟩ | ⟨b,d,rfl,i,j⟩⟩,f⟩:=a.so
 ·have k:=xR e
  exact⟨c,0,0,⟨u,bs,.inr ⟨e,by have:=a.ps.k;simp_all⟩,a.ps.t⟩,λm n=>VC,a.lt (.inl rfl),a.v.ok,a.v.wp,VC⟩
 have l:=a.ps.n;exact⟨b,d,h,⟨u,bs,.inl a.ps.k,a.ps.t⟩,j,i,a.v.ok,a.v.wp,VC,(f.resolve_left VT).1,(f.resolve_left VT).2⟩
def JT.pc(a:JT w Z c s):(∃b d e,JS w 0 c b d e s.1 s.2)/\s.2.rns=L s.t/\L s.t<=8192/\s.2.wp s.1/\s.2.ok:=by
 obtain⟨ob,sv,u,bs,a⟩:=a;exact⟨a.pc,a.v.rns,a.bd,a.v.wp,a.v.ok⟩
def JT.lt(a:JT w Z c s):c<N (Y w):=by
 obtain⟨ob,sv,u,bs,a⟩:=a;exact a.lt (.inl rfl)
def JT.bel(a:JT w Z c s)(b:qa3 w w'):JT w' Z c s/\KK Wb Z w w':=⟨a.step (KN.of b) (λ_ a=>a) (λ_ a=>.inl a),KK.of b⟩
def cLenQ(b:JT w Z c s):VM prog 239 #[V3 c 0] w λa w'=>a=V5 (qP (L s.t))/\qa3 w w':=by
 obtain⟨⟨d,e,f,g⟩,h,_⟩:=b.pc;have:=Oo s.2 0 c d e f s.1 w g;rw[h]at this;exact this
def cBrkQ(b:JT w Z c s):VM prog 237 #[V3 c 0] w λa w'=>a=V5 (qP (brk s.t))/\qa3 w w':=by
 obtain⟨⟨d,e,f,g⟩,i,_,h,_⟩:=b.pc;have:=Ot s.2 0 c d e f s.1 w g;rw[<- AT.qD h]at this;exact this
def cSliQ{lo hi}(d:JT w Z c s)(j:lo<=hi)(k:hi<=L s.t):VM prog 245 #[V3 c 0,qP lo,qP hi] w λb w'=>∃a,b=V5 a/\zH w' (N (Y w)) a ((s.t.take hi).drop lo)/\qa3 w w':=by
 obtain⟨⟨e,f,g,h⟩,l,_⟩:=d.pc;refine(sliceN s.2 0 c e f g s.1 lo hi w h VC).G ?_;rintro b w' ⟨a,rfl,m,n⟩
 have i:YQ (s.2.tx s.1) lo hi=(s.t.take hi).drop lo:=by
  rw[YQ,kQ,kQ,List.drop_take];rfl
 simp_all
def cColQ{off}(b:JT w Z c s)(f:off<=L s.t):
  VM prog 240 #[V3 c 0,qP off] w λa w'=>a=V5 (.tuple #[qP (J9 s.t off),qP (XM s.t off)])/\JT w' Z c s/\KK Wb Z w w':=by
 obtain⟨⟨g,h,i,j⟩,k,_⟩:=b.pc;exact(So s.2 0 c g h i s.1 off w j f).G λa w'⟨d,e⟩=>⟨d,b.bel e⟩
def cLinQ{a:Nat}(h:JT w Z c s)(i:a<=brk s.t):VM prog 241 #[V3 c 0,qP a] w λf w'=>∃d:Nat,f=V5 (qP d)/\d<=8192/\(∀b:Int,0<=ZV s.t a b↔0<=b/\b<=d)/\qa3 w w':=by
 obtain⟨⟨j,k,l,m⟩,p,q,_⟩:=h.pc;have e:=i;rw[yr]at e;have o:=OQ s.t a
 have g:ls s.t a<=le s.t a/\le s.t a<=L s.t:=by
  unfold le
  split
  ·grind [Y3,OV,Ha]
  omega
 refine(Fi s.2 0 c j k l s.1 a w m (Int.ofNat_le.1 e)).G ?_;rintro f w' ⟨rfl,n⟩;refine⟨_,by rw[Int.ofNat_sub g.1];rfl,VC,λb=>?_,n⟩
 grind [ZV,Int.toNat_natCast]
def cOffQ{a f:Nat}{col}(g:JT w Z c s)(b:ZV s.t a col=f):VM prog 243 #[V3 c 0,qP a,qP col] w λe w'=>e=V5 (qP f)/\JT w' Z c s/\KK Wb Z w w':=by
 obtain⟨⟨i,j,k,l⟩,o,p,_⟩:=g.pc;unfold ZV at b;rw[kQ]at b
 split at b
 ·rename_i h
  have d:=h.2.1;rw[yr]at d
  have n:le s.t a<=L s.t:=by
   unfold le
   split
   ·grind [Y3]
   omega
  refine(offsetN s.2 0 c i j k s.1 a col w l (Int.ofNat_le.1 d) VC).G ?_;rintro e w' ⟨rfl,m⟩;exact⟨by rw[<- b];rfl,g.bel m⟩
 omega
def LdQ(g c:V8)(h:Jo)(a:qa0)(d:Nat):Prop:=∃sv u bs,c.heap[d]?=O (V6 #[sv,.pointer u] 101 (0,0))/\(sv= .slice none 0 0/\a= []\/∃b e f,h= .slice (qQ b 0) e f/\sv= .slice (qQ b 0) (L a) (L a))/\zM c (N (Y g)) (PH a) u bs/\bs.Nodup/\d∉bs
def Su{v ts}(f:zH w 0 v ts)(g:L ts<=8192):VM prog 19 #[v] w λa w'=>∃b,a=V5 (V3 b 0)/\N (Y w)<=b/\LdQ w w' v ts b/\qa3 w w':=by
 obtain⟨rfl,j⟩|⟨h,k,r,rfl,_,i,d,e,_⟩:=id f.2
 ·have:=xR j
  subst this;refine(loadZ w).G ?_;rintro a w' ⟨c,rfl,l,d,e⟩;exact⟨c,rfl,l,⟨_,none,[],d,.inl ⟨rfl,rfl⟩,⟨rfl,rfl⟩,List.nodup_nil,VT⟩,e⟩
 obtain⟨m,s,t,x⟩:=Ok ts g;refine(loadN 0 ts h k w f ⟨d,e⟩ g m).G ?_;rintro a w' ⟨c,u,bs,rfl,n,y,o,ht,p,q,i⟩;exact⟨c,rfl,n,⟨_,u,bs,o,.inr ⟨h,_,_,rfl,rfl⟩,ht,p,q⟩,i⟩
theorem Sv{W v ts c'}(i:TX w Z v ts)(C:LdQ w w' v ts c')(r:qa3 w w')(s:L ts<=8192)(t:∀b,Z b->b<N (Y w))(D:¬Z c)(x:c=c'\/c<N (Y w))(E:∀sv u,w'.heap[c']?=O (V6 #[sv,.pointer u] 101 (0,0))->W.heap[c]?=O (V6 #[sv,.pointer u] 101 (0,0)))(m:∀b,b≠c->W.heap[b]? =w'.heap[b]?):JT W Z c (Ji ts):=by
 obtain⟨sv,u,bs,F,G,n,H,J⟩:=C;have j:=(VQ.lod s).1
 have p:c∉bs:=λf=>by
  obtain rfl|x:=x
  ·grind
  have:=(n.lt c f).1;omega
 have y:∀b∈bs,b≠c:=λb e d=>p (d▸e)
 have z:∀a g h,v= .slice (qQ a 0) g h->Z a/\a≠c/\a<N (Y w)/\∃(k:qa2)(l:Nat×Nat),W.heap[a]?=O (V6 k 21 l):=λa g h d=>by
  subst d;have f:=i.2 a rfl;have q:a≠c:=λd=>D (d▸f)
  obtain⟨k,l,o⟩:=jg i.1 (q:=a) rfl;exact⟨f,q,t a f,k,l,(m a q).R ((r.block a (t a f)).R o)⟩
 rw[DD s]at j |-;refine⟨none,sv,u,bs,⟨E _ _ F,?_,H,p,?_,(λb e=>by cases e),j.n⟩,j,?_,?_,?_⟩
 ·exact zM.base (xY _) (n.frame (λb e=>m b (y b e)))
 ·obtain⟨rfl,rfl⟩|⟨a,g,h,d,rfl⟩:=G
  ·exact .inl ⟨⟨rfl,.inl ⟨rfl,rfl⟩⟩,rfl⟩
  refine .inr ⟨rfl,a,0,rfl,λA B=>?_⟩;obtain⟨K,I,o,_⟩:=z a g h d;subst d;refine(vO ((m a I).R (r.block a o))).R ?_;rw[vg];obtain⟨d,_⟩|⟨M,P,Q,d,_⟩:=i.1.2
  ·cases d
  simp only[kL,xP,QW]at d;obtain⟨⟨rfl,_⟩,rfl,rfl⟩:=d;exact jN i.1 A B
 ·grind [Xc.t,PH,Gv]
 ·intro b e f
  obtain rfl|e|e:=e
  ·grind
  ·cases e
  have:=(n.lt b e).1
  grind
 grind
def cLodQ{v ts}(h:JT w Z c s)(I:∀a,Z a->a<N (Y w))(l:TX w Z v ts)(D:L ts<=8192):
  VM prog 242 #[V3 c 0,v] w λe w'=>e=V5 (.tuple #[])/\JT w' Z c (Ji ts)/\KK Wb Z w w':=by
 have y:=zC (Su l.1 D);obtain⟨ob,R,u0,S,h⟩:=h;have z:=h.lt (.inl rfl);have A:=h.off c (.inl rfl);have m:=zC h.ps.k;obtain⟨T,U,J⟩:=zS l.1;subst J
 have B:=zC (show ∀(w' b:V8)(f:Nat),N (Y w)<=f->LdQ w w' _ ts f->Below _ w w'->(∀sv u,w'.heap[f]?=O _->b.heap[c]?=O _)->(∀a,a≠c->b.heap[a]? =w'.heap[a]?)->N (Y w')=N (Y b)->b.os=w'.os/\b.tape=w'.tape/\b.output=w'.output->JT b Z c _/\KK Wb Z w b from λw' b f n j d g k P o=>by
  refine⟨Sv l j d D I A (.inr z) g k,o.1.R d.os,o.2.1.R d.tape,o.2.2.R d.output,by have:=d.size;omega,λa p H=>?_⟩
  have E:a≠c:=λe=>by
   subst e;obtain V|⟨W,X,aa,e,ht⟩:=H
   ·grind
   rw[m.A]at e;simp at e;rw[<- e.2.1]at ht;exact absurd ht VS
  exact(k a E).R (d.block a p))
 clear h l A;go_enter func242,ntmps242;go_wp2_with fail;refine y.G ?_;rintro e i ⟨f,rfl,n,j,d⟩;have F:=zC (λb=>B i b f n j d);have C:=zC ((d.block c z).R m);obtain⟨sv,u,bs,g,k,_⟩:=j
 obtain⟨q,r,t,rfl⟩:∃q r t,sv= .slice q r t:=by
  grind
 have K:VE i (V4 f 0)=O (VZ q r t):=by rw[xH i _ 0 _ _ _ g];rfl
 have M:VE i (V4 f 1)=O (.pointer u):=by rw[xH i _ 1 _ _ _ g];rfl
 have G:=zC g;clear n d g k y B m;go_wp2_with (refine yE rfl 101 _ _ rfl c _ _ 101 rfl rfl C VU rfl (by simp[Value.oneCell']) ?_);go_end0;exact⟨rfl,F _ (λQ u9 x=>by rw[G.A]at x;simp only[xP,kl]at x;rw[<- x.1];exact QH _ _ _ _ _ _ C) (λa p=>kD _ _ a _ p) VT ⟨rfl,rfl,rfl⟩⟩
def Sw:Ji []=([],.nil):=by rfl
def cTelQ(a:JT w Z c s):VM prog 22 #[V3 c 0] w λe w'=>∃b d,e=V5 (.agg #[b,d])/\zH w' (N (Y w)) b s.1/\zL w' (N (Y w)) d (s.2.tT 0)/\qa3 w w':=by
 obtain⟨ob,sv,u,bs,a⟩:=a;obtain⟨f,g,rfl,h,_⟩:=a.so;have i:=a.v.n;exact tellPO s.1 s.2 u bs 0 c f g w h VC a.ps.t a.v.ok a.ps.k
end
noncomputable def zBv:KX where
 ty:=63
 σ:=Xc
 tx:=Xc.t
 nil:=([],.nil)
 ins:=WR
 rem:=WS
 lod:=Ji
 see:=fun s _=>s
 kno:=fun s _=>s
 Cr:=JT
 fLen:=239
 fBrk:=237
 fIns:=238
 fRem:=244
 fSli:=245
 fLod:=242
 fCol:=240
 fOff:=243
 fLin:=241
 siz:=fun s=>s.1.length
 sNil:=rfl
 sIns:=fun s off ts=>by simp [WR]
 sRem:=fun s off m=>lR
 sLod:=fun ts=>lR
 sSee:=fun s off=>lR
 sKno:=fun s off=>lR
 mth:=fun c w=>⟨by kernel_rfl,by kernel_rfl,by kernel_rfl,by kernel_rfl,by kernel_rfl,by kernel_rfl,by kernel_rfl,by kernel_rfl,by kernel_rfl⟩
 ent:=fun f hf=>by
  simp at hf;rcases hf with rfl | rfl | rfl | rfl | rfl | rfl | rfl | rfl | rfl
  ·simp
  ·simp
  ·simp
  ·simp
  ·simp
  ·simp
  ·simp
  ·simp
  simp
 lt:=fun h=>⟨h.lt,h.pc.2.2.1⟩
 step:=fun h hk hz=>JT.step h hk hz
 turn:=fun h hk=>JT.turn h hk
 more:=fun h hz=>JT.more h hz
 cLen:=fun h=>cLenQ h
 cBrk:=fun h=>cBrkQ h
 cIns:=fun h hz hT h0 ho hr hs=>cInsQ h hz hT h0 ho hr hs
 tIns:=fun {w Z c s ts off} h ho hr=>by
  obtain⟨ob,sv,u,bs,h⟩:=h;have h5:=Om (ts:=ts) (off:=off) h.v.ok h.v.wp (by omega) (by have:=h.v.rns;omega);rw [kQ]at h5;exact h5
 cRem:=fun h hz h0 ho=>cRemQ h hz h0 ho
 tRem:=fun {w Z c s off m} h ho=>by
  obtain⟨ob,sv,u,bs,h⟩:=h;exact(h.v.rem ho).2
 cSli:=fun h h1 h2=>cSliQ h h1 h2
 cLod:=fun h hz hT hn=>cLodQ h hz hT hn
 tLod:=lodQ_t
 cCol:=fun h hz ho=>cColQ h ho
 tSee:=fun h ho=>rfl
 cLin:=fun h hl=>cLinQ h hl
 cOff:=fun h hz ho=>cOffQ h ho
 brkO:=fun {w Z c s line col} h ho=>by
  grind [ZV]
 tKno:=fun h hl=>rfl
def T2(a:V8)(b:Nat)(c d:Jo)(e:TypeId):Prop:=a.heap[b]?=O (V6 #[c,d] e (0,0))
def T2.c{w b x y t}(a:T2 w b x y t):VE w (V4 b 0)=O x/\VE w (V4 b 1)=O y:=by
 refine⟨?_,?_⟩<;>rw[xH w b _ _ _ _ a]<;>rfl
def T2.fz{w b x y t}(a:T2 w b x y t)(j):w.frozen? (V4 b j)=false:=xW w b j _ _ a
def T2.lt{w b x y t}(a:T2 w b x y t):b<N (Y w):=(xG.1 a).1
theorem T2.I{B w w' b x y t}(a:T2 w b x y t)(c:Below B w w')(d:b<B):T2 w' b x y t:=(c.block b d).R a
theorem T2.new(a:V8)(x y)(t):T2 (VF a (V6 #[x,y] t)) (N (Y a)) x y t:=xJ a _
def Ft(B)(w)(b):Below B w (w.drewN b):=by
 induction b generalizing w with
 | zero=>exact xF _ _
 | succ b a=>exact⟨(a _).os,(a _).tape,(a _).output,(a _).size,(a _).block⟩
def U0{b f:V8}{g k c h i l j m:Nat}{v v' xs xs'}(d:b.ownsRow g c i v j xs)(n:b.ownsRow k h l v' m xs')(q:c≠h)(o:b.grownBy f (VD v')):f.ownsRow g c i v j xs:=by
 refine zD d (λe a=>o.block e (d.lt e a).2 (λp=>?_));obtain⟨rfl,_⟩|⟨r,s,t,rfl,_,u,_⟩:=d.2
 ·grind [VD]
 simp only[VD,xP]at a;subst a;obtain⟨rfl,_⟩|⟨w,x,y,rfl,_,z,_⟩:=n.2
 ·grind [VD]
 grind [VD,Option.some.injEq]
def eqPBL(f b)(zs)(xs)(v t v' t')(a)(c:zH a f v zs)(d:zH a f v' zs)(j:zL a b t xs)(k:zL a b t' xs)(ab:L zs<=1048576)(T:L xs<=1048576):
  VM prog 24 #[.agg #[v,t],.agg #[v',t']] a λi M=>i=V5 (.bool true)/\qa3 a M:=by
 have e:=zC (((xF _ a).alloc lR (V6 #[v,t] 30)).alloc VT (V6 #[v',t'] 30));have V:=e.size;have u:=zC (zE c e lR);have w:=zC (zE d e lR);have x:=zC (show zL _ b t xs from zE j e lR);have y:=zC (show zL _ b t' xs from zE k e lR);obtain⟨l,m,rfl⟩:=zS c;obtain⟨n,o,rfl⟩:=zS d;obtain⟨p,q,rfl⟩:=yg j;obtain⟨r,s,rfl⟩:=yg k;have z:=zC (show T2 (VF (a.alloc _) (V6 #[VZ n (L zs) o,VZ r (L xs) s] 30)) _ (VZ l (L zs) m) (VZ p (L xs) q) 30 from(kX _ _ _ VT).R (xJ _ _));have A:=zC ((by have B:=T2.new (VF a (V6 #[VZ l (L zs) m,VZ p (L xs) q] 30)) (VZ n (L zs) o) (VZ r (L xs) s) 30;rw[Qt]at B;exact B));have E:=zC (λa c d=>eq32 zs (VZ l (L zs) m) (VZ n (L zs) o) a c d VC);have F:=zC (λf b a c d P Q=>eqTreeL f b xs (VZ p (L xs) q) (VZ r (L xs) s) a c d P Q T);clear c d j k;generalize J:L zs=Z at*;generalize K:L xs=aa at*;clear J K;go_enter func24,ntmps24;go_wp2_with fail;refine(E _ (Rd.qe u) (Rd.qe w)).G ?_;rintro i g ⟨rfl,U,h⟩;have C:=zC (h▸Ft (N (Y a)) _ U);have G:=zC (show zL g b _ xs from zD x (λR S=>by simp_all));have H:=zC (show zL g b _ xs from zD y (λR S=>by simp_all));have W:=(T2.c (show T2 g _ _ _ _ from(by rw[h];unfold T2;rw[World.heap_drewN];exact z))).2;have X:=(T2.c (show T2 g _ _ _ _ from(by rw[h];unfold T2;rw[World.heap_drewN];exact A))).2;clear h u w x y z A;go_wp2_with fail;refine(F _ _ _ (zL.rd G) (zL.rd H) lR lR).G ?_;rintro i ac ⟨rfl,D⟩;have I:=zC ((e.R C).R (D.G (by have:=C.size;omega)));clear D;go_wp2;go_ret;exact⟨rfl,I⟩
def LM(base)(zs)(xs)(v t)(k0)(b)(e:zH b base v zs)(f:zL b base t xs)(S:base<=N (Y b))(aa:L zs<=1048576)(T:L xs<=1048576)(U:0<=k0)(ab:k0<=17179869184):
  VM prog 28 #[.agg #[v,t],qP k0] b λd h=>d=V5 (qP (k0+L zs+4*L xs))/\zH h base v (marks .i32 k0 (L zs))/\zL h base t (UZ (k0+L zs) (L xs))/\Below base b h/\(∀a,a<N (Y b)->VD v≠O a->VD t≠O a->h.heap[a]? =b.heap[a]?):=by
 have m:=zC ((xF base b).alloc S (V6 #[v,t] 30));have k:=zC (vV e (V6 #[v,t] 30));have n:=zC (show zL _ base t xs from vV f (V6 #[v,t] 30));have o:=zC (T2.new b v t 30);have z:N (Y b)<N (Y (VF b (V6 #[v,t] 30))):=VT
 have p:=zC (λa c=>e.lt a c);have A:=zC (λa c=>f.lt a c);have B:=zC (λa c=>(kX b (V6 #[v,t] 30) a c));have C:=zC (λb l=>Rf zs v base (L zs) k0 b l VC U VC);have D:=zC (λb l=>TE xs t base (k0+L zs) b l T VC VC);obtain⟨V,W,rfl⟩:=zS e;obtain⟨u,w,rfl⟩:=yg f;clear e f;generalize M:L zs=Q at*;generalize P:L xs=s at*;clear M P;go_enter func28,ntmps28;go_wp2_with fail;generalize b.alloc _=R at*;refine(C R k).G ?_;rintro d i ⟨rfl,x,g⟩;have E:=zC (m.grown g VC (λa c=>(p a c).1));have q:=zC (show zL i base _ xs from U0 n k VS g);have F:=zC x;have G:=zC (λa c(e:VD (Value.slice V Q W)≠O a)=>(g.block a VC (λd=>e d.J)).R (B a c));have X:=g.size;have r:=(g.block _ z (λd=>by have:=(p _ d.J).2;omega)).R o;have Z:VE i (V4 (N (Y b)) 1)=O (VZ u s w):=by rw[xH i _ 1 _ _ _ r];rfl
 clear x g k n m r o;go_wp2_with fail;refine(D i q).G ?_;rintro d ac ⟨rfl,y,j⟩;have H:=zC (E.grown j VC (λa c=>(A a c).1));have I:=zC (U0 F q VS j);have J:=zC y;have K:=zC (λa c e(f:VD (Value.slice u s w)≠O a)=>(j.block a VC (λd=>f d.J)).R (G a c e));clear y j;go_wp2;go_ret;refine⟨rfl,?_,J,H,K⟩;unfold zH;rw[yp];exact I
def LU(base)(n m)(v t)(k0)(a)(e:zH a base v (marks .i32 k0 n))(f:zL a base t (UZ (k0+n) m))(D:n<=1048576)(x:m<=1048576)(y:0<=k0)(E:k0<=17179869184):
  VM prog 30 #[.agg #[v,t],qP k0] a λc s=>c=V5 (qP (k0+n+4*m))/\qa3 a s:=by
 have b:=zC ((xF _ a).alloc lR (V6 #[v,t] 30));have i:=zC (zE e b lR);have j:=zC (show zL _ base t _ from zE f b lR);have k:=zC (T2.new a v t 30);have l:=zC (λa d=>Rg v n k0 a d VC y VC);have o:=zC (λu a d w=>TF u t m (k0+n) a d w x VC VC);have p:=b.size;have A:¬ (k0+n)<0:=VC
 have B:¬ (k0+n+4*m)<0:=VC
 obtain⟨F,G,rfl⟩:=zS e;obtain⟨H,I,rfl⟩:=yg f;rw[yp,JF]at *;clear e f;go_enter func30,ntmps30;go_wp2_with fail;generalize a.alloc _=g at*;refine(l g (Rd.qe i)).G ?_;rintro c J ⟨rfl,z⟩;have q:=z.J;subst q;have C:=(T2.c k).2;go_wp2_with fail;refine(o _ g (zL.rd j) lR).G ?_;rintro c K ⟨rfl,h⟩;have r:=zC (b.R (h.G p));clear h;go_wp2;go_ret;exact⟨rfl,r⟩
