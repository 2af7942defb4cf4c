import Derived.Test.YtacmdegboldnlaaGreatDoorMq10
set_option linter.all false
set_option maxRecDepth 100000
set_option maxHeartbeats 8000000
namespace Go.Proofs.YtacmdegboldnlaaGreatDoor
open Go Go.RowKit Go.Proofs.Tryz
open _root_.Array renaming size→N
open List renaming length→L
open _root_.Go.World renaming heap→Y
def gtext(a:qa0)(b c:Nat):qa0:=a.take b++a.drop c
def Cl(c:V8)(d:Nat)(b:qa0):Prop:=∀a<L b,c.cell? (V4 d a)=some (.int .i32 (b.getD a 0))
theorem Cl.I{w w' g D zs}(c:Cl w g zs)(d:Below D w w')(e:g<D):Cl w' g zs:=λa b=>(d.U e).R (c a b)
def T3(a:V8)(b:Nat)(c d e:Jo)(f:TypeId):Prop:=a.heap[b]?=some (V6 #[c,d,e] f (0,0))
def own_new(a:V8):(a.alloc (V6 #[] 21)).ownsRow (N (Y a)) 21 1 (VZ (qQ (N (Y a)) 0) 0 0) 0 []:=by
 have:=Qo (base:=N (Y a)) (e:=21) (size:=1) a #[] 0 VT (xY _) rfl;simpa using this
def Cl.app{w g zs}(e:Cl w g zs)(p l)(f:p+l<=L zs):∀a b,(zQ .i32 ((zs.drop p).take l))[a]?=some b->w.cell? (((V4 g p):Addr).add a)=some b:=by
 have:=YT (o:=p) (l:=l) (λc d=>by rw[vg];exact e c d);simpa using this
structure Src32(w:V8)(v:Jo)(xs:qa0):Prop where
 p:v= .slice none 0 0/\xs= []\/∃a c,v= .slice (some a) (L xs) c/\∀j u,(zQ .i32 xs)[j]?=some u->w.cell? (a.add j)=some u
def Sl.src{w v xs}(a:Sl .i32 w v xs):Src32 w v xs:=by
 obtain⟨a,b⟩|⟨e,f,c,rfl,g,d⟩:=a
 ·exact⟨.inl ⟨a,b⟩⟩
 refine⟨.inr ⟨_,c,rfl,?_⟩⟩;have:=YT (o:=0) (l:=L xs) d;simpa using this
def Ug(g cap n)(tx ps)(a b)(vp)(w)(S:Cl w g tx)(ag:g<N (Y w))(ah:L tx=n)(T:n<=cap)(a4:cap<=maxLen)(a5:a<=b)(a6:b<=n)(a7:n<=1048576)(U:Sl .i32 w vp ps)(az:L ps<=1048576):
  Calls prog 134 #[VZ (qQ g 0) n cap,qP a,qP b,vp] w λc ae=>∃P,c=V5 P/\P≠ .slice none 0 0/\ae.ownsRow (N (Y w)) 21 1 P (a+L ps+(n-b)) (zQ .i32 (tx.take a++(ps++tx.drop b)))/\qa3 w ae:=by
 obtain⟨r,s,A,B,C⟩:=kB Tryz.infoG;have t:=zC ((xF _ w).alloc lR (V6 #[] 21));have E:=zC (own_new w);have W:=zC (S.I t ag);have al:=zC S;have am:=zC U;have F:=t.size;have X:=zC (W.app 0 a VC);have Z:=zC (show(L (zQ .i32 ((tx.drop 0).take a)))=a*1 by rw[zc,xO,ke];omega);have u:=zC ah;obtain⟨l,V⟩:∃l,l=L ps:=⟨_,rfl⟩
 rw[<- V]at az |-;have HM:=zC V
 have an:∃af Q,vp= .slice af l Q:=by
  obtain⟨f,c⟩|⟨a8,a9,ba,f,_,_⟩:=U
  ·simp_all
  simp_all
 clear ah S U V;obtain⟨af,Q,rfl⟩:=an;go_enter func134,ntmps134;go_upto_region 2 with (at_builtin;refine xX _ rfl _ _ 25 rfl _ 21 r _ 1 4 underlying25 s A B C rfl VS _ 0 [] rfl E _ a cap _ rfl Z X (zn _ _) VC VC F ?_;intro av a1 d e ac)
 have G:=zC (show av≠ .slice none 0 0 from λc=>by
  have ao:Value.slice _ 0 0= .slice none 0 0:=(ac.1 c).1
  cases ao)
 have m:=zC d;have o:=zC (t.grown e F (λh i=>(E.lt h i).1));have aa:=zC (am.I o).src;have ab:=o.size;clear d e ac t E W X Z F;have step:∃R:V8->Jo->Prop,(∀k p,R k p↔p≠ .slice none 0 0/\k.ownsRow (N (Y w)) 21 1 p (0+a+l) ([]++zQ .i32 ((tx.drop 0).take a)++zQ .i32 ps)/\qa3 w k):=⟨_,λ_ _=>Iff.rfl⟩
 obtain⟨R,ai⟩:=step;have v:=zC ai;clear ai;go_cut [9] (λay k=>R k ay)
 case first=>
  obtain⟨f,c⟩|⟨a0,bc,f,T⟩:=aa.A.p
  ·simp at f
   obtain⟨rfl,rfl,rfl⟩:=f;subst c;go_wp2_with (at_builtin;refine wpList_append_own_none rfl _ _ 25 rfl _ 21 r 1 underlying25 s _ _ _ rfl m rfl ?_);go_meet;exact(v _ _).2 ⟨G,by simpa[zQ]using m.A,o⟩
  simp at f;obtain⟨rfl,rfl,rfl⟩:=f;have ap:=zC T;clear T;go_wp2_with (at_builtin;refine xX _ rfl _ _ 25 rfl _ 21 r _ 1 4 underlying25 s A B C rfl VS _ _ _ rfl m a0 _ Q _ rfl (by rw[zc,Nat.mul_one]) ap (zn _ _) VW VC ab ?_;intro p k d e ad);have x:=zC (show p≠ .slice none 0 0 from λc=>G (ad.1 c).1);have j:=zC d;have y:=zC (o.grown e ab (λh i=>(m.lt h i).1));clear d e ad;go_wp2;go_meet;exact(v _ _).2 ⟨x,j,y⟩
 obtain⟨aj,ak,D⟩:=(v _ _).1 hcut;have x:=zC aj;have j:=zC ak;have y:=zC D;have aq:=zC (al.I D ag);have z:=D.size;clear hcut aj ak D aa m o G v;by_cases ax:cap=b
 ·have H:=zC (show tx.drop b= []from Qb (by rw[u.A];omega))
  obtain rfl:n=b:=VC;subst ax;go_wp2_with (at_builtin;refine xX _ rfl _ _ 25 rfl _ 21 r _ 1 4 underlying25 s A B C rfl VS _ _ _ rfl j _ 0 _ (zQ .i32 []) rfl (by simp[zQ]) (by intro a2 a3 f;simp[zQ]at f) (zn _ _) VW VC z ?_;intro M aw d e q);have I:=zC (show M≠ .slice none 0 0 from λc=>x (q.1 c).1);have J:=zC d;have K:=zC (y.grown e z (λh i=>(j.lt h i).1));clear d e q;go_wp2;go_ret;refine⟨_,rfl,I,?_,K⟩;rw[H.A,kW,jG];simpa[zQ]using J.A
 have ar:=zC (aq.app b (n-b) (by rw[u.A];omega));have H:=zC (show tx.drop b=(tx.drop b).take _ by rw[vX (by rw[xZ,u.A];exact lR)]);have au:=zC (show(L (zQ .i32 ((tx.drop b).take (n-b))))=(n-b)*1 by rw[zc,xO,xZ,u.A];omega);go_wp2_with (at_builtin;refine xX _ rfl _ _ 25 rfl _ 21 r _ 1 4 underlying25 s A B C rfl VS _ _ _ rfl j _ _ _ _ rfl au ar (zn _ _) VW VC z ?_;intro M aw d e q);have I:=zC (show M≠ .slice none 0 0 from λc=>x (q.1 c).1);have J:=zC d;have K:=zC (y.grown e z (λh i=>(j.lt h i).1));clear d e q;go_wp2;go_ret;refine⟨_,rfl,I,?_,K⟩;rw[H.A,jG,jG];have c:a+l+(n-b)=0+a+l+(n-b):=VC
 rw[c];simpa using J.A
def bdP(b:Nat)(c a:Int):Prop:=(b:Int)<=65536/\(0<=a/\a<=b)/\(0<=c/\c<=a)/\b-(a-c)<=8192
def gkP(b:qa0)(c d:Int):Prop:=bdP (L b) c d/\∀a:Nat,c<=a->a<d->b.getD a 0=0
def grT(a:Gr):qa0:=gtext a.cells a.lo.toNat a.hi.toNat
def okG(a:Gr):Prop:=gkP a.cells a.lo a.hi/\10∉grT a
def jt:List (qa0)->qa0
 | []=>[]
 | a::ls=>10::(a++jt ls)
def jn:List (qa0)->qa0
 | []=>[]
 | a::ls=>a++jt ls
def stL(ls:List (qa0)):qa0:=(List.range (L ls)).map λa:Nat=>((smL (ls.take a)+a:Nat))
def LV(a:List Gr)(b:qa0):Prop:=(1<=L a/\L a<=8193/\1<=L b/\L b<=L a)/\(∀g∈a,okG g)/\L (jn (a.map grT))<=8192/\b=(stL (a.map grT)).take (L b)
