import Derived.RangeFuncNested
import Derived.RangeFuncBound
import Derived.LoopNIn
import Derived.LoopIn
import Derived.Test.YtacmdegboldnlaaGreatDoorMq13
import Derived.Test.YtacmdegboldnlaaGreatDoorMq98
set_option linter.all false
set_option maxRecDepth 100000
set_option maxHeartbeats 8000000
namespace Go.Proofs.YtacmdegboldnlaaGreatDoor
open Go Go.RowKit Go.Proofs.Tryz
open And renaming intro→qa5
open _root_.Array renaming size→N
open Bool renaming false→VP,true→VR
open Go renaming Calls→VM,maxLen→VL
open List renaming length→L
open Option renaming some→O
open _root_.Go.Value renaming ownBlock→VD
open _root_.Go.World renaming alloc→VF,cell?→VE,heap→Y
section
open Go.Shelf
attribute [local go_sem] QR
def Un{a:Fence}(d:a.depth=none)(k):a.room k:=λb c=>by simp_all
def FP{F}(d:F.depth=none){m m' P l f tmps assign body w R}
  (a:RoundIn F m P l f tmps assign body w R):RoundIn F m' P l f tmps assign body w R:=⟨a.1,λb c _=>a.2 b c (Un d _)⟩
def Wc{F}(a:F.depth=none){m}(m'){P l args W R}(b:YieldAt F m P l args W R):YieldAt F m' P l args W R:=by
 obtain⟨c,d,e,f,g,h⟩:=b;exact⟨c,d,e,f,g,FP a h⟩
def Pa(c:Nat)(d:V8)(e:qa1)(f:AT):Prop:=∃b a,zM d b f e a/\∀x∈a,x<c
theorem Pa.I{n₀ A B p T}(d:Pa n₀ A p T)(e:Below n₀ A B):Pa n₀ B p T:=by
 obtain⟨f,g,h,b⟩:=d;exact⟨f,g,h.frame λa c=>e.block a (b a c),b⟩
def Pa.parts{n₀ W p l q r}(i:Pa n₀ W p (.tN l q r)):∃a f g,p=O (V4 a 0)/\a<n₀/\VE W (V4 a 0)=O (qP q.off)/\VE W (V4 a 1)=O (qP q.len)/\VE W (V4 a 2)=O (qP q.brk)/\
  VE W (V4 a 3)=O (.pointer f)/\VE W (V4 a 4)=O (.pointer g)/\Pa n₀ W f l/\Pa n₀ W g r:=by
 obtain⟨h,t,⟨a,j,k,m,n,rfl,u,b,o,s,rfl⟩,e⟩:=i;exact⟨a,j,k,rfl,e a VT,b.c0,b.c1,b.c2,b.c3,b.c4,⟨h,m,o,λc d=>e c (by simp[d])⟩,⟨h,n,s,λc d=>e c (by simp[d])⟩⟩
def walk_in(F)(am:F.depth=none)(G:F.fn 99)(H:F.round=none)(l n₀ N)(o u:List It->V8->Prop)
  (V:∀S d(n)e,o d e->L d<N->YieldAt F S prog l #[qP n.lv,.agg #[qP n.pc.off,qP n.pc.len,qP n.pc.brk]] e λb j=>
   (b=V5 (.bool VR)/\o (d++ [n]) j/\Below n₀ e j)\/(b=V5 (.bool VP)/\u (d++ [n]) j)) (T):
  ∀(q)(s)(a:Int)(d)(e),Pa n₀ e s T->0<=a->a+T.ht<=1048576->o d e->L d+T.tI<=N->
   CallsIn F q prog 99 #[.pointer s,qP a,.func (.yield l) #[] #[]] e λb j=>
    (b=V5 (.bool VR)/\o (d++T.tT a) j/\Below n₀ e j)\/(b=V5 (.bool VP)/\∃h,h<+:T.tT a/\u (d++h) j):=by
 induction T with
 | nil=>
  intro q s a d e ht Q C D _;obtain⟨an,ao,⟨rfl,rfl⟩,_⟩:=ht;refine QC func99 rfl G ?_ H;simp only[ntmps99,Qd,vA,vS,kT,kU,Qe,kZ,vL,vH];have M:undef=Value.tuple #[]:=rfl;gi_wp2_with fail;go_ret
  simp_all[AT.tT,xF]
 | tN f g m K aj=>
  intro q s a d e ht Q C D R;obtain⟨ap,W,I,rfl,v,X,Z,aa,aq,ab,ac,ad⟩:=ht.parts;have w:∀E:Nat,(F.depth.isSome=VR->1<=E):=λE t=>by simp_all
  have P:((AT.tN f g m).ht)=1+max (f.ht:Int) m.ht:=(by simp only[AT.ht];omega);have ak:L (f.tT (a+1))=f.tI:=AT.tQ _ _;rw[P]at C;simp only[AT.tI]at R;have M:undef=Value.tuple #[]:=rfl;have p:=zC (show(AT.tN f g m).tT a=f.tT _++⟨g,a⟩::m.tT _ from rfl);generalize (AT.tN f g m).tT a=al at p |-
  have A:∀c,o (d++f.tT (a+1)) c->Below _ e c->YieldAt F _ _ l #[.int _ a,.agg #[.int _ g.off,.int _ g.len,.int _ g.brk]] c λb k=>
    (b=V5 _/\o _ k/\Below _ e k/\k.cell? _=O _/\Pa _ k I m)\/(b=V5 _/\u _ k):=λc U i=>
   YieldAt.mono (V (q-1) _ ⟨g,a⟩ c U (by grind)) λb k t=>t.elim
    (λ⟨x,y,r⟩=>.inl ⟨x,y,i.R r,((i.R r).U v).R ab,ad.I (i.R r)⟩) .inr
  have B:=(K (q-1) W _ d e ac VC VC D VC).mono (R':=λb c=>
    (b=V5 _/\c.cell? _=O _/\c.cell? _=O _/\c.cell? _=O _/\YieldAt F _ _ l _ c _)\/
    (b=V5 _/\∃h,h<+:f.tT _/\u _ c))
   (λb c t=>t.elim (λ⟨x,y,i⟩=>.inl ⟨x,(i.U v).R X,(i.U v).R Z,(i.U v).R aa,A c y i⟩) .inr)
  clear A K;refine QC func99 rfl G ?_ H;simp only[ntmps99,Qd,vA,vS,kT,kU,Qe,kZ,vL,vH]
  gi_wp2_with (first
   |((try refine⟨w _,?_⟩);gi_at_call 99;refine B.mono ?_;clear B;rintro b c (⟨rfl,ar,au,av,aw,ax,ay,az,a0,J⟩ | ⟨rfl,h,z,ae⟩))
   |((try refine⟨w _,?_⟩);refine J.mono ?_;clear J;rintro b k (⟨rfl,af,r,a1,ag⟩ | ⟨rfl,a2⟩))
   |((try refine⟨w _,?_⟩);gi_at_call 99;refine(aj _ I _ _ _ ag VC VC af (by grind)).mono ?_;rintro b a3 (⟨rfl,a4,ah⟩ | ⟨rfl,h,z,a5⟩)))
  ·go_ret
   exact .inl ⟨rfl,by rw[p.A];simp_all,r.R ah⟩
  ·go_ret
   obtain⟨ai,a6⟩:=z;exact .inr ⟨rfl,f.tT (a+1)++⟨g,a⟩::h,⟨ai,by rw[p.A];simp_all⟩,by simp_all⟩
  ·go_ret
   exact .inr ⟨rfl,f.tT (a+1)++ [⟨g,a⟩],⟨m.tT (a+1),by rw[p.A];simp⟩,by simp_all⟩
  go_ret;exact .inr ⟨rfl,h,z.R (by rw[p.A];simp),ae⟩
def all1_in(F)(j:F.depth=none)(n)(r:F.fn 98)(s:F.fn 99)(k:F.round=none)(l Bt Bl n₀)(p0)(T)(w:(T.ht:Int)<=1048576)(f g:List It->V8->Prop)
  (t:∀b(c)a,f b a->L b<T.tI->YieldAt F (n-1) prog l #[qP c.lv,.agg #[qP c.pc.off,qP c.pc.len,qP c.pc.brk]] a λe d=>
   (e=V5 (.bool VR)/\f (b++ [c]) d/\Below n₀ a d)\/(e=V5 (.bool VP)/\g (b++ [c]) d))
  (a) (x:VE a (V4 Bt 0)=O (.pointer p0)) (y:VE a (V4 Bl 0)=O (qP 0)) (u:Pa n₀ a p0 T) (v:f [] a):
  CallsIn F n prog 98 #[.func (.yield l) #[] #[],V3 Bt 0,V3 Bl 0] a λe d=>(∃m,e=V5 m)/\
   ((∃i,i=T.tT 0/\f i d)\/(∃b,b<+:T.tT 0/\g b d)):=by
 have h:=walk_in F j s k l _ _ f g (λo b c a p q=>Wc j o (t b c a p q)) T (n-1) p0 0 [] a u VC VC v VT;refine QC func98 rfl r ?_ k;simp only[ntmps98,Qd,vA,vS,kT,kU,Qe,kZ,vL,vH];gi_wp2_with ((try refine⟨hdd _,?_⟩);gi_at_call 99;refine h.G ?_;clear h;rintro e z (⟨rfl,A,_⟩ | ⟨rfl,B,C,D⟩))
 ·go_end0
  simp_all
 go_end0
 grind
def all_in(F)(n)(c:F.fn 81)(d:F.round=none)(p0)(w):
  CallsIn F n prog 81 #[.pointer p0,qP 0] w λa b=>a=V5 (.func (.func 98) #[] #[V3 (N (Y w)) 0,V3 (N (Y w)+1) 0])/\b=VF (VF w (V6 #[.pointer p0] 99)) (V6 #[qP 0] 3):=by
 refine QC func81 rfl c ?_ d;simp only[ntmps81,Qd,vA,vS,kT,kU,Qe,kZ,vL,vH];gi_wp2;go_ret;simp
def Mb(F)(k:F.depth=none)(n)(l:F.fn 98)(m:F.fn 99)(o:F.round=none)(Bt Bl n₀)(p0)(T)(p:(T.ht:Int)<=1048576)(w)(q:Bt<N (Y w))(r:Bl<N (Y w))(s:n₀<=N (Y w))
  (t:VE w (V4 Bt 0)=O (.pointer p0)) (u:VE w (V4 Bl 0)=O (qP 0)) (v:Pa n₀ w p0 T):
  SeqStopsK F n prog 98 #[V3 Bt 0,V3 Bl 0] (λa:It=>#[Value.int .i64 a.lv,.agg #[qP a.pc.off,qP a.pc.len,qP a.pc.brk]]) (Below n₀) (λc=>c=T.tT 0) (λd=>d<+:T.tT 0) T.tI w:=λe f g h b _ _ i j=>
 all1_in F k n l m o e Bt Bl _ p0 T p f g i h ((b.U q).R t) ((b.U r).R u) (v.I (b.G s)) j
attribute [local go_sem] QR
end
def WM(d:Nat)(a:V8)(c:Nat):Below d a (a.drewN c):=by
 induction c generalizing a with
 | zero=>exact xF _ _
 | succ c b=>exact⟨(b a.drew).os,(b a.drew).tape,(b a.drew).output,(b a.drew).size,(b a.drew).block⟩
def Rm{j:V8}{g e f:Nat}{c:qa0}(k:∀b<L c,VE j (V4 g (e+b))=O (.int .i32 (c.getD b 0)))(a d:Nat)(l:a+d<=L c)(m:0<d)(n:L c<=f)(o:f<=VL):
  Rd .i32 j (VZ (qQ g (e+a)) d (f-a)) ((c.drop a).take d):=by
 have h:L ((c.drop a).take d)=d:=by rw[xO,xZ];omega
 refine .inr ⟨g,e+a,f-a,by rw[h],⟨VC,VC,VC⟩,λb i=>?_⟩;rw[h]at i;rw[show e+a+b=e+(a+b)by omega,k (a+b) VC]
 congr 2
 simp only[vv,kN,kO];rw[xU i]
def Og(c:qa1)(a b:Nat)(d:V8)(h:a<=b)(i:b<=VL):
  VM prog 45 #[VZ c a b] d λe f=>e=V5 (VZ c a a)/\f=d:=by
 have g:(a:Int)<=(b:Int):=VC
 go_enter func45,ntmps45;go_wp2;go_ret;exact⟨rfl,rfl⟩
def Ka(d:qa0)(i j l h b c:Nat)(a:V8)(o:∀g<L d,VE a (V4 j (l+g))=O (.int .i32 (d.getD g 0)))(A:VE a (V4 i 0)=O (VZ (qQ j l) (L d) h))(B:j<N (Y a))(C:i<N (Y a))(D:b+c<=L d)(E:0<c)(F:L d<=h)(q:h<=VL)(T:L d<=1048576):
  VM prog 46 #[V3 i 0,qP (b:Int),qP (c:Int)] a λn y=>n=V5 (.agg #[qP (b:Int),qP (c:Int),qP (brk ((d.drop b).take c))])/\qa3 a y:=by
 have k:=zC ((xF (N (Y a)) a).alloc lR (V6 #[qP 0,qP 0,qP 0] 85));have r:=zC (Xh ((d.drop b).take c) _ (VF a (V6 #[qP 0,qP 0,qP 0] 85)) (Rm (λg z=>(k.U (p:=(V4 j (l+g))) B).R (o g z)) b c D E F q) (by rw[xO,xZ];omega));have H:=(k.U (p:=(V4 i 0)) C).R A;have m:(VF a (V6 #[qP 0,qP 0,qP 0] 85)).heap[N (Y a)]?=O (V6 #[qP 0,qP 0,qP 0] 85 (0,0)):=xJ _ _;have f:=zC m;generalize brk ((d.drop b).take c)=x at*;generalize L d=S at*;unfold VL at q;have I:(b:Int)<=(b:Int)+(c:Int):=VC
 have J:(b:Int)+(c:Int)<=(h:Int):=VC
 have K:(0:Int)<=(b:Int)+(c:Int):=VC
 have M:¬h=b:=VC
 clear o m;go_enter func46,ntmps46;go_wp2_with fail;generalize VF a (V6 #[qP 0,qP 0,qP 0] 85)=e at*;refine r.G ?_;rintro n U ⟨rfl,G⟩;have s:=G.J;subst s;have t:VE e (V4 (N (Y a)) 0)=O (qP 0):=by rw[xH e _ 0 _ _ _ f.A];rfl
 have u:VE e (V4 (N (Y a)) 1)=O (qP 0):=by rw[xH e _ 1 _ _ _ f.A];rfl
 have w:VE e (V4 (N (Y a)) 2)=O (qP 0):=by rw[xH e _ 2 _ _ _ f.A];rfl
 have P:=xW e (N (Y a)) 0 _ _ f;have Q:=xW e (N (Y a)) 1 _ _ f;have R:=xW e (N (Y a)) 2 _ _ f;go_wp2;refine vE (v:=.agg #[qP (b:Int),qP (c:Int),qP x]) (by simp[results,results46,go_sem,t,u,w]) rfl ⟨rfl,?_⟩;exact((k.setCell VT _).setCell VT _).setCell VT _
section
open Go.Shelf Go.Sort
attribute [local go_sem] QR
def PK(a:V8)(b c d e f:Nat)(g:qa1):Prop:=a.heap[b]?=O (V6 #[VZ (qQ c d) e f,.pointer g] 101 (0,0))
theorem PK.I{b:Nat}{c d:V8}{a e f g h:Nat}{i:qa1}(j:PK c a e f g h i)(k:Below b c d)(l:a<b):PK d a e f g h i:=(k.block a l).R j
def PK.lt{a:V8}{b c d e f:Nat}{g:qa1}(h:PK a b c d e f g):b<N (Y a):=(xG.1 h).1
def PK.c0{a:V8}{b c d e f:Nat}{g:qa1}(h:PK a b c d e f g):VE a (V4 b 0)=O (VZ (qQ c d) e f):=by rw[xH a _ 0 _ _ _ h];rfl
def PK.c1{a:V8}{b d e f g:Nat}{c:qa1}(h:PK a b d e f g c):VE a (V4 b 1)=O (.pointer c):=by rw[xH a _ 1 _ _ _ h];rfl
def Hd(c:V8)(d e:Nat)(b:qa0):Prop:=∀a<L b,VE c (V4 d (e+a))=O (.int .i32 (b.getD a 0))
def KeepsOthers.qa{b c:V8}(d:qa3 b c):KeepsOthers b c:=⟨d.size,λe f a _=>(d.block e (xG.1 a).1).R a⟩
end
def Ys{F:List Pc}(b:∀a∈F,1<=a.len):0<=zz F:=by
 induction F with
 | nil=>simp[zz]
 | cons a F e=>rw[zT];have:=b a VT;have:=e (λc d=>b c (by simp[d]));omega
def FQ{a:List Pc}{b:Nat}{c:Pc}(f:∀c∈a,1<=c.len)(h:a[b]?=O c):c.len<=zz a:=by
 have g:=(zm h).1;have i:=Ys (F:=a.take b) (λd e=>f d (kH e));have j:=Ys (F:=a.drop (b+1)) (λd e=>f d (Qc e))
 have:zz a=zz (a.take b)+(c.len+zz (a.drop (b+1))):=by
  conv=>lhs;rw[g]
  rw[zZ,zT]
 omega
def WN:∀(h:AT)(a:Nat)(d:Pc),h.tF[a]?=O d->zX (λ_=>1) h (a:Int)=d
 | .nil,a,d,c=>by simp[AT.tF]at c
 | .tN b m j,a,d,c=>by
  have i:zu (λ_=>1) (b.tT 0)=(b.tI:Int):=by
   have:∀e:List It,zu (λ_=>1) e=(L e:Int):=by
    intro e
    induction e with
    | nil=>rfl
    | cons n e k=>simp only[zu,k,vA];omega
   rw[this,AT.tQ]
  have l:=AT.qd b;simp only[AT.tF]at c;simp only[zX,i];by_cases f:(a:Int)<b.tI
  ·rw[xU f]
   rw[vN VC]at c;exact WN b a d c
  rw[xK f];rw[xQ VC]at c;by_cases g:(a:Int)-b.tI<1
  ·rw[xU g]
   rw[show a-L b.tF=0 by omega,Qz]at c;exact kK c
  rw[xK g];rw[show a-L b.tF=(a-b.tI-1)+1 by omega,kV]at c;rw[show(a:Int)-(b.tI:Int)-1=((a-b.tI-1:Nat):Int)by omega];exact WN j _ d c
def zU(a:AT)(b:Nat):Pc:=a.tF.getD (b-1) ⟨0,0,0⟩
def yx{T:AT}{a:Nat}(b:0<a)(c:a<=T.tI):T.tF[a-1]?=O (zU T a):=by
 have:=AT.qd T;rw[zU,vv,xI VC];rfl
def JQ(c:Nat)(b:AT)(a:Nat):Bool:=decide (0<a/\(zU b a).off+(zU b a).len=(c:Int))
def Ws(c:qa0)(d:Nat)(a:AT)(b:Nat):AT:=
 if JQ d a b=VR then a.put (b-1) (zY c (zU a b).off ((zU a b).len+((L c:Int)-d)))else a.ins b (zY c d ((L c:Int)-d))
def Jf(a:qa0)(d:Nat)(b:AT)(c:Int):AT:=Ws a d (zb a b c) (zN b c)
def Uo{d:qa0}{h:Nat}{b:AT}{c:Nat}(e:b.ok)(s:b.wp d)(i:c<=b.tI)(t:h<L d)(m:L d<=220000)(p:b.rns+((L d:Int)-h)<=8192):(Ws d h b c).ok:=by
 have j:=jk e;have q:=Ys j;rw[AT.qc]at p;unfold Ws
 split
 ·rename_i l
  simp only[JQ,vn]at l;have g:=yx l.1 i;have r:=FQ j g;have n:=e.1 _ (vc g);simp only[jU,vn]at n;have k:=jO b (c-1) (zY d (zU b c).off ((zU b c).len+((L d:Int)-h))) _ g;refine⟨λf a=>?_,?_⟩
  ·rw[k]at a
   simp only[xV,vC]at a;obtain a|rfl|a:=a
   ·exact e.1 f (kH a)
   ·exact Jv VC VC VC VC m
   exact e.1 f (Qc a)
  rw[AT.qc,k,zZ,zT];have o:=(zm g).1
  have:zz b.tF=zz (b.tF.take (c-1))+((zU b c).len+zz (b.tF.drop (c-1+1))):=by
   conv=>lhs;rw[o]
   rw[zZ,zT]
  simp only[zY];omega
 refine⟨λf a=>?_,?_⟩
 ·rw[AT.ins_flat _ _ _ i]at a
  simp only[xV,vC]at a;obtain a|rfl|a:=a
  ·exact e.1 f (kH a)
  ·exact Jv VC VC VC VC m
  exact e.1 f (Qc a)
 rw[AT.qc,AT.ins_flat _ _ _ i,zZ,zT];have:zz b.tF=zz (b.tF.take c)+zz (b.tF.drop c):=by rw[<- zZ,vK]
 simp only[zY];omega
def Rn{c:qa0}{d:Nat}{a:AT}{e:Nat}(b:a.bal):(Ws c d a e).bal:=by
 unfold Ws
 split
 ·exact AT.qi _ _ _ b
 exact(AT.ins_bal _ _ _ b).1
def insP_ok{a:qa0}{f:Nat}{b:AT}{g:Int}(c:b.ok)(h:b.wp a)(d:0<=g)(e:g<=b.rns)(j:f<L a)(i:L a<=220000)(k:b.rns+((L a:Int)-f)<=8192):(Jf a f b g).ok:=
 Uo (Yn c h i d e) (Ym c h d e) (ZH c d e).1 j i (by rw[AT.qc,Jc c d e,<- AT.qc];exact k)
def Rp{b:qa0}{c:Nat}{a:AT}{d:Int}(e:a.bal):(Jf b c a d).bal:=Rn (Jd e)
def Kb{a:List Pc}(e:∀b∈a,1<=b.len){i j}(f:i<=j):zz (a.take i)<=zz (a.take j):=by
 have c:a.take j=a.take i++(a.take j).drop i:=by
  rw[show a.take i=(a.take j).take i by grind,vK]
 rw[c,zZ];have:=Ys (F:=(a.take j).drop i) (λb d=>e b (kH (Qc d)));omega
def Uq{a:List Pc}(b:∀p∈a,1<=p.len){i j}(f:i<j)(h:j<=L a):zz (a.take i)<zz (a.take j):=by
 have c:=Kb b (show i+1<=j from f);have d:a[i]?=O _:=xI VC;have g:=b _ (vc d);have e:a.take _=a.take i++ [a[i]]:=(List.take_append_getElem VC).J;rw[e,zZ,zT,Y7]at c;omega
def FT{S T off}(a:T.ok)(b:0<=off)(c:off<=T.rns):(zb S T off).rns=T.rns:=by
 grind [AT.qc,Jc]
def FU{S T a lo hi}(e:T.ok)(g:0<=hi)(h:hi<=T.rns)(o:a<=T.tI)(p:zz (T.tF.take a)=lo)(q:lo<=hi):
  a<=zN T hi/\(zb S T hi).tF.take a=T.tF.take a:=by
 obtain⟨r,i,j⟩:=Y9 e g h;have d:=jk e;have k:=AT.qd T;by_cases c:jR T hi=0
 ·rw[zN,xU c,zb,xU c]
  refine⟨?_,rfl⟩;obtain b|b:=kC (j7 T hi) a
  ·have:=Uq d b VC
   omega
  omega
 obtain⟨s,t,f⟩:=j.resolve_left c;have l:=(zm f).2
 have m:zz (T.tF.take (j7 T hi+1))=hi-jR T hi+(jp T hi).len:=by
  conv=>lhs;rw[(zm f).1]
  rw[Y8 _ _ _ _ (by simp_all),zZ,zT,Y7,i];omega
 have n:a<=j7 T hi:=by
  obtain b|b:=kC (j7 T hi) a
  ·have:=Kb d (show j7 T hi+1<=a from b)
   omega
  exact b
 refine⟨by grind [zN],?_⟩
 grind [jP,Nat.min_eq_left]
def Ks(a:AT)(b:Nat):Pc:=a.tF.getD b ⟨0,0,0⟩
def WO{T R}(a:R<T.tI):T.tF[R]?=O (Ks T R):=by
 grind [Ks,AT.qd,List.getElem?_eq_getElem]
def jJ(b:AT)(a:Nat):Bool:=decide ((0<a/\a<b.tI)/\(zU b a).off+(zU b a).len=(Ks b a).off)
def ju(c:qa0)(a:AT)(b:Nat):AT:=
 if jJ a b=VR then(a.put (b-1) (zY c (zU a b).off ((zU a b).len+(Ks a b).len))).rem b else a
def Ur{F R}{a b:Pc}(e:0<R)(c:F[R-1]?=O a)(f:F[R]?=O b):F=F.take (R-1)++a::b::F.drop (R+1):=by
 have d:=(zm c).1
 grind [zm,List.drop_eq_getElem_cons,List.getElem?_eq_getElem,Option.some.inj]
def Oi{S T R}(c:T.ok)(l:T.wp S)(q:L S<=220000)(d:jJ T R=VR)(r:T.rns+(Ks T R).len<=16384):
  (∀p∈(T.put (R-1) (zY S (zU T R).off ((zU T R).len+(Ks T R).len))).tF,jU p=VR):=by
 simp only[jJ,vn]at d;have e:=yx (T:=T) d.1.1 VC;have a:=WO d.1.2;have i:=c.1 _ (vc e);have j:=c.1 _ (vc a);simp only[jU,vn]at i j;have m:=((ze S T).1 l _ (vc a)).2.2.1;have k:=Ur d.1.1 e a
 have n:(zU T R).len+(Ks T R).len<=zz T.tF:=by
  conv=>rhs;rw[k]
  rw[zZ,zT,zT];have o:=Ys (F:=T.tF.take (R-1)) (λf a=>jk c f (kH a));have g:=Ys (F:=T.tF.drop (R+1)) (λf a=>jk c f (Qc a));omega
 have g:=c.2;rw[AT.qc]at g;intro h b;rw[jO T _ _ _ e]at b;simp at b;obtain b|rfl|b:=b
 ·exact c.1 h (kH b)
 ·grind [Jv]
 exact c.1 h (Qc b)
def Yu{S T R}(a:jJ T R=VR):(ju S T R).tF=T.tF.take (R-1)++zY S (zU T R).off ((zU T R).len+(Ks T R).len)::T.tF.drop (R+1):=by
 have c:=a;simp only[jJ,vn]at a;have d:=yx (T:=T) a.1.1 VC;have e:=AT.qd T;have b:L (T.tF.take (R-1))=R-1:=by rw[xO];omega
 rw[ju,xU c,AT.rem_flat _ _ (by grind [AT.qf]),jO T _ _ _ d,show R-1+1=R by omega]
 have f:=by
  have:=Y8 (T.tF.take (R-1)) (T.tF.drop R) (zY S (zU T R).off ((zU T R).len+(Ks T R).len)) (R-1) b;rw[show R-1+1=R by omega]at this;exact this
 have g:(T.tF.take (R-1)++zY S (zU T R).off ((zU T R).len+(Ks T R).len)::T.tF.drop R).drop (R+1)=T.tF.drop (R+1):=by
  rw[QT,Qk VC,b,vL,show R+1-(R-1)=2 by omega,vT,QO]
 simp_all
def FV{S T R}(c:T.ok)(l:T.wp S)(m:L S<=220000):(ju S T R).ok:=by
 cases hb:jJ T R with
 | false=>grind [ju]
 | true=>
  have d:=Yu (S:=S) hb;have b:=hb;simp only[jJ,vn]at b;have e:=yx (T:=T) b.1.1 VC;have f:=WO b.1.2;have n:=c.bd;have i:=c.1 _ (vc f);simp only[jU,vn]at i;have g:=Oi c l m hb VC;rw[jO T _ _ _ e,show R-1+1=R by omega]at g;have j:=Ur b.1.1 e f;refine⟨λk a=>?_,?_⟩
  ·rw[d]at a
   refine g k ?_;simp at a |-;obtain a|a|a:=a
   ·grind
   ·grind
   exact .inr (.inr ((List.drop_sublist_drop_left _ VC).subset a))
  have h:=c.2;rw[AT.qc]at h |-;rw[j,zZ,zT,zT]at h;rw[d,zZ,zT]
  grind [zY]
def ZN(a:qa0)(b:AT)(c d:Int):AT:=zb a (zb a b c) d
def JV(a:qa0)(b:AT)(c d:Int):Nat:=zN (zb a b c) d
def Da(c:qa0)(a:AT)(b d:Int):AT:=((ZN c a b d).split (zN a b)).1
def Kt(c:qa0)(a:AT)(b d:Int):AT:=((ZN c a b d).split (zN a b)).2
def UJ(c:qa0)(a:AT)(b d:Int):AT:=((Kt c a b d).split (JV c a b d-zN a b)).2
def Zw(a:qa0)(b:AT)(c d:Int):AT:=AT.join (Da a b c d) (UJ a b c d)
def YO(a:qa0)(b:AT)(c d:Int):AT:=ju a (Zw a b c d) (zN b c)
structure DelF(S:qa0)(T:AT)(lo hi:Int):Prop where
 ok1:(zb S T lo).ok
 bal1:(zb S T lo).bal
 wp1:(zb S T lo).wp S
 rn1:(zb S T lo).rns=T.rns
 ok2:(ZN S T lo hi).ok
 bal2:(ZN S T lo hi).bal
 wp2:(ZN S T lo hi).wp S
 a2:zN T lo<=(ZN S T lo hi).tI
 az:zN T lo<=JV S T lo hi
 z2:JV S T lo hi<=(ZN S T lo hi).tI
 ra:yo ((ZN S T lo hi).tT 0) lo=zN T lo
 rz:yo ((ZN S T lo hi).tT 0) hi=JV S T lo hi
 balX:(Da S T lo hi).bal
 balY:(Kt S T lo hi).bal
 balW:(UJ S T lo hi).bal
 okX:(Da S T lo hi).ok
 okY:(Kt S T lo hi).ok
 okW:(UJ S T lo hi).ok
 yits:(Kt S T lo hi).tI=(ZN S T lo hi).tI-zN T lo
 sum:(Da S T lo hi).rns+(UJ S T lo hi).rns<=8192
 tI:(Da S T lo hi).tI+(UJ S T lo hi).tI<=8192
 okJ:(Zw S T lo hi).ok
 balJ:(Zw S T lo hi).bal
 wpJ:(Zw S T lo hi).wp S
 okR:(YO S T lo hi).ok
def zBu{S T lo hi}(h:T.ok)(U:T.bal)(y:T.wp S)(i:L S<=220000)(j:0<=lo)(V:lo<=hi)(W:hi<=T.rns):DelF S T lo hi:=by
 have a:=Yn h y i j VC;have d:=Ym h y j VC;have z:=FT (S:=S) h j VC;have m:=Jd (S:=S) (off:=lo) U;have n:=ZH (S:=S) h j VC;have c:hi<=(zb S T lo).rns:=VC
 have b:(ZN S T lo hi).ok:=Yn a d i VC c;have o:(ZN S T lo hi).wp S:=Ym a d VC c;have p:(ZN S T lo hi).bal:=Jd m;have A:=FU (S:=S) a VC c n.1 n.2 V;have B:=ZH (S:=S) a VC c;have k:zN T lo<=JV S T lo hi:=A.1;have q:JV S T lo hi<=(ZN S T lo hi).tI:=B.1;have r:=ku k q;have C:yo _ lo=zN T lo:=Xm _ _ _ (KV b) (by grind [AT.tQ]) (by rw[ZA];show zz ((zb S _ hi).tF.take _)=lo;simp_all);have D:yo ((ZN S T lo hi).tT 0) hi=JV S T lo hi:=FM a d i VC c;have s:=AT.split_flat _ _ r;have e:=AT.split_bal _ (zN T lo) p;have t:(Da S T lo hi).tF=(ZN S T lo hi).tF.take _:=s.1;have l:(Kt S T lo hi).tF=(ZN S T lo hi).tF.drop _:=s.2;have E:=AT.qd (ZN S T lo hi);have F:(Kt S T lo hi).tI=(ZN S T lo hi).tI-zN T lo:=by rw[<- AT.qd,l,xZ,E]
 have G:=AT.split_flat (Kt S T lo hi) (JV S T lo hi-zN T lo) VC;have u:=AT.split_bal (Kt S T lo hi) (JV S T lo hi-zN T lo) e.2
 have v:(UJ S T lo hi).tF=(ZN S T lo hi).tF.drop (JV S T lo hi):=by
  have:(UJ S T lo hi).tF=(Kt S T lo hi).tF.drop (JV S T lo hi-zN T lo):=G.2;rw[this,l,QO,show zN T lo+(JV S T lo hi-zN T lo)=JV S T lo hi by omega]
 have H:(Zw S T lo hi).tF=(ZN S T lo hi).tF.take (zN T lo)++(ZN S T lo hi).tF.drop (JV S T lo hi):=by
  rw[Zw,AT.join_flat,t,v]
 have w:(Zw S T lo hi).tF.Sublist (ZN S T lo hi).tF:=by
  rw[H]
  conv=>rhs;rw[<- vK (zN T lo) (ZN S T lo hi).tF]
  refine List.Sublist.append (Vv _) ?_;exact List.drop_sublist_drop_left _ k
 have I:=b.sub (by rw[t];grind);have J:=b.sub (by rw[l];grind);have K:=b.sub (by rw[v];grind);have f:=b.sub w;have x:=(ze S _).2 λQ R=>(ze S _).1 o Q (w.subset R)
 have M:=by
  have g:=f.2;rw[AT.qc,Zw,AT.join_flat,zZ,<- AT.qc,<- AT.qc]at g;exact g
 have P:(Da S T lo hi).tI+(UJ S T lo hi).tI<=8192:=by
  have g:=f.bd.1;rw[<- AT.qd,Zw,AT.join_flat,xL,AT.qd,AT.qd]at g;omega
 exact⟨a,m,d,z,b,p,o,r,k,q,C,D,e.1,e.2,u.2,I,J,K,F,M,P,f,AT.join_bal _ _ e.1 u.2,x,FV f x i⟩
theorem Oj{a:AT}{c:Nat}{p}(d:a.tF[c]?=O p):∃b,(a.tT 0)[c]?=O b/\b.pc=p:=by
 rw[<- AT.qh a 0,vZ]at d
 simp_all
def UK{S}{b:Nat}{T off r y}(e:T.ok)(f:0<=off)(g:off<=T.rns)(m:zN T off=r+1)(h:(T.tT 0)[r]?=O y)(ht:total ((T.tT 0).take (zN T off))=off)(n:y.pc.off+y.pc.len=b):
  Jf S b T off=T.put r (zY S y.pc.off (y.pc.len+(L S-b))):=by
 obtain⟨o,i,j⟩:=Y9 e f g
 have a:jR T off=0:=by
  rcases Decidable.em (jR T off=0)with a | a
  ·exact a
  exfalso;obtain⟨p,q,k⟩:=j.resolve_left a;rw[zN,xK a,ZA]at ht;have c:=(zm k).1;rw[c,Y8 _ _ _ _ (by grind),zZ,zT,Y7,i]at ht;omega
 have d:T.tF[r]?=O y.pc:=by rw[<- AT.qh T 0,vZ,h];rfl
 have l:zU T (r+1)=y.pc:=by rw[zU,Qw,vv,d];rfl
 grind [Jf,zb,Ws,JQ]
def UL{S}{d:Nat}{a:AT}{off}(h:a.ok)(m:∀p∈a.tF,p.off+p.len<=d)(i:0<=off)(j:off<=a.rns)(n:¬ (∃c e,zN a off=c+1/\(a.tT 0)[c]?=O e/\total ((a.tT 0).take (zN a off))=off/\e.pc.off+e.pc.len=d)):
  Jf S d a off=(zb S a off).ins (zN a off) (zY S d (L S-d)):=by
 obtain⟨t,u,o⟩:=Y9 h i j;rw[Jf,Ws,xK];intro g;simp only[JQ,vn]at g;obtain⟨q,r⟩:=g;by_cases b:jR a off=0
 ·refine n ?_
  have f:zN a off=j7 a off:=(by rw[zN,xU b];omega);rw[zb,xU b]at r;obtain⟨c,v⟩:∃c,zN a off=c+1:=⟨zN a off-1,VC⟩
  have l:=yx (T:=a) q VC
  grind [Oj,ZA]
 obtain⟨w,x,k⟩:=o.resolve_left b;have f:zN a off=j7 a off+1:=by rw[zN,xK b]
 have s:=m _ (vc k)
 have l:zU (zb S a off) (zN a off)=zY S (jp a off).off (jR a off):=by
  rw[zU,f,Qw,vv,jP h i j b,xQ (by grind)];have:j7 a off-L (a.tF.take (j7 a off))=0:=(by rw[xO];have:=(zm k).2;omega);rw[this];rfl
 grind [zY]
def Back(f:qa0)(b e:List Pc):Prop:=e=b\/∃c a d,b[c]?=O a/\b[c+1]?=O d/\a.off+a.len=d.off/\e=b.take c++zY f a.off (a.len+d.len)::b.drop (c+2)
def Jg(a:It):Ki:=[qP a.pc.off,qP a.pc.len,qP a.pc.brk,qP a.lv]
def zG(a:List It):Ki:=a.flatMap Jg
theorem zK(a):L (zG a)=L a*4:=by
 induction a with
 | nil=>rfl
 | cons c a b=>simp only[zG,Qv,xL]at b |-;rw[b];simp[Jg];omega
theorem zd(a b):zG (a++b)=zG a++zG b:=by simp[zG]
def Rv(xs)(a k)(x)(b:xs[a]?=O x)(c:k<4):(zG xs)[a*4+k]? =(Jg x)[k]?:=by
 induction xs generalizing a with
 | nil=>simp at b
 | cons d e f=>
  cases a with
  | zero=>
   grind [zG,Jg]
  | succ a=>
   grind [zG,Jg,List.getElem?_append_right]
def Rw(a)(y x)(b):((((zG (a++y::b)).set (L a*4) (qP x.pc.off)).set (L a*4+1) (qP x.pc.len)).set (L a*4+2) (qP x.pc.brk)).set (L a*4+3) (qP x.lv)=zG (a++x::b):=by
 have d:∀c:It,zG (a++c::b)=zG a++([qP c.pc.off,qP c.pc.len,qP c.pc.brk,qP c.lv]++zG b):=λc=>by simp[zG,Jg]
 simp_all[zK,kE,Qj]
def zL(b:V8)(c:Nat)(d:Jo)(a:List It):Prop:=b.ownsRow c 87 4 d (L a) (zG a)
def zL.rd{w base v xs}(e:zL w base v xs):ZX (N (Y w)) w v xs:=by
 unfold zL at e;have h:=e.lt;obtain⟨g,A⟩|⟨d,p,B,g,r⟩:=e.2
 ·left;simp_all
 obtain⟨C,s,t,u,D,x⟩:=r;subst g;have i:=(h d rfl).2;by_cases z:L xs=0
 ·left;simp_all
 right;refine⟨d,0,p,rfl,⟨VC,t,u⟩,i,λc f n=>?_⟩
 have y:c<L xs:=by
  obtain q|q:=kC c (L xs)
  ·exact q
  simp_all
 have b:∀a<4,VE w (V4 d (c*4+a))=(Jg f)[a]?:=λa o=>by
  rw[xH w d _ _ _ _ s,<- Rv xs c a f n o,<- x,kN,xU VC];simp
 have j:=b 0 VC;have k:=b 1 VC;have l:=b 2 VC;have m:=b 3 VC;simp;exact⟨j,k,l,m⟩
theorem zL.I{w w' base B v xs}(a:zL w base v xs)(b:Below B w w')(c:N (Y w)<=B):zL w' base v xs:=zE a b c
theorem zL.base{w base base' v xs}(a:zL w base v xs)(b:base'<=base):zL w base' v xs:=zF a b
def itA(a:It):Jo:=.agg #[qP a.pc.off,qP a.pc.len,qP a.pc.brk,qP a.lv]
def FW{w b off}{c:List It}(e:∀d a,c[d]?=O a->Hc w b (off+d*4) a){j}(f:j<L c):∃a,c[j]?=O a/\Hc w b (off+j*4) a:=
 ⟨c[j],VT,e j _ VT⟩
def Jw{a:V8}{base g cap n xs}(b:a.ownsRow base 87 4 (VZ (qQ g 0) n cap) n xs)(j)(d:j<n*4):∃c,VE a (V4 g j)=O c:=by
 have e:=b.cellAt j d;have f:=b.1
 simp_all
def Tryz.qu:(prog.info? 87).map (λa=>(a.zero,a.size,a.bytes))=O (O (.agg #[qP 0,qP 0,qP 0,qP 0]),4,32):=VU
section
open Go.Shelf
attribute [local go_sem] QR
def tellN(T)(u)(bs)(base)(w)(y:zM w base T u bs)(a2:T.ok):
  Calls prog 53 #[.pointer u] w λo W=>∃d,o=V5 (.agg #[d])/\zL W w.heap.size d (T.tT 0)/\qa3 w W:=by
 obtain⟨X,Z,aa,ab,a3⟩:=kB Tryz.qu;have bc:=a2.bd;have bd:(T.ht:Int)<=8192:=by have:=zh T;omega
 have ag:=zC (show Pa w.heap.size w u T from⟨base,bs,y,λb az=>(y.lt b az).2⟩);have M:=zC ((xF w.heap.size w).alloc lR (V6 #[V0] 28));have ah:=zC (y.I M lR);have bf:(w.alloc (V6 #[V0] 28)).heap.size=w.heap.size+1:=VT
 have ai:=Boxed.new w 28 V0;have bg:=Tryz.fld0;clear y;refine(vD (n:=5)).1 ?_;refine callsIn_of_wp_marks func53 rfl xN ?_ rfl;simp only[ntmps53,Qd,vA,vS,kT,kU,Qe,kZ,vL,vH]
 gi_wp2_with (first
  |((try refine⟨xN,?_⟩);gi_at_call 80;refine(vD.2 (JU T u bs base _ ah)).G ?_;rintro o f ⟨rfl,z⟩;have bh:=z.size;have P:=zC (M.R (z.G VC));have aj:Boxed f w.heap.size 28 V0:=(z.block w.heap.size VC).R ai;clear z;simp only[Zu])
  |(gi_at_make;refine wpListIn_make_own _ rfl _ _ 26 rfl w.heap.size 87 X (.agg #[qP 0,qP 0,qP 0,qP 0]) 4 underlying26 Z aa ab _ _ _ T.tI rfl rfl (by rfl) (by grind) (by grind [maxLen]) VC ?_;intro c ax F)
  |((try refine⟨xN,?_⟩);gi_at_call 81;refine(all_in Fence.wide _ xN rfl _ _).G ?_;rintro o ay ⟨rfl,rfl⟩))
 have bi:=F.size;have t:=zC (P.grown F P.size (λbx a0=>by cases a0));have ak:=aj.kept F VT;have Q:=((Boxed.new c 26 (VZ (qQ f.heap.size 0) 0 T.tI)).alloc (V6 #[.pointer u] 99)).alloc (V6 #[qP 0] 3);have A:=(Boxed.new (c.alloc (V6 #[VZ (qQ f.heap.size 0) 0 T.tI] 26)) 99 (.pointer u)).alloc (V6 #[qP 0] 3);have B:=Boxed.new ((c.alloc (V6 #[VZ (qQ f.heap.size 0) 0 T.tI] 26)).alloc (V6 #[.pointer u] 99)) 3 (qP 0);have R:=((ak.alloc (V6 #[VZ (qQ f.heap.size 0) 0 T.tI] 26)).alloc (V6 #[.pointer u] 99)).alloc (V6 #[qP 0] 3);have al:=((ax.alloc (V6 #[VZ (qQ f.heap.size 0) 0 T.tI] 26)).alloc (V6 #[.pointer u] 99)).alloc (V6 #[qP 0] 3);have C:=((t.alloc t.size (V6 #[VZ (qQ f.heap.size 0) 0 T.tI] 26)).alloc (by have:=t.size;simp;omega) (V6 #[.pointer u] 99)).alloc (by have:=t.size;simp;omega) (V6 #[qP 0] 3);have am:(((c.alloc (V6 #[VZ (qQ f.heap.size 0) 0 T.tI] 26)).alloc (V6 #[.pointer u] 99)).alloc (V6 #[qP 0] 3)).heap.size=c.heap.size+3:=VT
 rw[Qt]at A;rw[Qt,Qt]at B;obtain⟨G,a4⟩:∃G,((c.alloc (V6 #[VZ (qQ f.heap.size 0) 0 T.tI] 26)).alloc (V6 #[.pointer u] 99)).alloc (V6 #[qP 0] 3)=G:=⟨_,rfl⟩
 rw[a4]at Q A B R al C am |-;have bj:=AT.tQ T 0
 refine wpIn_rangeFunc_ownH rfl VC rfl xN (enters_of func98 (by rfl) rfl)
  (Mb Fence.wide rfl _ xN xN rfl (c.heap.size+1) (c.heap.size+1+1) w.heap.size u T VC G VC VC VC A.cell B.cell (ag.I C)) belowK_t (belowK_b VC) (xF _ _) (λ_=>rfl)
  (λg a=>(∃d,Boxed a c.heap.size 26 d/\a.ownsRow w.heap.size 87 4 d g.length (zG g)/\True)/\(Boxed a w.heap.size 28 V0/\qa3 w a))
  (λ_ _ _=>False)
  (OwnFrom.and (Own.from (holdsRow_own w.heap.size c.heap.size 26 87 4 (λg=>g.length) (λg=>zG g) (λ_ _=>True)) _) (OwnFrom.and (Own.from (boxed_own w.heap.size 28 (λ_=>.slice none 0 0)) _) (ownFrom_below lR VC)))
  (λ_ _ _ _ _ H _ _=>H)
  ⟨⟨_,Q,by grind [zG],xN⟩,R,C⟩
  (λb I a=>∃e,True/\a.heap[e]?=some (V6 #[qP b.pc.off,qP b.pc.len,qP b.pc.brk] 85 (0,0))/\I={tmps:=#[.pointer u,undef,V3 w.heap.size 0,V3 c.heap.size 0,qP b.lv,V3 e 0,.pointer u,.agg #[qP T.tI,qP T.rns,qP T.bks],qP T.tI,VZ (qQ f.heap.size 0) 0 T.tI,.pointer u,.func (.func 98) #[] #[V3 (c.heap.size+1) 0,V3 (c.heap.size+1+1) 0],qP b.lv,.agg #[qP b.pc.off,qP b.pc.len,qP b.pc.brk],undef,undef,undef,undef,undef,undef,undef,undef],defers:=[]})
  (λb I _ a bz b0 H a1 x=>by
   obtain⟨e,a5,J,a6⟩:=H;refine⟨e,a5,(a1.block e (xG.1 J).1 (λo=>?_)).R J,a6⟩;obtain⟨_,b1,ac,D⟩:=x e o.J
   rw[J]at ac;cases ac;cases D)
  ?assign ?body ?done ?stop
 case assign=>
  rintro a7 g b a b2 ⟨⟨d,q,h,_⟩,i,m⟩ K;gi_wp2;have v:=m.size;refine K _ _ ((KeepsOthers.alloc _ _).from _) ((xF _ a).alloc v _) ⟨⟨d,q.alloc _,h.alloc _,xN⟩,i.alloc _,m.alloc v _⟩ ⟨a.heap.size,xN,xJ _ _,rfl⟩
 case body=>
  rintro a7 g b I a ad ⟨b3,x⟩ ⟨⟨d,q,h,_⟩,i,m⟩ ⟨e,_,s,rfl⟩ b4;have D:=q.cell;have bk:a.cell? (V4 e 0)=some (qP b.pc.off):=(by rw[xH a _ 0 _ _ _ s];rfl);have bl:a.cell? (V4 e 1)=some (qP b.pc.len):=(by rw[xH a _ 1 _ _ _ s];rfl);have bn:a.cell? (V4 e 2)=some (qP b.pc.brk):=(by rw[xH a _ 2 _ _ _ s];rfl);have bp:=(xG.1 s).1;have v:=m.size;have HR:=zC x;have bq:=zC ad;clear x ad s;gi_wp2_with (gi_at_builtin;refine wpListIn_append_own _ rfl _ _ 26 rfl w.heap.size 87 X (.agg #[qP 0,qP 0,qP 0,qP 0]) 4 32 underlying26 Z aa ab a3 rfl VS _ _ _ rfl (h.alloc _) (V4 a.heap.size 0) 1 1 (Jg b) rfl rfl (za _ _ _) (by simp[Jg,Value.oneCell']) (by grind [maxLen]) VC VV ?_;intro bw ay U V _;obtain⟨b5,b6,rfl⟩:=ownsRow_succ U;obtain⟨ae,a8,b7,a9,af⟩:=q.appended VS h v VC U V;have an:=(i.alloc _).kept V (i.not_row VS h);have br:=ae.cell;have bt:=ae.frozen);exact⟨a9.from _,af,⟨⟨_,a8,by grind [zG],xN⟩,an.other VC _,m.R af⟩⟩
 case done=>
  rintro r b8 a b9 rfl ⟨⟨d,q,h,_⟩,i,m⟩ K;have D:=q.cell;have bu:=i.cell;have bv:=i.frozen
  obtain⟨k,l,j,rfl⟩:∃k l j,d= .slice k l j:=by
   rcases h.2 with ⟨rfl,_⟩ | ⟨ca,j,cb,rfl,_⟩
   ·simp
   simp
  gi_wp2;have S:r≠w.heap.size:=VC;have E:(a.setCell (V4 w.heap.size 0) (VZ k l j)).heap[r]?=some (.deferred (some [])):=(xM a (V4 w.heap.size 0) r _ S).R K;have ao:=i.set (VZ k l j);have ap:=h.kept (grownBy_setCell' a w.heap.size (VZ k l j)) (.inr (i.not_row VS h).J);have aq:=m.setCell (p:=(V4 w.heap.size 0)) lR (VZ k l j);refine⟨VT,.inl ⟨_,_,rfl,run_takeDeferred E,?_⟩⟩;have ar:=ao.kept (grownBy_putObj' _ r (.deferred none)) (λo=>S (by grind));have au:=ownsRow_putObj ap (.deferred none) E rfl;have av:=aq.R (belowK_b lR _ r _ (.deferred none) VC E rfl rfl);have aw:=ar.cell;exact⟨.agg #[VZ k l j],by simp[results,go_sem,aw],_,rfl,au,av⟩
 rintro r cc g a _ _ ba _;exact ba.elim
end
theorem Zd(S):∀a:AT,a.tx S=a.tF.flatMap (Z7 S)
 | .nil=>rfl
 | .tN b d c=>by simp only[AT.tx,AT.tF,List.flatMap_append,Qv,Zd S b,Zd S c]
def Us{S p q}(a:WP S p)(b:WP S q)(c:p.off+p.len=q.off):Z7 S (zY S p.off (p.len+q.len))=Z7 S p++Z7 S q:=by
 obtain⟨d,e,f,_⟩:=a;obtain⟨g,h,i,_⟩:=b;unfold Z7 zY;simp;rw[show(p.len+q.len).toNat=p.len.toNat+q.len.toNat by omega,List.take_add,QO,show p.off.toNat+p.len.toNat=q.off.toNat by omega]
def Back.wp{S}{b c:AT}(h:Back S b.tF c.tF)(i:b.wp S):c.wp S:=by
 have d:=(ze S b).1 i;refine(ze S c).2 λl a=>?_
 obtain g|⟨m,n,o,j,k,p,g⟩:=h
 ·simp_all
 rw[g]at a;simp at a;obtain a|rfl|a:=a
 ·grind
 ·have e:=d _ (vc j)
  have f:=d _ (vc k);exact Za e.1 (by have:=e.2.1;have:=f.2.1;omega) (by have:=f.2.2.1;omega)
 grind
theorem ptx_app{zs p}(a:WP zs p)(ts):Z7 (zs++ts) p=Z7 zs p:=by
 obtain⟨b,c,d,e⟩:=a
 grind [Z7,List.length_drop]
def tx_app{zs}{b:AT}(d:b.wp zs)(ts):b.tx (zs++ts)=b.tx zs:=by
 rw[Zd,Zd];have e:=(ze zs b).1 d
 have:∀a:List Pc,(∀c∈a,WP zs c)->a.flatMap (Z7 (zs++ts))=a.flatMap (Z7 zs):=by
  intro a
  induction a with
  | nil=>simp
  | cons c a f=>grind [ptx_app]
 simp_all
def FX{zs ts T off}(e:T.ok)(n:T.wp zs)(h:0<=off)(i:off<=T.rns)(A:0<L ts):
  (Jf (zs++ts) (L zs) T off).wp (zs++ts)/\(Jf (zs++ts) (L zs) T off).rns=T.rns+L ts/\(Jf (zs++ts) (L zs) T off).tI<=T.tI+2:=by
 have u:L (zs++ts)=L zs+L ts:=xL;have k:=n.app ts;have l:(L (zs++ts):Int)-L zs=L ts:=VC
 have p:=(ze zs T).1 n;have q:=(ze _ T).1 k;by_cases m:∃d b,zN T off=d+1/\(T.tT 0)[d]?=O b/\total ((T.tT 0).take (zN T off))=off/\b.pc.off+b.pc.len=L zs
 ·obtain⟨d,b,r,o,ht,s⟩:=m
  have c:=UK (S:=zs++ts) e h i r o ht s;rw[l]at c;have f:T.tF[d]?=O b.pc:=(by rw[<- AT.qh T 0,vZ,o];rfl);have g:=jO T d (zY (zs++ts) b.pc.off (b.pc.len+L ts)) _ f;have v:=jk e _ (vc f);rw[c];refine⟨?_,?_,by rw[AT.qf];omega⟩
  ·refine(ze _ _).2 λj a=>?_
   rw[g]at a;simp at a;obtain a|rfl|a:=a
   ·grind
   ·have:=(q _ (vc f)).1
    grind [Za]
   grind
  rw[AT.qc,AT.qc,g,zZ,zT];have w:=(zm f).1
  grind [zz,zY,zZ,zT]
 have c:=UL (S:=zs++ts) e (λj a=>(p j a).2.2.1) h i m;rw[l]at c;obtain⟨t,B⟩:=ZH (S:=zs++ts) e h i;have g:(Jf (zs++ts) (L zs) T off).tF=(zb (zs++ts) T off).tF.take (zN T off)++zY (zs++ts) (L zs) (L ts)::(zb (zs++ts) T off).tF.drop (zN T off):=by rw[c,AT.ins_flat _ _ _ t]
 have x:=(ze _ _).1 (Ym e k h i);refine⟨?_,?_,?_⟩
 ·refine(ze _ _).2 λj a=>?_
  grind [List.mem_of_mem_take,Za,List.mem_of_mem_drop]
 ·rw[AT.qc,g,zZ,zT]
  grind [zz,zb,zN,zY,Jc,zZ,List.take_append_drop,AT.qc]
 have y:(zb (zs++ts) T off).tI<=T.tI+1:=by
  by_cases z:jR T off=0
  ·grind [zb]
  grind [AT.qd,jP,List.length_append,List.length_cons,List.length_take,List.length_drop,Y9,zm]
 grind [zb,AT.qd,List.length_append,List.length_cons,List.length_take,List.length_drop]
def Mc{S T R}(a:T.bal):(ju S T R).bal:=by
 cases hb:jJ T R with
 | false=>grind [ju]
 | true=>
  simp_all[ju,jJ,xU,vn,AT.rem_bal,AT.qi,AT.qf]
def Rx{S T lo hi}(t:T.ok)(u:T.bal)(v:T.wp S)(w:L S<=220000)(x:0<=lo)(y:lo<=hi)(j:hi<=T.rns):
  (YO S T lo hi).ok/\(YO S T lo hi).bal/\(YO S T lo hi).wp S/\(YO S T lo hi).rns<=T.rns:=by
 have a:=zBu t u v w x y j;have f:=(ze S _).1 a.wpJ
 have k:(Zw S T lo hi).rns<=T.rns:=by
  have g:=AT.split_flat (ZN S T lo hi) (zN T lo) a.a2;have l:(Da S T lo hi).tF=(ZN S T lo hi).tF.take (zN T lo):=g.1;have m:(Kt S T lo hi).tF=(ZN S T lo hi).tF.drop (zN T lo):=g.2;have n:=AT.split_flat (Kt S T lo hi) (JV S T lo hi-zN T lo) (by have:=a.yits;have:=a.z2;omega);have o:(UJ S T lo hi).tF=(Kt S T lo hi).tF.drop (JV S T lo hi-zN T lo):=n.2;have p:(ZN S T lo hi).rns=T.rns:=(by rw[ZN,FT a.ok1 VC (by rw[a.rn1];exact j),a.rn1]);have z:zz (ZN S T lo hi).tF=zz ((ZN S T lo hi).tF.take (zN T lo))+zz ((ZN S T lo hi).tF.drop (zN T lo)):=(by rw[<- zZ,vK]);have q:zz (Kt S T lo hi).tF=zz ((Kt S T lo hi).tF.take (JV S T lo hi-zN T lo))+zz ((Kt S T lo hi).tF.drop (JV S T lo hi-zN T lo)):=(by rw[<- zZ,vK]);have r:=Ys (F:=(Kt S T lo hi).tF.take (JV S T lo hi-zN T lo)) (λs c=>jk a.okY s (kH c));rw[AT.qc]at p;rw[AT.qc,Zw,AT.join_flat,zZ,l,o];rw[m]at q r |-;omega
 refine⟨a.okR,Mc a.balJ,?_,?_⟩
 ·cases hhb:jJ _ _ with
  | false=>rw[YO,ju,xK (by rw[hhb];simp)];exact a.wpJ
  | true=>
   have b:=hhb;simp only[jJ,vn]at b;have e:=yx (T:=Zw S T lo hi) b.1.1 VC;have c:=WO b.1.2;refine(ze S _).2 λB d=>?_
   rw[YO,Yu hhb]at d;simp at d;obtain d|rfl|d:=d
   ·grind
   ·have h:=f _ (vc e)
    have i:=f _ (vc c);exact Za h.1 (by have:=h.2.1;have:=i.2.1;omega) (by have:=i.2.2.1;omega)
   grind
 refine Int.le_trans ?_ k;cases hhb:jJ _ _ with
 | false=>rw[YO,ju,xK (by rw[hhb];simp)];omega
 | true=>
  have b:=hhb;simp only[jJ,vn]at b;have e:=yx (T:=Zw S T lo hi) b.1.1 VC;have c:=WO b.1.2;have A:=Ur b.1.1 e c;rw[AT.qc,AT.qc,YO,Yu hhb,zZ,zT]
  grind [zz,Zw,zN,zU,Ks,zY]
def zL.shape{g:V8}{h:Nat}{e:Jo}{c:List It}(i:zL g h e c):(e= .slice none 0 0/\c= [])\/∃a b,e= .slice (qQ a 0) (L c) b/\L c<=b/\b<=VL/\h<=a/\a<N (Y g):=by
 obtain⟨d,f⟩|⟨a,b,l,d,f,m,j,k,_⟩:=i.2
 ·exact .inl ⟨d,xR f⟩
 exact .inr ⟨a,b,d,j,k,f,(i.lt a (by rw[d];rfl)).2⟩
def zL.cells{e:V8}{h g i:Nat}{c:List It}(j:zL e h (VZ (qQ g 0) (L c) i) c):∀a b,(zG c)[a]?=O b->VE e (((V4 g 0):Addr).add a)=O b:=by
 intro a b d;have f:=j.cellAt a (by have:=(xS.1 d).1;rw[zK]at this;omega);rw[Addr.add_lit,vg,f,d]
def zg(d:List It):∀b∈zG d,b.oneCell'=VR:=by
 intro b c;simp only[zG,Jg,List.mem_flatMap,vC,QB,Vz]at c;obtain⟨e,_,a | a | a | a⟩:=c<;>subst a<;>rfl
def Ry{e:V8}{b:Nat}{f:TypeId}{g:Nat}{c:Jo}{h:Nat}{i:Ki}(j:e.ownsRow b f g c h i):∀a,VD c=O a->b<=a:=λa d=>(j.lt a d).1
def Rz{e:V8}{f:Nat}{g:TypeId}{h:Nat}{b:Jo}{i:Nat}{j:Ki}(k:e.ownsRow f g h b i j):∃c d a,b= .slice c d a:=by
 obtain⟨rfl,_⟩|⟨l,a,m,rfl,_⟩:=k.2
 ·exact⟨_,_,_,rfl⟩
 exact⟨_,_,_,rfl⟩
def FY{b:V8}{h c i:Nat}{d e:TypeId}{j:Nat}{f:Jo}{k:Ki}{l:qa2}{m:Nat×Nat}(n:b.ownsRow h d j f i k)(o:b.heap[c]?=O (V6 l e m))(p:d≠e):O c≠VD f:=by
 obtain⟨rfl,_⟩|⟨q,r,s,rfl,_,g,_⟩:=n.2
 ·simp[VD]
 intro a;simp only[VD,xP]at a;subst a;rw[o]at g;cases g;exact p rfl
def pcC(a:Pc):Ki:=[qP a.off,qP a.len,qP a.brk]
def Yv(a:List Pc):Ki:=a.flatMap pcC
theorem F0(a b:List Pc):Yv (a++b)=Yv a++Yv b:=by simp[Yv]
def Hf(c:List Pc)(a d:Nat)(e:Pc)(b:c[a]?=O e)(j:d<3):(Yv c)[a*3+d]? =(pcC e)[d]?:=by
 induction c generalizing a with
 | nil=>simp at b
 | cons f g i=>
  have h:Yv (f::g)=pcC f++Yv g:=(by simp[Yv]);rw[h];cases a with
  | zero=>simp at b;subst b;rw[vN (by simp[pcC];omega)];simp
  | succ a=>
   rw[xQ (by simp[pcC];omega)];have:=i a (by simpa using b);rw[<- this]
   congr 1
   simp[pcC];omega
def Tryz.infoPC:(prog.info? 85).map (λa=>(a.zero,a.size,a.bytes))=O (O (.agg #[qP 0,qP 0,qP 0]),3,24):=VU
def Gt(b:V8)(c:Nat)(d:Jo)(a:List Pc):Prop:=b.ownsRow c 85 3 d (L a) (Yv a)
def PcAt(a:V8)(b c:Nat)(d:Pc):Prop:=
 VE a (V4 b c)=O (qP d.off)/\VE a (V4 b (c+1))=O (qP d.len)/\VE a (V4 b (c+2))=O (qP d.brk)
def F1(i:Nat)(j:V8)(g:Jo)(b:List Pc):Prop:=
 (∃h a,g= .slice h 0 a/\b= [])\/
 (∃c d a,g= .slice (qQ c d) (L b) a/\(0<L b/\L b<=a/\a<=VL)/\c<i/\∀e f,b[e]?=O f->PcAt j c (d+e*3) f)
theorem F1.I{e b:Nat}{h i:V8}{j:Jo}{k:List Pc}(f:F1 e h j k)(g:Below b h i)(w:e<=b):F1 e i j k:=by
 obtain f|⟨a,d,n,o,q,r,s⟩:=f
 ·exact .inl f
 refine .inr ⟨a,d,n,o,q,r,λc l m=>?_⟩;obtain⟨t,u,v⟩:=s c l m;exact⟨(g.U (p:=(V4 a (d+c*3))) (by show a<b;omega)).R t,(g.U (p:=(V4 a (d+c*3+1))) (by show a<b;omega)).R u,(g.U (p:=(V4 a (d+c*3+2))) (by show a<b;omega)).R v⟩
def Gt.rd{f:V8}{i:Nat}{g:Jo}{b:List Pc}(c:Gt f i g b):F1 (N (Y f)) f g b:=by
 unfold Gt at c;obtain⟨rfl,d⟩|⟨h,j,n,rfl,o,_,k,l,_⟩:=c.2
 ·exact .inl ⟨_,_,rfl,xR d⟩
 obtain d|d:=QA (L b)
 ·exact .inl ⟨_,_,by rw[d],xR d⟩
 refine .inr ⟨h,0,j,rfl,⟨d,k,l⟩,(c.lt h rfl).2,λa q e=>?_⟩;have m:a<L b:=(xS.1 e).1;refine⟨?_,?_,?_⟩
 ·have:=c.cellAt (0+a*3) VC
  rw[this,vg];exact(Hf b a 0 q e VC).R rfl
 ·have:=c.cellAt (0+a*3+1) VC
  rw[this,vg];exact(Hf b a 1 q e VC).R rfl
 have:=c.cellAt (0+a*3+2) VC;rw[this,vg];exact(Hf b a 2 q e VC).R rfl
def jK:Nat->List Pc->AT
 | 0,_=>.nil
 | b+1,a=>match a[L a/2]? with
  | none=>.nil
  | some c=>.tN (jK b (a.take (L a/2))) c (jK b (a.drop (L a/2+1)))
def Jh(a:Nat):jK a []= .nil:=by cases a<;>simp[jK]
def Jy{f:Nat}{a:List Pc}{b:Pc}(c:a[L a/2]?=O b):jK (f+1) a= .tN (jK f (a.take (L a/2))) b (jK f (a.drop (L a/2+1))):=by
 simp only[jK,c]
theorem Yb:∀(b:Nat)(a:List Pc),L a<=b->(jK b a).tF=a
 | 0,a,f=>by
  obtain rfl:a= []:=xR VC;rfl
 | b+1,a,f=>by
  obtain d|d:=QA (L a)
  ·obtain rfl:a= []:=xR d
   rw[Jh];rfl
  have c:L a/2<L a:=VC;have e:a[L a/2]?=O a[L a/2]:=xI c;rw[Jy e]
  show(jK b _).tF++_::(jK b _).tF=a
  rw[Yb b _ (by rw[xO];omega),Yb b _ (by rw[xZ];omega)];rw[<- ko c,vK]
def F1.cutL{h d e f:Nat}{i:V8}{b:List Pc}(o:F1 h i (VZ (qQ d e) (L b) f) b)(a:Nat)(j:a<=L b):F1 h i (VZ (qQ d e) a f) (b.take a):=by
 have l:L (b.take a)=a:=by rw[xO];omega
 obtain k|k:=QA a
 ·subst k;exact .inl ⟨_,_,rfl,VT⟩
 obtain⟨_,_,g,p⟩|⟨t,u,v,g,q,r,s⟩:=o
 ·rw[p]at j;simp at j;omega
 simp only[kL,xP,QW,and_true]at g;obtain⟨⟨rfl,rfl⟩,_,rfl⟩:=g;refine .inr ⟨d,e,f,by rw[l],⟨VC,VC,q.2.2⟩,r,λm n c=>s m n ?_⟩;rw[kN]at c
 split at c
 ·exact c
 cases c
def F1.cutR{j g c e:Nat}{k:V8}{b:List Pc}{ao:qa1}(n:F1 j k (VZ (qQ g c) (L b) e) b)(a:Nat)(o:a<=L b)(p:a<L b->ao=O (V4 g (c+a*3))):F1 j k (VZ ao (L b-a) (e-a)) (b.drop a):=by
 have l:L (b.drop a)=L b-a:=by rw[xZ]
 obtain d|d:=Nat.eq_or_lt_of_le o
 ·refine .inl ⟨ao,e-a,by rw[d,Qj],Qk VC⟩
 obtain⟨_,_,h,q⟩|⟨t,u,v,h,w,r,s⟩:=n
 ·rw[q]at d;simp at d
 simp only[kL,xP,QW,and_true]at h;obtain⟨⟨rfl,rfl⟩,_,rfl⟩:=h;refine .inr ⟨g,c+a*3,e-a,by rw[l,p d],⟨VC,VC,VC⟩,r,λf m i=>?_⟩;rw[kO]at i;have:=s (a+f) m i;rw[show c+a*3+f*3=c+(a+f)*3 by omega];exact this
def F7{W base v E F n m}(a:L E=n)(b:L F=m)(c:W.ownsRow base 87 4 v (n+m) (zG E++zG F)):zL W base v (E++F):=by
 grind [zL,List.length_append,zd]
def F8(f)(ps)(a:L ps<=f)(d):L ((jK f ps).tT d)=L ps:=by
 grind [AT.tQ,AT.flat_length,Yb]
theorem middleL:∀ (f:Nat) (a) (B) (v) (c:Int) (w),L a<=f->F1 B w v a->B<=N (Y w)->L a<=8192->(0<=c∧c+f<=100000)->
  VM prog 43 #[v,.int .i64 c] w fun e w'=>∃ar,e= .returned ar∧zL w' (N (Y w)) ar ((jK f a).tT c)∧Below (N (Y w)) w w':=by
 intro f
 induction f with
 | zero=>
  intro a B v c w aj J K ak bf
  obtain rfl:a= []:=xR (by omega)
  obtain⟨ao,cap,rfl⟩:∃ao cap,v= .slice ao 0 cap:=by
   obtain⟨ao,cap,rfl,_⟩|⟨_,_,_,_,s,_⟩:=J
   ·simp
   omega
  go_enter func43,ntmps43;go_wp2;go_ret;exact⟨_,rfl,vz _ _ _ _,xF _ _⟩
 | succ f az=>
  intro a B v c w aj J K ak bf;have y:=zC az;clear az;obtain⟨bj,hi,bx,bz,b0⟩:=kB Tryz.qu
  obtain⟨ao,cap,rfl,rfl⟩|⟨b,o,cap,rfl,s,bk,hc⟩:=J
  ·rw [Jh]
   go_enter func43,ntmps43;go_wp2;go_ret;exact⟨_,rfl,vz _ _ _ _,xF _ _⟩
  have HR:=zC (show F1 B w (.slice (O ⟨b,o,none⟩) (L a) cap) a from .inr ⟨b,o,cap,rfl,s,bk,hc⟩)
  have z:L a/2<L a:=by omega
  obtain⟨p,S⟩:∃p,a[L a/2]? =O p:=⟨_,xI z⟩;obtain⟨av,aw,a2⟩:=hc _ p S;have HT:=zC (Jy (f:=f) S);generalize jK (f+1) a=aq at HT |-;unfold VL at s;obtain⟨m,t⟩:∃m,m=L a/2:=⟨_,rfl⟩;rw [<- t]at z av aw a2 HT;obtain⟨n,g⟩:∃n,n=L a:=⟨_,rfl⟩
  have a0:(n:Int)/2=m:=by rw [t,g];omega
  have bp:((n:Int)==0)=VP:=by simp;omega
  rw [<- g]at s z ak aj;rw [<- g];have bq:=zC g
  have A:=zC (HR.A.cutL m (by omega))
  obtain⟨P,T⟩:∃P,P=(if cap=m+1 then O (⟨b,o,none⟩:Addr)else O ⟨b,o+(m+1)*3,none⟩):=⟨_,rfl⟩
  have C:=zC ((by
   have d:=HR.A.cutR (m+1) (ao:=P) (by omega) (fun bw=>by grind)
   rw [<- g]at d;exact d))
  have D:L (a.take m)=m:=by rw [xO,<- g];omega
  have lR:L (a.drop (m+1))=n - (m+1):=by rw [xZ,<- g]
  have l:=zC (F8 f (a.take m) (by omega) (c+1))
  have X:=zC (F8 f (a.drop (m+1)) (by omega) (c+1))
  rw [D]at l;rw [lR]at X
  have E:=zC (show aq.tT c=(jK f (a.take m)).tT (c+1)++⟨p,c⟩::(jK f (a.drop (m+1))).tT (c+1)from(by rw [HT.A];rfl))
  generalize aq.tT c=bv at E |-
  have Z:=zC (y.A (a.take m) B (.slice (O ⟨b,o,none⟩) m cap) (c+1) w (by omega) A.A K (by omega) (by omega))
  by_cases an:cap=m+1
  case' pos=>
   have a1:n=m+1:=by omega
   have aa:a.drop (m+1)= []:=Qk (by omega)
   have ab:=zC (fun W (au:Below (N (Y w)) w W) Q=>y.A (a.drop (m+1)) B (.slice (O ⟨b,o,none⟩) 0 0) (c+1) W (by omega) (.inl ⟨_,_,rfl,aa⟩) Q (by omega) (by omega))
   have br:((m:Int)+1)/2=m:=by omega
   clear aa C T HR A t g D lR a0;subst a1;subst an
  case' neg=>
   rw [xK an]at T;subst T
   have ab:=zC (fun W au Q=>y.A (a.drop (m+1)) B (.slice (O ⟨b,o+(m+1)*3,none⟩) (n - (m+1)) (cap - (m+1))) (c+1) W (by omega) (C.A.I au K) Q (by omega) (by omega))
   clear C HR A t g D lR
  all_goals
   generalize (jK f (a.take m)).tT (c+1)=tl at*;generalize (jK f (a.drop (m+1))).tT (c+1)=h at*;clear HT hc S;go_enter func43,ntmps43;go_wp2_with fail;refine Z.A.G ?_;rintro e U ⟨ax,rfl,ay,i⟩;have ac:=zC i;have a3:=i.size
   have a4:=(i.U (by grind)).R av
   have a5:=(i.U (by grind)).R aw
   have a6:=(i.U (by grind)).R a2
   have G:=zC ay
   have ad:=zC (show(VF U (.cells #[.int .i64 p.off,.int .i64 p.len,.int .i64 p.brk,.int .i64 c] 87)).ownsRow (N (Y w)) 87 4 ax m (zG tl)from(by have d:=G.A;unfold zL at d;rw [l.A]at d;exact vV d _))
   have ae:=zC (za U 87 [.int .i64 p.off,.int .i64 p.len,.int .i64 p.brk,.int .i64 c]);clear ay i Z
   go_wp2_with (at_builtin;refine a26 _ rfl _ _ rfl (N (Y w)) ax m (zG tl) rfl (ad.A) ⟨N (Y U),0,none⟩ 1 1 [.int .i64 p.off,.int .i64 p.len,.int .i64 p.brk,.int .i64 c] rfl rfl (ae.A) (by intro u al;simp at al;obtain rfl|rfl|rfl|rfl:=al<;>rfl) (by grind [VL]) (by omega) (by first | (simp;omega)) ?_;intro am bg j k M;refine Qq ?_)
   refine Lib.hid ?_;have af:=zC (F7 (F:=[⟨p,c⟩]) l.A rfl j)
   have r:=zC ((ac.A.alloc a3 (.cells #[.int .i64 p.off,.int .i64 p.len,.int .i64 p.brk,.int .i64 c] 87)).grown k (by simp;omega) (fun q R=>(G.A.lt q R).1))
   have a7:=r.A.size
   have l2:L (tl++ [(⟨p,c⟩:It)])=m+1:=by rw [xL,l.A];rfl
   have ag:=zC l2;clear j k M ae ad G ac a4 a5 a6 l2;go_wp2_with fail
   refine(ab.A bg (r.A) (by omega)).G ?_
   rintro e w3 ⟨b1,rfl,x,V⟩;have a8:=zC (x);have H:=zC (zE af.A V lR);have I:=zC (r.A.R (V.G a7));have bs:=I.A.size
   have ah:=zC ((by have d:=H.A;rw [ag.A]at d;exact d))
   clear V af r
   obtain⟨rfl,rfl⟩|⟨bl,bn,rfl,b2,b3,b4,b5⟩:=zL.shape x
   ·clear x
    go_wp2_with (at_builtin;refine wpList_append_own_none rfl _ _ 26 rfl (N (Y w)) 87 bj 4 underlying26 hi _ _ _ rfl (ah.A) rfl ?_);go_ret;refine⟨am,rfl,?_,I.A⟩;rw [E.A];exact H.A
   have a9:=zC X.A;have ba:=zC (zL.cells a8.A)
   have bt:L h<=8192:=by rw [a9.A];omega
   clear x;generalize ap:L h=bi at*;have ai:=zC ap;clear ap
   go_wp2_with (at_builtin;refine a26 _ rfl _ _ rfl (N (Y w)) am (m+1) (zG (tl++ [⟨p,c⟩])) rfl (ah.A) ⟨bl,0,none⟩ bi bn (zG h) rfl (by rw [zK,ai.A]) (ba.A) (zg h) (by grind [VL]) (by omega) (by omega) ?_;intro bh bu j k M;refine Qq ?_)
   refine Lib.hid ?_;have bc:=zC (F7 ag.A ai.A j)
   have bd:=zC (I.A.grown k (by omega) (fun q R=>(H.A.lt q R).1))
   clear j k M;go_wp2;go_ret;refine⟨bh,rfl,?_,bd.A⟩
   rw [E.A,show tl++⟨p,c⟩::h=tl++ [⟨p,c⟩]++h by simp]
   exact bc.A
def Md(d:qa0)(h j i b c:Nat)(a:V8)(n:∀g<L d,VE a (V4 h (j+g))=O (.int .i32 (d.getD g 0)))(A:h<N (Y a))(B:b+c<=L d)(C:0<c)(D:L d<=i)(o:i<=VL)(M:L d<=1048576):
  VM prog 37 #[VZ (qQ h j) (L d) i,qP (b:Int),qP (c:Int)] a λm y=>m=V5 (.agg #[qP (b:Int),qP (c:Int),qP (brk ((d.drop b).take c))])/\qa3 a y:=by
 have k:=zC ((xF (N (Y a)) a).alloc lR (V6 #[qP 0,qP 0,qP 0] 85));have q:=zC (Ei ((d.drop b).take c) _ (VF a (V6 #[qP 0,qP 0,qP 0] 85)) (Rm (λg z=>(k.U (p:=(V4 h (j+g))) A).R (n g z)) b c B C D o) (by rw[xO,xZ];omega));have l:(VF a (V6 #[qP 0,qP 0,qP 0] 85)).heap[N (Y a)]?=O (V6 #[qP 0,qP 0,qP 0] 85 (0,0)):=xJ _ _;have f:=zC l;generalize brk ((d.drop b).take c)=w at*;generalize L d=x at*;unfold VL at o;have F:(b:Int)<=(b:Int)+(c:Int):=VC
 have G:(b:Int)+(c:Int)<=(x:Int):=VC
 have H:¬i=b:=VC
 clear n l;go_enter func37,ntmps37;go_wp2_with fail;generalize VF a (V6 #[qP 0,qP 0,qP 0] 85)=e at*;refine q.G ?_;rintro m P ⟨rfl,E⟩;have r:=E.J;subst r;have s:VE e (V4 (N (Y a)) 0)=O (qP 0):=by rw[xH e _ 0 _ _ _ f.A];rfl
 have t:VE e (V4 (N (Y a)) 1)=O (qP 0):=by rw[xH e _ 1 _ _ _ f.A];rfl
 have u:VE e (V4 (N (Y a)) 2)=O (qP 0):=by rw[xH e _ 2 _ _ _ f.A];rfl
 have I:=xW e (N (Y a)) 0 _ _ f;have J:=xW e (N (Y a)) 1 _ _ f;have K:=xW e (N (Y a)) 2 _ _ f;go_wp2;refine vE (v:=.agg #[qP (b:Int),qP (c:Int),qP w]) (by simp[results,results37,go_sem,s,t,u]) rfl ⟨rfl,?_⟩;exact((k.setCell VT _).setCell VT _).setCell VT _
def ZB(a:qa0)(e h f:Nat)(c b:Int)(d:V8)(k:∀g<L a,VE d (V4 e (h+g))=O (.int .i32 (a.getD g 0)))(l:e<N (Y d))(m:0<=c)(s:c+b<=L a)(t:0<b)(n:L a<=f)(o:f<=VL)(p:L a<=1048576):
  VM prog 37 #[VZ (qQ e h) (L a) f,qP c,qP b] d λi j=>i=V5 (.agg #[qP c,qP b,qP (brk ((a.drop c.toNat).take b.toNat))])/\qa3 d j:=by
 obtain⟨q,rfl⟩:=QY m;obtain⟨r,rfl⟩:=QY (show 0<=b by omega);exact Md a e h f q r d k l VC VC n o p
def Db(a b:Nat):Nat:=min 16 (a-16*b)
def Dc(b:qa0)(a:Nat):Pc:=⟨((16*a:Nat):Int),((Db (L b) a:Nat):Int),brk ((b.drop (16*a)).take (Db (L b) a))⟩
def Wd(a:qa0)(b:Nat):List Pc:=(List.range b).map (Dc a)
theorem yh(b:qa0)(a:Nat):L (Wd b a)=a:=by simp[Wd]
def Kc(a:qa0)(b:Nat):Wd a (b+1)=Wd a b++ [Dc a b]:=by simp[Wd,VB]
def Tryz.info32P:(prog.info? 21).map (λa=>(a.zero,a.size,a.bytes))=O (O (.int .i32 0),1,4):=VU
section
open Go.Shelf
attribute [local go_sem] QR
def Pa.more{n₀ W p l q r}(k:Pa n₀ W p (.tN l q r)):∃a h i d e,p=O (V4 a 0)/\a<n₀/\VE W (V4 a 0)=O (qP q.off)/\VE W (V4 a 1)=O (qP q.len)/\VE W (V4 a 2)=O (qP q.brk)/\
  VE W (V4 a 3)=O (.pointer h)/\VE W (V4 a 4)=O (.pointer i)/\VE W (V4 a 7)=O (qP (AT.tN l q r).rns)/\zM W d l h e/\(∀b∈e,b<n₀)/\Pa n₀ W h l/\Pa n₀ W i r:=by
 obtain⟨d,t,⟨a,m,n,e,o,rfl,u,c,j,s,rfl⟩,g⟩:=k;exact⟨a,m,n,d,e,rfl,g a VT,c.c0,c.c1,c.c2,c.c3,c.c4,c.c7,j,λb f=>g b (by simp[f]),⟨d,e,j,λb f=>g b (by simp[f])⟩,⟨d,o,s,λb f=>g b (by simp[f])⟩⟩
def Ff(V:Int×Pc->Prop)(lo hi)(co:0<=lo/\lo<=8192)(cp:0<=hi/\hi<=8192)(l n₀ N)(I bc:List (Int×Pc)->V8->Prop)
  (b8:∀p m g,I p m->qa3 m g->I p g)
  (av:∀b6 p(r)m,I p m->L p<N->V r->YieldAt Fence.wide b6 prog l #[qP r.1,.agg #[qP r.2.off,qP r.2.len,qP r.2.brk]] m λq g=>
   (q=V5 (.bool VR)/\I (p++ [r]) g/\Below n₀ m g)\/(q=V5 (.bool VP)/\bc (p++ [r]) g)) (T):
  ∀(E)(ab)(a)(p)(m),Pa n₀ m ab T->T.ok->0<=a->a+T.rns<=8192->I p m->L p+T.tI<=N->(∀r∈Yx lo hi T a,V r)->n₀<=m.heap.size->
   CallsIn Fence.wide E prog 268 #[.pointer ab,qP a,qP lo,qP hi,.func (.yield l) #[] #[]] m λq g=>
    (q=V5 (.bool VR)/\I (p++Yx lo hi T a) g/\Below n₀ m g)\/(q=V5 (.bool VP)/\∃t,t<+:Yx lo hi T a/\bc (p++t) g):=by
 induction T with
 | nil=>
  intro E ab a p m ht _ a8 b1 a9 _ _ _;obtain⟨bd,cq,⟨rfl,rfl⟩,_⟩:=ht;refine QC func268 rfl xN ?_ rfl;simp only[ntmps268,Qd,vA,vS,kT,kU,Qe,kZ,vL,vH];gi_wp2_with fail;go_ret
  simp_all[Yx,xF]
 | tN b i A bs ai=>
  intro E ab a p m ht H a8 b1 a9 b2 U F;obtain⟨b9,bf,bg,bd,ca,rfl,u,ac,ad,ae,af,ag,c7,bh,cb,cc,bi⟩:=ht.more;have ce:=H.left.bd;have cf:=H.right.bd;have cg:=H.piece;have bt:(AT.tN b i A).rns=b.rns+i.len+A.rns:=rfl;have az:=H.left;have a0:=H.right;have ch:a+b.rns+i.len+A.rns<=8192/\a+b.rns<=8192:=VC;generalize b5:(AT.tN b i A).rns=aq at*;have ci:IntKind.i64.wrap (a+aq)=a+aq:=(by rw[vU];omega);have bu:=Uv lo hi b a;have cj:=bu;have j:=zC (show Yx lo hi (AT.tN b i A) a=(if hi<=a\/a+(AT.tN b i A).rns<=lo then []else Yx lo hi b a++((if a+b.rns<hi/\lo<a+b.rns+i.len then [(a+b.rns,i)]else [])++Yx lo hi A (a+b.rns+i.len)))from rfl);rw[b5]at j;generalize Yx lo hi (AT.tN b i A) a=cn at j U |-;simp only[AT.tI]at b2;by_cases b3:hi<=a
  ·rw[xU (.inl b3)]at j
   refine QC func268 rfl xN ?_ rfl;simp only[ntmps268,Qd,vA,vS,kT,kU,Qe,kZ,vL,vH];gi_wp2_with fail;go_ret;exact .inl ⟨rfl,by rw[j.A];simp_all,xF _ _⟩
  by_cases b4:a+aq<=lo
  ·rw[xU (.inr b4)]at j
   have bv:¬a>=hi:=VC;refine QC func268 rfl xN ?_ rfl;simp only[ntmps268,Qd,vA,vS,kT,kU,Qe,kZ,vL,vH];gi_wp2_with fail;go_ret;exact .inl ⟨rfl,by rw[j.A];simp_all,xF _ _⟩
  rw[xK VC]at j;have bv:¬a>=hi:=VC;have a1:∀r∈Yx lo hi b a,V r:=λr ah=>U r (by rw[j.A];simp[ah])
  have a2:∀r∈Yx lo hi A (a+b.rns+i.len),V r:=λr ah=>U r (by rw[j.A];simp[ah])
  have a3:(a+b.rns<hi/\lo<a+b.rns+i.len)->V (a+b.rns,i):=λw=>U _ (by rw[j.A,xU w];simp)
  clear U;have a4:=zC a2;have bw:=zC a3;have ck:=Tryz.qI;have cl:=Tryz.fld1;have aj:=zC (λg(x:Below n₀ m g)=>JU b bf ca bd g (bh.frame λba b7=>x.block ba (cb ba b7)));have ak:=zC (λg=>Rh i g);have G:=zC (λg x=>bs (E-1) bf a p g (cc.I (x.G F)) az a8 VC (b8 p m g a9 x) VC a1 (ku F x.size));have z:=zC (qa5 ac (qa5 ad (qa5 ae (qa5 af ag))));clear a2 a3 bh a1 H az bt bs;have v:b9<m.heap.size:=VC;by_cases w:a+b.rns<hi/\lo<a+b.rns+i.len
  ·rw[xU w]at j
   have a5:=w.1;have bx:=w.2;have bz:=zC (λg c=>av (E-1) (p++Yx lo hi b a) (a+b.rns,i) g c (by grind) (bw w));have aa:=zC (λg x ar=>ai (E-1) bg (a+b.rns+i.len) (p++Yx lo hi b a++ [(a+b.rns,i)]) g (bi.I x) a0 VC VC ar (by grind) a4 (ku F x.size));clear ai av w;refine QC func268 rfl xN ?_ rfl;simp only[ntmps268,Qd,vA,vS,kT,kU,Qe,kZ,vL,vH]
   gi_wp2_with (first
    |(refine⟨xN,λc=>(by cases c),?_⟩;refine(vD.2 (aj m (xF _ _))).G ?_;rintro q bj ⟨rfl,n⟩;have J:=zC n;have K:=n.size;obtain⟨d,e,f,k,h⟩:=z.A;have M:=(n.U v).R d;have P:=(n.U v).R e;have Q:=(n.U v).R f;clear n d e f k h ac ad ae af ag c7;simp only[Zu])
    |(refine⟨xN,λc=>(by cases c),?_⟩;refine(vD.2 (ak _)).G ?_;rintro q bk ⟨rfl,B⟩;have s:=zC (J.R (B.G K));have a6:=s.size;obtain⟨d,e,f,k,h⟩:=z.A;have R:=(s.U v).R k;clear B d e f k h M P Q)
    |(refine⟨xN,λc=>(by cases c),?_⟩;refine(G _ s).G ?_;clear G;rintro q aw (⟨rfl,C,D⟩ | ⟨rfl,t,y,W⟩);rotate_left;skip;rotate_left;have o:=zC ((s.G F).R D);have S:=zC C;obtain⟨d,e,f,k,h⟩:=z.A;have al:=(o.U u).R d;have am:=(o.U u).R e;have an:=(o.U u).R f;have ao:=(o.U u).R h;clear D C d e f k h R;obtain⟨cr,cs,ct,cu,ah,bl⟩:=bz aw S;have HR:=zC bl;clear bl)
    |((try refine⟨xN,?_⟩);(try refine⟨λc=>(by cases c),?_⟩);refine HR.G ?_;clear HR;rintro q cv (⟨rfl,bn,bp⟩ | ⟨rfl,cd⟩);rotate_left;skip;rotate_left;have ap:=zC (o.R bp);have b0:=zC bn;obtain⟨d,e,f,k,h⟩:=z.A;have cm:=(ap.U u).R h;clear bp bn d e f k h al am an ao)
    |(refine⟨xN,λc=>(by cases c),?_⟩;refine(aa _ ap b0).G ?_;rintro q bq (⟨rfl,br,X⟩ | ⟨rfl,t,y,ax⟩)))
   all_goals first
    |(go_ret;exact .inl ⟨rfl,by rw[j.A];simp_all,ap.R X⟩)
    |(go_ret;obtain⟨Z,ay⟩:=y;exact .inr ⟨rfl,Yx lo hi b a++((a+b.rns,i)::t),⟨Z,by rw[j.A];simp[<- ay]⟩,by simpa[vB]using ax⟩)
    |(go_ret;exact .inr ⟨rfl,Yx lo hi b a++ [(a+b.rns,i)],⟨Yx lo hi A (a+b.rns+i.len),by rw[j.A];simp⟩,by simpa[vB]using cd⟩)
    |(go_ret;exact .inr ⟨rfl,t,y.R (by rw[j.A];simp),W⟩)
  rw[xK w,vL]at j;have aa:=zC (λg x ar=>ai (E-1) bg (a+b.rns+i.len) (p++Yx lo hi b a) g (bi.I x) a0 VC VC ar (by grind) a4 (ku F x.size));clear ai av;have a7:∀au:FuncId,none=O au->Fence.wide.fn au:=λau c=>by cases c
  by_cases a5:a+b.rns<hi
  ·have bx:¬lo<a+b.rns+i.len:=λc=>w ⟨a5,c⟩
   clear w;refine QC func268 rfl xN ?_ rfl;simp only[ntmps268,Qd,vA,vS,kT,kU,Qe,kZ,vL,vH]
   gi_wp2_with (first
   |(refine⟨xN,λc=>(by cases c),?_⟩;refine(vD.2 (aj m (xF _ _))).G ?_;rintro q bj ⟨rfl,n⟩;have J:=zC n;have K:=n.size;obtain⟨d,e,f,k,h⟩:=z.A;have M:=(n.U v).R d;have P:=(n.U v).R e;have Q:=(n.U v).R f;clear n d e f k h ac ad ae af ag c7;simp only[Zu])
   |(refine⟨xN,λc=>(by cases c),?_⟩;refine(vD.2 (ak _)).G ?_;rintro q bk ⟨rfl,B⟩;have s:=zC (J.R (B.G K));have a6:=s.size;obtain⟨d,e,f,k,h⟩:=z.A;have R:=(s.U v).R k;clear B d e f k h M P Q)
   |(refine⟨xN,λc=>(by cases c),?_⟩;refine(G _ s).G ?_;clear G;rintro q aw (⟨rfl,C,D⟩ | ⟨rfl,t,y,W⟩);rotate_left;skip;rotate_left;have o:=zC ((s.G F).R D);have S:=zC C;obtain⟨d,e,f,k,h⟩:=z.A;have al:=(o.U u).R d;have am:=(o.U u).R e;have an:=(o.U u).R f;have ao:=(o.U u).R h;clear D C d e f k h R))
   all_goals first
    |(go_ret;exact .inr ⟨rfl,t,y.R (by rw[j.A];simp),W⟩)
    | skip
   refine⟨a7,?_⟩;gi_wp2_with (refine⟨xN,λc=>(by cases c),?_⟩;refine(aa _ o S).G ?_;rintro q bq (⟨rfl,br,X⟩ | ⟨rfl,t,y,ax⟩))
   all_goals first
    |(go_ret;exact .inl ⟨rfl,by rw[j.A];simp_all,o.R X⟩)
    |(go_ret;obtain⟨Z,ay⟩:=y;exact .inr ⟨rfl,Yx lo hi b a++t,⟨Z,by rw[j.A];simp_all⟩,by simp_all⟩)
  clear w;refine QC func268 rfl xN ?_ rfl;simp only[ntmps268,Qd,vA,vS,kT,kU,Qe,kZ,vL,vH]
  gi_wp2_with (first
  |(refine⟨xN,λc=>(by cases c),?_⟩;refine(vD.2 (aj m (xF _ _))).G ?_;rintro q bj ⟨rfl,n⟩;have J:=zC n;have K:=n.size;obtain⟨d,e,f,k,h⟩:=z.A;have M:=(n.U v).R d;have P:=(n.U v).R e;have Q:=(n.U v).R f;clear n d e f k h ac ad ae af ag c7;simp only[Zu])
  |(refine⟨xN,λc=>(by cases c),?_⟩;refine(vD.2 (ak _)).G ?_;rintro q bk ⟨rfl,B⟩;have s:=zC (J.R (B.G K));have a6:=s.size;obtain⟨d,e,f,k,h⟩:=z.A;have R:=(s.U v).R k;clear B d e f k h M P Q)
  |(refine⟨xN,λc=>(by cases c),?_⟩;refine(G _ s).G ?_;clear G;rintro q aw (⟨rfl,C,D⟩ | ⟨rfl,t,y,W⟩);rotate_left;skip;rotate_left;have o:=zC ((s.G F).R D);have S:=zC C;obtain⟨d,e,f,k,h⟩:=z;have al:=(o.U u).R d;have am:=(o.U u).R e;have an:=(o.U u).R f;have ao:=(o.U u).R h;clear D C d e f k h R))
  all_goals first
   |(go_ret;exact .inr ⟨rfl,t,y.R (by rw[j.A];simp),W⟩)
   | skip
  refine⟨a7,?_⟩;gi_wp2_with (refine⟨xN,λc=>(by cases c),?_⟩;refine(aa _ o S).G ?_;rintro q bq (⟨rfl,br,X⟩ | ⟨rfl,t,y,ax⟩))
  all_goals first
   |(go_ret;exact .inl ⟨rfl,by rw[j.A];simp_all,o.R X⟩)
   |(go_ret;obtain⟨Z,ay⟩:=y;exact .inr ⟨rfl,Yx lo hi b a++t,⟨Z,by rw[j.A];simp_all⟩,by simp_all⟩)
def Gx(i:Int×Pc->Prop)(lo hi)(z:0<=lo/\lo<=8192)(A:0<=hi/\hi<=8192)(n)(l Bt Bl Bh n₀)(p0)(T)(s:T.ok)(B:∀c∈Yx lo hi T 0,i c)(f q:List {c:Int×Pc //i c}->V8->Prop)(C:∀b a d,f b a->qa3 a d->f b d)
  (D:∀b(c)a,f b a->L b<T.tI->YieldAt Fence.wide (n-1) prog l #[qP c.1.1,.agg #[qP c.1.2.off,qP c.1.2.len,qP c.1.2.brk]] a λh d=>
   (h=V5 (.bool VR)/\f (b++ [c]) d/\Below n₀ a d)\/(h=V5 (.bool VP)/\q (b++ [c]) d))
  (a) (J:VE a (V4 Bt 0)=O (.pointer p0)) (K:VE a (V4 Bl 0)=O (qP lo)) (M:VE a (V4 Bh 0)=O (qP hi)) (E:Pa n₀ a p0 T) (F:n₀<=N (Y a)) (G:f [] a):
  CallsIn Fence.wide n prog 267 #[.func (.yield l) #[] #[],V3 Bt 0,V3 Bl 0,V3 Bh 0] a λh d=>(∃t,h=V5 t)/\
   ((∃k:List {c:Int×Pc //i c},k.map (·.1)=Yx lo hi T 0/\f k d)\/(∃b:List {c:Int×Pc //i c},b.map (·.1)<+:Yx lo hi T 0/\q b d)):=by
 have I:=s.bd
 have g:=Ff i lo hi z A l _ _ (λb a=>∃e:List {c:Int×Pc //i c},e.map (·.1)=b/\f e a) (λb a=>∃e:List _,e.map (·.1)=b/\q e a) (λb a d⟨e,g,j⟩u=>⟨e,g,C e a d j u⟩) (λv b w a j x r=>by
   obtain⟨e,g,j⟩:=j;subst g
   refine Wc rfl v (YieldAt.mono (D e ⟨w,r⟩ a j (by simpa using x)) λh d m=>m.elim (λ⟨o,p,y⟩=>.inl ⟨o,⟨_,VT,p⟩,y⟩) (λ⟨o,p⟩=>.inr ⟨o,⟨_,VT,p⟩⟩))) T (n-1) p0 0 [] a E s VC VC ⟨[],rfl,G⟩ VT B F
 refine QC func267 rfl xN ?_ rfl;simp only[ntmps267,Qd,vA,vS,kT,kU,Qe,kZ,vL,vH];gi_wp2_with (refine⟨xN,λm=>(by cases m),?_⟩;refine g.mono ?_;clear g;rintro h P (⟨rfl,⟨k,H,Q⟩,_⟩ | ⟨rfl,R,r,k,H,S⟩))
 ·go_end0
  grind
 go_end0
 grind
def Uw(e:Int×Pc->Prop)(lo hi)(v:0<=lo/\lo<=8192)(x:0<=hi/\hi<=8192)(n)(Bt Bl Bh n₀)(p0)(T)(y:T.ok)(z:∀a∈Yx lo hi T 0,e a)(w)(A:Bt<N (Y w))(B:Bl<N (Y w))(C:Bh<N (Y w))(f:n₀<=N (Y w))
  (D:VE w (V4 Bt 0)=O (.pointer p0)) (E:VE w (V4 Bl 0)=O (qP lo)) (F:VE w (V4 Bh 0)=O (qP hi)) (G:Pa n₀ w p0 T):
  SeqStopsK Fence.wide n prog 267 #[V3 Bt 0,V3 Bl 0,V3 Bh 0] (λa:{a:Int×Pc //e a}=>#[Value.int .i64 a.1.1,.agg #[qP a.1.2.off,qP a.1.2.len,qP a.1.2.brk]]) (Below n₀) (λg=>g.map (·.1)=Yx lo hi T 0) (λd=>d.map (·.1)<+:Yx lo hi T 0) T.tI w:=λh i j k b l _ m o=>
 Gx e lo hi v x n h Bt Bl Bh _ p0 T y z i j (λd p q r c=>l d p q none r ⟨c.os,c.tape,c.output,c.size,λs t _=>c.block s t⟩ (λH u=>by cases u)) m k ((b.U A).R D) ((b.U B).R E) ((b.U C).R F) (G.I (b.G f)) (ku f b.size) o
def Mf(n)(p0)(lo hi)(w):
  CallsIn Fence.wide n prog 259 #[.pointer p0,qP lo,qP hi] w λa b=>a=V5 (.func (.func 267) #[] #[V3 (N (Y w)) 0,V3 (N (Y w)+1) 0,V3 (N (Y w)+1+1) 0])/\b=VF (VF (VF w (V6 #[.pointer p0] 99)) (V6 #[qP lo] 3)) (V6 #[qP hi] 3):=by
 refine QC func259 rfl xN ?_ rfl;simp only[ntmps259,Qd,vA,vS,kT,kU,Qe,kZ,vL,vH];gi_wp2;go_ret;simp
end
def indexN(a:qa0)(o p g:Nat)(h:V8)(q:∀c<L a,VE h (V4 o (p+c))=O (.int .i32 (a.getD c 0)))(G:L a<=1048576)(H:L a<=g)(y:g<=VL)(i:0<jV a):
  VM prog 272 #[VZ (qQ o p) (L a) g,.int .i32 10] h λv w=>v=V5 (qP ((bb a 0:Nat)-1))/\w=h:=by
 have r:=zC q;have s:=zC (λb f=>RZ a b i f);have t:=Ha a 0 i;have A:=Y3 a 0;generalize E:bb a 0=e at*;generalize F:L a=m at*;unfold VL at y;clear q i;go_enter func272,ntmps272;go_wp2_with fail;go_loop [8] (λc=>∃b:Nat,b<e/\c=qP b) (λc=>m-(intOf c).toNat)
 case atStart=>exact⟨0,t,rfl⟩
 obtain⟨b,f,rfl⟩:=hrel;obtain⟨j,k,z⟩:=s b f;have B:=r b z;generalize a.getD b 0=n at*;have C:(b:Int)<m:=VC
 by_cases d:n=10
 ·have l:=j d
  subst d;have u:=zC (show Ending.returned (qP ((e:Int)-1))=Ending.returned (qP (b:Int))by rw[show(e:Int)-1=b by omega]);clear j k;go_wp2;go_ret;exact⟨by first | rfl | exact Eq.R rfl u.J,rfl⟩
 have l:=k d;have D:¬10=n:=λx=>d x.J
 clear j k;go_wp2;go_round
 case rel=>exact⟨b+1,l,VY⟩
 simp[intOf];omega
def at_drop{d:V8}{e f:Nat}{b:qa0}(h:∀a<L b,VE d (V4 e (f+a))=O (.int .i32 (b.getD a 0)))(c:Nat):∀a,a<L (b.drop c)->VE d (V4 e (f+c+a))=O (.int .i32 ((b.drop c).getD a 0)):=by
 intro a g;rw[xZ]at g;rw[QU,h (c+a) VC];simp[vv,kO]
def behindN(a:qa0)(k l e c:Nat)(f:V8)(m:∀i<L a,VE f (V4 k (l+i))=O (.int .i32 (a.getD i 0)))(T:L a<=1048576)(U:L a<=e)(B:e<=VL)(V:c<jV a):
  VM prog 263 #[VZ (qQ k l) (L a) e,qP (c:Int)] f λr A=>r=V5 (qP (bb a c:Nat))/\A=f:=by
 have F:=zC m;have HS:=zC (λb ht=>OV a b ht);have G:=H3 a;have H:=zC (λb=>OQ a b);have o:=zC (λb=>Wx a b);have u:=zC (fun(d:Nat) (C:0<jV (a.drop d)) (W:d<L a)=>indexN (a.drop d) k (l+d) (e-d) f (at_drop m d) (by rw[xZ];omega) (by rw[xZ];omega) VC C);have v:=zC (fun(d:Nat)=>Y3 (a.drop d) 0);unfold VL at B;generalize Q:jV a=R at*;clear m;go_enter func263,ntmps263;go_wp2_with fail;go_loop [1,5] (λj s=>∃b:Nat,b<=c+1/\j=qP ((c:Int)-b)/\s=qP (ls a b:Nat)) (λj s=>((intOf j)+1).toNat)
 case atStart=>exact⟨0,VC,VT,by simp[ls]⟩
 obtain⟨b,ht,rfl,rfl⟩:=hrel;by_cases y:b=c+1
 ·subst y
  have I:¬ (0:Int)<=(c:Int)-((c+1:Nat):Int):=VC;have g:=zC (o c);go_wp2;go_ret;exact⟨by rw[<- g.A];rfl,rfl⟩
 obtain⟨t,n,D⟩:=HS b VC;have J:(0:Int)<=(c:Int)-(b:Int):=VC
 have p:=zC (u (ls a b) n D);have w:=v (ls a b);have h:=o b;rw[t]at h;have g:=zC h;rw[xZ]at p w;have K:=Ha _ _ n;generalize bb (a.drop (ls a b)) 0=S at*;generalize ls a b=q at*;generalize L a=z at*;clear t n h;have M:¬e=q:=VC
 have P:(q:Int)<=z:=VC
 go_wp2_with fail;refine p.G ?_;rintro r X ⟨rfl,E⟩;have x:=E.J;subst x;go_wp2;go_round
 case rel=>exact⟨b+1,VC,VY,by rw[g.A];go_num⟩
 simp[intOf];omega
def IS(a:Int)(b:Nat):It:=⟨⟨a+4*b,a+4*b+1,a+4*b+1+1⟩,a+4*b+1+1+1⟩
def UZ(a:Int)(b:Nat):List It:=(List.range b).map (IS a)
theorem JF(k0)(n):L (UZ k0 n)=n:=by simp[UZ]
def mit_get{k0 n i}(a:i<n):(UZ k0 n)[i]?=O (IS k0 i):=by simp[UZ,a]
def mit_set{k0 j}{a:List It}(b:j<L a):((((zG (UZ k0 j++a.drop j)).set (j*4) (qP (k0+4*j))).set (j*4+1) (qP (k0+4*j+1))).set (j*4+2) (qP (k0+4*j+1+1))).set (j*4+3) (qP (k0+4*j+1+1+1))=zG (UZ k0 (j+1)++a.drop (j+1)):=by
 rw[ko b];have c:=Rw (UZ k0 j) a[j] (IS k0 j) (a.drop (j+1))
 grind [IS,UZ,JF,List.range_succ]
def IT(xs)(v)(base)(k0)(w)(f:zL w base v xs)(z:L xs<=1048576)(A:0<=k0)(B:k0<=1099511627776):
  VM prog 84 #[v,qP k0] w λn l=>n=V5 (qP (k0+4*L xs))/\
   zL l base v (UZ k0 (L xs))/\w.grownBy l (VD v):=by
 obtain⟨rfl,rfl⟩|⟨d,p,rfl,C,q,D,E⟩:=f.shape
 ·clear f
  simp only[vS];go_enter func84,ntmps84;go_wp2;refine vI 1 ?_;rw[ve];go_wp2;go_ret;exact⟨VT,vz _ _ _ _,yW _ _⟩
 have m:=zC f;generalize y:L xs=c at*;unfold VL at q;clear f;go_enter func84,ntmps84;go_wp2
 go_loopw [1,5] (λo k wr=>∃a:Nat,a<=c/\o=qP (k0+4*a)/\k=qP a/\
   wr.ownsRow base 87 4 (VZ (qQ d 0) c p) c (zG (UZ k0 a++xs.drop a))/\w.grownBy wr (O d))
  (λ_ k _=>c-(intOf k).toNat)
 case atStart=>exact⟨0,xY _,VY,rfl,by have:=m.A;grind [zL,UZ],yW _ _⟩
 obtain⟨a,F,rfl,rfl,b,g⟩:=hrel;by_cases x:a<c
 ·obtain⟨G,H⟩:=Jw b (a*4) VC
  obtain⟨I,J⟩:=Jw b (a*4+1) VC;obtain⟨K,M⟩:=Jw b (a*4+2) VC;obtain⟨P,Q⟩:=Jw b (a*4+3) VC;have r:wr.frozen? (V4 d (a*4))=VP:=b.frozenAt _;have s:wr.frozen? (V4 d (a*4+1))=VP:=b.frozenAt _;have t:wr.frozen? (V4 d (a*4+2))=VP:=b.frozenAt _;have u:wr.frozen? (V4 d (a*4+3))=VP:=b.frozenAt _;have h:=b.stored (a*4) (qP (k0+4*a));have i:=h.1.stored (a*4+1) (qP (k0+4*a+1));have j:=i.1.stored (a*4+2) (qP (k0+4*a+1+1));have e:=j.1.stored (a*4+3) (qP (k0+4*a+1+1+1));rw[mit_set VC]at e;have HS:=zC e.1;have HG:=zC (zJ (zJ (zJ (zJ g h.2) i.2) j.2) e.2);clear h i j e g b;go_wp2;go_roundw
  case rel=>exact⟨_,VC,VY,VY,HS,HG⟩
  grind [intOf]
 obtain rfl:a=c:=VC
 rw[Qb VC,kW]at b;have HS:=zC b;have HG:=zC g;clear b g;go_wp2;go_ret;refine⟨rfl,?_,HG⟩;have:=HS.A
 grind [zL,JF]
def IU(B)(v)(n)(k0)(w)(l:ZX B w v (UZ k0 n))(t:n<=1048576)(u:0<=k0)(x:k0<=1099511627776):
  VM prog 85 #[v,qP k0] w λc i=>c=V5 (qP (k0+4*n))/\i=w:=by
 obtain⟨y,m,rfl,c⟩|⟨z,A,m,rfl,o,C,e⟩:=l
 ·have f:=by have:=Qf L c;simpa[UZ]using this
  subst f;clear c;go_enter func85,ntmps85;go_wp2;refine vI 1 ?_;rw[ve];go_wp2;go_ret;simp
 have d:=λb j=>e b _ (mit_get j)
 rw[JF]at *;have g:=zC d;unfold VL at o;clear e d;go_enter func85,ntmps85;go_wp2;go_loop [1,5] (λk b=>∃a:Nat,a<=n/\k=qP (k0+4*a)/\b=qP a) (λ_ b=>n-(intOf b).toNat)
 case atStart=>grind
 obtain⟨a,D,rfl,rfl⟩:=hrel;by_cases h:a<n
 ·obtain⟨p,q,r,s⟩:=g a h
  simp only[IS]at p q r s;go_wp2;go_round
  case rel=>exact⟨a+1,VC,VY,VY⟩
  grind [intOf]
 obtain rfl:a=n:=VC
 go_wp2;go_ret;simp
def TE(xs)(v)(base)(k0)(w)(a:zL w base v xs)(m:L xs<=1048576)(n:0<=k0)(o:k0<=1099511627776):
  VM prog 60 #[.agg #[v],qP k0] w λb c=>b=V5 (qP (k0+4*L xs))/\zL c base v (UZ k0 (L xs))/\w.grownBy c (VD v):=by
 have f:=zC (World.grownBy_alloc w (V6 #[v] 28) (VD v));have g:=zC (show zL (VF w (V6 #[v] 28)) base v xs from vV a _);have HM:=zC (λk l=>IT xs v base k0 k l m n o);obtain⟨p,q,r,rfl⟩:=Rz a;clear a;go_enter func60,ntmps60;go_wp2_with fail;generalize w.alloc _=j at*;refine(HM j g).G ?_;rintro b s ⟨rfl,d,e⟩;have h:=zC d;have i:=zC (zJ f e);clear d e;go_wp2;go_ret;exact⟨rfl,h,i⟩
def TF(B)(v)(n)(k0)(w)(a:ZX B w v (UZ k0 n))(j:B<=N (Y w))(k:n<=1048576)(l:0<=k0)(m:k0<=1099511627776):
  VM prog 63 #[.agg #[v],qP k0] w λc g=>c=V5 (qP (k0+4*n))/\qa3 w g:=by
 have b:=zC ((xF _ w).alloc lR (V6 #[v] 28));have d:=zC (a.I b j);have HM:=zC (λh i=>IU B v n k0 h i k l m);obtain⟨q,r,rfl⟩:=a.val;have p:¬ (k0+4*n)<0:=VC
 clear a;go_enter func63,ntmps63;go_wp2_with fail;generalize w.alloc _=f at*;refine(HM f d).G ?_;rintro c s ⟨rfl,o⟩;have e:=o.J;subst e;go_wp2;go_ret;exact⟨rfl,b⟩
def zAd(p)(w):VM prog 132 #[JP p,JP p] w λa b=>a=V5 (.bool VR)/\qa3 w b:=by
 unfold JP;go_enter func132,ntmps132;go_wp2;go_ret;exact⟨rfl,((xF _ _).alloc lR _).alloc VT _⟩
def eqItemL(x)(w):VM prog 101 #[itA x,itA x] w λm p=>m=V5 (.bool VR)/\qa3 w p:=by
 obtain⟨⟨b,c,d⟩,a⟩:=x;unfold itA;simp;have h:=zC (((xF _ w).alloc lR (V6 #[qP b,qP c,qP d,qP a] 87)).alloc VT (V6 #[qP b,qP c,qP d,qP a] 87))
 have i:(VF (VF w (V6 #[qP b,qP c,qP d,qP a] 87)) (V6 #[qP b,qP c,qP d,qP a] 87)).heap[N (Y w)]?=O (V6 #[qP b,qP c,qP d,qP a] 87 (0,0)):=by
  rw[kX _ _ _ VT];exact xJ _ _
 have j:(VF (VF w (V6 #[qP b,qP c,qP d,qP a] 87)) (V6 #[qP b,qP c,qP d,qP a] 87)).heap[N (Y w)+1]?=O (V6 #[qP b,qP c,qP d,qP a] 87 (0,0)):=by
  have:=xJ (VF w (V6 #[qP b,qP c,qP d,qP a] 87)) (V6 #[qP b,qP c,qP d,qP a] 87);simpa using this
 have q:N (Y (VF (VF w (V6 #[qP b,qP c,qP d,qP a] 87)) (V6 #[qP b,qP c,qP d,qP a] 87)))=N (Y w)+2:=VT
 have g:=zC (qa5 i j);clear i j;go_enter func101,ntmps101;go_wp2_with fail;generalize (w.alloc _).alloc _=o at*;refine(zAd ⟨b,c,d⟩ o).G ?_;rintro m e ⟨rfl,f⟩;have n:=zC (h.R (f.G VC));have k:=(f.block _ VC).R g.1;have l:=(f.block _ VC).R g.2;have r:VE e (V4 (N (Y w)) 3)=O (qP a):=by rw[xH e _ 3 _ _ _ k];rfl
 have s:VE e (V4 (N (Y w)+1) 3)=O (qP a):=by rw[xH e _ 3 _ _ _ l];rfl
 clear f k l g h;go_wp2;go_ret;exact⟨rfl,n⟩
def zAe(B C)(xs)(v u)(w)(h:ZX B w v xs)(i:ZX C w u xs)(ai:B<=N (Y w))(aj:C<=N (Y w))(ak:L xs<=1048576):
  VM prog 83 #[v,u] w λo J=>o=V5 (.bool VR)/\qa3 w J:=by
 by_cases g:xs= []
 ·subst g
  obtain⟨k,al,rfl⟩:=h.val;obtain⟨l,am,rfl⟩:=i.val;clear h i;simp;go_enter func83,ntmps83;go_wp2_with fail;refine vI 1 ?_;rw[ve];go_wp2;go_ret
  simp_all[xF]
 obtain⟨M,an,ao,rfl,⟨ap,aq,P⟩,ar,p⟩:=h.at g;obtain⟨Q,au,av,rfl,⟨aw,ax,R⟩,ay,q⟩:=i.at g;have E:=zC p;have F:=zC q;have U:((L xs:Int) != L xs)=VP:=VT
 unfold VL at P R;generalize ah:L xs=d at*;clear h i p q g;go_enter func83,ntmps83;go_wp2_with fail;go_loopw [5] (λj wr=>∃b:Nat,b<=d/\j=qP b/\qa3 w wr) (λj _=>d-(intOf j).toNat)
 case atStart=>exact⟨0,xY _,rfl,xF _ _⟩
 obtain⟨b,az,rfl,a⟩:=hrel;have n:=zC a;have G:=a.size;by_cases ag:b<d
 ·obtain⟨a0,r,s,k,l,t⟩:=FW E (show b<L xs by omega)
  obtain⟨S,m,x,y,z,A⟩:=FW F (show b<L xs by omega);obtain rfl:=(by rw[r]at m;exact(kK m).J);have e:M<N (Y w):=VC;have f:Q<N (Y w):=VC;have V:=(a.U e).R s;have W:=(a.U e).R k;have X:=(a.U e).R l;have Z:=(a.U e).R t;have aa:=(a.U f).R x;have ab:=(a.U f).R y;have ac:=(a.U f).R z;have ad:=(a.U f).R A;have ae:(b:Int)<d:=VC;clear s k l t x y z A r m a;go_upto_region 6 with fail;go_cut [26]from 11 to 26 (λK wc=>K= .bool VP/\qa3 wr wc)
  case first=>
   go_region_with (go_at_call 101;refine(eqItemL S _).G ?_;rintro o T ⟨rfl,c⟩;have H:=zC (show qa3 wr T from⟨c.os,c.tape,c.output,c.size,c.block⟩);clear c)
   all_goals (go_wp2_with fail;go_meet;exact⟨rfl,H⟩)
  obtain⟨rfl,D⟩:=hcut;have I:=zC (n.R (D.G G));clear D;go_wp2;go_roundw
  case rel=>exact⟨b+1,VC,VY,I⟩
  grind [intOf]
 obtain rfl:b=d:=VC
 have af:¬ (b:Int)<b:=VC
 clear a;go_wp2;go_ret;exact⟨rfl,n⟩
def eqTreeL(B C)(xs)(v u)(w)(b:ZX B w v xs)(c:ZX C w u xs)(m:B<=N (Y w))(n:C<=N (Y w))(o:L xs<=1048576):
  VM prog 56 #[.agg #[v],.agg #[u]] w λd l=>d=V5 (.bool VR)/\qa3 w l:=by
 obtain⟨e,f,rfl⟩:=b.val;obtain⟨g,h,rfl⟩:=c.val;have a:=zC (((xF _ w).alloc lR (V6 #[VZ e (L xs) f] 28)).alloc VT (V6 #[VZ g (L xs) h] 28));have p:N (Y (VF (VF w (V6 #[VZ e (L xs) f] 28)) (V6 #[VZ g (L xs) h] 28)))=N (Y w)+2:=VT
 have j:=zC (zAe B C xs _ _ _ (b.I a m) (c.I a n) VC VC o);clear b c;go_enter func56,ntmps56;go_wp2_with fail;refine j.G ?_;rintro d q ⟨rfl,i⟩;have k:=zC (a.R (i.G VC));clear i;go_wp2;go_ret;exact⟨rfl,k⟩
