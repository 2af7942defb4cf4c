import Derived.Lib.AppendZeros
import Derived.Shelf.SlicesE.Delete
import Derived.Lib.OwnBridge
import Derived.Test.YtacmdegboldnlaaGreatDoorMq23
import Derived.Test.YtacmdegboldnlaaGreatDoorMq12
import Derived.Test.YtacmdegboldnlaaGreatDoorMq25
set_option linter.all false
set_option maxRecDepth 100000
set_option maxHeartbeats 8000000
namespace Go.Proofs.YtacmdegboldnlaaGreatDoor
open Go Go.RowKit Go.Proofs.Tryz
open _root_.Array renaming size→N
open Bool renaming false→VP,true→VR
open Go renaming Calls→VM,below_regrown→qa7,cell_regrown→qa6,wpQuietIn_nil→qa9,wpQuietIn_step→qa8
open List renaming length→L
open Option renaming some→O
open _root_.Go.Value renaming ownBlock→VD,slice→VK
open _root_.Go.World renaming alloc→VF,cell?→VE,heap→Y
structure RC(w:V8)(B o:Nat)(v:Jo)(lo hi:Int):Prop where
 c0:VE w (V4 B o)=O v
 c1:VE w (V4 B (o+1))=O (qP lo)
 c2:VE w (V4 B (o+2))=O (qP hi)
def lg(a:List Gr)(b c:Nat):List Gr:=a.take b++a.drop c
def HT(e:V8)(f:Nat->Prop)(b:Jo)(c:qa0):Prop:=∃a d,b= .slice (qQ a 0) (L c) d/\zH e 0 b c/\f a
def Kz(b:Nat->Prop)(c d:V8):Prop:=∀a,b a->d.heap[a]? =c.heap[a]?
structure Core where
 ty:TypeId
 live:Nat
 fLen:FuncId
 fBrk:FuncId
 fIns:FuncId
 fSli:FuncId
 Cr:World->(Nat->Prop)->(Nat->Prop)->Nat->Nat->List Int->Prop
 mLen : ∀ c w, (Go.method 468 ty (.pointer c) "loop.example/s01685/impl.length").run prog w = .ok (fLen, .pointer c) w
 mBrk : ∀ c w, (Go.method 468 ty (.pointer c) "loop.example/s01685/impl.breaks").run prog w = .ok (fBrk, .pointer c) w
 GA : ∀ c w, (Go.method 468 ty (.pointer c) "loop.example/s01685/impl.insert").run prog w = .ok (fIns, .pointer c) w
 mSli : ∀ c w, (Go.method 468 ty (.pointer c) "loop.example/s01685/impl.slice").run prog w = .ok (fSli, .pointer c) w
 eLen:∀args w,(callFunc fLen args).run prog w= .ok (.enter fLen args) w
 eBrk:∀args w,(callFunc fBrk args).run prog w= .ok (.enter fBrk args) w
 eIns:∀args w,(callFunc fIns args).run prog w= .ok (.enter fIns args) w
 eSli:∀args w,(callFunc fSli args).run prog w= .ok (.enter fSli args) w
 step:∀ {w w':World} {Z F Z' F':Nat->Prop} {c n:Nat} {tx:List Int},Cr w Z F c n tx->Kz Z w w'->(∀q,q<w.heap.size->¬F q->w'.heap[q]? =w.heap[q]?)->w.heap.size<=w'.heap.size->(∀q,Z q->Z' q)->(∀q,F' q->F q∨w.heap.size<=q)->Cr w' Z' F' c n tx
 len:∀ {w:World} {Z F:Nat->Prop} {c n:Nat} {tx:List Int},Cr w Z F c n tx->tx.length<=8192∧c<w.heap.size
structure Rc where
 put:Bool
 off:Nat
 tx:qa0
 bef:List Mk
 aft:List Mk
structure Kpt where
 tx:qa0
 ms:List Mk
 dn:List (List Rc)
 ud:List (List Rc)
structure Ens where
 tx:qa0
 ms:List Mk
 dn:List (List Rc)
 ud:List (List Rc)
 lim:Nat
 opn:Bool
 cur:List Rc
 sl:List (Option Kpt)
 sp:Nat
section
variable {w w':World} {Z Z':Nat->Prop}
def HM(c:V8)(d:Nat->Prop)(b:Jo)(e:List Mk):Prop:=zW c 0 b e/\∀a,VD b=O a->d a
def HR(b:V8)(c:Nat->Prop)(g:Ki)(a:Rc):Prop:=∃d e f,g= [qP (if a.put then 1 else 2),qP a.off,d,e,f]/\HT b c d a.tx/\HM b c e a.bef/\HM b c f a.aft
def RR(d:V8)(e:Nat->Prop):Ki->List Rc->Prop
 | a,[]=>a= []
 | a,f::g=>∃b c,a=b++c/\HR d e b f/\RR d e c g
def HG(c:V8)(d:Nat->Prop)(e:Jo)(f:List Rc):Prop:=∃a,c.ownsRow 0 238 5 e (L f) a/\RR c d a f/\∀b,VD e=O b->d b
def GG(a:V8)(b:Nat->Prop):Ki->List (List Rc)->Prop
 | [],[]=>True
 | c::d,e::f=>HG a b c e/\GG a b d f
 | _,_=>False
def SG(b:V8)(d:Nat->Prop)(e:Jo)(c:List (List Rc)):Prop:=∃a,b.ownsRow 0 137 1 e (L c) a/\GG b d a c
def HS(c:V8)(a:Nat->Prop)(j:Jo):Option Kpt->Prop
 | none=>j= .pointer none
 | some d=>∃e h i f g,j= .pointer (qQ e 0)/\a e/\c.heap[e]?=O (V6 #[h,i,f,g] 254 (0,0))/\HT c a h d.tx/\HM c a i d.ms/\(SG c a f d.dn/\∀b,VD f=O b->a b)/\(SG c a g d.ud/\∀b,VD g=O b->a b)
end
def EBk(i:V8)(j:Nat)(k l m:Jo)(n:Int)(o:Bool)(p q:Jo)(r:Ki)(s:Int):Prop:=
 ∃a b c d e f g h,r= [a,b,c,d,e,f,g,h]/\i.heap[j]?=O (V6 #[k,l,m,qP n,.bool o,p,q,a,b,c,d,e,f,g,h,qP s] 143 (0,0))
structure EM(K:Core)(w:V8)(Z F:Nat->Prop)(E c n:Nat)(f dv uv d:Jo)(e:Ki)(b:Nat->Prop)(M:Ens):Prop where
 blk:EBk w E f dv uv M.lim M.opn d (.iface K.ty (V3 c 0)) e M.sp
 ms:HM w Z f M.ms
 dn:SG w Z dv M.dn
 ud:SG w Z uv M.ud
 cu:M.opn=VR->∃xs,w.ownsRow 0 238 5 d (L M.cur) xs/\RR w Z xs M.cur/\∀q,VD d=O q->¬F q
 cvs:∃a l k,d= .slice a l k
 sl:L e=8/\L M.sl=8/\∀(i:Nat)v k,e[i]?=O v->M.sl[i]?=O k->HS w Z v k
 cr:K.Cr w Z b c n M.tx
 n:n<=8192+M.sp
 sp:M.sp<=200000
 lm:1<=M.lim/\M.lim<=1000
 ln:L M.dn<=1000/\L M.ud<=1000
 vd:Vd M.ms/\∀x∈M.ms,x.2.1<=L M.tx
 zf:∀q,Z q->F q
 ff:∀q,F q->b q
 fl:∀q,b q->q<N (Y w)
 fe:b E/\¬F E
 fd:∀q,VD dv=O q->b q/\¬F q
 fu:∀q,VD uv=O q->b q/\¬F q/\VD dv≠O q
 fc:M.opn=VR->∀q,VD d=O q->b q/\¬F q
def zAw(h m l)(w)(g:0<=h)(i:h<=1048576)(j:0<=l/\l<=1048576):
  VM prog 166 #[qP h,qP m,qP l] w λc d=>c=V5 (yq (decide (h<=l/\m<=l-h)) 10)/\d=w:=by
 by_cases e:h<=l
 ·by_cases f:m<=l-h
  ·rw[show decide _=VR by simp_all]
   have a:¬l<h:=VC;have b:¬l-h<m:=VC;go_enter func166,ntmps166;go_wp2;go_ret;exact⟨rfl,rfl⟩
  rw[show decide _=VP by simp_all];have a:¬l<h:=VC;have b:l-h<m:=VC;go_enter func166,ntmps166;go_wp2;go_ret;exact⟨rfl,rfl⟩
 rw[show decide _=VP by rw[QX];omega];have a:l<h:=VC
 go_enter func166,ntmps166;go_wp2;go_ret;exact⟨rfl,rfl⟩
def Tc(a n l)(w)(h:0<=l)(i:l<=1048576):
  VM prog 140 #[qP a,qP n,qP l] w λd g=>d=V5 (if 0<=a/\a<=l then yq (decide (l<=8192/\n<=8192-l)) 10 else yq VP 2)/\g=w:=by
 have b:=zC (Ju a 0 l 2 w);have HR:=zC (zAw l n 8192 w h i VC);generalize decide (l<=8192/\n<=8192-l)=f at*;by_cases c:0<=a/\a<=l
 ·rw[xU c]
  rw[show decide _=VR by simp_all]at b;have e:yq VR 2= .nilIface:=rfl;rw[e]at b;generalize yq f 10=k at*;clear c;go_enter func140,ntmps140;go_wp2_with fail;refine b.G ?_;rintro d j ⟨rfl,rfl⟩;go_wp2_with fail;refine HR.G ?_;rintro d m ⟨rfl,rfl⟩;go_wp2;go_ret;simp
 rw[xK c];rw[show decide _=VP by simp_all]at b;clear c HR;unfold yq at b |-;go_enter func140,ntmps140;go_wp2_with fail;refine b.G ?_;rintro d j ⟨rfl,rfl⟩;go_wp2;go_ret;simp
def spendG(E)(sp n)(w)(d:VE w (V4 E 15)=O (qP sp))(e:w.frozen? (V4 E 15)=VP)(c:0<=sp/\sp<=200000)(f:0<=n/\n<=200000-sp):
  VM prog 141 #[V3 E 0,qP n] w λa b=>a=V5 .nilIface/\b=w.setCell (V4 E 15) (qP (sp+n)):=by
 have HR:=zC (zAw sp n 200000 w c.1 VC VC);rw[show decide _=VR by simp_all,show yq VR 10= .nilIface from rfl]at HR;go_enter func141,ntmps141;go_wp2_with fail;refine HR.G ?_;rintro a g ⟨rfl,rfl⟩;go_wp2;go_ret;simp
theorem bA{w x}(a:qa3 w x)(o):qa3 w (x.alloc o):=a.alloc a.size o
def GA : Value := .func (.methodOf 105 "loop.example/s01685/impl.insert") #[] #[]
def Ic : Value := .func (.methodOf 105 "loop.example/s01685/impl.remove") #[] #[]
def Hq:Jo:=.func (.func 176) #[] #[]
def Hr:Jo:=.func (.func 177) #[] #[]
def Tryz.stF(a:Addr)(b:Mode)(c:Fn)(d e:qa2)(f:V8):(store a (.func c d e) b).run prog f=stored prog f a (.func c d e) b:=run_store prog f a (.func c d e) b rfl
def Tryz.stN(a:Addr)(b:Mode)(c:V8):(store a .nilFunc b).run prog c=stored prog c a .nilFunc b:=run_store prog c a .nilFunc b rfl
def course1(off)(a1 a2 a3)(l1 l2 l3 k1 k2 k3)(w):
  VM prog 153 #[.agg #[qP 1,qP off,VZ a1 l1 k1,VZ a2 l2 k2,VZ a3 l3 k3]] w λa b=>a=V5 (.agg #[GA,Hq,Ic,Hr])/\qa3 w b:=by
 have c:=Tryz.stF;have d:=Tryz.stN;unfold GA Ic Hq Hr;go_enter func153,ntmps153;go_wp2;refine vE (by simp[results,go_sem]) rfl ⟨rfl,?_⟩;exact bA (bA (bA (bA (bA (xF _ _) _) _) _) _) _
section
open Go.Shelf Go.Sort Go.Lib
abbrev SV:=qa1×Nat×Nat
def encS(a:SV):Jo:=.slice a.1 a.2.1 a.2.2
def zAx:∀{vs},(∀e∈vs,∃a b c,e= .slice a b c)->∃d:List SV,d.map encS=vs
 | [],_=>⟨[],rfl⟩
 | e::vs,f=>by
  obtain⟨a,b,c,rfl⟩:=f e VT;obtain⟨d,rfl⟩:=zAx (vs:=vs) (λg h=>f g (by simp[h]));exact⟨(a,b,c)::d,rfl⟩
def Tryz.qK:(prog.info? 137).map (λa=>(a.zero,a.size,a.bytes))=O (O V0,1,24):=VU
def delN(base g n cap)(vs)(b)(j:b.ownsRow base 137 1 (VZ (qQ g 0) n cap) n vs)(o:∀v∈vs,∃l m c,v= .slice l m c)(i:1<=n):
  VM prog 198 #[VZ (qQ g 0) n cap,qP 0,qP 1] b λa f=>a=V5 (VZ (qQ g 0) (n-1) cap)/\f.ownsRow base 137 1 (VZ (qQ g 0) (n-1) cap) (n-1) (vs.drop 1)/\ye b f (λd=>d=g):=by
 obtain⟨p,rfl⟩:=zAx o;obtain⟨y,z,a,A,B,C,k,q,r⟩:=holds_of_ownsRow j (by intro a;cases a);simp at a;obtain⟨rfl,rfl⟩:=a;obtain⟨s,t,D,u,E⟩:=kB Tryz.qK;have h:=AnyE.slices_Delete Tryz.delG encS (λw=>rfl) (none,0,0) (λb=>VU) s t u g 0 cap 0 1 _ b r VV (by unfold maxLen at k;exact k) VC VV;simp only[Qd,q]at h;refine h.G ?_;rintro a f ⟨rfl,d,rfl⟩;refine⟨rfl,?_,rfl,rfl,rfl,?_,λc x i=>?_⟩
 ·have e:=ownsRow_putRow (q:=d) (k:=n-1) (ys:=p.drop 1++ [((none,0,0))]) j VV VC
  rw[kg VV,vX VV]at e;simp only[List.map_drop]at e;simpa using e
 ·simp
 simp[putRow,mapBlock,Array.getElem?_modify,show g≠c from λa=>i a.J]
end
def JW(a:V8)(b:Nat)(c d e:Jo)(f:Int)(g:Bool)(h i j k l m n o p q:Jo)(r:Int):Prop:=
 a.heap[b]?=O (V6 #[c,d,e,qP f,.bool g,h,i,j,k,l,m,n,o,p,q,qP r] 143 (0,0))
section
variable {w w':World} {E:Nat} {mv dv uv:Value} {lim:Int} {op:Bool} {cv tv s0 s1 s2 s3 s4 s5 s6 s7:Value} {sp:Int}
def JW.c(a:JW w E mv dv uv lim op cv tv s0 s1 s2 s3 s4 s5 s6 s7 sp):VE w (V4 E 0)=O mv/\VE w (V4 E 1)=O dv/\VE w (V4 E 2)=O uv/\VE w (V4 E 3)=O (qP lim)/\VE w (V4 E 4)=O (.bool op)/\VE w (V4 E 5)=O cv/\VE w (V4 E 6)=O tv/\VE w (V4 E 15)=O (qP sp):=by
 refine⟨?_,?_,?_,?_,?_,?_,?_,?_⟩<;>rw[xH _ _ _ _ _ _ a]<;>rfl
def JW.f(a:JW w E mv dv uv lim op cv tv s0 s1 s2 s3 s4 s5 s6 s7 sp)(j):w.frozen? (V4 E j)=VP:=xW w E j _ _ a
def JW.lt(a:JW w E mv dv uv lim op cv tv s0 s1 s2 s3 s4 s5 s6 s7 sp):E<N (Y w):=(xG.1 a).1
def JW.set1(a:JW w E mv dv uv lim op cv tv s0 s1 s2 s3 s4 s5 s6 s7 sp)(v):JW (w.setCell (V4 E 1) v) E mv v uv lim op cv tv s0 s1 s2 s3 s4 s5 s6 s7 sp:=by unfold JW;rw[vf w E 1 _ _ _ a];rfl
def JW.off{base t size n v xs}(a:JW w E mv dv uv lim op cv tv s0 s1 s2 s3 s4 s5 s6 s7 sp)(c:w.ownsRow base t size v n xs)(ht:t≠143){q}(b:VD v=O q):q≠E:=by
 rintro rfl;obtain⟨rfl,_⟩|⟨e,f,g,rfl,_,d,_⟩:=c.2
 ·simp[VD]at b
 simp only[VD,xP]at b;subst b;unfold JW at a;rw[d]at a;simp only[xP,kl]at a;exact ht a.2.1
end
def GB(c:Nat)(a:Ki)(b:Jo):Ki:=if c<L a+1 then(a++ [b]).drop 1 else a++ [b]
def zAy(d:V8)(e:Nat)(h f i:Jo)(j:Int)(k:Bool)(l m n o p q r s t u:Jo)(v:Int)(g:Ki)(c:V8):Prop:=
 ∃b,c.ownsRow 0 137 1 b (L g) g/\JW c e h b i j k l m n o p q r s t u v/\ye d c (λa=>a=e\/VD f=O a)/\∀a,VD b=O a->VD f=O a\/N (Y d)<=a
def pushG(e g:Nat)(mv dv uv)(op)(cv tv s0 s1 s2 s3 s4 s5 s6 s7)(sp)(vs)(ga)(gl gk)(w)(o:JW w e mv dv uv g op cv tv s0 s1 s2 s3 s4 s5 s6 s7 sp)(t:w.ownsRow 0 137 1 dv (L vs) vs)(W:∀n∈vs,∃l B m,n= .slice l B m)(a3:L vs<=1000)(a4:g<=1000):
  VM prog 180 #[.pointer (qQ e 1),.slice ga gl gk] w λd w'=>d= .returned (.tuple #[])/\zAy w e mv dv uv g op cv tv s0 s1 s2 s3 s4 s5 s6 s7 sp (GB g vs (.slice ga gl gk)) w':=by
 obtain⟨ao,ap,aq,ar,au⟩:=kB Tryz.qK;have D:=zC o;have E:=zC t
 have HS:=zC (show ∀n∈vs++ [VK ga gl gk],∃l B m,n= .slice l B m from λn am=>by
  obtain c|c:=xV.1 am
  ·exact W n c
  simp_all)
 obtain⟨u,v,rfl⟩:∃l m,dv= .slice l (L vs) m:=by
  obtain⟨d,av⟩|⟨h,a5,a6,d,_⟩:=t.2
  ·simp_all
  exact⟨_,_,d⟩
 obtain⟨aw,ax,ay,az,_⟩:=o.c;have aa:=o.lt;have F:=zC (show(if g<L vs+1 then(vs++ [VK ga gl gk]).drop 1 else vs++ [VK ga gl gk])=GB g vs _ from rfl);have G:=zC (show(L (vs++ [VK ga gl gk]))=L vs+1 by simp);have H:=zC (λa b=>o.off t (by decide) (q:=a) b);generalize aj:L vs=f at*;have I:=zC (za w 137 [.slice ga gl gk]);have J:=zC ((xF _ w).alloc lR (.cells #[.slice ga gl gk] 137));generalize ak:GB g vs _=al at*;clear o t W aj ak;have K:∀a,VD (VK u f v)=O a->e≠a:=λa b d=>H.A a b d.J
 have ab:N (Y w)+1=N (Y (VF w (.cells #[.slice ga gl gk] 137))):=by simp
 go_enter func180,ntmps180;go_wp2_with (at_builtin;refine wpList_append_lies _ rfl _ _ 133 rfl 0 137 ao _ 1 24 underlying133 ap aq ar au rfl (by decide) (.slice u f v) f vs rfl (E.A.alloc _) _ 1 1 _ rfl rfl I.A (by simp[Value.oneCell']) (by omega) (by unfold maxLen;omega) (by omega) (xY _) _ rfl ?_;intro h j k R A S a2;have p:=zC (show JW k e mv _ uv g op cv tv s0 s1 s2 s3 s4 s5 s6 s7 sp from(A.block e (by omega) (λd=>K e d.J rfl)).R ((J.A.block e aa).R D.A));have ac:=p.A.c.2.1;have ad:=p.A.f 1);have M:=zC (show ye w k (λa=>a=e\/VD (VK u f v)=O a)from((ye.reflS w _).allocS _).grownS A (λa b=>.inl (.inr b)));have q:=zC (show(VD (VK u f v))=O h\/N (Y w)<=h from S.imp id (λd=>by omega))
 have x:h≠e:=by
  obtain c|c:=q.A
  ·exact λd=>K h c d.J
  omega
 have r:=zC (p.A.set1 (.slice (qQ h 0) (f+1) j));have P:=zC (M.A.setS ⟨e,1,none⟩ (.slice (qQ h 0) (f+1) j) (.inl (.inl rfl)));have Q:=zC (show(k.setCell ⟨e,1,none⟩ (.slice (qQ h 0) (f+1) j)).ownsRow 0 137 1 _ _ _ from zD R (λa b=>xM k _ a _ (by simp only[VD,xP]at b;subst b;exact x)));obtain⟨av,a7,a8,a9,_⟩:=r.A.c;clear R A S p M D E I J H aw ax ay az ab ac ad;generalize k.setCell _ _=U at*;by_cases T:g<f+1
 ·have ae:(g:Int)<f+1:=by omega
  have i:=(by have c:=F.A;rw[xU T]at c;exact c);have s:=zC i;have af:=zC (λV(an:V.heap=U.heap)=>delN 0 h _ j _ V (zD Q.A (λa _=>by rw[an])) HS.A (by omega));clear i;go_quiet (fail);go_wp2_with fail;refine(af.A _ (by exact rfl)).G ?_;rintro d X ⟨rfl,Z,C⟩
  have ag:=zC ((P.A.sameS (y:=U.drewN nq) rfl rfl rfl rfl).transS C (λa b=>by
   subst b;obtain c|c:=q.A
   ·exact .inl (.inr c)
   exact .inr c))
  have z:=zC (show JW X e mv _ uv g op cv tv s0 s1 s2 s3 s4 s5 s6 s7 sp from(C.block e r.A.lt (λd=>x d.J)).R r.A);have ah:=zC Z;have a0:=z.A.c.2.1;have a1:=z.A.f 1;clear Z C;go_wp2;go_end0;have ai:L al=f+1-1:=(by rw[<- s.A,xZ,G.A]);refine⟨rfl,.slice _ (f+1-1) j,?_,z.A.set1 _,ag.A.setS _ _ (.inl (.inl rfl)),λa b=>?_⟩
  ·rw[ai,<- s.A]
   exact zD ah.A (λa b=>xM X _ a _ (by simp only[VD,xP]at b;subst b;exact x))
  simp only[VD,xP]at b;subst b;exact q.A
 have ae:¬ (g:Int)<f+1:=by omega
 have i:=by have c:=F.A;rw[xK T]at c;exact c
 have s:=zC i;clear i;go_quiet (fail);go_wp2;go_end0;refine⟨rfl,_,?_,r.A,P.A.sameS rfl rfl rfl rfl,λa b=>?_⟩
 ·rw[<- s.A,G.A]
  exact Q.A
 simp only[VD,xP]at b;subst b;exact q.A
section
open Go.Sort
def Id:List TypeId:=[137,238,168,254,79,61,243]
structure EO(E:Nat)(w w':V8):Prop where
 os:w'.os=w.os
 tape:w'.tape=w.tape
 output:w'.output=w.output
 size:N (Y w)<=N (Y w')
 block:∀q,q<N (Y w)->q≠E->w'.heap[q]? =w.heap[q]?
structure EP(w:V8)(Z:Nat->Prop)(x:VX)(M:SS):Prop where
 ms:zW w 0 x.mv M.ms
 dn:WG w Z x.dv M.un/\∀q,VD x.dv=O q->¬Z q
 ud:WG w Z x.uv M.re/\∀q,VD x.uv=O q->¬Z q/\VD x.dv≠O q
 cu:M.op=VR->zBr w Z x.cv M.gr/\∀q,VD x.cv=O q->¬Z q
 cvs:∃a l k,x.cv= .slice a l k
 sl:L M.sl=8/\∀(i:Nat)v k,x.ss[i]?=O v->M.sl[i]?=O k->Tv w Z v k
section
variable {w w' w2:World} {Z Z':Nat->Prop} {E c:Nat} {tv:Value} {x x':VX} {M M':SS} {K:KX}
theorem EO.set(E j)(v)(w):EO E w (w.setCell (V4 E j) v):=⟨rfl,rfl,rfl,VT,λa _ b=>xM w _ a v b⟩
theorem EO.of(a:qa3 w w'):EO E w w':=⟨a.os,a.tape,a.output,a.size,λb c _=>a.block b c⟩
theorem EO.R(a:EO E w w')(b:EO E w' w2):EO E w w2:=⟨b.os.R a.os,b.tape.R a.tape,b.output.R a.output,ku a.size b.size,λc d e=>(b.block c (vh d a.size) e).R (a.block c d e)⟩
def EO.kk{l cs f}(a:EO E w w')(g:w.heap[E]?=O (V6 cs 143 f))(h:¬Z E)(i:143∉l):KK l Z w w':=⟨a.os,a.tape,a.output,a.size,λb c d=>a.block b c (λe=>by
 grind)⟩
def EO.kn{cs f}(a:EO E w w')(g:w.heap[E]?=O (V6 cs 143 f)):KN Wb w w':=⟨a.os,a.tape,a.output,a.size,λb c d=>a.block b c (λe=>by subst e;exact d _ _ _ g VS)⟩
def EY.ep(a:EY w Z E tv x M):EP w Z x M:=⟨a.ms,a.dn,a.ud,a.cu,a.cvs,a.sl⟩
def EY.ek{l}(a:EY w Z E tv x M)(b:EO E w w')(c:143∉l):KK l Z w w':=b.kk a.blk.2 a.ez c
def EP.kk(a:EP w Z x M)(b:KK [137,238,168,254] Z w w'):EP w' Z x M:=by
 refine⟨yR a.ms b (.inl VS),⟨a.dn.1.kk b VS (.inl VS) (λ_ a=>a),a.dn.2⟩,⟨a.ud.1.kk b VS (.inl VS) (λ_ a=>a),a.ud.2⟩,λe=>?_,a.cvs,⟨a.sl.1,λf g h c d=>(a.sl.2 f g h c d).kk b VS VS (λ_ a=>a)⟩⟩;obtain⟨⟨i,c,d⟩,j⟩:=a.cu e;exact⟨⟨i,yR c b (.inl VS),d.kk b VS (λ_ a=>a)⟩,j⟩
def EX.ep(a:EX K w Z E c x M)(b:EO E w w'):EP w' Z x M:=a.ey.ep.kk (a.ey.ek b VS)
theorem EX.put(a:EX K w Z E c x M)(f:EO E w w')(i:Wr w' E x' M'.cp M'.op (.iface K.ty (V3 c 0)) M'.sp)(g:M'.lg=M.lg/\M'.tx=M.tx)(b:EP w' Z x' M'):EX K w' Z E c x' M':=by
 refine⟨⟨i,b.ms,b.dn,b.ud,b.cu,b.cvs,b.sl,a.ey.ez,λd e=>vh (a.ey.zl d e) f.size,λd e=>?_⟩,?_,?_⟩
 ·rw[f.block d (a.ey.zl d e) (λh=>by subst h;exact a.ey.ez e)];exact a.ey.zt d e
 ·rw[g.1];exact K.step a.cr (f.kn a.ey.blk.2) (λ_ a=>a) (λ_ a=>.inl a)
 rw[g.1,g.2];exact a.tx
def EX.sp'(b:EX K w Z E c x M)(d:Nat):EX K (w.setCell (V4 E 15) (qP d)) Z E c x {M with sp:=d}:=
 have a:=b.ep (EO.set E 15 _ w)
 b.put (EO.set E 15 _ w) (b.ey.blk.set 15 _ b.ey.blk.1 (set15 b.ey.blk.1)) ⟨rfl,rfl⟩ ⟨a.ms,a.dn,a.ud,a.cu,a.cvs,a.sl⟩
def EX.lt(a:EX K w Z E c x M):E<N (Y w):=a.ey.blk.lt
def tbR(c:KX)(d:Nat)(a:VX)(b:SS):Ki:=a.dv::a.uv::Value.int .i64 b.cp::Value.bool b.op::a.cv::Value.iface c.ty (V3 d 0)::(a.ss++ [Value.int .i64 b.sp])
def EX.tb(a:EX K w Z E c x M):jv (tbR K c x M) 143 w E x.mv:=a.ey.blk.2
def EX.mkd{mv' ms' y}(d:EX K w Z E c x M)(e:qa3 w y)(f:w'=y.setCell (V4 E 0) mv')(ht:jv (tbR K c x M) 143 w' E mv')(g:zW w' (N (Y w)) mv' ms'):EX K w' Z E c {x with mv:=mv'} {M with ms:=ms'}/\EO E w w':=by
 have b:EO E w w':=by rw[f];exact(EO.of e).R (EO.set E 0 mv' y)
 have a:=d.ep b;exact⟨d.put b ⟨d.ey.blk.1,ht⟩ ⟨rfl,rfl⟩ ⟨g.base (xY _),a.dn,a.ud,a.cu,a.cvs,a.sl⟩,b⟩
end
def StC(d:KX)(e:V8)(a:Nat->Prop)(f g:Nat)(h:VX)(i:SS)(b:V8):Prop:=∃c,EX d b a f g {h with mv:=c} i/\KK Id a e b
def c9{a:V8}{b i cs t f v}(c:a.heap[b]?=O (V6 cs t f))(d:cs[i]?=O v):VE a (V4 b i)=O v:=(xH a b i cs t f c).R d
section
variable {w w':World} {Z:Nat->Prop} {E c:Nat} {x:VX} {M:SS} {K:KX}
def zAz(d:EX K w Z E c x M)(nm)(fC fM)(h:Nat)(kd)(a1 a2 a3)(l1 l2 l3 k1 k2 k3)(l)(T)(ms')
  (ay:∀c w,(Go.method 468 K.ty (.pointer c) nm).run prog w= .ok (fC,.pointer c) w) (az:∀p w,(callFunc fC p).run prog w= .ok (.enter fC p) w) (a0:∀p w,(callFunc fM p).run prog w= .ok (.enter fM p) w)
  (Q:∀e,qa3 w e->VM prog fC #[V3 c 0,qP h,VZ a1 l1 k1] e λg w'=>g=V5 (.tuple #[])/\K.Cr w' Z c (K.app (K.run M.lg) l)/\KK Wb Z e w') (R:K.tx (K.app (K.run M.lg) l)=T)
  (S:∀e P,jv P 143 e E x.mv->zW e 0 x.mv M.ms->VM prog fM #[V3 E 0,qP h,qP l1] e λg w'=>g=V5 (.tuple #[])/\∃C D,qa3 e D/\w'=D.setCell (V4 E 0) C/\jv P 143 w' E C/\zW w' (N (Y e)) C ms'):
  VM prog 152 #[V3 E 0,.agg #[.func (.methodOf 105 nm) #[] #[],.func (.func fM) #[] #[]],.agg #[qP kd,qP h,VZ a1 l1 k1,VZ a2 l2 k2,VZ a3 l3 k3]] w λg w'=>g=V5 (.tuple #[])/\StC K w Z E c x {M with tx:=T,ms:=ms',lg:=M.lg++ [l]} w':=by
 have ad:=d.ey.blk.cl.2.2.2.2.2.2.1;have ae:=d.lt;have t:=zC (Pw w (V6 #[qP kd,qP h,VZ a1 l1 k1,VZ a2 l2 k2,VZ a3 l3 k3] 238) #[.func (.methodOf 105 nm) #[] #[],.func (.func fM) #[] #[]] 243);have j:=zC (Er w (V6 #[.func (.methodOf 105 nm) #[] #[],.func (.func fM) #[] #[]] 243) #[qP kd,qP h,VZ a1 l1 k1,VZ a2 l2 k2,VZ a3 l3 k3] 238);have u:=zC (bA (bA (xF _ w) (V6 #[.func (.methodOf 105 nm) #[] #[],.func (.func fM) #[] #[]] 243)) (V6 #[qP kd,qP h,VZ a1 l1 k1,VZ a2 l2 k2,VZ a3 l3 k3] 238));have af:=zC d;have ag:=zC Q;have HM:=zC S;have HT:=zC R;clear d Q S R;go_enter func152,ntmps152;go_upto_region 1 with fail;generalize VF _ _=ao at*;have k:=c8 0 t;have m:=c8 1 j;have o:=c8 2 j;have v:=λa b=>qa6 k a b
 have y:=λa b=>qa6 m a b
 have z:=λa b=>qa6 o a b
 have ah:=λa b=>qa6 ((u.U ae).R ad) a b
 refine(kS (n:=6)).1 ?_;refine zI 10 (by rfl) VU ?_;simp only[vQ,kh,vT,ke];clear k m o
 repeat (refine qa8 (λ_ _ _ _=>trivial) (λK q=>?_);go_simp;first | (refine q _ ?_;clear q K))
 refine qa9 ?_;intro _ B;obtain⟨⟨aq,U⟩,F⟩:=B;subst F;have f:=zC (qa7 ao aq U);clear v y z ah;generalize grow _ U=ap at*;have ai:=u.size;have aj:=(xG.1 j).1;have A:=zC (u.R (f.G ai));have G:=zC ((f.block _ VC).R t);have H:=zC ((f.block _ aj).R j);have I:=zC (ag ap A);clear f t j;gi_wp2_with fail;refine⟨xN,(vD.2 I).G ?_⟩;rintro g ar ⟨rfl,V,r⟩;have ak:=zC ((af.I A).core r V rfl HT);have al:=zC r;have am:=zC (r.ty G VS);have J:=zC (r.ty H VS);clear V r I G H;gi_wp2_with fail;have k:=c8 1 am;have m:=c8 1 J;have o:=c8 2 J;have v:=λa b=>qa6 k a b
 have y:=λa b=>qa6 m a b
 have z:=λa b=>qa6 o a b
 refine(kS (n:=6)).1 ?_;refine zI 10 (by rfl) VU ?_;simp only[vQ,kh,vT,ke];clear k m o
 repeat (refine qa8 (λ_ _ _ _=>trivial) (λK q=>?_);go_simp;first | (refine q _ ?_;clear q K))
 refine qa9 ?_;intro _ B;obtain⟨⟨au,W⟩,F⟩:=B;subst F;have f:=zC (qa7 ar au W);clear v y z;generalize grow _ W=w2 at*;have s:=zC (ak.I f);have PM:=zC (HM w2 _ s.tb s.ey.ms);gi_wp2_with fail;refine⟨xN,(vD.2 PM).G ?_⟩;rintro g av ⟨rfl,a4,D,X,aa,ab,ac⟩
 have an:=zC (show StC K w Z E c x {M with tx:=T,ms:=ms',lg:=M.lg++ [l]} av from by
  obtain⟨aw,ax⟩:=s.A.mkd X aa ab ac
  exact⟨_,aw,(((KK.of A).R (al.weak VS) (λ_ d=>d)).R (KK.of f) (λ_ d=>d)).R (s.ey.ek ax VS) (λ_ d=>d)⟩)
 clear X aa ab ac;gi_wp2_with fail;exact Qx (by simp[results]) rfl ⟨rfl,an⟩
end
def PJ(d:KX)(e:V8)(b:Nat->Prop)(f g:Nat)(h:SS)(c:V8):Prop:=∃Z' x',EX d c Z' f g x' h/\KK Zt b e c/\∀a,b a->Z' a
def Tryz.infoRX:(prog.info? 238).map (λa=>(a.zero,a.size,a.bytes))=O (O (.agg #[qP 0,qP 0,V0,V0,V0]),5,88):=VU
section
variable {w w' w2:World} {Z Z':Nat->Prop} {E c:Nat} {x x':VX} {M M':SS} {K:KX}
theorem PJ.R{M2 w3}(e:KK Zt Z w w2)(b:∀a,Z a->Z' a)(f:PJ K w2 Z' E c M2 w3):PJ K w Z E c M2 w3:=by
 obtain⟨g,h,i,j,k⟩:=f;exact⟨g,h,i,e.R j b,λa d=>k a (b a d)⟩
def EX.put2{n:Nat->Prop}(b:EX K w Z E c x M)(f:ye w w' (λa=>a=E\/n a))(o:∀a,n a->¬Z a/\∃(r:qa2)(i:TypeId)(s:Nat×Nat),w.heap[a]?=O (V6 r i s)/\(i=137\/i=238))(v:Wr w' E x' M'.cp M'.op (.iface K.ty (V3 c 0)) M'.sp)(p:M'.lg=M.lg/\M'.tx=M.tx)(y:KK [168,254,79,61] Z w w'->EP w' Z x' M'):EX K w' Z E c x' M'/\KK Zt Z w w':=by
 have t:∀a,Z a->¬ (a=E\/n a):=λa d e=>e.elim (λj=>by subst j;exact b.ey.ez d) (λu=>(o a u).1 d)
 have q:KK Zt Z w w':=KK.chg f (λa d k=>by
  obtain e|⟨r,i,s,j,ht⟩:=k
  ·simp_all
  rintro (rfl | e)
  ·have m:=b.ey.blk.2
   rw[j]at m;simp at m;rw[m.2.1]at ht;exact absurd ht VS
  obtain⟨z,A,B,h,l⟩:=(o a e).2;rw[j]at h;simp at h;rw[<- h.2.1]at l;obtain rfl|rfl:=l
  ·exact absurd ht VS
  exact absurd ht VS)
 have g:=y q;refine⟨⟨⟨v,g.ms,g.dn,g.ud,g.cu,g.cvs,g.sl,b.ey.ez,λa d=>vh (b.ey.zl a d) f.size,λa d=>?_⟩,?_,?_⟩,q⟩
 ·rw[f.block a (b.ey.zl a d) (t a d)];exact b.ey.zt a d
 ·rw[p.1]
  refine K.step b.cr ⟨f.os,f.tape,f.output,f.size,λa d k=>f.block a d (λe=>?_)⟩ (λ_ b=>b) (λ_ b=>.inl b);obtain rfl|e:=e
  ·exact k _ _ _ b.ey.blk.2 VS
  obtain⟨z,A,B,h,l⟩:=(o a e).2;refine k _ _ _ h ?_;obtain rfl|rfl:=l<;>decide
 rw[p.1,p.2];exact b.tx
def Wr.e16{lim sp op tv}(j:Wr w E x lim op tv sp):∃a b c d e f g h,x.ss= [a,b,c,d,e,f,g,h]/\JW w E x.mv x.dv x.uv lim op x.cv tv a b c d e f g h sp:=by
 obtain⟨k,i⟩:=j
 match hs:x.ss,k with
 | [a,b,c,d,e,f,g,h],_=>exact⟨a,b,c,d,e,f,g,h,rfl,by rw[hs]at i;exact i⟩
def Wr.ne{lim sp op tv v base t size n q xs}(b:Wr w E x lim op tv sp)(c:w.ownsRow base t size v n xs)(ht:t≠143)(d:VD v=O q):q≠E:=λa=>by
 subst a;obtain⟨e,f,a⟩:=jg c d;rw[b.2]at a
 simp_all
def XN.psh{us gs v g}(a:XN w Z us gs)(b:zBs w Z v g)(c):XN w Z (GB c us v) (jT c gs g):=by
 unfold GB jT;rw[a.len]
 split
 ·exact(a.app (show XN w Z [v] [g]from⟨b,xN⟩)).drop1
 exact a.app (⟨b,xN⟩)
def zCd{ga gl gk g}(a:EX K w Z E c x M)(p:zBs w Z (VZ ga gl gk) g)(C:L M.un<=1000)(D:M.cp<=1000):
  VM prog 180 #[V3 E 1,VZ ga gl gk] w λo w'=>o=V5 (.tuple #[])/\(∃j,EX K w' Z E c {x with dv:=j} {M with un:=jT M.cp M.un g})/\KK Zt Z w w':=by
 obtain⟨F,G,H,I,J,P,Q,R,S,T⟩:=a.ey.blk.e16;obtain⟨U,q,h⟩:=a.ey.dn.1;rw[<- h.len]at q;refine(pushG E M.cp x.mv x.dv x.uv M.op x.cv _ F G H I J P Q R M.sp U ga gl gk w T q h.sl (by rw[h.len];exact C) D).G ?_;rintro o w' ⟨rfl,j,ae,V,m,r⟩;have s:∀b,VD x.dv=O b->¬Z b/\∃(t:qa2)(l:TypeId)(u:Nat×Nat),w.heap[b]?=O (V6 t l u)/\(l=137\/l=238):=λb d=>⟨a.ey.dn.2 b d,by grind [jg]⟩
 have ac:=a.put2 (x':={x with dv:=j}) (M':={M with un:=jT M.cp M.un g}) m s ⟨a.ey.blk.1,by simp;rw[S];exact V⟩ ⟨rfl,rfl⟩ (λf=>by
  refine⟨yR a.ey.ms f (.inl VS),⟨⟨_,?_,(h.kk f VS (λ_ a=>a)).psh (p.kk f VS (λ_ a=>a)) M.cp⟩,λb d=>?_⟩,⟨?_,λb d=>⟨(a.ey.ud.2 b d).1,λe=>?_⟩⟩,λv=>?_,a.ey.cvs,a.ey.sl.1,λy z k A B=>(a.ey.sl.2 y z k A B).kk f VS VS (λ_ a=>a)⟩
  ·have ad:=(h.psh p M.cp).len
   simp_all
  ·obtain e|e:=r b d
   ·simp_all
   exact λi=>by have:=a.ey.zl b i;omega
  ·obtain⟨W,u1,u2⟩:=a.ey.ud.1
   refine⟨W,zD u1 (λb d=>m.block b (u1.lt b d).2 (λe=>?_)),u2.kk f VS (λ_ a=>a)⟩;obtain rfl|e:=e
   ·exact a.ey.blk.ne u1 VS d rfl
   exact(a.ey.ud.2 b d).2 e
  ·obtain i|i:=r b e
   ·exact(a.ey.ud.2 b d).2 i
   have:=a.ey.ud.1.nz d;omega
  obtain⟨⟨X,n,aa⟩,ab⟩:=a.ey.cu v;refine⟨⟨X,zD n (λb d=>m.block b (n.lt b d).2 (λe=>?_)),aa.kk f VS (λ_ a=>a)⟩,ab⟩;obtain rfl|e:=e
  ·exact a.ey.blk.ne n VS d rfl
  grind [UX])
 grind
def EX.uv0(b:EX K w Z E c x M):EX K (w.setCell (V4 E 2) V0) Z E c {x with uv:=.slice none 0 0} {M with re:=[]}:=
 have a:=b.ep (EO.set E 2 _ w)
 b.put (EO.set E 2 _ w) (b.ey.blk.set 2 _ b.ey.blk.1 rfl) ⟨rfl,rfl⟩ ⟨a.ms,a.dn,⟨WG.nil,λd e=>by grind [VD]⟩,a.cu,a.cvs,a.sl⟩
end
section
variable {w w':World} {Z:Nat->Prop} {E c:Nat} {x:VX} {M:SS} {K:KX} {k off:Int} {a1 a2 a3:Option Addr} {l1 l2 l3 k1 k2 k3:Nat} {r:SR}
abbrev Pe(a b:Int)(c d e:qa1)(f g h i j k:Nat):qa2:=#[qP a,qP b,VZ c f i,VZ d g j,VZ e h k]
def one_new{b l}(c:w.heap[b]?=O (V6 l.toArray 238 (0,0)))(a:L l=5):w.ownsRow 0 238 5 (VZ (qQ b 0) 1 1) 1 l:=by
 exact⟨by rw[a],.inr ⟨b,1,_,rfl,xY _,c,lR,by grind [maxLen],by simp[a],by grind⟩⟩
def noteN(a:EX K w Z E c x M)(F:M.op=VP)(q:RX w Z [qP k,qP off,VZ a1 l1 k1,VZ a2 l2 k2,VZ a3 l3 k3] r)(G:L M.un<=1000)(H:M.cp<=1000):
  VM prog 167 #[V3 E 1,.agg (Pe k off a1 a2 a3 l1 l2 l3 k1 k2 k3)] w λe w'=>e=V5 (.tuple #[])/\PJ K w Z E c {M with re:=[],un:=jT M.cp M.un [r]} w':=by
 have h:=zC (bA (xF _ w) (V6 (Pe k off a1 a2 a3 l1 l2 l3 k1 k2 k3) 238));have u:=zC (xJ w (V6 (Pe k off a1 a2 a3 l1 l2 l3 k1 k2 k3) 238));have v:=zC a;have HR:=zC q;have Q:=a.lt;clear a q;go_enter func167,ntmps167;go_upto_region 1 with fail;generalize VF w _=g at*;have d:=zC (v.I h);obtain⟨_,_,I,_,_⟩:=d.A.ey.blk.cl;have y:=d.ey.blk.f 2;go_upto_region 2 with fail;have j:=zC d.uv0;have b:=zC ((xM g (V4 E 2) _ V0 (by grind)).R u);have z:=zC (d.ey.ek (l:=Zt) (EO.set E 2 V0 g) VS);clear I y;generalize g.setCell _ _=w2 at*;obtain⟨_,_,_,_,J,_⟩:=j.A.ey.blk.cl;rw[F]at J;have R:=c8 0 b;have S:=c8 1 b;have T:=c8 2 b;have U:=c8 3 b;have V:=c8 4 b;go_wp2_with fail;have m:=zC (bA (xF _ w2) (V6 (Pe k off a1 a2 a3 l1 l2 l3 k1 k2 k3) 238));have n:=zC (xJ w2 (V6 (Pe k off a1 a2 a3 l1 l2 l3 k1 k2 k3) 238));have A:=zC (show N (Y w2)<N (Y (VF w2 (V6 (Pe k off a1 a2 a3 l1 l2 l3 k1 k2 k3) 238))) by simp);generalize VF w2 _=W at*
 have B:=zC (j.hold (Z':=λf=>Z f\/f=N (Y w2)) m (λ_ a=>.inl a) (λf p=>p.imp id (λe=>by
  subst e
  exact⟨lR,A,λX aa ab D=>by rw[n.A]at D;grind⟩)))
 have KA:=zC (((KK.of h).R z (λ_ a=>a)).R (KK.of m) (λ_ a=>a));have o:=zC (zCd B (⟨⟨_,one_new n rfl,Wy.one (HR.kk KA VS (λ_ a=>.inl a))⟩,λf p=>.inr (by grind [VD,Option.some.injEq])⟩) G H);refine o.G ?_;rintro e P ⟨rfl,⟨ac,s⟩,t⟩;have C:=zC (show PJ K w Z E c {M with re:=[],un:=jT M.cp M.un [r]} P from⟨_,_,s,KA.R t (λ_ a=>.inl a),λ_ a=>.inl a⟩);clear s t o;go_wp2;go_end0;exact⟨rfl,C⟩
end
section
variable {w w':World} {Z:Nat->Prop} {E c:Nat} {x:VX} {M:SS} {K:KX} {k off:Int} {a1 a2 a3:Option Addr} {l1 l2 l3 k1 k2 k3:Nat} {r:SR}
def cells9{d:V8}{b}{e:Ki}{t f}(h:d.heap[b]?=O (V6 e.toArray t f)):∀a c,e[a]?=O c->VE d (((V4 b 0):Addr).add a)=O c:=λa c g=>by
 rw[zR,vg,xH d b a _ _ _ h];simpa using g
def noteO(d:EX K w Z E c x M)(q:M.op=VR)(aq:RX w Z [qP k,qP off,VZ a1 l1 k1,VZ a2 l2 k2,VZ a3 l3 k3] r)(ab:L M.gr<=100000):
  VM prog 167 #[V3 E 1,.agg (Pe k off a1 a2 a3 l1 l2 l3 k1 k2 k3)] w λj w'=>j=V5 (.tuple #[])/\PJ K w Z E c {M with re:=[],gr:=M.gr++ [r]} w':=by
 have ag:=zC (bA (xF (N (Y w)) w) (V6 (Pe k off a1 a2 a3 l1 l2 l3 k1 k2 k3) 238));have a0:=zC (xJ w (V6 (Pe k off a1 a2 a3 l1 l2 l3 k1 k2 k3) 238));have z:=zC d;have HR:=zC aq;have b5:=d.lt;have a4:=zC (λa e=>by obtain⟨⟨m,i,_⟩,_⟩:=d.ey.cu q;exact(i.lt a e).2)
 obtain⟨v,y,R⟩:∃F k,x.cv= .slice F (L M.gr) k:=by
  obtain⟨⟨m,i,_⟩,_⟩:=d.ey.cu q;obtain⟨j,bk⟩|⟨bl,bn,bp,j,_⟩:=i.2
  ·simp_all
  exact⟨_,_,j⟩
 obtain⟨g,ad⟩:∃g,g=L M.gr:=⟨_,rfl⟩
 rw[<- ad]at R ab;have ah:=zC ad;obtain⟨bq,br,bs,bt,bu⟩:=kB Tryz.infoRX;clear d aq ad;go_enter func167,ntmps167;go_upto_region 1 with fail;generalize VF w _=X at*;have J:=zC (z.I ag);obtain⟨_,_,bv,_,_⟩:=J.A.ey.blk.cl;have a5:=J.ey.blk.f 2;go_upto_region 2 with fail;have f:=zC J.uv0;have ai:=zC ((xM X (V4 E 2) (N (Y w)) V0 (by show N (Y w)≠E;omega)).R a0);have a6:=zC (J.ey.ek (l:=Zt) (EO.set E 2 V0 X) VS);clear bv a5;generalize X.setCell (V4 E 2) _=P at*;obtain⟨_,_,_,_,bw,ar,_⟩:=f.A.ey.blk.cl;rw[q]at bw;simp only[R]at ar;have a7:=(xG.1 ai).1
 have T:=zC (show ∀b:V8,ye P b (λa=>VD x.cv=O a)->(VE b (V4 E 5)=O (VZ v g y)/\VE b (V4 (N (Y w)) 0)=O (qP k)/\VE b (V4 (N (Y w)) 1)=O (qP off)/\VE b (V4 (N (Y w)) 2)=O (VZ a1 l1 k1)/\VE b (V4 (N (Y w)) 3)=O (VZ a2 l2 k2)/\VE b (V4 (N (Y w)) 4)=O (VZ a3 l3 k3))from λb u=>by
  have a1:=u.block E f.lt (λh=>by
   obtain⟨⟨m,i,_⟩,_⟩:=z.A.ey.cu q
   exact z.ey.blk.ne i VS h rfl)
  have a2:=u.block _ a7 (λh=>by have:=a4 _ h;omega);have A:=a2.R ai
  exact⟨(vO a1).R ar,c9 A rfl,c9 A rfl,c9 A rfl,c9 A rfl,c9 A rfl⟩)
 have KA:=zC ((KK.of ag).R a6 (λ_ d=>d));go_upto_region 3 with fail;refine(kS (n:=6)).1 ?_;refine Yi 10 (λb=>VE b (V4 E 5)=O (VZ v g y)/\VE b (V4 (N (Y w)) 0)=O (qP k)/\VE b (V4 (N (Y w)) 1)=O (qP off)/\VE b (V4 (N (Y w)) 2)=O (VZ a1 l1 k1)/\VE b (V4 (N (Y w)) 3)=O (VZ a2 l2 k2)/\VE b (V4 (N (Y w)) 4)=O (VZ a3 l3 k3)) VU ?_;refine te 0 (V3 E 1) ?_ ?_
 ·intro b o;go_simp
 go_simp;refine te 1 (V3 E 1) ?_ ?_
 ·intro b o;go_simp
 go_simp;refine te 2 (V3 E 1) ?_ ?_
 ·intro b o;go_simp
 go_simp;refine te 3 (V3 E 5) ?_ ?_
 ·intro b o;go_simp
 go_simp;refine te 4 (VZ v g y) ?_ ?_
 ·intro b o;obtain⟨au,bx,bz,b0,b1,b2⟩:=o;go_simp
 go_simp;refine te 5 (.agg (Pe k off a1 a2 a3 l1 l2 l3 k1 k2 k3)) ?_ ?_
 ·intro b o;obtain⟨au,bx,bz,b0,b1,b2⟩:=o;go_simp
 go_simp;obtain⟨G,u⟩:∃b,b=P.drew:=⟨_,rfl⟩
 rw[<- u];have U:=zC (show qa3 P G from by rw[u];exact⟨rfl,rfl,rfl,lR,λ_ _=>rfl⟩);clear u;refine one 6 (T G (ye.qa U lR)) ?_;gi_wp2_with fail;have B:=zC (U.alloc U.size (V6 (Pe k off a1 a2 a3 l1 l2 l3 k1 k2 k3) 238));have a8:=zC (xJ G (V6 (Pe k off a1 a2 a3 l1 l2 l3 k1 k2 k3) 238));generalize VF G _=aa at*;refine one 7 (T aa (ye.qa B lR)) ?_
 have aj:=zC (show ∃m,aa.ownsRow 0 238 5 (VZ v g y) g m/\Wy aa Z m M.gr from by
  obtain⟨⟨m,i,av⟩,aw⟩:=(f.I B).ey.cu q;simp only[R]at i;rw[<- ah.A]at i
  exact⟨m,i,av⟩)
 obtain⟨m,ae,ax⟩:=aj.A;refine wpListIn_append_own_at _ rfl _ _ 137 rfl 0 238 bq (.agg #[qP 0,qP 0,V0,V0,V0]) 5 88 underlying137 br bs bt bu rfl VS (VZ v g y) g m rfl (ae) (V4 (N (Y G)) 0) 1 1 [qP k,qP off,VZ a1 l1 k1,VZ a2 l2 k2,VZ a3 l3 k3] rfl rfl (cells9 a8) (by simp[Value.oneCell']) VW VC (xY _) ?_;intro ao p W t _ ap;have s:=zC ((ye.qa (S:=λa=>VD x.cv=O a) B lR).grownS t (λa e=>.inl (by rw[R];exact e)))
 have ak:=zC (show Wy p Z m M.gr/\∀a,VD ao=O a->¬Z a from by
  have b6:=(f.I B).ey.cu q;have a9:∀a,VD (VK v g y)=O a->¬Z a:=λa e=>by simp_all
  refine⟨ax.kk (l:=[168]) ⟨t.os,t.tape,t.output,t.size,λa e bg=>t.block a e (λV=>?_)⟩ VS (λ_ d=>d),λa e h=>?_⟩
  ·have C:=V.J
   obtain h|⟨ay,b9,az,j,ht⟩:=bg
   ·exact a9 a C h
   obtain⟨ca,cb,af⟩:=jg ae C;rw[j]at af;simp at af;rw[af.2.1]at ht;exact absurd ht VS
  obtain C|C:=ap
  ·simp_all
  rw[C]at e;simp at e;have:=(f.I B).ey.zl a h
  omega)
 obtain⟨H,I,b3⟩:∃F k,ao= .slice F (g+1) k:=by
  obtain⟨j,bk⟩|⟨bl,bn,bp,j,_⟩:=W.2
  ·omega
  exact⟨_,_,j⟩
 subst b3;have al:=zC W;clear W t aj ae ax ap;refine Qg ?_;go_simp;have am:=T p s
 have D:=zC (show Wr p E {x with uv:=.slice none 0 0} M.cp M.op (.iface K.ty (V3 c 0)) M.sp from⟨f.ey.blk.1,(s.block E f.lt (λh=>by
   obtain⟨⟨m,i,_⟩,_⟩:=z.A.ey.cu q
   exact z.ey.blk.ne i VS h rfl)).R f.ey.blk.2⟩)
 have b7:=D.f 5;refine te 8 (V3 E 1) ?_ ?_
 ·intro b o;go_simp
 go_simp;refine te 9 (V3 E 5) ?_ ?_
 ·intro b o;go_simp
 go_simp;refine fin am ?_;obtain⟨au,_⟩:=am;gi_wp2_with fail
 have ba:=zC (show PJ K w Z E c {M with re:=[],gr:=M.gr++ [r]} (p.setCell (V4 E 5) (VZ H (g+1) I))from by
  obtain⟨⟨cc,i,av⟩,aw⟩:=f.A.ey.cu q;have bc:=D.set (x':={x with uv:=.slice none 0 0,cv:=.slice H (g+1) I}) 5 (VZ H (g+1) I) D.1 rfl;have bd:ye P p (λa=>a=E\/VD x.cv=O a):=⟨s.os,s.tape,s.output,s.size,λa e ab=>s.block a e (λh=>ab (.inr h))⟩
  have an:=bd.setS (V4 E 5) (VZ H (g+1) I) (.inl (.inl rfl))
  have h:=f.put2 (M':={M with re:=[],gr:=M.gr++ [r]}) an (λa e=>⟨aw a e,by obtain⟨ay,az,j⟩:=jg i e;exact⟨ay,_,az,j,.inr rfl⟩⟩) bc ⟨rfl,rfl⟩ (λQ=>by
   have bf:KK [168] Z p (p.setCell (V4 E 5) (VZ H (g+1) I)):=(EO.set E 5 _ p).kk D.2 f.ey.ez VS;refine⟨yR f.ey.ms Q (.inl VS),⟨?_,f.ey.dn.2⟩,⟨WG.nil,λa e=>by simp[VD]at e⟩,λb8=>⟨⟨_,?_,(ak.1.kk bf VS (λ_ d=>d)).app (Wy.one (HR.kk (KA.R Q (λ_ d=>d)) VS (λ_ d=>d)))⟩,ak.2⟩,⟨_,_,_,rfl⟩,f.ey.sl.1,λbh bi k F bj=>(f.ey.sl.2 bh bi k F bj).kk Q VS VS (λ_ d=>d)⟩
   ·obtain⟨b4,u1,u2⟩:=f.A.ey.dn.1
    refine⟨b4,zD u1 (λa e=>an.block a (u1.lt a e).2 (λac=>?_)),u2.kk Q VS (λ_ d=>d)⟩;obtain rfl|ac:=ac
    ·exact f.ey.blk.ne u1 VS e rfl
    exact UX u1 i VS e ac
   have V:L (M.gr++ [r])=g+1:=(by rw[xL,<- ah.A];rfl);rw[V]
   exact zD al (λa e=>xM p (V4 E 5) a _ (D.ne al VS e)))
  exact⟨Z,_,h.1,KA.R h.2 (λ_ d=>d),λ_ d=>d⟩)
 exact Qx (by simp[results]) rfl ⟨rfl,ba⟩
end
def chgV (p : Bool) : Value := .agg #[.func (.methodOf 105 (if p then "loop.example/s01685/impl.insert" else "loop.example/s01685/impl.remove")) #[] #[], .func (.func (if p then 176 else 177)) #[] #[]]
def crsX(a:Bool):Jo:=bif a then .agg #[GA,Hq,Ic,Hr]else .agg #[Ic,Hr,GA,Hq]
def PN(a:Bool):Int:=if a then 1 else 2
def Tryz.fldX(p)(w):(Instr.field 245 (crsX p) 0).run prog w= .ok (chgV p) w/\(Instr.field 245 (crsX p) 1).run prog w= .ok (chgV (!p)) w:=by cases p<;>exact⟨VU,VU⟩
def zB0(off)(a1 a2 a3)(l1 l2 l3 k1 k2 k3)(w):
  VM prog 153 #[.agg #[qP 2,qP off,VZ a1 l1 k1,VZ a2 l2 k2,VZ a3 l3 k3]] w λa w'=>a=V5 (.agg #[Ic,Hr,GA,Hq])/\qa3 w w':=by
 have b:=Tryz.stF;have c:=Tryz.stN;unfold GA Ic Hq Hr;go_enter func153,ntmps153;go_wp2;refine vE (by simp[results,go_sem,Ic]) rfl ⟨rfl,?_⟩;exact bA (bA (bA (bA (bA (xF _ _) _) _) _) _) _
def DQ(p)(off)(a1 a2 a3)(l1 l2 l3 k1 k2 k3)(w):
  VM prog 153 #[.agg (Pe (PN p) off a1 a2 a3 l1 l2 l3 k1 k2 k3)] w λa w'=>a=V5 (crsX p)/\qa3 w w':=by
 cases p
 ·exact zB0 off a1 a2 a3 l1 l2 l3 k1 k2 k3 w
 exact course1 off a1 a2 a3 l1 l2 l3 k1 k2 k3 w
def EK(d:Bool)(b:SS)(a:Nat)(c:qa0):SS:={b with tx:=if d then b.tx.take a++(c++b.tx.drop a)else b.tx.take a++b.tx.drop (a+L c),ms:=if d then Z0 (b.ms.map (mov (yn a (L c))))else Z0 (b.ms.map (mov (js a (L c)))),lg:=b.lg++ [if d then⟨1,a,0,c⟩else⟨2,a,a+L c,[]⟩]}
def OkC(c:Bool)(a:SS)(d:Nat)(b:qa0):Prop:=0<L b/\(if c then d<=L a.tx/\L a.tx+L b<=8192 else d+L b<=L a.tx)/\Vd a.ms/\(c=VR->YF a.lg+L b<=220000)
section
variable {w w':World} {Z Z':Nat->Prop} {E c:Nat} {x:VX} {M:SS} {K:KX} {off:Nat} {ts:List Int} {a1 a2 a3:Option Addr} {l2 l3 k1 k2 k3:Nat} {r:SR}
def Ie(p)(kd)(a:EX K w Z E c x M)(o:TX w Z (VZ a1 (L ts) k1) ts)(q:OkC p M off ts):
  VM prog 152 #[V3 E 0,chgV p,.agg (Pe kd off a1 a2 a3 (L ts) l2 l3 k1 k2 k3)] w λn w'=>n=V5 (.tuple #[])/\StC K w Z E c x (EK p M off ts) w':=by
 obtain⟨j,f,k,s⟩:=q;have m:=K.lt a.cr;rw[a.tx]at m;cases p with
 | true=>
  simp at f;refine zAz a _ _ 176 off kd a1 a2 a3 _ l2 l3 k1 k2 k3 ⟨1,off,0,ts⟩ _ _ (λc w=>(K.mth c w).2.2.1) (K.ent _ VT) (Go.Proofs.enters_of func176 (by rfl) rfl) (λd e=>?_) ?_ (λd r g h=>IW r _ VS E off _ _ _ 0 d g h k VC)
  ·have b:=a.I e
   exact K.cIns b.cr b.ey.zl (o.kk (l:=[]) (KK.of e) (λ_ a=>a)) j (by rw[a.tx];omega) (by rw[a.tx];grind) (by have t:=s rfl;have u:=K.siz_run M.lg;grind)
  show K.tx (K.ins _ off ts)=_
  rw[K.tIns a.cr (by rw[a.tx];omega) (by rw[a.tx];omega),a.tx];rfl
 | false=>
  simp at f;have i:K.app (K.run M.lg) ⟨2,off,off+L ts,[]⟩=K.rem (K.run M.lg) off (L ts):=(by simp[KX.app]);refine zAz a _ _ 177 off kd a1 a2 a3 _ l2 l3 k1 k2 k3 ⟨2,off,_,[]⟩ _ _ (λc w=>(K.mth c w).2.2.2.1) (K.ent _ VT) (Go.Proofs.enters_of func177 (by rfl) rfl) (λd e=>?_) ?_ (λd r g h=>IZ r _ VS E off _ _ _ 0 d g h k VC VC)
  ·have b:=a.I e
   rw[i];exact K.cRem b.cr b.ey.zl j (by rw[a.tx];exact f)
  rw[i,K.tRem a.cr (by rw[a.tx];exact f),a.tx];rfl
def EX.box{q j v cs}(a:EX K w Z E c x M)(B:w.heap[q]?=O (V6 cs 238 (0,0)))(C:¬Z q)(D:M.op=VR->VD x.cv≠O q):EX K (w.setCell (V4 q j) v) Z E c x M:=by
 have i:q≠E:=λe=>by
  subst e;have A:=a.ey.blk.2
  simp_all
 have k:=(ye.reflS w (λb=>b=E\/b=q)).setS (V4 q j) v (.inl (.inr rfl));refine(a.put2 k (λb d=>by grind) ⟨a.ey.blk.1,(xM w _ E v (Ne.J i)).R a.ey.blk.2⟩ ⟨rfl,rfl⟩ (λd=>?_)).1
 have f:∀{g:Jo}{h:List _},WG w Z g h->WG _ Z g h:=λl=>by
  obtain⟨s,u1,u2⟩:=l
  exact⟨s,zD u1 (λb m=>xM w _ b _ (λe=>by
   grind [jg,Option.some.injEq,Obj.cells.injEq])),u2.kk d VS (λ_ a=>a)⟩
 refine⟨yR a.ey.ms d (.inl VS),⟨f a.ey.dn.1,a.ey.dn.2⟩,⟨f a.ey.ud.1,a.ey.ud.2⟩,λn=>?_,a.ey.cvs,a.ey.sl.1,λo v b p r=>(a.ey.sl.2 o v b p r).kk d VS VS (λ_ a=>a)⟩;obtain⟨⟨t,u,y⟩,z⟩:=a.ey.cu n;exact⟨⟨t,zD u (λb m=>xM w _ b v (λe=>by simp_all)),y.kk d VS (λ_ a=>a)⟩,z⟩
def zBl(a:SS)(b:SR):SS:={a with re:=[],gr:=if a.op then a.gr++ [b]else a.gr,un:=if a.op then a.un else jT a.cp a.un [b]}
def PJ.trans'{w3 M2}(a:PJ K w' Z E c M2 w3)(b:KK Zt Z w w'):PJ K w Z E c M2 w3:=PJ.R b (λ_ a=>a) a
def noteX{k off l1}(b:EX K w Z E c x M)(d:RX w Z [qP k,qP off,VZ a1 l1 k1,VZ a2 l2 k2,VZ a3 l3 k3] r)(f:L M.un<=1000)(g:M.cp<=1000)(h:L M.gr<=100000):
  VM prog 167 #[V3 E 1,.agg (Pe k off a1 a2 a3 l1 l2 l3 k1 k2 k3)] w λe w'=>e=V5 (.tuple #[])/\PJ K w Z E c (zBl M r) w':=by
 cases ho:M.op with
 | true=>rw[show zBl M r={M with re:=[],gr:=M.gr++ [r]} by grind [zBl]];exact noteO b ho d h
 | false=>
  have a:¬M.op=VR:=(by rw[ho];decide);rw[show zBl M r={M with re:=[],un:=jT _ _ [r]} by unfold zBl;rw[xK a,xK a]];exact noteN b ho d f g
def zCe(p)(d:EX K w Z E c x M)(ae:TX w Z (.slice a1 (L ts) k1) ts)(az:OkC p M off ts)(b7:L M.un<=1000)(b8:M.cp<=1000)(b9:L M.gr<=100000)(r)(a0:r.put=p/\r.off=off/\Zs r=ts/\r.was=M.ms/\r.is=(EK p M off ts).ms):
  VM prog 142 #[.pointer (qQ E 0),qP (PN p),qP off,.slice a1 (L ts) k1] w λH w'=>H= .returned (.tuple #[])/\PJ K w Z E c (zBl (EK p M off ts) r) w':=by
 obtain⟨f,Q⟩:∃f,f=PN p:=⟨_,rfl⟩
 rw[<- Q];have a9:=zC Q;have ai:=zC (DQ p);rw[<- Q]at ai;have b3:=λw=>(Tryz.fldX p w).1
 have ba:=d.ey.blk.cl.1;obtain⟨h,k2,R⟩:=d.ey.ms.val;obtain⟨g,S⟩:∃g,g=L ts:=⟨_,rfl⟩
 obtain⟨e,a4⟩:∃e,e=L M.ms:=⟨_,rfl⟩
 rw[<- a4]at R;rw[R]at ba;rw[<- S]at ae |-;have m:=zC (xJ w (.cells (Pe f off a1 h none g e 0 k1 k2 0) 238));have aj:=zC (bA (xF _ w) (.cells (Pe f off a1 h none g e 0 k1 k2 0) 238));have bc:=zC (λav P aw=>by obtain⟨⟨ca,bu,_⟩,_⟩:=d.ey.cu av;exact(bu.lt P aw).2);have ak:=zC d;have HT:=zC ae;have bd:=zC (show zW w 0 (.slice h e k2) _ from by rw[<- R];exact d.ey.ms);have bf:=zC a0;obtain⟨s,T⟩:∃s,s=EK p M off ts:=⟨_,rfl⟩
 rw[<- T];have al:=zC T;have b4:s.un=M.un/\s.cp=M.cp/\s.gr=M.gr/\s.op=M.op:=by rw[T];exact⟨rfl,rfl,rfl,rfl⟩
 have U:=zC (λbs(ax:Below _ w bs)=>Ie (a2:=h) (a3:=none) (l2:=e) (l3:=0) (k2:=k2) (k3:=0) p f (ak.A.I ax) (by rw[<- S];exact HT.A.kk (l:=[]) (KK.of ax) (λ_ d=>d)) az);rw[<- S]at U;clear d ae az a0 T S a4 Q R;go_enter func142,ntmps142;go_upto_region 1 with fail;generalize VF w _=q at*;have b5:=(xG.1 m.A).1;have A:q.cell? _=O (.int _ f):=c8 0 m.A;have B:q.cell? _=O (.int _ off):=c8 1 m.A;have C:q.cell? _=O (.slice a1 g k1):=c8 2 m.A;have D:q.cell? _=O (.slice h e k2):=c8 3 m.A;have F:q.cell? _=O (.slice none 0 0):=c8 4 m.A;have V:=λa b=>qa6 A a b
 have W:=λa b=>qa6 B a b
 have X:=λa b=>qa6 C a b
 have aa:=λa b=>qa6 D a b
 have ab:=λa b=>qa6 F a b
 have am:=zC (λa b=>CallsIn.regrown_of (r:=5) (w:=q) (d:=a) (os:=b) (vD.2 (ai.A off a1 h none g e 0 k1 k2 0 _)));refine(kS (n:=6)).1 ?_;refine zI 5 (by rfl) (by kernel_rfl) ?_;simp only[vQ,kh,vT,ke];clear A B C D F
 repeat (refine qa8 (λ_ _ _ _=>trivial) (λK t=>?_);go_simp;first | (refine t _ ?_;clear t K) | (apply Exists.intro;refine⟨λ_=>?_,t _ ?_⟩;(first | exact am.A _ _);clear t K))
 refine qa9 ?_;intro _ ad;obtain⟨⟨bv,a5⟩,af⟩:=ad;subst af;have u:=zC (qa7 q bv a5);clear V W X aa ab am;generalize grow _ a5=br at*;have an:=zC (aj.A.R (u.A.G (by omega)));have ao:=zC ((u.A.block _ (by omega)).R m.A);have ap:=zC (U.A br an.A);clear u m U aj;gi_wp2_with fail;refine⟨xN,(vD.2 ap.A).G ?_⟩;rintro H o ⟨rfl,cb,J,ag⟩;rw[<- al.A]at J;have aq:=zC J;have y:=zC (ag.ty ao.A (by decide));have ar:=zC ((KK.of (l:=Zt) an.A).R (ag.weak (by decide)) (λ_ d=>d));obtain⟨a3,k3,ah⟩:=J.ey.ms.val;obtain⟨l3,a6⟩:∃l3,l3=L s.ms:=⟨_,rfl⟩
 simp at ah;rw[<- a6]at ah;subst ah;have bg:=J.ey.blk.cl.1;have bh:=xW o _ 4 _ _ y.A;have bi:o.cell? _=O (.slice none 0 0):=c8 4 y.A;clear J ag ap ao a6;gi_wp2_with fail;have G:=zC (show(o.setCell _ _).heap[N (Y w)]?=O (.cells (Pe f off a1 h a3 g e l3 k1 k2 k3) 238 _)from by rw[vf o _ 4 _ _ _ y.A];rfl);have bj:¬Z (N (Y w)):=λay=>by have:=ak.A.ey.zl _ ay;omega
 have bk:=zC (aq.A.box (j:=4) (v:=.slice a3 l3 k3) y.A bj (λav I=>by have:=bc.A (by simp_all) _ I;omega))
 have bl:=zC (ar.A.R (show KK Zt Z o (o.setCell _ (.slice a3 l3 k3))from⟨rfl,rfl,rfl,by simp,λP aw bt=>xM o ⟨N (Y w),4,none⟩ P _ (λH=>by
  have bn:P=N (Y w):=H;subst bn;obtain ay|⟨cc,cd,ce,I,ht⟩:=bt
  ·grind
  rw[y.A]at I;simp at I;rw[<- I.2.1]at ht
  exact absurd ht (by decide))⟩) (λ_ d=>d))
 go_upto_region 3 with fail;clear bi bh bg aq y ar;generalize o.setCell _ _=z at*;have A:z.cell? _=O (.int _ f):=c8 0 G.A;have B:z.cell? _=O (.int _ off):=c8 1 G.A;have C:z.cell? _=O (.slice a1 g k1):=c8 2 G.A;have D:z.cell? _=O (.slice h e k2):=c8 3 G.A;have F:z.cell? _=O (.slice a3 l3 k3):=c8 4 G.A;have V:=λa b=>qa6 A a b
 have W:=λa b=>qa6 B a b
 have X:=λa b=>qa6 C a b
 have aa:=λa b=>qa6 D a b
 have ab:=λa b=>qa6 F a b
 refine(kS (n:=6)).1 ?_;refine zI 4 (by rfl) (by kernel_rfl) ?_;simp only[vQ,kh,vT,ke];clear A B C D F
 repeat (refine qa8 (λ_ _ _ _=>trivial) (λK t=>?_);go_simp;first | (refine t _ ?_;clear t K))
 refine qa9 ?_;intro _ ad;obtain⟨⟨bw,a7⟩,af⟩:=ad;subst af;have u:=zC (qa7 z bw a7);clear V W X aa ab;generalize grow _ a7=b6 at*;have ac:=zC (bl.A.R (KK.of u.A) (λ_ d=>d));have au:=zC (bk.A.I u.A)
 have bp:=zC (noteX (k:=f) au.A (by
  obtain⟨bx,bz,b0,b1,b2⟩:=bf.A;refine⟨.slice a1 g k1,.slice h e k2,.slice a3 l3 k3,?_,?_,?_,?_⟩
  ·rw[bx,bz,a9.A];rfl
  ·rw[b0];exact HT.A.kk ac.A (λ_ d=>d)
  ·rw[b1];exact yR bd.A ac.A (.inl (by decide))
  rw[b2,<- al.A];exact au.A.ey.ms) (by simp_all) (by omega) (by simp_all))
 gi_wp2_with fail;refine⟨xN,(vD.2 bp.A).G ?_⟩;rintro H cf ⟨rfl,a8⟩;have bq:=zC (a8.trans' ac.A);clear a8;gi_wp2_with fail;exact Qx (by simp[results]) rfl ⟨rfl,bq.A⟩
end
end
section
open Go.Sort Go.BigFrame
def OX(l:KX)(g:V8)(j:Nat->Prop)(m n:Nat)(o p q:Int)(r:qa0)(s:List Mk)(t:SS)(u:Ending)(b:V8):Prop:=
 ∃c d e h i mk f k,u=V5 (.tuple #[.agg (yV o p q (VZ c d e) (VZ h i mk)),.nilIface])/\(zH b (N (Y g)) (VZ c d e) r/\∀a,VD (VK c d e)=O a->f a)/\zW b (N (Y g)) (VZ h i mk) s/\EX l b f m n k t/\KK Zt j g b/\∀a,j a->f a
def AX(c:KX)(d:FuncId)(a:V8)(e:Nat->Prop)(b f:Nat)(g h i j:Int)(k:Jo)(l m n:Int)(o:qa0)(p:List Mk)(q:SS):Prop:=
 VM prog d #[V3 b 0,.agg (yZ g h i j k)] a (OX c a e b f l m n o p q)
def BX(c:FuncId)(a:V8)(d:Nat)(e f g h:Int)(i j:Jo):Prop:=
 VM prog c #[V3 d 0,.agg (yZ e f g h i)] a λb w'=>b=V5 (.tuple #[.agg (yV 0 0 0 V0 V0),j])/\qa3 a w'
section
variable {w w' W W2:World} {Z Z1:Nat->Prop} {E c:Nat} {x:VX} {M M2:SS} {K:KX} {op:Array Value}
def PX(g:KX)(b:V8)(d:Nat->Prop)(h i:Nat)(j:qa2)(k:SS)(e:Nat->Prop)(a:V8):Prop:=(∃f,EX g a e h i f k)/\KK Zt d b a/\(∀c,d c->e c)/\a.heap[N (Y b)]?=O (V6 j 61 (0,0))/\a.heap[N (Y b)+1]?=O (V6 (yV 0 0 0 V0 V0) 79 (0,0))
def PB(a:V8)(c:qa2)(b:V8):Prop:=qa3 a b/\b.heap[N (Y a)]?=O (V6 c 61 (0,0))/\b.heap[N (Y a)+1]?=O (V6 (yV 0 0 0 V0 V0) 79 (0,0))
def PB.start(w)(op):PB w op (VF (VF w (V6 op 61)) (V6 (yV 0 0 0 V0 V0) 79)):=⟨bA (bA (xF _ w) _) _,Pw w _ op 61,Er w _ _ 79⟩
def PB.lt(a:PB w op W):N (Y w)+1<N (Y W):=(xG.1 a.2.2).1
theorem PB.I(a:PB w op W)(b:qa3 W W2):PB w op W2:=⟨a.1.R (b.G a.1.size),(b.block _ (by have:=a.lt;omega)).R a.2.1,(b.block _ a.lt).R a.2.2⟩
def PB.fin(b:PB w op W){row}:qa3 w (W.setRow (N (Y w)+1) row):=b.1.R ⟨rfl,rfl,rfl,VT,λa c=>kD W _ a row VC⟩
def PX.start(b:EX K w Z E c x M)(op):PX K w Z E c op M Z (VF (VF w (V6 op 61)) (V6 (yV 0 0 0 V0 V0) 79)):=
 have a:=PB.start w op
 ⟨⟨x,b.I a.1⟩,KK.of a.1,λ_ b=>b,a.2.1,a.2.2⟩
theorem PX.step(b:PX K w Z E c op M Z1 W)(h:PJ K W Z1 E c M2 W2):∃d,PX K w Z E c op M2 d W2/\∀a,Z1 a->d a:=by
 obtain⟨d,i,j,e,f⟩:=h;exact⟨d,⟨⟨i,j⟩,b.2.1.R e b.2.2.1,λa g=>f a (b.2.2.1 a g),e.ty b.2.2.2.1 VS,e.ty b.2.2.2.2 VS⟩,f⟩
def PX.same(a:PX K w Z E c op M Z1 W)(e:∃d,EX K W2 Z1 E c d M2)(b:KK Zt Z1 W W2):PX K w Z E c op M2 Z1 W2:=⟨e,a.2.1.R b a.2.2.1,a.2.2.1,b.ty a.2.2.2.1 VS,b.ty a.2.2.2.2 VS⟩
theorem PX.I(a:PX K w Z E c op M Z1 W)(b:qa3 W W2):PX K w Z E c op M Z1 W2:=by
 obtain⟨d,e⟩:=a.1;exact a.same ⟨d,e.I b⟩ (KK.of b)
def KN.row{q row cs t f l}(d:W.heap[q]?=O (V6 cs t f))(ht:t∈l):KN l W (W.setRow q row):=⟨rfl,rfl,rfl,VT,λa _ b=>kD W q a row (λc=>by subst c;exact b cs t f d ht)⟩
def PX.fin{x0 x1 x2 T ms ua ma ul uk ml mk}(h:PX K w Z E c op M Z1 W)(e:zH W (N (Y w)) (VZ ua ul uk) T/\∀a,VD (VK ua ul uk)=O a->Z1 a)(i:zW W (N (Y w)) (VZ ma ml mk) ms):OX K w Z E c x0 x1 x2 T ms M (V5 (.tuple #[.agg (yV x0 x1 x2 (VZ ua ul uk) (VZ ma ml mk)),.nilIface])) (W.setRow (N (Y w)+1) (yV x0 x1 x2 (VZ ua ul uk) (VZ ma ml mk))):=by
 obtain⟨⟨j,k⟩,b,l,n,m⟩:=h;have d:KN [79,61] W (W.setRow _ (yV x0 x1 x2 (VZ ua ul uk) (VZ ma ml mk))):=KN.row m VS;exact⟨ua,ul,uk,ma,ml,mk,Z1,j,rfl,⟨jW e.1 d VS,e.2⟩,jW i d VS,k.keep d,⟨b.os,b.tape,b.output,by simp;exact b.size,λa f g=>(kD W _ a _ VC).R (b.block a f g)⟩,l⟩
def PX.fin0{x0 x1 x2}(b:PX K w Z E c op M Z1 W):OX K w Z E c x0 x1 x2 [] [] M (V5 (.tuple #[.agg (yV x0 x1 x2 V0 V0),.nilIface])) (W.setRow (N (Y w)+1) (yV x0 x1 x2 V0 V0)):=b.fin ⟨vz _ _ _ _,λd a=>by simp[VD]at a⟩ (vz _ _ _ _)
def yw{fn R tmps q x0 x1 x2 ua ma ul uk ml mk cs f er}(n:fn.results= #[.cell 4 79,.tmp 5])(o:W.heap[q]?=O (V6 cs 79 f))(p:tmps[4]?=O (V3 q 0))(r:tmps[5]?=O er)(s:R (V5 (.tuple #[.agg (yV x0 x1 x2 (VZ ua ul uk) (VZ ma ml mk)),er])) (W.setRow q (yV x0 x1 x2 (VZ ua ul uk) (VZ ma ml mk)))):bodyPost prog fn R .ret {tmps:=tmps,defers:=[]} (W.setRow q (yV x0 x1 x2 (VZ ua ul uk) (VZ ma ml mk))):=by
 have a:=QH W q _ (yV x0 x1 x2 (VZ ua ul uk) (VZ ma ml mk)) _ _ o;have b:=c8 0 a;have c:=c8 1 a;have d:=c8 2 a;have e:=c8 3 a;have g:=c8 4 a;have h:=c8 5 a;have j:=c8 6 a;have k:=c8 7 a;have l:=c8 8 a;have m:=c8 9 a;generalize W.setRow q _=t at*;exact vE (by simp[results,n,go_sem,p,r,b,c,d,e,g,h,j,k,l,m]) rfl s
end
section
variable {w w':World} {Z:Nat->Prop} {E c:Nat} {x:VX} {M:SS} {K:KX} {kd b0 b1 b2:Int} {ta:Option Addr} {tl tk:Nat}
def EX.begin(a:EX K w Z E c x M):EX K ((w.setCell (V4 E 4) (.bool VR)).setCell (V4 E 5) V0) Z E c {x with cv:=.slice none 0 0} {M with op:=VR,gr:=[]}:=by
 have d:=(EO.set E 4 (.bool VR) w).R (EO.set E 5 V0 _);have b:=a.ep d;have b1:=a.ey.blk.set 4 (.bool VR) a.ey.blk.1 rfl;exact a.put d (b1.set 5 _ a.ey.blk.1 rfl) ⟨rfl,rfl⟩ ⟨b.ms,b.dn,b.ud,λ_=>⟨⟨[],vz _ _ _ _,rfl⟩,λf e=>by simp[VD]at e⟩,⟨_,_,_,rfl⟩,b.sl⟩
def EX.shut(b:EX K w Z E c x M):EX K (w.setCell (V4 E 4) (.bool VP)) Z E c x {M with op:=VP}:=by
 have d:=EO.set E 4 (.bool VP) w;have a:=b.ep d;exact b.put d (b.ey.blk.set 4 _ b.ey.blk.1 rfl) ⟨rfl,rfl⟩ ⟨a.ms,a.dn,a.ud,λe=>(by cases e),a.cvs,a.sl⟩
def beginX(a:EX K w Z E c x M)(e:M.op=VP):VM prog 156 #[V3 E 1] w λd w'=>d=V5 .nilIface/\PJ K w Z E c {M with op:=VR,gr:=[]} w':=by
 have b:=zC (show PJ K w Z E c _ _ from⟨Z,_,a.begin,a.ey.ek ((EO.set E 4 _ w).R (EO.set E 5 _ _)) VS,λ_ a=>a⟩);obtain⟨_,_,_,_,f,i,_⟩:=a.ey.blk.cl;have g:=a.ey.blk.f 4;have h:=a.ey.blk.f 5;rw[e]at f;clear a;go_enter func156,ntmps156;go_wp2;go_ret;exact⟨rfl,b⟩
def beginE(a:EX K w Z E c x M)(d:M.op=VR):VM prog 156 #[V3 E 1] w λb w'=>b=V5 (.iface 109 (qP 7))/\w'=w:=by
 obtain⟨_,_,_,_,e,f,_⟩:=a.ey.blk.cl;rw[d]at e;clear a;go_enter func156,ntmps156;go_wp2;go_ret;simp
def begin9(d:EX K w Z E c x M)(i:M.op=VP):AX K 126 w Z E c 11 b0 b1 b2 (VZ ta tl tk) 0 0 0 [] [] {M with op:=VR,gr:=[]}:=by
 unfold AX;have a:=zC (PX.start d (yZ 11 b0 b1 b2 (VZ ta tl tk)));clear d;go_enter func126,ntmps126;go_upto_region 1 with fail;generalize VF _ _=j at*;obtain⟨k,e⟩:=a.A.1;have g:=zC e;clear e;have BE:=zC (beginX g i);go_wp2_with (first | (refine ZD RR ?_) | (refine BE.G ?_;rintro l m ⟨rfl,hst⟩;obtain⟨n,f,_⟩:=a.step hst;have b:=zC f;have RR:=zC b.2.2.2.2;have h:=zC (b.fin0 (x0:=0) (x1:=0) (x2:=0));clear hst f));exact yw results126 RR rfl rfl h
def beginB9(b:EX K w Z E c x M)(g:M.op=VR):BX 126 w E 11 b0 b1 b2 (VZ ta tl tk) (.iface 109 (qP 7)):=by
 unfold BX;have a:=zC (PB.start w (yZ 11 b0 b1 b2 (VZ ta tl tk)));have d:=zC b;clear b;go_enter func126,ntmps126;go_upto_region 1 with fail;generalize VF _ _=i at*;have e:=zC (d.I a.1);have h:=zC a.2.1;have BE:=zC (beginE e g);have RR:=zC a.2.2;have f:=zC (a.fin (row:=yV 0 0 0 V0 V0));go_wp2_with (first | (refine ZD RR ?_) | (refine BE.G ?_;rintro j k ⟨rfl,rfl⟩));exact yw results126 RR rfl rfl ⟨rfl,f⟩
def move9(b:EX K w Z E c x M):AX K 130 w Z E c 15 b0 b1 b2 (VZ ta tl tk) 0 0 0 [] [] M:=by
 unfold AX;have a:=zC (PX.start b (yZ 15 b0 b1 b2 (VZ ta tl tk)));clear b;go_enter func130,ntmps130;go_upto_region 1 with fail;generalize VF _ _=f at*;obtain⟨g,e⟩:=a.A.1;clear e;have RR:=zC a.2.2.2.2;have d:=zC (a.fin0 (x0:=0) (x1:=0) (x2:=0));go_wp2_with (refine ZD RR ?_);exact yw results130 RR rfl rfl d
end
section
variable {w w':World} {Z:Nat->Prop} {E c:Nat} {x:VX} {M:SS} {K:KX} {kd b0 b1 b2:Int} {ta:Option Addr} {tl tk:Nat}
def PX.held{W W2 Z1 op v ts}(f:PX K w Z E c op M Z1 W)(i:qa3 W W2)(d:zH W2 (N (Y W)) v ts):PX K w Z E c op M (λa=>Z1 a\/VD v=O a) W2/\TX W2 (λa=>Z1 a\/VD v=O a) v ts:=by
 obtain⟨⟨k,m⟩,n,j,o,p⟩:=f;have e:=KK.of (l:=Zt) (Z:=Z1) i;refine⟨⟨⟨k,m.hold i (λ_ f=>.inl f) (λa b=>b.imp id (λg=>⟨(d.lt a g).1,(d.lt a g).2,λr s t h=>?_⟩))⟩,n.R e j,λa b=>.inl (j a b),e.ty o VS,e.ty p VS⟩,zF d (xY _),λa b=>.inr b⟩;obtain⟨u,x,q⟩:=jg d g;rw[q]at h;simp at h;rw[<- h.2.1];decide
def edS_put(M)(off)(ts):Fy M off off ts=zBl (EK VR M off ts) (Xd M off off ts):=by simp[Fy,zBl,EK,PI,Lf,zAp]
def edS_cut(M){lo a ts}(d:a=lo+L ts)(e:0<L ts):Fy M lo a []=zBl (EK VP M lo ts) (Xd M lo a []):=by
 have b:¬a=lo:=VC
 have c:((a:Int)-lo)=L ts:=VC
 unfold Fy zBl EK PI Lf zAp;rw[xK b,xK b,c,<- d];simp
def rtx_put(M){off ts}(b:off<=L M.tx):Zs (Xd M off off ts)=ts:=by
 have a:L (M.tx.take off)=off:=by rw[xO];omega
 simp only[Zs,Xd,PI,decide_true,Vo,Qj,vg]
 simp_all
theorem rtx_cut(M){lo hi}(b:lo<hi):Zs (Xd M lo hi [])=(M.tx.take hi).drop lo:=by
 have a:¬hi=lo:=VC
 simp only[Zs,Xd,a,decide_false,Qh,QZ,vS,QI];rw[List.drop_take]
def WU{n}(a:EX K w Z E c x M)(d:M.sp+n<=200000):VM prog 141 #[V3 E 0,qP n] w λb w'=>b=V5 .nilIface/\EX K w' Z E c x {M with sp:=M.sp+n}/\KK Zt Z w w':=by
 refine(spendG E _ n w a.ey.blk.cl.2.2.2.2.2.2.2 (a.ey.blk.f 15) VC VC).G ?_;rintro b w' ⟨rfl,rfl⟩;have:=a.sp' (M.sp+n);rw[show(((M.sp+n:Nat)):Int)=M.sp+n by omega]at this;exact⟨rfl,this,a.ey.ek (EO.set E 15 _ w) VS⟩
def Hs{n}(d:EX K w Z E c x M)(f:M.sp<=200000)(g:200000<M.sp+n):VM prog 141 #[V3 E 0,qP n] w λb w'=>b=V5 (.iface 109 (qP 10))/\w'=w:=by
 have e:=d.ey.blk.cl.2.2.2.2.2.2.2;have a:=zC (zAw M.sp n 200000 w VC VC VC);rw[show decide _=VP by rw[QX];omega]at a;unfold yq at a;simp at a;clear d;go_enter func141,ntmps141;go_wp2_with fail;refine a.G ?_;rintro b h ⟨rfl,rfl⟩;go_wp2;go_ret;simp
def endX{n}(a:EX K w Z E c x M)(u:M.op=VR)(V:0<n)(H:n=L M.gr)(I:L M.un<=1000)(J:M.cp<=1000):∃r b,x.cv= .slice r n b/\VM prog 157 #[.pointer (qQ E 1)] w λf w'=>f= .returned (.tuple #[.slice r n b,.nilIface])/\PJ K w Z E c {M with op:=VP,un:=jT M.cp M.un M.gr} w':=by
 obtain⟨⟨P,g,v⟩,Q⟩:=a.ey.cu u
 have B:∃d b s,x.cv= .slice (qQ d 0) n b/\w.heap[d]?=O (.cells s 238 (0,0)):=by
  obtain⟨f,W⟩|⟨X,aa,ab,f,_,ac,_⟩:=g.2
  ·omega
  simp_all
 obtain⟨d,b,s,e,y⟩:=B;refine⟨_,b,e,?_⟩;have h:=EO.set E 4 (.bool VP) w;have C:d≠E:=a.ey.blk.ne g (by decide) (by rw[e];rfl);have o:(w.setCell ⟨E,4,none⟩ (.bool VP)).heap[d]?=O _:=(xM w _ d _ C).R y;have i:=zC (a.shut.freeze rfl o);have D:=zC (a.ey.ek (l:=Zt) h (by decide));have j:=a.ey.ek (l:=[238,168]) h (by decide);have p:=zC (show zBs _ (λk=>Z k\/k=d) (.slice _ n b) _ from⟨⟨P,by rw[<- e];exact yR g j (.inl (by decide)),v.kk j (by decide) (λ_ a=>.inl a)⟩,λk t=>.inr (by simp only[VD,xP]at t;exact t.J)⟩);have q:=zC (zCd i p I J);obtain⟨_,_,_,_,R,_⟩:=a.ey.blk.cl;rw[u]at R;have T:=a.ey.blk.f 4;obtain⟨_,_,_,_,_,S,_⟩:=i.A.ey.blk.cl;rw[e]at S;have F:=zC e;clear a g v Q i p h j y o e H;go_enter func157,ntmps157;go_wp2_with fail;refine q.G ?_;rintro f z ⟨rfl,⟨ad,m⟩,A⟩;have U:VE z ⟨E,5,none⟩=O (.slice (qQ d 0) n b):=by have:=m.ey.blk.cl.2.2.2.2.2.1;rw[this];simp only[F.A]
 have G:=zC (show PJ K w Z E c _ z from⟨_,_,m,D.R A (λ_ a=>.inl a),λ_ a=>.inl a⟩);clear m A q;go_wp2;exact vE (by simp[results,go_sem]) rfl ⟨rfl,G⟩
def endZX(a:EX K w Z E c x M)(g:M.op=VR)(l:M.gr= []):∃d e,VM prog 157 #[V3 E 1] w λb w'=>b=V5 (.tuple #[VZ d 0 e,.nilIface])/\PJ K w Z E c {M with op:=VP} w':=by
 obtain⟨⟨r,f,m⟩,n⟩:=a.ey.cu g;rw[l]at f
 obtain⟨d,e,h⟩:∃j k,x.cv= .slice j 0 k:=by
  obtain⟨b,s⟩|⟨t,u,v,b,_,y,_⟩:=f.2
  ·exact⟨_,_,b⟩
  exact⟨_,_,b⟩
 refine⟨d,e,?_⟩;have i:=zC (show PJ K w Z E c _ _ from⟨Z,_,a.shut,a.ey.ek (EO.set E 4 _ w) VS,λ_ a=>a⟩);obtain⟨_,_,_,_,o,p,_⟩:=a.ey.blk.cl;rw[g]at o;rw[h]at p;have q:=a.ey.blk.f 4;clear a f m n h;go_enter func157,ntmps157;go_wp2;exact vE (by simp[results,go_sem]) rfl ⟨rfl,i⟩
def endEX(a:EX K w Z E c x M)(d:M.op=VP):VM prog 157 #[V3 E 1] w λb w'=>b=V5 (.tuple #[V0,.iface 109 (qP 8)])/\w'=w:=by
 obtain⟨_,_,_,_,e,f,_⟩:=a.ey.blk.cl;rw[d]at e;clear a;go_enter func157,ntmps157;go_wp2;exact vE (by simp[results,go_sem]) rfl ⟨rfl,rfl⟩
def end9{n}(d:EX K w Z E c x M)(k:M.op=VR)(l:0<n)(e:n=L M.gr)(m:L M.un<=1000)(o:M.cp<=1000):AX K 127 w Z E c 12 b0 b1 b2 (VZ ta tl tk) 0 n 0 [] [] {M with op:=VP,un:=jT M.cp M.un M.gr}:=by
 unfold AX;have a:=zC (PX.start d (yZ 12 b0 b1 b2 (VZ ta tl tk)));clear d;go_enter func127,ntmps127;go_upto_region 1 with fail;generalize VF _ _=p at*;obtain⟨q,f⟩:=a.A.1;have i:=zC f;clear f;obtain⟨r,s,_,g⟩:=endX i k l e m o;have BE:=zC g;clear g e;go_wp2_with fail;refine BE.G ?_;rintro t u ⟨rfl,hst⟩;obtain⟨v,h,_⟩:=a.step hst;have b:=zC h;clear hst h BE;have RR:=zC b.2.2.2.2;have j:=zC (b.fin0 (x0:=0) (x1:=n) (x2:=0));go_wp2_with (refine ZD RR ?_);exact yw results127 RR rfl rfl j
def endE9(d:EX K w Z E c x M)(k:M.op=VR)(e:M.gr= []):AX K 127 w Z E c 12 b0 b1 b2 (VZ ta tl tk) 0 0 0 [] [] {M with op:=VP}:=by
 unfold AX;have a:=zC (PX.start d (yZ 12 b0 b1 b2 (VZ ta tl tk)));clear d;go_enter func127,ntmps127;go_upto_region 1 with fail;generalize VF _ _=l at*;obtain⟨m,f⟩:=a.A.1;have i:=zC f;clear f;obtain⟨n,o,g⟩:=endZX i k e;have BE:=zC g;clear g e;go_wp2_with fail;refine BE.G ?_;rintro p q ⟨rfl,hst⟩;obtain⟨r,h,_⟩:=a.step hst;have b:=zC h;clear hst h BE;have RR:=zC b.2.2.2.2;have j:=zC (b.fin0 (x0:=0) (x1:=0) (x2:=0));go_wp2_with (refine ZD RR ?_);exact yw results127 RR rfl rfl j
def endB9(b:EX K w Z E c x M)(g:M.op=VP):BX 127 w E 12 b0 b1 b2 (VZ ta tl tk) (.iface 109 (qP 8)):=by
 unfold BX;have a:=zC (PB.start w (yZ 12 b0 b1 b2 (VZ ta tl tk)));have d:=zC b;clear b;go_enter func127,ntmps127;go_upto_region 1 with fail;generalize VF _ _=i at*;have e:=zC (d.I a.1);have h:=zC a.2.1;have BE:=zC (endEX e g);go_wp2_with fail;refine BE.G ?_;rintro j k ⟨rfl,rfl⟩;have RR:=zC a.2.2;have f:=zC (a.fin (row:=yV 0 0 0 V0 V0));go_wp2_with (refine ZD RR ?_);exact yw results127 RR rfl rfl ⟨rfl,f⟩
end
section
variable {w w':World} {Z:Nat->Prop} {E c:Nat} {x:VX} {M:SS} {K:KX} {kd b0 b1 b2:Int} {ta:Option Addr} {tl tk:Nat} {bs:List Int} {off:Nat}
def Ht(a:EX K w Z E c x M):VM prog K.fLen #[V3 c 0] w λb w'=>b=V5 (qP (L M.tx))/\qa3 w w':=by have:=K.cLen a.cr;rw[a.tx]at this;exact this
def EX.c6(a:EX K w Z E c x M):VE w (V4 E 6)=O (.iface K.ty (V3 c 0)):=a.ey.blk.cl.2.2.2.2.2.2.1
def EX.len(a:EX K w Z E c x M):L M.tx<=8192:=by have:=(K.lt a.cr).2;rw[a.tx]at this;omega
def zBz{a n l}(w)(c:0<=l)(d:l<=1048576){er}(b:(if 0<=a/\a<=l then yq (decide (l<=8192/\n<=8192-l)) 10 else yq VP 2)=er):VM prog 140 #[qP a,qP n,qP l] w λb w'=>b=V5 er/\qa3 w w':=(Tc a n l w c d).G (by grind [Below.refl])
def zB1{lo hi n}(w){er}(a:yq (decide ((0<=hi/\hi<=n)/\(0<=lo/\lo<=hi))) 2=er):VM prog 143 #[qP lo,qP hi,qP n] w λa w'=>a=V5 er/\qa3 w w':=(Du lo hi n w).G (by grind [Below.refl])
def GC:(∀{c q h k t a j m o e f tk b d}(p:EX j c q h k t a)(w:∀g,qa3 c g->Rd .u8 g (VZ e f tk) b/\Wt g)(C:bytes b)(D:L b<=1048576)(E:d<=L a.tx)(am:0<L (yJ b))(ap:L a.tx+L (yJ b)<=8192)(Q:a.sp+L (yJ b)<=200000)(a1:YF a.lg+L (yJ b)<=220000)(a2:Vd a.ms)(a3:L a.un<=1000)(a4:a.cp<=1000)(a5:L a.gr<=100000),AX j 116 c q h k 1 d m o (VZ e f tk) 0 (L (yJ b)) 0 [] [] (Fy {a with sp:=a.sp+L (yJ b)} d d (yJ b)))/\(∀{c q h k t a j m o e f tk b d}(p:EX j c q h k t a)(w:∀g,qa3 c g->Rd .u8 g (VZ e f tk) b/\Wt g)(C:bytes b)(D:L b<=1048576)(E:d<=L a.tx)(am:yJ b= [])(Q:a.sp<=200000),AX j 116 c q h k 1 d m o (VZ e f tk) 0 0 0 [] [] a)/\(∀{c q h k t a j}{R:Int}{m o e f tk b}(p:EX j c q h k t a)(w:∀g,qa3 c g->Rd .u8 g (VZ e f tk) b/\Wt g)(C:bytes b)(D:L b<=1048576)(E:¬ (0<=R/\R<=L a.tx)),BX 116 c h 1 R m o (VZ e f tk) (.iface 109 (qP 2)))/\(∀{c q h k t a j m o e f tk b d}(p:EX j c q h k t a)(w:∀g,qa3 c g->Rd .u8 g (VZ e f tk) b/\Wt g)(C:bytes b)(D:L b<=1048576)(E:d<=L a.tx)(Q:8192<L a.tx+L (yJ b)),BX 116 c h 1 d m o (VZ e f tk) (.iface 109 (qP 10)))/\(∀{c q h k t a j m o e f tk b d}(p:EX j c q h k t a)(w:∀g,qa3 c g->Rd .u8 g (VZ e f tk) b/\Wt g)(C:bytes b)(D:L b<=1048576)(E:d<=L a.tx)(ap:L a.tx+L (yJ b)<=8192)(a6:a.sp<=200000)(Q:¬a.sp+L (yJ b)<=200000),BX 116 c h 1 d m o (VZ e f tk) (.iface 109 (qP 10))):=by
 refine⟨@λc q h k t a j m o e f tk b d p w C D E am ap Q a1 a2 a3 a4 a5=>have S:=zC xN;have ai:=zC xN;?_,@λc q h k t a j m o e f tk b d p w C D E am Q=>have S:=zC xN;have X:=zC xN;?_,@λc q h k t a j R m o e f tk b p w C D E=>have K:=zC xN;have av:=zC xN;?_,@λc q h k t a j m o e f tk b d p w C D E Q=>have ao:=zC xN;have K:=zC xN;have aj:=zC xN;?_,@λc q h k t a j m o e f tk b d p w C D E ap a6 Q=>have ao:=zC xN;have K:=zC xN;have ak:=zC xN;?_⟩
 all_goals
  first
   |(revert S;intro S;unfold AX;have u:=zC (PX.start p (yZ 1 d m o (VZ e f tk))))
   |(revert ao;intro ao;unfold BX;have u:=zC (PB.start c (yZ 1 d m o (VZ e f tk))))
   |(unfold BX;have u:=zC (PB.start c (yZ 1 R m o (VZ e f tk))))
  have bl:=p.lt
  first | (revert S;intro S;have aw:=zC (PB.start c (yZ 1 d m o (VZ e f tk))).1) | skip
  have bn:=λk c=>(j.mth k c).1
  have bp:=j.ent j.fLen VT
  first | (revert K;intro K;have bc:=zC p) | skip
  clear p;go_enter func116,ntmps116;go_upto_region 1 with fail;generalize VF (VF c _) _=P at*
  first
   |(revert S;intro S;obtain⟨bt,a7⟩:=u.A.1;have I:=zC a7;have T:=zC u.2.2.2.1;clear a7)
   |(have I:=zC (bc.I u.1);have T:=zC u.2.1)
  have ac:VE P (V4 (N (Y c)) 4)=O (VZ e f tk):=c8 4 T
  first
   |(revert K;intro K;have U:=zC (LK b (VZ e f tk) P (w P u.1).1 C (w P u.1).2 D))
   |(have U:=zC (LK b (VZ e f tk) P (w P aw).1 C (w P aw).2 D))
  generalize yJ b=s at*;go_wp2_with fail;refine U.G ?_;rintro an z ⟨bi,rfl,F,A⟩;have F:zH z (N (Y P)) bi s:=F;obtain⟨bu,bv,bj⟩:=zS F;subst bj
  first
   |(revert X;intro X;obtain⟨J,af⟩:=u.A.held A F;have B:=zC J;have al:=zC af;obtain⟨aq,ag⟩:=J.1;have r:=zC ag;have v:=zC J.2.2.2.1;clear F A U ac J af ag T I;subst am;(have G:=zC (show(if 0<=(d:Int)/\(d:Int)<=L a.tx then yq (decide (((L a.tx:Nat):Int)<=8192/\((0:Nat):Int)<=8192-(L a.tx:Nat))) 10 else yq VP 2)= .nilIface from by have:=r.len;rw[xU VC,show decide (((L a.tx:Nat):Int)<=8192/\(((0:Nat):Nat):Int)<=8192-(L a.tx:Nat))=VR by grind];rfl));have M:VE z (V4 (N (Y c)) 1)=O (qP d):=c8 1 v)
   |(revert ai;intro ai;obtain⟨J,af⟩:=u.A.held A F;have B:=zC J;have al:=zC af;obtain⟨aq,ag⟩:=J.1;have r:=zC ag;have v:=zC J.2.2.2.1;clear F A U ac J af ag T I;(have G:=zC (show(if 0<=(d:Int)/\(d:Int)<=L a.tx then yq (decide (((L a.tx:Nat):Int)<=8192/\((L s:Nat):Int)<=8192-(L a.tx:Nat))) 10 else yq VP 2)= .nilIface from by rw[xU VC,show decide (((L a.tx:Nat):Int)<=8192/\((L s:Nat):Int)<=8192-(L a.tx:Nat))=VR by grind];rfl));have M:VE z (V4 (N (Y c)) 1)=O (qP d):=c8 1 v)
   |(revert aj;intro aj;have B:=zC (u.I A);have r:=zC (I.I A);have v:=zC B.2.1;clear F A U ac T I;have bd:=r.len;(have G:=zC (show(if 0<=(d:Int)/\(d:Int)<=L a.tx then yq (decide (((L a.tx:Nat):Int)<=8192/\((L s:Nat):Int)<=8192-(L a.tx:Nat))) 10 else yq VP 2)=(.iface 109 (qP 10))from by rw[xU VC,show decide (((L a.tx:Nat):Int)<=8192/\((L s:Nat):Int)<=8192-(L a.tx:Nat))=VP by grind];rfl));have M:VE z (V4 (N (Y c)) 1)=O (qP d):=c8 1 v)
   |(revert ak;intro ak;have B:=zC (u.I A);have r:=zC (I.I A);have v:=zC B.2.1;clear F A U ac T I;(have G:=zC (show(if 0<=(d:Int)/\(d:Int)<=L a.tx then yq (decide (((L a.tx:Nat):Int)<=8192/\((L s:Nat):Int)<=8192-(L a.tx:Nat))) 10 else yq VP 2)= .nilIface from by rw[xU VC,show decide (((L a.tx:Nat):Int)<=8192/\((L s:Nat):Int)<=8192-(L a.tx:Nat))=VR by grind];rfl));have M:VE z (V4 (N (Y c)) 1)=O (qP d):=c8 1 v)
   |(have B:=zC (u.I A);have r:=zC (I.I A);have v:=zC B.2.1;clear F A U ac T I;have bd:=r.len;(have G:=zC (show(if 0<=R/\R<=L a.tx then yq (decide ((L a.tx:Int)<=8192/\(L s:Int)<=8192-L a.tx)) 10 else yq VP 2)=(.iface 109 (qP 2))from by rw[xK E];rfl));have M:VE z (V4 (N (Y c)) 1)=O (qP R):=c8 1 v)
  have bf:=λx y=>qa6 M x y
  have ax:=r.c6;have bg:=λx y=>qa6 ax x y
  have ay:=zC (λx y=>Calls.regrown_of (Ht (r.I (qa7 z x y))))
  first
   |(revert aj;intro aj;(have ad:=zC (λx y=>Calls.regrown_of (zBz (grow (redrawn z x) y) VC VC G))))
   |(revert X;intro X;(have ad:=zC (λx y=>Calls.regrown_of (zBz (grow (redrawn z x) y) VC (by have:=r.len;omega) G))))
   |(revert av;intro av;(have ad:=zC (λx y=>Calls.regrown_of (zBz (grow (redrawn z x) y) VC VC G))))
   |((have ad:=zC (λx y=>Calls.regrown_of (zBz (grow (redrawn z x) y) VC VC G))))
  clear M ax;go_wp2_with fail;refine wp_region_quiet_below (by rfl) VU ?_
  repeat (quiet_step (first | exact ay _ _ | exact ad _ _))
  refine wpQuiet_nil ?_;intro _ bh;obtain⟨⟨a8,a9⟩,bk⟩:=bh;subst bk;have V:=zC (qa7 z a8 a9);clear bf bg ay ad;generalize grow (redrawn z a8) a9=bs at*;have H:=zC (B.I V)
  first
   |(revert ai;intro ai;obtain⟨ar,ah⟩:=H.A.1;have W:=zC (WU ah Q);have T2:=zC (al.kk (l:=[]) (KK.of V) (λ_ p=>p));clear ah r v V al B;(have bq:(0:Int)<L s:=by omega);(have br:L s<=8192:=by omega);go_wp2_with fail;refine W.G ?_;rintro an au ⟨rfl,aa,ab⟩;have Z:=zC (H.same ⟨_,aa⟩ ab);(have az:=zC (zCe (off:=d) VR aa (T2.kk ab (λ_ p=>p)) ⟨VC,by simp_all,a2,λ_=>a1⟩ a3 a4 a5 (Xd {a with sp:=a.sp+L s} d d s) ⟨by simp[Xd],rfl,rtx_put _ E,rfl,by simp[Xd,Lf,EK]⟩));have M:VE au (V4 (N (Y c)) 1)=O (qP d):=c8 1 Z.2.2.2.1;clear aa ab W H T2;go_wp2_with fail;refine az.G ?_;rintro an bw ⟨rfl,hst⟩;rw[<- edS_put]at hst;obtain⟨bx,ba,_⟩:=Z.A.step hst;have a0:=zC ba;clear hst ba az Z M;have RR:=zC a0.2.2.2.2;have ae:=zC (a0.fin0 (x0:=0) (x1:=(L s:Int)) (x2:=0)))
   |(revert X;intro X;obtain⟨ar,ah⟩:=H.A.1;(have W:=zC (WU (n:=0) ah VC));clear ah r v V al B;go_wp2_with fail;refine W.G ?_;rintro an au ⟨rfl,aa,ab⟩;have Z:=zC (H.same (M2:=a) ⟨_,aa⟩ ab);clear aa ab W H;have RR:=zC Z.2.2.2.2;have ae:=zC (Z.fin0 (x0:=0) (x1:=0) (x2:=0)))
   |(revert ak;intro ak;(have W:=zC (Hs (n:=L s) (r.I V) a6 VC));clear r v V B G;go_wp2_with fail;refine W.G ?_;rintro an au ⟨rfl,rfl⟩;have RR:=zC H.2.2;have ae:=zC (H.fin (row:=yV 0 0 0 V0 V0)))
   |(clear r v V B G;have RR:=zC H.2.2;have ae:=zC (H.fin (row:=yV 0 0 0 V0 V0)))
  go_wp2_with (refine ZD RR ?_)
  first
   |(revert K;intro K;exact yw results116 RR rfl rfl ⟨rfl,ae⟩)
   |(exact yw results116 RR rfl rfl ae)
def ins9:=@GC.1
def insE9:=@GC.2.1
def insB9:=@GC.2.2.1
def insF9:=@GC.2.2.2.1
def insG9:=@GC.2.2.2.2
end
end
def Ii:qa2:=#[.string ⟨#[]⟩,.nilFunc,.string ⟨#[73,110,115,101,114,116]⟩,.func (.func 116) #[] #[],.string ⟨#[68,101,108,101,116,101]⟩,.func (.func 117) #[] #[],.string ⟨#[83,108,105,99,101]⟩,.func (.func 118) #[] #[],.string ⟨#[76,105,110,101,67,111,108]⟩,.func (.func 119) #[] #[],.string ⟨#[79,102,102,115,101,116]⟩,.func (.func 120) #[] #[],.string ⟨#[77,97,114,107]⟩,.func (.func 121) #[] #[],.string ⟨#[68,114,111,112]⟩,.func (.func 122) #[] #[],.string ⟨#[76,111,111,107]⟩,.func (.func 123) #[] #[],.string ⟨#[85,110,100,111]⟩,.func (.func 124) #[] #[],.string ⟨#[82,101,100,111]⟩,.func (.func 125) #[] #[],.string ⟨#[66,101,103,105,110]⟩,.func (.func 126) #[] #[],.string ⟨#[69,110,100]⟩,.func (.func 127) #[] #[],.string ⟨#[83,110,97,112]⟩,.func (.func 128) #[] #[],.string ⟨#[66,97,99,107]⟩,.func (.func 129) #[] #[],.string ⟨#[77,111,118,101]⟩,.func (.func 130) #[] #[],.string ⟨#[68,117,109,112]⟩,.func (.func 131) #[] #[]]
def ansZ:qa2:=#[.string ⟨#[]⟩,.nilFunc,.string ⟨#[]⟩,.nilFunc,.string ⟨#[]⟩,.nilFunc,.string ⟨#[]⟩,.nilFunc,.string ⟨#[]⟩,.nilFunc,.string ⟨#[]⟩,.nilFunc,.string ⟨#[]⟩,.nilFunc,.string ⟨#[]⟩,.nilFunc,.string ⟨#[]⟩,.nilFunc,.string ⟨#[]⟩,.nilFunc,.string ⟨#[]⟩,.nilFunc,.string ⟨#[]⟩,.nilFunc,.string ⟨#[]⟩,.nilFunc,.string ⟨#[]⟩,.nilFunc,.string ⟨#[]⟩,.nilFunc,.string ⟨#[]⟩,.nilFunc,.string ⟨#[]⟩,.nilFunc]
