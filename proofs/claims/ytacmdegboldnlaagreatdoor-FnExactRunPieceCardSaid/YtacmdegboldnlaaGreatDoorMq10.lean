import Derived.Deep.MidRow
import Derived.Deep.WholeRow
import Derived.Laws.CopyOwn
import Derived.Test.YtacmdegboldnlaaGreatDoorMq09
set_option linter.all false
set_option maxRecDepth 100000
set_option maxHeartbeats 8000000
namespace Go.Proofs.YtacmdegboldnlaaGreatDoor
open Go Go.RowKit Go.Proofs.Tryz
open _root_.Array renaming size→N
open Bool renaming false→VP,true→VR
open Go renaming Calls→VM,maxLen→VL
open List renaming length→L
open Option renaming some→O
open _root_.Go.World renaming alloc→VF,cell?→VE,heap→Y
def Gc(msg)(n)(w)(b:VE w (V4 0 0)=O (.iface 179 (.agg #[V3 2 66]))):
  VM prog 21 #[.iface 130 (.agg #[.string msg,.iface 109 (qP n)])] w λj o=>j=V5 (qP n)/\qa3 w o:=by
 have k:0<N (Y w):=kR w _ b
 have d:VE (VF w (V6 #[qP 0] 109)) (V4 0 0)=O (.iface 179 (.agg #[V3 2 66])):=by
  rw[vJ _ _ (V4 0 0) k];exact b
 have e:VE (VF w (V6 #[qP 0] 109)) (V4 (N (Y w)) 0)=O (qP 0):=VT
 have f:(VF w (V6 #[qP 0] 109)).frozen? (V4 (N (Y w)) 0)=VP:=VT
 have l:=zC (RF msg n _ _ _ d e f);clear d e f b;go_enter func21,ntmps21;go_wp2_with fail;refine l.G ?_;rintro j s ⟨rfl,a,c,rfl⟩;have g:=((xF _ _).alloc lR _).R (c.G VT);have h:Below _ w (a.setCell (V4 (N (Y w)) 0) (qP n)):=g.setCell lR _
 have i:VE a (V4 (N (Y w)) 0)=O (qP 0):=by
  rw[c.U (p:=(V4 (N (Y w)) 0)) VT];simp
 have q:(a.setCell _ _).cell? _=O (qP n):=World.cell?_setCell_same _ _ _ i;have m:=zC h;clear c g h i;generalize a.setCell _ _=r at*;go_wp2;go_ret;exact⟨rfl,m⟩
def Du(lo hi n)(b):
  VM prog 143 #[qP lo,qP hi,qP n] b λa h=>a=V5 (yq (decide ((0<=hi/\hi<=n)/\(0<=lo/\lo<=hi))) 2)/\h=b:=by
 have c:=zC (λb=>Jt hi 0 n b);have e:=zC (λb=>Jt lo 0 hi b);by_cases d:(0<=hi/\hi<=n)
 ·rw[show decide _=VR by simpa using d]at c
  by_cases f:(0<=lo/\lo<=hi)
  ·rw[show decide _=VR by simpa using f]at e
   rw[show decide _=VR by simp_all];clear d f;go_enter func143,ntmps143;go_wp2_with fail;refine(c _).G ?_;rintro a g ⟨rfl,rfl⟩;go_wp2_with fail;refine(e _).G ?_;rintro a g ⟨rfl,rfl⟩;go_wp2;go_ret;exact⟨rfl,rfl⟩
  rw[show decide _=VP by simpa using f]at e;rw[show decide _=VP by simp_all];clear d f;go_enter func143,ntmps143;go_wp2_with fail;refine(c _).G ?_;rintro a g ⟨rfl,rfl⟩;go_wp2_with fail;refine(e _).G ?_;rintro a g ⟨rfl,rfl⟩;go_wp2;go_ret;exact⟨rfl,rfl⟩
 rw[show decide _=VP by simpa using d]at c;rw[show decide _=VP by rw[QX];omega];clear d;go_enter func143,ntmps143;go_wp2_with fail;refine(c _).G ?_;rintro a g ⟨rfl,rfl⟩;go_wp2;go_ret;exact⟨rfl,rfl⟩
def Tryz.infoG:(prog.info? 21).map (λa=>(a.zero,a.size,a.bytes))=O (O (.int .i32 0),1,4):=VU
def Sl(h:IntKind)(e:V8)(f:Jo)(a:qa0):Prop:=
 (f= .slice none 0 0/\a= [])\/
 (∃b d g,f= .slice (qQ b d) (L a) g/\b<N (Y e)/\∀c<L a,VE e (V4 b (d+c))=O (.int h (a.getD c 0)))
def Sl.qe{k w base e v n zs}(a:w.ownsRow base e 1 v n (zQ k zs)):Sl k w v zs:=by
 have d:=by have:=a.1;simpa[zQ]using this
 obtain⟨b,i⟩|⟨c,g,j,b,_⟩:=a.2
 ·left;simp_all
 subst b;right;exact⟨c,0,g,by rw[d],(a.lt c rfl).2,λf h=>by rw[vg];exact jN a f VC⟩
theorem Sl.I{k w w' v zs}(a:Sl k w v zs)(b:qa3 w w'):Sl k w' v zs:=by
 obtain a|⟨f,g,h,i,c,j⟩:=a
 ·exact .inl a
 exact .inr ⟨f,g,h,i,vh c b.size,λd e=>(b.U c).R (j d e)⟩
def yE{P ops rest d a w Q}(f:d.guard=none)(ty)(x y)(g:d.op= .store ty x y)
  (b) (c c') (t) (h:a.eval x= .pointer (qQ b 0)) (i:a.eval y= .agg c') (j:w.heap[b]?=O (V6 c t (0,0))) (k:(P.info? ty).map (·.size)=O c'.size) (l:c.size=c'.size) (m:c'.all (·.oneCell')=VR)
  (n:wpList P ops Q rest (a.put d.dst undef) (w.setRow b c')):wpList P ops Q (d::rest) a w:=
 wpList_plain f λ_ e=>by
  unfold Oper.wp execOp;simp only[g,h,i,Instr.storeAt,Instr.sureAddr,Vp,Sem.run_pure,Result.andThen_ok,run_storeVar_row w b t ty c c' j k l m];exact e _ _ n
def Er(a:V8)(o)(cs)(t):(VF (a.alloc o) (V6 cs t)).heap[N (Y a)+1]?=O (V6 cs t (0,0)):=by
 have b:=xJ (a.alloc o) (V6 cs t);rw[Qt]at b;exact b
def Pw(a:V8)(o)(cs)(t):((VF a (V6 cs t)).alloc o).heap[N (Y a)]?=O (V6 cs t (0,0)):=
 (((xF _ _).alloc lR o).block _ VT).R (xJ _ _)
section
open Go.Sort
def YX{P ops rest c a w Q}(e:c.guard=none)(ty)(x y)(f:c.op= .store ty x y)
  (b o) (cells) (g:a.eval x= .pointer (qQ b o)) (h:a.eval y= .agg cells)
  (ht:w.there b o cells.size) (i:(P.info? ty).map (·.size)=O cells.size) (j:cells.all (·.oneCell')=VR)
  (k:wpList P ops Q rest (a.put c.dst undef) (w.setCells b o cells.toList)):wpList P ops Q (c::rest) a w:=
 wpList_plain e λ_ d=>by
  unfold Oper.wp execOp;simp only[f,g,h,Instr.storeAt,Instr.sureAddr,Vp,Sem.run_pure,Result.andThen_ok,run_storeVar_mid w b o ty cells ht i j];exact d _ _ k
def Xi{F n P ops rest c a w Q}(f:c.guard=none)(ty)(x y)(d:c.op= .store ty x y)
  (b o) (cells) (g:a.eval x= .pointer (qQ b o)) (h:a.eval y= .agg cells)
  (ht:w.there b o cells.size) (i:(P.info? ty).map (·.size)=O cells.size) (j:cells.all (·.oneCell')=VR)
  (k:wpListIn F n P ops Q rest (a.put c.dst undef) (w.setCells b o cells.toList)):wpListIn F n P ops Q (c::rest) a w:=by
 refine wpListIn_plain f λl e=>?_
 unfold Oper.wpIn;refine⟨?_,?_⟩
 ·simp[Oper.about,d]
 rw[Oper.semAt_plain F _ _ (by simp_all)];simp only[execOp,d,g,h,Instr.storeAt,Instr.sureAddr,Vp,Sem.run_pure,Result.andThen_ok,run_storeVar_mid w b o ty cells ht i j];exact e _ _ k
def th{F n P ops md Q C fuel oi oj ok listed c a}(i j k)(l:C a)
  (m:wpListIn F n P ops (Exit.then (yM C F n P md ops Q fuel (listed.setIfInBounds i VR)) Q) [oi] c a) (o:wpListIn F n P ops (Exit.then (yM C F n P md ops Q fuel (listed.setIfInBounds j VR)) Q) [oj] c a) (p:wpListIn F n P ops (Exit.then (yM C F n P md ops Q fuel (listed.setIfInBounds k VR)) Q) [ok] c a)
  (q:ops[i]?=O oi:=by rfl) (r:ops[j]?=O oj:=by rfl) (s:ops[k]?=O ok:=by rfl) (t:(Region.ready md ops listed== [i,j,k])=VR:=by kernel_rfl):yM C F n P md ops Q (fuel+1) listed c a:=by
 have h:=by simpa using t
 have one:∀(d:Nat)(g:Oper),ops[d]?=O g->wpListIn F n P ops (Exit.then _ Q) [g] c a->wpOpIn F n P ops Q d (yM C F n P md ops Q fuel (listed.setIfInBounds d VR)) c a:=λd g e b=>by
  unfold wpListIn at b;unfold wpOpIn;simp only[e]
  split at b
  ·rename_i f;rw[xU f];exact Oper.wpIn_mono (λc a b=>b) (j8 b)
  rename_i f;rw[xK f];exact b
 refine⟨l,λb=>(by simp_all),λd e=>?_⟩;rw[h]at e;simp at e;obtain rfl|rfl|rfl:=e
 ·exact one _ _ q m
 ·exact one _ _ r o
 exact one _ _ s p
def Uh:Ki->Nat->Ki->Ki
 | a,_,[]=>a
 | a,b,c::d=>Uh (a.set b c) (b+1) d
def Es:∀(a b c),L a<=L c->Uh (b++c) (L b) a=b++a++c.drop (L a)
 | [],b,c,_=>by simp[Uh]
 | e::a,b,[],d=>by simp at d
 | e::a,b,f::c,d=>by
  simp only[Uh];rw[kE _ _ lR,Qj,Vn];have:=Es a (b++ [e]) c (by simpa using d);rw[xL,Vc,vB,Vs]at this;rw[this];simp
def ZE{base e size g cap n}:∀(c)(a)(d)(b:V8),b.ownsRow base e size (VZ (qQ g 0) n cap) n d->(b.setCells g a c).ownsRow base e size (VZ (qQ g 0) n cap) n (Uh d a c)/\b.grownBy (b.setCells g a c) (O g)
 | [],a,d,b,f=>⟨f,yW b _⟩
 | j::c,a,d,b,f=>by
  have h:=f.stored a j;have i:=ZE c (a+1) _ _ h.1;exact⟨i.1,zJ h.2 i.2⟩
end
def yQ:qa0->Int
 | [a]=>a
 | [a,b]=>(a-192)*64+b-128
 | [a,b,c]=>(a-224)*4096+(b-128)*64+c-128
 | [a,b,c,d]=>(a-240)*262144+(b-128)*4096+(c-128)*64+d-128
 | _=> -1
def zi(a:qa0):Bool:=decide (0<=yQ a/\ZJ (yQ a)=a)
def yY(q):zi q=VR↔0<=yQ q/\ZJ (yQ q)=q:=by unfold zi;simp
def bytes(a:qa0):Prop:=∀z∈a,0<=z/\z<=255
def W6{a}(d:0<=a):zi [a]=VR↔a<128:=by
 rw[yY];simp only[yQ];constructor
 ·rintro ⟨_,c⟩
  obtain b|b|b|b|b|b:=jH a
  ·rw[Zi b]at c;simp at c
  ·exact b.2
  ·rw[ZK b.1 b.2]at c;simp at c
  ·rw[yH b.1 VC (.inl b.2)]at c;simp at c
  ·rw[yH VC b.2 (.inr b.1)]at c;simp at c
  rw[jw b.1 b.2]at c;simp at c
 intro c;exact⟨d,Zj d c⟩
def W7{a b}(i:0<=a/\a<=255)(j:0<=b/\b<=255):zi [a,b]=VR↔(194<=a/\a<=223)/\(128<=b/\b<=191):=by
 rw[yY];simp only[yQ];generalize h:(a-192)*64+b-128=e;constructor
 ·rintro ⟨k,d⟩
  obtain c|c|c|c|c|c:=jH e
  ·omega
  ·rw[Zj c.1 c.2]at d;simp at d
  ·rw[ZK c.1 c.2]at d;simp at d;omega
  ·rw[yH c.1 VC (.inl c.2)]at d;simp at d
  ·omega
  omega
 intro d;refine⟨VC,?_⟩;rw[ZK VC VC];have f:192+e/64=a:=VC
 have g:128+e%64=b:=VC
 rw[f,g]
def KM{a b c}(k:0<=a/\a<=255)(l:0<=b/\b<=255)(m:0<=c/\c<=255):zi [a,b,c]=VR↔
  ((a=224/\160<=b/\b<=191)\/(a=237/\128<=b/\b<=159)\/((225<=a/\a<=236\/a=238\/a=239)/\128<=b/\b<=191))/\(128<=c/\c<=191):=by
 rw[yY];simp only[yQ];generalize j:(a-224)*4096+(b-128)*64+c-128=f;constructor
 ·rintro ⟨n,e⟩
  obtain d|d|d|d|d|d:=jH f
  ·rw[Zi d]at e;simp at e;omega
  ·rw[Zj d.1 d.2]at e;simp at e
  ·rw[ZK d.1 d.2]at e;simp at e
  ·rw[yH d.1 VC (.inl d.2)]at e;simp at e;omega
  ·rw[yH VC d.2 (.inr d.1)]at e;simp at e;omega
  rw[jw d.1 d.2]at e;simp at e
 intro e;refine⟨VC,?_⟩;rw[yH VC VC VC];have g:224+f/4096=a:=VC
 have h:128+f/64%64=b:=VC
 have i:128+f%64=c:=VC
 rw[g,h,i]
def KO{a b c d}(m:0<=a/\a<=255)(n:0<=b/\b<=255)(o:0<=c/\c<=255)(p:0<=d/\d<=255):zi [a,b,c,d]=VR↔
  ((a=240/\144<=b/\b<=191)\/(a=244/\128<=b/\b<=143)\/(241<=a/\a<=243/\128<=b/\b<=191))/\(128<=c/\c<=191)/\(128<=d/\d<=191):=by
 rw[yY];simp only[yQ];generalize l:(a-240)*262144+(b-128)*4096+(c-128)*64+d-128=g;constructor
 ·rintro ⟨q,f⟩
  obtain e|e|e|e|e|e:=jH g
  ·rw[Zi e]at f;simp at f
  ·rw[Zj e.1 e.2]at f;simp at f
  ·rw[ZK e.1 e.2]at f;simp at f
  ·rw[yH e.1 VC (.inl e.2)]at f;simp at f
  ·rw[yH VC e.2 (.inr e.1)]at f;simp at f
  rw[jw e.1 e.2]at f;simp at f;omega
 intro f;refine⟨VC,?_⟩;rw[jw VC VC];have h:240+g/262144=a:=VC
 have i:128+g/4096%64=b:=VC
 have j:128+g/64%64=c:=VC
 have k:128+g%64=d:=VC
 rw[h,i,j,k]
def YS(a b:Int):Prop:=(a=224/\160<=b/\b<=191)\/(a=237/\128<=b/\b<=159)\/((225<=a/\a<=236\/a=238\/a=239)/\128<=b/\b<=191)
def Xa(b a:Int):Prop:=(b=240/\144<=a/\a<=191)\/(b=244/\128<=a/\a<=143)\/(241<=b/\b<=243/\128<=a/\a<=191)
instance (a b:Int):Decidable (YS a b):=by unfold YS;infer_instance
instance (a b:Int):Decidable (Xa a b):=by unfold Xa;infer_instance
def step:qa0->Int×Nat
 | []=>(65533,1)
 | [a]=>if a<128 then(a,1)else(65533,1)
 | [a,b]=>if a<128 then(a,1)else if(194<=a/\a<=223)/\128<=b/\b<=191 then(yQ [a,b],2)else if YS a b\/Xa a b then(65533,2)else(65533,1)
 | [a,b,c]=>if a<128 then(a,1)else if(194<=a/\a<=223)/\128<=b/\b<=191 then(yQ [a,b],2)
   else if YS a b then(if 128<=c/\c<=191 then(yQ [a,b,c],3)else(65533,2))
   else if Xa a b then(if 128<=c/\c<=191 then(65533,3)else(65533,2))else(65533,1)
 | a::b::c::d::_=>if a<128 then(a,1)else if(194<=a/\a<=223)/\128<=b/\b<=191 then(yQ [a,b],2)
   else if YS a b then(if 128<=c/\c<=191 then(yQ [a,b,c],3)else(65533,2))
   else if Xa a b then(if 128<=c/\c<=191 then(if 128<=d/\d<=191 then(yQ [a,b,c,d],4)else(65533,3))else(65533,2))else(65533,1)
def shape{c:qa0}(g:c≠ []):(∃a,c= [a])\/(∃a b,c= [a,b])\/(∃a b d,c= [a,b,d])\/∃a b d e f,c=a::b::d::e::f:=by
 match c,g with
 | [a],_=>simp
 | [a,b],_=>simp
 | [a,b,d],_=>simp
 | a::b::d::e::f,_=>simp
def WC(bs)(c:bs≠ []):1<=(step bs).2/\(step bs).2<=L bs:=by
 obtain⟨a,rfl⟩|⟨a,b,rfl⟩|⟨a,b,d,rfl⟩|⟨a,b,d,e,f,rfl⟩:=shape c
 all_goals
  simp only[step]
  repeat' split
  all_goals simp
def Xj(a:qa0)(b:Nat)(c:Int):qa0:=
 let w:=if L a=1 then a++ [c]else a
 w++List.replicate (b-L w) 128
def ZY(c:qa0):Prop:=∃(b:Nat)(a:Int),L c<b/\b<=4/\128<=a/\a<192/\(1<L c->a=128)/\zi (Xj c b a)=VR
def beg1{a}(b:0<=a/\a<=255):ZY [a]↔194<=a/\a<=244:=by
 constructor
 ·rintro ⟨e,c,g,i,h,k,-,f⟩
  have ht:e=2\/e=3\/e=4:=(by simp at g;omega);obtain rfl|rfl|rfl:=ht
  ·have d:Xj [a] 2 c= [a,c]:=rfl
   rw[d,W7 b VC]at f;omega
  ·have d:Xj [a] 3 c= [a,c,128]:=rfl
   rw[d,KM b VC VC]at f;omega
  have d:Xj [a] 4 c= [a,c,128,128]:=rfl;rw[d,KO b VC VC VC]at f;omega
 intro j;by_cases g:a<=223
 ·exact⟨2,128,VT,VC,VC,VC,VT,by rw[show Xj [a] 2 128= [a,128]from rfl,W7 b VC];omega⟩
 by_cases i:a<=239
 ·by_cases h:a=224
  ·exact⟨3,160,VT,VC,VC,VC,VT,by rw[show Xj [a] 3 160= [a,160,128]from rfl,KM b VC VC];omega⟩
  exact⟨3,128,VT,VC,VC,VC,VT,by rw[show Xj [a] 3 128= [a,128,128]from rfl,KM b VC VC];omega⟩
 by_cases h:a=240
 ·exact⟨4,144,VT,VC,VC,VC,VT,by rw[show Xj [a] 4 144= [a,144,128,128]from rfl,KO b VC VC VC];omega⟩
 exact⟨4,128,VT,VC,VC,VC,VT,by rw[show Xj [a] 4 128= [a,128,128,128]from rfl,KO b VC VC VC];omega⟩
def MT{a b}(c:0<=a/\a<=255)(d:0<=b/\b<=255):ZY [a,b]↔YS a b\/Xa a b:=by
 unfold YS Xa;constructor
 ·rintro ⟨e,f,h,j,k,l,-,g⟩
  have ht:e=3\/e=4:=(by simp at h;omega);obtain rfl|rfl:=ht
  ·rw[show Xj _ 3 f= [a,b,128]from rfl,KM c d VC]at g;omega
  rw[show Xj _ 4 f= [a,b,128,128]from rfl,KO c d VC VC]at g;omega
 rintro (i | i)
 ·exact⟨3,128,VT,VC,VC,VC,VT,by rw[show Xj _ 3 128= [a,b,128]from rfl,KM c d VC];omega⟩
 exact⟨4,128,VT,VC,VC,VC,VT,by rw[show Xj _ 4 128= [a,b,128,128]from rfl,KO c d VC VC];omega⟩
def zBo{a b c}(d:0<=a/\a<=255)(e:0<=b/\b<=255)(f:0<=c/\c<=255):ZY [a,b,c]↔Xa a b/\128<=c/\c<=191:=by
 unfold Xa;constructor
 ·rintro ⟨g,h,i,k,l,m,-,j⟩
  have ht:g=4:=(by simp at i;omega);subst ht;rw[show Xj _ 4 h= [a,b,c,128]from rfl,KO d e f VC]at j;omega
 rintro n;exact⟨4,128,VT,VC,VC,VC,VT,by rw[show Xj _ 4 128= [a,b,c,128]from rfl,KO d e f VC];omega⟩
def MU{bs}(g:bytes bs){k}(v:1<=k)(w:k<=4)(l:k<=L bs)(c:zi (bs.take k)=VR)(t:∀p,1<=p->p<k->zi (bs.take p)=VP):step bs=(yQ (bs.take k),k):=by
 have o:k=1\/k=2\/k=3\/k=4:=VC
 have q:bs≠ []:=by rintro rfl;simp at l;omega
 obtain⟨a,rfl⟩|⟨a,b,rfl⟩|⟨a,b,e,rfl⟩|⟨a,b,e,i,n,rfl⟩:=shape q
 ·have d:=g a VT
  obtain rfl:k=1:=(by simp at l;omega);rw[show [a].take 1= [a]from rfl,W6 d.1]at c;simp[step,c,yQ]
 ·have d:=g a VT
  have h:=g b VT;obtain rfl|rfl|rfl|rfl:=o
  ·rw[show [a,b].take 1= [a]from rfl,W6 d.1]at c
   simp[step,c,yQ]
  ·have u:=t 1 VC VC
   rw[show [a,b].take 2= [a,b]from rfl,W7 d h]at c;have f:¬a<128:=VC;simp only[step,xK f,xU c];rfl
  ·simp at l
  simp at l
 ·have d:=g a VT
  have h:=g b VT;have m:=g e VT;obtain rfl|rfl|rfl|rfl:=o
  ·rw[show [a,b,e].take 1= [a]from rfl,W6 d.1]at c
   simp[step,c,yQ]
  ·rw[show [a,b,e].take 2= [a,b]from rfl,W7 d h]at c
   have f:¬a<128:=VC;simp only[step,xK f,xU c];rfl
  ·rw[show [a,b,e].take 3= [a,b,e]from rfl,KM d h m]at c
   have f:¬a<128:=VC;have j:¬ ((194<=a/\a<=223)/\128<=b/\b<=191):=VC;simp only[step,xK f,xK j];rw[xU (show YS a b from c.1),xU c.2];rfl
  simp at l
 have d:=g a VT;have h:=g b VT;have m:=g e VT;have r:=g i VT;obtain rfl|rfl|rfl|rfl:=o
 ·rw[show(a::b::e::i::n).take 1= [a]from rfl,W6 d.1]at c
  simp[step,c,yQ]
 ·rw[show(a::b::e::i::n).take 2= [a,b]from rfl,W7 d h]at c
  have f:¬a<128:=VC;simp only[step,xK f,xU c];rfl
 ·rw[show(a::b::e::i::n).take 3= [a,b,e]from rfl,KM d h m]at c
  have f:¬a<128:=VC;have j:¬ ((194<=a/\a<=223)/\128<=b/\b<=191):=VC;simp only[step,xK f,xK j];rw[xU (show YS a b from c.1),xU c.2];rfl
 rw[show(a::b::e::i::n).take 4= [a,b,e,i]from rfl,KO d h m r]at c;have f:¬a<128:=VC
 have j:¬ ((194<=a/\a<=223)/\128<=b/\b<=191):=VC
 have s:¬YS a b:=by unfold YS;omega
 simp only[step,xK f,xK j,xK s];rw[xU (show Xa a b from c.1),xU c.2.1,xU c.2.2];rfl
def Dw{bs}(k:bytes bs)(D:bs≠ [])(l:∀v,1<=v->v<=4->v<=L bs->zi (bs.take v)=VP)
  {m} (F:1<=m) (G:m<=3) (A:m<=L bs) (d:m=1\/ZY (bs.take m)) (u:∀w,m<w->w<=3->w<=L bs->¬ZY (bs.take w)):step bs=(65533,m):=by
 have x:m=1\/m=2\/m=3:=VC
 obtain⟨a,rfl⟩|⟨a,b,rfl⟩|⟨a,b,c,rfl⟩|⟨a,b,c,h,p,rfl⟩:=shape D
 ·have e:=k a VT
  obtain rfl:m=1:=(by simp at A;omega);have i:=l 1 VC VC VT;have q:¬a<128:=λf=>by rw[show [a].take 1= [a]from rfl,(W6 e.1).2 f]at i;cases i
  simp[step,q]
 ·have e:=k a VT
  have g:=k b VT;have i:=l 1 VC VC VT;have n:=l 2 VC VC VT;have q:¬a<128:=λf=>by rw[show [a,b].take 1= [a]from rfl,(W6 e.1).2 f]at i;cases i
  have r:¬ ((194<=a/\a<=223)/\128<=b/\b<=191):=λf=>by rw[show [a,b].take 2= [a,b]from rfl,(W7 e g).2 f]at n;cases n
  simp only[step,xK q,xK r];obtain rfl|rfl|rfl:=x
  ·have j:=u 2 VC VC VT
   rw[show [a,b].take 2= [a,b]from rfl,MT e g]at j;rw[xK j]
  ·obtain d|d:=d
   ·omega
   rw[show [a,b].take 2= [a,b]from rfl,MT e g]at d;rw[xU d]
  simp at A
 ·have e:=k a VT
  have g:=k b VT;have o:=k c VT;have i:=l 1 VC VC VT;have n:=l 2 VC VC VT;have s:=l 3 VC VC VT;have q:¬a<128:=λf=>by rw[show [a,b,c].take 1= [a]from rfl,(W6 e.1).2 f]at i;cases i
  have r:¬ ((194<=a/\a<=223)/\128<=b/\b<=191):=λf=>by rw[show [a,b,c].take 2= [a,b]from rfl,(W7 e g).2 f]at n;cases n
  have B:¬ (YS a b/\128<=c/\c<=191):=λf=>by rw[show [a,b,c].take 3= [a,b,c]from rfl,(KM e g o).2 f]at s;cases s
  simp only[step,xK q,xK r];obtain rfl|rfl|rfl:=x
  ·have j:=u 2 VC VC VT
   rw[show [a,b,c].take 2= [a,b]from rfl,MT e g]at j
   simp_all
  ·have j:=u 3 VC VC VT
   rw[show [a,b,c].take 3= [a,b,c]from rfl,zBo e g o]at j;obtain d|d:=d
   ·omega
   rw[show [a,b,c].take 2= [a,b]from rfl,MT e g]at d;by_cases t:YS a b
   ·simp_all
   simp_all
  obtain d|d:=d
  ·omega
  rw[show [a,b,c].take 3= [a,b,c]from rfl,zBo e g o]at d;have t:¬YS a b:=by have:=d.1;unfold Xa at this;unfold YS;omega
  simp_all
 have e:=k a VT;have g:=k b VT;have o:=k c VT;have C:=k h VT;have i:=l 1 VC VC VT;have n:=l 2 VC VC VT;have s:=l 3 VC VC VT;have y:=l 4 VC VC VT;have q:¬a<128:=λf=>by rw[show(a::b::c::h::p).take 1= [a]from rfl,(W6 e.1).2 f]at i;cases i
 have r:¬ ((194<=a/\a<=223)/\128<=b/\b<=191):=λf=>by rw[show(a::b::c::h::p).take 2= [a,b]from rfl,(W7 e g).2 f]at n;cases n
 have B:¬ (YS a b/\128<=c/\c<=191):=λf=>by rw[show(a::b::c::h::p).take 3= [a,b,c]from rfl,(KM e g o).2 f]at s;cases s
 have E:¬ (Xa a b/\(128<=c/\c<=191)/\128<=h/\h<=191):=λf=>by rw[show(a::b::c::h::p).take 4= [a,b,c,h]from rfl,(KO e g o C).2 f]at y;cases y
 simp only[step,xK q,xK r];obtain rfl|rfl|rfl:=x
 ·have j:=u 2 VC VC VT
  rw[show(a::b::c::h::p).take 2= [a,b]from rfl,MT e g]at j
  simp_all
 ·have j:=u 3 VC VC VT
  rw[show(a::b::c::h::p).take 3= [a,b,c]from rfl,zBo e g o]at j;obtain d|d:=d
  ·omega
  rw[show(a::b::c::h::p).take 2= [a,b]from rfl,MT e g]at d;by_cases t:YS a b
  ·simp_all
  have z:=d.resolve_left t;rw[xK t,xU z,xK (λf=>j ⟨z,f⟩)]
 obtain d|d:=d
 ·omega
 rw[show(a::b::c::h::p).take 3= [a,b,c]from rfl,zBo e g o]at d;have t:¬YS a b:=by have:=d.1;unfold Xa at this;unfold YS;omega
 simp_all
def yJ(a:qa0):qa0:=
 if h:a= []then []else(step a).1::yJ (a.drop (step a).2)
termination_by (L a)
decreasing_by
 have:=WC a h;rw[xZ];omega
def J6:yJ []= []:=by rw[yJ];simp
def Px{bs}(a:bs≠ []):yJ bs=(step bs).1::yJ (bs.drop (step bs).2):=by rw[yJ,dif_neg a]
def YB(bs):L (yJ bs)<=L bs:=by
 by_cases a:bs= []
 ·subst a;simp[J6]
 have c:=WC bs a;have b:=YB (bs.drop (step bs).2);rw[Px a];simp at b |-;omega
termination_by (L bs)
decreasing_by
 rw[xZ];omega
def numZ_le{bs}(d:bytes bs){k}(a:zi (bs.take k)=VR):0<=yQ (bs.take k)/\yQ (bs.take k)<=1114111:=by
 rw[yY]at a;refine⟨a.1,?_⟩;have b:=a.2;rcases jH (yQ (bs.take k))with c | c | c | c | c | c
 ·rw[Zi c]at b
  rw[<- b]at c |-;simp[yQ]
 all_goals omega
def Eu(c:qa0):ByteArray:=c.foldl (λa b=>a.push (UInt8.ofNat b.toNat)) ByteArray.empty
def Gd(b:qa0)(c:ByteArray):(b.foldl (λd a=>d.push (UInt8.ofNat a.toNat)) c).data.toList=c.data.toList++b.map λa=>UInt8.ofNat a.toNat:=by
 induction b generalizing c with
 | nil=>simp
 | cons a b e=>simp_all
def Ev(ns):(Eu ns).data.toList=ns.map λa=>UInt8.ofNat a.toNat:=by
 unfold Eu;rw[Gd];rfl
def map_inj{b a}(g:bytes b)(h:bytes a)(c:(b.map λd=>UInt8.ofNat d.toNat)=a.map λd=>UInt8.ofNat d.toNat):b=a:=by
 induction b generalizing a with
 | nil=>simp_all
 | cons i b l=>cases a with
  | nil=>simp at c
  | cons j a=>
   simp at c;have m:=g i VT;have n:=h j VT
   have k:i=j:=by
    have:=Qf UInt8.toNat c.1;simp at this;omega
   rw[k,l (λe f=>g e (by simp[f])) (λe f=>h e (by simp[f])) c.2]
def W8(a:ByteArray):a.toList=a.data.toList:=by
 exact ByteArray.toList_eq a
def RQ{xs ys}(c:bytes xs)(d:bytes ys):((Eu xs).toList==(Eu ys).toList)=decide (xs=ys):=by
 rw[W8,W8,Ev,Ev];by_cases a:xs=ys
 ·subst a;simp
 rw[decide_eq_false a,beq_eq_false_iff_ne];exact λb=>a (map_inj c d b)
def Dx{w v zs}(a:Rd .u8 w v zs)(g:0<L zs):(convert 42 9 v).run prog w= .ok (.string (Eu zs)) w:=by
 obtain⟨_,_,_,rfl⟩|⟨k,l,d,rfl,_,h⟩:=a
 ·simp at g
 rw[run_convert_bytes_string w 42 9 5 _ _ d underlying42 underlying5 underlying9];refine run_bytesToString w _ _ d zs ?_
 have e:=run_loadCells_list (P:=prog) (w:=w) _ (zs.map (Value.int .u8)) (λb j c=>by
  rw[zR];simp at c;obtain⟨m,i,rfl⟩:=c
  have f:b<L zs:=by
   obtain a|a:=kC b (L zs)
   ·exact a
   simp_all
  rw[h b f,vv,i];rfl)
 simpa using e
def Ui(xs ys)(v u)(w)(a:Rd .u8 w v xs)(b:Rd .u8 w u ys)(e:bytes xs)(f:bytes ys)(g:0<L xs)(h:0<L ys):
  VM prog 182 #[v,u] w λc d=>c=V5 (.bool (decide (xs=ys)))/\d=w:=by
 have i:=Dx a g;have j:=Dx b h;rw[<- RQ e f];generalize Eu xs=k at*;generalize Eu ys=l at*;clear a b;go_enter func182,ntmps182;go_wp2;go_ret;simp
def lcS(zs)(v)(k)(w)(p:Rd .i32 w v zs)(I:L zs<=8192)(J:k<=L zs):
  VM prog 106 #[v,qP k] w λg z=>g=V5 (.tuple #[qP (J9 zs k),qP (XM zs k)])/\z=w:=by
 obtain⟨h,i,rfl⟩:∃h i,v= .slice h (L zs) i:=by
  obtain⟨h,i,rfl,rfl⟩|⟨d,e,i,rfl,_⟩:=p
  ·simp
  simp
 have r:Hid (∀b<L zs,∃d e,h=O (V4 d e)/\VE w (V4 d (e+b))=O (.int _ (zs.getD b 0))):=zC (by
  intro b c;obtain⟨K,A,g,rfl⟩|⟨d,e,A,g,M,B⟩:=p
  ·simp at c
  cases g;exact⟨d,e,rfl,B b c⟩)
 have q:=zC (Oa zs);have s:=zC (λb c=>Ra zs b c);have t:=zC (λb c=>Rb zs b c);have u:=zC (λb c=>zC6 zs b c);clear p;generalize H:L zs=x at*;go_enter func106,ntmps106;go_wp2_with fail;go_loop [6,7,8] (λn o b=>∃a:Nat,a<=k/\b=qP a/\n=qP (J9 zs a)/\o=qP (XM zs a)) (λn o b=>k-(intOf b).toNat)
 case atStart=>exact⟨0,xY _,rfl,by rw[q.A.1],by rw[q.A.2]⟩
 obtain⟨a,P,rfl,rfl,rfl⟩:=hrel;have C:=u a VC;by_cases G:a<k
 ·obtain⟨d,e,rfl,Q⟩:=r a VC
  have j:=s a VC;have l:=t a VC;have D:(a:Int)<k:=VC;have E:(a:Int)<x:=VC;generalize zs.getD a 0=y at*;generalize J9 zs a=n at*;generalize XM zs a=o at*;by_cases m:y=10
  ·have f:=zC (j m)
   subst m;clear j l;go_wp2;go_round
   case rel=>exact⟨a+1,VC,VY,by rw[f.A.1],by rw[f.A.2]⟩
   simp[intOf];omega
  have f:=zC (l m);clear j l;go_wp2;go_round
  case rel=>exact⟨a+1,VC,VY,by rw[f.A.1],by rw[f.A.2]⟩
  simp[intOf];omega
 obtain rfl:a=k:=VC
 have F:¬ (a:Int)<a:=VC
 go_wp2;go_ret2;simp
def tA:qa0:=[0,194,224,225,237,238,240,241,244]
def tB:qa0:=[127,223,224,236,237,239,240,243,244]
def tC:qa0:=[0,128,160,128,128,128,144,128,128]
def tD:qa0:=[0,191,191,191,159,191,191,191,143]
def tE:qa0:=[1,2,3,3,3,3,4,4,4]
def tF:qa0:=[127,31,15,15,15,15,7,7,7]
def fA(a:Nat):Int:=tA.getD a 0
def fB(a:Nat):Int:=tB.getD a 0
def fC(a:Nat):Int:=tC.getD a 0
def fD(a:Nat):Int:=tD.getD a 0
def fE(a:Nat):Int:=tE.getD a 0
def fF(a:Nat):Int:=tF.getD a 0
def Zf(a:Nat):qa2:=#[.int .u8 (fA a),.int .u8 (fB a),.int .u8 (fC a),.int .u8 (fD a),qP (fE a),.int .u8 (fF a)]
def DH:qa2:=Zf 0++Zf 1++Zf 2++Zf 3++Zf 4++Zf 5++Zf 6++Zf 7++Zf 8
def zAa:qa2:=#[.int .u8 0,.int .u8 0,.int .u8 0,.int .u8 0,qP 0,.int .u8 0]
def idx0(w):(Instr.index 291 (.agg DH) (qP 0)).run prog w= .ok (.agg (Zf 0)) w:=VU
def idx1(w):(Instr.index 291 (.agg DH) (qP 1)).run prog w= .ok (.agg (Zf 1)) w:=VU
def idx2(w):(Instr.index 291 (.agg DH) (qP 2)).run prog w= .ok (.agg (Zf 2)) w:=VU
def idx3(w):(Instr.index 291 (.agg DH) (qP 3)).run prog w= .ok (.agg (Zf 3)) w:=VU
def idx4(w):(Instr.index 291 (.agg DH) (qP 4)).run prog w= .ok (.agg (Zf 4)) w:=VU
def idx5(w):(Instr.index 291 (.agg DH) (qP 5)).run prog w= .ok (.agg (Zf 5)) w:=VU
def idx6(w):(Instr.index 291 (.agg DH) (qP 6)).run prog w= .ok (.agg (Zf 6)) w:=VU
def idx7(w):(Instr.index 291 (.agg DH) (qP 7)).run prog w= .ok (.agg (Zf 7)) w:=VU
def idx8(w):(Instr.index 291 (.agg DH) (qP 8)).run prog w= .ok (.agg (Zf 8)) w:=VU
def idx(a:Nat)(c:a<9)(w):(Instr.index 291 (.agg DH) (qP a)).run prog w= .ok (.agg (Zf a)) w:=by
 have b:a=0\/a=1\/a=2\/a=3\/a=4\/a=5\/a=6\/a=7\/a=8:=VC
 obtain rfl|rfl|rfl|rfl|rfl|rfl|rfl|rfl|rfl:=b
 ·exact idx0 w
 ·exact idx1 w
 ·exact idx2 w
 ·exact idx3 w
 ·exact idx4 w
 ·exact idx5 w
 ·exact idx6 w
 ·exact idx7 w
 exact idx8 w
def Wj(a lo hi)(w)(d:lo<=a)(e:a<=hi):VM prog 199 #[.int .u8 a,.int .u8 lo,.int .u8 hi] w λb c=>b=V5 (.bool VR)/\c=w:=by
 go_enter func199,ntmps199;go_wp2;go_ret;simp
def Xq(a lo hi)(w)(b:¬ (lo<=a/\a<=hi)):VM prog 199 #[.int .u8 a,.int .u8 lo,.int .u8 hi] w λd e=>d=V5 (.bool VP)/\e=w:=by
 by_cases c:lo<=a
 ·have g:¬a<=hi:=λf=>b ⟨c,f⟩
  clear b;go_enter func199,ntmps199;go_wp2;go_ret;simp
 clear b;go_enter func199,ntmps199;go_wp2;go_ret;simp
def Wt(c:V8):Prop:=∃a b,c.heap[1]?=O (V6 DH a b)
def Wk:(∀(d)(e)(ae:e<9)(a)(p:Wt a)(D:fA e<=d/\d<=fB e)(j:∀b<e,¬ (fA b<=d/\d<=fB b)),VM prog 184 #[.int .u8 d] a λi C=>i=V5 (.tuple #[.agg (Zf e),.bool VR])/\qa3 a C)/\(∀(d)(a)(p:Wt a)(j:∀b<9,¬ (fA b<=d/\d<=fB b)),VM prog 184 #[.int .u8 d] a λi C=>i=V5 (.tuple #[.agg zAa,.bool VP])/\qa3 a C):=by
 refine⟨@λd e ae a p D j=>have n:=zC xN;?_,@λd a p j=>?_⟩
 all_goals
  obtain⟨M,P,Q⟩:=p
  have T:1<N (Y a):=by
   obtain R|R:=kC 1 (N (Y a))
   ·exact R
   simp_all
  have F:(VF a (V6 #[.int .u8 0,.int .u8 0,.int .u8 0,.int .u8 0,qP 0,.int .u8 0] 277)).heap[1]?=O (V6 DH M P):=by
   rw[kX _ _ _ T];exact Q
  have HG:=zC F;clear Q F;go_enter func184,ntmps184;go_wp2_with (refine wpList_load_row rfl 291 _ rfl 1 rfl M DH P _ HG underlying291 rfl VU ?_);generalize l:VF a (V6 _ 277)=m;have o:N (Y a)<N (Y m):=(by rw[<- l];simp);have q:m.heap[N (Y a)]?=O (V6 #[.int .u8 0,.int .u8 0,.int .u8 0,.int .u8 0,qP 0,.int .u8 0] 277 (0,0)):=(by rw[<- l];exact xJ _ _);have r:qa3 a m:=(by rw[<- l];exact(xF _ _).alloc lR _);have G:=zC q;have H:=zC r;have I:=zC j
  first
   |(revert n;intro n;have J:=zC D;clear l q r j D HG;go_loopw [7] (λg wr=>∃b:Nat,b<=e/\g=qP b/\qa3 m wr) (λg _=>9-(intOf g).toNat))
   |(clear l q r j HG;go_loopw [7] (λg wr=>∃b:Nat,b<=9/\g=qP b/\qa3 m wr) (λg _=>9-(intOf g).toNat))
  case atStart=>exact⟨0,xY _,rfl,xF _ _⟩
  first
   |(revert n;intro n;skip
     obtain⟨b,af,rfl,h⟩:=hrel;have U:(b:Int)<9:=VC;have s:=λE=>idx b VC E
     have k:Zf b= #[.int .u8 _,.int .u8 _,.int .u8 _,.int .u8 _,.int _ _,.int .u8 _]:=rfl;simp only[k]at s;have f:=zC h;have t:=h.size;clear h k;by_cases ad:b=e
     ·subst ad
      have c:=(f.block _ o).R G;have u:VE wr (V4 (N (Y a)) 0)=O (.int .u8 0):=(by rw[xH wr (N (Y a)) 0 _ _ _ c];rfl);have v:VE wr (V4 (N (Y a)) 1)=O (.int .u8 0):=(by rw[xH wr (N (Y a)) 1 _ _ _ c];rfl);have w:VE wr (V4 (N (Y a)) 2)=O (.int .u8 0):=(by rw[xH wr (N (Y a)) 2 _ _ _ c];rfl);have x:VE wr (V4 (N (Y a)) 3)=O (.int .u8 0):=(by rw[xH wr (N (Y a)) 3 _ _ _ c];rfl);have y:VE wr (V4 (N (Y a)) 4)=O (qP 0):=(by rw[xH wr (N (Y a)) 4 _ _ _ c];rfl);have z:VE wr (V4 (N (Y a)) 5)=O (.int .u8 0):=(by rw[xH wr (N (Y a)) 5 _ _ _ c];rfl);have V:=xW wr _ 0 _ _ c;have W:=xW wr _ 1 _ _ c;have X:=xW wr _ 2 _ _ c;have Z:=xW wr _ 3 _ _ c;have aa:=xW wr _ 4 _ _ c;have ab:=xW wr _ 5 _ _ c;have ac:N (Y a)<N (Y wr):=VC;clear c;go_wp2_with fail;refine(Wj d _ _ _ J.1 J.2).G ?_;rintro i S ⟨rfl,rfl⟩;go_wp2;have A:=zC (H.R (f.G (Qr o)));refine vE (by simp[results,go_sem,u,v,w,x,y,z,ac,Zf]) rfl ⟨rfl,?_⟩;exact((((((A.setCell lR _).setCell lR _).setCell lR _).setCell lR _).setCell lR _).setCell lR _).alloc VV _
     have B:=zC (I b VC);go_wp2_with fail;refine(Xq d _ _ _ B).G ?_;rintro i S ⟨rfl,rfl⟩;go_wp2;go_roundw
     case rel=>exact⟨b+1,VC,VY,f.alloc t _⟩
     simp[intOf];omega)
   |(skip
     obtain⟨b,af,rfl,h⟩:=hrel;have f:=zC h;have t:=h.size;clear h;by_cases K:b<9
     ·have U:(b:Int)<9:=VC
      have s:=λE=>idx b K E
      have k:Zf b= #[.int .u8 _,.int .u8 _,.int .u8 _,.int .u8 _,.int _ _,.int .u8 _]:=rfl;simp only[k]at s;clear k;have B:=zC (I b K);go_wp2_with fail;refine(Xq d _ _ _ B).G ?_;rintro i S ⟨rfl,rfl⟩;go_wp2;go_roundw
      case rel=>exact⟨b+1,VC,VY,f.alloc t _⟩
      simp[intOf];omega
     obtain rfl:b=9:=VC;have c:=(f.block _ o).R G;have u:VE wr (V4 (N (Y a)) 0)=O (.int .u8 0):=(by rw[xH wr (N (Y a)) 0 _ _ _ c];rfl);have v:VE wr (V4 (N (Y a)) 1)=O (.int .u8 0):=(by rw[xH wr (N (Y a)) 1 _ _ _ c];rfl);have w:VE wr (V4 (N (Y a)) 2)=O (.int .u8 0):=(by rw[xH wr (N (Y a)) 2 _ _ _ c];rfl);have x:VE wr (V4 (N (Y a)) 3)=O (.int .u8 0):=(by rw[xH wr (N (Y a)) 3 _ _ _ c];rfl);have y:VE wr (V4 (N (Y a)) 4)=O (qP 0):=(by rw[xH wr (N (Y a)) 4 _ _ _ c];rfl);have z:VE wr (V4 (N (Y a)) 5)=O (.int .u8 0):=(by rw[xH wr (N (Y a)) 5 _ _ _ c];rfl);have V:=xW wr _ 0 _ _ c;have W:=xW wr _ 1 _ _ c;have X:=xW wr _ 2 _ _ c;have Z:=xW wr _ 3 _ _ c;have aa:=xW wr _ 4 _ _ c;have ab:=xW wr _ 5 _ _ c;clear c;go_wp2;have A:=zC (H.R (f.G (Qr o)));refine vE (by simp[results,go_sem,u,v,w,x,y,z,zAa]) rfl ⟨rfl,?_⟩
     exact(((((A.setCell lR _).setCell lR _).setCell lR _).setCell lR _).setCell lR _).setCell lR _)
def IJ:=@Wk.1
def Fs:=@Wk.2
def inr(b c:Int)(d:Nat)(a:Int):Prop:=if d=1 then b<=a/\a<=c else 128<=a/\a<=191
def matched(r0 r1 lo c r5)(d:Nat)(bs)(v)(w)(U:Rd .u8 w v bs)(n:bs≠ [])(ai:bs.length<=1048576)(V:1<=d/\d<=4):
  VM prog 185 #[.agg #[.int .u8 r0,.int .u8 r1,.int .u8 lo,.int .u8 c,qP d,.int .u8 r5],v] w λj M=>∃g:Nat,j=V5 (qP g)/\1<=g/\g<=d/\(∀a,1<=a->a<g->a<bs.length/\inr lo c a (bs.getD a 0))/\(g=d\/(g<d/\(g=bs.length\/¬inr lo c g (bs.getD g 0))))/\g<=bs.length/\qa3 w M:=by
 have Z:=QF.2 n;obtain⟨_,_,_,j⟩|⟨o,B,aj,rfl,⟨W,ak,al⟩,p⟩:=U
 ·exact absurd j n
 have E:o<N (Y w):=kR w _ (p 0 W);obtain⟨am,an⟩:=V
 have t:∀a<bs.length,VE (VF w (V6 #[.int .u8 r0,.int .u8 r1,.int .u8 lo,.int .u8 c,qP d,.int .u8 r5] 277)) (V4 o (B+a))=O (.int .u8 (bs.getD a 0)):=λa c=>by
  rw[vJ _ _ (V4 o (B+a)) E];exact p a c
 have F:=zC t;have f:=zC ((xF (N (Y w)) w).alloc lR (V6 #[.int .u8 r0,.int .u8 r1,.int .u8 lo,.int .u8 c,qP d,.int .u8 r5] 277));have aa:VE (VF w (V6 #[.int .u8 r0,.int .u8 r1,.int .u8 lo,.int .u8 c,qP d,.int .u8 r5] 277)) (V4 (N (Y w)) 2)=O (.int .u8 lo):=VT
 have ab:VE (VF w (V6 #[.int .u8 r0,.int .u8 r1,.int .u8 lo,.int .u8 c,qP d,.int .u8 r5] 277)) (V4 (N (Y w)) 3)=O (.int .u8 c):=VT
 have ac:VE (VF w (V6 #[.int .u8 r0,.int .u8 r1,.int .u8 lo,.int .u8 c,qP d,.int .u8 r5] 277)) (V4 (N (Y w)) 4)=O (qP d):=VT
 clear p t n;go_enter func185,ntmps185;go_wp2_with fail;generalize VF w (V6 #[.int .u8 r0,.int .u8 r1,.int .u8 lo,.int .u8 c,qP d,.int .u8 r5] 277)=ae at*;go_quiet (fail);go_wp2_with fail;go_loop [5,6,7] (λP Q a=>∃(b:Nat)(L i:Int),1<=b/\b<=d/\b<=bs.length/\P= .int .u8 L/\Q= .int .u8 i/\a=qP b/\(∀e,(L<=e/\e<=i)↔inr lo c b e)/\(∀a,1<=a->a<b->a<bs.length/\inr lo c a (bs.getD a 0))) (λ_ _ a=>d-(intOf a).toNat)
 case atStart=>exact⟨1,lo,c,VC,VC,VC,rfl,rfl,rfl,(λe=>by rfl),λa af ag=>VC⟩
 obtain⟨b,L,i,q,r,s,rfl,rfl,rfl,C,D⟩:=hrel;have u:=zC C;have k:=zC D;clear C D;by_cases z:b<d
 ·by_cases m:b=bs.length
  ·have G:((b:Int)==bs.length)=VR:=VV
   have H:=zC m;clear m;go_wp2;go_ret;exact⟨b,rfl,q,r,k,.inr ⟨z,.inl H⟩,s,⟨f.os,f.tape,f.output,f.size,f.block⟩⟩
  have G:((b:Int)==bs.length)=VP:=VV;have x:b<bs.length:=VC;have I:=F b x;have ad:=zC (show ∀e,e=bs.getD b 0->(inr lo c b e↔inr lo c b (bs.getD b 0))from λe R=>by rw[R]);generalize A:bs.getD b 0=e at I;have y:=zC A;clear A m;by_cases h:L<=e/\e<=i
  ·go_wp2_with fail
   refine(Wj e L i _ h.1 h.2).G ?_;rintro j X ⟨rfl,rfl⟩;have l:=zC h;clear h;go_wp2;go_round
   case rel=>
    have J:∀a,1<=a->a<b+1->a<bs.length/\inr lo c a (bs.getD a 0):=λa S ah=>by
     by_cases K:a=b
     ·subst K;exact⟨x,by rw[y.A];exact(u e).1 l⟩
     exact k a S VC
    exact⟨b+1,128,191,VC,VC,VC,rfl,rfl,VY,(λe=>by unfold inr;rw[xK VC]),J⟩
   simp[intOf];omega
  go_wp2_with fail;refine(Xq e L i _ h).G ?_;rintro j X ⟨rfl,rfl⟩;have l:=zC h;clear h;go_wp2;go_ret;exact⟨b,rfl,q,r,k,.inr ⟨z,.inr (by rw[y.A];exact λT=>l ((u e).2 T))⟩,s,⟨f.os,f.tape,f.output,f.size,f.block⟩⟩
 obtain rfl:b=d:=VC
 go_wp2;go_ret;exact⟨b,rfl,q,r,k,.inl rfl,s,⟨f.os,f.tape,f.output,f.size,f.block⟩⟩
def and127(a)(c:0<=a)(e:a<=127):bits .and .u8 a 127=a:=by
 obtain⟨b,rfl⟩:=QY c;have:=u8_and_nat b 127 VC VC;rw[show 127=((127:Nat):Int)from rfl,this];have d:b&&&127=b%128:=Nat.and_two_pow_sub_one_eq_mod b 7;omega
def IK(r0 r1 r2 r3 a)(n cap b0 off)(w)(j:b0<N (Y w))(u:1<=n)(v:n<=cap)(k:cap<=VL)(l:0<=a/\a<=127)
  (c:VE w (V4 b0 off)=O (.int .u8 a)):
  VM prog 186 #[.agg #[.int .u8 r0,.int .u8 r1,.int .u8 r2,.int .u8 r3,qP 1,.int .u8 127],VZ (qQ b0 off) n cap] w λh i=>h=V5 (.int .i32 (yQ [a]))/\qa3 w i:=by
 unfold VL at k;obtain⟨m,o⟩:=l;have p:VE (VF w (V6 #[.int .u8 r0,.int .u8 r1,.int .u8 r2,.int .u8 r3,qP 1,.int .u8 127] 277)) (V4 b0 off)=O (.int .u8 a):=by rw[vJ _ _ (V4 b0 off) j];exact c
 clear c;have q:VE (VF w (V6 #[.int .u8 r0,.int .u8 r1,.int .u8 r2,.int .u8 r3,qP 1,.int .u8 127] 277)) (V4 (N (Y w)) 4)=O (qP 1):=VT
 have r:VE (VF w (V6 #[.int .u8 r0,.int .u8 r1,.int .u8 r2,.int .u8 r3,qP 1,.int .u8 127] 277)) (V4 (N (Y w)) 5)=O (.int .u8 127):=VT
 have b:=zC ((xF _ w).alloc lR (V6 #[.int .u8 r0,.int .u8 r1,.int .u8 r2,.int .u8 r3,qP 1,.int .u8 127] 277));have d:=zC (show yQ [a]=a from rfl);have s:=and127 a m o
 focus
  by_cases g:cap=1
  rotate_left;rotate_left
  all_goals
   first
    |(revert f;intro f;(have e:n=1:=by omega);subst g e)
    |(skip)
   go_enter func186,ntmps186;go_wp2_with fail;generalize w.alloc _=t at*;go_quiet (fail);go_wp2_with fail;refine vI 1 ?_;rw[ve];go_wp2;go_ret;exact⟨by rw[d.A];rfl,⟨b.os,b.tape,b.output,b.size,b.block⟩⟩
def IO(r0 r1 r2 r3 a b)(n cap b0 off)(w)(d:b0<N (Y w))(t:2<=n)(u:n<=cap)(j:cap<=VL)(k:194<=a/\a<=223)(l:128<=b/\b<=191)
  (e:VE w (V4 b0 off)=O (.int .u8 a)) (f:VE w (V4 b0 (off+1))=O (.int .u8 b)):
  VM prog 186 #[.agg #[.int .u8 r0,.int .u8 r1,.int .u8 r2,.int .u8 r3,qP 2,.int .u8 31],VZ (qQ b0 off) n cap] w λh i=>h=V5 (.int .i32 (yQ [a,b]))/\qa3 w i:=by
 unfold VL at j;obtain⟨v,x⟩:=k;obtain⟨y,z⟩:=l;have m:VE (VF w (V6 #[.int .u8 r0,.int .u8 r1,.int .u8 r2,.int .u8 r3,qP 2,.int .u8 31] 277)) (V4 b0 off)=O (.int .u8 a):=by rw[vJ _ _ (V4 b0 off) d];exact e
 clear e;have o:VE (VF w (V6 #[.int .u8 r0,.int .u8 r1,.int .u8 r2,.int .u8 r3,qP 2,.int .u8 31] 277)) (V4 b0 (off+1))=O (.int .u8 b):=by rw[vJ _ _ (V4 b0 (off+1)) d];exact f
 clear f;have p:VE (VF w (V6 #[.int .u8 r0,.int .u8 r1,.int .u8 r2,.int .u8 r3,qP 2,.int .u8 31] 277)) (V4 (N (Y w)) 4)=O (qP 2):=VT
 have q:VE (VF w (V6 #[.int .u8 r0,.int .u8 r1,.int .u8 r2,.int .u8 r3,qP 2,.int .u8 31] 277)) (V4 (N (Y w)) 5)=O (.int .u8 31):=VT
 have c:=zC ((xF _ w).alloc lR (V6 #[.int .u8 r0,.int .u8 r1,.int .u8 r2,.int .u8 r3,qP 2,.int .u8 31] 277));have g:=zC (show yQ [a,b]=(a%32)*64+b%64 by simp only[yQ];omega);have r:¬cap=1:=VC
 go_enter func186,ntmps186;go_wp2_with fail;generalize w.alloc _=s at*;go_quiet (fail);go_wp2_with fail;refine vI 2 ?_;rw[ve];go_wp2;rw[ve];go_wp2;go_ret;exact⟨by rw[g.A];rfl,⟨c.os,c.tape,c.output,c.size,c.block⟩⟩
def IP(r0 r1 r2 r3 a b c)(n cap b0 off)(w)(e:b0<N (Y w))(y:3<=n)(z:n<=cap)(l:cap<=VL)(m:224<=a/\a<=239)(o:128<=b/\b<=191)(p:128<=c/\c<=191)
  (f:VE w (V4 b0 off)=O (.int .u8 a)) (g:VE w (V4 b0 (off+1))=O (.int .u8 b)) (h:VE w (V4 b0 (off+2))=O (.int .u8 c)):
  VM prog 186 #[.agg #[.int .u8 r0,.int .u8 r1,.int .u8 r2,.int .u8 r3,qP 3,.int .u8 15],VZ (qQ b0 off) n cap] w λj k=>j=V5 (.int .i32 (yQ [a,b,c]))/\qa3 w k:=by
 unfold VL at l;obtain⟨A,B⟩:=m;obtain⟨C,D⟩:=o;obtain⟨E,F⟩:=p;have q:VE (VF w (V6 #[.int .u8 r0,.int .u8 r1,.int .u8 r2,.int .u8 r3,qP 3,.int .u8 15] 277)) (V4 b0 off)=O (.int .u8 a):=by rw[vJ _ _ (V4 b0 off) e];exact f
 clear f;have r:VE (VF w (V6 #[.int .u8 r0,.int .u8 r1,.int .u8 r2,.int .u8 r3,qP 3,.int .u8 15] 277)) (V4 b0 (off+1))=O (.int .u8 b):=by rw[vJ _ _ (V4 b0 (off+1)) e];exact g
 clear g;have s:VE (VF w (V6 #[.int .u8 r0,.int .u8 r1,.int .u8 r2,.int .u8 r3,qP 3,.int .u8 15] 277)) (V4 b0 (off+2))=O (.int .u8 c):=by rw[vJ _ _ (V4 b0 (off+2)) e];exact h
 clear h;have t:VE (VF w (V6 #[.int .u8 r0,.int .u8 r1,.int .u8 r2,.int .u8 r3,qP 3,.int .u8 15] 277)) (V4 (N (Y w)) 4)=O (qP 3):=VT
 have u:VE (VF w (V6 #[.int .u8 r0,.int .u8 r1,.int .u8 r2,.int .u8 r3,qP 3,.int .u8 15] 277)) (V4 (N (Y w)) 5)=O (.int .u8 15):=VT
 have d:=zC ((xF _ w).alloc lR (V6 #[.int .u8 r0,.int .u8 r1,.int .u8 r2,.int .u8 r3,qP 3,.int .u8 15] 277));have i:=zC (show yQ [a,b,c]=((a%16)*64+b%64)*64+c%64 by simp only[yQ];omega);have v:¬cap=1:=VC
 go_enter func186,ntmps186;go_wp2_with fail;generalize w.alloc _=x at*;go_quiet (fail);go_wp2_with fail;refine vI 3 ?_;rw[ve];go_wp2;rw[ve];go_wp2;rw[ve];go_wp2;go_ret;exact⟨by rw[i.A];rfl,⟨d.os,d.tape,d.output,d.size,d.block⟩⟩
def IQ(r0 r1 r2 r3 a b c d)(n cap b0 off)(w)(f:b0<N (Y w))(C:4<=n)(D:n<=cap)(o:cap<=VL)(p:240<=a/\a<=244)(q:128<=b/\b<=191)(r:128<=c/\c<=191)(s:128<=d/\d<=191)
  (g:VE w (V4 b0 off)=O (.int .u8 a)) (h:VE w (V4 b0 (off+1))=O (.int .u8 b)) (i:VE w (V4 b0 (off+2))=O (.int .u8 c)) (j:VE w (V4 b0 (off+3))=O (.int .u8 d)):
  VM prog 186 #[.agg #[.int .u8 r0,.int .u8 r1,.int .u8 r2,.int .u8 r3,qP 4,.int .u8 7],VZ (qQ b0 off) n cap] w λl m=>l=V5 (.int .i32 (yQ [a,b,c,d]))/\qa3 w m:=by
 unfold VL at o;obtain⟨E,F⟩:=p;obtain⟨G,H⟩:=q;obtain⟨I,J⟩:=r;obtain⟨K,M⟩:=s;have t:VE (VF w (V6 #[.int .u8 r0,.int .u8 r1,.int .u8 r2,.int .u8 r3,qP 4,.int .u8 7] 277)) (V4 b0 off)=O (.int .u8 a):=by rw[vJ _ _ (V4 b0 off) f];exact g
 clear g;have u:VE (VF w (V6 #[.int .u8 r0,.int .u8 r1,.int .u8 r2,.int .u8 r3,qP 4,.int .u8 7] 277)) (V4 b0 (off+1))=O (.int .u8 b):=by rw[vJ _ _ (V4 b0 (off+1)) f];exact h
 clear h;have v:VE (VF w (V6 #[.int .u8 r0,.int .u8 r1,.int .u8 r2,.int .u8 r3,qP 4,.int .u8 7] 277)) (V4 b0 (off+2))=O (.int .u8 c):=by rw[vJ _ _ (V4 b0 (off+2)) f];exact i
 clear i;have x:VE (VF w (V6 #[.int .u8 r0,.int .u8 r1,.int .u8 r2,.int .u8 r3,qP 4,.int .u8 7] 277)) (V4 b0 (off+3))=O (.int .u8 d):=by rw[vJ _ _ (V4 b0 (off+3)) f];exact j
 clear j;have y:VE (VF w (V6 #[.int .u8 r0,.int .u8 r1,.int .u8 r2,.int .u8 r3,qP 4,.int .u8 7] 277)) (V4 (N (Y w)) 4)=O (qP 4):=VT
 have z:VE (VF w (V6 #[.int .u8 r0,.int .u8 r1,.int .u8 r2,.int .u8 r3,qP 4,.int .u8 7] 277)) (V4 (N (Y w)) 5)=O (.int .u8 7):=VT
 have e:=zC ((xF _ w).alloc lR (V6 #[.int .u8 r0,.int .u8 r1,.int .u8 r2,.int .u8 r3,qP 4,.int .u8 7] 277));have k:=zC (show yQ [a,b,c,d]=(((a%8)*64+b%64)*64+c%64)*64+d%64 by simp only[yQ];omega);have A:¬cap=1:=VC
 go_enter func186,ntmps186;go_wp2_with fail;generalize w.alloc _=B at*;go_quiet (fail);go_wp2_with fail;refine vI 4 ?_;rw[ve];go_wp2;rw[ve];go_wp2;rw[ve];go_wp2;rw[ve];go_wp2;go_ret;exact⟨by rw[k.A];rfl,⟨e.os,e.tape,e.output,e.size,e.block⟩⟩
def zV{F n P ops rest d a w Q}(g:d.guard=none)(ty)(x y)(e:d.op= .store ty x y)
  (b) (c c') (t) (h:a.eval x= .pointer (qQ b 0)) (i:a.eval y= .agg c') (j:w.heap[b]?=O (V6 c t (0,0))) (k:(P.info? ty).map (·.size)=O c'.size) (l:c.size=c'.size) (m:c'.all (·.oneCell')=VR)
  (o:wpListIn F n P ops Q rest (a.put d.dst undef) (w.setRow b c')):wpListIn F n P ops Q (d::rest) a w:=by
 refine wpListIn_plain g λp f=>?_
 unfold Oper.wpIn;refine⟨?_,?_⟩
 ·simp[Oper.about,e]
 rw[Oper.semAt_plain F _ _ (by simp_all)];simp only[execOp,e,h,i,Instr.storeAt,Instr.sureAddr,Vp,Sem.run_pure,Result.andThen_ok,run_storeVar_row w b t ty c c' j k l m];exact f _ _ o
section
open Go.Extern.Stop Go.Stop Go.Extern
theorem Mz (msg2 msg) (n) (t) (old) (w) (hg:w.cell? ⟨0,0,none⟩=some (.iface 179 (.agg #[.pointer (some ⟨2,66,none⟩)]))) (ht0:w.cell? t=some old) (hf0:w.frozen? t=false):
  Calls prog 51 #[.iface 130 (.agg #[.string msg2,.iface 130 (.agg #[.string msg,.iface 109 (.int .i64 n)])]),.iface 111 (.pointer (some t))] w fun ev w'=>ev= .returned (.bool true)∧∃w0,Below w.heap.size w w0∧w'=w0.setCell t (.int .i64 n):=by
 have h31 := @kI prog 76 _ (fun args => ReflectliteValue.unpack (args.getD 0 (.tuple #[]))) func76 (by kernel_rfl) (by kernel_rfl) (by kernel_rfl) (by kernel_rfl);have h32 := @kI prog 77 _ (ReflectliteValue.methodAny (ReflectliteValue.valueError "reflectlite.Value.Type" 0) (fun t _ _ _ => ReflectliteType.toType t)) func77 (by kernel_rfl) (by kernel_rfl) (by kernel_rfl) (by kernel_rfl);have h33 := @kI prog 78 _ (ReflectliteValue.method (ReflectliteValue.valueError "reflectlite.Value.IsNil" 0) ReflectliteValue.isNil) func78 (by kernel_rfl) (by kernel_rfl) (by kernel_rfl) (by kernel_rfl);have h55 := @kI prog 234 _ (ReflectliteType.abiMethod fun t => do pure (.int .u8 (<- Rtype.kind t))) func234 (by kernel_rfl) (by kernel_rfl) (by kernel_rfl) (by kernel_rfl);have h67 := @kI prog 285 _ (ReflectliteType.method ReflectliteType.elem) func285 (by kernel_rfl) (by kernel_rfl) (by kernel_rfl) (by kernel_rfl);have h68 := @kI prog 286 _ (ReflectliteType.relation "Implements" ReflectliteType.implements_) func286 (by kernel_rfl) (by kernel_rfl) (by kernel_rfl) (by kernel_rfl);have h38 := @kI prog 95 _ ReflectliteType.typeOf func95 (by kernel_rfl) (by kernel_rfl) (by kernel_rfl) (by kernel_rfl);have h65 := @kI prog 283 _ (ReflectliteType.relation "AssignableTo" ReflectliteType.assignableTo) func283 (by kernel_rfl) (by kernel_rfl) (by kernel_rfl) (by kernel_rfl);have h39 := @kI prog 96 _ (ReflectliteValue.method (ReflectliteValue.valueError "reflectlite.Value.Elem" 0) ReflectliteValue.elem) func96 (by kernel_rfl) (by kernel_rfl) (by kernel_rfl) (by kernel_rfl);have h40 := @kI prog 97 _ ReflectliteValue.set func97 (by kernel_rfl) (by kernel_rfl) (by kernel_rfl) (by kernel_rfl);have tW := Tryz.typeOfW;have tF := Tryz.typeOfF;have mA := Tryz.qj;have aW := Tryz.qJ;have aF := Tryz.qH;have vF := Tryz.valueOfF;have vP := Tryz.valueOfP;have tP := Tryz.typeP;have mK := Tryz.methodKind;have mE := Tryz.methodElem;have mI := Tryz.qx;have mU := Tryz.qA;have nA := Tryz.noAs;have hU := Tryz.qF;have kP := Tryz.kindP;have kF := Tryz.kindF;have eP := Tryz.elemP;have iF := Tryz.qG
 have hlt:0<w.heap.size:=by
  rcases QA w.heap.size with h0 | h
  ·simp [World.cell?,h0]at hg
  exact h
 have n8:=Tryz.isNilP ⟨w.heap.size,0,none⟩ t ((w.alloc (.cells #[.pointer (some t)] 111)).alloc (.cells #[.pointer (some ⟨2,111,none⟩),.pointer (some ⟨w.heap.size,0,none⟩),.int .u64 150] 149)) (by simp)
 have hg2:((w.alloc (.cells #[.pointer (some t)] 111)).alloc (.cells #[.pointer (some ⟨2,111,none⟩),.pointer (some ⟨w.heap.size,0,none⟩),.int .u64 150] 149)).cell? ⟨0,0,none⟩=some (.iface 179 (.agg #[.pointer (some ⟨2,66,none⟩)])):=by
  rw [vJ _ _ ⟨0,0,none⟩ (by simp),vJ _ _ ⟨0,0,none⟩ hlt];exact hg
 have htl:=kR w t ht0
 have el:=fun o2 o3 o4 o5=>Tryz.elemVP ⟨w.heap.size,0,none⟩ t (((((w.alloc (.cells #[.pointer (some t)] 111)).alloc o2).alloc o3).alloc o4).alloc o5) (by
  rw [vJ _ _ ⟨w.heap.size,0,none⟩ (by simp;omega),vJ _ _ ⟨w.heap.size,0,none⟩ (by simp;omega),vJ _ _ ⟨w.heap.size,0,none⟩ (by simp;omega),vJ _ _ ⟨w.heap.size,0,none⟩ (by simp),Ql _ _ _ _ rfl];rfl)
 have st:=fun o1 o2 o3 o4 o5=>Tryz.setF t ⟨w.heap.size+1+1+1+1+1,0,none⟩ n old ((((((w.alloc o1).alloc o2).alloc o3).alloc o4).alloc o5).alloc (.cells #[.int .i64 n] 109))
  (by rw [Ql _ _ _ _ (by simp)];rfl)
  (by rw [vJ _ _ t (by simp;omega),vJ _ _ t (by simp;omega),vJ _ _ t (by simp;omega),vJ _ _ t (by simp;omega),vJ _ _ t (by simp;omega),vJ _ _ t htl];exact ht0)
  (by rw [Qi _ _ t (by simp;omega),Qi _ _ t (by simp;omega),Qi _ _ t (by simp;omega),Qi _ _ t (by simp;omega),Qi _ _ t (by simp;omega),Qi _ _ t (Nat.ne_of_lt htl)];exact hf0)
 go_enter func51,ntmps51;go_wp2;refine vI 3 ?_;rw [ve];go_wp2;rw [ve];go_wp2;rw [ve];go_wp2;go_ret;refine⟨rfl,_,?_,rfl⟩;exact((((((xF _ _).alloc lR _).alloc (by simp) _).alloc (by simp;omega) _).alloc (by simp;omega) _).alloc (by simp;omega) _).alloc (by simp;omega) _
def codeOf2(msg2 msg)(n)(w)(b:VE w (V4 0 0)=O (.iface 179 (.agg #[V3 2 66]))):
  VM prog 21 #[.iface 130 (.agg #[.string msg2,.iface 130 (.agg #[.string msg,.iface 109 (qP n)])])] w λj o=>j=V5 (qP n)/\qa3 w o:=by
 have k:0<N (Y w):=kR w _ b
 have d:VE (VF w (V6 #[qP 0] 109)) (V4 0 0)=O (.iface 179 (.agg #[V3 2 66])):=by
  rw[vJ _ _ (V4 0 0) k];exact b
 have e:VE (VF w (V6 #[qP 0] 109)) (V4 (N (Y w)) 0)=O (qP 0):=VT
 have f:(VF w (V6 #[qP 0] 109)).frozen? (V4 (N (Y w)) 0)=VP:=VT
 have l:=zC (Mz msg2 msg n _ _ _ d e f);clear d e f b;go_enter func21,ntmps21;go_wp2_with fail;refine l.G ?_;rintro j s ⟨rfl,a,c,rfl⟩;have g:=((xF _ _).alloc lR _).R (c.G VT);have h:Below _ w (a.setCell (V4 (N (Y w)) 0) (qP n)):=g.setCell lR _
 have i:VE a (V4 (N (Y w)) 0)=O (qP 0):=by
  rw[c.U (p:=(V4 (N (Y w)) 0)) VT];simp
 have q:(a.setCell _ _).cell? _=O (qP n):=World.cell?_setCell_same _ _ _ i;have m:=zC h;clear c g h i;generalize a.setCell _ _=r at*;go_wp2;go_ret;exact⟨rfl,m⟩
end
