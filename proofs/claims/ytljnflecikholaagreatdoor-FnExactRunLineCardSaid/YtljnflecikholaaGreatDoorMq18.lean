import Derived.Lib.Walk
import Derived.Lib.AppendZeros
import Derived.Test.YtljnflecikholaaGreatDoorMq16
set_option linter.all false
set_option maxRecDepth 100000
set_option maxHeartbeats 8000000
namespace Go.Proofs.YtljnflecikholaaGreatDoor
open Go Go.RowKit Go.Proofs.Tryz
def zd.repl{w lo e hi' vs us ls ms v u l m}(f:zd w lo e (vs++v::us) (ls++l::ms))(C:vs.length=ls.length)(D:jU w lo u m)(t:∀b,u.ownBlock=some b->e<=b)(A:bel hi' u)(B:e<=hi'):zd w lo hi' (vs++u::us) (ls++m::ms):=by
 have g:∀(a:Nat)c,(vs++u::us)[a]?=some c->(a=vs.length/\c=u)\/(a≠vs.length/\(vs++v::us)[a]?=some c):=by
  intro a c d;by_cases e:a=vs.length
  ·simp_all
  refine .inr ⟨e,?_⟩;rcases vV a vs.length with b | b
  ·rw[xW b]at d |-;exact d
  rw[vb b]at d |-;obtain⟨i,q⟩:∃i,a-vs.length=i+1:=⟨a-vs.length-1,qF⟩
  rw[q]at d |-;simpa using d
 refine⟨by have:=f.len;simp at *;exact this,?_,?_,?_⟩
 ·intro a c x d h
  rcases g a c d with ⟨rfl,rfl⟩ | ⟨e,r⟩
  ·simp_all
  refine f.own a c x r ?_;rcases vV a ls.length with b | b
  ·rw[xW b]at h |-;exact h
  rw[vb b]at h |-;obtain⟨i,q⟩:∃i,a-ls.length=i+1:=⟨a-ls.length-1,qF⟩
  rw[q]at h |-;simpa using h
 ·intro c d
  obtain⟨a,e⟩:=kH d;rcases g a c e with ⟨_,rfl⟩ | ⟨_,r⟩
  ·exact A
  exact yW (f.bl c (xH r)) B
 intro a k n c b y z d o p;rcases g a n z with ⟨s,rfl⟩ | ⟨_,s⟩
 ·rcases g k c d with ⟨j,rfl⟩ | ⟨_,j⟩
  ·omega
  have:=f.bl c (xH j) b p;have:=t b o;omega
 rcases g k c d with ⟨j,rfl⟩ | ⟨_,j⟩
 ·have:=f.bl n (xH s) b o
  have:=t b p;omega
 exact f.ne a k n c b y s j o p
def yt.store{t w lo hi hi' g cap n vs us v u a b x l}(p c)(i:yt t w lo hi (qM (qD g 0) n cap) (vs++v::us) (a++x::b))(y:(a++x::b).length=n)(f:vs.length=a.length)(d:jU w lo u l)(H:∀c,u.ownBlock=some c->hi<=c)(I:bel hi' u)(z:hi<=hi')(J:t≠21):
  yt t (((w.setCell (qP g (a.length*3)) u).setCell (qP g (a.length*3+1)) (qC p)).setCell (qP g (a.length*3+2)) (qC c)) lo hi' (qM (qD g 0) n cap) (vs++u::us) (a++⟨l,p,c⟩::b)/\
  w.grownBy (((w.setCell (qP g (a.length*3)) u).setCell (qP g (a.length*3+1)) (qC p)).setCell (qP g (a.length*3+2)) (qC c)) (some g):=by
 have h:=i.row;rw[y]at h;have j:=h.stored (a.length*3) u;have k:=j.1.stored (a.length*3+1) (qC p);have m:=k.1.stored (a.length*3+2) (qC c);have o:=yq (yq j.2 k.2) m.2;refine⟨⟨?_,yW i.bl z,?_⟩,o⟩
 ·have q:=m.1
  have A:(a++(⟨l,p,c⟩)::b).length=n:=(by simpa using y);rw[A];rw[TU (g':=⟨l,p,c⟩) f]at q;exact q
 have r:=i.nest;simp at r |-;have e:=r.repl (by simpa using f) d H I z;refine⟨e.len,λB C D E F=>?_,e.bl,e.ne⟩;have d:=e.own B C D E F;exact zD d (λc s=>o.block c (d.lt c s).2 (λG=>zj d h (λf=>J f.symm) s G.symm))
def YJ:Gr:=⟨[],0,0⟩
def Du(n):(madeCells (Value.agg #[qN,qC 0,qC 0]).cells (n*3)).toList=zU (List.replicate n qN) (List.replicate n YJ):=by
 have b:(Value.agg #[qN,.int _ 0,qC 0]).cells= #[Value.slice none 0 0,qC 0,.int _ 0]:=rfl;rw[b];apply kZ;intro a;have e:(zU (List.replicate n qN) (List.replicate n YJ)).length=n*3:=by rw[yx qH];simp
 by_cases g:a<n*3
 ·have c:a/3<n:=qF
  have d:(zU (List.replicate n qN) (List.replicate n YJ))[a/3*3+a%3]? = [Value.slice none 0 0,.int _ YJ.lo,.int _ _][a%3]?:=ZV (by simp[c]) (by simp[c]) qF;rw[show a/3*3+a%3=a by omega]at d;rw[d];have f:a%3=0\/a%3=1\/a%3=2:=qF;rcases f with b | b | b<;>simp[madeCells,g,b,YJ]
 rw[vW (by simp[size_madeCells];omega),vW (by rw[e];omega)]
def zd.nils(w)(lo hi n):zd w lo hi (List.replicate n qN) ((List.replicate n YJ).map Gr.cells):=by
 refine⟨qH,?_,?_,?_⟩
 ·intro f d i b g
  have a:=xH b;have c:=xH g;rw[List.mem_replicate]at a;simp only[List.map_replicate,List.mem_replicate]at c;rw[a.2,c.2];exact xR _ _ _ _
 ·intro d b
  rw[List.mem_replicate]at b;rw[b.2];exact Xe _
 intro f j k d l _ h _ e;have a:=xH h;rw[List.mem_replicate]at a;rw[a.2]at e;simp[Value.ownBlock]at e
def El{vs gs}(a:vs.length=gs.length)(k)(b:k<=gs.length):zU vs gs=zU (vs.take k) (gs.take k)++zU (vs.drop k) (gs.drop k):=by
 rw[<- yy (by simp[a]),vy,vy]
def Pv{vs gs}(a:vs.length=gs.length)(k)(b:k<=gs.length):zU (vs.take k) (gs.take k)=(zU vs gs).take (k*3):=by
 rw[El a k b];have c:(zU (vs.take k) (gs.take k)).length=k*3:=by rw[yx (by simp[a])];simp[vu b]
 simp_all
def Pw{vs gs}(a:vs.length=gs.length)(k)(b:k<=gs.length):zU (vs.drop k) (gs.drop k)=(zU vs gs).drop (k*3):=by
 rw[El a k b];have c:(zU (vs.take k) (gs.take k)).length=k*3:=by rw[yx (by simp[a])];simp[vu b]
 simp_all
def JF{α:Type}(b c:Nat)(a:List α):List α:=a.take b++a.drop c
def JW{α a b i xs}{e:α}(g:a<=b)(h:b<=xs.length)(c:(JF a b xs)[i]?=some e):xs[if i<a then i else i-a+b]?=some e:=by
 unfold JF at c;have f:(xs.take a).length=a:=by rw[xi];omega
 by_cases d:i<a
 ·rw[xS d]
  rw[xW qF,vf,xS d]at c;exact c
 rw[xJ d];rw[vb qF,vJ,f]at c;rw[Nat.add_comm];exact c
def Xy{α a b}{c:List α}(d:a<=b)(e:b<=c.length):(JF a b c).length=a+(c.length-b):=by
 simp[JF];omega
def SD{α β}(c:α->β)(a b)(xs):(JF a b xs).map c=JF a b (xs.map c):=by simp[JF]
def zd.cut{w lo h a b vs ls}(g:zd w lo h vs ls)(c:a<=b)(d:b<=vs.length):zd w lo h (JF a b vs) (JF a b ls):=by
 have i:b<=ls.length:=by rw[<- g.len];exact d
 refine⟨by rw[Xy c d,Xy c i,g.len],?_,?_,?_⟩
 ·intro k e l f m
  exact g.own _ e l (JW c d f) (JW c i m)
 ·intro e f
  obtain⟨k,h⟩:=kH f;exact g.bl e (xH (JW c d h))
 intro k j n e o q p f;refine g.ne _ _ n e o ?_ (JW c d p) (JW c d f)
 split<;>split<;>omega
def yt.of{t' w lo hi v' vs gs}(a:zd w lo hi vs (gs.map Gr.cells))(b:w.ownsRow lo t' 3 v' gs.length (zU vs gs))(c:bel hi v'):yt t' w lo hi v' vs gs:=⟨b,c,a⟩
def ZS:qU->List Gr->List Fl
 | b::c,a::d=>(b,qC a.lo,qC a.hi)::ZS c d
 | _,_=>[]
def Y9:∀(b)(a),zU b a=jD (ZS b a)
 | [],a=>by cases a<;>rfl
 | c::b,[]=>rfl
 | c::b,d::a=>by simp only[zU,ZS,jD];rw[Y9 b a]
def ZT:∀{c a},c.length=a.length->(ZS c a).length=a.length
 | [],[],_=>rfl
 | [],d::a,b=>by simp at b
 | e::c,[],b=>by simp at b
 | e::c,d::a,b=>by simp only[ZS,vh]at *;rw[ZT qF]
def YQ:∀{e a c b},e.length=c.length->ZS (e++a) (c++b)=ZS e c++ZS a b
 | [],a,[],b,_=>rfl
 | [],a,f::c,b,d=>by simp at d
 | g::e,a,[],b,d=>by simp at d
 | g::e,a,f::c,b,d=>by
  simp only[vh]at d;simp only[vI,ZS];rw[YQ qF]
def Ya:∀{b c}(a),(ZS b c).take a=ZS (b.take a) (c.take a)
 | b,c,0=>by simp[ZS]
 | [],c,a+1=>by simp[ZS]
 | d::b,[],a+1=>by simp[ZS]
 | d::b,e::c,a+1=>by simp only[ZS,vc];rw[Ya a]
def Yb:∀{b c}(a),(ZS b c).drop a=ZS (b.drop a) (c.drop a)
 | b,c,0=>qH
 | [],c,a+1=>by simp[ZS]
 | d::b,[],a+1=>by
  simp[ZS]
 | d::b,e::c,a+1=>by simp only[ZS,vE];rw[Yb a]
def Xz:∀{c e},(∀b∈c,b.oneCell'=true)->yD (ZS c e)
 | [],e,_=>λd a=>by simp[ZS]at a
 | b::c,[],_=>λd a=>by simp[ZS]at a
 | b::c,i::e,f=>λd a=>by
  simp only[ZS,kS]at a;rcases a with rfl | a
  ·exact⟨f b qH,rfl,rfl⟩
  exact Xz (λg h=>f g (kM _ h)) d a
def trs_rep(a):ZS (List.replicate a qN) (List.replicate a YJ)=List.replicate a (qM none 0 0,qC 0,qC 0):=by
 induction a with
 | zero=>rfl
 | succ a b=>simp only[List.replicate_succ,ZS,b];rfl
def OJ{vs gs}(p N)(a:vs.length=gs.length):ze (qM none 0 0,qC 0,qC 0) (ZS vs gs) p N=ZS (ze qN vs p N) (ze YJ gs p N):=by
 unfold ze;rw[Ya,Yb,ZT a,a,YQ (by simp[a]),YQ qH,trs_rep]
def zd.app{w lo hi A B la lb}(j:zd w lo hi A la)(m:zd w lo hi B lb)(u:∀i∈A,∀c∈B,∀a,i.ownBlock=some a->c.ownBlock≠some a):zd w lo hi (A++B) (la++lb):=by
 have g:∀{n:Type}{f o:List n}{d:Nat}{k:n},(f++o)[d]?=some k->(d<f.length/\f[d]?=some k)\/(f.length<=d/\o[d-f.length]?=some k):=by
  intro n f o d k r;rcases vV d f.length with a | a
  ·rw[xW a]at r;simp_all
  rw[vb a]at r;simp_all
 refine⟨by simp[j.len,m.len],?_,?_,?_⟩
 ·intro d c s h t
  have v:=j.len;rcases g h with ⟨a,e⟩ | ⟨a,e⟩
  ·rcases g t with ⟨p,b⟩ | ⟨p,b⟩
   ·exact j.own d c s e b
   omega
  rcases g t with ⟨p,b⟩ | ⟨p,b⟩
  ·omega
  rw[<- v]at b;exact m.own _ c s e b
 ·intro c h
  rcases vD.1 h with a | a
  ·exact j.bl c a
  exact m.bl c a
 intro d x i c a y z h l;rcases g z with ⟨D,e⟩ | ⟨D,e⟩
 ·rcases g h with ⟨q,b⟩ | ⟨q,b⟩
  ·exact j.ne d x i c a y e b l
  exact u i (xH e) c (xH b) a l
 rcases g h with ⟨q,b⟩ | ⟨q,b⟩
 ·exact λC=>u c (xH b) i (xH e) a C l
 exact m.ne _ _ i c a qF e b l
def zd.take{w lo hi A la}(e:zd w lo hi A la)(n):zd w lo hi (A.take n) (la.take n):=by
 have c:∀{f:Type}{g:List f}{a:Nat}{h:f},(g.take n)[a]?=some h->g[a]?=some h:=by
  intro f g a h d;rw[vf]at d
  split at d
  ·exact d
  cases d
 exact⟨by simp[e.len],λa b k i j=>e.own a b k (c i) (c j),λb l=>e.bl b (vO l),λa m o b p q i j=>e.ne a m o b p q (c i) (c j)⟩
def zd.drop{w lo hi A la}(d:zd w lo hi A la)(n):zd w lo hi (A.drop n) (la.drop n):=by
 have c:∀{e:Type}{f:List e}{a:Nat}{g:e},(f.drop n)[a]?=some g->f[n+a]?=some g:=by
  intro e f a g j;rw[vJ]at j;exact j
 exact⟨by simp[d.len],λa b k h i=>d.own _ b k (c h) (c i),λb l=>d.bl b (vS l),λa p m b o q h i=>d.ne _ _ m b o qF (c h) (c i)⟩
def zd.parts{w lo a A la}(i:zd w lo a A la)(n m)(k:n<=m):∀c∈A.take n,∀d∈A.drop m,∀b,c.ownBlock=some b->d.ownBlock≠some b:=by
 intro c f d g b h;obtain⟨j,a⟩:=kH f;obtain⟨l,e⟩:=kH g;rw[vf]at a
 split at a
 ·rw[vJ]at e
  exact i.ne j _ c d b qF a e h
 cases a
def Jj(a:Nat)(w)(t:a<=1099511627776):
  Calls prog 91 #[qN,qC a] w λb e=>∃f,b=qQ f/\e.ownsRow w.heap.size 21 1 f 0 []/\qY w e:=by
 obtain⟨n,o,p,u,q⟩:=vw Tryz.qc;by_cases j:a=0
 ·subst j
  go_enter func91,ntmps91;go_wp2;go_ret;exact⟨_,rfl,xR _ _ _ _,xe _ _⟩
 have g:=λm=>Lib.run_append_nil_zeros w 48 3 m 21 n _ .i64 _ underlying48 underlying3 o p a qF qF qF (by rw[q];omega)
 have r:a<=grownCap w a 0 21:=grownCap_ge w _ _ _;have c:=grownCap_le_maxLen w a 0 21 qK
 have d:(Builtin.zeroCells (Value.int .i32 0).cells a++Builtin.zeroCells (Value.int .i32 0).cells (grownCap w a 0 21-a)).size=grownCap w a 0 21:=by
  have b:(Value.int .i32 0).cells= #[Value.int .i32 0]:=rfl;rw[b];simp[Builtin.zeroCells];omega
 generalize grownCap w a 0 21=k at *;generalize Builtin.zeroCells _ a++Builtin.zeroCells _ _=l at *;have h:=zC d;have i:=zC c;unfold maxLen at c;have s:(0:Int)<a:=qF
 clear d;go_enter func91,ntmps91;go_wp2_with (at_builtin;refine Lib.wpList_append_run _ rfl _ _ _ _ rfl _ _ rfl rfl _ _ (g _) ?_);go_ret;refine⟨_,rfl,?_,?_⟩
 ·refine⟨qH,.inr ⟨_,k,l,rfl,lR,?_,xK _,i,by rw[h.out,Qm],qH⟩⟩
  exact xI _ _
 exact((xe _ w).drew).alloc lR _
def U6(xs ys)(vs vt)(B)(w)(K:Sl .i32 w vs xs)(x:Sl .i32 w vt ys)(b:B<w.heap.size)(n:w.cell? (qP B 0)=some vs)(o:w.cell? (qP B 1)=some vt)(ac:xs.length<=1048576)(ad:ys.length<=1048576):
  Calls prog 73 #[qM (qD B 0) 2 2] w λv I=>∃J,v=qQ J/\I.ownsRow w.heap.size 21 1 J (xs++ys).length (zI .i32 (xs++ys))/\qY w I:=by
 obtain⟨g,h,y,z,A⟩:=vw Tryz.qc;have HS:=zC K;have HT:=zC x;rcases K with ⟨rfl,rfl⟩ | ⟨ae,af,T,rfl,_,_⟩
 ·focus
   rcases x with ⟨rfl,rfl⟩ | ⟨U,V,C,rfl,_,_⟩
   have D:=zC xB;rotate_left;have q:=zC xB;rotate_left
   all_goals
    skip;go_enter func73,ntmps73;go_wp2;refine xQ 3 ?_;rw[xG];go_wp2;rw[xG];go_wp2;rw[xG];go_wp2_with fail
    first
     |(revert q;intro q;(refine(Jj _ _ qF).mono ?_))
     |((refine(Jj 0 _ qF).mono ?_))
    rintro v W ⟨X,rfl,p,a⟩;have d:=zC p;have e:=zC a;have i:=a.size;have L:=(a.cell b).trans n;have M:=(a.cell b).trans o;clear p a;go_wp2_with fail;refine xQ 3 ?_;rw[xG];go_wp2_with (at_builtin;refine wpList_append_own_none rfl _ _ 48 rfl _ 21 g 1 underlying48 h _ _ _ rfl d rfl ?_);rw[xG]
    first
     |(revert q;intro q;have t:=zC (HT.below e |>.rd rfl);(go_wp2_with (at_builtin;refine xM _ rfl _ _ 48 rfl _ 21 g _ 1 4 underlying48 h y z A rfl qG _ _ _ rfl d _ _ C _ rfl (by rw[zG,Qm]) t (zJ _ _) qK qF i ?_;intro R S j k _));have u:=zC j;have c:=zC (e.grown k i (λl m=>(d.lt l m).1));have N:=c.size;have O:=(c.cell b).trans n;have P:=(c.cell b).trans o;clear j k;go_wp2)
     |(go_wp2_with (at_builtin;refine wpList_append_own_none rfl _ _ 48 rfl _ 21 g 1 underlying48 h _ _ _ rfl d rfl ?_))
    rw[xG];go_wp2;go_ret
    first
     |(revert D;intro D;(exact⟨_,rfl,by simpa[zI]using d.out,e⟩))
     |((exact⟨_,rfl,by simpa[zI]using u.out,c⟩))
 focus
  rcases x with ⟨rfl,rfl⟩ | ⟨U,V,C,rfl,_,_⟩
  have E:=zC xB;rotate_left;have r:=zC xB;rotate_left
  all_goals
   skip;go_enter func73,ntmps73;go_wp2;refine xQ 3 ?_;rw[xG];go_wp2;rw[xG];go_wp2;rw[xG];go_wp2_with fail
   first
    |(revert r;intro r;(rw[show xs.length+ys.length=((xs.length+ys.length:Nat):Int)by omega]);(refine(Jj _ _ qF).mono ?_))
    |((refine(Jj _ _ qF).mono ?_))
   rintro v W ⟨X,rfl,p,a⟩;have d:=zC p;have e:=zC a;have i:=a.size;have L:=(a.cell b).trans n;have M:=(a.cell b).trans o;clear p a;go_wp2_with fail;refine xQ 3 ?_;rw[xG];have Q:=zC (HS.below e |>.rd rfl);go_wp2_with (at_builtin;refine xM _ rfl _ _ 48 rfl _ 21 g _ 1 4 underlying48 h y z A rfl qG _ _ _ rfl d _ _ T _ rfl (by rw[zG,Qm]) Q (zJ _ _) qK qF i ?_;intro aa ab G H _);have s:=zC G;have f:=zC (e.grown H i (λl m=>(d.lt l m).1));have F:=f.size;have Y:=(f.cell b).trans n;have Z:=(f.cell b).trans o;clear G H;go_wp2;rw[xG]
   first
    |(revert r;intro r;have t:=zC (HT.below f |>.rd rfl);(go_wp2_with (at_builtin;refine xM _ rfl _ _ 48 rfl _ 21 g _ 1 4 underlying48 h y z A rfl qG _ _ _ rfl s _ _ C _ rfl (by rw[zG,Qm]) t (zJ _ _) qK qF F ?_;intro R S j k _));have u:=zC j;have c:=zC (f.grown k F (λl m=>(s.lt l m).1));have N:=c.size;have O:=(c.cell b).trans n;have P:=(c.cell b).trans o;clear j k;go_wp2)
    |(go_wp2_with (at_builtin;refine wpList_append_own_none rfl _ _ 48 rfl _ 21 g 1 underlying48 h _ _ _ rfl s rfl ?_))
   rw[xG];go_wp2;go_ret
   first
    |(revert E;intro E;(exact⟨_,rfl,by simpa[zI]using s.out,f⟩))
    |((exact⟨_,rfl,by simpa[zI]using u.out,c⟩))
def SI(B o g cap n)(an r s:qV)(l i F G a e b f:Nat)(d)(E:GC d B o (qM (qD g 0) n cap) l i)(ao:g<d.heap.size)(ap:l<=i)(aq:i<=n)(ar:n<=1048576)(au:n<=cap)(av:cap<=maxLen)(aw:F<=n)(ax:G<=n)
  (W:min (F:Int) l=a) (X:min (G:Int) l=e) (Y:max ((F:Int)+(i-l)) i=b) (Z:max ((G:Int)+(i-l)) i=f) (ay:a<=e) (az:e<=n) (a0:b<=f) (a1:f<=n)
  (aa:∀h q,qY d h->Sl .i32 h (qM (qD g a) (e-a) q) r) (ab:∀h q,qY d h->Sl .i32 h (qM (qD g b) (f-b) q) s) (ac:r.length=e-a) (ad:s.length=f-b):
  Calls prog 240 #[qO B o,qC F,qC G] d λN h=>∃V,N=qQ V/\h.ownsRow d.heap.size 21 1 V (r++s).length (zI .i32 (r++s))/\qY d h:=by
 have v:=zC (λd E=>Kg B o (qM (qD g 0) n cap) l i d E qF qF qF);have w:=zC E;obtain⟨ae,af,ag⟩:=E;have ah:=zC aa;have ai:=zC ab;have H:=zC ac;have x:=zC ad;have R:=zC (show e-a<=1048576 by omega);have S:=zC (show f-b<=1048576 by omega);clear aa ab ac ad;by_cases ak:cap=a
 ·by_cases L:cap=b
  ·obtain rfl:e=a:=qF
   obtain rfl:f=b:=qF;subst ak;subst L;go_enter func240,ntmps240;go_wp2;go_quiet (fail);have j:=zC (w.same (w':=d.drewN nq) rfl);have k:=zC (below_drewN (xe d.heap.size d) nq);have I:=k.size;obtain⟨O,P,Q⟩:=j.out;clear ae af ag w;generalize d.drewN nq=M at *;go_wp2;go_quiet ((go_at_call 250;exact Calls.quiet_of (v _ (j.same rfl))));have m:=zC (below_drewN k nq);have aj:=m.size;clear O P Q j k I v W X Y Z;generalize M.drewN nq=c at *;go_wp2_with fail;have p:=zC (m.alloc qF (qR #[qM (qD g 0) 0 0,qM (qD g 0) 0 0] 48));have y:(c.alloc (qR #[qM (qD g 0) 0 0,qM (qD g 0) 0 0] 48)).cell? (qP c.heap.size 0)=some (qM (qD g 0) 0 0):=qH;have z:(c.alloc (qR #[qM (qD g 0) 0 0,qM (qD g 0) 0 0] 48)).cell? (qP c.heap.size 1)=some (qM (qD g 0) 0 0):=qH;have S7:=zC ((Sl.empty (w:=c.alloc (qR #[qM (qD g 0) 0 0,qM (qD g 0) 0 0] 48)) (g:=g) (c:=0) qJ (by rw[H.out];omega)));have A:=zC ((Sl.empty (w:=c.alloc (qR #[qM (qD g 0) 0 0,qM (qD g 0) 0 0] 48)) (g:=g) (c:=0) qJ (by rw[x.out];omega)));have T:(c.alloc (qR #[qM (qD g 0) 0 0,qM (qD g 0) 0 0] 48)).heap.size=c.heap.size+1:=qH;generalize c.alloc _=D at *;refine(U6 r s _ _ _ D S7 A qF y z (by rw[H.out];exact R) (by rw[x.out];exact S)).mono ?_;rintro N al ⟨am,rfl,t,u⟩;have J:=zC (zF t (base':=d.heap.size) qF);have K:=zC (p.trans (u.mono qF));clear t u;go_wp2;go_ret;exact⟨_,rfl,J,K⟩
  exfalso;omega
 focus
  by_cases L:cap=b;have C:=zC xB;rotate_left;have U:=zC xB;rotate_left
  all_goals
   first | (revert C;intro C;(obtain rfl:f=b:=by omega);subst L) | skip
   go_enter func240,ntmps240;go_wp2;go_quiet (fail);have j:=zC (w.same (w':=d.drewN nq) rfl);have k:=zC (below_drewN (xe d.heap.size d) nq);have I:=k.size;obtain⟨O,P,Q⟩:=j.out;clear ae af ag w;generalize d.drewN nq=M at *;go_wp2;go_quiet ((go_at_call 250;exact Calls.quiet_of (v _ (j.same rfl))));have m:=zC (below_drewN k nq);have aj:=m.size;clear O P Q j k I v W X Y Z;generalize M.drewN nq=c at *;go_wp2_with fail
   first
    |(revert U;intro U;(have p:=zC (m.alloc qF (qR #[qM (qD g a) (e-a) (cap-a),qM (qD g b) (f-b) (cap-b)] 48)));(have y:(c.alloc (qR #[qM (qD g a) (e-a) (cap-a),qM (qD g b) (f-b) (cap-b)] 48)).cell? (qP c.heap.size 0)=some (qM (qD g a) (e-a) (cap-a)):=by simp);(have z:(c.alloc (qR #[qM (qD g a) (e-a) (cap-a),qM (qD g b) (f-b) (cap-b)] 48)).cell? (qP c.heap.size 1)=some (qM (qD g b) (f-b) (cap-b)):=by simp))
    |((have p:=zC (m.alloc qF (qR #[qM (qD g a) (e-a) (cap-a),qM (qD g 0) 0 0] 48)));(have y:(c.alloc (qR #[qM (qD g a) (e-a) (cap-a),qM (qD g 0) 0 0] 48)).cell? (qP c.heap.size 0)=some (qM (qD g a) (e-a) (cap-a)):=by simp);(have z:(c.alloc (qR #[qM (qD g a) (e-a) (cap-a),qM (qD g 0) 0 0] 48)).cell? (qP c.heap.size 1)=some (qM (qD g 0) 0 0):=by simp))
   have S7:=zC ((ah _ (cap-a) p))
   first
    |(revert C;intro C;(have A:=zC ((Sl.empty (w:=c.alloc (qR #[qM (qD g a) (e-a) (cap-a),qM (qD g 0) 0 0] 48)) (g:=g) (c:=0) qJ (by rw[x.out];omega))));(have T:(c.alloc (qR #[qM (qD g a) (e-a) (cap-a),qM (qD g 0) 0 0] 48)).heap.size=c.heap.size+1:=by simp);generalize c.alloc _=D at *)
    |(have A:=zC ((ai _ (cap-b) p));(have T:(c.alloc (qR #[qM (qD g a) (e-a) (cap-a),qM (qD g b) (f-b) (cap-b)] 48)).heap.size=c.heap.size+1:=by simp);generalize c.alloc _=D at *)
   refine(U6 r s _ _ _ D S7 A qF y z (by rw[H.out];exact R) (by rw[x.out];exact S)).mono ?_;rintro N al ⟨am,rfl,t,u⟩;have J:=zC (zF t (base':=d.heap.size) qF);have K:=zC (p.trans (u.mono qF));clear t u;go_wp2;go_ret;exact⟨_,rfl,J,K⟩
def readN(B o g cap)(zs)(c a b d:Nat)(w)(s:GC w B o (qM (qD g 0) zs.length cap) c a)(m:Cl w g zs)(f:g<w.heap.size)(i:c<=a)(j:a<=zs.length)(t:zs.length<=1048576)(u:zs.length<=cap)(v:cap<=maxLen)(x:b<=d)(y:d<=zs.length-(a-c)):
  Calls prog 240 #[qO B o,qC b,qC d] w λq h=>∃l,q=qQ l/\h.ownsRow w.heap.size 21 1 l (d-b) (zI .i32 (((zW zs c a).drop b).take (d-b)))/\qY w h:=by
 have n:=gread i j x (by rw[zP i j];exact y);have p:(((zW zs c a).drop b).take (d-b)).length=d-b:=by simp only[xi,xz,zP i j];omega
 have k:=SI B o g cap _ zs _ _ c a b d (min b c) (min d c) (max (b+(a-c)) a) (max (d+(a-c)) a) w s f i j t u v qF qF qF qF qF qF qF qF qF qF
  (λh r e=>(m.below e f).cut (ve f e.size) qF) (λh r e=>(m.below e f).cut (ve f e.size) qF)
  qJ qJ
 rw[n,p]at k;exact k
def readNil(B o)(a)(c:GC a B o qN 0 0):
  Calls prog 240 #[qO B o,qC 0,qC 0] a λj e=>∃k,j=qQ k/\e.ownsRow a.heap.size 21 1 k 0 (zI .i32 [])/\qY a e:=by
 have f:=zC (λa c=>Kg B o qN 0 0 a c qF qF qF);have g:=zC c;obtain⟨v,w,x⟩:=c;go_enter func240,ntmps240;go_wp2;go_quiet (fail);have d:=zC (g.same (w':=a.drewN nq) rfl);have h:=zC (below_drewN (xe a.heap.size a) nq);obtain⟨y,z,A⟩:=d.out;clear v w x g;generalize a.drewN nq=t at *;go_wp2;go_quiet ((go_at_call 250;exact Calls.quiet_of (f _ (d.same rfl))));have i:=zC (below_drewN h nq);have C:=i.size;clear y z A d h f;generalize t.drewN nq=b at *;go_wp2_with fail;have n:=zC (i.alloc qF (qR #[qN,qN] 48));have p:(b.alloc (qR #[qN,qN] 48)).cell? (qP b.heap.size 0)=some qN:=qH
 have q:(b.alloc (qR #[qN,qN] 48)).cell? (qP b.heap.size 1)=some qN:=qH
 have D:(b.alloc (qR #[qN,qN] 48)).heap.size=b.heap.size+1:=qH
 generalize b.alloc _=u at *;refine(U6 [] [] _ _ _ u (.inl ⟨rfl,rfl⟩) (.inl ⟨rfl,rfl⟩) qF p q qH qH).mono ?_;rintro j E ⟨F,rfl,l,m⟩;have r:=zC (zF l (base':=a.heap.size) qF);have s:=zC (n.trans (m.mono qF));clear l m;go_wp2;go_ret;exact⟨_,rfl,r,s⟩
structure GF(w:qS)(a o:Nat):Prop where
 f0:w.frozen? (qP a o)=false
 f1:w.frozen? (qP a (o+1))=false
 f2:w.frozen? (qP a (o+2))=false
def zx{w a:qS}{p}(b:a.heap[p.block]? =w.heap[p.block]?):a.frozen? p=w.frozen? p:=by
 unfold World.frozen?;rw[b]
def GF.same{w w' B o}(a:GF w B o)(b:w'.heap[B]? =w.heap[B]?):GF w' B o:=
 ⟨(zx b).trans a.f0,(zx b).trans a.f1,(zx b).trans a.f2⟩
def GC.block{w w' B o v lo hi}(a:GC w B o v lo hi)(b:w'.heap[B]? =w.heap[B]?):GC w' B o v lo hi:=
 ⟨(xq b).trans a.c0,(xq b).trans a.c1,(xq b).trans a.c2⟩
def zZ.trans{w w1 w2 g L L' t t'}(b:zZ w w1 g L t)(a:zZ w1 w2 g L' t'):zZ w w2 g L' t':=
 ⟨a.row,a.os.trans b.os,a.tape.trans b.tape,a.output.trans b.output,a.size.trans b.size,λc d=>(a.block c d).trans (b.block c d)⟩
def zZ.to{w w1 g L L' t}(a:zZ w w1 g L t)(b:L=L'):zZ w w1 g L' t:=b▸a
def zZ.qb{w w1 g L t}(a:zZ w.drew w1 g L t):zZ w w1 g L t:=⟨a.row,a.os,a.tape,a.output,a.size,a.block⟩
def yr{zs cs sp off}(a:off+cs.length<=zs.length):splice (zI .i32 zs++sp) off (zI .i32 cs)=zI .i32 (splice zs off cs)++sp:=by
 unfold splice;simp only[zI,vX,Qw,Qn,xO];rw[vB qJ,ki qJ];simp
def Em(n):List.replicate n (Value.int .i32 0)=zI .i32 (List.replicate n 0):=by simp[zI]
def Yc{w g zs sp t}(c:w.heap[g]?=some (qR (zI .i32 zs++sp).toArray t (0,0))):Cl w g zs:=by
 intro a b;rw[xF w g a _ _ _ c];simp[zI,b,xW]
def yE:(prog.info? 21).map (·.size)=some 1:=qI
def En(w):(zeroValue 21).run prog w= .ok (.int .i32 0) w:=qI
def mixed:prog.follows .mixedOrders=true:=qI
def Cl.app'{w g zs}(e:Cl w g zs)(p l)(f:p+l<=zs.length):∀a b,(zI .i32 ((zs.drop p).take l))[a]?=some b->w.cell? (((qP g p):Addr).add a)=some b:=by
 have:=ZE (o:=p) (l:=l) (λc d=>by rw[xX];exact e c d);simpa using this
def KE:(∀ (d j h g i) (l) (o) (b c a e m:Nat) (f) (u:GC f d j (qM (qD h 0) i g) b c) (v:GF f d j) (w:f.heap[h]?=some (qR (zI .i32 l++o).toArray 21 (0,0))) (x:l.length=i) (p:d≠h)
  (F:i<=g) (G:b<=c) (H:c<=i) (I:i<=1048576) (J:a+(c-b)<=i) (K:(a:Int)+(c-b)=e) (ag:a<b) (L:min (b:Int) e=m),Calls prog 249 #[qO d j,qC a] f λB s=>B=qQ (.tuple #[])/\∃t,zZ f t h (zI .i32 (splice (splice l e ((l.drop a).take (b-a))) a (List.replicate (m-a) 0))++o) 21/\s=(t.setCell (qP d (j+1)) (qC a)).setCell (qP d (j+2)) (qC e))/\(∀ (d j h g i) (l) (o) (b c a e m:Nat) (f) (u:GC f d j (qM (qD h 0) i g) b c) (v:GF f d j) (w:f.heap[h]?=some (qR (zI .i32 l++o).toArray 21 (0,0))) (x:l.length=i) (p:d≠h)
  (F:i<=g) (G:b<=c) (H:c<=i) (I:i<=1048576) (J:a+(c-b)<=i) (K:a+(c-(b:Int))=e) (ah:b<=a) (L:max (c:Int) a=m) (ai:¬g=b) (aj:¬g=c) (ak:¬g=m),Calls prog 249 #[qO d j,qC a] f λB s=>B=qQ (.tuple #[])/\∃t,zZ f t h (zI .i32 (splice (splice l b ((l.drop c).take (e-c))) m (List.replicate (e-m) 0))++o) 21/\s=(t.setCell (qP d (j+1)) (qC a)).setCell (qP d (j+2)) (qC e)):=by
 refine⟨@λd j h g i l o b c a e m f u v w x p F G H I J K ag L=>have y:=zC xB;?_,@λd j h g i l o b c a e m f u v w x p F G H I J K ah L ai aj ak=>have M:=zC xB;?_⟩
 all_goals
  have N:=zC (Kg d j _ b c f u qF qF qF);have O:=zC u;have P:=zC v;have HR:=zC w;have k:=zC x;have V:e=a+(c-b):=qF;clear w x v V
  first
   |(revert y;intro y;(have n:=zC (show((l.drop a).take (b-a)).length=b-a by simp only[xi,xz,k.out];omega));(have W:e<=c:=by omega);(have X:c<=g:=by omega);(have Y:¬g=e:=by omega);(have Z:a<=b:=by omega);(have aa:b<=g:=by omega);(have am:¬g=a:=by omega);(have an:a<=m:=by omega);(have ao:m<=g:=by omega))
   |((have n:=zC (show((l.drop c).take (e-c)).length=a-b by simp only[xi,xz,k.out];omega));(have ap:¬ (a:Int)<b:=by omega);(have W:b<=a:=by omega);(have X:a<=g:=by omega);(have Y:c<=e:=by omega);(have Z:e<=g:=by omega);(have aa:m<=e:=by omega))
  go_enter func249,ntmps249;go_wp2_with fail;refine N.mono ?_;rintro B af ⟨rfl,C,rfl⟩;have q:=zC (show zZ f (f.drewN C) h _ 21 from⟨HR,rfl,rfl,rfl,rfl,λ_ _=>rfl⟩);have D:=zC (O.same (w':=f.drewN C) rfl);have Q:=zC (P.same (w':=f.drewN C) rfl);obtain⟨S,T,U⟩:=D.out;clear O P HR N;generalize f.drewN C=af at *;go_wp2_with fail;go_still_tail 20,mixed
  first
   |(revert y;intro y;(refine zb rfl _ _ 48 48 rfl 21 underlying48 yE _ _ _ _ _ _ rfl rfl h e _ 21 (q.row) _ (by rw[zG,n.out];show b-a=min _ _;omega) (λ_=>⟨rfl,_,rfl,(Yc q.row).app' a _ (by rw[k.out];omega)⟩) (by rw[zG,n.out,xg,zG,k.out];omega) (zJ _ _) ?_))
   |((refine zb rfl _ _ 48 48 rfl 21 underlying48 yE _ _ _ _ _ _ rfl rfl h b _ 21 (q.row) _ (by rw[zG,n.out];show a-b=min _ _;omega) (λal=>⟨rfl,_,rfl,(Yc q.row).app' c _ (by rw[k.out];omega)⟩) (by rw[zG,n.out,xg,zG,k.out];omega) (zJ _ _) ?_))
  intro aq A;have z:=zC (zZ.to (q.trans (zZ.qb A)) (yr (by rw[n.out,k.out];omega)));have E:=zC (D.block (A.block d p));have R:=zC (Q.same (A.block d p));obtain⟨S,T,U⟩:=E.out;clear A q D Q;go_wp2_with fail;go_still_tail 12,mixed
  first
   |(revert M;intro M;(refine jE rfl _ 48 rfl 21 underlying48 _ En rfl rfl _ _ _ rfl h m _ 21 (z.row) (λal=>rfl) (by rw[xg,zG,length_splice _ _ _ (by rw[n.out,k.out];omega),k.out];omega) ?_))
   |((refine jE rfl _ 48 rfl 21 underlying48 _ En rfl rfl _ _ _ rfl h a _ 21 (z.row) (λ_=>rfl) (by rw[xg,zG,length_splice _ _ _ (by rw[n.out,k.out];omega),k.out];omega) ?_))
  intro ae r;rw[Em]at r;have ab:=zC (zZ.to (z.trans (zZ.qb r)) (yr (by rw[xD,length_splice _ _ _ (by rw[n.out,k.out];omega),k.out];omega)));have ac:=zC (E.block (r.block d p));have ad:=zC (R.same (r.block d p));obtain⟨S,T,U⟩:=ac;obtain⟨ar,au,av⟩:=ad;clear r z E R;go_wp2;go_end0;exact⟨rfl,ae,ab,rfl⟩
def Dv:=@KE.1
def Gj:=@KE.2
def Tryz.infoGB:(prog.info? 100).map (λa=>(a.zero,a.size,a.bytes))=some (some (.agg #[qN,qC 0,qC 0]),3,40):=qI
def KF(a:Nat)(w)(t:a<=1099511627776):
  Calls prog 97 #[qN,qC a] w λb e=>∃f,b=qQ f/\e.ownsRow w.heap.size 100 3 f 0 []/\qY w e:=by
 obtain⟨n,o,p,u,q⟩:=vw Tryz.infoGB;by_cases j:a=0
 ·subst j
  go_enter func97,ntmps97;go_wp2;go_ret;exact⟨_,rfl,xR _ _ _ _,xe _ _⟩
 have g:=λm=>Lib.run_append_nil_zeros w 95 3 m 100 n _ .i64 _ underlying95 underlying3 o p a qF qF qF (by rw[q];omega)
 have r:a<=grownCap w a 0 100:=grownCap_ge w _ _ _;have c:=grownCap_le_maxLen w a 0 100 qK
 have d:(Builtin.zeroCells (Value.agg #[qN,qC 0,qC 0]).cells a++Builtin.zeroCells (Value.agg #[qN,qC 0,qC 0]).cells (grownCap w a 0 100-a)).size=grownCap w a 0 100*3:=by
  have b:(Value.agg #[qN,qC 0,qC 0]).cells= #[Value.slice none 0 0,qC 0,qC 0]:=rfl;rw[b];simp[Builtin.zeroCells];omega
 generalize grownCap w a 0 100=k at *;generalize Builtin.zeroCells _ a++Builtin.zeroCells _ _=l at *;have h:=zC d;have i:=zC c;unfold maxLen at c;have s:(0:Int)<a:=qF
 clear d;go_enter func97,ntmps97;go_wp2_with (at_builtin;refine Lib.wpList_append_run _ rfl _ _ _ _ rfl _ _ rfl rfl _ _ (g _) ?_);go_ret;refine⟨_,rfl,?_,?_⟩
 ·refine⟨qH,.inr ⟨_,k,l,rfl,lR,?_,xK _,i,by rw[h.out],qH⟩⟩
  exact xI _ _
 exact((xe _ w).drew).alloc lR _
structure U7(a:Nat)(w:qS)(v:qT)(n:Nat)(xs:qU):Prop where
 len:xs.length=n*a
 one:∀u∈xs,u.oneCell'=true
 p:(v= .slice none 0 0/\n=0/\xs= [])\/∃b off cap,v= .slice (qD b off) n cap/\b<w.heap.size/\∀j u,xs[j]?=some u->w.cell? (qP b (off+j))=some u
def U7.below{sz w w' v n xs}(a:U7 sz w v n xs)(b:qY w w'):U7 sz w' v n xs:=by
 refine⟨a.len,a.one,?_⟩;rcases a.p with g | ⟨h,i,j,k,c,l⟩
 ·exact .inl g
 exact .inr ⟨h,i,j,k,ve c b.size,λd e f=>(b.cell c).trans (l d e f)⟩
def U7.rd{sz w w' v n xs}(i:U7 sz w v n xs)(j:qY w w'):∀c d f,v= .slice (qD c d) n f->∀a b,xs[a]?=some b->w'.cell? (((qP c d):Addr).add a)=some b:=by
 intro c d f g a b h;rcases(i.below j).p with ⟨l,_⟩ | ⟨m,o,p,e,q,k⟩
 ·simp_all
 rw[g]at e;simp at e;obtain⟨⟨rfl,rfl⟩,_⟩:=e;rw[yF];exact k a b h
def U7.empty(sz)(w)(b off cap)(e:b<w.heap.size):U7 sz w (qM (qD b off) 0 cap) 0 []:=
 ⟨qH,λa c=>by simp at c,.inr ⟨b,off,cap,rfl,e,λf a d=>by simp at d⟩⟩
def Eo(xs ys)(n0 n1)(v0a v1a)(B)(w)(y:U7 3 w v0a n0 xs)(p:U7 3 w v1a n1 ys)(c:B<w.heap.size)(q:w.cell? (qP B 0)=some v0a)(r:w.cell? (qP B 1)=some v1a)(Z:n0<=1048576)(aa:n1<=1048576):
  Calls prog 82 #[qM (qD B 0) 2 2] w λC i=>∃N,C=qQ N/\i.ownsRow w.heap.size 100 3 N (n0+n1) (xs++ys)/\qY w i:=by
 obtain⟨j,k,D,E,F⟩:=vw Tryz.infoGB;have O:=zC (λi(a:Below _ w i)=>y.rd a);have P:=zC y.len;have Q:=zC y.one;have H:=zC (λi(a:Below _ w i)=>p.rd a);have I:=zC p.len;have J:=zC p.one;rcases y.p with ⟨rfl,rfl,rfl⟩ | ⟨ab,ac,T,rfl,_⟩
 ·skip
  focus
   rcases p.p with ⟨rfl,rfl,rfl⟩ | ⟨U,V,G,rfl,_⟩
   rotate_left;have f:=zC xB;rotate_left
   all_goals
    skip;skip;go_enter func82,ntmps82;go_wp2;refine xQ 3 ?_;rw[xG];go_wp2;rw[xG];go_wp2;rw[xG];go_wp2_with fail
    first
     |(revert f;intro f;(refine(KF _ _ qF).mono ?_))
     |((refine(KF (0) _ qF).mono ?_))
    rintro C W ⟨X,rfl,s,a⟩;have e:=zC s;have g:=zC a;have b:=a.size;have t:=(a.cell c).trans q;have u:=(a.cell c).trans r;clear s a;go_wp2_with fail;refine xQ 3 ?_;rw[xG];go_wp2_with (at_builtin;refine wpList_append_own_none rfl _ _ 95 rfl _ 100 j 3 underlying95 k _ _ _ rfl e rfl ?_);rw[xG]
    first
     |(revert f;intro f;have z:=zC (H _ g _ _ _ rfl);(go_wp2_with (at_builtin;refine xM _ rfl _ _ 95 rfl _ 100 j _ 3 40 underlying95 k D E F rfl qG _ _ _ rfl e _ n1 G ys rfl I z J qK qF b ?_;intro u1 S l m _));have A:=zC l;have d:=zC (g.grown m b (λn o=>(e.lt n o).1));have b:=d.size;have t:=(d.cell c).trans q;have u:=(d.cell c).trans r;clear l m;go_wp2)
     |(go_wp2_with (at_builtin;refine wpList_append_own_none rfl _ _ 95 rfl _ 100 j 3 underlying95 k _ _ _ rfl e rfl ?_))
    rw[xG];go_wp2;go_ret
    first
     |(revert f;intro f;(exact⟨_,rfl,by simpa[Qa]using A.out,d⟩))
     |((exact⟨_,rfl,by simpa[Qa]using e.out,g⟩))
 focus
  rcases p.p with ⟨rfl,rfl,rfl⟩ | ⟨U,V,G,rfl,_⟩
  have K:=zC xB;rotate_left;have v:=zC xB;rotate_left
  all_goals
   skip;skip;go_enter func82,ntmps82;go_wp2;refine xQ 3 ?_;rw[xG];go_wp2;rw[xG];go_wp2;rw[xG];go_wp2_with fail
   first
    |(revert v;intro v;(refine(KF _ _ qF).mono ?_))
    |((refine(KF _ _ qF).mono ?_))
   rintro C W ⟨X,rfl,s,a⟩;have e:=zC s;have g:=zC a;have b:=a.size;have t:=(a.cell c).trans q;have u:=(a.cell c).trans r;clear s a;go_wp2_with fail;refine xQ 3 ?_;rw[xG];have R:=zC (O _ g _ _ _ rfl);go_wp2_with (at_builtin;refine xM _ rfl _ _ 95 rfl _ 100 j _ 3 40 underlying95 k D E F rfl qG _ _ _ rfl e _ n0 T xs rfl P R Q qK qF b ?_;intro u0 Y L M _);have x:=zC L;have h:=zC (g.grown M b (λn o=>(e.lt n o).1));have b:=h.size;have t:=(h.cell c).trans q;have u:=(h.cell c).trans r;clear L M;go_wp2;rw[xG]
   first
    |(revert v;intro v;have z:=zC (H _ h _ _ _ rfl);(go_wp2_with (at_builtin;refine xM _ rfl _ _ 95 rfl _ 100 j _ 3 40 underlying95 k D E F rfl qG _ _ _ rfl x _ n1 G ys rfl I z J qK qF b ?_;intro u1 S l m _));have A:=zC l;have d:=zC (h.grown m b (λn o=>(x.lt n o).1));have b:=d.size;have t:=(d.cell c).trans q;have u:=(d.cell c).trans r;clear l m;go_wp2)
    |(go_wp2_with (at_builtin;refine wpList_append_own_none rfl _ _ 95 rfl _ 100 j 3 underlying95 k _ _ _ rfl x rfl ?_))
   rw[xG];go_wp2;go_ret
   first
    |(revert K;intro K;(exact⟨_,rfl,by simpa[Qa]using x.out,h⟩))
    |((exact⟨_,rfl,by simpa[Qa]using A.out,d⟩))
def Zp{B w w'}(a:Below B w w')(c):Below B w (w'.drewN c):=by
 refine a.trans ?_
 induction c generalizing w' with
 | zero=>exact xe _ _
 | succ c b=>exact⟨(b ⟨a.os,a.tape,a.output,a.size,a.block⟩).os,(b ⟨a.os,a.tape,a.output,a.size,a.block⟩).tape,(b ⟨a.os,a.tape,a.output,a.size,a.block⟩).output,(b ⟨a.os,a.tape,a.output,a.size,a.block⟩).size,(b ⟨a.os,a.tape,a.output,a.size,a.block⟩).block⟩
structure RC(w:qS)(a o:Nat)(v:qT)(lo hi:Int):Prop where
 c0:w.cell? (qP a o)=some v
 c1:w.cell? (qP a (o+1))=some (qC lo)
 c2:w.cell? (qP a (o+2))=some (qC hi)
def RC.lt{w B o v lo hi}(a:RC w B o v lo hi):B<w.heap.size:=vQ w _ a.c0
def RC.below{w w' B o D v lo hi}(a:RC w B o v lo hi)(b:Below D w w')(d:w.heap.size<=D):RC w' B o v lo hi:=by
 have c:=a.lt;exact⟨(b.cell (by show B<D;omega)).trans a.c0,(b.cell (by show B<D;omega)).trans a.c1,(b.cell (by show B<D;omega)).trans a.c2⟩
def RC.same{w w' B o v lo hi}(a:RC w B o v lo hi)(b:w'.heap=w.heap):RC w' B o v lo hi:=
 ⟨(xq (by rw[b])).trans a.c0,(xq (by rw[b])).trans a.c1,(xq (by rw[b])).trans a.c2⟩
def RC.drew{w B o v lo hi}(a:RC w B o v lo hi)(n):RC (w.drewN n) B o v lo hi:=
 ⟨by simpa using a.c0,by simpa using a.c1,by simpa using a.c2⟩
def JX(B o)(v)(lo hi)(w)(d:RC w B o v lo hi)(e:0<=lo)(f:lo<=hi)(g:hi<=1099511627776):
  Calls prog 81 #[qO B o] w λa b=>a=qQ (qC (hi-lo))/\∃c,b=w.drewN c:=by
 obtain⟨h,i,j⟩:=d;go_enter func81,ntmps81;go_wp2;go_quiet (fail);go_wp2;go_ret;exact⟨rfl,_,rfl⟩
def Yd(B o)(ao)(a cap)(lo hi)(b)(c:RC b B o (qM ao a cap) lo hi)(h:0<=lo)(i:lo<=hi)(j:hi<=a)(k:a<=1099511627776):
  Calls prog 53 #[qO B o] b λf g=>f=qQ (qC (a-(hi-lo)))/\∃a,g=b.drewN a:=by
 have d:=zC (λb c=>JX B o (qM ao a cap) lo hi b c h i qF);have e:=zC c;obtain⟨l,m,n⟩:=c;go_enter func53,ntmps53;go_wp2;go_quiet ((go_at_call 81;exact Calls.quiet_of (d _ (e.drew _))));go_wp2;go_ret;exact⟨rfl,_,rfl⟩
def MQ(B o g cap n)(xs ys)(l i A C a d b f:Nat)(e)(z:RC e B o (qM (qD g 0) n cap) l i)(am:g<e.heap.size)(an:l<=i)(ao:i<=n)(ap:n<=1048576)(aq:n<=cap)(ar:cap<=maxLen)(au:A<=n)(av:C<=n)
  (S:min (A:Int) l=a) (T:min (C:Int) l=d) (U:max ((A:Int)+(i-l)) i=b) (V:max ((C:Int)+(i-l)) i=f) (aw:a<=d) (ax:d<=n) (ay:b<=f) (az:f<=n)
  (W:∀h J,qY e h->U7 3 h (qM (qD g (a*3)) (d-a) J) (d-a) xs) (X:∀h J,qY e h->U7 3 h (qM (qD g (b*3)) (f-b) J) (f-b) ys) (Y:xs.length=(d-a)*3) (Z:ys.length=(f-b)*3):
  Calls prog 52 #[qO B o,qC A,qC C] e λK h=>∃R,K=qQ R/\h.ownsRow e.heap.size 100 3 R ((d-a)+(f-b)) (xs++ys)/\qY e h:=by
 have w:=zC (λe z=>JX B o (qM (qD g 0) n cap) l i e z qF qF qF);have x:=zC z;obtain⟨aa,ab,ac⟩:=z;have ad:=zC W;have ae:=zC X;have af:=zC Y;have O:=zC Z;have ak:=zC (show d-a<=1048576 by omega);have al:=zC (show f-b<=1048576 by omega);clear W X Y Z;by_cases ah:cap=a
 ·by_cases H:cap=b
  ·obtain rfl:d=a:=qF
   obtain rfl:f=b:=qF;subst ah;subst H;go_enter func52,ntmps52;go_wp2;go_quiet (fail);have j:=zC (x.same (w':=e.drewN nq) rfl);have k:=zC (Zp (xe e.heap.size e) nq);have D:=k.size;obtain⟨L,M,N⟩:=j.out;clear aa ab ac x;generalize e.drewN nq=I at *;go_wp2;go_quiet ((go_at_call 81;exact Calls.quiet_of (w _ (j.same rfl))));have m:=zC (Zp k nq);have ag:=m.size;clear L M N j k D w S T U V;generalize I.drewN nq=c at *;go_wp2_with fail;have p:=zC (m.alloc qF (qR #[qM (qD g 0) 0 0,qM (qD g 0) 0 0] 95));have q:(c.alloc (qR #[qM (qD g 0) 0 0,qM (qD g 0) 0 0] 95)).cell? (qP c.heap.size 0)=some (qM (qD g 0) 0 0):=qH;have r:(c.alloc (qR #[qM (qD g 0) 0 0,qM (qD g 0) 0 0] 95)).cell? (qP c.heap.size 1)=some (qM (qD g 0) 0 0):=qH;have S7:=zC ((show U7 3 (c.alloc (qR #[qM (qD g 0) 0 0,qM (qD g 0) 0 0] 95)) _ 0 xs from(by obtain rfl:=xL (by rw[af.out];omega);exact U7.empty 3 _ g 0 0 qJ)));have s:=zC ((show U7 3 (c.alloc (qR #[qM (qD g 0) 0 0,qM (qD g 0) 0 0] 95)) _ 0 ys from(by obtain rfl:=xL (by rw[O.out];omega);exact U7.empty 3 _ g 0 0 qJ)));have P:(c.alloc (qR #[qM (qD g 0) 0 0,qM (qD g 0) 0 0] 95)).heap.size=c.heap.size+1:=qH;generalize c.alloc _=t at *;refine(Eo xs ys 0 0 _ _ _ t S7 s qF q r (by first | omega) (by first | omega)).mono ?_;rintro K ai ⟨aj,rfl,u,v⟩;have E:=zC (zF u (base':=e.heap.size) qF);have F:=zC (p.trans (v.mono qF));clear u v;go_wp2;go_ret;exact⟨_,rfl,(by have G:=E.out;simpa using G),F⟩
  exfalso;omega
 focus
  by_cases H:cap=b;have y:=zC xB;rotate_left;have Q:=zC xB;rotate_left
  all_goals
   first | (revert y;intro y;(obtain rfl:f=b:=by omega);subst H) | skip
   go_enter func52,ntmps52;go_wp2;go_quiet (fail);have j:=zC (x.same (w':=e.drewN nq) rfl);have k:=zC (Zp (xe e.heap.size e) nq);have D:=k.size;obtain⟨L,M,N⟩:=j.out;clear aa ab ac x;generalize e.drewN nq=I at *;go_wp2;go_quiet ((go_at_call 81;exact Calls.quiet_of (w _ (j.same rfl))));have m:=zC (Zp k nq);have ag:=m.size;clear L M N j k D w S T U V;generalize I.drewN nq=c at *;go_wp2_with fail
   first
    |(revert Q;intro Q;(have p:=zC (m.alloc qF (qR #[qM (qD g (a*3)) (d-a) (cap-a),qM (qD g (b*3)) (f-b) (cap-b)] 95)));(have q:(c.alloc (qR #[qM (qD g (a*3)) (d-a) (cap-a),qM (qD g (b*3)) (f-b) (cap-b)] 95)).cell? (qP c.heap.size 0)=some (qM (qD g (a*3)) (d-a) (cap-a)):=by simp);(have r:(c.alloc (qR #[qM (qD g (a*3)) (d-a) (cap-a),qM (qD g (b*3)) (f-b) (cap-b)] 95)).cell? (qP c.heap.size 1)=some (qM (qD g (b*3)) (f-b) (cap-b)):=by simp))
    |((have p:=zC (m.alloc qF (qR #[qM (qD g (a*3)) (d-a) (cap-a),qM (qD g 0) 0 0] 95)));(have q:(c.alloc (qR #[qM (qD g (a*3)) (d-a) (cap-a),qM (qD g 0) 0 0] 95)).cell? (qP c.heap.size 0)=some (qM (qD g (a*3)) (d-a) (cap-a)):=by simp);(have r:(c.alloc (qR #[qM (qD g (a*3)) (d-a) (cap-a),qM (qD g 0) 0 0] 95)).cell? (qP c.heap.size 1)=some (qM (qD g 0) 0 0):=by simp))
   have S7:=zC ((ad _ (cap-a) p))
   first
    |(revert y;intro y;(have s:=zC ((show U7 3 (c.alloc (qR #[qM (qD g (a*3)) (d-a) (cap-a),qM (qD g 0) 0 0] 95)) _ 0 ys from(by obtain rfl:=xL (by rw[O.out];omega);exact U7.empty 3 _ g 0 0 qJ))));(have P:(c.alloc (qR #[qM (qD g (a*3)) (d-a) (cap-a),qM (qD g 0) 0 0] 95)).heap.size=c.heap.size+1:=by simp);generalize c.alloc _=t at *;(refine(Eo xs ys _ 0 _ _ _ t S7 s qF q r qF (by first | omega)).mono ?_))
    |(have s:=zC ((ae _ (cap-b) p));(have P:(c.alloc (qR #[qM (qD g (a*3)) (d-a) (cap-a),qM (qD g (b*3)) (f-b) (cap-b)] 95)).heap.size=c.heap.size+1:=by simp);generalize c.alloc _=t at *;(refine(Eo xs ys _ _ _ _ _ t S7 s qF q r qF qF).mono ?_))
   rintro K ai ⟨aj,rfl,u,v⟩;have E:=zC (zF u (base':=e.heap.size) qF);have F:=zC (p.trans (v.mono qF));clear u v;go_wp2;go_ret;exact⟨_,rfl,(by have G:=E.out;simpa using G),F⟩
abbrev z3:Fl:=(qM none 0 0,qC 0,qC 0)
def RC.block{w w' B o v lo hi}(a:RC w B o v lo hi)(b:w'.heap[B]? =w.heap[B]?):RC w' B o v lo hi:=
 ⟨(xq b).trans a.c0,(xq b).trans a.c1,(xq b).trans a.c2⟩
def ym:(prog.info? 100).map (·.size)=some 3:=qI
def Ep(w):(zeroValue 100).run prog w= .ok (.agg #[qN,qC 0,qC 0]) w:=qI
def cells3{d:qS}{g zs sp t}(h:d.heap[g]?=some (qR (jD zs++sp).toArray t (0,0)))(p l)(j:p+l<=zs.length):∀a c,(jD ((zs.drop p).take l))[a]?=some c->d.cell? (((qP g (p*3)):Addr).add a)=some c:=by
 intro a c b
 have e:a<l*3:=by
  have f:=(xp.1 b).1;rw[zO,xi]at f;omega
 rw[yF _ _ _,xF d g _ _ _ _ h];have i:=zO zs;rw[<- Eb,<- Ec]at b;rw[vf,xS e,vJ]at b;simp;rw[xW qF];exact b
def Z6:(∀ (e j h k b) (f) (m) (a c d i l:Nat) (g) (q:RC g e j (qM (qD h 0) b k) a c) (u:GF g e j) (v:g.heap[h]?=some (qR (jD f++m).toArray 100 (0,0))) (w:f.length=b) (r:yD f) (s:e≠h)
  (z:b<=k) (A:a<=c) (B:c<=b) (C:b<=1048576) (D:d+(c-a)<=b) (E:d+((c:Int)-a)=i) (av:d<a) (F:min (a:Int) i=l),Calls prog 252 #[qO e j,qC d] g λy t=>y=qQ (.tuple #[])/\∃p,zZ g p h (jD (splice (splice f i ((f.drop d).take (a-d))) d (List.replicate (l-d) z3))++m) 100/\t=(p.setCell (qP e (j+1)) (qC d)).setCell (qP e (j+2)) (qC i))/\(∀ (e j h k b) (f) (m) (a c d i l:Nat) (g) (q:RC g e j (qM (qD h 0) b k) a c) (u:GF g e j) (v:g.heap[h]?=some (qR (jD f++m).toArray 100 (0,0))) (w:f.length=b) (r:yD f) (s:e≠h)
  (z:b<=k) (A:a<=c) (B:c<=b) (C:b<=1048576) (D:d+(c-a)<=b) (E:d+((c:Int)-a)=i) (I:a<=d) (F:max (c:Int) d=l) (J:¬k=a) (P:¬k=c) (Z:¬k=l),Calls prog 252 #[qO e j,qC d] g λy t=>y=qQ (.tuple #[])/\∃p,zZ g p h (jD (splice (splice f a ((f.drop c).take (i-c))) l (List.replicate (i-l) z3))++m) 100/\t=(p.setCell (qP e (j+1)) (qC d)).setCell (qP e (j+2)) (qC i))/\(∀ (e j h k b) (f) (m) (a c d i l:Nat) (g) (q:RC g e j (qM (qD h 0) b k) a c) (u:GF g e j) (v:g.heap[h]?=some (qR (jD f++m).toArray 100 (0,0))) (w:f.length=b) (r:yD f) (s:e≠h)
  (z:b<=k) (A:a<=c) (B:c<=b) (C:b<=1048576) (D:d+(c-a)<=b) (E:d+(c-(a:Int))=i) (I:a<=d) (F:max (c:Int) d=l) (J:k=a),Calls prog 252 #[qO e j,qC d] g λy t=>y=qQ (.tuple #[])/\∃p,zZ g p h (jD (splice (splice f a ((f.drop c).take (i-c))) l (List.replicate (i-l) z3))++m) 100/\t=(p.setCell (qP e (j+1)) (qC d)).setCell (qP e (j+2)) (qC i))/\(∀ (e j h k b) (f) (m) (a c d i l:Nat) (g) (q:RC g e j (qM (qD h 0) b k) a c) (u:GF g e j) (v:g.heap[h]?=some (qR (jD f++m).toArray 100 (0,0))) (w:f.length=b) (r:yD f) (s:e≠h)
  (z:b<=k) (A:a<=c) (B:c<=b) (C:b<=1048576) (D:d+(c-a)<=b) (E:d+(c-(a:Int))=i) (I:a<=d) (F:max (c:Int) d=l) (J:¬k=a) (P:k=c),Calls prog 252 #[qO e j,qC d] g λy t=>y=qQ (.tuple #[])/\∃p,zZ g p h (jD (splice (splice f a ((f.drop c).take (i-c))) l (List.replicate (i-l) z3))++m) 100/\t=(p.setCell (qP e (j+1)) (qC d)).setCell (qP e (j+2)) (qC i))/\(∀ (e j h k b) (f) (m) (a c d i l:Nat) (g) (q:RC g e j (qM (qD h 0) b k) a c) (u:GF g e j) (v:g.heap[h]?=some (qR (jD f++m).toArray 100 (0,0))) (w:f.length=b) (r:yD f) (s:e≠h)
  (z:b<=k) (A:a<=c) (B:c<=b) (C:b<=1048576) (D:d+(c-a)<=b) (E:d+(c-(a:Int))=i) (I:a<=d) (F:max (c:Int) d=l) (J:¬k=a) (P:¬k=c) (Z:k=l),Calls prog 252 #[qO e j,qC d] g λy t=>y=qQ (.tuple #[])/\∃p,zZ g p h (jD (splice (splice f a ((f.drop c).take (i-c))) l (List.replicate (i-l) z3))++m) 100/\t=(p.setCell (qP e (j+1)) (qC d)).setCell (qP e (j+2)) (qC i)):=by
 refine⟨@λe j h k b f m a c d i l g q u v w r s z A B C D E av F=>have V:=zC xB;have Q:=zC xB;?_,@λe j h k b f m a c d i l g q u v w r s z A B C D E I F J P Z=>have V:=zC xB;have K:=zC xB;?_,@λe j h k b f m a c d i l g q u v w r s z A B C D E I F J=>have aa:=zC xB;have L:=zC xB;?_,@λe j h k b f m a c d i l g q u v w r s z A B C D E I F J P=>have G:=zC xB;have L:=zC xB;?_,@λe j h k b f m a c d i l g q u v w r s z A B C D E I F J P Z=>have H:=zC xB;have L:=zC xB;?_⟩
 all_goals
  first
   |(revert aa;intro aa;(obtain rfl:b=k:=by omega);(obtain rfl:=by omega);(obtain rfl:b=c:=by omega);(obtain rfl:b=d:=by omega);(obtain rfl:b=i:=by omega);(obtain rfl:b=l:=by omega);(have N:=zC (JX e j _ b b g q qF qF qF)))
   |(revert H;intro H;(obtain rfl:b=k:=by omega);(obtain rfl:=by omega);(obtain rfl:b=d:=by omega);(obtain rfl:b=i:=by omega);(obtain rfl:a=c:=by omega);(have N:=zC (JX e j _ a a g q qF qF qF)))
   |(revert G;intro G;(obtain rfl:b=k:=by omega);(obtain rfl:=by omega);(obtain rfl:a=d:=by omega);(obtain rfl:b=i:=by omega);(obtain rfl:b=l:=by omega);(have N:=zC (JX e j _ a b g q qF qF qF)))
   |((have N:=zC (JX e j _ a c g q qF qF qF)))
  have ab:=zC q;have ac:=zC u;have HR:=zC v;have n:=zC w
  first
   |(revert V;intro V;(have R:i=d+(c-a):=by omega))
   |(revert G;intro G;(have R:b=a+(b-a):=by omega))
   |(revert H;intro H;(have R:b=b+(a-a):=by omega))
   |((have R:b=b+(b-b):=by omega))
  clear v w u R
  first
   |(revert Q;intro Q;(have o:=zC (show((f.drop d).take (a-d)).length=a-d by simp only[xi,xz,n.out];omega));(have ak:i<=c:=by omega);(have al:c<=k:=by omega);(have am:¬k=i:=by omega);(have an:d<=a:=by omega);(have ao:a<=k:=by omega);(have aw:¬k=d:=by omega);(have ax:d<=l:=by omega);(have ay:l<=k:=by omega))
   |(revert K;intro K;(have o:=zC (show((f.drop c).take (i-c)).length=d-a by simp only[xi,xz,n.out];omega));(have W:¬ (d:Int)<a:=by omega);(have ak:a<=d:=by omega);(have al:d<=k:=by omega);(have am:c<=i:=by omega);(have an:i<=k:=by omega);(have ao:l<=i:=by omega))
   |(revert G;intro G;(have o:=zC (show((f.drop b).take (b-b)).length=a-a by simp));(have W:¬ (a:Int)<a:=by omega);(have ap:a<=b:=by omega))
   |(revert H;intro H;(have o:=zC (show((f.drop a).take (b-a)).length=b-a by simp only[xi,xz,n.out];omega));(have W:¬ (b:Int)<a:=by omega);(have ap:a<=b:=by omega))
   |((have o:=zC (show((f.drop b).take (b-b)).length=b-b by simp));(have W:¬ (b:Int)<b:=by omega))
  go_enter func252,ntmps252;go_wp2_with fail;refine N.mono ?_;rintro y au ⟨rfl,U,rfl⟩;have x:=zC (show zZ g (g.drewN U) h _ 100 from⟨HR,rfl,rfl,rfl,rfl,λ_ _=>rfl⟩);have X:=zC (ab.same (w':=g.drewN U) rfl);have ad:=zC (ac.same (w':=g.drewN U) rfl);obtain⟨ah,ai,aj⟩:=X.out;clear ab ac HR N;generalize g.drewN U=au at *;go_wp2_with fail;go_still_tail 20,mixed
  first
   |(revert K;intro K;(refine zk rfl _ _ 95 95 rfl 100 underlying95 ym _ _ _ _ _ _ rfl rfl h _ _ 100 (x.row) _ (by show d-a=min _ _;omega) _ (by rw[zO,o.out]) (λ_=>⟨rfl,_,rfl,cells3 x.row c _ (by rw[n.out];omega)⟩) (by rw[zO,o.out,xg,zO,n.out];omega) (yD.fl (yD.take (yD.drop r _) _)) ?_))
   |(revert H;intro H;(refine zk rfl (.tmp 57) (.tmp 67) 95 95 rfl 100 underlying95 ym (qD h (a*3)) (qD h (a*3)) (b-a) (b-a) (b-a) (b-a) rfl rfl h (a*3) (jD f++m) 100 (x.row) (b-a) qH (jD ((f.drop a).take (b-a))) (by rw[zO,o.out]) (λ_=>⟨rfl,_,rfl,cells3 x.row a (b-a) (by rw[n.out];omega)⟩) (by rw[zO,o.out,xg,zO,n.out];omega) (yD.fl (yD.take (yD.drop r _) _)) ?_))
   |(revert Q;intro Q;(refine zk rfl _ _ 95 95 rfl 100 underlying95 ym _ _ _ _ _ _ rfl rfl h _ _ 100 (x.row) _ (by show a-d=min _ _;omega) _ (by rw[zO,o.out]) (λ_=>⟨rfl,_,rfl,cells3 x.row d _ (by rw[n.out];omega)⟩) (by rw[zO,o.out,xg,zO,n.out];omega) (yD.fl (yD.take (yD.drop r _) _)) ?_))
   |(revert G;intro G;(refine zk rfl (.tmp 57) (.tmp 67) 95 95 rfl 100 underlying95 ym (qD h (a*3)) (qD h 0) 0 (b-a) 0 0 rfl rfl h (a*3) (jD f++m) 100 (x.row) (a-a) qH _ (by rw[zO,o.out]) (λM=>absurd M qF) (by rw[zO,o.out,xg,zO,n.out];omega) (yD.fl (yD.take (yD.drop r _) _)) ?_))
   |((refine zk rfl (.tmp 57) (.tmp 67) 95 95 rfl 100 underlying95 ym _ _ 0 0 0 0 rfl rfl h (b*3) (jD f++m) 100 (x.row) (b-b) qH _ (by rw[zO,o.out]) (λM=>absurd M qF) (by rw[zO,o.out,xg,zO,n.out];omega) (yD.fl (yD.take (yD.drop r _) _)) ?_))
  intro az S;have O:=zC (zZ.to (x.trans (zZ.qb S)) (ZJ (by rw[o.out,n.out];omega)));have Y:=zC (X.block (S.block e s));have ae:=zC (ad.same (S.block e s));obtain⟨ah,ai,aj⟩:=Y.out;clear S x X ad;go_wp2_with fail;go_still_tail 12,mixed
  first
   |(revert L;intro L;(refine jA rfl _ 95 rfl 100 underlying95 _ _ _ _ Ep rfl ⟨rfl,rfl,rfl⟩ _ 0 0 rfl h (b*3) _ 100 (O.row) (λM=>absurd M qF) (by rw[xg,zO,length_splice _ _ _ (by rw[o.out,n.out];omega),n.out];omega) ?_))
   |(revert K;intro K;(refine jA rfl _ 95 rfl 100 underlying95 _ _ _ _ Ep rfl ⟨rfl,rfl,rfl⟩ _ _ _ rfl h _ _ 100 (O.row) (λM=>rfl) (by rw[xg,zO,length_splice _ _ _ (by rw[o.out,n.out];omega),n.out];omega) ?_))
   |((refine jA rfl _ 95 rfl 100 underlying95 _ _ _ _ Ep rfl ⟨rfl,rfl,rfl⟩ _ _ _ rfl h _ _ 100 (O.row) (λ_=>rfl) (by rw[xg,zO,length_splice _ _ _ (by rw[o.out,n.out];omega),n.out];omega) ?_))
  intro ag T;have af:=zC (zZ.to (O.trans (zZ.qb T)) (ZJ (by rw[xD,length_splice _ _ _ (by rw[o.out,n.out];omega),n.out];omega)));have aq:=zC (Y.block (T.block e s));have ar:=zC (ae.same (T.block e s));obtain⟨ah,ai,aj⟩:=aq;obtain⟨a0,a1,a2⟩:=ar;clear T O Y ae;go_wp2;go_end0
  first
   |(revert L;intro L;(exact⟨rfl,ag,by rw[show List.replicate _ z3=List.replicate 0 z3 by rw[kh]];exact af,rfl⟩))
   |(exact⟨rfl,ag,af,rfl⟩)
def Gk:=@Z6.1
def MT:=@Z6.2.1
def MU:=@Z6.2.2.1
def MW:=@Z6.2.2.2.1
def MY:=@Z6.2.2.2.2
def moveRN(B o g cap)(zs)(sp)(c b a:Nat)(w)(i:RC w B o (qM (qD g 0) zs.length cap) c b)(j:GF w B o)(k:w.heap[g]?=some (qR (jD zs++sp).toArray 100 (0,0)))(l:yD zs)(m:B≠g)
  (n:zs.length<=cap) (p:zB3 z3 zs c b) (d:a+(b-c)<=zs.length):
  Calls prog 252 #[qO B o,qC a] w λx y=>x=qQ (.tuple #[])/\∃u,zZ w u g (jD (ze z3 (yH zs c b) a zs.length)++sp) 100/\y=(u.setCell (qP B (o+1)) (qC a)).setCell (qP B (o+2)) (qC ((a+(b-c):Nat))):=by
 have e:=p.a;have f:=p.b;have z:=p.c;by_cases s:a<c
 ·rw[<- Dj p s]
  exact Gk B o g cap zs.length zs sp c b a (a+(b-c)) (min c (a+(b-c))) w i j k rfl l m n e f qF d qF s qF
 have h:c<=a:=qF
 have v:=Lp p h d;rw[<- v];by_cases q:cap=c
 ·exact MU B o g cap zs.length zs sp c b a (a+(b-c)) (max b a) w i j k rfl l m n e f qF d qF h qF q
 by_cases r:cap=b
 ·exact MW B o g cap zs.length zs sp c b a (a+(b-c)) (max b a) w i j k rfl l m n e f qF d qF h qF q r
 by_cases t:cap=max b a
 ·exact MY B o g cap zs.length zs sp c b a (a+(b-c)) (max b a) w i j k rfl l m n e f qF d qF h qF q r t
 exact MT B o g cap zs.length zs sp c b a (a+(b-c)) (max b a) w i j k rfl l m n e f qF d qF h qF q r t
def JY:(∀ (d g h j a) (i) (n) (b c f k l:Nat) (e) (q:GC e d g (qM (qD h 0) a j) b c) (v:GF e d g) (w:e.heap[h]?=some (qR (zI .i32 i++n).toArray 21 (0,0))) (x:i.length=a) (r:d≠h)
  (C:a<=j) (D:b<=c) (E:c<=a) (F:a<=1048576) (G:f+(c-b)<=a) (H:(f:Int)+(c-b)=k) (I:b<=f) (J:max (c:Int) f=l) (K:j=b),Calls prog 249 #[qO d g,qC f] e λz u=>z=qQ (.tuple #[])/\∃t,zZ e t h (zI .i32 (splice (splice i b ((i.drop c).take (k-c))) l (List.replicate (k-l) 0))++n) 21/\u=(t.setCell (qP d (g+1)) (qC f)).setCell (qP d (g+2)) (qC k))/\(∀ (d g h j a) (i) (n) (b c f k l:Nat) (e) (q:GC e d g (qM (qD h 0) a j) b c) (v:GF e d g) (w:e.heap[h]?=some (qR (zI .i32 i++n).toArray 21 (0,0))) (x:i.length=a) (r:d≠h)
  (C:a<=j) (D:b<=c) (E:c<=a) (F:a<=1048576) (G:f+(c-b)<=a) (H:f+(c-(b:Int))=k) (I:b<=f) (J:max (c:Int) f=l) (K:¬j=b) (S:j=c),Calls prog 249 #[qO d g,qC f] e λz u=>z=qQ (.tuple #[])/\∃t,zZ e t h (zI .i32 (splice (splice i b ((i.drop c).take (k-c))) l (List.replicate (k-l) 0))++n) 21/\u=(t.setCell (qP d (g+1)) (qC f)).setCell (qP d (g+2)) (qC k))/\(∀ (d g h j a) (i) (n) (b c f k l:Nat) (e) (q:GC e d g (qM (qD h 0) a j) b c) (v:GF e d g) (w:e.heap[h]?=some (qR (zI .i32 i++n).toArray 21 (0,0))) (x:i.length=a) (r:d≠h)
  (C:a<=j) (D:b<=c) (E:c<=a) (F:a<=1048576) (G:f+(c-b)<=a) (H:f+((c:Int)-b)=k) (I:b<=f) (J:max (c:Int) f=l) (K:¬j=b) (S:¬j=c) (ai:j=l),Calls prog 249 #[qO d g,qC f] e λz u=>z=qQ (.tuple #[])/\∃t,zZ e t h (zI .i32 (splice (splice i b ((i.drop c).take (k-c))) l (List.replicate (k-l) 0))++n) 21/\u=(t.setCell (qP d (g+1)) (qC f)).setCell (qP d (g+2)) (qC k)):=by
 refine⟨@λd g h j a i n b c f k l e q v w x r C D E F G H I J K=>have T:=zC xB;?_,@λd g h j a i n b c f k l e q v w x r C D E F G H I J K S=>have o:=zC xB;?_,@λd g h j a i n b c f k l e q v w x r C D E F G H I J K S ai=>have s:=zC xB;?_⟩
 all_goals
  obtain rfl:a=j:=qF
  first
   |(revert T;intro T;(obtain rfl:a=b:=by omega);(obtain rfl:a=c:=by omega);(obtain rfl:a=f:=by omega))
   |(revert o;intro o;(obtain rfl:a=c:=by omega);(obtain rfl:b=f:=by omega))
   |((obtain rfl:=by omega);(obtain rfl:a=f:=by omega))
  obtain rfl:a=k:=qF
  first
   |(revert s;intro s;(obtain rfl:b=c:=by omega);(have L:=zC (Kg d g _ b b e q qF qF qF)))
   |(revert o;intro o;(obtain rfl:a=l:=by omega);(have L:=zC (Kg d g _ b a e q qF qF qF)))
   |((obtain rfl:a=l:=by omega);(have L:=zC (Kg d g _ a a e q qF qF qF)))
  have U:=zC q;have V:=zC v;have HR:=zC w;have p:=zC x
  first
   |(revert o;intro o;(have O:a=b+(a-b):=by omega))
   |(revert s;intro s;(have O:a=a+(b-b):=by omega))
   |((have O:a=a+(a-a):=by omega))
  clear w x v O
  first
   |(revert o;intro o;(have m:=zC (show((i.drop a).take (a-a)).length=b-b by simp));(have W:¬ (b:Int)<b:=by omega);(have ac:b<=a:=by omega))
   |(revert s;intro s;(have m:=zC (show((i.drop b).take (a-b)).length=a-b by simp only[xi,xz,p.out];omega));(have W:¬ (a:Int)<b:=by omega);(have ac:b<=a:=by omega))
   |((have m:=zC (show((i.drop a).take (a-a)).length=a-a by simp));(have W:¬ (a:Int)<a:=by omega))
  go_enter func249,ntmps249;go_wp2_with fail;refine L.mono ?_;rintro z ah ⟨rfl,N,rfl⟩;have y:=zC (show zZ e (e.drewN N) h _ 21 from⟨HR,rfl,rfl,rfl,rfl,λ_ _=>rfl⟩);have P:=zC (U.same (w':=e.drewN N) rfl);have X:=zC (V.same (w':=e.drewN N) rfl);obtain⟨Z,aa,ab⟩:=P.out;clear U V HR L;generalize e.drewN N=ah at *;go_wp2_with fail;go_still_tail 20,mixed
  first
   |(revert s;intro s;(refine zb rfl (.tmp 57) (.tmp 67) 48 48 rfl 21 underlying48 yE _ _ (a-b) (a-b) (a-b) (a-b) rfl rfl h b _ 21 (y.row) _ (by rw[zG,m.out];show a-b=min _ _;omega) (λA=>⟨rfl,_,rfl,(Yc y.row).app' b (a-b) (by rw[p.out];omega)⟩) (by rw[zG,m.out,xg,zG,p.out];omega) (zJ _ _) ?_))
   |(revert o;intro o;(refine zb rfl _ _ 48 48 rfl 21 underlying48 yE _ _ 0 _ 0 0 rfl rfl h b _ 21 (y.row) (zI .i32 _) (by rw[zG,m.out];show b-b=min _ _;omega) (λA=>absurd A (by rw[zG,m.out];omega)) (by rw[zG,m.out,xg,zG,p.out];omega) (zJ _ _) ?_))
   |((refine zb rfl _ _ 48 48 rfl 21 underlying48 yE _ _ 0 0 0 0 rfl rfl h a _ 21 (y.row) (zI .i32 _) (by rw[zG,m.out];show a-a=min _ _;omega) (λA=>absurd A (by rw[zG,m.out];omega)) (by rw[zG,m.out,xg,zG,p.out];omega) (zJ _ _) ?_))
  intro aj M;have Q:=zC (zZ.to (y.trans (zZ.qb M)) (yr (by rw[m.out,p.out];omega)));have R:=zC (P.block (M.block d r));have Y:=zC (X.same (M.block d r));obtain⟨Z,aa,ab⟩:=R.out;clear M y P X;go_wp2_with fail;go_still_tail 12,mixed;refine jE rfl _ 48 rfl 21 underlying48 _ En rfl rfl _ 0 0 rfl h a _ 21 (Q.row) (λA=>absurd A qF) (by rw[xg,zG,length_splice _ _ _ (by rw[m.out,p.out];omega),p.out];omega) ?_;intro ag B;rw[Em]at B;have ad:=zC (zZ.to (Q.trans (zZ.qb B)) (yr (by rw[xD,length_splice _ _ _ (by rw[m.out,p.out];omega),p.out];omega)));have ae:=zC (R.block (B.block d r));have af:=zC (Y.same (B.block d r));obtain⟨Z,aa,ab⟩:=ae;obtain⟨ak,al,am⟩:=af;clear B Q R Y;go_wp2;go_end0;exact⟨rfl,ag,by rw[show List.replicate _ (0:Int)=List.replicate 0 0 by rw[kh]];exact ad,rfl⟩
def Gl:=@JY.1
def Gm:=@JY.2.1
def Gn:=@JY.2.2
def moveToN(B o g cap)(zs)(sp)(a c b:Nat)(w)(i:GC w B o (qM (qD g 0) zs.length cap) a c)(j:GF w B o)(k:w.heap[g]?=some (qR (zI .i32 zs++sp).toArray 21 (0,0)))(l:B≠g)
  (m:zs.length<=cap) (n:GV zs a c) (d:b+(c-a)<=zs.length):
  Calls prog 249 #[qO B o,qC b] w λv x=>v=qQ (.tuple #[])/\∃t,zZ w t g (zI .i32 (yU (zW zs a c) b zs.length)++sp) 21/\x=(t.setCell (qP B (o+1)) (qC b)).setCell (qP B (o+2)) (qC ((b+(c-a):Nat))):=by
 have e:=n.a;have f:=n.b;have y:=n.c;by_cases r:b<a
 ·rw[<- Fz n r]
  exact Dv B o g cap _ zs sp a c b _ _ w i j k rfl l m e f qF d qF r qF
 have h:a<=b:=qF
 have u:=Tp n h d;rw[<- u];by_cases p:cap=a
 ·exact Gl B o g cap _ zs sp a c b _ _ w i j k rfl l m e f qF d qF h qF p
 by_cases q:cap=c
 ·exact Gm B o g cap _ zs sp a c b _ _ w i j k rfl l m e f qF d qF h qF p q
 by_cases s:cap=max c b
 ·exact Gn B o g cap _ zs sp a c b _ _ w i j k rfl l m e f qF d qF h qF p q s
 exact Gj B o g cap _ zs sp a c b _ _ w i j k rfl l m e f qF d qF h qF p q s
def set3(b:qX)(a:Nat)(c d e:qT):qX:=((b.setIfInBounds a c).setIfInBounds (a+1) d).setIfInBounds (a+2) e
def yQ(cs)(o)(a b c):(set3 cs o a b c).size=cs.size:=by simp[set3]
def yb(cs)(o)(a b c)(j)(g:o+3<=cs.size):(set3 cs o a b c)[j]? =if j=o then some a else if j=o+1 then some b else if j=o+2 then some c else cs[j]?:=by
 unfold set3;simp only[xC,Array.size_setIfInBounds];by_cases d:j=o
 ·subst d;simp;omega
 by_cases e:j=o+1
 ·subst e;simp;omega
 by_cases f:j=o+2
 ·subst f;simp;omega
 simp[d,e,f,QS d,QS e,QS f]
def jM{cs cs' o a b c}(i:cs'.size=cs.size)(e:o+3<=cs.size)(j:cs'[o]?=some a)(k:cs'[o+1]?=some b)(l:cs'[o+2]?=some c)(m:∀d,d≠o->d≠o+1->d≠o+2->cs'[d]? =cs[d]?):cs'=set3 cs o a b c:=by
 apply Array.ext_getElem?;intro d;rw[yb _ _ _ _ _ _ e];by_cases f:d=o
 ·simp_all
 by_cases g:d=o+1
 ·simp_all
 by_cases h:d=o+2
 ·simp_all
 simp_all
def Jk(cs)(o)(a b c a' b' c')(d:o+3<=cs.size):set3 (set3 cs o a b c) o a' b' c'=set3 cs o a' b' c':=by
 apply jM (by simp[yQ]) d
 ·rw[yb _ _ _ _ _ _ (by rw[yQ];exact d)];simp
 ·rw[yb _ _ _ _ _ _ (by rw[yQ];exact d)];simp
 ·rw[yb _ _ _ _ _ _ (by rw[yQ];exact d)];simp
 intro h e f g;rw[yb _ _ _ _ _ _ (by rw[yQ];exact d),yb _ _ _ _ _ _ d];simp[e,f,g]
structure GB(w:qS)(a o:Nat)(cs:qX)(t:TypeId)(v:qT)(lo hi:Int):Prop where
 blk:w.heap[a]?=some (qR cs t (0,0))
 sz:o+3<=cs.size
 c0:cs[o]?=some v
 c1:cs[o+1]?=some (qC lo)
 c2:cs[o+2]?=some (qC hi)
def GB.gc{w B o cs t v lo hi}(a:GB w B o cs t v lo hi):GC w B o v lo hi:=
 ⟨by rw[xF w B o _ _ _ a.blk];exact a.c0,by rw[xF w B _ _ _ _ a.blk];exact a.c1,by rw[xF w B _ _ _ _ a.blk];exact a.c2⟩
def GB.gf{w B o cs t v lo hi}(a:GB w B o cs t v lo hi):GF w B o:=
 ⟨xY w B _ _ _ a.blk,xY w B _ _ _ a.blk,xY w B _ _ _ a.blk⟩
def GB.lt{w B o cs t v lo hi}(a:GB w B o cs t v lo hi):B<w.heap.size:=lt_of_block a.blk
def GB.self{w B o cs t v lo hi}(a:GB w B o cs t v lo hi):set3 cs o v (qC lo) (qC hi)=cs:=
 (jM rfl a.sz a.c0 a.c1 a.c2 (λ_ _ _ _=>rfl)).symm
def GB.block{w w' B o cs t v lo hi}(a:GB w B o cs t v lo hi)(b:w'.heap[B]? =w.heap[B]?):GB w' B o cs t v lo hi:=⟨b.trans a.blk,a.sz,a.c0,a.c1,a.c2⟩
def GB.qe{w B o cs t v lo hi}(b:w.heap[B]?=some (qR (set3 cs o v (qC lo) (qC hi)) t (0,0)))(a:o+3<=cs.size):GB w B o (set3 cs o v (qC lo) (qC hi)) t v lo hi:=
 ⟨b,by rw[yQ];exact a,by rw[yb _ _ _ _ _ _ a];simp,by rw[yb _ _ _ _ _ _ a];simp,by rw[yb _ _ _ _ _ _ a];simp⟩
def zQ.trans{w w1 w2 S T U}(b:zQ w w1 S)(c:zQ w1 w2 T)(g:∀a,a<w.heap.size->S a->U a)(h:∀a,a<w.heap.size->T a->U a):zQ w w2 U:=
 ⟨c.os.trans b.os,c.tape.trans b.tape,c.output.trans b.output,vC b.size c.size,λa d f=>(c.block a (ve d b.size) (λe=>f (h a d e))).trans (b.block a d (λe=>f (g a d e)))⟩
def Rw(a:qS)(b:Nat)(c:qV)(d:qU):Prop:=a.heap[b]?=some (qR (zI .i32 c++d).toArray 21 (0,0))
structure KH(w w':qS)(a o g:Nat)(cs:qX)(t:TypeId)(v:qT)(lo hi:Int)(zs:qV)(sp:qU):Prop where
 gb:GB w' a o (set3 cs o v (qC lo) (qC hi)) t v lo hi
 rw:Rw w' g zs sp
 chg:zQ w w' (λk=>k=a\/k=g)
def Dw{w w1 B o g cs t v lo hi L tt}(c:GB w B o cs t v lo hi)(h:B≠g)(i:zZ w w1 g L tt)(a b):
  ((w1.setCell (qP B (o+1)) (qC a)).setCell (qP B (o+2)) (qC b)).heap[B]?=some (qR (set3 cs o v (qC a) (qC b)) t (0,0)):=by
 have d:=(i.block B h).trans c.blk;have e:=xN w1 B (o+1) _ _ (qC a) d;have f:=xN _ B (o+2) _ _ (qC b) e;have j:=c.sz;rw[f]
 congr 2
 apply jM qH c.sz
 ·rw[xC,xC,xJ qF,xJ qF];exact c.c0
 ·rw[xC,xC,xJ qF,xS rfl,xS qF]
 ·rw[xC,xS rfl,xS qJ]
 intro k l m n;rw[xC,xC,xJ qF,xJ qF]
def zH{b:qS}{a v k}(c:k≠a.block):(b.setCell a v).heap[k]? =b.heap[k]?:=xj b a k v c
def Gp{w w1 B o g cs t v lo hi zs sp}(e:GB w B o cs t v lo hi)(d:B≠g)(c:zZ w w1 g (zI .i32 zs++sp) 21)(a b):
  KH w ((w1.setCell (qP B (o+1)) (qC a)).setCell (qP B (o+2)) (qC b)) B o g cs t v a b zs sp:=by
 refine⟨GB.qe (Dw e d c a b) e.sz,?_,?_⟩
 ·show _=_
  rw[zH (by show g≠B;exact d.symm),zH (by show g≠B;exact d.symm)];exact c.row
 refine⟨c.os,c.tape,c.output,by simp[c.size],λf j h=>?_⟩;rw[zH (by simp_all),zH (by simp_all)];exact c.block f (λi=>h (.inr i))
def ON(B o g cap)(cs)(t)(zs)(sp)(a b c:Nat)(w)(d:GB w B o cs t (qM (qD g 0) zs.length cap) a b)(l:Rw w g zs sp)(h:B≠g)
  (m:zs.length<=cap) (n:GV zs a b) (p:c+(b-a)<=zs.length):
  Calls prog 249 #[qO B o,qC c] w λe f=>e=qQ (.tuple #[])/\KH w f B o g cs t (qM (qD g 0) zs.length cap) c ((c+(b-a):Nat)) (yU (zW zs a b) c zs.length) sp:=
 (moveToN B o g cap zs sp a b c w d.gc d.gf l h m n p).mono λe f⟨i,q,j,k⟩=>⟨i,by rw[k];exact Gp d h j _ _⟩
structure jQ(w:qS)(lo hi c:Nat)(e d:qT)(vs:qU)(gs:List Gr)(a b:Nat)(f:Int)(g:qV):Prop where
 blk:w.heap[c]?=some (qR #[e,qC a,qC b,qC f,d] 103 (0,0))
 rows:yt 100 w lo hi e vs gs
 starts:Zr w lo d g
 sbl:bel hi d
def concat1(xs)(vs)(B)(w)(m:Sl .i32 w vs xs)(n:B<w.heap.size)(o:w.cell? (qP B 0)=some vs)(H:xs.length<=1048576):
  Calls prog 73 #[qM (qD B 0) 1 1] w λj k=>∃l,j=qQ l/\jU k w.heap.size l xs/\qY w k:=by
 obtain⟨p,q,x,y,z⟩:=vw Tryz.qc;have HS:=zC m
 focus
  rcases m with ⟨rfl,rfl⟩ | ⟨I,J,A,rfl,_,_⟩
  have f:=zC xB;rotate_left;have a:=zC xB;rotate_left
  all_goals
   skip;go_enter func73,ntmps73;go_wp2;refine xQ 2 ?_;rw[xG];go_wp2;rw[xG];go_wp2_with fail
   first
    |(revert a;intro a;(refine(Jj _ _ qF).mono ?_))
    |((refine(Jj 0 _ qF).mono ?_))
   rintro j K ⟨L,rfl,r,c⟩;have b:=zC r;have d:=zC c;have g:=c.size;have C:=(c.cell n).trans o;clear r c;go_wp2_with fail;refine xQ 2 ?_;rw[xG]
   first
    |(revert a;intro a;have s:=zC (HS.below d |>.rd rfl);(go_wp2_with (at_builtin;refine xM _ rfl _ _ 48 rfl _ 21 p _ 1 4 underlying48 q x y z rfl qG _ _ _ rfl b _ _ A _ rfl (by rw[zG,Qm]) s (zJ _ _) qK qF g ?_;intro F G h i _));have t:=zC h;have e:=zC (d.grown i g (λu v=>(b.lt u v).1));have D:=e.size;have E:=(e.cell n).trans o;clear h i;go_wp2)
    |(go_wp2_with (at_builtin;refine wpList_append_own_none rfl _ _ 48 rfl _ 21 p 1 underlying48 q _ _ _ rfl b rfl ?_))
   rw[xG];go_wp2;go_ret
   first
    |(revert f;intro f;(exact⟨_,rfl,by simpa[jU,zI]using b.out,d⟩))
    |((exact⟨_,rfl,by simpa[jU,zI]using t.out,e⟩))
