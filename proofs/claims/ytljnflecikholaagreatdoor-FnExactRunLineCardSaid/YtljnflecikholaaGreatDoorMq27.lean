import Derived.Test.YtljnflecikholaaGreatDoorMq26
set_option linter.all false
set_option maxRecDepth 100000
set_option maxHeartbeats 8000000
namespace Go.Proofs.YtljnflecikholaaGreatDoor
open Go Go.RowKit Go.Proofs.Tryz
section
open Go.Sort Go.BigFrame
abbrev Xc(a b c:Int)(d e:qT)(f g h i j:Int):qX:=#[qC a,qC b,qC c,d,e,qC f,qC g,qC h,qC i,qC j]
section
variable {w w':World} {B s:Nat} {x:V7} {M:SS} {b0 b1 b2:Int} {ta:Option Addr} {tl tq:Nat}
def Pr.ob{W W' op R cs f}(q:Pr w B s op M W)(r:W.heap[R]?=some (qR cs 81 f))(z:w.heap.size+1<R)(A:B<=w.heap.size)(c:∀a,a≠R->W'.heap[a]? =W.heap[a]?)(n:W.heap.size<=W'.heap.size)(k:W'.os=W.os/\W'.tape=W.tape/\W'.output=W.output):Pr w B s op M W':=by
 obtain⟨⟨t,b,l⟩,u,v⟩:=q;have d:=KT.at r (.inr (.inr (.inr rfl))) n (λa _ g=>c a g)
 have h:∀{a:Nat}{i:qX}{o:TypeId}{j:Nat×Nat},W.heap[a]?=some (qR i o j)->o≠81->a≠R:=λe ht y=>by
  simp_all
 obtain⟨C,x,_⟩:=b.sl;obtain⟨ls,b1,_⟩:=b.lg;have m:=b.blk;unfold S7 at m;have p:=b.to d ((c s (h m qG)).trans b.blk) ⟨rfl,rfl,rfl,rfl⟩ (λa g=>by obtain⟨_,_,e⟩:=jr x g;exact c a (h e qG)) (λa g=>by obtain⟨_,_,e⟩:=jr b1 g;exact c a (h e qG)) (b.tx.kt d) (b.ms.kt d) (b.un.kt d) (b.re.kt d) (b.gr.kt d) rfl b.ul;exact⟨⟨t,p,l.kt.trans d,l.bl.trans ⟨k.1,k.2.1,k.2.2,n,λa g=>c a qF⟩,λa i j e=>(c a (by have:=(qZ.1 e).1;omega)).trans (l.ob a i j e)⟩,(c _ qF).trans u,(c _ qF).trans v⟩
def Pr.obC{W op R j v cs f}(c:Pr w B s op M W)(d:W.heap[R]?=some (qR cs 81 f))(e:w.heap.size+1<R)(g:B<=w.heap.size):Pr w B s op M (W.setCell (qP R j) v):=c.ob d e g (λa b=>xj W _ a v b) qH ⟨rfl,rfl,rfl⟩
def Pr.obR{W op R row cs f}(c:Pr w B s op M W)(d:W.heap[R]?=some (qR cs 81 f))(e:w.heap.size+1<R)(g:B<=w.heap.size):Pr w B s op M (W.setRow R row):=c.ob d e g (λa b=>vG W R a row b) qH ⟨rfl,rfl,rfl⟩
def sr8{ops rest c a W Q b u v x0 x1 x2 l li un re o tv mv}(d:W.heap[b]?=some (qR (yg 0 0 0 qN qN) 81 (0,0)))(e:wpList prog ops Q rest (a.put c.dst undef) (W.setRow b (Xc x0 x1 x2 tv mv l li un re o)))
  (f:c.guard=none:=by rfl) (g:c.op= .store 81 u v:=by rfl) (h:a.eval u= .pointer (qD b 0):=by rfl) (i:a.eval v= .agg (Xc x0 x1 x2 tv mv l li un re o):=by rfl) (j:(Xc x0 x1 x2 tv mv l li un re o).all (·.oneCell')=true:=by simp[Value.oneCell']):wpList prog ops Q (c::rest) a W:=
 yM f 81 u v g b _ _ 81 h i d qI rfl j e
def MN{fn R tmps}{b:qS}{q x0 x1 x2 l li un re o ua ma ul uk ml mk cs f}(r:fn.results= #[.cell 4 81])(s:b.heap[q]?=some (qR cs 81 f))(t:tmps[4]?=some (qO q 0))(u:R (qQ (.agg (Xc x0 x1 x2 (qM ua ul uk) (qM ma ml mk) l li un re o))) (b.setRow q (Xc x0 x1 x2 (qM ua ul uk) (qM ma ml mk) l li un re o))):bodyPost prog fn R .ret {tmps:=tmps,defers:=[]} (b.setRow q (Xc x0 x1 x2 (qM ua ul uk) (qM ma ml mk) l li un re o)):=by
 have a:=kT b q _ (Xc x0 x1 x2 (qM ua ul uk) (qM ma ml mk) l li un re o) _ _ s;have c:=c8 0 a;have d:=c8 1 a;have e:=c8 2 a;have g:=c8 3 a;have h:=c8 4 a;have j:=c8 5 a;have k:=c8 6 a;have m:=c8 7 a;have n:=c8 8 a;have p:=c8 9 a;generalize b.setRow q _=v at *;exact vg (by simp[results,r,go_sem,t,c,d,e,g,h,j,k,m,n,p]) rfl u
def KT.cell{W q j v cs f}(c:W.heap[q]?=some (qR cs 81 f)):KT W (W.setCell (qP q j) v):=KT.at c (.inr (.inr (.inr rfl))) qH (λa _ b=>xj W _ a v b)
def St.row{w1 row cs f}(l:St w B s M w1)(m:w1.heap[w.heap.size+1]?=some (qR cs 81 f))(r:B<=w.heap.size):St w B s M (w1.setRow (w.heap.size+1) row):=by
 obtain⟨n,a,i⟩:=l;have b:KT w1 (w1.setRow _ row):=KT.setRow m;refine⟨n,?_,i.kt.trans b,i.bl.trans ⟨rfl,rfl,rfl,qH,λq d=>vG w1 _ q _ qF⟩,λq g h c=>(vG w1 _ q _ (by have:=(qZ.1 c).1;omega)).trans (i.ob q g h c)⟩;obtain⟨t,o,_⟩:=a.sl;obtain⟨ls,b1,_⟩:=a.lg
 have e:∀{q:Nat}{g:qX}{k:TypeId}{h:Nat×Nat},w1.heap[q]?=some (qR g k h)->k≠81->q≠w.heap.size+1:=λc ht p=>by
  simp_all
 have j:=a.blk;unfold S7 at j;refine a.to b ((vG w1 _ s _ (e j qG)).trans a.blk) ⟨rfl,rfl,rfl,rfl⟩ (λq d=>?_) (λq d=>?_) (a.tx.kt b) (a.ms.kt b) (a.un.kt b) (a.re.kt b) (a.gr.kt b) rfl a.ul
 ·obtain⟨_,_,c⟩:=jr o d
  exact vG w1 _ q _ (e c qG)
 obtain⟨_,_,c⟩:=jr b1 d;exact vG w1 _ q _ (e c qG)
def zBl(b:qS)(i j:Nat)(k l m:Int)(n:qV)(o:List Mk)(a:SS)(p:Ending)(c:qS):Prop:=
 ∃d e f g h mk,p=qQ (.agg (Xc k l m (qM d e f) (qM g h mk) a.tx.length (js a.tx+1) a.un.length a.re.length (if a.op then 1 else 0)))/\zT c b.heap.size (qM d e f) n/\zS c b.heap.size (qM g h mk) o/\St b i j a c
end
section
variable {w w':World} {B s:Nat} {x:V7} {M:SS} {b0 b1 b2:Int} {ta:Option Addr} {tl tq:Nat}
def sr9{ops rest c a W Q b u v x0 x1 x2 tv mv cs}(d:W.heap[b]?=some (qR cs 81 (0,0)))(e:cs.size=10)(f:wpList prog ops Q rest (a.put c.dst undef) (W.setRow b (yg x0 x1 x2 tv mv)))
  (g:c.guard=none:=by rfl) (h:c.op= .store 81 u v:=by rfl) (i:a.eval u= .pointer (qD b 0):=by rfl) (j:a.eval v= .agg (yg x0 x1 x2 tv mv):=by rfl) (k:(yg x0 x1 x2 tv mv).all (·.oneCell')=true:=by simp[Value.oneCell']):wpList prog ops Q (c::rest) a W:=
 yM g 81 u v h b _ _ 81 i j d qI e k f
def Rt:(∀{c r k ai aj y z A B C D d h j O P}(E)(Q:SM c r k ai aj)(X:∀ah,qY c ah->A7 67 ah r k E y z A (qM B C D) 0 h j O P d)(ar:d.tx.length<=8192)(az:d.un.length<=1000000/\d.re.length<=1000000),Calls prog 35 #[qO k 0,.agg (yp E y z A (qM B C D))] c (zBl c r k 0 h j O P d))/\(∀{c r k ai aj y z A B C D d}(e E)(ba:¬e=0)(Q:SM c r k ai aj)(X:∀ah,qY c ah->A7 67 ah r k E y z A (qM B C D) e 0 0 [] [] d)(ar:d.tx.length<=8192)(az:d.un.length<=1000000/\d.re.length<=1000000),Calls prog 35 #[qO k 0,.agg (yp E y z A (qM B C D))] c (zBl c r k e 0 0 [] [] d)):=by
 refine⟨@λc r k ai aj y z A B C D d h j O P E Q X ar az=>have f:=zC xB;?_,@λc r k ai aj y z A B C D d e E ba Q X ar az=>have ak:=zC xB;?_⟩
 all_goals
  unfold A7 at X;have M:=zC (Pr.start Q (yp E y z A (qM B C D)));have bj:=zC (X _ (U3 c (yp E y z A (qM B C D))));have p:=Q.hB;have b8:=Q.lt;clear Q X;go_enter func35,ntmps35;go_upto_region 1 with fail;generalize b2:World.alloc _ _=ch at *;have b9:=c8 0 M.2.1;have ca:=c8 1 M.2.1;have cb:=c8 2 M.2.1;have z3:=c8 3 M.2.1;have cc:=c8 4 M.2.1;have cd:=(qZ.1 M.2.2).1;clear b2;go_wp2_with fail;refine bj.mono ?_;rintro b4 Y ⟨H,I,J,K,L,mk,rfl,bc,bd,hst⟩;have a3:=zC (M.step hst);have w:=(qZ.1 a3.2.2).1;have al:=(xe _ Y).alloc lR (qR (yg 0 0 0 qN qN) 81);have a4:=zC (a3.below al);have N:=zC (show(Y.alloc (qR (yg 0 0 0 qN qN) 81)).heap[Y.heap.size]?=some _ from xI _ _)
  first
   |(revert f;intro f;skip
     have Z:=zC (a4.obR (row:=yg 0 h j (qM H I J) (qM K L mk)) N w p);have q:=zC (kT _ _ _ (yg 0 h j (qM H I J) (qM K L mk)) _ _ N)
     have aa:=zC (show zT ((Y.alloc _).setRow _ (yg 0 h j (qM H I J) (qM K L mk))) c.heap.size _ O/\zS ((Y.alloc _).setRow _ (yg 0 h j (qM H I J) (qM K L mk))) c.heap.size _ P from
      ⟨(show zT _ _ _ _ from zF (zE bc al lR) qF).kt (KT.setRow N),(zS.base (zS.below bd al lR) qF).kt (KT.setRow N)⟩))
   |(have Z:=zC (a4.obR (row:=yg e 0 0 (qM H I J) (qM K L mk)) N w p);have q:=zC (kT _ _ _ (yg e 0 0 (qM H I J) (qM K L mk)) _ _ N))
  clear bc bd hst al;go_upto_region 2 with (refine ZM N ?_)
  generalize World.setRow _ _ _=u at *;generalize Y.heap.size=b at *
  first
   |(revert ak;intro ak;have ab:=c8 0 q;(have ce:(e==0)=false:=by simpa using ba);have a5:=zC (Z.obR (row:=yg e 0 0 qN qN) q w p);have S:=zC (kT u b _ (yg e 0 0 qN qN) _ _ q);have aa:=zC (show zT (u.setRow b (yg e 0 0 qN qN)) c.heap.size _ []/\zS (u.setRow b (yg e 0 0 qN qN)) c.heap.size _ []from⟨xR _ _ _ _,xR _ _ _ _⟩);go_upto_region 4 with (refine sr9 q rfl ?_);clear ab Z q;generalize World.setRow u _ _=W at *;obtain⟨b5,au⟩:=a5.out.sm)
   |(obtain⟨b5,au⟩:=Z.out.sm)
  obtain⟨⟨ci,cj,bf⟩,_⟩:=au.vs;have am:=au.blk.c.1;rw[bf]at am;obtain⟨a,a0⟩:∃a,a=d.tx.length:=⟨_,rfl⟩
  have an:=zC a0;rw[<- a0]at am
  first
   |(revert f;intro f;have ab:=c8 0 q;have ac:=c8 5 q;have ad:=λn=>xY u b n _ _ q;have ao:=zC (Z.obC (j:=5) (v:=.int .i64 a) q w p);have x:=zC (show(u.setCell _ _).heap[b]?=some (qR (Xc 0 h j _ _ a 0 0 0 0) 81 _)from(xN u b 5 _ _ _ q).trans rfl);have av:=zC (show zT (u.setCell (qP b 5) (qC a)) _ _ O/\zS (u.setCell (qP b 5) (qC a)) _ _ P from⟨aa.1.kt (KT.cell q),aa.2.kt (KT.cell q)⟩))
   |(have ac:=c8 5 S;have ad:=λn=>xY W b n _ _ S;have ao:=zC (a5.obC (j:=5) (v:=.int .i64 a) S w p);have x:=zC (show(W.setCell _ _).heap[b]?=some (qR (Xc e 0 0 _ _ a 0 0 0 0) 81 _)from(xN W b 5 _ _ _ S).trans rfl);have av:=zC (show zT (W.setCell (qP b 5) (qC (a:Nat))) c.heap.size qN []/\zS (W.setCell (qP b 5) (qC (a:Nat))) c.heap.size qN []from⟨aa.1.kt (KT.cell S),aa.2.kt (KT.cell S)⟩))
  clear au bf a0;go_upto_region 5 with fail
  first
   |(revert ak;intro ak;generalize World.setCell W _ _=b3 at *)
   |(generalize World.setCell u _ _=b3 at *)
  obtain⟨b6,R⟩:=ao.out.sm;have bk:=zC (brk7 R ar)
  first
   |(revert f;intro f;clear R am ab ac ad)
   |(clear R am ac ad)
  go_wp2_with fail;refine bk.mono ?_;rintro b4 F ⟨rfl,rfl⟩;obtain⟨b6,R⟩:=ao.out.sm;obtain⟨_,_,⟨ck,cl,bg⟩,⟨cm,cn,bh⟩,_⟩:=R.vs;obtain⟨_,_,a1,a2,_,b7,_⟩:=R.blk.c;rw[bg]at a1;rw[bh]at a2;obtain⟨l,ax⟩:∃a,a=d.un.length:=⟨_,rfl⟩
  obtain⟨o,ay⟩:∃a,a=d.re.length:=⟨_,rfl⟩
  obtain⟨m,aq⟩:∃a,a=js d.tx:=⟨_,rfl⟩
  have bl:0<=m/\m<=8192:=(by rw[aq];have cf:=UN d.tx;omega);have cg:IntKind.i64.wrap (m+1)=m+1:=(by rw[vA];omega);have s:=zC (And.intro ax (And.intro ay aq));rw[<- ax]at a1;rw[<- ay]at a2;rw[<- aq];have bn:=c8 6 x;have bp:=c8 7 x;have bq:=c8 8 x;have ad:=λn=>xY F b n _ _ x
  have a6:=zC (ao.obC (j:=6) (v:=.int .i64 (m+1)) x w p)
  first
   |(revert f;intro f;have T:=(show(F.setCell _ _).heap[b]?=some (qR (Xc 0 h j _ _ a (m+1) 0 0 0) 81 _)from(xN F b 6 _ _ _ x).trans rfl))
   |(have T:=(show(F.setCell _ _).heap[b]?=some (qR (Xc e 0 0 _ _ a (m+1) 0 0 0) 81 _)from(xN F b 6 _ _ _ x).trans rfl))
  have a7:=zC (a6.obC (j:=7) (v:=.int .i64 l) T w p)
  first
   |(revert f;intro f;have U:=(show((F.setCell _ _).setCell _ _).heap[b]?=some (qR (Xc 0 h j _ _ a _ l 0 0) 81 _)from(xN _ b 7 _ _ _ T).trans rfl))
   |(have U:=(show((F.setCell _ _).setCell _ _).heap[b]?=some (qR (Xc e 0 0 _ _ a _ l 0 0) 81 _)from(xN _ b 7 _ _ _ T).trans rfl))
  have ae:=zC (a7.obC (j:=8) (v:=.int .i64 o) U w p)
  first
   |(revert f;intro f;have g:=zC (show(((F.setCell _ _).setCell _ _).setCell _ _).heap[b]?=some (qR (Xc 0 h j _ _ a _ l o 0) 81 _)from(xN _ b 8 _ _ _ U).trans rfl))
   |(have g:=zC (show(((F.setCell _ _).setCell _ _).setCell _ _).heap[b]?=some (qR (Xc e 0 0 _ _ a _ l o 0) 81 _)from(xN _ b 8 _ _ _ U).trans rfl))
  have K8:=((KT.cell x).trans (KT.cell T)).trans (KT.cell (j:=8) (v:=.int .i64 o) U);have V:=zC (And.intro (av.1.kt K8) (av.2.kt K8));clear R bg bh ax ay aq a6 a7 T U K8 bl;go_upto_region 8 with fail;generalize World.setCell _ _ _=G at *;obtain⟨co,bi⟩:=ae.out.sm;have a8:=bi.blk.c.2.2.2.2.2.1;clear bi a1 a2 b7 bn bp bq ad;cases hop:d.op
  ·rw[hop]at a8
   have af:=zC hop;clear hop;have ab:=c8 0 g;have br:=c8 1 g;have bs:=c8 2 g;have bt:=c8 3 g;have bu:=c8 4 g;have ac:=c8 5 g;have bv:=c8 6 g;have bw:=c8 7 g;have bx:=c8 8 g;have bz:=c8 9 g;have RR:=zC ae.2.2
   first
    |(revert f;intro f;(have ag:=zC (show zBl c r k 0 h j O P d (qQ (.agg (Xc 0 h j _ _ a (m+1) l o 0))) (G.setRow _ (Xc 0 h j (qM H I J) (qM K L mk) a (m+1) l o 0))from⟨_,_,_,_,_,_,by rw[an.out,s.out.1,s.out.2.1,s.out.2.2,af.out];rfl,V.1.kt (KT.setRow RR),V.2.kt (KT.setRow RR),ae.1.row RR p⟩)))
    |((have ag:=zC (show zBl c r k e 0 0 [] [] d (qQ (.agg (Xc e 0 0 qN qN a (m+1) l o 0))) (G.setRow (c.heap.size+1) (Xc e 0 0 qN qN a (m+1) l o 0))from⟨_,_,_,_,_,_,by rw[an.out,s.out.1,s.out.2.1,s.out.2.2,af.out];rfl,V.1.kt (KT.setRow RR),V.2.kt (KT.setRow RR),ae.1.row RR p⟩)))
   go_wp2_with (refine sr8 RR ?_);exact MN results35 RR rfl ag
  rw[hop]at a8;have af:=zC hop;clear hop;have b0:=c8 9 g;have b1:=xY G b 9 _ _ g;have aw:=zC (ae.obC (j:=9) (v:=.int .i64 1) g w p)
  first
   |(revert f;intro f;have t:=zC (show(G.setCell _ _).heap[b]?=some (qR (Xc 0 h j _ _ a _ l o 1) 81 _)from(xN G b 9 _ _ _ g).trans rfl))
   |(have t:=zC (show(G.setCell _ _).heap[b]?=some (qR (Xc e 0 0 _ _ a _ l o 1) 81 _)from(xN G b 9 _ _ _ g).trans rfl))
  have ap:=zC (And.intro (V.1.kt (KT.cell (j:=9) (v:=.int .i64 1) g)) (V.2.kt (KT.cell (j:=9) (v:=.int .i64 1) g)));go_upto_region 10 with fail;generalize World.setCell G _ _=a9 at *;clear b0 b1;have ab:=c8 0 t;have br:=c8 1 t;have bs:=c8 2 t;have bt:=c8 3 t;have bu:=c8 4 t;have ac:=c8 5 t;have bv:=c8 6 t;have bw:=c8 7 t;have bx:=c8 8 t;have bz:=c8 9 t;have RR:=zC aw.2.2
  first
   |(revert f;intro f;(have ag:=zC (show zBl c r k 0 h j O P d (qQ (.agg (Xc 0 h j _ _ a (m+1) l o 1))) (a9.setRow _ (Xc 0 h j (qM H I J) (qM K L mk) a (m+1) l o 1))from⟨_,_,_,_,_,_,by rw[an.out,s.out.1,s.out.2.1,s.out.2.2,af.out];rfl,ap.1.kt (KT.setRow RR),ap.2.kt (KT.setRow RR),aw.1.row RR p⟩)))
   |((have ag:=zC (show zBl c r k e 0 0 [] [] d (qQ (.agg (Xc e 0 0 qN qN a (m+1) l o 1))) (a9.setRow (c.heap.size+1) (Xc e 0 0 qN qN a (m+1) l o 1))from⟨_,_,_,_,_,_,by rw[an.out,s.out.1,s.out.2.1,s.out.2.2,af.out];rfl,ap.1.kt (KT.setRow RR),ap.2.kt (KT.setRow RR),aw.1.row RR p⟩)))
  go_wp2_with (refine sr8 RR ?_);exact MN results35 RR rfl ag
def step7:=@Rt.1
def stepN7:=@Rt.2
end
end
structure Rs where
 ec:Int
 x1:Int
 x2:Int
 T:qV
 ms:List Mk
 M:SS
def yu(a:Rs):Ob:=⟨a.ec,a.x1,a.x2,a.T,a.ms,a.M.tx.length,js a.M.tx+1,a.M.un.length,a.M.re.length,if a.M.op then 1 else 0⟩
def Mt(a:SS)(b:List Rs)(c:Nat):SS:=(a::b.map Rs.M).getD c a
def U5{M0 rs k r}(a:rs[k]?=some r):Mt M0 rs (k+1)=r.M:=by
 unfold Mt;rw[vM,xP,xZ,a];rfl
def Gi{M0 rs qs k}(a:k<=rs.length):Mt M0 (rs++qs) k=Mt M0 rs k:=by
 unfold Mt;rw[xP,xP,vX,<- vI,xW qJ]
section
variable {e:TypeId} {size:Nat} {w w':World} {lo hi hi':Nat} {vs:List Value} {cs:List (List Value)} {ns:List Nat}
def yR.keep(b:yR e size w lo hi vs cs ns)(l:∀c∈vs,∀a,c.ownBlock=some a->w'.heap[a]? =w.heap[a]?):yR e size w' lo hi vs cs ns:=
 ⟨b.len,b.len2,λf c g h d i j=>zD (b.own f c g h d i j) (λa k=>l c (xH d) a k),b.bl,b.ne⟩
def yR.ty(a:yR e size w lo hi vs cs ns){v}(c:v∈vs){q}(d:v.ownBlock=some q):∃cs b,w.heap[q]?=some (qR cs e b):=by
 obtain⟨f,hi⟩:=List.mem_iff_getElem?.1 c;have g:=(xp.1 hi).1;have h:=a.len;have i:=a.len2;exact jr (a.own f v _ _ hi (xw qF) (xw qF)) d
def Za.snoc{v' tv mv vts vms xs o}(c:yR 21 1 w lo hi vts (xs.map λa=>zI .i32 a.t) (xs.map λa=>a.t.length))(d:yR 166 3 w lo hi vms (xs.map λa=>zY a.m) (xs.map λa=>a.m.length))(h:w.ownsRow lo 81 10 v' (xs.length+1) (jZ vts vms xs++Fk o tv mv))(ht:zT w lo tv o.t)(i:zS w lo mv o.m)
  (j:∀b,tv.ownBlock=some b->hi<=b/\b<hi') (k:∀b,mv.ownBlock=some b->hi<=b/\b<hi') (e:hi<=hi') (l:belO hi' v'):Za w lo hi' v' (vts++ [tv]) (vms++ [mv]) (xs++ [o]):=by
 have f:vts.length=xs.length:=by rw[c.len,xO]
 have g:vms.length=xs.length:=by rw[d.len,xO]
 have m:=c.snoc ht j e;have n:=d.snoc i k e;refine⟨?_,l,?_,?_⟩
 ·rw[xg,DH f g];simpa[jZ]using h
 ·simp_all
 simp_all
end
def JV(b:Nat)(a:Int)(x:Ob):Ob:=if b=0 then {x with c:=a} else if b=1 then {x with x:=a} else if b=2 then {x with y:=a} else if b=5 then {x with l:=a} else if b=6 then {x with n:=a} else if b=7 then {x with u:=a} else if b=8 then {x with r:=a} else {x with o:=a}
def Xw(j)(z)(x):(JV j z x).t=x.t/\(JV j z x).m=x.m:=by
 unfold JV
 repeat' split
 all_goals simp
def Ps:∀(vts vms)(xs)(i a)(x)(b),vts.length=xs.length->vms.length=xs.length->xs[i]?=some x->(a<10/\a≠3/\a≠4)->(jZ vts vms xs).set (i*10+a) (qC b)=jZ vts vms (xs.set i (JV a b x))
 | [],_,[],i,a,x,b,_,_,l,_=>by simp at l
 | f::vts,g::vms,h::xs,0,a,x,b,c,d,e,j=>by
  simp at e;subst e;rw[QC,jZ,jZ,Nat.zero_mul,xX,List.set_append_left _ _ (by show a<10;omega)]
  congr 1
  have k:a=0\/a=1\/a=2\/a=5\/a=6\/a=7\/a=8\/a=9:=qF;rcases k with rfl | rfl | rfl | rfl | rfl | rfl | rfl | rfl<;>rfl
 | f::vts,g::vms,h::xs,i+1,a,x,b,c,d,e,j=>by
  rw[Qr,jZ,jZ,kj _ _ (by show 10<=_;omega),show(i+1)*10+a-(Fk h f g).length=i*10+a by show _-10=_;omega,Ps vts vms xs i a x b (by simpa using c) (by simpa using d) (by simpa using e) j]
 | [],_,_::_,_,_,_,_,c,_,_,_=>by simp at c
 | _::_,_,[],_,_,_,_,c,_,_,_=>by simp at c
 | _::_,[],_::_,_,_,_,_,_,d,_,_=>by simp at d
def yV{α β:Type}{f:α->β}{a:List α}{i x y}(b:a[i]?=some x)(d:f y=f x):(a.set i y).map f=a.map f:=by
 apply kZ;intro e;rw[xZ,xZ,Qk]
 split
 ·rename_i c
  subst c;rw[xS (xp.1 b).1,b];simp[d]
 rfl
def Kx(e:qU)(f g:qS):Prop:=∀(b)(c)(a)(d),f.heap[b]?=some (qR c a d)->a≠81->a≠166->(a=21->∀v∈e,v.ownBlock≠some b)->g.heap[b]?=some (qR c a d)
def Kx.refl(vts)(w):Kx vts w w:=λ_ _ _ _ a _ _ _=>a
def Kx.trans{vts a b c}(l:Kx vts a b)(m:Kx vts b c):Kx vts a c:=λd e f g k h i j=>m d e f g (l d e f g k h i j) h i j
section
variable {w w':World} {lo hi g n i:Nat} {vts vms:List Value} {xs:List Ob} {x:Ob}
def Za.num(b:Za w lo hi (qM (qD g 0) n n) vts vms xs)(t:xs.length=n)(e:xs[i]?=some x){j}(u:j<10/\j≠3/\j≠4)(z):Za (w.setCell (qP g (i*10+j)) (qC z)) lo hi (qM (qD g 0) n n) vts vms (xs.set i (JV j z x))/\Kx vts w (w.setCell (qP g (i*10+j)) (qC z)):=by
 have p:vts.length=xs.length:=by rw[b.nt.len,xO]
 have q:vms.length=xs.length:=by rw[b.nm.len,xO]
 have k:=b.row;rw[t]at k;obtain⟨B,C,D⟩:=jr k rfl;have hst:=(k.stored (i*10+j) (qC z)).1;rw[Ps vts vms xs i j x z p q e u]at hst
 have l:∀{a:Nat}{d:qX}{h:TypeId}{f:Nat×Nat},w.heap[a]?=some (qR d h f)->h≠81->(w.setCell _ (qC z)).heap[a]? =w.heap[a]?:=λ{a d h f}c ht=>xj _ (qP g (i*10+j)) a _ (λv=>by
  simp_all)
 refine⟨⟨by simp_all,b.rb,?_,?_⟩,λa d h f c r y A=>(l c r).trans c⟩
 ·rw[yV e (by rw[(Xw j z x).1]),yV e (by rw[(Xw j z x).1])]
  exact b.nt.keep (λs m a o=>by obtain⟨d,f,c⟩:=b.nt.ty m o;exact l c qG)
 rw[yV e (by rw[(Xw j z x).2]),yV e (by rw[(Xw j z x).2])];exact b.nm.keep (λs m a o=>by obtain⟨d,f,c⟩:=b.nm.ty m o;exact l c qG)
def yR.put{e size m vs cs ns v c c0}(a:yR e size w lo hi vs cs ns)(r:vs[i]?=some v)(t:cs[i]?=some c0)(u:ns[i]?=some m)(x:w'.ownsRow lo e size v m c)(s:w.grownBy w' v.ownBlock):yR e size w' lo hi vs (cs.set i c) ns:=by
 refine⟨by rw[kC];exact a.len,a.len2,λg h n o j b p=>?_,a.bl,a.ne⟩;rw[Qk]at b
 split at b
 ·simp_all
 rename_i l;have f:=a.own g h n o j b p;exact zD f (λd k=>s.block d (f.lt d k).2 (λq=>a.ne i g v h d l r j q.symm k))
def XY:∀(vts vms)(xs)(i)(x b),xs[i]?=some x->(∀d e,Fk b d e=Fk x d e)->jZ vts vms (xs.set i b)=jZ vts vms xs
 | [],_,_,_,_,_,_,_=>by simp[jZ]
 | _::_,[],_,_,_,_,_,_=>by simp[jZ]
 | _::_,_::_,[],_,_,_,a,_=>by simp at a
 | f::vts,g::vms,h::xs,0,x,b,a,c=>by
  simp at a;subst a;rw[QC,jZ,jZ,c]
 | f::vts,g::vms,h::xs,i+1,x,b,a,c=>by
  rw[Qr,jZ,jZ,XY vts vms xs i x b (by simpa using a) c]
def Za.keepR(i:Za w lo hi (qM (qD g 0) n n) vts vms xs){e v m size ys}(d:w.ownsRow lo e size v m ys)(h:w.grownBy w' v.ownBlock){q:Nat}{cs t f}(b:w.heap[q]?=some (qR cs t f))(ht:t≠e):w'.heap[q]? =w.heap[q]?:=h.block q (qZ.1 b).1 (λc=>by
 obtain⟨j,k,a⟩:=jr d c.symm;rw[b]at a;simp at a
 exact ht a.2.1)
theorem Za.txt {v} {zs} (a:Za w lo hi (.slice (some ⟨g,0,none⟩) n n) vts vms xs) (b:xs[i]? =some x) (h:vts[i]? =some v) (r:zs.length=x.t.length) (s:w'.ownsRow lo 21 1 v x.t.length (zI .i32 zs)) (j:w.grownBy w' v.ownBlock):Za w' lo hi (.slice (some ⟨g,0,none⟩) n n) vts vms (xs.set i {x with t:=zs})∧Kx vts w w':=by
 have k:=a.nt.own i v _ _ h (by rw [xZ,b];rfl) (by rw [xZ,b];rfl)
 have c:=fun {q cs t f}=>a.keepR (q:=q) (cs:=cs) (t:=t) (f:=f) k j
 refine⟨⟨?_,a.rb,?_,?_⟩,fun q cs t f e z A m=>?_⟩
 ·rw [kC,XY vts vms xs i x {x with t:=zs} b (fun _ _=>rfl)]
  exact zD a.row (fun q d=>by obtain⟨cs,f,e⟩:=jr a.row d;exact c e (by decide))
 ·have l:=a.nt.put h (by rw [xZ,b];rfl) (by simp_all) s j
  rw [yV (f:=fun x:Ob=>x.t.length) b r,List.map_set]
  exact l
 ·rw [yV (y:={x with t:=zs}) b rfl,yV (y:={x with t:=zs}) b rfl]
  exact a.nm.keep (fun u o q d=>by obtain⟨cs,f,e⟩:=a.nm.ty o d;exact c e (by decide))
 by_cases ht:t=21
 ·rw [j.block q (qZ.1 e).1 (fun p=>m ht v (xH h) p.symm)];exact e
 exact(c e ht).trans e
theorem Za.mks {v} {zs} (a:Za w lo hi (.slice (some ⟨g,0,none⟩) n n) vts vms xs) (b:xs[i]? =some x) (j:vms[i]? =some v) (k:zs.length=x.m.length) (h:zS w' lo v zs) (l:w.grownBy w' v.ownBlock):Za w' lo hi (.slice (some ⟨g,0,none⟩) n n) vts vms (xs.set i {x with m:=zs})∧Kx vts w w':=by
 have o:=a.nm.own i v _ _ j (by rw [xZ,b];rfl) (by rw [xZ,b];rfl)
 have c:=fun {q cs t f}=>a.keepR (q:=q) (cs:=cs) (t:=t) (f:=f) o l
 unfold zS at h;rw [k]at h
 refine⟨⟨?_,a.rb,?_,?_⟩,fun q cs t f e z r A=>(c e r).trans e⟩
 ·rw [kC,XY vts vms xs i x {x with m:=zs} b (fun _ _=>rfl)]
  exact zD a.row (fun q d=>by obtain⟨cs,f,e⟩:=jr a.row d;exact c e (by decide))
 ·rw [yV (y:={x with m:=zs}) b rfl,yV (y:={x with m:=zs}) b rfl]
  exact a.nt.keep (fun u s q d=>by obtain⟨cs,f,e⟩:=a.nt.ty s d;exact c e (by decide))
 have p:=a.nm.put j (by rw [xZ,b];rfl) (by simp_all) h l
 rw [yV (f:=fun x:Ob=>x.m.length) b k,List.map_set]
 exact p
def Za.cellAt(c:Za w lo hi (qM (qD g 0) n n) vts vms xs)(d:xs.length=n)(b:xs[i]?=some x){vt vm}(e:vts[i]?=some vt)(f:vms[i]?=some vm){j}(h:j<10){u}(k:(Fk x vt vm)[j]?=some u):w.cell? (qP g (i*10+j))=some u:=by
 have a:=c.row;rw[d]at a;have l:=(xp.1 b).1;rw[a.cellAt _ qF,DC e f b h,k]
def Za.fzAt(b:Za w lo hi (qM (qD g 0) n n) vts vms xs)(c:xs.length=n)(j):w.frozen? (qP g j)=false:=by
 have a:=b.row;rw[c]at a;exact a.frozenAt j
end
def mk1(b:Int)(a:Ob):Ob:=⟨b,b+1,b+1+1,marks .i32 (b+1+1+1) a.t.length,Fj (b+1+1+1+a.t.length) a.m.length,(b+1+1+1+a.t.length+3*a.m.length),(b+1+1+1+a.t.length+3*a.m.length)+1,(b+1+1+1+a.t.length+3*a.m.length)+1+1,(b+1+1+1+a.t.length+3*a.m.length)+1+1+1,(b+1+1+1+a.t.length+3*a.m.length)+1+1+1+1⟩
def MP(a:Ob):Nat:=8+a.t.length+3*a.m.length
def jT:List Ob->Nat
 | []=>0
 | x::xs=>MP x+jT xs
def Y0:Int->List Ob->List Ob
 | _,[]=>[]
 | a,x::xs=>mk1 a x::Y0 (a+MP x) xs
def Y8:∀(b:Int)(a:List Ob),(Y0 b a).length=a.length
 | _,[]=>rfl
 | b,x::a=>by simp[Y0,Y8]
def Ej:∀(b a),jT (b++a)=jT b+jT a
 | [],a=>by simp[jT]
 | x::b,a=>by rw[vI,jT,jT,Ej];omega
def Ek:∀(a)(b c),Y0 a (b++c)=Y0 a b++Y0 (a+jT b) c
 | a,[],c=>by simp[Y0,jT]
 | a,x::b,c=>by
  rw[vI,Y0,Y0,Ek,vI,jT]
  congr 3
  push_cast;omega
def Pt{k}{a:List Ob}{j x}(b:a[j]?=some x):Y0 k (a.take (j+1))=Y0 k (a.take j)++ [mk1 (k+jT (a.take j)) x]:=by
 rw[J9 b,Ek];rfl
def Pu{a:List Ob}{j x}(b:a[j]?=some x):jT (a.take (j+1))=jT (a.take j)+MP x:=by
 rw[J9 b,Ej];simp[jT]
def OI(xs)(j):jT (xs.take j)<=jT xs:=by
 conv=>rhs;rw[<- vy j xs,Ej]
 omega
def Xx:∀(xs),jT xs<=8*Z8 xs
 | []=>by simp[jT]
 | x::xs=>by
  have:=Xx xs;unfold Z8 zAy at *;simp[jT,MP];omega
def Rv{k xs j x}(a:xs[j]?=some x):(Y0 k xs)[j]?=some (mk1 (k+jT (xs.take j)) x):=by
 have b:=(xp.1 a).1
 conv=>lhs;rw[<- vy _ xs,Ek,Pt a]
 rw[xW (by simp[Y8];omega),vb (by simp[Y8];omega)];simp[Y8,vu (kG b)]
def Rx{xs}{a:Nat}{x}(e:Z8 xs<=1048576)(c:xs[a]?=some x):x.t.length+x.m.length<=1048576:=by
 have b:=JJ c;have d:=PT xs (a+1);unfold zAy at b;omega
def MkP9(b:qS)(c g h d:Nat)(e i:qU)(f:List Ob)(j:Ending)(a:qS):Prop:=j=qQ (qC (1+jT f))/\Za a c g (qM (qD h 0) d d) e i (Y0 1 f)/\Kx e b a/\Below c b a
theorem Ry (lo hi g nn) (vts vms) (xs) (w) (D:Za w lo hi (.slice (some ⟨g,0,none⟩) nn nn) vts vms xs) (bx:Z8 xs<=1048576) (Z:xs.length=nn):
  Calls prog 29 #[.slice (some ⟨g,0,none⟩) nn nn,.int .i64 1] w (MkP9 w lo hi g nn vts vms xs):=by
 have cs:nn<=1048576:=by unfold Z8 at bx;omega
 have ct:=(D.row.lt g rfl).1
 have cu:lo<=w.heap.size:=by have:=(D.row.lt g rfl).2;omega
 have b6:=zC D;have F:=zC Z;have b7:=Xx xs;have a2:=zC (OI xs)
 have b8:=zC (show vts.length=nn by rw [D.nt.len,xO];exact Z)
 have b9:=zC (show vms.length=nn by rw [D.nm.len,xO];exact Z)
 have ca:=zC (show jT xs<=8388608 by omega)
 clear D Z b7;go_enter func29,ntmps29;go_wp2_with fail
 go_loopw [1,5] (fun cm i wr=>∃j:Nat,j<=nn∧i= .int .i64 j∧cm= .int .i64 (1+(jT (xs.take j)))∧Za wr lo hi (.slice (some ⟨g,0,none⟩) nn nn) vts vms (Y0 1 (xs.take j)++xs.drop j)∧Kx vts w wr∧Below lo w wr) (fun _ i _=>nn - (intOf i).toNat)
 case atStart=>exact⟨0,xK _,rfl,by simp [jT],by simpa [Y0]using b6.out,Kx.refl _ _,xe _ _⟩
 obtain⟨j,df,rfl,rfl,B,bz,b0⟩:=hrel;have ac:=zC b0;have ad:=zC bz;have a3:=a2.out j;have cv:=ca.out
 by_cases aq:j<nn
 ·obtain⟨x,aa⟩:∃y,xs[j]? =some y:=⟨_,xw (by rw [F.out];exact aq)⟩
  obtain⟨cn,C⟩:∃y,vts[j]? =some y:=⟨_,xw (by rw [b8.out];exact aq)⟩
  obtain⟨co,E⟩:∃y,vms[j]? =some y:=⟨_,xw (by rw [b9.out];exact aq)⟩
  have J:=Pu aa;have cb:=a2.out (j+1);have ae:=zC (Pt (k:=1) aa)
  have a4:xs.drop j=x::xs.drop (j+1):=by
   obtain⟨a,b⟩:=xp.1 aa;rw [<- b,<- vN a]
  have L:(Y0 1 (xs.take j)).length=j:=by rw [Y8,xi,F.out];omega
  rw [a4]at B;obtain⟨T,b1⟩:∃T,jT (xs.take j)=T:=⟨_,rfl⟩;rw [b1]at a3 J ae |-;obtain⟨r,au⟩:∃r,Y0 1 (xs.take j)=r:=⟨_,rfl⟩;obtain⟨R,ab⟩:∃R,xs.drop (j+1)=R:=⟨_,rfl⟩;rw [au,ab]at B;rw [au]at L ae
  have G:∀ (x y:Ob),(r++x::R).set j y=r++y::R:=fun x y=>by simp_all
  have n:∀ (x:Ob),(r++x::R)[j]? =some x:=fun x=>by simp_all
  have l:∀ (x:Ob),(r++x::R).length=nn:=fun x=>by rw [xg,vh,L,<- ab,xz,F.out];omega
  unfold MP at J;obtain⟨K,av⟩:∃K:Int,K=1+T:=⟨_,rfl⟩;rw [<- av]
  have cw:0<=K∧K<=8388609:=by omega
  have a5:x.t.length<=8388608∧x.m.length<=1048576:=by have:=Rx bx aa;omega
  have a6:=zC av;have af:=zC J;have cc:=zC ab;clear av J b1 au;have M0:=zC B;have a7:=zC ad.out;have a8:=zC ac.out
  have a9:=M0.out.cellAt (l _) (n _) C E (show 0<10 by omega) rfl
  have ba:=M0.out.fzAt (l _) (j*10+0)
  have s:=M0.out.num (l _) (n _) (j:=0) (by omega) (K)
  rw [G]at s
  have ag:=zC (show Za _ lo hi _ vts vms (r++{x with c:=K}::R)from s.1)
  have ah:=zC (a7.out.trans s.2)
  have ai:=zC (a8.out.setCell (p:=⟨g,j*10+0,none⟩) (by omega) (.int .i64 (K)))
  have cd:=M0.out.cellAt (l _) (n _) C E (show 1<10 by omega) rfl
  have ce:=M0.out.fzAt (l _) (j*10+1)
  have u:=ag.out.num (l _) (n _) (j:=1) (by omega) (K+1)
  rw [G]at u
  have M2:=zC (show Za _ lo hi _ vts vms (r++{x with c:=K,x:=K+1}::R)from u.1)
  have aj:=zC (ah.out.trans u.2)
  have ak:=zC (ai.out.setCell (p:=⟨g,j*10+1,none⟩) (by omega) (.int .i64 (K+1)))
  have cf:=M0.out.cellAt (l _) (n _) C E (show 2<10 by omega) rfl
  have cg:=M0.out.fzAt (l _) (j*10+2)
  have v:=M2.out.num (l _) (n _) (j:=2) (by omega) (K+1+1)
  rw [G]at v
  have H:=zC (show Za _ lo hi _ vts vms (r++{x with c:=K,x:=K+1,y:=K+1+1}::R)from v.1)
  have d:=zC (aj.out.trans v.2)
  have M:=zC (ak.out.setCell (p:=⟨g,j*10+2,none⟩) (by omega) (.int .i64 (K+1+1)))
  simp at a9 ba ag ah ai M2 aj ak H d M;clear s u v M0 ag M2 a7 ah aj a8 ai ak;have cx:=zC L;clear B ac ad L ab
  go_upto_region 10 with fail
  generalize World.setCell (World.setCell (World.setCell wr _ _) _ _) _ _=w1 at *;clear a9 cd cf ba ce cg
  have al:=H.out.cellAt (l _) (n _) C E (show 3<10 by omega) rfl
  have N:=H.out.nt.own j cn _ _ C (by rw [xZ,n];rfl) (by rw [xZ,n];rfl)
  obtain⟨at_,dg,cp⟩:=zv N;subst cp
  have O:=zC (TV _ _ lo _ (K+1+1+1) w1 N (by show x.t.length<=_;omega) (by omega) (by omega))
  have P:=zC N;have A:=zC C;have o:=zC E;have HG:=zC n;have HS:=zC G;have f:=zC l
  have EX:=zC (show ∀ (bw:Ob),bw.t=x.t->bw.t.length=x.t.length from fun _ e=>by rw [e])
  obtain⟨I,aw⟩:∃z,z=x.t.length:=⟨_,rfl⟩;have am:=zC aw;simp at O al P A;rw [<- aw]at O al P af a5 A;clear N C E n G l aw a4;go_wp2_with fail;refine O.out.mono ?_;rintro e b2 ⟨rfl,b3,ax⟩
  have TX:=H.out.txt (zs:=marks .i32 (K+1+1+1) I) (HG.out _) A.out (by rw [jG];exact am.out) (by show b2.ownsRow lo 21 1 _ x.t.length _;rw [<- am.out];exact b3) ax
  rw [HS.out]at TX;have Q:=zC TX.1;have bc:=zC (d.out.trans TX.2)
  have an:=zC (M.out.grown ax (by have:=M.out.size;omega) (fun q ar=>(P.out.lt q ar).1))
  have ao:=Q.out.cellAt (f.out _) (HG.out _) A.out o.out (show 4<10 by omega) rfl
  have S:=Q.out.nm.own j co _ _ o.out (by rw [xZ,HG.out];rfl) (by rw [xZ,HG.out];rfl)
  obtain⟨dh,di,cq⟩:=zv S;subst cq;have U:=zC S
  have V:=zC (GL x.m _ lo (K+1+1+1+I) b2 (S) (by omega) (by omega) (by omega))
  obtain⟨b4,ay⟩:∃z,z=x.m.length:=⟨_,rfl⟩;have bd:=zC ay;simp at ao U o V;rw [<- ay]at V ao U af a5 o;clear b3 ax TX H d M O al P S ay;go_wp2_with fail;refine V.out.mono ?_;rintro e w3 ⟨rfl,b5,az⟩
  have TX:=Q.out.mks (HG.out _) o.out (by rw [ZF];exact bd.out) b5 az
  rw [HS.out]at TX;have h:=zC TX.1;have K5:=zC (bc.out.trans TX.2)
  have bf:=zC (an.out.grown az (by have:=an.out.size;omega) (fun q ar=>(U.out.lt q ar).1))
  obtain⟨d,a0⟩:∃z:Int,z=K+1+1+1+I+3*b4:=⟨_,rfl⟩;rw [<- a0]
  have cy:0<=d∧d<=100000000:=by omega
  have bg:=zC a0;clear b5 az TX Q bc an V ao U a0 cb a3
  obtain⟨cr,a1⟩:∃X:Ob,X={x with c:=K,x:=K+1,y:=K+1+1,t:=marks .i32 (K+1+1+1) I,m:=Fj (K+1+1+1+I) b4}:=⟨_,rfl⟩
  rw [<- a1]at h;have ch:=zC a1;clear a1
  have cz:=h.out.cellAt (f.out _) (HG.out _) A.out o.out (show 5<10 by omega) rfl
  have c0:=h.out.fzAt (f.out _) (j*10+5)
  have s:=h.out.num (f.out _) (HG.out _) (j:=5) (by omega) (d)
  rw [HS.out]at s;have bh:=zC s.1;have bi:=zC (K5.out.trans s.2)
  have bj:=zC (bf.out.setCell (p:=⟨g,j*10+5,none⟩) (by omega) (.int .i64 (d)))
  have c1:=h.out.cellAt (f.out _) (HG.out _) A.out o.out (show 6<10 by omega) rfl
  have c2:=h.out.fzAt (f.out _) (j*10+6)
  have u:=bh.out.num (f.out _) (HG.out _) (j:=6) (by omega) (d+1)
  rw [HS.out]at u;have bk:=zC u.1;have bl:=zC (bi.out.trans u.2)
  have bn:=zC (bj.out.setCell (p:=⟨g,j*10+6,none⟩) (by omega) (.int .i64 (d+1)))
  have c3:=h.out.cellAt (f.out _) (HG.out _) A.out o.out (show 7<10 by omega) rfl
  have c4:=h.out.fzAt (f.out _) (j*10+7)
  have v:=bk.out.num (f.out _) (HG.out _) (j:=7) (by omega) (d+1+1)
  rw [HS.out]at v;have bp:=zC v.1;have K8:=zC (bl.out.trans v.2)
  have bq:=zC (bn.out.setCell (p:=⟨g,j*10+7,none⟩) (by omega) (.int .i64 (d+1+1)))
  have c5:=h.out.cellAt (f.out _) (HG.out _) A.out o.out (show 8<10 by omega) rfl
  have c6:=h.out.fzAt (f.out _) (j*10+8)
  have W:=bp.out.num (f.out _) (HG.out _) (j:=8) (by omega) (d+1+1+1)
  rw [HS.out]at W;have br:=zC W.1;have bs:=zC (K8.out.trans W.2)
  have bt:=zC (bq.out.setCell (p:=⟨g,j*10+8,none⟩) (by omega) (.int .i64 (d+1+1+1)))
  have da:=h.out.cellAt (f.out _) (HG.out _) A.out o.out (show 9<10 by omega) rfl
  have db:=h.out.fzAt (f.out _) (j*10+9)
  have Y:=br.out.num (f.out _) (HG.out _) (j:=9) (by omega) (d+1+1+1+1)
  rw [HS.out]at Y;have ci:=zC Y.1;have cj:=zC (bs.out.trans Y.2)
  have ck:=zC (bt.out.setCell (p:=⟨g,j*10+9,none⟩) (by omega) (.int .i64 (d+1+1+1+1)))
  clear s u v W Y bh bk bp br bi bl K8 bs bj bn bq bt;clear h K5 bf;go_wp2;go_roundw
  case rel=>
   refine⟨j+1,by omega,by go_num,?_,?_,cj.out,ck.out⟩
   ·have bu:=af.out
    have dc:=bg.out;have dd:=a6.out
    congr 1
    omega
   rw [ae.out,cc.out,vK];have bu:=ci.out
   have cl:mk1 (1+(T:Int)) x=JV 9 (d+1+1+1+1) (JV 8 (d+1+1+1) (JV 7 (d+1+1) (JV 6 (d+1) (JV 5 (d) cr)))):=by
    rw [<- a6.out,ch.out];unfold mk1;rw [<- am.out,<- bd.out,bg.out];simp [JV]
   show Za _ _ _ _ _ _ (r++(mk1 (1+(T:Int)) x::R))
   rw [cl];exact bu
  simp [intOf];omega
 obtain rfl:j=nn:=by omega
 have de:¬ (j:Int)<j:=by omega
 have ap:xs.take j=xs:=xU (by rw [F.out];omega)
 have bv:xs.drop j= []:=vx (by rw [F.out];omega)
 rw [ap,bv,vT]at B;rw [ap];have HM:=zC B;clear B bz b0 ap bv;go_wp2;go_ret;exact⟨rfl,HM.out,ad.out,ac.out⟩
def Rz(lo hi g nn)(vts vms)(xs)(w)(o:Za w lo hi (qM (qD g 0) nn nn) vts vms (Y0 1 xs))(K:Z8 xs<=1048576)(B:xs.length=nn):
  Calls prog 31 #[qM (qD g 0) nn nn,qC 1] w λy Z=>y=qQ (qC (1+(jT xs)))/\Z=w:=by
 have ag:nn<=1048576:=by unfold Z8 at K;omega
 have c:=zC o;have N:=zC B;have O:=Xx xs;have E:=zC (OI xs);have d:=zC (show(Y0 1 xs).length=nn by rw[Y8];exact B);have P:=zC (show vts.length=nn by rw[o.nt.len,xO];exact d);have Q:=zC (show vms.length=nn by rw[o.nm.len,xO];exact d);have R:=zC (show jT xs<=8388608 by omega);have S:=zC (show xs.take nn=xs from xU qF);clear o B O;go_enter func31,ntmps31;go_wp2_with fail;go_loopw [1,5] (λaa z wr=>∃a:Nat,a<=nn/\z=qC a/\aa=qC (1+(jT (xs.take a)))/\wr=w) (λ_ z _=>nn-(intOf z).toNat)
 case atStart=>exact⟨0,xK _,rfl,by simp[jT],rfl⟩
 obtain⟨a,aq,rfl,rfl,rfl⟩:=hrel;have T:=E a;have ah:=R.out;by_cases x:a<nn
 ·obtain⟨i,p⟩:∃m,xs[a]?=some m:=⟨_,xw (by rw[N.out];exact x)⟩
  obtain⟨ac,e⟩:∃m,vts[a]?=some m:=⟨_,xw (by rw[P.out];exact x)⟩
  obtain⟨ad,f⟩:∃m,vms[a]?=some m:=⟨_,xw (by rw[Q.out];exact x)⟩
  have n:=Pu p;have ai:=E (a+1);have b:=Rv (k:=1) p;have aj:=Rx K p;obtain⟨A,L⟩:∃A,jT (xs.take a)=A:=⟨_,rfl⟩
  rw[L]at T n b |-;obtain⟨h,C⟩:∃h:Int,h=1+A:=⟨_,rfl⟩
  rw[<- C]at b |-;have j:=c.nt.own a ac _ _ e (by rw[xZ,b];rfl) (by rw[xZ,b];rfl);have l:=c.nm.own a ad _ _ f (by rw[xZ,b];rfl) (by rw[xZ,b];rfl);have q:=c.cellAt d b e f (show 0<10 by omega) rfl;have F:=c.cellAt d b e f (show 1<10 by omega) rfl;have G:=c.cellAt d b e f (show 2<10 by omega) rfl;have H:=c.cellAt d b e f (show 3<10 by omega) rfl;have I:=c.cellAt d b e f (show 4<10 by omega) rfl;have r:=c.cellAt d b e f (show 5<10 by omega) rfl;have s:=c.cellAt d b e f (show 6<10 by omega) rfl;have t:=c.cellAt d b e f (show 7<10 by omega) rfl;have u:=c.cellAt d b e f (show 8<10 by omega) rfl;have v:=c.cellAt d b e f (show 9<10 by omega) rfl;rw[kW]at q;obtain⟨at_,ar,ae⟩:=zv j;obtain⟨au,av,af⟩:=zv l;subst ae af;unfold mk1 at q F G H I r s t u v j l;simp only[jG,ZF]at q F G H I r s t u v j l;have HT:=zC (TW _ i.t.length (h+1+1+1) wr (Rd.qa j) qF qF qF);have HM:=zC (GM _ _ i.m.length (h+1+1+1+i.t.length) wr (show zS wr lo _ (Fj (h+1+1+1+i.t.length) i.m.length)by unfold zS;rw[ZF];exact l).rd qF qF qF);unfold MP at n;generalize i.t.length=J at *;generalize i.m.length=Y at *;have U:=zC C;have V:=zC n;have ak:0<=h/\h<=8388609:=qF;have W:(a:Int)<nn:=qF;obtain⟨M,D⟩:∃ab:Int,ab=h+1+1+1+J+3*Y:=⟨_,rfl⟩
  rw[<- D]at r s t u v HM;have X:=zC D;have al:0<=M/\M<=100000000:=qF;clear p e f b j l C n L D;go_wp2_with fail;refine HT.mono ?_;rintro y aw ⟨rfl,rfl⟩;have am:¬h+1+1+1+J<0:=qF;go_wp2_with fail;refine HM.mono ?_;rintro y ax ⟨rfl,rfl⟩;clear HT HM;go_wp2;go_roundw
  case rel=>
   refine⟨a+1,qF,qL,?_,xB⟩;have an:=V.out;have ao:=X.out;have ap:=U.out
   congr 1
   omega
  simp[intOf];omega
 obtain rfl:a=nn:=qF
 have W:¬ (a:Int)<a:=qF
 rw[S.out];go_wp2;go_ret;simp
section
open Go.Sort Go.BigFrame
section
variable {w w':World} {B s:Nat} {x:V7} {M:SS} {b0 b1 b2:Int} {ta:Option Addr} {tl tq:Nat}
def sliF7(a b d)(g:SM w B s x M)(r:a<=b/\b<=M.tx.length)(j:b=a+d)(t:M.tx.length<=8192)(u:M.sp<=200000)(v:¬M.sp+d<=200000):A7 86 w B s 3 a b b2 (qM ta tl tq) 10 0 0 [] [] M:=by
 unfold A7;have h:=zC j;clear j;have c:=zC (Pr.start g (yp 3 a b b2 (qM ta tl tq)));have o:=g.hB;clear g;go_enter func86,ntmps86;go_upto_region 1 with fail;generalize World.alloc _ _=K at *;have A:=c8 0 c.2.1;obtain⟨y,f⟩:=c.out.sm;obtain⟨k,z,L,N,O,P,Q,_⟩:=f.blk.c;obtain⟨⟨R,S,l⟩,⟨T,mk,m⟩,_⟩:=f.vs;rw[l]at k;rw[m]at z;have C:=c8 1 c.2.1;have D:=c8 2 c.2.1;have E:=c8 4 c.2.1;obtain⟨e,n⟩:∃e,e=M.tx.length:=⟨_,rfl⟩
 rw[<- n]at k r t;have F:¬ (a:Int)<0:=qF
 have G:¬ (e:Int)<a:=qF
 have H:¬ (b:Int)<a:=qF
 have I:¬ (e:Int)<b:=qF
 have J:IntKind.i64.wrap (b-a)=d:=by have:=h.out;rw[vA];omega
 have p:=zC (DM d f u (by have:=h.out;omega) v);clear f l m n;go_wp2_with fail;refine p.mono ?_;rintro U V ⟨rfl,rfl⟩;have RR:=zC c.2.2;have q:=zC (c.fin0 (x0:=10) (x1:=0) (x2:=0) o);go_wp2_with (refine ZM RR ?_);exact jS results86 RR rfl q
def sli7(a c d)(T:SM w B s x M)(a0:a<=c/\c<=M.tx.length)(ae:c=a+d)(a1:M.tx.length<=8192)(a2:M.sp<=200000)(a3:M.sp+d<=200000)(a4:M.lg.length<1000000000):A7 86 w B s 3 a c b2 (qM ta tl tq) 0 0 0 ((M.tx.drop a).take (c-a)) [] {M with sp:=M.sp+d,lg:=M.lg++ [⟨4,a,0,[]⟩]}:=by
 unfold A7;have ak:=zC ae;clear ae;have q:=zC (Pr.start T (yp 3 a c b2 (qM ta tl tq)));have al:=T.hB;clear T;go_enter func86,ntmps86;go_upto_region 1 with fail;generalize World.alloc _ _=bw at *;have bl:=c8 0 q.2.1;obtain⟨a5,D⟩:=q.out.sm;obtain⟨af,a6,bx,bz,b0,b1,b3,_⟩:=D.blk.c;obtain⟨⟨p,f,E⟩,⟨b4,mk,F⟩,_⟩:=D.vs;rw[E]at af;rw[F]at a6;have bn:=c8 1 q.2.1;have bp:=c8 2 q.2.1;obtain⟨g,U⟩:∃g,g=M.tx.length:=⟨_,rfl⟩
 have J:=zC U;rw[<- U]at af a0 a1;have bq:¬ (a:Int)<0:=qF
 have br:¬ (g:Int)<a:=qF
 have bs:¬ (c:Int)<a:=qF
 have bt:¬ (g:Int)<c:=qF
 have bu:IntKind.i64.wrap (c-a)=d:=by have:=ak.out;rw[vA];omega
 have am:=zC (Tj d D a2 qF a3);clear D E F U;go_wp2_with fail;refine am.mono ?_;rintro j b5 ⟨rfl,hst⟩;have K:=zC (q.step hst);obtain⟨a7,ag⟩:=K.out.sm;have an:=zC (Id 4 a 0 _ [] ag (.inl ⟨rfl,rfl⟩) (kG a4));have l:=c8 1 K.2.1;clear ag hst;go_wp2_with fail;refine an.mono ?_;rintro j y ⟨rfl,hst⟩;have r:=zC (K.step hst);obtain⟨b6,G⟩:=r.out.sm;have t:zT y 0 _ M.tx:=G.tx;obtain⟨p,f,H⟩:=zX t;rw[<- J.out]at H;rw[H]at t;have L:=G.blk.c.1;rw[H]at L;obtain⟨v,k⟩:∃v,v=(if f=a then p else p.map (λaw:Addr=>aw.add a)):=⟨_,rfl⟩
 have W:g<=f/\f<=maxLen/\(g=0->p=none->f=0):=by
  rcases t.2 with ⟨j,E⟩ | ⟨V,a8,a9,j,_,_,ba,bc,_⟩
  ·simp_all
  simp_all
 have l:=c8 1 r.2.1;have z:=c8 2 r.2.1;have ao:=G.lt;have N:=(qZ.1 r.2.1).1;have O:=zC t;have P:=zC (show ∀b:qS,Below _ y b->(b.cell? _=some _/\b.cell? _=some (.int _ a)/\b.cell? _=some (.int _ c))from λb h=>⟨(h.cell ao).trans L,(h.cell N).trans l,(h.cell N).trans z⟩)
 have SR:=zC (show ∀b:qS,Below _ y b->(Value.slice v (c-a) (f-a)= .slice none 0 0/\c-a=0\/∃ad ax,Value.slice v _ (f-a)= .slice (some ad) (c-a) ax/\∀n o,(zI _ ((M.tx.drop a).take (c-a)))[n]?=some o->b.cell? (ad.add n)=some o)from λb h=>by
  rcases O.out.2 with ⟨j,E⟩ | ⟨V,a8,a9,j,_,_,ba,bc,_⟩
  ·simp at j
   obtain⟨rfl,F,rfl⟩:=j;refine .inl ⟨?_,qF⟩;rw[k,show c-a=0 by omega,show 0-a=0 by omega]
   split<;>rfl
  simp at j;obtain⟨rfl,F,rfl⟩:=j;by_cases ac:f=a
  ·rw[xS ac]at k
   subst k;refine .inr ⟨_,_,rfl,λn o C=>?_⟩;rw[show c-a=0 by omega,vY]at C;simp[zI]at C
  rw[xJ ac]at k;subst k;refine .inr ⟨_,_,rfl,λn o C=>?_⟩;have m:=(Xi (by have m:=O.out;rw[J.out]at m;exact m)).app a _ qF n o C;rw[xX]at m;rw[yF]at m;have ap:=(O.lt V rfl).2
  show b.cell? ((((qP V 0):Addr).add a).add n)=some o
  simp only[yF,xX]
  rw[h.cell ap];exact m)
 have X:((M.tx.drop a).take (c-a)).length=c-a:=by rw[xi,xz,<- J.out];omega
 have Q:=zC X;have bv:c<=f:=qF
 obtain⟨bd,bf,bg,bh,bi⟩:=vw Tryz.info32T;have aq:=zC k;have ar:=W.2.1;unfold maxLen at ar;clear G hst H t L l z X k W;go_upto_region 24 with fail;refine(vZ (n:=6)).1 ?_;refine Yp 12 (λb=>b.cell? (qP s 0)=some (qM p g f)/\b.cell? (qP w.heap.size 1)=some (qC a)/\b.cell? (qP w.heap.size 2)=some (qC c)) qI ?_;refine te 1 (qO s 0) ?_ ?_
 ·intro b e;go_simp
 go_simp;refine te 2 (qO s 0) ?_ ?_
 ·intro b e;go_simp
 go_simp;refine te 3 (qO s 0) ?_ ?_
 ·intro b e;go_simp
 go_simp;refine te 4 (qM p g f) ?_ ?_
 ·intro b e;obtain⟨ah,ai,aj⟩:=e;go_simp
 go_simp;refine te 5 (qO w.heap.size 1) ?_ ?_
 ·intro b e;go_simp
 go_simp;refine te 6 (qC a) ?_ ?_
 ·intro b e;obtain⟨ah,ai,aj⟩:=e;go_simp
 go_simp;refine te 7 (qO w.heap.size 2) ?_ ?_
 ·intro b e;go_simp
 go_simp;refine te 8 (qC c) ?_ ?_
 ·intro b e;obtain⟨ah,ai,aj⟩:=e;go_simp
 go_simp;refine te 9 (qM v (c-a) (f-a)) ?_ ?_
 ·intro b e;rw[aq.out];go_simp
 go_simp;obtain⟨I,h⟩:∃b,b=y.drew:=⟨_,rfl⟩
 rw[<- h];have A:=zC (show qY y I from by rw[h];exact⟨rfl,rfl,rfl,lR,λ_ _=>rfl⟩);clear h;refine one 0 (P I A) ?_;gi_wp2_with fail;have u:=zC (A.alloc A.size (qR #[] 21));have Y:=zC (zF (Kf I) A.size);generalize World.alloc I _=l at *;refine one 10 (P l u) ?_;refine Jv rfl _ _ 48 rfl _ 21 bd _ 1 4 underlying48 bf bg bh bi rfl qG (qM _ 0 0) 0 [] rfl (Y) _ _ _ rfl (SR l u) (by rw[zG,Q.out];omega) (zJ _ _) qK qF (u.size) ?_;intro av z S ab;have Z:=zC (u.grown ab u.size (λay az=>(Qf Y ay az).1));have R:=zC (show zT z _ av _ by unfold zT;rw[Q.out];rw[xX,vq]at S;exact S);obtain⟨bj,bk,rfl⟩:=zX R;have aa:=zC (r.below Z);rw[Q.out]at R |-;clear S ab;refine kl ?_;go_simp;refine te 11 (.agg (yg 0 0 0 (qM bj (c-a) bk) qN)) ?_ ?_
 ·intro b e;go_simp
 go_simp;have au:=zC (aa.fin (x0:=0) (x1:=0) (x2:=0) (ms:=[]) (zF R (kG N)) (xR _ _ _ _) al);have RR:=zC aa.2.2;refine fin (P _ Z) ?_;refine zR rfl 81 _ _ rfl _ _ _ 81 rfl rfl RR qI rfl (by simp[Value.oneCell']) ?_;refine kl ?_;go_simp;go_wp2_with fail;exact jS results86 RR rfl au
end
def DP(a:qS)(b:qS)(c:qT)(d:qV)(e:qT)(f:List Mk):Prop:=qY a b/\zT b a.heap.size c d/\zS b a.heap.size e f
section
variable {w y y':World} {tv mv v':Value} {T:List Int} {ms:List Mk}
def Oo{f k a g h l i m:Nat}{v v' xs xs'}(b:y.ownsRow f a h v i xs)(n:y.ownsRow k g l v' m xs')(o:a≠g)(p:y.grownBy y' v'.ownBlock):y'.ownsRow f a h v i xs:=by
 refine zD b (λd e=>p.block d (b.lt d e).2 (λj=>?_));obtain⟨r,s,q⟩:=jr b e;obtain⟨t,u,c⟩:=jr n j.symm;rw[q]at c;simp at c;exact o c.2.1
def srcO{j k l g:Nat}{ad n cap xs}(c:w.ownsRow j k l (qM ad n cap) g xs)(m:qY w y)(o:g=n):Value.slice ad n cap= .slice none 0 0/\n=0\/∃f h,Value.slice ad n cap= .slice (some f) n h/\∀a b,xs[a]?=some b->y.cell? (f.add a)=some b:=by
 subst o;rcases c.2 with ⟨d,q⟩ | ⟨p,r,s,d,_⟩
 ·simp_all
 simp only[jW]at d;obtain⟨rfl,_,rfl⟩:=d;refine .inr ⟨_,_,rfl,λa b i=>?_⟩;have e:=c.cells rfl a b i;rw[yF,xX]at e |-;exact(m.cell (c.lt p rfl).2).trans e
def DP.newT(a:DP w y tv T mv ms):DP w (y.alloc (qR #[] 21)) (qM (qD y.heap.size 0) 0 0) [] mv ms:=
 have b:=(xe _ y).alloc lR _
 ⟨a.1.trans (b.mono a.1.size),zF (Kf y) a.1.size,zE a.2.2 b lR⟩
def DP.newM(a:DP w y tv T mv ms):DP w (y.alloc (qR #[] 166)) tv T (qM (qD y.heap.size 0) 0 0) []:=
 have b:=(xe _ y).alloc lR _
 ⟨a.1.trans (b.mono a.1.size),zE a.2.1 b lR,zF (kr y #[] 0 lR (xK _) rfl) a.1.size⟩
def DP.appT{zs n}(a:DP w y tv [] mv ms)(f:zs.length=n)(b:y'.ownsRow w.heap.size 21 1 v' (0+n) ([]++zI .i32 zs))(c:y.grownBy y' tv.ownBlock):DP w y' v' zs mv ms:=by
 refine⟨a.1.grown c a.1.size (λd e=>(Qf a.2.1 d e).1),?_,Oo a.2.2 a.2.1 qG c⟩;rw[xX,vq,<- f]at b;exact b
def DP.appM{zs n}(a:DP w y tv T mv [])(f:zs.length=n)(b:y'.ownsRow w.heap.size 166 3 v' (0+n) ([]++zY zs))(c:y.grownBy y' mv.ownBlock):DP w y' tv T v' zs:=by
 refine⟨a.1.grown c a.1.size (λd e=>(Qf a.2.2 d e).1),Oo a.2.1 a.2.2 qG c,?_⟩;rw[xX,vq,<- f]at b;exact b
end
section
variable {w w':World} {B s:Nat} {x:V7} {M:SS} {b0 b1 b2:Int} {ta:Option Addr} {tl tq:Nat}
def dumpF7(d:SM w B s x M)(t:M.tx.length<=8192)(u:M.ms.length<=4096)(v:M.sp<=200000)(e:¬M.sp+(M.tx.length+M.ms.length)<=200000):A7 86 w B s 16 b0 b1 b2 (qM ta tl tq) 10 0 0 [] [] M:=by
 unfold A7;have b:=zC (Pr.start d (yp 16 b0 b1 b2 (qM ta tl tq)));have o:=d.hB;clear d;go_enter func86,ntmps86;go_upto_region 1 with fail;generalize World.alloc _ _=G at *;have A:=c8 0 b.2.1;obtain⟨y,c⟩:=b.out.sm;obtain⟨f,g,H,I,J,K,L,_⟩:=c.blk.c;obtain⟨⟨N,O,h⟩,⟨P,mk,j⟩,_⟩:=c.vs;rw[h]at f;rw[j]at g;have C:=c8 1 b.2.1;have D:=c8 2 b.2.1;have E:=c8 4 b.2.1;obtain⟨a,k⟩:∃a,a=M.tx.length:=⟨_,rfl⟩
 obtain⟨l,m⟩:∃a,a=M.ms.length:=⟨_,rfl⟩
 rw[<- m]at g e u;rw[<- k]at f t e;have F:IntKind.i64.wrap (a+l)=((a+l:Nat)):=by rw[vA];omega
 have p:=zC (DM _ c v qF e);clear c h j k m;have q:b0<0\/(¬b0<0/\a<b0)\/(¬b0<0/\¬a<b0):=qF
 rcases q with n | ⟨n,z⟩ | ⟨n,z⟩
 all_goals
  go_wp2_with fail;refine p.mono ?_;rintro Q R ⟨rfl,rfl⟩;have RR:=zC b.2.2;have r:=zC (b.fin0 (x0:=10) (x1:=0) (x2:=0) o);go_wp2_with (refine ZM RR ?_);exact jS results86 RR rfl r
def dump7(R:SM w B s x M)(a0:M.tx.length<=8192)(a1:M.ms.length<=4096)(a2:M.sp<=200000)(S:M.sp+(M.tx.length+M.ms.length)<=200000):A7 86 w B s 16 b0 b1 b2 (qM ta tl tq) 0 0 0 M.tx M.ms {M with sp:=M.sp+(M.tx.length+M.ms.length)}:=by
 unfold A7;have H:=zC (Pr.start R (yp 16 b0 b1 b2 (qM ta tl tq)));have K:=R.hB;clear R;go_enter func86,ntmps86;go_upto_region 1 with fail;generalize World.alloc _ _=ba at *;have a6:=c8 0 H.2.1;obtain⟨U,I⟩:=H.out.sm;obtain⟨ao,ap,bc,bd,bf,bg,bh,_⟩:=I.blk.c;obtain⟨⟨V,W,aq⟩,⟨X,mk,ar⟩,_⟩:=I.vs;rw[aq]at ao;rw[ar]at ap;have a7:=c8 1 H.2.1;obtain⟨e,Y⟩:∃e,e=M.tx.length:=⟨_,rfl⟩
 have j:=zC Y;obtain⟨q,Z⟩:∃e,e=M.ms.length:=⟨_,rfl⟩
 have k:=zC Z;rw[<- Z]at ap S a1;rw[<- Y]at ao a0 S;have a8:IntKind.i64.wrap (e+q)=((e+q:Nat)):=by rw[vA];omega
 have av:=zC (Tj _ I a2 qF S);clear I aq ar Y Z;have aw:b0<0\/(¬b0<0/\e<b0)\/(¬b0<0/\¬e<b0):=qF
 rcases aw with au | ⟨au,a3⟩ | ⟨au,a3⟩
 all_goals
  go_wp2_with fail;refine av.mono ?_;rintro bi r ⟨rfl,hst⟩;have z:=zC (by have m:=H.step hst;rw[j.out,k.out]at m;exact m);obtain⟨aa,t⟩:=z.out.sm;obtain⟨⟨V,W,C⟩,⟨X,mk,D⟩,_⟩:=t.vs;simp at C D;rw[<- j.out]at C;rw[<- k.out]at D;have L:=t.blk.c.1;have N:=t.blk.c.2.1;rw[C]at L;rw[D]at N;have ax:=zC (show zT r 0 _ M.tx by have m:=t.tx;rw[C]at m;exact m);have ay:=zC (show zS r 0 _ M.ms by have m:=t.ms;rw[D]at m;exact m);have al:=t.lt;have u:=(qZ.1 z.2.1).1;have f:=zC (show ∀y:qS,Below _ r y->(y.cell? _=some _/\y.cell? _=some _)from λy h=>⟨(h.cell al).trans L,(h.cell al).trans N⟩);have O:=zC (λy(h:Below _ r y)=>srcO ax h (by rw[<- j.out]));have P:=zC (λy(h:Below _ r y)=>srcO ay h (by rw[<- k.out]));obtain⟨ab,ac,ad,ae,af⟩:=vw Tryz.info32T;obtain⟨ag,ah,ai,aj,ak⟩:=vw Tryz.qh;clear t hst C D L N;go_upto_region 37 with fail;refine(vZ (n:=6)).1 ?_;refine Yp 13 (λy=>y.cell? (qP s 0)=some (qM V e W)/\y.cell? (qP s 1)=some (qM X q mk)) qI ?_;refine te 1 (qO s 0) ?_ ?_
  ·intro y g;go_simp
  go_simp;refine te 2 (qO s 0) ?_ ?_
  ·intro y g;go_simp
  go_simp;refine te 3 (qO s 0) ?_ ?_
  ·intro y g;go_simp
  go_simp;refine te 4 (qM V e W) ?_ ?_
  ·intro y g;obtain⟨a4,a5⟩:=g;go_simp
  go_simp;refine te 7 (qO s 0) ?_ ?_
  ·intro y g;go_simp
  go_simp;refine te 8 (qO s 0) ?_ ?_
  ·intro y g;go_simp
  go_simp;refine te 9 (qO s 1) ?_ ?_
  ·intro y g;go_simp
  go_simp;refine te 10 (qM X q mk) ?_ ?_
  ·intro y g;obtain⟨a4,a5⟩:=g;go_simp
  go_simp;obtain⟨J,h⟩:∃y,y=r.drew:=⟨_,rfl⟩
  rw[<- h];have Q:=zC (show DP r J _ [] _ []from⟨by rw[h];exact⟨rfl,rfl,rfl,lR,λ_ _=>rfl⟩,xR _ _ _ _,xR _ _ _ _⟩);clear h;refine two 0 6 (f J Q.1) ?_ ?_
  ·gi_wp2_with fail
   have l:=zC Q.newT;generalize World.alloc J _=v at *;refine two 5 6 (f v l.1) ?_ ?_
   ·refine Jv rfl _ _ 48 rfl _ 21 ab _ 1 4 underlying48 ac ad ae af rfl qG _ 0 [] rfl (l.2.1) _ e _ rfl (O v l.1) (by rw[zG,<- j.out];omega) (zJ _ _) qK qF (l.1.size) ?_
    intro a9 o c d;have D2:=zC (l.appT j.symm c d);clear c d;refine kl ?_;go_simp;refine one 6 (f o D2.1) ?_;gi_wp2_with fail;have b:=zC D2.newM;generalize World.alloc o _=p at *;refine one 11 (f p b.1) ?_;refine Jv rfl _ _ 49 rfl _ 166 ag _ 3 24 underlying49 ah ai aj ak rfl qG _ 0 [] rfl (b.2.2) _ q _ rfl (P p b.1) (by rw[zN,<- k.out]) (zu _) qK qF (b.1.size) ?_;intro am an c d;have a:=zC (b.appM k.symm c d);clear c d;refine kl ?_;go_simp;obtain⟨E,F,rfl⟩:=zX a.2.1;obtain⟨G,ok,rfl⟩:=zS.val a.2.2;refine te 12 (.agg (yg 0 0 0 (qM E M.tx.length F) (qM G M.ms.length ok))) ?_ ?_
    ·intro y g;go_simp
    go_simp;have n:=zC (z.below a.1);have A:=zC (n.fin (x0:=0) (x1:=0) (x2:=0) (T:=M.tx) (ms:=M.ms) (zF a.2.1 (kG u)) (zF a.2.2 (kG u)) K);have RR:=zC n.2.2;refine fin (f _ a.1) ?_;refine zR rfl 81 _ _ rfl _ _ _ 81 rfl rfl RR qI rfl (by simp[Value.oneCell']) ?_;refine kl ?_;go_simp;go_wp2_with fail;exact jS results86 RR rfl A
   gi_wp2_with fail;have D2:=zC l.newM;generalize World.alloc v _=o at *;refine one 5 (f o D2.1) ?_;refine Jv rfl _ _ 48 rfl _ 21 ab _ 1 4 underlying48 ac ad ae af rfl qG _ 0 [] rfl (D2.2.1) _ e _ rfl (O o D2.1) (by rw[zG,<- j.out];omega) (zJ _ _) qK qF (D2.1.size) ?_;intro az p c d;have b:=zC (D2.appT j.symm c d);clear c d;refine kl ?_;go_simp;refine one 11 (f p b.1) ?_;refine Jv rfl _ _ 49 rfl _ 166 ag _ 3 24 underlying49 ah ai aj ak rfl qG _ 0 [] rfl (b.2.2) _ q _ rfl (P p b.1) (by rw[zN,<- k.out]) (zu _) qK qF (b.1.size) ?_;intro am an c d;have a:=zC (b.appM k.symm c d);clear c d;refine kl ?_;go_simp;obtain⟨E,F,rfl⟩:=zX a.2.1;obtain⟨G,ok,rfl⟩:=zS.val a.2.2;refine te 12 (.agg (yg 0 0 0 (qM E M.tx.length F) (qM G M.ms.length ok))) ?_ ?_
   ·intro y g;go_simp
   go_simp;have n:=zC (z.below a.1);have A:=zC (n.fin (x0:=0) (x1:=0) (x2:=0) (zF a.2.1 (kG u)) (zF a.2.2 (kG u)) K);have RR:=zC n.2.2;refine fin (f _ a.1) ?_;refine zR rfl 81 _ _ rfl _ _ _ 81 rfl rfl RR qI rfl (by simp[Value.oneCell']) ?_;refine kl ?_;go_simp;go_wp2_with fail;exact jS results86 RR rfl A
  gi_wp2_with fail;have l:=zC Q.newM;generalize World.alloc J _=v at *;refine one 0 (f v l.1) ?_;gi_wp2_with fail;have D2:=zC l.newT;generalize World.alloc v _=o at *;refine one 5 (f o D2.1) ?_;refine Jv rfl _ _ 48 rfl _ 21 ab _ 1 4 underlying48 ac ad ae af rfl qG _ 0 [] rfl (D2.2.1) _ e _ rfl (O o D2.1) (by rw[zG,<- j.out];omega) (zJ _ _) qK qF (D2.1.size) ?_;intro az p c d;have b:=zC (D2.appT j.symm c d);clear c d;refine kl ?_;go_simp;refine one 11 (f p b.1) ?_;refine Jv rfl _ _ 49 rfl _ 166 ag _ 3 24 underlying49 ah ai aj ak rfl qG _ 0 [] rfl (b.2.2) _ q _ rfl (P p b.1) (by rw[zN,<- k.out]) (zu _) qK qF (b.1.size) ?_;intro am an c d;have a:=zC (b.appM k.symm c d);clear c d;refine kl ?_;go_simp;obtain⟨E,F,rfl⟩:=zX a.2.1;obtain⟨G,ok,rfl⟩:=zS.val a.2.2;refine te 12 (.agg (yg 0 0 0 (qM E M.tx.length F) (qM G M.ms.length ok))) ?_ ?_
  ·intro y g;go_simp
  go_simp;have n:=zC (z.below a.1);have A:=zC (n.fin (x0:=0) (x1:=0) (x2:=0) (zF a.2.1 (kG u)) (zF a.2.2 (kG u)) K);have RR:=zC n.2.2;refine fin (f _ a.1) ?_;refine zR rfl 81 _ _ rfl _ _ _ 81 rfl rfl RR qI rfl (by simp[Value.oneCell']) ?_;refine kl ?_;go_simp;go_wp2_with fail;exact jS results86 RR rfl A
end
end
