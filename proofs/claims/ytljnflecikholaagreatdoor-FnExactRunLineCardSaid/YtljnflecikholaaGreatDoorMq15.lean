import Derived.Deep.AppendLies
import Derived.Maps.OwnIn
import Derived.Test.YtljnflecikholaaGreatDoorMq04
import Derived.Test.YtljnflecikholaaGreatDoorMq07
set_option linter.all false
set_option maxRecDepth 100000
set_option maxHeartbeats 8000000
namespace Go.Proofs.YtljnflecikholaaGreatDoor
open Go Go.RowKit Go.Proofs.Tryz
structure SR where
 put:Bool
 off:Nat
 n:Nat
 bef:qV
 aft:qV
 was:List Mk
 is:List Mk
structure SK where
 tx:qV
 ms:List Mk
 un:List (List SR)
 re:List (List SR)
structure LE where
 kd:Nat
 lo:Nat
 hi:Nat
 tx:qV
structure SS where
 tx:qV
 ms:List Mk
 un:List (List SR)
 re:List (List SR)
 gr:List SR
 op:Bool
 sp:Nat
 cp:Nat
 sl:List (Option SK)
 lg:List LE
structure V7 where
 tv:qT
 mv:qT
 uv:qT
 rv:qT
 gv:qT
 slv:qT
 lv:qT
def KT(c d:qS):Prop:=c.heap.size<=d.heap.size/\∀(b:Nat)(e)(a)(f),c.heap[b]?=some (qR e a f)->(a≠55/\a≠207/\a≠57/\a≠81)->d.heap[b]? =c.heap[b]?
def KT.trans{a b c}(j:KT a b)(k:KT b c):KT a c:=⟨vC j.1 k.1,λd e f g h i=>(k.2 d e f g ((j.2 d e f g h i).trans h) i).trans (j.2 d e f g h i)⟩
def KT.of{w w'}(a:qY w w'):KT w w':=⟨a.size,λb d e f c _=>a.block b (qZ.1 c).1⟩
def KT.at{w w' s cs t f}(k:w.heap[s]?=some (qR cs t f))(ht:t=55\/t=207\/t=57\/t=81)(c:w.heap.size<=w'.heap.size)(d:∀a,a<w.heap.size->a≠s->w'.heap[a]? =w.heap[a]?):KT w w':=
 ⟨c,λa e g h b i=>d a (qZ.1 b).1 (λj=>by simp_all)⟩
def jr{c:qS}{base t size n v xs}(f:c.ownsRow base t size v n xs){q}(a:v.ownBlock=some q):∃d e,c.heap[q]?=some (qR d t e):=by
 rcases f.2 with ⟨b,_⟩ | ⟨h,i,j,b,_,g,_⟩
 ·rw[b]at a;cases a
 rw[b]at a;simp only[Value.ownBlock,xE]at a;subst a;exact⟨_,_,g⟩
def Ft{w w' base t size n v xs}(a:w.ownsRow base t size v n xs)(d:KT w w')(e:t≠55/\t≠207/\t≠57/\t≠81):w'.ownsRow base t size v n xs:=
 zD a (λb c=>by obtain⟨f,g,h⟩:=jr a c;exact d.2 b f t g h e)
section
variable {w w':World}
def zT.kt{b v zs}(a:zT w b v zs)(c:KT w w'):zT w' b v zs:=Ft a c qG
def zS.kt{b v zs}(a:zS w b v zs)(c:KT w w'):zS w' b v zs:=Ft a c qG
def zAx(b:qS)(g:qU)(a:SR):Prop:=∃c d e f,g= [.bool a.put,qC a.off,qC a.n,c,d,e,f]/\(zT b 0 c a.bef/\zT b 0 d a.aft)/\zS b 0 e a.was/\zS b 0 f a.is
def zAx.kt{xs r}(c:zAx w xs r)(a:KT w w'):zAx w' xs r:=by
 obtain⟨d,e,f,g,h,b,i,j⟩:=c;exact⟨d,e,f,g,h,⟨b.1.kt a,b.2.kt a⟩,i.kt a,j.kt a⟩
def W6(d:qS):qU->List SR->Prop
 | a,[]=>a= []
 | a,e::f=>∃b c,a=b++c/\zAx d b e/\W6 d c f
def W6.kt(a:KT w w'):∀{xs g},W6 w xs g->W6 w' xs g
 | _,[],b=>b
 | _,_::_,⟨c,d,e,f,h⟩=>⟨c,d,e,f.kt a,W6.kt a h⟩
def W6.app:∀{xs ys g k},W6 w xs g->W6 w ys k->W6 w (xs++ys) (g++k)
 | _,_,[],_,b,a=>by cases b;exact a
 | _,_,_::_,_,⟨c,d,h,e,f⟩,a=>⟨c,d++_,by simp_all,e,W6.app f a⟩
def W6.one{xs r}(a:zAx w xs r):W6 w xs [r]:=⟨xs,[],qH,a,rfl⟩
def W6.len:∀{xs a},W6 w xs a->xs.length=a.length*7
 | _,[],b=>by rw[b];rfl
 | _,_::a,⟨f,g,c,⟨_,_,_,_,d,_⟩,e⟩=>by rw[c,xg,W6.len e,d];simp;omega
def W6.get:∀{xs d h e},W6 w xs d->d[h]?=some e->∃b,zAx w b e/\∀a,a<7->xs[h*7+a]? =b[a]?
 | _,_::d,0,e,⟨j,o,g,k,l⟩,f=>by
  simp at f;subst f;obtain⟨_,_,_,_,c,_⟩:=id k;refine⟨j,k,λa i=>?_⟩;rw[g,Nat.zero_mul,xX,xW (by rw[c];simp;omega)]
 | _,_::d,h+1,e,⟨j,o,g,⟨_,_,_,_,c,_⟩,l⟩,f=>by
  obtain⟨b,m,n⟩:=W6.get l (by simpa using f);refine⟨b,m,λa i=>?_⟩;rw[<- n a i,g,vb (by rw[c];simp;omega)]
  congr 1;rw[c];simp;omega
def KZ(b:qS)(d:qT)(c:List SR):Prop:=∃a,b.ownsRow 0 205 7 d c.length a/\W6 b a c
def KZ.kt{v g}(b:KZ w v g)(a:KT w w'):KZ w' v g:=by
 obtain⟨c,d,e⟩:=b;exact⟨c,Ft d a qG,e.kt a⟩
def KZ.nil:KZ w qN []:=⟨[],xR _ _ _ _,rfl⟩
def KZ.val{v g}(d:KZ w v g):∃b c,v= .slice b g.length c:=by
 obtain⟨f,e,_⟩:=d;rcases e.2 with ⟨a,h⟩ | ⟨i,j,k,a,_⟩
 ·simp_all
 exact⟨_,_,a⟩
def Ka(a:qS):qU->List (List SR)->Prop
 | [],[]=>True
 | b::c,d::e=>KZ a b d/\Ka a c e
 | _,_=>False
def Ka.kt(b:KT w w'):∀{vs gs},Ka w vs gs->Ka w' vs gs
 | [],[],_=>trivial
 | _::_,_::_,a=>⟨a.1.kt b,Ka.kt b a.2⟩
 | [],_::_,a=>a
 | _::_,[],a=>a
def Ka.len:∀{vs gs},Ka w vs gs->vs.length=gs.length
 | [],[],_=>rfl
 | _::_,_::_,a=>by simp[Ka.len a.2]
def Ka.app:∀{vs us gs ks},Ka w vs gs->Ka w us ks->Ka w (vs++us) (gs++ks)
 | [],_,[],_,_,a=>a
 | _::_,_,_::_,_,a,b=>⟨a.1,Ka.app a.2 b⟩
def Ka.drop1:∀{vs gs},Ka w vs gs->Ka w (vs.drop 1) (gs.drop 1)
 | [],[],_=>trivial
 | _::_,_::_,a=>a.2
def Ka.sl:∀{b f},Ka w b f->∀u∈b,∃c h d,u= .slice c h d
 | [],_,_,e,a=>by simp at a
 | x::b,j::f,g,e,a=>by
  rcases kS.1 a with rfl | a
  ·obtain⟨c,d,i⟩:=g.1.val;simp_all
  exact Ka.sl g.2 e a
def I4(g:qS)(h:qT)(a:qU):Prop:=h= .slice none 0 0/\a= []\/∃b d c,h= .slice (qD b d) a.length c/\(a.length<=c/\c<=maxLen/\∃i j,g.heap[b]?=some (qR i 51 j))/\∀e f,a[e]?=some f->g.cell? (qP b (d+e))=some f
def I4.kt{v us}(a:I4 w v us)(j:KT w w'):I4 w' v us:=by
 rcases a with a | ⟨c,k,l,m,⟨n,o,d,e,f⟩,p⟩
 ·exact .inl a
 have b:=j.2 c d _ e f qG;exact .inr ⟨c,k,l,m,⟨n,o,d,e,b.trans f⟩,λg h i=>(xq b).trans (p g h i)⟩
def I4.val{v us}(a:I4 w v us):∃b c,v= .slice b us.length c:=by
 rcases a with ⟨a,rfl⟩ | ⟨e,f,g,d,_⟩
 ·simp_all
 exact⟨_,_,d⟩
def I4.own{B v us}(a:w.ownsRow B 51 1 v us.length us):I4 w v us:=by
 rcases id a.2 with ⟨d,e⟩ | ⟨f,g,m,rfl,_,h,i,j,_⟩
 ·exact .inl ⟨d,xL e⟩
 refine .inr ⟨f,0,g,rfl,⟨i,j,_,_,h⟩,λb l c=>?_⟩;have k:=a.cellAt b (by have:=(xp.1 c).1;omega)
 simp_all
def XH(b:qS)(c:qT)(d:List (List SR)):Prop:=∃a,I4 b c a/\Ka b a d
def XH.kt{v gs}(b:XH w v gs)(a:KT w w'):XH w' v gs:=by
 obtain⟨us,c,d⟩:=b;exact⟨us,c.kt a,d.kt a⟩
def XH.nil:XH w qN []:=⟨[],.inl ⟨rfl,rfl⟩,xB⟩
def XH.val{v gs}(c:XH w v gs):∃a b,v= .slice a gs.length b:=by
 obtain⟨f,d,e⟩:=c;rw[<- e.len];exact d.val
def HK7(a:qS)(g:qU):Option SK->Prop
 | none=>g= [.bool false,qN,qN,qN,qN]
 | some b=>∃c d e f,g= [.bool true,c,d,e,f]/\zT a 0 c b.tx/\zS a 0 d b.ms/\XH a e b.un/\XH a f b.re
def HK7.kt{xs}:∀{b},HK7 w xs b->KT w w'->HK7 w' xs b
 | none,c,_=>c
 | some b,⟨d,e,f,g,h,i,j,k,l⟩,a=>⟨d,e,f,g,h,i.kt a,j.kt a,k.kt a,l.kt a⟩
def Uz(e:qS)(f:qT)(a:qV):Prop:=f= .slice none 0 0/\a= []\/∃b d c,f= .slice (qD b d) a.length c/\(a.length<=c/\c<=maxLen/\∃g h,e.heap[b]?=some (qR g 21 h))/\zAw e b d a
def Uz.own{B v ts}(a:zT w B v ts):Uz w v ts:=by
 rcases id a.2 with ⟨b,c⟩ | ⟨d,e,i,rfl,_,f,g,h,_⟩
 ·exact .inl ⟨b,xL c⟩
 exact .inr ⟨d,0,e,rfl,⟨g,h,_,_,f⟩,Xi a⟩
def Uz.sub{g cap lo m ts}(e:zT w 0 (qM (qD g 0) ts.length cap) ts)(i:lo+m<=ts.length):Uz w (qM (qD g lo) m (cap-lo)) ((ts.drop lo).take m):=by
 have a:((ts.drop lo).take m).length=m:=by rw[xi,xz];omega
 rcases id e.2 with ⟨b,j⟩ | ⟨k,l,n,b,_,h,o,p,_⟩
 ·cases b
 injection b with e1 e2 e3
 injection e1 with e1
 injection e1 with e1
 subst e1 e3;refine .inr ⟨g,lo,_,by rw[a],⟨by rw[a];omega,qF,_,_,h⟩,λf d=>?_⟩;rw[a]at d;have c:=Xi e (lo+f) qF;rw[xX]at c;rw[c];simp only[xP,vf,xS d,vJ]
def Uz.val{v ts}(a:Uz w v ts):∃b c,v= .slice b ts.length c:=by
 rcases a with ⟨a,rfl⟩ | ⟨e,f,g,d,_⟩
 ·simp_all
 exact⟨_,_,d⟩
def TC(b e:qS):Prop:=∀(a:Nat)(c)(d),b.heap[a]?=some (qR c 21 d)->e.heap[a]? =b.heap[a]?
def KT.k32(e:KT w w'):TC w w':=λa b c d=>e.2 a b _ c d qG
def TC.trans{a b c}(h:TC a b)(i:TC b c):TC a c:=λd e f g=>(i d e f ((h d e f g).trans g)).trans (h d e f g)
def Uz.k32{v ts}(a:Uz w v ts)(i:TC w w'):Uz w' v ts:=by
 rcases a with a | ⟨c,j,k,l,⟨m,n,d,e,f⟩,o⟩
 ·exact .inl a
 have b:=i c d e f;exact .inr ⟨c,j,k,l,⟨m,n,d,e,b.trans f⟩,λg h=>(xq b).trans (o g h)⟩
def Uq(e:qS):qU->List LE->Prop
 | b,[]=>b= []
 | b,a::f=>∃c d,b= [qC a.kd,qC a.lo,qC a.hi,c]++d/\Uz e c a.tx/\Uq e d f
def Uq.k32(a:TC w w'):∀{xs g},Uq w xs g->Uq w' xs g
 | _,[],b=>b
 | _,_::_,⟨c,d,e,f,h⟩=>⟨c,d,e,f.k32 a,Uq.k32 a h⟩
def Uq.snoc{l tv}(ht:Uz w tv l.tx):∀{xs g},Uq w xs g->Uq w (xs++ [qC l.kd,qC l.lo,qC l.hi,tv]) (g++ [l])
 | _,[],a=>by cases a;exact⟨tv,[],qH,ht,rfl⟩
 | _,_::_,⟨b,e,f,c,d⟩=>⟨b,_,by simp_all,c,Uq.snoc ht d⟩
end
def S7(b:qS)(c:Nat)(a:V7)(d:Bool)(e f:Int):Prop:=b.heap[c]?=some (qR #[a.tv,a.mv,a.uv,a.rv,a.gv,.bool d,qC e,qC f,a.slv,a.lv] 55 (0,0))
structure SM(w:qS)(a b:Nat)(x:V7)(M:SS):Prop where
 blk:S7 w b x M.op M.sp M.cp
 tx:zT w 0 x.tv M.tx
 ms:zS w 0 x.mv M.ms
 un:XH w x.uv M.un
 re:XH w x.rv M.re
 gr:KZ w x.gv M.gr
 sl:∃xs,w.ownsRow a 207 5 x.slv 8 xs/\M.sl.length=8/\∀i k,M.sl[i]?=some k->HK7 w ((xs.drop (i*5)).take 5) k
 lg:∃ls,w.ownsRow a 57 4 x.lv M.lg.length ls/\Uq w ls M.lg
 bs:a<=b
 cp:1<=M.cp/\M.cp<=1000
 ul:M.un.length<=M.cp
section
variable {w w':World} {B s:Nat} {x:V7} {M:SS}
def SM.lt(a:SM w B s x M):s<w.heap.size:=(qZ.1 a.blk).1
def SM.to{x' M'}(b:SM w B s x M)(d:KT w w')(g:S7 w' s x' M'.op M'.sp M'.cp)(c:x'.slv=x.slv/\x'.lv=x.lv/\M'.sl=M.sl/\M'.lg=M.lg)(h:∀a,x.slv.ownBlock=some a->w'.heap[a]? =w.heap[a]?)(i:∀a,x.lv.ownBlock=some a->w'.heap[a]? =w.heap[a]?)
  (j:zT w' 0 x'.tv M'.tx) (k:zS w' 0 x'.mv M'.ms) (l:XH w' x'.uv M'.un) (m:XH w' x'.rv M'.re) (n:KZ w' x'.gv M'.gr) (o:M'.cp=M.cp) (p:M'.un.length<=M'.cp):SM w' B s x' M':=by
 obtain⟨q,r,z,t⟩:=b.sl;obtain⟨ls,u,v⟩:=b.lg;refine⟨g,j,k,l,m,n,⟨q,?_,by simp_all,λe f y=>(t e f (by simp_all)).kt d⟩,⟨ls,?_,by rw[c.2.2.2];exact v.k32 d.k32⟩,b.bs,by rw[o];exact b.cp,p⟩
 ·rw[c.1];exact zD r h
 rw[c.2.1,c.2.2.2];exact zD u i
def SM.below(a:SM w B s x M)(d:qY w w'):SM w' B s x M:=by
 have b:=KT.of d;obtain⟨h,f,_⟩:=a.sl;obtain⟨ls,g,_⟩:=a.lg;exact a.to b ((d.block s a.lt).trans a.blk) ⟨rfl,rfl,rfl,rfl⟩ (λc e=>d.block c (f.lt c e).2) (λc e=>d.block c (g.lt c e).2) (a.tx.kt b) (a.ms.kt b) (a.un.kt b) (a.re.kt b) (a.gr.kt b) rfl a.ul
def SM.slne(a:SM w B s x M){q}(d:x.slv.ownBlock=some q):q≠s:=λc=>by
 obtain⟨f,e,_⟩:=a.sl;obtain⟨g,h,b⟩:=jr e d;subst c;have:=a.blk;unfold S7 at this;rw[this]at b;simp only[xE,kf]at b
 simp_all
def SM.lvne(a:SM w B s x M){q}(d:x.lv.ownBlock=some q):q≠s:=λc=>by
 obtain⟨f,e,_⟩:=a.lg;obtain⟨g,h,b⟩:=jr e d;subst c;have:=a.blk;unfold S7 at this;rw[this]at b;simp only[xE,kf]at b
 simp_all
structure Dn(w:qS)(a:Nat)(w':qS):Prop where
 kt:KT w w'
 bl:Below a w w'
 ob:∀(q:Nat)(cs:qX)(f:Nat×Nat),w.heap[q]?=some (qR cs 81 f)->w'.heap[q]? =w.heap[q]?
def Dn.of(a:qY w w')(d:B<=w.heap.size):Dn w B w':=⟨KT.of a,a.mono d,λb e f c=>a.block b (qZ.1 c).1⟩
def Dn.trans{a b c}(d:Dn a B b)(i:Dn b B c):Dn a B c:=⟨d.kt.trans i.kt,d.bl.trans i.bl,λe f g h=>(i.ob e f g ((d.ob e f g h).trans h)).trans (d.ob e f g h)⟩
def SM.ob{x M}(g:SM w B s x M)(i:∀a,a<w.heap.size->a≠s->x.lv.ownBlock≠some a->w'.heap[a]? =w.heap[a]?):∀(a:Nat)(e)(f),w.heap[a]?=some (qR e 81 f)->w'.heap[a]? =w.heap[a]?:=λa e f b=>by
 refine i a (qZ.1 b).1 (λc=>?_) (λc=>?_)
 ·have d:=g.blk
  unfold S7 at d;subst c;rw[d]at b;simp only[xE,kf]at b
  simp_all
 obtain⟨ls,j,_⟩:=g.lg;obtain⟨_,_,h⟩:=jr j c;rw[b]at h;simp only[xE,kf]at h
 simp_all
def Dn.set(c:SM w B s x M)(j)(v):Dn w B (w.setCell (qP s j) v):=by
 have d:=c.blk;unfold S7 at d;have e:=c.bs;exact⟨KT.at d (.inl rfl) qH (λa _ b=>xj w _ a v b),⟨rfl,rfl,rfl,qH,λa b=>xj w _ a v (by show a≠s;omega)⟩,c.ob (λa _ b _=>xj w _ a v b)⟩
end
def Kv(e:qU)(f g:qS):Prop:=∀(b)(c)(a)(d),f.heap[b]?=some (qR c a d)->a≠86->(a=21->∀v∈e,v.ownBlock≠some b)->g.heap[b]?=some (qR c a d)
section
variable {vs:List Value} {w w' w2:World}
def Kv.refl(vs)(w):Kv vs w w:=λ_ _ _ _ a _ _=>a
def Kv.trans(h:Kv vs w w')(i:Kv vs w' w2):Kv vs w w2:=λa b c d g e f=>i a b c d (h a b c d g e f) e f
def Kv.of_32{u lo n xs}(g:u∈vs)(h:w.grownBy w' u.ownBlock)(i:w.ownsRow lo 21 1 u n xs):Kv vs w w':=λd j e k a l f=>(h.block d (qZ.1 a).1 (λc=>by
 by_cases ht:e=21
 ·exact f ht u g c.symm
 obtain⟨m,o,b⟩:=jr i c.symm;rw[a]at b;simp at b
 exact ht b.2.1)).trans a
def Kv.of_row{B size n v xs}(f:w.ownsRow B 86 size v n xs)(g:w.grownBy w' v.ownBlock):Kv vs w w':=λc h i j a d _=>(g.block c (qZ.1 a).1 (λe=>by
 obtain⟨k,l,b⟩:=jr f e.symm;rw[a]at b;simp at b
 exact d b.2.1)).trans a
def KG(e:qU)(f g:qS):Prop:=∀(b)(c)(a)(d),f.heap[b]?=some (qR c a d)->a≠86->a≠3->(a=21->∀v∈e,v.ownBlock≠some b)->g.heap[b]?=some (qR c a d)
def KG.trans(i:KG vs w w')(j:KG vs w' w2):KG vs w w2:=λa b c d h e f g=>j a b c d (i a b c d h e f g) e f g
def KG.of(h:qY w w')(i:Kv vs w' w2):KG vs w w2:=λa c d e b f j g=>i a c d e ((h.block a (qZ.1 b).1).trans b) f g
def KG.row{B size n v xs}(e:w.ownsRow B 3 size v n xs)(f:w.grownBy w' v.ownBlock):KG vs w w':=λq g h i a _ c _=>(f.block q (qZ.1 a).1 (λd=>by
 obtain⟨j,k,b⟩:=jr e d.symm;rw[a]at b;simp at b
 exact c b.2.1)).trans a
end
def Lc(gs)(vs)(v)(lo e)(k0)(w)(f:yt 86 w lo e v vs gs)(a6:zr gs<=1073741824)(a7:0<=k0)(a8:k0<=1073741824):
  Calls prog 61 #[v,qC k0] w λt w'=>t=qQ (qC (k0+zr gs))/\yt 86 w' lo e v vs (Kd k0 gs)/\Kp lo e w w'/\Kk 86 w w'/\Kv vs w w':=by
 have B:=Uv gs;rcases f.row.2 with ⟨rfl,ao⟩ | ⟨y,ap,a9,rfl,ba,_,aq,ar,_⟩
 ·have t:=xL ao
  subst t;have C:=zC f;clear f;go_enter func61,ntmps61;go_wp2;refine xQ 1 ?_;rw[xG];go_wp2;go_ret;exact⟨by simp[zr],C,Kp.refl _ _ _,Kk.refl _ _,Kv.refl _ _⟩
 have gl:=f.bl y rfl;have C:=zC f;have X:=zC (λi(e:i<gs.length)=>f.get e);have Y:=zC f.len;have Z:=zC (λi=>Yk gs i);unfold maxLen at ar;obtain⟨b,M⟩:∃b,b=gs.length:=⟨_,rfl⟩
 rw[<- M]at aq B |-;have g:=zC M;clear f M;go_enter func61,ntmps61;go_wp2
 go_loopw [1,5] (λan i wr=>∃a:Nat,a<=b/\an=qC (k0+zr (gs.take a))/\i=qC a/\
   yt 86 wr lo e (qM (qD y 0) b ap) vs (Kd k0 (gs.take a)++gs.drop a)/\Kp lo e w wr/\Kk 86 w wr/\Kv vs w wr)
  (λ_ i _=>b-(intOf i).toNat)
 case atStart=>exact⟨0,xK _,by simp[zr],rfl,by have:=C.out;rw[<- g.out]at this;simpa[Kd]using this,Kp.refl _ _ _,Kk.refl _ _,Kv.refl _ _⟩
 obtain⟨a,bc,rfl,rfl,c,z,A,V⟩:=hrel;have O:=zC V;clear V;have ax:=Z a;by_cases B:a<b
 ·obtain⟨k,W,s,N⟩:=X a (by rw[<- g.out];exact B)
  have d:(Kd k0 (gs.take a)).length=a:=(by rw[I1,xi];have:=g.out;omega);have o:(vs.take a).length=(Kd k0 (gs.take a)).length:=by rw[d,xi,Y.out];have:=g.out;omega
  have D:gs.drop a=k::gs.drop (a+1):=by
   have:=(xp.1 s)
   obtain⟨au,av⟩:=this;rw[<- av,<- vN au]
  have E:=LU N;rw[D,E]at c;have ay:=Uu s;have az:=Zs s;have F:(Kd k0 (gs.take a)++k::gs.drop (a+1)).length=b:=(by rw[<- D,xg,d,xz];have:=g.out;omega);have p:=c.inner (je d) (je (o.trans d));have a0:=(c.cells F (je d) (je (o.trans d))).1;obtain⟨bd,bf,aw⟩:=yw p;have aa:=zC (TV _ W lo _ (k0+zr (gs.take a)) wr p qF qF qF);have P:=zC (λn x j=>c.put (w1:=n) (l:=marks .i32 (k0+zr (gs.take a)) k.cells.length) o x j qG);have UB:=zC (λr L=>(⟨(p.lt r L).1,c.nest.bl W qH r L⟩:lo<=r/\r<e));have ab:=zC (xH N);have G:=zC d;have Q:=zC o;have u:=zC F;have R:=zC z;have KK:=zC A;have H:=zC p;have ac:=zC E
  have ad:=zC (show(Kd k0 (gs.take _))=Kd k0 (gs.take a)++ [⟨marks .i32 (k0+zr (gs.take a)) k.cells.length,k0+zr (gs.take a)+k.cells.length,k0+zr (gs.take a)+k.cells.length+1⟩]by
   rw[vH,s,QD,mkG_app]
   simp[Kd])
  generalize a4:zr (gs.take a)=J at *;generalize a5:k.cells.length=K at *;have ae:((zr (gs.take (a+1))):Int)=J+K+2:=qF;have a1:(a:Int)<b:=qF;subst aw;clear E D c p o F z A s N d;go_wp2_with fail;refine aa.mono ?_;rintro t n ⟨rfl,x,j⟩;have h:=P n (by show World.ownsRow _ _ _ _ _ _ _;rw[jG];exact x) j;have S:=zC (R.trans (Kp.of_grown j UB));have T:=zC (KK.trans (Kk.of_32 H j));have af:=zC (O.trans (Kv.of_32 ab j H));have m:=h.gap (k0+J+K) (k0+J+K+1) (by have:=u.out;simpa using this) Q qG;have ag:=h.cells (by have:=u.out;simpa using this) (je G) (je (Q.trans G));rw[G.out]at m;obtain⟨_,bg,bh⟩:=ag;have a2:n.frozen? (qP y (a*3+1))=false:=(by have q:=h.row;rw[show(Kd k0 _++(⟨_,_,_⟩:Gr)::gs.drop _).length=b by have:=u.out;simpa using this]at q;exact q.frozenAt _)
  have a3:n.frozen? (qP y (a*3+2))=false:=(by have q:=h.row;rw[show(Kd k0 _++(⟨_,_,_⟩:Gr)::gs.drop _).length=b by have:=u.out;simpa using this]at q;exact q.frozenAt _)
  have ah:=zC m.1;have ai:=zC (T.trans (Kk.of_row h.row m.2));have aj:=zC (af.trans (Kv.of_row h.row m.2));have ak:=zC (S.trans (Kp.of_grown m.2 (λr L=>by simp_all)));clear x j h m S R P KK T H;go_wp2;go_roundw
  case rel=>
   refine⟨a+1,qF,by rw[ae];go_num,qL,?_,ak,ai,aj⟩;rw[ad.out,vK];have:=ah.out;rw[<- ac.out]at this;exact this
  simp[intOf];omega
 obtain rfl:a=b:=qF
 have I:gs.take a=gs:=xU (by have:=g.out;omega);have U:gs.drop a= []:=vx (by have:=g.out;omega);rw[I,U,vT]at c;rw[I];have HS:=zC c;have al:=zC z;have am:=zC A;clear c z A I U;go_wp2;go_ret;exact⟨rfl,HS,al,am,O⟩
def I6(gs)(st)(vr vt)(vs)(lo hi)(k0)(a)(j:yt 86 a lo hi vr vs gs)(t:Zr a lo vt st)(L:bel hi vt)(U:lo<=hi)(u:hi<=a.heap.size)(V:zr gs<=1073741824)(ht:st.length<=1048576)(M:0<=k0)(W:k0<=100000000):
  Calls prog 30 #[.agg #[vr,vt],qC k0] a λi w'=>i=qQ (qC (k0+zr gs+st.length))/\(yt 86 w' lo hi vr vs (Kd k0 gs)/\Zr w' lo vt (mks (k0+zr gs) st.length))/\Kp lo hi a w'/\KG vs a w':=by
 have b:Zh a lo hi vr vt gs st:=⟨⟨vs,j⟩,t,L⟩
 have c:=zC ((xe _ a).alloc lR (qR #[vr,vt] 28));have g:=zC (b.below c u);have l:=zC (D2.new a vr vt 28);have A:a.heap.size<(a.alloc (qR #[vr,vt] 28)).heap.size:=qH
 obtain⟨X,Y,N,O,rfl,rfl⟩:=b.val;have m:=j.frame (λe _ T=>c.block e qF);have n:=zC (Lc gs vs _ lo hi k0 _ m qF M qF);have B:=zC (λa b=>Ta st (qM N st.length O) lo (k0+zr gs) a b qF qF qF);clear b m j t;generalize I:zr gs=Q at *;generalize J:gs.length=R at *;generalize r:st.length=K at *;have HM:=zC r;clear J r I;go_enter func30,ntmps30;go_wp2_with fail;generalize a.alloc _=S at *;refine n.mono ?_;rintro i v ⟨rfl,w,k,x,y⟩;have C:=zC (KG.of c y);have o:=zC (Kp.qj (lo:=lo) (hi:=hi) c);have p:=zC (o.trans k);have P:=(D2.c ((k.block a.heap.size A (.inr u)).trans l)).2;have d:=zC (show v.ownsRow lo 3 1 _ K _ from x _ _ _ _ _ _ qG qG (by have h:=g.starts;unfold Zr at h;rw[HM.out]at h;exact h));have D:=zC g.bl;have q:=zC w;clear c l n o g w k x y;go_wp2_with fail;refine(B v (by show World.ownsRow _ _ _ _ _ _ _;rw[HM.out];exact d)).mono ?_;rintro i w2 ⟨rfl,z,f⟩;have E:=zC (q.kept d qG qG f);have F:=zC (p.trans (Kp.of_grown f (λe s=>⟨(d.lt e s).1,D e s⟩)));have G:=zC (C.trans (KG.row d f));have H:=zC z;clear z f q p;go_wp2;go_ret;exact⟨rfl,⟨E,H⟩,F,G⟩
def I8(gs)(m)(vr vt)(lo hi)(k0)(w)(d:Zh w lo hi vr vt (Kd k0 gs) (mks (k0+zr gs) m))(k:hi<=w.heap.size)(v:zr gs<=1073741824)(ht:m<=1048576)(l:0<=k0)(x:k0<=100000000):
  Calls prog 32 #[.agg #[vr,vt],qC k0] w λc w'=>c=qQ (qC (k0+zr gs+m))/\qY w w':=by
 have e:=zC ((xe _ w).alloc lR (qR #[vr,vt] 28));have a:=zC (d.below e k);have f:=zC (D2.new w vr vt 28);obtain⟨y,z,A,B,rfl,rfl⟩:=d.val;obtain⟨vs,g⟩:=a.out.rows;have h:=zC (LX gs vs _ lo hi k0 _ g qF l qF);have i:=zC (Tc _ m _ _ (Rd.qa a.starts) qF qF qF);have o:¬ (k0+(zr gs))<0:=qF
 have p:¬ (k0+(zr gs)+m)<0:=qF
 have q:=(D2.c f).2;clear d g a f;generalize (mks _ m).length=r at *;generalize zr gs=s at *;generalize (Kd k0 gs).length=t at *;go_enter func32,ntmps32;go_wp2_with fail;generalize w.alloc _=u at *;refine h.mono ?_;rintro c C ⟨rfl,n⟩;have b:=n.symm;subst b;go_wp2_with fail;refine i.mono ?_;rintro c w2 ⟨rfl,b⟩;have j:=b.symm;subst j;go_wp2;go_ret;exact⟨rfl,e⟩
def belO(b:Nat)(c:qT):Prop:=∀a,c.ownBlock=some a->a<b
structure yR(e:TypeId)(size:Nat)(w:qS)(lo hi:Nat)(vs:qU)(cs:List (qU))(a:List Nat):Prop where
 len:vs.length=cs.length
 len2:vs.length=a.length
 own:∀(i:Nat)v c n,vs[i]?=some v->cs[i]?=some c->a[i]?=some n->w.ownsRow lo e size v n c
 bl:∀v∈vs,belO hi v
 ne:∀(i j:Nat)u v q,i≠j->vs[i]?=some u->vs[j]?=some v->u.ownBlock=some q->v.ownBlock≠some q
section
variable {e:TypeId} {size:Nat} {w w':World} {lo hi hi':Nat} {vs:List Value} {cs:List (List Value)} {ns:List Nat} {v:Value} {c:List Value} {n:Nat}
def yR.nil:yR e size w lo hi [] [] []:=⟨rfl,rfl,λb v c n a=>by simp at a,λv a=>by simp at a,λb d f v g _ a=>by simp at a⟩
def yR.frame(b:yR e size w lo hi vs cs ns)(j:∀a,lo<=a->a<hi->w'.heap[a]? =w.heap[a]?):yR e size w' lo hi vs cs ns:=
 ⟨b.len,b.len2,λf v c n d g h=>zD (b.own f v c n d g h) (λa i=>j a ((b.own f v c n d g h).lt a i).1 (b.bl v (xH d) a i)),b.bl,b.ne⟩
def yR.snoc(f:yR e size w lo hi vs cs ns)(K:w.ownsRow lo e size v n c)(t:∀a,v.ownBlock=some a->hi<=a/\a<hi')(L:hi<=hi'):yR e size w lo hi' (vs++ [v]) (cs++ [c]) (ns++ [n]):=by
 have x:=f.len;have y:=f.len2
 have g:∀{m:Type}(h:List m)(o k:m)(b:Nat),(h++ [o])[b]?=some k->h[b]?=some k/\b<h.length\/b=h.length/\k=o:=by
  intro m h o k b hi;rcases kU b h.length with a | a | a
  ·left;rw[xW a]at hi;exact⟨hi,a⟩
  ·simp_all
  rw[vW qJ]at hi;cases hi
 refine⟨by simp[x],by simp[y],?_,?_,?_⟩
 ·intro b H I J B C D
  rcases g _ _ _ _ B with ⟨j,a⟩ | ⟨rfl,rfl⟩
  ·rcases g _ _ _ _ C with ⟨d,_⟩ | ⟨d,_⟩
   ·rcases g _ _ _ _ D with ⟨u,_⟩ | ⟨u,_⟩
    ·exact f.own b _ _ _ j d u
    omega
   omega
  simp_all
 ·intro l i a E
  rcases vD.1 i with i | i
  ·have:=f.bl l i a E;omega
  simp_all
 intro b F l r a G i s p q;rcases g _ _ _ _ i with ⟨j,_⟩ | ⟨j,rfl⟩
 ·rcases g _ _ _ _ s with ⟨d,_⟩ | ⟨d,rfl⟩
  ·exact f.ne b F l r a G j d p q
  have z:=f.bl l (xH j) a p;have A:=(t a q).1;omega
 rcases g _ _ _ _ s with ⟨d,_⟩ | ⟨d,rfl⟩
 ·have z:=f.bl r (xH d) a q
  have A:=(t a p).1;omega
 omega
end
def jZ:qU->qU->List Ob->qU
 | a::b,c::d,e::f=>Fk e a c++jZ b d f
 | _,_,_=>[]
def WE{b c a}(d:b.length=a.length)(e:c.length=a.length):(jZ b c a).length=a.length*10:=by
 induction a generalizing b c with
 | nil=>cases b<;>cases c<;>simp_all[jZ]
 | cons g a f=>
  match b,c,d,e with
  | h::b,i::c,d,e=>
   simp only[jZ,xg,vh]at *;rw[f qF qF];simp[Fk];omega
def DC{d e f g k vt vm x}(a:d[g]?=some vt)(b:e[g]?=some vm)(c:f[g]?=some x)(m:k<10):(jZ d e f)[g*10+k]? =(Fk x vt vm)[k]?:=by
 induction g generalizing d e f with
 | zero=>
  match d,e,f,a,b,c with
  | h::d,i::e,j::f,a,b,c=>
   simp at a b c;subst a b c;simp only[jZ,Nat.zero_mul,xX];rw[xW (by simp[Fk];omega)]
 | succ g l=>
  match d,e,f,a,b,c with
  | h::d,i::e,j::f,a,b,c=>
   simp at a b c;simp only[jZ];rw[vb (by simp[Fk];omega),<- l a b c]
   congr 1
   simp[Fk];omega
def DH{a us b ns c ys}(d:a.length=c.length)(e:b.length=c.length):jZ (a++us) (b++ns) (c++ys)=jZ a b c++jZ us ns ys:=by
 induction c generalizing a b with
 | nil=>cases a<;>cases b<;>simp_all[jZ]
 | cons f c g=>
  match a,b,d,e with
  | v::a,h::b,d,e=>
   simp at d e;simp only[vI,jZ]
   simp_all
structure Za(w:qS)(lo hi:Nat)(v:qT)(a b:qU)(xs:List Ob):Prop where
 row:w.ownsRow lo 81 10 v xs.length (jZ a b xs)
 rb:belO hi v
 nt:yR 21 1 w lo hi a (xs.map λx=>zI .i32 x.t) (xs.map λx=>x.t.length)
 nm:yR 166 3 w lo hi b (xs.map λx=>zY x.m) (xs.map λx=>x.m.length)
def Za.frame{w w' lo hi v vts vms xs}(b:Za w lo hi v vts vms xs)(c:∀a,lo<=a->a<hi->w'.heap[a]? =w.heap[a]?):Za w' lo hi v vts vms xs:=
 ⟨zD b.row (λa d=>c a (b.row.lt a d).1 (b.rb a d)),b.rb,b.nt.frame c,b.nm.frame c⟩
def Za.below{w w' lo hi v vts vms xs}(b:Za w lo hi v vts vms xs)(c:qY w w')(e:hi<=w.heap.size):Za w' lo hi v vts vms xs:=b.frame (λa _ d=>c.block a qF)
def Za.rd{w lo hi v vts vms xs}(b:Za w lo hi v vts vms xs)(ht:∀d∈xs,d.t.length<=maxLen/\d.m.length<=maxLen):Tg w v xs:=by
 rcases b.row.2 with ⟨rfl,h⟩ | ⟨l,m,t,rfl,u,x,n,o,y,z⟩
 ·left;simp_all
 by_cases h:xs.length=0
 ·left;rw[h];simp_all
 right;refine⟨l,0,m,rfl,⟨qF,n,o⟩,λc d a=>?_⟩;have p:=(xp.1 a).1;have q:vts.length=xs.length:=by rw[b.nt.len,xO]
 have r:vms.length=xs.length:=by rw[b.nm.len,xO]
 have e:=xw (show c<vts.length by omega);have f:=xw (show c<vms.length by omega);have i:=b.nt.own c _ _ _ e (by rw[xZ,a];rfl) (by rw[xZ,a];rfl);have j:=b.nm.own c _ _ _ f (by rw[xZ,a];rfl) (by rw[xZ,a];rfl);have g:=ht d (xH a);refine⟨_,_,λs k=>?_,Rd.qa i,zS.rd (j),g.1,g.2⟩;rw[xX,b.row.cellAt _ qF];exact DC e f a k
def Tryz.infoOB:(prog.info? 81).map (λa=>(a.zero,a.size,a.bytes))=some (some (.agg #[qC 0,qC 0,qC 0,qN,qN,qC 0,qC 0,qC 0,qC 0,qC 0]),10,112):=qI
def c7{a:qS}{b i cs t f v}(c:a.heap[b]?=some (qR cs t f))(d:cs[i]?=some v):a.cell? (qP b i)=some v:=(xF a b i cs t f c).trans d
section
variable {w:World} {s:Nat} {x:V7} {op:Bool} {sp cp:Int}
def S7.c(a:S7 w s x op sp cp):w.cell? (qP s 0)=some x.tv/\w.cell? (qP s 1)=some x.mv/\w.cell? (qP s 2)=some x.uv/\w.cell? (qP s 3)=some x.rv/\w.cell? (qP s 4)=some x.gv/\w.cell? (qP s 5)=some (.bool op)/\w.cell? (qP s 6)=some (qC sp)/\w.cell? (qP s 7)=some (qC cp)/\w.cell? (qP s 8)=some x.slv/\w.cell? (qP s 9)=some x.lv:=
 ⟨c7 a rfl,c7 a rfl,c7 a rfl,c7 a rfl,c7 a rfl,c7 a rfl,c7 a rfl,c7 a rfl,c7 a rfl,c7 a rfl⟩
def S7.f(a:S7 w s x op sp cp)(j):w.frozen? (qP s j)=false:=xY w s j _ _ a
def S7.set0(a:S7 w s x op sp cp)(v):S7 (w.setCell (qP s 0) v) s {x with tv:=v} op sp cp:=(xN w s 0 _ _ v a).trans rfl
def S7.set1(a:S7 w s x op sp cp)(v):S7 (w.setCell (qP s 1) v) s {x with mv:=v} op sp cp:=(xN w s 1 _ _ v a).trans rfl
def S7.set2(a:S7 w s x op sp cp)(v):S7 (w.setCell (qP s 2) v) s {x with uv:=v} op sp cp:=(xN w s 2 _ _ v a).trans rfl
def S7.set3(a:S7 w s x op sp cp)(v):S7 (w.setCell (qP s 3) v) s {x with rv:=v} op sp cp:=(xN w s 3 _ _ v a).trans rfl
def S7.set4(a:S7 w s x op sp cp)(v):S7 (w.setCell (qP s 4) v) s {x with gv:=v} op sp cp:=(xN w s 4 _ _ v a).trans rfl
def S7.set5(a:S7 w s x op sp cp)(b):S7 (w.setCell (qP s 5) (.bool b)) s x b sp cp:=(xN w s 5 _ _ _ a).trans rfl
def S7.set6(a:S7 w s x op sp cp)(v):S7 (w.setCell (qP s 6) (qC v)) s x op v cp:=(xN w s 6 _ _ _ a).trans rfl
def S7.set9(a:S7 w s x op sp cp)(v):S7 (w.setCell (qP s 9) v) s {x with lv:=v} op sp cp:=(xN w s 9 _ _ v a).trans rfl
end
section
variable {w w':World} {B s:Nat} {x:V7} {M:SS}
def SM.put{x' M' j v}(b:SM w B s x M)(e:S7 (w.setCell (qP s j) v) s x' M'.op M'.sp M'.cp)(f:x'.slv=x.slv/\x'.lv=x.lv/\M'.sl=M.sl/\M'.lg=M.lg)
  (g:zT w 0 x'.tv M'.tx) (h:zS w 0 x'.mv M'.ms) (i:XH w x'.uv M'.un) (k:XH w x'.rv M'.re) (l:KZ w x'.gv M'.gr) (m:M'.cp=M.cp) (n:M'.un.length<=M'.cp):SM (w.setCell (qP s j) v) B s x' M':=
 have a:=(Dn.set b j v).kt
 b.to a e f (λc d=>xj w _ c v (b.slne d)) (λc d=>xj w _ c v (b.lvne d)) (g.kt a) (h.kt a) (i.kt a) (k.kt a) (l.kt a) m n
def SM.tx'(a:SM w B s x M){v t}(b:zT w 0 v t):SM (w.setCell (qP s 0) v) B s {x with tv:=v} {M with tx:=t}:=a.put (a.blk.set0 v) ⟨rfl,rfl,rfl,rfl⟩ b a.ms a.un a.re a.gr rfl a.ul
def SM.ms'(a:SM w B s x M){v t}(b:zS w 0 v t):SM (w.setCell (qP s 1) v) B s {x with mv:=v} {M with ms:=t}:=a.put (a.blk.set1 v) ⟨rfl,rfl,rfl,rfl⟩ a.tx b a.un a.re a.gr rfl a.ul
def SM.un'(a:SM w B s x M){v t}(b:XH w v t)(c:t.length<=M.cp):SM (w.setCell (qP s 2) v) B s {x with uv:=v} {M with un:=t}:=a.put (a.blk.set2 v) ⟨rfl,rfl,rfl,rfl⟩ a.tx a.ms b a.re a.gr rfl c
def SM.re'(a:SM w B s x M){v t}(b:XH w v t):SM (w.setCell (qP s 3) v) B s {x with rv:=v} {M with re:=t}:=a.put (a.blk.set3 v) ⟨rfl,rfl,rfl,rfl⟩ a.tx a.ms a.un b a.gr rfl a.ul
def SM.gr'(a:SM w B s x M){v t}(b:KZ w v t):SM (w.setCell (qP s 4) v) B s {x with gv:=v} {M with gr:=t}:=a.put (a.blk.set4 v) ⟨rfl,rfl,rfl,rfl⟩ a.tx a.ms a.un a.re b rfl a.ul
def SM.op'(a:SM w B s x M)(b):SM (w.setCell (qP s 5) (.bool b)) B s x {M with op:=b}:=a.put (a.blk.set5 b) ⟨rfl,rfl,rfl,rfl⟩ a.tx a.ms a.un a.re a.gr rfl a.ul
def SM.sp'(a:SM w B s x M)(b:Nat):SM (w.setCell (qP s 6) (qC b)) B s x {M with sp:=b}:=a.put (a.blk.set6 b) ⟨rfl,rfl,rfl,rfl⟩ a.tx a.ms a.un a.re a.gr rfl a.ul
def SM.D{x' M' j v}(a:SM w B s x M)(b:SM (w.setCell (qP s j) v) B s x' M'):SM (w.setCell (qP s j) v) B s x' M'/\Dn w B (w.setCell (qP s j) v):=⟨b,Dn.set a j v⟩
def SM.hB(a:SM w B s x M):B<=w.heap.size:=kG (Nat.lt_of_le_of_lt a.bs a.lt)
def SM.vs(c:SM w B s x M):(∃a b,x.tv= .slice a M.tx.length b)/\(∃a b,x.mv= .slice a M.ms.length b)/\(∃a b,x.uv= .slice a M.un.length b)/\(∃a b,x.rv= .slice a M.re.length b)/\(∃a b,x.gv= .slice a M.gr.length b):=
 ⟨zX c.tx,c.ms.val,c.un.val,c.re.val,c.gr.val⟩
def St(d:qS)(a e:Nat)(f:SS)(b:qS):Prop:=∃c,SM b a e c f/\Dn d a b
def Tj(n)(a:SM w B s x M)(f:M.sp<=200000)(g:n<=1000000000)(h:M.sp+n<=200000):
  Calls prog 100 #[qO s 0,qC n] w λc w'=>c=qQ (.bool true)/\St w B s {M with sp:=M.sp+n} w':=by
 have b:=zC a;obtain⟨_,_,_,_,_,_,i,_⟩:=a.blk.c;have d:=a.blk.f 6;have e:¬ ((M.sp:Int)+n > 200000):=qF
 clear a;go_enter func100,ntmps100;go_wp2;go_ret;exact⟨rfl,x,b.sp' _,Dn.set b 6 _⟩
def DM(n)(a:SM w B s x M)(d:M.sp<=200000)(e:n<=1000000000)(f:¬M.sp+n<=200000):
  Calls prog 100 #[qO s 0,qC n] w λb w'=>b=qQ (.bool false)/\w'=w:=by
 obtain⟨_,_,_,_,_,_,g,_⟩:=a.blk.c;have c:(M.sp:Int)+n > 200000:=qF
 clear a;go_enter func100,ntmps100;go_wp2;go_ret;simp
end
def Tryz.infoLC7:(prog.info? 57).map (λa=>(a.zero,a.size,a.bytes))=some (some (.agg #[qC 0,qC 0,qC 0,qN]),4,48):=qI
def Tryz.infoLR7:(prog.info? 51).map (λa=>(a.zero,a.size,a.bytes))=some (some qN,1,24):=qI
def ap7{P w ops rest f a Q}(k:f.guard=none)(s x)(t)
  (l:f.op= .call {callee:=.builtin .append,args:=#[s,x],argTypes:=#[t,t]})
  (base) (e) (i) (z) (size bytes) (ht:P.underlying t=some (.slice e)) (o:P.info? e=some i) (A:i.zero=some z)
  (B:i.size=size) (C:i.bytes=bytes) (D:z.cells.size=size) (E:0<size)
  (v) (n) (xs) (p:a.eval s=v) (h:w.ownsRow base e size v n xs) (xv) (m) (news) (q:a.eval x=xv)
  (F:xv= .slice none 0 0/\m=0\/∃b g,xv= .slice (some b) m g/\∀j c,news[j]?=some c->w.cell? (b.add j)=some c) (r:news.length=m*size) (G:∀c∈news,c.oneCell'=true)
  (H:n+m<=maxLen) (I:(n+m)*bytes<=140737488355328) (J:base<=w.heap.size)
  (u:∀d w',w'.ownsRow base e size d (n+m) (xs++news)->w.grownBy w' v.ownBlock->wpList P ops Q rest (a.put f.dst d) w'):wpList P ops Q (f::rest) a w:=by
 rcases F with ⟨rfl,rfl⟩ | ⟨b,g,rfl,K⟩
 ·refine wpList_append_own_none k s x t l base e i size ht o _ n xs p h q (u v w ?_ ⟨rfl,rfl,rfl,lR,λ_ _ _=>rfl⟩)
  rw[show news= []from xL (by simpa using r),vT];exact h
 exact wpList_append_own_at _ k s x t l base e i z size bytes ht o A B C D E v n xs p h b m g news q r K G H I J (λd w' a y _ _=>u d w' a y)
def Jv{F nF P w ops rest b a Q}(l:b.guard=none)(s x)(t)
  (h:b.op= .call {callee:=.builtin .append,args:=#[s,x],argTypes:=#[t,t]})
  (base) (e) (i) (z) (size bytes) (ht:P.underlying t=some (.slice e)) (o:P.info? e=some i) (C:i.zero=some z)
  (D:i.size=size) (E:i.bytes=bytes) (G:z.cells.size=size) (H:0<size)
  (v) (n) (xs) (p:a.eval s=v) (j:w.ownsRow base e size v n xs) (xv) (m) (news) (q:a.eval x=xv)
  (I:xv= .slice none 0 0/\m=0\/∃c g,xv= .slice (some c) m g/\∀k d,news[k]?=some d->w.cell? (c.add k)=some d) (r:news.length=m*size) (J:∀d∈news,d.oneCell'=true)
  (K:n+m<=maxLen) (L:(n+m)*bytes<=140737488355328) (M:base<=w.heap.size)
  (u:∀f w',w'.ownsRow base e size f (n+m) (xs++news)->w.grownBy w' v.ownBlock->wpListIn F nF P ops Q rest (a.put b.dst f) w'):wpListIn F nF P ops Q (b::rest) a w:=by
 rcases I with ⟨rfl,rfl⟩ | ⟨c,g,rfl,N⟩
 ·refine wpListIn_plain l λO A=>?_
  have y:=run_append_owned_none (w:=w) base t b.type e i size ht o v n xs j;unfold Oper.wpIn;refine⟨by simp[Oper.about,h,resolve,Target.leads],?_⟩;rw[Oper.semAt_plain F _ _ (by simp_all)];simp[execOp,h,resolve,invoke,builtin,p,q,y];refine A _ _ (u v w ?_ ⟨rfl,rfl,rfl,lR,λ_ _ _=>rfl⟩);rw[show news= []from xL (by simpa using r),vT];exact j
 exact wpListIn_append_own_at _ l s x t h base e i z size bytes ht o C D E G H v n xs p j c m g news q r N J K L M (λf w' a B _ _=>u f w' a B)
section
variable {w w':World} {B s:Nat} {x:V7} {M:SS}
def NoteP(b:qS)(g h:Nat)(i:V7)(c:SS)(j:LE)(d:qS):Prop:=
 ∃e ls,S7 d h {i with lv:=e} c.op c.sp c.cp/\d.ownsRow g 57 4 e (c.lg.length+1) ls/\(∀f,TC b f->Uq f ls (c.lg++ [j]))/\(∀a,a<b.heap.size->a≠h->i.lv.ownBlock≠some a->d.heap[a]? =b.heap[a]?)/\KT b d/\Below g b d
def SM.apart(a:SM w B s x M){q}(d:x.slv.ownBlock=some q):x.lv.ownBlock≠some q:=λc=>by
 obtain⟨ls,e,_⟩:=a.lg;obtain⟨h,f,_⟩:=a.sl;obtain⟨i,j,b⟩:=jr e c;obtain⟨k,l,g⟩:=jr f d;rw[g]at b;simp only[xE,kf]at b
 simp_all
def SM.noted{W x' l ls ms}(a:SM w B s x M)(b:KT w W)(h:S7 W s x' M.op M.sp M.cp)(d:x'={x with mv:=x'.mv,lv:=x'.lv})(i:zS W 0 x'.mv ms)(j:W.ownsRow B 57 4 x'.lv (M.lg.length+1) ls)(k:Uq W ls (M.lg++ [l]))(m:∀c,x.slv.ownBlock=some c->W.heap[c]? =w.heap[c]?):SM W B s x' {M with ms:=ms,lg:=M.lg++ [l]}:=by
 obtain⟨n,o,p,q⟩:=a.sl;obtain⟨r,mv,t,u,v,y,lv⟩:=x';simp at d;obtain⟨rfl,rfl,rfl,rfl,rfl⟩:=d;exact⟨h,a.tx.kt b,i,a.un.kt b,a.re.kt b,a.gr.kt b,⟨n,zD o m,p,λe f g=>(q e f g).kt b⟩,⟨ls,by simpa using j,k⟩,a.bs,a.cp,a.ul⟩
theorem Wz (kd lo hi:Nat) (tv) (ts) (c:SM w B s x M) (ht:Uz w tv ts) (r:M.lg.length<=1000000000):
  Calls prog 102 #[.pointer (qD s 0),qC kd,qC lo,qC hi,tv] w fun e w'=>e= .returned (.tuple #[])∧NoteP w B s x M ⟨kd,lo,hi,ts⟩ w':=by
 obtain⟨W,X,Y,Z,aa⟩:=vw Tryz.infoLC7;have m:=zC c;obtain⟨ls,d,G⟩:=c.lg;have o:=zC d;have HT:=zC ht;have H:=zC G;obtain⟨ta,tk,rfl⟩:=ht.val;obtain⟨_,_,_,_,_,_,_,_,_,c9⟩:=c.blk.c;have I:=c.lt;have ad:=c.hB;have D:=zC (fun q b=>c.lvne (q:=q) b)
 obtain⟨ab,ac,y⟩:∃a k,x.lv= .slice a M.lg.length k:=by
  rcases d.2 with ⟨e,ak⟩ | ⟨g,cap,al,e,_⟩
  ·simp_all
  exact⟨_,_,e⟩
 rw [y]at c9;have J:=zC (zV w 57 [qC kd,qC lo,qC hi,.slice ta ts.length tk]);have i:=zC ((xe _ w).alloc lR (.cells #[qC kd,qC lo,qC hi,.slice ta ts.length tk] 57));have ae:w.heap.size+1=(w.alloc (.cells #[qC kd,qC lo,qC hi,.slice ta ts.length tk] 57)).heap.size:=by simp
 obtain⟨l,A⟩:∃l,l=M.lg.length:=⟨_,rfl⟩
 have K:=zC A;have j:=zC y;rw [<- A]at r o j c9;rw [j.out]at o;clear c d ht y A G;go_enter func102,ntmps102;go_wp2_with (at_builtin;refine wpList_append_lies _ rfl _ _ 53 rfl B 57 W _ 4 48 underlying53 X Y Z aa rfl (by decide) (.slice ab l ac) l ls rfl (o.alloc _) _ 1 1 _ rfl rfl J (by simp [Value.oneCell']) (by omega) (by unfold maxLen;omega) (by omega) (by omega) _ rfl ?_;intro g R w1 S h T ah;have n:=zC (show S7 w1 s x _ _ _ from(h.block s (by omega) (fun e=>D s (by rw [j.out];exact e.symm) rfl)).trans ((i.block s I).trans m.blk));have af:=n.c.2.2.2.2.2.2.2.2.2;have ag:=n.f 9);go_end0
 have L:x.lv.ownBlock=some g∨w.heap.size<=g:=by
  rw [j.out];exact T.imp id (fun ai=>by omega)
 have N:=L.elim (fun e=>D g e) (fun e=>by omega);have p:∀q,q<w.heap.size->x.lv.ownBlock≠some q->w1.heap[q]? =w.heap[q]?:=fun q b r=>(h.block q (by omega) (by rw [<- j.out];exact fun e=>r e.symm)).trans (i.block q b)
 have E:w.heap.size<=w1.heap.size:=by have:=h.size;omega
 have O:KT w w1:=⟨E,fun q cs t f e u=>p q (qZ.1 e).1 (fun v=>by
  obtain⟨ls,d,_⟩:=m.out.lg;obtain⟨am,an,C⟩:=jr d v;rw [e]at C;simp at C
  exact u.2.2.1 C.2.1)⟩
 have P:Below B w w1:=⟨h.os.trans i.os,h.tape.trans i.tape,h.output.trans i.output,E,fun q b=>p q (by omega) (fun v=>by
  obtain⟨ls,d,_⟩:=m.out.lg
  have:=(d.lt q v).1;omega)⟩
 have Q:KT w1 (w1.setCell ⟨s,9,none⟩ (.slice (qD g 0) (l+1) R)):=KT.at n (.inl rfl) (by simp) (fun q _ b=>xj w1 _ q _ b);refine⟨rfl,_,_,n.set9 _,zD S (fun q b=>xj w1 ⟨s,9,none⟩ q _ (by simp only [Value.ownBlock,xE]at b;subst b;exact N)) |> fun z=>by rw [<- K.out];exact z,fun aj F=>(H.k32 F).snoc (HT.k32 F),fun q u U V=>(xj w1 _ q _ U).trans (p q u V),O.trans Q,P.trans ⟨rfl,rfl,rfl,by simp,fun q b=>xj w1 _ q _ (by have:=m.bs;show q≠s;omega)⟩⟩
def Id(d e f:Nat)(tv)(ts)(a:SM w B s x M)(ht:Uz w tv ts)(j:M.lg.length<=1000000000):
  Calls prog 102 #[qO s 0,qC d,qC e,qC f,tv] w λg w'=>g=qQ (.tuple #[])/\St w B s {M with lg:=M.lg++ [⟨d,e,f,ts⟩]} w':=by
 refine(Wz d e f tv ts a ht j).mono ?_;rintro g w' ⟨rfl,p,ls,k,l,m,i,b,n⟩;obtain⟨q,o,_⟩:=a.sl;exact⟨rfl,_,a.noted b k rfl (a.ms.kt b) l (m w' b.k32) (λh c=>i h (o.lt h c).2 (a.slne c) (a.apart c)),b,n,a.ob i⟩
def jb{α:Type}(c:Nat)(a:List α)(b:α):List α:=if c<a.length+1 then(a++ [b]).drop 1 else a++ [b]
def EB{α c l}{a:α}(b:l.length<=c):(jb c l a).length<=c:=by unfold jb;split<;>simp<;>omega
def Ka.psh{us gs v g}(b:Ka w us gs)(d:KZ w v g)(c):Ka w (jb c us v) (jb c gs g):=by
 have a:Ka w (us++ [v]) (gs++ [g]):=b.app ⟨d,xB⟩;unfold jb;rw[b.len]
 split
 ·exact a.drop1
 exact a
def I4.src{v us}(d:I4 w v us):v= .slice none 0 0/\us.length=0\/∃c e,v= .slice (some c) us.length e/\∀a b,us[a]?=some b->w.cell? (c.add a)=some b:=by
 rcases d with ⟨d,rfl⟩ | ⟨j,k,g,h,_,i⟩
 ·simp_all
 exact .inr ⟨_,g,h,λa b f=>by rw[yF];exact i a b f⟩
theorem Tk (gv) (g) (b:SM w B s x M) (J:KZ w gv g):
  Calls prog 107 #[.pointer (qD s 0),gv] w fun e w'=>e= .returned (.tuple #[])∧St w B s {M with un:=jb M.cp M.un g} w':=by
 obtain⟨aa,ab,ac,ad,ae⟩:=vw Tryz.infoLR7;have C:=zC b;have HG:=zC J;obtain⟨o,p,rfl⟩:=J.val;obtain⟨us,j,z⟩:=b.un;have ag:=zC z;have a0:=b.lt;have ah:=b.cp;have L:=b.ul;have D:=zC ((xe _ w).alloc lR (.cells #[] 51));have E:=zC (j.kt (KT.of D)).src;have ai:=zC (show ∀u∈us,u.oneCell'=true from fun u j=>by obtain⟨a,l,k,rfl⟩:=z.sl u j;rfl);have N:=zC (show(w.alloc _).ownsRow _ 51 1 _ 0 []from kr w #[] 0 lR (xK _) rfl);have aj:(w.alloc (.cells #[] 51)).heap.size=w.heap.size+1:=by simp
 obtain⟨ua,uk,af⟩:=j.val;have ak:=zC (show(jb _ _ g).length<=M.cp from EB b.ul);obtain⟨_,_,d,_,_,_,_,c7,_⟩:=b.blk.c;rw [af]at d E;obtain⟨n,A⟩:∃n,n=us.length:=⟨_,rfl⟩
 have f:=zC A;rw [<- z.len,<- A]at L;rw [<- A]at d E;obtain⟨cp,K⟩:∃c,c=M.cp:=⟨_,rfl⟩
 have O:=zC K;rw [<- K]at c7 ah L;clear b J j K z af A;go_enter func107,ntmps107;go_upto_region 1 with (at_builtin;refine ap7 rfl _ _ 50 rfl _ 51 aa _ 1 24 underlying50 ab ac ad ae rfl (by decide) (.slice _ 0 0) 0 [] rfl (N) _ n us rfl (E) (by rw [<- f.out];omega) (ai) (by unfold maxLen;omega) (by omega) (by omega) ?_;intro aq w1 h V)
 rw [xX,vq]at h;have r:=zC (D.grown V (by omega) (fun q m=>by simp only [Value.ownBlock,xE]at m;omega));have P:=zC (zV w1 51 [.slice o g.length p]);have F:=zC (r.alloc r.size (.cells #[.slice o g.length p] 51));have Q:=zC (h.alloc (.cells #[.slice o g.length p] 51));have al:(w1.alloc (.cells #[.slice o g.length p] 51)).heap.size=w1.heap.size+1:=by simp
 have y1:=r.size
 obtain⟨av,aw,rfl⟩:∃a k,aq= .slice a n k:=by
  rcases h.2 with ⟨e,a6⟩ | ⟨g,cap,ax,e,_⟩
  ·simp_all
  exact⟨_,_,e⟩
 have am:=zC (fun q m=>(h.lt q m).1);clear h V N D aj d c7 r;go_upto_region 2 with (at_builtin;refine wpList_append_lies _ rfl _ _ 50 rfl _ 51 aa _ 1 24 underlying50 ab ac ad ae rfl (by decide) (.slice av n aw) n us rfl (Q) _ 1 1 _ rfl rfl P (by simp [Value.oneCell']) (by omega) (by unfold maxLen;omega) (by omega) (by omega) _ rfl ?_;intro W d ar I X au a5)
 have t:=zC (F.grown X F.size (fun q m=>am q m));have y:=zC (C.below t);have R:=zC (HG.kt (KT.of t));have S:=zC (ag.kt (KT.of t));have G:=zC I
 have an:n+1<=d∧d<=maxLen:=by
  rcases I.2 with ⟨e,_⟩ | ⟨g',a7,ax,e,_,_,a8,a9,_⟩
  ·cases e
  simp_all
 obtain⟨_,_,ba,_,_,_,_,ay,_⟩:=y.out.blk.c;rw [<- O.out]at ay;have a1:=y.blk.f 2
 have T:=zC (show ∀v,I4 ar v (jb cp us _)->SM _ B s _ _∧Dn w B _ from fun v Z=>
  ⟨y.un' ⟨_,by rw [O.out]at Z;exact Z,S.psh R _⟩ ak,(Dn.of t C.hB).trans (Dn.set y 2 v)⟩)
 clear I X au Q P F al C R S;by_cases Y:cp<n+1
 ·have ao:(cp:Int)<n+1:=by omega
  have a2:¬d=1:=(by omega);have a3:n+1 - 1=n:=(by omega);unfold maxLen at an;refine xQ 2 ?_;rw [xG];go_wp2;rw [xG];go_wp2;go_end0;refine⟨rfl,_,T _ ?_⟩;unfold jb;rw [<- f.out,xS Y];have U:((us++ [Value.slice o g.length p]).drop 1).length=n:=(by simp;exact f.symm);obtain⟨cs,az,H⟩:=jr G (q:=W) rfl;refine .inr ⟨W,1,_,by rw [U],⟨by rw [U];omega,by unfold maxLen;omega,cs,az,H⟩,fun i u hi=>?_⟩;rw [vJ]at hi;have ap:=G.cellAt (1+i) (by have:=(xp.1 hi).1;have a4:=f.out;simp at this;omega);rw [ap,hi]
 have ao:¬ (cp:Int)<n+1:=by omega
 refine xQ 1 ?_;rw [xG];go_wp2;go_end0
 have H:=T _ (by
  unfold jb;rw [<- f.out,xJ Y]
  exact I4.own (by rw [xg,<- f.out];exact G))
 exact⟨rfl,_,H⟩
end
section
open Go.Sort
def j5(b:Bool)(c:List SR):Nat:=(c.map (λa=>if a.put=b then 0 else a.n)).sum
def DT{b}{a:List SR}{k r}(c:a[k]?=some r):j5 b (a.take (k+1))=j5 b (a.take k)+(if r.put=b then 0 else r.n):=by
 unfold j5;rw[vH,c];simp
def UO{b a m}(d:∀c∈a,c.n<=m):j5 b a<=a.length*m:=by
 induction a with
 | nil=>simp[j5]
 | cons c a h=>
  have e:=h (λf g=>d f (kM _ g));have i:=d c (List.mem_cons_self ..);simp only[j5,QV,List.sum_cons,vh,Nat.add_mul,Nat.one_mul]at e |-
  split<;>omega
def DU{b g}(k):j5 b (g.take k)<=j5 b g:=by
 rw[show j5 b g=j5 b (g.take k++g.drop k)by simp];unfold j5;rw[vX,List.sum_append];omega
section
variable {w w':World} {B s:Nat} {x:V7} {M:SS}
def KZ.at{b k cap g r}(u:KZ w (qM (qD b 0) g.length cap) g)(o:g[k]?=some r):∃d e f h i j l m,zAx w [.bool r.put,qC r.off,qC r.n,qM d r.bef.length e,qM f r.aft.length h,qM i r.was.length j,qM l r.is.length m] r/\w.cell? (qP b (k*7))=some (.bool r.put)/\w.cell? (qP b (k*7+1))=some (qC r.off)/\w.cell? (qP b (k*7+2))=some (qC r.n)/\w.cell? (qP b (k*7+3))=some (qM d r.bef.length e)/\w.cell? (qP b (k*7+4))=some (qM f r.aft.length h)/\w.cell? (qP b (k*7+5))=some (qM i r.was.length j)/\w.cell? (qP b (k*7+6))=some (qM l r.is.length m):=by
 obtain⟨C,v,x⟩:=u;obtain⟨D,p,y⟩:=x.get o;have B:=(xp.1 o).1;obtain⟨E,F,G,H,rfl,q,z,A⟩:=id p;obtain⟨d,e,rfl⟩:=zX q.1;obtain⟨f,h,rfl⟩:=zX q.2;obtain⟨i,j,rfl⟩:=z.val;obtain⟨l,m,rfl⟩:=A.val
 have a:∀c n,c<7-> [Value.bool r.put,qC r.off,qC r.n,qM d r.bef.length e,qM f r.aft.length h,qM i r.was.length j,qM l r.is.length m][c]?=some n->w.cell? (qP b (k*7+c))=some n:=λc n s t=>by
  rw[v.cellAt (k*7+c) qF,y c s];exact t
 exact⟨d,e,f,h,i,j,l,m,p,a 0 _ qF rfl,a 1 _ qF rfl,a 2 _ qF rfl,a 3 _ qF rfl,a 4 _ qF rfl,a 5 _ qF rfl,a 6 _ qF rfl⟩
def KZ.lt{b cap n g}(a:KZ w (qM (qD b 0) n cap) g):b<w.heap.size:=by
 obtain⟨d,c,_⟩:=a;exact(c.lt b rfl).2
def KZ.form{v g}(d:KZ w v g)(i:0<g.length):∃b a,v= .slice (qD b 0) g.length a/\g.length<=a/\a<=maxLen:=by
 obtain⟨j,e,_⟩:=d;rcases e.2 with ⟨_,c⟩ | ⟨b,a,k,c,_,_,f,h,_⟩
 ·omega
 exact⟨b,a,c,f,h⟩
def Ig(b)(v)(g)(i:KZ w v g)(n:∀c∈g,c.n<=8192)(N:g.length<=100000):
  Calls prog 108 #[v,.bool b] w λM w'=>M=qQ (qC (j5 b g))/\qY w w':=by
 by_cases r:0<g.length
 ·obtain⟨ai,aj,rfl,O,P⟩:=i.form r
  have E:=zC i;have e:=i.lt;have HM:=zC n;have F:=zC (show ∀a,j5 b (g.take a)<=819200000 from λa=>by have:=DU (b:=b) (g:=g) a;have:=UO (b:=b) n;omega);obtain⟨f,o⟩:∃f,f=g.length:=⟨_,rfl⟩
  have G:=zC o;have HT:=zC (show j5 b (g.take g.length)=j5 b g by simp);rw[<- o]at HT N r O |-;unfold maxLen at P;clear i n o;go_enter func108,ntmps108;go_wp2_with fail;go_loopw [10,5] (λm s wr=>∃a:Nat,a<=f/\m=qC a/\s=qC (j5 b (g.take a))/\qY w wr) (λm _ _=>f-(intOf m).toNat)
  case atStart=>exact⟨0,xK _,rfl,by simp[j5],xe _ _⟩
  obtain⟨a,ak,rfl,rfl,d⟩:=hrel;have p:=zC d;have H:=d.size;have I:=F a;by_cases L:a<f
  ·obtain⟨c,j⟩:∃c,g[a]?=some c:=⟨_,xw (by rw[<- G.out];exact L)⟩
   obtain⟨Q,R,S,T,U,V,W,X,_,u,x,y,z,A,B,C⟩:=E.at j;have Y:=(d.cell e).trans u;have Z:=(d.cell e).trans x;have aa:=(d.cell e).trans y;have ab:=(d.cell e).trans z;have ac:=(d.cell e).trans A;have ad:=(d.cell e).trans B;have ae:=(d.cell e).trans C;have af:(a:Int)<f:=qF;have ag:=HM c (xH j);have k:=zC (DT (b:=b) j);have q:=zC (p.trans (((xe wr.heap.size wr).alloc lR (qR #[.bool c.put,qC c.off,qC c.n,qM Q c.bef.length R,qM S c.aft.length T,qM U c.was.length V,qM W c.is.length X] 205)).mono H));obtain⟨t,D⟩:∃t,t=j5 b (g.take a):=⟨_,rfl⟩
   rw[<- D]at I k |-;clear u x y z A B C d j D;by_cases h:c.put=b
   ·have J:(c.put==b)=true:=by simpa using h
    have l:=zC h;clear h;go_wp2;go_roundw
    case rel=>exact⟨a+1,qF,qL,by rw[k.out,xS l.out,kW],q⟩
    simp[intOf];omega
   have J:(c.put==b)=false:=(by simpa using h);have l:=zC h;clear h;go_wp2;go_roundw
   case rel=>exact⟨a+1,qF,qL,by rw[k.out,xJ l.out];go_num,q⟩
   simp[intOf];omega
  obtain rfl:a=f:=qF;have ah:¬ (a:Int)<a:=qF;rw[HT.out];clear d;go_wp2;go_ret;exact⟨rfl,p⟩
 have K:g= []:=xL qF;subst K;obtain⟨s,a,rfl⟩:=i.val;go_enter func108,ntmps108;go_wp2;refine xQ 1 ?_;rw[xG];go_wp2;go_ret;exact⟨rfl,xe _ _⟩
def brk7(b:SM w B s x M)(f:M.tx.length<=8192):Calls prog 68 #[qO s 0] w λa w'=>a=qQ (qC (js M.tx))/\w'=w:=by
 obtain⟨g,tk,a⟩:=zX b.tx;have d:=b.blk.c.1;have c:=b.tx;rw[a]at d c;have e:=zC (Fw _ _ w (Rd.qa c) qF);clear b c a;go_enter func68,ntmps68;go_wp2_with fail;refine e.mono ?_;rintro a h ⟨rfl,rfl⟩;go_wp2;go_ret;simp
end
end
def UT(B)(w)(b):Below B w (w.drewN b):=by
 induction b generalizing w with
 | zero=>exact xe _ _
 | succ b a=>exact⟨(a _).os,(a _).tape,(a _).output,(a _).size,(a _).block⟩
def eq32B(zs)(v u)(w)(e:Rd .i32 w v zs)(f:Rd .i32 w u zs)(g:zs.length<=1099511627776):
  Calls prog 83 #[v,u] w λa b=>a=qQ (.bool true)/\qY w b:=
 (eq32 zs v u w e f g).mono λa b⟨c,h,d⟩=>⟨c,by subst d;exact UT _ _ _⟩
def eqObL(a:Ob)(vt vm ut um)(w)(ht:Rd .i32 w vt a.t)(H:JA w.heap.size w vm a.m)(I:Rd .i32 w ut a.t)(J:JA w.heap.size w um a.m)(an:a.t.length<=1048576)(S:a.m.length<=1048576):
  Calls prog 55 #[.agg #[qC a.c,qC a.x,qC a.y,vt,vm,qC a.l,qC a.n,qC a.u,qC a.r,qC a.o],.agg #[qC a.c,qC a.x,qC a.y,ut,um,qC a.l,qC a.n,qC a.u,qC a.r,qC a.o]] w λr R=>r=qQ (.bool true)/\qY w R:=by
 have M:=zC (λG o=>eq32B a.t vt ut G (ht.below o) (I.below o) qF);have N:=zC (λG o=>RA _ _ a.m vm um G (H.below o lR) (J.below o lR) o.size o.size S)
 obtain⟨d,e,T⟩:∃d e,vt= .slice d a.t.length e:=by
  rcases ht with ⟨U,K,rfl,r⟩ | ⟨V,W,K,rfl,_⟩
  ·simp_all
  simp
 obtain⟨t,u,X⟩:∃d e,ut= .slice d a.t.length e:=by
  rcases I with ⟨U,K,rfl,r⟩ | ⟨V,W,K,rfl,_⟩
  ·simp_all
  simp
 obtain⟨v,x,Y⟩:=H.val;obtain⟨y,z,Z⟩:=J.val;subst T Y X Z;generalize a.t.length=b at *;generalize a.m.length=c at *;obtain⟨f,g,h,ao,ap,j,k,l,m,n⟩:=a;simp at *;have L:=zC ((DX.new w [qC f,qC g,qC h,qM d b e,qM v c x,qC j,qC k,qC l,qC m,qC n] 81).old (qR #[qC f,qC g,qC h,qM t b u,qM y c z,qC j,qC k,qC l,qC m,qC n] 81));have B:=zC (DX.new (w.alloc (qR #[qC f,qC g,qC h,qM d b e,qM v c x,qC j,qC k,qC l,qC m,qC n] 81)) [qC f,qC g,qC h,qM t b u,qM y c z,qC j,qC k,qC l,qC m,qC n] 81);have C:=zC (((xe _ w).alloc lR (qR #[qC f,qC g,qC h,qM d b e,qM v c x,qC j,qC k,qC l,qC m,qC n] 81)).alloc qH (qR #[qC f,qC g,qC h,qM t b u,qM y c z,qC j,qC k,qC l,qC m,qC n] 81));simp at B;have aa:w.heap.size+2<=((w.alloc (qR #[qC f,qC g,qC h,qM d b e,qM v c x,qC j,qC k,qC l,qC m,qC n] 81)).alloc (qR #[qC f,qC g,qC h,qM t b u,qM y c z,qC j,qC k,qC l,qC m,qC n] 81)).heap.size:=qH
 clear ht H I J;go_enter func55,ntmps55;go_wp2_with fail;generalize (w.alloc _).alloc _=am at *;refine(M _ C).mono ?_;rintro r aq ⟨rfl,s⟩;have ab:=s.size;have D:=zC (L.below s);have E:=zC (B.below s);have F:=zC (C.trans (s.mono qF));have O:=D.cell (i:=4) rfl;have P:=E.cell (i:=4) rfl;clear s L B C;go_wp2_with fail;refine(N _ F).mono ?_;rintro r ar ⟨rfl,A⟩;have p:=zC (D.below A);have q:=zC (E.below A);have Q:=zC (F.trans (A.mono qF));have ac:=p.cell (i:=5) rfl;have ad:=q.cell (i:=5) rfl;have ae:=p.cell (i:=6) rfl;have af:=q.cell (i:=6) rfl;have ag:=p.cell (i:=7) rfl;have ah:=q.cell (i:=7) rfl;have ai:=p.cell (i:=8) rfl;have aj:=q.cell (i:=8) rfl;have ak:=p.cell (i:=9) rfl;have al:=q.cell (i:=9) rfl;clear A D E F O P;go_wp2;go_ret;exact⟨rfl,Q⟩
def eqObsL(xs)(v u)(w)(l:Tg w v xs)(m:Tg w u xs)(Q:Z8 xs<=1048576):
  Calls prog 25 #[v,u] w λs M=>s=qQ (.bool true)/\qY w M:=by
 obtain⟨R,S,T⟩:=l.val;obtain⟨bo,U,V⟩:=m.val;subst T V;have aj:xs.length<=1048576:=by unfold Z8 at Q;omega
 have AT:=zC (λa b(c:xs[a]?=some b)=>l.at c);have C:=zC (λa b(c:xs[a]?=some b)=>m.at c);have D:=zC (show ∀a,a<xs.length->∃N,xs[a]?=some N from λa c=>⟨_,xw c⟩);have E:=zC (λa b(c:xs[a]?=some b)=>JJ c);have F:=zC (λa=>PT xs a);generalize r:xs.length=d at *;have ak:=zC r;have al:((d:Int) != d)=false:=qH
 clear l m r;go_enter func25,ntmps25;go_wp2_with fail;go_loopw [5] (λk wr=>∃a:Nat,a<=d/\k=qC a/\qY w wr) (λk _=>d-(intOf k).toNat)
 case atStart=>exact⟨0,xK _,rfl,xe _ _⟩
 obtain⟨a,c,rfl,f⟩:=hrel;have n:=zC f;have G:=f.size;by_cases L:a<d
 ·obtain⟨b,h⟩:=D a L
  obtain⟨aq,ar,W,i,X,t⟩:=AT a b h
  obtain⟨rfl,rfl⟩:R=some _/\S=W:=by
   simp only[jW]at i;exact⟨i.1,i.2.2⟩
  obtain⟨au,av,Y,j,Z,x⟩:=C a b h
  obtain⟨rfl,rfl⟩:bo=some _/\U=Y:=by
   simp only[jW]at j;exact⟨j.1,j.2.2⟩
  have o:=t.below f;have p:=x.below f;obtain⟨aa,ab,⟨aw,ax,ay,az,a0,a1,a2,a3,a4,a5⟩,⟨a6,a7,ac⟩,⟨a8,a9,ad⟩,ht,y,_,_⟩:=o.cells;obtain⟨ae,af,⟨ba,bc,bd,bf,bg,bh,bi,bj,bk,bl⟩,⟨bn,bp,ag⟩,⟨bq,br,ah⟩,z,A,_,_⟩:=p.cells;have q:=E a b h;have H:=F (a+1);have z3:b.t.length<=1048576/\b.m.length<=1048576:=(by unfold zAy at q;omega);have I:=zC (λO e=>eqObL b aa ab ae af O (ht.below e) ((y.below e lR).mono e.size) (z.below e) ((A.below e lR).mono e.size) z3.1 z3.2);subst ac ad ag ah;have am:(a:Int)<d:=qF;generalize b.t.length=ao at *;generalize b.m.length=ap at *;clear i j X Z t x o p h f ht y z A q H z3;go_upto_region 6 with fail;go_cut [26]from 11 to 26 (λP wc=>P= .bool false/\qY wr wc)
  case first=>
   go_region_with (go_at_call 55;refine(I _ (by exact(⟨rfl,rfl,rfl,lR,λ_ _=>rfl⟩))).mono ?_;rintro s ai ⟨rfl,g⟩;have J:=zC (show qY wr ai from⟨g.os,g.tape,g.output,g.size,g.block⟩);clear g)
   all_goals (go_wp2_with fail;go_meet;exact⟨rfl,J⟩)
  obtain⟨rfl,B⟩:=hcut;have K:=zC (n.trans (B.mono G));clear B;go_wp2;go_roundw
  case rel=>exact⟨a+1,qF,qL,K⟩
  simp[intOf];omega
 obtain rfl:a=d:=qF
 have an:¬ (a:Int)<a:=qF
 clear f;go_wp2;go_ret;exact⟨rfl,n⟩
