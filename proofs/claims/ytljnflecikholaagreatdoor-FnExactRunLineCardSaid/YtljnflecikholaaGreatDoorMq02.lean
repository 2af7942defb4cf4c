import Derived.WalkLawsBesides
import Derived.BigQuiet
import Derived.Deep.CutBlock
import Derived.Deep.DeepCutAuto
import Derived.Laws.AppendOwnNone
import Derived.Lib.ItoaLen
import Derived.Lib.AppendIntMem
import Derived.Shelf.SlSortCmp.QuietGrown
import Derived.StillTailTactics
import Derived.Test.YtljnflecikholaaGreatDoorMq00
import Derived.Test.YtljnflecikholaaGreatDoorProg
set_option linter.all false
set_option maxRecDepth 100000
set_option maxHeartbeats 8000000
namespace Go.Proofs.YtljnflecikholaaGreatDoor
open Go Go.RowKit Go.Proofs.Tryz
def Rd(h:IntKind)(i:qS)(f:qT)(a:qV):Prop:=
 (∃g b,f= .slice g 0 b/\a= [])\/
 (∃d e b,f= .slice (qD d e) a.length b/\(0<a.length/\a.length<=b/\b<=maxLen)/\∀c,c<a.length->i.cell? (qP d (e+c))=some (.int h (a.getD c 0)))
def zI(a:IntKind)(b:qV):qU:=b.map (Value.int a)
def Rd.below{k w w' v zs}(a:Rd k w v zs)(e:qY w w'):Rd k w' v zs:=by
 rcases a with a | ⟨f,g,h,i,j,l⟩
 ·exact .inl a
 refine .inr ⟨f,g,h,i,j,λc d=>?_⟩;have b:=l c d;rw[e.cell (vQ w _ b)];exact b
def Rd.cells{k w w' v zs}(a:Rd k w v zs)(c:w'.heap=w.heap):Rd k w' v zs:=by
 rcases a with a | ⟨d,e,f,g,h,i⟩
 ·exact .inl a
 exact .inr ⟨d,e,f,g,h,λb hi=>by rw[xq (w:=w) (by rw[c])];exact i b hi⟩
def Rd.qa{k w base e v n zs}(a:w.ownsRow base e 1 v n (zI k zs)):Rd k w v zs:=by
 have c:=by have:=a.1;simpa[zI]using this
 rcases a.2 with ⟨b,m⟩ | ⟨h,i,o,b,j⟩
 ·left;simp_all
 obtain⟨_,_,p,l,_⟩:=j;subst b;by_cases d:n=0
 ·left;subst d;simp_all
 right;refine⟨h,0,i,by rw[c],⟨qF,qF,l⟩,λf g=>?_⟩;rw[xX,a.cellAt f qF];simp[zI,xw g]
def zD{c w':qS}{base e size v n xs}(d:c.ownsRow base e size v n xs)
  (h:∀a,v.ownBlock=some a->w'.heap[a]? =c.heap[a]?):w'.ownsRow base e size v n xs:=by
 refine⟨d.1,?_⟩;rcases d.2 with b | ⟨f,i,j,g,k,b,l⟩
 ·exact .inl b
 exact .inr ⟨f,i,j,g,k,by rw[h f (by rw[g];rfl)];exact b,l⟩
def zE{w w' base B e size v n xs}(b:w.ownsRow base e size v n xs)
  (d:Below B w w') (f:w.heap.size<=B):w'.ownsRow base e size v n xs:=
 zD b λa c=>d.block a (by have:=(b.lt a c).2;omega)
def zF{b:qS}{base base' e size v n xs}(c:b.ownsRow base e size v n xs)(i:base'<=base):b.ownsRow base' e size v n xs:=by
 refine⟨c.1,?_⟩;rcases c.2 with a | ⟨d,f,g,h,j,a⟩
 ·exact .inl a
 exact .inr ⟨d,f,g,h,qF,a⟩
def Kb{a:qV}{k}(d:k<a.length):(a.take k++List.replicate (a.length-k) 0).set k (a.getD k 0)=a.take (k+1)++List.replicate (a.length-(k+1)) 0:=by
 apply List.ext_getElem
 ·simp;omega
 intro b e f;simp only[List.getElem_set,List.getElem_append,xi,List.getElem_take,List.getElem_replicate];by_cases c:k=b
 ·subst c
  simp[d];intro g;omega
 simp only[xJ c];by_cases h:b<k
 ·rw[dif_pos qF,dif_pos qF]
 rw[dif_neg qF,dif_neg qF]
def Xd(k)(zs)(j)(z):(zI k zs).set j (.int k z)=zI k (zs.set j z):=by
 simp[zI]
def zC{p}(a:p):Hid p:=a
def yL{k}{a:qS}{base g cap e n zs}(b:a.ownsRow base e 1 (qM (qD g 0) n cap) n (zI k zs))(j)(d:j<n):a.cell? (qP g j)=some (.int k (zs.getD j 0)):=by
 have c:=by have:=b.1;simpa[zI]using this
 rw[b.cellAt j qF];simp[zI,xw (show j<zs.length by omega)]
def J5(k)(n):(madeCells (Value.int k 0).cells (n*1)).toList=zI k (List.replicate n 0):=by
 have a:(Value.int k 0).cells= #[Value.int k 0]:=rfl;rw[a,toList_madeCells_one];simp[zI]
def yT(a:qS)(row):a.grownBy a row:=⟨rfl,rfl,rfl,lR,λ_ _ _=>rfl⟩
def yq{f g h:qS}{row}(a:f.grownBy g row)(b:g.grownBy h row):f.grownBy h row:=
 ⟨b.os.trans a.os,b.tape.trans a.tape,b.output.trans a.output,vC a.size b.size,λc d e=>(b.block c (ve d a.size) e).trans (a.block c d e)⟩
def marks(b:IntKind)(c:Int)(d:Nat):qV:=(List.range d).map λa:Nat=>b.wrap (c+a)
def jG(k)(k0)(n):(marks k k0 n).length=n:=by simp[marks]
def Fq{k k0 n i}(a:i<n):(marks k k0 n).getD i 0=k.wrap (k0+i):=by
 simp[marks,a]
def PJ{k k0 j}{a:qV}(b:j<a.length):(marks k k0 j++a.drop j).set j (k.wrap (k0+j))=marks k k0 (j+1)++a.drop (j+1):=by
 rw[kj _ _ (by simp[marks])];rw[jG,kh,vN b,QC];simp[marks,List.range_succ]
def zV(a:qS)(t)(c:qU):∀b d,c[b]?=some d->(a.alloc (qR c.toArray t)).cell? (((qP a.heap.size 0):Addr).add b)=some d:=by
 intro b d g
 have e:(a.alloc (qR c.toArray t)).heap[a.heap.size]?=some (qR c.toArray t (0,0)):=by
  show(a.heap.push _)[a.heap.size]? =_
  simp
 have f:(((qP a.heap.size 0):Addr).add b)=(qP a.heap.size b):=by
  simp only[Addr.add,xX];split
  ·subst_vars;rfl
  rfl
 rw[f,xF _ _ b _ t _ e];simpa using g
def Rd.of_row{k w x len cap}{b:qV}(f:∀a,a<b.length->w.cell? (x.add a)=some (.int k (b.getD a 0)))(o:len<=b.length)(p:len<=cap)(m:cap<=maxLen):Rd k w (qM (some x) len cap) (b.take len):=by
 have g:(b.take len).length=len:=by rw[xi];omega
 by_cases l:len=0
 ·subst l;exact .inl ⟨_,_,rfl,qH⟩
 obtain⟨c,d,q⟩:=x;have h:=f 0 qF;have i:=by simpa[Addr.add]using World.cell?_spot h
 subst i;refine .inr ⟨c,d,cap,by rw[g],⟨qF,qF,m⟩,λa n=>?_⟩;have e:=f a qF
 have j:(((qP c d):Addr).add a)=(qP c (d+a)):=by
  simp only[Addr.add];split
  ·subst_vars;rfl
  rfl
 rw[j]at e;rw[e]
 have:(b.take len).getD a 0=b.getD a 0:=by
  rw[xP,xP,vf,xS qF]
 rw[this]
def zm(k)(a b):zI k (a++b)=zI k a++zI k b:=by simp[zI]
def zG(k)(a):(zI k a).length=a.length:=by simp[zI]
def zJ(k)(a):∀b∈zI k a,b.oneCell'=true:=by
 intro b c;simp only[zI,Qt]at c;obtain⟨d,_,rfl⟩:=c;rfl
def yF(b off i):(((qP b off):Addr).add i)=(qP b (off+i)):=by
 simp only[Addr.add];split
 ·subst_vars;rfl
 rfl
def ZE{k}{h:qS}{b off o l}{d:qV}(j:∀f,f<d.length->h.cell? (qP b (off+f))=some (.int k (d.getD f 0))):
  ∀a e,(zI k ((d.drop o).take l))[a]?=some e->h.cell? (((qP b (off+o)):Addr).add a)=some e:=by
 intro a e c;rw[yF];simp only[zI,xZ,Option.map_eq_some_iff,vf,vJ]at c;obtain⟨m,g,rfl⟩:=c
 split at g
 ·have i:o+a<d.length:=by
   rcases vV (o+a) d.length with c | c
   ·exact c
   simp_all
  rw[Qa,j _ i,xP,g];rfl
 cases g
def yI:qV->List (qV)
 | []=>[[]]
 | b::a=>if b=10 then []::yI a else(b::(yI a).headD [])::(yI a).tail
def Kc(a):yI a≠ []:=by
 cases a with
 | nil=>simp[yI]
 | cons b a=>simp only[yI];split<;>simp
def YK(zs):yI zs=(yI zs).headD []::(yI zs).tail:=by
 cases h:yI zs with
 | nil=>exact absurd h (Kc zs)
 | cons a b=>rfl
def XE(zs):yI (10::zs)= []::yI zs:=by simp[yI]
def TJ{a}(b:10∉a):yI a= [a]:=by
 induction a with
 | nil=>rfl
 | cons f a g=>
  have c:¬f=10:=λd=>b (by simp[d])
  rw[yI,xJ c,g (λe=>b (kM _ e))];rfl
def lns_cut(a b)(c:10∉a):yI (a++10::b)=a::yI b:=by
 induction a with
 | nil=>exact XE b
 | cons g a h=>
  have d:¬g=10:=λe=>c (by simp[e])
  rw[vI,yI,xJ d,h (λf=>c (kM _ f))];rfl
def j9(a):1<=(yI a).length/\(yI a).length<=a.length+1:=by
 induction a with
 | nil=>simp[yI]
 | cons b a c=>
  rw[yI]
  split
  ·simp_all
  simp only[vh,QQ];omega
def jR:List (qV)->Nat
 | []=>0
 | a::ls=>a.length+jR ls
def IZ(a b):jR (a++b)=jR a+jR b:=by
 induction a with
 | nil=>simp[jR]
 | cons d a c=>simp only[vI,jR,c];omega
def Yj{ls}{b:Nat}{l}(a:ls[b]?=some l):l.length<=jR ls:=by
 induction ls generalizing b with
 | nil=>simp at a
 | cons d ls c=>
  cases b with
  | zero=>simp at a;subst a;simp[jR]
  | succ b=>simp at a;have:=c a;simp only[jR];omega
def lns_sm(a):jR (yI a)+(yI a).length=a.length+1:=by
 induction a with
 | nil=>simp[yI,jR]
 | cons c a b=>
  rw[yI];rw[YK a]at b
  split
  ·rw[YK a];simp only[jR,vh,ke]at *;omega
  simp only[jR,vh]at *;omega
def gl(a:qV)(ls:List (qV)):List (qV):=(a++ls.headD [])::ls.tail
def gl_br(row zs):gl row (yI (10::zs))=row::gl [] (yI zs):=by
 rw[XE];simp only[gl,List.headD_cons,List.tail_cons,vT,vq];rw[<- YK]
def gl_in(row zs)(a)(b:a≠10):gl row (yI (a::zs))=gl (row++ [a]) (yI zs):=by
 rw[yI,xJ b];simp[gl]
def gl_nil(row):gl row (yI [])= [row]:=by simp[gl,yI]
def TM(zs):gl [] (yI zs)=yI zs:=by simp only[gl,vq];exact(YK zs).symm
def TQ{a:qV}{k}(b:k<a.length):a.drop k=a.getD k 0::a.drop (k+1):=by
 simp_all
def fb:qV->Nat
 | []=>0
 | a::b=>if a=10 then 0 else fb b+1
def zBc(a):fb a<=a.length:=by
 induction a with
 | nil=>simp[fb]
 | cons b a c=>simp only[fb];split<;>simp<;>omega
def fb_no{b a}(c:a<fb b):b.getD a 0≠10:=by
 induction b generalizing a with
 | nil=>simp[fb]at c
 | cons e b f=>
  simp only[fb]at c
  split at c
  ·omega
  rename_i d;cases a with
  | zero=>simpa using d
  | succ a=>simp_all
def fb_at{a}(b:fb a<a.length):a.getD (fb a) 0=10:=by
 induction a with
 | nil=>simp at b
 | cons c a d=>
  simp only[fb]at b |-
  split
  ·simp_all
  simp_all
def fb_lns{a}(c:fb a<a.length):yI a=a.take (fb a)::yI (a.drop (fb a+1)):=by
 induction a with
 | nil=>simp at c
 | cons e a d=>
  simp only[fb]at c |-
  split
  ·rename_i b;subst b;rw[XE];simp
  rename_i b;rw[xJ b]at c;simp only[vh]at c;rw[yI,xJ b,d qF];simp
def fb_lns0{a}(b:fb a=a.length):yI a= [a]:=by
 induction a with
 | nil=>rfl
 | cons e a d=>
  simp only[fb]at b
  split at b
  ·simp at b
  rename_i c;simp only[vh]at b;rw[yI,xJ c,d qF];rfl
def ZU{zs l}(a:l∈yI zs):l.length<=zs.length:=by
 obtain⟨f,b⟩:=kH a;have c:=Yj b;have d:=lns_sm zs;have e:=(j9 zs).1;omega
def jU(b:qS)(c:Nat)(d:qT)(a:qV):Prop:=b.ownsRow c 21 1 d a.length (zI .i32 a)
def Zr(b:qS)(c:Nat)(d:qT)(a:qV):Prop:=b.ownsRow c 3 1 d a.length (zI .i64 a)
def yw{w base v zs}(c:jU w base v zs):∃b a,v= .slice b zs.length a:=by
 rcases c.2 with ⟨rfl,d⟩ | ⟨e,a,f,rfl,_⟩
 ·simp_all
 simp
def ju{w base v zs}(c:Zr w base v zs):∃b a,v= .slice b zs.length a:=by
 rcases c.2 with ⟨rfl,d⟩ | ⟨e,a,f,rfl,_⟩
 ·simp_all
 simp
def bel(b:Nat)(c:qT):Prop:=∀a,c.ownBlock=some a->a<b
def yW{hi hi' v}(c:bel hi v)(d:hi<=hi'):bel hi' v:=λa b=>ve (c a b) d
def Xe(hi):bel hi qN:=λb a=>by simp[Value.ownBlock]at a
def Zg{c d:qS}{lo hi e size v n xs}(f:c.ownsRow lo e size v n xs)(g:bel hi v)(h:∀a,lo<=a->a<hi->d.heap[a]? =c.heap[a]?):d.ownsRow lo e size v n xs:=
 zD f (λa b=>h a (f.lt a b).1 (g a b))
def TR{a:qS}{lo e size v n xs}(b:a.ownsRow lo e size v n xs):v.oneCell'=true:=by
 rcases b.2 with ⟨rfl,_⟩ | ⟨c,d,f,rfl,_⟩<;>rfl
structure Gr where
 cells:qV
 lo:Int
 hi:Int
def Y4(a:qV):Gr:=⟨a,a.length,a.length⟩
def zU:qU->List Gr->qU
 | b::c,a::d=>b:: .int .i64 a.lo:: .int .i64 a.hi::zU c d
 | _,_=>[]
def yx{b a}(c:b.length=a.length):(zU b a).length=a.length*3:=by
 induction b generalizing a with
 | nil=>cases a<;>simp_all[zU]
 | cons e b d=>
  cases a with
  | nil=>simp at c
  | cons f a=>simp only[zU,vh]at *;rw[d qF];omega
def ZV{a b c k v g}(d:a[c]?=some v)(e:b[c]?=some g)(f:k<3):(zU a b)[c*3+k]? = [v,qC g.lo,qC g.hi][k]?:=by
 induction c generalizing a b with
 | zero=>
  cases a with
  | nil=>simp at d
  | cons h a=>
   cases b with
   | nil=>simp at e
   | cons i b=>
    simp at d e;subst d e
    match k,f with
    | 0,_=>rfl
    | 1,_=>rfl
    | 2,_=>rfl
 | succ c j=>
  cases a with
  | nil=>simp at d
  | cons h a=>
   cases b with
   | nil=>simp at e
   | cons i b=>
    simp at d e;have:=j d e;rw[<- this,show(c+1)*3+k=(c*3+k)+1+1+1 by omega];rfl
def yy{b us a hs}(c:b.length=a.length):zU (b++us) (a++hs)=zU b a++zU us hs:=by
 induction b generalizing a with
 | nil=>cases a<;>simp_all[zU]
 | cons d b e=>
  cases a with
  | nil=>simp at c
  | cons f a=>simp only[vI,zU];simp_all
def Wt{c gs}(d:∀e∈c,e.oneCell'=true):∀b∈zU c gs,b.oneCell'=true:=by
 induction c generalizing gs with
 | nil=>intro b a;cases gs<;>simp[zU]at a
 | cons e c h=>
  cases gs with
  | nil=>intro b a;simp[zU]at a
  | cons i gs=>
   intro b a;simp only[zU,kS]at a;rcases a with rfl | rfl | rfl | a
   ·exact d _ qH
   ·rfl
   ·rfl
   exact h (λf g=>d f (by simp[g])) b a
def TU{vs us gs hs v u g g'}(a:vs.length=gs.length):(((zU (vs++v::us) (gs++g::hs)).set (gs.length*3) u).set (gs.length*3+1) (qC g'.lo)).set (gs.length*3+2) (qC g'.hi)=zU (vs++u::us) (gs++g'::hs):=by
 rw[yy a,yy a];have b:=yx a;rw[<- b];rw[kj _ _ qF,kj _ _ qF,kj _ _ qF];simp[zU]
def LM{vs us gs hs v g g'}(a:vs.length=gs.length):((zU (vs++v::us) (gs++g::hs)).set (gs.length*3+1) (qC g'.lo)).set (gs.length*3+2) (qC g'.hi)=zU (vs++v::us) (gs++g'::hs):=by
 rw[yy a,yy a];have b:=yx a;rw[<- b];rw[kj _ _ qF,kj _ _ qF];simp[zU]
structure zd(w:qS)(lo hi:Nat)(vs:qU)(ls:List (qV)):Prop where
 len:vs.length=ls.length
 own:∀(i:Nat)v l,vs[i]?=some v->ls[i]?=some l->jU w lo v l
 bl:∀v∈vs,bel hi v
 ne:∀(i j:Nat)u v q,i≠j->vs[i]?=some u->vs[j]?=some v->u.ownBlock=some q->v.ownBlock≠some q
def zd.nil(w)(lo hi):zd w lo hi [] []:=⟨rfl,λb v c a=>by simp at a,λv a=>by simp at a,λb d e v f _ a=>by simp at a⟩
def zd.frame{w w' lo hi vs ls}(a:zd w lo hi vs ls)(h:∀b,lo<=b->b<hi->w'.heap[b]? =w.heap[b]?):zd w' lo hi vs ls:=
 ⟨a.len,λe c f d g=>Zg (a.own e c f d g) (a.bl c (xH d)) h,a.bl,a.ne⟩
def zd.mono{w lo hi lo' hi' vs ls}(a:zd w lo hi vs ls)(g:lo'<=lo)(h:hi<=hi'):zd w lo' hi' vs ls:=
 ⟨a.len,λd b e c f=>zF (a.own d b e c f) g,λb c=>yW (a.bl b c) h,a.ne⟩
def zd.one{w lo b vs ls}(d:zd w lo b vs ls):∀c∈vs,c.oneCell'=true:=by
 intro c e;obtain⟨a,b,rfl⟩:=kJ e;have f:a<ls.length:=by rw[<- d.len];exact b
 exact TR (d.own a _ ls[a] qH qH)
def zd.snoc{w lo hi hi' vs ls v l}(d:zd w lo hi vs ls)(u:jU w lo v l)(r:∀a,v.ownBlock=some a->hi<=a)(y:bel hi' v)(x:hi<=hi'):zd w lo hi' (vs++ [v]) (ls++ [l]):=by
 refine⟨by simp[d.len],?_,?_,?_⟩
 ·intro b e s c f
  rcases kU b vs.length with a | a | a
  ·rw[xW a]at c
   rw[xW (by rw[<- d.len];exact a)]at f;exact d.own b e s c f
  ·subst a
   rw[vb lR]at c;rw[d.len,vb lR]at f;simp at c f;subst c f;exact u
  rw[vW qJ]at c;cases c
 ·intro e c
  rcases vD.1 c with a | a
  ·exact yW (d.bl e a) x
  simp_all
 intro b k e h a t c q m n
 have j:∀(b:Nat)i,(vs++ [v])[b]?=some i->(b<vs.length/\vs[b]?=some i)\/(b=vs.length/\i=v):=by
  intro b i o;rcases kU b vs.length with a | a | a
  ·rw[xW a]at o;simp_all
  ·simp_all
  rw[vW qJ]at o;cases o
 rcases j b e c with ⟨_,p⟩ | ⟨p,rfl⟩
 ·rcases j k h q with ⟨_,g⟩ | ⟨g,rfl⟩
  ·exact d.ne b k e h a t p g m n
  have:=d.bl e (xH p) a m;have:=r a n;omega
 rcases j k h q with ⟨_,g⟩ | ⟨g,rfl⟩
 ·have:=d.bl h (xH g) a n
  have:=r a m;omega
 omega
def zd.put{w w' lo e vs us ls ms v l l'}(d:zd w lo e (vs++v::us) (ls++l::ms))(q:vs.length=ls.length)(r:jU w' lo v l')(o:w.grownBy w' v.ownBlock):zd w' lo e (vs++v::us) (ls++l'::ms):=by
 refine⟨by have:=d.len;simp at *;exact this,?_,d.bl,d.ne⟩;intro a g h i c;by_cases e:a=vs.length
 ·simp_all
 have m:(ls++l::ms)[a]?=some h:=by
  rcases vV a ls.length with b | b
  ·rw[xW b]at c |-;exact c
  rw[vb b]at c |-;obtain⟨j,p⟩:∃j,a-ls.length=j+1:=⟨a-ls.length-1,qF⟩
  rw[p]at c |-;simpa using c
 have f:=d.own a g h i m;refine zD f (λb k=>o.block b (f.lt b k).2 (λn=>?_));exact d.ne a _ g v b e i qH k n.symm
structure yt(t:TypeId)(w:qS)(lo hi:Nat)(v:qT)(vs:qU)(gs:List Gr):Prop where
 row:w.ownsRow lo t 3 v gs.length (zU vs gs)
 bl:bel hi v
 nest:zd w lo hi vs (gs.map Gr.cells)
def yt.len{t w lo hi v vs gs}(a:yt t w lo hi v vs gs):vs.length=gs.length:=by have:=a.nest.len;simpa using this
def yt.frame{t w w' lo hi v vs gs}(b:yt t w lo hi v vs gs)(c:∀a,lo<=a->a<hi->w'.heap[a]? =w.heap[a]?):yt t w' lo hi v vs gs:=
 ⟨Zg b.row b.bl c,b.bl,b.nest.frame c⟩
def yt.mono{t w lo hi lo' hi' v vs gs}(a:yt t w lo hi v vs gs)(b:lo'<=lo)(c:hi<=hi'):yt t w lo' hi' v vs gs:=
 ⟨zF a.row b,yW a.bl c,a.nest.mono b c⟩
def yt.val{t w lo hi v vs gs}(c:yt t w lo hi v vs gs):∃b a,v= .slice b gs.length a:=by
 rcases c.row.2 with ⟨rfl,d⟩ | ⟨e,a,f,rfl,_⟩
 ·simp_all
 simp
def yt.cells{t w lo hi g cap n vs gs}(d:yt t w lo hi (qM (qD g 0) n cap) vs gs)(e:gs.length=n){i x u}(b:gs[i]?=some x)(c:vs[i]?=some u):
  w.cell? (qP g (i*3))=some u/\w.cell? (qP g (i*3+1))=some (qC x.lo)/\w.cell? (qP g (i*3+2))=some (qC x.hi):=by
 have hi:=(xp.1 b).1;have a:=d.row;rw[e]at a hi;refine⟨?_,?_,?_⟩
 ·have:=a.cellAt (i*3+0) qF;rw[ZV c b qF]at this;exact this
 ·have:=a.cellAt (i*3+1) qF;rw[ZV c b qF]at this;exact this
 have:=a.cellAt (i*3+2) qF;rw[ZV c b qF]at this;exact this
def yt.inner{t w lo hi v vs gs}(a:yt t w lo hi v vs gs){i:Nat}{x u}(b:gs[i]?=some x)(c:vs[i]?=some u):jU w lo u x.cells:=
 a.nest.own i u _ c (by simp[b])
def yt.get{t w lo a v vs gs}(d:yt t w lo a v vs gs){i}(a:i<gs.length):∃b c,gs[i]?=some b/\vs[i]?=some c:=
 ⟨gs[i],vs[i]'(by rw[d.len];exact a),qH,qH⟩
structure Zh(w:qS)(lo hi:Nat)(b a:qT)(gs:List Gr)(c:qV):Prop where
 rows:∃vs,yt 86 w lo hi b vs gs
 starts:Zr w lo a c
 bl:bel hi a
def Zh.frame{w w' lo hi vr vt gs st}(b:Zh w lo hi vr vt gs st)(c:∀a,lo<=a->a<hi->w'.heap[a]? =w.heap[a]?):Zh w' lo hi vr vt gs st:=by
 obtain⟨d,e⟩:=b.rows;exact⟨⟨d,e.frame c⟩,Zg b.starts b.bl c,b.bl⟩
def Zh.below{w w' lo hi vr vt gs st}(b:Zh w lo hi vr vt gs st){B}(c:Below B w w')(e:hi<=B):Zh w' lo hi vr vt gs st:=
 b.frame (λa _ d=>c.block a qF)
def Zh.mono{w lo hi lo' hi' vr vt gs st}(a:Zh w lo hi vr vt gs st)(b:lo'<=lo)(c:hi<=hi'):Zh w lo' hi' vr vt gs st:=by
 obtain⟨d,e⟩:=a.rows;exact⟨⟨d,e.mono b c⟩,zF a.starts b,yW a.bl c⟩
def Zh.val{w lo hi vr vt gs st}(e:Zh w lo hi vr vt gs st):∃a b c d,vr= .slice a gs.length b/\vt= .slice c st.length d:=by
 obtain⟨g,f⟩:=e.rows;obtain⟨a,b,h⟩:=f.val;obtain⟨c,d,i⟩:=ju e.starts
 simp_all
def Zh.nil(w)(lo hi):Zh w lo hi qN qN [] []:=
 ⟨⟨[],xR _ _ _ _,Xe _,zd.nil _ _ _⟩,xR _ _ _ _,Xe _⟩
def eq32(xs)(v u)(w)(k:Rd .i32 w v xs)(l:Rd .i32 w u xs)(B:xs.length<=1099511627776):
  Calls prog 83 #[v,u] w λe y=>e=qQ (.bool true)/\∃i,y=w.drewN i:=by
 by_cases m:xs.length=0
 ·have p:=xL m
  subst p
  obtain⟨f,a,rfl⟩:∃f a,v= .slice f 0 a:=by
   rcases k with ⟨f,a,rfl,_⟩ | ⟨_,_,_,_,j,_⟩
   ·simp
   simp at j
  obtain⟨C,z,rfl⟩:∃f a,u= .slice f 0 a:=by
   rcases l with ⟨f,a,rfl,_⟩ | ⟨_,_,_,_,j,_⟩
   ·simp
   simp at j
  clear k l;go_enter func83,ntmps83;go_wp2;refine xQ 1 ?_;rw[xG];go_wp2;go_ret;exact⟨rfl,0,rfl⟩
 obtain⟨c,d,a,rfl,h⟩:∃c d a,v= .slice (qD c d) xs.length a/\∀b,b<xs.length->w.cell? (qP c (d+b))=some (.int .i32 (xs.getD b 0)):=by
  rcases k with ⟨f,a,_,e⟩ | ⟨c,d,a,e,j,h⟩
  ·subst e;simp at m
  exact⟨c,d,a,e,h⟩
 obtain⟨D,E,z,rfl,o⟩:∃c d a,u= .slice (qD c d) xs.length a/\∀b,b<xs.length->w.cell? (qP c (d+b))=some (.int .i32 (xs.getD b 0)):=by
  rcases l with ⟨f,a,_,e⟩ | ⟨c,d,a,e,j,h⟩
  ·subst e;simp at m
  exact⟨c,d,a,e,h⟩
 clear k l;generalize x:xs.length=i at *;clear x;have q:=zC h;have r:=zC o;clear h o;go_enter func83,ntmps83;go_wp2;go_loopw [5] (λb wr=>∃g nq:Nat,g<=i/\b=qC g/\wr=w.drewN nq) (λb _=>i-(intOf b).toNat)
 case atStart=>exact⟨0,0,xK _,rfl,rfl⟩
 obtain⟨g,nq,F,rfl,rfl⟩:=hrel;by_cases n:g<i
 ·have s:=q g n
  have t:=r g n;generalize xs.getD g 0=A at s t;go_wp2;go_quiet (fail);go_wp2;go_roundw
  case rel=>exact⟨g+1,_,qF,qL,rfl⟩
  simp[intOf];omega
 go_wp2;go_ret;exact⟨rfl,_,rfl⟩
def TV(zs)(v)(base)(b:Nat)(k0)(w)(d:w.ownsRow base 21 1 v b (zI .i32 zs))(r:b<=1099511627776)(s:0<=k0)(t:k0<=1099511627776):
  Calls prog 59 #[v,qC k0] w λl g=>l=qQ (qC (k0+b))/\
   g.ownsRow base 21 1 v b (zI .i32 (marks .i32 k0 b))/\w.grownBy g v.ownBlock:=by
 have o:=by have:=d.1;simpa[zI]using this
 rcases d.2 with ⟨rfl,rfl⟩ | ⟨h,n,u,rfl,_⟩
 ·go_enter func59,ntmps59
  go_wp2;refine xQ 1 ?_;rw[xG];go_wp2;go_ret;exact⟨qH,xR _ _ _ _,yT _ _⟩
 have i:=zC d;clear d;go_enter func59,ntmps59;go_wp2
 go_loopw [1,5] (λm f wr=>∃a:Nat,a<=b/\m=qC (k0+a)/\f=qC a/\
   wr.ownsRow base 21 1 (qM (qD h 0) b n) b (zI .i32 (marks .i32 k0 a++zs.drop a))/\w.grownBy wr (some h))
  (λ_ f _=>b-(intOf f).toNat)
 case atStart=>exact⟨0,xK _,qL,rfl,by simpa[marks]using i.out,yT _ _⟩
 obtain⟨a,x,rfl,rfl,c,e⟩:=hrel;by_cases k:a<b
 ·have j:=yL c a k
  have p:=c.frozenAt a;have hst:=c.stored a (.int .i32 (IntKind.i32.wrap (k0+a)));rw[Xd,PJ qF]at hst;rw[IntWalk.i32_left]at hst;generalize (marks _ k0 a++zs.drop a).getD a 0=q at j;have HS:=zC hst;have HG:=zC e;clear hst e c;go_wp2;go_roundw
  case rel=>exact⟨_,qF,qL,qL,HS.1,yq HG HS.2⟩
  simp[intOf];omega
 obtain rfl:a=b:=qF
 rw[vx qF,vT]at c;have HS:=zC c;have HG:=zC e;clear c e;go_wp2;go_ret;exact⟨rfl,HS,HG⟩
def TW(v)(n)(k0)(w)(l:Rd .i32 w v (marks .i32 k0 n))(q:n<=1099511627776)(r:0<=k0)(s:k0<=1099511627776):
  Calls prog 63 #[v,qC k0] w λc j=>c=qQ (qC (k0+n))/\j=w:=by
 rcases l with ⟨t,m,rfl,c⟩ | ⟨u,x,m,rfl,o,f⟩
 ·have g:=by have:=ko List.length c;simpa[marks]using this
  subst g;clear c;go_enter func63,ntmps63;go_wp2;refine xQ 1 ?_;rw[xG];go_wp2;go_ret;simp
 have d:∀b,b<n->w.cell? _=some _:=λb e=>by
  rw[f b (by rw[jG];exact e),Fq e,IntWalk.i32_left]
 rw[jG];have h:=zC d;clear f d o;go_enter func63,ntmps63;go_wp2;go_loop [1,5] (λk b=>∃a:Nat,a<=n/\k=qC (k0+a)/\b=qC a) (λ_ b=>n-(intOf b).toNat)
 case atStart=>exact⟨0,xK _,qL,rfl⟩
 obtain⟨a,y,rfl,rfl⟩:=hrel;by_cases i:a<n
 ·have p:=h a i
  go_wp2;go_round
  case rel=>exact⟨a+1,qF,qL,qL⟩
  simp[intOf];omega
 obtain rfl:a=n:=qF
 go_wp2;go_ret;simp
def Q3(a:qS)(b:Nat)(c d e:qT)(f:TypeId):Prop:=a.heap[b]?=some (qR #[c,d,e] f (0,0))
def Q3.c{w b x y z t}(a:Q3 w b x y z t):w.cell? (qP b 0)=some x/\w.cell? (qP b 1)=some y/\w.cell? (qP b 2)=some z:=by
 refine⟨?_,?_,?_⟩<;>rw[xF w b _ _ _ _ a]<;>rfl
def Q3.lt{w b x y z t}(a:Q3 w b x y z t):b<w.heap.size:=(qZ.1 a).1
def Q3.fz{w b x y z t}(a:Q3 w b x y z t)(j):w.frozen? (qP b j)=false:=xY w b j _ _ a
def Q3.below{B w w' b x y z t}(a:Q3 w b x y z t)(c:Below B w w')(d:b<B):Q3 w' b x y z t:=(c.block b d).trans a
def Q3.new(a:qS)(x y z)(t):Q3 (a.alloc (qR #[x,y,z] t)) a.heap.size x y z t:=xI a _
def Rd.vl{k w v zs}(c:Rd k w v zs):∃b a,v= .slice b zs.length a:=by
 rcases c with ⟨b,a,rfl,rfl⟩ | ⟨d,e,a,rfl,_⟩
 ·simp
 simp
def eq32l(xs)(v u)(w)(e:Rd .i32 w v xs)(f:Rd .i32 w u xs)(g:xs.length<=1099511627776):
  Calls prog 83 #[v,u] w λa b=>a=qQ (.bool true)/\qY w b:=
 (eq32 xs v u w e f g).mono λa b⟨c,h,d⟩=>⟨c,by subst d;exact⟨rfl,rfl,rfl,lR,λ_ _=>rfl⟩⟩
def eqGpN(xs)(v u)(lo hi)(w)(h:Rd .i32 w v xs)(i:Rd .i32 w u xs)(x:xs.length<=1048576):
  Calls prog 85 #[.agg #[v,qC lo,qC hi],.agg #[u,qC lo,qC hi]] w λm q=>m=qQ (.bool true)/\qY w q:=by
 obtain⟨a,b,rfl⟩:=h.vl;obtain⟨d,e,rfl⟩:=i.vl;have c:=zC (((xe _ w).alloc lR (qR #[qM a xs.length b,qC lo,qC hi] 86)).alloc qH (qR #[qM d xs.length e,qC lo,qC hi] 86));have j:=zC (eq32l xs _ _ _ (h.below c) (i.below c) qF);have k:=zC ((Q3.new w (qM a xs.length b) (qC lo) (qC hi) 86).below ((xe _ _).alloc lR (qR #[qM d xs.length e,qC lo,qC hi] 86)) qH);have g:=zC (Q3.new (w.alloc (qR #[qM a xs.length b,qC lo,qC hi] 86)) (qM d xs.length e) (qC lo) (qC hi) 86);have l:(w.alloc (qR #[qM a xs.length b,qC lo,qC hi] 86)).heap.size=w.heap.size+1:=qH
 have r:((w.alloc (qR #[qM a xs.length b,qC lo,qC hi] 86)).alloc (qR #[qM d xs.length e,qC lo,qC hi] 86)).heap.size=w.heap.size+2:=qH
 rw[l]at g;generalize xs.length=s at *;clear l h i;go_enter func85,ntmps85;go_wp2_with fail;generalize (w.alloc _).alloc _=t at *;refine j.mono ?_;rintro m y ⟨rfl,f⟩;have n:=zC (k.below f qF);have o:=zC (g.below f qF);have p:=zC (c.trans (f.mono qF));obtain⟨z,A,B⟩:=n.c;obtain⟨C,D,E⟩:=o.c;clear f j k c g;go_wp2;go_ret;exact⟨rfl,p⟩
def eqGapSN(gs)(vs us)(v u)(lo g lo' hi')(w)(h:yt 86 w lo g v vs gs)(i:yt 86 w lo' hi' u us gs)(X:g<=w.heap.size)(Y:hi'<=w.heap.size)(Z:gs.length<=1048576)(s:∀b∈gs,b.cells.length<=1048576):
  Calls prog 56 #[v,u] w λz k=>z=qQ (.bool true)/\qY w k:=by
 have D:=zC (λd(g:d<gs.length)=>h.get g);have E:=zC (λd(g:d<gs.length)=>i.get g);have n:=zC (λk(a:qY w k)=>h.frame (λe _ I=>a.block e qF));have o:=zC (λk(a:qY w k)=>i.frame (λe _ I=>a.block e qF));have HS:=zC s;by_cases q:gs.length=0
 ·obtain⟨aa,L,rfl⟩:=h.val
  obtain⟨ab,M,rfl⟩:=i.val;rw[q];clear h i s;go_enter func56,ntmps56;go_wp2;refine xQ 1 ?_;rw[xG];go_wp2;go_ret;exact⟨rfl,xe _ _⟩
 rcases h.row.2 with ⟨_,e⟩ | ⟨ac,L,ad,rfl,_,_,ae,N,_⟩
 ·exact absurd e q
 rcases i.row.2 with ⟨_,e⟩ | ⟨af,M,ag,rfl,_,_,ah,O,_⟩
 ·exact absurd e q
 generalize y:gs.length=r at *;have t:=zC y;unfold maxLen at N O;clear h i s y;go_enter func56,ntmps56;go_wp2;go_loopw [5] (λd wr=>∃f:Nat,f<=r/\d=qC f/\qY w wr) (λd _=>r-(intOf d).toNat)
 case atStart=>exact⟨0,xK _,rfl,xe _ _⟩
 obtain⟨f,ai,rfl,a⟩:=hrel;have p:=zC a;by_cases x:f<r
 ·obtain⟨b,P,c,l⟩:=D f x
  obtain⟨aj,Q,B,m⟩:=E f x;rw[c]at B;cases B;obtain⟨ak,al,am⟩:=(n wr a).cells t c l;obtain⟨an,ao,ap⟩:=(o wr a).cells t c m;have F:=zC (λJ A=>eqGpN b.cells P Q b.lo b.hi J ((Rd.qa ((n wr a).inner c l)).cells A) ((Rd.qa ((o wr a).inner c m)).cells A) (HS b (xH c)));obtain⟨aq,ar,R⟩:=yw ((n wr a).inner c l);obtain⟨au,av,S⟩:=yw ((o wr a).inner c m);generalize b.lo=U at *;generalize b.hi=V at *;generalize b.cells.length=W at *;subst R S;clear c l m a;go_upto_region 6 with fail;go_cut [26]from 11 to 26 (λK wc=>K= .bool false/\qY wr wc)
  case first=>
   go_region_with (go_at_call 85;refine(F _ (by exact rfl)).mono ?_;rintro z T ⟨rfl,j⟩;have G:=zC (show qY wr T from⟨j.os,j.tape,j.output,j.size,j.block⟩);clear j)
   all_goals (go_wp2_with fail;go_meet;exact⟨rfl,G⟩)
  obtain⟨rfl,C⟩:=hcut;have H:=zC (p.trans (C.mono p.size));clear C;go_wp2;go_roundw
  case rel=>exact⟨f+1,qF,qL,H⟩
  simp[intOf];omega
 clear a;go_wp2;go_ret;exact⟨rfl,p⟩
structure Kp(lo hi:Nat)(w w':qS):Prop where
 os:w'.os=w.os
 tape:w'.tape=w.tape
 output:w'.output=w.output
 size:w.heap.size<=w'.heap.size
 block:∀q,q<w.heap.size->(q<lo\/hi<=q)->w'.heap[q]? =w.heap[q]?
def Kp.refl(lo hi)(w):Kp lo hi w w:=⟨rfl,rfl,rfl,lR,λ_ _ _=>rfl⟩
def Kp.trans{lo hi w w' w''}(a:Kp lo hi w w')(b:Kp lo hi w' w''):Kp lo hi w w'':=
 ⟨b.os.trans a.os,b.tape.trans a.tape,b.output.trans a.output,vC a.size b.size,λc d e=>(b.block c (ve d a.size) e).trans (a.block c d e)⟩
def Kp.of_grown{lo hi w w' r}(b:w.grownBy w' r)(e:∀a,r=some a->lo<=a/\a<hi):Kp lo hi w w':=
 ⟨b.os,b.tape,b.output,b.size,λa c f=>b.block a c (λd=>by have:=e a d.symm;omega)⟩
def Kp.below{lo hi w w'}(a:Kp lo hi w w')(d:lo<=w.heap.size):Below lo w w':=⟨a.os,a.tape,a.output,a.size,λb c=>a.block b qF (.inl c)⟩
def Kp.qj{lo hi w w'}(a:qY w w'):Kp lo hi w w':=⟨a.os,a.tape,a.output,a.size,λb c _=>a.block b c⟩
def zj{d:qS}{h i e f j k l m g:Nat}{v v' xs xs'}(n:d.ownsRow h e j v l xs)(o:d.ownsRow i f k v' m xs')(p:e≠f)(b:v.ownBlock=some g):v'.ownBlock≠some g:=by
 intro a;rcases n.2 with ⟨rfl,_⟩ | ⟨r,s,t,rfl,_,q,_⟩
 ·simp[Value.ownBlock]at b
 simp only[Value.ownBlock,xE]at b;subst b;rcases o.2 with ⟨rfl,_⟩ | ⟨u,w,x,rfl,_,c,_⟩
 ·simp[Value.ownBlock]at a
 simp only[Value.ownBlock,xE]at a;subst a;rw[q]at c;simp only[xE]at c
 injection c with _ h2 _
 exact p h2
def yX{a f:qS}{g l b h i m j n:Nat}{v v' xs xs'}(c:a.ownsRow g b i v j xs)(o:a.ownsRow l h m v' n xs')(p:b≠h)(q:a.grownBy f v'.ownBlock):f.ownsRow g b i v j xs:=
 zD c (λd e=>q.block d (c.lt d e).2 (λk=>zj c o p e k.symm))
def yt.put{t w w1 lo hi v vs us u a b x l}(c:yt t w lo hi v (vs++u::us) (a++x::b))(e:vs.length=a.length)(j:jU w1 lo u l)(g:w.grownBy w1 u.ownBlock)(k:t≠21):
  yt t w1 lo hi v (vs++u::us) (a++⟨l,x.lo,x.hi⟩::b):=by
 have h:jU w lo u x.cells:=c.inner (i:=a.length) qH (by rw[<- e];simp);have f:=c.nest;simp at f;refine⟨?_,c.bl,?_⟩
 ·have d:=yX c.row h k g
  rw[yy e]at d |-;simp only[zU,xg,vh]at d |-;exact d
 simp;exact f.put (by simpa using e) j g
def yt.gap{t w lo hi g cap n vs us u a b x}(l r)(c:yt t w lo hi (qM (qD g 0) n cap) (vs++u::us) (a++x::b))(p:(a++x::b).length=n)(f:vs.length=a.length)(C:t≠21):
  yt t ((w.setCell (qP g (a.length*3+1)) (qC l)).setCell (qP g (a.length*3+2)) (qC r)) lo hi (qM (qD g 0) n cap) (vs++u::us) (a++⟨x.cells,l,r⟩::b)/\
  w.grownBy ((w.setCell (qP g (a.length*3+1)) (qC l)).setCell (qP g (a.length*3+2)) (qC r)) (some g):=by
 have d:=c.row;rw[p]at d;have h:=d.stored (a.length*3+1) (qC l);have i:=h.1.stored (a.length*3+2) (qC r);have j:=yq h.2 i.2;refine⟨⟨?_,c.bl,?_⟩,j⟩
 ·have k:=i.1
  have q:(a++(⟨x.cells,l,r⟩)::b).length=n:=(by simpa using p);rw[q];rw[LM (g':=⟨x.cells,l,r⟩) f]at k;exact k
 rw[show(a++(⟨_,l,r⟩:Gr)::b).map _=(a++x::b).map Gr.cells by simp];refine⟨c.nest.len,λs v y z A=>?_,c.nest.bl,c.nest.ne⟩;have e:=c.nest.own s v y z A;exact zD e (λm o=>j.block m (e.lt m o).2 (λB=>zj e d (λf=>C f.symm) o B.symm))
def Kk(g:TypeId)(h i:qS):Prop:=∀(b a c:Nat)(d)(e)(f),a≠g->a≠21->h.ownsRow b a c d e f->i.ownsRow b a c d e f
def Kk.refl(t)(w):Kk t w w:=λ_ _ _ _ _ _ _ _ a=>a
def Kk.trans{t w w' w''}(j:Kk t w w')(k:Kk t w' w''):Kk t w w'':=λa b c d e f g h i=>k a b c d e f g h (j a b c d e f g h i)
def Kk.of_row{t w w' B size n v xs}(c:w.ownsRow B t size v n xs)(d:w.grownBy w' v.ownBlock):Kk t w w':=λ_ _ _ _ _ _ a _ b=>yX b c a d
def Kk.of_32{t w w' B size n v xs}(c:w.ownsRow B 21 size v n xs)(d:w.grownBy w' v.ownBlock):Kk t w w':=λ_ _ _ _ _ _ _ a b=>yX b c a d
def yt.kept{t w w'}{c d l b m n:Nat}{v v' vs gs xs'}(a:yt t w c d v vs gs)(e:w.ownsRow l b m v' n xs')(o:t≠b)(p:21≠b)(f:w.grownBy w' v'.ownBlock):yt t w' c d v vs gs:=
 ⟨yX a.row e o f,a.bl,⟨a.nest.len,λg h i j k=>yX (a.nest.own g h i j k) e p f,a.nest.bl,a.nest.ne⟩⟩
def Kd(a:Int):List Gr->List Gr
 | []=>[]
 | b::c=>⟨marks .i32 a b.cells.length,a+b.cells.length,a+b.cells.length+1⟩::Kd (a+b.cells.length+1+1) c
def zr:List Gr->Nat
 | []=>0
 | a::b=>a.cells.length+2+zr b
def Ut(a b):zr (a++b)=zr a+zr b:=by
 induction a with
 | nil=>simp[zr]
 | cons d a c=>simp only[vI,zr,c];omega
def I1(k0)(a):(Kd k0 a).length=a.length:=by
 induction a generalizing k0 with
 | nil=>rfl
 | cons c a b=>simp only[Kd,vh,b]
def mkG_app(k0)(a b):Kd k0 (a++b)=Kd k0 a++Kd (k0+zr a) b:=by
 induction a generalizing k0 with
 | nil=>simp[Kd,zr]
 | cons c a d=>
  simp only[vI,Kd,zr,d];rw[show k0+↑c.cells.length+1+1+↑(zr a)=k0+↑(c.cells.length+2+zr a)by omega]
def mkG_get{k0 b}{a:Nat}{g}(c:b[a]?=some g):(Kd k0 b)[a]?=some ⟨marks .i32 (k0+zr (b.take a)) g.cells.length,k0+zr (b.take a)+g.cells.length,k0+zr (b.take a)+g.cells.length+1⟩:=by
 induction b generalizing k0 a with
 | nil=>simp at c
 | cons d b e=>
  cases a with
  | zero=>simp at c;subst c;simp[Kd,zr]
  | succ a=>
   simp at c;simp only[Kd,List.getElem?_cons_succ,e c,vc,zr];rw[show k0+↑d.cells.length+1+1+↑(zr _)=k0+↑(d.cells.length+2+zr (b.take a))by omega]
def Zs{a:List Gr}{i g}(b:a[i]?=some g):zr (a.take (i+1))=zr (a.take i)+g.cells.length+2:=by
 rw[vH,b,Ut];simp[zr];omega
def Yk(gs)(i):zr (gs.take i)<=zr gs:=by
 have:=Ut (gs.take i) (gs.drop i);rw[vy]at this;omega
def Uu{gs i g}(a:gs[i]?=some g):g.cells.length+zr (gs.take i)<=zr gs:=by
 have b:=Zs a;have c:=Yk gs (i+1);omega
def Uv(a):2*a.length<=zr a:=by
 induction a with
 | nil=>simp
 | cons b a c=>simp only[zr,vh];omega
def LU{α:Type}{xs i}{a:α}(b:xs[i]?=some a):xs=xs.take i++a::xs.drop (i+1):=by
 have c:=(xp.1 b).1;have d:xs[i]=a:=(xp.1 b).2;rw[<- d,<- vN c,vy]
def je{α:Type}{a b}{c:α}{j}(d:a.length=j):(a++c::b)[j]?=some c:=by
 subst d;simp
def LX(gs)(vs)(v)(lo hi)(k0)(w)(i:yt 86 w lo hi v vs (Kd k0 gs))(Q:zr gs<=1073741824)(R:0<=k0)(S:k0<=1073741824):
  Calls prog 65 #[v,qC k0] w λg E=>g=qQ (qC (k0+zr gs))/\E=w:=by
 have j:=Uv gs;have f:=I1 k0 gs;rcases i.row.2 with ⟨rfl,G⟩ | ⟨T,U,V,rfl,W,_,t,H,_⟩
 ·have g:=xL (by rw[<- f];exact G)
  subst g;clear i;go_enter func65,ntmps65;go_wp2;refine xQ 1 ?_;rw[xG];go_wp2;go_ret;exact⟨by simp[zr],rfl⟩
 have c:=zC i;have z:=zC (λe=>Yk gs e);unfold maxLen at H;obtain⟨b,n⟩:∃b,b=gs.length:=⟨_,rfl⟩
 rw[f]at t c |-;rw[<- n]at t j c |-;have k:=zC n;have p:=zC f;clear i n f;go_enter func65,ntmps65;go_wp2;go_loop [1,5] (λF e=>∃a:Nat,a<=b/\F=qC (k0+zr (gs.take a))/\e=qC a) (λ_ e=>b-(intOf e).toNat)
 case atStart=>exact⟨0,xK _,by simp[zr],rfl⟩
 obtain⟨a,X,rfl,rfl⟩:=hrel;have J:=z a;by_cases j:a<b
 ·have q:a<gs.length:=by rw[<- k.out];exact j
  have d:gs[a]?=some gs[a]:=(by simp[q]);generalize gs[a]=D at d;have h:=mkG_get (k0:=k0) d;obtain⟨Y,I,u,o⟩:=c.out.get (by rw[p.out];exact q);rw[h]at u;cases u;have K:=Uu d;have L:=Zs d;obtain⟨Z,aa,ab⟩:=c.out.cells (by rw[p.out,<- k.out]) h o;have l:=c.inner h o;obtain⟨ac,ad,x⟩:=yw l;rw[jG]at x;generalize O:zr (gs.take a)=s at *;generalize P:D.cells.length=m at *;have A:=zC (TW I m _ w (Rd.qa l) qF qF qF);have B:((zr (gs.take (a+1))):Int)=s+m+2:=qF;have M:¬ (k0+s+m)<0:=qF;have N:(a:Int)<b:=qF;subst x;clear l d h o;go_wp2_with fail;refine A.mono ?_;rintro g ae ⟨rfl,y⟩;have C:=y.symm;subst C;clear y;go_wp2;go_round
  case rel=>exact⟨a+1,qF,by rw[B];go_num,qL⟩
  simp[intOf];omega
 obtain rfl:a=b:=qF
 have r:gs.take a=gs:=xU (by have:=k.out;omega);rw[r];clear r;go_wp2;go_ret;simp
def mks(b:Int)(c:Nat):qV:=(List.range c).map λa:Nat=>b+a
def Xf(k0)(n):(mks k0 n).length=n:=by simp[mks]
def T9{k0 n i}(a:i<n):(mks k0 n).getD i 0=k0+i:=by simp[mks,a]
def mks_set{k0 j}{a:qV}(b:j<a.length):(mks k0 j++a.drop j).set j (k0+j)=mks k0 (j+1)++a.drop (j+1):=by
 rw[vN b,kj _ _ (by rw[Xf];omega),Xf,kh,QC];simp[mks,List.range_succ]
def Ta(zs)(v)(base)(k0)(w)(g:Zr w base v zs)(t:zs.length<=1073741824)(u:0<=k0)(x:k0<=1099511627776):
  Calls prog 62 #[v,qC k0] w λe i=>e=qQ (qC (k0+zs.length))/\Zr i base v (mks k0 zs.length)/\w.grownBy i v.ownBlock:=by
 rcases g.2 with ⟨rfl,n⟩ | ⟨j,o,y,rfl,_,_,z,p,_⟩
 ·have e:=xL n
  subst e;go_enter func62,ntmps62;go_wp2;refine xQ 1 ?_;rw[xG];go_wp2;go_ret;exact⟨qH,xR _ _ _ _,yT _ _⟩
 have h:=zC g;unfold Zr at h;unfold maxLen at p;generalize r:zs.length=c at *;clear g;go_enter func62,ntmps62;go_wp2
 go_loopw [1,5] (λm f wr=>∃a:Nat,a<=c/\m=qC (k0+a)/\f=qC a/\
   wr.ownsRow base 3 1 (qM (qD j 0) c o) c (zI .i64 (mks k0 a++zs.drop a))/\w.grownBy wr (some j))
  (λ_ f _=>c-(intOf f).toNat)
 case atStart=>exact⟨0,xK _,qL,rfl,by have:=h.out;simpa[mks]using this,yT _ _⟩
 obtain⟨a,A,rfl,rfl,b,d⟩:=hrel;by_cases l:a<c
 ·have k:=yL b a l
  have q:=b.frozenAt a;have hst:=b.stored a (qC (k0+a));rw[Xd,mks_set qF]at hst;generalize (mks k0 a++zs.drop a).getD a 0=s at k;have HS:=zC hst;have HG:=zC d;clear hst d b;go_wp2;go_roundw
  case rel=>exact⟨_,qF,qL,qL,HS.1,yq HG HS.2⟩
  simp[intOf];omega
 obtain rfl:a=c:=qF
 rw[vx qF,vT]at b;have HS:=zC b;have HG:=zC d;clear b d;go_wp2;go_ret;exact⟨rfl,by unfold Zr;rw[Xf];exact HS,HG⟩
def Tc(v)(n)(k0)(w)(l:Rd .i64 w v (mks k0 n))(q:n<=1073741824)(r:0<=k0)(s:k0<=1099511627776):
  Calls prog 66 #[v,qC k0] w λc j=>c=qQ (qC (k0+n))/\j=w:=by
 rcases l with ⟨t,m,rfl,c⟩ | ⟨u,x,m,rfl,o,f⟩
 ·have g:=by have:=ko List.length c;simpa[mks]using this
  subst g;clear c;go_enter func66,ntmps66;go_wp2;refine xQ 1 ?_;rw[xG];go_wp2;go_ret;simp
 have d:∀b,b<n->w.cell? _=some _:=λb e=>by
  rw[f b (by rw[Xf];exact e),T9 e]
 rw[Xf];have h:=zC d;clear f d o;go_enter func66,ntmps66;go_wp2;go_loop [1,5] (λk b=>∃a:Nat,a<=n/\k=qC (k0+a)/\b=qC a) (λ_ b=>n-(intOf b).toNat)
 case atStart=>exact⟨0,xK _,qL,rfl⟩
 obtain⟨a,y,rfl,rfl⟩:=hrel;by_cases i:a<n
 ·have p:=h a i
  go_wp2;go_round
  case rel=>exact⟨a+1,qF,qL,qL⟩
  simp[intOf];omega
 obtain rfl:a=n:=qF
 go_wp2;go_ret;simp
def eq64(xs)(v u)(w)(k:Rd .i64 w v xs)(l:Rd .i64 w u xs)(B:xs.length<=1099511627776):
  Calls prog 57 #[v,u] w λe y=>e=qQ (.bool true)/\∃i,y=w.drewN i:=by
 by_cases m:xs.length=0
 ·have p:=xL m
  subst p
  obtain⟨f,a,rfl⟩:∃f a,v= .slice f 0 a:=by
   rcases k with ⟨f,a,rfl,_⟩ | ⟨_,_,_,_,j,_⟩
   ·simp
   simp at j
  obtain⟨C,z,rfl⟩:∃f a,u= .slice f 0 a:=by
   rcases l with ⟨f,a,rfl,_⟩ | ⟨_,_,_,_,j,_⟩
   ·simp
   simp at j
  clear k l;go_enter func57,ntmps57;go_wp2;refine xQ 1 ?_;rw[xG];go_wp2;go_ret;exact⟨rfl,0,rfl⟩
 obtain⟨c,d,a,rfl,h⟩:∃c d a,v= .slice (qD c d) xs.length a/\∀b,b<xs.length->w.cell? (qP c (d+b))=some (qC (xs.getD b 0)):=by
  rcases k with ⟨f,a,_,e⟩ | ⟨c,d,a,e,j,h⟩
  ·subst e;simp at m
  exact⟨c,d,a,e,h⟩
 obtain⟨D,E,z,rfl,o⟩:∃c d a,u= .slice (qD c d) xs.length a/\∀b,b<xs.length->w.cell? (qP c (d+b))=some (qC (xs.getD b 0)):=by
  rcases l with ⟨f,a,_,e⟩ | ⟨c,d,a,e,j,h⟩
  ·subst e;simp at m
  exact⟨c,d,a,e,h⟩
 clear k l;generalize x:xs.length=i at *;clear x;have q:=zC h;have r:=zC o;clear h o;go_enter func57,ntmps57;go_wp2;go_loopw [5] (λb wr=>∃g nq:Nat,g<=i/\b=qC g/\wr=w.drewN nq) (λb _=>i-(intOf b).toNat)
 case atStart=>exact⟨0,0,xK _,rfl,rfl⟩
 obtain⟨g,nq,F,rfl,rfl⟩:=hrel;by_cases n:g<i
 ·have s:=q g n
  have t:=r g n;generalize xs.getD g 0=A at s t;go_wp2;go_quiet (fail);go_wp2;go_roundw
  case rel=>exact⟨g+1,_,qF,qL,rfl⟩
  simp[intOf];omega
 go_wp2;go_ret;exact⟨rfl,_,rfl⟩
def D2(a:qS)(b:Nat)(c d:qT)(e:TypeId):Prop:=a.heap[b]?=some (qR #[c,d] e (0,0))
def D2.c{w b x y t}(a:D2 w b x y t):w.cell? (qP b 0)=some x/\w.cell? (qP b 1)=some y:=by
 refine⟨?_,?_⟩<;>rw[xF w b _ _ _ _ a]<;>rfl
def D2.fz{w b x y t}(a:D2 w b x y t)(j):w.frozen? (qP b j)=false:=xY w b j _ _ a
def D2.lt{w b x y t}(a:D2 w b x y t):b<w.heap.size:=(qZ.1 a).1
def D2.below{B w w' b x y t}(a:D2 w b x y t)(c:Below B w w')(d:b<B):D2 w' b x y t:=(c.block b d).trans a
def D2.new(a:qS)(x y)(t):D2 (a.alloc (qR #[x,y] t)) a.heap.size x y t:=xI a _
def Fr(B)(w)(b):Below B w (w.drewN b):=by
 induction b generalizing w with
 | zero=>exact xe _ _
 | succ b a=>exact⟨(a _).os,(a _).tape,(a _).output,(a _).size,(a _).block⟩
def eqLBL(gs)(st)(vr vt vr' vt')(lo hi lo' hi')(a)(d:Zh a lo hi vr vt gs st)(e:Zh a lo' hi' vr' vt' gs st)(I:hi<=a.heap.size)(J:hi'<=a.heap.size)(K:gs.length<=1048576)(u:∀x∈gs,x.cells.length<=1048576)(ht:st.length<=1048576):
  Calls prog 26 #[.agg #[vr,vt],.agg #[vr',vt']] a λl H=>l=qQ (.bool true)/\qY a H:=by
 have c:=zC (((xe _ a).alloc lR (qR #[vr,vt] 28)).alloc qH (qR #[vr',vt'] 28));have z:=c.size;have j:=zC (d.below c I);have k:=zC (e.below c J);obtain⟨m,n,f,g,rfl,rfl⟩:=d.val;obtain⟨o,p,h,i,rfl,rfl⟩:=e.val;have q:=zC (show D2 ((a.alloc _).alloc (qR #[qM o gs.length p,qM h st.length i] 28)) _ (qM m gs.length n) (qM f st.length g) 28 from(kL _ _ _ qH).trans (xI _ _));have r:=zC ((by have s:=D2.new (a.alloc (qR #[qM m gs.length n,qM f st.length g] 28)) (qM o gs.length p) (qM h st.length i) 28;rw[kE]at s;exact s));have O:a.heap.size+1<((a.alloc (qR #[qM m gs.length n,qM f st.length g] 28)).alloc (qR #[qM o gs.length p,qM h st.length i] 28)).heap.size:=qH
 obtain⟨L,v⟩:=j.out.rows;obtain⟨M,w⟩:=k.out.rows;have t:=zC (eqGapSN gs L M _ _ lo hi lo' hi' _ v w qF qF K u);have A:=zC (λa d e=>eq64 st (qM f st.length g) (qM h st.length i) a d e qF);clear d e v w u;generalize F:gs.length=R at *;generalize G:st.length=S at *;clear F G;go_enter func26,ntmps26;go_wp2_with fail;generalize (a.alloc _).alloc _=T at *;refine t.mono ?_;rintro l U ⟨rfl,b⟩;have B:=zC (j.below b qF).starts;have C:=zC (k.below b qF).starts;have P:=(D2.c (q.below b qF)).2;have Q:=(D2.c (r.below b qF)).2;have D:=zC (c.trans (b.mono z));clear b j k q r c t;go_wp2_with fail;refine(A _ (Rd.qa B) (Rd.qa C)).mono ?_;rintro l N ⟨rfl,V,y⟩;have E:=zC (show Below _ a N from(by rw[y];exact D.trans (Fr _ _ _)));clear y;go_wp2;go_ret;exact⟨rfl,E⟩
structure zQ(w w':qS)(S:Nat->Prop):Prop where
 os:w'.os=w.os
 tape:w'.tape=w.tape
 output:w'.output=w.output
 size:w.heap.size<=w'.heap.size
 block:∀k,k<w.heap.size->¬S k->w'.heap[k]? =w.heap[k]?
def zQ.reflS(w)(S):zQ w w S:=⟨rfl,rfl,rfl,lR,λ_ _ _=>rfl⟩
def zQ.allocS{w x S}(a:zQ w x S)(o):zQ w (x.alloc o) S:=
 ⟨a.os,a.tape,a.output,by have:=a.size;simp;omega,λb c d=>(((xe _ x).alloc lR o).block b (by have:=a.size;omega)).trans (a.block b c d)⟩
def zQ.grownS{w x y S r}(b:zQ w x S)(c:x.grownBy y r)(h:∀a,r=some a->S a\/w.heap.size<=a):zQ w y S:=
 ⟨c.os.trans b.os,c.tape.trans b.tape,c.output.trans b.output,vC b.size c.size,λd f e=>(c.block d (by have:=b.size;omega) (λg=>by rcases h d g.symm with a | a;exact e a;omega)).trans (b.block d f e)⟩
def zQ.setS{w x S}(a:zQ w x S)(p)(v)(g:S p.block\/w.heap.size<=p.block):zQ w (x.setCell p v) S:=
 ⟨a.os,a.tape,a.output,by simp;exact a.size,λc e d=>(xj x p c v (λf=>by rcases g with b | b;rw[<- f]at b;exact d b;omega)).trans (a.block c e d)⟩
def zQ.qo{w x y S T}(b:zQ w x S)(c:zQ x y T)(h:∀a,T a->S a\/w.heap.size<=a):zQ w y S:=
 ⟨c.os.trans b.os,c.tape.trans b.tape,c.output.trans b.output,vC b.size c.size,λa f d=>(c.block a (by have:=b.size;omega) (λg=>by rcases h a g with e | e;exact d e;omega)).trans (b.block a f d)⟩
def zQ.belowS{w x y S B}(a:zQ w x S)(b:Below B x y)(f:w.heap.size<=B):zQ w y S:=
 ⟨b.os.trans a.os,b.tape.trans a.tape,b.output.trans a.output,vC a.size b.size,λc d e=>(b.block c qF).trans (a.block c d e)⟩
def zQ.qj{w x S B}(a:Below B w x)(b:w.heap.size<=B):zQ w x S:=(zQ.reflS w S).belowS a b
def zQ.sameS{w x y S}(a:zQ w x S)(b:y.heap=x.heap)(f:y.os=x.os)(g:y.tape=x.tape)(h:y.output=x.output):zQ w y S:=
 ⟨f.trans a.os,g.trans a.tape,h.trans a.output,by rw[b];exact a.size,λc d e=>by rw[b];exact a.block c d e⟩
abbrev Mk:=Int×Int×Int
def bef(a b:Mk):Bool:=decide (a.2.1<b.2.1\/(a.2.1=b.2.1/\a.1<b.1))
def XF(a:Mk):Bool:=decide (-1000000000<=a.1/\a.1<=1000000000)&&decide (0<=a.2.2/\a.2.2<=1)
def TA(a:Mk):Bool:=decide (0<=a.2.1/\a.2.1<=8192)
def yN(b:List Mk)(c:Int):Bool:=b.any λa=>decide (a.1=c)
def Vd(a:List Mk):Prop:=a.length<=128/\(∀x∈a,XF x=true/\TA x=true)/\a.Pairwise λb c=>bef b c=true/\b.1≠c.1
def YL(a b):bef a b=true↔(a.2.1<b.2.1\/(a.2.1=b.2.1/\a.1<b.1)):=by simp[bef]
def J6{a b c}(d:bef a b=true)(e:bef b c=true):bef a c=true:=by rw[YL]at *;omega
def Wu(a):bef a a=false:=by simp[bef]
def PK{a b}(c:bef a b=true):bef b a=false:=by
 cases h2:bef b a with
 | false=>rfl
 | true=>rw[YL]at *;omega
def PN{a b}(e:a.1≠b.1)(c:bef a b=false):bef b a=true:=by
 have d:¬ (a.2.1<b.2.1\/(a.2.1=b.2.1/\a.1<b.1)):=by rw[<- YL,c];simp
 rw[YL];omega
def Ke(xs)(i):yN xs i=true↔∃x∈xs,x.1=i:=by simp[yN]
def ZW(xs)(i):yN xs i=false↔∀a∈xs,a.1≠i:=by
 rw[<- Bool.not_eq_true,Ke];exact⟨λb a c d=>b ⟨a,c,d⟩,λb⟨a,c,d⟩=>b a c d⟩
def Vd.nil:Vd []:=⟨qH,qH,List.Pairwise.nil⟩
def Vd.snoc_get{a:List Mk}{k m}(b:a[k]?=some m):a.take (k+1)=a.take k++ [m]:=by
 rw[vH,b];rfl
def Uw{e c:List Mk}(i:e.Perm c)(s:e.Pairwise λa b=>bef b a=false)(t:c.Pairwise λa b=>bef b a=false)(j:c.Pairwise λa b=>a.1≠b.1):e=c:=by
 refine List.Perm.eq_of_pairwise (λa b p q h r=>?_) s t i;have m:=i.subset p;by_cases o:a=b
 ·exact o
 have n:a.1≠b.1:=by
  obtain⟨f,k,u⟩:=kJ m;obtain⟨g,l,v⟩:=kJ q;subst u v;rcases kU f g with d | d | d
  ·exact kY.1 j f g k l d
  ·simp_all
  exact(kY.1 j g f l k d).symm
 rw[PN n r]at h;cases h
def yO(a:List Mk):Nat->Nat
 | 0=>0
 | b+1=>if bef (a.getD b (0,0,0)) (a.getD (yO a b) (0,0,0))=true then b else yO a b
def JI(xs)(a)(c:a<=xs.length)(b:0<xs.length):yO xs a<xs.length:=by
 induction a with
 | zero=>exact b
 | succ a d=>unfold yO;split<;>omega
def La(c:List Mk)(b):∀a,a<b->bef (c.getD a (0,0,0)) (c.getD (yO c b) (0,0,0))=false:=by
 induction b with
 | zero=>intro a h;omega
 | succ b g=>
  intro a h;unfold yO
  split
  ·rename_i e
   by_cases f:a=b
   ·subst f;exact Wu _
   have d:=g a qF;cases h2:bef _ _ with
   | false=>rfl
   | true=>rw[J6 h2 e]at d;cases d
  rename_i e;by_cases f:a=b
  ·simp_all
  exact g a qF
def I2:Nat->List Mk->List Mk
 | 0,_=>[]
 | b+1,a=>if a= []then []else a.getD (yO a a.length) (0,0,0)::I2 b (a.eraseIdx (yO a a.length))
def Ux(b):∀a:List Mk,a.length<=b->(I2 b a).Perm a:=by
 induction b with
 | zero=>intro a i;obtain rfl:a= []:=xL qF;rfl
 | succ b j=>
  intro a i;unfold I2
  split
  ·rename_i d;rw[d]
  rename_i d;have e:0<a.length:=by rcases a with _ | ⟨k,l⟩<;>simp_all
  have c:=JI a _ lR e;have f:(a.eraseIdx (yO a a.length)).length<=b:=(by rw[Qc,xS c];omega);refine(List.Perm.cons _ (j _ f)).trans ?_;have g:a.getD (yO a a.length) (0,0,0)=a[yO a _]:=(by simp[xP,c]);rw[g];rw[Qx]
  have h:a=a.take (yO a a.length)++a[yO a _]::a.drop (yO a a.length+1):=by
   rw[<- vN c,vy]
  exact(List.perm_middle).symm.trans (by rw[<- h])
def Fs(b):∀a:List Mk,a.length<=b->(I2 b a).Pairwise λe c=>bef c e=false:=by
 induction b with
 | zero=>intro a i;exact List.Pairwise.nil
 | succ b m=>
  intro a i;unfold I2
  split
  ·simp
  rename_i n;have f:0<a.length:=by rcases a with _ | ⟨e,c⟩<;>simp_all
  have g:=JI a _ lR f;have d:(a.eraseIdx (yO a a.length)).length<=b:=(by rw[Qc,xS g];omega);refine List.pairwise_cons.2 ⟨λc j=>?_,m _ d⟩;have h:=List.mem_of_mem_eraseIdx ((Ux b _ d).subset j);obtain⟨k,l,rfl⟩:=kJ h;have:=La a _ k l
  simp_all
def Zi(a:List Mk):List Mk:=I2 a.length a
def Zt(xs):(Zi xs).Perm xs:=Ux _ xs lR
def Wv(xs):(Zi xs).Pairwise λa b=>bef b a=false:=Fs _ xs lR
def Uy{xs ys}(d:ys.Perm xs)(e:ys.Pairwise λa b=>bef b a=false)(f:xs.Pairwise λa b=>a.1≠b.1):ys=Zi xs:=by
 refine Uw (d.trans (Zt xs).symm) e (Wv xs) ?_;exact f.perm (Zt xs).symm (λc=>QS c)
def XG(xs):(Zi xs).length=xs.length:=(Zt xs).length_eq
def I3{xs m k}(i:Vd xs)(s:yN xs m.1=false)(v:k<=xs.length)(t:∀b e,b<k->xs[b]?=some e->bef e m=true)(u:∀b e,k<=b->xs[b]?=some e->bef e m=false):
  xs.take k++m::xs.drop k=Zi (xs++ [m]):=by
 have l:=(ZW _ _).1 s
 have n:(xs++ [m]).Pairwise λc d=>c.1≠d.1:=by
  rw[Qu];exact⟨i.2.2.imp λh=>h.2,List.pairwise_singleton _ _,λc f d a=>by simp at a;subst a;exact l c f⟩
 refine Uy ?_ ?_ n
 ·refine(List.perm_middle).trans ?_
  rw[vy];exact(List.perm_append_comm (l₁:=[m]))
 rw[Qu,List.pairwise_cons];have g:=i.2.2.imp λh=>PK h.1
 have o:∀d∈xs.drop k,bef d m=false:=λd a=>by
  obtain⟨b,j,rfl⟩:=kJ a;rw[List.getElem_drop];exact u (k+b) _ qF qH
 have p:∀c∈xs.take k,bef c m=true:=λc f=>by
  obtain⟨b,j,rfl⟩:=kJ f;rw[List.getElem_take];rw[xi]at j;exact t b _ qF qH
 refine⟨g.take,⟨λd a=>o d a,g.drop⟩,λc f d a=>?_⟩;simp at a;rcases a with rfl | a
 ·exact PK (p c f)
 have q:=vy k xs;have r:=g;rw[<- q,Qu]at r
 simp_all
def Y3(a:Mk):qU:=[qC a.1,qC a.2.1,qC a.2.2]
def jX(a:Mk):qT:=.agg #[qC a.1,qC a.2.1,qC a.2.2]
def zY(a:List Mk):qU:=a.flatMap Y3
def zN(a):(zY a).length=a.length*3:=by
 induction a with
 | nil=>rfl
 | cons c a b=>simp only[zY,QI,xg]at b |-;rw[b];simp[Y3];omega
def jo(a b):zY (a++b)=zY a++zY b:=by simp[zY]
def yG(xs)(a k)(x)(b:xs[a]?=some x)(d:k<3):(zY xs)[a*3+k]? =(Y3 x)[k]?:=by
 induction xs generalizing a with
 | nil=>simp at b
 | cons e f c=>
  cases a with
  | zero=>
   simp at b;subst b;simp only[zY,QI,Nat.zero_mul,xX];rw[xW (by simp[Y3];omega)]
  | succ a=>
   simp at b;have:=c a b;simp only[zY,QI]at this |-;rw[vb (by simp[Y3];omega)];rw[<- this]
   congr 1
   simp[Y3];omega
def zu(xs):∀b∈zY xs,b.oneCell'=true:=by
 intro b c;simp only[zY,Y3,List.mem_flatMap,kS,List.not_mem_nil,or_false]at c;obtain⟨d,_,a | a | a⟩:=c<;>subst a<;>rfl
def Td(a)(y x)(b):(((zY (a++y::b)).set (a.length*3) (qC x.1)).set (a.length*3+1) (qC x.2.1)).set (a.length*3+2) (qC x.2.2)=zY (a++x::b):=by
 have d:∀c:Mk,zY (a++c::b)=zY a++([qC c.1,qC c.2.1,qC c.2.2]++zY b):=λc=>by simp[zY,Y3]
 have e:=zN a;rw[d,d];rw[kj _ _ qF,kj _ _ qF,kj _ _ qF,e];rw[kh,show a.length*3+1-a.length*3=1 by omega,show a.length*3+2-a.length*3=2 by omega];rfl
def Lb(a)(d:Mk)(c)(b):(zY (a++d::b)).set (a.length*3+1) (qC c)=zY (a++(d.1,c,d.2.2)::b):=by
 have e:∀c:Mk,zY (a++c::b)=zY a++([qC c.1,qC c.2.1,qC c.2.2]++zY b):=λc=>by simp[zY,Y3]
 have f:=zN a;rw[e,e,kj _ _ qF,f,show a.length*3+1-a.length*3=1 by omega];rfl
def Ww(a:qS)(b c:Nat)(d:Mk):Prop:=
 a.cell? (qP b c)=some (qC d.1)/\a.cell? (qP b (c+1))=some (qC d.2.1)/\a.cell? (qP b (c+2))=some (qC d.2.2)
def JA(i:Nat)(j:qS)(g:qT)(b:List Mk):Prop:=
 (∃h a,g= .slice h 0 a/\b= [])\/
 (∃c d a,g= .slice (qD c d) b.length a/\(0<b.length/\b.length<=a/\a<=maxLen)/\c<i/\∀e f,b[e]?=some f->Ww j c (d+e*3) f)
def JA.below{B B' w w' v xs}(b:JA B w v xs)(h:Below B' w w')(o:B<=B'):JA B w' v xs:=by
 rcases b with b | ⟨c,i,j,k,l,m,n⟩
 ·exact .inl b
 refine .inr ⟨c,i,j,k,l,m,λd e f=>?_⟩;have a:=λg=>h.cell (p:=(qP c g)) (by show c<B';omega)
 have:=n d e f;unfold Ww at this |-;rw[a,a,a];exact this
def JA.heap{B w w' v xs}(b:JA B w v xs)(h:w'.heap=w.heap):JA B w' v xs:=by
 rcases b with b | ⟨d,i,j,k,l,m,n⟩
 ·exact .inl b
 refine .inr ⟨d,i,j,k,l,m,λe f g=>?_⟩;have a:∀c,w'.cell? _=w.cell? (qP d c):=λc=>xq (by rw[h])
 have:=n e f g;unfold Ww at this |-;rw[a,a,a];exact this
def JA.mono{B B' w v xs}(a:JA B w v xs)(h:B<=B'):JA B' w v xs:=by
 rcases a with a | ⟨b,c,d,e,f,i,g⟩
 ·exact .inl a
 exact .inr ⟨b,c,d,e,f,qF,g⟩
def JA.val{B w v xs}(c:JA B w v xs):∃b a,v= .slice b xs.length a:=by
 rcases c with ⟨b,a,rfl,rfl⟩ | ⟨d,e,a,rfl,_⟩
 ·simp
 simp
def JA.at{B w v xs}(c:JA B w v xs)(g:xs≠ []):∃b d a,v= .slice (qD b d) xs.length a/\(0<xs.length/\xs.length<=a/\a<=maxLen)/\b<B/\∀e f,xs[e]?=some f->Ww w b (d+e*3) f:=by
 rcases c with ⟨h,a,rfl,rfl⟩ | c
 ·exact absurd rfl g
 exact c
def zS(b:qS)(c:Nat)(d:qT)(a:List Mk):Prop:=b.ownsRow c 166 3 d a.length (zY a)
def zS.rd{w base v xs}(e:zS w base v xs):JA w.heap.size w v xs:=by
 unfold zS at e;have i:=e.lt;rcases e.2 with ⟨g,z⟩ | ⟨c,q,A,g,r⟩
 ·left;simp_all
 obtain⟨B,s,t,u,C,x⟩:=r;subst g;have j:=(i c rfl).2;by_cases n:xs.length=0
 ·left;rw[n];simp_all
 right;refine⟨c,0,q,rfl,⟨qF,t,u⟩,j,λb f o=>?_⟩
 have y:b<xs.length:=by
  rcases vV b xs.length with h | h
  ·exact h
  simp_all
 have d:∀a,a<3->w.cell? (qP c (b*3+a))=(Y3 f)[a]?:=λa p=>by
  rw[xF w c _ _ _ _ s,<- yG xs b a f o p,<- x,vf,xS qF];simp
 have k:=d 0 qF;have l:=d 1 qF;have m:=d 2 qF;simp;exact⟨k,l,m⟩
def zS.below{w w' base B v xs}(a:zS w base v xs)(b:Below B w w')(c:w.heap.size<=B):zS w' base v xs:=zE a b c
def zS.base{w base base' v xs}(a:zS w base v xs)(b:base'<=base):zS w base' v xs:=zF a b
def zS.shape{w base v xs}(d:zS w base v xs):(v= .slice none 0 0/\xs= [])\/∃a b,v= .slice (qD a 0) xs.length b/\xs.length<=b/\b<=maxLen/\base<=a/\a<w.heap.size:=by
 rcases d.2 with ⟨c,e⟩ | ⟨a,b,h,c,e,i,f,g,_⟩
 ·simp_all
 exact .inr ⟨a,b,c,f,g,e,(d.lt a (by rw[c];rfl)).2⟩
def zS.cells{w base g cap xs}(e:zS w base (qM (qD g 0) xs.length cap) xs):∀a b,(zY xs)[a]?=some b->w.cell? (((qP g 0):Addr).add a)=some b:=by
 intro a b c;have d:=e.cellAt a (by have:=(xp.1 c).1;rw[zN]at this;omega);rw[Addr.add_lit,xX,d,c]
def zS.val{w base v xs}(c:zS w base v xs):∃a b,v= .slice a xs.length b:=c.rd.val
def Zj{w b off}{c:List Mk}(e:∀d a,c[d]?=some a->Ww w b (off+d*3) a){j}(f:j<c.length):∃a,c[j]?=some a/\Ww w b (off+j*3) a:=
 ⟨c[j],qH,e j _ qH⟩
def J7{a:qS}{base g cap n e xs}(b:a.ownsRow base e 3 (qM (qD g 0) n cap) n xs)(j)(d:j<n*3):∃c,a.cell? (qP g j)=some c:=by
 have f:=b.cellAt j d;have h:=b.1;refine⟨xs[j]'qF,?_⟩
 simp_all
def Xg{c:qS}{base e size v n xs}(d:c.ownsRow base e size v n xs):∀a,v.ownBlock=some a->base<=a:=λa b=>(d.lt a b).1
def Xh{d:qS}{base e size v n xs}(f:d.ownsRow base e size v n xs):∃b c a,v= .slice b c a:=by
 rcases f.2 with ⟨rfl,_⟩ | ⟨g,a,h,rfl,_⟩
 ·simp
 simp
def Tryz.qh:(prog.info? 166).map (λa=>(a.zero,a.size,a.bytes))=some (some (.agg #[qC 0,qC 0,qC 0]),3,24):=qI
def Fj(b:Int)(c:Nat):List Mk:=(List.range c).map λa:Nat=>(b+3*a,b+3*a+1,b+3*a+1+1)
def ZF(k0)(n):(Fj k0 n).length=n:=by simp[Fj]
def mmk_get{k0 n i}(a:i<n):(Fj k0 n)[i]?=some (k0+3*i,k0+3*i+1,k0+3*i+1+1):=by simp[Fj,a]
def mmk_set{k0 j}{a:List Mk}(c:j<a.length):(((zY (Fj k0 j++a.drop j)).set (j*3) (qC (k0+3*j))).set (j*3+1) (qC (k0+3*j+1))).set (j*3+2) (qC (k0+3*j+1+1))=zY (Fj k0 (j+1)++a.drop (j+1)):=by
 rw[vN c];have b:=Td (Fj k0 j) a[j] (k0+3*j,k0+3*j+1,k0+3*j+1+1) (a.drop (j+1));rw[ZF]at b;simp only at b;rw[b]
 congr 1
 simp[Fj,List.range_succ]
def zAw(c:qS)(d e:Nat)(b:qV):Prop:=∀a,a<b.length->c.cell? (qP d (e+a))=some (.int .i32 (b.getD a 0))
def zT(b:qS)(c:Nat)(d:qT)(a:qV):Prop:=b.ownsRow c 21 1 d a.length (zI .i32 a)
def Tryz.info32T:(prog.info? 21).map (λa=>(a.zero,a.size,a.bytes))=some (some (.int .i32 0),1,4):=qI
def Kf(a:qS):zT (a.alloc (qR #[] 21)) a.heap.size (qM (qD a.heap.size 0) 0 0) []:=by
 have:=kr (base:=a.heap.size) (e:=21) (size:=1) a #[] 0 qH (xK _) rfl;simpa[zT,zI]using this
def zX{w base v zs}(c:zT w base v zs):∃b a,v= .slice b zs.length a:=by
 rcases c.2 with ⟨rfl,d⟩ | ⟨e,a,f,rfl,_⟩
 ·simp_all
 simp
def zAw.app{w b o zs}(i:zAw w b o zs)(p l)(j:p+l<=zs.length):∀a d,(zI .i32 ((zs.drop p).take l))[a]?=some d->w.cell? (((qP b (o+p)):Addr).add a)=some d:=by
 intro a d c
 have g:a<l:=by
  rcases vV a l with f | f
  ·exact f
  rw[vW (by simp[zI];omega)]at c;cases c
 have h:((zs.drop p).take l)[a]?=some (zs.getD (p+a) 0):=by
  rw[vf,xS g,vJ];simp[xP,xw (show p+a<zs.length by omega)]
 simp only[zI,xZ,h,Option.map_some,xE]at c;subst c;have e:=i (p+a) qF;rw[<- Qa]at e;rw[yF];exact e
def Xi{w base g cap zs}(c:zT w base (qM (qD g 0) zs.length cap) zs):zAw w g 0 zs:=by
 intro a b;have:=c.cellAt a qF;rw[xX,this];simp[zI,xw b]
def Tryz.info8:(prog.info? 5).map (λa=>(a.zero,a.size,a.bytes))=some (some (.int .u8 0),1,1):=qI
def K8(e f:qS):Prop:=∀(b:Nat)(c)(a)(d),a≠5->e.heap[b]?=some (qR c a d)->f.heap[b]?=some (qR c a d)
def Xj(b:List UInt8):qV:=b.map λa=>a.toNat
def yi(l):(Xj l).length=l.length:=by simp[Xj]
def TD(b:qS)(c:Nat)(d:qT)(a:qV):Prop:=b.ownsRow c 5 1 d a.length (zI .u8 a)
def TD.rd{w base v zs}(a:TD w base v zs):Rd .u8 w v zs:=Rd.qa a
def Wx{w base v zs}(c:TD w base v zs):∃b a,v= .slice b zs.length a:=by
 rcases c.2 with ⟨rfl,d⟩ | ⟨e,a,f,g,_⟩
 ·simp_all
 simp_all
def ZX(a:Int):qV:=
 if a<0\/1114111<a\/(55296<=a/\a<=57343)then [239,191,189]
 else if a<128 then [a]
 else if a<2048 then [192+a/64,128+a%64]
 else if a<65536 then [224+a/4096,128+a/64%64,128+a%64]
 else [240+a/262144,128+a/4096%64,128+a/64%64,128+a%64]
def Zu{r}(a:r<0\/1114111<r\/(55296<=r/\r<=57343)):ZX r= [239,191,189]:=by
 unfold ZX;rw[xS a]
def Zv{r}(b:0<=r)(a:r<128):ZX r= [r]:=by
 unfold ZX;rw[xJ qF,xS a]
def ZY{r}(b:128<=r)(a:r<2048):ZX r= [192+r/64,128+r%64]:=by
 unfold ZX;rw[xJ qF,xJ qF,xS a]
def yP{r}(b:2048<=r)(a:r<65536)(c:r<55296\/57343<r):ZX r= [224+r/4096,128+r/64%64,128+r%64]:=by
 unfold ZX;rw[xJ qF,xJ qF,xJ qF,xS a]
def ZG{r}(a:65536<=r)(b:r<=1114111):ZX r= [240+r/262144,128+r/4096%64,128+r/64%64,128+r%64]:=by
 unfold ZX;rw[xJ qF,xJ qF,xJ qF,xJ qF]
def jY(a:Int):(a<0\/1114111<a\/(55296<=a/\a<=57343))\/(0<=a/\a<128)\/(128<=a/\a<2048)\/(2048<=a/\a<55296)\/(57343<a/\a<65536)\/(65536<=a/\a<=1114111):=qF
def Z0(r):1<=(ZX r).length/\(ZX r).length<=4:=by
 rcases jY r with a | a | a | a | a | a
 ·rw[Zu a];simp
 ·rw[Zv a.1 a.2];simp
 ·rw[ZY a.1 a.2];simp
 ·rw[yP a.1 qF (.inl a.2)];simp
 ·rw[yP qF a.2 (.inr a.1)];simp
 rw[ZG a.1 a.2];simp
def Tf(a:qV):qV:=a.flatMap ZX
structure Ob where
 c:Int
 x:Int
 y:Int
 t:qV
 m:List Mk
 l:Int
 n:Int
 u:Int
 r:Int
 o:Int
def zAy(a:Ob):Nat:=a.t.length+a.m.length
def Z8(a:List Ob):Nat:=a.length+(a.map zAy).sum
def J8(a)(bs):Z8 (a::bs)=1+zAy a+Z8 bs:=by simp[Z8];omega
def PT(b)(a):Z8 (b.take a)<=Z8 b:=by
 induction b generalizing a with
 | nil=>simp
 | cons d b c=>
  cases a with
  | zero=>simp[Z8]
  | succ a=>rw[vc,J8,J8];have:=c a;omega
def JJ{c:List Ob}{a b}(d:c[a]?=some b):Z8 (c.take (a+1))=Z8 (c.take a)+1+zAy b:=by
 induction c generalizing a with
 | nil=>simp at d
 | cons f c e=>
  cases a with
  | zero=>simp at d;subst d;simp[Z8]
  | succ a=>
   simp at d;rw[vc,vc,J8,J8,e d];omega
def J9{α:Type}{a:List α}{k x}(b:a[k]?=some x):a.take (k+1)=a.take k++ [x]:=by
 rw[vH,b];rfl
def Fk(a:Ob)(b c:qT):qU:=[qC a.c,qC a.x,qC a.y,b,c,qC a.l,qC a.n,qC a.u,qC a.r,qC a.o]
def UL(b:qS)(f g:Nat)(a:Ob):Prop:=
 ∃d e,(∀c,c<10->b.cell? (qP f (g+c))=(Fk a d e)[c]?)/\Rd .i32 b d a.t/\JA b.heap.size b e a.m/\a.t.length<=maxLen/\a.m.length<=maxLen
def UL.lt{w b o x}(a:UL w b o x):b<w.heap.size:=by
 obtain⟨d,e,c,_⟩:=a;exact vQ w _ (c 0 qF)
def UL.below{w w' b o x}(c:UL w b o x)(a:qY w w'):UL w' b o x:=by
 have d:=c.lt;obtain⟨g,h,i,ht,j,k,l⟩:=c;exact⟨g,h,λe f=>(a.cell d).trans (i e f),ht.below a,(j.below a lR).mono a.size,k,l⟩
def Tg(i:qS)(g:qT)(b:List Ob):Prop:=
 (∃h a,g= .slice h 0 a/\b= [])\/
 (∃c d a,g= .slice (qD c d) b.length a/\(0<b.length/\b.length<=a/\a<=maxLen)/\∀e f,b[e]?=some f->UL i c (d+e*10) f)
def Tg.below{w w' v xs}(a:Tg w v xs)(e:qY w w'):Tg w' v xs:=by
 rcases a with a | ⟨f,g,h,i,j,k⟩
 ·exact .inl a
 exact .inr ⟨f,g,h,i,j,λb c d=>(k b c d).below e⟩
def Tg.val{w v xs}(c:Tg w v xs):∃b a,v= .slice b xs.length a:=by
 rcases c with ⟨b,a,rfl,rfl⟩ | ⟨d,e,a,rfl,_⟩
 ·simp
 simp
def Tg.at{w v xs}(e:Tg w v xs){k x}(d:xs[k]?=some x):∃b c a,v= .slice (qD b c) xs.length a/\(xs.length<=a/\a<=maxLen)/\UL w b (c+k*10) x:=by
 rcases e with ⟨i,a,rfl,rfl⟩ | ⟨b,c,a,f,g,h⟩
 ·simp at d
 exact⟨b,c,a,f,g.2,h k x d⟩
def Ld{a:qS}{b:Nat}{o o'}(c:a.heap[b]?=some o):(a.alloc o').heap[b]?=some o:=(kL _ _ _ (qZ.1 c).1).trans c
def DX(a:qS)(b:Nat)(c:qU)(d:TypeId):Prop:=a.heap[b]?=some (qR c.toArray d (0,0))
section
variable {w w':World} {b i:Nat} {vs:List Value} {v:Value} {t:TypeId}
def DX.lt(a:DX w b vs t):b<w.heap.size:=(qZ.1 a).1
def DX.cell(a:DX w b vs t)(c:vs[i]?=some v):w.cell? (qP b i)=some v:=by
 rw[xF w b i _ _ _ a];simpa using c
def DX.fz(a:DX w b vs t)(i):w.frozen? (qP b i)=false:=xY w b i _ _ a
def DX.below(a:DX w b vs t)(c:qY w w'):DX w' b vs t:=(c.block b a.lt).trans a
def DX.set(a:DX w b vs t)(i)(v):DX (w.setCell (qP b i) v) b (vs.set i v) t:=by
 unfold DX;rw[xN w b i _ _ _ a];simp
def DX.other{p u}(a:DX w b vs t)(c:b≠p.block):DX (w.setCell p u) b vs t:=(xj _ _ _ _ c).trans a
def DX.new(a:qS)(vs)(t):DX (a.alloc (qR vs.toArray t)) a.heap.size vs t:=xI _ _
def DX.old(a:DX w b vs t)(o):DX (w.alloc o) b vs t:=Ld a
end
def UL.cells{w a o x}(j:UL w a o x):∃c d,(w.cell? (qP a o)=some (qC x.c)/\w.cell? (qP a (o+1))=some (qC x.x)/\w.cell? (qP a (o+2))=some (qC x.y)/\w.cell? (qP a (o+3))=some c/\w.cell? (qP a (o+4))=some d/\w.cell? (qP a (o+5))=some (qC x.l)/\w.cell? (qP a (o+6))=some (qC x.n)/\w.cell? (qP a (o+7))=some (qC x.u)/\w.cell? (qP a (o+8))=some (qC x.r)/\w.cell? (qP a (o+9))=some (qC x.o))/\(∃f g,c= .slice f x.t.length g)/\(∃h i,d= .slice h x.m.length i)/\Rd .i32 w c x.t/\JA w.heap.size w d x.m/\x.t.length<=maxLen/\x.m.length<=maxLen:=by
 obtain⟨c,d,b,ht,e,k,l⟩:=j;refine⟨c,d,⟨b 0 qF,b 1 qF,b 2 qF,b 3 qF,b 4 qF,b 5 qF,b 6 qF,b 7 qF,b 8 qF,b 9 qF⟩,?_,e.val,ht,e,k,l⟩;rcases ht with ⟨n,m,rfl,p⟩ | ⟨a,q,m,rfl,_⟩
 ·simp_all
 simp
def Xm(v lo hi)(w):Calls prog 92 #[qC v,qC lo,qC hi] w λd e=>d=qQ (.bool (decide (lo<=v/\v<=hi)))/\e=w:=by
 by_cases b:lo<=v
 ·by_cases c:v<=hi
  ·have a:decide (lo<=v/\v<=hi)=true:=by simp[b,c]
   rw[a];clear a;go_enter func92,ntmps92;go_wp2;go_ret;simp
  have a:decide (lo<=v/\v<=hi)=false:=(by simp[b,c]);rw[a];clear a;go_enter func92,ntmps92;go_wp2;go_ret;simp
 have a:decide (lo<=v/\v<=hi)=false:=by simp[b]
 rw[a];clear a;go_enter func92,ntmps92;go_wp2;go_ret;simp
def jH(ok:Bool)(a:Int):qT:=if ok then .nilIface else .iface 109 (qC a)
section
open Go.Sort Go.BigFrame
def Tn:prog.follows .mixedOrders=true:=qI
def jp{B w0 w}(a:Below B w0 w)(d:B<=w.heap.size)(n)(os):Below B w0 (grow (w.drewN n) os):=by
 refine⟨a.os,a.tape,a.output,vC a.size qH,λb c=>?_⟩;rw[<- a.block b c]
 show(w.heap++os)[b]? =w.heap[b]?
 rw[Qq qF]
def Ih(x y)(w):Calls prog 156 #[jX x,jX y] w λf g=>f=qQ (.bool (bef x y))/\∃h i,g=grow (w.drewN h) i:=by
 have b:=zC (show(w.alloc _).alloc _=grow (w.drewN 0) #[qR #[qC x.1,qC x.2.1,qC x.2.2] 166,qR #[qC y.1,qC y.2.1,qC y.2.2] 166]by rw[alloc_eq_grow,alloc_eq_grow,grow_grow];rfl);unfold jX bef;by_cases c:x.2.1<y.2.1
 ·rw[show decide _=true by simp[c]]
  go_enter func156,ntmps156;go_wp2;go_ret;exact⟨rfl,0,_,b⟩
 by_cases a:x.2.1=y.2.1
 ·have e:(x.2.1==y.2.1)=true:=by simpa using a
  by_cases d:x.1<y.1
  ·rw[show decide _=true by simp[a,d]]
   clear a;go_enter func156,ntmps156;go_wp2;go_ret;exact⟨rfl,0,_,b⟩
  rw[show decide _=false by simp[c,d]];clear a;go_enter func156,ntmps156;go_wp2;go_ret;exact⟨rfl,0,_,b⟩
 have e:(x.2.1==y.2.1)=false:=by simpa using a
 rw[show decide _=false by simp[c,a]];clear a;go_enter func156,ntmps156;go_wp2;go_ret;exact⟨rfl,0,_,b⟩
end
def jF(b c:Int)(a:Mk):Int:=if a.2.1 > b\/(a.2.1=b/\a.2.2=1)then a.2.1+c else a.2.1
def ZB(b c:Int)(a:Mk):Int:=if a.2.1 > b then max b (a.2.1-c)else a.2.1
def mov(b:Mk->Int)(a:Mk):Mk:=(a.1,b a,a.2.2)
def Xo(f)(a:List Mk)(k)(x)(b:a[k]?=some x):(zY ((a.take k).map (mov f)++a.drop k)).set (k*3+1) (qC (f x))=zY ((a.take (k+1)).map (mov f)++a.drop (k+1)):=by
 have d:=(xp.1 b).1
 have e:a.drop k=x::a.drop (k+1):=by
  rw[vN d];have:=xp.1 b;rw[this.2]
 have g:((a.take k).map (mov f)).length=k:=qJ
 have c:=Lb ((a.take k).map (mov f)) x (f x) (a.drop (k+1));rw[g]at c;rw[e,c,vH,b];simp[mov]
