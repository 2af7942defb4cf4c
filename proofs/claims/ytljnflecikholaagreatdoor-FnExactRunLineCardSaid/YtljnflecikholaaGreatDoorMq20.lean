import Derived.Test.YtljnflecikholaaGreatDoorMq19
import Derived.Test.YtljnflecikholaaGreatDoorMq17
set_option linter.all false
set_option maxRecDepth 100000
set_option maxHeartbeats 8000000
namespace Go.Proofs.YtljnflecikholaaGreatDoor
open Go Go.RowKit Go.Proofs.Tryz
noncomputable def jh (x:Gr) (p:Nat) (ts:List Int):Gr:=
 ⟨yU ((zK x).take p++(ts++(zK x).drop p)) (p+ts.length) (zy x.cells x.lo.toNat x.hi.toNat ts.length),((p+ts.length:Nat)),((p+(zy x.cells x.lo.toNat x.hi.toNat ts.length - (zK x).length):Nat))⟩
def delG(a:Gr)(b c:Nat):Gr:=⟨yU ((zK a).take b++(zK a).drop c) b a.cells.length,b,((c+(a.hi.toNat-a.lo.toNat):Nat))⟩
def Md{c b a}(u)(x)(e:c.length=b.length)(d:a<b.length):zU (c.set a u) (b.set a x)=(((zU c b).set (a*3) u).set (a*3+1) (qC x.lo)).set (a*3+2) (qC x.hi):=by
 induction a generalizing c b with
 | zero=>
  cases c with
  | nil=>rfl
  | cons f c=>
   cases b with
   | nil=>simp at d
   | cons g b=>simp[zU]
 | succ a h=>
  cases c with
  | nil=>rfl
  | cons f c=>
   cases b with
   | nil=>simp at d
   | cons g b=>
    simp only[vh]at e d;rw[show(a+1)*3=a*3+1+1+1 by omega,show a*3+1+1+1+1=(a*3+1)+1+1+1 by omega,show a*3+1+1+1+2=(a*3+2)+1+1+1 by omega];simp only[Qr,zU]
    simp_all
def Me{cur o m a b c}:(set3 cur o a b c).toList.take m=(((cur.toList.take m).set o a).set (o+1) b).set (o+2) c:=by
 unfold set3;simp only[Array.toList_setIfInBounds,List.take_set]
def Jm{α:Type}{d:List α}{i j a b}(e:(d.set i a)[j]?=some b):(j=i/\b=a)\/(j≠i/\d[j]?=some b):=by
 by_cases c:j=i
 ·subst c
  rw[List.getElem?_set_self']at e;cases hx:d[j]? with
  | none=>simp_all
  | some g=>simp_all
 rw[Qj (λf=>c f.symm)]at e;exact .inr ⟨c,e⟩
def yt.edit{w w1 lo hi g cap n i vs gs x u u' cur zs lo' hi'}
  (c:yt 100 w lo hi (qM (qD g 0) n cap) vs gs) (y:gs.length=n) (K:gs[i]?=some x) (z:vs[i]?=some u) (Z:hi<=w.heap.size)
  (L:w.heap[g]?=some (qR cur 100 (0,0))) (M:w1.heap[g]?=some (qR (set3 cur (i*3) u' (qC lo') (qC hi')) 100 (0,0)))
  (aa:jU w1 lo u' zs) (N:bel w1.heap.size u') (E:∀a,u'.ownBlock=some a->a<w.heap.size->u.ownBlock=some a)
  (F:zQ w w1 (λD=>D=g\/u.ownBlock=some D)):
  yt 100 w1 lo w1.heap.size (qM (qD g 0) n cap) (vs.set i u') (gs.set i ⟨zs,lo',hi'⟩):=by
 have G:=(xp.1 K).1;have X:=F.size;have Y:=c.bl g rfl
 have H:∀(f:Nat)b l,f≠i->vs[f]?=some b->jU w lo b l->jU w1 lo b l:=by
  intro f b l I h q;refine zD q (λa d=>F.block a (q.lt a d).2 (λm=>?_));rcases m with m | m
  ·exact zj q c.row qG d (by simp[Value.ownBlock,m])
  exact c.nest.ne i f u b a (λe=>I e.symm) z h m d
 refine⟨?_,λa d=>?_,⟨?_,?_,?_,?_⟩⟩
 ·have B:=c.row
  rw[y]at B;rcases B.2 with ⟨e,_⟩ | ⟨ab,ac,ad,e,p,j,O,P,Q,R⟩
  ·cases e
  simp at e;obtain⟨rfl,rfl⟩:=e;rw[L]at j;simp at j;subst j;rw[kC,y];refine⟨by rw[yx (by simp[c.len]),kC,y],.inr ⟨g,cap,_,rfl,p,M,O,P,by rw[yQ];exact Q,?_⟩⟩;rw[Me,R,Md u' _ c.len G]
 ·simp only[Value.ownBlock,xE]at d
  omega
 ·rw[kC,xO,kC];exact c.len
 ·intro f b l h C
  rw[List.map_set]at C;rcases Jm h with ⟨rfl,rfl⟩ | ⟨e,k⟩
  ·simp_all
  rcases Jm C with ⟨S,_⟩ | ⟨_,T⟩
  ·exact absurd S e
  exact H f b l e k (c.nest.own f b l k T)
 ·intro b h
  obtain⟨f,U⟩:=kH h;rcases Jm U with ⟨_,rfl⟩ | ⟨_,V⟩
  ·exact N
  exact yW (c.nest.bl b (xH V)) qF
 intro r s t b a v J h d o;rcases Jm J with ⟨rfl,rfl⟩ | ⟨ae,A⟩
 ·rcases Jm h with ⟨rfl,_⟩ | ⟨W,k⟩
  ·omega
  have p:=c.nest.bl b (xH k) a o;have j:=E a d qF;exact c.nest.ne r s u b a v z k j o
 rcases Jm h with ⟨rfl,rfl⟩ | ⟨W,k⟩
 ·have p:=c.nest.bl t (xH A) a d
  have j:=E a o qF;exact c.nest.ne r s t u a v A z d j
 exact c.nest.ne r s t b a v A k d o
def yt.gb{w lo hi g cap n i vs gs x u}(l:yt 100 w lo hi (qM (qD g 0) n cap) vs gs)(m:gs.length=n)(h:gs[i]?=some x)(o:vs[i]?=some u):
  ∃a,w.heap[g]?=some (qR a 100 (0,0))/\GB w g (i*3) a 100 u x.lo x.hi:=by
 have q:=(xp.1 h).1;have e:=l.row;rw[m]at e;rcases e.2 with ⟨c,_⟩ | ⟨r,s,a,c,t,j,v,y,z,p⟩
 ·cases c
 simp at c;obtain⟨rfl,rfl⟩:=c
 have d:∀b,b<3->a[i*3+b]? = [u,qC x.lo,qC x.hi][b]?:=by
  intro b k;have f:=ZV o h k;rw[<- p,vf,xS qF]at f;rw[<- f];simp
 exact⟨a,j,j,qF,d 0 qF,d 1 qF,d 2 qF⟩
def YB{a:Gr}(c:Kq a.cells a.lo a.hi):GV a.cells a.lo.toNat a.hi.toNat/\a.lo=a.lo.toNat/\a.hi=a.hi.toNat:=by
 obtain⟨⟨g,⟨h,i⟩,⟨j,k⟩,l⟩,d⟩:=c;refine⟨⟨qF,qF,λb e f=>d b qF qF,qF,qF⟩,qF,qF⟩
def Ua{a:Gr}{lo hi}(b:GV a.cells lo hi)(d:a.lo=lo)(e:a.hi=hi):Kq a.cells a.lo a.hi:=by
 have f:=b.a;have g:=b.b;have h:=b.c;have i:=b.t;rw[d,e];refine⟨⟨qF,⟨qF,qF⟩,⟨qF,qF⟩,qF⟩,λc j k=>b.z c qF qF⟩
def j7{x a b}(g:Kq x.cells x.lo x.hi)(m:a<=b)(n:b<=(zK x).length):Kq (delG x a b).cells (delG x a b).lo (delG x a b).hi/\zK (delG x a b)=(zK x).take a++(zK x).drop b:=by
 obtain⟨c,o,p⟩:=YB g;have h:(zK x).length=x.cells.length-(x.hi.toNat-x.lo.toNat):=zP c.a c.b;have i:=c.a;have j:=c.b;have e:=c.c;have k:=c.t;have l:((zK x).take a++(zK x).drop b).length=(zK x).length-(b-a):=by simp only[xg,xi,xz];omega
 have d:b+(x.hi.toNat-x.lo.toNat)=a+(x.cells.length-((zK x).take a++(zK x).drop b).length):=qF
 have f:GV (delG x a b).cells a (b+(x.hi.toNat-x.lo.toNat)):=by
  show GV (yU ((zK x).take a++(zK x).drop b) a x.cells.length) a (b+(x.hi.toNat-x.lo.toNat))
  rw[d];exact Yn qF qF e qF
 refine⟨Ua f rfl rfl,?_⟩
 show zW (yU _ a _) (Int.toNat a) (Int.toNat ((b+(x.hi.toNat-x.lo.toNat):Nat)))=_
 rw[kI,kI,d];exact Jc qF qF
def YD{x p ts}(e:Kq x.cells x.lo x.hi)(i:p<=(zK x).length)(f:(zK x).length+ts.length<=8192):Kq (jh x p ts).cells (jh x p ts).lo (jh x p ts).hi/\zK (jh x p ts)=(zK x).take p++(ts++(zK x).drop p):=by
 obtain⟨g,j,k⟩:=YB e;have b:=Jg g f;have c:(zW _ _ _).length=(zK x).length:=rfl;rw[c]at b;have h:((zK x).take p++(ts++(zK x).drop p)).length=(zK x).length+ts.length:=by simp only[xg,xi,xz];omega
 have a:p+(zy x.cells x.lo.toNat x.hi.toNat ts.length-(zK x).length)=(p+ts.length)+(zy x.cells x.lo.toNat x.hi.toNat ts.length-((zK x).take p++(ts++(zK x).drop p)).length):=qF
 have d:GV (jh x p ts).cells (p+ts.length) (p+(zy x.cells x.lo.toNat x.hi.toNat ts.length-(zK x).length)):=by
  show GV (yU ((zK x).take p++(ts++(zK x).drop p)) (p+ts.length) (zy x.cells x.lo.toNat x.hi.toNat ts.length)) _ _
  rw[a];exact Yn qF qF qF qF
 refine⟨Ua d rfl rfl,?_⟩
 show zW (yU _ _ _) (Int.toNat ((p+ts.length:Nat))) (Int.toNat ((p+(zy _ _ _ _-(zK x).length):Nat):Int))=_
 rw[kI,kI,a];exact Jc qF qF
def Ew{c:Program}{i:Array Oper}{a:Oper}{b:Act}{d:qS}{j:Act->qS->Prop}{t:Exit->Act->qS->Prop}{u:Prop}(v:a.guard=none)(k l:Operand)(e m:TypeId)
  (w:a.op= .call {callee:=.builtin .copy,args:=#[k,l],argTypes:=#[e,m]}) (f:TypeId) (x:c.underlying e=some (.slice f)) (y:(c.info? f).map (·.size)=some 1)
  (n o:qW) (g p h q:Nat) (z:b.eval k= .slice n g p) (A:b.eval l= .slice o h q) (B:Nat.min h g=0)
  (C:j (b.put a.dst (goInt 0)) d):
  if Region.wanted a (yielded i b.tmps)=true then Oper.wp c a b d j t else u:=by
 have r:Region.wanted a (yielded i b.tmps)=true:=by simp[Region.wanted,v]
 rw[xS r];have s:=run_copy_none (P:=c) d e m a.type f n o g p h q x y B;unfold Oper.wp;simp[execOp,w,resolve,invoke,builtin,z,A,s,Result.andThen];exact C
def IA{b w1:qS}{c d:Nat}{e:qX}{g:TypeId}(a:GB b c d e g qN 0 0)(h:w1.heap=b.heap)(q:w1.os=b.os)(ht:w1.tape=b.tape)(r:w1.output=b.output):
  jg b (w1.setCell (qP c (d+1)) (qC 0)) c d e g:=by
 have j:w1.heap[c]?=some (qR e g (0,0)):=by rw[h];exact a.blk
 have i:=xN w1 c (d+1) _ _ (qC 0) j;have f:=a.sz
 have k:e.setIfInBounds (d+1) (qC 0)=e:=by
  rw[<- a.self];apply jM (by simp[yQ]) a.sz
  ·rw[xC,xJ qF,yb _ _ _ _ _ _ f];simp
  ·rw[xC,xS rfl,xS (by rw[yQ];omega)]
  ·rw[xC,xJ qF,yb _ _ _ _ _ _ f];simp
  intro s l m n;rw[xC,xJ qF,yb _ _ _ _ _ _ f];simp[l,m,n]
 rw[k]at i;refine⟨⟨i,a.sz,a.c0,a.c1,a.c2⟩,q,ht,r,by simp[h],λo t p=>?_⟩;rw[zH (by show o≠c;exact p),h]
def Mf(d e:Nat)(i:qX)(j:TypeId)(o:qW)(p:Nat)(a:qS)(k:GB a d e i j qN 0 0):
  Calls prog 239 #[qO d e,qC 0,qM o 0 p] a λh n=>h=qQ (.tuple #[])/\jg a n d e i j:=by
 have HM:=zC (WT d e none 0 0 0 0 0 a (by simpa using k.gc) qF qF qF qF);have q:=zC k;have w:IntKind.i64.wrap 0=0:=by rw[vA];rfl
 clear k;go_enter func239,ntmps239;go_wp2_with fail;refine HM.mono ?_;rintro h g ⟨rfl,l,rfl⟩;have r:=zC (q.block (w':=a.drewN l) rfl);have b:=zC (show Alk a (a.drewN l)from⟨rfl,rfl,rfl,rfl⟩);clear HM;generalize a.drewN l=g at *;go_wp2_with fail;refine(Py d e i j g r).mono ?_;rintro h v ⟨rfl,f⟩;have m:=zC f;obtain⟨x,y,z⟩:=f.gb.gc;obtain⟨A,B,C⟩:=f.gb.gf;clear f;go_upto_region 2 with fail;go_region_law (refine Ew rfl (.tmp 29) (.tmp 30) 48 48 rfl 21 underlying48 yE none o 0 0 0 p rfl rfl rfl ?_)
 all_goals (
  go_wp2;go_end0;refine⟨rfl,?_⟩;have c:=m.trans (IA (w1:=v.drew) m.gb rfl rfl rfl rfl)
  exact⟨c.gb,⟨c.chg.os.trans b.os,c.chg.tape.trans b.tape,c.chg.output.trans b.output,by have:=c.chg.size;rw[b.out.heap]at this;exact this,λs t u=>(c.chg.block s (by rw[b.out.heap];exact t) u).trans (by rw[b.out.heap])⟩⟩)
def zQ.weak{w w' S T}(b:zQ w w' S)(f:∀a,S a->T a):zQ w w' T:=⟨b.os,b.tape,b.output,b.size,λa c d=>b.block a c (λe=>d (f a e))⟩
def Jn{w lo u zs}(c:jU w lo u zs):(u= .slice none 0 0/\zs= [])\/∃a b,u= .slice (qD a 0) zs.length b:=by
 rcases c.2 with ⟨d,e⟩ | ⟨a,b,f,d,_⟩
 ·simp_all
 simp_all
def Ub{w lo hi g cap n i a b vs gs x u}(l:yt 100 w lo hi (qM (qD g 0) n cap) vs gs)(B:gs.length=n)(p:gs[i]?=some x)(q:vs[i]?=some u)(H:hi<=w.heap.size)(j:Kq x.cells x.lo x.hi)(R:a<=b)(S:b<=(zK x).length):
  Calls prog 242 #[qO g (i*3),qC a,qC b] w λd e=>d=qQ (.tuple #[])/\∃G,yt 100 e lo e.heap.size (qM (qD g 0) n cap) (vs.set i G) (gs.set i (delG x a b))/\G.ownBlock=u.ownBlock/\zQ w e (λc=>c=g\/u.ownBlock=some c):=by
 obtain⟨m,I,J⟩:=YB j;have v:(zK x).length=x.cells.length-(x.hi.toNat-x.lo.toNat):=zP m.a m.b;obtain⟨K,L,r⟩:=l.gb B p q;have y:=l.nest.own i u _ q (by rw[xZ,p];rfl);have D:=m.b;have Y:=m.a;rcases Jn y with ⟨rfl,s⟩ | ⟨t,C,rfl⟩
 ·have o:x.lo.toNat=0/\x.hi.toNat=0:=by rw[s]at D;simp at D;omega
  have z:b=0:=(by have:(zK x).length=0:=(by rw[v,s];simp);omega);have N:a=0:=qF;subst z N;rw[I,J,o.1,o.2]at r;refine(Mb g _ K 100 w r).mono ?_;rintro d e ⟨rfl,f⟩
  have O:delG x 0 0=⟨[],0,0⟩:=by
   unfold delG;rw[o.1,o.2,s];have:zK x= []:=xL (by rw[v,s];simp);simp[yU,this]
  have h:=zQ.weak f.chg (T:=λc=>c=g\/(Value.slice none 0 0).ownBlock=some c) (λc j=>.inl j);refine⟨rfl,_,?_,rfl,h⟩;rw[O];refine l.edit B p q H L ?_ ⟨rfl,.inl ⟨rfl,rfl⟩⟩ (Xe _) (λA k=>by simp[Value.ownBlock]at k) h;rw[f.gb.self];exact f.gb.blk
 obtain⟨z,M,U,V,W,X⟩:=Rw.qa y;have P:g≠t:=λd=>zj y l.row qG rfl (by simp[Value.ownBlock,d])
 rw[I,J]at r;refine(removeG g _ t C K 100 _ V _ _ a b w r W P M m R qF).mono ?_;rintro d e ⟨rfl,f⟩;have h:=zQ.weak f.chg (T:=λc=>c=g\/(Value.slice (qD t 0) x.cells.length C).ownBlock=some c) (λc j=>by rcases j with d | d;exact .inl d;exact .inr (by simp[Value.ownBlock,d]))
 have E:(yU ((zW x.cells x.lo.toNat x.hi.toNat).take a++(zW x.cells x.lo.toNat x.hi.toNat).drop b) a x.cells.length).length=x.cells.length:=by
  have Z:(zW x.cells x.lo.toNat x.hi.toNat).length=x.cells.length-(x.hi.toNat-x.lo.toNat):=v;have aa:b<=(zW x.cells x.lo.toNat x.hi.toNat).length:=S;exact za qJ qJ
 have F:jU e lo (qM (qD t 0) x.cells.length C) (delG x a b).cells:=by
  have Q:=Et (base:=lo) f.rw E z M U X;unfold jU delG
  show e.ownsRow lo 21 1 _ (yU _ _ _).length _
  rw[show(yU ((zK x).take a++(zK x).drop b) a x.cells.length).length=x.cells.length from E];exact Q
 refine⟨rfl,_,l.edit B p q H L f.gb.blk F (λA k=>(F.lt A k).2) (λA k _=>k) h,rfl,h⟩
def Uc{w lo hi g cap n i p vs gs x u ts ap m cp}(l:yt 100 w lo hi (qM (qD g 0) n cap) vs gs)(G:gs.length=n)(B:gs[i]?=some x)(C:vs[i]?=some u)(O:hi<=w.heap.size)(F:Kq x.cells x.lo x.hi)(H:p<=(zK x).length)(j:m=ts.length)(P:(zK x).length+m<=8192)
  (Q:∀d,zQ w d (λc=>c=g\/u.ownBlock=some c)->Sl .i32 d (qM ap m cp) ts):
  Calls prog 239 #[qO g (i*3),qC p,qM ap m cp] w λb d=>b=qQ (.tuple #[])/\∃s,yt 100 d lo d.heap.size (qM (qD g 0) n cap) (vs.set i s) (gs.set i (jh x p ts))/\zQ w d (λc=>c=g\/u.ownBlock=some c)/\∀a,s.ownBlock=some a->u.ownBlock=some a\/w.heap.size<=a:=by
 obtain⟨o,R,S⟩:=YB F;have W:(zK x).length=x.cells.length-(x.hi.toNat-x.lo.toNat):=zP o.a o.b;obtain⟨q,U,k⟩:=l.gb G B C;have r:=l.nest.own i u _ C (by rw[xZ,B];rfl);have I:=o.b;have an:=o.a;have J:=k.sz;have ao:=k.lt;have aq:=(l.row.lt g rfl).1;have ar:=Jg o (n:=ts.length) (by rw[<- j];exact P);have X:(zW _ _ _).length=(zK x).length:=rfl
 have fin:∀(b:Ending)(d:qS),(b=qQ (.tuple #[])/\∃h t N,KI w d g (i*3) q 100 (yU ((zK x).take p++(ts++(zK x).drop p)) (p+m) (zy x.cells x.lo.toNat x.hi.toNat ts.length)) (zy x.cells x.lo.toNat x.hi.toNat ts.length) (λc=>c=g\/u.ownBlock=some c) (p+m) (p+(zy x.cells x.lo.toNat x.hi.toNat ts.length-(zK x).length)) h t N)->b=qQ (.tuple #[])/\∃s,yt 100 d lo d.heap.size (qM (qD g 0) n cap) (vs.set i s) (gs.set i (jh x p ts))/\zQ w d (λc=>c=g\/u.ownBlock=some c)/\∀a,s.ownBlock=some a->u.ownBlock=some a\/w.heap.size<=a:=by
  rintro b d ⟨rfl,h,t,N,e⟩
  have K:(yU ((zK x).take p++(ts++(zK x).drop p)) (p+m) (zy x.cells x.lo.toNat x.hi.toNat ts.length)).length=zy x.cells x.lo.toNat x.hi.toNat ts.length:=by
   refine za ?_ ?_<;>simp only[xg,xi,xz]<;>omega
  have Y:lo<=h:=by
   by_cases a:h<w.heap.size
   ·rcases e.low a with b | b
    ·omega
    exact(r.lt h b).1
   omega
  have Z:=Et (base:=lo) e.rw K Y e.cap.1 e.cap.2.1 e.cap.2.2;have aa:jh x p ts=⟨yU ((zK x).take p++(ts++(zK x).drop p)) (p+m) (zy x.cells x.lo.toNat x.hi.toNat ts.length),((p+m:Nat):Int),((p+(zy x.cells x.lo.toNat x.hi.toNat ts.length-(zK x).length):Nat):Int)⟩:=by unfold jh;rw[j]
  have L:jU d lo (qM (qD h 0) (zy x.cells x.lo.toNat x.hi.toNat ts.length) t) (yU ((zK x).take p++(ts++(zK x).drop p)) (p+m) (zy x.cells x.lo.toNat x.hi.toNat ts.length)):=by
   unfold jU;rw[K];exact Z
  have ab:∀a,(Value.slice (qD h 0) (zy x.cells x.lo.toNat x.hi.toNat ts.length) t).ownBlock=some a->u.ownBlock=some a\/w.heap.size<=a:=λa f=>by
   simp only[Value.ownBlock,xE]at f;subst f;rcases vV h w.heap.size with v | v
   ·rcases e.low v with b | b
    ·exact absurd b.symm e.ne
    exact .inl b
   exact .inr v
  refine⟨rfl,qM (qD h 0) (zy x.cells x.lo.toNat x.hi.toNat ts.length) t,?_,e.chg,ab⟩;rw[aa];refine l.edit G B C O U e.gb.blk L (λa f=>(L.lt a f).2) (λa f v=>?_) e.chg;simp only[Value.ownBlock,xE]at f;subst f;rcases e.low v with b | b
  ·exact absurd b.symm e.ne
  exact b
 rcases Jn r with ⟨rfl,y⟩ | ⟨D,V,rfl⟩
 ·have z:x.lo.toNat=0/\x.hi.toNat=0:=by rw[y]at I;simp at I;omega
  have A:=xL (by rw[W,y];simp);have ac:=(by rw[A]at H;simpa using H);subst ac;rw[R,S,z.1,z.2]at k;by_cases ah:m=0
  ·have ad:ts= []:=xL qF
   subst ah ad;refine(Mf g _ q 100 ap cp w k).mono ?_;rintro b d ⟨rfl,e⟩
   have ae:jh x 0 []=⟨[],0,0⟩:=by
    unfold jh;rw[z.1,z.2,y,A];simp[yU,zy]
   have M:=zQ.weak e.chg (T:=λc=>c=g\/(Value.slice none 0 0).ownBlock=some c) (λc F=>.inl F);refine⟨rfl,qN,?_,M,λa f=>by simp[Value.ownBlock]at f⟩;rw[ae];refine l.edit G B C O U ?_ ⟨rfl,.inl ⟨rfl,rfl⟩⟩ (Xe _) (λa f=>by simp[Value.ownBlock]at f) M;rw[e.gb.self];exact e.gb.blk
  have af:XJ m 16 (zy x.cells x.lo.toNat x.hi.toNat ts.length):=by
   rcases Jf x.cells x.lo.toNat x.hi.toNat ts.length with ⟨a,_⟩ | ⟨_,a⟩
   ·omega
   rw[X,A,<- j,y]at a;rw[<- j,y];simpa using a
  have HR:=zC (U8 g _ q 100 m _ (λc=>c=g\/(Value.slice none 0 0).ownBlock=some c) w k qF qF (.inl rfl) af);have E:=WU g _ q 100 [] ts ap m cp _ 0 _ w J j qH (by simp only[ke];omega) (.inl rfl) Q HR;refine E.mono (λb d a=>fin b d ?_);rw[A];exact a
 obtain⟨au,ai,aj,ak,al,am⟩:=Rw.qa r;have ag:g≠D:=λb=>zj r l.row qG rfl (by simp[Value.ownBlock,b])
 rw[R,S]at k;have HR:=zC (Mc g _ D V q 100 _ ak _ _ m _ (λc=>c=g\/(Value.slice (qD D 0) x.cells.length V).ownBlock=some c) w k al ag (r.lt D rfl).2 ai aj am o P (.inr rfl) (.inl rfl) (by rw[j];exact Jf _ _ _ _));have E:=WU g _ q 100 (zW _ _ _) ts ap m cp _ p _ w J j H qF (.inl rfl) Q HR;exact E.mono (λb d a=>fin b d a)
section
variable {w:World} {lo hi g cap n i:Nat} {vs:List Value} {gs:List Gr} {x:Gr} {u:Value}
def Jp(c:yt 100 w lo hi (qM (qD g 0) n cap) vs gs)(l:gs.length=n)(d:gs[i]?=some x)(e:vs[i]?=some u)(m:Kq x.cells x.lo x.hi):
  Calls prog 241 #[qO g (i*3)] w λj k=>j=qQ (qC ((zK x).length))/\∃n,k=w.drewN n:=by
 obtain⟨a,v,y⟩:=YB m;have f:(zK x).length=x.cells.length-(x.hi.toNat-x.lo.toNat):=zP a.a a.b;have r:=a.a;have s:=a.b;have t:=a.c;obtain⟨z,A,o⟩:=c.gb l d e;have h:=c.nest.own i u _ e (by rw[xZ,d];rfl);obtain⟨p,q,rfl⟩:=yw h;have b:=Jb g _ p _ q _ _ w o.gc qF qF qF qF;rw[show x.cells.length-(x.hi-x.lo)=((zK x).length)by rw[f];omega]at b;exact b
def Ha{a b}(r:yt 100 w lo hi (qM (qD g 0) n cap) vs gs)(H:gs.length=n)(s:gs[i]?=some x)(t:vs[i]?=some u)(I:Kq x.cells x.lo x.hi)(J:a<=b)(v:b<=(zK x).length):
  Calls prog 240 #[qO g (i*3),qC a,qC b] w λk f=>∃c,k=qQ c/\jU f w.heap.size c (((zK x).drop a).take (b-a))/\qY w f:=by
 obtain⟨e,y,z⟩:=YB I;have D:(zK x).length=x.cells.length-(x.hi.toNat-x.lo.toNat):=zP e.a e.b;have E:=e.a;have h:=e.b;have O:=e.c;obtain⟨P,Q,A⟩:=r.gb H s t;have j:=r.nest.own i u _ t (by rw[xZ,s];rfl);have F:(((zK x).drop a).take (b-a)).length=b-a:=by simp only[xi,xz];omega
 rcases Jn j with ⟨rfl,B⟩ | ⟨C,K,rfl⟩
 ·have o:x.lo.toNat=0/\x.hi.toNat=0:=by rw[B]at h;simp at h;omega
  have p:=xL (by rw[D,B];simp);have q:=(by rw[p]at v;simpa using v);have G:a=0:=qF;subst q G;have d:=A.gc;rw[y,z,o.1,o.2]at d;refine(readNil g _ w d).mono ?_;rintro k f ⟨c,rfl,l,m⟩;refine⟨c,rfl,?_,m⟩;rw[p];exact l
 obtain⟨q,L,M,R,N,S⟩:=Rw.qa j;have d:=A.gc;rw[y,z]at d;refine(readN g _ C K _ _ _ a b w d (Yc N) (j.lt C rfl).2 E h qF L M J qF).mono ?_;rintro k f ⟨c,rfl,l,m⟩;refine⟨c,rfl,?_,m⟩;unfold jU;rw[F];exact l
end
def FL{x a b}(d:Kq x.cells x.lo x.hi)(g:a<=b)(h:b<=(zK x).length):(delG x a b).cells.length=x.cells.length:=by
 obtain⟨c,i,j⟩:=YB d;have e:(zK x).length=x.cells.length-(x.hi.toNat-x.lo.toNat):=zP c.a c.b;have f:=c.b;exact za qJ qJ
def FM{x p ts}(c:Kq x.cells x.lo x.hi)(f:p<=(zK x).length)(d:(zK x).length+ts.length<=8192):(jh x p ts).cells.length=zy x.cells x.lo.toNat x.hi.toNat ts.length/\zy x.cells x.lo.toNat x.hi.toNat ts.length<=65536:=by
 obtain⟨e,g,h⟩:=YB c;have a:=Jg e d;have b:(zW _ _ _).length=(zK x).length:=rfl;rw[b]at a;exact⟨za qJ qJ,a.2⟩
def Sz(x)(lo)(u)(a b)(w)(l:jU w lo u x.cells)(g:Kq x.cells x.lo x.hi)(h:a<=b)(k:b<=(zK x).length):
  Calls prog 41 #[.agg #[u,qC x.lo,qC x.hi],qC a,qC b] w λj f=>∃d e,j=qQ (.agg #[qM d (delG x a b).cells.length e,qC (delG x a b).lo,qC (delG x a b).hi])/\jU f w.heap.size (qM d (delG x a b).cells.length e) (delG x a b).cells/\qY w f:=by
 obtain⟨c,m,n⟩:=YB g;have r:(zK x).length=x.cells.length-(x.hi.toNat-x.lo.toNat):=zP c.a c.b;have s:=c.a;have t:=c.b;have i:=Ls _ u _ _ a b w (Gs.qa l) c h qF;rw[<- m,<- n]at i;rw[FL g h k];refine i.mono ?_;rintro j f ⟨d,e,o,p,q⟩;refine⟨d,e,o,?_,q⟩;unfold jU;rw[FL g h k];exact p
def zA0(x)(lo)(u)(p)(ts)(ap)(mt cp)(w)(j:jU w lo u x.cells)(e:Kq x.cells x.lo x.hi)(k:mt=ts.length)(l:Sl .i32 w (qM ap mt cp) ts)(h:p<=(zK x).length)(i:(zK x).length+ts.length<=8192):
  Calls prog 39 #[.agg #[u,qC x.lo,qC x.hi],qC p,qM ap mt cp] w λg d=>∃b c,g=qQ (.agg #[qM b (jh x p ts).cells.length c,qC (jh x p ts).lo,qC (jh x p ts).hi])/\jU d w.heap.size (qM b (jh x p ts).cells.length c) (jh x p ts).cells/\qY w d:=by
 obtain⟨a,m,n⟩:=YB e;have s:(zK x).length=x.cells.length-(x.hi.toNat-x.lo.toNat):=zP a.a a.b;have t:=a.a;have v:=a.b;subst k;have f:=Lt _ ts u _ _ p ap _ cp w (Gs.qa j) a rfl l qF qF;rw[<- m,<- n]at f;rw[(FM e h i).1];refine f.mono ?_;rintro g d ⟨b,c,o,q,r⟩;refine⟨b,c,o,?_,r⟩;unfold jU;rw[(FM e h i).1];exact q
def II(x)(lo)(u)(w)(h:jU w lo u x.cells)(i:Kq x.cells x.lo x.hi):
  Calls prog 40 #[.agg #[u,qC x.lo,qC x.hi]] w λf c=>∃b a,f=qQ (qM (qD b 0) (zK x).length a)/\c.ownsRow w.heap.size 21 1 (qM (qD b 0) (zK x).length a) (zK x).length (zI .i32 (zK x))/\((zK x).length<=a/\a<=maxLen)/\qY w c:=by
 obtain⟨j,k,l⟩:=YB i;have e:=UP _ u _ _ w (Gs.qa h) j;rw[<- k,<- l]at e;refine e.mono ?_;rintro f c ⟨r,m,n,d,o⟩;obtain⟨b,a,g,_,_,p,q,_⟩:=ZK d n;exact⟨b,a,by rw[m,g];rfl,by rw[g]at d;exact d,⟨p,q⟩,o⟩
