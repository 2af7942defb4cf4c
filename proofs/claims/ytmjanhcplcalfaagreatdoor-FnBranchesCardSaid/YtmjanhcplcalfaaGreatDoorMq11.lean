import Derived.Test.YtmjanhcplcalfaaGreatDoorMq10
import Derived.Test.YtmjanhcplcalfaaGreatDoorMq06
set_option linter.all false
set_option maxRecDepth 100000
set_option maxHeartbeats 8000000
namespace Go.Proofs.YtmjanhcplcalfaaGreatDoor
open Go Go.RowKit Go.Shelf Go.Proofs.Tryz
attribute [local go_sem] kU
theorem IsT.more {e:Nat} {a:World} {p:Option Addr} {l:AT} {q:Pc} {r:AT} (j:IsT e a p (.node l q r)):∃b g h base bl,p=some ⟨b,0,none⟩∧b<e∧a.cell? ⟨b,0,none⟩=some (qJ q.off)∧a.cell? ⟨b,1,none⟩=some (qJ q.len)∧a.cell? ⟨b,2,none⟩=some (qJ q.brk)∧
  a.cell? ⟨b,3,none⟩=some (.pointer g)∧a.cell? ⟨b,4,none⟩=some (.pointer h)∧a.cell? ⟨b,7,none⟩=some (qJ (AT.node l q r).rns)∧Lies a base l g bl∧(∀x∈bl,x<e)∧IsT e a g l∧IsT e a h r:=by
 obtain⟨base,bs,⟨b,k,m,bl,br,rfl,o,c,i,n,rfl⟩,f⟩:=j;exact⟨b,k,m,base,bl,rfl,f b (by simp),c.c0,c.c1,c.c2,c.c3,c.c4,c.c7,i,fun x d=>f x (by simp [d]),⟨base,bl,i,fun x d=>f x (by simp [d])⟩,⟨base,br,n,fun x d=>f x (by simp [d])⟩⟩
theorem zC4 (Q:Int×Pc->Prop) (lo hi:Int) (ck:0<=lo∧lo<=8192) (cl:0<=hi∧hi<=8192) (l M be:Nat) (H bf:List (Int×Pc)->World->Prop)
  (b6:∀r g d,H r g->Below g.heap.size g d->H r d)
  (ay:∀m r (y:Int×Pc) g,H r g->r.length<be->Q y->YieldAt Fence.wide m prog l #[qJ y.1,.agg #[qJ y.2.off,qJ y.2.len,qJ y.2.brk]] g fun e d=>
   (e= .returned (.bool true)∧H (r++ [y]) d∧Below M g d)∨(e= .returned (.bool false)∧bf (r++ [y]) d)) (T:AT):
  ∀ (n:Nat) (p:Option Addr) (s:Int) (r:List (Int×Pc)) (g:World),IsT M g p T->T.ok->0<=s->s+T.rns<=8192->H r g->r.length+T.its<=be->(∀y∈acr lo hi T s,Q y)->M<=g.heap.size->
   CallsIn Fence.wide n prog 189 #[.pointer p,qJ s,qJ lo,qJ hi,.func (.yield l) #[] #[]] g fun e d=>
    (e= .returned (.bool true)∧H (r++acr lo hi T s) d∧Below M g d)∨(e= .returned (.bool false)∧∃q,q<+:acr lo hi T s∧bf (r++q) d):=by
 induction T with
 | nil=>
  intro n p s r g ht _ bd b1 Y _ _ _;obtain⟨base,bs,⟨rfl,rfl⟩,_⟩:=ht;refine ke func189 rfl xn ?_ rfl;simp only [ntmps189,vq,xe,xK,Nat.reduceAdd,Nat.reduceSub,vh,vk,vv,vm,xH,xv];gi_wp2_with fail;go_ret;exact .inl ⟨rfl,by simpa [acr]using Y,qO _ _⟩
 | node a v G br an=>
  intro n p s r g ht O bd b1 Y b2 Z L;obtain⟨b,bg,bh,base,bl,rfl,A,ah,ai,aj,ak,al,a0,bi,b7,b8,bj⟩:=ht.more;have ca:=O.left.bd;have cb:=O.right.bd;have cc:=O.piece;have bt:(AT.node a v G).rns=a.rns+v.len+G.rns:=rfl;have a2:=O.left;have a3:=O.right;have cd:s+a.rns+v.len+G.rns<=8192∧s+a.rns<=8192:=(by omega);generalize b4:(AT.node a v G).rns=ax at *
  have ce:IntKind.i64.wrap (s+ax)=s+ax:=(by rw [kQ];omega);have bu:=zAr lo hi a s;have cf:(acr lo hi a s).length<=a.its:=bu;have o:=qG (show acr lo hi (AT.node a v G) s=(if hi<=s∨s+(AT.node a v G).rns<=lo then []else acr lo hi a s++((if s+a.rns<hi∧lo<s+a.rns+v.len then [(s+a.rns,v)]else [])++acr lo hi G (s+a.rns+v.len)))from rfl);rw [b4]at o;generalize acr lo hi (AT.node a v G) s=cj at o Z |-;simp only [AT.its]at b2;by_cases b3:hi<=s
  ·rw [xd (.inl b3)]at o
   refine ke func189 rfl xn ?_ rfl;simp only [ntmps189,vq,xe,xK,Nat.reduceAdd,Nat.reduceSub,vh,vk,vv,vm,xH,xv];gi_wp2_with fail;go_ret;exact .inl ⟨rfl,by rw [o.out];simpa using Y,qO _ _⟩
  by_cases k2:s+ax<=lo
  ·rw [xd (.inr k2)]at o
   have bv:¬s>=hi:=(by omega);refine ke func189 rfl xn ?_ rfl;simp only [ntmps189,vq,xe,xK,Nat.reduceAdd,Nat.reduceSub,vh,vk,vv,vm,xH,xv];gi_wp2_with fail;go_ret;exact .inl ⟨rfl,by rw [o.out];simpa using Y,qO _ _⟩
  rw [qZ (by omega)]at o;have bv:¬s>=hi:=(by omega);have a4:∀y∈acr lo hi a s,Q y:=fun y am=>Z y (by rw [o.out];simp [am])
  have a5:∀y∈acr lo hi G (s+a.rns+v.len),Q y:=fun y am=>Z y (by rw [o.out];simp [am])
  have a6:(s+a.rns<hi∧lo<s+a.rns+v.len)->Q (s+a.rns,v):=fun C=>Z _ (by rw [o.out,xd C];simp)
  clear Z;have a7:=qG a5;have bw:=qG a6;have cg:=Tryz.qF;have ch:=Tryz.fld1;have ao:=qG (fun d (D:Below M g d)=>allN a bg bl base d (bi.frame fun x b5=>D.block x (b7 x b5)));have ap:=qG (fun d=>pRunes v d);have N:=qG (fun d (D:Below g.heap.size g d)=>br (n - 1) bg s r d (b8.below (D.mono L)) a2 bd (by omega) (b6 r g d Y D) (by omega) a4 (vK L D.size));have F:=qG (And.intro ah (And.intro ai (And.intro aj (And.intro ak al))));clear a5 a6 bi a4 O a2 bt br;have B:b<g.heap.size:=(by omega);by_cases C:s+a.rns<hi∧lo<s+a.rns+v.len
  ·rw [xd C]at o
   have a8:=C.1;have bx:=C.2;have bz:=qG (fun d (c:H (r++acr lo hi a s) d)=>ay (n - 1) (r++acr lo hi a s) (s+a.rns,v) d c (by rw [qM];omega) (bw.out C));have ag:=qG (fun d (D:Below M g d) (az:H (r++acr lo hi a s++ [(s+a.rns,v)]) d)=>an (n - 1) bh (s+a.rns+v.len) (r++acr lo hi a s++ [(s+a.rns,v)]) d (bj.below D) a3 (by omega) (by omega) az (by simp only [qM,xe,xK];omega) a7.out (vK L D.size));clear an ay C;refine ke func189 rfl xn ?_ rfl;simp only [ntmps189,vq,xe,xK,Nat.reduceAdd,Nat.reduceSub,vh,vk,vv,vm,xH,xv]
   gi_wp2_with (first
    | (refine⟨xn,fun c=>(by cases c),?_⟩;refine(xf.2 (ao.out g (qO _ _))).mono ?_;rintro e bk ⟨rfl,u⟩;have P:=qG u;have R:=u.size;obtain⟨h,i,j,t,k⟩:=F.out;have S:=(u.cell (p:=⟨b,0,none⟩) B).trans h;have U:=(u.cell (p:=⟨b,1,none⟩) B).trans i;have V:=(u.cell (p:=⟨b,2,none⟩) B).trans j;clear u h i j t k ah ai aj ak al a0;simp only [cnt])
    | (refine⟨xn,fun c=>(by cases c),?_⟩;refine(xf.2 (ap.out _)).mono ?_;rintro e bm ⟨rfl,I⟩;have z:=qG (P.out.trans (I.mono R));have a9:=z.out.size;obtain⟨h,i,j,t,k⟩:=F.out;have W:=(z.out.cell (p:=⟨b,3,none⟩) B).trans t;clear I h i j t k S U V)
    | (refine⟨xn,fun c=>(by cases c),?_⟩;refine(N.out _ z.out).mono ?_;clear N;rintro e a1 (⟨rfl,J,K⟩ | ⟨rfl,q,E,aa⟩);rotate_left;skip;rotate_left;have w:=qG ((z.out.mono L).trans K);have X:=qG J;obtain⟨h,i,j,t,k⟩:=F.out;have aq:=(w.out.cell (p:=⟨b,0,none⟩) A).trans h;have ar:=(w.out.cell (p:=⟨b,1,none⟩) A).trans i;have au:=(w.out.cell (p:=⟨b,2,none⟩) A).trans j;have av:=(w.out.cell (p:=⟨b,4,none⟩) A).trans k;clear K J h i j t k W;obtain⟨cm,tmps,cn,co,am,bn⟩:=bz.out a1 X.out;have ba:=qG bn;clear bn)
    | ((try refine⟨xn,?_⟩);(try refine⟨fun c=>(by cases c),?_⟩);refine ba.out.mono ?_;clear ba;rintro e cp (⟨rfl,bo,bp⟩ | ⟨rfl,b9⟩);rotate_left;skip;rotate_left;have aw:=qG (w.out.trans bp);have b0:=qG bo;obtain⟨h,i,j,t,k⟩:=F.out;have ci:=(aw.out.cell (p:=⟨b,4,none⟩) A).trans k;clear bp bo h i j t k aq ar au av)
    | (refine⟨xn,fun c=>(by cases c),?_⟩;refine(ag.out _ aw.out b0.out).mono ?_;rintro e bq (⟨rfl,ab,ac⟩ | ⟨rfl,q,E,ad⟩)))
   all_goals first
    | (go_ret;exact .inl ⟨rfl,by rw [o.out];simpa [xj]using ab,aw.out.trans ac⟩)
    | (go_ret;obtain⟨ae,af⟩:=E;exact .inr ⟨rfl,acr lo hi a s++((s+a.rns,v)::q),⟨ae,by rw [o.out];simp [<- af]⟩,by simpa [xj]using ad⟩)
    | (go_ret;exact .inr ⟨rfl,acr lo hi a s++ [(s+a.rns,v)],⟨acr lo hi G (s+a.rns+v.len),by rw [o.out];simp⟩,by simpa [xj]using b9⟩)
    | (go_ret;exact .inr ⟨rfl,q,E.trans (by rw [o.out];simp),aa⟩)
    | done
  rw [qZ C,xH]at o;have ag:=qG (fun d (D:Below M g d) (az:H (r++acr lo hi a s) d)=>an (n - 1) bh (s+a.rns+v.len) (r++acr lo hi a s) d (bj.below D) a3 (by omega) (by omega) az (by simp only [qM];omega) a7.out (vK L D.size));clear an ay;have bc:∀f:FuncId,(none:Option FuncId)=some f->Fence.wide.fn f:=fun f c=>by cases c
  by_cases a8:s+a.rns<hi
  ·have bx:¬lo<s+a.rns+v.len:=fun c=>C ⟨a8,c⟩
   clear C;refine ke func189 rfl xn ?_ rfl;simp only [ntmps189,vq,xe,xK,Nat.reduceAdd,Nat.reduceSub,vh,vk,vv,vm,xH,xv]
   gi_wp2_with (first
   | (refine⟨xn,fun c=>(by cases c),?_⟩;refine(xf.2 (ao.out g (qO _ _))).mono ?_;rintro e bk ⟨rfl,u⟩;have P:=qG u;have R:=u.size;obtain⟨h,i,j,t,k⟩:=F.out;have S:=(u.cell (p:=⟨b,0,none⟩) B).trans h;have U:=(u.cell (p:=⟨b,1,none⟩) B).trans i;have V:=(u.cell (p:=⟨b,2,none⟩) B).trans j;clear u h i j t k ah ai aj ak al a0;simp only [cnt])
   | (refine⟨xn,fun c=>(by cases c),?_⟩;refine(xf.2 (ap.out _)).mono ?_;rintro e bm ⟨rfl,I⟩;have z:=qG (P.out.trans (I.mono R));have a9:=z.out.size;obtain⟨h,i,j,t,k⟩:=F.out;have W:=(z.out.cell (p:=⟨b,3,none⟩) B).trans t;clear I h i j t k S U V)
   | (refine⟨xn,fun c=>(by cases c),?_⟩;refine(N.out _ z.out).mono ?_;clear N;rintro e a1 (⟨rfl,J,K⟩ | ⟨rfl,q,E,aa⟩);rotate_left;skip;rotate_left;have w:=qG ((z.out.mono L).trans K);have X:=qG J;obtain⟨h,i,j,t,k⟩:=F.out;have aq:=(w.out.cell (p:=⟨b,0,none⟩) A).trans h;have ar:=(w.out.cell (p:=⟨b,1,none⟩) A).trans i;have au:=(w.out.cell (p:=⟨b,2,none⟩) A).trans j;have av:=(w.out.cell (p:=⟨b,4,none⟩) A).trans k;clear K J h i j t k W)
    | fail)
   all_goals first
    | (go_ret;exact .inr ⟨rfl,q,E.trans (by rw [o.out];simp),aa⟩)
    | skip
   refine⟨bc,?_⟩;gi_wp2_with (refine⟨xn,fun c=>(by cases c),?_⟩;refine(ag.out _ w.out X.out).mono ?_;rintro e bq (⟨rfl,ab,ac⟩ | ⟨rfl,q,E,ad⟩))
   all_goals first
    | (go_ret;exact .inl ⟨rfl,by rw [o.out];simpa [xj]using ab,w.out.trans ac⟩)
    | (go_ret;obtain⟨ae,af⟩:=E;exact .inr ⟨rfl,acr lo hi a s++q,⟨ae,by rw [o.out];simp [<- af]⟩,by simpa [xj]using ad⟩)
    | done
  clear C;refine ke func189 rfl xn ?_ rfl;simp only [ntmps189,vq,xe,xK,Nat.reduceAdd,Nat.reduceSub,vh,vk,vv,vm,xH,xv]
  gi_wp2_with (first
  | (refine⟨xn,fun c=>(by cases c),?_⟩;refine(xf.2 (ao.out g (qO _ _))).mono ?_;rintro e bk ⟨rfl,u⟩;have P:=qG u;have R:=u.size;obtain⟨h,i,j,t,k⟩:=F.out;have S:=(u.cell (p:=⟨b,0,none⟩) B).trans h;have U:=(u.cell (p:=⟨b,1,none⟩) B).trans i;have V:=(u.cell (p:=⟨b,2,none⟩) B).trans j;clear u h i j t k ah ai aj ak al a0;simp only [cnt])
  | (refine⟨xn,fun c=>(by cases c),?_⟩;refine(xf.2 (ap.out _)).mono ?_;rintro e bm ⟨rfl,I⟩;have z:=qG (P.out.trans (I.mono R));have a9:=z.out.size;obtain⟨h,i,j,t,k⟩:=F.out;have W:=(z.out.cell (p:=⟨b,3,none⟩) B).trans t;clear I h i j t k S U V)
  | (refine⟨xn,fun c=>(by cases c),?_⟩;refine(N.out _ z.out).mono ?_;clear N;rintro e a1 (⟨rfl,J,K⟩ | ⟨rfl,q,E,aa⟩);rotate_left;skip;rotate_left;have w:=qG ((z.out.mono L).trans K);have X:=qG J;obtain⟨h,i,j,t,k⟩:=F.out;have aq:=(w.out.cell (p:=⟨b,0,none⟩) A).trans h;have ar:=(w.out.cell (p:=⟨b,1,none⟩) A).trans i;have au:=(w.out.cell (p:=⟨b,2,none⟩) A).trans j;have av:=(w.out.cell (p:=⟨b,4,none⟩) A).trans k;clear K J h i j t k W)
   | fail)
  all_goals first
   | (go_ret;exact .inr ⟨rfl,q,E.trans (by rw [o.out];simp),aa⟩)
   | skip
  refine⟨bc,?_⟩;gi_wp2_with (refine⟨xn,fun c=>(by cases c),?_⟩;refine(ag.out _ w.out X.out).mono ?_;rintro e bq (⟨rfl,ab,ac⟩ | ⟨rfl,q,E,ad⟩))
  all_goals first
   | (go_ret;exact .inl ⟨rfl,by rw [o.out];simpa [xj]using ab,w.out.trans ac⟩)
   | (go_ret;obtain⟨ae,af⟩:=E;exact .inr ⟨rfl,acr lo hi a s++q,⟨ae,by rw [o.out];simp [<- af]⟩,by simpa [xj]using ad⟩)
   | done
theorem zDf (Q:Int×Pc->Prop) (lo hi:Int) (E:0<=lo∧lo<=8192) (F:0<=hi∧hi<=8192) (n:Nat) (l u w z h:Nat) (r:Option Addr) (T:AT) (A:T.ok) (G:∀y∈acr lo hi T 0,Q y) (d s:List {y:Int×Pc //Q y}->World->Prop) (H:∀b a c,d b a->Below a.heap.size a c->d b c)
  (I:∀b (y:{y:Int×Pc //Q y}) a,d b a->b.length<T.its->YieldAt Fence.wide (n - 1) prog l #[qJ y.1.1,.agg #[qJ y.1.2.off,qJ y.1.2.len,qJ y.1.2.brk]] a fun e c=>
   (e= .returned (.bool true)∧d (b++ [y]) c∧Below h a c)∨(e= .returned (.bool false)∧s (b++ [y]) c))
  (a:World) (P:a.cell? ⟨u,0,none⟩=some (.pointer r)) (R:a.cell? ⟨w,0,none⟩=some (qJ lo)) (S:a.cell? ⟨z,0,none⟩=some (qJ hi)) (J:IsT h a r T) (K:h<=a.heap.size) (L:d [] a):
  CallsIn Fence.wide n prog 188 #[.func (.yield l) #[] #[],.pointer (qK u 0),.pointer (qK w 0),.pointer (qK z 0)] a fun e c=>(∃v,e= .returned v)∧
   ((∃ys:List {y:Int×Pc //Q y},ys.map (·.1)=acr lo hi T 0∧d ys c)∨(∃b:List {y:Int×Pc //Q y},b.map (·.1)<+:acr lo hi T 0∧s b c)):=by
 have O:=A.bd
 have f:=zC4 Q lo hi E F l h T.its (fun b a=>∃p:List {y:Int×Pc //Q y},p.map (·.1)=b∧d p a) (fun b a=>∃p:List {y:Int×Pc //Q y},p.map (·.1)=b∧s p a) (fun b a c ⟨p,f,g⟩ B=>⟨p,f,H p a c g B⟩) (fun m b x a g C i=>by
   obtain⟨p,f,g⟩:=g;subst f
   refine Zm rfl m (YieldAt.mono (I p ⟨x,i⟩ a g (by simpa using C)) fun e c j=>j.elim (fun⟨k,o,D⟩=>.inl ⟨k,⟨_,by simp,o⟩,D⟩) (fun⟨k,o⟩=>.inr ⟨k,⟨_,by simp,o⟩⟩))) T (n - 1) r 0 [] a J A (by omega) (by omega) ⟨[],rfl,L⟩ (by simp) G K
 refine ke func188 rfl xn ?_ rfl;simp only [ntmps188,vq,xe,xK,Nat.reduceAdd,Nat.reduceSub,vh,vk,vv,vm,xH,xv];gi_wp2_with (refine⟨xn,fun j=>(by cases j),?_⟩;refine f.mono ?_;clear f;rintro e U (⟨rfl,⟨ys,t,M⟩,_⟩ | ⟨rfl,q,i,ys,t,N⟩))
 ·go_end0
  exact⟨⟨_,rfl⟩,.inl ⟨ys,by simpa using t,M⟩⟩
 go_end0;exact⟨⟨_,rfl⟩,.inr ⟨ys,by rw [t];simpa using i,N⟩⟩
theorem zAs (Q:Int×Pc->Prop) (lo hi:Int) (z:0<=lo∧lo<=8192) (C:0<=hi∧hi<=8192) (n:Nat) (c d f g:Nat) (i:Option Addr) (T:AT) (D:T.ok) (E:∀y∈acr lo hi T 0,Q y) (w:World) (F:c<w.heap.size) (G:d<w.heap.size) (H:f<w.heap.size) (j:g<=w.heap.size)
  (I:w.cell? ⟨c,0,none⟩=some (.pointer i)) (J:w.cell? ⟨d,0,none⟩=some (qJ lo)) (K:w.cell? ⟨f,0,none⟩=some (qJ hi)) (L:IsT g w i T):
  SeqStopsK Fence.wide n prog 188 #[.pointer (qK c 0),.pointer (qK d 0),.pointer (qK f 0)] (fun y:{y:Int×Pc //Q y}=>#[Value.int .i64 y.1.1,.agg #[qJ y.1.2.off,qJ y.1.2.len,qJ y.1.2.brk]]) (Below g) (fun ys=>ys.map (·.1)=acr lo hi T 0) (fun h=>h.map (·.1)<+:acr lo hi T 0) T.its w:=fun l m o q a s _ t u=>
 zDf Q lo hi z C n l c d f g i T D E m o (fun h A B v b=>s h A B none v ⟨b.os,b.tape,b.output,b.size,fun k x _=>b.block k x⟩ (fun r e=>by cases e)) t q ((a.cell (p:=⟨c,0,none⟩) F).trans I) ((a.cell (p:=⟨d,0,none⟩) G).trans J) ((a.cell (p:=⟨f,0,none⟩) H).trans K) (L.below (a.mono j)) (vK j a.size) u
theorem zG6 (n:Nat) (a:Option Addr) (lo hi:Int) (w:World):
  CallsIn Fence.wide n prog 179 #[.pointer a,qJ lo,qJ hi] w fun e w'=>e= .returned (.func (.func 188) #[] #[.pointer (qK w.heap.size 0),.pointer (qK (w.heap.size+1) 0),.pointer (qK (w.heap.size+1+1) 0)])∧w'=((w.alloc (.cells #[.pointer a] 127)).alloc (.cells #[qJ lo] 3)).alloc (.cells #[qJ hi] 3):=by
 refine ke func179 rfl xn ?_ rfl;simp only [ntmps179,vq,xe,xK,Nat.reduceAdd,Nat.reduceSub,vh,vk,vv,vm,xH,xv];gi_wp2;go_ret;exact⟨rfl,rfl⟩
end Go.Proofs.YtmjanhcplcalfaaGreatDoor
namespace Go.Proofs.YtmjanhcplcalfaaGreatDoor
open Go Go.RowKit Go.Shelf Go.Sort Go.Proofs.Tryz
attribute [local go_sem] kU
theorem app2 {b w1:World} {c B:Nat} {d e:TypeId} {size:Nat} {v a:Value} {k m:Nat} {xs ys:List Value}
  (q:Boxed b B d v) (r:d≠e) (i:b.ownsRow c e size v k xs) (t:c<=b.heap.size) (u:c<=B)
  (s:w1.ownsRow c e size a m ys) (l:b.grownBy w1 v.ownBlock):
  Boxed w1 B d v∧Boxed (w1.setCell ⟨B,0,none⟩ a) B d a∧(w1.setCell ⟨B,0,none⟩ a).ownsRow c e size a m ys∧KeepsOthers b (w1.setCell ⟨B,0,none⟩ a)∧Below c b (w1.setCell ⟨B,0,none⟩ a):=by
 have h:Boxed w1 B d v:=q.kept l (q.not_row r i);refine⟨h,h.set a,s.kept (grownBy_setCell' w1 B a) (.inr (h.not_row r s).symm),?_,?_⟩
 ·refine(KeepsOthers.of_grownBy l fun j o f n=>?_).trans (KeepsOthers.setCell _ _ _)
  rcases i.2 with ⟨rfl,_⟩ | ⟨g,cap,x,rfl,_,w,_⟩
  ·simp [Value.ownBlock]at f
  obtain rfl:g=j:=(by simpa [Value.ownBlock]using f);rw [w]at n;cases n;rfl
 refine((qO c b).grown l t fun j f=>?_).setCell (p:=⟨B,0,none⟩) u a;exact(i.lt j f).1
theorem zG7 (zs:List Int) (q m a e:Nat) (b x y:Int) (c:a=x.toNat) (d:e - a=min (y.toNat - a) (m - a)):cutT (ptx zs ⟨(q:Int),(m:Int),b⟩) x y=(zs.drop (q+a)).take (e - a):=by
 unfold cutT ptx;simp only [vg];rw [<- c,List.drop_take,ze,vX,d]
theorem txA_bd (zs:List Int) (lo hi:Int):∀a:List {y:Int×Pc //AcQ zs lo hi y},(txA zs lo hi (List.map (fun y:{y:Int×Pc //AcQ zs lo hi y}=>y.1) a)).length<=8192*a.length
 | []=>by simp [txA]
 | ⟨y,b⟩::a=>by
  have c:=txA_bd zs lo hi a;have d:=YF b.1;have e:y.2.len<=8192:=b.2.2.2.2.2.1
  have f:(cutT (ptx zs y.2) (lo - y.1) (hi - y.1)).length<=(ptx zs y.2).length:=by
   unfold cutT;rw [qN,qR];omega
  simp only [vL,txA,qM,xe];omega
theorem row_val {w:World} {base e size n:Nat} {v:Value} {xs:List Value} (a:w.ownsRow base e size v n xs):∃ao cap,v= .slice ao n cap:=by
 rcases a.2 with ⟨rfl,b⟩ | ⟨g,cap,c,rfl,_⟩
 ·exact⟨none,0,by rw [b]⟩
 exact⟨_,_,rfl⟩
theorem Jf:∀T:AT,T.ok->T.pos
 | .nil,_=>trivial
 | .node l p r,a=>⟨Jf l a.left,by have:=a.piece;omega,Jf r a.right⟩
theorem sliceN (T:AT) (base c b o cap:Nat) (zs:List Int) (lo hi:Int) (w:World) (S:PCore w base c b o cap zs T) (d0:0<=lo∧lo<=hi∧hi<=T.rns):
  Calls prog 169 #[.pointer (qK c 0),qJ lo,qJ hi] w fun e w'=>∃v,e= .returned v∧own32 w' w.heap.size v (cutT (T.tx zs) lo hi)∧Below w.heap.size w w':=by
 obtain⟨ch,ci,cj,ck,cl⟩:=vc Tryz.qv;obtain⟨⟨j,bs,G,bi⟩,cm,cn,bj,bk,e5,d1,d2⟩:=S;have el:=bj.bd;have cx:=qG (show IsT w.heap.size w j T from⟨base,bs,bi,fun x dy=>(bi.lt x dy).2⟩);have cy:=qG (acr_q zs lo hi T 0 bk (Jf T bj) (by omega) (by omega));have cz:=qG (zDe zs lo hi d0.2.1 T 0 bk);have c0:=AT.qE bk;have al:=G.lt;have bo:=qG G;have c1:=qG cm;obtain⟨d,rfl⟩:∃d:Nat,hi=lo+d:=⟨(hi - lo).toNat,by omega⟩
 have c2:lo+(d:Int) - lo=d:=by omega
 have bp:=qG ((((qO w.heap.size w).alloc lR (.cells #[.pointer (qK c 0)] 73)).alloc (by simp) (.cells #[qJ lo] 3)).alloc (by simp;omega) (.cells #[qJ (lo+(d:Int))] 3));have am:(((w.alloc (.cells #[.pointer (qK c 0)] 73)).alloc (.cells #[qJ lo] 3)).alloc (.cells #[qJ (lo+(d:Int))] 3)).heap.size=w.heap.size+3:=by simp
 have bq:=((Boxed.new w 73 (.pointer (qK c 0))).alloc (.cells #[qJ lo] 3)).alloc (.cells #[qJ (lo+(d:Int))] 3);have Z:=(Boxed.new (w.alloc (.cells #[.pointer (qK c 0)] 73)) 3 (qJ lo)).alloc (.cells #[qJ (lo+(d:Int))] 3);have aa:=Boxed.new ((w.alloc (.cells #[.pointer (qK c 0)] 73)).alloc (.cells #[qJ lo] 3)) 3 (qJ (lo+(d:Int)));rw [vp]at Z;rw [vp,vp]at aa;have c3:=Z.cell;have c4:=aa.cell;have br:=qG bq;have bt:=qG Z;have bu:=qG aa;clear bi G cm bq Z aa;refine(xf (n:=5)).1 ?_;refine callsIn_of_wp_marks func169 rfl xn ?_ rfl;simp only [ntmps169,vq,xe,xK,Nat.reduceAdd,Nat.reduceSub,vh,vk,vv,vm,xH,xv];gi_wp2_with (gi_at_make;refine wpListIn_make_own _ rfl _ _ 25 rfl w.heap.size 21 ch (.int .i32 0) 1 underlying25 ci cj ck _ _ _ d rfl rfl (by first | rfl | assumption) (by rw [cl];omega) (by unfold maxLen;omega) (by omega) ?_;intro t a9 O);have c5:=O.size;rw [am]at c5;have bv:=qG (bp.grown O (by omega) (fun k G=>by cases G));have bw:=qG (br.kept O (by simp));have bx:=qG (bt.kept O (by simp));have bz:=qG (bu.kept O (by simp));have an:=qG (bv.alloc (by omega) (.cells #[.slice (qK (w.heap.size+3) 0) 0 d] 25));have ab:=qG (bw.alloc (.cells #[.slice (qK (w.heap.size+3) 0) 0 d] 25));have ac:=qG (bx.alloc (.cells #[.slice (qK (w.heap.size+3) 0) 0 d] 25));have ad:=qG (bz.alloc (.cells #[.slice (qK (w.heap.size+3) 0) 0 d] 25));have ao:=qG (Boxed.new t 25 (.slice (qK (w.heap.size+3) 0) 0 d));rw [am]at a9;have b0:=qG (a9.alloc (.cells #[.slice (qK (w.heap.size+3) 0) 0 d] 25));have em:t.heap.size+1<=(t.alloc (.cells #[.slice (qK (w.heap.size+3) 0) 0 d] 25)).heap.size:=by simp
 clear a9 O bp br bt bu bv bw bx bz c3 c4 am;generalize t.alloc (.cells #[.slice (qK (w.heap.size+3) 0) 0 d] 25)=cg at *
 have ap:=fun d os=>cell_regrown ab.cell d os
 have aq:=fun d os=>cell_regrown ((an.cell (p:=⟨c,1,none⟩) al).trans bo.c1) d os
 have ar:=fun d os=>cell_regrown ac.cell d os
 have au:=fun d os=>cell_regrown ad.cell d os
 refine yR 6 (by kernel_rfl) (by kernel_rfl) ?_;simp only [vQ,kn,vU,vH]
 repeat (refine wpQuietIn_step (fun _ _ _ _=>trivial) (fun B i=>?_);go_simp;first | (refine i _ ?_;clear i B) | (apply Exists.intro;refine⟨fun _=>?_,i _ ?_⟩;(fail);clear i B))
 refine wpQuietIn_nil ?_;intro _ ba;obtain⟨⟨W,X⟩,bl⟩:=ba;subst bl;have E:=qG (below_regrown cg W X);clear ap aq ar au;generalize grow (redrawn cg W) X=g at *
 have en:=E.size;have ae:=qG (an.trans (E.mono (by omega)));have c6:=qG (show Boxed g _ _ _ from(E.block _ ab.lt).trans ab);have c7:=qG (show Boxed g _ _ _ from(E.block _ ac.lt).trans ac);have c8:=qG (show Boxed g _ _ _ from(E.block _ ad.lt).trans ad);have c9:=qG (show Boxed g _ _ _ from(E.block _ ao.lt).trans ao);have da:=qG (zB b0 E lR);clear an ab ac ad ao b0;gi_wp2_with (refine⟨xn,?_⟩;(try refine⟨fun S=>(by cases S),?_⟩);refine(zG6 _ _ _ _ _).mono ?_;rintro e e6 ⟨rfl,rfl⟩);have av:=((c6.alloc (.cells #[.pointer j] 127)).alloc (.cells #[qJ lo] 3)).alloc (.cells #[qJ (lo+(d:Int))] 3);have aw:=((c7.alloc (.cells #[.pointer j] 127)).alloc (.cells #[qJ lo] 3)).alloc (.cells #[qJ (lo+(d:Int))] 3);have ax:=((c8.alloc (.cells #[.pointer j] 127)).alloc (.cells #[qJ lo] 3)).alloc (.cells #[qJ (lo+(d:Int))] 3);have ay:=((c9.alloc (.cells #[.pointer j] 127)).alloc (.cells #[qJ lo] 3)).alloc (.cells #[qJ (lo+(d:Int))] 3);have az:=((da.alloc (.cells #[.pointer j] 127)).alloc (.cells #[qJ lo] 3)).alloc (.cells #[qJ (lo+(d:Int))] 3);have a0:=((Boxed.new g 127 (.pointer j)).alloc (.cells #[qJ lo] 3)).alloc (.cells #[qJ (lo+(d:Int))] 3);have af:=(Boxed.new (g.alloc (.cells #[.pointer j] 127)) 3 (qJ lo)).alloc (.cells #[qJ (lo+(d:Int))] 3);have ag:=Boxed.new ((g.alloc (.cells #[.pointer j] 127)).alloc (.cells #[qJ lo] 3)) 3 (qJ (lo+(d:Int)));have ah:=((ae.alloc ae.size (.cells #[.pointer j] 127)).alloc (by have:=ae.size;simp;omega) (.cells #[qJ lo] 3)).alloc (by have:=ae.size;simp;omega) (.cells #[qJ (lo+(d:Int))] 3);have b1:(((g.alloc (.cells #[.pointer j] 127)).alloc (.cells #[qJ lo] 3)).alloc (.cells #[qJ (lo+(d:Int))] 3)).heap.size=g.heap.size+3:=by simp
 rw [vp]at af;rw [vp,vp]at ag;obtain⟨bd,co⟩:∃bd,((g.alloc (.cells #[.pointer j] 127)).alloc (.cells #[qJ lo] 3)).alloc (.cells #[qJ (lo+(d:Int))] 3)=bd:=⟨_,rfl⟩
 rw [co]at av aw ax ay az a0 af ag ah b1 |-
 refine wpIn_rangeFunc_ownH rfl (by omega) (gf:=188) (lb:=#[.pointer (qK g.heap.size 0),.pointer (qK (g.heap.size+1) 0),.pointer (qK (g.heap.size+1+1) 0)]) rfl xn (enters_of func188 (by kernel_rfl) rfl)
  (zAs (AcQ zs lo (lo+(d:Int))) lo (lo+(d:Int)) (by omega) (by omega) _ g.heap.size (g.heap.size+1) (g.heap.size+1+1) w.heap.size j T bj cy bd (by omega) (by omega) (by omega) (by omega) a0.cell af.cell ag.cell (cx.below ah)) belowK_t (belowK_b (by omega)) (qO _ _) (fun _=>rfl)
  (fun s f=>(∃v,Boxed f t.heap.size 25 v∧f.ownsRow w.heap.size 21 1 v (txA zs lo (lo+(d:Int)) (List.map (fun y:{y:Int×Pc //AcQ zs lo (lo+(d:Int)) y}=>y.1) s)).length (ints .i32 (txA zs lo (lo+(d:Int)) (List.map (fun y:{y:Int×Pc //AcQ zs lo (lo+(d:Int)) y}=>y.1) s)))∧True)∧(Boxed f w.heap.size 73 (.pointer (qK c 0))∧(Boxed f (w.heap.size+1) 3 (qJ lo)∧(Boxed f (w.heap.size+1+1) 3 (qJ (lo+(d:Int)))∧Below w.heap.size w f))))
  (fun _ _ _=>False)
  (OwnFrom.and (Own.from (holdsRow_own w.heap.size t.heap.size 25 21 1 (fun s=>(txA zs lo (lo+(d:Int)) (List.map (fun y:{y:Int×Pc //AcQ zs lo (lo+(d:Int)) y}=>y.1) s)).length) (fun s=>ints .i32 (txA zs lo (lo+(d:Int)) (List.map (fun y:{y:Int×Pc //AcQ zs lo (lo+(d:Int)) y}=>y.1) s))) (fun _ _=>True)) _) (OwnFrom.and (Own.from (boxed_own w.heap.size 73 (fun _=>.pointer (qK c 0))) _) (OwnFrom.and (Own.from (boxed_own (w.heap.size+1) 3 (fun _=>.int .i64 lo)) _) (OwnFrom.and (Own.from (boxed_own (w.heap.size+1+1) 3 (fun _=>.int .i64 (lo+(d:Int)))) _) (ownFrom_below lR (by omega))))))
  (fun _ _ _ _ _ be _ _=>be)
  ⟨⟨_,ay,by simpa [txA,ints]using az,xn⟩,av,aw,ax,ah⟩
  (fun y bf f=>∃u,True∧f.heap[u]? =some (.cells #[qJ y.1.2.off,qJ y.1.2.len,qJ y.1.2.brk] 63 (0,0))∧bf={tmps:=#[.pointer (qK c 0),qJ lo,qJ (lo+(d:Int)),.pointer (qK w.heap.size 0),.pointer (qK (w.heap.size+1) 0),.pointer (qK (w.heap.size+1+1) 0),.slice none 0 0,.pointer (qK t.heap.size 0),qJ y.1.1,.pointer (qK u 0),qJ (lo+(d:Int)),qJ lo,qJ (d:Int),.slice (qK (w.heap.size+3) 0) 0 d,.pointer (qK c 0),.pointer (qK c 0),.pointer (qK c 1),.pointer j,qJ lo,qJ (lo+(d:Int)),.func (.func 188) #[] #[.pointer (qK g.heap.size 0),.pointer (qK (g.heap.size+1) 0),.pointer (qK (g.heap.size+1+1) 0)],qJ y.1.1,.agg #[qJ y.1.2.off,qJ y.1.2.len,qJ y.1.2.brk],undef,undef,undef,undef,undef,undef,undef,undef,undef,undef,undef,undef,undef,undef,undef,undef,undef],defers:=[]})
  (fun x bf _ f e3 e4 be dz bg=>by
   obtain⟨u,bh,V,d3⟩:=be;refine⟨u,bh,(dz.block u (xO.1 V).1 (fun e=>?_)).trans V,d3⟩;obtain⟨_,o,cp,cb⟩:=bg u e.symm
   rw [V]at cp;cases cp;cases cb)
  ?assign ?body ?done ?stop
 case assign=>
  rintro l s x f B ⟨⟨v,H,C,_⟩,I,J,K,z⟩ i;gi_wp2;have L:=z.size;refine i _ _ ((KeepsOthers.alloc _ _).from _) ((qO _ f).alloc L _) ⟨⟨v,H.alloc _,C.alloc _,xn⟩,I.alloc _,J.alloc _,K.alloc _,z.alloc L _⟩ ⟨f.heap.size,xn,xg _ _,rfl⟩
 case body=>
  rintro l s ⟨⟨h,Q⟩,cq⟩ bf f d4 ⟨r,bg⟩ ⟨⟨v,H,C,_⟩,I,J,K,z⟩ ⟨u,_,Y,rfl⟩ e7;have db:=cq;obtain⟨⟨d5,d6,d7,cr⟩,d8,d9,ea,eb,ec,ed⟩:=db;simp only at d5 d6 d7 cr d8 d9 ea eb ec ed;have b2:f.cell? ⟨u,0,none⟩=some (qJ Q.off):=(by rw [qP f _ 0 _ _ _ Y];rfl);have b3:f.cell? ⟨u,1,none⟩=some (qJ Q.len):=(by rw [qP f _ 1 _ _ _ Y];rfl);have k2:f.cell? ⟨u,2,none⟩=some (qJ Q.brk):=(by rw [qP f _ 2 _ _ _ Y];rfl);have eo:u<f.heap.size:=(xO.1 Y).1;have L:=z.size;have dc:=qG (show txA zs lo (lo+(d:Int)) (List.map (fun y:{y:Int×Pc //AcQ zs lo (lo+(d:Int)) y}=>y.1) (s++ [⟨(h,Q),cq⟩]))=txA zs lo (lo+(d:Int)) (List.map (fun y:{y:Int×Pc //AcQ zs lo (lo+(d:Int)) y}=>y.1) s)++cutT (ptx zs Q) (lo - h) (lo+(d:Int) - h)by rw [vz,Ye];simp [txA]);have dd:=qG C;have b4:=qG H;have b5:=qG I;have b6:=qG J;have b7:=qG K;have de:=qG z;have df:=qG (bo.below z al);have dg:=qG (c1.below z cn);obtain⟨ee,ef,rfl⟩:=zi (show own32 f w.heap.size v _ from C);have dh:=fun d os=>cell_regrown b2 d os
  have ap:=fun d os=>cell_regrown b3 d os
  have aq:=fun d os=>cell_regrown k2 d os
  have ar:=fun d os=>cell_regrown I.cell d os
  have au:=fun d os=>cell_regrown J.cell d os
  have di:=fun d os=>cell_regrown K.cell d os
  have dj:=fun d os=>cell_regrown H.cell d os
  have ep:=txA_bd zs lo (lo+(d:Int)) s;generalize du:txA zs lo (lo+(d:Int)) (List.map (fun y:{y:Int×Pc //AcQ zs lo (lo+(d:Int)) y}=>y.1) s)=bc at *
  clear bg d4 Y C H I J K z b2 b3 k2 du;obtain⟨cs,ct,cu⟩:=Q;simp only at *
  obtain⟨q,rfl⟩:∃q:Nat,cs=q:=⟨cs.toNat,by omega⟩
  obtain⟨m,rfl⟩:∃m:Nat,ct=m:=⟨ct.toNat,by omega⟩
  have a1:=qG (fun d os=>CallsIn.regrown_of (F:=Fence.wide) (r:=5 - 1 - 1 - 1) (xf.2 (textN c b o zs.length cap q m cu j (grow (redrawn f d) os) (df.below (below_regrown f d os) (xq al L)) (by omega) (by omega) d1 d2)));have w1:IntKind.i64.wrap (lo - h)=lo - h:=(by rw [kQ];omega);have dk:IntKind.i64.wrap (lo+(d:Int) - h)=lo+(d:Int) - h:=(by rw [kQ];omega);clear cr c0 c2 co b1 av aw ax ay az a0 af ag ah;gi_wp2_with fail;refine J7 15 (by kernel_rfl) (by kernel_rfl) (by kernel_rfl) ?_;simp only [vQ,kn,vU,vH]
  repeat (refine wpQuietIn_step (fun _ _ _ _=>trivial) (fun B i=>?_);go_simp;first | (refine i _ ?_;clear i B) | (apply Exists.intro;refine⟨fun _=>?_,i _ ?_⟩;(first | exact⟨xn,a1 _ _⟩ | exact a1 _ _);clear i B))
  obtain⟨a,bm⟩:∃a:Nat,(if lo - h<0 then 0 else lo - h)=(a:Int):=⟨(if lo - h<0 then 0 else lo - h).toNat,by split<;>omega⟩
  obtain⟨e,bn⟩:∃e:Nat,(if(m:Int)<lo+(d:Int) - h then(m:Int)else lo+(d:Int) - h)=(e:Int):=⟨(if(m:Int)<lo+(d:Int) - h then(m:Int)else lo+(d:Int) - h).toNat,by split<;>omega⟩
  have M:(a<=e∧a<m)∧e<=m∧a=(lo - h).toNat∧e - a=min ((lo+(d:Int) - h).toNat - a) (m - a)∧e<=d+a:=by
   split at bm<;>split at bn<;>omega
  rw [bm,bn];have dl:=qG (zG7 zs q m a e cu (lo - h) (lo+(d:Int) - h) M.2.2.1 M.2.2.2.1);have eq:=M.1.1;have er:=M.1.2;have es:=M.2.1;have et:(a:Int)<=(e:Int):=(by omega);have eu:(e:Int)<=((cap - q:Nat):Int):=(by omega);have ev:¬cap - q=a:=(by omega);clear bm bn w1 dk M
  (refine wpQuietIn_step (fun _ _ _ _=>trivial) (fun B i=>?_);go_simp;first | (refine i _ ?_;clear i B) | (apply Exists.intro;refine⟨fun _=>?_,i _ ?_⟩;(fail);clear i B))
  refine wpQuietIn_nil ?_;intro _ ba;obtain⟨⟨W,X⟩,bl⟩:=ba;subst bl;have A:=qG (below_regrown f W X);clear dh ap aq ar au di dj a1;generalize grow (redrawn f W) X=P at *
  have ew:=A.size;have b8:=qG (show Boxed P _ _ _ from(A.block _ b4.lt).trans b4);have R:=qG (zB dd A lR);have a2:=qG (show Boxed P _ _ _ from(A.block _ b5.lt).trans b5);have a3:=qG (show Boxed P _ _ _ from(A.block _ b6.lt).trans b6);have a4:=qG (show Boxed P _ _ _ from(A.block _ b7.lt).trans b7);have dm:=qG (dg.below A (xq cn L));have b9:=qG (dm.app (q+a) (e - a) (by omega));have a5:((zs.drop (q+a)).take (e - a)).length=e - a:=(by rw [qN,qR];omega);have dn:=qG a5;have dp:=qG (show(ints .i32 ((zs.drop (q+a)).take (e - a))).length=(e - a)*1 by rw [zC,a5,vP]);have ex:t.heap.size<P.heap.size:=b8.lt;rw [<- vS]at b9;generalize (zs.drop (q+a)).take (e - a)=U at *
  generalize dv:bc.length=ai at *
  clear a5;gi_wp2_with (gi_at_builtin;refine wpListIn_append_own _ rfl _ _ 25 rfl w.heap.size 21 ch (.int .i32 0) 1 4 underlying25 ci cj ck cl rfl (by decide) _ ai (ints .i32 bc) rfl R ⟨b,o+q+a,none⟩ (e - a) (cap - q - a) (ints .i32 U) rfl dp b9 (zG _ _) (by unfold maxLen;omega) (by omega) (by omega) ?_;intro e2 cd ce cf _;obtain⟨aj,ak,rfl⟩:=row_val ce;obtain⟨cv,eg,eh,ei,cw⟩:=app2 b8 (by decide) R (by omega) (by omega) ce cf;have ey:=cv.cell;have ez:=cv.frozen);have e0:=cw;have ca:=qG ((A.mono L).trans cw);have dq:=qG (show own32 (cd.setCell ⟨t.heap.size,0,none⟩ (.slice aj (ai+(e - a)) ak)) w.heap.size _ (bc++U)from YH dv dn eh);have a6:=qG (fun k (G:k<P.heap.size) (bh:k≠t.heap.size) (V:some k≠(Value.slice ee ai ef).ownBlock)=>(xm cd ⟨t.heap.size,0,none⟩ k (.slice aj (ai+(e - a)) ak) bh).trans (cf.block k G V));refine⟨((KeepsOthers.qa A).trans ei).from _,ca,⟨_,eg,?_,xn⟩,?_,?_,?_,de.trans ca⟩
  ·have N:=dq
   unfold own32 at N;rw [<- dl.out,<- dc.out]at N;exact N
  ·exact(a6 _ a2.lt (by omega) (a2.not_row (by decide) R)).trans a2
  ·exact(a6 _ a3.lt (by omega) (a3.not_row (by decide) R)).trans a3
  exact(a6 _ a4.lt (by omega) (a4.not_row (by decide) R)).trans a4
 case done=>
  rintro D ys f ej ek ⟨⟨v,H,C,_⟩,I,J,K,z⟩ i;have cb:=H.cell;have a7:=cz;rw [<- ek]at a7
  have cc:=qG (show own32 f w.heap.size v (cutT (T.tx zs) lo (lo+(d:Int)))by
   have N:own32 f w.heap.size v _:=C;rw [a7]at N
   simpa using N)
  have dr:=qG z;have a8:=qG i;have e1:=ej;obtain⟨aj,ak,rfl⟩:=zi cc;generalize dw:(cutT (T.tx zs) lo (lo+(d:Int))).length=dx at *
  clear a7 C z I J K dw;gi_wp2;refine⟨by simp,.inl ⟨_,_,rfl,run_takeDeferred a8,?_⟩⟩;have ds:=ownsRow_putObj cc (.deferred none) a8 rfl;have dt:=dr.trans (belowK_b (w:=w) lR _ D _ (.deferred none) (by omega) a8 rfl rfl);exact⟨.slice aj dx ak,by simp [results,results169,go_sem],_,rfl,ds,dt⟩
 rintro D c s f _ _ S _;exact S.elim
end Go.Proofs.YtmjanhcplcalfaaGreatDoor
