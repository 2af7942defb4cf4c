import Derived.Test.YtljdnoinennfaaaGreatDoorMq21
set_option linter.all false
set_option maxRecDepth 100000
set_option maxHeartbeats 8000000
namespace Go.Proofs.YtljdnoinennfaaaGreatDoor
open Go Go.RowKit Go.Proofs.Tryz
namespace AT
def splR:AT->Pc->AT->AT
 | a,e,b=>
  if a.ht > b.ht+1 then
   match a with
   | nil=>nil
   | node l p r=>node l p (splR r e b)
  else if b.ht > a.ht+1 then
   match b with
   | nil=>nil
   | node l p r=>node (splR a e l) p r
  else node a e b
 termination_by a _ b=>a.its+b.its
 decreasing_by all_goals (simp only [its];omega)
theorem spl_fx (a:AT) (e:Pc) (b:AT):a.bal->b.bal->∃n,n<=a.its+b.its∧Fx (splR a e b) n (spl a e b):=by
 fun_induction splR a e b with
 | case1=>rename_i d;simp [ht]at d
 | case2 t h l p r d o=>
  intro ⟨hl,hr,s,h2⟩ g;obtain⟨n,i,j⟩:=o hr g;obtain⟨c,v,w⟩:=Y9 r t h hr g;simp only [ht,its]at d i |-
  obtain⟨m,x,k⟩:=Fx.right (p:=p) j hl (by omega) (by omega)
  refine⟨m,by omega,?_⟩
  rw [spl.eq_def];dsimp only;rw [xj (by simp only [ht];omega)]
  exact k
 | case3=>rename_i s d;simp [ht]at d
 | case4 u h l p r q d o=>
  intro f ⟨hl,hr,s,h2⟩;obtain⟨n,i,j⟩:=o f hl;obtain⟨c,v,w⟩:=Y9 u h l f hl;simp only [ht,its]at d q i |-
  obtain⟨m,x,k⟩:=Fx.left (p:=p) j hr (by omega) (by omega)
  refine⟨m,by omega,?_⟩
  rw [spl.eq_def];dsimp only;rw [qT (by simp only [ht];omega),xj (by simp only [ht];omega)]
  exact k
 | case5 u h t d q=>
  intro f g;refine⟨0,xP _,?_⟩;rw [spl.eq_def];dsimp only;rw [qT d,qT q]
  exact Fx.stop ((jB _).2 ⟨f,g,by omega,by omega⟩)
theorem splR_its (a:AT) (e:Pc) (b:AT):(splR a e b).its=a.its+1+b.its:=by
 fun_induction splR a e b with
 | case1=>rename_i c;simp [ht]at c
 | case2=>rename_i c d;simp only [its];omega
 | case3=>rename_i f c;simp [ht]at c
 | case4=>rename_i d;simp only [its];omega
 | case5=>simp [its]
theorem edgeR (c:Nat):∀ (a:AT) (d:Int),a.bal->c+1<a.ht->∃l p r,a=node l p r∧a.told d=l.told (d+1)++⟨p,d⟩::r.told (d+1)∧c<=r.ht∧r.ht<a.ht∧r.bal
 | nil,d,_,b=>by simp [ht]at b
 | node l p r,d,⟨f,e,g,h⟩,b=>by
  simp only [ht]at b |-
  exact⟨l,p,r,rfl,by simp [told],by omega,by omega,e⟩
theorem edgeL (c:Nat):∀ (a:AT) (d:Int),a.bal->c+1<a.ht->∃l p r,a=node l p r∧a.told d=l.told (d+1)++⟨p,d⟩::r.told (d+1)∧c<=l.ht∧l.ht<a.ht∧l.bal
 | nil,d,_,b=>by simp [ht]at b
 | node l p r,d,⟨e,f,g,h⟩,b=>by
  simp only [ht]at b |-
  exact⟨l,p,r,rfl,by simp [told],by omega,by omega,e⟩
theorem splR_right {l r b:AT} {p e:Pc} (a:b.ht+1<(node l p r).ht):splR (node l p r) e b=node l p (splR r e b):=by
 rw [splR.eq_def];dsimp only;rw [xj a]
theorem splR_left {a l r:AT} {p e:Pc} (b:a.ht+1<(node l p r).ht):splR a e (node l p r)=node (splR a e l) p r:=by
 rw [splR.eq_def];dsimp only;rw [qT (by omega),xj b]
theorem splR_mid {a b:AT} {e:Pc} (c:¬b.ht+1<a.ht) (d:¬a.ht+1<b.ht):splR a e b=node a e b:=by
 rw [splR.eq_def];dsimp only;rw [qT c,qT d]
end AT
def lift (d:Int) (X:List It):List It:=adj (fun _=>d) 0 X
theorem jK (T:AT) (e d:Int):lift d (T.told e)=T.told (e+d):=yW _ d T 0 e (fun _ _ _=>rfl)
theorem yX (d:Int) (X:List It):(lift d X).length=X.length:=ji _ _ _
def lft (d:Int) (k:Nat) (j:Nat):Int:=if j<k then d else 0
theorem zG7 (d:Int) (X:List It):adj (lft d 0) 0 X=X:=yc _ 0 X (fun j _ _=>by unfold lft;rw [qT (by omega)])
theorem lft_end (d:Int) (X:List It) (n:Nat) (b:X.length=n):adj (lft d n) 0 X=lift d X:=j9 0 X (fun j _ a=>by unfold lft;rw [xj (by omega)])
structure EdR (b c:AT) (p:Pc) (d:List It) (S:AT) (a:Int):Prop where
 list:b.told 0=d++S.told a
 bal:S.bal
 low:c.ht<=S.ht
 fin:(AT.splR b p c).told 0=d++(AT.splR S p c).told a
 lvl:0<=a
 top:a+S.ht<=b.ht
 fit:AT.Fit d [] a
theorem EdR.start {c d:AT} {p:Pc} (b:c.bal) (e:d.ht<=c.ht):EdR c d p [] c 0:=⟨by simp,b,e,by simp,Qd _,by omega,⟨fun a b=>by simp at b,fun a b=>by simp at b⟩⟩
theorem EdR.step {g e:AT} {p:Pc} {h:List It} {S:AT} {b:Int} (c:EdR g e p h S b) (hgt:e.ht+1<S.ht):∃l q r,S= .node l q r∧EdR g e p (h++l.told (b+1)++ [⟨q,b⟩]) r (b+1):=by
 obtain⟨l,q,r,f,_,i,k,j⟩:=AT.edgeR e.ht S b c.bal hgt
 refine⟨l,q,r,f,?_,j,i,?_,by have:=c.lvl;omega,by have:=c.top;omega,⟨fun a d=>by simp at d;subst d;show b<b+1;omega,fun a d=>by simp at d⟩⟩
 ·rw [c.list,f];simp [AT.told]
 ·rw [c.fin,f,AT.splR_right (by rw [<- f];exact hgt)];simp [AT.told]
theorem EdR.done {c a:AT} {p:Pc} {d:List It} {S:AT} {b:Int} (e:EdR c a p d S b) (f:¬a.ht+1<S.ht):(AT.splR c p a).told 0=d++S.told (b+1)++⟨p,b⟩::a.told (b+1):=by
 have:=e.low
 rw [e.fin,AT.splR_mid f (by omega)];simp [AT.told]
structure EdL (b c:AT) (p:Pc) (d:List It) (S:AT) (a:Int):Prop where
 list:c.told 0=S.told a++d
 bal:S.bal
 low:b.ht<=S.ht
 fin:(AT.splR b p c).told 0=(AT.splR b p S).told a++d
 lvl:0<=a
 top:a+S.ht<=c.ht
 fit:AT.Fit [] d a
theorem EdL.start {d c:AT} {p:Pc} (b:c.bal) (e:d.ht<=c.ht):EdL d c p [] c 0:=⟨by simp,b,e,by simp,Qd _,by omega,⟨fun a b=>by simp at b,fun a b=>by simp at b⟩⟩
theorem EdL.step {e g:AT} {p:Pc} {h:List It} {S:AT} {b:Int} (c:EdL e g p h S b) (hgt:e.ht+1<S.ht):∃l q r,S= .node l q r∧EdL e g p (⟨q,b⟩::(r.told (b+1)++h)) l (b+1):=by
 obtain⟨l,q,r,f,_,i,k,j⟩:=AT.edgeL e.ht S b c.bal hgt
 refine⟨l,q,r,f,?_,j,i,?_,by have:=c.lvl;omega,by have:=c.top;omega,⟨fun a d=>by simp at d,fun a d=>by simp at d;subst d;show b<b+1;omega⟩⟩
 ·rw [c.list,f];simp [AT.told]
 ·rw [c.fin,f,AT.splR_left (by rw [<- f];exact hgt)];simp [AT.told]
theorem EdL.done {a c:AT} {p:Pc} {d:List It} {S:AT} {b:Int} (e:EdL a c p d S b) (f:¬a.ht+1<S.ht):(AT.splR a p c).told 0=a.told (b+1)++⟨p,b⟩::(S.told (b+1)++d):=by
 have:=e.low
 rw [e.fin,AT.splR_mid (by omega) f];simp [AT.told]
def SrcI (w:World) (v:Value) (xs:List It):Prop:=
 (v= .slice none 0 0∧xs= [])∨∃b o cap,v= .slice (qK b o) xs.length cap∧b<w.heap.size∧(∀j u,(itVs xs)[j]? =some u->w.cell? ((⟨b,o,none⟩:Addr).add j)=some u)
theorem SrcI.of {w:World} {base:Nat} {v:Value} {xs:List It} (a:OwI w base v xs):SrcI w v xs:=by
 rcases a.2 with ⟨b,c⟩ | ⟨g,cap,e,b,c⟩
 ·exact .inl ⟨b,qU c⟩
 ·subst b
  exact .inr ⟨g,0,cap,rfl,(a.lt g rfl).2,fun j u d=>a.cells j u d⟩
theorem copyG (xs:List It) (v:Value) (w:World) (d:SrcI w v xs) (f:xs.length<=1048576):
  Calls prog 66 #[v] w fun e w'=>∃g cp,e= .returned (.slice (qK g 0) xs.length cp)∧OwI w' w.heap.size (.slice (qK g 0) xs.length cp) xs∧Below w.heap.size w w':=by
 rcases d with ⟨rfl,rfl⟩ | ⟨b,o,cap,rfl,h,i⟩
 ·obtain⟨j,hi,k,l,m⟩:=xM Tryz.qk
  have a:=qG (show(w.alloc (.cells #[] 71)).ownsRow w.heap.size 71 4 (.slice (qK w.heap.size 0) 0 0) 0 []from⟨rfl,.inr ⟨_,0,#[],rfl,lR,xm _ _,lR,by unfold maxLen;omega,rfl,rfl⟩⟩)
  have c:=qG ((qO w.heap.size w).alloc lR (.cells #[] 71));go_enter func66,ntmps66;go_wp2_with (at_builtin;refine wpList_append_own_none rfl _ _ 26 rfl w.heap.size 71 j 4 underlying26 hi _ _ _ rfl a rfl ?_);go_ret;exact⟨_,_,rfl,a,c⟩
 ·exact copyS xs b o cap w i h f
theorem liftS (d:Int) (xs:List It) (v:Value) (w:World) (c:SrcI w v xs) (T:xs.length<=1048576) (Z: -100000<=d∧d<=100000) (C:∀x∈xs,0<=x.lv∧x.lv<=1000000):
  Calls prog 103 #[v,qJ d] w fun e w'=>∃g cp,e= .returned (.slice (qK g 0) xs.length cp)∧OwI w' w.heap.size (.slice (qK g 0) xs.length cp) (lift d xs)∧Below w.heap.size w w':=by
 have p:=qG (copyG xs v w c T);have D:=qG (lft_end d xs xs.length rfl);have E:=qG C;have F:=qG (yX d xs)
 have G:=qG (show ∀k,k<xs.length->∃x,xs[k]? =some x from fun k B=>⟨_,qY B⟩)
 unfold OwI at p;unfold OwI;rw [F.out];generalize R:xs.length=n at *
 obtain⟨ao,m,cap,rfl⟩:∃ao m cap,v= .slice ao m cap:=by
  rcases c with ⟨rfl,_⟩ | ⟨b,o,cap,rfl,_⟩<;>exact⟨_,_,_,rfl⟩
 clear c R C;go_enter func103,ntmps103;go_wp2_with fail;refine p.mono ?_;rintro e w1 ⟨g,cp,rfl,h,t⟩;have H:=qG h;have I:=qG t;have J:=(h.lt g rfl)
 obtain⟨aa,U⟩:n<=cp∧cp<=maxLen:=by
  rcases h.2 with ⟨u,_⟩ | ⟨g',ab,ac,u,_,_,f,V,_⟩
  ·cases u
  ·cases u;exact⟨f,V⟩
 unfold maxLen at U;have K:=t.size;clear h t p;go_wp2_with fail
 go_loopw [11] (fun s wr=>∃k:Nat,k<=n∧s=qJ k∧wr.ownsRow w.heap.size 71 4 (.slice (qK g 0) n cp) n (itVs (adj (lft d k) 0 xs))∧w1.grownBy wr (some g)) (fun s _=>n - (intOf s).toNat)
 case atStart=>exact⟨0,xP _,rfl,by rw [zG7];exact H,YP _ _⟩
 case round=>
  obtain⟨k,B,rfl,a,i⟩:=hrel;have L:=qG i
  by_cases Q:k<n
  ·obtain⟨x,l⟩:=G k Q
   have W:=E x (vc.2 ⟨k,l⟩)
   have q:(adj (lft d k) 0 xs)[k]? =some x:=by
    rw [Zw,l]
    have M:lft d k k=0:=by unfold lft;rw [qT (by omega)]
    simp only [xN,M,Qk,Qb]
   have X:=OwI.lv a q;have fx:wr.frozen? ⟨g,k*4+3,none⟩=false:=a.frozenAt _;have r:=OwI.qt a q (x.lv+d)
   have y:(adj (lft d k) 0 xs).set k ⟨x.pc,x.lv+d⟩=adj (lft d (k+1)) 0 xs:=by
    rw [ZN l]
    refine j9 0 xs (fun j _ _=>?_)
    unfold lft
    by_cases c:j=k
    ·subst c;rw [xj rfl,xj (by omega)];omega
    ·rw [qT c]
     by_cases f:j<k
     ·rw [xj f,xj (by omega)]
     ·rw [qT f,qT (by omega)]
   rw [y]at r;have A:=qG r;generalize x.lv=Y at *
   have N:(k:Int)<(n:Int):=by omega
   clear l q a i r y;go_wp2;go_roundw
   case rel=>exact⟨k+1,by omega,by go_num,A.1,zG L A.2⟩
   case measure=>simp [intOf];omega
  ·obtain rfl:n=k:=by omega
   have N:¬ (n:Int)<(n:Int):=by omega
   rw [D.out]at a;have O:=qG a
   have P:=qG (I.trans ((qO w.heap.size w1).grown i K (fun z S=>by cases S;exact J.1)))
   clear a i;go_wp2;go_ret;exact⟨_,_,rfl,O,P⟩
theorem yn (b:Nat) (v:Value) (X:List It) (W:World) (f:RdI b W v X) (g:X.length<=1048576) (h:∀x∈X,0<=x.lv∧x.lv<=1000000) {A B:List It} {S:AT} {e:Int} (c:X=A++S.told e++B) (lo hi:Int) (i:lo=(A.length:Int)) (j:hi=(A.length:Int)+(S.its:Int)):
  Calls prog 130 #[v,qJ lo,qJ hi] W fun d w'=>d= .returned (qJ (S.ht:Int))∧w'=W:=by
 subst i
 obtain rfl:hi=((A.length+S.its:Nat):Int):=by omega
 have a:=zAc b v X W f g h A.length (A.length+S.its) (by omega) (by rw [c];simp only [qM,AT.told_length];omega)
 rw [show seg X A.length (A.length+S.its)=S.told e by rw [c];have a:=zAd A (S.told e) B;rw [AT.told_length]at a;exact a,Zd]at a
 exact a
theorem Xb (f:Nat) (v:Value) (X:List It) (W:World) (h:RdI f W v X) (i:X.length<=1048576) {A B:List It} {l r:AT} {q:Pc} {e:Int} (g:X=A++(AT.node l q r).told e++B) (j:AT.Fit A B e) (lo hi:Int) (k:lo=(A.length:Int)) (o:hi=(A.length:Int)+((AT.node l q r).its:Int)):
  Calls prog 102 #[v,qJ lo,qJ hi] W fun d w'=>d= .returned (qJ ((A.length+l.its:Nat):Int))∧∃q,w'=W.drewN q:=by
 subst k
 obtain rfl:hi=((A.length+(AT.node l q r).its:Nat):Int):=by omega
 have b:X.length=A.length+(AT.node l q r).its+B.length:=by rw [g];simp only [qM,AT.told_length]
 have a:=childS f v X W h i (by intro a;rw [a]at b;simp only [xC,AT.its]at b;omega) A.length (A.length+(AT.node l q r).its) (by omega) (by omega)
 refine a.mono ?_;rintro d w' ⟨c,rfl,m,n⟩
 obtain rfl:c=A.length+l.its:=by
  refine Am.root (e:=e) ?_ m;rw [g];exact Sub.of j
 exact⟨rfl,n⟩
theorem yF {w:World} {base b cap n:Nat} {X:List It} (c:OwI w base (.slice (qK b 0) n cap) X) (d:X.length=n) {Z R:List It} (e:X=Z++R):∀j u,(itVs Z)[j]? =some u->w.cell? ((⟨b,0,none⟩:Addr).add j)=some u:=by
 intro j u a;subst d;refine c.cells j u ?_
 rw [e,zS,xA (by
  rcases xS j (itVs Z).length with g | g
  ·exact g
  ·rw [xQ g]at a;cases a)]
 exact a
theorem JW {w:World} {base b cap n:Nat} {X:List It} (d:OwI w base (.slice (qK b 0) n cap) X) (e:X.length=n) {Z R:List It} (f:X=Z++R):∀j u,(itVs R)[j]? =some u->w.cell? ((⟨b,Z.length*4,none⟩:Addr).add j)=some u:=by
 intro j u c;subst e
 have a:=d.cells (Z.length*4+j) u (by rw [f,zS,xe (by rw [zH];omega),zH,show Z.length*4+j - Z.length*4=j by omega];exact c)
 rw [zK]at a |-;rw [xN]at a;exact a
theorem XF {X Z A B:List It} {a:Int} (c:X=A++Z++B) (d:∀x∈X,0<=x.lv∧x.lv<=a):∀x∈Z,0<=x.lv∧x.lv<=a:=fun x b=>d x (by rw [c];simp [b])
theorem join3 (a b:AT) (p:Pc) (ca bb:Nat) (V Z:Value) (w:World) (ax:a.bal) (ay:b.bal) (cz:a.its+b.its<=8192) (E:OwI w ca V (a.told 0)) (F:OwI w bb Z (b.told 0)) (f:¬b.ht+1<a.ht) (v:¬a.ht+1<b.ht):
  Calls prog 104 #[V,pcV p,Z] w fun e w'=>∃aw,e= .returned aw∧OwI w' w.heap.size aw ((AT.spl a p b).told 0)∧Below w.heap.size w w':=by
 have m:=qG ((qO w.heap.size w).alloc lR (.cells #[.int .i64 p.off,.int .i64 p.len,.int .i64 p.brk] 69))
 have ba:=qG (show(w.alloc (.cells #[.int .i64 p.off,.int .i64 p.len,.int .i64 p.brk] 69)).heap[w.heap.size]? =some (.cells #[.int .i64 p.off,.int .i64 p.len,.int .i64 p.brk] 69 (0,0))from xm _ _)
 have bc:w.heap.size<(w.alloc (.cells #[.int .i64 p.off,.int .i64 p.len,.int .i64 p.brk] 69)).heap.size:=by simp
 have bd:=qG (RdI.below E.rd m.out lR);have be:=qG (RdI.below F.rd m.out lR);have bf:=qG (zA E m.out lR);have bg:=qG (zA F m.out lR);have n:=AT.told_length a 0;have o:=AT.told_length b 0;have cl:=qG n;have cm:=qG o
 have ad:=qG (yO a (by omega))
 have ae:=qG (yO b (by omega))
 have bh:=qG (AT.spl_fx a p b ax ay);have J:=qG (AT.splR_its a p b);have bi:=qG (AT.ht_its a);have bj:=qG (AT.ht_its b)
 have bk:=qG (show(AT.splR a p b).told 0=lift 1 (a.told 0)++⟨p,0⟩::lift 1 (b.told 0)from(by rw [jK,jK,AT.splR_mid f v];simp [AT.told]))
 obtain⟨ao,r,cb⟩:∃ao r,V= .slice ao a.its r:=by
  obtain⟨ao,r,l⟩:=(OwI.rd E).val
  exact⟨ao,r,by rw [l,n]⟩
 subst cb
 obtain⟨s,t,cc⟩:∃s t,Z= .slice s b.its t:=by
  obtain⟨s,t,l⟩:=(OwI.rd F).val
  exact⟨s,t,by rw [l,o]⟩
 subst cc
 have bl:=qG (fun W (aa:RdI w.heap.size W (.slice ao a.its r) (a.told 0))=>yn w.heap.size _ (a.told 0) W aa (by omega) ad.out (A:=[]) (B:=[]) (S:=a) (e:=0) (by simp) 0 (a.its:Int) rfl (by simp))
 have bm:=qG (fun W (aa:RdI w.heap.size W (.slice s b.its t) (b.told 0))=>yn w.heap.size _ (b.told 0) W aa (by omega) ae.out (A:=[]) (B:=[]) (S:=b) (e:=0) (by simp) 0 (b.its:Int) rfl (by simp))
 have bn:=qG (fun W:World=>show(W.alloc (.cells #[] 71)).ownsRow W.heap.size 71 4 (.slice (some ⟨W.heap.size,0,none⟩) 0 0) 0 []from⟨rfl,.inr ⟨_,0,#[],rfl,lR,xm _ _,lR,by unfold maxLen;omega,rfl,rfl⟩⟩)
 have af:=qG (fun W (ab:Below (w.alloc (.cells #[.int .i64 p.off,.int .i64 p.len,.int .i64 p.brk] 69)).heap.size (w.alloc (.cells #[.int .i64 p.off,.int .i64 p.len,.int .i64 p.brk] 69)) W)=>liftS 1 (a.told 0) _ W (SrcI.of (zA bf.out ab lR)) (by omega) (by omega) ad.out)
 have ag:=qG (fun W (ab:Below (w.alloc (.cells #[.int .i64 p.off,.int .i64 p.len,.int .i64 p.brk] 69)).heap.size (w.alloc (.cells #[.int .i64 p.off,.int .i64 p.len,.int .i64 p.brk] 69)) W)=>liftS 1 (b.told 0) _ W (SrcI.of (zA bg.out ab lR)) (by omega) (by omega) ae.out)
 have ah:=qG ((yX 1 (a.told 0)).trans n);have ai:=qG ((yX 1 (b.told 0)).trans o);rw [n]at af;rw [o]at ag
 have cn:¬ (b.ht:Int)+1<(a.ht:Int):=by omega
 have co:¬ (a.ht:Int)+1<(b.ht:Int):=by omega
 have cp:=bi.out;have cq:=bj.out;generalize AT.splR a p b=R at *;generalize AT.spl a p b=U at *;generalize a.told 0=X at *;generalize b.told 0=Y at *;generalize a.ht=cx at *;generalize b.ht=cy at *;generalize a.its=h at *;generalize b.its=nb at *;generalize lift 1 X=Q at *;generalize lift 1 Y=T at *;clear E F ax ay f v n o;unfold pcV;unfold maxLen at *;go_enter func104,ntmps104;go_wp2_with fail;generalize w.alloc (.cells #[.int .i64 p.off,.int .i64 p.len,.int .i64 p.brk] 69)=d at *;refine(bl.out d bd.out).mono ?_;rintro e wx ⟨rfl,cd⟩;subst wx;go_wp2_with fail;refine(bm.out d be.out).mono ?_;rintro e wx ⟨rfl,cd⟩;subst wx;have K:=qG ((qO d.heap.size d).alloc lR (.cells #[] 71));have bo:=qG (bn.out d);have cr:=K.out.size;have q:=qG (af.out _ K.out);go_wp2_with fail;generalize d.alloc (.cells #[] 71)=w1 at *;refine q.out.mono ?_;rintro e az ⟨a0,ce,rfl,a1,G⟩;have cs:=G.size
 have bp:=qG (K.out.trans (G.mono (by omega)))
 have aj:=qG (zA bo.out G lR)
 have bq:=qG (show ∀j u,(itVs Q)[j]? =some u->az.cell? ((⟨a0,0,none⟩:Addr).add j)=some u from yF a1 ah.out (R:=[]) (by simp))
 clear a1 G q
 go_wp2_with (at_builtin;refine a26 _ rfl _ _ rfl d.heap.size _ (0) _ rfl (by exact aj.out) ⟨a0,0,none⟩ (h) (ce) (itVs (Q)) rfl (by rw [zH];have:=ah.out;omega) (by exact bq.out) (zU _) (by unfold maxLen;omega) (by omega) (by omega) ?_;intro b7 i C M ap;refine vW ?_)
 refine Lib.hid ?_;have ct:=M.size
 have ak:=qG (bp.out.trans ((qO d.heap.size az).grown M (by omega) (fun z k=>(aj.out.lt z k).1)))
 rw [show 0+(h)=h by omega]at C
 obtain⟨cf,c0,rfl⟩:∃g c,b7= .slice (some ⟨g,0,none⟩) (h) c:=by
  rcases C.2 with ⟨f,a2⟩ | ⟨g,c,ac,f,_⟩
  ·exact absurd (ap.1 f).1 (fun l=>by cases l)
  ·exact⟨_,_,f⟩
 have al:=qG C;clear C M ap;have x:=(ak.out.block w.heap.size bc).trans ba.out
 have br:i.cell? ⟨w.heap.size,0,none⟩=some (.int .i64 p.off):=by rw [qQ i _ 0 _ _ _ x];rfl
 have bs:i.cell? ⟨w.heap.size,1,none⟩=some (.int .i64 p.len):=by rw [qQ i _ 1 _ _ _ x];rfl
 have bt:i.cell? ⟨w.heap.size,2,none⟩=some (.int .i64 p.brk):=by rw [qQ i _ 2 _ _ _ x];rfl
 have am:=qG (zL i 71 [.int .i64 p.off,.int .i64 p.len,.int .i64 p.brk,.int .i64 0]);clear x
 go_wp2_with (at_builtin;refine a26 _ rfl _ _ rfl d.heap.size _ (h) _ rfl (by exact vL al.out _) ⟨i.heap.size,0,none⟩ 1 1 [.int .i64 p.off,.int .i64 p.len,.int .i64 p.brk,.int .i64 0] rfl rfl (by exact am.out) (by intro u aq;simp at aq;rcases aq with rfl | rfl | rfl | rfl<;>rfl) (by unfold maxLen;omega) (by omega) (by simp;omega) ?_;intro b8 ar N au _;refine vW ?_)
 refine Lib.hid ?_
 have L:=qG (ak.out.trans (((qO d.heap.size i).alloc (by omega) (.cells #[.int .i64 p.off,.int .i64 p.len,.int .i64 p.brk,.int .i64 0] 71)).grown au (by simp;omega) (fun z k=>(al.out.lt z k).1)))
 have cu:d.heap.size<=ar.heap.size:=L.out.size
 obtain⟨c1,c2,rfl⟩:∃g c,b8= .slice (some ⟨g,0,none⟩) (h+1) c:=by
  rcases N.2 with ⟨_,a2⟩ | ⟨g,c,ac,f,_⟩
  ·omega
  ·exact⟨_,_,f⟩
 have bu:=qG N;clear N au am br bs bt;have q:=qG (ag.out ar L.out);go_wp2_with fail;refine q.out.mono ?_;rintro e a3 ⟨a4,cg,rfl,a5,H⟩;have cv:=H.size
 have bv:=qG (L.out.trans (H.mono (by omega)))
 have an:=qG (zA bu.out H lR)
 have bw:=qG (show ∀j u,(itVs T)[j]? =some u->a3.cell? ((⟨a4,0,none⟩:Addr).add j)=some u from yF a5 ai.out (R:=[]) (by simp))
 clear a5 H q
 go_wp2_with (at_builtin;refine a26 _ rfl _ _ rfl d.heap.size _ (h+1) _ rfl (by exact an.out) ⟨a4,0,none⟩ (nb) (cg) (itVs (T)) rfl (by rw [zH];have:=ai.out;omega) (by exact bw.out) (zU _) (by unfold maxLen;omega) (by omega) (by omega) ?_;intro b9 O D P av;refine vW ?_)
 refine Lib.hid ?_;have cw:=P.size
 have bx:=qG (bv.out.trans ((qO d.heap.size a3).grown P (by omega) (fun z k=>(an.out.lt z k).1)))
 rw [show h+1+(nb)=h+1+nb by omega]at D
 obtain⟨a6,I,rfl⟩:∃g c,b9= .slice (some ⟨g,0,none⟩) (h+1+nb) c:=by
  rcases D.2 with ⟨f,a2⟩ | ⟨g,c,ac,f,_⟩
  ·exact absurd (av.1 f).1 (fun l=>by cases l)
  ·exact⟨_,_,f⟩
 have bz:=qG D;clear D P av
 have y:OwI O d.heap.size (.slice (some ⟨a6,0,none⟩) (h+1+nb) I) (R.told 0):=by
  have b0:=bz.out;unfold OwI;rw [AT.told_length,J.out]
  have b1:itVs (R.told 0)=([]:List Value)++itVs (Q)++ [.int .i64 p.off,.int .i64 p.len,.int .i64 p.brk,.int .i64 0]++itVs (T):=by rw [bk.out];simp [itVs,itV]
  rw [b1];exact b0
 obtain⟨ch,ci⟩:h+1+nb<=I∧I<=maxLen:=by
  rcases y.2 with ⟨f,_⟩ | ⟨cf,c3,ac,f,_,_,v,cj,_⟩
  ·cases f
  ·rw [AT.told_length,J.out]at f v;cases f;exact⟨v,cj⟩
 obtain⟨ck,c4,a7⟩:=bh.out
 have b2:=qG (yA d.heap.size a6 I (h+1+nb) U ⟨ch,ci⟩ (by omega) ck R O J.out a7 (by omega) y)
 have b3:=qG (fun z k=>(y.lt z k).1)
 clear y a7;go_wp2_with fail;refine b2.out.mono ?_;rintro e c5 ⟨rfl,a8,a9⟩
 have b4:=qG (bx.out.trans ((qO d.heap.size O).grown a9 (by omega) (fun z k=>b3.out z (by simpa [Value.ownBlock]using k))))
 have b5:=qG (m.out.trans (b4.out.mono (by omega)))
 have b6:=qG (zD a8 (show w.heap.size<=d.heap.size by omega))
 clear a8 a9;go_wp2;go_ret;exact⟨_,rfl,b6.out,b5.out⟩
theorem join1 (a d:AT) (p:Pc) (ds bb:Nat) (b0 b1:Value) (w:World) (b2:a.bal) (cv:d.bal) (ef:a.its+d.its<=8192) (a3:OwI w ds b0 (a.told 0)) (a4:OwI w bb b1 (d.told 0)) (i:d.ht+1<a.ht):
  Calls prog 104 #[b0,pcV p,b1] w fun e w'=>∃cu,e= .returned cu∧OwI w' w.heap.size cu ((AT.spl a p d).told 0)∧Below w.heap.size w w':=by
 have X:=qG ((qO w.heap.size w).alloc lR (.cells #[.int .i64 p.off,.int .i64 p.len,.int .i64 p.brk] 69))
 have ca:=qG (show(w.alloc (.cells #[.int .i64 p.off,.int .i64 p.len,.int .i64 p.brk] 69)).heap[w.heap.size]? =some (.cells #[.int .i64 p.off,.int .i64 p.len,.int .i64 p.brk] 69 (0,0))from xm _ _)
 have cb:w.heap.size<(w.alloc (.cells #[.int .i64 p.off,.int .i64 p.len,.int .i64 p.brk] 69)).heap.size:=by simp
 have cc:=qG (RdI.below a3.rd X.out lR);have cy:=qG (RdI.below a4.rd X.out lR);have a7:=qG (zA a3 X.out lR);have cz:=qG (zA a4 X.out lR);have a8:=AT.told_length a 0;have cd:=AT.told_length d 0;have ce:=qG a8;have c0:=qG cd
 have a9:=qG (yO a (by omega))
 have cf:=qG (yO d (by omega))
 have ba:=qG (AT.spl_fx a p d b2 cv);have N:=qG (AT.splR_its a p d);have c1:=qG (AT.ht_its a);have c2:=qG (AT.ht_its d)
 obtain⟨b,x,rfl,eg,eh⟩:∃b x,b0= .slice (some ⟨b,0,none⟩) a.its x∧a.its<=x∧x<=maxLen:=by
  rcases a3.2 with ⟨i,C⟩ | ⟨g,cp,I,i,_,_,C,ao,_⟩
  ·exact absurd C (by rw [a8];have:=AT.ht_its a;omega)
  ·rw [a8]at i C;exact⟨g,cp,i,C,ao⟩
 obtain⟨am,an,du⟩:∃am an,b1= .slice am d.its an:=by
  obtain⟨am,an,y⟩:=(OwI.rd a4).val
  exact⟨am,an,by rw [y,cd]⟩
 subst du
 have c3:=qG (fun W (b3:RdI w.heap.size W (.slice (some ⟨b,0,none⟩) a.its x) (a.told 0))=>yn w.heap.size _ (a.told 0) W b3 (by omega) a9.out (A:=[]) (B:=[]) (S:=a) (e:=0) (by simp) 0 (a.its:Int) rfl (by simp))
 have c4:=qG (fun W (b3:RdI w.heap.size W (.slice am d.its an) (d.told 0))=>yn w.heap.size _ (d.told 0) W b3 (by omega) cf.out (A:=[]) (B:=[]) (S:=d) (e:=0) (by simp) 0 (d.its:Int) rfl (by simp))
 have c5:=qG (fun W:World=>show(W.alloc (.cells #[] 71)).ownsRow W.heap.size 71 4 (.slice (some ⟨W.heap.size,0,none⟩) 0 0) 0 []from⟨rfl,.inr ⟨_,0,#[],rfl,lR,xm _ _,lR,by unfold maxLen;omega,rfl,rfl⟩⟩)
 have c6:=qG (EdR.start (p:=p) b2 (by omega:d.ht<=a.ht))
 have cg:=(a7.out.lt b rfl).2
 have d3:(d.ht:Int)+1<(a.ht:Int):=by omega
 have d4:=c1.out;have d5:=c2.out;obtain⟨R,b4⟩:∃R,R=AT.splR a p d:=⟨_,rfl⟩;have c7:=qG b4;rw [<- b4]at N ba;generalize AT.spl a p d=U at *;clear a3 a4 b2 cv i b4;unfold pcV;unfold maxLen at *;go_enter func104,ntmps104;go_wp2_with fail;generalize w.alloc (.cells #[.int .i64 p.off,.int .i64 p.len,.int .i64 p.brk] 69)=f at *;refine(c3.out f cc.out).mono ?_;rintro e wx ⟨rfl,a5⟩;subst wx;go_wp2_with fail;refine(c4.out f cy.out).mono ?_;rintro e wx ⟨rfl,a5⟩;subst wx;have bc:=qG ((qO f.heap.size f).alloc lR (.cells #[] 71));have c8:=qG (c5.out f);have d6:=bc.out.size
 have ch:=qG (RdI.below cc.out bc.out (by omega))
 go_wp2_with fail;generalize f.alloc (.cells #[] 71)=w1 at *
 go_loopw [10,11] (fun lo dr wr=>∃ (h:List It) (S:AT) (k:Int) (nq:Nat),EdR a d p h S k∧lo= .int .i64 (h.length:Int)∧dr= .int .i64 k∧wr=w1.drewN nq) (fun lo _ _=>a.its - (intOf lo).toNat)
 case atStart=>exact⟨[],a,0,0,c6.out,rfl,rfl,rfl⟩
 case round=>
  obtain⟨h,S,k,nq,D,rfl,rfl,rfl⟩:=hrel
  have ab:a.told 0=h++S.told k++ []:=by rw [D.list];simp
  have d7:h.length+S.its=a.its:=by have O:=kO List.length D.list;simp only [qM,AT.told_length]at O;omega
  have d8:0<=k∧k<=a.ht:=⟨D.lvl,by have:=D.top;omega⟩
  have bd:=qG (yn w.heap.size (.slice (some ⟨b,0,none⟩) a.its x) (a.told 0) (w1.drewN nq) (RdI.heap ch.out rfl) (by omega) a9.out ab (h.length:Int) (a.its:Int) rfl (by omega))
  by_cases hgt:d.ht+1<S.ht
  ·obtain⟨l,q,r,a6,cw⟩:=D.step hgt
   have c9:=qG (Xb w.heap.size (.slice (some ⟨b,0,none⟩) a.its x) (a.told 0) (w1.drewN nq) (RdI.heap ch.out rfl) (by omega) (A:=h) (B:=[]) (l:=l) (q:=q) (r:=r) (e:=k) (by rw [<- a6];exact ab) D.fit (h.length:Int) (a.its:Int) rfl (by rw [<- a6];omega))
   have d9:S.its=l.its+1+r.its:=by rw [a6];rfl
   have da:=qG cw
   have db:=qG (show(h++l.told (k+1)++ [(⟨q,k⟩:It)]).length=h.length+l.its+1 from(by simp only [qM,AT.told_length,q9,xC]))
   have dc:(d.ht:Int)+1<(S.ht:Int):=by omega
   clear D cw ab a6 hgt;go_wp2_with fail;refine bd.out.mono ?_;rintro e wx ⟨rfl,a5⟩;subst wx;go_wp2_with fail;refine c9.out.mono ?_;rintro e wx ⟨rfl,dv,a5⟩;subst wx;go_wp2;go_roundw
   case rel=>exact⟨_,r,k+1,nq+dv,da.out,by rw [db.out];go_num,by go_num,by first | exact World.drewN_drewN _ _ _ | rfl⟩
   case measure=>simp [intOf];omega
  ·have ci:=qG (show R.told 0=h++lift 1 (S.told k)++⟨p,k⟩::lift (k+1) (d.told 0)from(by rw [c7.out,jK,jK,Int.zero_add];exact D.done hgt))
   have cj:=qG D.list
   have ck:=qG (show a.its - h.length=S.its by omega)
   have dd:=qG (XF ab a9.out)
   have de:=qG (fun W (H:Below f.heap.size f W)=>yF (zA a7.out H lR) ce.out cj.out)
   have cl:=qG (fun W (v:Value) (H:Below f.heap.size f W) (dt:SrcI W v (S.told k))=>liftS 1 (S.told k) v W dt (by rw [AT.told_length];omega) (by omega) dd.out)
   have df:=qG (fun W (H:Below f.heap.size f W)=>(show SrcI W (.slice (some ⟨b,h.length*4,none⟩) (a.its - h.length) (x - h.length)) (S.told k)from .inr ⟨b,h.length*4,x - h.length,by rw [AT.told_length,ck.out],xz cg H.size,JW (zA a7.out H lR) ce.out cj.out⟩))
   have dg:=qG (fun(W:World) (H:Below f.heap.size f W) (M:S.its=0)=>(show SrcI W (.slice (some ⟨b,0,none⟩) 0 0) (S.told k)from(by
    have O:S.told k= []:=qU (by rw [AT.told_length];exact M)
    rw [O]
    exact .inr ⟨b,0,0,rfl,xz cg H.size,by intro j u dp;simp [itVs]at dp⟩)))
   have be:=qG (fun W (H:Below f.heap.size f W)=>liftS (k+1) (d.told 0) _ W (SrcI.of (zA cz.out H lR)) (by omega) (by omega) cf.out)
   have az:=qG ((yX 1 (S.told k)).trans (AT.told_length S k));have a0:=qG ((yX (k+1) (d.told 0)).trans c0.out);rw [AT.told_length]at be;have cm:=qG (AT.told_length S k);generalize lift 1 (S.told k)=Z at *;generalize lift (k+1) (d.told 0)=aa at *
   have dc:¬ (d.ht:Int)+1<(S.ht:Int):=by omega
   have ea:(h.length:Int)<=(x:Int):=by omega
   have cn:=qG (bc.out.trans (show Below f.heap.size w1 (w1.drewN nq)from⟨rfl,rfl,rfl,lR,fun _ _=>rfl⟩))
   have co:=qG (zB (w':=w1.drewN nq) c8.out (fun _ _=>rfl))
   have eb:w1.heap.size<=(w1.drewN nq).heap.size:=lR;clear D hgt ab;go_wp2_with fail;refine bd.out.mono ?_;rintro e wx ⟨rfl,a5⟩;subst wx;clear bd;generalize w1.drewN nq=ct at *;have dh:=qG (de.out ct cn.out)
   have ec:h.length<=a.its:=by omega
   go_wp2_with (at_builtin;refine a26 _ rfl _ _ rfl f.heap.size _ (0) _ rfl (by exact co.out) ⟨b,0,none⟩ (h.length) (x) (itVs (h)) rfl (by rw [zH];skip) (by exact dh.out) (zU _) (by unfold maxLen;omega) (by omega) (by omega) ?_;intro dq a1 a2 bv cs;refine vW ?_)
   refine Lib.hid ?_;have ed:=bv.size
   have Y:=qG (cn.out.trans ((qO f.heap.size ct).grown bv (by omega) (fun z m=>(co.out.lt z m).1)))
   rw [show 0+(h.length)=h.length by omega]at a2
   obtain⟨cx,ei,rfl⟩:∃g c,dq= .slice (some ⟨g,0,none⟩) (h.length) c:=by
    rcases a2.2 with ⟨i,M⟩ | ⟨g,c,I,i,_⟩
    ·exact absurd (cs.1 i).1 (fun y=>by cases y)
    ·exact⟨_,_,i⟩
   have cq:=qG a2;clear a2 bv cs
   by_cases ee:x=h.length
   ·have cr:S.its=0:=by omega
    have di:a.its=h.length:=by omega
    have s:=qG (cl.out a1 _ Y.out (dg.out a1 Y.out cr));rw [cm.out,cr]at s;go_wp2_with fail;refine s.out.mono ?_;rintro e ap ⟨aq,b5,rfl,ar,J⟩;have dj:=J.size
    have bf:=qG (Y.out.trans (J.mono (by omega)))
    have ac:=qG (zA cq.out J lR)
    have bg:=qG (show ∀j u,(itVs Z)[j]? =some u->ap.cell? ((⟨aq,0,none⟩:Addr).add j)=some u from yF ar (by rw [az.out];omega) (R:=[]) (by simp))
    clear ar J s;clear di
    go_wp2_with (at_builtin;refine a26 _ rfl _ _ rfl f.heap.size _ (h.length) _ rfl (by exact ac.out) ⟨aq,0,none⟩ (0) (b5) (itVs (Z)) rfl (by rw [zH];have:=az.out;omega) (by exact bg.out) (zU _) (by unfold maxLen;omega) (by omega) (by omega) ?_;intro bw n G Q ah;refine vW ?_)
    refine Lib.hid ?_;have dk:=Q.size
    have ad:=qG (bf.out.trans ((qO f.heap.size ap).grown Q (by omega) (fun z m=>(ac.out.lt z m).1)))
    rw [show h.length+(0)=h.length by omega]at G
    obtain⟨dw,dx,rfl⟩:∃g c,bw= .slice (some ⟨g,0,none⟩) (h.length) c:=by
     rcases G.2 with ⟨i,M⟩ | ⟨g,c,I,i,_⟩
     ·exact absurd (ah.1 i).1 (fun y=>by cases y)
     ·exact⟨_,_,i⟩
    have ae:=qG G;clear G Q ah;have E:=(ad.out.block w.heap.size cb).trans ca.out
    have bh:n.cell? ⟨w.heap.size,0,none⟩=some (.int .i64 p.off):=by rw [qQ n _ 0 _ _ _ E];rfl
    have bi:n.cell? ⟨w.heap.size,1,none⟩=some (.int .i64 p.len):=by rw [qQ n _ 1 _ _ _ E];rfl
    have bj:n.cell? ⟨w.heap.size,2,none⟩=some (.int .i64 p.brk):=by rw [qQ n _ 2 _ _ _ E];rfl
    have af:=qG (zL n 71 [.int .i64 p.off,.int .i64 p.len,.int .i64 p.brk,.int .i64 k]);clear E
    go_wp2_with (at_builtin;refine a26 _ rfl _ _ rfl f.heap.size _ (h.length) _ rfl (by exact vL ae.out _) ⟨n.heap.size,0,none⟩ 1 1 [.int .i64 p.off,.int .i64 p.len,.int .i64 p.brk,.int .i64 k] rfl rfl (by exact af.out) (by intro u ai;simp at ai;rcases ai with rfl | rfl | rfl | rfl<;>rfl) (by unfold maxLen;omega) (by omega) (by simp;omega) ?_;intro bx aj T ak _;refine vW ?_)
    refine Lib.hid ?_
    have P:=qG (ad.out.trans (((qO f.heap.size n).alloc (by omega) (.cells #[.int .i64 p.off,.int .i64 p.len,.int .i64 p.brk,.int .i64 k] 71)).grown ak (by simp;omega) (fun z m=>(ae.out.lt z m).1)))
    have dl:f.heap.size<=aj.heap.size:=P.out.size
    obtain⟨dy,dz,rfl⟩:∃g c,bx= .slice (some ⟨g,0,none⟩) (h.length+1) c:=by
     rcases T.2 with ⟨_,M⟩ | ⟨g,c,I,i,_⟩
     ·omega
     ·exact⟨_,_,i⟩
    have bk:=qG T;clear T ak af bh bi bj;have s:=qG (be.out aj P.out);go_wp2_with fail;refine s.out.mono ?_;rintro e au ⟨av,b6,rfl,aw,K⟩;have dm:=K.size
    have bl:=qG (P.out.trans (K.mono (by omega)))
    have ag:=qG (zA bk.out K lR)
    have bm:=qG (show ∀j u,(itVs aa)[j]? =some u->au.cell? ((⟨av,0,none⟩:Addr).add j)=some u from yF aw a0.out (R:=[]) (by simp))
    clear aw K s
    go_wp2_with (at_builtin;refine a26 _ rfl _ _ rfl f.heap.size _ (h.length+1) _ rfl (by exact ag.out) ⟨av,0,none⟩ (d.its) (b6) (itVs (aa)) rfl (by rw [zH];have:=a0.out;omega) (by exact bm.out) (zU _) (by unfold maxLen;omega) (by omega) (by omega) ?_;intro bz V o t al;refine vW ?_)
    refine Lib.hid ?_;have dn:=t.size
    have bn:=qG (bl.out.trans ((qO f.heap.size au).grown t (by omega) (fun z m=>(ag.out.lt z m).1)))
    rw [show h.length+1+(d.its)=a.its+1+d.its by omega]at o
    obtain⟨ax,L,rfl⟩:∃g c,bz= .slice (some ⟨g,0,none⟩) (a.its+1+d.its) c:=by
     rcases o.2 with ⟨i,M⟩ | ⟨g,c,I,i,_⟩
     ·exact absurd (al.1 i).1 (fun y=>by cases y)
     ·exact⟨_,_,i⟩
    have bo:=qG o;clear o t al
    have F:OwI V f.heap.size (.slice (some ⟨ax,0,none⟩) (a.its+1+d.its) L) (R.told 0):=by
     have O:=bo.out;unfold OwI;rw [AT.told_length,N.out]
     have bp:itVs (R.told 0)=([]:List Value)++itVs (h)++itVs (Z)++ [.int .i64 p.off,.int .i64 p.len,.int .i64 p.brk,.int .i64 k]++itVs (aa):=by rw [ci.out];simp [itVs,itV]
     rw [bp];exact O
    obtain⟨b7,b8⟩:a.its+1+d.its<=L∧L<=maxLen:=by
     rcases F.2 with ⟨i,_⟩ | ⟨cx,d0,I,i,_,_,C,ao,_⟩
     ·cases i
     ·rw [AT.told_length,N.out]at i C;cases i;exact⟨C,ao⟩
    obtain⟨b9,d1,ay⟩:=ba.out
    have bq:=qG (yA f.heap.size ax L (a.its+1+d.its) U ⟨b7,b8⟩ (by omega) b9 R V N.out ay (by omega) F)
    have br:=qG (fun z m=>(F.lt z m).1)
    clear F ay;go_wp2_with fail;refine bq.out.mono ?_;rintro e d2 ⟨rfl,o,t⟩
    have bs:=qG (bn.out.trans ((qO f.heap.size V).grown t (by omega) (fun z m=>br.out z (by simpa [Value.ownBlock]using m))))
    have bt:=qG (X.out.trans (bs.out.mono (by omega)))
    have bu:=qG (zD o (show w.heap.size<=f.heap.size by omega))
    clear o t;go_wp2;go_ret;exact⟨_,rfl,bu.out,bt.out⟩
   ·have s:=qG (cl.out a1 _ Y.out (df.out a1 Y.out))
    rw [cm.out,<- ck.out]at s;go_wp2_with fail;refine s.out.mono ?_;rintro e ap ⟨aq,b5,rfl,ar,J⟩;have dj:=J.size
    have bf:=qG (Y.out.trans (J.mono (by omega)))
    have ac:=qG (zA cq.out J lR)
    have bg:=qG (show ∀j u,(itVs Z)[j]? =some u->ap.cell? ((⟨aq,0,none⟩:Addr).add j)=some u from yF ar (by rw [az.out];omega) (R:=[]) (by simp))
    clear ar J s
    go_wp2_with (at_builtin;refine a26 _ rfl _ _ rfl f.heap.size _ (h.length) _ rfl (by exact ac.out) ⟨aq,0,none⟩ (a.its - h.length) (b5) (itVs (Z)) rfl (by rw [zH];have:=az.out;omega) (by exact bg.out) (zU _) (by unfold maxLen;omega) (by omega) (by omega) ?_;intro bw n G Q ah;refine vW ?_)
    refine Lib.hid ?_;have dk:=Q.size
    have ad:=qG (bf.out.trans ((qO f.heap.size ap).grown Q (by omega) (fun z m=>(ac.out.lt z m).1)))
    rw [show h.length+(a.its - h.length)=a.its by omega]at G
    obtain⟨dw,dx,rfl⟩:∃g c,bw= .slice (some ⟨g,0,none⟩) (a.its) c:=by
     rcases G.2 with ⟨i,M⟩ | ⟨g,c,I,i,_⟩
     ·exact absurd (ah.1 i).1 (fun y=>by cases y)
     ·exact⟨_,_,i⟩
    have ae:=qG G;clear G Q ah;have E:=(ad.out.block w.heap.size cb).trans ca.out
    have bh:n.cell? ⟨w.heap.size,0,none⟩=some (.int .i64 p.off):=by rw [qQ n _ 0 _ _ _ E];rfl
    have bi:n.cell? ⟨w.heap.size,1,none⟩=some (.int .i64 p.len):=by rw [qQ n _ 1 _ _ _ E];rfl
    have bj:n.cell? ⟨w.heap.size,2,none⟩=some (.int .i64 p.brk):=by rw [qQ n _ 2 _ _ _ E];rfl
    have af:=qG (zL n 71 [.int .i64 p.off,.int .i64 p.len,.int .i64 p.brk,.int .i64 k]);clear E
    go_wp2_with (at_builtin;refine a26 _ rfl _ _ rfl f.heap.size _ (a.its) _ rfl (by exact vL ae.out _) ⟨n.heap.size,0,none⟩ 1 1 [.int .i64 p.off,.int .i64 p.len,.int .i64 p.brk,.int .i64 k] rfl rfl (by exact af.out) (by intro u ai;simp at ai;rcases ai with rfl | rfl | rfl | rfl<;>rfl) (by unfold maxLen;omega) (by omega) (by simp;omega) ?_;intro bx aj T ak _;refine vW ?_)
    refine Lib.hid ?_
    have P:=qG (ad.out.trans (((qO f.heap.size n).alloc (by omega) (.cells #[.int .i64 p.off,.int .i64 p.len,.int .i64 p.brk,.int .i64 k] 71)).grown ak (by simp;omega) (fun z m=>(ae.out.lt z m).1)))
    have dl:f.heap.size<=aj.heap.size:=P.out.size
    obtain⟨dy,dz,rfl⟩:∃g c,bx= .slice (some ⟨g,0,none⟩) (a.its+1) c:=by
     rcases T.2 with ⟨_,M⟩ | ⟨g,c,I,i,_⟩
     ·omega
     ·exact⟨_,_,i⟩
    have bk:=qG T;clear T ak af bh bi bj;have s:=qG (be.out aj P.out);go_wp2_with fail;refine s.out.mono ?_;rintro e au ⟨av,b6,rfl,aw,K⟩;have dm:=K.size
    have bl:=qG (P.out.trans (K.mono (by omega)))
    have ag:=qG (zA bk.out K lR)
    have bm:=qG (show ∀j u,(itVs aa)[j]? =some u->au.cell? ((⟨av,0,none⟩:Addr).add j)=some u from yF aw a0.out (R:=[]) (by simp))
    clear aw K s
    go_wp2_with (at_builtin;refine a26 _ rfl _ _ rfl f.heap.size _ (a.its+1) _ rfl (by exact ag.out) ⟨av,0,none⟩ (d.its) (b6) (itVs (aa)) rfl (by rw [zH];have:=a0.out;omega) (by exact bm.out) (zU _) (by unfold maxLen;omega) (by omega) (by omega) ?_;intro bz V o t al;refine vW ?_)
    refine Lib.hid ?_;have dn:=t.size
    have bn:=qG (bl.out.trans ((qO f.heap.size au).grown t (by omega) (fun z m=>(ag.out.lt z m).1)))
    rw [show a.its+1+(d.its)=a.its+1+d.its by omega]at o
    obtain⟨ax,L,rfl⟩:∃g c,bz= .slice (some ⟨g,0,none⟩) (a.its+1+d.its) c:=by
     rcases o.2 with ⟨i,M⟩ | ⟨g,c,I,i,_⟩
     ·exact absurd (al.1 i).1 (fun y=>by cases y)
     ·exact⟨_,_,i⟩
    have bo:=qG o;clear o t al
    have F:OwI V f.heap.size (.slice (some ⟨ax,0,none⟩) (a.its+1+d.its) L) (R.told 0):=by
     have O:=bo.out;unfold OwI;rw [AT.told_length,N.out]
     have bp:itVs (R.told 0)=([]:List Value)++itVs (h)++itVs (Z)++ [.int .i64 p.off,.int .i64 p.len,.int .i64 p.brk,.int .i64 k]++itVs (aa):=by rw [ci.out];simp [itVs,itV]
     rw [bp];exact O
    obtain⟨b7,b8⟩:a.its+1+d.its<=L∧L<=maxLen:=by
     rcases F.2 with ⟨i,_⟩ | ⟨cx,d0,I,i,_,_,C,ao,_⟩
     ·cases i
     ·rw [AT.told_length,N.out]at i C;cases i;exact⟨C,ao⟩
    obtain⟨b9,d1,ay⟩:=ba.out
    have bq:=qG (yA f.heap.size ax L (a.its+1+d.its) U ⟨b7,b8⟩ (by omega) b9 R V N.out ay (by omega) F)
    have br:=qG (fun z m=>(F.lt z m).1)
    clear F ay;go_wp2_with fail;refine bq.out.mono ?_;rintro e d2 ⟨rfl,o,t⟩
    have bs:=qG (bn.out.trans ((qO f.heap.size V).grown t (by omega) (fun z m=>br.out z (by simpa [Value.ownBlock]using m))))
    have bt:=qG (X.out.trans (bs.out.mono (by omega)))
    have bu:=qG (zD o (show w.heap.size<=f.heap.size by omega))
    clear o t;go_wp2;go_ret;exact⟨_,rfl,bu.out,bt.out⟩
theorem join2 (a d:AT) (p:Pc) (c9 bb:Nat) (am an:Value) (w:World) (bp:a.bal) (ap:d.bal) (d0:a.its+d.its<=8192) (P:OwI w c9 am (a.told 0)) (Q:OwI w bb an (d.told 0)) (h:a.ht+1<d.ht):
  Calls prog 104 #[am,pcV p,an] w fun e w'=>∃bo,e= .returned bo∧OwI w' w.heap.size bo ((AT.spl a p d).told 0)∧Below w.heap.size w w':=by
 have D:=qG ((qO w.heap.size w).alloc lR (.cells #[.int .i64 p.off,.int .i64 p.len,.int .i64 p.brk] 69))
 have b0:=qG (show(w.alloc (.cells #[.int .i64 p.off,.int .i64 p.len,.int .i64 p.brk] 69)).heap[w.heap.size]? =some (.cells #[.int .i64 p.off,.int .i64 p.len,.int .i64 p.brk] 69 (0,0))from xm _ _)
 have b1:w.heap.size<(w.alloc (.cells #[.int .i64 p.off,.int .i64 p.len,.int .i64 p.brk] 69)).heap.size:=by simp
 have b2:=qG (RdI.below P.rd D.out lR);have av:=qG (RdI.below Q.rd D.out lR);have b3:=qG (zA P D.out lR);have aa:=qG (zA Q D.out lR);have aw:=AT.told_length a 0;have ab:=AT.told_length d 0;have b4:=qG aw;have ax:=qG ab
 have ay:=qG (yO a (by omega))
 have ac:=qG (yO d (by omega))
 have az:=qG (AT.spl_fx a p d bp ap);have K:=qG (AT.splR_its a p d);have b5:=qG (AT.ht_its a);have b6:=qG (AT.ht_its d)
 obtain⟨b,k,rfl,d1,d2⟩:∃b k,an= .slice (some ⟨b,0,none⟩) d.its k∧d.its<=k∧k<=maxLen:=by
  rcases Q.2 with ⟨h,x⟩ | ⟨g,cp,J,h,_,_,x,ar,_⟩
  ·exact absurd x (by rw [ab];have:=AT.ht_its d;omega)
  ·rw [ab]at h x;exact⟨g,cp,h,x,ar⟩
 obtain⟨ao,I,da⟩:∃ao I,am= .slice ao a.its I:=by
  obtain⟨ao,I,m⟩:=(OwI.rd P).val
  exact⟨ao,I,by rw [m,aw]⟩
 subst da
 have b7:=qG (fun W (aq:RdI w.heap.size W (.slice ao a.its I) (a.told 0))=>yn w.heap.size _ (a.told 0) W aq (by omega) ay.out (A:=[]) (B:=[]) (S:=a) (e:=0) (by simp) 0 (a.its:Int) rfl (by simp))
 have b8:=qG (fun W (aq:RdI w.heap.size W (.slice (some ⟨b,0,none⟩) d.its k) (d.told 0))=>yn w.heap.size _ (d.told 0) W aq (by omega) ac.out (A:=[]) (B:=[]) (S:=d) (e:=0) (by simp) 0 (d.its:Int) rfl (by simp))
 have b9:=qG (fun W:World=>show(W.alloc (.cells #[] 71)).ownsRow W.heap.size 71 4 (.slice (some ⟨W.heap.size,0,none⟩) 0 0) 0 []from⟨rfl,.inr ⟨_,0,#[],rfl,lR,xm _ _,lR,by unfold maxLen;omega,rfl,rfl⟩⟩)
 have ca:=qG (EdL.start (p:=p) ap (by omega:a.ht<=d.ht))
 have cb:=(aa.out.lt b rfl).2
 have dh:¬ (d.ht:Int)+1<(a.ht:Int):=by omega
 have di:(a.ht:Int)+1<(d.ht:Int):=by omega
 have dj:=b5.out;have dk:=b6.out;obtain⟨R,au⟩:∃R,R=AT.splR a p d:=⟨_,rfl⟩;have cc:=qG au;rw [<- au]at K az;generalize AT.spl a p d=U at *;clear P Q bp ap au;unfold pcV;unfold maxLen at *;go_enter func104,ntmps104;go_wp2_with fail;generalize w.alloc (.cells #[.int .i64 p.off,.int .i64 p.len,.int .i64 p.brk] 69)=f at *;refine(b7.out f b2.out).mono ?_;rintro e wx ⟨rfl,T⟩;subst wx;go_wp2_with fail;refine(b8.out f av.out).mono ?_;rintro e wx ⟨rfl,T⟩;subst wx;have ad:=qG ((qO f.heap.size f).alloc lR (.cells #[] 71));have cd:=qG (b9.out f);have dl:=ad.out.size
 have a0:=qG (RdI.below av.out ad.out (by omega))
 go_wp2_with fail;generalize f.alloc (.cells #[] 71)=w1 at *
 go_loopw [12,13] (fun m c8 wr=>∃ (s:List It) (S:AT) (i:Int) (nq:Nat),EdL a d p s S i∧m= .int .i64 (S.its:Int)∧c8= .int .i64 i∧wr=w1.drewN nq) (fun m _ _=>(intOf m).toNat)
 case atStart=>exact⟨[],d,0,0,ca.out,rfl,rfl,rfl⟩
 case round=>
  obtain⟨s,S,i,nq,o,rfl,rfl,rfl⟩:=hrel
  have E:d.told 0= []++S.told i++s:=by rw [o.list];simp
  have dm:S.its+s.length=d.its:=by have F:=kO List.length o.list;simp only [qM,AT.told_length]at F;omega
  have dn:0<=i∧i<=d.ht:=⟨o.lvl,by have:=o.top;omega⟩
  have ae:=qG (yn w.heap.size (.slice (some ⟨b,0,none⟩) d.its k) (d.told 0) (w1.drewN nq) (RdI.heap a0.out rfl) (by omega) ac.out E 0 (S.its:Int) rfl (by simp))
  by_cases hgt:a.ht+1<S.ht
  ·obtain⟨l,q,r,V,bq⟩:=o.step hgt
   have a1:=qG (Xb w.heap.size (.slice (some ⟨b,0,none⟩) d.its k) (d.told 0) (w1.drewN nq) (RdI.heap a0.out rfl) (by omega) (A:=[]) (B:=s) (l:=l) (q:=q) (r:=r) (e:=i) (by rw [<- V];exact E) o.fit 0 (S.its:Int) rfl (by rw [<- V];simp))
   rw [xC,xN]at a1
   have ce:=qG (show S.its=l.its+1+r.its from(by rw [V];rfl))
   have cf:=qG bq
   have cg:(a.ht:Int)+1<(S.ht:Int):=by omega
   clear o bq E V hgt;go_wp2_with fail;refine ae.out.mono ?_;rintro e wx ⟨rfl,T⟩;subst wx;go_wp2_with fail;refine a1.out.mono ?_;rintro e wx ⟨rfl,db,T⟩;subst wx;go_wp2;go_roundw
   case rel=>exact⟨_,l,i+1,nq+db,cf.out,rfl,by go_num,by first | exact World.drewN_drewN _ _ _ | rfl⟩
   case measure=>have:=ce.out;simp [intOf];omega
  ·have ch:=qG (show R.told 0=lift (i+1) (a.told 0)++⟨p,i⟩::(lift 1 (S.told i)++s)from(by rw [cc.out,jK,jK,Int.zero_add];exact o.done hgt))
   have a2:=qG o.list
   have dp:s.length≠0:=by
    intro H;have F:s= []:=qU H
    have ci:Go.Proofs.YtljdnoinennfaaaGreatDoor.hgt (d.told 0)=Go.Proofs.YtljdnoinennfaaaGreatDoor.hgt (S.told i):=by rw [o.list,F,kA]
    rw [Zd,Zd]at ci;omega
   have cj:=qG (XF E ac.out)
   have a3:=qG (fun W (C:Below f.heap.size f W)=>JW (zA aa.out C lR) ax.out a2.out)
   rw [AT.told_length]at a3
   have a4:=qG (fun W (C:Below f.heap.size f W)=>liftS 1 (S.told i) (.slice (some ⟨b,0,none⟩) S.its k) W (.inr ⟨b,0,k,by rw [AT.told_length],xz cb C.size,yF (zA aa.out C lR) ax.out a2.out⟩) (by rw [AT.told_length];omega) (by omega) cj.out)
   have a5:=qG (fun W (C:Below f.heap.size f W)=>liftS (i+1) (a.told 0) _ W (SrcI.of (zA b3.out C lR)) (by omega) (by omega) ay.out)
   have a6:=qG ((yX (i+1) (a.told 0)).trans b4.out);have a7:=qG ((yX 1 (S.told i)).trans (AT.told_length S i));rw [AT.told_length]at a5 a4;generalize lift 1 (S.told i)=ak at *;generalize lift (i+1) (a.told 0)=al at *
   have cg:¬ (a.ht:Int)+1<(S.ht:Int):=by omega
   have dq:(S.its:Int)<=(k:Int):=by omega
   have dr:S.its<k:=by omega
   have ds:S.its<d.its:=by omega
   have a8:=qG (ad.out.trans (show Below f.heap.size w1 (w1.drewN nq)from⟨rfl,rfl,rfl,lR,fun _ _=>rfl⟩))
   have ck:=qG (zB (w':=w1.drewN nq) cd.out (fun _ _=>rfl))
   have dt:w1.heap.size<=(w1.drewN nq).heap.size:=lR;clear o hgt E h;go_wp2_with fail;refine ae.out.mono ?_;rintro e wx ⟨rfl,T⟩;subst wx;clear ae;generalize w1.drewN nq=c7 at *;have G:=qG (a5.out c7 a8.out);go_wp2_with fail;refine G.out.mono ?_;rintro e br ⟨bs,dc,rfl,bt,X⟩;have du:=X.size
   have cl:=qG (a8.out.trans (X.mono (by omega)))
   have a9:=qG (zA ck.out X lR)
   have cm:=qG (show ∀j u,(itVs al)[j]? =some u->br.cell? ((⟨bs,0,none⟩:Addr).add j)=some u from yF bt a6.out (R:=[]) (by simp))
   clear bt X G
   go_wp2_with (at_builtin;refine a26 _ rfl _ _ rfl f.heap.size _ (0) _ rfl (by exact a9.out) ⟨bs,0,none⟩ (a.its) (dc) (itVs (al)) rfl (by rw [zH];have:=a6.out;omega) (by exact cm.out) (zU _) (by unfold maxLen;omega) (by omega) (by omega) ?_;intro c3 t N ag bh;refine vW ?_)
   refine Lib.hid ?_;have dv:=ag.size
   have ba:=qG (cl.out.trans ((qO f.heap.size br).grown ag (by omega) (fun z n=>(a9.out.lt z n).1)))
   rw [show 0+(a.its)=a.its by omega]at N
   obtain⟨d3,d4,rfl⟩:∃g c,c3= .slice (some ⟨g,0,none⟩) (a.its) c:=by
    rcases N.2 with ⟨h,H⟩ | ⟨g,c,J,h,_⟩
    ·exact absurd (bh.1 h).1 (fun m=>by cases m)
    ·exact⟨_,_,h⟩
   have bc:=qG N;clear N ag bh;have L:=(ba.out.block w.heap.size b1).trans b0.out
   have cn:t.cell? ⟨w.heap.size,0,none⟩=some (.int .i64 p.off):=by rw [qQ t _ 0 _ _ _ L];rfl
   have co:t.cell? ⟨w.heap.size,1,none⟩=some (.int .i64 p.len):=by rw [qQ t _ 1 _ _ _ L];rfl
   have cq:t.cell? ⟨w.heap.size,2,none⟩=some (.int .i64 p.brk):=by rw [qQ t _ 2 _ _ _ L];rfl
   have bd:=qG (zL t 71 [.int .i64 p.off,.int .i64 p.len,.int .i64 p.brk,.int .i64 i]);clear L
   go_wp2_with (at_builtin;refine a26 _ rfl _ _ rfl f.heap.size _ (a.its) _ rfl (by exact vL bc.out _) ⟨t.heap.size,0,none⟩ 1 1 [.int .i64 p.off,.int .i64 p.len,.int .i64 p.brk,.int .i64 i] rfl rfl (by exact bd.out) (by intro u bi;simp at bi;rcases bi with rfl | rfl | rfl | rfl<;>rfl) (by unfold maxLen;omega) (by omega) (by simp;omega) ?_;intro c4 bj ah bk _;refine vW ?_)
   refine Lib.hid ?_
   have af:=qG (ba.out.trans (((qO f.heap.size t).alloc (by omega) (.cells #[.int .i64 p.off,.int .i64 p.len,.int .i64 p.brk,.int .i64 i] 71)).grown bk (by simp;omega) (fun z n=>(bc.out.lt z n).1)))
   have dw:f.heap.size<=bj.heap.size:=af.out.size
   obtain⟨d5,d6,rfl⟩:∃g c,c4= .slice (some ⟨g,0,none⟩) (a.its+1) c:=by
    rcases ah.2 with ⟨_,H⟩ | ⟨g,c,J,h,_⟩
    ·omega
    ·exact⟨_,_,h⟩
   have cr:=qG ah;clear ah bk bd cn co cq;have G:=qG (a4.out bj af.out);go_wp2_with fail;refine G.out.mono ?_;rintro e bu ⟨bv,dd,rfl,bw,Y⟩;have dx:=Y.size
   have cs:=qG (af.out.trans (Y.mono (by omega)))
   have be:=qG (zA cr.out Y lR)
   have ct:=qG (show ∀j u,(itVs ak)[j]? =some u->bu.cell? ((⟨bv,0,none⟩:Addr).add j)=some u from yF bw a7.out (R:=[]) (by simp))
   clear bw Y G
   go_wp2_with (at_builtin;refine a26 _ rfl _ _ rfl f.heap.size _ (a.its+1) _ rfl (by exact be.out) ⟨bv,0,none⟩ (S.its) (dd) (itVs (ak)) rfl (by rw [zH];have:=a7.out;omega) (by exact ct.out) (zU _) (by unfold maxLen;omega) (by omega) (by omega) ?_;intro c5 bl O ai bm;refine vW ?_)
   refine Lib.hid ?_;have dy:=ai.size
   have bf:=qG (cs.out.trans ((qO f.heap.size bu).grown ai (by omega) (fun z n=>(be.out.lt z n).1)))
   rw [show a.its+1+(S.its)=a.its+1+S.its by omega]at O
   obtain⟨d7,d8,rfl⟩:∃g c,c5= .slice (some ⟨g,0,none⟩) (a.its+1+S.its) c:=by
    rcases O.2 with ⟨h,H⟩ | ⟨g,c,J,h,_⟩
    ·exact absurd (bm.1 h).1 (fun m=>by cases m)
    ·exact⟨_,_,h⟩
   have bg:=qG O;clear O ai bm;have cu:=qG (a3.out bl bf.out)
   go_wp2_with (at_builtin;refine a26 _ rfl _ _ rfl f.heap.size _ (a.its+1+S.its) _ rfl (by exact bg.out) ⟨b,S.its*4,none⟩ (d.its - S.its) (k - S.its) (itVs (s)) rfl (by rw [zH];omega) (by exact cu.out) (zU _) (by unfold maxLen;omega) (by omega) (by omega) ?_;intro c6 aj v y bn;refine vW ?_)
   refine Lib.hid ?_;have dz:=y.size
   have cv:=qG (bf.out.trans ((qO f.heap.size bl).grown y (by omega) (fun z n=>(bg.out.lt z n).1)))
   rw [show a.its+1+S.its+(d.its - S.its)=a.its+1+d.its by omega]at v
   obtain⟨bx,Z,rfl⟩:∃g c,c6= .slice (some ⟨g,0,none⟩) (a.its+1+d.its) c:=by
    rcases v.2 with ⟨h,H⟩ | ⟨g,c,J,h,_⟩
    ·exact absurd (bn.1 h).1 (fun m=>by cases m)
    ·exact⟨_,_,h⟩
   have cw:=qG v;clear v y bn
   have M:OwI aj f.heap.size (.slice (some ⟨bx,0,none⟩) (a.its+1+d.its) Z) (R.told 0):=by
    have F:=cw.out;unfold OwI;rw [AT.told_length,K.out]
    have cx:itVs (R.told 0)=([]:List Value)++itVs (al)++ [.int .i64 p.off,.int .i64 p.len,.int .i64 p.brk,.int .i64 i]++itVs (ak)++itVs (s):=by rw [ch.out];simp [itVs,itV]
    rw [cx];exact F
   obtain⟨de,df⟩:a.its+1+d.its<=Z∧Z<=maxLen:=by
    rcases M.2 with ⟨h,_⟩ | ⟨d9,ea,J,h,_,_,x,ar,_⟩
    ·cases h
    ·rw [AT.told_length,K.out]at h x;cases h;exact⟨x,ar⟩
   obtain⟨dg,eb,bz⟩:=az.out
   have cy:=qG (yA f.heap.size bx Z (a.its+1+d.its) U ⟨de,df⟩ (by omega) dg R aj K.out bz (by omega) M)
   have cz:=qG (fun z n=>(M.lt z n).1)
   clear M bz;go_wp2_with fail;refine cy.out.mono ?_;rintro e ec ⟨rfl,v,y⟩
   have c0:=qG (cv.out.trans ((qO f.heap.size aj).grown y (by omega) (fun z n=>cz.out z (by simpa [Value.ownBlock]using n))))
   have c1:=qG (D.out.trans (c0.out.mono (by omega)))
   have c2:=qG (zD v (show w.heap.size<=f.heap.size by omega))
   clear v y;go_wp2;go_ret;exact⟨_,rfl,c2.out,c1.out⟩
theorem joinS (a b:AT) (p:Pc) (f bb:Nat) (c d:Value) (w:World) (g:a.bal) (h:b.bal) (i:a.its+b.its<=8192) (j:OwI w f c (a.told 0)) (k:OwI w bb d (b.told 0)):
  Calls prog 104 #[c,pcV p,d] w fun e w'=>∃n,e= .returned n∧OwI w' w.heap.size n ((AT.spl a p b).told 0)∧Below w.heap.size w w':=by
 by_cases l:b.ht+1<a.ht
 ·exact join1 a b p f bb c d w g h i j k l
 ·by_cases m:a.ht+1<b.ht
  ·exact join2 a b p f bb c d w g h i j k m
  ·exact join3 a b p f bb c d w g h i j k l m
end Go.Proofs.YtljdnoinennfaaaGreatDoor
