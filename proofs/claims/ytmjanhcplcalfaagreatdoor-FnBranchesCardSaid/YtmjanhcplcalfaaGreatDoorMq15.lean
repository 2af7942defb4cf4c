import Derived.Test.YtmjanhcplcalfaaGreatDoorMq09
import Derived.Test.YtmjanhcplcalfaaGreatDoorMq14
set_option linter.all false
set_option maxRecDepth 100000
set_option maxHeartbeats 8000000
namespace Go.Proofs.YtmjanhcplcalfaaGreatDoor
open Go Go.RowKit Go.Proofs.Tryz
namespace AT
def splR:AT->Pc->AT->AT
 | a,e,b=>
  if a.ht > b.ht+1 then
   match a with
   | nil=>nil
   | node l p r=>node l p (splR r e b)
  else if b.ht > a.ht+1 then
   match b with
   | nil=>nil
   | node l p r=>node (splR a e l) p r
  else node a e b
 termination_by a _ b=>a.its+b.its
 decreasing_by all_goals (simp only [its];omega)
theorem spl_fx (a:AT) (e:Pc) (b:AT):a.bal->b.bal->∃n,n<=a.its+b.its∧Fx (splR a e b) n (spl a e b):=by
 fun_induction splR a e b with
 | case1=>rename_i d;simp [ht]at d
 | case2 t h l p r d o=>
  intro ⟨hl,hr,s,h2⟩ g;obtain⟨n,i,j⟩:=o hr g;obtain⟨c,v,w⟩:=spl_bal r t h hr g;simp only [ht,its]at d i |-;obtain⟨m,x,k⟩:=Fx.right (p:=p) j hl (by omega) (by omega);refine⟨m,by omega,?_⟩;rw [spl.eq_def];dsimp only;rw [xd (by simp only [ht];omega)];exact k
 | case3=>rename_i s d;simp [ht]at d
 | case4 u h l p r q d o=>
  intro f ⟨hl,hr,s,h2⟩;obtain⟨n,i,j⟩:=o f hl;obtain⟨c,v,w⟩:=spl_bal u h l f hl;simp only [ht,its]at d q i |-;obtain⟨m,x,k⟩:=Fx.left (p:=p) j hr (by omega) (by omega);refine⟨m,by omega,?_⟩;rw [spl.eq_def];dsimp only;rw [qZ (by simp only [ht];omega),xd (by simp only [ht];omega)];exact k
 | case5 u h t d q=>
  intro f g;refine⟨0,xX _,?_⟩;rw [spl.eq_def];dsimp only;rw [qZ d,qZ q];exact Fx.stop ((jE _).2 ⟨f,g,by omega,by omega⟩)
theorem splR_its (a:AT) (e:Pc) (b:AT):(splR a e b).its=a.its+1+b.its:=by
 fun_induction splR a e b with
 | case1=>rename_i c;simp [ht]at c
 | case2=>rename_i c d;simp only [its];omega
 | case3=>rename_i f c;simp [ht]at c
 | case4=>rename_i d;simp only [its];omega
 | case5=>simp [its]
theorem edgeR (c:Nat):∀ (a:AT) (d:Int),a.bal->c+1<a.ht->∃l p r,a=node l p r∧a.told d=l.told (d+1)++⟨p,d⟩::r.told (d+1)∧c<=r.ht∧r.ht<a.ht∧r.bal
 | nil,d,_,b=>by simp [ht]at b
 | node l p r,d,⟨f,e,g,h⟩,b=>by
  simp only [ht]at b |-;exact⟨l,p,r,rfl,by simp [told],by omega,by omega,e⟩
theorem edgeL (c:Nat):∀ (a:AT) (d:Int),a.bal->c+1<a.ht->∃l p r,a=node l p r∧a.told d=l.told (d+1)++⟨p,d⟩::r.told (d+1)∧c<=l.ht∧l.ht<a.ht∧l.bal
 | nil,d,_,b=>by simp [ht]at b
 | node l p r,d,⟨e,f,g,h⟩,b=>by
  simp only [ht]at b |-;exact⟨l,p,r,rfl,by simp [told],by omega,by omega,e⟩
theorem splR_right {l r b:AT} {p e:Pc} (a:b.ht+1<(node l p r).ht):splR (node l p r) e b=node l p (splR r e b):=by
 rw [splR.eq_def];dsimp only;rw [xd a]
theorem splR_left {a l r:AT} {p e:Pc} (b:a.ht+1<(node l p r).ht):splR a e (node l p r)=node (splR a e l) p r:=by
 rw [splR.eq_def];dsimp only;rw [qZ (by omega),xd b]
theorem splR_mid {a b:AT} {e:Pc} (c:¬b.ht+1<a.ht) (d:¬a.ht+1<b.ht):splR a e b=node a e b:=by
 rw [splR.eq_def];dsimp only;rw [qZ c,qZ d]
end AT
def lift (d:Int) (X:List It):List It:=adj (fun _=>d) 0 X
theorem jK (T:AT) (e d:Int):lift d (T.told e)=T.told (e+d):=yZ _ d T 0 e (fun _ _ _=>rfl)
theorem y8 (d:Int) (X:List It):(lift d X).length=X.length:=jo _ _ _
def lft (d:Int) (k:Nat) (j:Nat):Int:=if j<k then d else 0
theorem zG2 (d:Int) (X:List It):adj (lft d 0) 0 X=X:=yf _ 0 X (fun j _ _=>by unfold lft;rw [qZ (by omega)])
theorem lft_end (d:Int) (X:List It) (n:Nat) (b:X.length=n):adj (lft d n) 0 X=lift d X:=ja 0 X (fun j _ a=>by unfold lft;rw [xd (by omega)])
structure EdR (b c:AT) (p:Pc) (d:List It) (S:AT) (a:Int):Prop where
 list:b.told 0=d++S.told a
 bal:S.bal
 low:c.ht<=S.ht
 fin:(AT.splR b p c).told 0=d++(AT.splR S p c).told a
 lvl:0<=a
 top:a+S.ht<=b.ht
 fit:AT.Fit d [] a
theorem EdR.start {c d:AT} {p:Pc} (b:c.bal) (e:d.ht<=c.ht):EdR c d p [] c 0:=⟨by simp,b,e,by simp,kY _,by omega,⟨fun a b=>by simp at b,fun a b=>by simp at b⟩⟩
theorem EdR.step {g e:AT} {p:Pc} {h:List It} {S:AT} {b:Int} (c:EdR g e p h S b) (hgt:e.ht+1<S.ht):∃l q r,S= .node l q r∧EdR g e p (h++l.told (b+1)++ [⟨q,b⟩]) r (b+1):=by
 obtain⟨l,q,r,f,_,i,k,j⟩:=AT.edgeR e.ht S b c.bal hgt;refine⟨l,q,r,f,?_,j,i,?_,by have:=c.lvl;omega,by have:=c.top;omega,⟨fun a d=>by simp at d;subst d;show b<b+1;omega,fun a d=>by simp at d⟩⟩
 ·rw [c.list,f];simp [AT.told]
 rw [c.fin,f,AT.splR_right (by rw [<- f];exact hgt)];simp [AT.told]
theorem EdR.done {c a:AT} {p:Pc} {d:List It} {S:AT} {b:Int} (e:EdR c a p d S b) (f:¬a.ht+1<S.ht):(AT.splR c p a).told 0=d++S.told (b+1)++⟨p,b⟩::a.told (b+1):=by
 have:=e.low;rw [e.fin,AT.splR_mid f (by omega)];simp [AT.told]
structure EdL (b c:AT) (p:Pc) (d:List It) (S:AT) (a:Int):Prop where
 list:c.told 0=S.told a++d
 bal:S.bal
 low:b.ht<=S.ht
 fin:(AT.splR b p c).told 0=(AT.splR b p S).told a++d
 lvl:0<=a
 top:a+S.ht<=c.ht
 fit:AT.Fit [] d a
theorem EdL.start {d c:AT} {p:Pc} (b:c.bal) (e:d.ht<=c.ht):EdL d c p [] c 0:=⟨by simp,b,e,by simp,kY _,by omega,⟨fun a b=>by simp at b,fun a b=>by simp at b⟩⟩
theorem EdL.step {e g:AT} {p:Pc} {h:List It} {S:AT} {b:Int} (c:EdL e g p h S b) (hgt:e.ht+1<S.ht):∃l q r,S= .node l q r∧EdL e g p (⟨q,b⟩::(r.told (b+1)++h)) l (b+1):=by
 obtain⟨l,q,r,f,_,i,k,j⟩:=AT.edgeL e.ht S b c.bal hgt;refine⟨l,q,r,f,?_,j,i,?_,by have:=c.lvl;omega,by have:=c.top;omega,⟨fun a d=>by simp at d,fun a d=>by simp at d;subst d;show b<b+1;omega⟩⟩
 ·rw [c.list,f];simp [AT.told]
 rw [c.fin,f,AT.splR_left (by rw [<- f];exact hgt)];simp [AT.told]
theorem EdL.done {a c:AT} {p:Pc} {d:List It} {S:AT} {b:Int} (e:EdL a c p d S b) (f:¬a.ht+1<S.ht):(AT.splR a p c).told 0=a.told (b+1)++⟨p,b⟩::(S.told (b+1)++d):=by
 have:=e.low;rw [e.fin,AT.splR_mid (by omega) f];simp [AT.told]
def SrcI (w:World) (v:Value) (xs:List It):Prop:=
 (v= .slice none 0 0∧xs= [])∨∃b o cap,v= .slice (qK b o) xs.length cap∧b<w.heap.size∧(∀j a,(itVs xs)[j]? =some a->w.cell? ((⟨b,o,none⟩:Addr).add j)=some a)
theorem SrcI.of {w:World} {base:Nat} {v:Value} {xs:List It} (a:OwI w base v xs):SrcI w v xs:=by
 rcases a.2 with ⟨b,c⟩ | ⟨g,cap,f,b,c⟩
 ·exact .inl ⟨b,qW c⟩
 subst b;exact .inr ⟨g,0,cap,rfl,(a.lt g rfl).2,fun j d e=>a.cells j d e⟩
theorem copyG (xs:List It) (v:Value) (w:World) (d:SrcI w v xs) (f:xs.length<=1048576):
  Calls prog 50 #[v] w fun e w'=>∃g cp,e= .returned (.slice (qK g 0) xs.length cp)∧OwI w' w.heap.size (.slice (qK g 0) xs.length cp) xs∧Below w.heap.size w w':=by
 rcases d with ⟨rfl,rfl⟩ | ⟨b,o,cap,rfl,h,i⟩
 ·obtain⟨j,hi,k,l,m⟩:=vc Tryz.qn
  have a:=qG (show(w.alloc (.cells #[] 65)).ownsRow w.heap.size 65 4 (.slice (qK w.heap.size 0) 0 0) 0 []from⟨rfl,.inr ⟨_,0,#[],rfl,lR,xg _ _,lR,by unfold maxLen;omega,rfl,rfl⟩⟩);have c:=qG ((qO w.heap.size w).alloc lR (.cells #[] 65));go_enter func50,ntmps50;go_wp2_with (at_builtin;refine wpList_append_own_none rfl _ _ 26 rfl w.heap.size 65 j 4 underlying26 hi _ _ _ rfl a rfl ?_);go_ret;exact⟨_,_,rfl,a,c⟩
 exact copyS xs b o cap w i h f
theorem liftS (d:Int) (xs:List It) (v:Value) (w:World) (c:SrcI w v xs) (T:xs.length<=1048576) (Z: -100000<=d∧d<=100000) (C:∀x∈xs,0<=x.lv∧x.lv<=1000000):
  Calls prog 77 #[v,qJ d] w fun e w'=>∃g cp,e= .returned (.slice (qK g 0) xs.length cp)∧OwI w' w.heap.size (.slice (qK g 0) xs.length cp) (lift d xs)∧Below w.heap.size w w':=by
 have p:=qG (copyG xs v w c T);have D:=qG (lft_end d xs xs.length rfl);have E:=qG C;have F:=qG (y8 d xs);have G:=qG (show ∀k,k<xs.length->∃x,xs[k]? =some x from fun k B=>⟨_,qY B⟩);unfold OwI at p;unfold OwI;rw [F.out];generalize R:xs.length=n at *
 obtain⟨ao,m,cap,rfl⟩:∃ao m cap,v= .slice ao m cap:=by
  rcases c with ⟨rfl,_⟩ | ⟨b,o,cap,rfl,_⟩<;>exact⟨_,_,_,rfl⟩
 clear c R C;go_enter func77,ntmps77;go_wp2_with fail;refine p.mono ?_;rintro e w1 ⟨g,cp,rfl,h,t⟩;have H:=qG h;have I:=qG t;have J:=(h.lt g rfl)
 obtain⟨aa,U⟩:n<=cp∧cp<=maxLen:=by
  rcases h.2 with ⟨u,_⟩ | ⟨g',ab,ac,u,_,_,f,V,_⟩
  ·cases u
  cases u;exact⟨f,V⟩
 unfold maxLen at U;have K:=t.size;clear h t p;go_wp2_with fail;go_loopw [11] (fun s wr=>∃k:Nat,k<=n∧s=qJ k∧wr.ownsRow w.heap.size 65 4 (.slice (qK g 0) n cp) n (itVs (adj (lft d k) 0 xs))∧w1.grownBy wr (some g)) (fun s _=>n - (intOf s).toNat)
 case atStart=>exact⟨0,xX _,rfl,by rw [zG2];exact H,Y3 _ _⟩
 obtain⟨k,B,rfl,a,i⟩:=hrel;have L:=qG i;by_cases Q:k<n
 ·obtain⟨x,l⟩:=G k Q
  have W:=E x (xM.2 ⟨k,l⟩)
  have q:(adj (lft d k) 0 xs)[k]? =some x:=by
   rw [YJ,l];have M:lft d k k=0:=(by unfold lft;rw [qZ (by omega)]);simp only [xP,M,kV,kW]
  have X:=OwI.lv a q;have fx:wr.frozen? ⟨g,k*4+3,none⟩=false:=a.frozenAt _;have r:=OwI.qt a q (x.lv+d)
  have y:(adj (lft d k) 0 xs).set k ⟨x.pc,x.lv+d⟩=adj (lft d (k+1)) 0 xs:=by
   rw [ZZ l];refine ja 0 xs (fun j _ _=>?_);unfold lft;by_cases c:j=k
   ·subst c;rw [xd rfl,xd (by omega)];omega
   rw [qZ c];by_cases f:j<k
   ·rw [xd f,xd (by omega)]
   rw [qZ f,qZ (by omega)]
  rw [y]at r;have A:=qG r;generalize x.lv=Y at *
  have N:(k:Int)<(n:Int):=(by omega);clear l q a i r y;go_wp2;go_roundw
  case rel=>exact⟨k+1,by omega,by go_num,A.1,zH L A.2⟩
  simp [intOf];omega
 obtain rfl:n=k:=by omega
 have N:¬ (n:Int)<(n:Int):=by omega
 rw [D.out]at a;have O:=qG a;have P:=qG (I.trans ((qO w.heap.size w1).grown i K (fun z S=>by cases S;exact J.1)));clear a i;go_wp2;go_ret;exact⟨_,_,rfl,O,P⟩
theorem yw (c:Nat) (v:Value) (X:List It) (b:World) (g:RdI c b v X) (h:X.length<=1048576) (i:∀x∈X,0<=x.lv∧x.lv<=1000000) {A B:List It} {S:AT} {e:Int} (d:X=A++S.told e++B) (lo hi:Int) (j:lo=(A.length:Int)) (k:hi=(A.length:Int)+(S.its:Int)):
  Calls prog 101 #[v,qJ lo,qJ hi] b fun f w'=>f= .returned (qJ (S.ht:Int))∧w'=b:=by
 subst j;obtain rfl:hi=((A.length+S.its:Nat):Int):=by omega
 have a:=zAl c v X b g h i A.length (A.length+S.its) (by omega) (by rw [d];simp only [qM,AT.told_length];omega);rw [show seg X A.length (A.length+S.its)=S.told e by rw [d];have a:=zAm A (S.told e) B;rw [AT.told_length]at a;exact a,Zq]at a;exact a
theorem Xm (g:Nat) (v:Value) (X:List It) (a:World) (i:RdI g a v X) (j:X.length<=1048576) {A B:List It} {l r:AT} {q:Pc} {e:Int} (h:X=A++(AT.node l q r).told e++B) (k:AT.Fit A B e) (lo hi:Int) (m:lo=(A.length:Int)) (p:hi=(A.length:Int)+((AT.node l q r).its:Int)):
  Calls prog 76 #[v,qJ lo,qJ hi] a fun f w'=>f= .returned (qJ ((A.length+l.its:Nat):Int))∧∃q,w'=a.drewN q:=by
 subst m;obtain rfl:hi=((A.length+(AT.node l q r).its:Nat):Int):=by omega
 have d:X.length=A.length+(AT.node l q r).its+B.length:=by rw [h];simp only [qM,AT.told_length]
 have b:=childS g v X a i j (by intro b;rw [b]at d;simp only [xK,AT.its]at d;omega) A.length (A.length+(AT.node l q r).its) (by omega) (by omega);refine b.mono ?_;rintro f w' ⟨c,rfl,n,o⟩
 obtain rfl:c=A.length+l.its:=by
  refine Am.root (e:=e) ?_ n;rw [h];exact Sub.of k
 exact⟨rfl,o⟩
theorem yI {w:World} {base b cap n:Nat} {X:List It} (d:OwI w base (.slice (qK b 0) n cap) X) (e:X.length=n) {Z R:List It} (f:X=Z++R):∀j a,(itVs Z)[j]? =some a->w.cell? ((⟨b,0,none⟩:Addr).add j)=some a:=by
 intro j a c;subst e;refine d.cells j a ?_
 rw [f,zS,xx (by
  rcases xR j (itVs Z).length with g | g
  ·exact g
  rw [xW g]at c;cases c)]
 exact c
theorem Jb {w:World} {base b cap n:Nat} {X:List It} (e:OwI w base (.slice (qK b 0) n cap) X) (f:X.length=n) {Z R:List It} (g:X=Z++R):∀j a,(itVs R)[j]? =some a->w.cell? ((⟨b,Z.length*4,none⟩:Addr).add j)=some a:=by
 intro j a d;subst f;have c:=e.cells (Z.length*4+j) a (by rw [g,zS,xa (by rw [zF];omega),zF,show Z.length*4+j - Z.length*4=j by omega];exact d);rw [zP]at c |-;rw [xP]at c;exact c
theorem XQ {X Z A B:List It} {a:Int} (c:X=A++Z++B) (d:∀x∈X,0<=x.lv∧x.lv<=a):∀x∈Z,0<=x.lv∧x.lv<=a:=fun x b=>d x (by rw [c];simp [b])
theorem join3 (a b:AT) (p:Pc) (ca bb:Nat) (W Z:Value) (w:World) (ax:a.bal) (ay:b.bal) (cz:a.its+b.its<=8192) (F:OwI w ca W (a.told 0)) (G:OwI w bb Z (b.told 0)) (f:¬b.ht+1<a.ht) (x:¬a.ht+1<b.ht):
  Calls prog 78 #[W,pcV p,Z] w fun e w'=>∃aw,e= .returned aw∧OwI w' w.heap.size aw ((AT.spl a p b).told 0)∧Below w.heap.size w w':=by
 have o:=qG ((qO w.heap.size w).alloc lR (.cells #[qJ p.off,qJ p.len,qJ p.brk] 63));have ba:=qG (show(w.alloc (.cells #[qJ p.off,qJ p.len,qJ p.brk] 63)).heap[w.heap.size]? =some (.cells #[qJ p.off,qJ p.len,qJ p.brk] 63 (0,0))from xg _ _);have bc:w.heap.size<(w.alloc (.cells #[qJ p.off,qJ p.len,qJ p.brk] 63)).heap.size:=by simp
 have bd:=qG (RdI.below F.rd o.out lR);have be:=qG (RdI.below G.rd o.out lR);have bf:=qG (zB F o.out lR);have bg:=qG (zB G o.out lR);have q:=AT.told_length a 0;have r:=AT.told_length b 0;have cl:=qG q;have cm:=qG r;have ad:=qG (yS a (by omega));have ae:=qG (yS b (by omega));have bh:=qG (AT.spl_fx a p b ax ay);have K:=qG (AT.splR_its a p b);have bi:=qG (AT.ht_its a);have bj:=qG (AT.ht_its b);have bk:=qG (show(AT.splR a p b).told 0=lift 1 (a.told 0)++⟨p,0⟩::lift 1 (b.told 0)from(by rw [jK,jK,AT.splR_mid f x];simp [AT.told]))
 obtain⟨ao,t,cb⟩:∃ao t,W= .slice ao a.its t:=by
  obtain⟨ao,t,m⟩:=(OwI.rd F).val;exact⟨ao,t,by rw [m,q]⟩
 subst cb
 obtain⟨u,v,cc⟩:∃u v,Z= .slice u b.its v:=by
  obtain⟨u,v,m⟩:=(OwI.rd G).val;exact⟨u,v,by rw [m,r]⟩
 subst cc;have bl:=qG (fun h (aa:RdI w.heap.size h (.slice ao a.its t) (a.told 0))=>yw w.heap.size _ (a.told 0) h aa (by omega) ad.out (A:=[]) (B:=[]) (S:=a) (e:=0) (by simp) 0 (a.its:Int) rfl (by simp));have bm:=qG (fun h (aa:RdI w.heap.size h (.slice u b.its v) (b.told 0))=>yw w.heap.size _ (b.told 0) h aa (by omega) ae.out (A:=[]) (B:=[]) (S:=b) (e:=0) (by simp) 0 (b.its:Int) rfl (by simp));have bn:=qG (fun h:World=>show(h.alloc (.cells #[] 65)).ownsRow h.heap.size 65 4 (.slice (qK h.heap.size 0) 0 0) 0 []from⟨rfl,.inr ⟨_,0,#[],rfl,lR,xg _ _,lR,by unfold maxLen;omega,rfl,rfl⟩⟩);have af:=qG (fun h (ab:Below (w.alloc (.cells #[qJ p.off,qJ p.len,qJ p.brk] 63)).heap.size (w.alloc (.cells #[qJ p.off,qJ p.len,qJ p.brk] 63)) h)=>liftS 1 (a.told 0) _ h (SrcI.of (zB bf.out ab lR)) (by omega) (by omega) ad.out);have ag:=qG (fun h (ab:Below (w.alloc (.cells #[qJ p.off,qJ p.len,qJ p.brk] 63)).heap.size (w.alloc (.cells #[qJ p.off,qJ p.len,qJ p.brk] 63)) h)=>liftS 1 (b.told 0) _ h (SrcI.of (zB bg.out ab lR)) (by omega) (by omega) ae.out);have ah:=qG ((y8 1 (a.told 0)).trans q);have ai:=qG ((y8 1 (b.told 0)).trans r);rw [q]at af;rw [r]at ag;have cn:¬ (b.ht:Int)+1<(a.ht:Int):=by omega
 have co:¬ (a.ht:Int)+1<(b.ht:Int):=by omega
 have cp:=bi.out;have cq:=bj.out;generalize AT.splR a p b=R at *
 generalize AT.spl a p b=U at *
 generalize a.told 0=X at *
 generalize b.told 0=Y at *
 generalize a.ht=cx at *
 generalize b.ht=cy at *
 generalize a.its=i at *
 generalize b.its=nb at *
 generalize lift 1 X=T at *
 generalize lift 1 Y=V at *
 clear F G ax ay f x q r;unfold pcV;unfold maxLen at *
 go_enter func78,ntmps78;go_wp2_with fail;generalize w.alloc (.cells #[qJ p.off,qJ p.len,qJ p.brk] 63)=d at *
 refine(bl.out d bd.out).mono ?_;rintro e wx ⟨rfl,cd⟩;subst wx;go_wp2_with fail;refine(bm.out d be.out).mono ?_;rintro e wx ⟨rfl,cd⟩;subst wx;have L:=qG ((qO d.heap.size d).alloc lR (.cells #[] 65));have bo:=qG (bn.out d);have cr:=L.out.size;have s:=qG (af.out _ L.out);go_wp2_with fail;generalize d.alloc (.cells #[] 65)=w1 at *
 refine s.out.mono ?_;rintro e az ⟨a0,ce,rfl,a1,H⟩;have cs:=H.size;have bp:=qG (L.out.trans (H.mono (by omega)));have aj:=qG (zB bo.out H lR);have bq:=qG (show ∀j n,(itVs T)[j]? =some n->az.cell? ((⟨a0,0,none⟩:Addr).add j)=some n from yI a1 ah.out (R:=[]) (by simp));clear a1 H s;go_wp2_with (at_builtin;refine Qm _ rfl _ _ rfl d.heap.size _ (0) _ rfl (by exact aj.out) ⟨a0,0,none⟩ (i) (ce) (itVs (T)) rfl (by rw [zF];have:=ah.out;omega) (by exact bq.out) (zY _) (by unfold maxLen;omega) (by omega) (by omega) ?_;intro b7 k D N ap;refine vR ?_);refine Lib.hid ?_;have ct:=N.size;have ak:=qG (bp.out.trans ((qO d.heap.size az).grown N (by omega) (fun z l=>(aj.out.lt z l).1)));rw [show 0+(i)=i by omega]at D
 obtain⟨cf,c0,rfl⟩:∃g c,b7= .slice (qK g 0) (i) c:=by
  rcases D.2 with ⟨f,a2⟩ | ⟨g,c,ac,f,_⟩
  ·exact absurd (ap.1 f).1 (fun m=>by cases m)
  exact⟨_,_,f⟩
 have al:=qG D;clear D N ap;have y:=(ak.out.block w.heap.size bc).trans ba.out;have br:k.cell? ⟨w.heap.size,0,none⟩=some (qJ p.off):=by rw [qP k _ 0 _ _ _ y];rfl
 have bs:k.cell? ⟨w.heap.size,1,none⟩=some (qJ p.len):=by rw [qP k _ 1 _ _ _ y];rfl
 have bt:k.cell? ⟨w.heap.size,2,none⟩=some (qJ p.brk):=by rw [qP k _ 2 _ _ _ y];rfl
 have am:=qG (zV k 65 [qJ p.off,qJ p.len,qJ p.brk,qJ 0]);clear y;go_wp2_with (at_builtin;refine Qm _ rfl _ _ rfl d.heap.size _ (i) _ rfl (by exact vI al.out _) ⟨k.heap.size,0,none⟩ 1 1 [qJ p.off,qJ p.len,qJ p.brk,qJ 0] rfl rfl (by exact am.out) (by intro n aq;simp at aq;rcases aq with rfl | rfl | rfl | rfl<;>rfl) (by unfold maxLen;omega) (by omega) (by simp;omega) ?_;intro b8 ar O au _;refine vR ?_);refine Lib.hid ?_;have M:=qG (ak.out.trans (((qO d.heap.size k).alloc (by omega) (.cells #[qJ p.off,qJ p.len,qJ p.brk,qJ 0] 65)).grown au (by simp;omega) (fun z l=>(al.out.lt z l).1)));have cu:d.heap.size<=ar.heap.size:=M.out.size
 obtain⟨c1,c2,rfl⟩:∃g c,b8= .slice (qK g 0) (i+1) c:=by
  rcases O.2 with ⟨_,a2⟩ | ⟨g,c,ac,f,_⟩
  ·omega
  exact⟨_,_,f⟩
 have bu:=qG O;clear O au am br bs bt;have s:=qG (ag.out ar M.out);go_wp2_with fail;refine s.out.mono ?_;rintro e a3 ⟨a4,cg,rfl,a5,I⟩;have cv:=I.size;have bv:=qG (M.out.trans (I.mono (by omega)));have an:=qG (zB bu.out I lR);have bw:=qG (show ∀j n,(itVs V)[j]? =some n->a3.cell? ((⟨a4,0,none⟩:Addr).add j)=some n from yI a5 ai.out (R:=[]) (by simp));clear a5 I s;go_wp2_with (at_builtin;refine Qm _ rfl _ _ rfl d.heap.size _ (i+1) _ rfl (by exact an.out) ⟨a4,0,none⟩ (nb) (cg) (itVs (V)) rfl (by rw [zF];have:=ai.out;omega) (by exact bw.out) (zY _) (by unfold maxLen;omega) (by omega) (by omega) ?_;intro b9 P E Q av;refine vR ?_);refine Lib.hid ?_;have cw:=Q.size;have bx:=qG (bv.out.trans ((qO d.heap.size a3).grown Q (by omega) (fun z l=>(an.out.lt z l).1)));rw [show i+1+(nb)=i+1+nb by omega]at E
 obtain⟨a6,J,rfl⟩:∃g c,b9= .slice (qK g 0) (i+1+nb) c:=by
  rcases E.2 with ⟨f,a2⟩ | ⟨g,c,ac,f,_⟩
  ·exact absurd (av.1 f).1 (fun m=>by cases m)
  exact⟨_,_,f⟩
 have bz:=qG E;clear E Q av
 have C:OwI P d.heap.size (.slice (qK a6 0) (i+1+nb) J) (R.told 0):=by
  have b0:=bz.out;unfold OwI;rw [AT.told_length,K.out];have b1:itVs (R.told 0)=([]:List Value)++itVs (T)++ [qJ p.off,qJ p.len,qJ p.brk,qJ 0]++itVs (V):=(by rw [bk.out];simp [itVs,itV]);rw [b1];exact b0
 obtain⟨ch,ci⟩:i+1+nb<=J∧J<=maxLen:=by
  rcases C.2 with ⟨f,_⟩ | ⟨cf,c3,ac,f,_,_,x,cj,_⟩
  ·cases f
  rw [AT.told_length,K.out]at f x;cases f;exact⟨x,cj⟩
 obtain⟨ck,c4,a7⟩:=bh.out;have b2:=qG (yA d.heap.size a6 J (i+1+nb) U ⟨ch,ci⟩ (by omega) ck R P K.out a7 (by omega) C);have b3:=qG (fun z l=>(C.lt z l).1);clear C a7;go_wp2_with fail;refine b2.out.mono ?_;rintro e c5 ⟨rfl,a8,a9⟩;have b4:=qG (bx.out.trans ((qO d.heap.size P).grown a9 (by omega) (fun z l=>b3.out z (by simpa [Value.ownBlock]using l))));have b5:=qG (o.out.trans (b4.out.mono (by omega)));have b6:=qG (zD a8 (show w.heap.size<=d.heap.size by omega));clear a8 a9;go_wp2;go_ret;exact⟨_,rfl,b6.out,b5.out⟩
theorem join1 (a d:AT) (p:Pc) (dr bb:Nat) (b0 b1:Value) (w:World) (b2:a.bal) (cu:d.bal) (ee:a.its+d.its<=8192) (a3:OwI w dr b0 (a.told 0)) (a4:OwI w bb b1 (d.told 0)) (i:d.ht+1<a.ht):
  Calls prog 78 #[b0,pcV p,b1] w fun e w'=>∃ct,e= .returned ct∧OwI w' w.heap.size ct ((AT.spl a p d).told 0)∧Below w.heap.size w w':=by
 have X:=qG ((qO w.heap.size w).alloc lR (.cells #[qJ p.off,qJ p.len,qJ p.brk] 63));have ca:=qG (show(w.alloc (.cells #[qJ p.off,qJ p.len,qJ p.brk] 63)).heap[w.heap.size]? =some (.cells #[qJ p.off,qJ p.len,qJ p.brk] 63 (0,0))from xg _ _);have cb:w.heap.size<(w.alloc (.cells #[qJ p.off,qJ p.len,qJ p.brk] 63)).heap.size:=by simp
 have cc:=qG (RdI.below a3.rd X.out lR);have cx:=qG (RdI.below a4.rd X.out lR);have a7:=qG (zB a3 X.out lR);have cy:=qG (zB a4 X.out lR);have a8:=AT.told_length a 0;have cd:=AT.told_length d 0;have ce:=qG a8;have cz:=qG cd;have a9:=qG (yS a (by omega));have cf:=qG (yS d (by omega));have ba:=qG (AT.spl_fx a p d b2 cu);have O:=qG (AT.splR_its a p d);have c0:=qG (AT.ht_its a);have c1:=qG (AT.ht_its d)
 obtain⟨b,y,rfl,ef,eg⟩:∃b y,b0= .slice (qK b 0) a.its y∧a.its<=y∧y<=maxLen:=by
  rcases a3.2 with ⟨i,D⟩ | ⟨g,cp,J,i,_,_,D,ao,_⟩
  ·exact absurd D (by rw [a8];have:=AT.ht_its a;omega)
  rw [a8]at i D;exact⟨g,cp,i,D,ao⟩
 obtain⟨am,an,dt⟩:∃am an,b1= .slice am d.its an:=by
  obtain⟨am,an,C⟩:=(OwI.rd a4).val;exact⟨am,an,by rw [C,cd]⟩
 subst dt;have c2:=qG (fun m (b3:RdI w.heap.size m (.slice (qK b 0) a.its y) (a.told 0))=>yw w.heap.size _ (a.told 0) m b3 (by omega) a9.out (A:=[]) (B:=[]) (S:=a) (e:=0) (by simp) 0 (a.its:Int) rfl (by simp));have c3:=qG (fun m (b3:RdI w.heap.size m (.slice am d.its an) (d.told 0))=>yw w.heap.size _ (d.told 0) m b3 (by omega) cf.out (A:=[]) (B:=[]) (S:=d) (e:=0) (by simp) 0 (d.its:Int) rfl (by simp));have c4:=qG (fun m:World=>show(m.alloc (.cells #[] 65)).ownsRow m.heap.size 65 4 (.slice (qK m.heap.size 0) 0 0) 0 []from⟨rfl,.inr ⟨_,0,#[],rfl,lR,xg _ _,lR,by unfold maxLen;omega,rfl,rfl⟩⟩);have c5:=qG (EdR.start (p:=p) b2 (by omega:d.ht<=a.ht));have cg:=(a7.out.lt b rfl).2;have d2:(d.ht:Int)+1<(a.ht:Int):=by omega
 have d3:=c0.out;have d4:=c1.out;obtain⟨R,b4⟩:∃R,R=AT.splR a p d:=⟨_,rfl⟩
 have c6:=qG b4;rw [<- b4]at O ba;generalize AT.spl a p d=U at *
 clear a3 a4 b2 cu i b4;unfold pcV;unfold maxLen at *
 go_enter func78,ntmps78;go_wp2_with fail;generalize w.alloc (.cells #[qJ p.off,qJ p.len,qJ p.brk] 63)=f at *
 refine(c2.out f cc.out).mono ?_;rintro e wx ⟨rfl,a5⟩;subst wx;go_wp2_with fail;refine(c3.out f cx.out).mono ?_;rintro e wx ⟨rfl,a5⟩;subst wx;have bc:=qG ((qO f.heap.size f).alloc lR (.cells #[] 65));have c7:=qG (c4.out f);have d5:=bc.out.size;have ch:=qG (RdI.below cc.out bc.out (by omega));go_wp2_with fail;generalize f.alloc (.cells #[] 65)=w1 at *
 go_loopw [10,11] (fun lo dq wr=>∃ (h:List It) (S:AT) (k:Int) (nq:Nat),EdR a d p h S k∧lo=qJ (h.length:Int)∧dq=qJ k∧wr=w1.drewN nq) (fun lo _ _=>a.its - (intOf lo).toNat)
 case atStart=>exact⟨[],a,0,0,c5.out,rfl,rfl,rfl⟩
 obtain⟨h,S,k,nq,E,rfl,rfl,rfl⟩:=hrel;have ab:a.told 0=h++S.told k++ []:=by rw [E.list];simp
 have d6:h.length+S.its=a.its:=by have P:=kZ List.length E.list;simp only [qM,AT.told_length]at P;omega
 have d7:0<=k∧k<=a.ht:=⟨E.lvl,by have:=E.top;omega⟩
 have bd:=qG (yw w.heap.size (.slice (qK b 0) a.its y) (a.told 0) (w1.drewN nq) (RdI.heap ch.out rfl) (by omega) a9.out ab (h.length:Int) (a.its:Int) rfl (by omega));by_cases hgt:d.ht+1<S.ht
 ·obtain⟨l,q,r,a6,cv⟩:=E.step hgt
  have c8:=qG (Xm w.heap.size (.slice (qK b 0) a.its y) (a.told 0) (w1.drewN nq) (RdI.heap ch.out rfl) (by omega) (A:=h) (B:=[]) (l:=l) (q:=q) (r:=r) (e:=k) (by rw [<- a6];exact ab) E.fit (h.length:Int) (a.its:Int) rfl (by rw [<- a6];omega));have d8:S.its=l.its+1+r.its:=(by rw [a6];rfl);have c9:=qG cv;have da:=qG (show(h++l.told (k+1)++ [(⟨q,k⟩:It)]).length=h.length+l.its+1 from(by simp only [qM,AT.told_length,xe,xK]));have db:(d.ht:Int)+1<(S.ht:Int):=(by omega);clear E cv ab a6 hgt;go_wp2_with fail;refine bd.out.mono ?_;rintro e wx ⟨rfl,a5⟩;subst wx;go_wp2_with fail;refine c8.out.mono ?_;rintro e wx ⟨rfl,du,a5⟩;subst wx;go_wp2;go_roundw
  case rel=>exact⟨_,r,k+1,nq+du,c9.out,by rw [da.out];go_num,by go_num,by first | exact World.drewN_drewN _ _ _ | rfl⟩
  simp [intOf];omega
 have ci:=qG (show R.told 0=h++lift 1 (S.told k)++⟨p,k⟩::lift (k+1) (d.told 0)from(by rw [c6.out,jK,jK,Int.zero_add];exact E.done hgt));have cj:=qG E.list;have ck:=qG (show a.its - h.length=S.its by omega);have dc:=qG (XQ ab a9.out);have dd:=qG (fun m (I:Below f.heap.size f m)=>yI (zB a7.out I lR) ce.out cj.out);have cl:=qG (fun m (v:Value) (I:Below f.heap.size f m) (ds:SrcI m v (S.told k))=>liftS 1 (S.told k) v m ds (by rw [AT.told_length];omega) (by omega) dc.out);have de:=qG (fun m (I:Below f.heap.size f m)=>(show SrcI m (.slice (qK b (h.length*4)) (a.its - h.length) (y - h.length)) (S.told k)from .inr ⟨b,h.length*4,y - h.length,by rw [AT.told_length,ck.out],xq cg I.size,Jb (zB a7.out I lR) ce.out cj.out⟩))
 have df:=qG (fun(m:World) (I:Below f.heap.size f m) (N:S.its=0)=>(show SrcI m (.slice (qK b 0) 0 0) (S.told k)from(by
  have P:S.told k= []:=qW (by rw [AT.told_length];exact N);rw [P]
  exact .inr ⟨b,0,0,rfl,xq cg I.size,by intro j t dn;simp [itVs]at dn⟩)))
 have be:=qG (fun m (I:Below f.heap.size f m)=>liftS (k+1) (d.told 0) _ m (SrcI.of (zB cy.out I lR)) (by omega) (by omega) cf.out);have az:=qG ((y8 1 (S.told k)).trans (AT.told_length S k));have a0:=qG ((y8 (k+1) (d.told 0)).trans cz.out);rw [AT.told_length]at be;have LS:=qG (AT.told_length S k);generalize lift 1 (S.told k)=Z at *
 generalize lift (k+1) (d.told 0)=aa at *
 have db:¬ (d.ht:Int)+1<(S.ht:Int):=by omega
 have d9:(h.length:Int)<=(y:Int):=by omega
 have cm:=qG (bc.out.trans (show Below f.heap.size w1 (w1.drewN nq)from⟨rfl,rfl,rfl,lR,fun _ _=>rfl⟩));have cn:=qG (zA (w':=w1.drewN nq) c7.out (fun _ _=>rfl));have ea:w1.heap.size<=(w1.drewN nq).heap.size:=lR;clear E hgt ab;go_wp2_with fail;refine bd.out.mono ?_;rintro e wx ⟨rfl,a5⟩;subst wx;clear bd;generalize w1.drewN nq=cs at *
 have dg:=qG (dd.out cs cm.out);have eb:h.length<=a.its:=by omega
 go_wp2_with (at_builtin;refine Qm _ rfl _ _ rfl f.heap.size _ (0) _ rfl (by exact cn.out) ⟨b,0,none⟩ (h.length) (y) (itVs (h)) rfl (by rw [zF];skip) (by exact dg.out) (zY _) (by unfold maxLen;omega) (by omega) (by omega) ?_;intro dp a1 a2 bv cr;refine vR ?_);refine Lib.hid ?_;have ec:=bv.size;have Y:=qG (cm.out.trans ((qO f.heap.size cs).grown bv (by omega) (fun z n=>(cn.out.lt z n).1)));rw [show 0+(h.length)=h.length by omega]at a2
 obtain⟨cw,eh,rfl⟩:∃g c,dp= .slice (qK g 0) (h.length) c:=by
  rcases a2.2 with ⟨i,N⟩ | ⟨g,c,J,i,_⟩
  ·exact absurd (cr.1 i).1 (fun C=>by cases C)
  exact⟨_,_,i⟩
 have co:=qG a2;clear a2 bv cr;by_cases ed:y=h.length
 ·have cq:S.its=0:=by omega
  have dh:a.its=h.length:=(by omega);have u:=qG (cl.out a1 _ Y.out (df.out a1 Y.out cq));rw [LS.out,cq]at u;go_wp2_with fail;refine u.out.mono ?_;rintro e ap ⟨aq,b5,rfl,ar,K⟩;have di:=K.size;have bf:=qG (Y.out.trans (K.mono (by omega)));have ac:=qG (zB co.out K lR);have bg:=qG (show ∀j t,(itVs Z)[j]? =some t->ap.cell? ((⟨aq,0,none⟩:Addr).add j)=some t from yI ar (by rw [az.out];omega) (R:=[]) (by simp));clear ar K u;clear dh;go_wp2_with (at_builtin;refine Qm _ rfl _ _ rfl f.heap.size _ (h.length) _ rfl (by exact ac.out) ⟨aq,0,none⟩ (0) (b5) (itVs (Z)) rfl (by rw [zF];have:=az.out;omega) (by exact bg.out) (zY _) (by unfold maxLen;omega) (by omega) (by omega) ?_;intro bw o H T ah;refine vR ?_);refine Lib.hid ?_;have dj:=T.size;have ad:=qG (bf.out.trans ((qO f.heap.size ap).grown T (by omega) (fun z n=>(ac.out.lt z n).1)));rw [show h.length+(0)=h.length by omega]at H
  obtain⟨dv,dw,rfl⟩:∃g c,bw= .slice (qK g 0) (h.length) c:=by
   rcases H.2 with ⟨i,N⟩ | ⟨g,c,J,i,_⟩
   ·exact absurd (ah.1 i).1 (fun C=>by cases C)
   exact⟨_,_,i⟩
  have ae:=qG H;clear H T ah;have F:=(ad.out.block w.heap.size cb).trans ca.out;have bh:o.cell? ⟨w.heap.size,0,none⟩=some (qJ p.off):=(by rw [qP o _ 0 _ _ _ F];rfl);have bi:o.cell? ⟨w.heap.size,1,none⟩=some (qJ p.len):=(by rw [qP o _ 1 _ _ _ F];rfl);have bj:o.cell? ⟨w.heap.size,2,none⟩=some (qJ p.brk):=(by rw [qP o _ 2 _ _ _ F];rfl);have af:=qG (zV o 65 [qJ p.off,qJ p.len,qJ p.brk,qJ k]);clear F;go_wp2_with (at_builtin;refine Qm _ rfl _ _ rfl f.heap.size _ (h.length) _ rfl (by exact vI ae.out _) ⟨o.heap.size,0,none⟩ 1 1 [qJ p.off,qJ p.len,qJ p.brk,qJ k] rfl rfl (by exact af.out) (by intro t ai;simp at ai;rcases ai with rfl | rfl | rfl | rfl<;>rfl) (by unfold maxLen;omega) (by omega) (by simp;omega) ?_;intro bx aj V ak _;refine vR ?_);refine Lib.hid ?_;have Q:=qG (ad.out.trans (((qO f.heap.size o).alloc (by omega) (.cells #[qJ p.off,qJ p.len,qJ p.brk,qJ k] 65)).grown ak (by simp;omega) (fun z n=>(ae.out.lt z n).1)));have dk:f.heap.size<=aj.heap.size:=Q.out.size
  obtain⟨dx,dy,rfl⟩:∃g c,bx= .slice (qK g 0) (h.length+1) c:=by
   rcases V.2 with ⟨_,N⟩ | ⟨g,c,J,i,_⟩
   ·omega
   exact⟨_,_,i⟩
  have bk:=qG V;clear V ak af bh bi bj;have u:=qG (be.out aj Q.out);go_wp2_with fail;refine u.out.mono ?_;rintro e au ⟨av,b6,rfl,aw,L⟩;have dl:=L.size;have bl:=qG (Q.out.trans (L.mono (by omega)));have ag:=qG (zB bk.out L lR);have bm:=qG (show ∀j t,(itVs aa)[j]? =some t->au.cell? ((⟨av,0,none⟩:Addr).add j)=some t from yI aw a0.out (R:=[]) (by simp));clear aw L u;go_wp2_with (at_builtin;refine Qm _ rfl _ _ rfl f.heap.size _ (h.length+1) _ rfl (by exact ag.out) ⟨av,0,none⟩ (d.its) (b6) (itVs (aa)) rfl (by rw [zF];have:=a0.out;omega) (by exact bm.out) (zY _) (by unfold maxLen;omega) (by omega) (by omega) ?_;intro bz W s x al;refine vR ?_);refine Lib.hid ?_;have dm:=x.size;have bn:=qG (bl.out.trans ((qO f.heap.size au).grown x (by omega) (fun z n=>(ag.out.lt z n).1)));rw [show h.length+1+(d.its)=a.its+1+d.its by omega]at s
  obtain⟨ax,M,rfl⟩:∃g c,bz= .slice (qK g 0) (a.its+1+d.its) c:=by
   rcases s.2 with ⟨i,N⟩ | ⟨g,c,J,i,_⟩
   ·exact absurd (al.1 i).1 (fun C=>by cases C)
   exact⟨_,_,i⟩
  have bo:=qG s;clear s x al
  have G:OwI W f.heap.size (.slice (qK ax 0) (a.its+1+d.its) M) (R.told 0):=by
   have P:=bo.out;unfold OwI;rw [AT.told_length,O.out];have bp:itVs (R.told 0)=([]:List Value)++itVs (h)++itVs (Z)++ [qJ p.off,qJ p.len,qJ p.brk,qJ k]++itVs (aa):=(by rw [ci.out];simp [itVs,itV]);rw [bp];exact P
  obtain⟨b7,b8⟩:a.its+1+d.its<=M∧M<=maxLen:=by
   rcases G.2 with ⟨i,_⟩ | ⟨cw,dz,J,i,_,_,D,ao,_⟩
   ·cases i
   rw [AT.told_length,O.out]at i D;cases i;exact⟨D,ao⟩
  obtain⟨b9,d0,ay⟩:=ba.out;have bq:=qG (yA f.heap.size ax M (a.its+1+d.its) U ⟨b7,b8⟩ (by omega) b9 R W O.out ay (by omega) G);have br:=qG (fun z n=>(G.lt z n).1);clear G ay;go_wp2_with fail;refine bq.out.mono ?_;rintro e d1 ⟨rfl,s,x⟩;have bs:=qG (bn.out.trans ((qO f.heap.size W).grown x (by omega) (fun z n=>br.out z (by simpa [Value.ownBlock]using n))));have bt:=qG (X.out.trans (bs.out.mono (by omega)));have bu:=qG (zD s (show w.heap.size<=f.heap.size by omega));clear s x;go_wp2;go_ret;exact⟨_,rfl,bu.out,bt.out⟩
 have u:=qG (cl.out a1 _ Y.out (de.out a1 Y.out));rw [LS.out,<- ck.out]at u;go_wp2_with fail;refine u.out.mono ?_;rintro e ap ⟨aq,b5,rfl,ar,K⟩;have di:=K.size;have bf:=qG (Y.out.trans (K.mono (by omega)));have ac:=qG (zB co.out K lR);have bg:=qG (show ∀j t,(itVs Z)[j]? =some t->ap.cell? ((⟨aq,0,none⟩:Addr).add j)=some t from yI ar (by rw [az.out];omega) (R:=[]) (by simp));clear ar K u;go_wp2_with (at_builtin;refine Qm _ rfl _ _ rfl f.heap.size _ (h.length) _ rfl (by exact ac.out) ⟨aq,0,none⟩ (a.its - h.length) (b5) (itVs (Z)) rfl (by rw [zF];have:=az.out;omega) (by exact bg.out) (zY _) (by unfold maxLen;omega) (by omega) (by omega) ?_;intro bw o H T ah;refine vR ?_);refine Lib.hid ?_;have dj:=T.size;have ad:=qG (bf.out.trans ((qO f.heap.size ap).grown T (by omega) (fun z n=>(ac.out.lt z n).1)));rw [show h.length+(a.its - h.length)=a.its by omega]at H
 obtain⟨dv,dw,rfl⟩:∃g c,bw= .slice (qK g 0) (a.its) c:=by
  rcases H.2 with ⟨i,N⟩ | ⟨g,c,J,i,_⟩
  ·exact absurd (ah.1 i).1 (fun C=>by cases C)
  exact⟨_,_,i⟩
 have ae:=qG H;clear H T ah;have F:=(ad.out.block w.heap.size cb).trans ca.out;have bh:o.cell? ⟨w.heap.size,0,none⟩=some (qJ p.off):=by rw [qP o _ 0 _ _ _ F];rfl
 have bi:o.cell? ⟨w.heap.size,1,none⟩=some (qJ p.len):=by rw [qP o _ 1 _ _ _ F];rfl
 have bj:o.cell? ⟨w.heap.size,2,none⟩=some (qJ p.brk):=by rw [qP o _ 2 _ _ _ F];rfl
 have af:=qG (zV o 65 [qJ p.off,qJ p.len,qJ p.brk,qJ k]);clear F;go_wp2_with (at_builtin;refine Qm _ rfl _ _ rfl f.heap.size _ (a.its) _ rfl (by exact vI ae.out _) ⟨o.heap.size,0,none⟩ 1 1 [qJ p.off,qJ p.len,qJ p.brk,qJ k] rfl rfl (by exact af.out) (by intro t ai;simp at ai;rcases ai with rfl | rfl | rfl | rfl<;>rfl) (by unfold maxLen;omega) (by omega) (by simp;omega) ?_;intro bx aj V ak _;refine vR ?_);refine Lib.hid ?_;have Q:=qG (ad.out.trans (((qO f.heap.size o).alloc (by omega) (.cells #[qJ p.off,qJ p.len,qJ p.brk,qJ k] 65)).grown ak (by simp;omega) (fun z n=>(ae.out.lt z n).1)));have dk:f.heap.size<=aj.heap.size:=Q.out.size
 obtain⟨dx,dy,rfl⟩:∃g c,bx= .slice (qK g 0) (a.its+1) c:=by
  rcases V.2 with ⟨_,N⟩ | ⟨g,c,J,i,_⟩
  ·omega
  exact⟨_,_,i⟩
 have bk:=qG V;clear V ak af bh bi bj;have u:=qG (be.out aj Q.out);go_wp2_with fail;refine u.out.mono ?_;rintro e au ⟨av,b6,rfl,aw,L⟩;have dl:=L.size;have bl:=qG (Q.out.trans (L.mono (by omega)));have ag:=qG (zB bk.out L lR);have bm:=qG (show ∀j t,(itVs aa)[j]? =some t->au.cell? ((⟨av,0,none⟩:Addr).add j)=some t from yI aw a0.out (R:=[]) (by simp));clear aw L u;go_wp2_with (at_builtin;refine Qm _ rfl _ _ rfl f.heap.size _ (a.its+1) _ rfl (by exact ag.out) ⟨av,0,none⟩ (d.its) (b6) (itVs (aa)) rfl (by rw [zF];have:=a0.out;omega) (by exact bm.out) (zY _) (by unfold maxLen;omega) (by omega) (by omega) ?_;intro bz W s x al;refine vR ?_);refine Lib.hid ?_;have dm:=x.size;have bn:=qG (bl.out.trans ((qO f.heap.size au).grown x (by omega) (fun z n=>(ag.out.lt z n).1)));rw [show a.its+1+(d.its)=a.its+1+d.its by omega]at s
 obtain⟨ax,M,rfl⟩:∃g c,bz= .slice (qK g 0) (a.its+1+d.its) c:=by
  rcases s.2 with ⟨i,N⟩ | ⟨g,c,J,i,_⟩
  ·exact absurd (al.1 i).1 (fun C=>by cases C)
  exact⟨_,_,i⟩
 have bo:=qG s;clear s x al
 have G:OwI W f.heap.size (.slice (qK ax 0) (a.its+1+d.its) M) (R.told 0):=by
  have P:=bo.out;unfold OwI;rw [AT.told_length,O.out];have bp:itVs (R.told 0)=([]:List Value)++itVs (h)++itVs (Z)++ [qJ p.off,qJ p.len,qJ p.brk,qJ k]++itVs (aa):=(by rw [ci.out];simp [itVs,itV]);rw [bp];exact P
 obtain⟨b7,b8⟩:a.its+1+d.its<=M∧M<=maxLen:=by
  rcases G.2 with ⟨i,_⟩ | ⟨cw,dz,J,i,_,_,D,ao,_⟩
  ·cases i
  rw [AT.told_length,O.out]at i D;cases i;exact⟨D,ao⟩
 obtain⟨b9,d0,ay⟩:=ba.out;have bq:=qG (yA f.heap.size ax M (a.its+1+d.its) U ⟨b7,b8⟩ (by omega) b9 R W O.out ay (by omega) G);have br:=qG (fun z n=>(G.lt z n).1);clear G ay;go_wp2_with fail;refine bq.out.mono ?_;rintro e d1 ⟨rfl,s,x⟩;have bs:=qG (bn.out.trans ((qO f.heap.size W).grown x (by omega) (fun z n=>br.out z (by simpa [Value.ownBlock]using n))));have bt:=qG (X.out.trans (bs.out.mono (by omega)));have bu:=qG (zD s (show w.heap.size<=f.heap.size by omega));clear s x;go_wp2;go_ret;exact⟨_,rfl,bu.out,bt.out⟩
theorem join2 (a d:AT) (p:Pc) (c9 bb:Nat) (am an:Value) (w:World) (bp:a.bal) (ap:d.bal) (dz:a.its+d.its<=8192) (Q:OwI w c9 am (a.told 0)) (T:OwI w bb an (d.told 0)) (h:a.ht+1<d.ht):
  Calls prog 78 #[am,pcV p,an] w fun e w'=>∃bo,e= .returned bo∧OwI w' w.heap.size bo ((AT.spl a p d).told 0)∧Below w.heap.size w w':=by
 have E:=qG ((qO w.heap.size w).alloc lR (.cells #[qJ p.off,qJ p.len,qJ p.brk] 63));have b0:=qG (show(w.alloc (.cells #[qJ p.off,qJ p.len,qJ p.brk] 63)).heap[w.heap.size]? =some (.cells #[qJ p.off,qJ p.len,qJ p.brk] 63 (0,0))from xg _ _);have b1:w.heap.size<(w.alloc (.cells #[qJ p.off,qJ p.len,qJ p.brk] 63)).heap.size:=by simp
 have b2:=qG (RdI.below Q.rd E.out lR);have av:=qG (RdI.below T.rd E.out lR);have b3:=qG (zB Q E.out lR);have aa:=qG (zB T E.out lR);have aw:=AT.told_length a 0;have ab:=AT.told_length d 0;have b4:=qG aw;have ax:=qG ab;have ay:=qG (yS a (by omega));have ac:=qG (yS d (by omega));have az:=qG (AT.spl_fx a p d bp ap);have L:=qG (AT.splR_its a p d);have b5:=qG (AT.ht_its a);have b6:=qG (AT.ht_its d)
 obtain⟨b,m,rfl,d0,d1⟩:∃b m,an= .slice (qK b 0) d.its m∧d.its<=m∧m<=maxLen:=by
  rcases T.2 with ⟨h,x⟩ | ⟨g,cp,K,h,_,_,x,ar,_⟩
  ·exact absurd x (by rw [ab];have:=AT.ht_its d;omega)
  rw [ab]at h x;exact⟨g,cp,h,x,ar⟩
 obtain⟨ao,J,da⟩:∃ao J,am= .slice ao a.its J:=by
  obtain⟨ao,J,n⟩:=(OwI.rd Q).val;exact⟨ao,J,by rw [n,aw]⟩
 subst da;have b7:=qG (fun k (aq:RdI w.heap.size k (.slice ao a.its J) (a.told 0))=>yw w.heap.size _ (a.told 0) k aq (by omega) ay.out (A:=[]) (B:=[]) (S:=a) (e:=0) (by simp) 0 (a.its:Int) rfl (by simp));have b8:=qG (fun k (aq:RdI w.heap.size k (.slice (qK b 0) d.its m) (d.told 0))=>yw w.heap.size _ (d.told 0) k aq (by omega) ac.out (A:=[]) (B:=[]) (S:=d) (e:=0) (by simp) 0 (d.its:Int) rfl (by simp));have b9:=qG (fun k:World=>show(k.alloc (.cells #[] 65)).ownsRow k.heap.size 65 4 (.slice (qK k.heap.size 0) 0 0) 0 []from⟨rfl,.inr ⟨_,0,#[],rfl,lR,xg _ _,lR,by unfold maxLen;omega,rfl,rfl⟩⟩);have ca:=qG (EdL.start (p:=p) ap (by omega:a.ht<=d.ht));have cb:=(aa.out.lt b rfl).2;have dh:¬ (d.ht:Int)+1<(a.ht:Int):=by omega
 have di:(a.ht:Int)+1<(d.ht:Int):=by omega
 have dj:=b5.out;have dk:=b6.out;obtain⟨R,au⟩:∃R,R=AT.splR a p d:=⟨_,rfl⟩
 have cc:=qG au;rw [<- au]at L az;generalize AT.spl a p d=U at *
 clear Q T bp ap au;unfold pcV;unfold maxLen at *
 go_enter func78,ntmps78;go_wp2_with fail;generalize w.alloc (.cells #[qJ p.off,qJ p.len,qJ p.brk] 63)=f at *
 refine(b7.out f b2.out).mono ?_;rintro e wx ⟨rfl,V⟩;subst wx;go_wp2_with fail;refine(b8.out f av.out).mono ?_;rintro e wx ⟨rfl,V⟩;subst wx;have ad:=qG ((qO f.heap.size f).alloc lR (.cells #[] 65));have cd:=qG (b9.out f);have dl:=ad.out.size;have a0:=qG (RdI.below av.out ad.out (by omega));go_wp2_with fail;generalize f.alloc (.cells #[] 65)=w1 at *
 go_loopw [12,13] (fun n c8 wr=>∃ (t:List It) (S:AT) (i:Int) (nq:Nat),EdL a d p t S i∧n=qJ (S.its:Int)∧c8=qJ i∧wr=w1.drewN nq) (fun n _ _=>(intOf n).toNat)
 case atStart=>exact⟨[],d,0,0,ca.out,rfl,rfl,rfl⟩
 obtain⟨t,S,i,nq,s,rfl,rfl,rfl⟩:=hrel;have F:d.told 0= []++S.told i++t:=by rw [s.list];simp
 have dm:S.its+t.length=d.its:=by have G:=kZ List.length s.list;simp only [qM,AT.told_length]at G;omega
 have dn:0<=i∧i<=d.ht:=⟨s.lvl,by have:=s.top;omega⟩
 have ae:=qG (yw w.heap.size (.slice (qK b 0) d.its m) (d.told 0) (w1.drewN nq) (RdI.heap a0.out rfl) (by omega) ac.out F 0 (S.its:Int) rfl (by simp));by_cases hgt:a.ht+1<S.ht
 ·obtain⟨l,q,r,W,bq⟩:=s.step hgt
  have a1:=qG (Xm w.heap.size (.slice (qK b 0) d.its m) (d.told 0) (w1.drewN nq) (RdI.heap a0.out rfl) (by omega) (A:=[]) (B:=t) (l:=l) (q:=q) (r:=r) (e:=i) (by rw [<- W];exact F) s.fit 0 (S.its:Int) rfl (by rw [<- W];simp));rw [xK,xP]at a1;have ce:=qG (show S.its=l.its+1+r.its from(by rw [W];rfl));have cf:=qG bq;have cg:(a.ht:Int)+1<(S.ht:Int):=(by omega);clear s bq F W hgt;go_wp2_with fail;refine ae.out.mono ?_;rintro e wx ⟨rfl,V⟩;subst wx;go_wp2_with fail;refine a1.out.mono ?_;rintro e wx ⟨rfl,db,V⟩;subst wx;go_wp2;go_roundw
  case rel=>exact⟨_,l,i+1,nq+db,cf.out,rfl,by go_num,by first | exact World.drewN_drewN _ _ _ | rfl⟩
  have:=ce.out;simp [intOf];omega
 have ch:=qG (show R.told 0=lift (i+1) (a.told 0)++⟨p,i⟩::(lift 1 (S.told i)++t)from(by rw [cc.out,jK,jK,Int.zero_add];exact s.done hgt));have a2:=qG s.list
 have dp:t.length≠0:=by
  intro I;have G:t= []:=qW I;have ci:Go.Proofs.YtmjanhcplcalfaaGreatDoor.hgt (d.told 0)=Go.Proofs.YtmjanhcplcalfaaGreatDoor.hgt (S.told i):=(by rw [s.list,G,jd]);rw [Zq,Zq]at ci;omega
 have cj:=qG (XQ F ac.out);have a3:=qG (fun k (D:Below f.heap.size f k)=>Jb (zB aa.out D lR) ax.out a2.out);rw [AT.told_length]at a3;have a4:=qG (fun k (D:Below f.heap.size f k)=>liftS 1 (S.told i) (.slice (qK b 0) S.its m) k (.inr ⟨b,0,m,by rw [AT.told_length],xq cb D.size,yI (zB aa.out D lR) ax.out a2.out⟩) (by rw [AT.told_length];omega) (by omega) cj.out);have a5:=qG (fun k (D:Below f.heap.size f k)=>liftS (i+1) (a.told 0) _ k (SrcI.of (zB b3.out D lR)) (by omega) (by omega) ay.out);have a6:=qG ((y8 (i+1) (a.told 0)).trans b4.out);have a7:=qG ((y8 1 (S.told i)).trans (AT.told_length S i));rw [AT.told_length]at a5 a4;generalize lift 1 (S.told i)=ak at *
 generalize lift (i+1) (a.told 0)=al at *
 have cg:¬ (a.ht:Int)+1<(S.ht:Int):=by omega
 have dq:(S.its:Int)<=(m:Int):=by omega
 have k2:S.its<m:=by omega
 have dr:S.its<d.its:=by omega
 have a8:=qG (ad.out.trans (show Below f.heap.size w1 (w1.drewN nq)from⟨rfl,rfl,rfl,lR,fun _ _=>rfl⟩));have ck:=qG (zA (w':=w1.drewN nq) cd.out (fun _ _=>rfl));have ds:w1.heap.size<=(w1.drewN nq).heap.size:=lR;clear s hgt F h;go_wp2_with fail;refine ae.out.mono ?_;rintro e wx ⟨rfl,V⟩;subst wx;clear ae;generalize w1.drewN nq=c7 at *
 have H:=qG (a5.out c7 a8.out);go_wp2_with fail;refine H.out.mono ?_;rintro e br ⟨bs,dc,rfl,bt,X⟩;have dt:=X.size;have cl:=qG (a8.out.trans (X.mono (by omega)));have a9:=qG (zB ck.out X lR);have cm:=qG (show ∀j y,(itVs al)[j]? =some y->br.cell? ((⟨bs,0,none⟩:Addr).add j)=some y from yI bt a6.out (R:=[]) (by simp));clear bt X H;go_wp2_with (at_builtin;refine Qm _ rfl _ _ rfl f.heap.size _ (0) _ rfl (by exact a9.out) ⟨bs,0,none⟩ (a.its) (dc) (itVs (al)) rfl (by rw [zF];have:=a6.out;omega) (by exact cm.out) (zY _) (by unfold maxLen;omega) (by omega) (by omega) ?_;intro c3 u O ag bh;refine vR ?_);refine Lib.hid ?_;have du:=ag.size;have ba:=qG (cl.out.trans ((qO f.heap.size br).grown ag (by omega) (fun z o=>(a9.out.lt z o).1)));rw [show 0+(a.its)=a.its by omega]at O
 obtain⟨d2,d3,rfl⟩:∃g c,c3= .slice (qK g 0) (a.its) c:=by
  rcases O.2 with ⟨h,I⟩ | ⟨g,c,K,h,_⟩
  ·exact absurd (bh.1 h).1 (fun n=>by cases n)
  exact⟨_,_,h⟩
 have bc:=qG O;clear O ag bh;have M:=(ba.out.block w.heap.size b1).trans b0.out;have cn:u.cell? ⟨w.heap.size,0,none⟩=some (qJ p.off):=by rw [qP u _ 0 _ _ _ M];rfl
 have co:u.cell? ⟨w.heap.size,1,none⟩=some (qJ p.len):=by rw [qP u _ 1 _ _ _ M];rfl
 have cq:u.cell? ⟨w.heap.size,2,none⟩=some (qJ p.brk):=by rw [qP u _ 2 _ _ _ M];rfl
 have bd:=qG (zV u 65 [qJ p.off,qJ p.len,qJ p.brk,qJ i]);clear M;go_wp2_with (at_builtin;refine Qm _ rfl _ _ rfl f.heap.size _ (a.its) _ rfl (by exact vI bc.out _) ⟨u.heap.size,0,none⟩ 1 1 [qJ p.off,qJ p.len,qJ p.brk,qJ i] rfl rfl (by exact bd.out) (by intro y bi;simp at bi;rcases bi with rfl | rfl | rfl | rfl<;>rfl) (by unfold maxLen;omega) (by omega) (by simp;omega) ?_;intro c4 bj ah bk _;refine vR ?_);refine Lib.hid ?_;have af:=qG (ba.out.trans (((qO f.heap.size u).alloc (by omega) (.cells #[qJ p.off,qJ p.len,qJ p.brk,qJ i] 65)).grown bk (by simp;omega) (fun z o=>(bc.out.lt z o).1)));have dv:f.heap.size<=bj.heap.size:=af.out.size
 obtain⟨d4,d5,rfl⟩:∃g c,c4= .slice (qK g 0) (a.its+1) c:=by
  rcases ah.2 with ⟨_,I⟩ | ⟨g,c,K,h,_⟩
  ·omega
  exact⟨_,_,h⟩
 have cr:=qG ah;clear ah bk bd cn co cq;have H:=qG (a4.out bj af.out);go_wp2_with fail;refine H.out.mono ?_;rintro e bu ⟨bv,dd,rfl,bw,Y⟩;have dw:=Y.size;have cs:=qG (af.out.trans (Y.mono (by omega)));have be:=qG (zB cr.out Y lR);have ct:=qG (show ∀j y,(itVs ak)[j]? =some y->bu.cell? ((⟨bv,0,none⟩:Addr).add j)=some y from yI bw a7.out (R:=[]) (by simp));clear bw Y H;go_wp2_with (at_builtin;refine Qm _ rfl _ _ rfl f.heap.size _ (a.its+1) _ rfl (by exact be.out) ⟨bv,0,none⟩ (S.its) (dd) (itVs (ak)) rfl (by rw [zF];have:=a7.out;omega) (by exact ct.out) (zY _) (by unfold maxLen;omega) (by omega) (by omega) ?_;intro c5 bl P ai bm;refine vR ?_);refine Lib.hid ?_;have dx:=ai.size;have bf:=qG (cs.out.trans ((qO f.heap.size bu).grown ai (by omega) (fun z o=>(be.out.lt z o).1)));rw [show a.its+1+(S.its)=a.its+1+S.its by omega]at P
 obtain⟨d6,d7,rfl⟩:∃g c,c5= .slice (qK g 0) (a.its+1+S.its) c:=by
  rcases P.2 with ⟨h,I⟩ | ⟨g,c,K,h,_⟩
  ·exact absurd (bm.1 h).1 (fun n=>by cases n)
  exact⟨_,_,h⟩
 have bg:=qG P;clear P ai bm;have cu:=qG (a3.out bl bf.out);go_wp2_with (at_builtin;refine Qm _ rfl _ _ rfl f.heap.size _ (a.its+1+S.its) _ rfl (by exact bg.out) ⟨b,S.its*4,none⟩ (d.its - S.its) (m - S.its) (itVs (t)) rfl (by rw [zF];omega) (by exact cu.out) (zY _) (by unfold maxLen;omega) (by omega) (by omega) ?_;intro c6 aj v C bn;refine vR ?_);refine Lib.hid ?_;have dy:=C.size;have cv:=qG (bf.out.trans ((qO f.heap.size bl).grown C (by omega) (fun z o=>(bg.out.lt z o).1)));rw [show a.its+1+S.its+(d.its - S.its)=a.its+1+d.its by omega]at v
 obtain⟨bx,Z,rfl⟩:∃g c,c6= .slice (qK g 0) (a.its+1+d.its) c:=by
  rcases v.2 with ⟨h,I⟩ | ⟨g,c,K,h,_⟩
  ·exact absurd (bn.1 h).1 (fun n=>by cases n)
  exact⟨_,_,h⟩
 have cw:=qG v;clear v C bn
 have N:OwI aj f.heap.size (.slice (qK bx 0) (a.its+1+d.its) Z) (R.told 0):=by
  have G:=cw.out;unfold OwI;rw [AT.told_length,L.out];have cx:itVs (R.told 0)=([]:List Value)++itVs (al)++ [qJ p.off,qJ p.len,qJ p.brk,qJ i]++itVs (ak)++itVs (t):=(by rw [ch.out];simp [itVs,itV]);rw [cx];exact G
 obtain⟨de,df⟩:a.its+1+d.its<=Z∧Z<=maxLen:=by
  rcases N.2 with ⟨h,_⟩ | ⟨d8,d9,K,h,_,_,x,ar,_⟩
  ·cases h
  rw [AT.told_length,L.out]at h x;cases h;exact⟨x,ar⟩
 obtain⟨dg,ea,bz⟩:=az.out;have cy:=qG (yA f.heap.size bx Z (a.its+1+d.its) U ⟨de,df⟩ (by omega) dg R aj L.out bz (by omega) N);have cz:=qG (fun z o=>(N.lt z o).1);clear N bz;go_wp2_with fail;refine cy.out.mono ?_;rintro e eb ⟨rfl,v,C⟩;have c0:=qG (cv.out.trans ((qO f.heap.size aj).grown C (by omega) (fun z o=>cz.out z (by simpa [Value.ownBlock]using o))));have c1:=qG (E.out.trans (c0.out.mono (by omega)));have c2:=qG (zD v (show w.heap.size<=f.heap.size by omega));clear v C;go_wp2;go_ret;exact⟨_,rfl,c2.out,c1.out⟩
theorem joinS (a b:AT) (p:Pc) (f bb:Nat) (c d:Value) (w:World) (g:a.bal) (h:b.bal) (i:a.its+b.its<=8192) (j:OwI w f c (a.told 0)) (k:OwI w bb d (b.told 0)):
  Calls prog 78 #[c,pcV p,d] w fun e w'=>∃n,e= .returned n∧OwI w' w.heap.size n ((AT.spl a p b).told 0)∧Below w.heap.size w w':=by
 by_cases l:b.ht+1<a.ht
 ·exact join1 a b p f bb c d w g h i j k l
 by_cases m:a.ht+1<b.ht
 ·exact join2 a b p f bb c d w g h i j k m
 exact join3 a b p f bb c d w g h i j k l m
theorem AT.split_its (T:AT) (k:Nat) (d:k<=T.its):(T.split k).1.its=k∧(T.split k).2.its=T.its - k:=by
 have c:=AT.split_flat T k d;have a:=kZ List.length c.1;have b:=kZ List.length c.2;rw [AT.flat_length,qN,AT.flat_length]at a;rw [AT.flat_length,qR,AT.flat_length]at b;exact⟨by omega,b⟩
theorem splitS:∀ (T:AT) (k:Nat) (v:Value) (base:Nat) (w:World),T.bal->T.its<=8192->k<=T.its->OwI w base v (T.told 0)->
  Calls prog 53 #[v,qJ (k:Int)] w fun e w'=>∃x y,e= .returned (.tuple #[x,y])∧OwI w' w.heap.size x ((T.split k).1.told 0)∧OwI w' w.heap.size y ((T.split k).2.told 0)∧Below w.heap.size w w':=by
 intro T
 induction T with
 | nil=>
  intro k v base w _ _ ak N;obtain⟨ao,cb,rfl⟩:=(OwI.rd N).val;have bj:=qG (qO w.heap.size w);clear N;go_enter func53,ntmps53;go_wp2;refine xr (v:=.tuple #[_,_]) (by simp [results,results53,go_sem]) rfl ⟨_,_,rfl,⟨rfl,.inl ⟨rfl,rfl⟩⟩,⟨rfl,.inl ⟨rfl,rfl⟩⟩,bj⟩
 | node l p r bh bi=>
  intro k v base w bq b9 ak N;have ac:=AT.told_length (AT.node l p r) 0;obtain⟨E,d,bx,bz⟩:=bq
  obtain⟨b,C,rfl,cc,b0⟩:∃b C,v= .slice (qK b 0) (AT.node l p r).its C∧(AT.node l p r).its<=C∧C<=maxLen:=by
   rcases N.2 with ⟨a3,P⟩ | ⟨g,cp,cd,a3,_,_,P,b1,_⟩
   ·exact absurd P (by rw [ac];simp only [AT.its];omega)
   rw [ac]at a3 P;exact⟨g,cp,a3,P,b1⟩
  unfold maxLen at b0;have b3:l.its+1+r.its=(AT.node l p r).its:=rfl;have ad:(AT.node l p r).told 0=l.told 1++⟨p,0⟩::r.told 1:=(by simp [AT.told]);have a7:(AT.node l p r).told 0=l.told 1++(⟨p,0⟩::r.told 1):=ad;have a8:(AT.node l p r).told 0=(l.told 1++ [⟨p,0⟩])++r.told 1:=by rw [ad];simp
  have a9:((AT.node l p r).told 0)[l.its]? =some ⟨p,0⟩:=by
   rw [ad,xa (by rw [AT.told_length];exact lR),AT.told_length,vG];rfl
  have LV:=yS (AT.node l p r) (by omega);have bk:=qG (XQ (A:=[]) (Z:=l.told 1) (B:=⟨p,0⟩::r.told 1) (by rw [ad];simp) LV);have bl:=qG (XQ (A:=l.told 1++ [⟨p,0⟩]) (Z:=r.told 1) (B:=[]) (by rw [ad];simp) LV);have ae:=qG (Xm w.heap.size (.slice (qK b 0) (AT.node l p r).its C) ((AT.node l p r).told 0) w N.rd (by omega) (A:=[]) (B:=[]) (l:=l) (q:=p) (r:=r) (e:=0) (by simp) ⟨fun a H=>by simp at H,fun a H=>by simp at H⟩ 0 ((AT.node l p r).its:Int) rfl (by simp));rw [xK,xP]at ae;have aq:=(N.lt b rfl).2;have ar:=qG (fun c (D:Below w.heap.size w c)=>zB N D lR);have af:=qG (fun c (D:Below w.heap.size w c)=>liftS (-1) (l.told 1) (.slice (qK b 0) l.its C) c (.inr ⟨b,0,C,by rw [AT.told_length],xq aq D.size,yI (ar c D) ac a7⟩) (by rw [AT.told_length];omega) (by omega) bk);have ag:=qG (fun c (i:Value) (D:Below w.heap.size w c) (bw:SrcI c i (r.told 1))=>liftS (-1) (r.told 1) i c bw (by rw [AT.told_length];omega) (by omega) bl);have ba:=qG (fun c (D:Below w.heap.size w c)=>(show SrcI c (.slice (qK b ((l.its+1)*4)) ((AT.node l p r).its - (l.its+1)) (C - (l.its+1))) (r.told 1)from .inr ⟨b,(l.its+1)*4,C - (l.its+1),by rw [AT.told_length];congr 1;omega,xq aq D.size,by have Q:=Jb (ar c D) ac a8;rw [qM,AT.told_length]at Q;exact Q⟩))
  have bc:=qG (fun(c:World) (D:Below w.heap.size w c) (bv:r.its=0)=>(show SrcI c (.slice (qK b 0) 0 0) (r.told 1)from(by
   have Q:r.told 1= []:=qW (by rw [AT.told_length];exact bv);rw [Q]
   exact .inr ⟨b,0,0,rfl,xq aq D.size,by intro j i br;simp [itVs]at br⟩)))
  rw [jK,AT.told_length,show(1:Int)+ -1=0 by omega]at af ag;have ap:=qG (fun c (D:Below w.heap.size w c)=>OwI.c3 (by have Q:=ar c D;rw [ac]at Q;exact Q) a9);have bd:=qG (fun(c:World) (i:Value) (bs:Nat) (H:OwI c bs i (l.told 0)) (ak:k<=l.its)=>bh k i bs c E (by omega) ak H);have be:=qG (fun(c:World) (i:Value) (bs:Nat) (H:OwI c bs i (r.told 0)) (ak:k - l.its - 1<=r.its)=>bi (k - l.its - 1) i bs c d (by omega) ak H);have bf:=qG (fun(u:k<=l.its) (c:World) (i u2:Value) (bs al:Nat) (H:OwI c bs i ((l.split k).2.told 0)) (P:OwI c al u2 (r.told 0))=>joinS (l.split k).2 r p bs al i u2 c (AT.split_bal l k E).2 d (by rw [(AT.split_its l k u).2];omega) H P);have bg:=qG (fun(u:k - l.its - 1<=r.its) (c:World) (i u2:Value) (bs al:Nat) (H:OwI c bs i (l.told 0)) (P:OwI c al u2 ((r.split (k - l.its - 1)).1.told 0))=>joinS l (r.split (k - l.its - 1)).1 p bs al i u2 c E (AT.split_bal r _ d).1 (by rw [(AT.split_its r _ u).1];omega) H P);unfold pcV at bf bg;have bm:=qG (fun u:k<=l.its=>(show(AT.node l p r).split k=((l.split k).1,AT.spl (l.split k).2 p r)from(by simp only [AT.split,xd u])));have bn:=qG (fun u:¬k<=l.its=>(show(AT.node l p r).split k=(AT.spl l p (r.split (k - l.its - 1)).1,(r.split (k - l.its - 1)).2)from(by simp only [AT.split,qZ u])));clear bh bi bx bz E d ac ad a7 a8 a9 LV;generalize (AT.node l p r).its=n at *
  generalize (AT.node l p r).split k=ca at *
  have b4:=qG (qO w.heap.size w);have b5:=qG (N);clear N;have b6:(l.its:Int)<=(C:Int):=(by omega);have b7:(l.its:Int)+1<=(C:Int):=(by omega);have b8:(l.its:Int)<(n:Int):=(by omega);by_cases u:k<=l.its
  ·have ah:=qG (bf u)
   rw [bm.out u];have bo:(k:Int)<=(l.its:Int):=(by omega);generalize (l.split k).1=bu at *
   generalize (l.split k).2=S2 at *
   go_enter func53,ntmps53;go_wp2_with fail;refine ae.mono ?_;rintro e w1 ⟨rfl,q,am⟩;have R:=qG (show Below w.heap.size w w1 from(by rw [am];exact⟨rfl,rfl,rfl,lR,fun _ _=>rfl⟩));have au:=R.size;clear am ae;go_wp2_with fail;refine(af w1 R).mono ?_;rintro e O ⟨gl,b2,rfl,an,E⟩;have s:=qG (R.trans (E.mono au));have bp:=E.size;have ai:=qG an;clear an E af;by_cases bt:C=l.its+1
   ·have aj:r.its=0:=by omega
    have av:n=l.its+1:=(by omega);have h:=qG (ag O _ s (bc O s aj));rw [aj]at h;go_wp2_with fail;refine h.mono ?_;rintro e I ⟨a4,a5,rfl,J,d⟩;have S:=qG (s.trans (d.mono (by omega)));have aw:=d.size;have U:=qG J;have V:=qG (zB ai d lR);clear J d h av;have t:=qG (bd I _ _ V u);go_wp2_with fail;refine t.mono ?_;rintro e m ⟨x,y,rfl,K,L,f⟩;have F:=qG (S.trans (f.mono (by omega)));have ax:=f.size;have ay:=qG K;have G:=qG (ah m y _ _ _ L (zB U f lR));obtain⟨Y,aa,ab⟩:=ap m F;clear K L f t;go_wp2_with fail;refine G.mono ?_;rintro e a6 ⟨z,rfl,M,o⟩;have W:=qG (F.trans (o.mono (by omega)));have az:=qG (zD (zB ay o lR) (show w.heap.size<=I.heap.size by omega));have X:=qG (zD M (show w.heap.size<=m.heap.size by omega));clear M o G Y aa ab;go_wp2;refine xr (v:=.tuple #[_,_]) (by simp [results,results53,go_sem]) rfl ⟨_,_,rfl,az,X,W⟩
   have h:=qG (ag O _ s (ba O s));rw [show r.its=n - (l.its+1)by omega]at h;go_wp2_with fail;refine h.mono ?_;rintro e I ⟨a4,a5,rfl,J,d⟩;have S:=qG (s.trans (d.mono (by omega)));have aw:=d.size;have U:=qG J;have V:=qG (zB ai d lR);clear J d h;have t:=qG (bd I _ _ V u);go_wp2_with fail;refine t.mono ?_;rintro e m ⟨x,y,rfl,K,L,f⟩;have F:=qG (S.trans (f.mono (by omega)));have ax:=f.size;have ay:=qG K;have G:=qG (ah m y _ _ _ L (zB U f lR));obtain⟨Y,aa,ab⟩:=ap m F;clear K L f t;go_wp2_with fail;refine G.mono ?_;rintro e a6 ⟨z,rfl,M,o⟩;have W:=qG (F.trans (o.mono (by omega)));have az:=qG (zD (zB ay o lR) (show w.heap.size<=I.heap.size by omega));have X:=qG (zD M (show w.heap.size<=m.heap.size by omega));clear M o G Y aa ab;go_wp2;refine xr (v:=.tuple #[_,_]) (by simp [results,results53,go_sem]) rfl ⟨_,_,rfl,az,X,W⟩
  have a0:k - l.its - 1<=r.its:=(by omega);have ah:=qG (bg a0);rw [bn.out u];have bo:¬ (k:Int)<=(l.its:Int):=(by omega);generalize (r.split (k - l.its - 1)).1=bu at *
  generalize (r.split (k - l.its - 1)).2=S2 at *
  go_enter func53,ntmps53;go_wp2_with fail;refine ae.mono ?_;rintro e w1 ⟨rfl,q,am⟩;have R:=qG (show Below w.heap.size w w1 from(by rw [am];exact⟨rfl,rfl,rfl,lR,fun _ _=>rfl⟩));have au:=R.size;clear am ae;go_wp2_with fail;refine(af w1 R).mono ?_;rintro e O ⟨gl,b2,rfl,an,E⟩;have s:=qG (R.trans (E.mono au));have bp:=E.size;have ai:=qG an;clear an E af;by_cases bt:C=l.its+1
  ·have aj:r.its=0:=by omega
   have av:n=l.its+1:=(by omega);have h:=qG (ag O _ s (bc O s aj));rw [aj]at h;go_wp2_with fail;refine h.mono ?_;rintro e I ⟨a4,a5,rfl,J,d⟩;have S:=qG (s.trans (d.mono (by omega)));have aw:=d.size;have U:=qG J;have V:=qG (zB ai d lR);clear J d h av;have t:=qG (be I _ _ U a0);rw [show((k - l.its - 1:Nat):Int)=(k:Int) - (l.its:Int) - 1 by omega]at t;go_wp2_with fail;refine t.mono ?_;rintro e m ⟨x,y,rfl,K,L,f⟩;have F:=qG (S.trans (f.mono (by omega)));have ax:=f.size;have a1:=qG L;have G:=qG (ah m _ x _ _ (zB V f lR) K);obtain⟨Y,aa,ab⟩:=ap m F;clear K L f t;go_wp2_with fail;refine G.mono ?_;rintro e a6 ⟨z,rfl,M,o⟩;have W:=qG (F.trans (o.mono (by omega)));have a2:=qG (zD (zB a1 o lR) (show w.heap.size<=I.heap.size by omega));have X:=qG (zD M (show w.heap.size<=m.heap.size by omega));clear M o G Y aa ab;go_wp2;refine xr (v:=.tuple #[_,_]) (by simp [results,results53,go_sem]) rfl ⟨_,_,rfl,X,a2,W⟩
  have h:=qG (ag O _ s (ba O s));rw [show r.its=n - (l.its+1)by omega]at h;go_wp2_with fail;refine h.mono ?_;rintro e I ⟨a4,a5,rfl,J,d⟩;have S:=qG (s.trans (d.mono (by omega)));have aw:=d.size;have U:=qG J;have V:=qG (zB ai d lR);clear J d h;have t:=qG (be I _ _ U a0);rw [show((k - l.its - 1:Nat):Int)=(k:Int) - (l.its:Int) - 1 by omega]at t;go_wp2_with fail;refine t.mono ?_;rintro e m ⟨x,y,rfl,K,L,f⟩;have F:=qG (S.trans (f.mono (by omega)));have ax:=f.size;have a1:=qG L;have G:=qG (ah m _ x _ _ (zB V f lR) K);obtain⟨Y,aa,ab⟩:=ap m F;clear K L f t;go_wp2_with fail;refine G.mono ?_;rintro e a6 ⟨z,rfl,M,o⟩;have W:=qG (F.trans (o.mono (by omega)));have a2:=qG (zD (zB a1 o lR) (show w.heap.size<=I.heap.size by omega));have X:=qG (zD M (show w.heap.size<=m.heap.size by omega));clear M o G Y aa ab;go_wp2;refine xr (v:=.tuple #[_,_]) (by simp [results,results53,go_sem]) rfl ⟨_,_,rfl,X,a2,W⟩
theorem AT.rem_its0 (T:AT) (a:0<T.its):(T.rem 0).its=T.its - 1:=by
 rw [<- AT.flat_length,AT.rem_flat T 0 a];simp only [qM,qN,qR,AT.flat_length];omega
theorem bothS (c a:AT) (a1 bb:Nat) (N x:Value) (w:World) (F:c.bal) (y:a.bal) (bd:c.its+a.its<=8192) (r:OwI w a1 N (c.told 0)) (i:OwI w bb x (a.told 0)):
  Calls prog 54 #[N,x] w fun e w'=>∃aa,e= .returned aa∧OwI w' w.heap.size aa ((AT.join c a).told 0)∧Below w.heap.size w w':=by
 have E:=AT.told_length c 0;have m:=AT.told_length a 0
 obtain⟨ao,M,a2⟩:∃ao M,N= .slice ao c.its M:=by
  obtain⟨ao,A,B⟩:=(OwI.rd r).val;exact⟨ao,A,by rw [B,E]⟩
 subst a2;cases c with
 | nil=>
  obtain⟨l,h,O⟩:∃l h,x= .slice l a.its h:=by
   obtain⟨l,A,B⟩:=(OwI.rd i).val;exact⟨l,A,by rw [B,m]⟩
  subst O;have ai:=qG (copyG (a.told 0) _ w (SrcI.of i) (by omega));have n:AT.join .nil a=a:=rfl;rw [n];clear r i E m F y n;go_enter func54,ntmps54;go_wp2_with fail;refine ai.mono ?_;rintro e w1 ⟨g,cp,rfl,C,D⟩;have I:=qG C;have J:=qG D;clear C D;go_wp2;go_ret;exact⟨_,rfl,I,J⟩
 | node j ap k=>
  have T:(AT.node j ap k).its=j.its+1+k.its:=rfl;have a6:¬ (((AT.node j ap k).its:Int)=0):=(by omega);have aj:=qG (copyG ((AT.node j ap k).told 0) _ w (SrcI.of r) (by omega));cases a with
  | nil=>
   obtain⟨l,h,O⟩:∃l h,x= .slice l 0 h:=by
    obtain⟨l,A,B⟩:=(OwI.rd i).val;exact⟨l,A,by rw [B,m];rfl⟩
   subst O;have n:AT.join (.node j ap k) .nil= .node j ap k:=rfl;rw [n];generalize AT.node j ap k=c at *
   clear r i E m F y n T;go_enter func54,ntmps54;go_wp2_with fail;refine aj.mono ?_;rintro e w1 ⟨g,cp,rfl,C,D⟩;have I:=qG C;have J:=qG D;clear C D;go_wp2;go_ret;exact⟨_,rfl,I,J⟩
  | node bl d br=>
   have ak:(AT.node bl d br).its=bl.its+1+br.its:=rfl;have a7:¬ (((AT.node bl d br).its:Int)=0):=by omega
   obtain⟨b,h,rfl,be,a3⟩:∃b h,x= .slice (qK b 0) (AT.node bl d br).its h∧(AT.node bl d br).its<=h∧h<=maxLen:=by
    rcases i.2 with ⟨z,t⟩ | ⟨g,cp,bf,z,_,_,t,a4,_⟩
    ·exact absurd t (by rw [m];omega)
    rw [m]at z t;exact⟨g,cp,z,t,a4⟩
   have n:AT.join (.node j ap k) (.node bl d br)=AT.spl (.node j ap k) (AT.first (.node bl d br)) (AT.rem (.node bl d br) 0):=rfl;rw [n];obtain⟨s,Q,f,ae,_⟩:=AT.first_at (AT.node bl d br) 0 (by simp);have V:((AT.node bl d br).told 0)[0]? =some ⟨AT.first (AT.node bl d br),f⟩:=(by rw [ae];rfl);have X:=AT.rem_bal (AT.node bl d br) 0 y (by omega);have al:=AT.rem_its0 (AT.node bl d br) (by omega);generalize AT.node j ap k=c at *
   generalize AT.node bl d br=a at *
   have am:=qG (fun W (G:OwI W bb (.slice (qK b 0) a.its h) (a.told 0))=>zEr a 0 bb b h W y (by omega) (by omega) G);have Y:=qG (fun W (ab:Value) (ac ad:Nat) (z:OwI W ac (.slice ao c.its M) (c.told 0)) (t:OwI W ad ab ((a.rem 0).told 0))=>joinS c (a.rem 0) (AT.first a) ac ad _ ab W F X.1 (by omega) z t);unfold pcV at Y;obtain⟨P,R,S⟩:=OwI.c3 (by have K:=i;unfold OwI at K;rw [m]at K;exact K) V;rw [Nat.zero_mul]at P;rw [Nat.zero_mul,xP]at R;rw [Nat.zero_mul,xP]at S;simp only at P R S;have L:=(i.lt b rfl).2;have an:=qG r;have aq:=qG i;generalize AT.first a=q at *
   generalize a.rem 0=a0 at *
   generalize AT.spl c q a0=U at *
   have a8:(0:Int)<(a.its:Int):=(by omega);clear r i E m F y n T ak ae V X al;unfold maxLen at a3;go_enter func54,ntmps54;go_upto_region 5 with fail;go_cut [4] (fun s wc=>OwI wc w.heap.size s (U.told 0)∧Below w.heap.size w wc)
   case first=>
    go_region_with (first
     | (go_at_call 55;refine(am _ (by exact zA aq (fun _ _=>rfl))).mono ?_;rintro e H ⟨bg,rfl,af,u⟩;have o:Below w.heap.size w H:=⟨u.os,u.tape,u.output,u.size,u.block⟩;have ar:=qG o;have Z:=o.size;have au:=qG af;have av:=qG (zB an o lR);have a9:=(o.cell (p:=⟨b,0,none⟩) L).trans P;have ba:=(o.cell (p:=⟨b,1,none⟩) L).trans R;have bc:=(o.cell (p:=⟨b,2,none⟩) L).trans S;clear u af o)
     | (go_at_call 78;refine(Y _ _ _ _ (by exact zA av (fun _ _=>rfl)) (by exact zA au (fun _ _=>rfl))).mono ?_;rintro e a5 ⟨bh,rfl,ag,v⟩;have aw:=qG (ar.trans ((show Below H.heap.size H a5 from⟨v.os,v.tape,v.output,v.size,v.block⟩).mono Z));have ax:=qG (zD ag (show w.heap.size<=H.heap.size from Z));clear v ag))
    all_goals (go_wp2_with fail;go_meet;exact⟨ax,aw⟩)
   case rest=>
   obtain⟨G,ah⟩:=hcut;have ay:=qG G;have az:=qG ah;clear G ah;go_wp2;go_ret;exact⟨_,rfl,ay,az⟩
theorem delSA (zs:List Int) (X df aq bj bk bl E L:List It) (n k ar k2 t a z:Nat) (b o cap:Nat) (I:Option Addr) (F:Nat) (lo hi:Int) (w:World)
  (V:Hid (zs.length=n)) (fr:Hid (X.length=k)) (P:Hid (E.length=t)) (fs:n<=220000) (ft:k<=8192) (fu:t<=8192) (fv:a<=8192) (fw:z<=8192) (fy:a<=z) (fz:k<=F) (ef:F<=maxLen) (f0:0<=lo∧lo<=8192) (f1:lo<=hi∧hi<=8192)
  (eg:Hid (yC w b o zs)) (eh:b<w.heap.size)
  (dg:Hid (∀ (j:Nat) (y:It),E[j]? =some y->0<=y.pc.off∧1<=y.pc.len∧y.pc.len<=8192∧y.pc.off+y.pc.len<=n))
  (dh:Hid (∀f,Below w.heap.size w f->Calls prog 50 #[.slice I k F] f fun e w'=>∃g cp,e= .returned (.slice (qK g 0) k cp)∧OwI w' f.heap.size (.slice (qK g 0) k cp) X∧Below f.heap.size f w'))
  (di:Hid (∀f base gs cs A B,yC f gs 0 zs->gs<f.heap.size->n<=cs->cs<=maxLen->OwI f base (.slice (qK A 0) k B) X->base<=f.heap.size->Calls prog 51 #[.slice (qK gs 0) n cs,.slice (qK A 0) k B,qJ lo] f fun e w'=>∃g c,e= .returned (.slice (qK g 0) ar c)∧OwI w' base (.slice (qK g 0) ar c) df∧Below f.heap.size f w'))
  (dj:Hid (∀f base gs cs A B,yC f gs 0 zs->gs<f.heap.size->n<=cs->cs<=maxLen->OwI f base (.slice (qK A 0) ar B) df->base<=f.heap.size->Calls prog 51 #[.slice (qK gs 0) n cs,.slice (qK A 0) ar B,qJ hi] f fun e w'=>∃g c,e= .returned (.slice (qK g 0) k2 c)∧OwI w' base (.slice (qK g 0) k2 c) aq∧Below f.heap.size f w'))
  (dk:Hid (∀f base A B,OwI f base (.slice (qK A 0) k2 B) aq->Calls prog 52 #[.slice (qK A 0) k2 B,qJ lo] f fun e w'=>e= .returned (qJ (a:Int))∧w'=f))
  (dl:Hid (∀f base A B,OwI f base (.slice (qK A 0) k2 B) aq->Calls prog 52 #[.slice (qK A 0) k2 B,qJ hi] f fun e w'=>e= .returned (qJ (z:Int))∧w'=f))
  (dm:Hid (∀f base A B,OwI f base (.slice (qK A 0) k2 B) aq->Calls prog 53 #[.slice (qK A 0) k2 B,qJ (a:Int)] f fun e w'=>∃x y,e= .returned (.tuple #[x,y])∧OwI w' f.heap.size x bj∧OwI w' f.heap.size y bk∧Below f.heap.size f w'))
  (dn:Hid (∀f base v,OwI f base v bk->Calls prog 53 #[v,qJ ((z:Int) - (a:Int))] f fun e w'=>∃x y,e= .returned (.tuple #[x,y])∧OwI w' f.heap.size y bl∧Below f.heap.size f w'))
  (dp:Hid (∀f base v base' O,OwI f base v bj->OwI f base' O bl->Calls prog 54 #[v,O] f fun e w'=>∃O,e= .returned O∧OwI w' f.heap.size O E∧Below f.heap.size f w'))
  (ei:Hid (∀f gs cs (d h:It),yC f gs 0 zs->gs<f.heap.size->n<=cs->cs<=maxLen->0<=d.pc.off->1<=d.pc.len->1<=h.pc.len->d.pc.off+d.pc.len=h.pc.off->h.pc.off+h.pc.len<=n->Calls prog 46 #[.slice (qK gs 0) n cs,qJ d.pc.off,qJ (d.pc.len+h.pc.len)] f fun e w'=>e= .returned (.agg #[qJ d.pc.off,qJ (d.pc.len+h.pc.len),qJ (pcAt zs d.pc.off (d.pc.len+h.pc.len)).brk])∧Below f.heap.size f w'))
  (ej:Hid (lo=hi->L=X))
  (ek:Hid (lo≠hi->¬ (0<a∧a<t)->L=E))
  (el:Hid (∀r d h,lo≠hi->a=r+1->E[r]? =some d->E[r+1]? =some h->¬d.pc.off+d.pc.len=h.pc.off->L=E))
  (em:Hid (∀r d h,lo≠hi->a=r+1->r+1<t->E[r]? =some d->E[r+1]? =some h->d.pc.off+d.pc.len=h.pc.off->∀f base g c,f.ownsRow base 65 4 (.slice (qK g 0) t c) t (itVs (E.set r ⟨⟨d.pc.off,d.pc.len+h.pc.len,(pcAt zs d.pc.off (d.pc.len+h.pc.len)).brk⟩,d.lv⟩))->Calls prog 55 #[.slice (qK g 0) t c,qJ ((r:Int)+1)] f fun e w'=>∃O,e= .returned O∧OwI w' f.heap.size O L∧Below f.heap.size f w')):
  Calls prog 28 #[.agg #[.slice (qK b o) n cap,.slice I k F],qJ lo,qJ hi] w (XP w zs L):=by
 unfold maxLen at ef;have bz:=qG (((qO w.heap.size w).alloc lR (.cells #[.slice (qK b o) n cap,.slice I k F] 30)).alloc (by simp) (.cells #[.slice none 0 0,.slice none 0 0] 30))
 have b0:=qG (show((w.alloc (.cells #[.slice (qK b o) n cap,.slice I k F] 30)).alloc (.cells #[.slice none 0 0,.slice none 0 0] 30)).heap[w.heap.size]? =some (.cells #[.slice (qK b o) n cap,.slice I k F] 30 (0,0))by
  rw [vV _ _ _ (by simp)];exact xg _ _)
 have dt:=qG (show((w.alloc (.cells #[.slice (qK b o) n cap,.slice I k F] 30)).alloc (.cells #[.slice none 0 0,.slice none 0 0] 30)).heap[w.heap.size+1]? =some (.cells #[.slice none 0 0,.slice none 0 0] 30 (0,0))by
  have:=xg (w.alloc (.cells #[.slice (qK b o) n cap,.slice I k F] 30)) (.cells #[.slice none 0 0,.slice none 0 0] 30)
  rw [show(w.alloc (.cells #[.slice (qK b o) n cap,.slice I k F] 30)).heap.size=w.heap.size+1 by simp]at this;exact this)
 have ey:w.heap.size+2<=((w.alloc (.cells #[.slice (qK b o) n cap,.slice I k F] 30)).alloc (.cells #[.slice none 0 0,.slice none 0 0] 30)).heap.size:=by simp
 have ez:IntKind.i64.wrap ((z:Int) - (a:Int))=(z:Int) - (a:Int):=i64w _ (by omega) (by omega);go_enter func28,ntmps28;go_upto_region 1 with fail;generalize (w.alloc (.cells #[.slice (qK b o) n cap,.slice I k F] 30)).alloc (.cells #[.slice none 0 0,.slice none 0 0] 30)=s at *
 have b1:s.cell? ⟨w.heap.size,0,none⟩=some (.slice (qK b o) n cap):=by rw [qP s _ 0 _ _ _ b0.out];rfl
 have b2:=qG (ZH s);have al:=qG ((qO s.heap.size s).alloc lR (.cells #[] 21));have b3:=qG (Z1 (show yC (s.alloc (.cells #[] 21)) b o zs from fun i hi=>(al.cell (p:=⟨b,o+i,none⟩) (by show b<_;omega)).trans ((bz.cell (p:=⟨b,o+i,none⟩) eh).trans (eg i hi))));have a1:(s.alloc (.cells #[] 21)).cell? ⟨w.heap.size,0,none⟩=some (.slice (qK b o) n cap):=(al.cell (p:=⟨w.heap.size,0,none⟩) (by show w.heap.size<_;omega)).trans b1;have a2:=qG (show(s.alloc (.cells #[] 21)).ownsRow s.heap.size 21 1 (.slice (qK s.heap.size 0) 0 0) 0 []from b2);have du:=qG (show(ints .i32 zs).length=n*1 by rw [zC,V.out];omega);go_upto_region 2 with (at_builtin;refine Ql _ rfl _ _ rfl s.heap.size (.slice (qK s.heap.size 0) 0 0) 0 [] rfl (by exact a2) ⟨b,o,none⟩ n cap (ints .i32 zs) rfl (by exact du) (by exact b3) (zG .i32 zs) (by unfold maxLen;omega) (by omega) (by simp) ?_;intro db ah dc dd de;refine vR ?_)
 refine Lib.hid ?_;have a3:=qG (show own32 ah s.heap.size db zs from(by have D:=dc;unfold own32;rw [V.out];rw [xP,xH]at D;exact D));have am:=qG (al.trans ((qO s.heap.size _).grown dd (by simp) (fun q l=>(a2.lt q l).1)));have b4:=qG (show ¬db= .slice none 0 0 from fun e=>absurd (de.1 e).1 (by simp));clear dc dd de b2 a2 b3 a1 al b1;obtain⟨gs,cs,rfl,bm,bn,f2,f3⟩:=Zr a3 V b4;have e0:=am.size;have b5:=(am.block w.heap.size (by omega)).trans b0;have a1:ah.cell? ⟨w.heap.size,1,none⟩=some (.slice I k F):=by rw [qP ah _ 1 _ _ _ b5];rfl
 have b6:=qG ((am.block (w.heap.size+1) (by omega)).trans dt);have a4:=qG (bz.trans (am.mono (by omega)));have b7:=qG (dh ah a4);clear b5 b4 dh;go_wp2_with fail;refine b7.mono ?_;rintro e M ⟨A,B,rfl,bo,ai⟩;have dv:=ai.size;have a5:=qG (a4.trans (ai.mono (by omega)));have an:=qG (show own32 M s.heap.size _ zs from zB a3 ai lR);have a6:=qG bo;have R:=qG ((ai.block (w.heap.size+1) (by omega)).trans b6);have b8:=qG (fun q l=>(bo.lt q l).1);clear ai bo b7 a4 a3 b6 a1;by_cases bg:lo=hi
 ·have dw:=qG (ej bg)
  subst bg;have dx:=qG (show OwI M ah.heap.size (.slice (qK A 0) k B) L from(by rw [dw.out];exact a6));have G:M.cell? ⟨w.heap.size+1,0,none⟩=some (.slice none 0 0):=(by rw [qP M _ 0 _ _ _ R.out];rfl);have H:M.cell? ⟨w.heap.size+1,1,none⟩=some (.slice none 0 0):=(by rw [qP M _ 1 _ _ _ R.out];rfl);have S:=xp M (w.heap.size+1) 0 _ _ R;have T:=xp M (w.heap.size+1) 1 _ _ R;go_wp2;refine xr (v:=.agg #[.slice (qK gs 0) n cs,.slice (qK A 0) k B]) (by simp [results,results28,go_sem,G,H]) rfl ⟨_,_,rfl,?_,?_,?_,⟨_,_,_,rfl⟩⟩
  ·exact zA (zD an (by omega)) (fun q l=>by cases l;rw [xo _ _ _ _ (by simp;omega),xo _ _ _ _ (by simp;omega)])
  ·exact zA (zD dx (by omega)) (fun q l=>by have D:=b8 q l;rw [xo _ _ _ _ (by simp;omega),xo _ _ _ _ (by simp;omega)])
  exact(a5.setCell (by simp) _).setCell (by simp) _
 have a7:=qG bg;have b9:=qG (di M _ gs cs A B (zc V an) (by omega) bm bn a6 dv);clear di a6 b8;go_wp2_with fail;refine b9.mono ?_;rintro e dq ⟨en,eo,rfl,dr,W⟩;have e1:=W.size;have ca:=qG (a5.trans (W.mono (by omega)));have a8:=qG (show own32 dq s.heap.size _ zs from zB an W lR);have cb:=qG ((W.block (w.heap.size+1) (by omega)).trans R);have e2:=W;clear W a5 an R;have cc:=qG (dj dq _ gs cs en eo (zc V a8) (by omega) bm bn dr (by omega));clear dj b9 dr;go_wp2_with fail;refine cc.mono ?_;rintro e au ⟨bp,bq,rfl,av,Y⟩;have e3:=Y.size;have cd:=qG (ca.trans (Y.mono (by omega)));have ce:=qG (show own32 au s.heap.size _ zs from zB a8 Y lR);have cf:=qG ((Y.block (w.heap.size+1) (by omega)).trans cb);have e4:=Y;clear Y ca a8 cb;have cg:=qG (dk au _ bp bq av);have ch:=qG (dl au _ bp bq av);have ci:=qG (dm au _ bp bq av);clear cc dk dl dm av;go_wp2_with fail;refine cg.mono ?_;rintro e wx ⟨rfl,br⟩;have a9:=br.symm;subst a9;go_wp2_with fail;refine ch.mono ?_;rintro e wx ⟨rfl,br⟩;have a9:=br.symm;subst a9;go_wp2_with fail;refine ci.mono ?_;rintro e ds ⟨f4,f5,rfl,bs,bt,Z⟩;obtain⟨f6,f7,rfl⟩:=zb bs;obtain⟨f8,f9,rfl⟩:=zb bt;have e5:=Z.size;have cj:=qG (cd.trans (Z.mono (by omega)));have ck:=qG (show own32 ds s.heap.size _ zs from zB ce Z lR);have cl:=qG ((Z.block (w.heap.size+1) (by omega)).trans cf);have e6:=Z;clear Z cd ce cf;have cm:=qG bs;have cn:=qG (dn ds _ _ bt);generalize bj.length=fn at *
 generalize bk.length=fo at *
 clear cg ch ci dn bs bt;go_wp2_with fail;refine cn.mono ?_;rintro e aa ⟨ga,gb,rfl,bu,ab⟩;obtain⟨gc,gd,rfl⟩:=zb bu;have e7:=ab.size;have co:=qG (cj.trans (ab.mono (by omega)));have cq:=qG (show own32 aa s.heap.size _ zs from zB ck ab lR);have cr:=qG ((ab.block (w.heap.size+1) (by omega)).trans cl);have ct:=ab;clear ab cj ck cl;have cu:=qG (dp aa _ _ _ _ (OwI.below cm ct lR) bu);generalize bl.length=fp at *
 clear cn dp bu cm ct;go_wp2_with fail;refine cu.mono ?_;rintro e m ⟨ge,rfl,aw,ac⟩;have e8:=ac.size;have ba:=qG (co.trans (ac.mono (by omega)));have bc:=qG (show own32 m s.heap.size _ zs from zB cq ac lR);have K:=qG ((ac.block (w.heap.size+1) (by omega)).trans cr);have dy:=ac;clear ac co cq cr;have bd:=qG aw;have cv:=qG (fun q l=>(aw.lt q l).1);obtain⟨ax,J,aj⟩:=zb aw;rw [P.out]at aj;have dz:=qG aj;clear cu dy aw;by_cases bh:0<a∧a<t
 ·obtain⟨r,ep⟩:∃r,a=r+1:=⟨a - 1,by omega⟩
  obtain⟨d,ad⟩:∃y,E[r]? =some y:=⟨_,qY (by rw [P.out];omega)⟩
  obtain⟨h,ae⟩:∃y,E[r+1]? =some y:=⟨_,qY (by rw [P.out];omega)⟩
  obtain⟨u,gf,eq,gg,er⟩:∃g c,ax=some ⟨g,0,none⟩∧t<=J∧J<=maxLen:=by
   rcases bd.2 with ⟨ay,az⟩ | ⟨g,cp,gh,ay,_,_,az,es,_⟩
   ·rw [P.out]at az;omega
   rw [P.out]at ay az;rw [aj]at ay;cases ay;exact⟨g,0,rfl,az,es⟩
  subst eq;subst aj;subst ep;have cw:=dg r d ad;have cx:=dg (r+1) h ae;have cy:=qG ad;have e9:=qG ae;have cz:=qG (el r d h a7 rfl ad ae);have c0:=qG (em r d h a7 rfl bh.2 ad ae)
  have ag:m.ownsRow aa.heap.size 65 4 (.slice (qK u 0) t J) t (itVs E):=by
   have D:=bd;unfold OwI at D;rw [P.out]at D;exact D
  have fa:=(ag.lt u rfl)
  obtain⟨bv,bw,bx⟩:=OwI.c3 ag ad;have d0:=OwI.c3 ag ae;obtain⟨et,eu,ev⟩:=d0;have fc:(0:Int)<(r:Int)+1:=(by omega);have fd:(r:Int)+1<(t:Int):=(by omega);have fe:(r:Int)<(t:Int):=(by omega);have c1:=qG ((ba.alloc (by omega) (.cells #[qJ d.pc.off,qJ d.pc.len,qJ d.pc.brk] 63)).alloc (by simp;omega) (.cells #[qJ h.pc.off,qJ h.pc.len,qJ h.pc.brk] 63));have be:=qG (((qO m.heap.size m).alloc lR (.cells #[qJ d.pc.off,qJ d.pc.len,qJ d.pc.brk] 63)).alloc (by simp) (.cells #[qJ h.pc.off,qJ h.pc.len,qJ h.pc.brk] 63));have bf:=qG (show own32 ((m.alloc (.cells #[qJ d.pc.off,qJ d.pc.len,qJ d.pc.brk] 63)).alloc (.cells #[qJ h.pc.off,qJ h.pc.len,qJ h.pc.brk] 63)) s.heap.size _ zs from zB bc be lR);have c2:=qG (zB ag be lR);have c3:=qG ((be.block (w.heap.size+1) (by omega)).trans K)
  have c4:=qG (show((m.alloc (.cells #[qJ d.pc.off,qJ d.pc.len,qJ d.pc.brk] 63)).alloc (.cells #[qJ h.pc.off,qJ h.pc.len,qJ h.pc.brk] 63)).heap[m.heap.size]? =some (.cells #[qJ d.pc.off,qJ d.pc.len,qJ d.pc.brk] 63 (0,0))by
   rw [vV _ _ _ (by simp)];exact xg _ _)
  have c5:=qG (show((m.alloc (.cells #[qJ d.pc.off,qJ d.pc.len,qJ d.pc.brk] 63)).alloc (.cells #[qJ h.pc.off,qJ h.pc.len,qJ h.pc.brk] 63)).heap[m.heap.size+1]? =some (.cells #[qJ h.pc.off,qJ h.pc.len,qJ h.pc.brk] 63 (0,0))by
   have:=xg (m.alloc (.cells #[qJ d.pc.off,qJ d.pc.len,qJ d.pc.brk] 63)) (.cells #[qJ h.pc.off,qJ h.pc.len,qJ h.pc.brk] 63)
   rw [show(m.alloc (.cells #[qJ d.pc.off,qJ d.pc.len,qJ d.pc.brk] 63)).heap.size=m.heap.size+1 by simp]at this;exact this)
  have ff:m.heap.size+2<=((m.alloc (.cells #[qJ d.pc.off,qJ d.pc.len,qJ d.pc.brk] 63)).alloc (.cells #[qJ h.pc.off,qJ h.pc.len,qJ h.pc.brk] 63)).heap.size:=(by simp);unfold maxLen at er;clear ad ae ag bh;go_upto_region 14 with fail;go_upto_region 15 with fail;generalize (m.alloc (.cells #[qJ d.pc.off,qJ d.pc.len,qJ d.pc.brk] 63)).alloc (.cells #[qJ h.pc.off,qJ h.pc.len,qJ h.pc.brk] 63)=C at *
  have G:C.cell? ⟨m.heap.size,0,none⟩=some (qJ d.pc.off):=(by rw [qP C _ 0 _ _ _ c4.out];rfl);have H:C.cell? ⟨m.heap.size,1,none⟩=some (qJ d.pc.len):=(by rw [qP C _ 1 _ _ _ c4.out];rfl);have d1:C.cell? ⟨m.heap.size+1,0,none⟩=some (qJ h.pc.off):=(by rw [qP C _ 0 _ _ _ c5.out];rfl);have d2:C.cell? ⟨m.heap.size+1,1,none⟩=some (qJ h.pc.len):=(by rw [qP C _ 1 _ _ _ c5.out];rfl);clear bv bw bx et eu ev;by_cases bi:d.pc.off+d.pc.len=h.pc.off
  ·have c6:=qG (ei C gs cs d h (zc V bf) (by omega) bm bn cw.1 cw.2.1 cx.2.1 bi cx.2.2.2)
   have c7:=qG (c0 bi);go_wp2_with fail;refine c6.mono ?_;rintro e N ⟨rfl,af⟩;have fg:=af.size;have U:N.ownsRow aa.heap.size 65 4 (.slice (qK u 0) t J) t (itVs E):=zB c2 af lR;have hst:=OwI.setPc U cy ⟨d.pc.off,d.pc.len+h.pc.len,(pcAt zs d.pc.off (d.pc.len+h.pc.len)).brk⟩;have S:N.frozen? ⟨u,r*4,none⟩=false:=U.frozenAt _;have T:N.frozen? ⟨u,r*4+1,none⟩=false:=U.frozenAt _;have d3:N.frozen? ⟨u,r*4+2,none⟩=false:=U.frozenAt _;obtain⟨bv,bw,bx⟩:=OwI.c3 U cy;have d4:=qG ((c1.trans (af.mono (by omega))).grown hst.2 (by omega) (fun x ee=>by cases ee;omega));have d5:=qG (show own32 (((N.setCell ⟨u,r*4,none⟩ (qJ d.pc.off)).setCell ⟨u,r*4+1,none⟩ (qJ (d.pc.len+h.pc.len))).setCell ⟨u,r*4+2,none⟩ (qJ (pcAt zs d.pc.off (d.pc.len+h.pc.len)).brk)) s.heap.size _ zs from zA (zB bf af lR) (fun q l=>hst.2.block q (by cases l;show gs<_;omega) (by intro D;cases l;have fh:gs=u:=vA D;omega)));have d6:=qG ((hst.2.block (w.heap.size+1) (by omega) (by intro D;cases D;omega)).trans ((af.block (w.heap.size+1) (by omega)).trans c3));have c8:=qG (c7 (((N.setCell ⟨u,r*4,none⟩ (qJ d.pc.off)).setCell ⟨u,r*4+1,none⟩ (qJ (d.pc.len+h.pc.len))).setCell ⟨u,r*4+2,none⟩ (qJ (pcAt zs d.pc.off (d.pc.len+h.pc.len)).brk)) _ u J hst.1);have fi:N.heap.size<=(((N.setCell ⟨u,r*4,none⟩ (qJ d.pc.off)).setCell ⟨u,r*4+1,none⟩ (qJ (d.pc.len+h.pc.len))).setCell ⟨u,r*4+2,none⟩ (qJ (pcAt zs d.pc.off (d.pc.len+h.pc.len)).brk)).heap.size:=hst.2.size;clear af U hst G H d1 d2 c6 c0 c7 cz;generalize (pcAt zs d.pc.off (d.pc.len+h.pc.len)).brk=ec at *
   go_upto_region 17 with fail;generalize (((N.setCell ⟨u,r*4,none⟩ (qJ d.pc.off)).setCell ⟨u,r*4+1,none⟩ (qJ (d.pc.len+h.pc.len))).setCell ⟨u,r*4+2,none⟩ (qJ ec))=fq at *
   clear bv bw bx S T d3;go_wp2_with fail;refine c8.mono ?_;rintro e Q ⟨gi,rfl,a0,ak⟩;have fj:=ak.size;obtain⟨ew,ex,rfl⟩:=zb a0;have d7:=qG (d4.trans (ak.mono (by omega)));have d8:=qG (show own32 Q s.heap.size _ zs from zB d5 ak lR);have d9:=qG a0;have ao:=qG ((ak.block (w.heap.size+1) (by omega)).trans d6);have ea:=qG (fun q l=>(a0.lt q l).1);clear ak a0 c8;generalize L.length=ed at *
   have G:Q.cell? ⟨w.heap.size+1,0,none⟩=some (.slice none 0 0):=(by rw [qP Q _ 0 _ _ _ ao.out];rfl);have H:Q.cell? ⟨w.heap.size+1,1,none⟩=some (.slice none 0 0):=(by rw [qP Q _ 1 _ _ _ ao.out];rfl);have S:=xp Q (w.heap.size+1) 0 _ _ ao;have T:=xp Q (w.heap.size+1) 1 _ _ ao;go_wp2;refine xr (v:=.agg #[.slice (qK gs 0) n cs,.slice ew ed ex]) (by simp [results,results28,go_sem,G,H]) rfl ⟨_,_,rfl,?_,?_,?_,⟨_,_,_,rfl⟩⟩
   ·exact zA (zD d8 (by omega)) (fun q l=>by cases l;rw [xo _ _ _ _ (by simp;omega),xo _ _ _ _ (by simp;omega)])
   ·exact zA (zD d9 (by omega)) (fun q l=>by have D:=ea q l;rw [xo _ _ _ _ (by simp;omega),xo _ _ _ _ (by simp;omega)])
   exact(d7.setCell (by simp) _).setCell (by simp) _
  have c9:=qG (show OwI C aa.heap.size (.slice (qK u 0) t J) L from(by rw [cz.out bi];unfold OwI;rw [P.out];exact c2));have ap:=c3;have eb:=qG (fun q l=>(c9.lt q l).1);have G:C.cell? ⟨w.heap.size+1,0,none⟩=some (.slice none 0 0):=(by rw [qP C _ 0 _ _ _ ap.out];rfl);have H:C.cell? ⟨w.heap.size+1,1,none⟩=some (.slice none 0 0):=(by rw [qP C _ 1 _ _ _ ap.out];rfl);have S:=xp C (w.heap.size+1) 0 _ _ ap;have T:=xp C (w.heap.size+1) 1 _ _ ap;go_wp2;refine xr (v:=.agg #[.slice (qK gs 0) n cs,.slice (qK u 0) t J]) (by simp [results,results28,go_sem,G,H]) rfl ⟨_,_,rfl,?_,?_,?_,⟨_,_,_,rfl⟩⟩
  ·exact zA (zD bf (by omega)) (fun q l=>by cases l;rw [xo _ _ _ _ (by simp;omega),xo _ _ _ _ (by simp;omega)])
  ·exact zA (zD c9 (by omega)) (fun q l=>by have D:=eb q l;rw [xo _ _ _ _ (by simp;omega),xo _ _ _ _ (by simp;omega)])
  exact(c1.setCell (by simp) _).setCell (by simp) _
 have da:=qG (show OwI m aa.heap.size (.slice ax t J) L from(by rw [ek.out a7.out bh,<- dz.out];exact bd));have fk:¬ ((0:Int)<(a:Int)∧(a:Int)<(t:Int)):=by omega
 subst aj;by_cases fm:(0:Int)<(a:Int)
 ·have fl:¬ (a:Int)<(t:Int):=by omega
  have G:m.cell? ⟨w.heap.size+1,0,none⟩=some (.slice none 0 0):=(by rw [qP m _ 0 _ _ _ K.out];rfl);have H:m.cell? ⟨w.heap.size+1,1,none⟩=some (.slice none 0 0):=(by rw [qP m _ 1 _ _ _ K.out];rfl);have S:=xp m (w.heap.size+1) 0 _ _ K;have T:=xp m (w.heap.size+1) 1 _ _ K;go_wp2;refine xr (v:=.agg #[.slice (qK gs 0) n cs,.slice ax t J]) (by simp [results,results28,go_sem,G,H]) rfl ⟨_,_,rfl,?_,?_,?_,⟨_,_,_,rfl⟩⟩
  ·exact zA (zD bc (by omega)) (fun q l=>by cases l;rw [xo _ _ _ _ (by simp;omega),xo _ _ _ _ (by simp;omega)])
  ·exact zA (zD da (by omega)) (fun q l=>by have D:=cv q l;rw [xo _ _ _ _ (by simp;omega),xo _ _ _ _ (by simp;omega)])
  exact(ba.setCell (by simp) _).setCell (by simp) _
 have G:m.cell? ⟨w.heap.size+1,0,none⟩=some (.slice none 0 0):=by rw [qP m _ 0 _ _ _ K.out];rfl
 have H:m.cell? ⟨w.heap.size+1,1,none⟩=some (.slice none 0 0):=by rw [qP m _ 1 _ _ _ K.out];rfl
 have S:=xp m (w.heap.size+1) 0 _ _ K;have T:=xp m (w.heap.size+1) 1 _ _ K;go_wp2;refine xr (v:=.agg #[.slice (qK gs 0) n cs,.slice ax t J]) (by simp [results,results28,go_sem,G,H]) rfl ⟨_,_,rfl,?_,?_,?_,⟨_,_,_,rfl⟩⟩
 ·exact zA (zD bc (by omega)) (fun q l=>by cases l;rw [xo _ _ _ _ (by simp;omega),xo _ _ _ _ (by simp;omega)])
 ·exact zA (zD da (by omega)) (fun q l=>by have D:=cv q l;rw [xo _ _ _ _ (by simp;omega),xo _ _ _ _ (by simp;omega)])
 exact(ba.setCell (by simp) _).setCell (by simp) _
theorem Xn {T:AT} {r:Nat} {y:It} (a:(T.told 0)[r]? =some y):T.flat[r]? =some y.pc:=by
 rw [<- AT.qj T 0,xU,a];rfl
theorem delS (zs:List Int) (T:AT) (b o cap base:Nat) (J:Option Addr) (B:Nat) (lo hi:Int) (w:World) (ak:yC w b o zs) (al:b<w.heap.size) (P:OwI w base (.slice J T.its B) (T.told 0)) (K:T.ok) (Q:T.bal) (R:T.wp zs) (L:0<=lo) (S:lo<=hi) (k:hi<=T.rns) (D:zs.length<=220000):
  Calls prog 28 #[.agg #[.slice (qK b o) zs.length cap,.slice J T.its B],qJ lo,qJ hi] w (XP w zs ((if lo=hi then T else delP zs T lo hi).told 0)):=by
 have G:=AT.told_length T 0;have aq:=K.bd
 obtain⟨am,an⟩:T.its<=B∧B<=maxLen:=by
  rcases P.2 with ⟨k,M⟩ | ⟨g,cp,a3,k,_,_,M,ao,_⟩
  ·simp only [xB]at k;exact⟨by omega,by unfold maxLen;omega⟩
  rw [G]at k M;cases k;exact⟨M,ao⟩
 have F:=delF K Q R D L S k;have ar:=F.ok2.bd;have au:=F.ok1.bd;have av:=F.okJ.bd;have aw:=F.okX.bd;have ax:=F.okY.bd;have ay:=F.okW.bd;have U:=F.a2;have az:=F.z2;have V:=F.az;have W:=(zR zs _).1 F.wpJ;have X:(((dlZ zs T lo hi - cutN T lo:Nat)):Int)=(dlZ zs T lo hi:Int) - (cutN T lo:Int):=by omega
 have N:∀ (r:Nat) (d i:It),cutN T lo=r+1->((dlJ zs T lo hi).told 0)[r]? =some d->((dlJ zs T lo hi).told 0)[r+1]? =some i->ahead (dlJ zs T lo hi) (cutN T lo)=d.pc∧atP (dlJ zs T lo hi) (cutN T lo)=i.pc:=by
  intro r d i l m q;rw [l,ahead,atP,vN,q9,q9,Xn m,Xn q];exact⟨rfl,rfl⟩
 refine delSA zs (T.told 0) ((cutP zs T lo).told 0) ((dl2 zs T lo hi).told 0) ((dlX zs T lo hi).told 0) ((dlY zs T lo hi).told 0) ((dlW zs T lo hi).told 0) ((dlJ zs T lo hi).told 0) _ zs.length T.its (cutP zs T lo).its (dl2 zs T lo hi).its (dlJ zs T lo hi).its (cutN T lo) (dlZ zs T lo hi) b o cap J B lo hi w (qG rfl) (qG G) (qG (AT.told_length _ _)) D (by omega) (by omega) (by omega) (by omega) V am an ⟨L,by omega⟩ ⟨S,by omega⟩ (qG ak) al (qG ?_) (qG ?_) (qG ?_) (qG ?_) (qG ?_) (qG ?_) (qG ?_) (qG ?_) (qG ?_) (qG ?_) (qG ?_) (qG ?_) (qG ?_) (qG ?_)
 ·intro j y H
  have O:=qT (Xn H);have Y:=F.okJ.1 _ O;simp only [pcOk,qU]at Y;have:=(W _ O).2.2.1;omega
 ·intro a ac
  have f:=copyA (T.told 0) _ base a (OwI.below P ac lR) (by omega);rw [G]at f;exact f
 ·intro a base' gs cs n p s t u z h I
  exact cutS zs T lo gs 0 cs base' n p a s t u z D K Q R L (by omega) h I
 ·intro a base' gs cs n p s t u z h I
  exact cutS zs (cutP zs T lo) hi gs 0 cs base' n p a s t u z D F.ok1 F.bal1 F.wp1 (by omega) (by rw [F.rn1];exact k) h I
 ·intro a base' n p h
  have f:=rankS a.heap.size _ ((dl2 zs T lo hi).told 0) lo a (OwI.rd h) (by rw [AT.told_length];omega) (jF F.ok2);rw [F.ra]at f;exact f
 ·intro a base' n p h
  have f:=rankS a.heap.size _ ((dl2 zs T lo hi).told 0) hi a (OwI.rd h) (by rw [AT.told_length];omega) (jF F.ok2);rw [F.rz]at f;exact f
 ·intro a base' n p h
  exact splitS (dl2 zs T lo hi) (cutN T lo) _ base' a F.bal2 (by omega) U h
 ·intro a base' v h
  have f:=splitS (dlY zs T lo hi) (dlZ zs T lo hi - cutN T lo) v base' a F.balY (by omega) (by rw [F.yits];omega) h;rw [X]at f;refine f.mono ?_;rintro e w' ⟨x,y,rfl,_,H,ap⟩;exact⟨x,y,rfl,H,ap⟩
 ·intro a base' v ad ae h af
  exact bothS (dlX zs T lo hi) (dlW zs T lo hi) base' ad v ae a F.balX F.balW F.its h af
 ·intro a gs cs d i s t u z ag a0 a1 C a2
  exact yo zs gs 0 cs d.pc.off (d.pc.len+i.pc.len) a s t ag (by omega) (by omega) u z (by omega)
 ·intro ah
  rw [xd ah]
 ·intro A ai
  rw [qZ A,delP,healP,qZ];simp only [healB,qU];exact fun f=>ai f.1
 ·intro r d i A l m q C
  obtain⟨E,k2⟩:=N r d i l m q;rw [qZ A,delP,healP,qZ];simp only [healB,qU,E,k2];exact fun f=>C f.2
 intro r d i A l aj m q C a base' g c h;obtain⟨E,k2⟩:=N r d i l m q;have Z:=AT.qu (dlJ zs T lo hi) r (pcAt zs d.pc.off (d.pc.len+i.pc.len)) 0 d m
 have aa:delP zs T lo hi=((dlJ zs T lo hi).put r (pcAt zs d.pc.off (d.pc.len+i.pc.len))).rem (r+1):=by
  rw [delP,healP,xd,E,k2,l,vN];simp only [healB,qU,E,k2];exact⟨by omega,C⟩
 have ab:OwI a base' (.slice (qK g 0) (dlJ zs T lo hi).its c) (((dlJ zs T lo hi).put r (pcAt zs d.pc.off (d.pc.len+i.pc.len))).told 0):=by
  unfold OwI;rw [AT.told_length,AT.qi,Z];exact h
 have f:=zEr ((dlJ zs T lo hi).put r (pcAt zs d.pc.off (d.pc.len+i.pc.len))) (r+1) base' g c a (AT.qk _ _ _ F.balJ) (by rw [AT.qi];omega) (by rw [AT.qi];exact aj) (by rw [AT.qi];exact ab);rw [AT.qi]at f;rw [qZ A,aa];exact f
end Go.Proofs.YtmjanhcplcalfaaGreatDoor
