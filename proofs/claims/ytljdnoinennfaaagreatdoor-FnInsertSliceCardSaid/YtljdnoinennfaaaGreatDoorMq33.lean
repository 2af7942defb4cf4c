import Derived.Test.YtljdnoinennfaaaGreatDoorMq29
import Derived.Lib.QuietBelow
set_option linter.all false
set_option maxRecDepth 100000
set_option maxHeartbeats 8000000
namespace Go.Proofs.YtljdnoinennfaaaGreatDoor
open Go Go.RowKit
theorem zAe (zs:List Int) (b o cap:Nat) (w:World) (s:At32 w b o zs) (t:b<w.heap.size) (x:zs.length<=1048576):
  Calls Tryz.prog 9 #[.slice (qK b o) zs.length cap] w fun e w'=>∃b cap,e= .returned (.slice (qK b 0) zs.length cap)∧own32 w' w.heap.size (.slice (qK b 0) zs.length cap) zs∧Below w.heap.size w w':=by
 skip
 have c:=qG (show(w.alloc (.cells #[] 21)).ownsRow w.heap.size 21 1 (.slice (qK w.heap.size 0) 0 0) 0 []from ke w #[] 0 lR (xP _) rfl)
 have d:=qG ((qO w.heap.size w).alloc lR (.cells #[] 21))
 have l:=qG (by have m:=(s.below d t).app 0 zs.length (by omega);simpa using m:∀j u,(ints .i32 zs)[j]? =some u->(w.alloc (.cells #[] 21)).cell? ((⟨b,o,none⟩:Addr).add j)=some u)
 go_enter Tryz.func9,Tryz.ntmps9
 go_wp2_with (at_builtin;refine a25 _ rfl _ _ rfl w.heap.size _ _ _ rfl c ⟨b,o,none⟩ zs.length cap (ints .i32 zs) rfl (by rw [zC,vI]) l (zF _ _) (by unfold maxLen;omega) (by omega) (by simp) ?_;intro h v a i k)
 have f:h≠ .slice none 0 0:=fun e=>by have:=(k.1 e).1;cases this
 rw [xJ,xN]at a
 obtain⟨y,z,rfl⟩:∃b cap,h= .slice (qK b 0) zs.length cap:=by
  rcases a.2 with ⟨e,_⟩ | ⟨g,A,B,e,_⟩
  ·exact absurd e f
  ·exact⟨_,_,e⟩
 have n:=qG a
 have p:=qG (d.grown i (by simp) (fun q r=>(c.lt q r).1))
 clear a i k f;go_wp2;go_ret;exact⟨_,_,rfl,n,p⟩
theorem Xe (xs:List Int) (v u:Value) (w:World) (d:Rd .i32 w v xs) (f:Rd .i32 w u xs) (y:xs.length<=1099511627776):
  Calls Tryz.prog 18 #[v,u] w fun e w'=>e= .returned (.bool true)∧∃n,w'=w.drewN n:=by
 by_cases g:xs.length=0
 ·have l:xs= []:=qU g
  subst l
  obtain⟨ao,cap,rfl⟩:∃ao cap,v= .slice ao 0 cap:=by
   rcases d with ⟨ao,cap,rfl,_⟩ | ⟨_,_,_,_,c,_⟩
   ·exact⟨_,_,rfl⟩
   ·simp at c
  obtain⟨A,s,rfl⟩:∃ao cap,u= .slice ao 0 cap:=by
   rcases f with ⟨ao,cap,rfl,_⟩ | ⟨_,_,_,_,c,_⟩
   ·exact⟨_,_,rfl⟩
   ·simp at c
  clear d f;go_enter Tryz.func18,Tryz.ntmps18;go_wp2;refine xY 1 ?_;rw [xu];go_wp2;go_ret;exact⟨rfl,0,rfl⟩
 ·obtain⟨b,off,cap,rfl,a⟩:∃b off cap,v= .slice (qK b off) xs.length cap∧∀i,i<xs.length->w.cell? ⟨b,off+i,none⟩=some (.int .i32 (xs.getD i 0)):=by
   rcases d with ⟨ao,cap,_,e⟩ | ⟨b,off,cap,e,c,a⟩
   ·subst e;simp at g
   ·exact⟨b,off,cap,e,a⟩
  obtain⟨B,C,s,rfl,j⟩:∃b off cap,u= .slice (qK b off) xs.length cap∧∀i,i<xs.length->w.cell? ⟨b,off+i,none⟩=some (.int .i32 (xs.getD i 0)):=by
   rcases f with ⟨ao,cap,_,e⟩ | ⟨b,off,cap,e,c,a⟩
   ·subst e;simp at g
   ·exact⟨b,off,cap,e,a⟩
  clear d f;generalize r:xs.length=n at *;clear r
  have t:((n:Int) != (n:Int))=false:=by simp
  have m:=qG a;have o:=qG j;clear a j;go_enter Tryz.func18,Tryz.ntmps18;go_wp2
  go_loopw [13] (fun i wr=>∃k nq:Nat,k<=n∧i=qJ k∧wr=w.drewN nq) (fun i _=>n - (intOf i).toNat)
  case atStart=>exact⟨0,0,xP _,rfl,rfl⟩
  case round=>
   obtain⟨k,nq,D,rfl,rfl⟩:=hrel
   by_cases h:k<n
   ·have p:=m k h
    have q:=o k h;generalize xs.getD k 0=z at p q
    have x:(z != z)=false:=by simp
    go_wp2;go_quiet (fail);go_wp2;go_roundw
    case rel=>exact⟨k+1,_,by omega,by go_num,rfl⟩
    case measure=>simp [intOf];omega
   ·go_wp2
    go_ret;exact⟨rfl,_,rfl⟩
theorem ptextS (B:Nat) (zs:List Int) (b o cap:Nat) (v:Value) (xs:List It) (w:World) (u:At32 w b o zs) (L:b<w.heap.size) (b1:zs.length<=1048576) (b2:zs.length<=cap) (a8:cap<=maxLen) (f:RdI B w v xs) (a9:B<=w.heap.size) (b3:xs.length<=8192) (ad:∀x∈xs,WP zs x.pc∧1<=x.pc.len) (ht:(txt zs xs).length<=8192):
  Calls Tryz.prog 7 #[.agg #[.slice (some ⟨b,o,none⟩) zs.length cap,v]] w fun e w'=>∃K,e= .returned K∧own32 w' w.heap.size K (txt zs xs)∧Below w.heap.size w w'∧K≠ .slice none 0 0:=by
 obtain⟨ao,a,rfl⟩:=f.val
 have k:=qG (((qO w.heap.size w).alloc lR (.cells #[.slice (some ⟨b,o,none⟩) zs.length cap,.slice ao xs.length a] 30)).alloc (by simp) (.cells #[] 21))
 have ap:=qG (u.below k.out L)
 have bd:((w.alloc (.cells #[.slice (some ⟨b,o,none⟩) zs.length cap,.slice ao xs.length a] 30)).alloc (.cells #[] 21)).heap.size=w.heap.size+2:=by simp
 have z:((w.alloc (.cells #[.slice (some ⟨b,o,none⟩) zs.length cap,.slice ao xs.length a] 30)).alloc (.cells #[] 21)).heap[w.heap.size]? =some (.cells #[.slice (some ⟨b,o,none⟩) zs.length cap,.slice ao xs.length a] 30 (0,0)):=(vP _ _ _ (by simp)).trans (xm _ _)
 have A:=j8 (w.alloc (.cells #[.slice (some ⟨b,o,none⟩) zs.length cap,.slice ao xs.length a] 30));rw [vE]at A
 have aq:=qG (show own32 _ (w.heap.size+1) _ []from A)
 have O:((w.alloc (.cells #[.slice (some ⟨b,o,none⟩) zs.length cap,.slice ao xs.length a] 30)).alloc (.cells #[] 21)).cell? ⟨w.heap.size,1,none⟩=some (.slice ao xs.length a):=by rw [qQ _ _ 1 _ _ _ z];rfl
 have P:∀j,j<xs.length->∃b off x,ao=some ⟨b,off,none⟩∧b<B∧xs[j]? =some x∧ItAt w b (off+j*4) x:=by
  intro j J
  obtain⟨b,off,a,e,_,L,u⟩:=f.at (by intro e;subst e;simp at J)
  cases e;obtain⟨x,ae,af⟩:=Jy (B:=B) (cap:=cap) u J;exact⟨b,off,x,rfl,L,ae,af⟩
 have ar:=qG P
 have au:xs.length<=a∧a<=maxLen∨xs.length=0:=by
  rcases f with ⟨_,_,e,rfl⟩ | ⟨_,_,_,e,ag,_⟩
  ·right;rfl
  ·cases e;left;exact⟨ag.2.1,ag.2.2⟩
 unfold maxLen at au a8;have av:=qG ad
 have Q:Hid (∀j,(txt zs (xs.take j)).length<=8192):=qG fun j=>by
  have e:=YS zs (xs.take j) (xs.drop j);rw [xG]at e;rw [e,qM]at ht;omega
 have aw:=qG z;have be:=qG (f.below k.out a9);generalize bx:xs.length=n at *;generalize a6:zs.length=aa at *;clear f P ad u A z ht;go_enter Tryz.func7,Tryz.ntmps7;go_wp2_with fail;generalize (w.alloc (.cells #[.slice (some ⟨b,o,none⟩) aa cap,.slice ao n a] 30)).alloc (.cells #[] 21)=ab at *
 go_loopw [3,11] (fun s i wr=>∃j:Nat,j<=n∧i= .int .i64 j∧own32 wr (w.heap.size+1) s (txt zs (xs.take j))∧Below (w.heap.size+1) ab wr∧s≠ .slice none 0 0) (fun _ i _=>n - (intOf i).toNat)
 case atStart=>exact⟨0,xP _,rfl,aq.out,qO _ _,by simp⟩
 case round=>
  obtain⟨j,J,rfl,M,N,ah⟩:=hrel;have C:=qG ah;clear ah;have D:=qG M;have E:=qG N;have bf:=N.size;obtain⟨b4,b5,rfl⟩:=zj M;clear N M O
  by_cases a5:j<n
  ·obtain⟨g,off,x,rfl,b6,y,ai,aj,ak,al⟩:=ar.out j a5
   have bg:(j:Int)<n:=by omega
   have bh:=qG y;obtain⟨⟨ae,af,ba,bc⟩,b7⟩:=av.out x (vc.2 ⟨j,y⟩);rw [a6]at ba
   have h:=(k.out.trans (E.out.mono (by omega)))
   have m:g<w.heap.size:=by omega
   have bi:=(h.cell (p:=⟨g,off+j*4,none⟩) m).trans ai;have bj:=(h.cell (p:=⟨g,off+j*4+1,none⟩) m).trans aj;have bk:=(h.cell (p:=⟨g,off+j*4+2,none⟩) m).trans ak;have bl:=(h.cell (p:=⟨g,off+j*4+3,none⟩) m).trans al
   have bm:g<wr.heap.size:=by omega
   have R:=qG (Q.out j);have S:=qG (Q.out (j+1))
   have F:=qG (show txt zs (xs.take (j+1))=txt zs (xs.take j)++ptx zs x.pc by rw [yI y];rw [YS];simp [txt])
   clear ai aj ak al y h bc;obtain⟨⟨am,an,c⟩,d⟩:=x;simp only at *
   obtain⟨q,rfl⟩:∃q:Nat,am=q:=⟨am.toNat,by omega⟩
   obtain⟨l,rfl⟩:∃l:Nat,an=l:=⟨an.toNat,by omega⟩
   have G:=qG (E.out.alloc (by omega) (.cells #[.int .i64 (q:Int),.int .i64 (l:Int),.int .i64 c,.int .i64 d] 71))
   have H:(wr.alloc (.cells #[.int .i64 (q:Int),.int .i64 (l:Int),.int .i64 c,.int .i64 d] 71)).heap[wr.heap.size]? =some (.cells #[.int .i64 (q:Int),.int .i64 (l:Int),.int .i64 c,.int .i64 d] 71 (0,0)):=xm _ _
   have bn:(wr.alloc (.cells #[.int .i64 (q:Int),.int .i64 (l:Int),.int .i64 c,.int .i64 d] 71)).cell? ⟨wr.heap.size,0,none⟩=some (.int .i64 (q:Int)):=by rw [qQ _ _ 0 _ _ _ H];rfl
   have bo:(wr.alloc (.cells #[.int .i64 (q:Int),.int .i64 (l:Int),.int .i64 c,.int .i64 d] 71)).cell? ⟨wr.heap.size,1,none⟩=some (.int .i64 (l:Int)):=by rw [qQ _ _ 1 _ _ _ H];rfl
   have O:(wr.alloc (.cells #[.int .i64 (q:Int),.int .i64 (l:Int),.int .i64 c,.int .i64 d] 71)).cell? ⟨w.heap.size,0,none⟩=some (.slice (some ⟨b,o,none⟩) aa cap):=by rw [G.out.cell (p:=⟨w.heap.size,0,none⟩) (by show w.heap.size<w.heap.size+1;omega),qQ ab _ 0 _ _ _ aw.out];rfl
   have T:=qG (show own32 _ (w.heap.size+1) _ _ from vL D.out (.cells #[.int .i64 (q:Int),.int .i64 (l:Int),.int .i64 c,.int .i64 d] 71))
   have ax:=qG ((ap.out.below G.out (by omega)).app q l (by omega))
   have bp:(wr.alloc (.cells #[.int .i64 (q:Int),.int .i64 (l:Int),.int .i64 c,.int .i64 d] 71)).heap.size=wr.heap.size+1:=by simp
   have bq:w.heap.size<wr.heap.size:=by omega
   have br:(q:Int)<=(q:Int)+(l:Int):=by omega
   have bs:(q:Int)+(l:Int)<=(cap:Int):=by omega
   have bt:¬cap=q:=by omega
   have bu:(0:Int)<=(q:Int)+(l:Int):=by omega
   have t:((zs.drop q).take l).length=l:=by rw [qN,qS];omega
   have ay:=qG (show((zs.drop q).take l).length=q+l - q by rw [t];omega)
   simp only [ptx,vH]at F;have bv:=R.out;have az:=S.out;rw [F.out,qM,t]at az
   have a0:=qG (show(ints .i32 ((zs.drop q).take l)).length=(q+l - q)*1 by rw [zC,t];omega)
   clear H R S t;generalize bz:(zs.drop q).take l=U at *;generalize b0:txt zs (xs.take j)=ac at *;generalize Z:ac.length=a7 at *
   go_wp2_with (at_builtin;refine a25 _ rfl _ _ rfl (w.heap.size+1) _ a7 (ints .i32 ac) rfl (by have I:=T.out;unfold own32 at I;rw [Z]at I;exact I) ⟨b,o+q,none⟩ (q+l - q) (cap - q) (ints .i32 U) rfl a0.out ax.out (zF _ _) (by unfold maxLen;omega) (by omega) (by omega) ?_;intro V a4 W X Y)
   have a1:=qG (show own32 a4 (w.heap.size+1) V (txt zs (xs.take (j+1)))by rw [F.out];exact Zt Z ay.out W)
   have a2:=qG (G.out.grown X (by omega) (fun r f=>(T.out.lt r f).1))
   have a3:=qG (show V≠ .slice none 0 0 from fun e=>C.out (Y.1 e).1)
   clear W X Y;go_wp2;go_roundw
   case rel=>exact⟨j+1,by omega,by go_num,a1.out,a2.out,a3.out⟩
   case measure=>simp [intOf];omega
  ·obtain rfl:j=n:=by omega
   have bw:¬ (j:Int)<(j:Int):=by omega
   have e:xs.take j=xs:=xE (by omega)
   rw [e]at D C |-;clear e;go_wp2;go_ret
   exact⟨_,rfl,zD D.out (by omega),k.out.trans (E.out.mono (by omega)),C.out⟩
end Go.Proofs.YtljdnoinennfaaaGreatDoor
namespace Go.Proofs.YtljdnoinennfaaaGreatDoor
open Go Go.RowKit Go.Sort
structure PCore (w:World) (base c b o cap:Nat) (zs:List Int) (T:AT):Prop where
 k:∃u bs,PK w c b o zs.length cap u∧Lies w base T u bs
 a:At32 w b o zs
 b:b<w.heap.size
 ok:T.ok
 wp:T.wp zs
 n:zs.length<=1048576∧zs.length<=cap∧cap<=maxLen
theorem PCore.below {B base c b o cap:Nat} {w w':World} {zs:List Int} {T:AT} (f:PCore w base c b o cap zs T) (a:Below B w w') (d:w.heap.size<=B):PCore w' base c b o cap zs T:=by
 obtain⟨⟨u,bs,e,g⟩,h,n,i,j,k⟩:=f;have l:=a.size;have m:=e.lt
 exact⟨⟨u,bs,e.below a (by omega),g.below a d⟩,h.below a (by omega),by have:=(Below.mono a d).size;omega,i,j,k⟩
theorem textN (c b o n cap q m:Nat) (a:Int) (u:Option Addr) (w:World) (i:PK w c b o n cap u) (A:q+m<=n) (B:0<m∨q=0) (C:n<=cap) (l:cap<=maxLen):
  Calls Tryz.prog 100 #[.pointer (qK c 0),.agg #[qJ (q:Int),qJ (m:Int),qJ a]] w fun e w'=>e= .returned (.slice (qK b (o+q)) m (cap - q))∧Below w.heap.size w w':=by
 have d:=qG ((qO w.heap.size w).alloc lR (.cells #[qJ (q:Int),qJ (m:Int),qJ a] 69));have r:=(d.cell (p:=⟨c,0,none⟩) i.lt).trans i.c0;have f:(w.alloc (.cells #[qJ (q:Int),qJ (m:Int),qJ a] 69)).heap[w.heap.size]? =some (.cells #[qJ (q:Int),qJ (m:Int),qJ a] 69 (0,0)):=xm _ _
 have s:(w.alloc (.cells #[qJ (q:Int),qJ (m:Int),qJ a] 69)).cell? ⟨w.heap.size,0,none⟩=some (qJ (q:Int)):=by rw [qQ _ _ 0 _ _ _ f];rfl
 have t:(w.alloc (.cells #[qJ (q:Int),qJ (m:Int),qJ a] 69)).cell? ⟨w.heap.size,1,none⟩=some (qJ (m:Int)):=by rw [qQ _ _ 1 _ _ _ f];rfl
 have v:(w.alloc (.cells #[qJ (q:Int),qJ (m:Int),qJ a] 69)).heap.size=w.heap.size+1:=by simp
 unfold maxLen at l
 have x:(q:Int)<=(q:Int)+(m:Int):=by omega
 have y:(q:Int)+(m:Int)<=(cap:Int):=by omega
 have z:(0:Int)<=(q:Int)+(m:Int):=by omega
 clear i f
 by_cases k:cap=q
 ·obtain rfl:q=0:=by omega
  obtain rfl:m=0:=by omega
  subst k;go_enter Tryz.func100,Tryz.ntmps100;go_wp2_with fail;generalize w.alloc (.cells #[qJ ((0:Nat):Int),qJ ((0:Nat):Int),qJ a] 69)=h at *;go_quiet (fail)
  have g:=qG (show Below w.heap.size w (h.drewN nq)from d.trans (KU _ _ _))
  go_wp2;go_ret;exact⟨rfl,g⟩
 ·have j:=qG (show Ending.returned (.slice (qK b (o+q)) (q+m - q) (cap - q))=Ending.returned (.slice (qK b (o+q)) m (cap - q))by rw [show q+m - q=m by omega])
  go_enter Tryz.func100,Tryz.ntmps100;go_wp2_with fail;generalize w.alloc (.cells #[qJ (q:Int),qJ (m:Int),qJ a] 69)=h at *;go_quiet (fail)
  have g:=qG (show Below w.heap.size w (h.drewN nq)from d.trans (KU _ _ _))
  go_wp2;go_ret;exact⟨Eq.trans rfl j,g⟩
theorem lengthN (T:AT) (base c b o cap:Nat) (zs:List Int) (w:World) (i:PCore w base c b o cap zs T):
  Calls Tryz.prog 57 #[.pointer (qK c 0)] w fun e w'=>e= .returned (qJ T.rns)∧Below w.heap.size w w':=by
 obtain⟨⟨u,bs,a,d⟩,_⟩:=i;have j:=a.c1;have g:=qG (allN T u bs base w d);clear a d;go_enter Tryz.func57,Tryz.ntmps57;go_wp2_with fail;refine g.mono ?_;rintro e w1 ⟨rfl,f⟩;have h:=qG f;have k:=Tryz.fld1;unfold cnt;clear f;go_wp2;go_ret;exact⟨rfl,h⟩
end Go.Proofs.YtljdnoinennfaaaGreatDoor
namespace Go.Proofs.YtljdnoinennfaaaGreatDoor
open Go Go.RowKit Go.Shelf Go.Sort
attribute [local go_sem] kZ
theorem app2 {W w1:World} {b B:Nat} {t e:TypeId} {size:Nat} {v a:Value} {k m:Nat} {xs ys:List Value}
  (l:Boxed W B t v) (n:t≠e) (f:W.ownsRow b e size v k xs) (r:b<=W.heap.size) (s:b<=B)
  (q:w1.ownsRow b e size a m ys) (h:W.grownBy w1 v.ownBlock):
  Boxed w1 B t v∧Boxed (w1.setCell ⟨B,0,none⟩ a) B t a∧(w1.setCell ⟨B,0,none⟩ a).ownsRow b e size a m ys∧KeepsOthers W (w1.setCell ⟨B,0,none⟩ a)∧Below b W (w1.setCell ⟨B,0,none⟩ a):=by
 have d:Boxed w1 B t v:=l.kept h (l.not_row n f);refine⟨d,d.set a,q.kept (grownBy_setCell' w1 B a) (.inr (d.not_row n q).symm),?_,?_⟩
 ·refine(KeepsOthers.of_grownBy h fun j o c i=>?_).trans (KeepsOthers.setCell _ _ _)
  rcases f.2 with ⟨rfl,_⟩ | ⟨g,cap,w,rfl,_,u,_⟩
  ·simp [Value.ownBlock]at c
  ·obtain rfl:g=j:=by simpa [Value.ownBlock]using c
   rw [u]at i;cases i;rfl
 ·refine((qO b W).grown h r fun j c=>?_).setCell (p:=⟨B,0,none⟩) s a
  exact(f.lt j c).1
theorem zGb (zs:List Int) (q m a e:Nat) (b x y:Int) (c:a=x.toNat) (d:e - a=min (y.toNat - a) (m - a)):cutT (ptx zs ⟨(q:Int),(m:Int),b⟩) x y=(zs.drop (q+a)).take (e - a):=by
 unfold cutT ptx;simp only [vH];rw [<- c,List.drop_take,Qq,kH,d]
theorem txA_bd (zs:List Int) (lo hi:Int):∀a:List {y:Int×Pc //AcQ zs lo hi y},(txA zs lo hi (List.map (fun y:{y:Int×Pc //AcQ zs lo hi y}=>y.1) a)).length<=8192*a.length
 | []=>by simp [txA]
 | ⟨y,b⟩::a=>by
  have c:=txA_bd zs lo hi a;have d:=Zq b.1;have e:y.2.len<=8192:=b.2.2.2.2.2.1
  have f:(cutT (ptx zs y.2) (lo - y.1) (hi - y.1)).length<=(ptx zs y.2).length:=by
   unfold cutT;rw [qN,qS];omega
  simp only [vN,txA,qM,q9];omega
theorem row_val {w:World} {base e size n:Nat} {v:Value} {xs:List Value} (a:w.ownsRow base e size v n xs):∃ao cap,v= .slice ao n cap:=by
 rcases a.2 with ⟨rfl,b⟩ | ⟨g,cap,c,rfl,_⟩
 ·exact⟨none,0,by rw [b]⟩
 ·exact⟨_,_,rfl⟩
theorem J0:∀T:AT,T.ok->T.pos
 | .nil,_=>trivial
 | .node l p r,a=>⟨J0 l a.left,by have:=a.piece;omega,J0 r a.right⟩
theorem sliceN (T:AT) (base c b o cap:Nat) (zs:List Int) (lo hi:Int) (w:World) (Q:PCore w base c b o cap zs T) (d1:0<=lo∧lo<=hi∧hi<=T.rns):
  Calls Tryz.prog 58 #[.pointer (qK c 0),qJ lo,qJ hi] w fun e w'=>∃v,e= .returned v∧own32 w' w.heap.size v (cutT (T.tx zs) lo hi)∧Below w.heap.size w w':=by
 obtain⟨ch,ci,cj,ck,cl⟩:=xM Tryz.qv;obtain⟨⟨u,bs,D,bh⟩,cm,cn,bi,bj,e6,d2,d3⟩:=Q;have em:=bi.bd
 have cy:=qG (show IsT w.heap.size w u T from⟨base,bs,bh,fun x dz=>(bh.lt x dz).2⟩)
 have cz:=qG (acr_q zs lo hi T 0 bj (J0 T bi) (by omega) (by omega))
 have c0:=qG (zDb zs lo hi d1.2.1 T 0 bj);have c1:=AT.qD bj;have ak:=D.lt;have bn:=qG D;have c2:=qG cm
 obtain⟨d,rfl⟩:∃d:Nat,hi=lo+d:=⟨(hi - lo).toNat,by omega⟩
 have c3:lo+(d:Int) - lo=d:=by omega
 have bo:=qG ((((qO w.heap.size w).alloc lR (.cells #[.pointer (qK c 0)] 79)).alloc (by simp) (.cells #[qJ lo] 3)).alloc (by simp;omega) (.cells #[qJ (lo+(d:Int))] 3))
 have al:(((w.alloc (.cells #[.pointer (qK c 0)] 79)).alloc (.cells #[qJ lo] 3)).alloc (.cells #[qJ (lo+(d:Int))] 3)).heap.size=w.heap.size+3:=by simp
 have bp:=((Boxed.new w 79 (.pointer (qK c 0))).alloc (.cells #[qJ lo] 3)).alloc (.cells #[qJ (lo+(d:Int))] 3);have Y:=(Boxed.new (w.alloc (.cells #[.pointer (qK c 0)] 79)) 3 (qJ lo)).alloc (.cells #[qJ (lo+(d:Int))] 3);have Z:=Boxed.new ((w.alloc (.cells #[.pointer (qK c 0)] 79)).alloc (.cells #[qJ lo] 3)) 3 (qJ (lo+(d:Int)));rw [vE]at Y;rw [vE,vE]at Z;have c4:=Y.cell;have c5:=Z.cell;have bq:=qG bp;have br:=qG Y;have bt:=qG Z;clear bh D cm bp Y Z;refine(vf (n:=5)).1 ?_;refine callsIn_of_wp_marks Tryz.func58 rfl xH ?_ rfl;simp only [Tryz.ntmps58,vC,q9,xC,Nat.reduceAdd,Nat.reduceSub,vv,vz,vD,vB,xJ,xx]
 gi_wp2_with (gi_at_make;refine wpListIn_make_own _ rfl _ _ 25 rfl w.heap.size 21 ch (.int .i32 0) 1 Tryz.underlying25 ci cj ck _ _ _ d rfl rfl (by first | rfl | assumption) (by rw [cl];omega) (by unfold maxLen;omega) (by omega) ?_;intro j a8 M)
 have c6:=M.size;rw [al]at c6
 have bu:=qG (bo.grown M (by omega) (fun k D=>by cases D))
 have bv:=qG (bq.kept M (by simp))
 have bw:=qG (br.kept M (by simp))
 have bx:=qG (bt.kept M (by simp))
 have am:=qG (bu.alloc (by omega) (.cells #[.slice (qK (w.heap.size+3) 0) 0 d] 25))
 have aa:=qG (bv.alloc (.cells #[.slice (qK (w.heap.size+3) 0) 0 d] 25));have ab:=qG (bw.alloc (.cells #[.slice (qK (w.heap.size+3) 0) 0 d] 25));have ac:=qG (bx.alloc (.cells #[.slice (qK (w.heap.size+3) 0) 0 d] 25));have an:=qG (Boxed.new j 25 (.slice (qK (w.heap.size+3) 0) 0 d));rw [al]at a8;have bz:=qG (a8.alloc (.cells #[.slice (qK (w.heap.size+3) 0) 0 d] 25))
 have en:j.heap.size+1<=(j.alloc (.cells #[.slice (qK (w.heap.size+3) 0) 0 d] 25)).heap.size:=by simp
 clear a8 M bo bq br bt bu bv bw bx c4 c5 al;generalize j.alloc (.cells #[.slice (qK (w.heap.size+3) 0) 0 d] 25)=cg at *
 have ao:=fun d os=>cell_regrown aa.cell d os
 have ap:=fun d os=>cell_regrown ((am.cell (p:=⟨c,1,none⟩) ak).trans bn.c1) d os
 have aq:=fun d os=>cell_regrown ab.cell d os
 have ar:=fun d os=>cell_regrown ac.cell d os
 refine yx 6 (by kernel_rfl) (by kernel_rfl) ?_
 simp only [ki,kT,ku,vZ]
 repeat (refine wpQuietIn_step (fun _ _ _ _=>trivial) (fun A h=>?_);go_simp;first | (refine h _ ?_;clear h A) | (apply Exists.intro;refine⟨fun _=>?_,h _ ?_⟩;(fail);clear h A))
 refine wpQuietIn_nil ?_;intro _ a9;obtain⟨⟨S,V⟩,bk⟩:=a9;subst bk;have C:=qG (below_regrown cg S V);clear ao ap aq ar;generalize grow (redrawn cg S) V=f at *;have eo:=C.size
 have ad:=qG (am.trans (C.mono (by omega)))
 have c7:=qG (show Boxed f _ _ _ from(C.block _ aa.lt).trans aa)
 have c8:=qG (show Boxed f _ _ _ from(C.block _ ab.lt).trans ab)
 have c9:=qG (show Boxed f _ _ _ from(C.block _ ac.lt).trans ac)
 have da:=qG (show Boxed f _ _ _ from(C.block _ an.lt).trans an)
 have db:=qG (zA bz C lR);clear am aa ab ac an bz
 gi_wp2_with (refine⟨xH,?_⟩;(try refine⟨fun Q=>(by cases Q),?_⟩);refine(zGa _ _ _ _ _).mono ?_;rintro e e7 ⟨rfl,rfl⟩)
 have au:=((c7.alloc (.cells #[.pointer u] 138)).alloc (.cells #[qJ lo] 3)).alloc (.cells #[qJ (lo+(d:Int))] 3);have av:=((c8.alloc (.cells #[.pointer u] 138)).alloc (.cells #[qJ lo] 3)).alloc (.cells #[qJ (lo+(d:Int))] 3);have aw:=((c9.alloc (.cells #[.pointer u] 138)).alloc (.cells #[qJ lo] 3)).alloc (.cells #[qJ (lo+(d:Int))] 3);have ax:=((da.alloc (.cells #[.pointer u] 138)).alloc (.cells #[qJ lo] 3)).alloc (.cells #[qJ (lo+(d:Int))] 3);have ay:=((db.alloc (.cells #[.pointer u] 138)).alloc (.cells #[qJ lo] 3)).alloc (.cells #[qJ (lo+(d:Int))] 3);have az:=((Boxed.new f 138 (.pointer u)).alloc (.cells #[qJ lo] 3)).alloc (.cells #[qJ (lo+(d:Int))] 3);have ae:=(Boxed.new (f.alloc (.cells #[.pointer u] 138)) 3 (qJ lo)).alloc (.cells #[qJ (lo+(d:Int))] 3);have af:=Boxed.new ((f.alloc (.cells #[.pointer u] 138)).alloc (.cells #[qJ lo] 3)) 3 (qJ (lo+(d:Int)))
 have ag:=((ad.alloc ad.size (.cells #[.pointer u] 138)).alloc (by have:=ad.size;simp;omega) (.cells #[qJ lo] 3)).alloc (by have:=ad.size;simp;omega) (.cells #[qJ (lo+(d:Int))] 3)
 have b0:(((f.alloc (.cells #[.pointer u] 138)).alloc (.cells #[qJ lo] 3)).alloc (.cells #[qJ (lo+(d:Int))] 3)).heap.size=f.heap.size+3:=by simp
 rw [vE]at ae;rw [vE,vE]at af;obtain⟨bc,co⟩:∃bc,((f.alloc (.cells #[.pointer u] 138)).alloc (.cells #[qJ lo] 3)).alloc (.cells #[qJ (lo+(d:Int))] 3)=bc:=⟨_,rfl⟩;rw [co]at au av aw ax ay az ae af ag b0 |-
 refine wpIn_rangeFunc_ownH rfl (by omega) (gf:=128) (lb:=#[.pointer (qK f.heap.size 0),.pointer (qK (f.heap.size+1) 0),.pointer (qK (f.heap.size+1+1) 0)]) rfl xH (enters_of Tryz.func128 (by kernel_rfl) rfl)
  (zAj (AcQ zs lo (lo+(d:Int))) lo (lo+(d:Int)) (by omega) (by omega) _ f.heap.size (f.heap.size+1) (f.heap.size+1+1) w.heap.size u T bi cz bc (by omega) (by omega) (by omega) (by omega) az.cell ae.cell af.cell (cy.below ag)) belowK_t (belowK_b (by omega)) (qO _ _) (fun _=>rfl)
  (fun i W=>(∃v,Boxed W j.heap.size 25 v∧W.ownsRow w.heap.size 21 1 v (txA zs lo (lo+(d:Int)) (List.map (fun y:{y:Int×Pc //AcQ zs lo (lo+(d:Int)) y}=>y.1) i)).length (ints .i32 (txA zs lo (lo+(d:Int)) (List.map (fun y:{y:Int×Pc //AcQ zs lo (lo+(d:Int)) y}=>y.1) i)))∧True)∧(Boxed W w.heap.size 79 (.pointer (qK c 0))∧(Boxed W (w.heap.size+1) 3 (qJ lo)∧(Boxed W (w.heap.size+1+1) 3 (qJ (lo+(d:Int)))∧Below w.heap.size w W))))
  (fun _ _ _=>False)
  (OwnFrom.and (Own.from (holdsRow_own w.heap.size j.heap.size 25 21 1 (fun i=>(txA zs lo (lo+(d:Int)) (List.map (fun y:{y:Int×Pc //AcQ zs lo (lo+(d:Int)) y}=>y.1) i)).length) (fun i=>ints .i32 (txA zs lo (lo+(d:Int)) (List.map (fun y:{y:Int×Pc //AcQ zs lo (lo+(d:Int)) y}=>y.1) i))) (fun _ _=>True)) _) (OwnFrom.and (Own.from (boxed_own w.heap.size 79 (fun _=>.pointer (qK c 0))) _) (OwnFrom.and (Own.from (boxed_own (w.heap.size+1) 3 (fun _=>.int .i64 lo)) _) (OwnFrom.and (Own.from (boxed_own (w.heap.size+1+1) 3 (fun _=>.int .i64 (lo+(d:Int)))) _) (ownFrom_below lR (by omega))))))
  (fun _ _ _ _ _ bd _ _=>bd)
  ⟨⟨_,ax,by simpa [txA,ints]using ay,xH⟩,au,av,aw,ag⟩
  (fun y be W=>∃s,True∧W.heap[s]? =some (.cells #[qJ y.1.2.off,qJ y.1.2.len,qJ y.1.2.brk] 69 (0,0))∧be={tmps:=#[.pointer (qK c 0),qJ lo,qJ (lo+(d:Int)),.pointer (qK w.heap.size 0),.pointer (qK (w.heap.size+1) 0),.pointer (qK (w.heap.size+1+1) 0),.slice none 0 0,.pointer (qK j.heap.size 0),qJ y.1.1,.pointer (qK s 0),qJ (lo+(d:Int)),qJ lo,qJ (d:Int),.slice (qK (w.heap.size+3) 0) 0 d,.pointer (qK c 0),.pointer (qK c 0),.pointer (qK c 1),.pointer u,qJ lo,qJ (lo+(d:Int)),.func (.func 128) #[] #[.pointer (qK f.heap.size 0),.pointer (qK (f.heap.size+1) 0),.pointer (qK (f.heap.size+1+1) 0)],qJ y.1.1,.agg #[qJ y.1.2.off,qJ y.1.2.len,qJ y.1.2.brk],undef,undef,undef,undef,undef,undef,undef,undef,undef,undef,undef,undef,undef,undef,undef,undef,undef],defers:=[]})
  (fun x be _ W e4 e5 bd d0 bf=>by
   obtain⟨s,bg,R,d4⟩:=bd
   refine⟨s,bg,(d0.block s (xU.1 R).1 (fun e=>?_)).trans R,d4⟩
   obtain⟨_,o,cp,cb⟩:=bf s e.symm
   rw [R]at cp;cases cp;cases cb)
  ?assign ?body ?done ?stop
 case assign=>
  rintro l i x W A ⟨⟨v,E,B,_⟩,G,H,I,t⟩ h
  gi_wp2
  have J:=t.size
  refine h _ _ ((KeepsOthers.alloc _ _).from _) ((qO _ W).alloc J _) ⟨⟨v,E.alloc _,B.alloc _,xH⟩,G.alloc _,H.alloc _,I.alloc _,t.alloc J _⟩ ⟨W.heap.size,xH,xm _ _,rfl⟩
 case body=>
  rintro l i ⟨⟨g,O⟩,cq⟩ be W d5 ⟨r,bf⟩ ⟨⟨v,E,B,_⟩,G,H,I,t⟩ ⟨s,_,X,rfl⟩ e8;have dc:=cq;obtain⟨⟨d6,d7,d8,cr⟩,d9,ea,eb,ec,ed,ee⟩:=dc;simp only at d6 d7 d8 cr d9 ea eb ec ed ee
  have b1:W.cell? ⟨s,0,none⟩=some (qJ O.off):=by rw [qQ W _ 0 _ _ _ X];rfl
  have b2:W.cell? ⟨s,1,none⟩=some (qJ O.len):=by rw [qQ W _ 1 _ _ _ X];rfl
  have b3:W.cell? ⟨s,2,none⟩=some (qJ O.brk):=by rw [qQ W _ 2 _ _ _ X];rfl
  have ep:s<W.heap.size:=(xU.1 X).1;have J:=t.size
  have dd:=qG (show txA zs lo (lo+(d:Int)) (List.map (fun y:{y:Int×Pc //AcQ zs lo (lo+(d:Int)) y}=>y.1) (i++ [⟨(g,O),cq⟩]))=txA zs lo (lo+(d:Int)) (List.map (fun y:{y:Int×Pc //AcQ zs lo (lo+(d:Int)) y}=>y.1) i)++cutT (ptx zs O) (lo - g) (lo+(d:Int) - g)by rw [vT,YZ];simp [txA])
  have de:=qG B;have b4:=qG E;have b5:=qG G;have b6:=qG H;have b7:=qG I;have df:=qG t;have dg:=qG (bn.below t ak);have dh:=qG (c2.below t cn)
  obtain⟨ef,eg,rfl⟩:=zj (show own32 W w.heap.size v _ from B)
  have di:=fun d os=>cell_regrown b1 d os
  have ao:=fun d os=>cell_regrown b2 d os
  have ap:=fun d os=>cell_regrown b3 d os
  have aq:=fun d os=>cell_regrown G.cell d os
  have ar:=fun d os=>cell_regrown H.cell d os
  have dj:=fun d os=>cell_regrown I.cell d os
  have dk:=fun d os=>cell_regrown E.cell d os
  have eq:=txA_bd zs lo (lo+(d:Int)) i
  generalize dv:txA zs lo (lo+(d:Int)) (List.map (fun y:{y:Int×Pc //AcQ zs lo (lo+(d:Int)) y}=>y.1) i)=ba at *
  clear bf d5 X B E G H I t b1 b2 b3 dv;obtain⟨cs,ct,cu⟩:=O;simp only at *
  obtain⟨q,rfl⟩:∃q:Nat,cs=q:=⟨cs.toNat,by omega⟩
  obtain⟨m,rfl⟩:∃m:Nat,ct=m:=⟨ct.toNat,by omega⟩
  have a0:=qG (fun d os=>CallsIn.regrown_of (F:=Fence.wide) (r:=5 - 1 - 1 - 1) (vf.2 (textN c b o zs.length cap q m cu u (grow (redrawn W d) os) (dg.below (below_regrown W d os) (xz ak J)) (by omega) (by omega) d2 d3)))
  have w1:IntKind.i64.wrap (lo - g)=lo - g:=by rw [kX];omega
  have dl:IntKind.i64.wrap (lo+(d:Int) - g)=lo+(d:Int) - g:=by rw [kX];omega
  clear cr c1 c3 co b0 au av aw ax ay az ae af ag
  gi_wp2_with fail
  refine JO 15 (by kernel_rfl) (by kernel_rfl) (by kernel_rfl) ?_
  simp only [ki,kT,ku,vZ]
  repeat (refine wpQuietIn_step (fun _ _ _ _=>trivial) (fun A h=>?_);go_simp;first | (refine h _ ?_;clear h A) | (apply Exists.intro;refine⟨fun _=>?_,h _ ?_⟩;(first | exact⟨xH,a0 _ _⟩ | exact a0 _ _);clear h A))
  obtain⟨a,bl⟩:∃a:Nat,(if lo - g<0 then 0 else lo - g)=(a:Int):=⟨(if lo - g<0 then 0 else lo - g).toNat,by split<;>omega⟩
  obtain⟨e,bm⟩:∃e:Nat,(if(m:Int)<lo+(d:Int) - g then(m:Int)else lo+(d:Int) - g)=(e:Int):=⟨(if(m:Int)<lo+(d:Int) - g then(m:Int)else lo+(d:Int) - g).toNat,by split<;>omega⟩
  have K:(a<=e∧a<m)∧e<=m∧a=(lo - g).toNat∧e - a=min ((lo+(d:Int) - g).toNat - a) (m - a)∧e<=d+a:=by
   split at bl<;>split at bm<;>omega
  rw [bl,bm];have dm:=qG (zGb zs q m a e cu (lo - g) (lo+(d:Int) - g) K.2.2.1 K.2.2.2.1);have er:=K.1.1;have es:=K.1.2;have et:=K.2.1
  have eu:(a:Int)<=(e:Int):=by omega
  have ev:(e:Int)<=((cap - q:Nat):Int):=by omega
  have ew:¬cap - q=a:=by omega
  clear bl bm w1 dl K
  (refine wpQuietIn_step (fun _ _ _ _=>trivial) (fun A h=>?_);go_simp;first | (refine h _ ?_;clear h A) | (apply Exists.intro;refine⟨fun _=>?_,h _ ?_⟩;(fail);clear h A))
  refine wpQuietIn_nil ?_;intro _ a9;obtain⟨⟨S,V⟩,bk⟩:=a9;subst bk;have z:=qG (below_regrown W S V);clear di ao ap aq ar dj dk a0;generalize grow (redrawn W S) V=N at *;have ex:=z.size
  have b8:=qG (show Boxed N _ _ _ from(z.block _ b4.lt).trans b4)
  have P:=qG (zA de z lR)
  have a1:=qG (show Boxed N _ _ _ from(z.block _ b5.lt).trans b5)
  have a2:=qG (show Boxed N _ _ _ from(z.block _ b6.lt).trans b6)
  have a3:=qG (show Boxed N _ _ _ from(z.block _ b7.lt).trans b7)
  have dn:=qG (dh.below z (xz cn J))
  have b9:=qG (dn.app (q+a) (e - a) (by omega))
  have a4:((zs.drop (q+a)).take (e - a)).length=e - a:=by rw [qN,qS];omega
  have dp:=qG a4
  have dq:=qG (show(ints .i32 ((zs.drop (q+a)).take (e - a))).length=(e - a)*1 by rw [zC,a4,vI])
  have ey:j.heap.size<N.heap.size:=b8.lt;rw [<- vR]at b9;generalize (zs.drop (q+a)).take (e - a)=U at *;generalize dw:ba.length=ah at *;clear a4
  gi_wp2_with (gi_at_builtin;refine wpListIn_append_own _ rfl _ _ 25 rfl w.heap.size 21 ch (.int .i32 0) 1 4 Tryz.underlying25 ci cj ck cl rfl (by decide) _ ah (ints .i32 ba) rfl P ⟨b,o+q+a,none⟩ (e - a) (cap - q - a) (ints .i32 U) rfl dq b9 (zF _ _) (by unfold maxLen;omega) (by omega) (by omega) ?_;intro e3 cd ce cf _;obtain⟨ai,aj,rfl⟩:=row_val ce;obtain⟨cv,eh,ei,ej,cw⟩:=app2 b8 (by decide) P (by omega) (by omega) ce cf;have ez:=cv.cell;have e0:=cv.frozen)
  have e1:=cw;have ca:=qG ((z.mono J).trans cw)
  have dr:=qG (show own32 (cd.setCell ⟨j.heap.size,0,none⟩ (.slice ai (ah+(e - a)) aj)) w.heap.size _ (ba++U)from Zt dw dp ei)
  have a5:=qG (fun k (D:k<N.heap.size) (bg:k≠j.heap.size) (R:some k≠(Value.slice ef ah eg).ownBlock)=>(xn cd ⟨j.heap.size,0,none⟩ k (.slice ai (ah+(e - a)) aj) bg).trans (cf.block k D R))
  refine⟨((KeepsOthers.qa z).trans ej).from _,ca,⟨_,eh,?_,xH⟩,?_,?_,?_,df.trans ca⟩
  ·have L:=dr
   unfold own32 at L;rw [<- dm.out,<- dd.out]at L;exact L
  ·exact(a5 _ a1.lt (by omega) (a1.not_row (by decide) P)).trans a1
  ·exact(a5 _ a2.lt (by omega) (a2.not_row (by decide) P)).trans a2
  ·exact(a5 _ a3.lt (by omega) (a3.not_row (by decide) P)).trans a3
 case done=>
  rintro cx ys W ek el ⟨⟨v,E,B,_⟩,G,H,I,t⟩ h;have cb:=E.cell;have a6:=c0;rw [<- el]at a6
  have cc:=qG (show own32 W w.heap.size v (cutT (T.tx zs) lo (lo+(d:Int)))by
   have L:own32 W w.heap.size v _:=B;rw [a6]at L
   simpa using L)
  have ds:=qG t;have a7:=qG h;have e2:=ek;obtain⟨ai,aj,rfl⟩:=zj cc;generalize dx:(cutT (T.tx zs) lo (lo+(d:Int))).length=dy at *;clear a6 B t G H I dx
  gi_wp2
  refine⟨by simp,.inl ⟨_,_,rfl,run_takeDeferred a7,?_⟩⟩
  have dt:=ownsRow_putObj cc (.deferred none) a7 rfl
  have du:=ds.trans (belowK_b (w:=w) lR _ cx _ (.deferred none) (by omega) a7 rfl rfl)
  exact⟨.slice ai dy aj,by simp [results,Tryz.results58,go_sem],_,rfl,dt,du⟩
 case stop=>
  rintro cx c i W _ _ Q _;exact Q.elim
end Go.Proofs.YtljdnoinennfaaaGreatDoor
namespace Go.Proofs.YtljdnoinennfaaaGreatDoor
open Go Go.RowKit
def psTxt (zs:List Int) (xs:List It) (lo hi:Int):List Int:=
 match pRead zs xs with
 | none=>[]
 | some T=>if 0<=lo∧lo<=hi∧hi<=(T.tx zs).length then cutT (T.tx zs) lo hi else []
def J1 (zs:List Int) (xs:List It) (lo hi:Int):Int:=
 match pRead zs xs with
 | none=>1
 | some T=>if 0<=lo∧lo<=hi∧hi<=(T.tx zs).length then 0 else 2
theorem implPS (B:Nat) (zs:List Int) (b o cap:Nat) (v:Value) (xs:List It) (lo hi:Int) (w:World) (r:At32 w b o zs) (G:b<w.heap.size) (H:zs.length<=1048576) (Z:zs.length<=cap) (aa:cap<=maxLen) (s:RdI B w v xs) (ab:B<=w.heap.size) (ac:xs.length<=1048576) (t:w.cell? ⟨0,0,none⟩=some (.iface 215 (.agg #[.pointer (qK 2 73)]))) (x:J1 zs xs lo hi=0):
  Calls Tryz.prog 24 #[.agg #[.slice (qK b o) zs.length cap,v],qJ lo,qJ hi] w fun e w'=>∃F,e= .returned (.tuple #[F,qJ (J1 zs xs lo hi)])∧own32 w' w.heap.size F (psTxt zs xs lo hi)∧Below w.heap.size w w':=by
 obtain⟨ao,y,rfl⟩:=s.val;have N:0<w.heap.size:=xD w _ t
 have a:=qG (And.intro (show psTxt zs xs lo hi=(match pRead zs xs with | none=>[] | some T=>if 0<=lo∧lo<=hi∧hi<=(T.tx zs).length then cutT (T.tx zs) lo hi else [])from rfl) (show J1 zs xs lo hi=(match pRead zs xs with | none=>1 | some T=>if 0<=lo∧lo<=hi∧hi<=(T.tx zs).length then 0 else 2)from rfl))
 generalize psTxt zs xs lo hi=am at a |-;generalize J1 zs xs lo hi=an at a x |-;have d:=qG ((qO w.heap.size w).alloc lR (.cells #[.slice (qK b o) zs.length cap,.slice ao xs.length y] 30))
 have A:=qG (Jg B zs b o cap _ xs _ (r.below d G) (by simp;omega) H Z aa (s.below d ab) (by simp;omega) ac)
 have C:=qG (r.below d G)
 have ai:(w.alloc (.cells #[.slice (qK b o) zs.length cap,.slice ao xs.length y] 30)).heap.size=w.heap.size+1:=by simp
 have O:=qG ((d.cell (p:=⟨0,0,none⟩) N).trans t);generalize al:xs.length=n at *;clear s r t;go_enter Tryz.func24,Tryz.ntmps24;go_wp2_with fail;generalize w.alloc (.cells #[.slice (qK b o) zs.length cap,.slice ao n y] 30)=j at *;refine A.mono ?_;clear A
 cases hT:pRead zs xs with
 | none=>
  rw [hT]at a;simp only at a
  exact absurd (a.2.symm.trans x) (by decide)
 | some T=>
  rw [hT]at a;simp only at a;have k:=XV hT;clear hT;rintro e w1 ⟨c,u,bs,rfl,ap,I,J,ad,ae,K,g⟩;have aj:=g.size
  have l:PCore w1 j.heap.size c b o zs.length zs T:=⟨⟨u,bs,I,J⟩,C.below g (by omega),by omega,K,k.2.2.1,⟨H,lR,by unfold maxLen;omega⟩⟩
  have P:=AT.qD k.2.2.1;have Q:=qG (lengthN T j.heap.size c b o zs.length zs w1 l)
  have D:=qG (fun W (q:Below w1.heap.size w1 W) Y=>sliceN T j.heap.size c b o zs.length zs lo hi W (l.below q lR) Y)
  have m:=qG (fun w=>zBs lo hi T.rns w)
  have h:=qG (d.trans (g.mono (by omega)))
  have ak:=qG ((g.cell (p:=⟨0,0,none⟩) (by show 0<j.heap.size;omega)).trans O)
  clear g I J ad ae K k l C;generalize T.tx zs=tx at *;generalize T.rns=E at *
  by_cases X:0<=lo∧lo<=hi∧hi<=E
  ·have f:0<=lo∧lo<=hi∧hi<=(tx.length:Int):=by omega
   rw [xj f,xj f]at a
   rw [show decide ((0<=hi∧hi<=E)∧(0<=lo∧lo<=hi))=true by rw [qZ];omega]at m
   simp only [errV,kP]at m
   have R:=qG (fun W q=>D W q X)
   clear P D;go_wp2_with fail;refine Q.mono ?_;rintro e aq ⟨rfl,L⟩;have i:=qG L;clear L;go_wp2_with fail;refine(m _).mono ?_;rintro e wx ⟨rfl,af⟩;have S:=af.symm;subst S;go_wp2_with fail;refine(R _ i).mono ?_;rintro e ag ⟨ah,rfl,z,M⟩;have U:=qG ((h.trans (i.mono h.size)).trans (M.mono (vV h.size i.size)))
   have V:=qG (show own32 ag w.heap.size ah _ from zD z (vV h.size i.size))
   obtain⟨ar,au,rfl⟩:=zj z;clear M z;go_wp2;go_ret2;rw [a.out.1,a.out.2];exact⟨_,rfl,V,U⟩
  ·have f:¬ (0<=lo∧lo<=hi∧hi<=(tx.length:Int)):=by omega
   rw [qT f,qT f]at a
   exact absurd (a.2.symm.trans x) (by decide)
end Go.Proofs.YtljdnoinennfaaaGreatDoor
