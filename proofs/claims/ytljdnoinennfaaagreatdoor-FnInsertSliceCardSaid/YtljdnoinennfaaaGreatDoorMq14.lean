import Derived.Test.YtljdnoinennfaaaGreatDoorMq13
set_option linter.all false
set_option maxRecDepth 100000
set_option maxHeartbeats 8000000
namespace Go.Proofs.YtljdnoinennfaaaGreatDoor
open Go Go.RowKit
theorem Xn {a:Int} {r:List Int} (b:a<128):step (a::r)=(a,1):=by
 rcases shape (show a::r≠ []by simp)with ⟨x,e⟩ | ⟨x,y,e⟩ | ⟨x,y,z,e⟩ | ⟨x,y,z,u,q,e⟩
 all_goals
  cases e;simp [step,b]
theorem rd_take {w:World} {b off cap k:Nat} {bs:List Int} (c:∀i,i<bs.length->w.cell? ⟨b,off+i,none⟩=some (.int .u8 (bs.getD i 0))) (e:1<=k) (f:k<=bs.length) (g:bs.length<=cap) (d:cap<=maxLen):Rd .u8 w (.slice (qK b off) k cap) (bs.take k):=by
 have a:(bs.take k).length=k:=by rw [qN];omega
 refine .inr ⟨b,off,cap,by rw [a],⟨by omega,by omega,d⟩,fun i hi=>?_⟩
 rw [c i (by omega),qW,qW,xO,xj (by omega)]
theorem Y2 {bs:List Int} (b:bytes bs) (k:Nat):bytes (bs.take k):=fun z a=>b z (xI a)
theorem l1Step (bs:List Int) (v:Value) (w:World) (Q:Rd .u8 w v bs) (T:bytes bs) (F:bs≠ []) (a1:bs.length<=1048576):
  Calls Tryz.prog 55 #[v] w fun e w'=>e= .returned (.tuple #[.int .i32 (step bs).1,qJ (step bs).2])∧Below w.heap.size w w':=by
 have az:0<bs.length:=kD.2 F
 rcases Q with ⟨_,_,_,e⟩ | ⟨b,off,cap,rfl,⟨U,ay,ak⟩,M⟩
 ·exact absurd e F
 have aq:b<w.heap.size:=xD w _ (M 0 U)
 have ab:=T (bs.getD 0 0) (by rw [qW,qY U];simp)
 have ar:w.cell? ⟨b,off,none⟩=some (.int .u8 (bs.getD 0 0)):=M 0 U
 have ac:bs.getD 0 0<128->step bs=(bs.getD 0 0,1):=by
  cases bs with
  | nil=>exact absurd rfl F
  | cons a r=>exact fun Q=>Xn Q
 have N:=qG ac;generalize bs.getD 0 0=a at ar ab N;obtain⟨a2,a3⟩:=ab;clear ac
 have a0:(0:Int)<(bs.length:Int):=by omega
 by_cases aw:a<128
 ·rw [N.out aw]
  go_enter Tryz.func55,Tryz.ntmps55;go_wp2;go_ret2;exact⟨rfl,qO _ _⟩
 ·have O:=qG (fun(W:World) (ax:Below w.heap.size w W) (k:Nat) (L:1<=k) (y:k<=bs.length)=>rd_take (w:=W) (k:=k) (fun i hi=>(ax.cell (p:=⟨b,off+i,none⟩) aq).trans (M i hi)) L y ay ak)
  have t:=qG T;have ad:=qG F;unfold maxLen at ak;clear M T F N;go_enter Tryz.func55,Tryz.ntmps55;go_wp2
  go_loopw [4] (fun i wr=>∃k:Nat,1<=k∧k<=5∧k<=bs.length+1∧i=qJ k∧(∀j,1<=j->j<k->zT (bs.take j)=false)∧Below w.heap.size w wr) (fun i _=>5 - (intOf i).toNat)
  case atStart=>exact⟨1,by omega,by omega,by omega,rfl,fun j L aj=>by omega,qO _ _⟩
  case round=>
   obtain⟨k,A,al,am,rfl,an,d⟩:=hrel;have J:=qG an;have K:=qG d;have au:=d.size;clear an d
   by_cases y:k<=4∧k<=bs.length
   ·obtain⟨V,B⟩:=y
    have ae:(k:Int)<=4:=by omega
    have af:(k:Int)<=(bs.length:Int):=by omega
    have ag:(bs.take k).length=k:=by rw [qN];omega
    have l:=qG ag;clear ag;go_wp2_with fail
    refine(zDs (bs.take k) _ _ (O wr K k A B) (Y2 t k) (by rw [l.out];omega) (by rw [l.out];omega)).mono ?_
    rintro e w1 ⟨n,rfl,X,h⟩;have o:=qG (K.trans (h.mono au))
    cases hok:zT (bs.take k)with
    | true=>
     have hst:=Kk t A V B hok J;have ah:=numZ_le t hok;rw [<- X hok]at hst ah;obtain⟨a4,a5⟩:=ah;have u:=qG hst;clear hst h X hok;go_wp2;go_ret2
     exact⟨by rw [u.out];rfl,o⟩
    | false=>
     have av:=qG hok;clear hok h X;go_wp2;go_roundw
     case rel=>
      have C:∀j,1<=j->j<k+1->zT (bs.take j)=false:=fun j c z=>by
       by_cases s:j=k
       ·rw [s];exact av
       ·exact J j c (by omega)
      exact⟨k+1,by omega,by omega,by omega,by go_num,C,o⟩
     case measure=>simp [intOf];omega
   ·have ai:=qG (show ∀j,1<=j->j<=4->j<=bs.length->zT (bs.take j)=false from fun j c z s=>J j c (by omega))
    have q:¬ ((k:Int)<=4)∨((k:Int)<=4∧¬ (k:Int)<=(bs.length:Int)):=by omega
    clear J
    rcases q with q | ⟨ao,ap⟩
    ·go_wp2
     go_loopw [7,8] (fun R i wr=>∃k m:Nat,1<=k∧k<=4∧k<=bs.length+1∧1<=m∧m<=3∧m<=bs.length∧R=qJ m∧i=qJ k∧(m=1∨begOk (bs.take m))∧(∀j,m<j->j<k->¬begOk (bs.take j))∧Below w.heap.size w wr) (fun _ i _=>4 - (intOf i).toNat)
     case atStart=>exact⟨1,1,by omega,by omega,by omega,by omega,by omega,by omega,rfl,rfl,.inl rfl,fun j L aj=>by omega,K⟩
     case round=>
      obtain⟨k,m,A,al,am,Y,Z,aa,rfl,rfl,G,H,d⟩:=hrel;have D:=qG G;have E:=qG H;have f:=qG d;have P:=d.size;clear G H d
      by_cases y:k<=3∧k<=bs.length
      ·obtain⟨V,B⟩:=y
       have ae:(k:Int)<=3:=by omega
       have af:(k:Int)<=(bs.length:Int):=by omega
       have l:=qG (show(bs.take k).length=k by rw [qN];omega)
       go_wp2_with fail
       refine(zC8 (bs.take k) _ _ (O wr f k A B) (Y2 t k) (by rw [l.out];omega) (by rw [l.out];omega)).mono ?_
       rintro e w1 ⟨r,rfl,I,h⟩;have o:=qG (f.trans (h.mono P));have g:=qG I;clear h I
       cases r with
       | true=>
        have x:=qG (g.1 rfl);clear g;go_wp2;go_roundw
        case rel=>exact⟨k+1,k,by omega,by omega,by omega,by omega,by omega,by omega,rfl,by go_num,.inr x,fun j c z=>by omega,o⟩
        case measure=>simp [intOf];omega
       | false=>
        have x:=qG (show ¬begOk (bs.take k)from fun S=>by have:=g.2 S;cases this)
        clear g;go_wp2;go_roundw
        case rel=>
         have C:∀j,m<j->j<k+1->¬begOk (bs.take j):=fun j c z=>by
          by_cases s:j=k
          ·rw [s];exact x
          ·exact E j c (by omega)
         exact⟨k+1,m,by omega,by omega,by omega,by omega,by omega,by omega,rfl,by go_num,D,C,o⟩
        case measure=>simp [intOf];omega
      ·have u:=qG (zC3 t ad ai Y Z aa D (fun j c z s=>E j c (by omega)))
       have q:¬ ((k:Int)<=3)∨((k:Int)<=3∧¬ (k:Int)<=(bs.length:Int)):=by omega
       rcases q with q | ⟨ao,ap⟩
       ·go_wp2
        go_ret2
        exact⟨by rw [u.out];rfl,f⟩
       ·go_wp2
        go_ret2
        exact⟨by rw [u.out];rfl,f⟩
    ·go_wp2
     go_loopw [7,8] (fun R i wr=>∃k m:Nat,1<=k∧k<=4∧k<=bs.length+1∧1<=m∧m<=3∧m<=bs.length∧R=qJ m∧i=qJ k∧(m=1∨begOk (bs.take m))∧(∀j,m<j->j<k->¬begOk (bs.take j))∧Below w.heap.size w wr) (fun _ i _=>4 - (intOf i).toNat)
     case atStart=>exact⟨1,1,by omega,by omega,by omega,by omega,by omega,by omega,rfl,rfl,.inl rfl,fun j L aj=>by omega,K⟩
     case round=>
      obtain⟨k,m,A,al,am,Y,Z,aa,rfl,rfl,G,H,d⟩:=hrel;have D:=qG G;have E:=qG H;have f:=qG d;have P:=d.size;clear G H d
      by_cases y:k<=3∧k<=bs.length
      ·obtain⟨V,B⟩:=y
       have ae:(k:Int)<=3:=by omega
       have af:(k:Int)<=(bs.length:Int):=by omega
       have l:=qG (show(bs.take k).length=k by rw [qN];omega)
       go_wp2_with fail
       refine(zC8 (bs.take k) _ _ (O wr f k A B) (Y2 t k) (by rw [l.out];omega) (by rw [l.out];omega)).mono ?_
       rintro e w1 ⟨r,rfl,I,h⟩;have o:=qG (f.trans (h.mono P));have g:=qG I;clear h I
       cases r with
       | true=>
        have x:=qG (g.1 rfl);clear g;go_wp2;go_roundw
        case rel=>exact⟨k+1,k,by omega,by omega,by omega,by omega,by omega,by omega,rfl,by go_num,.inr x,fun j c z=>by omega,o⟩
        case measure=>simp [intOf];omega
       | false=>
        have x:=qG (show ¬begOk (bs.take k)from fun S=>by have:=g.2 S;cases this)
        clear g;go_wp2;go_roundw
        case rel=>
         have C:∀j,m<j->j<k+1->¬begOk (bs.take j):=fun j c z=>by
          by_cases s:j=k
          ·rw [s];exact x
          ·exact E j c (by omega)
         exact⟨k+1,m,by omega,by omega,by omega,by omega,by omega,by omega,rfl,by go_num,D,C,o⟩
        case measure=>simp [intOf];omega
      ·have u:=qG (zC3 t ad ai Y Z aa D (fun j c z s=>E j c (by omega)))
       have q:¬ ((k:Int)<=3)∨((k:Int)<=3∧¬ (k:Int)<=(bs.length:Int)):=by omega
       rcases q with q | ⟨ao,ap⟩
       ·go_wp2
        go_ret2
        exact⟨by rw [u.out];rfl,f⟩
       ·go_wp2
        go_ret2
        exact⟨by rw [u.out];rfl,f⟩
theorem Kq {w w':World} {B:Nat} (a:Tab w) (c:Below B w w') (f:w.heap.size<=B):Tab w':=by
 obtain⟨t,d,b⟩:=a
 have e:1<w.heap.size:=by
  rcases xS 1 w.heap.size with a | a
  ·exact a
  ·rw [vJ a]at b;cases b
 exact⟨t,d,(c.block 1 (by omega)).trans b⟩
theorem KJ (bs:List Int) (v:Value) (w:World) (o:Rd .u8 w v bs) (g:Tab w) (c:bs≠ []) (t:bs.length<=1048576) (h:∀j,j<9->¬ (fA j<=bs.getD 0 0∧bs.getD 0 0<=fB j)) (i:step bs=(65533,1)):
  Calls Tryz.prog 54 #[v] w fun e w'=>e= .returned (.tuple #[.int .i32 (step bs).1,qJ (step bs).2])∧Below w.heap.size w w':=by
 have q:0<bs.length:=kD.2 c
 rcases o with ⟨_,_,_,e⟩ | ⟨b,off,cap,rfl,⟨p,u,x⟩,k⟩
 ·exact absurd e c
 have r:w.cell? ⟨b,off,none⟩=some (.int .u8 (bs.getD 0 0)):=k 0 p;have l:=qG (zC4 (bs.getD 0 0) w g h);generalize bs.getD 0 0=a at *
 have s:(0:Int)<(bs.length:Int):=by omega
 rw [i];clear k h g i c;go_enter Tryz.func54,Tryz.ntmps54;go_wp2_with fail;refine l.mono ?_;rintro e w1 ⟨rfl,d⟩;have m:=qG d;have n:=d.size;have f:Value.agg zeroV= .agg #[.int .u8 0,.int .u8 0,.int .u8 0,.int .u8 0,qJ 0,.int .u8 0]:=rfl;rw [f];clear d f;go_wp2;go_ret2;exact⟨rfl,m.alloc n _⟩
theorem zx (k c:Nat) (Z:k<9) (B:fE k=c) (aa:1<=c∧c<=4) (bs:List Int) (v:Value) (w:World) (g:Rd .u8 w v bs) (C:Tab w) (s:bs≠ []) (ab:bs.length<=1048576)
  (D:fA k<=bs.getD 0 0∧bs.getD 0 0<=fB k) (E:∀j,j<k->¬ (fA j<=bs.getD 0 0∧bs.getD 0 0<=fB j))
  (F:∀n,1<=n->n<c->n<=bs.length->(∀i,1<=i->i<n->i<bs.length∧inr (fC k) (fD k) i (bs.getD i 0))->(n=bs.length∨¬inr (fC k) (fD k) n (bs.getD n 0))->step bs=(65533,n))
  (G:(∀i,1<=i->i<c->i<bs.length∧inr (fC k) (fD k) i (bs.getD i 0))->c<=bs.length->(step bs).2=c∧∀W,Below w.heap.size w W->Calls Tryz.prog 94 #[.agg #[.int .u8 (fA k),.int .u8 (fB k),.int .u8 (fC k),.int .u8 (fD k),qJ c,.int .u8 (fF k)],v] W fun e w'=>e= .returned (.int .i32 (step bs).1)∧Below W.heap.size W w'):
  Calls Tryz.prog 54 #[v] w fun e w'=>e= .returned (.tuple #[.int .i32 (step bs).1,qJ (step bs).2])∧Below w.heap.size w w':=by
 have ae:0<bs.length:=kD.2 s;have N:=qG g;have O:=qG s
 rcases g with ⟨_,_,_,e⟩ | ⟨b,off,cap,rfl,⟨ac,an,ao⟩,H⟩
 ·exact absurd e s
 have af:w.cell? ⟨b,off,none⟩=some (.int .u8 (bs.getD 0 0)):=H 0 ac;have y:=qG (zDm (bs.getD 0 0) k Z w C D E);generalize bs.getD 0 0=a at *
 have ag:(0:Int)<(bs.length:Int):=by omega
 have P:=qG F;have Q:=qG G;have R:=qG B;clear H E C D F G s B;go_enter Tryz.func54,Tryz.ntmps54;go_wp2_with fail;refine y.mono ?_;rintro e w1 ⟨rfl,u⟩;have S:=qG u;have T:=u.size
 have z:Value.agg (rowV k)= .agg #[.int .u8 (fA k),.int .u8 (fB k),.int .u8 (fC k),.int .u8 (fD k),qJ c,.int .u8 (fF k)]:=by rw [<- R.out];rfl
 rw [z];clear u z y;generalize fA k=m at *;generalize fB k=o at *;generalize fC k=p at *;generalize fD k=q at *;generalize fF k=r at *;go_wp2_with fail;have h:Below w.heap.size w (w1.alloc (.cells #[.int .u8 m,.int .u8 o,.int .u8 p,.int .u8 q,qJ c,.int .u8 r] 156)):=S.alloc T _;refine(matched m o p q r c bs _ _ (N.below h) O ab aa).mono ?_;rintro e d ⟨n,rfl,ad,ap,I,J,K,x⟩;have l:=qG (h.trans (x.mono h.size))
 have f:d.heap[w1.heap.size]? =some (.cells #[.int .u8 m,.int .u8 o,.int .u8 p,.int .u8 q,qJ c,.int .u8 r] 156 (0,0)):=(x.block w1.heap.size (by simp)).trans (xm _ _)
 have ah:d.cell? ⟨w1.heap.size,0,none⟩=some (.int .u8 m):=by rw [qQ d w1.heap.size 0 _ _ _ f];rfl
 have ai:d.cell? ⟨w1.heap.size,1,none⟩=some (.int .u8 o):=by rw [qQ d w1.heap.size 1 _ _ _ f];rfl
 have aj:d.cell? ⟨w1.heap.size,2,none⟩=some (.int .u8 p):=by rw [qQ d w1.heap.size 2 _ _ _ f];rfl
 have ak:d.cell? ⟨w1.heap.size,3,none⟩=some (.int .u8 q):=by rw [qQ d w1.heap.size 3 _ _ _ f];rfl
 have al:d.cell? ⟨w1.heap.size,4,none⟩=some (qJ c):=by rw [qQ d w1.heap.size 4 _ _ _ f];rfl
 have am:d.cell? ⟨w1.heap.size,5,none⟩=some (.int .u8 r):=by rw [qQ d w1.heap.size 5 _ _ _ f];rfl
 have A:=qG I;have U:=qG J;clear x f h I J
 by_cases Y:n<c
 ·have t:=qG (P n ad Y K A (U.elim (fun g=>absurd g (by omega)) (fun g=>g.2)))
  go_wp2;go_ret2
  exact⟨by rw [t.out];rfl,l⟩
 ·obtain rfl:n=c:=by omega
  obtain⟨hst,L⟩:=Q A K;have V:=qG (L d l);have t:=qG hst;clear hst L;go_wp2_with fail;refine V.mono ?_;rintro e aq ⟨rfl,M⟩;have X:=qG (l.trans (M.mono l.size));clear M;go_wp2;go_ret2
  exact⟨by rw [t.out];rfl,X⟩
theorem zDu (k:Nat):k<9->((k=0∧fA k=0∧fB k=127)∨(k=1∧fA k=194∧fB k=223)∨(k=2∧fA k=224∧fB k=224)∨(k=3∧fA k=225∧fB k=236)∨(k=4∧fA k=237∧fB k=237)∨(k=5∧fA k=238∧fB k=239)∨(k=6∧fA k=240∧fB k=240)∨(k=7∧fA k=241∧fB k=243)∨(k=8∧fA k=244∧fB k=244)):=by
 intro b
 have a:k=0∨k=1∨k=2∨k=3∨k=4∨k=5∨k=6∨k=7∨k=8:=by omega
 rcases a with rfl | rfl | rfl | rfl | rfl | rfl | rfl | rfl | rfl
 all_goals simp [fA,fB,tA,tB]
theorem ZV {a:Int} {k:Nat} (b:k<9) (f:fA k<=a∧a<=fB k):∀j,j<k->¬ (fA j<=a∧a<=fB j):=by
 intro j e;have c:=zDu k b
 have d:=zDu j (by omega)
 omega
theorem yP {lo hi z:Int}:inr lo hi 1 z↔lo<=z∧z<=hi:=by unfold inr;rw [xj rfl]
theorem jv {lo hi z:Int}:inr lo hi 2 z↔128<=z∧z<=191:=by unfold inr;rw [qT (by omega)]
theorem Ks {lo hi z:Int}:inr lo hi 3 z↔128<=z∧z<=191:=by unfold inr;rw [qT (by omega)]
theorem rep2 {bs:List Int} {n:Nat} (l:bs≠ []) (m:194<=bs.getD 0 0∧bs.getD 0 0<=223) (o:1<=n) (p:n<2) (q:n<=bs.length) (j:n=bs.length∨¬inr 128 191 n (bs.getD n 0)):step bs=(65533,n):=by
 obtain rfl:n=1:=by omega
 rcases shape l with ⟨a,rfl⟩ | ⟨a,b,rfl⟩ | ⟨a,b,c,rfl⟩ | ⟨a,b,c,d,r,rfl⟩
 all_goals
  simp only [xT,vk,yP]at m j
  have f:¬a<128:=by omega
 ·simp only [step,qT f]
 all_goals
  have k:¬ (128<=b∧b<=191):=by
   rcases j with e | e
   ·simp at e
   ·exact e
  have g:¬ok3 a b:=by unfold ok3;omega
  have h:¬ok4 a b:=by unfold ok4;omega
  have i:¬ ((194<=a∧a<=223)∧128<=b∧b<=191):=fun e=>k e.2
 ·simp only [step,qT f,qT i];rw [qT (fun e=>e.elim g h)]
 ·simp only [step,qT f,qT i,qT g,qT h]
 ·simp only [step,qT f,qT i,qT g,qT h]
theorem full2 {bs:List Int} (f:194<=bs.getD 0 0∧bs.getD 0 0<=223) (j:∀i,1<=i->i<2->i<bs.length∧inr 128 191 i (bs.getD i 0)):
  ∃a b r,bs=a::b::r∧(194<=a∧a<=223)∧(128<=b∧b<=191)∧step bs=(numZ [a,b],2):=by
 have e:=j 1 (by omega) (by omega)
 have g:bs≠ []:=by rintro rfl;simp at e
 rcases shape g with ⟨a,rfl⟩ | ⟨a,b,rfl⟩ | ⟨a,b,c,rfl⟩ | ⟨a,b,c,d,r,rfl⟩
 ·simp at e
 all_goals
  simp only [xT,vk,yP]at f e
  have h:¬a<128:=by omega
  exact⟨a,b,_,rfl,f,e.2,by simp only [step,qT h];rw [xj ⟨f,e.2⟩]⟩
theorem rep3 {bs:List Int} {n:Nat} {lo hi:Int} (v:bytes bs) (t:bs≠ []) (q:224<=bs.getD 0 0∧bs.getD 0 0<=239) (j:∀z,(lo<=z∧z<=hi)↔ok3 (bs.getD 0 0) z) (w:1<=n) (x:n<3) (u:n<=bs.length)
  (p:∀i,1<=i->i<n->i<bs.length∧inr lo hi i (bs.getD i 0)) (l:n=bs.length∨¬inr lo hi n (bs.getD n 0)):step bs=(65533,n):=by
 have s:n=1∨n=2:=by omega
 rcases shape t with ⟨a,rfl⟩ | ⟨a,b,rfl⟩ | ⟨a,b,c,rfl⟩ | ⟨a,b,c,d,r,rfl⟩
 ·simp only [xT]at q
  have h:¬a<128:=by omega
  obtain rfl:n=1:=by simp at u;omega
  simp only [step,qT h]
 all_goals
  simp only [xT]at q j
  have h:¬a<128:=by omega
  have k:¬ ((194<=a∧a<=223)∧128<=b∧b<=191):=by omega
  have m:¬ok4 a b:=by unfold ok4;omega
  rcases s with rfl | rfl
 ·have f:¬ok3 a b:=by
   rcases l with e | e
   ·simp at e
   ·simp only [vk,xT,yP]at e;exact fun g=>e ((j b).2 g)
  simp only [step,qT h,qT k];rw [qT (fun e=>e.elim f m)]
 ·have g:=(p 1 (by omega) (by omega)).2
  simp only [vk,xT,yP]at g;have f:=(j b).1 g;simp only [step,qT h,qT k];rw [xj (.inl f)]
 ·have f:¬ok3 a b:=by
   rcases l with e | e
   ·simp at e
   ·simp only [vk,xT,yP]at e;exact fun g=>e ((j b).2 g)
  simp only [step,qT h,qT k,qT f,qT m]
 ·have g:=(p 1 (by omega) (by omega)).2
  simp only [vk,xT,yP]at g;have f:=(j b).1 g
  have o:¬ (128<=c∧c<=191):=by
   rcases l with e | e
   ·simp at e
   ·simp only [vk,xT,jv]at e;exact e
  simp only [step,qT h,qT k,xj f,qT o]
 ·have f:¬ok3 a b:=by
   rcases l with e | e
   ·simp at e
   ·simp only [vk,xT,yP]at e;exact fun g=>e ((j b).2 g)
  simp only [step,qT h,qT k,qT f,qT m]
 ·have g:=(p 1 (by omega) (by omega)).2
  simp only [vk,xT,yP]at g;have f:=(j b).1 g
  have o:¬ (128<=c∧c<=191):=by
   rcases l with e | e
   ·simp at e
   ·simp only [vk,xT,jv]at e;exact e
  simp only [step,qT h,qT k,xj f,qT o]
theorem full3 {bs:List Int} {lo hi:Int} (h:224<=bs.getD 0 0∧bs.getD 0 0<=239) (j:∀z,(lo<=z∧z<=hi)↔ok3 (bs.getD 0 0) z) (k:∀i,1<=i->i<3->i<bs.length∧inr lo hi i (bs.getD i 0)):
  ∃a b c r,bs=a::b::c::r∧(224<=a∧a<=239)∧(128<=b∧b<=191)∧(128<=c∧c<=191)∧step bs=(numZ [a,b,c],3):=by
 have e:=k 1 (by omega) (by omega)
 have f:=k 2 (by omega) (by omega)
 have l:bs≠ []:=by rintro rfl;simp at e
 rcases shape l with ⟨a,rfl⟩ | ⟨a,b,rfl⟩ | ⟨a,b,c,rfl⟩ | ⟨a,b,c,d,r,rfl⟩
 ·simp at e
 ·simp at f
 all_goals
  simp only [xT,vk,yP,jv]at h e f j
  have m:¬a<128:=by omega
  have n:¬ ((194<=a∧a<=223)∧128<=b∧b<=191):=by omega
  have g:=(j b).1 e.2
  exact⟨a,b,c,_,rfl,h,by unfold ok3 at g;omega,f.2,by simp only [step,qT m,qT n];rw [xj g,xj f.2]⟩
theorem rep4 {bs:List Int} {n:Nat} {lo hi:Int} (x:bs≠ []) (s:240<=bs.getD 0 0∧bs.getD 0 0<=244) (p:∀z,(lo<=z∧z<=hi)↔ok4 (bs.getD 0 0) z) (y:1<=n) (A:n<4) (u:n<=bs.length)
  (t:∀i,1<=i->i<n->i<bs.length∧inr lo hi i (bs.getD i 0)) (m:n=bs.length∨¬inr lo hi n (bs.getD n 0)):step bs=(65533,n):=by
 have q:n=1∨n=2∨n=3:=by omega
 have v:∀a b:Int,240<=a->¬a<128∧¬ ((194<=a∧a<=223)∧128<=b∧b<=191)∧¬ok3 a b:=fun a b e=>⟨by omega,by omega,by unfold ok3;omega⟩
 rcases shape x with ⟨a,rfl⟩ | ⟨a,b,rfl⟩ | ⟨a,b,c,rfl⟩ | ⟨a,b,c,d,r,rfl⟩
 ·simp only [xT]at s
  have h:¬a<128:=by omega
  obtain rfl:n=1:=by simp at u;omega
  simp only [step,qT h]
 all_goals
  simp only [xT]at s p;obtain⟨h,k,l⟩:=v a b s.1
  have o:∀e:1<n,ok4 a b:=fun e=>by
   have g:=(t 1 (by omega) e).2
   simp only [vk,xT,yP]at g;exact(p b).1 g
 ·rcases q with rfl | rfl | rfl
  ·have f:¬ok4 a b:=by
    rcases m with e | e
    ·simp at e
    ·simp only [vk,xT,yP]at e;exact fun g=>e ((p b).2 g)
   simp only [step,qT h,qT k];rw [qT (fun e=>e.elim l f)]
  ·simp only [step,qT h,qT k];rw [xj (.inr (o (by omega)))]
  ·simp at u
 ·rcases q with rfl | rfl | rfl
  ·have f:¬ok4 a b:=by
    rcases m with e | e
    ·simp at e
    ·simp only [vk,xT,yP]at e;exact fun g=>e ((p b).2 g)
   simp only [step,qT h,qT k,qT l,qT f]
  ·have f:=o (by omega)
   have j:¬ (128<=c∧c<=191):=by
    rcases m with e | e
    ·simp at e
    ·simp only [vk,xT,jv]at e;exact e
   simp only [step,qT h,qT k,qT l,xj f,qT j]
  ·have f:=o (by omega)
   have j:=(t 2 (by omega) (by omega)).2
   simp only [vk,xT,jv]at j;simp only [step,qT h,qT k,qT l,xj f,xj j]
 ·rcases q with rfl | rfl | rfl
  ·have f:¬ok4 a b:=by
    rcases m with e | e
    ·simp at e
    ·simp only [vk,xT,yP]at e;exact fun g=>e ((p b).2 g)
   simp only [step,qT h,qT k,qT l,qT f]
  ·have f:=o (by omega)
   have j:¬ (128<=c∧c<=191):=by
    rcases m with e | e
    ·simp at e
    ·simp only [vk,xT,jv]at e;exact e
   simp only [step,qT h,qT k,qT l,xj f,qT j]
  ·have f:=o (by omega)
   have j:=(t 2 (by omega) (by omega)).2
   simp only [vk,xT,jv]at j
   have w:¬ (128<=d∧d<=191):=by
    rcases m with e | e
    ·simp at e
    ·simp only [vk,xT,Ks]at e;exact e
   simp only [step,qT h,qT k,qT l,xj f,xj j,qT w]
theorem full4 {bs:List Int} {lo hi:Int} (k:240<=bs.getD 0 0∧bs.getD 0 0<=244) (l:∀z,(lo<=z∧z<=hi)↔ok4 (bs.getD 0 0) z) (h:∀i,1<=i->i<4->i<bs.length∧inr lo hi i (bs.getD i 0)):
  ∃a b c d r,bs=a::b::c::d::r∧(240<=a∧a<=244)∧(128<=b∧b<=191)∧(128<=c∧c<=191)∧(128<=d∧d<=191)∧step bs=(numZ [a,b,c,d],4):=by
 have e:=h 1 (by omega) (by omega)
 have f:=h 2 (by omega) (by omega)
 have g:=h 3 (by omega) (by omega)
 have m:bs≠ []:=by rintro rfl;simp at e
 rcases shape m with ⟨a,rfl⟩ | ⟨a,b,rfl⟩ | ⟨a,b,c,rfl⟩ | ⟨a,b,c,d,r,rfl⟩
 ·simp at e
 ·simp at f
 ·simp at g
 ·simp only [xT,vk,yP,jv,Ks]at k e f g l
  have n:¬a<128:=by omega
  have o:¬ ((194<=a∧a<=223)∧128<=b∧b<=191):=by omega
  have p:¬ok3 a b:=by unfold ok3;omega
  have j:=(l b).1 e.2
  exact⟨a,b,c,d,r,rfl,k,by unfold ok4 at j;omega,f.2,g.2,by simp only [step,qT n,qT o,qT p];rw [xj j,xj f.2,xj g.2]⟩
theorem zGn {bs:List Int} (j:bs≠ []) (k:(128<=bs.getD 0 0∧bs.getD 0 0<=193)∨245<=bs.getD 0 0):step bs=(65533,1):=by
 rcases shape j with ⟨a,rfl⟩ | ⟨a,b,rfl⟩ | ⟨a,b,c,rfl⟩ | ⟨a,b,c,d,r,rfl⟩
 all_goals
  simp only [xT]at k
  have e:¬a<128:=by omega
 ·simp only [step,qT e]
 all_goals
  have f:¬ ((194<=a∧a<=223)∧128<=b∧b<=191):=by omega
  have g:¬ok3 a b:=by unfold ok3;omega
  have h:¬ok4 a b:=by unfold ok4;omega
 ·simp only [step,qT e,qT f];rw [qT (fun i=>i.elim g h)]
 ·simp only [step,qT e,qT f,qT g,qT h]
 ·simp only [step,qT e,qT f,qT g,qT h]
theorem readRune (bs:List Int) (v:Value) (w:World) (S:Rd .u8 w v bs) (E:bytes bs) (C:Tab w) (l:bs≠ []) (D:bs.length<=1048576):
  Calls Tryz.prog 54 #[v] w fun e w'=>e= .returned (.tuple #[.int .i32 (step bs).1,qJ (step bs).2])∧Below w.heap.size w w':=by
 have Q:0<bs.length:=kD.2 l
 have af:=E (bs.getD 0 0) (by rw [qW,qY Q];simp)
 have A:=S
 rcases S with ⟨_,_,_,e⟩ | ⟨y,off,cap,rfl,⟨_,J,K⟩,T⟩
 ·exact absurd e l
 have R:y<w.heap.size:=xD w _ (T 0 Q)
 have B:∀W,Below w.heap.size w W->∀i,i<bs.length->W.cell? ⟨y,off+i,none⟩=some (.int .u8 (bs.getD i 0)):=fun W m i hi=>(m.cell (p:=⟨y,off+i,none⟩) R).trans (T i hi)
 have H:∀W,Below w.heap.size w W->y<W.heap.size:=fun W m=>xz R m.size
 have U:(194<=bs.getD 0 0∧bs.getD 0 0<=223)->∀ (s t u x:Int),(∀i,1<=i->i<2->i<bs.length∧inr 128 191 i (bs.getD i 0))->(step bs).2=2∧∀W,Below w.heap.size w W->Calls Tryz.prog 94 #[.agg #[.int .u8 s,.int .u8 t,.int .u8 u,.int .u8 x,qJ 2,.int .u8 31],.slice (qK y off) bs.length cap] W fun e w'=>e= .returned (.int .i32 (step bs).1)∧Below W.heap.size W w':=by
  intro h s t u x f;obtain⟨a,b,r,rfl,k,F,G⟩:=full2 h f;rw [G]
  exact⟨rfl,fun W m=>zDo s t u x a b _ cap y off W (H W m) (by simp) J K k F (B W m 0 (by simp)) (B W m 1 (by simp))⟩
 have I:∀ (lo hi:Int),(224<=bs.getD 0 0∧bs.getD 0 0<=239)->(∀z,(lo<=z∧z<=hi)↔ok3 (bs.getD 0 0) z)->∀ (s t u x:Int),(∀i,1<=i->i<3->i<bs.length∧inr lo hi i (bs.getD i 0))->(step bs).2=3∧∀W,Below w.heap.size w W->Calls Tryz.prog 94 #[.agg #[.int .u8 s,.int .u8 t,.int .u8 u,.int .u8 x,qJ 3,.int .u8 15],.slice (qK y off) bs.length cap] W fun e w'=>e= .returned (.int .i32 (step bs).1)∧Below W.heap.size W w':=by
  intro lo hi h M s t u x f;obtain⟨a,b,c,r,rfl,k,F,G,P⟩:=full3 h M f;rw [P]
  exact⟨rfl,fun W m=>zDp s t u x a b c _ cap y off W (H W m) (by simp) J K k F G (B W m 0 (by simp)) (B W m 1 (by simp)) (B W m 2 (by simp))⟩
 have L:∀ (lo hi:Int),(240<=bs.getD 0 0∧bs.getD 0 0<=244)->(∀z,(lo<=z∧z<=hi)↔ok4 (bs.getD 0 0) z)->∀ (s t u x:Int),(∀i,1<=i->i<4->i<bs.length∧inr lo hi i (bs.getD i 0))->(step bs).2=4∧∀W,Below w.heap.size w W->Calls Tryz.prog 94 #[.agg #[.int .u8 s,.int .u8 t,.int .u8 u,.int .u8 x,qJ 4,.int .u8 7],.slice (qK y off) bs.length cap] W fun e w'=>e= .returned (.int .i32 (step bs).1)∧Below W.heap.size W w':=by
  intro lo hi h M s t u x f;obtain⟨a,b,c,d,r,rfl,k,F,G,P,ae⟩:=full4 h M f;rw [ae]
  exact⟨rfl,fun W m=>zDq s t u x a b c d _ cap y off W (H W m) (by simp) J K k F G P (B W m 0 (by simp)) (B W m 1 (by simp)) (B W m 2 (by simp)) (B W m 3 (by simp))⟩
 by_cases N:0<=bs.getD 0 0∧bs.getD 0 0<=127
 ·have g:fA 0<=bs.getD 0 0∧bs.getD 0 0<=fB 0:=N
  refine zx 0 1 (by omega) rfl (by omega) bs _ w A C l D g (ZV (by omega) g) ?_ ?_
  ·intro n h k;omega
  ·intro _ _
   cases bs with
   | nil=>exact absurd rfl l
   | cons a r=>
    simp only [xT]at N
    have e:step (a::r)=(a,1):=Xn (by omega)
    rw [e]
    exact⟨rfl,fun W m=>zDn _ _ _ _ a _ cap y off W (H W m) (by simp) J K N (B W m 0 (by simp))⟩
 by_cases O:194<=bs.getD 0 0∧bs.getD 0 0<=223
 ·have g:fA 1<=bs.getD 0 0∧bs.getD 0 0<=fB 1:=O
  refine zx 1 2 (by omega) rfl (by omega) bs _ w A C l D g (ZV (by omega) g) ?_ ?_
  ·intro n h k o _ q;exact rep2 l O h k o q
  ·intro f _;exact U O _ _ _ _ f
 by_cases V:224<=bs.getD 0 0∧bs.getD 0 0<=224
 ·have g:fA 2<=bs.getD 0 0∧bs.getD 0 0<=fB 2:=V
  refine zx 2 3 (by omega) rfl (by omega) bs _ w A C l D g (ZV (by omega) g) ?_ ?_
  ·intro n h k o f q;exact rep3 E l (by omega) (lo:=160) (hi:=191) (fun z=>by unfold ok3;omega) h k o f q
  ·intro f _;exact I 160 191 (by omega) (fun z=>by unfold ok3;omega) _ _ _ _ f
 by_cases X:225<=bs.getD 0 0∧bs.getD 0 0<=236
 ·have g:fA 3<=bs.getD 0 0∧bs.getD 0 0<=fB 3:=X
  refine zx 3 3 (by omega) rfl (by omega) bs _ w A C l D g (ZV (by omega) g) ?_ ?_
  ·intro n h k o f q;exact rep3 E l (by omega) (lo:=128) (hi:=191) (fun z=>by unfold ok3;omega) h k o f q
  ·intro f _;exact I 128 191 (by omega) (fun z=>by unfold ok3;omega) _ _ _ _ f
 by_cases Y:237<=bs.getD 0 0∧bs.getD 0 0<=237
 ·have g:fA 4<=bs.getD 0 0∧bs.getD 0 0<=fB 4:=Y
  refine zx 4 3 (by omega) rfl (by omega) bs _ w A C l D g (ZV (by omega) g) ?_ ?_
  ·intro n h k o f q;exact rep3 E l (by omega) (lo:=128) (hi:=159) (fun z=>by unfold ok3;omega) h k o f q
  ·intro f _;exact I 128 159 (by omega) (fun z=>by unfold ok3;omega) _ _ _ _ f
 by_cases Z:238<=bs.getD 0 0∧bs.getD 0 0<=239
 ·have g:fA 5<=bs.getD 0 0∧bs.getD 0 0<=fB 5:=Z
  refine zx 5 3 (by omega) rfl (by omega) bs _ w A C l D g (ZV (by omega) g) ?_ ?_
  ·intro n h k o f q;exact rep3 E l (by omega) (lo:=128) (hi:=191) (fun z=>by unfold ok3;omega) h k o f q
  ·intro f _;exact I 128 191 (by omega) (fun z=>by unfold ok3;omega) _ _ _ _ f
 by_cases aa:240<=bs.getD 0 0∧bs.getD 0 0<=240
 ·have g:fA 6<=bs.getD 0 0∧bs.getD 0 0<=fB 6:=aa
  refine zx 6 4 (by omega) rfl (by omega) bs _ w A C l D g (ZV (by omega) g) ?_ ?_
  ·intro n h k o f q;exact rep4 l (by omega) (lo:=144) (hi:=191) (fun z=>by unfold ok4;omega) h k o f q
  ·intro f _;exact L 144 191 (by omega) (fun z=>by unfold ok4;omega) _ _ _ _ f
 by_cases ab:241<=bs.getD 0 0∧bs.getD 0 0<=243
 ·have g:fA 7<=bs.getD 0 0∧bs.getD 0 0<=fB 7:=ab
  refine zx 7 4 (by omega) rfl (by omega) bs _ w A C l D g (ZV (by omega) g) ?_ ?_
  ·intro n h k o f q;exact rep4 l (by omega) (lo:=128) (hi:=191) (fun z=>by unfold ok4;omega) h k o f q
  ·intro f _;exact L 128 191 (by omega) (fun z=>by unfold ok4;omega) _ _ _ _ f
 by_cases ac:244<=bs.getD 0 0∧bs.getD 0 0<=244
 ·have g:fA 8<=bs.getD 0 0∧bs.getD 0 0<=fB 8:=ac
  refine zx 8 4 (by omega) rfl (by omega) bs _ w A C l D g (ZV (by omega) g) ?_ ?_
  ·intro n h k o f q;exact rep4 l (by omega) (lo:=128) (hi:=143) (fun z=>by unfold ok4;omega) h k o f q
  ·intro f _;exact L 128 143 (by omega) (fun z=>by unfold ok4;omega) _ _ _ _ f
 ·refine KJ bs _ w A C l D (fun j ad g=>?_) (zGn l (by omega))
  have:=zDu j ad;omega
theorem Tryz.infoE:(Tryz.prog.info? 21).map (fun i=>(i.zero,i.size,i.bytes))=some (some (.int .i32 0),1,4):=by kernel_rfl
theorem ZW {bs:List Int} (b:bytes bs) (k:Nat):bytes (bs.drop k):=fun z a=>b z (xX a)
theorem zF3 {w:World} {b off cap k:Nat} {bs:List Int} (c:∀i,i<bs.length->w.cell? ⟨b,off+i,none⟩=some (.int .u8 (bs.getD i 0))) (d:k<bs.length) (e:bs.length<=cap) (f:cap<=maxLen):Rd .u8 w (.slice (qK b (off+k)) (bs.length - k) (cap - k)) (bs.drop k):=by
 have a:(bs.drop k).length=bs.length - k:=by rw [qS]
 refine .inr ⟨b,off+k,cap - k,by rw [a],⟨by omega,by omega,by omega⟩,fun i hi=>?_⟩
 rw [vR,c (k+i) (by omega),qW,qW,vn]
theorem Kt {bs:List Int} {k:Nat} {xs:List Int} (c:decs bs=xs++decs (bs.drop k)) (d:k<bs.length):
  decs bs=(xs++ [(step (bs.drop k)).1])++decs (bs.drop (k+(step (bs.drop k)).2))∧k+(step (bs.drop k)).2<=bs.length∧1<=(step (bs.drop k)).2:=by
 have a:bs.drop k≠ []:=by
  intro e;have:=kO List.length e;simp at this;omega
 have b:=YG _ a;rw [qS]at b
 refine⟨?_,by omega,b.1⟩
 rw [c,ZB a,Qq];simp
theorem zF4 {bs:List Int} (e:bytes bs) (i:bs≠ []):0<=(step bs).1∧(step bs).1<=1114111:=by
 rcases shape i with ⟨a,rfl⟩ | ⟨a,b,rfl⟩ | ⟨a,b,c,rfl⟩ | ⟨a,b,c,d,r,rfl⟩
 ·have f:=e a (by simp)
  simp only [step]
  repeat' split
  all_goals simp only
  all_goals omega
 ·have f:=e a (by simp)
  have g:=e b (by simp)
  simp only [step,numZ]
  repeat' split
  all_goals simp only
  all_goals omega
 ·have f:=e a (by simp)
  have g:=e b (by simp)
  have h:=e c (by simp)
  simp only [step,numZ]
  repeat' split
  all_goals simp only
  all_goals (try unfold ok3 at *)
  all_goals (try unfold ok4 at *)
  all_goals omega
 ·have f:=e a (by simp)
  have g:=e b (by simp)
  have h:=e c (by simp)
  have j:=e d (by simp)
  simp only [step,numZ]
  repeat' split
  all_goals simp only
  all_goals (try unfold ok3 at *)
  all_goals (try unfold ok4 at *)
  all_goals omega
theorem specDec (bs:List Int) (v:Value) (w:World) (V:Rd .u8 w v bs) (D:bytes bs) (ab:bs.length<=1048576):
  Calls Tryz.prog 23 #[v] w fun e w'=>∃B,e= .returned B∧w'.ownsRow w.heap.size 21 1 B (decs bs).length (ints .i32 (decs bs))∧Below w.heap.size w w':=by
 obtain⟨ac,hi,ad,ae,af⟩:=xM Tryz.infoE;have a:(w.alloc (.cells #[] 21)).ownsRow w.heap.size 21 1 (.slice (some ⟨w.heap.size,0,none⟩) 0 0) 0 []:=ke w #[] 0 lR (xP _) rfl;have n:=qG a;clear a
 rcases V with ⟨ao,cap,rfl,rfl⟩ | ⟨b,off,cap,rfl,⟨X,Y,E⟩,g⟩
 ·go_enter Tryz.func23,Tryz.ntmps23
  go_wp2;refine xY 1 ?_;rw [xu];go_wp2;go_ret
  exact⟨_,rfl,by rw [jX];exact n.out,(qO _ _).alloc lR _⟩
 ·have G:b<w.heap.size:=xD w _ (g 0 X)
  have H:=qG (fun(W:World) (S:Below w.heap.size w W) (k:Nat) (C:k<bs.length)=>zF3 (w:=W) (k:=k) (fun i hi=>(S.cell (p:=⟨b,off+i,none⟩) G).trans (g i hi)) C Y E)
  have o:=qG D;have I:=qG (ju bs);unfold maxLen at E;clear g D;go_enter Tryz.func23,Tryz.ntmps23;go_wp2
  go_loopw [3,4] (fun T i wr=>∃ (k:Nat) (xs:List Int),k<=bs.length∧i= .int .i64 k∧decs bs=xs++decs (bs.drop k)∧wr.ownsRow w.heap.size 21 1 T xs.length (ints .i32 xs)∧Below w.heap.size w wr)
   (fun _ i _=>bs.length - (intOf i).toNat)
  case atStart=>exact⟨0,[],xP _,rfl,by simp,by simpa [ints]using n.out,(qO _ _).alloc lR _⟩
  case round=>
   obtain⟨k,xs,C,rfl,h,a,j⟩:=hrel;have c:=qG h;have s:=qG a;have d:=qG j;have J:=j.size
   have Z:xs.length<=1048576:=by have K:=I.out;rw [h,qM]at K;omega
   clear h a j
   by_cases A:k<bs.length
   ·have aa:¬cap=k:=by omega
    obtain⟨F,ag,ah⟩:=Kt c.out A
    have f:bs.drop k≠ []:=by intro e;have:=kO List.length e;simp at this;omega
    obtain⟨ai,aj⟩:=zF4 (ZW o.out k) f
    have t:=qG (l1Step (bs.drop k) _ wr (H.out wr d.out k A) (ZW o.out k) f (by rw [qS];omega))
    have L:=qG F;clear F f;generalize (step (bs.drop k)).1=r at *;generalize (step (bs.drop k)).2=m at *;go_wp2_with fail;refine t.out.mono ?_;rintro e w1 ⟨rfl,l⟩;have u:=qG (zA s.out l lR);have x:=qG (d.out.trans (l.mono J));have M:=x.out.size;clear l t
    go_wp2_with (at_builtin;refine a25 _ rfl _ _ rfl w.heap.size _ _ _ rfl (u.out.alloc _) ⟨w1.heap.size,0,none⟩ 1 1 [.int .i32 r] rfl rfl (zL w1 21 [.int .i32 r]) (zF .i32 [r]) (by unfold maxLen;omega) (by omega) (by simp;omega) ?_;intro Q R y z _)
    have N:=qG ((x.out.alloc M _).grown z (by simp;omega) (fun q U=>(u.out.lt q U).1))
    have O:=qG (show R.ownsRow w.heap.size 21 1 Q (xs++ [r]).length (ints .i32 (xs++ [r]))by
     rw [qM,zZ];exact y)
    clear y z;go_wp2;go_roundw
    case rel=>exact⟨k+m,xs++ [r],by omega,by go_num,L.out,O.out,N.out⟩
    case measure=>simp [intOf];omega
   ·obtain rfl:k=bs.length:=by omega
    have P:=qG (show decs bs=xs by rw [c.out,List.drop_length,jX,kA])
    clear c;go_wp2;go_ret
    exact⟨_,rfl,by rw [P.out];exact s.out,d.out⟩
theorem zF5 (bs:List Int) (v:Value) (w:World) (ae:Rd .u8 w v bs) (E:bytes bs) (F:Tab w) (ak:bs.length<=1048576):
  Calls Tryz.prog 22 #[v] w fun e w'=>∃D,e= .returned D∧w'.ownsRow w.heap.size 21 1 D (decs bs).length (ints .i32 (decs bs))∧Below w.heap.size w w':=by
 obtain⟨G,hi,H,I,J⟩:=xM Tryz.infoE
 rcases ae with ⟨ao,cap,rfl,rfl⟩ | ⟨b,off,cap,rfl,⟨af,ag,K⟩,l⟩
 ·go_enter Tryz.func22,Tryz.ntmps22
  go_wp2_with (at_make;refine wpList_make_own _ rfl _ _ 25 rfl w.heap.size 21 G (.int .i32 0) 1 Tryz.underlying25 hi H I .i64 .i64 _ 0 rfl rfl (by omega) (by rw [J];omega) (by unfold maxLen;omega) lR ?_;intro w1 a f)
  have g:=qG a;clear a;refine xY 1 ?_;rw [xu];go_wp2;go_ret
  exact⟨_,rfl,by rw [jX];exact g.out,(qO _ _).grown f lR (fun k c=>by cases c)⟩
 ·have M:b<w.heap.size:=xD w _ (l 0 af)
  have N:=qG (fun(W:World) (ab:Below w.heap.size w W) (k:Nat) (c:k<bs.length)=>zF3 (w:=W) (k:=k) (fun i hi=>(ab.cell (p:=⟨b,off+i,none⟩) M).trans (l i hi)) c ag K)
  have t:=qG E;have O:=qG (ju bs);unfold maxLen at K;have P:=qG F;clear l E F;go_enter Tryz.func22,Tryz.ntmps22
  go_wp2_with (at_make;refine wpList_make_own _ rfl _ _ 25 rfl w.heap.size 21 G (.int .i32 0) 1 Tryz.underlying25 hi H I .i64 .i64 _ bs.length rfl rfl (by omega) (by rw [J];omega) (by unfold maxLen;omega) lR ?_;intro aj a f)
  have g:=qG a
  have Q:=qG ((qO w.heap.size w).grown f lR (fun k c=>by cases c))
  clear a f
  go_loopw [3,4] (fun ac i wr=>∃ (k:Nat) (xs:List Int),k<=bs.length∧i= .int .i64 k∧decs bs=xs++decs (bs.drop k)∧wr.ownsRow w.heap.size 21 1 ac xs.length (ints .i32 xs)∧Below w.heap.size w wr)
   (fun _ i _=>bs.length - (intOf i).toNat)
  case atStart=>exact⟨0,[],xP _,rfl,by simp,by simpa [ints]using g.out,Q.out⟩
  case round=>
   obtain⟨k,xs,c,rfl,n,a,o⟩:=hrel;have h:=qG n;have u:=qG a;have d:=qG o;have R:=o.size
   have ah:xs.length<=1048576:=by have S:=O.out;rw [n,qM]at S;omega
   clear n a o
   by_cases C:k<bs.length
   ·have ai:¬cap=k:=by omega
    obtain⟨L,al,am⟩:=Kt h.out C
    have j:bs.drop k≠ []:=by intro e;have:=kO List.length e;simp at this;omega
    obtain⟨an,ap⟩:=zF4 (ZW t.out k) j
    have x:=qG (readRune (bs.drop k) _ wr (N.out wr d.out k C) (ZW t.out k) (Kq P.out d.out lR) j (by rw [qS];omega))
    have T:=qG L;clear L j;generalize (step (bs.drop k)).1=r at *;generalize (step (bs.drop k)).2=m at *;go_wp2_with fail;refine x.out.mono ?_;rintro e w1 ⟨rfl,s⟩;have y:=qG (zA u.out s lR);have z:=qG (d.out.trans (s.mono R));have U:=z.out.size;clear s x
    go_wp2_with (at_builtin;refine a25 _ rfl _ _ rfl w.heap.size _ _ _ rfl (y.out.alloc _) ⟨w1.heap.size,0,none⟩ 1 1 [.int .i32 r] rfl rfl (zL w1 21 [.int .i32 r]) (zF .i32 [r]) (by unfold maxLen;omega) (by omega) (by simp;omega) ?_;intro Z aa A B _)
    have V:=qG ((z.out.alloc U _).grown B (by simp;omega) (fun q ad=>(y.out.lt q ad).1))
    have X:=qG (show aa.ownsRow w.heap.size 21 1 Z (xs++ [r]).length (ints .i32 (xs++ [r]))by
     rw [qM,zZ];exact A)
    clear A B;go_wp2;go_roundw
    case rel=>exact⟨k+m,xs++ [r],by omega,by go_num,T.out,X.out,V.out⟩
    case measure=>simp [intOf];omega
   ·obtain rfl:k=bs.length:=by omega
    have Y:=qG (show decs bs=xs by rw [h.out,List.drop_length,jX,kA])
    clear h;go_wp2;go_ret
    exact⟨_,rfl,by rw [Y.out];exact u.out,d.out⟩
end Go.Proofs.YtljdnoinennfaaaGreatDoor
