import Derived.Test.YtljdnoinennfaaaGreatDoorMq18
import Derived.Test.YtljdnoinennfaaaGreatDoorMq26
import Derived.Deep.AppendLies
set_option linter.all false
set_option maxRecDepth 100000
set_option maxHeartbeats 8000000
namespace Go.Proofs.YtljdnoinennfaaaGreatDoor
open Go Go.RowKit
theorem cpTreeL (xs:List It) (v:Value) (B:Nat) (w:World) (c:OwI w B v xs) (H:xs.length<=1048576):
  Calls Tryz.prog 59 #[.agg #[v]] w fun e w'=>∃o,e= .returned (.agg #[o])∧OwI w' w.heap.size o xs∧Below w.heap.size w w':=by
 have s:=qG c
 rcases c.shape with ⟨rfl,rfl⟩ | ⟨g,cap,rfl,I,D,J,K⟩
 ·clear c
  go_enter Tryz.func59,Tryz.ntmps59;go_wp2_with fail
  refine xr (v:=.agg #[.slice (qK (w.heap.size+1+1) 0) 0 0]) (by simp [results,Tryz.results59,go_sem]) rfl ⟨_,rfl,?_,((((qO _ _).alloc lR _).alloc (by simp) _).alloc (by simp;omega) _)⟩
  exact⟨rfl,.inr ⟨_,0,#[],rfl,by omega,by have:=xm ((w.alloc (.cells #[.slice none 0 0] 28)).alloc (.cells #[.slice (qK (w.heap.size+1+1) 0) 0 0] 28)) (.cells #[] 71);simpa using this,lR,by unfold maxLen;omega,rfl,rfl⟩⟩
 ·unfold maxLen at D
  clear c
  have t:=qG ((((qO w.heap.size w).alloc lR (.cells #[.slice (qK g 0) xs.length cap] 28)).alloc (by simp) (.cells #[.slice none 0 0] 28)).alloc (by simp;omega) (.cells #[] 71))
  have i:(((w.alloc (.cells #[.slice (qK g 0) xs.length cap] 28)).alloc (.cells #[.slice none 0 0] 28)).alloc (.cells #[] 71)).heap[w.heap.size+1]? =some (.cells #[.slice none 0 0] 28 (0,0)):=by
   rw [vP _ _ _ (by simp)]
   have:=xm (w.alloc (.cells #[.slice (qK g 0) xs.length cap] 28)) (.cells #[.slice none 0 0] 28);simpa using this
  have j:(((w.alloc (.cells #[.slice (qK g 0) xs.length cap] 28)).alloc (.cells #[.slice none 0 0] 28)).alloc (.cells #[] 71)).heap[w.heap.size+1+1]? =some (.cells #[] 71 (0,0)):=by
   have:=xm ((w.alloc (.cells #[.slice (qK g 0) xs.length cap] 28)).alloc (.cells #[.slice none 0 0] 28)) (.cells #[] 71);simpa using this
  have d:=qG (show(((w.alloc (.cells #[.slice (qK g 0) xs.length cap] 28)).alloc (.cells #[.slice none 0 0] 28)).alloc (.cells #[] 71)).ownsRow w.heap.size 71 4 (.slice (qK (w.heap.size+1+1) 0) 0 0) 0 []from⟨rfl,.inr ⟨_,0,#[],rfl,by omega,j,lR,by unfold maxLen;omega,rfl,rfl⟩⟩)
  have RC:=qG (OwI.cells (show OwI (((w.alloc (.cells #[.slice (qK g 0) xs.length cap] 28)).alloc (.cells #[.slice none 0 0] 28)).alloc (.cells #[] 71)) B (.slice (qK g 0) xs.length cap) xs from((vL s _).alloc _).alloc _))
  have E:(((w.alloc (.cells #[.slice (qK g 0) xs.length cap] 28)).alloc (.cells #[.slice none 0 0] 28)).alloc (.cells #[] 71)).heap.size=w.heap.size+3:=by simp
  have l:=qG i;clear i j;go_enter Tryz.func59,Tryz.ntmps59
  go_wp2_with (at_builtin;refine a26 _ rfl _ _ rfl w.heap.size _ _ _ rfl (by exact d) ⟨g,0,none⟩ xs.length cap (itVs xs) rfl (zH xs) (by exact RC) (zU xs) (by unfold maxLen;omega) (by omega) (by omega) ?_;intro G b f h _;have u:=qG (t.trans ((qO w.heap.size _).grown h (by omega) (zBc d)));have a:=(h.block (w.heap.size+1) (by omega) (Yj d l (by decide))).trans l;have x:b.cell? ⟨w.heap.size+1,0,none⟩=some (.slice none 0 0):=(by rw [qQ b _ 0 _ _ _ a];rfl);have F:=xo b (w.heap.size+1) 0 _ _ a;have y:=qG a;have z:=qG f;obtain⟨p,q,r,rfl⟩:=own_sl f;clear f h a)
  refine xr (v:=.agg #[.slice p q r]) (by simp [results,Tryz.results59,go_sem,x]) rfl ⟨_,rfl,?_,u.setCell (by simp) _⟩
  have m:OwI b w.heap.size (.slice p q r) xs:=by
   have n:=z;rw [xN,xJ]at n;exact n
  refine zB m fun k C=>xn _ _ _ _ (fun e=>?_)
  have A:k=w.heap.size+1:=e;subst A
  exact Yj m y (by decide) C.symm
theorem Tryz.info64T:(Tryz.prog.info? 3).map (fun i=>(i.zero,i.size,i.bytes))=some (some (qJ 0),1,8):=by kernel_rfl
theorem allS (gs:List Gr) (ae:List Int) (h j:Value) (lo hi:Nat) (w:World) (K:OwL w lo hi h j gs ae) (bp:hi<=w.heap.size) (bq:gs.length<=8193) (br:1<=gs.length) (af:∀x∈gs,gkP x.cells x.lo x.hi) (J:smL (gs.map grT)+gs.length<=4194304):
  Calls Tryz.prog 52 #[.agg #[h,j]] w fun e w'=>∃I,e= .returned I∧I≠ .slice none 0 0∧o64 w' w.heap.size I (stL (gs.map grT))∧Below w.heap.size w w':=by
 obtain⟨b,z⟩:∃b,b=gs.map grT:=⟨_,rfl⟩
 have ag:=qG (((qO w.heap.size w).alloc lR (.cells #[h,j] 36)).alloc (by simp) (.cells #[] 3))
 have N:=qG (zD (base':=w.heap.size) (zC0 (w.alloc (.cells #[h,j] 36)) 3) (by simp))
 have O:(w.alloc (.cells #[h,j] 36)).heap.size=w.heap.size+1:=by simp
 rw [O]at N
 have bf:((w.alloc (.cells #[h,j] 36)).alloc (.cells #[] 3)).heap.size=w.heap.size+2:=by simp
 obtain⟨bs,a4,a5,a6,rfl,rfl⟩:=K.val;obtain⟨a7,B⟩:=K.rows
 rcases B.row.2 with ⟨_,q⟩ | ⟨a8,cap,bt,q,_,_,bu,a9,_⟩
 ·omega
 simp only [xF,kJ]at q;obtain⟨rfl,rfl⟩:=q
 have F:=qG (fun(w':World) (J:Below w.heap.size w w')=>B.frame (w':=w') (fun q _ ac=>J.block q (by omega)))
 have ah:=qG (fun(k:Nat) (v:k<gs.length)=>(show ∃x u,gs[k]? =some x∧a7[k]? =some u∧b[k]? =some (grT x)∧gkP x.cells x.lo x.hi from by
  obtain⟨x,u,c,r⟩:=B.get v
  exact⟨x,u,c,r,by rw [z];simp [c],af x (xg c)⟩))
 rw [<- z]at J |-
 have P:b.length=gs.length:=by rw [z,xL]
 have ai:=qG (fun k (v:k<b.length)=>jT (ls:=b) (i:=k) v)
 have aj:=qG (fun k l (y:b[k]? =some l)=>jS (ls:=b) (i:=k) y)
 have ak:=qG (fun k=>yr b k)
 have Q:=qG (jG b);generalize ab:gs.length=n at *;generalize ae.length=m at *;have al:=qG ab;have E:=qG P;unfold maxLen at a9;clear K B af z O P ab;go_enter Tryz.func52,Tryz.ntmps52;go_wp2_with fail;generalize (w.alloc (.cells #[.slice (some ⟨a8,0,none⟩) n a4,.slice a5 m a6] 36)).alloc (.cells #[] 3)=bo at *
 go_loopw [3,4,11] (fun ad a i wr=>∃k:Nat,k<=n∧i= .int .i64 k∧a= .int .i64 ((smL (b.take k)+k:Nat):Int)∧ad≠ .slice none 0 0∧Below w.heap.size w wr∧w.heap.size+1<=wr.heap.size∧wr.ownsRow w.heap.size 3 1 ad k (ints .i64 ((stL b).take k)))
  (fun _ _ i _=>n - (intOf i).toNat)
 case atStart=>exact⟨0,xP _,rfl,by simp [smL],by simp,ag.out,by omega,by simpa [ints]using N.out⟩
 case round=>
  obtain⟨k,v,rfl,rfl,L,C,bv,D⟩:=hrel;have G:=qG C;have s:=qG D;have R:=qG L;obtain⟨ao,bw,rfl⟩:=Yq D;have bg:=ak.out k
  by_cases aa:k<n
  ·obtain⟨x,u,c,r,y,M⟩:=ah.out k aa
   have H:=F.out wr C;obtain⟨bx,bz,b0⟩:=H.cells al.out c r;obtain⟨o,p,ba⟩:=y9 (H.inner c r);have hgt:=YE M
   have bh:0<=x.lo∧x.lo<=x.hi∧x.hi<=x.cells.length:=by
    obtain⟨⟨_,⟨_,bc⟩,⟨bd,be⟩,_⟩,_⟩:=M;exact⟨bd,be,bc⟩
   have S:=aj.out k _ y
   have am:=qG (ai.out k (by rw [E.out];exact aa))
   have T:((smL (b.take k)+k:Nat):Int)+((x.cells.length:Int) - (x.hi - x.lo)+1)=((smL (b.take (k+1))+(k+1):Nat):Int):=by rw [S];omega
   have an:=qG T;generalize bk:smL (b.take k)+k=A at *;generalize bl:x.cells.length=d at *;generalize bm:x.lo=f at *;generalize bn:x.hi=g at *
   have bi:A<=4194304:=by omega
   have ap:(k:Int)<n:=by omega
   have aq:=G.out.size;have bj:=hgt.2.2;subst ba;clear D C H c r y M L S T;have U:=qG ((qO wr.heap.size wr).alloc lR (.cells #[.slice o d p,.int .i64 f,.int .i64 g] 91));have ar:=qG (Q3.new wr (.slice o d p) (.int .i64 f) (.int .i64 g) 91)
   have au:(wr.alloc (.cells #[.slice o d p,.int .i64 f,.int .i64 g] 91)).heap.size=wr.heap.size+1:=by simp
   have V:=qG (zA s.out U.out lR);have av:=qG (G.out.trans (U.out.mono aq));have W:=qG (zL (wr.alloc (.cells #[.slice o d p,.int .i64 f,.int .i64 g] 91)) 3 [.int .i64 (A:Int)]);rw [au]at W
   go_upto_region 7 with (at_builtin;refine a34 _ rfl _ _ rfl w.heap.size _ _ _ rfl (V.out.alloc _) ⟨wr.heap.size+1,0,none⟩ 1 1 [.int .i64 (A:Int)] rfl rfl W.out (zF .i64 [(A:Int)]) (by unfold maxLen;omega) (by omega) (by simp;omega) ?_;intro a2 a3 Y t Z)
   have aw:=qG (show a2≠ .slice none 0 0 from fun e=>R.out (Z.1 e).1)
   have X:=((qO w.heap.size (wr.alloc (.cells #[.slice o d p,.int .i64 f,.int .i64 g] 91))).alloc (by omega) (.cells #[.int .i64 (A:Int)] 3)).grown t (by simp;omega) (fun q ac=>(V.out.lt q ac).1)
   have ax:=qG (av.out.trans X);have ay:=t.size;simp at ay
   have az:=qG (show Q3 a3 wr.heap.size (.slice o d p) (.int .i64 f) (.int .i64 g) 91 from by
    refine((t.block wr.heap.size (by simp;omega) (fun e=>?_)).trans (vP _ _ _ (by simp))).trans ar.out
    have:=(s.out.lt wr.heap.size e.symm).2
    omega)
   have a0:=qG Y;clear Y t Z X;obtain⟨b1,b2,b3⟩:=az.out.c;go_wp2;go_roundw
   case rel=>
    refine⟨k+1,by omega,by go_num,by rw [<- an.out],aw.out,ax.out,by omega,?_⟩
    rw [am.out,zZ];exact a0.out
   case measure=>simp [intOf];omega
  ·obtain rfl:k=n:=by omega
   have ap:¬ (k:Int)<k:=by omega
   have a1:(stL b).take k=stL b:=xE (by rw [Q.out,E.out];exact lR)
   rw [a1]at s;clear D C L;go_wp2;go_ret;refine⟨_,rfl,R.out,?_,G.out⟩;unfold o64;rw [Q.out,E.out];exact s.out
end Go.Proofs.YtljdnoinennfaaaGreatDoor
namespace Go.Proofs.YtljdnoinennfaaaGreatDoor
open Go Go.RowKit Go.Proofs.Tryz
theorem brk_pos {zs:List Int}:0<brk zs↔10∈zs:=by
 unfold brk;constructor
 ·intro b
  have:0<(zs.filter fun z=>z==10).length:=by omega
  obtain⟨z,a⟩:=List.exists_mem_of_length_pos this;rw [List.mem_filter]at a
  have:z=10:=by simpa using a.2
  rw [<- this];exact a.1
 ·intro b
  have:10∈zs.filter fun z=>z==10:=by rw [List.mem_filter];exact⟨b,by simp⟩
  have:=List.length_pos_of_mem this;omega
theorem zDk (c d:Option Addr) (n f m g:Nat) (w:World) (b:¬ (1<=n∧n<=8193∧1<=m∧m<=n)) (l:n<=1048576) (o:m<=1048576):
  Calls prog 17 #[.agg #[.slice c n f,.slice d m g]] w fun e w'=>e= .returned (.bool false)∧Below w.heap.size w w':=by
 have a:=qG ((qO w.heap.size w).alloc lR (.cells #[.slice c n f,.slice d m g] 36))
 by_cases i:(n:Int)<1
 ·clear b
  go_enter func17,ntmps17;go_wp2;go_ret;exact⟨rfl,a⟩
 by_cases j:(8193:Int)<n
 ·clear b
  go_enter func17,ntmps17;go_wp2;go_ret;exact⟨rfl,a⟩
 by_cases k:(m:Int)<1
 ·clear b
  go_enter func17,ntmps17;go_wp2;go_ret;exact⟨rfl,a⟩
 ·have h:(n:Int)<m:=by omega
  clear b;go_enter func17,ntmps17;go_wp2;go_ret;exact⟨rfl,a⟩
theorem zGf (gs:List Gr) (d:List Int) (T U:Value) (lo hi:Nat) (b:Bool) (w:World) (aq:b=true↔LV gs d) (a:OwL w lo hi T U gs d) (ar:hi<=w.heap.size) (L:1<=gs.length∧gs.length<=8193∧1<=d.length∧d.length<=gs.length) (bn:∀x∈gs,x.cells.length<=1048576) (ae:(∀x∈gs,gkP x.cells x.lo x.hi)->smL (gs.map grT)+gs.length<=4194304):
  Calls prog 17 #[.agg #[T,U]] w fun e w'=>e= .returned (.bool b)∧Below w.heap.size w w':=by
 have bu:=qG ((qO w.heap.size w).alloc lR (.cells #[T,U] 36));have bv:=qG (D2.new w T U 36)
 have df:(w.alloc (.cells #[T,U] 36)).heap.size=w.heap.size+1:=by simp
 have dg:=qG a;obtain⟨dx,au,av,aw,rfl,rfl⟩:=a.val;obtain⟨dy,af⟩:=a.rows
 rcases af.row.2 with ⟨_,q⟩ | ⟨ax,cap,dz,q,_,_,d0,c0,_⟩
 ·omega
 simp only [xF,kJ]at q;obtain⟨rfl,rfl⟩:=q
 have F:=qG (fun(w':World) (cw:Below w.heap.size w w')=>af.frame (w':=w') (fun q _ dw=>cw.block q (by omega)))
 have a1:=qG (fun(k:Nat) (K:k<gs.length)=>af.get (i:=k) K)
 have a2:=qG (fun(i:Nat) (x:Gr) (c:gs[i]? =some x)=>bn x (xg c))
 have a3:=qG (fun(W:World) (f:Below w.heap.size w W) (o:∀x∈gs,gkP x.cells x.lo x.hi)=>Kh gs d (.slice (qK ax 0) gs.length au) (.slice av d.length aw) lo hi W (a.below f ar) (by have:=f.size;omega) L.2.1 L.1 o (ae o))
 have a4:=qG (fun(W:World) (f:Below w.heap.size w W) (o:∀x∈gs,gkP x.cells x.lo x.hi)=>allS gs d (.slice (qK ax 0) gs.length au) (.slice av d.length aw) lo hi W (a.below f ar) (by have:=f.size;omega) L.2.1 L.1 o (ae o))
 have bw:=qG (fun(W:World) (f:Below w.heap.size w W)=>(a.below f ar).starts)
 have ag:=qG aq;have bx:=qG L;have a5:=qG ae
 have ah:=qG (show(stL (gs.map grT)).length=gs.length by rw [jG,xL])
 have a6:=qG (fun(k:Nat) (x:Gr) (c:gs[k]? =some x) (cx:¬okG x)=>(show b=false from by
  cases b
  ·rfl
  ·exact absurd ((aq.1 rfl).2.1 x (xg c)) cx))
 generalize bi:gs.length=n at *;generalize bj:d.length=m at *;obtain⟨d1,d2,d3,d4⟩:=L;have O:=qG bi;have V:=qG bj
 have dh:¬ (n:Int)<1:=by omega
 have di:¬ (8193:Int)<n:=by omega
 have dj:¬ (m:Int)<1:=by omega
 have dk:¬ (n:Int)<m:=by omega
 unfold maxLen at c0;clear a af bn ae aq bi bj;go_enter func17,ntmps17;go_wp2_with fail;generalize w.alloc (.cells #[.slice (qK ax 0) n au,.slice av m aw] 36)=bm at *
 go_loopw [36] (fun i wr=>∃k:Nat,k<=n∧i=qJ k∧(∀x∈gs.take k,okG x)∧Below bm.heap.size bm wr) (fun i _=>n - (intOf i).toNat)
 case atStart=>exact⟨0,xP _,rfl,fun x c=>by simp at c,qO _ _⟩
 case round=>
  obtain⟨k,K,rfl,o,G⟩:=hrel;have bz:=qG G;have dl:=G.size
  have t:=bu.trans (G.mono (by omega))
  have ai:=qG t;have X:=qG o
  by_cases co:k<n
  ·obtain⟨x,u,c,M⟩:=a1 k co
   have Y:=F wr t;obtain⟨d5,c1,c2⟩:=Y.cells O c M;obtain⟨C,D,bo⟩:=y9 (Y.inner c M);have b0:=a2 k x c
   have H:=qG (fun(W:World) (f:Below w.heap.size w W)=>l3ValidN x.cells u x.lo x.hi W (Gs.qd ((F W f).inner c M)) b0)
   have a7:=qG (a6 k x c)
   have b1:=qG (show gs.take (k+1)=gs.take k++ [x]by rw [vY,c];rfl)
   have b2:(k:Int)<n:=by omega
   have aj:=t.size
   by_cases B:gkP x.cells x.lo x.hi
   ·simp only [show(@decide (gok x.cells x.lo x.hi) (Classical.propDecidable _))=true by simpa using gkP_gok.1 B]at H
    obtain⟨h,l,ay,az,bp⟩:=zEz (gkP_gok.1 B)
    have a8:grT x=gtext x.cells h l:=by unfold grT;rw [ay,az];simp
    have I:=qG (fun(W:World) (f:Below w.heap.size w W)=>zF2 x.cells u h l W (Gs.qd ((F W f).inner c M)) bp)
    rw [<- a8]at I;have hgt:=(YE B).2.1
    have b3:=qG (fun(v:Value) (W:World) cy=>XQ (grT x) v W cy (by omega))
    have a9:=qG (show okG x↔¬0<brk (grT x)by rw [brk_pos];exact⟨fun a=>a.2,fun a=>⟨B,a⟩⟩)
    have dm:=zCo (grT x);rw [ay]at c1 H;rw [az]at c2 H;generalize cp:grT x=cs at *;generalize bk:x.cells.length=p at *;generalize cq:brk cs=ct at *;subst bo;clear G t o Y c M B ay az bp a8 bk cp cq;have Z:=qG ((qO wr.heap.size wr).alloc lR (.cells #[.slice C p D,qJ h,qJ l] 91));have aa:=qG (Q3.new wr (.slice C p D) (qJ h) (qJ l) 91)
    have b4:(wr.alloc (.cells #[.slice C p D,qJ h,qJ l] 91)).heap.size=wr.heap.size+1:=by simp
    have P:=qG (ai.trans (Z.mono aj))
    have b5:=qG (bz.trans (Z.mono (by omega)))
    go_upto_region 6 with fail
    generalize wr.alloc (.cells #[.slice C p D,qJ h,qJ l] 91)=cu at *;obtain⟨c3,c4,c5⟩:=aa.c;go_wp2_with fail;refine(H _ P).mono ?_;rintro e c6 ⟨rfl,g⟩;have b6:=g.size
    have A:=qG (P.trans (g.mono (by omega)))
    have b7:=qG (b5.trans (g.mono (by omega)))
    have ba:=aa.below g (by omega)
    obtain⟨d6,d7,d8⟩:=ba.c;clear g ba;go_wp2_with fail;refine(I _ A).mono ?_;rintro e c7 ⟨c8,rfl,c9,r,s⟩;have b8:=s.size
    have Q:=qG (A.trans (s.mono (by omega)))
    have b9:=qG (b7.trans (s.mono (by omega)))
    have bc:=qG (b3 c8 c7 (Rd.qd r));obtain⟨d9,ea,da⟩:=Yq r;subst da;clear s r c9
    by_cases dt:0<ct
    ·obtain rfl:b=false:=a7 (fun K=>by have:=a9.1 K;omega)
     go_wp2_with fail;refine bc.mono ?_;rintro e db ⟨rfl,a0⟩;have ak:=a0.symm;subst ak;go_wp2;go_ret;exact⟨rfl,Q⟩
    ·have ca:=qG (a9.2 (by omega))
     go_wp2_with fail;refine bc.mono ?_;rintro e db ⟨rfl,a0⟩;have ak:=a0.symm;subst ak;go_wp2;go_roundw
     case rel=>
      refine⟨k+1,by omega,by go_num,?_,b9⟩
      intro y ad;rw [b1.out]at ad
      rcases xv.1 ad with q | q
      ·exact X y q
      ·simp at q;rw [q];exact ca
     case measure=>simp [intOf];omega
   ·simp only [show(@decide (gok x.cells x.lo x.hi) (Classical.propDecidable _))=false by simpa using fun a=>B (gkP_gok.2 a)]at H
    obtain rfl:b=false:=a7 (fun K=>B K.1)
    generalize du:x.lo=h at *;generalize dv:x.hi=l at *;generalize bk:x.cells.length=p at *;subst bo;clear G t o Y c M B;have Z:=qG ((qO wr.heap.size wr).alloc lR (.cells #[.slice C p D,qJ h,qJ l] 91));have aa:=qG (Q3.new wr (.slice C p D) (qJ h) (qJ l) 91);have P:=qG (ai.trans (Z.mono aj))
    have b4:(wr.alloc (.cells #[.slice C p D,qJ h,qJ l] 91)).heap.size=wr.heap.size+1:=by simp
    go_upto_region 6 with fail
    generalize wr.alloc (.cells #[.slice C p D,qJ h,qJ l] 91)=cu at *;obtain⟨c3,c4,c5⟩:=aa.c;go_wp2_with fail;refine(H _ P).mono ?_;rintro e c6 ⟨rfl,g⟩
    have A:=qG (P.trans (g.mono (by omega)))
    clear g;go_wp2;go_ret;exact⟨rfl,A⟩
  ·obtain rfl:k=n:=by omega
   have b2:¬ (k:Int)<k:=by omega
   rw [xE (by rw [O.out];exact lR)]at X
   have ab:=qG (fun x (c:x∈gs)=>(X x c).1)
   have al:=qG (bv.below G (by omega))
   have cb:=al.c.1;have cc:=al.c.2;have I:=qG (a3 wr t ab);have bd:=a5 ab
   have am:=qG (fun(W:World) f=>a4 W f ab)
   have aj:=t.size
   have ac:=qG (show LV gs d↔(jn (gs.map grT)).length<=8192∧d=(stL (gs.map grT)).take m from by
    unfold LV;rw [O.out,V.out]
    exact⟨fun a=>a.2.2,fun a=>⟨bx,X,a.1,a.2⟩⟩)
   obtain⟨E,N⟩:∃E,E=gs.map grT:=⟨_,rfl⟩;rw [<- N]at I ac ah;simp only [<- N]at am;generalize cr:stL E=J at *
   have dn:(jn E).length<=8400000:=by
    have:=jM (ls:=E) (by rw [N];intro e;have:=kO List.length e;rw [xL,O.out]at this;simp at this;omega)
    rw [<- N]at bd
    have be:E.length=k:=by rw [N,xL,O.out]
    omega
   generalize bl:(jn E).length=ap at *;have cd:=qG bl;clear G t o a3 a4 F a1 a2 N bd cr bl a6 ab a5;go_wp2_with fail;refine I.mono ?_;rintro e dc ⟨eb,rfl,bq,g⟩;obtain⟨ec,ed,br⟩:=y9 bq;rw [cd.out]at br;subst br;have b6:=g.size
   have A:=qG (ai.trans (g.mono (by omega)))
   have an:=qG (al.below g (by omega))
   have dp:=an.c.1;have dq:=an.c.2;clear bq g I cb cc
   by_cases bh:ap<=8192
   ·have ce:¬ (8192:Int)<ap:=by omega
    have bf:=qG (am dc A);go_wp2_with fail;refine bf.mono ?_;rintro e bs ⟨ee,rfl,bt,r,s⟩;have b8:=s.size
    have Q:=qG (A.trans (s.mono (by omega)))
    have cf:=qG (an.below s (by omega))
    have dr:=cf.c.2;have R:=bw bs Q;unfold o64 at r R;rw [ah.out]at r;rw [V.out]at R
    rcases r.2 with ⟨q,_⟩ | ⟨ef,eg,eh,q,_,_,ei,dd,_⟩
    ·exact absurd q bt
    subst q
    rcases R.2 with ⟨_,q⟩ | ⟨ej,ek,el,q,_,_,em,de,_⟩
    ·omega
    simp only [xF,kJ]at q;obtain⟨rfl,rfl⟩:=q
    have cg:=qG (fun i hi=>yh r i hi)
    have ch:=qG (fun i hi=>yh R i hi)
    have ci:=qG (fun(i:Nat) (a:d.take i=J.take i) (hi:i<m) e=>Ke a (by rw [V.out];exact hi) (by rw [ah.out];omega) e)
    have cj:=qG (fun(a:d.take m=J.take m)=>(show b=true from ag.2 (ac.2 ⟨bh,by rw [<- a,xE (by rw [V.out];exact lR)]⟩)))
    have ck:=qG (fun(i:Nat) (hi:i<m) (a:d.getD i 0≠J.getD i 0)=>(show b=false from by
     cases b
     ·rfl
     ·exfalso
      have be:=(ac.1 (ag.1 rfl)).2;apply a;rw [be];simp only [qW,xO]
      rw [xj hi]))
    unfold maxLen at dd de;clear r s bt R am bf;go_wp2_with fail
    go_loopw [59] (fun i cz=>∃j:Nat,j<=m∧i=qJ j∧d.take j=J.take j∧cz=bs) (fun i _=>m - (intOf i).toNat)
    case atStart=>exact⟨0,xP _,rfl,by simp,rfl⟩
    case round=>
     obtain⟨j,en,rfl,ht,rfl⟩:=hrel;have bg:=qG ht;clear ht
     by_cases ao:j<m
     ·have c:=cg j (by omega)
      have ad:=ch j ao
      have cl:(j:Int)<m:=by omega
      have ds:(j:Int)<k:=by omega
      by_cases S:d.getD j 0=J.getD j 0
      ·have cm:=qG (ci j bg ao S)
       rw [<- S]at c;generalize d.getD j 0=z at c ad
       have cn:(z != z)=false:=by simp
       clear S;go_wp2;go_roundw
       case rel=>exact⟨j+1,by omega,by go_num,cm,by first | rfl | trivial⟩
       case measure=>simp [intOf];omega
      ·obtain rfl:b=false:=ck j ao S
       generalize d.getD j 0=z at *;generalize J.getD j 0=cv at *
       have cn:(z != cv)=true:=by simpa using S
       go_wp2;go_ret;exact⟨rfl,Q⟩
     ·obtain rfl:j=m:=by omega
      obtain rfl:b=true:=cj bg
      have cl:¬ (j:Int)<j:=by omega
      go_wp2;go_ret;exact⟨rfl,Q⟩
   ·have ce:(8192:Int)<ap:=by omega
    obtain rfl:b=false:=by
     cases b
     ·rfl
     ·exact absurd (ac.1 (ag.1 rfl)).1 bh
    go_wp2;go_ret;exact⟨rfl,A⟩
end Go.Proofs.YtljdnoinennfaaaGreatDoor
namespace Go.Proofs.YtljdnoinennfaaaGreatDoor
open Go Go.RowKit
theorem validC (gs:List Gr) (a:List Int) (d f:Value) (lo hi:Nat) (b:Bool) (w:World) (g:b=true↔LV gs a) (h:OwL w lo hi d f gs a) (i:hi<=w.heap.size) (j:gs.length<=1048576) (hst:a.length<=1048576) (k:∀x∈gs,x.cells.length<=1048576) (l:(∀x∈gs,gkP x.cells x.lo x.hi)->smL (gs.map grT)+gs.length<=4194304):
  Calls Tryz.prog 17 #[.agg #[d,f]] w fun e w'=>e= .returned (.bool b)∧Below w.heap.size w w':=by
 by_cases c:1<=gs.length∧gs.length<=8193∧1<=a.length∧a.length<=gs.length
 ·exact zGf gs a d f lo hi b w g h i c k l
 ·obtain⟨m,n,o,p,rfl,rfl⟩:=h.val
  obtain rfl:b=false:=by
   cases b
   ·rfl
   ·exact absurd (g.1 rfl).1 c
  exact zDk m o gs.length n a.length p w c j hst
end Go.Proofs.YtljdnoinennfaaaGreatDoor
