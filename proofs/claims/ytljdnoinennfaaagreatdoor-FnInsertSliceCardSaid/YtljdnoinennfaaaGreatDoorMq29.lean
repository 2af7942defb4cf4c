import Derived.Test.YtljdnoinennfaaaGreatDoorMq28
set_option linter.all false
set_option maxRecDepth 100000
set_option maxHeartbeats 8000000
namespace Go.Proofs.YtljdnoinennfaaaGreatDoor
open Go Go.RowKit Go.Shelf Go.Sort
theorem PK.set0 {w:World} {c b o n cap:Nat} {u:Option Addr} (a:PK w c b o n cap u) (d e f g:Nat):PK (w.setCell ⟨c,0,none⟩ (.slice (qK d e) f g)) c d e f g u:=by
 unfold PK at a |-;rw [xB w c 0 _ _ _ a];rfl
def InsPM (w:World) (base c:Nat) (S:List Int) (T:AT) (bs:List Nat) (w':World):Prop:=
 ∃b a g d,PM w' base c g 0 d S T b a∧(∀x∈a,x∈bs∨w.heap.size<=x)∧Chg (c::bs) w w'
theorem insertI (zs ts:List Int) (T:AT) (u:Option Addr) (bs:List Nat) (base c b o cg:Nat) (off:Int) (bm:Addr) (w:World) (t:PM w base c b o zs.length zs T u bs) (bn:T.ok) (ch:T.bal) (ci:T.wp zs) (aj:0<=off) (ak:off<=T.rns) (ei:base<=w.heap.size) (ej:0<ts.length) (ek:T.rns+ts.length<=8192) (el:zs.length+ts.length<=220000)
  (cj:∀j v,(ints .i32 ts)[j]? =some v->w.cell? (bm.add j)=some v):
  Calls Tryz.prog 193 #[.pointer (qK c 0),qJ off,.slice (some bm) ts.length cg] w fun e w'=>e= .returned (.tuple #[])∧InsPM w base c (zs++ts) (insP (zs++ts) zs.length T off) bs w':=by
 obtain⟨dn,dp,dq,dr,dt⟩:=xM Tryz.qv;have U:=qG t;have co:=t.k.c0;have dv:=t.k.fz 0;have bp:=t.k.lt;have dw:=bn.bd;have V:=qG bn;have a1:=qG ch;have bq:(zs++ts).length=zs.length+ts.length:=qM;have ap:=qG (ci.app ts)
 have br:=qG (show ∀j v,(ints .i32 zs)[j]? =some v->w.cell? ((⟨b,o,none⟩:Addr).add j)=some v from(by
  have a:=jJ (o:=0) (l:=zs.length) t.rt
  simpa using a))
 have bt:=qG cj
 have bu:∀x∈bs,x<w.heap.size:=fun x O=>(t.t.lt x O).2
 have bv:=qG (fun(W:World) (v:Value) (dm:W.ownsRow w.heap.size 21 1 v (zs.length+ts.length) (ints .i32 zs++ints .i32 ts))=>show own32 W w.heap.size v (zs++ts)from Zt rfl rfl dm)
 have bw:=qG (show(ints .i32 zs).length=zs.length*1 by rw [zC,vI])
 have bx:=qG (show(ints .i32 ts).length=ts.length*1 by rw [zC,vI])
 have bz:=qG (show insP (zs++ts) zs.length T off=addP (zs++ts) zs.length (cutP (zs++ts) T off) (cutN T off)from rfl)
 generalize dc:zs++ts=S at *;generalize dd:zs.length=n at *;generalize de:ts.length=m at *;generalize df:insP S n T off=Y at *;clear t bn ch ci cj dc dd de df;go_enter Tryz.func193,Tryz.ntmps193
 go_wp2_with (at_builtin;refine wpList_append_grows _ rfl _ _ 25 rfl 21 dn (.int .i32 0) 1 4 Tryz.underlying25 dp dq dr dt rfl (by decide) (qK b o) n n (ints .i32 zs) rfl (by intro t;cases t) bw (by intro x O;cases O;exact br) bm m cg (ints .i32 ts) rfl bx bt (zF _ _) (by omega) (by unfold maxLen;omega) (by omega) ?_;intro ef w1 bj cf;have b0:=qG (bv _ _ bj);rcases bj.2 with ⟨rfl,em⟩ | ⟨g,cp,en,rfl,eo,ck,du,cl,_,_⟩;(exfalso;omega);have aa:=qG ((qO w.heap.size w).grown cf lR (fun q dk=>by cases dk));have cq:=(aa.cell (p:=⟨c,0,none⟩) bp).trans co;have a2:=qG (U.k.below aa bp);have cr:=a2.fz 0;clear bj cf)
 have cs:g<w1.heap.size:=(xU.1 ck).1
 have aq:g≠c:=by omega
 have ct:g∉bs:=fun a=>by have:=bu g a;omega
 have dx:=aa.size;have b1:=qG (a2.set0 g 0 (n+m) cp)
 have a3:=qG ((Chg.qa (bs:=[c]) aa).setCell ⟨c,0,none⟩ (.slice (qK g 0) (n+m) cp) (.inl (by simp)))
 have b2:At32' w1 g 0 S:=yU (base:=w.heap.size) (cap:=cp) (by rw [bq];exact b0)
 have G:=qG (show PM (w1.setCell ⟨c,0,none⟩ (.slice (qK g 0) (n+m) cp)) base c g 0 cp S T u bs from
  ⟨by rw [bq];exact b1,(U.t.below aa lR).other ⟨c,0,none⟩ _ U.cb,U.nd,U.cb,ct,aq,
   fun i hi=>by rw [<- b2 i hi];unfold World.cell?;rw [xn w1 ⟨c,0,none⟩ g _ aq],xz cs (Qc (by simp)),by omega,cl,by omega⟩)
 have dy:=a3.size;have b3:=qG (jZ (S:=S) V aj ak)
 have H:=qG (ZI V ap (by omega) aj ak)
 have cu:=qG (Z9 (S:=S) (off:=off) a1);have a4:=qG (ZH V ap aj ak)
 have b4:=qG (show(cutP S T off).rns=T.rns by rw [AT.qe,Z8 V.out aj ak,<- AT.qe])
 have b5:=qG (fun W (dl:PM W base c g 0 cp S T u bs) bk=>cutI S T u bs base c g 0 cp off W dl V a1 ap aj ak bk)
 have b6:=qG (Yg S c g 0 cp n m _ G.rt G.k.c0 G.lb G.k.lt (by omega) (by omega) G.cap1 G.cap2 (by omega))
 have cv:=Jw ((S.drop n).take m)
 have cw:((S.drop n).take m).length<=m:=by rw [qN];omega
 have cx:=qG (show pcAt S (n:Int) ((S.length:Int) - n)=⟨(n:Int),(m:Int),brk ((S.drop n).take m)⟩from(by
  unfold pcAt
  rw [show((S.length:Int) - n)=(m:Int)by omega,vH,vH]))
 generalize dg:brk ((S.drop n).take m)=k at *
 have cy:0<=k∧k<=8192:=by omega
 have ar:=qG (show Y=addP S n (cutP S T off) (cutN T off)from bz)
 generalize dh:cutP S T off=f at *;generalize di:cutN T off=R at *;have ab:=b3.1;have dz:=H.bd;clear dh di cv cw U V a1 ap br bt bw bx bv bz b3 a2 b1 b2 b0 cq cr ck du cl;generalize w1.setCell ⟨c,0,none⟩ (.slice (qK g 0) (n+m) cp)=eg at *;refine b6.mono ?_;rintro e J ⟨rfl,al⟩;have b7:=qG ((G.below al).below ((qO J.heap.size J).alloc lR (.cells #[qJ (n:Int),qJ (m:Int),qJ k] 69)));have b8:=qG (al.alloc al.size (.cells #[qJ (n:Int),qJ (m:Int),qJ k] 69))
 have b9:=qG (show(J.alloc (.cells #[qJ (n:Int),qJ (m:Int),qJ k] 69)).heap[J.heap.size]? =some (.cells #[qJ (n:Int),qJ (m:Int),qJ k] 69 (0,0))from xm _ _)
 have d0:=al.size
 have ca:J.heap.size<(J.alloc (.cells #[qJ (n:Int),qJ (m:Int),qJ k] 69)).heap.size:=by simp
 clear al b6 G;go_wp2_with fail;generalize J.alloc (.cells #[qJ (n:Int),qJ (m:Int),qJ k] 69)=eh at *;generalize J.heap.size=fb at *
 refine(b5 _ b7 (by omega)).mono ?_
 rintro e s ⟨rfl,u5,B,cm,bo,am⟩;have ac:=qG cm
 have cb:fb∉c::bs:=fun a=>by
  rcases xR.1 a with a | a
  ·omega
  ·have:=bu fb a;omega
 have a5:=qG ((am.block fb ca cb).trans b9);have cc:fb<s.heap.size:=xz ca am.size
 have a6:=qG (((a3.trans (Chg.qa (bs:=[]) b8) (fun x a _=>by simp at a;simp [a]) (fun x a _=>by cases a) (ds:=c::bs)).trans am (fun _ a _=>a) (fun _ a _=>a) (ds:=c::bs)))
 have au:=qG (show ∀x∈B,x∈bs∨w.heap.size<=x from fun x O=>(bo x O).imp id (fun a=>by omega))
 have d1:fb∉B:=fun a=>by
  rcases bo fb a with A | A
  ·exact cb (kn _ A)
  ·omega
 have d2:=am.size;have d3:=a6.size;clear cm bo am b5 b7 b9 b8 a3
 have d4:IntKind.i64.wrap ((R:Int) - 1)=(R:Int) - 1:=i64w _ (by omega) (by omega)
 go_upto_region 4 with fail
 go_cut [40] (fun x wc=>x= .bool (meetB n f R)∧Below s.heap.size s wc)
 case first=>
  have ad:=a5
  have K:s.cell? ⟨fb,0,none⟩=some (qJ (n:Int)):=by rw [qQ s _ 0 _ _ _ ad];rfl
  have L:s.cell? ⟨fb,1,none⟩=some (qJ (m:Int)):=by rw [qQ s _ 1 _ _ _ ad];rfl
  have M:s.cell? ⟨fb,2,none⟩=some (qJ k):=by rw [qQ s _ 2 _ _ _ ad];rfl
  have a7:=fun d os=>cell_regrown K d os
  have a8:=fun d os=>cell_regrown L d os
  have a9:=fun d os=>cell_regrown M d os
  by_cases db:R=0
  ·subst db
   have cz:decide ((0:Int)<((0:Nat):Int))=false:=by simp
   clear K L M ad
   refine wp_region_quiet_below (by kernel_rfl) (by kernel_rfl) ?_
   repeat (quiet_step (fail))
   refine wpQuiet_nil ?_;intro _ P;obtain⟨⟨D,E⟩,Q⟩:=P;subst Q;go_wp2_with fail;go_meet
   exact⟨by simp [meetB],below_regrown s D E⟩
  ·have cz:decide ((0:Int)<(R:Int))=true:=by simp;omega
   have d5:decide (0<R)=true:=by simp;omega
   have d6:0<R:=by omega
   have I:=yS (T:=f) (R:=R) (by omega) ab
   have ba:=H.1 _ (xg I);simp only [pcOk,qZ]at ba
   have X:(((R - 1:Nat)):Int)=(R:Int) - 1:=by omega
   have N:=qG (fun d os=>Calls.regrown_of (w:=s) (d:=d) (os:=os) (pieceN f u5 B base c g 0 S.length cp (R - 1) (ahead f R) (grow (redrawn s d) os) (ac.k.below (below_regrown s d os) ac.k.lt) (ac.t.below (below_regrown s d os) lR) H I))
   have c0:=qG (fun d os=>Calls.regrown_of (w:=s) (d:=d) (os:=os) (meetsN (ahead f R) ⟨(n:Int),(m:Int),k⟩ (grow (redrawn s d) os) (by omega)))
   rw [X]at N
   have c1:=qG (show meetB n f R=decide ((ahead f R).off+(ahead f R).len=(n:Int))by simp only [meetB];congr 1;simp;omega)
   generalize ahead f R=p at *;clear K L M ad I X
   refine wp_region_quiet_below (by kernel_rfl) (by kernel_rfl) ?_
   repeat (quiet_step (first | exact N _ _ | exact c0 _ _))
   refine wpQuiet_nil ?_;intro _ P;obtain⟨⟨D,E⟩,Q⟩:=P;subst Q;go_wp2_with fail;go_meet
   exact⟨by rw [c1.out],below_regrown s D E⟩
 case rest=>
  obtain⟨rfl,Z⟩:=hcut;have z:=qG (ac.below Z);have bc:=qG ((Z.block fb cc).trans a5);have d7:fb<wc.heap.size:=xz cc Z.size
  have ae:=qG (a6.trans (Chg.qa (bs:=[]) Z) (fun _ a _=>a) (fun _ a _=>by cases a) (ds:=c::bs))
  have d8:=Z.size;have d9:=ae.size;clear Z ac a5 a6;have av:=bc
  have K:wc.cell? ⟨fb,0,none⟩=some (qJ (n:Int)):=by rw [qQ wc _ 0 _ _ _ av];rfl
  have L:wc.cell? ⟨fb,1,none⟩=some (qJ (m:Int)):=by rw [qQ wc _ 1 _ _ _ av];rfl
  have M:wc.cell? ⟨fb,2,none⟩=some (qJ k):=by rw [qQ wc _ 2 _ _ _ av];rfl
  have bd:=z.k.c1
  have a7:=fun d os=>cell_regrown K d os
  have a8:=fun d os=>cell_regrown L d os
  have a9:=fun d os=>cell_regrown M d os
  have cd:=fun d os=>cell_regrown bd d os
  clear av
  cases hmb:meetB n f R with
  | true=>
   have be:=hmb;simp only [meetB,qZ]at be;have I:=yS (T:=f) (R:=R) be.1 ab;have c2:=(zW S f).1 a4 _ (xg I);have ba:=H.1 _ (xg I);simp only [pcOk,qZ]at ba
   have X:(((R - 1:Nat)):Int)=(R:Int) - 1:=by omega
   have c3:=qG (show(⟨(ahead f R).off,(ahead f R).len+(m:Int),(ahead f R).brk+k⟩:Pc)=pcAt S (ahead f R).off ((ahead f R).len+((S.length:Int) - n))by
    rw [show((S.length:Int) - n)=(m:Int)by omega,<- zFi c2 be.2 (by omega),vH,vH,dg])
   have af:=qG (show Y=f.put (R - 1) ⟨(ahead f R).off,(ahead f R).len+(m:Int),(ahead f R).brk+k⟩by rw [ar.out,addP,xj hmb,c3.out])
   have bf:=qG (show Y.ok by rw [ar.out];exact zA1 H a4 ab (by omega) (by omega) (by rw [b4.out];omega))
   have N:=qG (fun d os=>CallsIn.regrown_of (F:=Fence.wide) (r:=5) (w:=wc) (d:=d) (os:=os) (vf.2 (pieceN f u5 B base c g 0 S.length cp (R - 1) (ahead f R) (grow (redrawn wc d) os) (z.k.below (below_regrown wc d os) z.k.lt) (z.t.below (below_regrown wc d os) lR) H I)))
   have bg:=qG (fun d os=>CallsIn.regrown_of (F:=Fence.wide) (r:=5) (w:=wc) (d:=d) (os:=os) (vf.2 (withN (ahead f R) ⟨(n:Int),(m:Int),k⟩ (grow (redrawn wc d) os) (by omega) ⟨by simp only;omega,by simp only;omega,cy⟩)))
   rw [X]at N
   have aw:=qG (fun W (bl:Lies W base f u5 B)=>zB5 f (R - 1) ⟨(ahead f R).off,(ahead f R).len+(m:Int),(ahead f R).brk+k⟩ u5 B base W H (by rw [<- af.out];exact bf) (by omega) bl z.nd)
   rw [X]at aw;rw [<- af.out]at aw;generalize ahead f R=p at *;clear K L M bd I hmb X
   go_upto_region 5 with fail
   refine(wpIn_wide (n:=6)).1 ?_
   refine yx 12 (by kernel_rfl) (by kernel_rfl) ?_
   simp only [ki,kT,ku,vZ]
   repeat (refine wpQuietIn_step (fun _ _ _ _=>trivial) (fun ai C=>?_);go_simp;first | (refine C _ ?_;clear C ai) | (apply Exists.intro;refine⟨fun _=>?_,C _ ?_⟩;(first | exact⟨xH,N _ _⟩ | exact N _ _ | exact⟨xH,bg _ _⟩ | exact bg _ _);clear C ai))
   refine wpQuietIn_nil ?_;intro _ P;obtain⟨⟨D,E⟩,Q⟩:=P;subst Q;have ag:=qG (below_regrown wc D E);clear a7 a8 a9 cd N bg;generalize grow (redrawn wc D) E=dj at *;have h:=qG (z.below ag)
   have ah:=qG (ae.trans (Chg.qa (bs:=[]) ag) (fun _ a _=>a) (fun _ a _=>by cases a) (ds:=c::bs))
   clear z ae bc
   gi_wp2_with fail
   refine⟨xH,(vf.2 (aw _ h.t)).mono ?_⟩;rintro e ay ⟨rfl,an,y⟩
   have c4:=qG (show PM ay base c g 0 cp S Y u5 B from⟨h.k.chg y h.cb,an,h.nd,h.cb,h.bb,h.bc,h.rt.chg y h.lb h.bb,xz h.lb y.size,h.cap1,h.cap2,h.n⟩)
   have bh:=qG (ah.trans y (fun _ a _=>a) (fun x a A=>by
    rcases au x a with ao | ao
    ·exact kn _ ao
    ·omega) (ds:=c::bs))
   clear an y h ah aw
   gi_wp2_with fail
   go_wp2
   refine xr (v:=.tuple #[]) (by simp [results,Tryz.results193]) rfl ⟨rfl,u5,B,g,cp,c4,au,bh⟩
  | false=>
   have af:=qG (show Y=f.ins R ⟨(n:Int),(m:Int),k⟩by rw [ar.out,addP,qT (by rw [hmb];simp),cx.out])
   have bf:=qG (show Y.ok by rw [ar.out];exact zA1 H a4 ab (by omega) (by omega) (by rw [b4.out];omega))
   have ax:=qG (fun W (bl:Lies W base f u5 B) (bk:base<=W.heap.size)=>zEg f R ⟨(n:Int),(m:Int),k⟩ u5 B base W cu (by rw [<- af.out];exact bf) ab bl z.nd bk)
   rw [<- af.out]at ax;unfold pcV at ax;clear K L M bd hmb
   go_upto_region 6 with fail
   refine(wpIn_wide (n:=6)).1 ?_
   refine jq 6 (.pointer (qK c 0)) (by kernel_rfl) (by kernel_rfl) (fun _ _ _ t=>t) ⟨Or.inl ⟨by rfl,?_⟩,fun w=>by rfl⟩ ?_
   ·intro w;go_simp
   simp only [ki,kT,ku,vZ]
   repeat (refine wpQuietIn_step (fun _ _ _ _=>trivial) (fun ai C=>?_);go_simp;first | (refine C _ ?_;clear C ai) | (apply Exists.intro;refine⟨fun _=>?_,C _ ?_⟩;(fail);clear C ai))
   refine wpQuietIn_nil ?_;intro _ P;obtain⟨⟨D,E⟩,Q⟩:=P;subst Q;have ag:=qG (below_regrown wc D E);clear a7 a8 a9 cd;generalize grow (redrawn wc D) E=dj at *;have h:=qG (z.below ag)
   have ah:=qG (ae.trans (Chg.qa (bs:=[]) ag) (fun _ a _=>a) (fun _ a _=>by cases a) (ds:=c::bs))
   have ea:=ah.size;clear z ae bc
   gi_wp2_with fail
   refine⟨xH,(vf.2 (ax _ h.t (by omega))).mono ?_⟩
   rintro e ay ⟨u8,az,rfl,an,cn,a0,y⟩
   have c5:=qG (show ∀x∈az,x∈bs∨w.heap.size<=x from fun x O=>by
    rcases a0 x O with a | a
    ·exact au x a
    ·exact .inr (by omega))
   have eb:=h.k.lt;have ec:=h.lb
   have ce:c∉az:=fun a=>by
    rcases a0 c a with A | A
    ·exact h.cb A
    ·omega
   have c6:g∉az:=fun a=>by
    rcases a0 g a with A | A
    ·exact h.bb A
    ·omega
   have bi:=qG (h.k.chg y h.cb);have c7:=qG (h.rt.chg y h.lb h.bb);have c8:g<ay.heap.size:=xz h.lb y.size;have c9:=qG an
   have bh:=qG (ah.trans y (fun _ a _=>a) (fun x a A=>by
    rcases au x a with ao | ao
    ·exact kn _ ao
    ·omega) (ds:=c::bs))
   have da:=qG cn;have ed:=bi.c1;have ee:=bi.fz 1;clear an y cn a0 ax
   gi_wp2_with fail
   go_wp2
   refine Qs (v:=.tuple #[]) (by simp [results,Tryz.results193]) rfl ⟨rfl,u8,az,g,cp,⟨bi.set1 u8,c9.other ⟨c,1,none⟩ (.pointer u8) ce,da,ce,c6,aq,fun i hi=>by rw [<- c7.out i hi];unfold World.cell?;rw [xn ay ⟨c,1,none⟩ g _ aq],xz c8 (Qc (by simp)),h.cap1,h.cap2,h.n⟩,c5,bh.setCell ⟨c,1,none⟩ (.pointer u8) (.inl (by simp))⟩
end Go.Proofs.YtljdnoinennfaaaGreatDoor
namespace Go.Proofs.YtljdnoinennfaaaGreatDoor
open Go Go.RowKit Go.Shelf Go.Sort Go.Proofs.Tryz
theorem zEk (T:AT) (u:Option Addr) (bs:List Nat) (base c b o n cap:Nat) (w:World) (a:PK w c b o n cap u) (ht:Lies w base T u bs):
  Calls prog 57 #[.pointer (qK c 0)] w fun e w'=>e= .returned (qJ T.rns)∧Below w.heap.size w w':=by
 have h:=a.c1;have f:=qG (allN T u bs base w ht);clear a ht;go_enter func57,ntmps57;go_wp2_with fail;refine f.mono ?_;rintro e w1 ⟨rfl,d⟩;have g:=qG d;have i:=Tryz.fld1;unfold cnt;clear d;go_wp2;go_ret;exact⟨rfl,g⟩
def roomV (r:Int) (n:Nat):Int:=if 220000 - (n:Int)<8192 - r then 220000 - (n:Int)else 8192 - r
theorem roomV_le {r:Int} {n m:Nat}:((m:Int)<=roomV r n)↔r+m<=8192∧n+m<=220000:=by
 unfold roomV;split<;>omega
theorem roomN (T:AT) (u:Option Addr) (bs:List Nat) (base c b o n cap:Nat) (w:World) (a:PK w c b o n cap u) (ht:Lies w base T u bs) (f:T.ok) (q:n<=220000):
  Calls prog 195 #[.pointer (qK c 0)] w fun e w'=>e= .returned (qJ (roomV T.rns n))∧Below w.heap.size w w':=by
 have l:=f.bd
 have g:=qG (fun d os=>Calls.regrown_of (w:=w) (d:=d) (os:=os) (zEk T u bs base c b o n cap (grow (redrawn w d) os) (a.below (below_regrown w d os) a.lt) (ht.below (below_regrown w d os) lR)))
 have m:=fun d os=>cell_regrown a.c0 d os
 have w1:IntKind.i64.wrap (8192 - T.rns)=8192 - T.rns:=i64w _ (by omega) (by omega)
 have p:IntKind.i64.wrap (220000 - (n:Int))=220000 - (n:Int):=i64w _ (by omega) (by omega)
 unfold roomV;clear a ht f;generalize T.rns=r at *;go_enter func195,ntmps195
 go_upto_region 1 with fail
 refine wp_region_quiet_below (by kernel_rfl) (by kernel_rfl) ?_
 repeat (quiet_step (first | exact g _ _))
 refine wpQuiet_nil ?_;intro _ h;obtain⟨⟨i,j⟩,k⟩:=h;subst k;go_wp2
 all_goals (go_ret;exact⟨rfl,below_regrown w i j⟩)
theorem Tryz.mLengthI (c : Option Addr) (w : World) : (Go.method 389 79 (.pointer c) "loop.example/s01685/impl.length").run prog w = .ok (57, .pointer c) w := by kernel_rfl
theorem Tryz.mRoomI (c : Option Addr) (w : World) : (Go.method 389 79 (.pointer c) "loop.example/s01685/impl.room").run prog w = .ok (195, .pointer c) w := by kernel_rfl
theorem Tryz.mInsertI (c : Option Addr) (w : World) : (Go.method 389 79 (.pointer c) "loop.example/s01685/impl.insert").run prog w = .ok (193, .pointer c) w := by kernel_rfl
theorem insTextI (zs ts:List Int) (T:AT) (u:Option Addr) (bs:List Nat) (base c b o t:Nat) (off:Int) (h:Addr) (w:World) (d:PM w base c b o zs.length zs T u bs) (i:T.ok) (y:T.bal) (z:T.wp zs) (k:0<=off∧off<=T.rns) (Q:base<=w.heap.size) (R:0<ts.length) (A:T.rns+ts.length<=8192) (B:zs.length+ts.length<=220000)
  (U:h.block<w.heap.size) (C:∀j v,(ints .i32 ts)[j]? =some v->w.cell? (h.add j)=some v):
  Calls prog 43 #[.iface 79 (.pointer (qK c 0)),qJ off,.slice (some h) ts.length t] w fun e w'=>e= .returned .nilIface∧InsPM w base c (zs++ts) (insP (zs++ts) zs.length T off) bs w':=by
 have ad:=Tryz.mLengthI;have ae:=Tryz.mRoomI;have af:=Tryz.mInsertI;have G:=i.bd;have H:=qG (zEk T u bs base c b o zs.length zs.length w d.k d.t)
 have I:=qG (fun W (a:Below w.heap.size w W)=>roomN T u bs base c b o zs.length zs.length W (d.k.below a d.k.lt) (d.t.below a lR) i (by omega))
 have l:=qG (fun w=>jP off 0 T.rns 2 w)
 rw [show decide (0<=off∧off<=T.rns)=true by simpa using k]at l
 simp only [errV,kP]at l
 have n:=qG (fun w=>jP (ts.length:Int) 0 (roomV T.rns zs.length) 10 w)
 rw [show decide (0<=(ts.length:Int)∧(ts.length:Int)<=roomV T.rns zs.length)=true by rw [qZ,roomV_le];omega]at n
 simp only [errV,kP]at n
 have J:=qG (fun W (a:Below w.heap.size w W)=>insertI zs ts T u bs base c b o t off h W (d.below a) i y z k.1 k.2 (vV Q a.size) R A B (fun j v O=>(a.cell (p:=h.add j) (by unfold Addr.add;split<;>exact U)).trans (C j v O)))
 have K:=qG (fun W W' (a:Below w.heap.size w W) (hi:InsPM W base c (zs++ts) (insP (zs++ts) zs.length T off) bs W')=>show InsPM w base c (zs++ts) (insP (zs++ts) zs.length T off) bs W' from(by
  obtain⟨V,X,g,cp,Y,Z,aa⟩:=hi
  exact⟨V,X,g,cp,Y,fun x P=>(Z x P).imp id (fun f=>vV a.size f),(Chg.qa (bs:=[]) a).trans aa (fun _ f _=>by cases f) (fun _ f _=>f)⟩))
 clear d k i G y z A B C;generalize insP (zs++ts) zs.length T off=ah at *;generalize roomV T.rns zs.length=ai at *;generalize T.rns=r at *;generalize zs++ts=S at *;generalize ts.length=m at *
 have ag:(0:Int)<(m:Int):=by omega
 go_enter func43,ntmps43;go_wp2_with fail;refine H.mono ?_;rintro e w1 ⟨rfl,D⟩;have q:=qG D;clear D;go_wp2_with fail;refine(l _).mono ?_;rintro e wx ⟨rfl,ab⟩;have L:=ab.symm;subst L;go_wp2_with fail;refine(I _ q).mono ?_;rintro e aj ⟨rfl,E⟩;have s:=qG (q.trans (E.mono q.size));clear E;go_wp2_with fail;refine(n _).mono ?_;rintro e wy ⟨rfl,ac⟩;have M:=ac.symm;subst M;go_wp2_with fail;refine(J _ s).mono ?_;rintro e ak ⟨rfl,F⟩;have N:=qG (K _ _ s F);clear F;go_wp2;go_ret;exact⟨rfl,N⟩
end Go.Proofs.YtljdnoinennfaaaGreatDoor
namespace Go.Proofs.YtljdnoinennfaaaGreatDoor
open Go Go.RowKit
def zFq (w:World) (b o:Nat) (zs:List Int):Option AT->Ending->World->Prop
 | none,e,w'=>(∃a,e= .returned (.tuple #[.pointer none,.iface 120 (.agg #[.string a,.iface 121 (qJ 1)])]))∧Below w.heap.size w w'
 | some T,e,w'=>∃c u bs,e= .returned (.tuple #[.pointer (qK c 0),.nilIface])∧w.heap.size<=c∧PK w' c b o zs.length zs.length u∧Lies w' w.heap.size T u bs∧bs.Nodup∧c∉bs∧T.ok∧Below w.heap.size w w'
def msgStore:ByteArray:=⟨#[114,101,97,100,105,110,103,32,97,32,115,116,111,114,101]⟩
def zFr:ByteArray:=⟨#[114,101,97,100,105,110,103,32,112,105,101,99,101,115,32,111,102,32,97,32,115,116,111,114,101]⟩
theorem Jg (B:Nat) (zs:List Int) (b o cap:Nat) (v:Value) (xs:List It) (w:World) (J:At32 w b o zs) (ab:b<w.heap.size) (ac:zs.length<=1048576) (ad:zs.length<=cap) (ae:cap<=maxLen) (s:RdI B w v xs) (af:B<=w.heap.size) (ag:xs.length<=1048576):
  Calls Tryz.prog 42 #[.agg #[.slice (qK b o) zs.length cap,v]] w (zFq w b o zs (pRead zs xs)):=by
 obtain⟨ao,c,rfl⟩:=s.val
 have a:=qG (show pRead zs xs=(match readT xs with | none=>none | some T=>if zs.length<=220000∧wps zs xs=true then some T else none)from rfl)
 generalize pRead zs xs=Z at a |-;have g:=qG ((qO w.heap.size w).alloc lR (.cells #[.slice (qK b o) zs.length cap,.slice ao xs.length c] 30));have t:=qG (s.below g af);have x:=qG (J.below g ab)
 have ai:(w.alloc (.cells #[.slice (qK b o) zs.length cap,.slice ao xs.length c] 30)).heap.size=w.heap.size+1:=by simp
 have k:(w.alloc (.cells #[.slice (qK b o) zs.length cap,.slice ao xs.length c] 30)).heap[w.heap.size]? =some (.cells #[.slice (qK b o) zs.length cap,.slice ao xs.length c] 30 (0,0)):=xm _ _;have N:=qG k
 have y:=qG (zFo B _ xs _ t (by omega) ag)
 have f:=qG (fun w=>jP (zs.length:Int) 0 220000 1 w)
 have O:(w.alloc (.cells #[.slice (qK b o) zs.length cap,.slice ao xs.length c] 30)).cell? ⟨w.heap.size,1,none⟩=some (.slice ao xs.length c):=by rw [qQ _ _ 1 _ _ _ k];rfl
 have z:=qG (fun w=>clip32N (qK b o) zs.length cap w ad ae)
 have aj:(zs.length:Int)<=1048576:=by omega
 generalize ap:xs.length=n at *;clear s J k
 by_cases q:zs.length<=220000
 ·have h:decide ((0:Int)<=(zs.length:Int)∧(zs.length:Int)<=220000)=true:=by simp;omega
  rw [h]at f;simp only [errV,kP]at f;have P:=qG q;clear h q;go_enter Tryz.func42,Tryz.ntmps42;go_wp2_with fail;generalize w.alloc (.cells #[.slice (qK b o) zs.length cap,.slice ao n c] 30)=aa at *;refine(f _).mono ?_;rintro e wx ⟨rfl,i⟩;subst i;go_wp2_with fail;refine y.mono ?_;clear y
  cases hT:readT xs with
  | none=>
   rw [hT]at a;simp only at a;clear hT;rintro e w1 ⟨⟨ah,rfl⟩,d⟩
   have l:=qG (g.trans (d.mono (by omega)))
   clear d;go_wp2;go_ret2;rw [a.out];exact⟨⟨ah,rfl⟩,l⟩
  | some T=>
   rw [hT]at a;simp only at a;have A:=(YQ hT).2.2.1;have Q:=qG A;clear hT A;rintro e w1 ⟨u,bs,rfl,K,L,M,d⟩
   have l:=qG (g.trans (d.mono (by omega)))
   have ak:=d.size
   have C:=qG (x.below d (by omega))
   have m:=qG (K.base (base':=w.heap.size) (by omega))
   have R:=qG L;have D:=qG M
   have E:=(d.block w.heap.size (by omega)).trans N
   have al:w1.cell? ⟨w.heap.size,0,none⟩=some (.slice (qK b o) zs.length cap):=by rw [qQ w1 _ 0 _ _ _ E];rfl
   have am:w.heap.size<w1.heap.size:=by omega
   clear d K L M x t E O;go_wp2_with fail;refine(z _).mono ?_;rintro e wx ⟨rfl,i⟩;subst i;have p:=qG ((qO wx.heap.size wx).alloc lR (.cells #[.slice (qK b o) zs.length zs.length,.pointer u] 142))
   have F:=qG (show PK (wx.alloc (.cells #[.slice (qK b o) zs.length zs.length,.pointer u] 142)) wx.heap.size b o zs.length zs.length u from xm _ _)
   have G:=qG (m.below p lR)
   have S:=qG (C.below p (by omega))
   have U:=qG (l.trans (p.mono (by omega)))
   have an:(wx.alloc (.cells #[.slice (qK b o) zs.length zs.length,.pointer u] 142)).heap.size=wx.heap.size+1:=by simp
   have H:=qG (checkPN zs T u bs w.heap.size wx.heap.size b o zs.length _ S (by omega) ac lR (by unfold maxLen;omega) G D F)
   have V:Hid (wx.heap.size∉bs):=qG fun r=>by have:=(m.lt _ r).2;omega
   clear m C z;go_wp2_with fail;generalize wx.alloc (.cells #[.slice (qK b o) zs.length zs.length,.pointer u] 142)=aq at *;refine H.mono ?_;rintro e ar ⟨rfl,j⟩
   have I:=qG (U.trans (j.mono (by omega)))
   have W:=qG (F.below j (by omega))
   have X:=qG (G.below j lR);rw [<- Q.out];clear j H
   cases hw:wps zs xs with
   | true=>
    rw [hw,xj ⟨P.out,rfl⟩]at a;simp only [kP];clear hw;go_wp2_with fail;go_ret2;rw [a.out]
    exact⟨_,u,bs,rfl,by omega,W,X,R,V,D,I⟩
   | false=>
    rw [hw,qT (by simp)]at a
    simp only [vK,kQ];clear hw;go_wp2_with fail;go_ret2;rw [a.out];exact⟨⟨zFr,rfl⟩,I⟩
 ·have h:decide ((0:Int)<=(zs.length:Int)∧(zs.length:Int)<=220000)=false:=by simp;omega
  rw [h]at f;simp only [errV,vK,kQ]at f
  have Y:=qG (show Z=none by rw [a.out];cases readT xs with | none=>rfl | some T=>simp only;rw [qT (fun r=>q r.1)])
  clear h;go_enter Tryz.func42,Tryz.ntmps42;go_wp2_with fail;generalize w.alloc (.cells #[.slice (qK b o) zs.length cap,.slice ao n c] 30)=aa at *;refine(f _).mono ?_;rintro e wx ⟨rfl,i⟩;subst i;go_wp2;go_ret2;rw [Y.out];exact⟨⟨msgStore,rfl⟩,g⟩
def piT (zs:List Int) (xs:List It) (off:Int) (ts:List Int):Option AT:=
 match pRead zs xs with
 | none=>none
 | some T=>if(0<=off∧off<=T.rns)∧T.rns+ts.length<=8192∧zs.length+ts.length<=220000 then some (if ts.length=0 then T else insP (zs++ts) zs.length T off)else none
def piC (zs:List Int) (xs:List It) (off:Int) (ts:List Int):Int:=
 match pRead zs xs with
 | none=>1
 | some T=>if 0<=off∧off<=T.rns then(if T.rns+ts.length<=8192∧zs.length+ts.length<=220000 then 0 else 10)else 2
def piS (zs:List Int) (xs:List It) (off:Int) (ts:List Int):List Int:=if(piT zs xs off ts).isSome then zs++ts else []
def piI (zs:List Int) (xs:List It) (off:Int) (ts:List Int):List It:=match piT zs xs off ts with | none=>[] | some T=>T.told 0
def Yi (w:World) (zs:List Int) (xs:List It) (k:Int) (e:Ending) (w':World):Prop:=
 ∃a b,e= .returned (.tuple #[.agg #[a,b],qJ k])∧own32 w' w.heap.size a zs∧OwI w' w.heap.size b xs∧Below w.heap.size w w'∧(k=0->a≠ .slice none 0 0)
theorem ansOk (zs:List Int) (T:AT) (u:Option Addr) (bs:List Nat) (base c b o cap:Nat) (w:World) (g:PM w base c b o cap zs T u bs) (q:T.ok):
  Calls Tryz.prog 44 #[.pointer (qK c 0),.nilIface] w (Yi w zs (T.told 0) 0):=by
 have I:=g.n;have l:=qG ((qO w.heap.size w).alloc lR (.cells #[.slice none 0 0,.slice none 0 0] 30))
 have s:=qG (show(w.alloc (.cells #[.slice none 0 0,.slice none 0 0] 30)).heap[w.heap.size]? =some (.cells #[.slice none 0 0,.slice none 0 0] 30 (0,0))from xm _ _)
 have a:=g.below l
 have m:=qG (tellPM zs T u bs base c b o cap _ a.rt a.lb (by omega) a.t q a.k)
 have t:w.heap.size<(w.alloc (.cells #[.slice none 0 0,.slice none 0 0] 30)).heap.size:=by simp
 clear g a q;go_enter Tryz.func44,Tryz.ntmps44;go_wp2_with fail;generalize w.alloc (.cells #[.slice none 0 0,.slice none 0 0] 30)=L at *;refine m.mono ?_;rintro e w1 ⟨M,N,rfl,h,i,j,r⟩;obtain⟨E,F,rfl⟩:=zj h;have x:=qG r;clear r;obtain⟨G,H,rfl⟩:=zc i;have n:=qG h;have p:=qG i;have d:=(j.block w.heap.size t).trans s
 have y:w1.cell? ⟨w.heap.size,0,none⟩=some (.slice none 0 0):=by rw [qQ w1 _ 0 _ _ _ d];rfl
 have z:w1.cell? ⟨w.heap.size,1,none⟩=some (.slice none 0 0):=by rw [qQ w1 _ 1 _ _ _ d];rfl
 have J:=xo w1 w.heap.size 0 _ _ d;have K:=xo w1 w.heap.size 1 _ _ d
 have A:=qG (l.trans (j.mono (by omega)))
 clear m j d h i;generalize zs.length=C at *;generalize (T.told 0).length=D at *;go_wp2
 refine xr (v:=.tuple #[.agg #[.slice E C F,.slice G D H],qJ 0]) (by simp [results,Tryz.results44,go_sem,y,z]) rfl ⟨_,_,rfl,?_,?_,?_,fun _=>x⟩
 ·exact zB (zD n (by omega)) (fun k f=>by have B:=n.lt k f;rw [xp _ _ _ _ (by simp;omega),xp _ _ _ _ (by simp;omega)];try rfl)
 ·exact zB (zD p (by omega)) (fun k f=>by have B:=p.lt k f;rw [xp _ _ _ _ (by simp;omega),xp _ _ _ _ (by simp;omega)];try rfl)
 ·exact(A.setCell lR _).setCell lR _
theorem XC {T:AT} {r:Nat} {p:Pc} (a:T.flat[r]? =some p):∃y,(T.told 0)[r]? =some y∧y.pc=p:=by
 rw [<- AT.qj T 0,vA]at a
 cases hy:(T.told 0)[r]? with
 | none=>rw [hy]at a;cases a
 | some y=>rw [hy]at a;exact⟨y,rfl,by simpa using a⟩
theorem JP {S:List Int} {n:Nat} {T:AT} {off:Int} {r:Nat} {y:It} (g:T.ok) (h:0<=off) (i:off<=T.rns) (j:cutN T off=r+1) (k:(T.told 0)[r]? =some y) (ht:total ((T.told 0).take (cutN T off))=off) (l:y.pc.off+y.pc.len=(n:Int)):
  insP S n T off=T.put r (pcAt S y.pc.off (y.pc.len+((S.length:Int) - n))):=by
 obtain⟨a,s,c⟩:=sk_at g h i
 have hi:skI T off=0:=by
  rcases Decidable.em (skI T off=0)with hi | hi
  ·exact hi
  ·exfalso
   obtain⟨m,o,d⟩:=c.resolve_left hi;rw [cutN,qT hi,yR]at ht;have e:=(zX d).1
   rw [e,jd _ _ _ _ (by rw [qN];have:=(zX d).2;omega),zO,zJ,jc,s]at ht
   omega
 have f:T.flat[r]? =some y.pc:=by rw [<- AT.qj T 0,vA,k];rfl
 have b:ahead T (r+1)=y.pc:=by rw [ahead,vU,qW,f];rfl
 rw [insP,j,cutP,xj hi,addP,xj (by rw [meetB,qZ,b];exact⟨by omega,l⟩),b,vU]
theorem JQ {S:List Int} {n:Nat} {T:AT} {off:Int} (g:T.ok) (l:∀p∈T.flat,p.off+p.len<=(n:Int)) (h:0<=off) (i:off<=T.rns) (m:¬ (∃r y,cutN T off=r+1∧(T.told 0)[r]? =some y∧total ((T.told 0).take (cutN T off))=off∧y.pc.off+y.pc.len=(n:Int))):
  insP S n T off=(cutP S T off).ins (cutN T off) (pcAt S n ((S.length:Int) - n)):=by
 obtain⟨a,s,c⟩:=sk_at g h i;rw [insP,addP,qT];intro f;simp only [meetB,qZ]at f;obtain⟨o,b⟩:=f
 by_cases hi:skI T off=0
 ·refine m ?_
  have d:cutN T off=skR T off:=by rw [cutN,xj hi];omega
  rw [cutP,xj hi]at b
  obtain⟨r,j⟩:∃r,cutN T off=r+1:=⟨cutN T off - 1,by omega⟩
  have e:=yS (T:=T) (R:=cutN T off) o (by omega)
  obtain⟨y,q,t⟩:=XC e
  refine⟨r,y,j,by rw [<- q,j];rfl,?_,by rw [t];exact b⟩
  rw [yR,d,s,hi];omega
 ·obtain⟨v,w,k⟩:=c.resolve_left hi
  have d:cutN T off=skR T off+1:=by rw [cutN,qT hi]
  have u:=l _ (xg k)
  have e:ahead (cutP S T off) (cutN T off)=pcAt S (skP T off).off (skI T off):=by
   rw [ahead,d,vU,qW,yL g h i hi,xe (by rw [qN];omega)]
   have:skR T off - (T.flat.take (skR T off)).length=0:=by rw [qN];have:=(zX k).2;omega
   rw [this];rfl
  rw [e]at b;simp only [pcAt]at b;omega
def Back (S:List Int) (F a:List Pc):Prop:=a=F∨∃r p q,F[r]? =some p∧F[r+1]? =some q∧p.off+p.len=q.off∧a=F.take r++pcAt S p.off (p.len+q.len)::F.drop (r+2)
theorem JT {T:AT} {d:Int} {x:It} (a:x∈T.told d):x.pc∈T.flat:=by
 rw [<- AT.qj T d];exact kS.2 ⟨x,a,rfl⟩
theorem zBb (T:AT) (d:T.bal) (a:T.ok):readT (T.told 0)=some T:=by
 have g:(T.told 0).length=T.its:=AT.told_length T 0;have h:=a.bd
 have b:=ja T 8200 0 [] d (by have:=AT.bal_low T d (by omega);omega) (fun y k f=>by cases f)
 rw [kA]at b;unfold readT;rw [xj,b];simp only [okI,xV,qZ]
 refine⟨vm.2 fun x c=>?_,by rw [AT.rns_told];exact a.2⟩
 have e:=a.1 x.pc (JT c);have i:=AT.told_lv T 0 x c;have j:=AT.ht_its T;simp only [xV,qZ]
 exact⟨e,by omega,by omega⟩
theorem zCz {S:List Int} {T:AT} (d:T.bal) (b:T.ok) (e:T.wp S) (f:S.length<=220000):pRead S (T.told 0)=some T:=by
 unfold pRead;rw [zBb T d b];simp only;rw [xj]
 refine⟨f,vm.2 fun x c=>?_⟩
 have a:=JT c;exact(zEi (b.1 _ a)).2 ((zW S T).1 e _ a)
theorem Zu (S:List Int):∀T:AT,T.tx S=T.flat.flatMap (ptx S)
 | .nil=>rfl
 | .node l p r=>by simp only [AT.tx,AT.flat,List.flatMap_append,kG,Zu S l,Zu S r]
theorem zEl {S:List Int} {p q:Pc} (a:WP S p) (b:WP S q) (c:p.off+p.len=q.off):ptx S (pcAt S p.off (p.len+q.len))=ptx S p++ptx S q:=by
 obtain⟨d,e,f,_⟩:=a;obtain⟨g,h,i,_⟩:=b;unfold ptx pcAt;simp only
 rw [show(p.len+q.len).toNat=p.len.toNat+q.len.toNat by omega,List.take_add,Qq,show p.off.toNat+p.len.toNat=q.off.toNat by omega]
theorem Back.wp {S:List Int} {T R:AT} (f:Back S T.flat R.flat) (g:T.wp S):R.wp S:=by
 have d:=(zW S T).1 g
 refine(zW S R).2 fun x c=>?_
 rcases f with e | ⟨r,p,q,h,i,j,e⟩
 ·rw [e]at c;exact d x c
 ·rw [e]at c
  simp only [xv,xR]at c
  rcases c with c | rfl | c
  ·exact d x (xI c)
  ·have a:=d _ (xg h)
   have b:=d _ (xg i)
   exact jO a.1 (by have:=a.2.1;have:=b.2.1;omega) (by have:=b.2.2.1;omega)
  ·exact d x (xX c)
theorem ptx_app {zs:List Int} {p:Pc} (a:WP zs p) (ts:List Int):ptx (zs++ts) p=ptx zs p:=by
 obtain⟨b,c,d,e⟩:=a;unfold ptx
 rw [vo (by omega),xW (by rw [qS];omega)]
theorem tx_app {zs:List Int} {T:AT} (d:T.wp zs) (ts:List Int):T.tx (zs++ts)=T.tx zs:=by
 rw [Zu,Zu];have b:=(zW zs T).1 d
 have:∀F:List Pc,(∀p∈F,WP zs p)->F.flatMap (ptx (zs++ts))=F.flatMap (ptx zs):=by
  intro F
  induction F with
  | nil=>intro _;rfl
  | cons p F e=>intro a;rw [kG,kG,ptx_app (a p (by simp)) ts,e (fun q c=>a q (by simp [c]))]
 exact this _ b
theorem Jh {zs ts:List Int} {T:AT} {off:Int} (b:T.ok) (o:T.wp zs) (d:0<=off) (f:off<=T.rns) (E:0<ts.length):
  (insP (zs++ts) zs.length T off).wp (zs++ts)∧(insP (zs++ts) zs.length T off).rns=T.rns+ts.length∧(insP (zs++ts) zs.length T off).its<=T.its+2:=by
 have x:(zs++ts).length=zs.length+ts.length:=qM;have k:=o.app ts
 have l:((zs++ts).length:Int) - (zs.length:Int)=(ts.length:Int):=by omega
 have t:=(zW zs T).1 o;have j:=(zW (zs++ts) T).1 k
 by_cases n:∃r y,cutN T off=r+1∧(T.told 0)[r]? =some y∧total ((T.told 0).take (cutN T off))=off∧y.pc.off+y.pc.len=(zs.length:Int)
 ·obtain⟨r,y,u,q,ht,v⟩:=n
  have h:=JP (S:=zs++ts) b d f u q ht v;rw [l]at h
  have i:T.flat[r]? =some y.pc:=by rw [<- AT.qj T 0,vA,q];rfl
  have g:=ym T r (pcAt (zs++ts) y.pc.off (y.pc.len+(ts.length:Int))) _ i;have z:=yu b _ (xg i);rw [h]
  refine⟨?_,?_,by rw [AT.qi];omega⟩
  ·refine(zW _ _).2 fun p a=>?_
   rw [g]at a;simp only [xv,xR]at a
   rcases a with a | rfl | a
   ·exact j _ (xI a)
   ·have:=(j _ (xg i)).1
    exact jO this (by omega) (by omega)
   ·exact j _ (xX a)
  ·rw [AT.qe,AT.qe,g,zO,zJ]
   have e:=(zX i).1
   have:lsum T.flat=lsum (T.flat.take r)+(y.pc.len+lsum (T.flat.drop (r+1))):=by
    conv=>lhs;rw [e]
    rw [zO,zJ]
   simp only [pcAt];omega
 ·have h:=JQ (S:=zs++ts) b (fun p a=>(t p a).2.2.1) d f n
  rw [l]at h;obtain⟨w,F⟩:=jZ (S:=zs++ts) b d f
  have g:(insP (zs++ts) zs.length T off).flat=(cutP (zs++ts) T off).flat.take (cutN T off)++pcAt (zs++ts) (zs.length:Int) (ts.length:Int)::(cutP (zs++ts) T off).flat.drop (cutN T off):=by rw [h,AT.ins_flat _ _ _ w]
  have m:=(zW _ _).1 (ZH (S:=zs++ts) b k d f);refine⟨?_,?_,?_⟩
  ·refine(zW _ _).2 fun p a=>?_
   rw [g]at a;simp only [xv,xR]at a
   rcases a with a | rfl | a
   ·exact m _ (xI a)
   ·exact jO (by omega) (by omega) (by omega)
   ·exact m _ (xX a)
  ·rw [AT.qe,g,zO,zJ]
   have A:=Z8 (S:=zs++ts) b d f
   have B:lsum (cutP (zs++ts) T off).flat=lsum ((cutP (zs++ts) T off).flat.take (cutN T off))+lsum ((cutP (zs++ts) T off).flat.drop (cutN T off)):=by rw [<- zO,xG]
   rw [AT.qe];simp only [pcAt];omega
  ·have C:(cutP (zs++ts) T off).its<=T.its+1:=by
    by_cases hi:skI T off=0
    ·rw [cutP,xj hi];omega
    ·rw [<- AT.qf,yL b d f hi,qM,q9,q9,qN,qS,AT.qf]
     obtain⟨G,s,c⟩:=sk_at b d f;have:=(zX (c.resolve_left hi).2.2).2;rw [AT.qf]at this;omega
   have D:(cutP (zs++ts) T off).flat.length=(cutP (zs++ts) T off).its:=AT.qf _;rw [<- AT.qf,g,qM,q9,qN,qS];omega
theorem zFs {S:List Int} {T:AT} {R:Nat} (a:T.bal):(healP S T R).bal:=by
 cases hb:healB T R with
 | false=>rw [healP,qT (by rw [hb];simp)];exact a
 | true=>
  rw [healP,xj hb];simp only [healB,qZ]at hb
  exact(AT.rem_bal _ _ (AT.qn _ _ _ a) (by rw [AT.qi];exact hb.1.2)).1
theorem delP_all {S:List Int} {T:AT} {lo hi:Int} (t:T.ok) (u:T.bal) (v:T.wp S) (w:S.length<=220000) (y:0<=lo) (z:lo<=hi) (j:hi<=T.rns):
  (delP S T lo hi).ok∧(delP S T lo hi).bal∧(delP S T lo hi).wp S∧(delP S T lo hi).rns<=T.rns:=by
 have F:=delF t u v w y z j;have g:=(zW S _).1 F.wpJ
 have k:(dlJ S T lo hi).rns<=T.rns:=by
  have i:=AT.split_flat (dl2 S T lo hi) (cutN T lo) F.a2;have l:(dlX S T lo hi).flat=(dl2 S T lo hi).flat.take (cutN T lo):=i.1;have m:(dlY S T lo hi).flat=(dl2 S T lo hi).flat.drop (cutN T lo):=i.2
  have n:=AT.split_flat (dlY S T lo hi) (dlZ S T lo hi - cutN T lo) (by have:=F.yits;have:=F.z2;omega)
  have o:(dlW S T lo hi).flat=(dlY S T lo hi).flat.drop (dlZ S T lo hi - cutN T lo):=n.2
  have p:(dl2 S T lo hi).rns=T.rns:=by rw [dl2,zB4 F.ok1 (by omega) (by rw [F.rn1];exact j),F.rn1]
  have A:lsum (dl2 S T lo hi).flat=lsum ((dl2 S T lo hi).flat.take (cutN T lo))+lsum ((dl2 S T lo hi).flat.drop (cutN T lo)):=by rw [<- zO,xG]
  have r:lsum (dlY S T lo hi).flat=lsum ((dlY S T lo hi).flat.take (dlZ S T lo hi - cutN T lo))+lsum ((dlY S T lo hi).flat.drop (dlZ S T lo hi - cutN T lo)):=by rw [<- zO,xG]
  have s:=ZJ (F:=(dlY S T lo hi).flat.take (dlZ S T lo hi - cutN T lo)) (fun q f=>yu F.okY q (xI f))
  rw [AT.qe]at p;rw [AT.qe,dlJ,AT.join_flat,zO,l,o];rw [m]at r s |-;omega
 refine⟨F.okR,zFs F.balJ,?_,?_⟩
 ·cases hhb:healB (dlJ S T lo hi) (cutN T lo)with
  | false=>rw [delP,healP,qT (by rw [hhb];simp)];exact F.wpJ
  | true=>
   have c:=hhb;simp only [healB,qZ]at c
   have h:=yS (T:=dlJ S T lo hi) (R:=cutN T lo) c.1.1 (by omega)
   have f:=zA7 (T:=dlJ S T lo hi) (R:=cutN T lo) c.1.2
   refine(zW S _).2 fun x d=>?_
   rw [delP,YU hhb]at d;simp only [xv,xR]at d
   rcases d with d | rfl | d
   ·exact g x (xI d)
   ·have a:=g _ (xg h)
    have b:=g _ (xg f)
    exact jO a.1 (by have:=a.2.1;have:=b.2.1;omega) (by have:=b.2.2.1;omega)
   ·exact g x (xX d)
 ·refine Int.le_trans ?_ k
  cases hhb:healB (dlJ S T lo hi) (cutN T lo)with
  | false=>rw [delP,healP,qT (by rw [hhb];simp)];exact Qd _
  | true=>
   have c:=hhb;simp only [healB,qZ]at c
   have h:=yS (T:=dlJ S T lo hi) (R:=cutN T lo) c.1.1 (by omega)
   have f:=zA7 (T:=dlJ S T lo hi) (R:=cutN T lo) c.1.2;have e:=zCr c.1.1 h f;rw [AT.qe,AT.qe,delP,YU hhb,zO,zJ]
   have:lsum (dlJ S T lo hi).flat=lsum ((dlJ S T lo hi).flat.take (cutN T lo - 1))+((ahead (dlJ S T lo hi) (cutN T lo)).len+((atP (dlJ S T lo hi) (cutN T lo)).len+lsum ((dlJ S T lo hi).flat.drop (cutN T lo+1)))):=by
    conv=>lhs;rw [e]
    rw [zO,zJ,zJ]
   simp only [pcAt];omega
def fx (S:List Int) (F:List Pc):List Int:=F.flatMap (ptx S)
theorem fx_nil (S:List Int):fx S []= []:=rfl
theorem ZL (S:List Int) (p:Pc) (F:List Pc):fx S (p::F)=ptx S p++fx S F:=kG
theorem JV (S:List Int) (F a:List Pc):fx S (F++a)=fx S F++fx S a:=by simp [fx]
theorem fx_len {S:List Int}:∀ {F:List Pc},(∀p∈F,WP S p)->((fx S F).length:Int)=lsum F
 | [],_=>rfl
 | p::F,a=>by
  rw [ZL,zJ,qM]
  have c:=Zq (a p (by simp))
  have d:=fx_len (F:=F) (fun q b=>a q (by simp [b]))
  omega
theorem fx_at {S:List Int} {F:List Pc} {a n:Nat} (e:∀p∈F,WP S p) (g:lsum (F.take a)=(n:Int)):fx S (F.take a)=(fx S F).take n∧fx S (F.drop a)=(fx S F).drop n:=by
 have f:=fx_len (S:=S) (F:=F.take a) (fun p d=>e p (xI d))
 have b:(fx S (F.take a)).length=n:=by omega
 have c:fx S F=fx S (F.take a)++fx S (F.drop a):=by rw [<- JV,xG]
 rw [c];exact⟨(Ql b).symm,(Qm b).symm⟩
theorem cutP_fx {S:List Int} {T:AT} {off:Int} (d:T.ok) (l:T.wp S) (f:0<=off) (g:off<=T.rns):fx S (cutP S T off).flat=fx S T.flat:=by
 by_cases hi:skI T off=0
 ·rw [cutP,xj hi]
 ·rw [yL d f g hi]
  obtain⟨a,b,c⟩:=sk_at d f g;obtain⟨r,s,h⟩:=c.resolve_left hi;have j:=(zW S T).1 l _ (xg h);obtain⟨i,m,n,o⟩:=j
  have e:=zEl (S:=S) (p:=pcAt S (skP T off).off (skI T off)) (q:=pcAt S ((skP T off).off+skI T off) ((skP T off).len - skI T off)) (jO i (by omega) (by omega)) (jO (by omega) (by omega) (by omega)) rfl
  have k:pcAt S (pcAt S (skP T off).off (skI T off)).off ((pcAt S (skP T off).off (skI T off)).len+(pcAt S ((skP T off).off+skI T off) ((skP T off).len - skI T off)).len)=skP T off:=by
   have:(pcAt S (skP T off).off (skI T off)).len+(pcAt S ((skP T off).off+skI T off) ((skP T off).len - skI T off)).len=(skP T off).len:=by show skI T off+((skP T off).len - skI T off)=_;omega
   rw [this];exact pcAt_of ⟨i,m,n,o⟩
  rw [k]at e
  conv=>rhs;rw [(zX h).1]
  rw [JV,JV,ZL,ZL,ZL,e,xq]
theorem cutP_at {S:List Int} {T:AT} {off:Int} (b:T.ok) (f:T.wp S) (c:0<=off) (d:off<=T.rns):fx S ((cutP S T off).flat.take (cutN T off))=(fx S T.flat).take off.toNat∧fx S ((cutP S T off).flat.drop (cutN T off))=(fx S T.flat).drop off.toNat:=by
 have g:=jZ (S:=S) b c d;have h:=(zW S _).1 (ZH b f c d)
 have e:=fx_at (S:=S) (F:=(cutP S T off).flat) (a:=cutN T off) (n:=off.toNat) h (by rw [g.2];omega)
 rw [cutP_fx b f c d]at e;exact e
theorem insP_tx {zs ts:List Int} {T:AT} {off:Int} (c:T.ok) (l:T.wp zs) (d:0<=off) (f:off<=T.rns):(insP (zs++ts) zs.length T off).tx (zs++ts)=(T.tx zs).take off.toNat++(ts++(T.tx zs).drop off.toNat):=by
 have g:=l.app ts;have t:(zs++ts).length=zs.length+ts.length:=qM
 have m:((zs++ts).length:Int) - (zs.length:Int)=(ts.length:Int):=by omega
 have h:=cutP_at (S:=zs++ts) c g d f;have i:=jZ (S:=zs++ts) c d f;have n:=(zW _ _).1 (ZH (S:=zs++ts) c g d f)
 have j:ptx (zs++ts) (pcAt (zs++ts) zs.length ts.length)=ts:=by
  unfold ptx pcAt;simp
 rw [<- tx_app l ts,Zu,Zu]
 show fx (zs++ts) _=(fx (zs++ts) T.flat).take _++(ts++(fx (zs++ts) T.flat).drop _)
 rw [<- h.1,<- h.2,insP,addP,m]
 by_cases a:meetB zs.length (cutP (zs++ts) T off) (cutN T off)=true
 ·rw [xj a]
  simp only [meetB,qZ]at a;have b:=yS (T:=cutP (zs++ts) T off) (R:=cutN T off) a.1 i.1;rw [ym _ _ _ _ b];have o:=n _ (xg b)
  have e:=zEl (S:=zs++ts) (p:=ahead (cutP (zs++ts) T off) (cutN T off)) (q:=pcAt (zs++ts) zs.length ts.length) o (jO (by omega) (by omega) (by omega)) a.2
  have r:ptx (zs++ts) (pcAt (zs++ts) (ahead (cutP (zs++ts) T off) (cutN T off)).off ((ahead (cutP (zs++ts) T off) (cutN T off)).len+(ts.length:Int)))=ptx (zs++ts) (ahead (cutP (zs++ts) T off) (cutN T off))++ts:=by rw [j]at e;exact e
  have k:cutN T off - 1+1=cutN T off:=by omega
  rw [JV,ZL,r,k]
  have s:(cutP (zs++ts) T off).flat.take (cutN T off)=(cutP (zs++ts) T off).flat.take (cutN T off - 1)++ [ahead (cutP (zs++ts) T off) (cutN T off)]:=by
   conv=>lhs;rw [<- k]
   rw [vY,b];rfl
  rw [s,JV,ZL,fx_nil];simp only [xq,kA]
 ·rw [qT a,AT.ins_flat _ _ _ i.1,JV,ZL,j]
theorem faceI (q:Option Addr) (n cap:Nat) (ao:Option Addr) (m a:Nat) (off:Int) (tx:Option Addr) (x y:Nat) (RS:List Int) (l:List It) (o:Int) (z:Nat->World->Prop) (A:Nat->Value->World->Prop) (w:World)
  (B:Hid (Calls Tryz.prog 42 #[.agg #[.slice q n cap,.slice ao m a]] ((w.alloc (.cells #[.slice q n cap,.slice ao m a] 30)).alloc (.cells #[.slice none 0 0,.slice none 0 0] 30)) fun e w1=>∃c,e= .returned (.tuple #[.pointer (qK c 0),.nilIface])∧z c w1))
  (C:Hid (∀c w1,z c w1->Calls Tryz.prog 43 #[.iface 79 (.pointer (qK c 0)),qJ off,.slice tx x y] w1 fun e b=>∃d,e= .returned d∧A c d b))
  (D:Hid (∀c d b,A c d b->Below (w.heap.size+2) ((w.alloc (.cells #[.slice q n cap,.slice ao m a] 30)).alloc (.cells #[.slice none 0 0,.slice none 0 0] 30)) b∧Calls Tryz.prog 44 #[.pointer (qK c 0),d] b (Yi b RS l o))):
  Calls Tryz.prog 12 #[.agg #[.slice q n cap,.slice ao m a],qJ off,.slice tx x y] w (Yi w RS l o):=by
 have I:=qG (((qO w.heap.size w).alloc lR (.cells #[.slice q n cap,.slice ao m a] 30)).alloc (by simp) (.cells #[.slice none 0 0,.slice none 0 0] 30))
 have r:=qG (show((w.alloc (.cells #[.slice q n cap,.slice ao m a] 30)).alloc (.cells #[.slice none 0 0,.slice none 0 0] 30)).heap[w.heap.size+1]? =some (.cells #[.slice none 0 0,.slice none 0 0] 30 (0,0))by
  have:=xm (w.alloc (.cells #[.slice q n cap,.slice ao m a] 30)) (.cells #[.slice none 0 0,.slice none 0 0] 30)
  rw [show(w.alloc (.cells #[.slice q n cap,.slice ao m a] 30)).heap.size=w.heap.size+1 by simp]at this;exact this)
 go_enter Tryz.func12,Tryz.ntmps12;go_wp2_with fail;generalize (w.alloc (.cells #[.slice q n cap,.slice ao m a] 30)).alloc (.cells #[.slice none 0 0,.slice none 0 0] 30)=O at *;refine B.mono ?_;rintro e w1 ⟨c,rfl,E⟩;have s:=qG (C c w1 E);clear B C E;go_wp2_with fail;refine s.mono ?_;rintro e b ⟨d,rfl,F⟩;have h:=qG (D c d b F);clear s D F;go_wp2_with fail;refine h.2.mono ?_;rintro e f ⟨Z,aa,rfl,p,hi,G,H⟩;have J:=qG H;clear H;obtain⟨R,S,rfl⟩:=zj p;obtain⟨T,U,rfl⟩:=zc hi;have t:=qG p;have u:=qG hi;have V:=h.1.size;have W:w.heap.size+1<O.heap.size:=(xU.1 r).1
 have i:=h.1.trans (G.mono (by omega))
 have g:=(i.block (w.heap.size+1) (by omega)).trans r
 have K:f.cell? ⟨w.heap.size+1,0,none⟩=some (.slice none 0 0):=by rw [qQ f _ 0 _ _ _ g];rfl
 have L:f.cell? ⟨w.heap.size+1,1,none⟩=some (.slice none 0 0):=by rw [qQ f _ 1 _ _ _ g];rfl
 have X:=xo f (w.heap.size+1) 0 _ _ g;have Y:=xo f (w.heap.size+1) 1 _ _ g
 have M:=qG (I.trans (i.mono (by omega)))
 clear h G g p hi i;generalize RS.length=P at *;generalize l.length=Q at *;go_wp2
 refine xr (v:=.tuple #[.agg #[.slice R P S,.slice T Q U],qJ o]) (by simp [results,Tryz.results12,go_sem,K,L]) rfl ⟨_,_,rfl,?_,?_,?_,J⟩
 ·exact zB (zD t (by omega)) (fun k j=>by have N:=t.lt k j;rw [xp _ _ _ _ (by simp;omega),xp _ _ _ _ (by simp;omega)];try rfl)
 ·exact zB (zD u (by omega)) (fun k j=>by have N:=u.lt k j;rw [xp _ _ _ _ (by simp;omega),xp _ _ _ _ (by simp;omega)];try rfl)
 ·exact(M.setCell (by simp) _).setCell (by simp) _
theorem zAh {w:World} {b o:Nat} {ts:List Int} (d:At32 w b o ts):∀j v,(ints .i32 ts)[j]? =some v->w.cell? ((⟨b,o,none⟩:Addr).add j)=some v:=by
 intro j v a;unfold ints at a;rw [vA]at a
 cases hj:ts[j]? with
 | none=>rw [hj]at a;cases a
 | some z=>
  rw [hj]at a;have c:=(xK.1 hj).1;have:=d j c;rw [qW,hj]at this;simp only [Qk,xw]at a;subst a;rw [zK];exact this
theorem implPI (B:Nat) (zs ts:List Int) (b o cap:Nat) (v:Value) (xs:List It) (off:Int) (t E K:Nat) (w:World) (L:At32 w b o zs) (M:b<w.heap.size) (Z:zs.length<=1048576) (aa:zs.length<=cap) (ab:cap<=maxLen) (N:RdI B w v xs) (ac:B<=w.heap.size) (ad:xs.length<=1048576) (ht:At32 w t E ts) (ae:t<w.heap.size) (al:ts.length<=1048576) (O:w.cell? ⟨0,0,none⟩=some (.iface 215 (.agg #[.pointer (qK 2 73)]))) (F:piC zs xs off ts=0) (am:0<ts.length):
  Calls Tryz.prog 12 #[.agg #[.slice (qK b o) zs.length cap,v],qJ off,.slice (qK t E) ts.length K] w (Yi w (piS zs xs off ts) (piI zs xs off ts) (piC zs xs off ts)):=by
 obtain⟨ao,l,rfl⟩:=N.val;have Q:0<w.heap.size:=xD w _ O
 have n:=((qO w.heap.size w).alloc lR (.cells #[.slice (qK b o) zs.length cap,.slice ao xs.length l] 30)).alloc (by simp) (.cells #[.slice none 0 0,.slice none 0 0] 30)
 have z:((w.alloc (.cells #[.slice (qK b o) zs.length cap,.slice ao xs.length l] 30)).alloc (.cells #[.slice none 0 0,.slice none 0 0] 30)).heap.size=w.heap.size+2:=by simp
 have A:=Jg B zs b o cap _ xs _ (L.below n M) (by omega) Z aa ab (N.below n ac) (by omega) ad
 have ak:=(n.cell (p:=⟨0,0,none⟩) Q).trans O;have R:=L.below n M;have S:=ht.below n ae
 cases hT:pRead zs xs with
 | none=>
  rw [hT]at A
  have q:piT zs xs off ts=none:=by unfold piT;rw [hT]
  have i:piC zs xs off ts=1:=by unfold piC;rw [hT]
  exact absurd (i.symm.trans F) (by decide)
 | some T=>
  rw [hT]at A;obtain⟨af,ag,P,an⟩:=XV hT;have U:=(YQ af).2.1
  have V:∀c u bs w1,((w.alloc (.cells #[.slice (qK b o) zs.length cap,.slice ao xs.length l] 30)).alloc (.cells #[.slice none 0 0,.slice none 0 0] 30)).heap.size<=c->PK w1 c b o zs.length zs.length u->Lies w1 ((w.alloc (.cells #[.slice (qK b o) zs.length cap,.slice ao xs.length l] 30)).alloc (.cells #[.slice none 0 0,.slice none 0 0] 30)).heap.size T u bs->bs.Nodup->c∉bs->Below ((w.alloc (.cells #[.slice (qK b o) zs.length cap,.slice ao xs.length l] 30)).alloc (.cells #[.slice none 0 0,.slice none 0 0] 30)).heap.size ((w.alloc (.cells #[.slice (qK b o) zs.length cap,.slice ao xs.length l] 30)).alloc (.cells #[.slice none 0 0,.slice none 0 0] 30)) w1->PM w1 (w.heap.size+2) c b o zs.length zs T u bs:=by
   intro c u bs w1 d f a r y j;rw [z]at d a j;have x:=j.size
   exact⟨f,a,r,y,fun Y=>by have:=(a.lt _ Y).1;omega,by omega,R.below j (by omega),by omega,lR,by unfold maxLen;omega,ag⟩
  generalize H:(w.alloc (.cells #[.slice (qK b o) zs.length cap,.slice ao xs.length l] 30)).alloc (.cells #[.slice none 0 0,.slice none 0 0] 30)=I at *
  by_cases h:0<=off∧off<=T.rns
  ·by_cases m:T.rns+ts.length<=8192∧zs.length+ts.length<=220000
   ·have q:piT zs xs off ts=some (if ts.length=0 then T else insP (zs++ts) zs.length T off):=by unfold piT;rw [hT];exact xj ⟨h,m⟩
    have i:piC zs xs off ts=0:=by unfold piC;rw [hT];exact(xj h).trans (xj m)
    rw [show piS zs xs off ts=zs++ts by unfold piS;rw [q];rfl,show piI zs xs off ts=(if ts.length=0 then T else insP (zs++ts) zs.length T off).told 0 by unfold piI;rw [q],i]
    by_cases G:ts.length=0
    ·exact absurd G (by omega)
    ·rw [qT G]
     have W:T.wp (zs++ts):=P.app ts
     refine faceI _ _ _ _ _ _ _ _ _ _ _ _ _ (fun c w1=>∃u bs,PM w1 (w.heap.size+2) c b o zs.length zs T u bs∧T.ok∧Below (w.heap.size+2) I w1∧w.heap.size+2<=c) (fun c J s=>J= .nilIface∧∃g u bs cp,PM s (w.heap.size+2) c g 0 cp (zs++ts) (insP (zs++ts) zs.length T off) u bs∧(insP (zs++ts) zs.length T off).ok∧Below (w.heap.size+2) I s) w (qG ?_) (qG ?_) (qG ?_)
     ·rw [H]
      refine A.mono ?_;rintro e w1 ⟨c,u,bs,rfl,d,f,a,r,y,j,x⟩;exact⟨c,rfl,u,bs,V c u bs w1 d f a r y x,j,z▸x,z▸d⟩
     ·rintro c w1 ⟨u,bs,d,f,a,r⟩
      have y:=a.size
      refine(insTextI zs ts T u bs _ c b o K off ⟨t,E,none⟩ w1 d f U P h (by omega) (by omega) m.1 m.2 (by show t<_;omega) (zAh (S.below a (by omega)))).mono ?_
      rintro e s ⟨rfl,ah,ai,g,cp,j,x,aj⟩;have X:=d.t
      refine⟨_,rfl,rfl,g,ah,ai,cp,j,zA2 f W h.1 h.2 (by rw [qM];omega) (by rw [qM];omega) (by rw [qM];omega),a.trans (aj.below (by omega) (fun k C=>?_))⟩
      rcases xR.1 C with rfl | C
      ·exact r
      ·exact(X.lt k C).1
     ·rintro c J s ⟨rfl,g,u,bs,cp,d,f,a⟩
      rw [H];exact⟨a,ansOk _ _ u bs _ c g 0 cp s d f⟩
   ·have q:piT zs xs off ts=none:=by unfold piT;rw [hT];exact qT (fun D=>m D.2)
    have i:piC zs xs off ts=10:=by unfold piC;rw [hT];exact(xj h).trans (qT m)
    exact absurd (i.symm.trans F) (by decide)
  ·have q:piT zs xs off ts=none:=by unfold piT;rw [hT];exact qT (fun D=>h D.1)
   have i:piC zs xs off ts=2:=by unfold piC;rw [hT];exact qT h
   exact absurd (i.symm.trans F) (by decide)
end Go.Proofs.YtljdnoinennfaaaGreatDoor
