import Derived.Test.YtibbhecojkehfaaGreatDoorMq12
import Derived.Test.YtibbhecojkehfaaGreatDoorMq11
set_option linter.all false
set_option maxRecDepth 100000
set_option maxHeartbeats 16000000
namespace Go.Proofs.YtibbhecojkehfaaGreatDoor
open Go Go.RowKit Go.Shelf Go.Sort
attribute [local go_sem] Oper.semAt_some
theorem app2 {W w1:World} {n₀ B:Nat} {t e:TypeId} {size:Nat} {v v':Value} {k m:Nat} {xs ys:List Value}
  (hv:Boxed W B t v) (hte:t≠e) (hrow:W.ownsRow n₀ e size v k xs) (hn₀:n₀<=W.heap.size) (hB:n₀<=B)
  (hown':w1.ownsRow n₀ e size v' m ys) (hgrow:W.grownBy w1 v.ownBlock):
  Boxed w1 B t v∧Boxed (w1.setCell ⟨B,0,none⟩ v') B t v'∧(w1.setCell ⟨B,0,none⟩ v').ownsRow n₀ e size v' m ys∧KeepsOthers W (w1.setCell ⟨B,0,none⟩ v')∧Below n₀ W (w1.setCell ⟨B,0,none⟩ v'):=by
 have hv1:Boxed w1 B t v:=hv.kept hgrow (hv.not_row hte hrow);refine⟨hv1,hv1.set v',hown'.kept (grownBy_setCell' w1 B v') (.inr (hv1.not_row hte hown').symm),?_,?_⟩
 ·refine(KeepsOthers.of_grownBy hgrow fun j o ej hj=>?_).trans (KeepsOthers.setCell _ _ _)
  rcases hrow.2 with ⟨rfl,_⟩ | ⟨g,cap,cur,rfl,_,hgb,_⟩
  ·simp [Value.ownBlock]at ej
  obtain rfl:g=j:=by simpa [Value.ownBlock]using ej
  rw [hgb]at hj;cases hj;rfl
 refine((Below.refl n₀ W).grown hgrow hn₀ fun j ej=>?_).setCell (p:=⟨B,0,none⟩) hB v'
 exact(hrow.lt j ej).1
theorem zA2 (zs:List Int) (q m a e:Nat) (pb x y:Int) (ha:a=x.toNat) (he:e - a=min (y.toNat - a) (m - a)):cutT (ptx zs ⟨(q:Int),(m:Int),pb⟩) x y=(zs.drop (q+a)).take (e - a):=by
 unfold cutT ptx;simp only [Int.toNat_natCast];rw [<- ha,List.drop_take,List.drop_drop,List.take_take,he]
theorem txA_bd (zs:List Int) (lo hi:Int):∀pre:List {y:Int×Pc //AcQ zs lo hi y},(txA zs lo hi (List.map (fun y:{y:Int×Pc //AcQ zs lo hi y}=>y.1) pre)).length<=8192*pre.length
 | []=>by simp [txA]
 | ⟨y,hy⟩::pre=>by
  have ih:=txA_bd zs lo hi pre;have h1:=jw hy.1;have h2:y.2.len<=8192:=hy.2.2.2.2.2.1
  have h3:(cutT (ptx zs y.2) (lo - y.1) (hi - y.1)).length<=(ptx zs y.2).length:=by
   unfold cutT;rw [List.length_take,List.length_drop];omega
  simp only [List.map_cons,txA,List.length_append,List.length_cons];omega
theorem row_val {w:World} {base e size n:Nat} {v:Value} {xs:List Value} (h:w.ownsRow base e size v n xs):∃ao cap,v= .slice ao n cap:=by
 rcases h.2 with ⟨rfl,h0⟩ | ⟨g,cap,cur,rfl,_⟩
 ·exact⟨none,0,by rw [h0]⟩
 exact⟨_,_,rfl⟩
theorem ZX:∀T:AT,T.ok->T.pos
 | .nil,_=>trivial
 | .node l p r,h=>⟨ZX l h.left,by have:=h.piece;omega,ZX r h.right⟩
theorem sliceN (T:AT) (base c b o cap:Nat) (zs:List Int) (lo hi:Int) (w:World) (h:PCore w base c b o cap zs T) (hlo:0<=lo∧lo<=hi∧hi<=T.rns):
  Calls Tryz.prog 191 #[.pointer (some ⟨c,0,none⟩),.int .i64 lo,.int .i64 hi] w fun e w'=>∃v,e= .returned v∧own32 w' w.heap.size v (cutT (T.tx zs) lo hi)∧Below w.heap.size w w':=by
 obtain⟨i0,hi0,hz0,hz1,hz2⟩:=info_parts Tryz.info32T;obtain⟨⟨u,bs,hk,hT⟩,hat,hbl,hok,hwp,hn,hcap,hm⟩:=h;have bT:=hok.bd
 have HIT:=hide (show IsT w.heap.size w u T from⟨base,bs,hT,fun x hx=>(hT.lt x hx).2⟩)
 have HQ:=hide (acr_q zs lo hi T 0 hwp (ZX T hok) (by omega) (by omega))
 have HTX:=hide (XN zs lo hi hlo.2.1 T 0 hwp);have htl:=AT.tx_len hwp;have hclt:=hk.lt;have HK:=hide hk;have HAT:=hide hat
 obtain⟨d,rfl⟩:∃d:Nat,hi=lo+d:=⟨(hi - lo).toNat,by omega⟩
 have hsub:lo+(d:Int) - lo=d:=by omega
 have HB0:=hide ((((Below.refl w.heap.size w).alloc lR (.cells #[.pointer (some ⟨c,0,none⟩)] 64)).alloc (by simp) (.cells #[.int .i64 lo] 3)).alloc (by simp;omega) (.cells #[.int .i64 (lo+(d:Int))] 3))
 have s0:(((w.alloc (.cells #[.pointer (some ⟨c,0,none⟩)] 64)).alloc (.cells #[.int .i64 lo] 3)).alloc (.cells #[.int .i64 (lo+(d:Int))] 3)).heap.size=w.heap.size+3:=by simp
 have P0:=((Boxed.new w 64 (.pointer (some ⟨c,0,none⟩))).alloc (.cells #[.int .i64 lo] 3)).alloc (.cells #[.int .i64 (lo+(d:Int))] 3);have L0:=(Boxed.new (w.alloc (.cells #[.pointer (some ⟨c,0,none⟩)] 64)) 3 (.int .i64 lo)).alloc (.cells #[.int .i64 (lo+(d:Int))] 3);have H0:=Boxed.new ((w.alloc (.cells #[.pointer (some ⟨c,0,none⟩)] 64)).alloc (.cells #[.int .i64 lo] 3)) 3 (.int .i64 (lo+(d:Int)));rw [World.size_alloc]at L0;rw [World.size_alloc,World.size_alloc]at H0;have l0c:=L0.cell;have h0c:=H0.cell;have HP0:=hide P0;have HL0:=hide L0;have HH0:=hide H0;clear hT hk hat P0 L0 H0;refine(callsIn_wide (n:=5)).1 ?_;refine callsIn_of_wp_marks Tryz.func191 rfl trivial ?_ rfl;simp only [Tryz.ntmps191,List.size_toArray,List.length_cons,List.length_nil,Nat.reduceAdd,Nat.reduceSub,Array.replicate_succ,Array.replicate_zero,List.push_toArray,List.append_toArray,List.nil_append,List.cons_append]
 gi_wp2_with (gi_at_make;refine wpListIn_make_own _ rfl _ _ 34 rfl w.heap.size 21 i0 (.int .i32 0) 1 Tryz.underlying34 hi0 hz0 hz1 _ _ _ d rfl rfl (by first | rfl | assumption) (by rw [hz2];omega) (by unfold maxLen;omega) (by omega) ?_;intro w2 hown2 hg2)
 have s2:=hg2.size;rw [s0]at s2
 have HB2:=hide (HB0.out.grown hg2 (by omega) (fun k hk=>by cases hk))
 have HP2:=hide (HP0.out.kept hg2 (by simp))
 have HL2:=hide (HL0.out.kept hg2 (by simp))
 have HH2:=hide (HH0.out.kept hg2 (by simp))
 have HB3:=hide (HB2.out.alloc (by omega) (.cells #[.slice (some ⟨w.heap.size+3,0,none⟩) 0 d] 34))
 have HP3:=hide (HP2.out.alloc (.cells #[.slice (some ⟨w.heap.size+3,0,none⟩) 0 d] 34));have HL3:=hide (HL2.out.alloc (.cells #[.slice (some ⟨w.heap.size+3,0,none⟩) 0 d] 34));have HH3:=hide (HH2.out.alloc (.cells #[.slice (some ⟨w.heap.size+3,0,none⟩) 0 d] 34));have HX3:=hide (Boxed.new w2 34 (.slice (some ⟨w.heap.size+3,0,none⟩) 0 d));rw [s0]at hown2;have HO3:=hide (hown2.alloc (.cells #[.slice (some ⟨w.heap.size+3,0,none⟩) 0 d] 34))
 have s3:w2.heap.size+1<=(w2.alloc (.cells #[.slice (some ⟨w.heap.size+3,0,none⟩) 0 d] 34)).heap.size:=by simp
 clear hown2 hg2 HB0 HP0 HL0 HH0 HB2 HP2 HL2 HH2 l0c h0c s0;generalize w2.alloc (.cells #[.slice (some ⟨w.heap.size+3,0,none⟩) 0 d] 34)=w3 at *
 have q1:=fun d os=>cell_regrown HP3.out.cell d os
 have q2:=fun d os=>cell_regrown ((HB3.out.cell (p:=⟨c,1,none⟩) hclt).trans HK.out.c1) d os
 have q3:=fun d os=>cell_regrown HL3.out.cell d os
 have q4:=fun d os=>cell_regrown HH3.out.cell d os
 refine zJ 6 (by kernel_rfl) (by kernel_rfl) ?_
 simp only [List.take_succ_cons,List.take_zero,List.drop_succ_cons,List.drop_zero]
 repeat (refine wpQuietIn_step (fun _ _ _ _=>trivial) (fun K hK=>?_);go_simp;first | (refine hK _ ?_;clear hK K) | (apply Exists.intro;refine⟨fun _=>?_,hK _ ?_⟩;(fail);clear hK K))
 refine wpQuietIn_nil ?_;intro _ hw';obtain⟨⟨dq,osq⟩,hw''⟩:=hw';subst hw'';have HQB:=hide (below_regrown w3 dq osq);clear q1 q2 q3 q4;generalize grow (redrawn w3 dq) osq=wq at *;have sq:=HQB.out.size
 have HB4:=hide (HB3.out.trans (HQB.out.mono (by omega)))
 have HP4:=hide (show Boxed wq _ _ _ from(HQB.out.block _ HP3.out.lt).trans HP3.out)
 have HL4:=hide (show Boxed wq _ _ _ from(HQB.out.block _ HL3.out.lt).trans HL3.out)
 have HH4:=hide (show Boxed wq _ _ _ from(HQB.out.block _ HH3.out.lt).trans HH3.out)
 have HX4:=hide (show Boxed wq _ _ _ from(HQB.out.block _ HX3.out.lt).trans HX3.out)
 have HO4:=hide (zF HO3.out HQB.out lR);clear HB3 HP3 HL3 HH3 HX3 HO3
 gi_wp2_with (refine⟨trivial,?_⟩;(try refine⟨fun h=>(by cases h),?_⟩);refine(zA1 _ _ _ _ _).mono ?_;rintro e w5 ⟨rfl,rfl⟩)
 have hI0:=((HP4.out.alloc (.cells #[.pointer u] 84)).alloc (.cells #[.int .i64 lo] 3)).alloc (.cells #[.int .i64 (lo+(d:Int))] 3);have hL0:=((HL4.out.alloc (.cells #[.pointer u] 84)).alloc (.cells #[.int .i64 lo] 3)).alloc (.cells #[.int .i64 (lo+(d:Int))] 3);have hH0:=((HH4.out.alloc (.cells #[.pointer u] 84)).alloc (.cells #[.int .i64 lo] 3)).alloc (.cells #[.int .i64 (lo+(d:Int))] 3);have hX0:=((HX4.out.alloc (.cells #[.pointer u] 84)).alloc (.cells #[.int .i64 lo] 3)).alloc (.cells #[.int .i64 (lo+(d:Int))] 3);have hO0:=((HO4.out.alloc (.cells #[.pointer u] 84)).alloc (.cells #[.int .i64 lo] 3)).alloc (.cells #[.int .i64 (lo+(d:Int))] 3);have hN0:=((Boxed.new wq 84 (.pointer u)).alloc (.cells #[.int .i64 lo] 3)).alloc (.cells #[.int .i64 (lo+(d:Int))] 3);have hN1:=(Boxed.new (wq.alloc (.cells #[.pointer u] 84)) 3 (.int .i64 lo)).alloc (.cells #[.int .i64 (lo+(d:Int))] 3);have hN2:=Boxed.new ((wq.alloc (.cells #[.pointer u] 84)).alloc (.cells #[.int .i64 lo] 3)) 3 (.int .i64 (lo+(d:Int)))
 have hBW:=((HB4.out.alloc HB4.out.size (.cells #[.pointer u] 84)).alloc (by have:=HB4.out.size;simp;omega) (.cells #[.int .i64 lo] 3)).alloc (by have:=HB4.out.size;simp;omega) (.cells #[.int .i64 (lo+(d:Int))] 3)
 have hs5:(((wq.alloc (.cells #[.pointer u] 84)).alloc (.cells #[.int .i64 lo] 3)).alloc (.cells #[.int .i64 (lo+(d:Int))] 3)).heap.size=wq.heap.size+3:=by simp
 rw [World.size_alloc]at hN1;rw [World.size_alloc,World.size_alloc]at hN2;obtain⟨W0,hW0⟩:∃W0,((wq.alloc (.cells #[.pointer u] 84)).alloc (.cells #[.int .i64 lo] 3)).alloc (.cells #[.int .i64 (lo+(d:Int))] 3)=W0:=⟨_,rfl⟩;rw [hW0]at hI0 hL0 hH0 hX0 hO0 hN0 hN1 hN2 hBW hs5 |-
 refine wpIn_rangeFunc_ownH rfl (by omega) (gf:=213) (lb:=#[.pointer (some ⟨wq.heap.size,0,none⟩),.pointer (some ⟨wq.heap.size+1,0,none⟩),.pointer (some ⟨wq.heap.size+1+1,0,none⟩)]) rfl trivial (enters_of Tryz.func213 (by kernel_rfl) rfl)
  (JC (AcQ zs lo (lo+(d:Int))) lo (lo+(d:Int)) (by omega) (by omega) _ wq.heap.size (wq.heap.size+1) (wq.heap.size+1+1) w.heap.size u T hok HQ.out W0 (by omega) (by omega) (by omega) (by omega) hN0.cell hN1.cell hN2.cell (HIT.out.below hBW)) belowK_t (belowK_b (by omega)) (Below.refl _ _) (fun _=>rfl)
  (fun pre W=>(∃v,Boxed W w2.heap.size 34 v∧W.ownsRow w.heap.size 21 1 v (txA zs lo (lo+(d:Int)) (List.map (fun y:{y:Int×Pc //AcQ zs lo (lo+(d:Int)) y}=>y.1) pre)).length (ints .i32 (txA zs lo (lo+(d:Int)) (List.map (fun y:{y:Int×Pc //AcQ zs lo (lo+(d:Int)) y}=>y.1) pre)))∧True)∧(Boxed W w.heap.size 64 (.pointer (some ⟨c,0,none⟩))∧(Boxed W (w.heap.size+1) 3 (.int .i64 lo)∧(Boxed W (w.heap.size+1+1) 3 (.int .i64 (lo+(d:Int)))∧Below w.heap.size w W))))
  (fun _ _ _=>False)
  (OwnFrom.and (Own.from (holdsRow_own w.heap.size w2.heap.size 34 21 1 (fun pre=>(txA zs lo (lo+(d:Int)) (List.map (fun y:{y:Int×Pc //AcQ zs lo (lo+(d:Int)) y}=>y.1) pre)).length) (fun pre=>ints .i32 (txA zs lo (lo+(d:Int)) (List.map (fun y:{y:Int×Pc //AcQ zs lo (lo+(d:Int)) y}=>y.1) pre))) (fun _ _=>True)) _) (OwnFrom.and (Own.from (boxed_own w.heap.size 64 (fun _=>.pointer (some ⟨c,0,none⟩))) _) (OwnFrom.and (Own.from (boxed_own (w.heap.size+1) 3 (fun _=>.int .i64 lo)) _) (OwnFrom.and (Own.from (boxed_own (w.heap.size+1+1) 3 (fun _=>.int .i64 (lo+(d:Int)))) _) (ownFrom_below lR (by omega))))))
  (fun _ _ _ _ _ hs _ _=>hs)
  ⟨⟨_,hX0,by simpa [txA,ints]using hO0,trivial⟩,hI0,hL0,hH0,hBW⟩
  (fun y a' W=>∃Bx,True∧W.heap[Bx]? =some (.cells #[.int .i64 y.1.2.off,.int .i64 y.1.2.len,.int .i64 y.1.2.brk] 89 (0,0))∧a'={tmps:=#[.pointer (some ⟨c,0,none⟩),.int .i64 lo,.int .i64 (lo+(d:Int)),.pointer (some ⟨w.heap.size,0,none⟩),.pointer (some ⟨w.heap.size+1,0,none⟩),.pointer (some ⟨w.heap.size+1+1,0,none⟩),.slice none 0 0,.pointer (some ⟨w2.heap.size,0,none⟩),.int .i64 y.1.1,.pointer (some ⟨Bx,0,none⟩),.int .i64 (lo+(d:Int)),.int .i64 lo,.int .i64 (d:Int),.slice (some ⟨w.heap.size+3,0,none⟩) 0 d,.pointer (some ⟨c,0,none⟩),.pointer (some ⟨c,0,none⟩),.pointer (some ⟨c,1,none⟩),.pointer u,.int .i64 lo,.int .i64 (lo+(d:Int)),.func (.func 213) #[] #[.pointer (some ⟨wq.heap.size,0,none⟩),.pointer (some ⟨wq.heap.size+1,0,none⟩),.pointer (some ⟨wq.heap.size+1+1,0,none⟩)],.int .i64 y.1.1,.agg #[.int .i64 y.1.2.off,.int .i64 y.1.2.len,.int .i64 y.1.2.brk],undef,undef,undef,undef,undef,undef,undef,undef,undef,undef,undef,undef,undef,undef,undef,undef,undef],defers:=[]})
  (fun x a' _ W W' row hs hg hr=>by
   obtain⟨Bx,h1,h2,h3⟩:=hs
   refine⟨Bx,h1,(hg.block Bx (Array.getElem?_eq_some_iff.1 h2).1 (fun e=>?_)).trans h2,h3⟩
   obtain⟨_,o,ho,hc⟩:=hr Bx e.symm
   rw [h2]at ho;cases ho;cases hc)
  ?assign ?body ?done ?stop
 case assign=>
  rintro l pre x W K ⟨⟨v,hv,hrow,_⟩,hbP,hbL,hbH,hbW⟩ hK
  gi_wp2
  have hle:=hbW.size
  refine hK _ _ ((KeepsOthers.alloc _ _).from _) ((Below.refl _ W).alloc hle _) ⟨⟨v,hv.alloc _,hrow.alloc _,trivial⟩,hbP.alloc _,hbL.alloc _,hbH.alloc _,hbW.alloc hle _⟩ ⟨W.heap.size,trivial,heap_alloc_new _ _,rfl⟩
 case body=>
  rintro l pre ⟨⟨hh,pq⟩,hq0⟩ a' W hl ⟨r,hr⟩ ⟨⟨v,hv,hrow,_⟩,hbP,hbL,hbH,hbW⟩ ⟨Bx,_,hkx,rfl⟩ hlt;have hq:=hq0;obtain⟨⟨a1,a2,a3,a4⟩,a5,a6,a7,a8,a9,a10⟩:=hq;simp only at a1 a2 a3 a4 a5 a6 a7 a8 a9 a10
  have k0:W.cell? ⟨Bx,0,none⟩=some (.int .i64 pq.off):=by rw [cell_of_row W _ 0 _ _ _ hkx];rfl
  have k1:W.cell? ⟨Bx,1,none⟩=some (.int .i64 pq.len):=by rw [cell_of_row W _ 1 _ _ _ hkx];rfl
  have k2:W.cell? ⟨Bx,2,none⟩=some (.int .i64 pq.brk):=by rw [cell_of_row W _ 2 _ _ _ hkx];rfl
  have hlx:Bx<W.heap.size:=(Array.getElem?_eq_some_iff.1 hkx).1;have hle:=hbW.size
  have HSN:=hide (show txA zs lo (lo+(d:Int)) (List.map (fun y:{y:Int×Pc //AcQ zs lo (lo+(d:Int)) y}=>y.1) (pre++ [⟨(hh,pq),hq0⟩]))=txA zs lo (lo+(d:Int)) (List.map (fun y:{y:Int×Pc //AcQ zs lo (lo+(d:Int)) y}=>y.1) pre)++cutT (ptx zs pq) (lo - hh) (lo+(d:Int) - hh)by rw [List.map_append,jj];simp [txA])
  have HRow:=hide hrow;have HV:=hide hv;have HPB:=hide hbP;have HLB:=hide hbL;have HHB:=hide hbH;have HBW:=hide hbW;have HKW:=hide (HK.out.below hbW hclt);have HAW:=hide (HAT.out.below hbW hbl)
  obtain⟨asl,csl,rfl⟩:=yS (show own32 W w.heap.size v _ from hrow)
  have q0:=fun d os=>cell_regrown k0 d os
  have q1:=fun d os=>cell_regrown k1 d os
  have q2:=fun d os=>cell_regrown k2 d os
  have q3:=fun d os=>cell_regrown hbP.cell d os
  have q4:=fun d os=>cell_regrown hbL.cell d os
  have q5:=fun d os=>cell_regrown hbH.cell d os
  have q6:=fun d os=>cell_regrown hv.cell d os
  have hVB:=txA_bd zs lo (lo+(d:Int)) pre
  generalize htv:txA zs lo (lo+(d:Int)) (List.map (fun y:{y:Int×Pc //AcQ zs lo (lo+(d:Int)) y}=>y.1) pre)=V at *
  clear hr hl hkx hrow hv hbP hbL hbH hbW k0 k1 k2 htv;obtain⟨po,pl,pb⟩:=pq;simp only at *
  obtain⟨q,rfl⟩:∃q:Nat,po=q:=⟨po.toNat,by omega⟩
  obtain⟨m,rfl⟩:∃m:Nat,pl=m:=⟨pl.toNat,by omega⟩
  have HMQ:=hide (fun d os=>CallsIn.regrown_of (F:=Fence.wide) (r:=5 - 1 - 1 - 1) (callsIn_wide.2 (textN c b o zs.length cap q m pb u (grow (redrawn W d) os) (HKW.out.below (below_regrown W d os) (Nat.lt_of_lt_of_le hclt hle)) (by omega) (by omega) hcap hm)))
  have w1:IntKind.i64.wrap (lo - hh)=lo - hh:=by rw [IntKind.wrap_i64];omega
  have w2':IntKind.i64.wrap (lo+(d:Int) - hh)=lo+(d:Int) - hh:=by rw [IntKind.wrap_i64];omega
  clear a4 htl hsub hW0 hs5 hI0 hL0 hH0 hX0 hO0 hN0 hN1 hN2 hBW
  gi_wp2_with fail
  refine ZQ 15 (by kernel_rfl) (by kernel_rfl) (by kernel_rfl) ?_
  simp only [List.take_succ_cons,List.take_zero,List.drop_succ_cons,List.drop_zero]
  repeat (refine wpQuietIn_step (fun _ _ _ _=>trivial) (fun K hK=>?_);go_simp;first | (refine hK _ ?_;clear hK K) | (apply Exists.intro;refine⟨fun _=>?_,hK _ ?_⟩;(first | exact⟨trivial,HMQ.out _ _⟩ | exact HMQ.out _ _);clear hK K))
  obtain⟨a,ha⟩:∃a:Nat,(if lo - hh<0 then 0 else lo - hh)=(a:Int):=⟨(if lo - hh<0 then 0 else lo - hh).toNat,by split<;>omega⟩
  obtain⟨e,he⟩:∃e:Nat,(if(m:Int)<lo+(d:Int) - hh then(m:Int)else lo+(d:Int) - hh)=(e:Int):=⟨(if(m:Int)<lo+(d:Int) - hh then(m:Int)else lo+(d:Int) - hh).toNat,by split<;>omega⟩
  have hae:(a<=e∧a<m)∧e<=m∧a=(lo - hh).toNat∧e - a=min ((lo+(d:Int) - hh).toNat - a) (m - a)∧e<=d+a:=by
   split at ha<;>split at he<;>omega
  rw [ha,he];have HCT:=hide (zA2 zs q m a e pb (lo - hh) (lo+(d:Int) - hh) hae.2.2.1 hae.2.2.2.1);have hae1:=hae.1.1;have hae3:=hae.1.2;have hae2:=hae.2.1
  have g1:(a:Int)<=(e:Int):=by omega
  have g2:(e:Int)<=((cap - q:Nat):Int):=by omega
  have g3:¬cap - q=a:=by omega
  clear ha he w1 w2' hae
  (refine wpQuietIn_step (fun _ _ _ _=>trivial) (fun K hK=>?_);go_simp;first | (refine hK _ ?_;clear hK K) | (apply Exists.intro;refine⟨fun _=>?_,hK _ ?_⟩;(fail);clear hK K))
  refine wpQuietIn_nil ?_;intro _ hw';obtain⟨⟨dq,osq⟩,hw''⟩:=hw';subst hw'';have HB1:=hide (below_regrown W dq osq);clear q0 q1 q2 q3 q4 q5 q6 HMQ;generalize grow (redrawn W dq) osq=W1 at *;have sW1:=HB1.out.size
  have HV1:=hide (show Boxed W1 _ _ _ from(HB1.out.block _ HV.out.lt).trans HV.out)
  have HR1:=hide (zF HRow.out HB1.out lR)
  have HP1:=hide (show Boxed W1 _ _ _ from(HB1.out.block _ HPB.out.lt).trans HPB.out)
  have HL1:=hide (show Boxed W1 _ _ _ from(HB1.out.block _ HLB.out.lt).trans HLB.out)
  have HH1:=hide (show Boxed W1 _ _ _ from(HB1.out.block _ HHB.out.lt).trans HHB.out)
  have HA1:=hide (HAW.out.below HB1.out (Nat.lt_of_lt_of_le hbl hle))
  have HAP:=hide (HA1.out.app (q+a) (e - a) (by omega))
  have hUl:((zs.drop (q+a)).take (e - a)).length=e - a:=by rw [List.length_take,List.length_drop];omega
  have HUL:=hide hUl
  have HLE:=hide (show(ints .i32 ((zs.drop (q+a)).take (e - a))).length=(e - a)*1 by rw [zC,hUl,Nat.mul_one])
  have hlw:w2.heap.size<W1.heap.size:=HV1.out.lt;rw [<- Nat.add_assoc]at HAP;generalize (zs.drop (q+a)).take (e - a)=U at *;generalize hVL:V.length=vl at *;clear hUl
  gi_wp2_with (gi_at_builtin;refine wpListIn_append_own _ rfl _ _ 34 rfl w.heap.size 21 i0 (.int .i32 0) 1 4 Tryz.underlying34 hi0 hz0 hz1 hz2 rfl (by decide) _ vl (ints .i32 V) rfl HR1.out ⟨b,o+q+a,none⟩ (e - a) (cap - q - a) (ints .i32 U) rfl HLE.out HAP.out (zR _ _) (by unfold maxLen;omega) (by omega) (by omega) ?_;intro v' w6 hown' hgrow _;obtain⟨ga,gc,rfl⟩:=row_val hown';obtain⟨hv1,hv2,hr2,hk2,hb2⟩:=app2 HV1.out (by decide) HR1.out (by omega) (by omega) hown' hgrow;have hc1:=hv1.cell;have hf1:=hv1.frozen)
  have hb3:=hb2;have HBN:=hide ((HB1.out.mono hle).trans hb2)
  have HNR:=hide (show own32 (w6.setCell ⟨w2.heap.size,0,none⟩ (.slice ga (vl+(e - a)) gc)) w.heap.size _ (V++U)from Ks hVL HUL.out hr2)
  have K6:=hide (fun k (hk:k<W1.heap.size) (h1:k≠w2.heap.size) (h2:some k≠(Value.slice asl vl csl).ownBlock)=>(heap_setCell_other w6 ⟨w2.heap.size,0,none⟩ k (.slice ga (vl+(e - a)) gc) h1).trans (hgrow.block k hk h2))
  refine⟨((KeepsOthers.of_below HB1.out).trans hk2).from _,HBN.out,⟨_,hv2,?_,trivial⟩,?_,?_,?_,HBW.out.trans HBN.out⟩
  ·have h9:=HNR.out
   unfold own32 at h9;rw [<- HCT.out,<- HSN.out]at h9;exact h9
  ·exact(K6.out _ HP1.out.lt (by omega) (HP1.out.not_row (by decide) HR1.out)).trans HP1.out
  ·exact(K6.out _ HL1.out.lt (by omega) (HL1.out.not_row (by decide) HR1.out)).trans HL1.out
  exact(K6.out _ HH1.out.lt (by omega) (HH1.out.not_row (by decide) HR1.out)).trans HH1.out
 case done=>
  rintro D ys W hD hys ⟨⟨v,hv,hrow,_⟩,hbP,hbL,hbH,hbW⟩ hK;have hc:=hv.cell;have htx:=HTX.out;rw [<- hys]at htx
  have HR9:=hide (show own32 W w.heap.size v (cutT (T.tx zs) lo (lo+(d:Int)))by
   have h9:own32 W w.heap.size v _:=hrow;rw [htx]at h9
   simpa using h9)
  have HB9:=hide hbW;have HK9:=hide hK;have hDn:=hD;obtain⟨ga,gc,rfl⟩:=yS HR9.out;generalize hcl:(cutT (T.tx zs) lo (lo+(d:Int))).length=cl at *;clear htx hrow hbW hbP hbL hbH hcl
  gi_wp2
  refine⟨by simp,.inl ⟨_,_,rfl,run_takeDeferred HK9.out,?_⟩⟩
  have hrow5:=ownsRow_putObj HR9.out (.deferred none) HK9.out rfl
  have bW5:=HB9.out.trans (belowK_b (w:=w) lR _ D _ (.deferred none) (by omega) HK9.out rfl rfl)
  exact⟨.slice ga cl gc,by simp [results,Tryz.results191,go_sem],_,rfl,hrow5,bW5⟩
 rintro D c pre W _ _ h _;exact h.elim
end Go.Proofs.YtibbhecojkehfaaGreatDoor
namespace Go.Proofs.YtibbhecojkehfaaGreatDoor
open Go Go.RowKit
theorem nd3 {a b:List Nat} {q m k:Nat} (ha:a.Nodup) (h1:∀x∈a,x<m) (hb:b.Nodup) (h2:∀x∈b,m<=x∧x<k) (hm:m<=k) (hq:k<=q):(q::(a++b)).Nodup:=by
 refine List.nodup_cons.2 ⟨fun h=>?_,List.nodup_append.2 ⟨ha,hb,fun x hx y hy e=>?_⟩⟩
 ·rcases List.mem_append.1 h with h | h
  ·have:=h1 q h;omega
  have:=h2 q h;omega
 have:=h1 x hx;have:=h2 y hy;omega
theorem Jc:∀ (f:Nat) (ps:List Pc) (B:Nat) (v:Value) (w:World),ps.length<=f->RdP B w v ps->B<=w.heap.size->ps.length<=8192->(midT f ps).ok->
  Calls Tryz.prog 27 #[v] w fun e w'=>∃u bs,e= .returned (.pointer u)∧Lies w' w.heap.size (midT f ps) u bs∧bs.Nodup∧Below w.heap.size w w':=by
 intro f
 induction f with
 | zero=>
  intro ps B v w hf hr hB hn hok
  obtain rfl:ps= []:=List.eq_nil_of_length_eq_zero (by omega)
  obtain⟨ao,cap,rfl⟩:∃ao cap,v= .slice ao 0 cap:=by
   rcases hr with ⟨ao,cap,rfl,_⟩ | ⟨_,_,_,_,hp,_⟩
   ·exact⟨_,_,rfl⟩
   simp at hp
  go_enter Tryz.func27,Tryz.ntmps27;go_wp2;go_ret;exact⟨none,[],rfl,⟨rfl,rfl⟩,List.nodup_nil,Below.refl _ _⟩
 | succ f ih=>
  intro ps B v w hf hr hB hn hok;have IH:=hide ih;clear ih
  rcases hr with ⟨ao,cap,rfl,rfl⟩ | ⟨b,o,cap,rfl,hp,hb,hc⟩
  ·rw [YB]
   go_enter Tryz.func27,Tryz.ntmps27;go_wp2;go_ret;exact⟨none,[],rfl,⟨rfl,rfl⟩,List.nodup_nil,Below.refl _ _⟩
  have HR:=hide (show RdP B w (.slice (some ⟨b,o,none⟩) ps.length cap) ps from .inr ⟨b,o,cap,rfl,hp,hb,hc⟩)
  have hml:ps.length/2<ps.length:=by omega
  obtain⟨p,hpp⟩:∃p,ps[ps.length/2]? =some p:=⟨_,List.getElem?_eq_getElem hml⟩;obtain⟨a0,a1,a2⟩:=hc _ p hpp;rw [ZW hpp]at hok |-;unfold maxLen at hp;obtain⟨m,hm⟩:∃m,m=ps.length/2:=⟨_,rfl⟩;rw [<- hm]at hml a0 a1 a2 hok;rw [<- hm];obtain⟨n,hN⟩:∃n,n=ps.length:=⟨_,rfl⟩
  have hdiv:(n:Int)/2=(m:Int):=by rw [hm,hN];omega
  have hn0:((n:Int)==0)=false:=by simp;omega
  rw [<- hN]at hp hml hn hf;rw [<- hN]
  have L1:=hide (HR.out.cutL m (by rw [<- hN];omega))
  have lL:(ps.take m).length=m:=by rw [List.length_take,<- hN];omega
  have lR:(ps.drop (m+1)).length=n - (m+1):=by rw [List.length_drop,<- hN]
  have I1:=hide (fun W hr hW=>IH.out (ps.take m) B (.slice (some ⟨b,o,none⟩) m cap) W (by omega) hr hW (by omega) hok.left)
  have HOK:=hide hok
  have hmn:(m:Int)<(n:Int):=by omega
  have hm0:¬ (m:Int)<0:=by omega
  have hmc:(m:Int)<=(cap:Int):=by omega
  have hm1:(m:Int)+1<=(n:Int):=by omega
  have hm1c:(m:Int)+1<=(cap:Int):=by omega
  have hbw:b<w.heap.size:=by omega
  have PL:=hide (fun(ul ur:Option Addr) (bl br:List Nat) (W:World) hL hR hbase=>XI (midT f (ps.take m)) p (midT f (ps.drop (m+1))) ul ur bl br w.heap.size W hL hR HOK.out hbase)
  unfold pcV at PL
  have hwr:IntKind.i64.wrap ((m:Int)+1)=(m:Int)+1:=by rw [IntKind.wrap_i64];omega
  have hm10:(0:Int)<=(m:Int)+1:=by omega
  by_cases hck:cap=m+1
  case' pos=>
   have hnm:n=m+1:=by omega
   have hdrop:ps.drop (m+1)= []:=List.drop_eq_nil_of_le (by omega)
   have R1:=hide (fun(W:World) (hb2:Below w.heap.size w W)=>show RdP B W (.slice (some ⟨b,o,none⟩) 0 0) (ps.drop (m+1))from .inl ⟨_,_,rfl,hdrop⟩)
   have I2:=hide (fun W hr hW=>IH.out (ps.drop (m+1)) B (.slice (some ⟨b,o,none⟩) 0 0) W (by omega) hr hW (by omega) hok.right)
   have hdiv2:((m:Int)+1)/2=(m:Int):=by omega
   clear hdrop HR hm hN lL lR hdiv hok hc hpp;subst hnm;subst hck
  case' neg=>
   have R1:=hide (fun(W:World) (hb2:Below w.heap.size w W)=>show RdP B W (.slice (some ⟨b,o+(m+1)*3,none⟩) (n - (m+1)) (cap - (m+1))) (ps.drop (m+1))from(by
    have h9:=HR.out.cutR (m+1) (ao:=some ⟨b,o+(m+1)*3,none⟩) (by rw [<- hN];omega) (fun _=>rfl)
    rw [<- hN]at h9;exact h9.below hb2 hB))
   have I2:=hide (fun W hr hW=>IH.out (ps.drop (m+1)) B (.slice (some ⟨b,o+(m+1)*3,none⟩) (n - (m+1)) (cap - (m+1))) W (by omega) hr hW (by omega) hok.right)
   clear HR hm hN lL lR hok hc hpp
   have k1:¬ (cap - (m+1)=0):=by omega
  all_goals
   generalize midT f (ps.take m)=TL at *;generalize midT f (ps.drop (m+1))=TR at *;have flag:True:=trivial;go_enter Tryz.func27,Tryz.ntmps27;go_wp2_with fail
   go_region_with (first
    | (go_at_call 27;clear flag;refine(I1.out _ (by exact L1.out) (by exact hB)).mono ?_;rintro e x1 ⟨u1,bs1,rfl,hl1,hn1,hb1⟩;have ND1:=hide hn1;have BD1:=hide (show ∀x∈bs1,x<x1.heap.size from fun x hx=>(hl1.lt x hx).2);clear hn1;have BX1:Hid (Below w.heap.size w x1):=hide ⟨hb1.os,hb1.tape,hb1.output,hb1.size,hb1.block⟩;have LI1:=hide (show Lies x1 w.heap.size TL u1 bs1 from hl1);have y1:=BX1.out.size;have e0:=(BX1.out.cell (p:=⟨b,o+m*3,none⟩) hbw).trans a0;have e1:=(BX1.out.cell (p:=⟨b,o+m*3+1,none⟩) hbw).trans a1;have e2:=(BX1.out.cell (p:=⟨b,o+m*3+2,none⟩) hbw).trans a2;clear hl1 hb1)
    | (go_at_call 27;refine(I2.out _ (by exact R1.out x1 BX1.out) (by exact Nat.le_trans hB y1)).mono ?_;rintro e x2 ⟨u2,bs2,rfl,hl2,hn2,hb2⟩;have ND2:=hide hn2;have BD2:=hide (show ∀x∈bs2,x1.heap.size<=x∧x<x2.heap.size from fun x hx=>hl2.lt x hx);have XX2:=hide (show x1.heap.size<=x2.heap.size from hb2.size);clear hn2;have BX2':Hid (Below x1.heap.size x1 x2):=hide ⟨hb2.os,hb2.tape,hb2.output,hb2.size,hb2.block⟩;have BX2:Hid (Below w.heap.size w x2):=hide (BX1.out.trans (BX2'.out.mono y1));have LI2:=hide (Lies.base y1 (show Lies x2 x1.heap.size TR u2 bs2 from hl2));have LI3:=hide (LI1.out.below BX2'.out lR);have y2:=BX2.out.size;have g0:=(BX2.out.cell (p:=⟨b,o+m*3,none⟩) hbw).trans a0;have g1:=(BX2.out.cell (p:=⟨b,o+m*3+1,none⟩) hbw).trans a1;have g2:=(BX2.out.cell (p:=⟨b,o+m*3+2,none⟩) hbw).trans a2;clear hl2 hb2)
    | (go_at_call 47;refine(PL.out u1 u2 bs1 bs2 _ (by exact LI3.out) (by exact LI2.out) (by exact y2)).mono ?_;rintro e x3 ⟨q3,rfl,hq3,hl3,hb3⟩;have ND3:=hide (show(q3::(bs1++bs2)).Nodup from nd3 ND1.out BD1.out ND2.out BD2.out XX2.out (show x2.heap.size<=q3 from hq3));have LI4:=hide hl3;have BX3:Hid (Below w.heap.size w x3):=hide (BX2.out.trans ((show Below x2.heap.size x2 x3 from⟨hb3.os,hb3.tape,hb3.output,hb3.size,hb3.block⟩).mono y2));clear hl3 hb3))
   all_goals (
    go_wp2;go_ret
    exact⟨_,_,rfl,LI4.out,ND3.out,BX3.out⟩)
theorem measureI (zs:List Int) (c b o cap:Nat) (k l:Int) (w:World) (hc:∀i,i<zs.length->w.cell? ⟨b,o+i,none⟩=some (.int .i32 (zs.getD i 0))) (hs:w.cell? ⟨c,0,none⟩=some (.slice (some ⟨b,o,none⟩) zs.length cap)) (hb:b<w.heap.size) (hcw:c<w.heap.size) (hk:0<=k) (hkl:k+l<=zs.length) (h0:0<l) (hcap:zs.length<=cap) (hm:cap<=maxLen) (hn:zs.length<=1048576):
  Calls Tryz.prog 26 #[.pointer (some ⟨c,0,none⟩),.int .i64 k,.int .i64 l] w fun e w'=>e= .returned (.agg #[.int .i64 k,.int .i64 l,.int .i64 (brk ((zs.drop k.toNat).take l.toNat))])∧Below w.heap.size w w':=by
 obtain⟨k',rfl⟩:=Int.eq_ofNat_of_zero_le hk
 obtain⟨l',rfl⟩:=Int.eq_ofNat_of_zero_le (show 0<=l by omega)
 exact ZE zs c b o cap k' l' w hc hs hb hcw (by omega) (by omega) hcap hm hn
theorem loadN (base:Nat) (zs:List Int) (b cap:Nat) (w:World) (h:own32 w base (.slice (some ⟨b,0,none⟩) zs.length cap) zs) (hcap:zs.length<=cap∧cap<=maxLen) (hn:zs.length<=8192) (hok:(ldT zs).ok):
  Calls Tryz.prog 16 #[.slice (some ⟨b,0,none⟩) zs.length cap] w fun e w'=>∃c u bs,e= .returned (.pointer (some ⟨c,0,none⟩))∧w.heap.size<=c∧c<w'.heap.size∧w'.heap[c]? =some (.cells #[.slice (some ⟨b,0,none⟩) zs.length zs.length,.pointer u] 86 (0,0))∧Lies w' w.heap.size (ldT zs) u bs∧bs.Nodup∧c∉bs∧Below w.heap.size w w':=by
 obtain⟨j0,hjP,hy0,hy1,hy2⟩:=info_parts Tryz.infoPC;have hbl:=(h.lt b rfl).2
 have CL:=hide (fun W=>Xz (some ⟨b,0,none⟩) zs.length cap W hcap.1 hcap.2)
 have SC:=hide (J8 h);obtain⟨n,hN⟩:∃n,n=zs.length:=⟨_,rfl⟩;have HNN:=hide hN;rw [<- hN]at hn hcap CL;rw [<- hN];simp only [<- hN]at SC;clear hN;go_enter Tryz.func16,Tryz.ntmps16;go_wp2_with fail;refine(CL.out w).mono ?_;rintro e x ⟨rfl,hxw⟩;subst hxw;have A0:=hide ((Below.refl x.heap.size x).alloc lR (.cells #[.slice (some ⟨b,0,none⟩) n n,.pointer none] 86))
 have HK0:=hide (show(x.alloc (.cells #[.slice (some ⟨b,0,none⟩) n n,.pointer none] 86)).heap[x.heap.size]? =some (.cells #[.slice (some ⟨b,0,none⟩) n n,.pointer none] 86 (0,0))from heap_alloc_new _ _)
 have hs0:(x.alloc (.cells #[.slice (some ⟨b,0,none⟩) n n,.pointer none] 86)).heap.size=x.heap.size+1:=by simp
 go_wp2_with fail;generalize x.alloc (.cells #[.slice (some ⟨b,0,none⟩) n n,.pointer none] 86)=w2 at *
 have SC2:=hide (fun i hi=>(A0.out.cell (p:=⟨b,0+i,none⟩) hbl).trans (SC.out i hi))
 have HS2:=hide (show w2.cell? ⟨x.heap.size,0,none⟩=some (.slice (some ⟨b,0,none⟩) n n)from(by rw [cell_of_row w2 _ 0 _ _ _ HK0.out];rfl))
 have E3:=hide (show OwP w2 w2.heap.size (.slice none 0 0) (chs zs 0)from⟨rfl,.inl ⟨rfl,rfl⟩⟩)
 have SPI:=hide (fun k l W hc hs hb hcw hk hkl h0=>measureI zs x.heap.size b 0 n k l W hc (by rw [<- HNN.out];exact hs) hb hcw hk hkl h0 (by rw [<- HNN.out];exact lR) (by unfold maxLen;omega) (by rw [<- HNN.out];omega))
 simp only [<- HNN.out]at SPI;have hnc:n<=cap:=hcap.1;clear CL SC hcap h
 go_loopw [4,5] (fun pv ov wr=>∃j:Nat,ov= .int .i64 (16*(j:Int))∧16*j<n+16∧OwP wr w2.heap.size pv (chs zs j)∧Below w2.heap.size w2 wr) (fun _ ov _=>n+16 - (intOf ov).toNat)
 case atStart=>exact⟨0,by first | rfl | go_num,by omega,E3.out,Below.refl _ _⟩
 obtain⟨j,rfl,hjn,hop,hbw⟩:=hrel;have HOP:=hide hop;have HBW:=hide hbw;have hsw:=hbw.size;clear hop
 by_cases hj:16*j<n
 ·have hj':16*(j:Int)<(n:Int):=by omega
  have SCr:=hide (fun i hi=>(hbw.cell (p:=⟨b,0+i,none⟩) (by show b<w2.heap.size;omega)).trans (SC2.out i hi))
  have HSr:=hide ((hbw.cell (p:=⟨x.heap.size,0,none⟩) (by show x.heap.size<w2.heap.size;omega)).trans HS2.out)
  clear hbw
  have hlc:(if(n:Int) - 16*(j:Int)<16 then(n:Int) - 16*(j:Int)else 16)=((cln n j:Nat):Int):=by unfold cln;split<;>omega
  have SP:=hide (SPI.out (16*(j:Int)) (if(n:Int) - 16*(j:Int)<16 then(n:Int) - 16*(j:Int)else 16) wr SCr.out HSr.out (by omega) (by omega) (by omega) (by split<;>omega) (by split<;>omega))
  have CE:=hide (zA0 zs j (if(n:Int) - 16*(j:Int)<16 then(n:Int) - 16*(j:Int)else 16) (by rw [<- HNN.out];exact hlc))
  clear hlc SCr;generalize brk _=br at SP CE
  have hj2:j<=8192:=by omega
  go_wp2_with (first | (go_at_call 26;refine SP.out.mono ?_;rintro e x1 ⟨rfl,hb1⟩;have B1:=hide (HBW.out.trans (hb1.mono hsw));have z1:=B1.out.size;have O1:=hide (zF HOP.out hb1 lR);have OA:=hide (fun o=>show(x1.alloc o).ownsRow w2.heap.size 89 3 _ j (pcCs (chs zs j))from(by have h9:=O1.out;rw [yT]at h9;exact World.ownsRow.alloc h9 _));have NC:=hide (fun ns=>zY x1 89 ns);clear hb1) | (at_builtin;refine wpList_append_own _ rfl _ _ 87 rfl w2.heap.size 89 j0 (.agg #[.int .i64 0,.int .i64 0,.int .i64 0]) 3 24 Tryz.underlying87 hjP hy0 hy1 hy2 rfl (by decide) _ j (pcCs (chs zs j)) rfl (by exact OA.out _) ⟨x1.heap.size,0,none⟩ 1 1 (pcCs [chP zs j]) rfl (by rw [CE.out];rfl) (by rw [CE.out];exact NC.out _) (by rw [CE.out];intro u hu;simp at hu;rcases hu with rfl | rfl | rfl<;>rfl) (by unfold maxLen;omega) (by omega) (by simp;omega) ?_;intro v4 x2 hoN hgN hnil;refine Hid.out ?_))
  all_goals
   refine Lib.hid ?_
   have O4:=hide (show OwP x2 w2.heap.size v4 (chs zs (j+1))from(by rw [YD];exact Ky (yT zs j) rfl hoN))
   have B4:=hide ((B1.out.alloc z1 _).grown hgN (by simp;omega) (fun q hq=>(O1.out.lt q hq).1))
   clear hoN hgN hnil;go_wp2;go_roundw
   case rel=>exact⟨j+1,by first | rfl | go_num | (congr 1;omega),by omega,O4.out,B4.out⟩
   simp [intOf];omega
 have hj':¬16*(j:Int)<(n:Int):=by omega
 have hjj:j=(n+15)/16:=by omega
 have HT:=hide (show ldT zs=midT 8192 (chs zs j)from(by unfold ldT;rw [<- HNN.out,<- hjj]))
 have M5:=hide (Jc 8192 (chs zs j) _ _ wr (by rw [yT];omega) (OwP.rd HOP.out) lR (by rw [yT];omega) (by rw [<- HT.out];exact hok))
 clear hjj hbw hok;generalize midT 8192 (chs zs j)=TT at *;go_wp2_with fail;refine M5.out.mono ?_;rintro e x5 ⟨u5,bs5,rfl,hl5,hn5,hb5⟩;have N5:=hide hn5
 have C5:=hide (show x.heap.size∉bs5 from fun h9=>by have:=(hl5.lt _ h9).1;have:=HBW.out.size;omega)
 clear hn5;have BX:=hide (HBW.out.trans (hb5.mono hsw))
 have K5:=hide ((BX.out.block x.heap.size (by omega)).trans HK0.out)
 have L5:=hide hl5;have z5:=hb5.size;have f5:=frozen_of_row x5 x.heap.size 1 _ _ K5.out
 have c5:x5.cell? ⟨x.heap.size,1,none⟩=some (.pointer none):=by rw [cell_of_row x5 _ 1 _ _ _ K5.out];rfl
 clear hl5 hb5;go_wp2
 refine bodyPost_ret (v:=.pointer (some ⟨x.heap.size,0,none⟩)) (by simp [results,Tryz.results16,go_sem]) rfl ⟨x.heap.size,u5,bs5,rfl,lR,by simp;omega,?_,?_,N5.out,C5.out,?_⟩
 ·have h9:=heap_setCell_same x5 x.heap.size 1 _ _ (.pointer u5) K5.out
  simpa using h9
 ·rw [HT.out]
  exact(Lies.base (by omega) L5.out).frame (fun q hq=>heap_setCell_other _ _ _ _ (by have:=(L5.out.lt q hq).1;show q≠x.heap.size;omega))
 exact(A0.out.trans (BX.out.mono (by omega))).setCell (by simp) _
end Go.Proofs.YtibbhecojkehfaaGreatDoor
