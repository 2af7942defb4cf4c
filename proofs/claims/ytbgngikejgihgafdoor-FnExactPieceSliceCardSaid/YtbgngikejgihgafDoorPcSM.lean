import Derived.Test.YtbgngikejgihgafDoorPcA
import Derived.Test.YtbgngikejgihgafDoorPcF0
import Derived.Test.YtbgngikejgihgafDoorPcT
import Derived.Test.YtbgngikejgihgafDoorRgT
import Derived.Maps.AppendAt
import Derived.Test.YtbgngikejgihgafDoorCodeB
import Derived.Test.YtbgngikejgihgafDoorGRng
namespace Go.Proofs.YtbgngikejgihgafDoor
open Go Go.RowKit
set_option linter.unusedVariables false

open Go Go.RowKit Go.Shelf Go.Sort
attribute [local go_sem] Oper.semAt_some

theorem app2 {W w1 : World} {n₀ B : Nat} {t e : TypeId} {size : Nat} {v v' : Value} {k m : Nat} {xs ys : List Value}
    (hv : Boxed W B t v) (hte : t ≠ e) (hrow : W.ownsRow n₀ e size v k xs) (hn₀ : n₀ ≤ W.heap.size) (hB : n₀ ≤ B)
    (hown' : w1.ownsRow n₀ e size v' m ys) (hgrow : W.grownBy w1 v.ownBlock) :
    Boxed w1 B t v ∧ Boxed (w1.setCell ⟨B, 0, none⟩ v') B t v' ∧ (w1.setCell ⟨B, 0, none⟩ v').ownsRow n₀ e size v' m ys ∧ KeepsOthers W (w1.setCell ⟨B, 0, none⟩ v') ∧ Below n₀ W (w1.setCell ⟨B, 0, none⟩ v') := by
  have hv1 : Boxed w1 B t v := hv.kept hgrow (hv.not_row hte hrow)
  refine ⟨hv1, hv1.set v', hown'.kept (grownBy_setCell' w1 B v') (.inr (hv1.not_row hte hown').symm), ?_, ?_⟩
  · refine (KeepsOthers.of_grownBy hgrow fun j o ej hj => ?_).trans (KeepsOthers.setCell _ _ _)
    rcases hrow.2 with ⟨rfl, _⟩ | ⟨g, cap, cur, rfl, _, hgb, _⟩
    · simp [Value.ownBlock] at ej
    · obtain rfl : g = j := by simpa [Value.ownBlock] using ej
      rw [hgb] at hj; cases hj; rfl
  · refine ((Below.refl n₀ W).grown hgrow hn₀ fun j ej => ?_).setCell (p := ⟨B, 0, none⟩) hB v'
    exact (hrow.lt j ej).1
theorem cut_piece (zs : List Int) (q m a e : Nat) (pb x y : Int) (ha : a = x.toNat) (he : e - a = min (y.toNat - a) (m - a)) : cutT (ptx zs ⟨(q : Int), (m : Int), pb⟩) x y = (zs.drop (q + a)).take (e - a) := by
  unfold cutT ptx
  simp only [Int.toNat_natCast]
  rw [← ha, List.drop_take, List.drop_drop, List.take_take, he]
theorem txA_bd (zs : List Int) (lo hi : Int) : ∀ pre : List {y : Int × Pc // AcQ zs lo hi y}, (txA zs lo hi (List.map (fun y : {y : Int × Pc // AcQ zs lo hi y} => y.1) pre)).length ≤ 8192 * pre.length
  | [] => by simp [txA]
  | ⟨y, hy⟩ :: pre => by
    have ih := txA_bd zs lo hi pre
    have h1 := ptx_len hy.1
    have h2 : y.2.len ≤ 8192 := hy.2.2.2.2.2.1
    have h3 : (cutT (ptx zs y.2) (lo - y.1) (hi - y.1)).length ≤ (ptx zs y.2).length := by
      unfold cutT; rw [List.length_take, List.length_drop]; omega
    simp only [List.map_cons, txA, List.length_append, List.length_cons]
    omega
theorem row_val {w : World} {base e size n : Nat} {v : Value} {xs : List Value} (h : w.ownsRow base e size v n xs) : ∃ ao cap, v = .slice ao n cap := by
  rcases h.2 with ⟨rfl, h0⟩ | ⟨g, cap, cur, rfl, _⟩
  · exact ⟨none, 0, by rw [h0]⟩
  · exact ⟨_, _, rfl⟩
theorem pos_of_ok : ∀ T : AT, T.ok → T.pos
  | .nil, _ => trivial
  | .node l p r, h => ⟨pos_of_ok l h.left, by have := h.piece; omega, pos_of_ok r h.right⟩

set_option maxRecDepth 100000 in
set_option maxHeartbeats 4000000 in
theorem sliceN (T : AT) (base c b o cap : Nat) (zs : List Int) (lo hi : Int) (w : World) (h : PCore w base c b o cap zs T) (hlo : 0 ≤ lo ∧ lo ≤ hi ∧ hi ≤ T.rns) :
    Calls Tryd.prog 53 #[.pointer (some ⟨c, 0, none⟩), .int .i64 lo, .int .i64 hi] w fun e w' => ∃ v, e = .returned v ∧ own32 w' w.heap.size v (cutT (T.tx zs) lo hi) ∧ Below w.heap.size w w' := by
  obtain ⟨i0, hi0, hz0, hz1, hz2⟩ := info_parts Tryd.info32T
  obtain ⟨⟨u, bs, hk, hT⟩, hat, hbl, hok, hwp, hn, hcap, hm⟩ := h
  have bT := hok.bd
  have HIT := hide (show IsT w.heap.size w u T from ⟨base, bs, hT, fun x hx => (hT.lt x hx).2⟩)
  have HQ := hide (acr_q zs lo hi T 0 hwp (pos_of_ok T hok) (by omega) (by omega))
  have HTX := hide (acr_tx zs lo hi hlo.2.1 T 0 hwp)
  have htl := AT.tx_len hwp
  have hclt := hk.lt
  have HK := hide hk
  have HAT := hide hat
  obtain ⟨d, rfl⟩ : ∃ d : Nat, hi = lo + d := ⟨(hi - lo).toNat, by omega⟩
  have hsub : lo + (d : Int) - lo = d := by omega
  have HB0 := hide ((((Below.refl w.heap.size w).alloc (Nat.le_refl _) (.cells #[.pointer (some ⟨c, 0, none⟩)] 88)).alloc (by simp) (.cells #[.int .i64 lo] 3)).alloc (by simp; omega) (.cells #[.int .i64 (lo + (d : Int))] 3))
  have s0 : (((w.alloc (.cells #[.pointer (some ⟨c, 0, none⟩)] 88)).alloc (.cells #[.int .i64 lo] 3)).alloc (.cells #[.int .i64 (lo + (d : Int))] 3)).heap.size = w.heap.size + 3 := by simp
  have P0 := ((Boxed.new w 88 (.pointer (some ⟨c, 0, none⟩))).alloc (.cells #[.int .i64 lo] 3)).alloc (.cells #[.int .i64 (lo + (d : Int))] 3)
  have L0 := (Boxed.new (w.alloc (.cells #[.pointer (some ⟨c, 0, none⟩)] 88)) 3 (.int .i64 lo)).alloc (.cells #[.int .i64 (lo + (d : Int))] 3)
  have H0 := Boxed.new ((w.alloc (.cells #[.pointer (some ⟨c, 0, none⟩)] 88)).alloc (.cells #[.int .i64 lo] 3)) 3 (.int .i64 (lo + (d : Int)))
  rw [World.size_alloc] at L0
  rw [World.size_alloc, World.size_alloc] at H0
  have l0c := L0.cell
  have h0c := H0.cell
  have HP0 := hide P0
  have HL0 := hide L0
  have HH0 := hide H0
  clear hT hk hat P0 L0 H0
  refine (callsIn_wide (n := 5)).1 ?_
  refine callsIn_of_wp_marks Tryd.func53 rfl trivial ?_ rfl
  simp only [Tryd.ntmps53, List.size_toArray, List.length_cons, List.length_nil, Nat.reduceAdd, Nat.reduceSub, Array.replicate_succ, Array.replicate_zero, List.push_toArray, List.append_toArray, List.nil_append, List.cons_append]
  gi_wp2_with (gi_at_make; refine wpListIn_make_own _ rfl _ _ 38 rfl w.heap.size 21 i0 (.int .i32 0) 1 Tryd.underlying38 hi0 hz0 hz1 _ _ _ d rfl rfl (by first | rfl | assumption) (by rw [hz2]; omega) (by unfold maxLen; omega) (by omega) ?_; intro w2 hown2 hg2)
  have s2 := hg2.size
  rw [s0] at s2
  have HB2 := hide (HB0.out.grown hg2 (by omega) (fun k hk => by cases hk))
  have HP2 := hide (HP0.out.kept hg2 (by simp))
  have HL2 := hide (HL0.out.kept hg2 (by simp))
  have HH2 := hide (HH0.out.kept hg2 (by simp))
  have HB3 := hide (HB2.out.alloc (by omega) (.cells #[.slice (some ⟨w.heap.size + 3, 0, none⟩) 0 d] 38))
  have HP3 := hide (HP2.out.alloc (.cells #[.slice (some ⟨w.heap.size + 3, 0, none⟩) 0 d] 38))
  have HL3 := hide (HL2.out.alloc (.cells #[.slice (some ⟨w.heap.size + 3, 0, none⟩) 0 d] 38))
  have HH3 := hide (HH2.out.alloc (.cells #[.slice (some ⟨w.heap.size + 3, 0, none⟩) 0 d] 38))
  have HX3 := hide (Boxed.new w2 38 (.slice (some ⟨w.heap.size + 3, 0, none⟩) 0 d))
  rw [s0] at hown2
  have HO3 := hide (hown2.alloc (.cells #[.slice (some ⟨w.heap.size + 3, 0, none⟩) 0 d] 38))
  have s3 : w2.heap.size + 1 ≤ (w2.alloc (.cells #[.slice (some ⟨w.heap.size + 3, 0, none⟩) 0 d] 38)).heap.size := by simp
  clear hown2 hg2 HB0 HP0 HL0 HH0 HB2 HP2 HL2 HH2 l0c h0c s0
  generalize w2.alloc (.cells #[.slice (some ⟨w.heap.size + 3, 0, none⟩) 0 d] 38) = w3 at *
  have q1 := fun d os => cell_regrown HP3.out.cell d os
  have q2 := fun d os => cell_regrown ((HB3.out.cell (p := ⟨c, 1, none⟩) hclt).trans HK.out.c1) d os
  have q3 := fun d os => cell_regrown HL3.out.cell d os
  have q4 := fun d os => cell_regrown HH3.out.cell d os
  refine wpIn_region_tailW 6 (by kernel_rfl) (by kernel_rfl) ?_
  simp only [List.take_succ_cons, List.take_zero, List.drop_succ_cons, List.drop_zero]
  repeat (refine wpQuietIn_step (fun _ _ _ _ => trivial) (fun K hK => ?_); go_simp; first | (refine hK _ ?_; clear hK K) | (apply Exists.intro; refine ⟨fun _ => ?_, hK _ ?_⟩; (fail); clear hK K))
  refine wpQuietIn_nil ?_
  intro _ hw'
  obtain ⟨⟨dq, osq⟩, hw''⟩ := hw'
  subst hw''
  have HQB := hide (below_regrown w3 dq osq)
  clear q1 q2 q3 q4
  generalize grow (redrawn w3 dq) osq = wq at *
  have sq := HQB.out.size
  have HB4 := hide (HB3.out.trans (HQB.out.mono (by omega)))
  have HP4 := hide (show Boxed wq _ _ _ from (HQB.out.block _ HP3.out.lt).trans HP3.out)
  have HL4 := hide (show Boxed wq _ _ _ from (HQB.out.block _ HL3.out.lt).trans HL3.out)
  have HH4 := hide (show Boxed wq _ _ _ from (HQB.out.block _ HH3.out.lt).trans HH3.out)
  have HX4 := hide (show Boxed wq _ _ _ from (HQB.out.block _ HX3.out.lt).trans HX3.out)
  have HO4 := hide (owns_below HO3.out HQB.out (Nat.le_refl _))
  clear HB3 HP3 HL3 HH3 HX3 HO3
  gi_wp2_with (refine ⟨trivial, ?_⟩; (try refine ⟨fun h => (by cases h), ?_⟩); refine (across_in _ _ _ _ _).mono ?_; rintro e w5 ⟨rfl, rfl⟩)
  have hI0 := ((HP4.out.alloc (.cells #[.pointer u] 71)).alloc (.cells #[.int .i64 lo] 3)).alloc (.cells #[.int .i64 (lo + (d : Int))] 3)
  have hL0 := ((HL4.out.alloc (.cells #[.pointer u] 71)).alloc (.cells #[.int .i64 lo] 3)).alloc (.cells #[.int .i64 (lo + (d : Int))] 3)
  have hH0 := ((HH4.out.alloc (.cells #[.pointer u] 71)).alloc (.cells #[.int .i64 lo] 3)).alloc (.cells #[.int .i64 (lo + (d : Int))] 3)
  have hX0 := ((HX4.out.alloc (.cells #[.pointer u] 71)).alloc (.cells #[.int .i64 lo] 3)).alloc (.cells #[.int .i64 (lo + (d : Int))] 3)
  have hO0 := ((HO4.out.alloc (.cells #[.pointer u] 71)).alloc (.cells #[.int .i64 lo] 3)).alloc (.cells #[.int .i64 (lo + (d : Int))] 3)
  have hN0 := ((Boxed.new wq 71 (.pointer u)).alloc (.cells #[.int .i64 lo] 3)).alloc (.cells #[.int .i64 (lo + (d : Int))] 3)
  have hN1 := (Boxed.new (wq.alloc (.cells #[.pointer u] 71)) 3 (.int .i64 lo)).alloc (.cells #[.int .i64 (lo + (d : Int))] 3)
  have hN2 := Boxed.new ((wq.alloc (.cells #[.pointer u] 71)).alloc (.cells #[.int .i64 lo] 3)) 3 (.int .i64 (lo + (d : Int)))
  have hBW := ((HB4.out.alloc HB4.out.size (.cells #[.pointer u] 71)).alloc (by have := HB4.out.size; simp; omega) (.cells #[.int .i64 lo] 3)).alloc (by have := HB4.out.size; simp; omega) (.cells #[.int .i64 (lo + (d : Int))] 3)
  have hs5 : (((wq.alloc (.cells #[.pointer u] 71)).alloc (.cells #[.int .i64 lo] 3)).alloc (.cells #[.int .i64 (lo + (d : Int))] 3)).heap.size = wq.heap.size + 3 := by simp
  rw [World.size_alloc] at hN1
  rw [World.size_alloc, World.size_alloc] at hN2
  obtain ⟨W0, hW0⟩ : ∃ W0, ((wq.alloc (.cells #[.pointer u] 71)).alloc (.cells #[.int .i64 lo] 3)).alloc (.cells #[.int .i64 (lo + (d : Int))] 3) = W0 := ⟨_, rfl⟩
  rw [hW0] at hI0 hL0 hH0 hX0 hO0 hN0 hN1 hN2 hBW hs5 ⊢
  refine wpIn_rangeFunc_ownH rfl (by omega) (gf := 123) (lb := #[.pointer (some ⟨wq.heap.size, 0, none⟩), .pointer (some ⟨wq.heap.size + 1, 0, none⟩), .pointer (some ⟨wq.heap.size + 1 + 1, 0, none⟩)]) rfl trivial (enters_of Tryd.func123 (by kernel_rfl) rfl)
    (across_stops (AcQ zs lo (lo + (d : Int))) lo (lo + (d : Int)) (by omega) (by omega) _ wq.heap.size (wq.heap.size + 1) (wq.heap.size + 1 + 1) w.heap.size u T hok HQ.out W0 (by omega) (by omega) (by omega) (by omega) hN0.cell hN1.cell hN2.cell (HIT.out.below hBW)) belowK_t (belowK_b (by omega)) (Below.refl _ _) (fun _ => rfl)
    (fun pre W => (∃ v, Boxed W w2.heap.size 38 v ∧ W.ownsRow w.heap.size 21 1 v (txA zs lo (lo + (d : Int)) (List.map (fun y : {y : Int × Pc // AcQ zs lo (lo + (d : Int)) y} => y.1) pre)).length (ints .i32 (txA zs lo (lo + (d : Int)) (List.map (fun y : {y : Int × Pc // AcQ zs lo (lo + (d : Int)) y} => y.1) pre))) ∧ True) ∧ (Boxed W w.heap.size 88 (.pointer (some ⟨c, 0, none⟩)) ∧ (Boxed W (w.heap.size + 1) 3 (.int .i64 lo) ∧ (Boxed W (w.heap.size + 1 + 1) 3 (.int .i64 (lo + (d : Int))) ∧ Below w.heap.size w W))))
    (fun _ _ _ => False)
    (OwnFrom.and (Own.from (holdsRow_own w.heap.size w2.heap.size 38 21 1 (fun pre => (txA zs lo (lo + (d : Int)) (List.map (fun y : {y : Int × Pc // AcQ zs lo (lo + (d : Int)) y} => y.1) pre)).length) (fun pre => ints .i32 (txA zs lo (lo + (d : Int)) (List.map (fun y : {y : Int × Pc // AcQ zs lo (lo + (d : Int)) y} => y.1) pre))) (fun _ _ => True)) _) (OwnFrom.and (Own.from (boxed_own w.heap.size 88 (fun _ => .pointer (some ⟨c, 0, none⟩))) _) (OwnFrom.and (Own.from (boxed_own (w.heap.size + 1) 3 (fun _ => .int .i64 lo)) _) (OwnFrom.and (Own.from (boxed_own (w.heap.size + 1 + 1) 3 (fun _ => .int .i64 (lo + (d : Int)))) _) (ownFrom_below (Nat.le_refl _) (by omega))))))
    (fun _ _ _ _ _ hs _ _ => hs)
    ⟨⟨_, hX0, by simpa [txA, ints] using hO0, trivial⟩, hI0, hL0, hH0, hBW⟩
    (fun y a' W => ∃ Bx, True ∧ W.heap[Bx]? = some (.cells #[.int .i64 y.1.2.off, .int .i64 y.1.2.len, .int .i64 y.1.2.brk] 113 (0, 0)) ∧ a' = { tmps := #[.pointer (some ⟨c, 0, none⟩), .int .i64 lo, .int .i64 (lo + (d : Int)), .pointer (some ⟨w.heap.size, 0, none⟩), .pointer (some ⟨w.heap.size + 1, 0, none⟩), .pointer (some ⟨w.heap.size + 1 + 1, 0, none⟩), .slice none 0 0, .pointer (some ⟨w2.heap.size, 0, none⟩), .int .i64 y.1.1, .pointer (some ⟨Bx, 0, none⟩), .int .i64 (lo + (d : Int)), .int .i64 lo, .int .i64 (d : Int), .slice (some ⟨w.heap.size + 3, 0, none⟩) 0 d, .pointer (some ⟨c, 0, none⟩), .pointer (some ⟨c, 0, none⟩), .pointer (some ⟨c, 1, none⟩), .pointer u, .int .i64 lo, .int .i64 (lo + (d : Int)), .func (.func 123) #[] #[.pointer (some ⟨wq.heap.size, 0, none⟩), .pointer (some ⟨wq.heap.size + 1, 0, none⟩), .pointer (some ⟨wq.heap.size + 1 + 1, 0, none⟩)], .int .i64 y.1.1, .agg #[.int .i64 y.1.2.off, .int .i64 y.1.2.len, .int .i64 y.1.2.brk], undef, undef, undef, undef, undef, undef, undef, undef, undef, undef, undef, undef, undef, undef, undef, undef, undef], defers := [] })
    (fun x a' _ W W' row hs hg hr => by
      obtain ⟨Bx, h1, h2, h3⟩ := hs
      refine ⟨Bx, h1, (hg.block Bx (Array.getElem?_eq_some_iff.1 h2).1 (fun e => ?_)).trans h2, h3⟩
      obtain ⟨_, o, ho, hc⟩ := hr Bx e.symm
      rw [h2] at ho; cases ho; cases hc)
    ?assign ?body ?done ?stop
  case assign =>
    rintro l pre x W K ⟨⟨v, hv, hrow, _⟩, hbP, hbL, hbH, hbW⟩ hK
    gi_wp2
    have hle := hbW.size
    refine hK _ _ ((KeepsOthers.alloc _ _).from _) ((Below.refl _ W).alloc hle _) ⟨⟨v, hv.alloc _, hrow.alloc _, trivial⟩, hbP.alloc _, hbL.alloc _, hbH.alloc _, hbW.alloc hle _⟩ ⟨W.heap.size, trivial, heap_alloc_new _ _, rfl⟩
  case body =>
    rintro l pre ⟨⟨hh, pq⟩, hq0⟩ a' W hl ⟨r, hr⟩ ⟨⟨v, hv, hrow, _⟩, hbP, hbL, hbH, hbW⟩ ⟨Bx, _, hkx, rfl⟩ hlt
    have hq := hq0
    obtain ⟨⟨a1, a2, a3, a4⟩, a5, a6, a7, a8, a9, a10⟩ := hq
    simp only at a1 a2 a3 a4 a5 a6 a7 a8 a9 a10
    have k0 : W.cell? ⟨Bx, 0, none⟩ = some (.int .i64 pq.off) := by rw [cell_of_row W _ 0 _ _ _ hkx]; rfl
    have k1 : W.cell? ⟨Bx, 1, none⟩ = some (.int .i64 pq.len) := by rw [cell_of_row W _ 1 _ _ _ hkx]; rfl
    have k2 : W.cell? ⟨Bx, 2, none⟩ = some (.int .i64 pq.brk) := by rw [cell_of_row W _ 2 _ _ _ hkx]; rfl
    have hlx : Bx < W.heap.size := (Array.getElem?_eq_some_iff.1 hkx).1
    have hle := hbW.size
    have HSN := hide (show txA zs lo (lo + (d : Int)) (List.map (fun y : {y : Int × Pc // AcQ zs lo (lo + (d : Int)) y} => y.1) (pre ++ [⟨(hh, pq), hq0⟩])) = txA zs lo (lo + (d : Int)) (List.map (fun y : {y : Int × Pc // AcQ zs lo (lo + (d : Int)) y} => y.1) pre) ++ cutT (ptx zs pq) (lo - hh) (lo + (d : Int) - hh) by rw [List.map_append, txA_append]; simp [txA])
    have HRow := hide hrow
    have HV := hide hv
    have HPB := hide hbP
    have HLB := hide hbL
    have HHB := hide hbH
    have HBW := hide hbW
    have HKW := hide (HK.out.below hbW hclt)
    have HAW := hide (HAT.out.below hbW hbl)
    obtain ⟨asl, csl, rfl⟩ := own32_val (show own32 W w.heap.size v _ from hrow)
    have q0 := fun d os => cell_regrown k0 d os
    have q1 := fun d os => cell_regrown k1 d os
    have q2 := fun d os => cell_regrown k2 d os
    have q3 := fun d os => cell_regrown hbP.cell d os
    have q4 := fun d os => cell_regrown hbL.cell d os
    have q5 := fun d os => cell_regrown hbH.cell d os
    have q6 := fun d os => cell_regrown hv.cell d os
    have hVB := txA_bd zs lo (lo + (d : Int)) pre
    generalize htv : txA zs lo (lo + (d : Int)) (List.map (fun y : {y : Int × Pc // AcQ zs lo (lo + (d : Int)) y} => y.1) pre) = V at *
    clear hr hl hkx hrow hv hbP hbL hbH hbW k0 k1 k2 htv
    obtain ⟨po, pl, pb⟩ := pq
    simp only at *
    obtain ⟨q, rfl⟩ : ∃ q : Nat, po = q := ⟨po.toNat, by omega⟩
    obtain ⟨m, rfl⟩ : ∃ m : Nat, pl = m := ⟨pl.toNat, by omega⟩
    have HMQ := hide (fun d os => CallsIn.regrown_of (F := Fence.wide) (r := 5 - 1 - 1 - 1) (callsIn_wide.2 (textN c b o zs.length cap q m pb u (grow (redrawn W d) os) (HKW.out.below (below_regrown W d os) (Nat.lt_of_lt_of_le hclt hle)) (by omega) (by omega) hcap hm)))
    have w1 : IntKind.i64.wrap (lo - hh) = lo - hh := by rw [IntKind.wrap_i64]; omega
    have w2' : IntKind.i64.wrap (lo + (d : Int) - hh) = lo + (d : Int) - hh := by rw [IntKind.wrap_i64]; omega
    clear a4 htl hsub hW0 hs5 hI0 hL0 hH0 hX0 hO0 hN0 hN1 hN2 hBW
    gi_wp2_with fail
    refine wpIn_region_tail 15 (by kernel_rfl) (by kernel_rfl) (by kernel_rfl) ?_
    simp only [List.take_succ_cons, List.take_zero, List.drop_succ_cons, List.drop_zero]
    repeat (refine wpQuietIn_step (fun _ _ _ _ => trivial) (fun K hK => ?_); go_simp; first | (refine hK _ ?_; clear hK K) | (apply Exists.intro; refine ⟨fun _ => ?_, hK _ ?_⟩; (first | exact ⟨trivial, HMQ.out _ _⟩ | exact HMQ.out _ _); clear hK K))
    obtain ⟨a, ha⟩ : ∃ a : Nat, (if lo - hh < 0 then 0 else lo - hh) = (a : Int) := ⟨(if lo - hh < 0 then 0 else lo - hh).toNat, by split <;> omega⟩
    obtain ⟨e, he⟩ : ∃ e : Nat, (if (m : Int) < lo + (d : Int) - hh then (m : Int) else lo + (d : Int) - hh) = (e : Int) := ⟨(if (m : Int) < lo + (d : Int) - hh then (m : Int) else lo + (d : Int) - hh).toNat, by split <;> omega⟩
    have hae : (a ≤ e ∧ a < m) ∧ e ≤ m ∧ a = (lo - hh).toNat ∧ e - a = min ((lo + (d : Int) - hh).toNat - a) (m - a) ∧ e ≤ d + a := by
      split at ha <;> split at he <;> omega
    rw [ha, he]
    have HCT := hide (cut_piece zs q m a e pb (lo - hh) (lo + (d : Int) - hh) hae.2.2.1 hae.2.2.2.1)
    have hae1 := hae.1.1
    have hae3 := hae.1.2
    have hae2 := hae.2.1
    have g1 : (a : Int) ≤ (e : Int) := by omega
    have g2 : (e : Int) ≤ ((cap - q : Nat) : Int) := by omega
    have g3 : ¬ cap - q = a := by omega
    clear ha he w1 w2' hae
    (refine wpQuietIn_step (fun _ _ _ _ => trivial) (fun K hK => ?_); go_simp; first | (refine hK _ ?_; clear hK K) | (apply Exists.intro; refine ⟨fun _ => ?_, hK _ ?_⟩; (fail); clear hK K))
    refine wpQuietIn_nil ?_
    intro _ hw'
    obtain ⟨⟨dq, osq⟩, hw''⟩ := hw'
    subst hw''
    have HB1 := hide (below_regrown W dq osq)
    clear q0 q1 q2 q3 q4 q5 q6 HMQ
    generalize grow (redrawn W dq) osq = W1 at *
    have sW1 := HB1.out.size
    have HV1 := hide (show Boxed W1 _ _ _ from (HB1.out.block _ HV.out.lt).trans HV.out)
    have HR1 := hide (owns_below HRow.out HB1.out (Nat.le_refl _))
    have HP1 := hide (show Boxed W1 _ _ _ from (HB1.out.block _ HPB.out.lt).trans HPB.out)
    have HL1 := hide (show Boxed W1 _ _ _ from (HB1.out.block _ HLB.out.lt).trans HLB.out)
    have HH1 := hide (show Boxed W1 _ _ _ from (HB1.out.block _ HHB.out.lt).trans HHB.out)
    have HA1 := hide (HAW.out.below HB1.out (Nat.lt_of_lt_of_le hbl hle))
    have HAP := hide (HA1.out.app (q + a) (e - a) (by omega))
    have hUl : ((zs.drop (q + a)).take (e - a)).length = e - a := by rw [List.length_take, List.length_drop]; omega
    have HUL := hide hUl
    have HLE := hide (show (ints .i32 ((zs.drop (q + a)).take (e - a))).length = (e - a) * 1 by rw [ints_length, hUl, Nat.mul_one])
    have hlw : w2.heap.size < W1.heap.size := HV1.out.lt
    rw [← Nat.add_assoc] at HAP
    generalize (zs.drop (q + a)).take (e - a) = U at *
    generalize hVL : V.length = vl at *
    clear hUl
    gi_wp2_with (gi_at_builtin; refine wpListIn_append_own _ rfl _ _ 38 rfl w.heap.size 21 i0 (.int .i32 0) 1 4 Tryd.underlying38 hi0 hz0 hz1 hz2 rfl (by decide) _ vl (ints .i32 V) rfl HR1.out ⟨b, o + q + a, none⟩ (e - a) (cap - q - a) (ints .i32 U) rfl HLE.out HAP.out (ints_one _ _) (by unfold maxLen; omega) (by omega) (by omega) ?_; intro v' w6 hown' hgrow _; obtain ⟨ga, gc, rfl⟩ := row_val hown'; obtain ⟨hv1, hv2, hr2, hk2, hb2⟩ := app2 HV1.out (by decide) HR1.out (by omega) (by omega) hown' hgrow; have hc1 := hv1.cell; have hf1 := hv1.frozen)
    have hb3 := hb2
    have HBN := hide ((HB1.out.mono hle).trans hb2)
    have HNR := hide (show own32 (w6.setCell ⟨w2.heap.size, 0, none⟩ (.slice ga (vl + (e - a)) gc)) w.heap.size _ (V ++ U) from own32_app hVL HUL.out hr2)
    have K6 := hide (fun k (hk : k < W1.heap.size) (h1 : k ≠ w2.heap.size) (h2 : some k ≠ (Value.slice asl vl csl).ownBlock) => (heap_setCell_other w6 ⟨w2.heap.size, 0, none⟩ k (.slice ga (vl + (e - a)) gc) h1).trans (hgrow.block k hk h2))
    refine ⟨((KeepsOthers.of_below HB1.out).trans hk2).from _, HBN.out, ⟨_, hv2, ?_, trivial⟩, ?_, ?_, ?_, HBW.out.trans HBN.out⟩
    · have h9 := HNR.out
      unfold own32 at h9
      rw [← HCT.out, ← HSN.out] at h9
      exact h9
    · exact (K6.out _ HP1.out.lt (by omega) (HP1.out.not_row (by decide) HR1.out)).trans HP1.out
    · exact (K6.out _ HL1.out.lt (by omega) (HL1.out.not_row (by decide) HR1.out)).trans HL1.out
    · exact (K6.out _ HH1.out.lt (by omega) (HH1.out.not_row (by decide) HR1.out)).trans HH1.out
  case done =>
    rintro D ys W hD hys ⟨⟨v, hv, hrow, _⟩, hbP, hbL, hbH, hbW⟩ hK
    have hc := hv.cell
    have htx := HTX.out
    rw [← hys] at htx
    have HR9 := hide (show own32 W w.heap.size v (cutT (T.tx zs) lo (lo + (d : Int))) by
      have h9 : own32 W w.heap.size v _ := hrow
      rw [htx] at h9
      simpa using h9)
    have HB9 := hide hbW
    have HK9 := hide hK
    have hDn := hD
    obtain ⟨ga, gc, rfl⟩ := own32_val HR9.out
    generalize hcl : (cutT (T.tx zs) lo (lo + (d : Int))).length = cl at *
    clear htx hrow hbW hbP hbL hbH hcl
    gi_wp2
    refine ⟨by simp, .inl ⟨_, _, rfl, run_takeDeferred HK9.out, ?_⟩⟩
    have hrow5 := ownsRow_putObj HR9.out (.deferred none) HK9.out rfl
    have bW5 := HB9.out.trans (belowK_b (w := w) (Nat.le_refl _) _ D _ (.deferred none) (by omega) HK9.out rfl rfl)
    exact ⟨.slice ga cl gc, by simp [results, Tryd.results53, go_sem], _, rfl, hrow5, bW5⟩
  case stop =>
    rintro D c pre W _ _ h _
    exact h.elim

theorem pRead_text {zs : List Int} {xs : List It} {T : AT} (h : pRead zs xs = some T) : (∀ x ∈ xs, WP zs x.pc ∧ 1 ≤ x.pc.len) ∧ (txt zs xs).length ≤ 8192 ∧ xs.length ≤ 8192 ∧ txt zs xs = T.tx zs := by
  obtain ⟨h1, h2, h3, h4⟩ := pRead_some h
  obtain ⟨k1, k2, k3, _⟩ := okT_pcs (readT_some h1).1
  have hw : ∀ x ∈ xs, WP zs x.pc := h4 ▸ (wp_told zs T 0).2 h3
  refine ⟨fun x hx => ⟨hw x hx, ?_⟩, ?_, k2, by rw [h4, txt_told]⟩
  · have := k1 x hx
    simp only [pcOk, decide_eq_true_eq] at this
    exact this.1
  · have := txt_len hw; omega
theorem own32_nil (w : World) (base : Nat) : own32 w base (.slice none 0 0) [] := ⟨rfl, .inl ⟨rfl, rfl⟩⟩

/-- What PieceSlice answers. -/
def psTxt (zs : List Int) (xs : List It) (lo hi : Int) : List Int :=
  match pRead zs xs with
  | none => []
  | some T => if 0 ≤ lo ∧ lo ≤ hi ∧ hi ≤ (T.tx zs).length then cutT (T.tx zs) lo hi else []
def psCode (zs : List Int) (xs : List It) (lo hi : Int) : Int :=
  match pRead zs xs with
  | none => 1
  | some T => if 0 ≤ lo ∧ lo ≤ hi ∧ hi ≤ (T.tx zs).length then 0 else 2
theorem psTxt_len (zs : List Int) (xs : List It) (lo hi : Int) : (psTxt zs xs lo hi).length ≤ 8192 := by
  unfold psTxt
  cases hT : pRead zs xs with
  | none => simp
  | some T =>
    have := pRead_text hT
    have h1 := this.2.1
    rw [this.2.2.2] at h1
    simp only
    split
    · unfold cutT; rw [List.length_take, List.length_drop]; omega
    · simp

set_option maxHeartbeats 1000000 in
set_option maxRecDepth 100000 in
theorem implPS (B : Nat) (zs : List Int) (b o cap : Nat) (v : Value) (xs : List It) (lo hi : Int) (w : World) (hc : At32 w b o zs) (hb : b < w.heap.size) (hz : zs.length ≤ 1048576) (hcap : zs.length ≤ cap) (hm : cap ≤ maxLen) (hr : RdI B w v xs) (hB : B ≤ w.heap.size) (hn : xs.length ≤ 1048576) (hg : w.cell? ⟨0, 0, none⟩ = some (.iface 222 (.agg #[.pointer (some ⟨1, 73, none⟩)]))) :
    Calls Tryd.prog 19 #[.agg #[.slice (some ⟨b, o, none⟩) zs.length cap, v], .int .i64 lo, .int .i64 hi] w fun e w' => ∃ v', e = .returned (.tuple #[v', .int .i64 (psCode zs xs lo hi)]) ∧ own32 w' w.heap.size v' (psTxt zs xs lo hi) ∧ Below w.heap.size w w' := by
  obtain ⟨ao, cap', rfl⟩ := hr.val
  have hlt0 : 0 < w.heap.size := World.block_lt_of_cell? w _ hg
  have HX := hide (And.intro (show psTxt zs xs lo hi = (match pRead zs xs with | none => [] | some T => if 0 ≤ lo ∧ lo ≤ hi ∧ hi ≤ (T.tx zs).length then cutT (T.tx zs) lo hi else []) from rfl) (show psCode zs xs lo hi = (match pRead zs xs with | none => 1 | some T => if 0 ≤ lo ∧ lo ≤ hi ∧ hi ≤ (T.tx zs).length then 0 else 2) from rfl))
  generalize psTxt zs xs lo hi = res at HX ⊢
  generalize psCode zs xs lo hi = cde at HX ⊢
  have HB0 := hide ((Below.refl w.heap.size w).alloc (Nat.le_refl _) (.cells #[.slice (some ⟨b, o, none⟩) zs.length cap, .slice ao xs.length cap'] 45))
  have HRP := hide (readPiecesN B zs b o cap _ xs _ (hc.below HB0.out hb) (by simp; omega) hz hcap hm (hr.below HB0.out hB) (by simp; omega) hn)
  have HC0 := hide (hc.below HB0.out hb)
  have hs0 : (w.alloc (.cells #[.slice (some ⟨b, o, none⟩) zs.length cap, .slice ao xs.length cap'] 45)).heap.size = w.heap.size + 1 := by simp
  have HG0 := hide ((HB0.out.cell (p := ⟨0, 0, none⟩) hlt0).trans hg)
  generalize hN : xs.length = n at *
  clear hr hc hg
  go_enter Tryd.func19, Tryd.ntmps19
  go_wp2_with fail
  generalize w.alloc (.cells #[.slice (some ⟨b, o, none⟩) zs.length cap, .slice ao n cap'] 45) = w0 at *
  refine HRP.out.mono ?_
  clear HRP
  cases hT : pRead zs xs with
  | none =>
    rw [hT] at HX
    simp only at HX
    clear hT
    rintro e w1 ⟨⟨msg, rfl⟩, hb1⟩
    have HB1 := hide (HB0.out.trans (hb1.mono (by omega)))
    have HG1 := hide ((hb1.cell (p := ⟨0, 0, none⟩) (by show 0 < w0.heap.size; omega)).trans HG0.out)
    clear hb1
    go_wp2_with fail
    refine (codeOf msg 1 w1 HG1.out).mono ?_
    rintro e w3 ⟨rfl, hb3⟩
    have HB3 := hide (HB1.out.trans (hb3.mono HB1.out.size))
    clear hb3
    go_wp2
    go_ret2
    rw [HX.out.1, HX.out.2]
    exact ⟨_, rfl, own32_nil _ _, HB3.out⟩
  | some T =>
    rw [hT] at HX
    simp only at HX
    have hps := pRead_some hT
    clear hT
    rintro e w1 ⟨c, u, bs, rfl, hcb, hpk, hL, hnd, hnc, hok, hb1⟩
    have s1 := hb1.size
    have hco : PCore w1 w0.heap.size c b o zs.length zs T := ⟨⟨u, bs, hpk, hL⟩, HC0.out.below hb1 (by omega), by omega, hok, hps.2.2.1, ⟨hz, Nat.le_refl _, by unfold maxLen; omega⟩⟩
    have htl := AT.tx_len hps.2.2.1
    have HLN := hide (lengthN T w0.heap.size c b o zs.length zs w1 hco)
    have HSL := hide (fun W (hW : Below w1.heap.size w1 W) h => sliceN T w0.heap.size c b o zs.length zs lo hi W (hco.below hW (Nat.le_refl _)) h)
    have HCR := hide (fun w => checkRangeN lo hi T.rns w)
    have HB1 := hide (HB0.out.trans (hb1.mono (by omega)))
    have HG1 := hide ((hb1.cell (p := ⟨0, 0, none⟩) (by show 0 < w0.heap.size; omega)).trans HG0.out)
    clear hb1 hpk hL hnd hnc hok hps hco HC0
    generalize T.tx zs = tx at *
    generalize T.rns = rn at *
    by_cases hoff : 0 ≤ lo ∧ lo ≤ hi ∧ hi ≤ rn
    · have hoff' : 0 ≤ lo ∧ lo ≤ hi ∧ hi ≤ (tx.length : Int) := by omega
      rw [if_pos hoff', if_pos hoff'] at HX
      rw [show decide ((0 ≤ hi ∧ hi ≤ rn) ∧ (0 ≤ lo ∧ lo ≤ hi)) = true by rw [decide_eq_true_eq]; omega] at HCR
      simp only [errV, if_true] at HCR
      have HSL2 := hide (fun W hW => HSL.out W hW hoff)
      clear htl HSL
      go_wp2_with fail
      refine HLN.out.mono ?_
      rintro e w2 ⟨rfl, hb2⟩
      have HB2 := hide hb2
      clear hb2
      go_wp2_with fail
      refine (HCR.out _).mono ?_
      rintro e wx ⟨rfl, hwx⟩
      have hw2 := hwx.symm
      subst hw2
      go_wp2_with fail
      refine (HSL2.out _ HB2.out).mono ?_
      rintro e w3 ⟨v3, rfl, ho3, hb3⟩
      have HB3 := hide ((HB1.out.trans (HB2.out.mono HB1.out.size)).trans (hb3.mono (Nat.le_trans HB1.out.size HB2.out.size)))
      have HO3 := hide (show own32 w3 w.heap.size v3 _ from owns_base ho3 (Nat.le_trans HB1.out.size HB2.out.size))
      obtain ⟨a3, c3, rfl⟩ := own32_val ho3
      clear hb3 ho3
      go_wp2
      go_ret2
      rw [HX.out.1, HX.out.2]
      exact ⟨_, rfl, HO3.out, HB3.out⟩
    · have hoff' : ¬ (0 ≤ lo ∧ lo ≤ hi ∧ hi ≤ (tx.length : Int)) := by omega
      rw [if_neg hoff', if_neg hoff'] at HX
      rw [show decide ((0 ≤ hi ∧ hi ≤ rn) ∧ (0 ≤ lo ∧ lo ≤ hi)) = false by rw [decide_eq_false_iff_not]; omega] at HCR
      simp only [errV, Bool.false_eq_true, if_false] at HCR
      clear htl HSL hoff hoff'
      go_wp2_with fail
      refine HLN.out.mono ?_
      rintro e w2 ⟨rfl, hb2⟩
      have HB2 := hide (HB1.out.trans (hb2.mono HB1.out.size))
      have HG2 := hide ((hb2.cell (p := ⟨0, 0, none⟩) (by show 0 < w1.heap.size; omega)).trans HG1.out)
      clear hb2
      go_wp2_with fail
      refine (HCR.out _).mono ?_
      rintro e wx ⟨rfl, hwx⟩
      have hw2 := hwx.symm
      subst hw2
      go_wp2_with fail
      refine (codeBare 2 _ HG2.out).mono ?_
      rintro e w3 ⟨rfl, hb3⟩
      have HB3 := hide (HB2.out.trans (hb3.mono HB2.out.size))
      clear hb3
      go_wp2
      go_ret2
      rw [HX.out.1, HX.out.2]
      exact ⟨_, rfl, own32_nil _ _, HB3.out⟩

set_option maxHeartbeats 1000000 in
set_option maxRecDepth 100000 in
theorem specPS (B : Nat) (zs : List Int) (b o cap : Nat) (v : Value) (xs : List It) (lo hi : Int) (w : World) (hc : At32 w b o zs) (hb : b < w.heap.size) (hz : zs.length ≤ 1048576) (hcap : zs.length ≤ cap) (hm : cap ≤ maxLen) (hr : RdI B w v xs) (hB : B ≤ w.heap.size) (hn : xs.length ≤ 1048576) :
    Calls Tryd.prog 17 #[.agg #[.slice (some ⟨b, o, none⟩) zs.length cap, v], .int .i64 lo, .int .i64 hi] w fun e w' => ∃ v', e = .returned (.tuple #[v', .int .i64 (psCode zs xs lo hi)]) ∧ own32 w' w.heap.size v' (psTxt zs xs lo hi) ∧ Below w.heap.size w w' := by
  obtain ⟨i0, hi0, hz0, hz1, hz2⟩ := info_parts Tryd.info32T
  obtain ⟨ao, cap', rfl⟩ := hr.val
  have HX := hide (And.intro (show psTxt zs xs lo hi = (match pRead zs xs with | none => [] | some T => if 0 ≤ lo ∧ lo ≤ hi ∧ hi ≤ (T.tx zs).length then cutT (T.tx zs) lo hi else []) from rfl) (show psCode zs xs lo hi = (match pRead zs xs with | none => 1 | some T => if 0 ≤ lo ∧ lo ≤ hi ∧ hi ≤ (T.tx zs).length then 0 else 2) from rfl))
  generalize psTxt zs xs lo hi = res at HX ⊢
  generalize psCode zs xs lo hi = cde at HX ⊢
  have HB0 := hide ((Below.refl w.heap.size w).alloc (Nat.le_refl _) (.cells #[.slice (some ⟨b, o, none⟩) zs.length cap, .slice ao xs.length cap'] 45))
  have HPV := hide (pvalidS B zs b o cap _ xs _ (hc.below HB0.out hb) (by simp; omega) hz hcap hm (hr.below HB0.out hB) (by simp; omega) hn)
  have hs0 : (w.alloc (.cells #[.slice (some ⟨b, o, none⟩) zs.length cap, .slice ao xs.length cap'] 45)).heap.size = w.heap.size + 1 := by simp
  have HK0 := hide (show (w.alloc (.cells #[.slice (some ⟨b, o, none⟩) zs.length cap, .slice ao xs.length cap'] 45)).heap[w.heap.size]? = some (.cells #[.slice (some ⟨b, o, none⟩) zs.length cap, .slice ao xs.length cap'] 45 (0, 0)) from heap_alloc_new _ _)
  have HPT := hide (fun W (hW : Below w.heap.size w W) h1 h2 h3 => ptextS B zs b o cap _ xs W (hc.below hW hb) (by have := hW.size; omega) hz hcap hm (hr.below hW hB) (by have := hW.size; omega) h1 h2 h3)
  generalize hN : xs.length = n at *
  clear hr hc
  cases hT : pRead zs xs with
  | none =>
    rw [hT] at HX HPV
    simp only [Option.isSome] at HX HPV
    clear hT
    go_enter Tryd.func17, Tryd.ntmps17
    go_wp2_with fail
    generalize w.alloc (.cells #[.slice (some ⟨b, o, none⟩) zs.length cap, .slice ao n cap'] 45) = w0 at *
    refine HPV.out.mono ?_
    rintro e w1 ⟨rfl, hb1⟩
    have HB1 := hide (HB0.out.trans (hb1.mono (by omega)))
    clear hb1
    go_wp2
    go_ret2
    rw [HX.out.1, HX.out.2]
    exact ⟨_, rfl, own32_nil _ _, HB1.out⟩
  | some T =>
    have hpt := pRead_text hT
    rw [hT] at HX HPV
    simp only [Option.isSome] at HX HPV
    have HPT2 := hide (fun W hW => HPT.out W hW (by omega) hpt.1 hpt.2.1)
    have htl := hpt.2.1
    rw [hpt.2.2.2] at HPT2 htl
    clear hT hpt HPT
    generalize T.tx zs = tx at *
    go_enter Tryd.func17, Tryd.ntmps17
    go_wp2_with fail
    generalize w.alloc (.cells #[.slice (some ⟨b, o, none⟩) zs.length cap, .slice ao n cap'] 45) = w0 at *
    refine HPV.out.mono ?_
    rintro e w1 ⟨rfl, hb1⟩
    have HB1 := hide (HB0.out.trans (hb1.mono (by omega)))
    have s1 := hb1.size
    have hk1 := (hb1.block w.heap.size (by omega)).trans HK0.out
    have c0 : w1.cell? ⟨w.heap.size, 0, none⟩ = some (.slice (some ⟨b, o, none⟩) zs.length cap) := by rw [cell_of_row w1 _ 0 _ _ _ hk1]; rfl
    have c1 : w1.cell? ⟨w.heap.size, 1, none⟩ = some (.slice ao n cap') := by rw [cell_of_row w1 _ 1 _ _ _ hk1]; rfl
    have HPT3 := hide (HPT2.out _ HB1.out)
    clear hb1 hk1 HPT2 HPV
    go_wp2_with fail
    refine HPT3.out.mono ?_
    rintro e w2 ⟨vt, rfl, hot, hb2⟩
    have HB2 := hide (HB1.out.trans (hb2.mono HB1.out.size))
    by_cases hoff : 0 ≤ lo ∧ lo ≤ hi ∧ hi ≤ (tx.length : Int)
    · rw [if_pos hoff, if_pos hoff] at HX
      obtain ⟨k, rfl⟩ : ∃ k : Nat, lo = k := ⟨lo.toNat, by omega⟩
      obtain ⟨d, rfl⟩ : ∃ d : Nat, hi = (k : Int) + d := ⟨(hi - k).toNat, by omega⟩
      have hkd : k + d ≤ tx.length := by omega
      have HCU := hide (show cutT tx (k : Int) ((k : Int) + d) = (tx.drop k).take d by unfold cutT; rw [Int.toNat_natCast, show ((k : Int) + d).toNat - k = d by omega])
      have o1 : ¬ (k : Int) < 0 := by omega
      have o2 : ¬ (k : Int) + (d : Int) < (k : Int) := by omega
      have o3 : ¬ (k : Int) + (d : Int) > (tx.length : Int) := by omega
      have HBE := hide (HB2.out.alloc HB2.out.size (.cells #[] 21))
      have HE0 := hide (show own32 (w2.alloc (.cells #[] 21)) w.heap.size _ [] from owns_base (own32_new w2) HB2.out.size)
      have hsE : w.heap.size ≤ (w2.alloc (.cells #[] 21)).heap.size := HBE.out.size
      clear c0 c1 HPT3
      rcases hot.2 with ⟨hvn, h0⟩ | ⟨g, ct, cur, hvn, hrest⟩
      · subst hvn
        obtain rfl : k = 0 := by omega
        obtain rfl : d = 0 := by omega
        rw [h0] at o3
        have HR := hide (show res = [] by rw [HX.out.1, HCU.out]; simp)
        have HCD := hide HX.out.2
        clear hb2 hot hoff hkd HX
        go_wp2_with (at_builtin; refine wpList_append_own_none rfl _ _ 38 rfl w.heap.size 21 i0 1 Tryd.underlying38 hi0 _ _ _ rfl HE0.out rfl ?_)
        go_ret2
        rw [HR.out, HCD.out]
        exact ⟨_, rfl, HE0.out, HBE.out⟩
      · subst hvn
        have hgl : g < w2.heap.size := (hot.lt g rfl).2
        obtain ⟨_, _, hcap9, hcm9, _⟩ := hrest
        have hat : At32 w2 g 0 tx := by
          intro i hi'
          have h9 := hot.cellAt i (by omega)
          rw [Nat.zero_add, h9]
          simp [ints, List.getElem?_eq_getElem hi']
        have HAE := hide (hat.below ((Below.refl w2.heap.size w2).alloc (Nat.le_refl _) (.cells #[] 21)) hgl)
        have HAP := hide (HAE.out.app k d hkd)
        rw [Nat.zero_add] at HAP
        have hul : ((tx.drop k).take d).length = d := by rw [List.length_take, List.length_drop]; omega
        have HUL := hide hul
        have HLE := hide (show (ints .i32 ((tx.drop k).take d)).length = d * 1 by rw [ints_length, hul, Nat.mul_one])
        have HCD := hide HX.out.2
        have HR := hide (HX.out.1.trans HCU.out)
        generalize (tx.drop k).take d = U at *
        generalize tx.length = nt at *
        unfold maxLen at hcm9
        have g1 : (k : Int) ≤ (k : Int) + (d : Int) := by omega
        have g2 : (k : Int) + (d : Int) ≤ (ct : Int) := by omega
        have g4 : (0 : Int) ≤ (k : Int) + (d : Int) := by omega
        clear hb2 hot hoff HX HCU hul hat
        by_cases hco : ct = k
        · obtain rfl : d = 0 := by omega
          subst hco
          go_wp2_with (at_builtin; refine wpList_append_own _ rfl _ _ 38 rfl w.heap.size 21 i0 (.int .i32 0) 1 4 Tryd.underlying38 hi0 hz0 hz1 hz2 rfl (by decide) _ 0 [] rfl HE0.out ⟨g, 0, none⟩ 0 _ (ints .i32 U) rfl (by have := HLE.out; omega) (by intro j u hj; have h7 := HLE.out; rw [List.getElem?_eq_none (by omega)] at hj; cases hj) (ints_one _ _) (by unfold maxLen; omega) (by omega) hsE ?_; intro v3 w3 hown' hgrow _)
          have HB3 := hide (HBE.out.grown hgrow hsE (fun q hq => (HE0.out.lt q hq).1))
          have HO3 := hide (show own32 w3 w.heap.size v3 U from by have h7 := own32_app (E := []) rfl HUL.out hown'; simpa using h7)
          obtain ⟨a3, c3, rfl⟩ := own32_val HO3.out
          clear hown' hgrow
          go_wp2
          go_ret2
          rw [HR.out, HCD.out]
          exact ⟨_, rfl, HO3.out, HB3.out⟩
        · go_wp2_with (at_builtin; refine wpList_append_own _ rfl _ _ 38 rfl w.heap.size 21 i0 (.int .i32 0) 1 4 Tryd.underlying38 hi0 hz0 hz1 hz2 rfl (by decide) _ 0 [] rfl HE0.out ⟨g, k, none⟩ (k + d - k) (ct - k) (ints .i32 U) rfl (by have := HLE.out; omega) HAP.out (ints_one _ _) (by unfold maxLen; omega) (by omega) hsE ?_; intro v3 w3 hown' hgrow _)
          have HB3 := hide (HBE.out.grown hgrow hsE (fun q hq => (HE0.out.lt q hq).1))
          have HO3 := hide (show own32 w3 w.heap.size v3 U from by have h7 := own32_app (E := []) (m := k + d - k) rfl (by rw [HUL.out]; omega) hown'; simpa using h7)
          obtain ⟨a3, c3, rfl⟩ := own32_val HO3.out
          clear hown' hgrow
          go_wp2
          go_ret2
          rw [HR.out, HCD.out]
          exact ⟨_, rfl, HO3.out, HB3.out⟩
    · rw [if_neg hoff, if_neg hoff] at HX
      obtain ⟨at', ct, rfl⟩ := own32_val hot
      clear hb2 hot HPT3 c0 c1
      by_cases o1 : lo < 0
      · go_wp2
        go_ret2
        rw [HX.out.1, HX.out.2]
        exact ⟨_, rfl, own32_nil _ _, HB2.out⟩
      · by_cases o2 : hi < lo
        · go_wp2
          go_ret2
          rw [HX.out.1, HX.out.2]
          exact ⟨_, rfl, own32_nil _ _, HB2.out⟩
        · have o3 : hi > (tx.length : Int) := by omega
          go_wp2
          go_ret2
          rw [HX.out.1, HX.out.2]
          exact ⟨_, rfl, own32_nil _ _, HB2.out⟩
end Go.Proofs.YtbgngikejgihgafDoor
