import Derived.Lib.QuietBelow
import Derived.Test.YtbgngikejgihgafGreatDoorMq20
namespace Go.Proofs.YtbgngikejgihgafGreatDoor
open Go Go.RowKit Go.Sort
set_option linter.unusedVariables false
set_option maxRecDepth 100000
set_option maxHeartbeats 8000000
structure PCore (w : World) (base c b o cap : Nat) (zs : List Int) (T : AT) : Prop where
 k : ∃ u bs, PK w c b o zs.length cap u ∧ Lies w base T u bs
 a : At32 w b o zs
 b : b < w.heap.size
 ok : T.ok
 wp : T.wp zs
 n : zs.length <= 1048576 ∧ zs.length <= cap ∧ cap <= maxLen
theorem PCore.below {B base c b o cap : Nat} {w w' : World} {zs : List Int} {T : AT} (h : PCore w base c b o cap zs T) (hb : Below B w w') (hB : w.heap.size <= B) : PCore w' base c b o cap zs T := by
 obtain ⟨⟨u, bs, h1, h2⟩, h3, h4, h5, h6, h7⟩ := h;have hs := hb.size;have hl := h1.lt
 exact ⟨⟨u, bs, h1.below hb (by omega), h2.below hb hB⟩, h3.below hb (by omega), by have := (Below.mono hb hB).size; omega, h5, h6, h7⟩
theorem textN (c b o n cap q m : Nat) (pb : Int) (u : Option Addr) (w : World) (hk : PK w c b o n cap u) (h : q + m <= n) (h0 : 0 < m ∨ q = 0) (hcap : n <= cap) (hm : cap <= maxLen) :
  Calls Tryz.prog 96 #[.pointer (some ⟨c, 0, none⟩), .agg #[.int .i64 (q : Int), .int .i64 (m : Int), .int .i64 pb]] w fun e w' => e = .returned (.slice (some ⟨b, o + q, none⟩) m (cap - q)) ∧ Below w.heap.size w w' := by
 have HB0 := hide ((Below.refl w.heap.size w).alloc lR (.cells #[.int .i64 (q : Int), .int .i64 (m : Int), .int .i64 pb] 87));have c0 := (HB0.out.cell (p := ⟨c, 0, none⟩) hk.lt).trans hk.c0;have KA : (w.alloc (.cells #[.int .i64 (q : Int), .int .i64 (m : Int), .int .i64 pb] 87)).heap[w.heap.size]? = some (.cells #[.int .i64 (q : Int), .int .i64 (m : Int), .int .i64 pb] 87 (0, 0)) := heap_alloc_new _ _
 have d0 : (w.alloc (.cells #[.int .i64 (q : Int), .int .i64 (m : Int), .int .i64 pb] 87)).cell? ⟨w.heap.size, 0, none⟩ = some (.int .i64 (q : Int)) := by rw [cell_of_row _ _ 0 _ _ _ KA]; rfl
 have d1 : (w.alloc (.cells #[.int .i64 (q : Int), .int .i64 (m : Int), .int .i64 pb] 87)).cell? ⟨w.heap.size, 1, none⟩ = some (.int .i64 (m : Int)) := by rw [cell_of_row _ _ 1 _ _ _ KA]; rfl
 have hs0 : (w.alloc (.cells #[.int .i64 (q : Int), .int .i64 (m : Int), .int .i64 pb] 87)).heap.size = w.heap.size + 1 := by simp
 unfold maxLen at hm
 have g1 : (q : Int) <= (q : Int) + (m : Int) := by omega
 have g2 : (q : Int) + (m : Int) <= (cap : Int) := by omega
 have g4 : (0 : Int) <= (q : Int) + (m : Int) := by omega
 clear hk KA
 by_cases hco : cap = q
 ·obtain rfl : q = 0 := by omega
  obtain rfl : m = 0 := by omega
  subst hco;go_enter Tryz.func96, Tryz.ntmps96;go_wp2_with fail;generalize w.alloc (.cells #[.int .i64 ((0 : Nat) : Int), .int .i64 ((0 : Nat) : Int), .int .i64 pb] 87) = w0 at *;go_quiet (fail)
  have HBN := hide (show Below w.heap.size w (w0.drewN nq) from HB0.out.trans (Y5 _ _ _))
  go_wp2;go_ret;exact ⟨rfl, HBN.out⟩
 ·have HQM := hide (show Ending.returned (.slice (some ⟨b, o + q, none⟩) (q + m - q) (cap - q)) = Ending.returned (.slice (some ⟨b, o + q, none⟩) m (cap - q)) by rw [show q + m - q = m by omega])
  go_enter Tryz.func96, Tryz.ntmps96;go_wp2_with fail;generalize w.alloc (.cells #[.int .i64 (q : Int), .int .i64 (m : Int), .int .i64 pb] 87) = w0 at *;go_quiet (fail)
  have HBN := hide (show Below w.heap.size w (w0.drewN nq) from HB0.out.trans (Y5 _ _ _))
  go_wp2;go_ret;exact ⟨Eq.trans rfl HQM.out, HBN.out⟩
theorem zBw (T : AT) (base c b o cap : Nat) (zs : List Int) (w : World) (h : PCore w base c b o cap zs T) :
  Calls Tryz.prog 52 #[.pointer (some ⟨c, 0, none⟩)] w fun e w' => e = .returned (.int .i64 T.rns) ∧ Below w.heap.size w w' := by
 obtain ⟨⟨u, bs, h1, h2⟩, _⟩ := h;have c1 := h1.c1;have HA := hide (allN T u bs base w h2);clear h1 h2;go_enter Tryz.func52, Tryz.ntmps52;go_wp2_with fail;refine HA.out.mono ?_;rintro e w1 ⟨rfl, hb1⟩;have HB1 := hide hb1;have fl1 := Tryz.fld1;unfold cnt;clear hb1;go_wp2;go_ret;exact ⟨rfl, HB1.out⟩
end Go.Proofs.YtbgngikejgihgafGreatDoor
namespace Go.Proofs.YtbgngikejgihgafGreatDoor
open Go Go.RowKit Go.Shelf Go.Sort
set_option linter.unusedVariables false
set_option maxRecDepth 100000
set_option maxHeartbeats 8000000
attribute [local go_sem] Oper.semAt_some
theorem app2 {W w1 : World} {n₀ B : Nat} {t e : TypeId} {size : Nat} {v v' : Value} {k m : Nat} {xs ys : List Value}
  (hv : Boxed W B t v) (hte : t ≠ e) (hrow : W.ownsRow n₀ e size v k xs) (hn₀ : n₀ <= W.heap.size) (hB : n₀ <= B)
  (hown' : w1.ownsRow n₀ e size v' m ys) (hgrow : W.grownBy w1 v.ownBlock) :
  Boxed w1 B t v ∧ Boxed (w1.setCell ⟨B, 0, none⟩ v') B t v' ∧ (w1.setCell ⟨B, 0, none⟩ v').ownsRow n₀ e size v' m ys ∧ KeepsOthers W (w1.setCell ⟨B, 0, none⟩ v') ∧ Below n₀ W (w1.setCell ⟨B, 0, none⟩ v') := by
 have hv1 : Boxed w1 B t v := hv.kept hgrow (hv.not_row hte hrow);refine ⟨hv1, hv1.set v', hown'.kept (grownBy_setCell' w1 B v') (.inr (hv1.not_row hte hown').symm), ?_, ?_⟩
 ·refine (KeepsOthers.of_grownBy hgrow fun j o ej hj => ?_).trans (KeepsOthers.setCell _ _ _)
  rcases hrow.2 with ⟨rfl, _⟩ | ⟨g, cap, cur, rfl, _, hgb, _⟩
  ·simp [Value.ownBlock] at ej
  ·obtain rfl : g = j := by simpa [Value.ownBlock] using ej
   rw [hgb] at hj; cases hj; rfl
 ·refine ((Below.refl n₀ W).grown hgrow hn₀ fun j ej => ?_).setCell (p := ⟨B, 0, none⟩) hB v'
  exact (hrow.lt j ej).1
theorem zCw (zs : List Int) (q m a e : Nat) (pb x y : Int) (ha : a = x.toNat) (he : e - a = min (y.toNat - a) (m - a)) : cutT (ptx zs ⟨(q : Int), (m : Int), pb⟩) x y = (zs.drop (q + a)).take (e - a) := by
 unfold cutT ptx;simp only [Int.toNat_natCast];rw [<- ha, List.drop_take, List.drop_drop, List.take_take, he]
theorem txA_bd (zs : List Int) (lo hi : Int) : ∀ pre : List {y : Int × Pc // AcQ zs lo hi y}, (txA zs lo hi (List.map (fun y : {y : Int × Pc // AcQ zs lo hi y} => y.1) pre)).length <= 8192 * pre.length
 | [] => by simp [txA]
 | ⟨y, hy⟩ :: pre => by
  have ih := txA_bd zs lo hi pre;have h1 := jB hy.1;have h2 : y.2.len <= 8192 := hy.2.2.2.2.2.1
  have h3 : (cutT (ptx zs y.2) (lo - y.1) (hi - y.1)).length <= (ptx zs y.2).length := by
   unfold cutT; rw [List.length_take, List.length_drop]; omega
  simp only [List.map_cons, txA, List.length_append, List.length_cons];omega
theorem row_val {w : World} {base e size n : Nat} {v : Value} {xs : List Value} (h : w.ownsRow base e size v n xs) : ∃ ao cap, v = .slice ao n cap := by
 rcases h.2 with ⟨rfl, h0⟩ | ⟨g, cap, cur, rfl, _⟩
 ·exact ⟨none, 0, by rw [h0]⟩
 ·exact ⟨_, _, rfl⟩
theorem Ye : ∀ T : AT, T.ok -> T.pos
 | .nil, _ => trivial
 | .node l p r, h => ⟨Ye l h.left, by have := h.piece; omega, Ye r h.right⟩
theorem sliceN (T : AT) (base c b o cap : Nat) (zs : List Int) (lo hi : Int) (w : World) (h : PCore w base c b o cap zs T) (hlo : 0 <= lo ∧ lo <= hi ∧ hi <= T.rns) :
  Calls Tryz.prog 53 #[.pointer (some ⟨c, 0, none⟩), .int .i64 lo, .int .i64 hi] w fun e w' => ∃ v, e = .returned v ∧ own32 w' w.heap.size v (cutT (T.tx zs) lo hi) ∧ Below w.heap.size w w' := by
 obtain ⟨i0, hi0, hz0, hz1, hz2⟩ := info_parts Tryz.info32T;obtain ⟨⟨u, bs, hk, hT⟩, hat, hbl, hok, hwp, hn, hcap, hm⟩ := h;have bT := hok.bd
 have HIT := hide (show IsT w.heap.size w u T from ⟨base, bs, hT, fun x hx => (hT.lt x hx).2⟩)
 have HQ := hide (acr_q zs lo hi T 0 hwp (Ye T hok) (by omega) (by omega))
 have HTX := hide (zAg zs lo hi hlo.2.1 T 0 hwp);have htl := AT.tx_len hwp;have hclt := hk.lt;have HK := hide hk;have HAT := hide hat
 obtain ⟨d, rfl⟩ : ∃ d : Nat, hi = lo + d := ⟨(hi - lo).toNat, by omega⟩
 have hsub : lo + (d : Int) - lo = d := by omega
 have HB0 := hide ((((Below.refl w.heap.size w).alloc lR (.cells #[.pointer (some ⟨c, 0, none⟩)] 71)).alloc (by simp) (.cells #[.int .i64 lo] 3)).alloc (by simp; omega) (.cells #[.int .i64 (lo + (d : Int))] 3))
 have s0 : (((w.alloc (.cells #[.pointer (some ⟨c, 0, none⟩)] 71)).alloc (.cells #[.int .i64 lo] 3)).alloc (.cells #[.int .i64 (lo + (d : Int))] 3)).heap.size = w.heap.size + 3 := by simp
 have P0 := ((Boxed.new w 71 (.pointer (some ⟨c, 0, none⟩))).alloc (.cells #[.int .i64 lo] 3)).alloc (.cells #[.int .i64 (lo + (d : Int))] 3);have L0 := (Boxed.new (w.alloc (.cells #[.pointer (some ⟨c, 0, none⟩)] 71)) 3 (.int .i64 lo)).alloc (.cells #[.int .i64 (lo + (d : Int))] 3);have H0 := Boxed.new ((w.alloc (.cells #[.pointer (some ⟨c, 0, none⟩)] 71)).alloc (.cells #[.int .i64 lo] 3)) 3 (.int .i64 (lo + (d : Int)));rw [World.size_alloc] at L0;rw [World.size_alloc, World.size_alloc] at H0;have l0c := L0.cell;have h0c := H0.cell;have HP0 := hide P0;have HL0 := hide L0;have HH0 := hide H0;clear hT hk hat P0 L0 H0;refine (callsIn_wide (n := 5)).1 ?_;refine callsIn_of_wp_marks Tryz.func53 rfl trivial ?_ rfl;simp only [Tryz.ntmps53, List.size_toArray, List.length_cons, List.length_nil, Nat.reduceAdd, Nat.reduceSub, Array.replicate_succ, Array.replicate_zero, List.push_toArray, List.append_toArray, List.nil_append, List.cons_append]
 gi_wp2_with (gi_at_make; refine wpListIn_make_own _ rfl _ _ 25 rfl w.heap.size 21 i0 (.int .i32 0) 1 Tryz.underlying25 hi0 hz0 hz1 _ _ _ d rfl rfl (by first | rfl | assumption) (by rw [hz2]; omega) (by unfold maxLen; omega) (by omega) ?_; intro w2 hown2 hg2)
 have s2 := hg2.size;rw [s0] at s2
 have HB2 := hide (HB0.out.grown hg2 (by omega) (fun k hk => by cases hk))
 have HP2 := hide (HP0.out.kept hg2 (by simp))
 have HL2 := hide (HL0.out.kept hg2 (by simp))
 have HH2 := hide (HH0.out.kept hg2 (by simp))
 have HB3 := hide (HB2.out.alloc (by omega) (.cells #[.slice (some ⟨w.heap.size + 3, 0, none⟩) 0 d] 25))
 have HP3 := hide (HP2.out.alloc (.cells #[.slice (some ⟨w.heap.size + 3, 0, none⟩) 0 d] 25));have HL3 := hide (HL2.out.alloc (.cells #[.slice (some ⟨w.heap.size + 3, 0, none⟩) 0 d] 25));have HH3 := hide (HH2.out.alloc (.cells #[.slice (some ⟨w.heap.size + 3, 0, none⟩) 0 d] 25));have HX3 := hide (Boxed.new w2 25 (.slice (some ⟨w.heap.size + 3, 0, none⟩) 0 d));rw [s0] at hown2;have HO3 := hide (hown2.alloc (.cells #[.slice (some ⟨w.heap.size + 3, 0, none⟩) 0 d] 25))
 have s3 : w2.heap.size + 1 <= (w2.alloc (.cells #[.slice (some ⟨w.heap.size + 3, 0, none⟩) 0 d] 25)).heap.size := by simp
 clear hown2 hg2 HB0 HP0 HL0 HH0 HB2 HP2 HL2 HH2 l0c h0c s0;generalize w2.alloc (.cells #[.slice (some ⟨w.heap.size + 3, 0, none⟩) 0 d] 25) = w3 at *
 have q1 := fun d os => cell_regrown HP3.out.cell d os
 have q2 := fun d os => cell_regrown ((HB3.out.cell (p := ⟨c, 1, none⟩) hclt).trans HK.out.c1) d os
 have q3 := fun d os => cell_regrown HL3.out.cell d os
 have q4 := fun d os => cell_regrown HH3.out.cell d os
 refine yC 6 (by kernel_rfl) (by kernel_rfl) ?_
 simp only [List.take_succ_cons, List.take_zero, List.drop_succ_cons, List.drop_zero]
 repeat (refine wpQuietIn_step (fun _ _ _ _ => trivial) (fun K hK => ?_); go_simp; first | (refine hK _ ?_; clear hK K) | (apply Exists.intro; refine ⟨fun _ => ?_, hK _ ?_⟩; (fail); clear hK K))
 refine wpQuietIn_nil ?_;intro _ hw';obtain ⟨⟨dq, osq⟩, hw''⟩ := hw';subst hw'';have HQB := hide (below_regrown w3 dq osq);clear q1 q2 q3 q4;generalize grow (redrawn w3 dq) osq = wq at *;have sq := HQB.out.size
 have HB4 := hide (HB3.out.trans (HQB.out.mono (by omega)))
 have HP4 := hide (show Boxed wq _ _ _ from (HQB.out.block _ HP3.out.lt).trans HP3.out)
 have HL4 := hide (show Boxed wq _ _ _ from (HQB.out.block _ HL3.out.lt).trans HL3.out)
 have HH4 := hide (show Boxed wq _ _ _ from (HQB.out.block _ HH3.out.lt).trans HH3.out)
 have HX4 := hide (show Boxed wq _ _ _ from (HQB.out.block _ HX3.out.lt).trans HX3.out)
 have HO4 := hide (zD HO3.out HQB.out lR);clear HB3 HP3 HL3 HH3 HX3 HO3
 gi_wp2_with (refine ⟨trivial, ?_⟩; (try refine ⟨fun h => (by cases h), ?_⟩); refine (zCv _ _ _ _ _).mono ?_; rintro e w5 ⟨rfl, rfl⟩)
 have hI0 := ((HP4.out.alloc (.cells #[.pointer u] 124)).alloc (.cells #[.int .i64 lo] 3)).alloc (.cells #[.int .i64 (lo + (d : Int))] 3);have hL0 := ((HL4.out.alloc (.cells #[.pointer u] 124)).alloc (.cells #[.int .i64 lo] 3)).alloc (.cells #[.int .i64 (lo + (d : Int))] 3);have hH0 := ((HH4.out.alloc (.cells #[.pointer u] 124)).alloc (.cells #[.int .i64 lo] 3)).alloc (.cells #[.int .i64 (lo + (d : Int))] 3);have hX0 := ((HX4.out.alloc (.cells #[.pointer u] 124)).alloc (.cells #[.int .i64 lo] 3)).alloc (.cells #[.int .i64 (lo + (d : Int))] 3);have hO0 := ((HO4.out.alloc (.cells #[.pointer u] 124)).alloc (.cells #[.int .i64 lo] 3)).alloc (.cells #[.int .i64 (lo + (d : Int))] 3);have hN0 := ((Boxed.new wq 124 (.pointer u)).alloc (.cells #[.int .i64 lo] 3)).alloc (.cells #[.int .i64 (lo + (d : Int))] 3);have hN1 := (Boxed.new (wq.alloc (.cells #[.pointer u] 124)) 3 (.int .i64 lo)).alloc (.cells #[.int .i64 (lo + (d : Int))] 3);have hN2 := Boxed.new ((wq.alloc (.cells #[.pointer u] 124)).alloc (.cells #[.int .i64 lo] 3)) 3 (.int .i64 (lo + (d : Int)))
 have hBW := ((HB4.out.alloc HB4.out.size (.cells #[.pointer u] 124)).alloc (by have := HB4.out.size; simp; omega) (.cells #[.int .i64 lo] 3)).alloc (by have := HB4.out.size; simp; omega) (.cells #[.int .i64 (lo + (d : Int))] 3)
 have hs5 : (((wq.alloc (.cells #[.pointer u] 124)).alloc (.cells #[.int .i64 lo] 3)).alloc (.cells #[.int .i64 (lo + (d : Int))] 3)).heap.size = wq.heap.size + 3 := by simp
 rw [World.size_alloc] at hN1;rw [World.size_alloc, World.size_alloc] at hN2;obtain ⟨W0, hW0⟩ : ∃ W0, ((wq.alloc (.cells #[.pointer u] 124)).alloc (.cells #[.int .i64 lo] 3)).alloc (.cells #[.int .i64 (lo + (d : Int))] 3) = W0 := ⟨_, rfl⟩;rw [hW0] at hI0 hL0 hH0 hX0 hO0 hN0 hN1 hN2 hBW hs5 |-
 refine wpIn_rangeFunc_ownH rfl (by omega) (gf := 121) (lb := #[.pointer (some ⟨wq.heap.size, 0, none⟩), .pointer (some ⟨wq.heap.size + 1, 0, none⟩), .pointer (some ⟨wq.heap.size + 1 + 1, 0, none⟩)]) rfl trivial (enters_of Tryz.func121 (by kernel_rfl) rfl)
  (Xi (AcQ zs lo (lo + (d : Int))) lo (lo + (d : Int)) (by omega) (by omega) _ wq.heap.size (wq.heap.size + 1) (wq.heap.size + 1 + 1) w.heap.size u T hok HQ.out W0 (by omega) (by omega) (by omega) (by omega) hN0.cell hN1.cell hN2.cell (HIT.out.below hBW)) belowK_t (belowK_b (by omega)) (Below.refl _ _) (fun _ => rfl)
  (fun pre W => (∃ v, Boxed W w2.heap.size 25 v ∧ W.ownsRow w.heap.size 21 1 v (txA zs lo (lo + (d : Int)) (List.map (fun y : {y : Int × Pc // AcQ zs lo (lo + (d : Int)) y} => y.1) pre)).length (ints .i32 (txA zs lo (lo + (d : Int)) (List.map (fun y : {y : Int × Pc // AcQ zs lo (lo + (d : Int)) y} => y.1) pre))) ∧ True) ∧ (Boxed W w.heap.size 71 (.pointer (some ⟨c, 0, none⟩)) ∧ (Boxed W (w.heap.size + 1) 3 (.int .i64 lo) ∧ (Boxed W (w.heap.size + 1 + 1) 3 (.int .i64 (lo + (d : Int))) ∧ Below w.heap.size w W))))
  (fun _ _ _ => False)
  (OwnFrom.and (Own.from (holdsRow_own w.heap.size w2.heap.size 25 21 1 (fun pre => (txA zs lo (lo + (d : Int)) (List.map (fun y : {y : Int × Pc // AcQ zs lo (lo + (d : Int)) y} => y.1) pre)).length) (fun pre => ints .i32 (txA zs lo (lo + (d : Int)) (List.map (fun y : {y : Int × Pc // AcQ zs lo (lo + (d : Int)) y} => y.1) pre))) (fun _ _ => True)) _) (OwnFrom.and (Own.from (boxed_own w.heap.size 71 (fun _ => .pointer (some ⟨c, 0, none⟩))) _) (OwnFrom.and (Own.from (boxed_own (w.heap.size + 1) 3 (fun _ => .int .i64 lo)) _) (OwnFrom.and (Own.from (boxed_own (w.heap.size + 1 + 1) 3 (fun _ => .int .i64 (lo + (d : Int)))) _) (ownFrom_below lR (by omega))))))
  (fun _ _ _ _ _ hs _ _ => hs)
  ⟨⟨_, hX0, by simpa [txA, ints] using hO0, trivial⟩, hI0, hL0, hH0, hBW⟩
  (fun y a' W => ∃ Bx, True ∧ W.heap[Bx]? = some (.cells #[.int .i64 y.1.2.off, .int .i64 y.1.2.len, .int .i64 y.1.2.brk] 87 (0, 0)) ∧ a' = { tmps := #[.pointer (some ⟨c, 0, none⟩), .int .i64 lo, .int .i64 (lo + (d : Int)), .pointer (some ⟨w.heap.size, 0, none⟩), .pointer (some ⟨w.heap.size + 1, 0, none⟩), .pointer (some ⟨w.heap.size + 1 + 1, 0, none⟩), .slice none 0 0, .pointer (some ⟨w2.heap.size, 0, none⟩), .int .i64 y.1.1, .pointer (some ⟨Bx, 0, none⟩), .int .i64 (lo + (d : Int)), .int .i64 lo, .int .i64 (d : Int), .slice (some ⟨w.heap.size + 3, 0, none⟩) 0 d, .pointer (some ⟨c, 0, none⟩), .pointer (some ⟨c, 0, none⟩), .pointer (some ⟨c, 1, none⟩), .pointer u, .int .i64 lo, .int .i64 (lo + (d : Int)), .func (.func 121) #[] #[.pointer (some ⟨wq.heap.size, 0, none⟩), .pointer (some ⟨wq.heap.size + 1, 0, none⟩), .pointer (some ⟨wq.heap.size + 1 + 1, 0, none⟩)], .int .i64 y.1.1, .agg #[.int .i64 y.1.2.off, .int .i64 y.1.2.len, .int .i64 y.1.2.brk], undef, undef, undef, undef, undef, undef, undef, undef, undef, undef, undef, undef, undef, undef, undef, undef, undef], defers := [] })
  (fun x a' _ W W' row hs hg hr => by
   obtain ⟨Bx, h1, h2, h3⟩ := hs
   refine ⟨Bx, h1, (hg.block Bx (Array.getElem?_eq_some_iff.1 h2).1 (fun e => ?_)).trans h2, h3⟩
   obtain ⟨_, o, ho, hc⟩ := hr Bx e.symm
   rw [h2] at ho; cases ho; cases hc)
  ?assign ?body ?done ?stop
 case assign =>
  rintro l pre x W K ⟨⟨v, hv, hrow, _⟩, hbP, hbL, hbH, hbW⟩ hK
  gi_wp2
  have hle := hbW.size
  refine hK _ _ ((KeepsOthers.alloc _ _).from _) ((Below.refl _ W).alloc hle _) ⟨⟨v, hv.alloc _, hrow.alloc _, trivial⟩, hbP.alloc _, hbL.alloc _, hbH.alloc _, hbW.alloc hle _⟩ ⟨W.heap.size, trivial, heap_alloc_new _ _, rfl⟩
 case body =>
  rintro l pre ⟨⟨hh, pq⟩, hq0⟩ a' W hl ⟨r, hr⟩ ⟨⟨v, hv, hrow, _⟩, hbP, hbL, hbH, hbW⟩ ⟨Bx, _, hkx, rfl⟩ hlt;have hq := hq0;obtain ⟨⟨a1, a2, a3, a4⟩, a5, a6, a7, a8, a9, a10⟩ := hq;simp only at a1 a2 a3 a4 a5 a6 a7 a8 a9 a10
  have k0 : W.cell? ⟨Bx, 0, none⟩ = some (.int .i64 pq.off) := by rw [cell_of_row W _ 0 _ _ _ hkx]; rfl
  have k1 : W.cell? ⟨Bx, 1, none⟩ = some (.int .i64 pq.len) := by rw [cell_of_row W _ 1 _ _ _ hkx]; rfl
  have k2 : W.cell? ⟨Bx, 2, none⟩ = some (.int .i64 pq.brk) := by rw [cell_of_row W _ 2 _ _ _ hkx]; rfl
  have hlx : Bx < W.heap.size := (Array.getElem?_eq_some_iff.1 hkx).1;have hle := hbW.size
  have HSN := hide (show txA zs lo (lo + (d : Int)) (List.map (fun y : {y : Int × Pc // AcQ zs lo (lo + (d : Int)) y} => y.1) (pre ++ [⟨(hh, pq), hq0⟩])) = txA zs lo (lo + (d : Int)) (List.map (fun y : {y : Int × Pc // AcQ zs lo (lo + (d : Int)) y} => y.1) pre) ++ cutT (ptx zs pq) (lo - hh) (lo + (d : Int) - hh) by rw [List.map_append, Zx]; simp [txA])
  have HRow := hide hrow;have HV := hide hv;have HPB := hide hbP;have HLB := hide hbL;have HHB := hide hbH;have HBW := hide hbW;have HKW := hide (HK.out.below hbW hclt);have HAW := hide (HAT.out.below hbW hbl)
  obtain ⟨asl, csl, rfl⟩ := zj (show own32 W w.heap.size v _ from hrow)
  have q0 := fun d os => cell_regrown k0 d os
  have q1 := fun d os => cell_regrown k1 d os
  have q2 := fun d os => cell_regrown k2 d os
  have q3 := fun d os => cell_regrown hbP.cell d os
  have q4 := fun d os => cell_regrown hbL.cell d os
  have q5 := fun d os => cell_regrown hbH.cell d os
  have q6 := fun d os => cell_regrown hv.cell d os
  have hVB := txA_bd zs lo (lo + (d : Int)) pre
  generalize htv : txA zs lo (lo + (d : Int)) (List.map (fun y : {y : Int × Pc // AcQ zs lo (lo + (d : Int)) y} => y.1) pre) = V at *
  clear hr hl hkx hrow hv hbP hbL hbH hbW k0 k1 k2 htv;obtain ⟨po, pl, pb⟩ := pq;simp only at *
  obtain ⟨q, rfl⟩ : ∃ q : Nat, po = q := ⟨po.toNat, by omega⟩
  obtain ⟨m, rfl⟩ : ∃ m : Nat, pl = m := ⟨pl.toNat, by omega⟩
  have HMQ := hide (fun d os => CallsIn.regrown_of (F := Fence.wide) (r := 5 - 1 - 1 - 1) (callsIn_wide.2 (textN c b o zs.length cap q m pb u (grow (redrawn W d) os) (HKW.out.below (below_regrown W d os) (Nat.lt_of_lt_of_le hclt hle)) (by omega) (by omega) hcap hm)))
  have w1 : IntKind.i64.wrap (lo - hh) = lo - hh := by rw [IntKind.wrap_i64]; omega
  have w2' : IntKind.i64.wrap (lo + (d : Int) - hh) = lo + (d : Int) - hh := by rw [IntKind.wrap_i64]; omega
  clear a4 htl hsub hW0 hs5 hI0 hL0 hH0 hX0 hO0 hN0 hN1 hN2 hBW
  gi_wp2_with fail
  refine Y6 15 (by kernel_rfl) (by kernel_rfl) (by kernel_rfl) ?_
  simp only [List.take_succ_cons, List.take_zero, List.drop_succ_cons, List.drop_zero]
  repeat (refine wpQuietIn_step (fun _ _ _ _ => trivial) (fun K hK => ?_); go_simp; first | (refine hK _ ?_; clear hK K) | (apply Exists.intro; refine ⟨fun _ => ?_, hK _ ?_⟩; (first | exact ⟨trivial, HMQ.out _ _⟩ | exact HMQ.out _ _); clear hK K))
  obtain ⟨a, ha⟩ : ∃ a : Nat, (if lo - hh < 0 then 0 else lo - hh) = (a : Int) := ⟨(if lo - hh < 0 then 0 else lo - hh).toNat, by split <;> omega⟩
  obtain ⟨e, he⟩ : ∃ e : Nat, (if (m : Int) < lo + (d : Int) - hh then (m : Int) else lo + (d : Int) - hh) = (e : Int) := ⟨(if (m : Int) < lo + (d : Int) - hh then (m : Int) else lo + (d : Int) - hh).toNat, by split <;> omega⟩
  have hae : (a <= e ∧ a < m) ∧ e <= m ∧ a = (lo - hh).toNat ∧ e - a = min ((lo + (d : Int) - hh).toNat - a) (m - a) ∧ e <= d + a := by
   split at ha <;> split at he <;> omega
  rw [ha, he];have HCT := hide (zCw zs q m a e pb (lo - hh) (lo + (d : Int) - hh) hae.2.2.1 hae.2.2.2.1);have hae1 := hae.1.1;have hae3 := hae.1.2;have hae2 := hae.2.1
  have g1 : (a : Int) <= (e : Int) := by omega
  have g2 : (e : Int) <= ((cap - q : Nat) : Int) := by omega
  have g3 : ¬ cap - q = a := by omega
  clear ha he w1 w2' hae
  (refine wpQuietIn_step (fun _ _ _ _ => trivial) (fun K hK => ?_); go_simp; first | (refine hK _ ?_; clear hK K) | (apply Exists.intro; refine ⟨fun _ => ?_, hK _ ?_⟩; (fail); clear hK K))
  refine wpQuietIn_nil ?_;intro _ hw';obtain ⟨⟨dq, osq⟩, hw''⟩ := hw';subst hw'';have HB1 := hide (below_regrown W dq osq);clear q0 q1 q2 q3 q4 q5 q6 HMQ;generalize grow (redrawn W dq) osq = W1 at *;have sW1 := HB1.out.size
  have HV1 := hide (show Boxed W1 _ _ _ from (HB1.out.block _ HV.out.lt).trans HV.out)
  have HR1 := hide (zD HRow.out HB1.out lR)
  have HP1 := hide (show Boxed W1 _ _ _ from (HB1.out.block _ HPB.out.lt).trans HPB.out)
  have HL1 := hide (show Boxed W1 _ _ _ from (HB1.out.block _ HLB.out.lt).trans HLB.out)
  have HH1 := hide (show Boxed W1 _ _ _ from (HB1.out.block _ HHB.out.lt).trans HHB.out)
  have HA1 := hide (HAW.out.below HB1.out (Nat.lt_of_lt_of_le hbl hle))
  have HAP := hide (HA1.out.app (q + a) (e - a) (by omega))
  have hUl : ((zs.drop (q + a)).take (e - a)).length = e - a := by rw [List.length_take, List.length_drop]; omega
  have HUL := hide hUl
  have HLE := hide (show (ints .i32 ((zs.drop (q + a)).take (e - a))).length = (e - a) * 1 by rw [zA, hUl, Nat.mul_one])
  have hlw : w2.heap.size < W1.heap.size := HV1.out.lt;rw [<- Nat.add_assoc] at HAP;generalize (zs.drop (q + a)).take (e - a) = U at *;generalize hVL : V.length = vl at *;clear hUl
  gi_wp2_with (gi_at_builtin; refine wpListIn_append_own _ rfl _ _ 25 rfl w.heap.size 21 i0 (.int .i32 0) 1 4 Tryz.underlying25 hi0 hz0 hz1 hz2 rfl (by decide) _ vl (ints .i32 V) rfl HR1.out ⟨b, o + q + a, none⟩ (e - a) (cap - q - a) (ints .i32 U) rfl HLE.out HAP.out (zG _ _) (by unfold maxLen; omega) (by omega) (by omega) ?_; intro v' w6 hown' hgrow _; obtain ⟨ga, gc, rfl⟩ := row_val hown'; obtain ⟨hv1, hv2, hr2, hk2, hb2⟩ := app2 HV1.out (by decide) HR1.out (by omega) (by omega) hown' hgrow; have hc1 := hv1.cell; have hf1 := hv1.frozen)
  have hb3 := hb2;have HBN := hide ((HB1.out.mono hle).trans hb2)
  have HNR := hide (show own32 (w6.setCell ⟨w2.heap.size, 0, none⟩ (.slice ga (vl + (e - a)) gc)) w.heap.size _ (V ++ U) from Jt hVL HUL.out hr2)
  have K6 := hide (fun k (hk : k < W1.heap.size) (h1 : k ≠ w2.heap.size) (h2 : some k ≠ (Value.slice asl vl csl).ownBlock) => (heap_setCell_other w6 ⟨w2.heap.size, 0, none⟩ k (.slice ga (vl + (e - a)) gc) h1).trans (hgrow.block k hk h2))
  refine ⟨((KeepsOthers.of_below HB1.out).trans hk2).from _, HBN.out, ⟨_, hv2, ?_, trivial⟩, ?_, ?_, ?_, HBW.out.trans HBN.out⟩
  ·have h9 := HNR.out
   unfold own32 at h9;rw [<- HCT.out, <- HSN.out] at h9;exact h9
  ·exact (K6.out _ HP1.out.lt (by omega) (HP1.out.not_row (by decide) HR1.out)).trans HP1.out
  ·exact (K6.out _ HL1.out.lt (by omega) (HL1.out.not_row (by decide) HR1.out)).trans HL1.out
  ·exact (K6.out _ HH1.out.lt (by omega) (HH1.out.not_row (by decide) HR1.out)).trans HH1.out
 case done =>
  rintro D ys W hD hys ⟨⟨v, hv, hrow, _⟩, hbP, hbL, hbH, hbW⟩ hK;have hc := hv.cell;have htx := HTX.out;rw [<- hys] at htx
  have HR9 := hide (show own32 W w.heap.size v (cutT (T.tx zs) lo (lo + (d : Int))) by
   have h9 : own32 W w.heap.size v _ := hrow;rw [htx] at h9
   simpa using h9)
  have HB9 := hide hbW;have HK9 := hide hK;have hDn := hD;obtain ⟨ga, gc, rfl⟩ := zj HR9.out;generalize hcl : (cutT (T.tx zs) lo (lo + (d : Int))).length = cl at *;clear htx hrow hbW hbP hbL hbH hcl
  gi_wp2
  refine ⟨by simp, .inl ⟨_, _, rfl, run_takeDeferred HK9.out, ?_⟩⟩
  have hrow5 := ownsRow_putObj HR9.out (.deferred none) HK9.out rfl
  have bW5 := HB9.out.trans (belowK_b (w := w) lR _ D _ (.deferred none) (by omega) HK9.out rfl rfl)
  exact ⟨.slice ga cl gc, by simp [results, Tryz.results53, go_sem], _, rfl, hrow5, bW5⟩
 case stop =>
  rintro D c pre W _ _ h _;exact h.elim
end Go.Proofs.YtbgngikejgihgafGreatDoor
namespace Go.Proofs.YtbgngikejgihgafGreatDoor
open Go Go.Sort Go.RowKit
set_option linter.unusedVariables false
set_option maxRecDepth 100000
set_option maxHeartbeats 8000000
section
variable {F : Fence} {n : Nat} {P : Program} {ops : Array Oper} {md : Region.Mode}
def seqI (md : Region.Mode) (ops : Array Oper) : List Nat -> Array Bool -> Bool
 | [], listed => (Region.ready md ops listed).isEmpty
 | k :: is, listed => (Region.ready md ops listed) == [k] && seqI md ops is (listed.setIfInBounds k true)
theorem ZV {Q : Exit -> Act -> World -> Prop} : ∀ (is : List Nat) (l : List Oper) (listed : Array Bool) (a : Act) (w : World), is.map (fun i => ops[i]?) = l.map some -> seqI md ops is listed = true -> wpListIn F n P ops Q l a w -> wpAnyIn F n P md ops Q l.length listed a w
 | [], [], listed, a, w, _, hS, h => ⟨by simpa [seqI] using hS, h⟩
 | [], _ :: _, _, _, _, he, _, _ => by simp at he
 | _ :: _, [], _, _, _, he, _, _ => by simp at he
 | k :: is, o :: l, listed, a, w, he, hS, h => by
  simp only [List.map_cons, List.cons.injEq] at he;have h0 : ops[k]? = some o := he.1;simp only [seqI, Bool.and_eq_true, beq_iff_eq] at hS
  have ih := fun a w => ZV (Q := Q) is l (listed.setIfInBounds k true) a w he.2 hS.2
  refine ⟨fun h1 => (by rw [hS.1] at h1; cases h1), fun i hi => ?_⟩
  rw [hS.1] at hi
  obtain rfl : i = k := by simpa using hi
  unfold wpOpIn;unfold wpListIn at h;simp only [h0]
  split at h
  ·rename_i hw
   rw [if_pos hw]
   exact Oper.wpIn_mono (fun a w h => ih a w h) h
  ·rename_i hw
   rw [if_neg hw];exact ⟨h.1, ih _ _ h.2⟩
theorem ZW {Q : Exit -> Act -> World -> Prop} {i j : Nat} {o1 o2 : Oper} {listed : Array Bool} {a : Act} {w : World} (h1 : ops[i]? = some o1) (h2 : ops[j]? = some o2) (hS : seqI md ops [i, j] listed = true) (h : wpListIn F n P ops Q [o1, o2] a w) : wpAnyIn F n P md ops Q 2 listed a w :=
 ZV [i, j] [o1, o2] listed a w (by simp [h1, h2]) hS h
end
end Go.Proofs.YtbgngikejgihgafGreatDoor
namespace Go.Proofs.YtbgngikejgihgafGreatDoor
open Go Go.RowKit
set_option linter.unusedVariables false
set_option maxRecDepth 100000
set_option maxHeartbeats 8000000
theorem yy (lo hi n : Int) (w : World) :
  Calls Tryz.prog 51 #[.int .i64 lo, .int .i64 hi, .int .i64 n] w fun e w' => e = .returned (errV (decide ((0 <= hi ∧ hi <= n) ∧ (0 <= lo ∧ lo <= hi))) 2) ∧ w' = w := by
 have K2 := hide (fun w => yP hi 0 n w)
 have K3 := hide (fun w => yP lo 0 hi w)
 by_cases h2 : (0 <= hi ∧ hi <= n)
 ·rw [show decide (0 <= hi ∧ hi <= n) = true by simpa using h2] at K2
  by_cases h3 : (0 <= lo ∧ lo <= hi)
  ·rw [show decide (0 <= lo ∧ lo <= hi) = true by simpa using h3] at K3
   rw [show decide ((0 <= hi ∧ hi <= n) ∧ (0 <= lo ∧ lo <= hi)) = true by rw [decide_eq_true_eq]; exact ⟨h2, h3⟩]
   clear h2 h3;go_enter Tryz.func51, Tryz.ntmps51;go_wp2_with fail;refine (K2.out _).mono ?_;rintro e w1 ⟨rfl, rfl⟩;go_wp2_with fail;refine (K3.out _).mono ?_;rintro e w1 ⟨rfl, rfl⟩;go_wp2;go_ret;exact ⟨rfl, rfl⟩
  ·rw [show decide (0 <= lo ∧ lo <= hi) = false by simpa using h3] at K3
   rw [show decide ((0 <= hi ∧ hi <= n) ∧ (0 <= lo ∧ lo <= hi)) = false by rw [decide_eq_false_iff_not]; exact fun h => h3 h.2]
   clear h2 h3;go_enter Tryz.func51, Tryz.ntmps51;go_wp2_with fail;refine (K2.out _).mono ?_;rintro e w1 ⟨rfl, rfl⟩;go_wp2_with fail;refine (K3.out _).mono ?_;rintro e w1 ⟨rfl, rfl⟩;go_wp2;go_ret;exact ⟨rfl, rfl⟩
 ·rw [show decide (0 <= hi ∧ hi <= n) = false by simpa using h2] at K2
  rw [show decide ((0 <= hi ∧ hi <= n) ∧ (0 <= lo ∧ lo <= hi)) = false by rw [decide_eq_false_iff_not]; exact fun h => h2 h.1]
  clear h2;go_enter Tryz.func51, Tryz.ntmps51;go_wp2_with fail;refine (K2.out _).mono ?_;rintro e w1 ⟨rfl, rfl⟩;go_wp2;go_ret;exact ⟨rfl, rfl⟩
end Go.Proofs.YtbgngikejgihgafGreatDoor
