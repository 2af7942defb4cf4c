import Derived.Test.YtmpclndnjjhijadDoorDs
import Derived.Test.YtmpclndnjjhijadDoorL1b
import Derived.Deep.RegionWith
import Derived.Deep.Cut
import Derived.Deep.CutRange
import Derived.Deep.CutBlock
import Derived.Deep.DeepCutAuto
namespace Go.Proofs.YtmpclndnjjhijadDoor
open Go Go.RowKit
set_option linter.unusedVariables false

theorem Tryd.infoB : (Tryd.prog.info? 5).map (fun i => (i.zero, i.size, i.bytes)) = some (some (.int .u8 0), 1, 1) := by kernel_rfl

theorem encZ_bts (r : Int) : ∀ z ∈ encZ r, 0 ≤ z ∧ z ≤ 255 := by
  intro z hz
  rcases encZ_cases r with h | h | h | h | h | h
  · rw [encZ_bad h] at hz; simp at hz; omega
  · rw [encZ_one h.1 h.2] at hz; simp at hz; omega
  · rw [encZ_two h.1 h.2] at hz; simp at hz; omega
  · rw [encZ_three h.1 (by omega) (.inl h.2)] at hz; simp at hz; omega
  · rw [encZ_three (by omega) h.2 (.inr h.1)] at hz; simp at hz; omega
  · rw [encZ_four h.1 h.2] at hz; simp at hz; omega

/-- A block of bytes that only its drawer holds. -/
def Blk (g : Nat) (ys : List Int) (w : World) : Prop := w.heap[g]? = some (.cells (ints .u8 ys).toArray 5 (0, 0))

theorem Blk.kept {g : Nat} {ys : List Int} {w w' : World} {row : Option Nat} (h : Blk g ys w) (hg : w.grownBy w' row) (hr : row ≠ some g) : Blk g ys w' := by
  have hlt : g < w.heap.size := by
    rcases Nat.lt_or_ge g w.heap.size with h' | h'
    · exact h'
    · unfold Blk at h; rw [Array.getElem?_eq_none h'] at h; cases h
  exact (hg.block g hlt (fun e => hr e.symm)).trans h

theorem Blk.cells {g : Nat} {ys : List Int} {w : World} (h : Blk g ys w) (m : Nat) : ∀ j u, (ints .u8 (ys.take m))[j]? = some u → w.cell? ((⟨g, 0, none⟩ : Addr).add j) = some u := by
  intro j u hj
  rw [addr_add, Nat.zero_add, cell_of_row w g j _ _ _ h]
  simp only [ints, List.getElem?_map, Option.map_eq_some_iff, List.getElem?_take] at hj
  obtain ⟨z, hz, rfl⟩ := hj
  split at hz
  · simp [ints, hz]
  · cases hz

theorem Blk.cell {g : Nat} {ys : List Int} {w : World} (h : Blk g ys w) (j : Nat) (hj : j < ys.length) : w.cell? ⟨g, j, none⟩ = some (.int .u8 (ys.getD j 0)) := by
  rw [cell_of_row w g j _ _ _ h]
  simp [ints, hj]

theorem Blk.set {g : Nat} {ys : List Int} {w : World} (h : Blk g ys w) (j : Nat) (z : Int) : Blk g (ys.set j z) (w.setCell ⟨g, j, none⟩ (.int .u8 z)) := by
  have := heap_setCell_same w g j _ _ (.int .u8 z) h
  unfold Blk
  rw [this, ← ints_set]
  simp

theorem Blk.new (ys : List Int) (w : World) : Blk w.heap.size ys (w.alloc (.cells (ints .u8 ys).toArray 5)) := heap_alloc_new _ _

/-- The encoding of a rune, with its block named. -/
theorem l1bG (r : Int) (w : World) (h1 : 0 ≤ r) (h2 : r ≤ 1114111) :
    Calls Tryd.prog 28 #[.int .i64 r] w fun e w' => ∃ ys g, e = .returned (.slice (some ⟨g, 0, none⟩) ys.length ys.length) ∧ w.heap.size = g ∧ (1 ≤ ys.length ∧ ys.length ≤ 4) ∧ (∀ z ∈ ys, 0 ≤ z ∧ z ≤ 255) ∧ Blk g ys w' ∧ w.grownBy w' none :=
  (l1b r w (by omega) (by omega)).mono fun e w' ⟨he, hw⟩ => ⟨encZ r, w.heap.size, he, rfl, encZ_length r, encZ_bts r, by subst hw; exact Blk.new _ _, by subst hw; exact grown_alloc _ _⟩

theorem bts_app {xs ys : List Int} (h1 : ∀ z ∈ xs, 0 ≤ z ∧ z ≤ 255) (h2 : ∀ z ∈ ys, 0 ≤ z ∧ z ≤ 255) : ∀ z ∈ xs ++ ys, 0 ≤ z ∧ z ≤ 255 := by
  intro z hz
  rcases List.mem_append.1 hz with h | h
  · exact h1 z h
  · exact h2 z h

theorem Blk.all {g : Nat} {ys : List Int} {w : World} (h : Blk g ys w) : ∀ j u, (ints .u8 ys)[j]? = some u → w.cell? ((⟨g, 0, none⟩ : Addr).add j) = some u := by
  have := h.cells ys.length
  rwa [List.take_length] at this

theorem cell_kep {w w' : World} {row : Option Nat} {b o : Nat} {v : Value} (h : w.cell? ⟨b, o, none⟩ = some v) (hg : w.grownBy w' row) (hr : row ≠ some b) : w'.cell? ⟨b, o, none⟩ = some v := by
  rw [World.cell?_of_block (w := w) (hg.block b (World.block_lt_of_cell? w _ h) (fun e => hr e.symm))]
  exact h

theorem Src.heap {bs : List Int} {vb : Value} {p : Nat} {w w' : World} (h : Src bs vb p w) (e : w'.heap = w.heap) : Src bs vb p w' := by
  obtain ⟨⟨i, x, h5, h6, h7, h8⟩, h1, h2, h3⟩ := h
  refine ⟨⟨i, x, h5, h6, h7, by rw [e]; exact h8⟩, h1, h2, ?_⟩
  rcases h3 with h3 | ⟨b, off, cap, hv, hne, hl', hc⟩
  · exact .inl h3
  · exact .inr ⟨b, off, cap, hv, hne, hl', fun i hi => by rw [World.cell?_of_block (w := w) (by rw [e])]; exact hc i hi⟩

theorem DS.app' {k : IntKind} {e : TypeId} {bs : List Int} {vb : Value} {p : Nat} {w0 w w' : World} {out out' : Value} {xs ys : List Int} {m : Nat} (h : DS k e bs vb p w0 out xs w) (hg : w.grownBy w' out.ownBlock) (hl : ys.length = m) (ho : w'.ownsRow w0.heap.size e 1 out' (xs.length + m) (ints k xs ++ ints k ys)) : DS k e bs vb p w0 out' (xs ++ ys) w' :=
  h.app hg (by rw [List.length_append, hl, ints_append]; exact ho)

def six : List Int := [224, 237, 240, 244, 245, 193]
theorem six_bd : ∀ z ∈ six, 0 ≤ z ∧ z ≤ 255 := by decide
theorem Blk.six {g : Nat} {w : World} (h : Blk g six w) (j : Nat) (hj : j < 6) : ∃ z : Int, (0 ≤ z ∧ z ≤ 255) ∧ w.cell? ⟨g, j, none⟩ = some (.int .u8 z) :=
  ⟨_, six_bd _ (by
    have hj' : j < Proofs.YtmpclndnjjhijadDoor.six.length := hj
    rw [List.getD_eq_getElem?_getD, List.getElem?_eq_getElem hj']; exact List.getElem_mem hj'), h.cell j hj⟩

set_option maxHeartbeats 4000000 in
set_option maxRecDepth 100000 in
theorem drawBytes1 (bs : List Int) (vb : Value) (p : Nat) (n : Nat) (w : World) (hS : Src bs vb p w) (hn : n ≤ 100000) :
    Calls Tryd.prog 17 #[.pointer (some ⟨p, 0, none⟩), .int .i64 n] w fun e w' => ∃ v' xs, e = .returned v' ∧ xs.length ≤ 4 * n ∧ (∀ z ∈ xs, 0 ≤ z ∧ z ≤ 255) ∧ DS .u8 5 bs vb p w v' xs w' ∧ v' ≠ .slice none 0 0 := by
  obtain ⟨i0, hi, hz0, hz1, hz2⟩ := info_parts Tryd.infoB
  have HD0 := hide (DS.start .u8 5 hS)
  clear hS
  go_enter Tryd.func17, Tryd.ntmps17
  go_wp2
  go_loopw [5, 6] (fun out i wr => ∃ (k : Nat) (xs : List Int), k ≤ n ∧ i = .int .i64 k ∧ xs.length ≤ 4 * k ∧ (∀ z ∈ xs, 0 ≤ z ∧ z ≤ 255) ∧ DS .u8 5 bs vb p w out xs wr ∧ out ≠ .slice none 0 0) (fun _ i _ => n - (intOf i).toNat)
  case atStart => exact ⟨0, [], Nat.zero_le _, rfl, Nat.zero_le _, by simp, HD0.out, by simp⟩
  case round =>
    obtain ⟨k, xs, hk, rfl, hxk, hbx, hd, hnn⟩ := hrel
    have HD := hide hd
    have HX := hide hbx
    have HNN := hide hnn
    clear hd hbx hnn HD0
    by_cases hlt : k < n
    · go_wp2_with fail
      refine (drawChar bs vb p wr HD.out.src).mono ?_
      rintro e w1 ⟨r, rfl, ⟨hr0, hr1⟩, hs1, hg1⟩
      have HD1 := hide (HD.out.draw hs1 hg1)
      clear hs1 hg1 HD
      go_wp2_with fail
      refine (l1bG r w1 hr0 hr1).mono ?_
      rintro e w2 ⟨ys, g, rfl, hgw, ⟨hy0, hy1⟩, hby, hbk, hg2⟩
      have HBY := hide hby
      have HD2 := hide (HD1.out.other hg2 (fun q hq => by cases hq) (fun q hq => by simp))
      have HB2 := hide hbk
      have hgb : w.heap.size ≤ g := by have := HD1.out.size; omega
      have HNE := hide (show ∀ q, u5.ownBlock = some q → some g ≠ some q from fun q hq e => by have := (HD1.out.own.lt q hq).2; cases e; omega)
      have hpg : (some p : Option Nat) ≠ some g := fun e => by have := HD1.out.low.1; cases e; omega
      clear hby hbk hg2 hgw HD1
      go_wp2_with fail
      refine (drawN bs vb p 9 w2 HD2.out.src (by omega) (by omega)).mono ?_
      rintro e w3 ⟨r9, rfl, hr9, hs3, hg3⟩
      have HD3 := hide (HD2.out.draw hs3 hg3)
      have HB3 := hide (HB2.out.kept hg3 hpg)
      clear hs3 hg3 HD2 HB2
      have hsz3 := HD3.out.size
      have hr' : r9 = 0 ∨ r9 = 1 ∨ r9 = 2 ∨ r9 = 3 ∨ 4 ≤ r9 := by omega
      rcases hr' with rfl | rfl | rfl | rfl | h4
      · clear hr9
        go_wp2_with fail
        refine (drawN bs vb p ys.length w3 HD3.out.src (by omega) (by omega)).mono ?_
        rintro e w4 ⟨j, rfl, hj, hs, hg⟩
        have HD4 := hide (HD3.out.draw hs hg)
        have HB4 := hide (HB3.out.kept hg hpg)
        have hsz4 := HD4.out.size
        clear hs hg
        obtain ⟨j, rfl⟩ := Int.eq_ofNat_of_zero_le hj.1
        have hj' : j < ys.length := by omega
        have hcj : ((j : Int) + 1).toNat = j + 1 := by omega
        have LJ := hide (show (ys.take (j + 1)).length = j + 1 by rw [List.length_take]; omega)
        go_wp2_with (at_builtin; refine wpList_append_own _ rfl _ _ 22 rfl w.heap.size 5 i0 (.int .u8 0) 1 1 Tryd.underlying22 hi hz0 hz1 hz2 rfl (by decide) _ _ _ rfl HD4.out.own ⟨g, 0, none⟩ (j + 1) (ys.length) (ints .u8 (ys.take (j + 1))) rfl ((ints_length .u8 _).trans ((LJ.out).trans (Nat.mul_one _).symm)) (HB4.out.cells _) (ints_one .u8 _) (by unfold maxLen; omega) (by omega) hsz4 ?_; intro v9 w9 ho9 hg9 hn9)
        have HD9 := hide (HD4.out.app' (ys := ys.take (j + 1)) hg9 (LJ.out) ho9)
        have HN9 := hide (show v9 ≠ .slice none 0 0 from fun e => HNN.out (hn9.1 e).1); clear ho9 hg9 hn9
        go_wp2
        go_roundw
        case rel => exact ⟨k + 1, xs ++ (ys.take (j + 1)), by omega, by go_num, by have hq := LJ.out; rw [List.length_append]; omega, bts_app HX.out (fun z hz => HBY.out z (List.mem_of_mem_take hz)), HD9.out, HN9.out⟩
        case measure => simp [intOf]; omega
      · clear hr9
        go_wp2_with fail
        refine (drawOne bs vb p 2 w3 HD3.out.src (by omega) (by omega)).mono ?_
        rintro e w4 ⟨b, rfl, hs, hg⟩
        have HD4 := hide (HD3.out.draw hs hg)
        have HB4 := hide (HB3.out.kept hg hpg)
        have hsz4 := HD4.out.size
        clear hs hg
        cases b with
        | false =>
          go_wp2_with (at_builtin; refine wpList_append_own _ rfl _ _ 22 rfl w.heap.size 5 i0 (.int .u8 0) 1 1 Tryd.underlying22 hi hz0 hz1 hz2 rfl (by decide) _ _ _ rfl HD4.out.own ⟨g, 0, none⟩ (ys.length) (ys.length) (ints .u8 (ys)) rfl ((ints_length .u8 _).trans ((rfl : List.length _ = _).trans (Nat.mul_one _).symm)) HB4.out.all (ints_one .u8 _) (by unfold maxLen; omega) (by omega) hsz4 ?_; intro v9 w9 ho9 hg9 hn9)
          have HD9 := hide (HD4.out.app' (ys := ys) hg9 (rfl) ho9)
          have HN9 := hide (show v9 ≠ .slice none 0 0 from fun e => HNN.out (hn9.1 e).1); clear ho9 hg9 hn9
          go_wp2
          go_roundw
          case rel => exact ⟨k + 1, xs ++ (ys), by omega, by go_num, by rw [List.length_append]; omega, bts_app HX.out (HBY.out), HD9.out, HN9.out⟩
          case measure => simp [intOf]; omega
        | true =>
          go_wp2_with fail
          refine (drawN bs vb p ys.length w4 HD4.out.src (by omega) (by omega)).mono ?_
          rintro e w5 ⟨j, rfl, hj, hs, hg⟩
          have HD5 := hide (HD4.out.draw hs hg)
          have HB5 := hide (HB4.out.kept hg hpg)
          have hsz5 := HD5.out.size
          clear hs hg
          go_wp2_with fail
          refine (drawN bs vb p 256 w5 HD5.out.src (by omega) (by omega)).mono ?_
          rintro e w6 ⟨z, rfl, hz, hs, hg⟩
          have HD6 := hide (HD5.out.draw hs hg)
          have HB6 := hide (HB5.out.kept hg hpg)
          have hsz6 := HD6.out.size
          clear hs hg
          obtain ⟨j, rfl⟩ := Int.eq_ofNat_of_zero_le hj.1
          have hj' : j < ys.length := by omega
          have hcell := HB6.out.cell j hj'
          have hfz : w6.frozen? ⟨g, j, none⟩ = false := frozen_of_row w6 g j _ _ HB6.out
          have HD7 := hide (HD6.out.other (grown_setCell w6 g j (.int .u8 z)) (fun q hq => by cases hq; omega) HNE.out)
          have HB7 := hide (HB6.out.set j z)
          have hsz7 : w.heap.size ≤ (w6.setCell ⟨g, j, none⟩ (.int .u8 z)).heap.size := by simp; omega
          have LS := hide (show (ys.set j z).length = ys.length by simp)
          go_wp2_with (at_builtin; refine wpList_append_own _ rfl _ _ 22 rfl w.heap.size 5 i0 (.int .u8 0) 1 1 Tryd.underlying22 hi hz0 hz1 hz2 rfl (by decide) _ _ _ rfl HD7.out.own ⟨g, 0, none⟩ (ys.length) (ys.length) (ints .u8 (ys.set j z)) rfl ((ints_length .u8 _).trans ((LS.out).trans (Nat.mul_one _).symm)) HB7.out.all (ints_one .u8 _) (by unfold maxLen; omega) (by omega) hsz7 ?_; intro v9 w9 ho9 hg9 hn9)
          have HD9 := hide (HD7.out.app' (ys := ys.set j z) hg9 (LS.out) ho9)
          have HN9 := hide (show v9 ≠ .slice none 0 0 from fun e => HNN.out (hn9.1 e).1); clear ho9 hg9 hn9
          go_wp2
          go_roundw
          case rel => exact ⟨k + 1, xs ++ (ys.set j z), by omega, by go_num, by have hq := LS.out; rw [List.length_append]; omega, bts_app HX.out (fun q hq => by rcases List.mem_or_eq_of_mem_set hq with h | rfl; exact HBY.out q h; omega), HD9.out, HN9.out⟩
          case measure => simp [intOf]; omega
      · clear hr9
        go_wp2_with fail
        refine (drawOne bs vb p 3 w3 HD3.out.src (by omega) (by omega)).mono ?_
        rintro e w4 ⟨b, rfl, hs, hg⟩
        have HD4 := hide (HD3.out.draw hs hg)
        have HB4 := hide (HB3.out.kept hg hpg)
        have hsz4 := HD4.out.size
        clear hs hg
        cases b with
        | false =>
          go_wp2_with (at_builtin; refine wpList_append_own _ rfl _ _ 22 rfl w.heap.size 5 i0 (.int .u8 0) 1 1 Tryd.underlying22 hi hz0 hz1 hz2 rfl (by decide) _ _ _ rfl HD4.out.own ⟨g, 0, none⟩ (ys.length) (ys.length) (ints .u8 (ys)) rfl ((ints_length .u8 _).trans ((rfl : List.length _ = _).trans (Nat.mul_one _).symm)) HB4.out.all (ints_one .u8 _) (by unfold maxLen; omega) (by omega) hsz4 ?_; intro v9 w9 ho9 hg9 hn9)
          have HD9 := hide (HD4.out.app' (ys := ys) hg9 (rfl) ho9)
          have HN9 := hide (show v9 ≠ .slice none 0 0 from fun e => HNN.out (hn9.1 e).1); clear ho9 hg9 hn9
          go_wp2
          go_roundw
          case rel => exact ⟨k + 1, xs ++ (ys), by omega, by go_num, by rw [List.length_append]; omega, bts_app HX.out (HBY.out), HD9.out, HN9.out⟩
          case measure => simp [intOf]; omega
        | true =>
          go_wp2_with fail
          refine (drawN bs vb p 64 w4 HD4.out.src (by omega) (by omega)).mono ?_
          rintro e w5 ⟨y, rfl, hy, hs, hg⟩
          have HD5 := hide (HD4.out.draw hs hg)
          have HB5 := hide (HB4.out.kept hg hpg)
          have hsz5 := HD5.out.size
          clear hs hg
          go_wp2_with fail
          refine (drawN bs vb p 64 w5 HD5.out.src (by omega) (by omega)).mono ?_
          rintro e w6 ⟨z, rfl, hz, hs, hg⟩
          have HD6 := hide (HD5.out.draw hs hg)
          have HB6 := hide (HB5.out.kept hg hpg)
          have hsz6 := HD6.out.size
          clear hs hg
          have HD7 := hide (HD6.out.alloc (.cells (ints .u8 [192 + y, 128 + z]).toArray 5))
          have HB7 := hide (Blk.new [192 + y, 128 + z] w6)
          go_wp2_with (at_builtin; refine wpList_append_own _ rfl _ _ 22 rfl w.heap.size 5 i0 (.int .u8 0) 1 1 Tryd.underlying22 hi hz0 hz1 hz2 rfl (by decide) _ _ _ rfl HD7.out.own ⟨w6.heap.size, 0, none⟩ (2) (2) (ints .u8 ([192 + y, 128 + z])) rfl ((ints_length .u8 _).trans ((rfl : List.length _ = _).trans (Nat.mul_one _).symm)) HB7.out.all (ints_one .u8 _) (by unfold maxLen; omega) (by omega) (by simp; omega) ?_; intro v9 w9 ho9 hg9 hn9)
          have HD9 := hide (HD7.out.app' (ys := [192 + y, 128 + z]) hg9 (rfl) ho9)
          have HN9 := hide (show v9 ≠ .slice none 0 0 from fun e => HNN.out (hn9.1 e).1); clear ho9 hg9 hn9
          go_wp2
          go_roundw
          case rel => exact ⟨k + 1, xs ++ ([192 + y, 128 + z]), by omega, by go_num, by rw [List.length_append]; simp only [List.length_cons, List.length_nil]; omega, bts_app HX.out (by intro q hq; simp at hq; omega), HD9.out, HN9.out⟩
          case measure => simp [intOf]; omega
      · clear hr9
        go_wp2_with fail
        refine (drawOne bs vb p 3 w3 HD3.out.src (by omega) (by omega)).mono ?_
        rintro e w4 ⟨b, rfl, hs, hg⟩
        have HD4 := hide (HD3.out.draw hs hg)
        have HB4 := hide (HB3.out.kept hg hpg)
        have hsz4 := HD4.out.size
        clear hs hg
        cases b with
        | false =>
          go_wp2_with (at_builtin; refine wpList_append_own _ rfl _ _ 22 rfl w.heap.size 5 i0 (.int .u8 0) 1 1 Tryd.underlying22 hi hz0 hz1 hz2 rfl (by decide) _ _ _ rfl HD4.out.own ⟨g, 0, none⟩ (ys.length) (ys.length) (ints .u8 (ys)) rfl ((ints_length .u8 _).trans ((rfl : List.length _ = _).trans (Nat.mul_one _).symm)) HB4.out.all (ints_one .u8 _) (by unfold maxLen; omega) (by omega) hsz4 ?_; intro v9 w9 ho9 hg9 hn9)
          have HD9 := hide (HD4.out.app' (ys := ys) hg9 (rfl) ho9)
          have HN9 := hide (show v9 ≠ .slice none 0 0 from fun e => HNN.out (hn9.1 e).1); clear ho9 hg9 hn9
          go_wp2
          go_roundw
          case rel => exact ⟨k + 1, xs ++ (ys), by omega, by go_num, by rw [List.length_append]; omega, bts_app HX.out (HBY.out), HD9.out, HN9.out⟩
          case measure => simp [intOf]; omega
        | true =>
          clear HB3 HB4 HD3 hpg hgb
          have HD5 := hide (HD4.out.alloc (.cells #[.int .u8 224, .int .u8 237, .int .u8 240, .int .u8 244, .int .u8 245, .int .u8 193] 5))
          have HM := hide (show Blk w4.heap.size six (w4.alloc (.cells #[.int .u8 224, .int .u8 237, .int .u8 240, .int .u8 244, .int .u8 245, .int .u8 193] 5)) from Blk.new six w4)
          have hpm : (some p : Option Nat) ≠ some w4.heap.size := fun e => by have := HD4.out.low.1; cases e; omega
          have hsz5 := HD5.out.size
          clear HD4
          go_upto_region 18 with fail
          have flag64 : True := trivial
          generalize w4.alloc (.cells #[.int .u8 224, .int .u8 237, .int .u8 240, .int .u8 244, .int .u8 245, .int .u8 193] 5) = w5 at *
          go_region_with (first
            | (go_at_call_of 16 (Value.int IntKind.i64 6); refine (drawN bs vb p 6 _ (by exact HD5.out.src.heap rfl) (by omega) (by omega)).mono ?_; rintro e x6 ⟨ra, rfl, hra, hs, hg0⟩; have hg : w5.grownBy x6 (some p) := ⟨hg0.os, hg0.tape, hg0.output, hg0.size, hg0.block⟩; clear hg0; obtain ⟨a, rfl⟩ := Int.eq_ofNat_of_zero_le hra.1; have ha : a < 6 := (by omega); have HDr := hide (HD5.out.draw hs hg); obtain ⟨za, hza, hma⟩ := (HM.out.kept hg hpm).six a ha; clear hs hg)
            | (go_at_call_of 16 (Value.int IntKind.i64 96); refine (drawN bs vb p 96 _ (by exact HDr.out.src) (by omega) (by omega)).mono ?_; rintro e x7 ⟨rb, rfl, hrb, hs, hg⟩; have HDs := hide (HDr.out.draw hs hg); have hmb := cell_kep hma hg hpm; clear hs hg)
            | (go_at_call_of 16 (Value.int IntKind.i64 64); clear flag64; refine (drawN bs vb p 64 _ (by exact HDs.out.src) (by omega) (by omega)).mono ?_; rintro e x8 ⟨rc, rfl, hrc, hs, hg⟩; have HDt := hide (HDs.out.draw hs hg); have hmc := cell_kep hmb hg hpm; clear hs hg)
            | (go_at_call_of 16 (Value.int IntKind.i64 64); refine (drawN bs vb p 64 _ (by exact HDt.out.src) (by omega) (by omega)).mono ?_; rintro e x9 ⟨rd, rfl, hrd, hs, hg⟩; have HDu := hide (HDt.out.draw hs hg); have hmd := cell_kep hmc hg hpm; clear hs hg))
          all_goals
            have hsz9 := HDu.out.size
            have HD10 := hide (HDu.out.alloc (.cells (ints .u8 [za, 112 + rb, 128 + rc, 128 + rd]).toArray 5))
            have HB10 := hide (Blk.new [za, 112 + rb, 128 + rc, 128 + rd] x9)
            go_wp2_with (at_builtin; refine wpList_append_own _ rfl _ _ 22 rfl w.heap.size 5 i0 (.int .u8 0) 1 1 Tryd.underlying22 hi hz0 hz1 hz2 rfl (by decide) _ _ _ rfl HD10.out.own ⟨x9.heap.size, 0, none⟩ 4 4 (ints .u8 [za, 112 + rb, 128 + rc, 128 + rd]) rfl rfl HB10.out.all (ints_one .u8 _) (by unfold maxLen; omega) (by omega) (by simp; omega) ?_; intro v9 w9 ho9 hg9 hn9)
            have HD9 := hide (HD10.out.app' (ys := [za, 112 + rb, 128 + rc, 128 + rd]) hg9 rfl ho9)
            have HN9 := hide (show v9 ≠ .slice none 0 0 from fun e => HNN.out (hn9.1 e).1); clear ho9 hg9 hn9
            go_wp2
            go_roundw
            case rel => exact ⟨k + 1, xs ++ [za, 112 + rb, 128 + rc, 128 + rd], by omega, by go_num, by rw [List.length_append]; simp only [List.length_cons, List.length_nil]; omega, bts_app HX.out (by intro q hq; simp at hq; omega), HD9.out, HN9.out⟩
            case measure => simp [intOf]; omega
      · have n0 : (r9 == 0) = false := by simp; omega
        have n1 : (r9 == 1) = false := by simp; omega
        have n2 : (r9 == 2) = false := by simp; omega
        have n3 : (r9 == 3) = false := by simp; omega
        clear hr9 h4
        go_wp2_with (at_builtin; refine wpList_append_own _ rfl _ _ 22 rfl w.heap.size 5 i0 (.int .u8 0) 1 1 Tryd.underlying22 hi hz0 hz1 hz2 rfl (by decide) _ _ _ rfl HD3.out.own ⟨g, 0, none⟩ (ys.length) (ys.length) (ints .u8 (ys)) rfl ((ints_length .u8 _).trans ((rfl : List.length _ = _).trans (Nat.mul_one _).symm)) HB3.out.all (ints_one .u8 _) (by unfold maxLen; omega) (by omega) hsz3 ?_; intro v9 w9 ho9 hg9 hn9)
        have HD9 := hide (HD3.out.app' (ys := ys) hg9 (rfl) ho9)
        have HN9 := hide (show v9 ≠ .slice none 0 0 from fun e => HNN.out (hn9.1 e).1); clear ho9 hg9 hn9
        go_wp2
        go_roundw
        case rel => exact ⟨k + 1, xs ++ (ys), by omega, by go_num, by rw [List.length_append]; omega, bts_app HX.out (HBY.out), HD9.out, HN9.out⟩
        case measure => simp [intOf]; omega
    · obtain rfl : k = n := by omega
      go_wp2
      go_ret
      exact ⟨_, xs, rfl, hxk, HX.out, HD.out, HNN.out⟩

set_option maxHeartbeats 400000 in
theorem drawBytes (bs : List Int) (vb : Value) (p : Nat) (n : Nat) (w : World) (hS : Src bs vb p w) (hn : n ≤ 100000) :
    Calls Tryd.prog 7 #[.pointer (some ⟨p, 0, none⟩), .int .i64 n] w fun e w' => ∃ v' xs, e = .returned v' ∧ xs.length ≤ 4 * n ∧ (∀ z ∈ xs, 0 ≤ z ∧ z ≤ 255) ∧ DS .u8 5 bs vb p w v' xs w' ∧ v' ≠ .slice none 0 0 := by
  have HS := hide hS
  clear hS
  go_enter Tryd.func7, Tryd.ntmps7
  go_wp2_with fail
  refine (drawBytes1 bs vb p n w HS.out hn).mono ?_
  rintro e w1 ⟨v', xs, rfl, h1, h2, h3, h4⟩
  have H2 := hide h2
  have H3 := hide h3
  have H4 := hide h4
  clear h2 h3 h4
  go_wp2
  go_ret
  exact ⟨_, xs, rfl, h1, H2.out, H3.out, H4.out⟩

set_option maxHeartbeats 400000 in
theorem drawText (bs : List Int) (vb : Value) (p : Nat) (n : Nat) (w : World) (hS : Src bs vb p w) (hn : n ≤ 1048576) :
    Calls Tryd.prog 5 #[.pointer (some ⟨p, 0, none⟩), .int .i64 n] w fun e w' => ∃ v' xs, e = .returned v' ∧ xs.length = n ∧ DS .i32 21 bs vb p w v' xs w' := by
  have HS := hide hS
  clear hS
  go_enter Tryd.func5, Tryd.ntmps5
  go_wp2_with fail
  refine (drawText1 bs vb p n w HS.out hn).mono ?_
  rintro e w1 ⟨v', xs, rfl, h1, h3⟩
  have H3 := hide h3
  clear h3
  go_wp2
  go_ret
  exact ⟨_, xs, rfl, h1, H3.out⟩
end Go.Proofs.YtmpclndnjjhijadDoor
