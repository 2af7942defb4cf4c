import Derived.Test.YtbgngikejgihgafDoorPcV
import Derived.WalkLawsBesides
import Derived.Laws.AppendOwnNone
namespace Go.Proofs.YtbgngikejgihgafDoor
open Go Go.RowKit
set_option linter.unusedVariables false

def own32 (w : World) (base : Nat) (v : Value) (zs : List Int) : Prop := w.ownsRow base 21 1 v zs.length (ints .i32 zs)
theorem Tryd.info32T : (Tryd.prog.info? 21).map (fun i => (i.zero, i.size, i.bytes)) = some (some (.int .i32 0), 1, 4) := by kernel_rfl
theorem own32_new (w : World) : own32 (w.alloc (.cells #[] 21)) w.heap.size (.slice (some ⟨w.heap.size, 0, none⟩) 0 0) [] := by
  have := World.ownsRow_made (base := w.heap.size) (e := 21) (size := 1) w #[] 0 (by simp) (Nat.zero_le _) rfl
  simpa [own32, ints] using this
theorem own32_app {W : World} {base : Nat} {v : Value} {E F : List Int} {n m : Nat} (hn : E.length = n) (hm : F.length = m) (h : W.ownsRow base 21 1 v (n + m) (ints .i32 E ++ ints .i32 F)) : own32 W base v (E ++ F) := by
  unfold own32
  rw [List.length_append, hn, hm, ints_append]
  exact h
theorem own32_val {w : World} {base : Nat} {v : Value} {zs : List Int} (h : own32 w base v zs) : ∃ ao cap, v = .slice ao zs.length cap := by
  rcases h.2 with ⟨rfl, h0⟩ | ⟨g, cap, cur, rfl, _⟩
  · exact ⟨none, 0, by rw [h0]⟩
  · exact ⟨_, _, rfl⟩
theorem At32.app {w : World} {b o : Nat} {zs : List Int} (h : At32 w b o zs) (p l : Nat) (hp : p + l ≤ zs.length) : ∀ j u, (ints .i32 ((zs.drop p).take l))[j]? = some u → w.cell? ((⟨b, o + p, none⟩ : Addr).add j) = some u := by
  intro j u hj
  have hjl : j < l := by
    rcases Nat.lt_or_ge j l with q | q
    · exact q
    · rw [List.getElem?_eq_none (by simp [ints]; omega)] at hj; cases hj
  have e : ((zs.drop p).take l)[j]? = some (zs.getD (p + j) 0) := by
    rw [List.getElem?_take, if_pos hjl, List.getElem?_drop]
    simp [List.getD_eq_getElem?_getD, List.getElem?_eq_getElem (show p + j < zs.length by omega)]
  simp only [ints, List.getElem?_map, e, Option.map_some, Option.some.injEq] at hj
  subst hj
  have h9 := h (p + j) (by omega)
  rw [← Nat.add_assoc] at h9
  rw [addr_add]
  exact h9

set_option maxHeartbeats 2000000 in
set_option maxRecDepth 100000 in
theorem ptextS (B : Nat) (zs : List Int) (b o cap : Nat) (v : Value) (xs : List It) (w : World) (hc : At32 w b o zs) (hb : b < w.heap.size) (hz : zs.length ≤ 1048576) (hcap : zs.length ≤ cap) (hm : cap ≤ maxLen) (hr : RdI B w v xs) (hB : B ≤ w.heap.size) (hn : xs.length ≤ 8192) (hw : ∀ x ∈ xs, WP zs x.pc ∧ 1 ≤ x.pc.len) (ht : (txt zs xs).length ≤ 8192) :
    Calls Tryd.prog 48 #[.agg #[.slice (some ⟨b, o, none⟩) zs.length cap, v]] w fun e w' => ∃ v', e = .returned v' ∧ own32 w' w.heap.size v' (txt zs xs) ∧ Below w.heap.size w w' := by
  obtain ⟨i0, hi, hz0, hz1, hz2⟩ := info_parts Tryd.info32T
  obtain ⟨ao, cap', rfl⟩ := hr.val
  have HB0 := hide (((Below.refl w.heap.size w).alloc (Nat.le_refl _) (.cells #[.slice (some ⟨b, o, none⟩) zs.length cap, .slice ao xs.length cap'] 45)).alloc (by simp) (.cells #[] 21))
  have HC0 := hide (hc.below HB0.out hb)
  have hs0 : ((w.alloc (.cells #[.slice (some ⟨b, o, none⟩) zs.length cap, .slice ao xs.length cap'] 45)).alloc (.cells #[] 21)).heap.size = w.heap.size + 2 := by simp
  have hk0 : ((w.alloc (.cells #[.slice (some ⟨b, o, none⟩) zs.length cap, .slice ao xs.length cap'] 45)).alloc (.cells #[] 21)).heap[w.heap.size]? = some (.cells #[.slice (some ⟨b, o, none⟩) zs.length cap, .slice ao xs.length cap'] 45 (0, 0)) := (Below.heap_alloc _ _ _ (by simp)).trans (heap_alloc_new _ _)
  have O0 := own32_new (w.alloc (.cells #[.slice (some ⟨b, o, none⟩) zs.length cap, .slice ao xs.length cap'] 45))
  rw [World.size_alloc] at O0
  have HO0 := hide (show own32 _ (w.heap.size + 1) _ [] from O0)
  have c0 : ((w.alloc (.cells #[.slice (some ⟨b, o, none⟩) zs.length cap, .slice ao xs.length cap'] 45)).alloc (.cells #[] 21)).cell? ⟨w.heap.size, 1, none⟩ = some (.slice ao xs.length cap') := by rw [cell_of_row _ _ 1 _ _ _ hk0]; rfl
  have hcell : ∀ j, j < xs.length → ∃ b off x, ao = some ⟨b, off, none⟩ ∧ b < B ∧ xs[j]? = some x ∧ ItAt w b (off + j * 4) x := by
    intro j hj
    obtain ⟨b, off, cap', e, _, hb, hc⟩ := hr.at (by intro e; subst e; simp at hj)
    cases e
    obtain ⟨x, h1, h2⟩ := itAt_of (B := B) (cap := cap) hc hj
    exact ⟨b, off, x, rfl, hb, h1, h2⟩
  have HC := hide hcell
  have hcapx : xs.length ≤ cap' ∧ cap' ≤ maxLen ∨ xs.length = 0 := by
    rcases hr with ⟨_, _, e, rfl⟩ | ⟨_, _, _, e, hp, _⟩
    · right; rfl
    · cases e; left; exact ⟨hp.2.1, hp.2.2⟩
  unfold maxLen at hcapx hm
  have HW := hide hw
  have HTL : Hid (∀ j, (txt zs (xs.take j)).length ≤ 8192) := hide fun j => by
    have e := txt_append zs (xs.take j) (xs.drop j)
    rw [List.take_append_drop] at e
    rw [e, List.length_append] at ht
    omega
  have HK0 := hide hk0
  have HR0 := hide (hr.below HB0.out hB)
  generalize hN : xs.length = n at *
  generalize hNZ : zs.length = nz at *
  clear hr hcell hw hc O0 hk0 ht
  go_enter Tryd.func48, Tryd.ntmps48
  go_wp2_with fail
  generalize (w.alloc (.cells #[.slice (some ⟨b, o, none⟩) nz cap, .slice ao n cap'] 45)).alloc (.cells #[] 21) = w0 at *
  go_loopw [3, 11] (fun s i wr => ∃ j : Nat, j ≤ n ∧ i = .int .i64 j ∧ own32 wr (w.heap.size + 1) s (txt zs (xs.take j)) ∧ Below (w.heap.size + 1) w0 wr) (fun _ i _ => n - (intOf i).toNat)
  case atStart => exact ⟨0, Nat.zero_le _, rfl, HO0.out, Below.refl _ _⟩
  case round =>
    obtain ⟨j, hj, rfl, hoj, hbw⟩ := hrel
    have HOJ := hide hoj
    have HBW := hide hbw
    have hsw := hbw.size
    obtain ⟨asl, csl, rfl⟩ := own32_val hoj
    clear hbw hoj c0
    by_cases hjn : j < n
    · obtain ⟨b', off, x, rfl, hb', hx, a0, a1, a2, a3⟩ := HC.out j hjn
      have hjn' : (j : Int) < n := by omega
      have hx' := hide hx
      obtain ⟨⟨h1, h2, h3, h4⟩, h5⟩ := HW.out x (List.mem_iff_getElem?.2 ⟨j, hx⟩)
      rw [hNZ] at h3
      have hBw := (HB0.out.trans (HBW.out.mono (by omega)))
      have hbw2 : b' < w.heap.size := by omega
      have e0 := (hBw.cell (p := ⟨b', off + j * 4, none⟩) hbw2).trans a0
      have e1 := (hBw.cell (p := ⟨b', off + j * 4 + 1, none⟩) hbw2).trans a1
      have e2 := (hBw.cell (p := ⟨b', off + j * 4 + 2, none⟩) hbw2).trans a2
      have e3 := (hBw.cell (p := ⟨b', off + j * 4 + 3, none⟩) hbw2).trans a3
      have hbr : b' < wr.heap.size := by omega
      have HTJ := hide (HTL.out j)
      have HTJ1 := hide (HTL.out (j + 1))
      have ETX := hide (show txt zs (xs.take (j + 1)) = txt zs (xs.take j) ++ ptx zs x.pc by rw [take_succ_of hx]; rw [txt_append]; simp [txt])
      clear a0 a1 a2 a3 hx hBw h4
      obtain ⟨⟨po, pl, pb⟩, lv⟩ := x
      simp only at *
      obtain ⟨q, rfl⟩ : ∃ q : Nat, po = q := ⟨po.toNat, by omega⟩
      obtain ⟨l, rfl⟩ : ∃ l : Nat, pl = l := ⟨pl.toNat, by omega⟩
      have HBA := hide (HBW.out.alloc (by omega) (.cells #[.int .i64 (q : Int), .int .i64 (l : Int), .int .i64 pb, .int .i64 lv] 115))
      have KA : (wr.alloc (.cells #[.int .i64 (q : Int), .int .i64 (l : Int), .int .i64 pb, .int .i64 lv] 115)).heap[wr.heap.size]? = some (.cells #[.int .i64 (q : Int), .int .i64 (l : Int), .int .i64 pb, .int .i64 lv] 115 (0, 0)) := heap_alloc_new _ _
      have d0 : (wr.alloc (.cells #[.int .i64 (q : Int), .int .i64 (l : Int), .int .i64 pb, .int .i64 lv] 115)).cell? ⟨wr.heap.size, 0, none⟩ = some (.int .i64 (q : Int)) := by rw [cell_of_row _ _ 0 _ _ _ KA]; rfl
      have d1 : (wr.alloc (.cells #[.int .i64 (q : Int), .int .i64 (l : Int), .int .i64 pb, .int .i64 lv] 115)).cell? ⟨wr.heap.size, 1, none⟩ = some (.int .i64 (l : Int)) := by rw [cell_of_row _ _ 1 _ _ _ KA]; rfl
      have c0 : (wr.alloc (.cells #[.int .i64 (q : Int), .int .i64 (l : Int), .int .i64 pb, .int .i64 lv] 115)).cell? ⟨w.heap.size, 0, none⟩ = some (.slice (some ⟨b, o, none⟩) nz cap) := by rw [HBA.out.cell (p := ⟨w.heap.size, 0, none⟩) (by show w.heap.size < w.heap.size + 1; omega), cell_of_row w0 _ 0 _ _ _ HK0.out]; rfl
      have HOA := hide (show own32 _ (w.heap.size + 1) _ _ from World.ownsRow.alloc HOJ.out (.cells #[.int .i64 (q : Int), .int .i64 (l : Int), .int .i64 pb, .int .i64 lv] 115))
      have HCA := hide ((HC0.out.below HBA.out (by omega)).app q l (by omega))
      have hsa : (wr.alloc (.cells #[.int .i64 (q : Int), .int .i64 (l : Int), .int .i64 pb, .int .i64 lv] 115)).heap.size = wr.heap.size + 1 := by simp
      have hlw : w.heap.size < wr.heap.size := by omega
      have g1 : (q : Int) ≤ (q : Int) + (l : Int) := by omega
      have g2 : (q : Int) + (l : Int) ≤ (cap : Int) := by omega
      have g3 : ¬ cap = q := by omega
      have g4 : (0 : Int) ≤ (q : Int) + (l : Int) := by omega
      have hll : ((zs.drop q).take l).length = l := by rw [List.length_take, List.length_drop]; omega
      have HLL := hide (show ((zs.drop q).take l).length = q + l - q by rw [hll]; omega)
      simp only [ptx, Int.toNat_natCast] at ETX
      have htj := HTJ.out
      have htj1 := HTJ1.out
      rw [ETX.out, List.length_append, hll] at htj1
      have HLE := hide (show (ints .i32 ((zs.drop q).take l)).length = (q + l - q) * 1 by rw [ints_length, hll]; omega)
      clear KA HTJ HTJ1 hll
      generalize hU : (zs.drop q).take l = U at *
      generalize hV : txt zs (xs.take j) = V at *
      generalize hVL : V.length = vl at *
      go_wp2_with (at_builtin; refine wpList_append_own _ rfl _ _ 38 rfl (w.heap.size + 1) 21 i0 (.int .i32 0) 1 4 Tryd.underlying38 hi hz0 hz1 hz2 rfl (by decide) _ vl (ints .i32 V) rfl (by have h9 := HOA.out; unfold own32 at h9; rw [hVL] at h9; exact h9) ⟨b, o + q, none⟩ (q + l - q) (cap - q) (ints .i32 U) rfl HLE.out HCA.out (ints_one _ _) (by unfold maxLen; omega) (by omega) (by omega) ?_; intro v2 w2 hown' hgrow _)
      have HON := hide (show own32 w2 (w.heap.size + 1) v2 (txt zs (xs.take (j + 1))) by rw [ETX.out]; exact own32_app hVL HLL.out hown')
      have HBN := hide (HBA.out.grown hgrow (by omega) (fun r hr => (HOA.out.lt r hr).1))
      clear hown' hgrow
      go_wp2
      go_roundw
      case rel => exact ⟨j + 1, by omega, by go_num, HON.out, HBN.out⟩
      case measure => simp [intOf]; omega
    · obtain rfl : j = n := by omega
      have hge : ¬ (j : Int) < (j : Int) := by omega
      have e : xs.take j = xs := List.take_of_length_le (by omega)
      rw [e] at HOJ ⊢
      clear e
      go_wp2
      go_ret
      exact ⟨_, rfl, owns_base HOJ.out (by omega), HB0.out.trans (HBW.out.mono (by omega))⟩
end Go.Proofs.YtbgngikejgihgafDoor
