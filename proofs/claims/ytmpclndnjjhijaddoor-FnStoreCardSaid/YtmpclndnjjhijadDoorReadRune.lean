import Derived.Test.YtmpclndnjjhijadDoorProg
import Derived.Test.YtmpclndnjjhijadDoorChar
import Derived.Test.YtmpclndnjjhijadDoorL1step
import Derived.WalkKit
import Derived.WalkLawsBesides
namespace Go.Proofs.YtmpclndnjjhijadDoor
open Go Go.RowKit
set_option linter.unusedVariables false

theorem tab_below {w w' : World} {B : Nat} (h : Tab w) (hb : Below B w w') (hB : w.heap.size ≤ B) : Tab w' := by
  obtain ⟨t, fr, hg⟩ := h
  have hlt : 1 < w.heap.size := by
    rcases Nat.lt_or_ge 1 w.heap.size with h | h
    · exact h
    · rw [Array.getElem?_eq_none h] at hg; cases hg
  exact ⟨t, fr, (hb.block 1 (by omega)).trans hg⟩

set_option maxHeartbeats 1000000 in
set_option maxRecDepth 100000 in
theorem readRune_miss (bs : List Int) (v : Value) (w : World) (h : Rd .u8 w v bs) (hT : Tab w) (hne : bs ≠ []) (hn : bs.length ≤ 1048576) (hno : ∀ j, j < 9 → ¬ (fA j ≤ bs.getD 0 0 ∧ bs.getD 0 0 ≤ fB j)) (hs : step bs = (65533, 1)) :
    Calls Tryd.prog 31 #[v] w fun e w' => e = .returned (.tuple #[.int .i32 (step bs).1, .int .i64 (step bs).2]) ∧ Below w.heap.size w w' := by
  have hpos : 0 < bs.length := List.length_pos_iff.2 hne
  rcases h with ⟨_, _, _, e⟩ | ⟨b, off, cap, rfl, ⟨hp, hcp, hcm⟩, hc⟩
  · exact absurd e hne
  have hx : w.cell? ⟨b, off, none⟩ = some (.int .u8 (bs.getD 0 0)) := hc 0 hp
  have HF := hide (formOf_miss (bs.getD 0 0) w hT hno)
  generalize bs.getD 0 0 = a at *
  have hp' : (0 : Int) < (bs.length : Int) := by omega
  rw [hs]
  clear hc hno hT hs hne
  go_enter Tryd.func31, Tryd.ntmps31
  go_wp2_with fail
  refine HF.out.mono ?_
  rintro e w1 ⟨rfl, hb1⟩
  have HB1 := hide hb1
  have hs1 := hb1.size
  have hz : Value.agg zeroV = .agg #[.int .u8 0, .int .u8 0, .int .u8 0, .int .u8 0, .int .i64 0, .int .u8 0] := rfl
  rw [hz]
  clear hb1 hz
  go_wp2
  go_ret2
  exact ⟨rfl, HB1.out.alloc hs1 _⟩

set_option maxHeartbeats 1000000 in
set_option maxRecDepth 100000 in
theorem readRune_row (k sz : Nat) (hk : k < 9) (hsz : fE k = sz) (hs14 : 1 ≤ sz ∧ sz ≤ 4) (bs : List Int) (v : Value) (w : World) (h : Rd .u8 w v bs) (hT : Tab w) (hne : bs ≠ []) (hn : bs.length ≤ 1048576)
    (ha : fA k ≤ bs.getD 0 0 ∧ bs.getD 0 0 ≤ fB k) (hno : ∀ j, j < k → ¬ (fA j ≤ bs.getD 0 0 ∧ bs.getD 0 0 ≤ fB j))
    (hrep : ∀ n, 1 ≤ n → n < sz → n ≤ bs.length → (∀ i, 1 ≤ i → i < n → i < bs.length ∧ inr (fC k) (fD k) i (bs.getD i 0)) → (n = bs.length ∨ ¬ inr (fC k) (fD k) n (bs.getD n 0)) → step bs = (65533, n))
    (hfull : (∀ i, 1 ≤ i → i < sz → i < bs.length ∧ inr (fC k) (fD k) i (bs.getD i 0)) → sz ≤ bs.length → (step bs).2 = sz ∧ ∀ W, Below w.heap.size w W → Calls Tryd.prog 39 #[.agg #[.int .u8 (fA k), .int .u8 (fB k), .int .u8 (fC k), .int .u8 (fD k), .int .i64 sz, .int .u8 (fF k)], v] W fun e w' => e = .returned (.int .i32 (step bs).1) ∧ Below W.heap.size W w') :
    Calls Tryd.prog 31 #[v] w fun e w' => e = .returned (.tuple #[.int .i32 (step bs).1, .int .i64 (step bs).2]) ∧ Below w.heap.size w w' := by
  have hpos : 0 < bs.length := List.length_pos_iff.2 hne
  have HRD := hide h
  have HNE := hide hne
  rcases h with ⟨_, _, _, e⟩ | ⟨b, off, cap, rfl, ⟨hp, hcp, hcm⟩, hc⟩
  · exact absurd e hne
  have hx : w.cell? ⟨b, off, none⟩ = some (.int .u8 (bs.getD 0 0)) := hc 0 hp
  have HF := hide (formOf_hit (bs.getD 0 0) k hk w hT ha hno)
  generalize bs.getD 0 0 = a at *
  have hp' : (0 : Int) < (bs.length : Int) := by omega
  have HREP := hide hrep
  have HFULL := hide hfull
  have HSZ := hide hsz
  clear hc hno hT ha hrep hfull hne hsz
  go_enter Tryd.func31, Tryd.ntmps31
  go_wp2_with fail
  refine HF.out.mono ?_
  rintro e w1 ⟨rfl, hb1⟩
  have HB1 := hide hb1
  have hs1 := hb1.size
  have hrow : Value.agg (rowV k) = .agg #[.int .u8 (fA k), .int .u8 (fB k), .int .u8 (fC k), .int .u8 (fD k), .int .i64 sz, .int .u8 (fF k)] := by rw [← HSZ.out]; rfl
  rw [hrow]
  clear hb1 hrow HF
  generalize fA k = xa at *
  generalize fB k = xb at *
  generalize fC k = xc at *
  generalize fD k = xd at *
  generalize fF k = xf at *
  go_wp2_with fail
  have hbB : Below w.heap.size w (w1.alloc (.cells #[.int .u8 xa, .int .u8 xb, .int .u8 xc, .int .u8 xd, .int .i64 sz, .int .u8 xf] 73)) := HB1.out.alloc hs1 _
  refine (matched xa xb xc xd xf sz bs _ _ (HRD.out.below hbB) HNE.out hn hs14).mono ?_
  rintro e w2 ⟨n, rfl, hn1, hnz, hall, hend, hnl, hb2⟩
  have HB2 := hide (hbB.trans (hb2.mono hbB.size))
  have hbk : w2.heap[w1.heap.size]? = some (.cells #[.int .u8 xa, .int .u8 xb, .int .u8 xc, .int .u8 xd, .int .i64 sz, .int .u8 xf] 73 (0, 0)) := (hb2.block w1.heap.size (by simp)).trans (heap_alloc_new _ _)
  have c0 : w2.cell? ⟨w1.heap.size, 0, none⟩ = some (.int .u8 xa) := by rw [cell_of_row w2 w1.heap.size 0 _ _ _ hbk]; rfl
  have c1 : w2.cell? ⟨w1.heap.size, 1, none⟩ = some (.int .u8 xb) := by rw [cell_of_row w2 w1.heap.size 1 _ _ _ hbk]; rfl
  have c2 : w2.cell? ⟨w1.heap.size, 2, none⟩ = some (.int .u8 xc) := by rw [cell_of_row w2 w1.heap.size 2 _ _ _ hbk]; rfl
  have c3 : w2.cell? ⟨w1.heap.size, 3, none⟩ = some (.int .u8 xd) := by rw [cell_of_row w2 w1.heap.size 3 _ _ _ hbk]; rfl
  have c4 : w2.cell? ⟨w1.heap.size, 4, none⟩ = some (.int .i64 sz) := by rw [cell_of_row w2 w1.heap.size 4 _ _ _ hbk]; rfl
  have c5 : w2.cell? ⟨w1.heap.size, 5, none⟩ = some (.int .u8 xf) := by rw [cell_of_row w2 w1.heap.size 5 _ _ _ hbk]; rfl
  have HALL := hide hall
  have HEND := hide hend
  clear hb2 hbk hbB hall hend
  by_cases hlt : n < sz
  · have HST := hide (HREP.out n hn1 hlt hnl HALL.out (HEND.out.elim (fun h => absurd h (by omega)) (fun h => h.2)))
    go_wp2
    go_ret2
    exact ⟨by rw [HST.out]; rfl, HB2.out⟩
  · obtain rfl : n = sz := by omega
    obtain ⟨hst, hch⟩ := HFULL.out HALL.out hnl
    have HCH := hide (hch w2 HB2.out)
    have HST := hide hst
    clear hst hch
    go_wp2_with fail
    refine HCH.out.mono ?_
    rintro e w3 ⟨rfl, hb3⟩
    have HB3 := hide (HB2.out.trans (hb3.mono HB2.out.size))
    clear hb3
    go_wp2
    go_ret2
    exact ⟨by rw [HST.out]; rfl, HB3.out⟩
end Go.Proofs.YtmpclndnjjhijadDoor
