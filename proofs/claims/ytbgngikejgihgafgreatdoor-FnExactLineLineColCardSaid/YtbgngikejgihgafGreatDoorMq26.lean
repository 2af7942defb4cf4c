import Derived.Test.YtbgngikejgihgafGreatDoorMq25
namespace Go.Proofs.YtbgngikejgihgafGreatDoor
open Go Go.RowKit
set_option linter.unusedVariables false

/-- The starts, as numbers. -/
def sAt (ls : List (List Int)) (i : Nat) : Nat := smL (ls.take i) + i
theorem sAt_lt (ls : List (List Int)) {i j : Nat} (h : i < j) : sAt ls i < sAt ls j := by
  unfold sAt
  have : smL (ls.take i) ≤ smL (ls.take j) := by
    have := smL_take_le (ls.take j) i
    rw [List.take_take, Nat.min_eq_left (by omega)] at this
    exact this
  omega
/-- How far the index is known behind a finding. -/
def Kn (ls : List (List Int)) (s0 off m : Nat) : Prop := s0 ≤ m ∧ m ≤ ls.length ∧ (∀ i, s0 ≤ i → i < m → sAt ls (i - 1) ≤ off) ∧ (m < ls.length → off < sAt ls (m - 1))
/-- The line of an offset. -/
def Ln (ls : List (List Int)) (off k : Nat) : Prop := k < ls.length ∧ sAt ls k ≤ off ∧ (k + 1 < ls.length → off < sAt ls (k + 1))

set_option maxHeartbeats 1000000 in
set_option maxRecDepth 100000 in
theorem knownN (lo hi c m off : Nat) (rv sv : Value) (vs : List Value) (gs : List Gr) (a b : Nat) (rn : Int) (ls : List (List Int)) (w : World) (h : LCr w lo hi c rv sv vs gs a b rn ((stL ls).take m)) (hm : m ≤ ls.length) (hm1 : 1 ≤ m) (hl : ls.length ≤ 8193) (hof : off ≤ 20000) :
    Calls Tryz.prog 199 #[.pointer (some ⟨c, 0, none⟩), .int .i64 off] w fun e w' => ∃ k : Nat, e = .returned (.int .i64 k) ∧ k < m ∧ sAt ls k ≤ off ∧ (k + 1 < m → off < sAt ls (k + 1)) ∧ w' = w := by
  have STL : (stL ls).length = ls.length := stL_len ls
  obtain ⟨as', cs', hsv⟩ := o64_val h.starts
  rw [List.length_take, STL, Nat.min_eq_left hm] at hsv
  have c4 := h.cells.2.2.2.2
  have hr := h.starts
  unfold o64 at hr
  rw [List.length_take, STL, Nat.min_eq_left hm, hsv] at hr
  have HR := hide hr
  rcases hr.2 with ⟨_, q⟩ | ⟨gj, cj, cur, q, _, _, d1, d2, _⟩
  · omega
  simp only [Value.slice.injEq, true_and] at q
  obtain ⟨rfl, rfl⟩ := q
  rw [hsv] at c4
  unfold maxLen at d2
  have SE := hide (searchIN gj cs' m (off : Int) (fun j => ((sAt ls j : Nat) : Int)) w (fun j hj => by
    have := owns_cell HR.out j hj
    rw [this]
    have h9 := stL_getD (ls := ls) (i := j) (by omega)
    simp only [List.getD_eq_getElem?_getD] at h9 ⊢
    rw [List.getElem?_take, if_pos hj, h9]
    rfl) d1 (by omega) (fun i j hij _ => by have := sAt_lt ls hij; omega))
  clear h hr hsv
  go_enter Tryz.func199, Tryz.ntmps199
  go_wp2_with fail
  refine SE.out.mono ?_
  rintro e w1 ⟨k, rfl, hk, h1, h2, hw⟩
  subst hw
  have H1 := hide h1
  have H2 := hide h2
  clear h1 h2 SE
  by_cases hx : k < m ∧ ((sAt ls k : Nat) : Int) = off
  · have HX := hide hx
    have hd : decide (k < m ∧ ((sAt ls k : Nat) : Int) = off) = true := by simpa using hx
    rw [hd]
    clear hx hd
    go_wp2_with fail
    go_ret
    exact ⟨k, rfl, HX.out.1, by have := HX.out.2; omega, fun q => by have := sAt_lt ls (show k < k + 1 by omega); have := HX.out.2; omega, rfl⟩
  · have HX := hide hx
    have hd : decide (k < m ∧ ((sAt ls k : Nat) : Int) = off) = false := by simpa using hx
    rw [hd]
    clear hx hd
    have hk1 : 1 ≤ k := by
      rcases Nat.eq_zero_or_pos k with q | q
      · subst q
        have := H2.out 0 (Nat.le_refl _) (by omega)
        have h0 : sAt ls 0 = 0 := by simp [sAt, smL]
        exact absurd ⟨by omega, by rw [h0] at this ⊢; omega⟩ HX.out
      · exact q
    obtain ⟨k', rfl⟩ : ∃ k', k = k' + 1 := ⟨k - 1, by omega⟩
    go_wp2_with fail
    go_ret
    refine ⟨k', by go_num, by omega, by have := H1.out k' (by omega); omega, fun q => ?_, rfl⟩
    have h3 := H2.out (k' + 1) (Nat.le_refl _) q
    rcases Nat.lt_or_ge off (sAt ls (k' + 1)) with q2 | q2
    · exact q2
    · exact absurd ⟨q, by omega⟩ HX.out
end Go.Proofs.YtbgngikejgihgafGreatDoor
