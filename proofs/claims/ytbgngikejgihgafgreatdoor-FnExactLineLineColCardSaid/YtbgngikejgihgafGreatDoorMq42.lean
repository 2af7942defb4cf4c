import Derived.Test.YtbgngikejgihgafGreatDoorMq05
import Derived.Test.YtbgngikejgihgafGreatDoorMq31
import Derived.Test.YtbgngikejgihgafGreatDoorMq26
namespace Go.Proofs.YtbgngikejgihgafGreatDoor
open Go Go.RowKit
set_option linter.unusedVariables false

theorem bkn_no {zs : List Int} (h : 10 ∉ zs) : bkn zs = 0 := by
  induction zs with
  | nil => rfl
  | cons c zs ih =>
    rw [bkn_cons, if_neg (fun e => h (by simp [e])), ih (fun hm => h (List.mem_cons_of_mem _ hm))]
theorem lc_first {l r : List Int} (h : 10 ∉ l) {c : Nat} (hc : c ≤ l.length) : lcL (l ++ r) c = 0 ∧ lcC (l ++ r) c = c := by
  have e : (l ++ r).take c = l.take c := List.take_append_of_le_length hc
  have b0 : bkn (l.take c) = 0 := bkn_no (fun hm => h (List.mem_of_mem_take hm))
  unfold lcL lcC
  rw [e, b0]
  simp [ls]
theorem ls_shift {l J : List Int} (h : 10 ∉ l) (b : Nat) (hb : b ≤ bkn J) : ls (l ++ 10 :: J) (b + 1) = l.length + 1 + ls J b := by
  unfold ls
  rw [if_neg (by omega), show b + 1 - 1 = b by omega]
  rw [bb_right l (10 :: J) b (by rw [bkn_no h]; omega) (by rw [bkn_no h, bkn_cons, if_pos rfl]; omega), bkn_no h, Nat.sub_zero]
  rw [bb, if_pos rfl]
  by_cases hb0 : b = 0
  · simp [hb0]
  · simp [hb0]; omega
theorem lc_shift {l J : List Int} (h : 10 ∉ l) {k : Nat} (hk : k ≤ J.length) : lcL (l ++ 10 :: J) (l.length + 1 + k) = lcL J k + 1 ∧ lcC (l ++ 10 :: J) (l.length + 1 + k) = lcC J k := by
  have e : (l ++ 10 :: J).take (l.length + 1 + k) = l ++ 10 :: J.take k := by
    rw [show l.length + 1 + k = l.length + (k + 1) by omega, List.take_append, List.take_of_length_le (by omega)]
    simp
  have b0 : bkn (l ++ 10 :: J.take k) = bkn (J.take k) + 1 := by
    rw [bkn_append, bkn_no h, bkn_cons, if_pos rfl]; omega
  unfold lcL lcC
  rw [e, b0, ls_shift h _ (bkn_take J k)]
  constructor <;> omega
/-- Where a place of the joined lines lies. -/
theorem jn_at : ∀ (L : List (List Int)) (h : ∀ l ∈ L, 10 ∉ l) (i c : Nat) (l : List Int), L[i]? = some l → c ≤ l.length → lcL (jn L) (smL (L.take i) + i + c) = i ∧ lcC (jn L) (smL (L.take i) + i + c) = c ∧ smL (L.take i) + i + c ≤ (jn L).length
  | [], _, i, c, l, h, _ => by simp at h
  | [a], hn, i, c, l, h, hc => by
    cases i with
    | zero =>
      simp at h; subst h
      have := lc_first (r := []) (hn a (by simp)) hc
      simp only [List.append_nil] at this
      simp [jn, jt, smL]
      exact ⟨this.1, this.2, hc⟩
    | succ i => simp at h
  | a :: b :: L, hn, i, c, l, h, hc => by
    have ej : jn (a :: b :: L) = a ++ 10 :: jn (b :: L) := by simp [jn, jt]
    cases i with
    | zero =>
      simp at h; subst h
      have := lc_first (r := 10 :: jn (b :: L)) (hn a (by simp)) hc
      rw [ej]
      simp [smL]
      exact ⟨this.1, this.2, by omega⟩
    | succ i =>
      simp only [List.getElem?_cons_succ] at h
      have ih := jn_at (b :: L) (fun l hl => hn l (List.mem_cons_of_mem _ hl)) i c l h hc
      have sh := lc_shift (J := jn (b :: L)) (hn a (by simp)) ih.2.2
      rw [ej]
      have e1 : smL ((a :: b :: L).take (i + 1)) + (i + 1) + c = a.length + 1 + (smL ((b :: L).take i) + i + c) := by
        simp only [List.take_succ_cons, smL]; omega
      rw [e1, sh.1, sh.2, ih.1, ih.2.1]
      refine ⟨by omega, rfl, ?_⟩
      simp only [List.length_append, List.length_cons]
      omega
/-- Every place is one of a line. -/
theorem jn_cov : ∀ (L : List (List Int)) (hne : L ≠ []) (k : Nat), k ≤ (jn L).length → ∃ i c l, L[i]? = some l ∧ c ≤ l.length ∧ k = smL (L.take i) + i + c
  | [], h, _, _ => absurd rfl h
  | [a], _, k, hk => ⟨0, k, a, by simp, by simpa [jn, jt] using hk, by simp [smL]⟩
  | a :: b :: L, _, k, hk => by
    have ej : jn (a :: b :: L) = a ++ 10 :: jn (b :: L) := by simp [jn, jt]
    rw [ej, List.length_append, List.length_cons] at hk
    by_cases h : k ≤ a.length
    · exact ⟨0, k, a, by simp, h, by simp [smL]⟩
    · obtain ⟨i, c, l, h1, h2, h3⟩ := jn_cov (b :: L) (by simp) (k - a.length - 1) (by omega)
      refine ⟨i + 1, c, l, by simpa using h1, h2, ?_⟩
      simp only [List.take_succ_cons, smL]
      omega
theorem offL_jn {L : List (List Int)} (hne : L ≠ []) (hn : ∀ l ∈ L, 10 ∉ l) (line col : Int) : offL (jn L) line col = offG L line col := by
  unfold offG
  split
  · rename_i h
    obtain ⟨h1, h2, h3, h4⟩ := h
    obtain ⟨i, rfl⟩ : ∃ i : Nat, line = i := ⟨line.toNat, by omega⟩
    obtain ⟨c, rfl⟩ : ∃ c : Nat, col = c := ⟨col.toNat, by omega⟩
    rw [Int.toNat_natCast] at h4 ⊢
    have hi : i < L.length := by omega
    have hl : L[i]? = some L[i] := by simp [hi]
    have hd : L.getD i [] = L[i] := by simp [List.getD_eq_getElem?_getD, hi]
    rw [hd] at h4
    have := jn_at L hn i c _ hl (by omega)
    rw [offL_some this.2.2 (by rw [this.1]) (by rw [this.2.1])]
    omega
  · rename_i h
    refine offL_none (fun k hk hq => h ?_)
    obtain ⟨i, c, l, h1, h2, rfl⟩ := jn_cov L hne k hk
    have := jn_at L hn i c l h1 h2
    have hi : i < L.length := (List.getElem?_eq_some_iff.1 h1).1
    rw [this.1, this.2.1] at hq
    obtain ⟨rfl, rfl⟩ := hq
    refine ⟨by omega, by omega, by omega, ?_⟩
    rw [Int.toNat_natCast]
    have hd : L.getD i [] = l := by simp [List.getD_eq_getElem?_getD, h1]
    rw [hd]; omega
end Go.Proofs.YtbgngikejgihgafGreatDoor

namespace Go.Proofs.YtbgngikejgihgafGreatDoor
open Go Go.RowKit
set_option linter.unusedVariables false

theorem sAt_succ {L : List (List Int)} {i : Nat} {l : List Int} (h : L[i]? = some l) : sAt L (i + 1) = sAt L i + l.length + 1 := by
  unfold sAt
  rw [smL_take_succ h]; omega
theorem sAt_le (L : List (List Int)) {i j : Nat} (h : i ≤ j) : sAt L i ≤ sAt L j := by
  rcases Nat.eq_or_lt_of_le h with e | e
  · rw [e]; exact Nat.le_refl _
  · exact Nat.le_of_lt (sAt_lt L e)
/-- The line and the column that counting tells. -/
theorem Ln.lc {L : List (List Int)} {off k : Nat} (hn : ∀ l ∈ L, 10 ∉ l) (h : Ln L off k) (ho : off ≤ (jn L).length) : lcL (jn L) off = k ∧ lcC (jn L) off = off - sAt L k ∧ sAt L k ≤ off := by
  have hne : L ≠ [] := by intro e; rw [e] at h; exact absurd h.1 (by simp)
  obtain ⟨i, c, l, h1, h2, h3⟩ := jn_cov L hne off ho
  have hi : i < L.length := (List.getElem?_eq_some_iff.1 h1).1
  have h4 := sAt_succ h1
  have e3 : off = sAt L i + c := h3
  obtain rfl : i = k := by
    rcases Nat.lt_trichotomy i k with q | q | q
    · have := sAt_le L (show i + 1 ≤ k by omega); have := h.2.1; omega
    · exact q
    · have := sAt_le L (show k + 1 ≤ i by omega); have := h.2.2 (by omega); omega
  have := jn_at L hn i c l h1 h2
  rw [← h3] at this
  exact ⟨this.1, by rw [this.2.1]; omega, h.2.1⟩
/-- How far the index is known is told by what it says. -/
theorem Kn.uniq {L : List (List Int)} {s0 off m m' : Nat} (h : Kn L s0 off m) (h' : Kn L s0 off m') : m = m' := by
  rcases Nat.lt_trichotomy m m' with q | q | q
  · have h1 := h.2.2.2 (by have := h'.2.1; omega)
    have h2 := h'.2.2.1 m h.1 q
    omega
  · exact q
  · have h1 := h'.2.2.2 (by have := h.2.1; omega)
    have h2 := h.2.2.1 m' h'.1 q
    omega
theorem Ln.uniq {L : List (List Int)} {off k k' : Nat} (h : Ln L off k) (h' : Ln L off k') : k = k' := by
  rcases Nat.lt_trichotomy k k' with q | q | q
  · have h1 := h.2.2 (by have := h'.1; omega)
    have := sAt_le L (show k + 1 ≤ k' by omega); have := h'.2.1; omega
  · exact q
  · have h1 := h'.2.2 (by have := h.1; omega)
    have := sAt_le L (show k' + 1 ≤ k by omega); have := h.2.1; omega
theorem Kn.ex (L : List (List Int)) (s0 off : Nat) (hs : s0 ≤ L.length) : ∃ m, Kn L s0 off m := by
  obtain ⟨d, hd⟩ : ∃ d, d = L.length - s0 := ⟨_, rfl⟩
  induction d generalizing s0 with
  | zero => exact ⟨s0, Nat.le_refl _, hs, fun i h1 h2 => by omega, fun h => by omega⟩
  | succ d ih =>
    by_cases hc : sAt L (s0 - 1) ≤ off
    · obtain ⟨m, h1, h2, h3, h4⟩ := ih (s0 + 1) (by omega) (by omega)
      refine ⟨m, by omega, h2, fun i hi1 hi2 => ?_, h4⟩
      rcases Nat.eq_or_lt_of_le hi1 with e | e
      · rw [← e]; exact hc
      · exact h3 i e hi2
    · exact ⟨s0, Nat.le_refl _, hs, fun i h1 h2 => by omega, fun _ => by omega⟩
end Go.Proofs.YtbgngikejgihgafGreatDoor
