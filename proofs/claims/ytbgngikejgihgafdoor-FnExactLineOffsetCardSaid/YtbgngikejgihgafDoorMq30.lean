import Derived.WalkKit
import Derived.Test.YtbgngikejgihgafDoorMq29
import Derived.Test.YtbgngikejgihgafDoorMq05
namespace Go.Proofs.YtbgngikejgihgafDoor
open Go Go.RowKit
set_option linter.unusedVariables false

theorem ls_succ (zs : List Int) (t : Nat) : ls zs (t + 1) = bb zs t := by simp [ls]
theorem bb_pos (zs : List Int) (n : Nat) (h : n < bkn zs) : 0 < bb zs n := (bb_key zs 0 n h).1 (by simp [bkn])
theorem bkn_ls (zs : List Int) (t : Nat) (h : t ≤ bkn zs) : bkn (zs.take (ls zs t)) = t := by
  cases t with
  | zero => simp [ls, bkn]
  | succ t =>
    rw [ls_succ]
    have h1 := bb_key zs (bb zs t) t (by omega)
    have h2 := bb_key zs (bb zs t - 1) t (by omega)
    have h3 := bb_pos zs t (by omega)
    have h4 := bb_le zs t
    have h5 := bkn_take_succ zs (bb zs t - 1) (by omega)
    rw [show bb zs t - 1 + 1 = bb zs t by omega] at h5
    split at h5 <;> omega
theorem bb_step (zs : List Int) (t : Nat) (h : t < bkn zs) : bb zs t = ls zs t + bb (zs.drop (ls zs t)) 0 ∧ 0 < bkn (zs.drop (ls zs t)) ∧ ls zs t < zs.length := by
  have h1 := bkn_ls zs t (by omega)
  have h2 := bkn_append (zs.take (ls zs t)) (zs.drop (ls zs t))
  rw [List.take_append_drop, h1] at h2
  have h3 := bkn_le (zs.drop (ls zs t))
  rw [List.length_drop] at h3
  have h4 := bb_right (zs.take (ls zs t)) (zs.drop (ls zs t)) t (by omega) (by omega)
  rw [List.take_append_drop, h1, Nat.sub_self, List.length_take] at h4
  exact ⟨by omega, by omega, by omega⟩
/-- The first break. -/
theorem bb_first (zs : List Int) (k : Nat) (h : 0 < bkn zs) (hk : k < bb zs 0) : (zs.getD k 0 = 10 → bb zs 0 = k + 1) ∧ (¬ zs.getD k 0 = 10 → k + 1 < bb zs 0) ∧ k < zs.length := by
  have h1 := bb_le zs 0
  have h2 := bb_key zs k 0 h
  have h3 := bb_key zs (k + 1) 0 h
  have h4 := bkn_take_succ zs k (by omega)
  refine ⟨fun hz => ?_, fun hz => ?_, by omega⟩
  · rw [if_pos hz] at h4; omega
  · rw [if_neg hz] at h4; omega
theorem seek_nonneg (S : List Int) (m : Pc → Int) : ∀ (T : AT) (k : Int), T.wp S → 0 ≤ (seekT m T k).2.1 ∧ 0 ≤ (seekT m T k).2.2.1
  | .nil, _, _ => by simp [seekT]
  | .node l p r, k, hw => by
    obtain ⟨hl, hp, hr⟩ := hw
    have e1 := AT.tx_len hl
    have e2 := AT.tx_brk hl
    have e3 := (brk_bd (l.tx S)).1
    have e4 := hp.2.2.2
    have e5 := (brk_bd (ptx S p)).1
    have e6 := hp.2.1
    have i1 := seek_nonneg S m l k hl
    have i2 := seek_nonneg S m r (k - sumM m (l.told 0) - m p) hr
    simp only [seekT]
    split
    · exact i1
    · split
      · simp only; omega
      · simp only; omega
theorem seekP_nil (S : List Int) : ∀ (T : AT) (k : Int), T.wp S → 0 ≤ k → 0 < (seekP (fun p => p.len) T k).len ∨ (seekP (fun p => p.len) T k).off = 0
  | .nil, _, _, _ => .inr rfl
  | .node l p r, k, hw, h0 => by
    obtain ⟨hl, hp, hr⟩ := hw
    have e1 := AT.tx_len hl
    have e0 : sumM (fun p => p.len) (l.told 0) = l.rns := by rw [sumM_len, AT.rns_told]
    simp only [seekP, e0]
    split
    · exact seekP_nil S l k hl h0
    · split
      · left; omega
      · exact seekP_nil S r _ hr (by omega)
/-- Line and column by counting. -/
def lcL (zs : List Int) (k : Nat) : Int := (bkn (zs.take k) : Nat)
def lcC (zs : List Int) (k : Nat) : Int := (k : Int) - (ls zs (bkn (zs.take k)) : Nat)
theorem lc_zero (zs : List Int) : lcL zs 0 = 0 ∧ lcC zs 0 = 0 := by simp [lcL, lcC, bkn, ls]
theorem lc_brk (zs : List Int) (k : Nat) (h : k < zs.length) (hz : zs.getD k 0 = 10) : lcL zs (k + 1) = lcL zs k + 1 ∧ lcC zs (k + 1) = 0 := by
  have h1 := bkn_take_succ zs k h
  rw [if_pos hz] at h1
  have h2 := ls_step zs k h hz
  unfold lcL lcC
  rw [h2, h1]
  omega
theorem lc_col (zs : List Int) (k : Nat) (h : k < zs.length) (hz : ¬ zs.getD k 0 = 10) : lcL zs (k + 1) = lcL zs k ∧ lcC zs (k + 1) = lcC zs k + 1 := by
  have h1 := bkn_take_succ zs k h
  rw [if_neg hz] at h1
  have h2 : bkn (zs.take (k + 1)) = bkn (zs.take k) := by omega
  unfold lcL lcC
  rw [h2]
  omega
theorem lc_bd (zs : List Int) (k : Nat) (h : k ≤ zs.length) : 0 ≤ lcL zs k ∧ lcL zs k ≤ k ∧ 0 ≤ lcC zs k ∧ lcC zs k ≤ k := by
  have h1 := bkn_le (zs.take k)
  have h2 := ls_low zs k h
  rw [List.length_take] at h1
  unfold lcL lcC
  omega
/-- The offset of a line and a column, or none. -/
def offL (zs : List Int) (line col : Int) : Int :=
  if 0 ≤ line ∧ line ≤ brk zs ∧ 0 ≤ col ∧ (ls zs line.toNat : Int) + col ≤ (le zs line.toNat : Nat) then (ls zs line.toNat : Int) + col else -1
theorem offL_some {zs : List Int} {line col : Int} {k : Nat} (hk : k ≤ zs.length) (h1 : lcL zs k = line) (h2 : lcC zs k = col) : offL zs line col = k := by
  have h3 := ls_low zs k hk
  have h4 := lc_only zs k hk
  have h5 := bkn_take zs k
  subst h1 h2
  unfold offL lcL lcC
  rw [brk_bkn, Int.toNat_natCast, if_pos (by omega)]
  omega
theorem offL_none {zs : List Int} {line col : Int} (h : ∀ k, k ≤ zs.length → ¬ (lcL zs k = line ∧ lcC zs k = col)) : offL zs line col = -1 := by
  unfold offL
  split
  · rename_i hc
    exfalso
    rw [brk_bkn] at hc
    obtain ⟨l, rfl⟩ : ∃ l : Nat, line = l := ⟨line.toNat, by omega⟩
    obtain ⟨c, rfl⟩ : ∃ c : Nat, col = c := ⟨col.toNat, by omega⟩
    rw [Int.toNat_natCast] at hc
    obtain ⟨h1, h2⟩ := lc_there zs l c (by omega) (by omega)
    refine h (ls zs l + c) h1 ⟨by rw [lcL, h2], ?_⟩
    rw [lcC, h2]
    omega
  · rfl
end Go.Proofs.YtbgngikejgihgafDoor

namespace Go.Proofs.YtbgngikejgihgafDoor
open Go Go.RowKit
set_option linter.unusedVariables false

theorem bkn_no {zs : List Int} (h : 10 ∉ zs) : bkn zs = 0 := by
  induction zs with
  | nil => rfl
  | cons c zs ih =>
    rw [bkn_cons, if_neg (fun e => h (by simp [e])), ih (fun hm => h (List.mem_cons_of_mem _ hm))]
theorem lc_first {l r : List Int} (h : 10 ∉ l) {c : Nat} (hc : c ≤ l.length) : lcL (l ++ r) c = 0 ∧ lcC (l ++ r) c = c := by
  have e : (l ++ r).take c = l.take c := List.take_append_of_le_length hc
  have b0 : bkn (l.take c) = 0 := bkn_no (fun hm => h (List.mem_of_mem_take hm))
  unfold lcL lcC
  rw [e, b0]
  simp [ls]
theorem ls_shift {l J : List Int} (h : 10 ∉ l) (b : Nat) (hb : b ≤ bkn J) : ls (l ++ 10 :: J) (b + 1) = l.length + 1 + ls J b := by
  unfold ls
  rw [if_neg (by omega), show b + 1 - 1 = b by omega]
  rw [bb_right l (10 :: J) b (by rw [bkn_no h]; omega) (by rw [bkn_no h, bkn_cons, if_pos rfl]; omega), bkn_no h, Nat.sub_zero]
  rw [bb, if_pos rfl]
  by_cases hb0 : b = 0
  · simp [hb0]
  · simp [hb0]; omega
theorem lc_shift {l J : List Int} (h : 10 ∉ l) {k : Nat} (hk : k ≤ J.length) : lcL (l ++ 10 :: J) (l.length + 1 + k) = lcL J k + 1 ∧ lcC (l ++ 10 :: J) (l.length + 1 + k) = lcC J k := by
  have e : (l ++ 10 :: J).take (l.length + 1 + k) = l ++ 10 :: J.take k := by
    rw [show l.length + 1 + k = l.length + (k + 1) by omega, List.take_append, List.take_of_length_le (by omega)]
    simp
  have b0 : bkn (l ++ 10 :: J.take k) = bkn (J.take k) + 1 := by
    rw [bkn_append, bkn_no h, bkn_cons, if_pos rfl]; omega
  unfold lcL lcC
  rw [e, b0, ls_shift h _ (bkn_take J k)]
  constructor <;> omega
/-- Where a place of the joined lines lies. -/
theorem jn_at : ∀ (L : List (List Int)) (h : ∀ l ∈ L, 10 ∉ l) (i c : Nat) (l : List Int), L[i]? = some l → c ≤ l.length → lcL (jn L) (smL (L.take i) + i + c) = i ∧ lcC (jn L) (smL (L.take i) + i + c) = c ∧ smL (L.take i) + i + c ≤ (jn L).length
  | [], _, i, c, l, h, _ => by simp at h
  | [a], hn, i, c, l, h, hc => by
    cases i with
    | zero =>
      simp at h; subst h
      have := lc_first (r := []) (hn a (by simp)) hc
      simp only [List.append_nil] at this
      simp [jn, jt, smL]
      exact ⟨this.1, this.2, hc⟩
    | succ i => simp at h
  | a :: b :: L, hn, i, c, l, h, hc => by
    have ej : jn (a :: b :: L) = a ++ 10 :: jn (b :: L) := by simp [jn, jt]
    cases i with
    | zero =>
      simp at h; subst h
      have := lc_first (r := 10 :: jn (b :: L)) (hn a (by simp)) hc
      rw [ej]
      simp [smL]
      exact ⟨this.1, this.2, by omega⟩
    | succ i =>
      simp only [List.getElem?_cons_succ] at h
      have ih := jn_at (b :: L) (fun l hl => hn l (List.mem_cons_of_mem _ hl)) i c l h hc
      have sh := lc_shift (J := jn (b :: L)) (hn a (by simp)) ih.2.2
      rw [ej]
      have e1 : smL ((a :: b :: L).take (i + 1)) + (i + 1) + c = a.length + 1 + (smL ((b :: L).take i) + i + c) := by
        simp only [List.take_succ_cons, smL]; omega
      rw [e1, sh.1, sh.2, ih.1, ih.2.1]
      refine ⟨by omega, rfl, ?_⟩
      simp only [List.length_append, List.length_cons]
      omega
/-- Every place is one of a line. -/
theorem jn_cov : ∀ (L : List (List Int)) (hne : L ≠ []) (k : Nat), k ≤ (jn L).length → ∃ i c l, L[i]? = some l ∧ c ≤ l.length ∧ k = smL (L.take i) + i + c
  | [], h, _, _ => absurd rfl h
  | [a], _, k, hk => ⟨0, k, a, by simp, by simpa [jn, jt] using hk, by simp [smL]⟩
  | a :: b :: L, _, k, hk => by
    have ej : jn (a :: b :: L) = a ++ 10 :: jn (b :: L) := by simp [jn, jt]
    rw [ej, List.length_append, List.length_cons] at hk
    by_cases h : k ≤ a.length
    · exact ⟨0, k, a, by simp, h, by simp [smL]⟩
    · obtain ⟨i, c, l, h1, h2, h3⟩ := jn_cov (b :: L) (by simp) (k - a.length - 1) (by omega)
      refine ⟨i + 1, c, l, by simpa using h1, h2, ?_⟩
      simp only [List.take_succ_cons, smL]
      omega
theorem offL_jn {L : List (List Int)} (hne : L ≠ []) (hn : ∀ l ∈ L, 10 ∉ l) (line col : Int) : offL (jn L) line col = offG L line col := by
  unfold offG
  split
  · rename_i h
    obtain ⟨h1, h2, h3, h4⟩ := h
    obtain ⟨i, rfl⟩ : ∃ i : Nat, line = i := ⟨line.toNat, by omega⟩
    obtain ⟨c, rfl⟩ : ∃ c : Nat, col = c := ⟨col.toNat, by omega⟩
    rw [Int.toNat_natCast] at h4 ⊢
    have hi : i < L.length := by omega
    have hl : L[i]? = some L[i] := by simp [hi]
    have hd : L.getD i [] = L[i] := by simp [List.getD_eq_getElem?_getD, hi]
    rw [hd] at h4
    have := jn_at L hn i c _ hl (by omega)
    rw [offL_some this.2.2 (by rw [this.1]) (by rw [this.2.1])]
    omega
  · rename_i h
    refine offL_none (fun k hk hq => h ?_)
    obtain ⟨i, c, l, h1, h2, rfl⟩ := jn_cov L hne k hk
    have := jn_at L hn i c l h1 h2
    have hi : i < L.length := (List.getElem?_eq_some_iff.1 h1).1
    rw [this.1, this.2.1] at hq
    obtain ⟨rfl, rfl⟩ := hq
    refine ⟨by omega, by omega, by omega, ?_⟩
    rw [Int.toNat_natCast]
    have hd : L.getD i [] = l := by simp [List.getD_eq_getElem?_getD, h1]
    rw [hd]; omega
end Go.Proofs.YtbgngikejgihgafDoor
