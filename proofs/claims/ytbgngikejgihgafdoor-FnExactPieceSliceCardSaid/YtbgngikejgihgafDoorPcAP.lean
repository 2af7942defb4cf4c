import Derived.WalkKit
import Derived.Test.YtbgngikejgihgafDoorTxP
namespace Go.Proofs.YtbgngikejgihgafDoor
open Go Go.RowKit
set_option linter.unusedVariables false

/-- What stands from a on to before b, the numbers cut to what is there. -/
def cutT (U : List Int) (a b : Int) : List Int := (U.drop a.toNat).take (b.toNat - a.toNat)
theorem cutT_append (A B : List Int) (a b : Int) (h : a ≤ b) : cutT (A ++ B) a b = cutT A a b ++ cutT B (a - A.length) (b - A.length) := by
  unfold cutT
  rw [List.drop_append, List.take_append, List.length_drop]
  congr 1
  rw [show (a - (A.length : Int)).toNat = a.toNat - A.length by omega]
  congr 1
  omega
theorem cutT_low (U : List Int) (a b : Int) (h : b ≤ 0) : cutT U a b = [] := by
  unfold cutT; rw [show b.toNat - a.toNat = 0 by omega, List.take_zero]
theorem cutT_high (U : List Int) (a b : Int) (h : (U.length : Int) ≤ a) : cutT U a b = [] := by
  unfold cutT; rw [List.drop_of_length_le (by omega), List.take_nil]
theorem cutT_len (U : List Int) (a b : Int) (h : 0 ≤ a) (h1 : a ≤ b) (h2 : b ≤ U.length) : ((cutT U a b).length : Int) = b - a := by
  unfold cutT; rw [List.length_take, List.length_drop]; omega

/-- What a walk across meets: offset and piece. -/
def acr (lo hi : Int) : AT → Int → List (Int × Pc)
  | .nil, _ => []
  | .node l p r, s => if hi ≤ s ∨ s + (AT.node l p r).rns ≤ lo then [] else
    acr lo hi l s ++ ((if s + l.rns < hi ∧ lo < s + l.rns + p.len then [(s + l.rns, p)] else []) ++ acr lo hi r (s + l.rns + p.len))
def txA (zs : List Int) (lo hi : Int) : List (Int × Pc) → List Int
  | [] => []
  | y :: ys => cutT (ptx zs y.2) (lo - y.1) (hi - y.1) ++ txA zs lo hi ys
theorem txA_append (zs : List Int) (lo hi : Int) (a b : List (Int × Pc)) : txA zs lo hi (a ++ b) = txA zs lo hi a ++ txA zs lo hi b := by
  induction a with
  | nil => rfl
  | cons x a ih => simp [txA, ih]
theorem acr_tx (zs : List Int) (lo hi : Int) (hlh : lo ≤ hi) : ∀ (T : AT) (s : Int), T.wp zs → txA zs lo hi (acr lo hi T s) = cutT (T.tx zs) (lo - s) (hi - s)
  | .nil, s, _ => by simp [acr, txA, cutT, AT.tx]
  | .node l p r, s, hw => by
    have hw' := hw
    obtain ⟨hl, hp, hr⟩ := hw
    have el := AT.tx_len hl
    have ep := ptx_len hp
    have ea := AT.tx_len hw'
    unfold acr
    split
    · rename_i hc
      rcases hc with hc | hc
      · rw [cutT_low _ _ _ (by omega)]; rfl
      · rw [cutT_high _ _ _ (by omega)]; rfl
    · simp only [AT.tx]
      rw [txA_append, txA_append, acr_tx zs lo hi hlh l s hl, acr_tx zs lo hi hlh r _ hr, cutT_append _ _ _ _ (by omega), cutT_append _ _ _ _ (by omega), el, ep]
      congr 1
      rw [show lo - s - l.rns - p.len = lo - (s + l.rns + p.len) by omega, show hi - s - l.rns - p.len = hi - (s + l.rns + p.len) by omega]
      congr 1
      split
      · simp only [txA, List.append_nil]
        rw [show lo - s - l.rns = lo - (s + l.rns) by omega, show hi - s - l.rns = hi - (s + l.rns) by omega]
      · rename_i hn
        by_cases h1 : s + l.rns < hi
        · rw [cutT_high _ _ _ (by omega)]; rfl
        · rw [cutT_low _ _ _ (by omega)]; rfl
def AT.pos : AT → Prop
  | .nil => True
  | .node l p r => l.pos ∧ 1 ≤ p.len ∧ r.pos
/-- What is met is a piece of the store that holds some of it. -/
def AcQ (zs : List Int) (lo hi : Int) (y : Int × Pc) : Prop := WP zs y.2 ∧ 0 ≤ y.1 ∧ y.1 ≤ 8192 ∧ y.1 < hi ∧ lo < y.1 + y.2.len ∧ y.2.len ≤ 8192 ∧ 1 ≤ y.2.len
theorem acr_q (zs : List Int) (lo hi : Int) : ∀ (T : AT) (s : Int), T.wp zs → T.pos → 0 ≤ s → s + T.rns ≤ 8192 → ∀ y ∈ acr lo hi T s, AcQ zs lo hi y
  | .nil, s, _, _, _, _ => by simp [acr]
  | .node l p r, s, hw, hps, h0, h1 => by
    obtain ⟨hl, hp, hr⟩ := hw
    obtain ⟨pl, pp, pr⟩ := hps
    have el := AT.tx_len hl
    have er := AT.tx_len hr
    have hp2 := hp.2.1
    simp only [AT.rns] at h1
    intro y hy
    unfold acr at hy
    split at hy
    · cases hy
    · rcases List.mem_append.1 hy with hy | hy
      · exact acr_q zs lo hi l s hl pl h0 (by omega) y hy
      · rcases List.mem_append.1 hy with hy | hy
        · split at hy
          · rename_i hc
            obtain rfl : y = (s + l.rns, p) := by simpa using hy
            exact ⟨hp, by simp only; omega, by simp only; omega, hc.1, hc.2, by simp only; omega, pp⟩
          · cases hy
        · exact acr_q zs lo hi r _ hr pr (by omega) (by omega) y hy
theorem acr_len (lo hi : Int) : ∀ (T : AT) (s : Int), (acr lo hi T s).length ≤ T.its
  | .nil, _ => by simp [acr]
  | .node l p r, s => by
    have h1 := acr_len lo hi l s
    have h2 := acr_len lo hi r (s + l.rns + p.len)
    unfold acr
    simp only [AT.its]
    split
    · simp
    · split
      · simp only [List.length_append, List.length_cons, List.length_nil]; omega
      · simp only [List.length_append, List.length_nil]; omega
end Go.Proofs.YtbgngikejgihgafDoor
