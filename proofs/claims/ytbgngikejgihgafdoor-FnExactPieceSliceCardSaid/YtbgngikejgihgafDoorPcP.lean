import Derived.WalkKit
import Derived.Test.YtbgngikejgihgafDoorTxP
namespace Go.Proofs.YtbgngikejgihgafDoor
open Go Go.RowKit
set_option linter.unusedVariables false

/-- Whether a piece is one of the store. -/
def wpB (zs : List Int) (p : Pc) : Bool := decide (p.off + p.len ≤ zs.length) && decide (p.brk = brk (ptx zs p))
theorem wpB_iff {zs : List Int} {p : Pc} (h : pcOk p = true) : wpB zs p = true ↔ WP zs p := by
  simp only [pcOk, decide_eq_true_eq] at h
  simp only [wpB, Bool.and_eq_true, decide_eq_true_eq, WP]
  constructor
  · rintro ⟨a, b⟩; exact ⟨by omega, by omega, a, b⟩
  · rintro ⟨_, _, a, b⟩; exact ⟨a, b⟩
def wps (zs : List Int) (xs : List It) : Bool := xs.all fun x => wpB zs x.pc
theorem wps_snoc (zs : List Int) (xs : List It) (x : It) : wps zs (xs ++ [x]) = (wps zs xs && wpB zs x.pc) := by simp [wps]
theorem wps_prefix {zs : List Int} {p xs : List It} (h : p <+: xs) (hp : wps zs p = false) : wps zs xs = false := by
  obtain ⟨r, rfl⟩ := h
  simp only [wps, List.all_append, Bool.and_eq_false_iff]
  exact .inl hp
/-- The tree of a valid piece buffer. -/
def pRead (zs : List Int) (xs : List It) : Option AT :=
  match readT xs with
  | none => none
  | some T => if zs.length ≤ 220000 ∧ wps zs xs = true then some T else none
theorem pRead_some {zs : List Int} {xs : List It} {T : AT} (h : pRead zs xs = some T) : readT xs = some T ∧ zs.length ≤ 220000 ∧ T.wp zs ∧ xs = T.told 0 := by
  unfold pRead at h
  cases hr : readT xs with
  | none => rw [hr] at h; cases h
  | some U =>
    rw [hr] at h
    simp only at h
    split at h
    · rename_i hc
      cases h
      obtain ⟨h1, _, h3, _⟩ := readT_some hr
      refine ⟨rfl, hc.1, (wp_told zs T 0).1 fun x hx => ?_, h3⟩
      have hp : pcOk x.pc = true := by
        simp only [okT, Bool.and_eq_true, List.all_eq_true] at h1
        exact h1.1.1.2 x (h3 ▸ hx)
      exact (wpB_iff hp).1 (List.all_eq_true.1 hc.2 x (h3 ▸ hx))
    · cases h
theorem pRead_isSome (zs : List Int) (xs : List It) : (pRead zs xs).isSome = (decide (zs.length ≤ 220000) && okT xs && wps zs xs) := by
  unfold pRead
  cases hr : readT xs with
  | none => simp [readT_none hr]
  | some U =>
    have h1 := (readT_some hr).1
    simp only [h1, Bool.and_true]
    by_cases h2 : zs.length ≤ 220000 <;> cases h3 : wps zs xs <;> simp [h2]
end Go.Proofs.YtbgngikejgihgafDoor
