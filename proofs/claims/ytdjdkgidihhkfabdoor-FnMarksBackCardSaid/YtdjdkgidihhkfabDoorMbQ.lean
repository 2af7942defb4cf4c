import Derived.Test.YtdjdkgidihhkfabDoorMkP
namespace Go.Proofs.YtdjdkgidihhkfabDoor
set_option linter.unusedVariables false

/-- What is sorted, with ids that differ, is a valid table. -/
theorem srt_Vd {xs : List Mk} (hl : xs.length ≤ 128) (hx : ∀ x ∈ xs, inI x = true ∧ inO x = true) (hd : xs.Pairwise fun a b => a.1 ≠ b.1) : Vd (srt xs) := by
  refine ⟨by rw [srt_length]; exact hl, fun x h => hx x ((srt_perm xs).subset h), ?_⟩
  have h1 := srt_sorted xs
  have h2 : (srt xs).Pairwise fun a b => a.1 ≠ b.1 := hd.perm (srt_perm xs).symm (fun h => Ne.symm h)
  rw [List.pairwise_iff_getElem] at h1 h2 ⊢
  intro i j hi hj hij
  exact ⟨bef_total (h2 i j hi hj hij).symm (h1 i j hi hj hij), h2 i j hi hj hij⟩

theorem Vd.ids {xs : List Mk} (h : Vd xs) : xs.Pairwise fun a b => a.1 ≠ b.1 := h.2.2.imp fun q => q.2
theorem Vd.sorted {xs : List Mk} (h : Vd xs) : xs.Pairwise fun a b => bef b a = false := h.2.2.imp fun q => bef_asymm q.1

end Go.Proofs.YtdjdkgidihhkfabDoor
