import Derived.Test.YtdjdkgidihhkfabDoorMkPush
import Derived.Test.YtdjdkgidihhkfabDoorMkDel
import Derived.Test.YtdjdkgidihhkfabDoorMbQ
namespace Go.Proofs.YtdjdkgidihhkfabDoor
open Go Go.RowKit
set_option linter.unusedVariables false

theorem pull_push (off n : Int) (x : Mk) (hn : 0 ≤ n) : mov (pullF off n) (mov (pushF off n) x) = x := by
  obtain ⟨i, o, g⟩ := x
  refine Prod.ext rfl (Prod.ext ?_ rfl)
  simp only [mov, pullF, pushF]
  split <;> split <;> omega

theorem mov_ids (f : Mk → Int) (xs : List Mk) (h : xs.Pairwise fun a b => a.1 ≠ b.1) : (xs.map (mov f)).Pairwise fun a b => a.1 ≠ b.1 := by
  rw [List.pairwise_map]; exact h

/-- The table behind the insertion. -/
theorem back_ins {xs : List Mk} (h : Vd xs) (off n : Int) (hx : ∀ x ∈ xs, x.2.1 ≤ 200) (ho : 0 ≤ off ∧ off ≤ 8192) (hn : 0 ≤ n ∧ n ≤ 300) :
    insAns xs off n = (srt (xs.map (mov (pushF off n))), 0) ∧ Vd (srt (xs.map (mov (pushF off n)))) := by
  have hp : ∀ x ∈ xs, 0 ≤ pushF off n x ∧ pushF off n x ≤ 500 := fun x hm => by
    have h1 := hx x hm
    have h2 := (h.2.1 x hm).2
    simp only [inO, decide_eq_true_eq] at h2
    unfold pushF; split <;> omega
  constructor
  · unfold insAns
    rw [if_neg (by simpa using h), if_pos (by simp; omega), if_neg ?_]
    simp only [full, List.any_eq_true, decide_eq_true_eq, not_exists, not_and]
    intro x hm; have := hp x hm; omega
  · refine srt_Vd (by rw [List.length_map]; exact h.1) (fun y hy => ?_) (mov_ids _ _ h.ids)
    rw [List.mem_map] at hy
    obtain ⟨x, hm, rfl⟩ := hy
    refine ⟨(h.2.1 x hm).1, ?_⟩
    have := hp x hm
    show decide (0 ≤ pushF off n x ∧ pushF off n x ≤ 8192) = true
    simp; omega

/-- Taken out again, the table is that of before. -/
theorem back_del {xs : List Mk} (h : Vd xs) (off n : Int) (hx : ∀ x ∈ xs, x.2.1 ≤ 200) (ho : 0 ≤ off ∧ off ≤ 200) (hn : 0 ≤ n ∧ n ≤ 300) :
    delAns (srt (xs.map (mov (pushF off n)))) off (off + n) = (xs, 0) := by
  have hv := (back_ins h off n hx (by omega) hn).2
  unfold delAns
  rw [if_neg (by simpa using hv), if_pos (by simp; omega)]
  have e : off + n - off = n := by omega
  rw [e]
  congr 1
  symm
  refine srt_uniq ?_ h.sorted ?_
  · have h1 := (srt_perm (xs.map (mov (pushF off n)))).map (mov (pullF off n))
    rw [List.map_map] at h1
    have h2 : (mov (pullF off n) ∘ mov (pushF off n)) = id := by funext x; exact pull_push off n x hn.1
    rw [h2, List.map_id] at h1
    exact h1.symm
  · exact mov_ids _ _ hv.ids

end Go.Proofs.YtdjdkgidihhkfabDoor
