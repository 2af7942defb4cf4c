import Derived.Test.YtbgngikejgihgaeGreatDoorPsL
namespace Go.Proofs.YtbgngikejgihgaeGreatDoor
open Go Go.RowKit
set_option linter.unusedVariables false

/-- What the specification reads of the words behind the first: a code, three numbers, a text. -/
def lnF : List UInt8 → List (List UInt8) → Nat → List Int → List UInt8 → Int × List Int × List UInt8
  | c :: cs, w :: ws, k, n, t => if c = 104 then (match hexU w with
      | some u => lnF cs ws (k + 1) n u
      | none => (18, n, t))
    else (match numU w 18 with
      | some v => lnF cs ws (k + 1) (n.set k v) t
      | none => (17, n, t))
  | _, _, _, n, t => (0, n, t)
/-- The operation that the specification makes. -/
def lnO (x : List UInt8) (k : Int) (n : List Int) (t : List UInt8) : Sop := if x = [111, 112] then ⟨n.getD 0 0, 0, 0, 0, []⟩ else ⟨k, n.getD 0 0, n.getD 1 0, n.getD 2 0, t⟩
/-- What a line makes of what has been read. -/
def lnA (x : List UInt8) (k : Int) (n : List Int) (t : List UInt8) (s : Sr) : Sr :=
  if x = [99, 97, 112] then { s with cap := n.getD 0 0 } else if x = [112, 111, 108, 105, 99, 121] then { s with big := n.getD 0 0, near := n.getD 1 0, run := n.getD 2 0 }
  else { s with ops := s.ops ++ [lnO x k n t] }
/-- The same but for the operation that is being read. -/
def SrE (a b : Sr) : Prop := a.ops = b.ops ∧ a.cap = b.cap ∧ a.big = b.big ∧ a.near = b.near ∧ a.run = b.run
theorem cmdU_in {w : List UInt8} {k : Int} {form : List UInt8} (h : cmdU w = some (k, form)) : (w, k, form) ∈ cmds := by
  unfold cmdU at h
  cases hf : cmds.find? (fun x => decide (x.1 = w)) with
  | none => rw [hf] at h; cases h
  | some x =>
    rw [hf] at h
    have h1 := List.mem_of_find?_eq_some hf
    have h2 := List.find?_some hf
    simp only [decide_eq_true_eq] at h2
    simp only [Option.map_some, Option.some.injEq] at h
    obtain ⟨a, b, c⟩ := x
    simp only at h2
    subst h2
    rw [← h]
    exact h1
theorem lineU_ln {ws : List (List UInt8)} {k : Int} {form : List UInt8} {s : Sr} (h : cmdU (ws.headD []) = some (k, form)) (hl : ws.length = form.length + 1) :
    (lineU ws s).1 = (lnF (fmL form) ws.tail 0 [0, 0, 0] []).1 ∧ ((lnF (fmL form) ws.tail 0 [0, 0, 0] []).1 = 0 → SrE (lineU ws s).2 (lnA (ws.headD []) (if k = -1 then 0 else k) (lnF (fmL form) ws.tail 0 [0, 0, 0] []).2.1 (lnF (fmL form) ws.tail 0 [0, 0, 0] []).2.2 s)) := by
  obtain ⟨x, ws, rfl⟩ : ∃ x r, ws = x :: r := by
    cases ws with
    | nil => simp at hl
    | cons x r => exact ⟨x, r, rfl⟩
  have hm := cmdU_in h
  have hl2 : ws.length = form.length := by simpa using hl
  have hR : lineU (x :: ws) s = if (runF form ws { s with op := ⟨k, 0, 0, 0, []⟩ }).1 = 0 then (0, finU k (runF form ws { s with op := ⟨k, 0, 0, 0, []⟩ }).2) else runF form ws { s with op := ⟨k, 0, 0, 0, []⟩ } := by
    unfold lineU
    rw [h]
    show (if (x :: ws).length ≠ form.length + 1 then _ else _) = _
    rw [if_neg (by simpa using hl2)]
    rfl
  rw [hR]
  clear hR h hl
  simp only [List.headD_cons, List.tail_cons] at hm ⊢
  simp only [cmds, List.mem_cons, Prod.mk.injEq, List.not_mem_nil, or_false] at hm
  rcases hm with hm | hm | hm | hm | hm | hm | hm | hm | hm | hm | hm | hm | hm | hm | hm | hm | hm | hm | hm <;>
  · obtain ⟨rfl, rfl, rfl⟩ := hm
    match ws, hl2 with
    | [], e => first | (simp at e; done) | simp [runF, lnF, fmL, finU, lnA, lnO, SrE]
    | [a], e => first | (simp at e; done) | (cases ha : numU a 18 <;> simp [runF, lnF, fmL, takU, setU, finU, lnA, lnO, SrE, ha])
    | [a, b], e => first | (simp at e; done) | (cases hx : hexU b <;> cases ha : numU a 18 <;> cases hb : numU b 18 <;> simp [runF, lnF, fmL, takU, setU, finU, lnA, lnO, SrE, hx, ha, hb])
    | [a, b, c], e => first | (simp at e; done) | (cases ha : numU a 18 <;> cases hb : numU b 18 <;> cases hc : numU c 18 <;> simp [runF, lnF, fmL, takU, setU, finU, lnA, lnO, SrE, ha, hb, hc])
    | _ :: _ :: _ :: _ :: _, e => exact absurd e (by simp)
end Go.Proofs.YtbgngikejgihgaeGreatDoor
