import Derived.Test.YtbgngikejgihgadDoorTPcs3
import Derived.Test.YtbgngikejgihgadDoorTRec
namespace Go.Proofs.YtbgngikejgihgadDoor
open Go Go.RowKit
set_option linter.unusedVariables false

/-- The tree over a stretch of pieces, halved again and again. -/
def midT : Nat → List Pc → AT
  | 0, _ => .nil
  | f + 1, ps => match ps[ps.length / 2]? with
    | none => .nil
    | some p => .node (midT f (ps.take (ps.length / 2))) p (midT f (ps.drop (ps.length / 2 + 1)))
theorem midT_nil (f : Nat) : midT f [] = .nil := by cases f <;> simp [midT]
theorem midT_some {f : Nat} {ps : List Pc} {p : Pc} (h : ps[ps.length / 2]? = some p) : midT (f + 1) ps = .node (midT f (ps.take (ps.length / 2))) p (midT f (ps.drop (ps.length / 2 + 1))) := by
  simp only [midT, h]
theorem midT_flat : ∀ (f : Nat) (ps : List Pc), ps.length ≤ f → (midT f ps).flat = ps
  | 0, ps, h => by
    obtain rfl : ps = [] := List.eq_nil_of_length_eq_zero (by omega)
    rfl
  | f + 1, ps, h => by
    rcases Nat.eq_zero_or_pos ps.length with h0 | h0
    · obtain rfl : ps = [] := List.eq_nil_of_length_eq_zero h0
      rw [midT_nil]; rfl
    · have hl : ps.length / 2 < ps.length := by omega
      have hp : ps[ps.length / 2]? = some ps[ps.length / 2] := List.getElem?_eq_getElem hl
      rw [midT_some hp]
      show (midT f _).flat ++ _ :: (midT f _).flat = ps
      rw [midT_flat f _ (by rw [List.length_take]; omega), midT_flat f _ (by rw [List.length_drop]; omega)]
      rw [← List.drop_eq_getElem_cons hl, List.take_append_drop]

theorem RdP.cutL {B b o cap : Nat} {w : World} {ps : List Pc} (h : RdP B w (.slice (some ⟨b, o, none⟩) ps.length cap) ps) (m : Nat) (hm : m ≤ ps.length) : RdP B w (.slice (some ⟨b, o, none⟩) m cap) (ps.take m) := by
  have hl : (ps.take m).length = m := by rw [List.length_take]; omega
  rcases Nat.eq_zero_or_pos m with h0 | h0
  · subst h0; exact .inl ⟨_, _, rfl, by simp⟩
  · rcases h with ⟨_, _, e1, e2⟩ | ⟨b', o', c', e1, hp, hb, hc⟩
    · rw [e2] at hm; simp at hm; omega
    · simp only [Value.slice.injEq, Option.some.injEq, Addr.mk.injEq, and_true] at e1
      obtain ⟨⟨rfl, rfl⟩, _, rfl⟩ := e1
      refine .inr ⟨b, o, cap, by rw [hl], ⟨by omega, by omega, hp.2.2⟩, hb, fun i q hq => hc i q ?_⟩
      rw [List.getElem?_take] at hq
      split at hq
      · exact hq
      · cases hq
theorem RdP.cutR {B b o cap : Nat} {w : World} {ps : List Pc} {ao : Option Addr} (h : RdP B w (.slice (some ⟨b, o, none⟩) ps.length cap) ps) (m : Nat) (hm : m ≤ ps.length) (ha : m < ps.length → ao = some ⟨b, o + m * 3, none⟩) : RdP B w (.slice ao (ps.length - m) (cap - m)) (ps.drop m) := by
  have hl : (ps.drop m).length = ps.length - m := by rw [List.length_drop]
  rcases Nat.eq_or_lt_of_le hm with h0 | h0
  · refine .inl ⟨ao, cap - m, by rw [h0, Nat.sub_self], List.drop_eq_nil_of_le (by omega)⟩
  · rcases h with ⟨_, _, e1, e2⟩ | ⟨b', o', c', e1, hp, hb, hc⟩
    · rw [e2] at h0; simp at h0
    · simp only [Value.slice.injEq, Option.some.injEq, Addr.mk.injEq, and_true] at e1
      obtain ⟨⟨rfl, rfl⟩, _, rfl⟩ := e1
      refine .inr ⟨b, o + m * 3, cap - m, by rw [hl, ha h0], ⟨by omega, by omega, by omega⟩, hb, fun i q hq => ?_⟩
      rw [List.getElem?_drop] at hq
      have := hc (m + i) q hq
      rw [show o + m * 3 + i * 3 = o + (m + i) * 3 by omega]
      exact this
end Go.Proofs.YtbgngikejgihgadDoor
