import Derived.Test.YtbgngikejgihgafDoorTRemN
import Derived.Deep.RegionWith
import Derived.Deep.Cut
import Derived.Deep.CutRange
import Derived.Deep.CutBlock
import Derived.Deep.DeepCutAuto
namespace Go.Proofs.YtbgngikejgihgafDoor
open Go Go.RowKit
set_option linter.unusedVariables false

theorem AT.spl_gt (l : AT) (p : Pc) (r : AT) (e : Pc) (B : AT) (h : (AT.node l p r).ht > B.ht + 1) : AT.spl (.node l p r) e B = AT.rep l p (AT.spl r e B) := by
  rw [AT.spl.eq_def]; simp only [if_pos h]
theorem AT.spl_lt (A : AT) (e : Pc) (l : AT) (p : Pc) (r : AT) (h1 : ¬ A.ht > (AT.node l p r).ht + 1) (h : (AT.node l p r).ht > A.ht + 1) : AT.spl A e (.node l p r) = AT.rep (AT.spl A e l) p r := by
  rw [AT.spl.eq_def]; simp only [if_neg h1, if_pos h]
theorem AT.spl_eq (A : AT) (e : Pc) (B : AT) (h1 : ¬ A.ht > B.ht + 1) (h : ¬ B.ht > A.ht + 1) : AT.spl A e B = .node A e B := by
  rw [AT.spl.eq_def]; simp only [if_neg h1, if_neg h]

/-- Between the call and the repair, the right child changed. -/
def CutR (base b m : Nat) (l : AT) (p : Pc) (S : AT) (ul : Option Addr) (bl cs ds : List Nat) (h i n k : Int) (w wc : World) : Prop :=
  ∃ u2 bs2, Nd wc b p ul u2 h i n k ∧ Lies wc base S u2 bs2 ∧ Lies wc base l ul bl ∧ (b :: (bl ++ bs2)).Nodup ∧ (∀ x ∈ bs2, x ∈ cs ∨ m ≤ x) ∧ Chg ds w wc
def CutL (base b m : Nat) (r : AT) (p : Pc) (S : AT) (ur : Option Addr) (br cs ds : List Nat) (h i n k : Int) (w wc : World) : Prop :=
  ∃ u2 bs2, Nd wc b p u2 ur h i n k ∧ Lies wc base S u2 bs2 ∧ Lies wc base r ur br ∧ (b :: (bs2 ++ br)).Nodup ∧ (∀ x ∈ bs2, x ∈ cs ∨ m ≤ x) ∧ Chg ds w wc
theorem Chg.heap {bs : List Nat} {a b c : World} (h : Chg bs a b) (e1 : c.os = b.os) (e2 : c.tape = b.tape) (e3 : c.output = b.output) (e4 : c.heap = b.heap) : Chg bs a c := h.drawn e1 e2 e3 e4
theorem Lies.heap {w w' : World} {base : Nat} {T : AT} {u : Option Addr} {bs : List Nat} (h : Lies w base T u bs) (e : w'.heap = w.heap) : Lies w' base T u bs := h.frame (fun _ _ => by rw [e])

theorem MutPost.drawn {base : Nat} {T : AT} {bs : List Nat} {W w : World} {e : Ending} {w' : World} (h : MutPost base T bs W e w') (e1 : W.os = w.os) (e2 : W.tape = w.tape) (e3 : W.output = w.output) (e4 : W.heap = w.heap) : MutPost base T bs w e w' := by
  obtain ⟨u', bs', h1, h2, h3, h4, h5⟩ := h
  exact ⟨u', bs', h1, h2, h3, by rw [← e4]; exact h4, h5.os.trans e1, h5.tape.trans e2, h5.output.trans e3, by rw [← e4]; exact h5.size, by rw [← e4]; exact h5.block⟩

end Go.Proofs.YtbgngikejgihgafDoor
