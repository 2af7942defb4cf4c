import Derived.Test.YtdjdkgidihhkfadDoorTSm
import Derived.Test.YtdjdkgidihhkfadDoorTFIns
import Derived.Test.YtdjdkgidihhkfadDoorTFDel
import Derived.Test.YtdjdkgidihhkfadDoorTVal2
import Derived.Test.YtdjdkgidihhkfadDoorTFPx
namespace Go.Proofs.YtdjdkgidihhkfadDoor
open Go Go.RowKit
set_option linter.unusedVariables false

def lenS : List Pc → Int
  | [] => 0
  | p :: l => p.len + lenS l
def brkS : List Pc → Int
  | [] => 0
  | p :: l => p.brk + brkS l
theorem lenS_snoc (l : List Pc) (p : Pc) : lenS (l ++ [p]) = lenS l + p.len := by
  induction l with
  | nil => simp [lenS]
  | cons q l ih => simp only [List.cons_append, lenS, ih]; omega
theorem brkS_snoc (l : List Pc) (p : Pc) : brkS (l ++ [p]) = brkS l + p.brk := by
  induction l with
  | nil => simp [brkS]
  | cons q l ih => simp only [List.cons_append, brkS, ih]; omega
theorem total_lenS : ∀ a : List It, total a = lenS (a.map It.pc)
  | [] => rfl
  | x :: a => by simp only [total, List.map_cons, lenS, total_lenS a]
theorem brks_brkS : ∀ a : List It, brks a = brkS (a.map It.pc)
  | [] => rfl
  | x :: a => by simp only [brks, List.map_cons, brkS, brks_brkS a]
theorem sums_sm : ∀ l : List Pc, (∀ q ∈ l, Sm q) → (0 ≤ lenS l ∧ lenS l ≤ 9 * l.length) ∧ (0 ≤ brkS l ∧ brkS l ≤ 9 * l.length)
  | [], _ => by simp [lenS, brkS]
  | p :: l, h => by
    have h1 := sums_sm l (fun q hq => h q (by simp [hq]))
    obtain ⟨_, _, g1, g2, g3, g4⟩ := h p (by simp)
    simp only [lenS, brkS, List.length_cons]
    omega

theorem told_cut {T : AT} {F : List Pc} {k : Nat} {q : Pc} (h : T.flat = F.take k ++ q :: F.drop k) (hk : k ≤ F.length) : ∃ a y b, T.told 0 = a ++ y :: b ∧ a.length = k ∧ y.pc = q ∧ a.map It.pc = F.take k := by
  have h1 := AT.told_pc T 0
  rw [h, List.map_eq_append_iff] at h1
  obtain ⟨a, r, e1, e2, e3⟩ := h1
  rw [List.map_eq_cons_iff] at e3
  obtain ⟨y, b, rfl, e4, _⟩ := e3
  refine ⟨a, y, b, e1, ?_, e4, e2⟩
  have := congrArg List.length e2
  rw [List.length_map, List.length_take] at this
  omega

theorem below_dn (B : Nat) (w : World) (n : Nat) : Below B w (w.drewN n) := by
  induction n generalizing w with
  | zero => exact Below.refl _ _
  | succ n ih => exact ⟨(ih w.drew).os, (ih w.drew).tape, (ih w.drew).output, (ih w.drew).size, (ih w.drew).block⟩

theorem rem_ins_flat {T : AT} {k : Nat} {q : Pc} (hk : k ≤ T.its) : ((T.ins k q).rem k).flat = T.flat := by
  have hf := AT.ins_flat T k q hk
  have hl := AT.flat_length T
  have hi : (T.ins k q).its = T.its + 1 := by rw [← AT.flat_length, hf, ← hl]; simp; omega
  rw [AT.rem_flat _ k (by omega), hf]
  have h1 : (T.flat.take k).length = k := by rw [List.length_take]; omega
  rw [List.take_append_of_le_length (by omega), List.take_of_length_le (by omega), List.drop_append, h1, List.drop_eq_nil_of_le (by omega), show k + 1 - k = 1 by omega]
  simp

set_option maxHeartbeats 400000 in
theorem drawNNB (bs : List Int) (vb : Value) (p : Nat) (k : Int) (w : World) (hS : SrcB bs vb p w) (hk0 : 0 < k) (hk1 : k ≤ 1048576) :
    Calls Tryd.prog 24 #[.pointer (some ⟨p, 0, none⟩), .int .i64 k] w fun e w' => ∃ r : Int, e = .returned (.int .i64 r) ∧ (0 ≤ r ∧ r < k) ∧ SrcB bs vb p w' ∧ Chg [p] w w' := by
  have HS := hide hS
  clear hS
  go_enter Tryd.func24, Tryd.ntmps24
  go_wp2_with fail
  refine (drawNB bs vb p k w HS.out hk0 hk1).mono ?_
  rintro e w1 ⟨r, rfl, hr, hs, hc⟩
  have H1 := hide hs
  have H2 := hide hc
  clear hs hc
  go_wp2
  go_ret
  exact ⟨_, rfl, hr, H1.out, H2.out⟩
end Go.Proofs.YtdjdkgidihhkfadDoor
