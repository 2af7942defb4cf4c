import Derived.Test.YtbgngikejgihgagGreatDoorMq24
import Derived.Test.YtbgngikejgihgagGreatDoorMq15
import Derived.Test.YtbgngikejgihgagGreatDoorMq40
import Derived.OwnWalk
import Derived.Test.YtbgngikejgihgagGreatDoorMq05
import Derived.WalkKit
import Derived.WalkLawsBesides
import Derived.Test.YtbgngikejgihgagGreatDoorMq29
import Derived.Test.YtbgngikejgihgagGreatDoorMq31
import Derived.Test.YtbgngikejgihgagGreatDoorMq25
import Derived.Test.YtbgngikejgihgagGreatDoorMq08
import Derived.Laws.AppendOwnNone
import Derived.Deep.Cut
import Derived.Deep.CutRange
import Derived.Lib.QuietBelowIn
import Derived.RangeFuncCalls
import Derived.OrdersIn
import Derived.LoopIn
import Derived.LoopNIn
import Derived.Maps.AppendAt
import Derived.OwnWalkIn
import Derived.RangeFuncBound
import Derived.RangeFuncBox
import Derived.RangeFuncLeaves
import Derived.RangeFuncNested
import Derived.Shelf.Abstract
import Derived.TacticsInMore
import Derived.Test.YtbgngikejgihgagGreatDoorMq42
namespace Go.Proofs.YtbgngikejgihgagGreatDoor
open Go Go.RowKit
set_option linter.unusedVariables false

theorem Tryz.mLengthL (c : Option Addr) (w : World) : (Go.method 605 98 (.pointer c) "loop.example/s01685/impl.length").run Tryz.prog w = .ok (352, .pointer c) w := by kernel_rfl
theorem lengthLC (lo hi c : Nat) (rv sv : Value) (vs : List Value) (gs : List Gr) (a b : Nat) (rn : Int) (st : List Int) (w : World) (h : LCr w lo hi c rv sv vs gs a b rn st) :
    Calls Tryz.prog 352 #[.pointer (some ⟨c, 0, none⟩)] w fun e w' => e = .returned (.int .i64 rn) ∧ w' = w := by
  have q3 := h.cells.2.2.2.1
  clear h
  go_enter Tryz.func352, Tryz.ntmps352
  go_wp2
  go_ret
  exact ⟨rfl, rfl⟩

end Go.Proofs.YtbgngikejgihgagGreatDoor

namespace Go.Proofs.YtbgngikejgihgagGreatDoor
open Go Go.RowKit
set_option linter.unusedVariables false

end Go.Proofs.YtbgngikejgihgagGreatDoor

namespace Go.Proofs.YtbgngikejgihgagGreatDoor
open Go Go.RowKit
set_option linter.unusedVariables false

/-- The same from further back. -/
theorem RemPost.far {gs : List Gr} {off m : Nat} {w W : World} {lo c : Nat} {rn : Int} {e : Ending} {w' : World} (h : RemPost gs off m W lo c rn e w') (hW : Below w.heap.size w W) (hl : lo ≤ w.heap.size) : RemPost gs off m w lo c rn e w' := by
  obtain ⟨he, k, k2, x, y, g', cap', a', b', sv', vs', G', h1, h2, h3, h4, h5, h6, h7, h8⟩ := h
  exact ⟨he, k, k2, x, y, g', cap', a', b', sv', vs', G', h1, h2, h3, h4, h5, h6, h7, (hW.mono hl).trans h8⟩

end Go.Proofs.YtbgngikejgihgagGreatDoor

namespace Go.Proofs.YtbgngikejgihgagGreatDoor
open Go Go.RowKit
set_option linter.unusedVariables false

theorem Tryz.mRoomL (c : Option Addr) (w : World) : (Go.method 605 98 (.pointer c) "loop.example/s01685/impl.room").run Tryz.prog w = .ok (358, .pointer c) w := by kernel_rfl
theorem Tryz.mInsertL (c : Option Addr) (w : World) : (Go.method 605 98 (.pointer c) "loop.example/s01685/impl.insert").run Tryz.prog w = .ok (351, .pointer c) w := by kernel_rfl
theorem Tryz.nInsertL (c : Addr) (w : World) : (Go.nilAhead 605 98 (.pointer (some c)) "loop.example/s01685/impl.insert").run Tryz.prog w = .ok (some false) w := by kernel_rfl
theorem roomLC (lo hi c : Nat) (rv sv : Value) (vs : List Value) (gs : List Gr) (a b : Nat) (rn : Int) (st : List Int) (w : World) (h : LCr w lo hi c rv sv vs gs a b rn st) (hr : 0 ≤ rn ∧ rn ≤ 8192) :
    Calls Tryz.prog 358 #[.pointer (some ⟨c, 0, none⟩)] w fun e w' => e = .returned (.int .i64 (8192 - rn)) ∧ w' = w := by
  obtain ⟨q0, q1, q2, q3, q4⟩ := h.cells
  have w1 : IntKind.i64.wrap (8192 - rn) = 8192 - rn := i64wS _ (by omega) (by omega)
  clear h
  go_enter Tryz.func358, Tryz.ntmps358
  go_wp2
  go_ret
  exact ⟨rfl, rfl⟩

set_option maxHeartbeats 1000000 in
set_option maxRecDepth 100000 in
/-- insertText that refuses the offset, in a line core. -/
theorem insTextRL (lo hi c : Nat) (rv sv : Value) (vs : List Value) (gs : List Gr) (a1 b1 : Nat) (r : Int) (st : List Int) (off : Int) (ao : Option Addr) (m ct : Nat) (w : World) (h : LCr w lo hi c rv sv vs gs a1 b1 r st) (hr : 0 ≤ r ∧ r ≤ 8192) (hoff : ¬ (0 ≤ off ∧ off ≤ r)) :
    Calls Tryz.prog 64 #[.iface 98 (.pointer (some ⟨c, 0, none⟩)), .int .i64 off, .slice ao m ct] w fun e w' => (∃ msg, e = .returned (.iface 172 (.agg #[.string msg, .iface 181 (.int .i64 2)]))) ∧ w' = w := by
  have mL := Tryz.mLengthL
  have mR := Tryz.mRoomL
  have mI := Tryz.mInsertL
  have nI := Tryz.nInsertL
  have HL := hide (lengthLC lo hi c rv sv vs gs a1 b1 r st w h)
  have HR := hide (roomLC lo hi c rv sv vs gs a1 b1 r st w h hr)
  have HKB := hide (fun w => boundsI off 0 r 2 w)
  rw [show decide (0 ≤ off ∧ off ≤ r) = false by simpa using hoff] at HKB
  simp only [errV, Bool.false_eq_true, if_false] at HKB
  clear h hoff
  go_enter Tryz.func64, Tryz.ntmps64
  go_wp2_with fail
  refine HL.out.mono ?_
  rintro e w1 ⟨rfl, hw1⟩
  have hw1' := hw1.symm
  subst hw1'
  go_wp2_with fail
  refine (HKB.out _).mono ?_
  rintro e wx ⟨rfl, hwx⟩
  have hw2 := hwx.symm
  subst hw2
  go_wp2
  go_ret
  exact ⟨⟨_, rfl⟩, rfl⟩

set_option maxHeartbeats 1000000 in
set_option maxRecDepth 100000 in
/-- insertText that refuses the text, in a line core. -/
theorem insTextFL (lo hi c : Nat) (rv sv : Value) (vs : List Value) (gs : List Gr) (a1 b1 : Nat) (r : Int) (st : List Int) (off : Int) (ao : Option Addr) (m ct : Nat) (w : World) (h : LCr w lo hi c rv sv vs gs a1 b1 r st) (hr : 0 ≤ r ∧ r ≤ 8192) (hoff : 0 ≤ off ∧ off ≤ r) (hm : m ≤ 1048576) (hf : ¬ r + m ≤ 8192) :
    Calls Tryz.prog 64 #[.iface 98 (.pointer (some ⟨c, 0, none⟩)), .int .i64 off, .slice ao m ct] w fun e w' => (∃ msg, e = .returned (.iface 172 (.agg #[.string msg, .iface 181 (.int .i64 10)]))) ∧ w' = w := by
  have mL := Tryz.mLengthL
  have mR := Tryz.mRoomL
  have mI := Tryz.mInsertL
  have nI := Tryz.nInsertL
  have HL := hide (lengthLC lo hi c rv sv vs gs a1 b1 r st w h)
  have HR := hide (roomLC lo hi c rv sv vs gs a1 b1 r st w h hr)
  have HKB := hide (fun w => boundsI off 0 r 2 w)
  rw [show decide (0 ≤ off ∧ off ≤ r) = true by simpa using hoff] at HKB
  simp only [errV, if_true] at HKB
  have HKR := hide (fun w => boundsI (m : Int) 0 (8192 - r) 10 w)
  rw [show decide (0 ≤ (m : Int) ∧ (m : Int) ≤ 8192 - r) = false by rw [decide_eq_false_iff_not]; omega] at HKR
  simp only [errV, Bool.false_eq_true, if_false] at HKR
  clear h hoff hf
  go_enter Tryz.func64, Tryz.ntmps64
  go_wp2_with fail
  refine HL.out.mono ?_
  rintro e w1 ⟨rfl, hw1⟩
  have hw1' := hw1.symm
  subst hw1'
  go_wp2_with fail
  refine (HKB.out _).mono ?_
  rintro e wx ⟨rfl, hwx⟩
  have hw2 := hwx.symm
  subst hw2
  go_wp2_with fail
  refine HR.out.mono ?_
  rintro e wy ⟨rfl, hwy⟩
  have hw3 := hwy.symm
  subst hw3
  go_wp2_with fail
  refine (HKR.out _).mono ?_
  rintro e wz ⟨rfl, hwz⟩
  have hw4 := hwz.symm
  subst hw4
  go_wp2
  go_ret
  exact ⟨⟨_, rfl⟩, rfl⟩

set_option maxHeartbeats 1000000 in
set_option maxRecDepth 100000 in
/-- insertText of nothing, in a line core. -/
theorem insText0L (lo hi c : Nat) (rv sv : Value) (vs : List Value) (gs : List Gr) (a1 b1 : Nat) (r : Int) (st : List Int) (off : Int) (ao : Option Addr) (m ct : Nat) (w : World) (h : LCr w lo hi c rv sv vs gs a1 b1 r st) (hr : 0 ≤ r ∧ r ≤ 8192) (hoff : 0 ≤ off ∧ off ≤ r) (hm : m = 0) :
    Calls Tryz.prog 64 #[.iface 98 (.pointer (some ⟨c, 0, none⟩)), .int .i64 off, .slice ao m ct] w fun e w' => e = .returned .nilIface ∧ w' = w := by
  have mL := Tryz.mLengthL
  have mR := Tryz.mRoomL
  have mI := Tryz.mInsertL
  have nI := Tryz.nInsertL
  have HL := hide (lengthLC lo hi c rv sv vs gs a1 b1 r st w h)
  have HR := hide (roomLC lo hi c rv sv vs gs a1 b1 r st w h hr)
  have HKB := hide (fun w => boundsI off 0 r 2 w)
  rw [show decide (0 ≤ off ∧ off ≤ r) = true by simpa using hoff] at HKB
  simp only [errV, if_true] at HKB
  have HKR := hide (fun w => boundsI (m : Int) 0 (8192 - r) 10 w)
  rw [show decide (0 ≤ (m : Int) ∧ (m : Int) ≤ 8192 - r) = true by rw [decide_eq_true_eq]; omega] at HKR
  simp only [errV, if_true] at HKR
  clear h hoff
  subst hm
  go_enter Tryz.func64, Tryz.ntmps64
  go_wp2_with fail
  refine HL.out.mono ?_
  rintro e w1 ⟨rfl, hw1⟩
  have hw1' := hw1.symm
  subst hw1'
  go_wp2_with fail
  refine (HKB.out _).mono ?_
  rintro e wx ⟨rfl, hwx⟩
  have hw2 := hwx.symm
  subst hw2
  go_wp2_with fail
  refine HR.out.mono ?_
  rintro e wy ⟨rfl, hwy⟩
  have hw3 := hwy.symm
  subst hw3
  go_wp2_with fail
  refine (HKR.out _).mono ?_
  rintro e wz ⟨rfl, hwz⟩
  have hw4 := hwz.symm
  subst hw4
  go_wp2
  go_ret
  exact ⟨rfl, rfl⟩

set_option maxHeartbeats 1000000 in
set_option maxRecDepth 100000 in
/-- insertText of a text, in a line core. -/
theorem insTextL (lo hi c g cap n off : Nat) (sv : Value) (vs : List Value) (gs : List Gr) (r : Nat) (st : List Int) (ts : List Int) (b o m ct : Nat) (w : World) (h : LCr w lo hi c (.slice (some ⟨g, 0, none⟩) n cap) sv vs gs n n (r : Int) st) (hrj : r = (jn (gs.map grT)).length) (hN : gs.length = n) (h2 : n ≤ 8193) (hh : hi ≤ w.heap.size) (hlc : lo ≤ c) (hch : c < hi) (hs1 : 1 ≤ st.length) (hst : st = (stL (gs.map grT)).take st.length) (hsn : st.length ≤ n) (hok : ∀ x ∈ gs, okG x) (hj : (jn (gs.map grT)).length + m ≤ 8192) (hof : off ≤ (jn (gs.map grT)).length)
    (hm : ts.length = m) (hm1 : 1 ≤ m) (hbl : b < lo) (hct : m ≤ ct) (hcm : ct ≤ maxLen) (hT : ∀ i, i < ts.length → w.cell? ⟨b, o + i, none⟩ = some (.int .i32 (ts.getD i 0))) :
    Calls Tryz.prog 64 #[.iface 98 (.pointer (some ⟨c, 0, none⟩)), .int .i64 off, .slice (some ⟨b, o, none⟩) m ct] w fun e w' => e = .returned .nilIface ∧ InsPost gs off ts w lo c r (.returned (.tuple #[])) w' := by
  have IN0 := insLC lo hi c g cap n off sv vs gs r st ts b o m ct w h hN h2 hh hlc hch hs1 hst hsn hok hj hof hm hbl hct hcm (by omega) hT
  have hP0 : ∀ e w', InsPost gs off ts w lo c r e w' → e = .returned (.tuple #[]) ∧ InsPost gs off ts w lo c r (.returned (.tuple #[])) w' := by
    intro e w' hp
    obtain ⟨rfl, hp'⟩ := hp
    exact ⟨rfl, rfl, hp'⟩
  generalize hPP : InsPost gs off ts w lo c r (.returned (.tuple #[])) = PP at hP0 ⊢
  have IN := hide (IN0.mono hP0)
  clear IN0 hP0 hPP
  have hr : (0 : Int) ≤ (r : Int) ∧ (r : Int) ≤ 8192 := by omega
  have hoff : (0 : Int) ≤ (off : Int) ∧ (off : Int) ≤ (r : Int) := by omega
  have mL := Tryz.mLengthL
  have mR := Tryz.mRoomL
  have mI := Tryz.mInsertL
  have nI := Tryz.nInsertL
  have HL := hide (lengthLC lo hi c _ sv vs gs n n r st w h)
  have HR := hide (roomLC lo hi c _ sv vs gs n n r st w h hr)
  have HKB := hide (fun w => boundsI off 0 r 2 w)
  rw [show decide ((0 : Int) ≤ (off : Int) ∧ (off : Int) ≤ (r : Int)) = true by simpa using hoff] at HKB
  simp only [errV, if_true] at HKB
  have HKR := hide (fun w => boundsI (m : Int) 0 (8192 - r) 10 w)
  rw [show decide (0 ≤ (m : Int) ∧ (m : Int) ≤ 8192 - (r : Int)) = true by rw [decide_eq_true_eq]; omega] at HKR
  simp only [errV, if_true] at HKR
  have hm0 : (m : Int) > 0 := by omega
  clear h hoff hok hst hT hcm hct hbl hj hof hs1 hsn hlc hch hh h2 hN hm hrj
  go_enter Tryz.func64, Tryz.ntmps64
  go_wp2_with fail
  refine HL.out.mono ?_
  rintro e w1 ⟨rfl, hw1⟩
  have hw1' := hw1.symm
  subst hw1'
  go_wp2_with fail
  refine (HKB.out _).mono ?_
  rintro e wx ⟨rfl, hwx⟩
  have hw2 := hwx.symm
  subst hw2
  go_wp2_with fail
  refine HR.out.mono ?_
  rintro e wy ⟨rfl, hwy⟩
  have hw3 := hwy.symm
  subst hw3
  go_wp2_with fail
  refine (HKR.out _).mono ?_
  rintro e wz ⟨rfl, hwz⟩
  have hw4 := hwz.symm
  subst hw4
  go_wp2_with fail
  refine IN.out.mono ?_
  rintro e w2 ⟨rfl, hP⟩
  have P2 := hide hP
  clear hP
  go_wp2
  go_ret
  exact ⟨rfl, P2.out⟩
end Go.Proofs.YtbgngikejgihgagGreatDoor

namespace Go.Proofs.YtbgngikejgihgagGreatDoor
open Go Go.RowKit
set_option linter.unusedVariables false

end Go.Proofs.YtbgngikejgihgagGreatDoor

namespace Go.Proofs.YtbgngikejgihgagGreatDoor
open Go Go.RowKit
set_option linter.unusedVariables false

end Go.Proofs.YtbgngikejgihgagGreatDoor

namespace Go.Proofs.YtbgngikejgihgagGreatDoor
open Go Go.Sort Go.RowKit

end Go.Proofs.YtbgngikejgihgagGreatDoor

namespace Go.Proofs.YtbgngikejgihgagGreatDoor
open Go Go.Sort Go.RowKit
set_option linter.unusedVariables false

section
variable {F : Fence} {n : Nat} {P : Program} {ops : Array Oper} {md : Region.Mode} {C : World → Prop}

/-- What has come up has all behind which it stands. -/
def Clo (md : Region.Mode) (ops : Array Oper) (listed : Array Bool) : Prop := ∀ (j : Nat) (o : Oper), ops[j]? = some o → listed.getD j false = true → ∀ e ∈ o.after, Region.binds md e = true → listed.getD e.on false = true
theorem Clo.set {listed : Array Bool} (h : Clo md ops listed) {j : Nat} (hj : j ∈ Region.ready md ops listed) : Clo md ops (listed.setIfInBounds j true) := by
  obtain ⟨_, oj, hoj, hall⟩ := mem_ready.1 hj
  intro k o ho hk e he hb
  by_cases hkj : j = k
  · subst hkj
    rw [hoj] at ho; cases ho
    exact getD_set_true (hall e he hb)
  · rw [getD_set_ne false hkj] at hk
    exact getD_set_true (h k o ho hk e he hb)

end

end Go.Proofs.YtbgngikejgihgagGreatDoor

namespace Go.Proofs.YtbgngikejgihgagGreatDoor
open Go Go.Sort Go.RowKit
set_option linter.unusedVariables false

section
variable {F : Fence} {n : Nat} {P : Program} {ops : Array Oper} {md : Region.Mode} {C : World → Prop}

/-- The first s have come up, and what has come up has all behind which it stands. -/
def CloS (md : Region.Mode) (ops : Array Oper) (s : Nat) (listed : Array Bool) : Prop := Clo md ops listed ∧ ∀ i, i < s → listed.getD i false = true
theorem CloS.set {s : Nat} {listed : Array Bool} (h : CloS md ops s listed) {j : Nat} (hj : j ∈ Region.ready md ops listed) : CloS md ops s (listed.setIfInBounds j true) := ⟨h.1.set hj, fun i hi => getD_set_true (h.2 i hi)⟩
end

end Go.Proofs.YtbgngikejgihgagGreatDoor

namespace Go.Proofs.YtbgngikejgihgagGreatDoor
open Go Go.Sort Go.RowKit
set_option linter.unusedVariables false

section
variable {F : Fence} {n : Nat} {P : Program} {ops : Array Oper} {md : Region.Mode}

end
end Go.Proofs.YtbgngikejgihgagGreatDoor

namespace Go.Proofs.YtbgngikejgihgagGreatDoor
open Go Go.RowKit Go.Shelf Go.Sort
set_option linter.unusedVariables false

end Go.Proofs.YtbgngikejgihgagGreatDoor

namespace Go.Proofs.YtbgngikejgihgagGreatDoor
open Go Go.RowKit
set_option linter.unusedVariables false

/-- What a face over a line buffer answers: a buffer and a code. -/
def LdPost (w : World) (G : List Gr) (S : List Int) (C : Int) (e : Ending) (w' : World) : Prop := ∃ vr vt, e = .returned (.tuple #[.agg #[vr, vt], .int .i64 C]) ∧ OwL w' w.heap.size w'.heap.size vr vt G S ∧ Below w.heap.size w w'
def inRR (gs : List Gr) (a b : Int) : Prop := 0 ≤ a ∧ a ≤ b ∧ b ≤ (jn (gs.map grT)).length
/-- What a deletion leaves. -/
def LdRem (gs : List Gr) (a b : Nat) (G : List Gr) (S : List Int) : Prop := ∃ (k k2 : Nat) (x y : Gr), Ln (gs.map grT) a k ∧ Ln (gs.map grT) b k2 ∧ gs[k]? = some x ∧ gs[k2]? = some y ∧ G = remRows gs k k2 x y (a - sAt (gs.map grT) k) (b - sAt (gs.map grT) k2) ∧ S = (stL (gs.map grT)).take (k + 1)
/-- The answer is one of four. -/
def LdAns (gs : List Gr) (st : List Int) (a b : Int) (G : List Gr) (S : List Int) (C : Int) : Prop :=
  (LV gs st ∧ inRR gs a b ∧ a < b ∧ LdRem gs a.toNat b.toNat G S ∧ C = 0) ∨ (LV gs st ∧ inRR gs a b ∧ a = b ∧ G = gs ∧ S = st ∧ C = 0) ∨
  (LV gs st ∧ ¬ inRR gs a b ∧ G = [] ∧ S = [] ∧ C = 2) ∨ (¬ LV gs st ∧ G = [] ∧ S = [] ∧ C = 1)
theorem Ln.ex (L : List (List Int)) (off : Nat) (h : L ≠ []) : ∃ k, Ln L off k := by
  have H : ∀ m, m < L.length → sAt L 0 ≤ off → (∃ k, Ln L off k) ∨ sAt L m ≤ off := by
    intro m
    induction m with
    | zero => intro _ h0; exact .inr h0
    | succ m ih =>
      intro hm h0
      rcases ih (by omega) h0 with h1 | h1
      · exact .inl h1
      · rcases Nat.lt_or_ge off (sAt L (m + 1)) with h2 | h2
        · exact .inl ⟨m, by omega, h1, fun _ => h2⟩
        · exact .inr h2
  have hl : 0 < L.length := by cases L with | nil => exact absurd rfl h | cons _ _ => simp
  have h0 : sAt L 0 ≤ off := by simp [sAt, smL]
  rcases H (L.length - 1) (by omega) h0 with h1 | h1
  · exact h1
  · exact ⟨L.length - 1, by omega, h1, fun h => by omega⟩
theorem LdRem.ex (gs : List Gr) (a b : Nat) (h : 1 ≤ gs.length) : ∃ G S, LdRem gs a b G S := by
  have hne : gs.map grT ≠ [] := by intro e; have := congrArg List.length e; simp at this; rw [this] at h; simp at h
  obtain ⟨k, hk⟩ := Ln.ex (gs.map grT) a hne
  obtain ⟨k2, hk2⟩ := Ln.ex (gs.map grT) b hne
  have l1 := hk.1
  have l2 := hk2.1
  rw [List.length_map] at l1 l2
  exact ⟨_, _, k, k2, gs[k], gs[k2], hk, hk2, by simp [l1], by simp [l2], rfl, rfl⟩
theorem LdAns.ex (gs : List Gr) (st : List Int) (a b : Int) : ∃ G S C, LdAns gs st a b G S C := by
  by_cases h1 : LV gs st
  · by_cases h2 : inRR gs a b
    · by_cases h3 : a < b
      · obtain ⟨G, S, h⟩ := LdRem.ex gs a.toNat b.toNat h1.1.1
        exact ⟨_, _, _, .inl ⟨h1, h2, h3, h, rfl⟩⟩
      · exact ⟨_, _, _, .inr (.inl ⟨h1, h2, by have := h2.2.1; omega, rfl, rfl, rfl⟩)⟩
    · exact ⟨_, _, _, .inr (.inr (.inl ⟨h1, h2, rfl, rfl, rfl⟩))⟩
  · exact ⟨_, _, _, .inr (.inr (.inr ⟨h1, rfl, rfl, rfl⟩))⟩
end Go.Proofs.YtbgngikejgihgagGreatDoor
