import Derived.Test.YtbgngikejgihgafGreatDoorMq41
import Derived.Test.YtbgngikejgihgafGreatDoorMq42
import Derived.Test.YtbgngikejgihgafGreatDoorMq33
import Derived.OwnWalk
namespace Go.Proofs.YtbgngikejgihgafGreatDoor
open Go Go.RowKit
set_option linter.unusedVariables false

theorem Tryz.mLengthL (c : Option Addr) (w : World) : (Go.method 381 74 (.pointer c) "loop.example/s01685/impl.length").run Tryz.prog w = .ok (189, .pointer c) w := by kernel_rfl
theorem Tryz.mLineColL (c : Option Addr) (w : World) : (Go.method 381 74 (.pointer c) "loop.example/s01685/impl.lineCol").run Tryz.prog w = .ok (190, .pointer c) w := by kernel_rfl
def msgPlaceL : ByteArray := ⟨#[112, 108, 97, 99, 105, 110, 103, 32, 97, 110, 32, 111, 102, 102, 115, 101, 116]⟩

theorem lengthLC (lo hi c : Nat) (rv sv : Value) (vs : List Value) (gs : List Gr) (a b : Nat) (rn : Int) (st : List Int) (w : World) (h : LCr w lo hi c rv sv vs gs a b rn st) :
    Calls Tryz.prog 189 #[.pointer (some ⟨c, 0, none⟩)] w fun e w' => e = .returned (.int .i64 rn) ∧ w' = w := by
  have q3 := h.cells.2.2.2.1
  clear h
  go_enter Tryz.func189, Tryz.ntmps189
  go_wp2
  go_ret
  exact ⟨rfl, rfl⟩

set_option maxHeartbeats 2000000 in
set_option maxRecDepth 100000 in
theorem placeLN (lo hi c g cap n : Nat) (sv : Value) (vs : List Value) (gs : List Gr) (st : List Int) (off : Int) (w : World) (h : LCr w lo hi c (.slice (some ⟨g, 0, none⟩) n cap) sv vs gs n n ((jn (gs.map grT)).length : Nat) st) (hN : gs.length = n) (h2 : n ≤ 8193) (hh : hi ≤ w.heap.size) (hlc : lo ≤ c) (hch : c < hi) (hs1 : 1 ≤ st.length) (hst : st = (stL (gs.map grT)).take st.length) (hsn : st.length ≤ n) (hok : ∀ x ∈ gs, okG x) (hj : (jn (gs.map grT)).length ≤ 8192) :
    Calls Tryz.prog 55 #[.iface 74 (.pointer (some ⟨c, 0, none⟩)), .int .i64 off] w fun e w' =>
      (0 ≤ off ∧ off ≤ (jn (gs.map grT)).length → ∃ (m : Nat) (sv' : Value), e = .returned (.tuple #[.int .i64 (lcL (jn (gs.map grT)) off.toNat), .int .i64 (lcC (jn (gs.map grT)) off.toNat), .nilIface]) ∧ Kn (gs.map grT) st.length off.toNat m ∧ LCr w' lo w'.heap.size c (.slice (some ⟨g, 0, none⟩) n cap) sv' vs gs n n ((jn (gs.map grT)).length : Nat) ((stL (gs.map grT)).take m)) ∧
      (¬ (0 ≤ off ∧ off ≤ (jn (gs.map grT)).length) → e = .returned (.tuple #[.int .i64 0, .int .i64 0, .iface 120 (.agg #[.string msgPlaceL, .iface 121 (.int .i64 2)])])) ∧ Below lo w w' := by
  have mL := Tryz.mLengthL
  have mC := Tryz.mLineColL
  have LE := hide (lengthLC lo hi c _ sv vs gs n n _ st w h)
  have KB := hide (fun W => boundsI off 0 ((jn (gs.map grT)).length : Nat) 2 W)
  have hno : ∀ l ∈ gs.map grT, 10 ∉ l := by
    intro l hl
    obtain ⟨x, hx, rfl⟩ := List.mem_map.1 hl
    exact (hok x hx).2
  have LC := hide (fun (k : Nat) (hk : k ≤ (jn (gs.map grT)).length) => lineColLN lo hi c g cap n k sv vs gs _ st w h hN h2 hh hlc hch hs1 hst hsn hok hj (by omega))
  generalize hLS : gs.map grT = LS at *
  have NO := hide hno
  clear h hst hok hLS hno
  by_cases hoff : 0 ≤ off ∧ off ≤ ((jn LS).length : Int)
  · simp only [show decide (0 ≤ off ∧ off ≤ ((jn LS).length : Int)) = true by rw [decide_eq_true_eq]; exact hoff, errV, if_true] at KB
    have HO := hide hoff
    obtain ⟨k, rfl⟩ : ∃ k : Nat, off = k := ⟨off.toNat, by omega⟩
    rw [Int.toNat_natCast]
    have hk : k ≤ (jn LS).length := by omega
    have LC2 := hide (LC.out k hk)
    have LNc := hide (fun (q : Nat) (hq : Ln LS k q) => hq.lc NO.out hk)
    generalize hX : lcL (jn LS) k = X at *
    generalize hY : lcC (jn LS) k = Y at *
    generalize (jn LS).length = T at *
    clear LC hoff hX hY
    go_enter Tryz.func55, Tryz.ntmps55
    go_wp2_with fail
    refine LE.out.mono ?_
    rintro e w1 ⟨rfl, hw1⟩
    have hw1' := hw1.symm
    subst hw1'
    go_wp2_with fail
    refine (KB.out _).mono ?_
    rintro e wx ⟨rfl, hwx⟩
    have hw2 := hwx.symm
    subst hw2
    clear hwx
    go_wp2_with fail
    refine LC2.out.mono ?_
    rintro e w3 ⟨q, m, sv', rfl, hq, hm, hL, hb⟩
    have hxy := LNc.out q hq
    have HXE := hide hxy.1
    rw [← hxy.1, ← hxy.2.1]
    have M3 := hide hm
    have L3 := hide hL
    have B3 := hide hb
    clear hxy hq hm hL hb LC2 LNc
    go_wp2
    go_ret3
    exact ⟨fun _ => ⟨m, sv', rfl, M3.out, L3.out⟩, fun hv => absurd HO.out hv, B3.out⟩
  · simp only [show decide (0 ≤ off ∧ off ≤ ((jn LS).length : Int)) = false by rw [decide_eq_false_iff_not]; exact hoff, errV, Bool.false_eq_true, if_false] at KB
    have HO := hide hoff
    generalize (lcL (jn LS) off.toNat) = X at *
    generalize (lcC (jn LS) off.toNat) = Y at *
    generalize (jn LS).length = T at *
    clear LC hoff
    go_enter Tryz.func55, Tryz.ntmps55
    go_wp2_with fail
    refine LE.out.mono ?_
    rintro e w1 ⟨rfl, hw1⟩
    have hw1' := hw1.symm
    subst hw1'
    go_wp2_with fail
    refine (KB.out _).mono ?_
    rintro e wx ⟨rfl, hwx⟩
    have hw2 := hwx.symm
    subst hw2
    clear hwx
    go_wp2
    go_ret3
    exact ⟨fun hv => absurd hv HO.out, fun _ => rfl, Below.refl _ _⟩
end Go.Proofs.YtbgngikejgihgafGreatDoor
