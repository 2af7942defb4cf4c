import Derived.Test.YtbgngikejgihgafDoorMq33
import Derived.Test.YtbgngikejgihgafDoorMq36
import Derived.Test.YtbgngikejgihgafDoorMq37
import Derived.Test.YtbgngikejgihgafDoorMq40
namespace Go.Proofs.YtbgngikejgihgafDoor
open Go Go.RowKit
set_option linter.unusedVariables false

/-- The place is there. -/
def plOk (gs : List Gr) (line col : Int) : Prop := 0 ≤ line ∧ line < gs.length ∧ 0 ≤ col ∧ col ≤ ((gs.map grT).getD line.toNat []).length

set_option maxHeartbeats 2000000 in
set_option maxRecDepth 100000 in
theorem offsetOfL (lo hi c g cap n : Nat) (sv : Value) (vs : List Value) (gs : List Gr) (rn : Int) (st : List Int) (line col : Int) (w : World) (h : LCr w lo hi c (.slice (some ⟨g, 0, none⟩) n cap) sv vs gs n n rn st) (hN : gs.length = n) (h1 : 1 ≤ n) (h2 : n ≤ 8193) (hh : hi ≤ w.heap.size) (hlc : lo ≤ c) (hch : c < hi) (hs1 : 1 ≤ st.length) (hst : st = (stL (gs.map grT)).take st.length) (hsn : st.length ≤ n) (hok : ∀ x ∈ gs, okG x) (hj : (jn (gs.map grT)).length ≤ 8192) :
    Calls Tryd.prog 63 #[.iface 102 (.pointer (some ⟨c, 0, none⟩)), .int .i64 line, .int .i64 col] w fun e w' =>
      (plOk gs line col → ∃ sv', e = .returned (.tuple #[.int .i64 (((smL ((gs.map grT).take line.toNat) + line.toNat : Nat) : Int) + col), .nilIface]) ∧ LCr w' lo w'.heap.size c (.slice (some ⟨g, 0, none⟩) n cap) sv' vs gs n n rn ((stL (gs.map grT)).take (max st.length (line.toNat + 1)))) ∧
      (¬ plOk gs line col → e = .returned (.tuple #[.int .i64 0, .iface 132 (.agg #[.string msgFindL, .iface 130 (.int .i64 3)])])) ∧ Below lo w w' := by
  have mB := Tryd.mBreaksL
  have mL := Tryd.mLineLengthL
  have mO := Tryd.mOffsetL
  have BK := hide (breaksL lo hi c g cap n sv vs gs rn st w h (by omega))
  have KB := hide (fun W => boundsI line 0 ((n : Int) - 1) 3 W)
  have HP := hide (show plOk gs line col ↔ 0 ≤ line ∧ line < n ∧ 0 ≤ col ∧ col ≤ ((gs.map grT).getD line.toNat []).length by unfold plOk; rw [hN])
  by_cases hline : 0 ≤ line ∧ line ≤ (n : Int) - 1
  · simp only [show decide (0 ≤ line ∧ line ≤ (n : Int) - 1) = true by rw [decide_eq_true_eq]; exact hline, errV, if_true] at KB
    obtain ⟨l, rfl⟩ : ∃ l : Nat, line = l := ⟨line.toNat, by omega⟩
    rw [Int.toNat_natCast] at HP ⊢
    have hln : l < n := by omega
    have hx : gs[l]? = some (gs[l]'(by rw [hN]; exact hln)) := by simp [hN, hln]
    generalize gs[l]'(by rw [hN]; exact hln) = x at hx
    have hokx := hok x (List.mem_of_getElem? hx)
    have LL := hide (fun (W : World) (hW : W.heap = w.heap) => lineLengthL lo hi c g cap n sv vs gs rn st l x W (h.same hW) hN h2 hx hokx)
    have eg : (gs.map grT).getD l [] = grT x := by simp [List.getD_eq_getElem?_getD, hx]
    rw [eg] at HP
    have hgt := (grT_len hokx.1).2.1
    have OF := hide (fun hc (W : World) (hW : W.heap = w.heap) => offsetL lo hi c g cap n sv vs gs rn st l col W (h.same hW) hN h2 (by rw [hW]; exact hh) hlc hch hs1 hst hsn hln hok hj hc)
    have KC := hide (fun W => boundsI col 0 ((grT x).length : Nat) 3 W)
    generalize (grT x).length = T at *
    have hb0 : Below lo w w := Below.refl _ _
    have B0 := hide (fun q => (show Below lo w (w.drewN q) from ⟨rfl, rfl, rfl, Nat.le_refl _, fun _ _ => rfl⟩))
    by_cases hcol : 0 ≤ col ∧ col ≤ (T : Int)
    · simp only [show decide (0 ≤ col ∧ col ≤ (T : Int)) = true by rw [decide_eq_true_eq]; exact hcol, errV, if_true] at KC
      have OF2 := hide (OF.out ⟨hcol.1, by omega⟩)
      have YES := hide (show plOk gs (l : Int) col from HP.out.2 ⟨by omega, by omega, hcol.1, hcol.2⟩)
      obtain ⟨A, hA⟩ : ∃ A : Int, A = ((smL ((gs.map grT).take l) + l : Nat) : Int) + col := ⟨_, rfl⟩
      rw [← hA] at OF2 ⊢
      have HA := hide hA
      generalize (stL (gs.map grT)).take (max st.length (l + 1)) = ST' at *
      clear OF HP h hst hok hj hx hokx eg hgt hA hcol
      go_enter Tryd.func63, Tryd.ntmps63
      go_wp2_with fail
      refine BK.out.mono ?_
      rintro e w1 ⟨rfl, q1, rfl⟩
      go_wp2_with fail
      refine (KB.out _).mono ?_
      rintro e wx ⟨rfl, hwx⟩
      have hw2 := hwx.symm
      subst hw2
      go_wp2_with fail
      refine (LL.out _ (by exact rfl)).mono ?_
      rintro e w2 ⟨rfl, q2, rfl⟩
      go_wp2_with fail
      refine (KC.out _).mono ?_
      rintro e wy ⟨rfl, hwy⟩
      have hw3 := hwy.symm
      subst hw3
      go_wp2_with fail
      refine (OF2.out _ (by exact rfl)).mono ?_
      rintro e w3 ⟨sv', rfl, hL, hb⟩
      have L3 := hide hL
      have B3 := hide (show Below lo w w3 from ⟨hb.os, hb.tape, hb.output, hb.size, hb.block⟩)
      clear hL hb
      go_wp2
      refine bodyPost_ret (v := .tuple #[.int .i64 A, .nilIface]) (by simp [results, Tryd.results63, go_sem]) rfl ?_
      exact ⟨fun _ => ⟨sv', rfl, L3.out⟩, fun hv => absurd YES.out hv, B3.out⟩
    · simp only [show decide (0 ≤ col ∧ col ≤ (T : Int)) = false by rw [decide_eq_false_iff_not]; exact hcol, errV, Bool.false_eq_true, if_false] at KC
      have NO := hide (show ¬ plOk gs (l : Int) col from fun hv => hcol (HP.out.1 hv).2.2)
      clear OF HP h hst hok hj hx hokx eg hgt hcol
      go_enter Tryd.func63, Tryd.ntmps63
      go_wp2_with fail
      refine BK.out.mono ?_
      rintro e w1 ⟨rfl, q1, rfl⟩
      go_wp2_with fail
      refine (KB.out _).mono ?_
      rintro e wx ⟨rfl, hwx⟩
      have hw2 := hwx.symm
      subst hw2
      go_wp2_with fail
      refine (LL.out _ (by exact rfl)).mono ?_
      rintro e w2 ⟨rfl, q2, rfl⟩
      go_wp2_with fail
      refine (KC.out _).mono ?_
      rintro e wy ⟨rfl, hwy⟩
      have hw3 := hwy.symm
      subst hw3
      go_wp2
      refine bodyPost_ret (v := .tuple #[.int .i64 0, .iface 132 (.agg #[.string msgFindL, .iface 130 (.int .i64 3)])]) (by simp [results, Tryd.results63, go_sem, msgFindL]) rfl ?_
      exact ⟨fun hv => absurd hv NO.out, fun _ => rfl, ⟨rfl, rfl, rfl, Nat.le_refl _, fun _ _ => rfl⟩⟩
  · simp only [show decide (0 ≤ line ∧ line ≤ (n : Int) - 1) = false by rw [decide_eq_false_iff_not]; exact hline, errV, Bool.false_eq_true, if_false] at KB
    have NO := hide (show ¬ plOk gs line col from fun hv => hline (by have := HP.out.1 hv; omega))
    generalize ((smL ((gs.map grT).take line.toNat) + line.toNat : Nat) : Int) = A at *
    generalize (stL (gs.map grT)).take (max st.length (line.toNat + 1)) = ST' at *
    clear HP h hst hok hj hline
    go_enter Tryd.func63, Tryd.ntmps63
    go_wp2_with fail
    refine BK.out.mono ?_
    rintro e w1 ⟨rfl, q1, rfl⟩
    go_wp2_with fail
    refine (KB.out _).mono ?_
    rintro e wx ⟨rfl, hwx⟩
    have hw2 := hwx.symm
    subst hw2
    go_wp2
    refine bodyPost_ret (v := .tuple #[.int .i64 0, .iface 132 (.agg #[.string msgFindL, .iface 130 (.int .i64 3)])]) (by simp [results, Tryd.results63, go_sem, msgFindL]) rfl ?_
    exact ⟨fun hv => absurd hv NO.out, fun _ => rfl, ⟨rfl, rfl, rfl, Nat.le_refl _, fun _ _ => rfl⟩⟩
end Go.Proofs.YtbgngikejgihgafDoor
