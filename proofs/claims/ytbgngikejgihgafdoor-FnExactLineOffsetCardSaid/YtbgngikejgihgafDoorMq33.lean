import Derived.Test.YtbgngikejgihgafDoorMq10
import Derived.WalkKit
import Derived.WalkLawsBesides
import Derived.Test.YtbgngikejgihgafDoorMq32
import Derived.Deep.QuietTactic
import Derived.BigQuiet
namespace Go.Proofs.YtbgngikejgihgafDoor
open Go Go.RowKit
set_option linter.unusedVariables false

set_option maxHeartbeats 1000000 in
theorem boundsI (v lo hi c : Int) (w : World) : Calls Tryd.prog 78 #[.int .i64 v, .int .i64 lo, .int .i64 hi, .int .i64 c] w fun e w' => e = .returned (errV (decide (lo ≤ v ∧ v ≤ hi)) c) ∧ w' = w := by
  have HK := hide (withinI v lo hi w)
  cases hd : decide (lo ≤ v ∧ v ≤ hi) with
  | true =>
    rw [hd] at HK
    clear hd
    go_enter Tryd.func78, Tryd.ntmps78
    go_wp2_with fail
    refine HK.out.mono ?_
    rintro e w1 ⟨rfl, rfl⟩
    go_wp2
    go_ret
    exact ⟨rfl, rfl⟩
  | false =>
    rw [hd] at HK
    clear hd
    go_enter Tryd.func78, Tryd.ntmps78
    go_wp2_with fail
    refine HK.out.mono ?_
    rintro e w1 ⟨rfl, rfl⟩
    go_wp2
    go_ret
    exact ⟨rfl, rfl⟩

end Go.Proofs.YtbgngikejgihgafDoor

namespace Go.Proofs.YtbgngikejgihgafDoor
open Go Go.RowKit
set_option linter.unusedVariables false

theorem Tryd.mBreaksL (c : Option Addr) (w : World) : (Go.method 379 102 (.pointer c) "loop.example/s01685/impl.breaks").run Tryd.prog w = .ok (181, .pointer c) w := by kernel_rfl
theorem Tryd.mLineLengthL (c : Option Addr) (w : World) : (Go.method 379 102 (.pointer c) "loop.example/s01685/impl.lineLength").run Tryd.prog w = .ok (182, .pointer c) w := by kernel_rfl
theorem Tryd.mOffsetL (c : Option Addr) (w : World) : (Go.method 379 102 (.pointer c) "loop.example/s01685/impl.offset").run Tryd.prog w = .ok (183, .pointer c) w := by kernel_rfl
def msgFindL : ByteArray := ⟨#[102, 105, 110, 100, 105, 110, 103, 32, 97, 32, 112, 108, 97, 99, 101]⟩

section
variable (lo hi c g cap n : Nat) (sv : Value) (vs : List Value) (gs : List Gr) (rn : Int) (st : List Int)

set_option maxHeartbeats 1000000 in
theorem breaksL (w : World) (h : LCr w lo hi c (.slice (some ⟨g, 0, none⟩) n cap) sv vs gs n n rn st) (hn : n ≤ 1048576) :
    Calls Tryd.prog 181 #[.pointer (some ⟨c, 0, none⟩)] w fun e w' => e = .returned (.int .i64 ((n : Int) - 1)) ∧ ∃ q, w' = w.drewN q := by
  obtain ⟨q0, q1, q2, _, _⟩ := h.cells
  have LE := hide (lengthRN c 0 (some ⟨g, 0, none⟩) n cap n n w ⟨q0, q1, q2⟩ (by omega) (by omega) (by omega) (by omega))
  rw [show (n : Int) - ((n : Int) - n) = n by omega] at LE
  clear h
  go_enter Tryd.func181, Tryd.ntmps181
  go_wp2_with fail
  refine LE.out.mono ?_
  rintro e w1 ⟨rfl, q, rfl⟩
  go_wp2
  go_ret
  exact ⟨rfl, _, rfl⟩

set_option maxHeartbeats 1000000 in
theorem lineLengthL (l : Nat) (x : Gr) (w : World) (h : LCr w lo hi c (.slice (some ⟨g, 0, none⟩) n cap) sv vs gs n n rn st) (hN : gs.length = n) (hn : n ≤ 8193) (hx : gs[l]? = some x) (hok : okG x) :
    Calls Tryd.prog 182 #[.pointer (some ⟨c, 0, none⟩), .int .i64 l] w fun e w' => e = .returned (.int .i64 ((grT x).length : Nat)) ∧ ∃ q, w' = w.drewN q := by
  have hl : l < n := by rw [← hN]; exact (List.getElem?_eq_some_iff.1 hx).1
  obtain ⟨x', u, hx', hu⟩ := h.rows.get (i := l) (by rw [hN]; exact hl)
  rw [hx] at hx'
  cases hx'
  obtain ⟨q0, q1, q2, _, _⟩ := h.cells
  have hcap : n ≤ cap := by
    have hr := h.rows.row
    rw [hN] at hr
    rcases hr.2 with ⟨q, _⟩ | ⟨g', cap', cur, q, _, _, c1, c2, _⟩
    · cases q
    · simp only [Value.slice.injEq, Option.some.injEq, Addr.mk.injEq, and_true, true_and] at q
      obtain ⟨_, rfl⟩ := q
      exact c1
  have AT := hide (atN c g cap n l n n w ⟨q0, q1, q2⟩ hl (Nat.le_refl _) hcap (by omega))
  obtain ⟨y0, y1, y2⟩ := h.rows.cells hN hx hu
  have hgt := grT_len hok.1
  obtain ⟨ai, ci, hu'⟩ := o32_val (h.rows.inner hx hu)
  have hbd : 0 ≤ x.lo ∧ x.lo ≤ x.hi ∧ x.hi ≤ x.cells.length := by
    obtain ⟨⟨_, ⟨_, q3⟩, ⟨q4, q5⟩, _⟩, _⟩ := hok.1
    exact ⟨q4, q5, q3⟩
  have LE := hide (lengthN g (l * 3) ai x.cells.length ci x.lo x.hi w ⟨by rw [← hu']; exact y0, y1, y2⟩ hbd.1 hbd.2.1 hbd.2.2 (by omega))
  rw [← hgt.1] at LE
  generalize (grT x).length = T at *
  clear h hx hu hok hgt y0 y1 y2 hu'
  go_enter Tryd.func182, Tryd.ntmps182
  go_wp2_with fail
  refine AT.out.mono ?_
  rintro e w1 ⟨rfl, hw⟩
  have hw2 := hw.symm
  subst hw2
  go_wp2_with fail
  refine LE.out.mono ?_
  rintro e w2 ⟨rfl, q, rfl⟩
  go_wp2
  go_ret
  exact ⟨rfl, _, rfl⟩

set_option maxHeartbeats 1000000 in
theorem offsetL (l : Nat) (col : Int) (w : World) (h : LCr w lo hi c (.slice (some ⟨g, 0, none⟩) n cap) sv vs gs n n rn st) (hN : gs.length = n) (h2 : n ≤ 8193) (hh : hi ≤ w.heap.size) (hlc : lo ≤ c) (hch : c < hi) (hs1 : 1 ≤ st.length) (hst : st = (stL (gs.map grT)).take st.length) (hsn : st.length ≤ n) (hl : l < n) (hok : ∀ x ∈ gs, okG x) (hj : (jn (gs.map grT)).length ≤ 8192) (hc0 : 0 ≤ col ∧ col ≤ 8192) :
    Calls Tryd.prog 183 #[.pointer (some ⟨c, 0, none⟩), .int .i64 l, .int .i64 col] w fun e w' => ∃ sv', e = .returned (.int .i64 (((smL ((gs.map grT).take l) + l : Nat) : Int) + col)) ∧ LCr w' lo w'.heap.size c (.slice (some ⟨g, 0, none⟩) n cap) sv' vs gs n n rn ((stL (gs.map grT)).take (max st.length (l + 1))) ∧ Below lo w w' := by
  have LN := hide (learnN lo hi c g cap n (l + 1) sv vs gs rn st w h hN h2 hh hlc hch hs1 hst hsn (by omega) hok hj)
  obtain ⟨LS, hLS⟩ : ∃ LS, LS = gs.map grT := ⟨_, rfl⟩
  rw [← hLS] at LN hj ⊢
  have hLn : LS.length = n := by rw [hLS, List.length_map, hN]
  have SG := hide (stL_getD (ls := LS) (i := l) (by rw [hLn]; exact hl))
  have STL := hide (show (stL LS).length = n by rw [stL_len, hLn])
  have hsb : smL (LS.take l) + l ≤ 20000 := by
    have h3 := jn_len (ls := LS) (by intro e; rw [e] at hLn; simp at hLn; omega)
    have h4 := smL_take_le LS l
    omega
  generalize hm : max st.length (l + 1) = m at *
  have hlm : l < m := by omega
  have hmn : m ≤ n := by omega
  clear h hst hok hj hLS hm
  generalize hA : smL (LS.take l) + l = A at *
  go_enter Tryd.func183, Tryd.ntmps183
  go_wp2_with fail
  refine LN.out.mono ?_
  rintro e w1 ⟨sv', rfl, hL, hb⟩
  have L1 := hide hL
  have B1 := hide hb
  obtain ⟨as', cs', hsv⟩ := o64_val hL.starts
  rw [List.length_take, STL.out, Nat.min_eq_left hmn] at hsv
  have c4 := hL.cells.2.2.2.2
  have hr := hL.starts
  unfold o64 at hr
  rw [List.length_take, STL.out, Nat.min_eq_left hmn, hsv] at hr
  rcases hr.2 with ⟨_, q⟩ | ⟨gj, cj, cur, q, _, _, d1, d2, _⟩
  · omega
  simp only [Value.slice.injEq, true_and] at q
  obtain ⟨rfl, rfl⟩ := q
  have cs : w1.cell? ⟨gj, l, none⟩ = some (.int .i64 (A : Int)) := by
    have := owns_cell hr l hlm
    rw [this]
    have h9 := SG.out
    simp only [List.getD_eq_getElem?_getD] at h9 ⊢
    rw [List.getElem?_take, if_pos hlm, h9]
  rw [hsv] at c4
  unfold maxLen at d2
  have hl' : (l : Int) < m := by omega
  clear hL hb hr
  go_wp2
  go_ret
  exact ⟨sv', rfl, L1.out, B1.out⟩
end
end Go.Proofs.YtbgngikejgihgafDoor
