import Derived.Test.YtbgngikejgihgagGreatDoorMq31
import Derived.Test.YtbgngikejgihgagGreatDoorMq03
import Derived.Deep.QuietTactic
import Derived.BigQuiet
import Derived.Test.YtbgngikejgihgagGreatDoorMq34
import Derived.Test.YtbgngikejgihgagGreatDoorMq29
namespace Go.Proofs.YtbgngikejgihgagGreatDoor
open Go Go.RowKit
set_option linter.unusedVariables false

theorem Tryz.mBreaksL (c : Option Addr) (w : World) : (Go.method 605 98 (.pointer c) "loop.example/s01685/impl.breaks").run Tryz.prog w = .ok (350, .pointer c) w := by kernel_rfl
theorem Tryz.mLineLengthL (c : Option Addr) (w : World) : (Go.method 605 98 (.pointer c) "loop.example/s01685/impl.lineLength").run Tryz.prog w = .ok (354, .pointer c) w := by kernel_rfl
theorem Tryz.mOffsetL (c : Option Addr) (w : World) : (Go.method 605 98 (.pointer c) "loop.example/s01685/impl.offset").run Tryz.prog w = .ok (356, .pointer c) w := by kernel_rfl
def msgFindL : ByteArray := ⟨#[102, 105, 110, 100, 105, 110, 103, 32, 97, 32, 112, 108, 97, 99, 101]⟩

section
variable (lo hi c g cap n : Nat) (sv : Value) (vs : List Value) (gs : List Gr) (rn : Int) (st : List Int)

set_option maxHeartbeats 1000000 in
theorem breaksL (w : World) (h : LCr w lo hi c (.slice (some ⟨g, 0, none⟩) n cap) sv vs gs n n rn st) (hn : n ≤ 1048576) :
    Calls Tryz.prog 350 #[.pointer (some ⟨c, 0, none⟩)] w fun e w' => e = .returned (.int .i64 ((n : Int) - 1)) ∧ ∃ q, w' = w.drewN q := by
  obtain ⟨q0, q1, q2, _, _⟩ := h.cells
  have LE := hide (lengthRN c 0 (some ⟨g, 0, none⟩) n cap n n w ⟨q0, q1, q2⟩ (by omega) (by omega) (by omega) (by omega))
  rw [show (n : Int) - ((n : Int) - n) = n by omega] at LE
  clear h
  go_enter Tryz.func350, Tryz.ntmps350
  go_wp2_with fail
  refine LE.out.mono ?_
  rintro e w1 ⟨rfl, q, rfl⟩
  go_wp2
  go_ret
  exact ⟨rfl, _, rfl⟩

set_option maxHeartbeats 1000000 in
theorem lineLengthL (l : Nat) (x : Gr) (w : World) (h : LCr w lo hi c (.slice (some ⟨g, 0, none⟩) n cap) sv vs gs n n rn st) (hN : gs.length = n) (hn : n ≤ 8193) (hx : gs[l]? = some x) (hok : okG x) :
    Calls Tryz.prog 354 #[.pointer (some ⟨c, 0, none⟩), .int .i64 l] w fun e w' => e = .returned (.int .i64 ((grT x).length : Nat)) ∧ ∃ q, w' = w.drewN q := by
  have hl : l < n := by rw [← hN]; exact (List.getElem?_eq_some_iff.1 hx).1
  obtain ⟨x', u, hx', hu⟩ := h.rows.get (i := l) (by rw [hN]; exact hl)
  rw [hx] at hx'
  cases hx'
  obtain ⟨q0, q1, q2, _, _⟩ := h.cells
  have hcap : n ≤ cap := by
    have hr := h.rows.row
    rw [hN] at hr
    rcases hr.2 with ⟨q, _⟩ | ⟨g', cap', cur, q, _, _, c1, c2, _⟩
    · cases q
    · simp only [Value.slice.injEq, Option.some.injEq, Addr.mk.injEq, and_true, true_and] at q
      obtain ⟨_, rfl⟩ := q
      exact c1
  have AT := hide (atN c g cap n l n n w ⟨q0, q1, q2⟩ hl (Nat.le_refl _) hcap (by omega))
  obtain ⟨y0, y1, y2⟩ := h.rows.cells hN hx hu
  have hgt := grT_len hok.1
  obtain ⟨ai, ci, hu'⟩ := o32_val (h.rows.inner hx hu)
  have hbd : 0 ≤ x.lo ∧ x.lo ≤ x.hi ∧ x.hi ≤ x.cells.length := by
    obtain ⟨⟨_, ⟨_, q3⟩, ⟨q4, q5⟩, _⟩, _⟩ := hok.1
    exact ⟨q4, q5, q3⟩
  have LE := hide (lengthG g (l * 3) ai x.cells.length ci x.lo x.hi w ⟨by rw [← hu']; exact y0, y1, y2⟩ hbd.1 hbd.2.1 hbd.2.2 (by omega))
  rw [← hgt.1] at LE
  generalize (grT x).length = T at *
  clear h hx hu hok hgt y0 y1 y2 hu'
  go_enter Tryz.func354, Tryz.ntmps354
  go_wp2_with fail
  refine AT.out.mono ?_
  rintro e w1 ⟨rfl, hw⟩
  have hw2 := hw.symm
  subst hw2
  go_wp2_with fail
  refine LE.out.mono ?_
  rintro e w2 ⟨rfl, q, rfl⟩
  go_wp2
  go_ret
  exact ⟨rfl, _, rfl⟩

set_option maxHeartbeats 1000000 in
theorem offsetL (l : Nat) (col : Int) (w : World) (h : LCr w lo hi c (.slice (some ⟨g, 0, none⟩) n cap) sv vs gs n n rn st) (hN : gs.length = n) (h2 : n ≤ 8193) (hh : hi ≤ w.heap.size) (hlc : lo ≤ c) (hch : c < hi) (hs1 : 1 ≤ st.length) (hst : st = (stL (gs.map grT)).take st.length) (hsn : st.length ≤ n) (hl : l < n) (hok : ∀ x ∈ gs, okG x) (hj : (jn (gs.map grT)).length ≤ 8192) (hc0 : 0 ≤ col ∧ col ≤ 8192) :
    Calls Tryz.prog 356 #[.pointer (some ⟨c, 0, none⟩), .int .i64 l, .int .i64 col] w fun e w' => ∃ sv', e = .returned (.int .i64 (((smL ((gs.map grT).take l) + l : Nat) : Int) + col)) ∧ LCr w' lo w'.heap.size c (.slice (some ⟨g, 0, none⟩) n cap) sv' vs gs n n rn ((stL (gs.map grT)).take (max st.length (l + 1))) ∧ Below lo w w' := by
  have LN := hide (learnN lo hi c g cap n (l + 1) sv vs gs rn st w h hN h2 hh hlc hch hs1 hst hsn (by omega) hok hj)
  obtain ⟨LS, hLS⟩ : ∃ LS, LS = gs.map grT := ⟨_, rfl⟩
  rw [← hLS] at LN hj ⊢
  have hLn : LS.length = n := by rw [hLS, List.length_map, hN]
  have SG := hide (stL_getD (ls := LS) (i := l) (by rw [hLn]; exact hl))
  have STL := hide (show (stL LS).length = n by rw [stL_len, hLn])
  have hsb : smL (LS.take l) + l ≤ 20000 := by
    have h3 := jn_len (ls := LS) (by intro e; rw [e] at hLn; simp at hLn; omega)
    have h4 := smL_take_le LS l
    omega
  generalize hm : max st.length (l + 1) = m at *
  have hlm : l < m := by omega
  have hmn : m ≤ n := by omega
  clear h hst hok hj hLS hm
  generalize hA : smL (LS.take l) + l = A at *
  go_enter Tryz.func356, Tryz.ntmps356
  go_wp2_with fail
  refine LN.out.mono ?_
  rintro e w1 ⟨sv', rfl, hL, hb⟩
  have L1 := hide hL
  have B1 := hide hb
  obtain ⟨as', cs', hsv⟩ := o64_val hL.starts
  rw [List.length_take, STL.out, Nat.min_eq_left hmn] at hsv
  have c4 := hL.cells.2.2.2.2
  have hr := hL.starts
  unfold o64 at hr
  rw [List.length_take, STL.out, Nat.min_eq_left hmn, hsv] at hr
  rcases hr.2 with ⟨_, q⟩ | ⟨gj, cj, cur, q, _, _, d1, d2, _⟩
  · omega
  simp only [Value.slice.injEq, true_and] at q
  obtain ⟨rfl, rfl⟩ := q
  have cs : w1.cell? ⟨gj, l, none⟩ = some (.int .i64 (A : Int)) := by
    have := owns_cell hr l hlm
    rw [this]
    have h9 := SG.out
    simp only [List.getD_eq_getElem?_getD] at h9 ⊢
    rw [List.getElem?_take, if_pos hlm, h9]
  rw [hsv] at c4
  unfold maxLen at d2
  have hl' : (l : Int) < m := by omega
  clear hL hb hr
  go_wp2
  go_ret
  exact ⟨sv', rfl, L1.out, B1.out⟩
end
end Go.Proofs.YtbgngikejgihgagGreatDoor

namespace Go.Proofs.YtbgngikejgihgagGreatDoor
open Go Go.RowKit
set_option linter.unusedVariables false

/-- The place is there. -/
def plOk (gs : List Gr) (line col : Int) : Prop := 0 ≤ line ∧ line < gs.length ∧ 0 ≤ col ∧ col ≤ ((gs.map grT).getD line.toNat []).length

set_option maxHeartbeats 2000000 in
set_option maxRecDepth 100000 in
theorem offsetOfL (lo hi c g cap n : Nat) (sv : Value) (vs : List Value) (gs : List Gr) (rn : Int) (st : List Int) (line col : Int) (w : World) (h : LCr w lo hi c (.slice (some ⟨g, 0, none⟩) n cap) sv vs gs n n rn st) (hN : gs.length = n) (h1 : 1 ≤ n) (h2 : n ≤ 8193) (hh : hi ≤ w.heap.size) (hlc : lo ≤ c) (hch : c < hi) (hs1 : 1 ≤ st.length) (hst : st = (stL (gs.map grT)).take st.length) (hsn : st.length ≤ n) (hok : ∀ x ∈ gs, okG x) (hj : (jn (gs.map grT)).length ≤ 8192) :
    Calls Tryz.prog 99 #[.iface 98 (.pointer (some ⟨c, 0, none⟩)), .int .i64 line, .int .i64 col] w fun e w' =>
      (plOk gs line col → ∃ sv', e = .returned (.tuple #[.int .i64 (((smL ((gs.map grT).take line.toNat) + line.toNat : Nat) : Int) + col), .nilIface]) ∧ LCr w' lo w'.heap.size c (.slice (some ⟨g, 0, none⟩) n cap) sv' vs gs n n rn ((stL (gs.map grT)).take (max st.length (line.toNat + 1)))) ∧
      (¬ plOk gs line col → e = .returned (.tuple #[.int .i64 0, .iface 172 (.agg #[.string msgFindL, .iface 181 (.int .i64 3)])])) ∧ Below lo w w' := by
  have mB := Tryz.mBreaksL
  have mL := Tryz.mLineLengthL
  have mO := Tryz.mOffsetL
  have BK := hide (breaksL lo hi c g cap n sv vs gs rn st w h (by omega))
  have KB := hide (fun W => boundsI line 0 ((n : Int) - 1) 3 W)
  have HP := hide (show plOk gs line col ↔ 0 ≤ line ∧ line < n ∧ 0 ≤ col ∧ col ≤ ((gs.map grT).getD line.toNat []).length by unfold plOk; rw [hN])
  by_cases hline : 0 ≤ line ∧ line ≤ (n : Int) - 1
  · simp only [show decide (0 ≤ line ∧ line ≤ (n : Int) - 1) = true by rw [decide_eq_true_eq]; exact hline, errV, if_true] at KB
    obtain ⟨l, rfl⟩ : ∃ l : Nat, line = l := ⟨line.toNat, by omega⟩
    rw [Int.toNat_natCast] at HP ⊢
    have hln : l < n := by omega
    have hx : gs[l]? = some (gs[l]'(by rw [hN]; exact hln)) := by simp [hN, hln]
    generalize gs[l]'(by rw [hN]; exact hln) = x at hx
    have hokx := hok x (List.mem_of_getElem? hx)
    have LL := hide (fun (W : World) (hW : W.heap = w.heap) => lineLengthL lo hi c g cap n sv vs gs rn st l x W (h.same hW) hN h2 hx hokx)
    have eg : (gs.map grT).getD l [] = grT x := by simp [List.getD_eq_getElem?_getD, hx]
    rw [eg] at HP
    have hgt := (grT_len hokx.1).2.1
    have OF := hide (fun hc (W : World) (hW : W.heap = w.heap) => offsetL lo hi c g cap n sv vs gs rn st l col W (h.same hW) hN h2 (by rw [hW]; exact hh) hlc hch hs1 hst hsn hln hok hj hc)
    have KC := hide (fun W => boundsI col 0 ((grT x).length : Nat) 3 W)
    generalize (grT x).length = T at *
    have hb0 : Below lo w w := Below.refl _ _
    have B0 := hide (fun q => (show Below lo w (w.drewN q) from ⟨rfl, rfl, rfl, Nat.le_refl _, fun _ _ => rfl⟩))
    by_cases hcol : 0 ≤ col ∧ col ≤ (T : Int)
    · simp only [show decide (0 ≤ col ∧ col ≤ (T : Int)) = true by rw [decide_eq_true_eq]; exact hcol, errV, if_true] at KC
      have OF2 := hide (OF.out ⟨hcol.1, by omega⟩)
      have YES := hide (show plOk gs (l : Int) col from HP.out.2 ⟨by omega, by omega, hcol.1, hcol.2⟩)
      obtain ⟨A, hA⟩ : ∃ A : Int, A = ((smL ((gs.map grT).take l) + l : Nat) : Int) + col := ⟨_, rfl⟩
      rw [← hA] at OF2 ⊢
      have HA := hide hA
      generalize (stL (gs.map grT)).take (max st.length (l + 1)) = ST' at *
      clear OF HP h hst hok hj hx hokx eg hgt hA hcol
      go_enter Tryz.func99, Tryz.ntmps99
      go_wp2_with fail
      refine BK.out.mono ?_
      rintro e w1 ⟨rfl, q1, rfl⟩
      go_wp2_with fail
      refine (KB.out _).mono ?_
      rintro e wx ⟨rfl, hwx⟩
      have hw2 := hwx.symm
      subst hw2
      go_wp2_with fail
      refine (LL.out _ (by exact rfl)).mono ?_
      rintro e w2 ⟨rfl, q2, rfl⟩
      go_wp2_with fail
      refine (KC.out _).mono ?_
      rintro e wy ⟨rfl, hwy⟩
      have hw3 := hwy.symm
      subst hw3
      go_wp2_with fail
      refine (OF2.out _ (by exact rfl)).mono ?_
      rintro e w3 ⟨sv', rfl, hL, hb⟩
      have L3 := hide hL
      have B3 := hide (show Below lo w w3 from ⟨hb.os, hb.tape, hb.output, hb.size, hb.block⟩)
      clear hL hb
      go_wp2
      refine bodyPost_ret (v := .tuple #[.int .i64 A, .nilIface]) (by simp [results, Tryz.results99, go_sem]) rfl ?_
      exact ⟨fun _ => ⟨sv', rfl, L3.out⟩, fun hv => absurd YES.out hv, B3.out⟩
    · simp only [show decide (0 ≤ col ∧ col ≤ (T : Int)) = false by rw [decide_eq_false_iff_not]; exact hcol, errV, Bool.false_eq_true, if_false] at KC
      have NO := hide (show ¬ plOk gs (l : Int) col from fun hv => hcol (HP.out.1 hv).2.2)
      clear OF HP h hst hok hj hx hokx eg hgt hcol
      go_enter Tryz.func99, Tryz.ntmps99
      go_wp2_with fail
      refine BK.out.mono ?_
      rintro e w1 ⟨rfl, q1, rfl⟩
      go_wp2_with fail
      refine (KB.out _).mono ?_
      rintro e wx ⟨rfl, hwx⟩
      have hw2 := hwx.symm
      subst hw2
      go_wp2_with fail
      refine (LL.out _ (by exact rfl)).mono ?_
      rintro e w2 ⟨rfl, q2, rfl⟩
      go_wp2_with fail
      refine (KC.out _).mono ?_
      rintro e wy ⟨rfl, hwy⟩
      have hw3 := hwy.symm
      subst hw3
      go_wp2
      refine bodyPost_ret (v := .tuple #[.int .i64 0, .iface 172 (.agg #[.string msgFindL, .iface 181 (.int .i64 3)])]) (by simp [results, Tryz.results99, go_sem, msgFindL]) rfl ?_
      exact ⟨fun hv => absurd hv NO.out, fun _ => rfl, ⟨rfl, rfl, rfl, Nat.le_refl _, fun _ _ => rfl⟩⟩
  · simp only [show decide (0 ≤ line ∧ line ≤ (n : Int) - 1) = false by rw [decide_eq_false_iff_not]; exact hline, errV, Bool.false_eq_true, if_false] at KB
    have NO := hide (show ¬ plOk gs line col from fun hv => hline (by have := HP.out.1 hv; omega))
    generalize ((smL ((gs.map grT).take line.toNat) + line.toNat : Nat) : Int) = A at *
    generalize (stL (gs.map grT)).take (max st.length (line.toNat + 1)) = ST' at *
    clear HP h hst hok hj hline
    go_enter Tryz.func99, Tryz.ntmps99
    go_wp2_with fail
    refine BK.out.mono ?_
    rintro e w1 ⟨rfl, q1, rfl⟩
    go_wp2_with fail
    refine (KB.out _).mono ?_
    rintro e wx ⟨rfl, hwx⟩
    have hw2 := hwx.symm
    subst hw2
    go_wp2
    refine bodyPost_ret (v := .tuple #[.int .i64 0, .iface 172 (.agg #[.string msgFindL, .iface 181 (.int .i64 3)])]) (by simp [results, Tryz.results99, go_sem, msgFindL]) rfl ?_
    exact ⟨fun hv => absurd hv NO.out, fun _ => rfl, ⟨rfl, rfl, rfl, Nat.le_refl _, fun _ _ => rfl⟩⟩
end Go.Proofs.YtbgngikejgihgagGreatDoor

namespace Go.Proofs.YtbgngikejgihgagGreatDoor
open Go Go.RowKit
set_option linter.unusedVariables false

theorem answerL_err (c : Nat) (w : World) (hg : w.cell? ⟨0, 0, none⟩ = some (.iface 307 (.agg #[.pointer (some ⟨2, 100, none⟩)]))) :
    Calls Tryz.prog 56 #[.pointer (some ⟨c, 0, none⟩), .iface 172 (.agg #[.string msgFindL, .iface 181 (.int .i64 3)])] w fun e w' => e = .returned (.tuple #[.agg #[.slice none 0 0, .slice none 0 0], .int .i64 3]) ∧ Below w.heap.size w w' := answerL_errG msgFindL 3 c w hg
end Go.Proofs.YtbgngikejgihgagGreatDoor

namespace Go.Proofs.YtbgngikejgihgagGreatDoor
open Go Go.RowKit
set_option linter.unusedVariables false

/-- What LineOffset answers. -/
def LoPost (w : World) (G : List Gr) (S : List Int) (O C : Int) (e : Ending) (w' : World) : Prop := ∃ vr vt, e = .returned (.tuple #[.agg #[vr, vt], .int .i64 O, .int .i64 C]) ∧ OwL w' w.heap.size w'.heap.size vr vt G S ∧ Below w.heap.size w w'
/-- The answer is one of three. -/
def LoAns (gs : List Gr) (st : List Int) (line col : Int) (G : List Gr) (S : List Int) (O C : Int) : Prop :=
  (LV gs st ∧ plOk gs line col ∧ G = gs ∧ S = (stL (gs.map grT)).take (max st.length (line.toNat + 1)) ∧ O = ((smL ((gs.map grT).take line.toNat) + line.toNat : Nat) : Int) + col ∧ C = 0) ∨
  (LV gs st ∧ ¬ plOk gs line col ∧ G = [] ∧ S = [] ∧ O = 0 ∧ C = 3) ∨ (¬ LV gs st ∧ G = [] ∧ S = [] ∧ O = 0 ∧ C = 1)
theorem LoAns.ex (gs : List Gr) (st : List Int) (line col : Int) : ∃ G S O C, LoAns gs st line col G S O C := by
  by_cases h1 : LV gs st
  · by_cases h2 : plOk gs line col
    · exact ⟨_, _, _, _, .inl ⟨h1, h2, rfl, rfl, rfl, rfl⟩⟩
    · exact ⟨_, _, _, _, .inr (.inl ⟨h1, h2, rfl, rfl, rfl, rfl⟩)⟩
  · exact ⟨_, _, _, _, .inr (.inr ⟨h1, rfl, rfl, rfl, rfl⟩)⟩

set_option maxHeartbeats 2000000 in
set_option maxRecDepth 100000 in
theorem implLo (gs : List Gr) (st : List Int) (line col : Int) (vr vt : Value) (lo hi : Nat) (w : World) (G : List Gr) (S : List Int) (O C : Int) (hA : LoAns gs st line col G S O C) (h : OwL w lo hi vr vt gs st) (hh : hi ≤ w.heap.size) (hs : ∀ x ∈ gs, x.cells.length ≤ 1048576) (hgl : gs.length ≤ 1048576) (hst : st.length ≤ 1048576) (hg : w.cell? ⟨0, 0, none⟩ = some (.iface 307 (.agg #[.pointer (some ⟨2, 100, none⟩)]))) :
    Calls Tryz.prog 47 #[.agg #[vr, vt], .int .i64 line, .int .i64 col] w (LoPost w G S O C) := by
  have hlt0 : 0 < w.heap.size := World.block_lt_of_cell? w _ hg
  have A0 := hide (((Below.refl w.heap.size w).alloc (Nat.le_refl _) (.cells #[vr, vt] 29)).alloc (by simp) (.cells #[.slice none 0 0, .slice none 0 0] 29))
  have K0 := hide (show D2 ((w.alloc (.cells #[vr, vt] 29)).alloc (.cells #[.slice none 0 0, .slice none 0 0] 29)) (w.heap.size + 1) (.slice none 0 0) (.slice none 0 0) 29 from (by have h9 := D2.new (w.alloc (.cells #[vr, vt] 29)) (.slice none 0 0) (.slice none 0 0) 29; rw [World.size_alloc] at h9; exact h9))
  have hs0 : ((w.alloc (.cells #[vr, vt] 29)).alloc (.cells #[.slice none 0 0, .slice none 0 0] 29)).heap.size = w.heap.size + 2 := by simp
  have RL := hide (readLinesN gs st vr vt lo hi _ (h.below A0.out hh) (by rw [hs0]; omega) hs hgl hst)
  have G0 := hide ((A0.out.cell (p := ⟨0, 0, none⟩) hlt0).trans hg)
  obtain ⟨a1, c1, a2, c2, rfl, rfl⟩ := h.val
  have HA := hide hA
  unfold LoPost
  clear h hs hg hA
  generalize hn : gs.length = n at *
  generalize hm : st.length = m at *
  have HN := hide hn
  have HM := hide hm
  clear hn hm
  by_cases hv : LV gs st
  · have RL2 := hide (RL.out.mono (fun e w' h => h.1 hv))
    unfold RLOk at RL2
    have hv' := (LV_iff gs st).1 hv
    have HV := hide hv'
    have HVV := hide hv
    clear RL hv hv'
    go_enter Tryz.func47, Tryz.ntmps47
    go_wp2_with fail
    generalize (w.alloc (.cells #[.slice a1 n c1, .slice a2 m c2] 29)).alloc (.cells #[.slice none 0 0, .slice none 0 0] 29) = w0 at *
    refine RL2.out.mono ?_
    rintro e w1 ⟨c, g, sv, vs, rfl, hc, hL, hb1⟩
    rw [HN.out] at hL
    have hcl := hL.lt
    have s1 := hb1.size
    have OF := hide (offsetOfL w0.heap.size w1.heap.size c g n n sv vs gs _ st line col w1 hL HN.out (by have := HV.out.1.1; rw [HN.out] at this; exact this.1) (by have := HV.out.1.1; rw [HN.out] at this; exact this.2) (Nat.le_refl _) hc hcl HV.out.2.1.1 HV.out.2.2 (by have := HV.out.2.1.2; rw [HN.out] at this; exact this) HV.out.1.2.1 HV.out.1.2.2)
    have K1 := hide (K0.out.below hb1 (by omega))
    have B1 := hide (A0.out.trans (hb1.mono (by omega)))
    have G1 := hide ((hb1.cell (p := ⟨0, 0, none⟩) (by show 0 < w0.heap.size; omega)).trans G0.out)
    clear hL hb1 RL2 K0
    by_cases hp : plOk gs line col
    · rcases HA.out with ⟨_, _, eG, eS, eO, eC⟩ | ⟨_, h3, _⟩ | ⟨h3, _⟩
      · have OF2 := hide (OF.out.mono (fun e w' h => (⟨h.1 hp, h.2.2⟩ : _ ∧ Below w0.heap.size w1 w')))
        rw [← eO, ← eS] at OF2
        have HGE := hide eG
        subst eC
        clear OF eO eS eG HA
        go_wp2_with fail
        refine OF2.out.mono ?_
        rintro e w2 ⟨⟨sv', rfl, hL2⟩, hb2⟩
        have s2 := hb2.size
        have AN := hide (answerL_ok w0.heap.size w2.heap.size c g n sv' vs gs _ S w2 hL2 HN.out (by have := HV.out.1.1; rw [HN.out] at this; exact this.1) (by have := HV.out.1.1; rw [HN.out] at this; exact this.2) (Nat.le_refl _) (by omega) (by omega))
        have K2 := hide (K1.out.below hb2 (by omega))
        have B2 := hide (B1.out.trans (hb2.mono (by omega)))
        clear hL2 hb2 OF2 K1
        go_wp2_with fail
        refine AN.out.mono ?_
        rintro e w3 ⟨vr3, vt3, rfl, ho3, hb3⟩
        obtain ⟨b1, d1, b2, d2, rfl, rfl⟩ := ho3.val
        have s3 := hb3.size
        have K3 := hide (K2.out.below hb3 (by omega))
        have B3 := hide (B2.out.trans (hb3.mono (by omega)))
        rw [HN.out] at *
        have O3 := hide ho3
        have W4 := hide ((Below.refl w3.heap.size w3).alloc (Nat.le_refl _) (.cells #[.slice b1 n d1, .slice b2 S.length d2] 29))
        have K4 := hide (K3.out.below W4.out (by omega))
        have e0 := K4.out.c.1
        have e1 := K4.out.c.2
        have f0 := K4.out.fz 0
        have f1 := K4.out.fz 1
        have z4 : (w3.alloc (.cells #[.slice b1 n d1, .slice b2 S.length d2] 29)).heap.size = w3.heap.size + 1 := by simp
        clear ho3 hb3 AN K2 K3
        generalize S.length = sl at *
        go_wp2
        refine bodyPost_ret (v := .tuple #[.agg #[.slice b1 n d1, .slice b2 sl d2], .int .i64 O, .int .i64 0]) (by simp [results, Tryz.results47, go_sem, e0, e1]) rfl ⟨_, _, rfl, ?_, ?_⟩
        · rw [HGE.out]
          refine (O3.out.frame (fun q h1 h2 => ?_)).mono (by omega) (by simp)
          rw [heap_setCell_other _ _ _ _ (by show q ≠ w.heap.size + 1; omega), heap_setCell_other _ _ _ _ (by show q ≠ w.heap.size + 1; omega)]
          exact W4.out.block q h2
        · exact ((B3.out.trans (W4.out.mono (by omega))).setCell (by simp) _).setCell (by simp) _
      · exact absurd hp h3
      · exact absurd HVV.out h3
    · rcases HA.out with ⟨_, h3, _⟩ | ⟨_, _, eG, eS, eO, eC⟩ | ⟨h3, _⟩
      · exact absurd h3 hp
      · have OF2 := hide (OF.out.mono (fun e w' h => (⟨h.2.1 hp, h.2.2⟩ : _ ∧ Below w0.heap.size w1 w')))
        subst eG eS eO eC
        clear OF HA
        go_wp2_with fail
        refine OF2.out.mono ?_
        rintro e w2 ⟨rfl, hb2⟩
        have s2 := hb2.size
        have K2 := hide (K1.out.below hb2 (by omega))
        have B2 := hide (B1.out.trans (hb2.mono (by omega)))
        have G2 := hide ((hb2.cell (p := ⟨0, 0, none⟩) (by show 0 < w0.heap.size; omega)).trans G1.out)
        clear hb2 OF2 K1
        go_wp2_with fail
        refine (answerL_err c w2 G2.out).mono ?_
        rintro e w3 ⟨rfl, hb3⟩
        have s3 := hb3.size
        have K3 := hide (K2.out.below hb3 (by omega))
        have B3 := hide (B2.out.trans (hb3.mono (by omega)))
        have W4 := hide ((Below.refl w3.heap.size w3).alloc (Nat.le_refl _) (.cells #[.slice none 0 0, .slice none 0 0] 29))
        have K4 := hide (K3.out.below W4.out (by omega))
        have e0 := K4.out.c.1
        have e1 := K4.out.c.2
        have f0 := K4.out.fz 0
        have f1 := K4.out.fz 1
        clear hb3 K2 K3
        go_wp2
        refine bodyPost_ret (v := .tuple #[.agg #[.slice none 0 0, .slice none 0 0], .int .i64 0, .int .i64 3]) (by simp [results, Tryz.results47, go_sem, e0, e1]) rfl ⟨_, _, rfl, OwL.nil _ _ _, ?_⟩
        exact ((B3.out.trans (W4.out.mono (by omega))).setCell (by simp) _).setCell (by simp) _
      · exact absurd HVV.out h3
  · have RL2 := hide (RL.out.mono (fun e w' h => h.2 hv))
    unfold RLBad at RL2
    rcases HA.out with ⟨h3, _⟩ | ⟨h3, _⟩ | ⟨_, eG, eS, eO, eC⟩
    · exact absurd h3 hv
    · exact absurd h3 hv
    subst eG eS eO eC
    have CB := hide (fun er hb w hg => codeBadL er hb w hg)
    clear RL hv HA
    go_enter Tryz.func47, Tryz.ntmps47
    go_wp2_with fail
    generalize (w.alloc (.cells #[.slice a1 n c1, .slice a2 m c2] 29)).alloc (.cells #[.slice none 0 0, .slice none 0 0] 29) = w0 at *
    refine RL2.out.mono ?_
    rintro e w1 ⟨er, rfl, hbe, hb1⟩
    have s1 := hb1.size
    have K1 := hide (K0.out.below hb1 (by omega))
    have B1 := hide (A0.out.trans (hb1.mono (by omega)))
    have G1 := hide ((hb1.cell (p := ⟨0, 0, none⟩) (by show 0 < w0.heap.size; omega)).trans G0.out)
    have CO := hide (CB.out er hbe w1 G1.out)
    clear hb1 RL2 K0
    rcases hbe with ⟨msg, rfl⟩ | ⟨msg, msg', rfl⟩
    all_goals
      go_wp2_with fail
      refine CO.out.mono ?_
      rintro e w2 ⟨rfl, hb2⟩
      have B2 := hide (B1.out.trans (hb2.mono (by omega)))
      have K2 := hide (K1.out.below hb2 (by omega))
      have e0 := K2.out.c.1
      have e1 := K2.out.c.2
      have f0 := K2.out.fz 0
      have f1 := K2.out.fz 1
      clear hb2
      go_wp2
      refine bodyPost_ret (v := .tuple #[.agg #[.slice none 0 0, .slice none 0 0], .int .i64 0, .int .i64 1]) (by simp [results, Tryz.results47, go_sem, e0, e1]) rfl ⟨_, _, rfl, OwL.nil _ _ _, ?_⟩
      exact (B2.out.setCell (by simp) _).setCell (by simp) _
end Go.Proofs.YtbgngikejgihgagGreatDoor
