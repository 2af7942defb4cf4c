import Derived.Test.YtdjdkgidihhkfadDoorSrc
import Derived.Test.YtdjdkgidihhkfadDoorTRec
import Derived.Test.YtdjdkgidihhkfadDoorTOw
namespace Go.Proofs.YtdjdkgidihhkfadDoor
open Go Go.RowKit
set_option linter.unusedVariables false

set_option maxHeartbeats 400000 in
theorem drawOne (bs : List Int) (vb : Value) (p : Nat) (k : Int) (w : World) (hS : Src bs vb p w) (hk0 : 0 < k) (hk1 : k ≤ 1048576) :
    Calls Tryd.prog 67 #[.pointer (some ⟨p, 0, none⟩), .int .i64 k] w fun e w' => ∃ b : Bool, e = .returned (.bool b) ∧ Src bs vb p w' ∧ w.grownBy w' (some p) := by
  have HS := hide hS
  clear hS
  go_enter Tryd.func67, Tryd.ntmps67
  go_wp2_with fail
  refine (drawN bs vb p k w HS.out hk0 hk1).mono ?_
  rintro e w1 ⟨r, rfl, hr, hs, hg⟩
  have H1 := hide hs
  have H2 := hide hg
  clear hs hg
  go_wp2
  go_ret
  exact ⟨_, rfl, H1.out, H2.out⟩

set_option maxHeartbeats 400000 in
theorem new1 (bs : List Int) (vb : Value) (w : World) (h : Rd .u8 w vb bs) (hb : ∀ z ∈ bs, 0 ≤ z ∧ z ≤ 255) (hn : bs.length ≤ 1048576) :
    Calls Tryd.prog 63 #[vb] w fun e w' => e = .returned (.pointer (some ⟨w.heap.size, 0, none⟩)) ∧ Src bs vb w.heap.size w' ∧ Below w.heap.size w w' := by
  have HB := hide hb
  have HR := hide h
  obtain ⟨ao, cap, rfl⟩ : ∃ ao cap, vb = .slice ao bs.length cap := by
    rcases h with ⟨ao, cap, rfl, rfl⟩ | ⟨b, off, cap, rfl, _⟩
    · exact ⟨_, _, rfl⟩
    · exact ⟨_, _, rfl⟩
  clear hb h
  go_enter Tryd.func63, Tryd.ntmps63
  go_wp2
  go_ret
  have hbw := (Below.refl w.heap.size w).alloc (Nat.le_refl _) (.cells #[.slice ao bs.length cap, .int .i64 0, .int .u64 (88172645463325252 + bs.length)] 159)
  refine ⟨rfl, ⟨⟨0, 88172645463325252 + bs.length, Nat.zero_le _, by omega, by omega, heap_alloc_new _ _⟩, HB.out, hn, ?_⟩, hbw⟩
  rcases HR.out with ⟨ao', cap', e, e2⟩ | ⟨b, off, cap', e, hl, hc⟩
  · subst e2; exact .inl ⟨_, _, rfl, rfl⟩
  · refine .inr ⟨b, off, cap', e, ?_, hl, fun i hi => ?_⟩
    · have := World.block_lt_of_cell? w _ (hc 0 hl.1)
      simp at this; omega
    · have h4 := hc i hi
      rw [hbw.cell (p := ⟨b, off + i, none⟩) (World.block_lt_of_cell? w _ h4)]
      exact h4

set_option maxHeartbeats 400000 in
theorem new2 (bs : List Int) (vb : Value) (w : World) (h : Rd .u8 w vb bs) (hb : ∀ z ∈ bs, 0 ≤ z ∧ z ≤ 255) (hn : bs.length ≤ 1048576) :
    Calls Tryd.prog 21 #[vb] w fun e w' => e = .returned (.pointer (some ⟨w.heap.size, 0, none⟩)) ∧ Src bs vb w.heap.size w' ∧ Below w.heap.size w w' := by
  have HB := hide hb
  have HR := hide h
  clear hb h
  go_enter Tryd.func21, Tryd.ntmps21
  go_wp2_with fail
  refine (new1 bs vb w HR.out HB.out hn).mono ?_
  rintro e w1 ⟨rfl, hs, hbw⟩
  have H1 := hide hs
  have H2 := hide hbw
  clear hs hbw
  go_wp2
  go_ret
  exact ⟨rfl, H1.out, H2.out⟩

theorem Chg.of_grown {w w' : World} {p : Nat} (h : w.grownBy w' (some p)) : Chg [p] w w' :=
  ⟨h.os, h.tape, h.output, h.size, fun k hk hn => h.block k hk (fun e => hn (by cases e; simp))⟩

/-- A source whose bytes lie below it. -/
def SrcB (bs : List Int) (vb : Value) (p : Nat) (w : World) : Prop := Src bs vb p w ∧ ∀ b off cap, vb = .slice (some ⟨b, off, none⟩) bs.length cap → 0 < bs.length → b < p
theorem SrcB.chg {bs : List Int} {vb : Value} {p : Nat} {w w' : World} {cs : List Nat} (h : SrcB bs vb p w) (hc : Chg cs w w') (hn : ∀ x ∈ cs, p < x) : SrcB bs vb p w' := by
  refine ⟨?_, h.2⟩
  have hlt := h.1.lt
  have hb := h.2
  obtain ⟨⟨i, x, h5, h6, h7, h8⟩, h1, h2, h3⟩ := h.1
  refine ⟨⟨i, x, h5, h6, h7, (hc.block p hlt (fun hm => by have := hn p hm; omega)).trans h8⟩, h1, h2, ?_⟩
  rcases h3 with h3 | ⟨b, off, cap, hv, hne, hl, hcc⟩
  · exact .inl h3
  · refine .inr ⟨b, off, cap, hv, hne, hl, fun i hi => ?_⟩
    have h4 := hcc i hi
    have hbl := World.block_lt_of_cell? w _ h4
    have hbp := hb b off cap hv hl.1
    rw [World.cell?_of_block (w := w) (hc.block b hbl (fun hm => by have := hn b hm; omega))]
    exact h4
theorem SrcB.below {bs : List Int} {vb : Value} {p B : Nat} {w w' : World} (h : SrcB bs vb p w) (hb : Below B w w') (hp : p < B) (hB : B ≤ w.heap.size) : SrcB bs vb p w' := by
  refine ⟨?_, h.2⟩
  obtain ⟨⟨i, x, h5, h6, h7, h8⟩, h1, h2, h3⟩ := h.1
  refine ⟨⟨i, x, h5, h6, h7, (hb.block p hp).trans h8⟩, h1, h2, ?_⟩
  rcases h3 with h3 | ⟨b, off, cap, hv, hne, hl, hcc⟩
  · exact .inl h3
  · refine .inr ⟨b, off, cap, hv, hne, hl, fun i hi => ?_⟩
    have hbp := h.2 b off cap hv hl.1
    rw [hb.cell (p := ⟨b, off + i, none⟩) (by show b < B; omega)]
    exact hcc i hi
theorem SrcB.heap {bs : List Int} {vb : Value} {p : Nat} {w w' : World} (h : SrcB bs vb p w) (e : w'.heap = w.heap) : SrcB bs vb p w' := by
  refine ⟨?_, h.2⟩
  obtain ⟨⟨i, x, h5, h6, h7, h8⟩, h1, h2, h3⟩ := h.1
  refine ⟨⟨i, x, h5, h6, h7, by rw [e]; exact h8⟩, h1, h2, ?_⟩
  rcases h3 with h3 | ⟨b, off, cap, hv, hne, hl, hcc⟩
  · exact .inl h3
  · refine .inr ⟨b, off, cap, hv, hne, hl, fun i hi => ?_⟩
    rw [World.cell?_of_block (w := w) (by rw [e])]
    exact hcc i hi

theorem drawNB (bs : List Int) (vb : Value) (p : Nat) (k : Int) (w : World) (hS : SrcB bs vb p w) (hk0 : 0 < k) (hk1 : k ≤ 1048576) :
    Calls Tryd.prog 66 #[.pointer (some ⟨p, 0, none⟩), .int .i64 k] w fun e w' => ∃ r : Int, e = .returned (.int .i64 r) ∧ (0 ≤ r ∧ r < k) ∧ SrcB bs vb p w' ∧ Chg [p] w w' :=
  (drawN bs vb p k w hS.1 hk0 hk1).mono fun e w' ⟨r, h1, h2, h3, h4⟩ => ⟨r, h1, h2, ⟨h3, hS.2⟩, Chg.of_grown h4⟩
theorem drawOneB (bs : List Int) (vb : Value) (p : Nat) (k : Int) (w : World) (hS : SrcB bs vb p w) (hk0 : 0 < k) (hk1 : k ≤ 1048576) :
    Calls Tryd.prog 67 #[.pointer (some ⟨p, 0, none⟩), .int .i64 k] w fun e w' => ∃ b : Bool, e = .returned (.bool b) ∧ SrcB bs vb p w' ∧ Chg [p] w w' :=
  (drawOne bs vb p k w hS.1 hk0 hk1).mono fun e w' ⟨r, h1, h3, h4⟩ => ⟨r, h1, ⟨h3, hS.2⟩, Chg.of_grown h4⟩

set_option maxHeartbeats 1000000 in
theorem tallN (n : Nat) (ao : Option Addr) (cap : Nat) (w : World) (hn : n ≤ 1048576) :
    Calls Tryd.prog 65 #[.slice ao n cap] w fun e w' => ∃ r : Int, e = .returned (.int .i64 r) ∧ (0 ≤ r ∧ r ≤ 7) ∧ w' = w := by
  go_enter Tryd.func65, Tryd.ntmps65
  go_wp2_with fail
  go_loopw [3, 4] (fun h m wr => ∃ (a : Int) (q : Nat), h = .int .i64 a ∧ m = .int .i64 q ∧ (2 ≤ a ∧ a + q ≤ 1048578) ∧ wr = w) (fun _ m _ => (intOf m).toNat)
  case atStart => exact ⟨2, n, rfl, rfl, by omega, rfl⟩
  case round =>
    obtain ⟨a, q, rfl, rfl, hb, rfl⟩ := hrel
    by_cases hq : (q : Int) > 2
    · go_wp2
      go_roundw
      case rel => exact ⟨a + 1, q / 2, rfl, by first | rfl | go_num | (simp; omega), by omega, by first | rfl | trivial⟩
      case measure => simp [intOf]; omega
    · by_cases ha : a > 7
      · go_wp2
        go_ret
        exact ⟨_, rfl, by omega, rfl⟩
      · go_wp2
        go_ret
        exact ⟨_, rfl, by omega, rfl⟩

/-- What a drawn piece is. -/
def Sm (q : Pc) : Prop := 0 ≤ q.off ∧ q.off + q.len ≤ 220000 ∧ 1 ≤ q.len ∧ q.len ≤ 9 ∧ 0 ≤ q.brk ∧ q.brk ≤ q.len
theorem Sm.ok {q : Pc} (h : Sm q) : pcOk q = true := by
  obtain ⟨h1, h2, h3, h4, h5, h6⟩ := h
  simp only [pcOk, decide_eq_true_eq]; omega

set_option maxHeartbeats 2000000 in
set_option maxRecDepth 100000 in
theorem pieceD (bs : List Int) (vb : Value) (p : Nat) (w : World) (hS : SrcB bs vb p w) :
    Calls Tryd.prog 25 #[.pointer (some ⟨p, 0, none⟩)] w fun e w' => ∃ q : Pc, e = .returned (pcV q) ∧ Sm q ∧ SrcB bs vb p w' ∧ Chg [p] w w' := by
  have hlt := hS.1.lt
  have HB0 := hide ((Below.refl w.heap.size w).alloc (Nat.le_refl _) (.cells #[.int .i64 0, .int .i64 0, .int .i64 0] 52))
  have hk0 : (w.alloc (.cells #[.int .i64 0, .int .i64 0, .int .i64 0] 52)).heap[w.heap.size]? = some (.cells #[.int .i64 0, .int .i64 0, .int .i64 0] 52 (0, 0)) := heap_alloc_new _ _
  have hs0 : (w.alloc (.cells #[.int .i64 0, .int .i64 0, .int .i64 0] 52)).heap.size = w.heap.size + 1 := by simp
  have H0 := hide (hS.below HB0.out hlt (Nat.le_refl _))
  have C0 := hide (Chg.of_below (bs := [p]) HB0.out)
  clear hS
  go_enter Tryd.func25, Tryd.ntmps25
  go_wp2_with fail
  generalize w.alloc (.cells #[.int .i64 0, .int .i64 0, .int .i64 0] 52) = w0 at *
  refine (drawNB bs vb p 500 w0 H0.out (by omega) (by omega)).mono ?_
  rintro e w1 ⟨o, rfl, ho, hs1, hc1⟩
  have z1 := hc1.size
  have K1 := hide ((hc1.block w.heap.size (by omega) (by simp; omega)).trans hk0)
  have H1 := hide hs1
  have C1 := hide (C0.out.trans hc1 (fun _ h _ => h) (fun _ h _ => h))
  clear hs1 hc1 C0 H0 HB0 hk0
  go_wp2_with fail
  refine (drawNB bs vb p 9 w1 H1.out (by omega) (by omega)).mono ?_
  rintro e w2 ⟨ln, rfl, hln, hs2, hc2⟩
  have z2 := hc2.size
  have K2 := hide ((hc2.block w.heap.size (by omega) (by simp; omega)).trans K1.out)
  have C2 := hide ((C1.out.trans hc2 (fun _ h _ => h) (fun _ h _ => h)).trans (Chg.of_below (bs := [p]) ((Below.refl w2.heap.size w2).alloc (Nat.le_refl _) (.cells #[.int .i64 o, .int .i64 (1 + ln), .int .i64 0] 52))) (fun _ h _ => h) (fun _ h _ => h))
  have H2 := hide (hs2.below ((Below.refl w2.heap.size w2).alloc (Nat.le_refl _) (.cells #[.int .i64 o, .int .i64 (1 + ln), .int .i64 0] 52)) (by omega) (Nat.le_refl _))
  have K2' := hide ((((Below.refl w2.heap.size w2).alloc (Nat.le_refl _) (.cells #[.int .i64 o, .int .i64 (1 + ln), .int .i64 0] 52)).block w.heap.size (by omega)).trans K2.out)
  have L2 : (w2.alloc (.cells #[.int .i64 o, .int .i64 (1 + ln), .int .i64 0] 52)).heap[w2.heap.size]? = some (.cells #[.int .i64 o, .int .i64 (1 + ln), .int .i64 0] 52 (0, 0)) := heap_alloc_new _ _
  have hs3 : (w2.alloc (.cells #[.int .i64 o, .int .i64 (1 + ln), .int .i64 0] 52)).heap.size = w2.heap.size + 1 := by simp
  clear hs2 hc2 C1 H1 K1 K2
  go_wp2_with fail
  generalize w2.alloc (.cells #[.int .i64 o, .int .i64 (1 + ln), .int .i64 0] 52) = w3 at *
  refine (drawNB bs vb p (1 + ln + 1) w3 H2.out (by omega) (by omega)).mono ?_
  rintro e w4 ⟨br, rfl, hbr, hs4, hc4⟩
  have z4 := hc4.size
  have K4 := hide ((hc4.block w.heap.size (by omega) (by simp; omega)).trans K2'.out)
  have L4 := (hc4.block w2.heap.size (by omega) (by simp; omega)).trans L2
  have M4 := heap_setCell_same w4 w2.heap.size 2 _ _ (.int .i64 br) L4
  have N4 := hide ((heap_setCell_other w4 ⟨w2.heap.size, 2, none⟩ w.heap.size (.int .i64 br) (by show w.heap.size ≠ w2.heap.size; omega)).trans K4.out)
  have d2 : w4.cell? ⟨w2.heap.size, 2, none⟩ = some (.int .i64 0) := by rw [cell_of_row w4 _ 2 _ _ _ L4]; rfl
  have f2 := frozen_of_row w4 w2.heap.size 2 _ _ L4
  have C4 := hide ((C2.out.trans hc4 (fun _ h _ => h) (fun _ h _ => h)).setCell ⟨w2.heap.size, 2, none⟩ (.int .i64 br) (.inr (by show w.heap.size ≤ w2.heap.size; omega)))
  have H4 := hide (hs4.below (B := w2.heap.size) ((Below.refl w2.heap.size w4).setCell (p := ⟨w2.heap.size, 2, none⟩) (Nat.le_refl _) (.int .i64 br)) (by omega) (by omega))
  have z5 : (w4.setCell ⟨w2.heap.size, 2, none⟩ (.int .i64 br)).heap.size = w4.heap.size := by simp
  clear hs4 hc4 C2 H2 K2' L2 K4 L4
  go_wp2_with fail
  generalize w4.setCell ⟨w2.heap.size, 2, none⟩ (.int .i64 br) = w5 at *
  refine (drawOneB bs vb p 2 w5 H4.out (by omega) (by omega)).mono ?_
  rintro e w6 ⟨b1, rfl, hs6, hc6⟩
  have z6 := hc6.size
  have K6 := hide ((hc6.block w.heap.size (by omega) (by simp; omega)).trans N4.out)
  have L6 := (hc6.block w2.heap.size (by omega) (by simp; omega)).trans M4
  have L6' : w6.heap[w2.heap.size]? = some (.cells #[.int .i64 o, .int .i64 (1 + ln), .int .i64 br] 52 (0, 0)) := L6
  have C6 := hide (C4.out.trans hc6 (fun _ h _ => h) (fun _ h _ => h))
  have H6 := hide hs6
  clear hs6 hc6 C4 H4 M4 N4 d2 f2 L6
  have d6 : w6.cell? ⟨w2.heap.size, 2, none⟩ = some (.int .i64 br) := by rw [cell_of_row w6 _ 2 _ _ _ L6']; rfl
  have f6 := frozen_of_row w6 w2.heap.size 2 _ _ L6'
  have L60 := hide L6'
  have Q7 : Hid (∀ b1 : Bool, ∃ w7 br', (w7 = if b1 then w6.setCell ⟨w2.heap.size, 2, none⟩ (.int .i64 0) else w6) ∧ (0 ≤ br' ∧ br' ≤ 1 + ln) ∧ w6.heap.size = w7.heap.size ∧ w7.heap[w.heap.size]? = some (.cells #[.int .i64 0, .int .i64 0, .int .i64 0] 52 (0, 0)) ∧ w7.heap[w2.heap.size]? = some (.cells #[.int .i64 o, .int .i64 (1 + ln), .int .i64 br'] 52 (0, 0)) ∧ SrcB bs vb p w7 ∧ Chg [p] w w7) := by
    refine hide (fun b1 => ?_)
    cases b1
    · exact ⟨w6, br, rfl, by omega, rfl, K6.out, L6', H6.out, C6.out⟩
    · refine ⟨_, 0, rfl, by omega, by simp, (heap_setCell_other w6 ⟨w2.heap.size, 2, none⟩ w.heap.size (.int .i64 0) (by show w.heap.size ≠ w2.heap.size; omega)).trans K6.out, heap_setCell_same w6 w2.heap.size 2 _ _ (.int .i64 0) L6', ?_, ?_⟩
      · exact H6.out.below (B := w2.heap.size) ((Below.refl w2.heap.size w6).setCell (p := ⟨w2.heap.size, 2, none⟩) (Nat.le_refl _) (.int .i64 0)) (by omega) (by omega)
      · exact C6.out.setCell ⟨w2.heap.size, 2, none⟩ (.int .i64 0) (.inr (by show w.heap.size ≤ w2.heap.size; omega))
  clear L6' K6 C6 H6
  cases b1
  case' false => obtain ⟨w7, br', hw7, hbr7, z7, K7, L7, H7, C7⟩ := Q7.out false
  case' true => obtain ⟨w7, br', hw7, hbr7, z7, K7, L7, H7, C7⟩ := Q7.out true
  all_goals
    simp only [Bool.false_eq_true, if_false, if_true] at hw7
    have HW := hide hw7
    have K7' := hide K7
    have L7' := hide L7
    have H7' := hide H7
    have C7' := hide C7
    clear Q7 hw7 K7 L7 H7 C7
    go_wp2_with fail
    rw [← HW.out]
    refine (drawOneB bs vb p 20 w7 H7'.out (by omega) (by omega)).mono ?_
    rintro e w8 ⟨b2, rfl, hs8, hc8⟩
    have z8 := hc8.size
    have K8 := (hc8.block w.heap.size (by omega) (by simp; omega)).trans K7'.out
    have L8 := (hc8.block w2.heap.size (by omega) (by simp; omega)).trans L7'.out
    have C8 := C7'.out.trans hc8 (fun _ h _ => h) (fun _ h _ => h)
    have H8 := hs8
    have Q9 : Hid (∀ b1 : Bool, ∃ w7 o', (w7 = if b1 then w8.setCell ⟨w2.heap.size, 0, none⟩ (.int .i64 (220000 - (1 + ln))) else w8) ∧ (0 ≤ o' ∧ o' + (1 + ln) ≤ 220000) ∧ w8.heap.size = w7.heap.size ∧ w7.heap[w.heap.size]? = some (.cells #[.int .i64 0, .int .i64 0, .int .i64 0] 52 (0, 0)) ∧ w7.heap[w2.heap.size]? = some (.cells #[.int .i64 o', .int .i64 (1 + ln), .int .i64 br'] 52 (0, 0)) ∧ SrcB bs vb p w7 ∧ Chg [p] w w7) := by
      refine hide (fun b1 => ?_)
      cases b1
      · exact ⟨w8, o, rfl, by omega, rfl, K8, L8, H8, C8⟩
      · refine ⟨_, 220000 - (1 + ln), rfl, by omega, by simp, (heap_setCell_other w8 ⟨w2.heap.size, 0, none⟩ w.heap.size _ (by show w.heap.size ≠ w2.heap.size; omega)).trans K8, heap_setCell_same w8 w2.heap.size 0 _ _ _ L8, ?_, ?_⟩
        · exact H8.below (B := w2.heap.size) ((Below.refl w2.heap.size w8).setCell (p := ⟨w2.heap.size, 0, none⟩) (Nat.le_refl _) _) (by omega) (by omega)
        · exact C8.setCell ⟨w2.heap.size, 0, none⟩ _ (.inr (by show w.heap.size ≤ w2.heap.size; omega))
    clear K7' L7' H7' C7' H8 hs8 hc8 C8 HW K8
    have d6 : w8.cell? ⟨w2.heap.size, 0, none⟩ = some (.int .i64 o) := by rw [cell_of_row w8 _ 0 _ _ _ L8]; rfl
    have d61 : w8.cell? ⟨w2.heap.size, 1, none⟩ = some (.int .i64 (1 + ln)) := by rw [cell_of_row w8 _ 1 _ _ _ L8]; rfl
    have f8 := frozen_of_row w8 w2.heap.size 0 _ _ L8
    clear L8
    cases b2
    case' false => obtain ⟨w9, o', hw9, ho9, z9, K9, L9, H9, C9⟩ := Q9.out false
    case' true => obtain ⟨w9, o', hw9, ho9, z9, K9, L9, H9, C9⟩ := Q9.out true
    all_goals
      simp only [Bool.false_eq_true, if_false, if_true] at hw9
      have HW9 := hide hw9
      have H9' := hide H9
      have C9' := hide C9
      have K9' := hide K9
      have e0 : w9.cell? ⟨w2.heap.size, 0, none⟩ = some (.int .i64 o') := by rw [cell_of_row w9 _ 0 _ _ _ L9]; rfl
      have e1 : w9.cell? ⟨w2.heap.size, 1, none⟩ = some (.int .i64 (1 + ln)) := by rw [cell_of_row w9 _ 1 _ _ _ L9]; rfl
      have e2 : w9.cell? ⟨w2.heap.size, 2, none⟩ = some (.int .i64 br') := by rw [cell_of_row w9 _ 2 _ _ _ L9]; rfl
      have k0 : w9.cell? ⟨w.heap.size, 0, none⟩ = some (.int .i64 0) := by rw [cell_of_row w9 _ 0 _ _ _ K9]; rfl
      have k1 : w9.cell? ⟨w.heap.size, 1, none⟩ = some (.int .i64 0) := by rw [cell_of_row w9 _ 1 _ _ _ K9]; rfl
      have k2 : w9.cell? ⟨w.heap.size, 2, none⟩ = some (.int .i64 0) := by rw [cell_of_row w9 _ 2 _ _ _ K9]; rfl
      have g0 := frozen_of_row w9 w.heap.size 0 _ _ K9
      have g1 := frozen_of_row w9 w.heap.size 1 _ _ K9
      have g2 := frozen_of_row w9 w.heap.size 2 _ _ K9
      clear Q9 H9 C9 K9 L9 hw9
      go_upto_region 7 with fail
      rw [← HW9.out]
      clear HW9
      go_wp2
      refine bodyPost_ret (v := pcV ⟨o', 1 + ln, br'⟩) (by simp [results, Tryd.results25, go_sem, k0, k1, k2]; rfl) rfl ⟨⟨o', 1 + ln, br'⟩, rfl, ⟨ho9.1, by show o' + (1 + ln) ≤ 220000; omega, by show 1 ≤ 1 + ln; omega, by show 1 + ln ≤ 9; omega, hbr7.1, hbr7.2⟩, ?_, ?_⟩
      · exact H9'.out.below (B := w.heap.size) ((((Below.refl w.heap.size w9).setCell (by simp) _).setCell (by simp) _).setCell (by simp) _) hlt (by omega)
      · exact ((C9'.out.setCell _ _ (.inr (by simp))).setCell _ _ (.inr (by simp))).setCell _ _ (.inr (by simp))
end Go.Proofs.YtdjdkgidihhkfadDoor
