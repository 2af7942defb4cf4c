import Derived.Test.YtbgngikejgihgagGreatDoorMq38
import Derived.Test.YtbgngikejgihgagGreatDoorMq39
import Derived.Lib.QuietBelowIn
import Derived.LoopIn
import Derived.LoopNIn
import Derived.Maps.AppendAt
import Derived.OwnWalkIn
import Derived.RangeFuncBound
import Derived.RangeFuncBox
import Derived.RangeFuncCalls
import Derived.RangeFuncLeaves
import Derived.RangeFuncNested
import Derived.Shelf.Abstract
import Derived.TacticsInMore
import Derived.WalkKit
import Derived.Test.YtbgngikejgihgagGreatDoorMq31
namespace Go.Proofs.YtbgngikejgihgagGreatDoor
open Go Go.RowKit Go.Shelf Go.Sort
set_option linter.unusedVariables false

set_option maxHeartbeats 2000000 in
set_option maxRecDepth 100000 in
/-- deleteText of a range, in a line core. -/
theorem delTextL (lo hi c g cap n a b : Nat) (sv : Value) (vs : List Value) (gs : List Gr) (r : Nat) (st : List Int) (w : World) (h : LCr w lo hi c (.slice (some ⟨g, 0, none⟩) n cap) sv vs gs n n (r : Int) st) (hr : r = (jn (gs.map grT)).length) (hN : gs.length = n) (h2 : n ≤ 8193) (hh : hi ≤ w.heap.size) (hlc : lo ≤ c) (hch : c < hi) (hs1 : 1 ≤ st.length) (hst : st = (stL (gs.map grT)).take st.length) (hsn : st.length ≤ n) (hok : ∀ x ∈ gs, okG x) (hj : (jn (gs.map grT)).length ≤ 8192) (hab : a < b) (hb : b ≤ (jn (gs.map grT)).length) :
    Calls Tryz.prog 55 #[.iface 98 (.pointer (some ⟨c, 0, none⟩)), .int .i64 a, .int .i64 b] w fun e w' => e = .returned .nilIface ∧ RemPost gs a (b - a) w lo c r (.returned (.tuple #[])) w' := by
  have mL := Tryz.mLengthL
  have mS := Tryz.mSliceL
  have mR := Tryz.mRemoveL
  have nR := Tryz.nRemoveL
  have hlw : lo ≤ w.heap.size := by omega
  have HL := hide (lengthLC lo hi c _ sv vs gs n n r st w h)
  have HKB := hide (fun w => checkRangeN a b r w)
  rw [show decide ((0 ≤ (b : Int) ∧ (b : Int) ≤ r) ∧ (0 ≤ (a : Int) ∧ (a : Int) ≤ b)) = true by rw [decide_eq_true_eq]; omega] at HKB
  simp only [errV, if_true] at HKB
  have HSL := hide (fun W (hW : Below w.heap.size w W) => sliceLC lo hi c g cap n a b st.length sv vs gs r W (by rw [← hst]; exact h.below hW hh (by omega)) hN h2 (by have := hW.size; omega) hch hs1 hsn hok hj (by omega) hb)
  obtain ⟨m, hm⟩ : ∃ m, m = b - a := ⟨_, rfl⟩
  have HSV := hide (fun W base' v (ho : o32 W base' v (((jn (gs.map grT)).take b).drop a)) => show ∃ ao ct, v = .slice ao m ct from (by
    obtain ⟨a1, c1, e1⟩ := o32_val ho
    exact ⟨a1, c1, by rw [e1, List.length_drop, List.length_take, Nat.min_eq_left hb, hm]⟩))
  have HRM := hide (fun W ao ct (hW : Below w.heap.size w W) => remLC lo hi c g cap n a sv vs gs r st ao m ct W (h.below hW hh (by omega)) hN h2 (by have := hW.size; omega) hlc hch hs1 hst hsn hok hj (by omega) (by omega))
  rw [← hm]
  have hlt : (a : Int) < (b : Int) := by omega
  have B1 := hide (Below.refl w.heap.size w)
  clear h hst hok hm hr
  generalize ((jn (gs.map grT)).take b).drop a = tx at *
  go_enter Tryz.func55, Tryz.ntmps55
  go_wp2_with fail
  refine HL.out.mono ?_
  rintro e w1 ⟨rfl, hw1⟩
  have hw1' := hw1.symm
  subst hw1'
  clear hw1
  go_wp2_with fail
  refine (HKB.out _).mono ?_
  rintro e wx ⟨rfl, hwx⟩
  have hw2 := hwx.symm
  subst hw2
  clear hwx
  go_upto_region 5 with fail
  refine (wpIn_wide (n := 6)).1 ?_
  refine wpIn_region_any (by kernel_rfl) ?_
  refine wpAnyIn_take (i := 0) (fuel := 9) (v := .iface 98 (.pointer (some ⟨c, 0, none⟩))) rfl rfl (by kernel_rfl) (by kernel_rfl) (by kernel_rfl) (fun _ _ _ h => h) ⟨Or.inl ⟨by rfl, ?_⟩, fun w => by rfl⟩ ?_
  · intro w; go_simp
  refine wpAnyIn_take (i := 1) (fuel := 8) (v := .int .i64 a) rfl rfl (by kernel_rfl) (by kernel_rfl) (by kernel_rfl) (fun _ _ _ h => h) ⟨Or.inl ⟨by rfl, ?_⟩, fun w => by rfl⟩ ?_
  · intro w; go_simp
  refine wpAnyIn_take (i := 2) (fuel := 7) (v := .iface 98 (.pointer (some ⟨c, 0, none⟩))) rfl rfl (by kernel_rfl) (by kernel_rfl) (by kernel_rfl) (fun _ _ _ h => h) ⟨Or.inl ⟨by rfl, ?_⟩, fun w => by rfl⟩ ?_
  · intro w; go_simp
  refine wpAnyIn_take (i := 3) (fuel := 6) (v := .int .i64 a) rfl rfl (by kernel_rfl) (by kernel_rfl) (by kernel_rfl) (fun _ _ _ h => h) ⟨Or.inl ⟨by rfl, ?_⟩, fun w => by rfl⟩ ?_
  · intro w; go_simp
  refine wpAnyIn_take (i := 4) (fuel := 5) (v := .int .i64 b) rfl rfl (by kernel_rfl) (by kernel_rfl) (by kernel_rfl) (fun _ _ _ h => h) ⟨Or.inl ⟨by rfl, ?_⟩, fun w => by rfl⟩ ?_
  · intro w; go_simp
  refine wpAnyIn_take (i := 6) (fuel := 4) (v := .func (.method "loop.example/s01685/impl.remove") #[.iface 98 (.pointer (some ⟨c, 0, none⟩))] #[]) rfl rfl (by kernel_rfl) (by kernel_rfl) (by kernel_rfl) (fun _ _ _ h => h) ⟨Or.inl ⟨by rfl, ?_⟩, fun w => by rfl⟩ ?_
  · intro w; go_simp
  refine wpAnyIn_take (i := 7) (fuel := 3) (v := .func (.method "loop.example/s01685/impl.remove") #[.iface 98 (.pointer (some ⟨c, 0, none⟩))] #[]) rfl rfl (by kernel_rfl) (by kernel_rfl) (by kernel_rfl) (fun _ _ _ h => h) ⟨Or.inl ⟨by rfl, ?_⟩, fun w => by rfl⟩ ?_
  · intro w; go_simp
  refine wpAnyIn_take (i := 8) (fuel := 2) (v := .iface 98 (.pointer (some ⟨c, 0, none⟩))) rfl rfl (by kernel_rfl) (by kernel_rfl) (by kernel_rfl) (fun _ _ _ h => h) ⟨Or.inl ⟨by rfl, ?_⟩, fun w => by rfl⟩ ?_
  · intro w; go_simp
  refine wpAnyIn_of_two (i := 5) (j := 9) rfl rfl (by kernel_rfl) ?_
  have B2 := hide (show RowKit.Below w.heap.size w { w with drawn := w.drawn + 1 } from ⟨B1.out.os, B1.out.tape, B1.out.output, B1.out.size, B1.out.block⟩)
  generalize ({ w with drawn := w.drawn + 1 } : World) = w2 at *
  clear B1 HKB HL
  gi_wp2_with fail
  refine ⟨trivial, (callsIn_wide.2 (HSL.out _ B2.out)).mono ?_⟩
  rintro e w3 ⟨v3, rfl, ho3, hb3⟩
  obtain ⟨a3, c3, rfl⟩ := HSV.out _ _ _ ho3
  have B3 := hide (B2.out.trans (hb3.mono B2.out.size))
  clear hb3 ho3 HSL HSV
  gi_wp2_with fail
  refine ⟨trivial, (callsIn_wide.2 (HRM.out _ _ _ B3.out)).mono ?_⟩
  rintro e w4 hc4
  have he4 := hc4.1
  subst he4
  have C4 := hide (hc4.far B3.out hlw)
  clear hc4 HRM
  gi_wp2_with fail
  go_wp2
  go_ret
  exact ⟨rfl, C4.out⟩
end Go.Proofs.YtbgngikejgihgagGreatDoor

namespace Go.Proofs.YtbgngikejgihgagGreatDoor
open Go Go.RowKit
set_option linter.unusedVariables false

/-- What a face over a line buffer answers: a buffer and a code. -/
def LdPost (w : World) (G : List Gr) (S : List Int) (C : Int) (e : Ending) (w' : World) : Prop := ∃ vr vt, e = .returned (.tuple #[.agg #[vr, vt], .int .i64 C]) ∧ OwL w' w.heap.size w'.heap.size vr vt G S ∧ Below w.heap.size w w'
def inRR (gs : List Gr) (a b : Int) : Prop := 0 ≤ a ∧ a ≤ b ∧ b ≤ (jn (gs.map grT)).length
/-- What a deletion leaves. -/
def LdRem (gs : List Gr) (a b : Nat) (G : List Gr) (S : List Int) : Prop := ∃ (k k2 : Nat) (x y : Gr), Ln (gs.map grT) a k ∧ Ln (gs.map grT) b k2 ∧ gs[k]? = some x ∧ gs[k2]? = some y ∧ G = remRows gs k k2 x y (a - sAt (gs.map grT) k) (b - sAt (gs.map grT) k2) ∧ S = (stL (gs.map grT)).take (k + 1)
/-- The answer is one of four. -/
def LdAns (gs : List Gr) (st : List Int) (a b : Int) (G : List Gr) (S : List Int) (C : Int) : Prop :=
  (LV gs st ∧ inRR gs a b ∧ a < b ∧ LdRem gs a.toNat b.toNat G S ∧ C = 0) ∨ (LV gs st ∧ inRR gs a b ∧ a = b ∧ G = gs ∧ S = st ∧ C = 0) ∨
  (LV gs st ∧ ¬ inRR gs a b ∧ G = [] ∧ S = [] ∧ C = 2) ∨ (¬ LV gs st ∧ G = [] ∧ S = [] ∧ C = 1)
theorem Ln.ex (L : List (List Int)) (off : Nat) (h : L ≠ []) : ∃ k, Ln L off k := by
  have H : ∀ m, m < L.length → sAt L 0 ≤ off → (∃ k, Ln L off k) ∨ sAt L m ≤ off := by
    intro m
    induction m with
    | zero => intro _ h0; exact .inr h0
    | succ m ih =>
      intro hm h0
      rcases ih (by omega) h0 with h1 | h1
      · exact .inl h1
      · rcases Nat.lt_or_ge off (sAt L (m + 1)) with h2 | h2
        · exact .inl ⟨m, by omega, h1, fun _ => h2⟩
        · exact .inr h2
  have hl : 0 < L.length := by cases L with | nil => exact absurd rfl h | cons _ _ => simp
  have h0 : sAt L 0 ≤ off := by simp [sAt, smL]
  rcases H (L.length - 1) (by omega) h0 with h1 | h1
  · exact h1
  · exact ⟨L.length - 1, by omega, h1, fun h => by omega⟩
theorem LdRem.ex (gs : List Gr) (a b : Nat) (h : 1 ≤ gs.length) : ∃ G S, LdRem gs a b G S := by
  have hne : gs.map grT ≠ [] := by intro e; have := congrArg List.length e; simp at this; rw [this] at h; simp at h
  obtain ⟨k, hk⟩ := Ln.ex (gs.map grT) a hne
  obtain ⟨k2, hk2⟩ := Ln.ex (gs.map grT) b hne
  have l1 := hk.1
  have l2 := hk2.1
  rw [List.length_map] at l1 l2
  exact ⟨_, _, k, k2, gs[k], gs[k2], hk, hk2, by simp [l1], by simp [l2], rfl, rfl⟩
theorem LdAns.ex (gs : List Gr) (st : List Int) (a b : Int) : ∃ G S C, LdAns gs st a b G S C := by
  by_cases h1 : LV gs st
  · by_cases h2 : inRR gs a b
    · by_cases h3 : a < b
      · obtain ⟨G, S, h⟩ := LdRem.ex gs a.toNat b.toNat h1.1.1
        exact ⟨_, _, _, .inl ⟨h1, h2, h3, h, rfl⟩⟩
      · exact ⟨_, _, _, .inr (.inl ⟨h1, h2, by have := h2.2.1; omega, rfl, rfl, rfl⟩)⟩
    · exact ⟨_, _, _, .inr (.inr (.inl ⟨h1, h2, rfl, rfl, rfl⟩))⟩
  · exact ⟨_, _, _, .inr (.inr (.inr ⟨h1, rfl, rfl, rfl⟩))⟩
theorem remRows_ne (gs : List Gr) (k k2 : Nat) (x y : Gr) (c1 c2 : Nat) (h : k < gs.length) : 1 ≤ (remRows gs k k2 x y c1 c2).length := by
  unfold remRows
  split
  · simp; omega
  · simp; omega

set_option maxHeartbeats 2000000 in
set_option maxRecDepth 100000 in
theorem implLd (gs : List Gr) (st : List Int) (a b : Int) (vr vt : Value) (lo hi : Nat) (w : World) (G : List Gr) (S : List Int) (C : Int) (hA : LdAns gs st a b G S C) (h : OwL w lo hi vr vt gs st) (hh : hi ≤ w.heap.size) (hs : ∀ x ∈ gs, x.cells.length ≤ 1048576) (hgl : gs.length ≤ 1048576) (hst : st.length ≤ 1048576) (hg : w.cell? ⟨0, 0, none⟩ = some (.iface 307 (.agg #[.pointer (some ⟨2, 100, none⟩)]))) :
    Calls Tryz.prog 12 #[.agg #[vr, vt], .int .i64 a, .int .i64 b] w (LdPost w G S C) := by
  have hlt0 : 0 < w.heap.size := World.block_lt_of_cell? w _ hg
  have A0 := hide (((Below.refl w.heap.size w).alloc (Nat.le_refl _) (.cells #[vr, vt] 29)).alloc (by simp) (.cells #[.slice none 0 0, .slice none 0 0] 29))
  have K0 := hide (show D2 ((w.alloc (.cells #[vr, vt] 29)).alloc (.cells #[.slice none 0 0, .slice none 0 0] 29)) (w.heap.size + 1) (.slice none 0 0) (.slice none 0 0) 29 from (by have h9 := D2.new (w.alloc (.cells #[vr, vt] 29)) (.slice none 0 0) (.slice none 0 0) 29; rw [World.size_alloc] at h9; exact h9))
  have hs0 : ((w.alloc (.cells #[vr, vt] 29)).alloc (.cells #[.slice none 0 0, .slice none 0 0] 29)).heap.size = w.heap.size + 2 := by simp
  have RL := hide (readLinesN gs st vr vt lo hi _ (h.below A0.out hh) (by rw [hs0]; omega) hs hgl hst)
  have G0 := hide ((A0.out.cell (p := ⟨0, 0, none⟩) hlt0).trans hg)
  obtain ⟨a1, c1, a2, c2, rfl, rfl⟩ := h.val
  have HA := hide hA
  unfold LdPost
  clear h hs hg hA
  generalize hn : gs.length = n at *
  generalize hm : st.length = m at *
  have HN := hide hn
  have HM := hide hm
  clear hn hm
  by_cases hv : LV gs st
  · have RL2 := hide (RL.out.mono (fun e w' h => h.1 hv))
    unfold RLOk at RL2
    have hv' := (LV_iff gs st).1 hv
    have HV := hide hv'
    have HVV := hide hv
    clear RL hv hv'
    go_enter Tryz.func12, Tryz.ntmps12
    go_wp2_with fail
    generalize (w.alloc (.cells #[.slice a1 n c1, .slice a2 m c2] 29)).alloc (.cells #[.slice none 0 0, .slice none 0 0] 29) = w0 at *
    refine RL2.out.mono ?_
    rintro e w1 ⟨c, g, sv, vs, rfl, hc, hL, hb1⟩
    rw [HN.out] at hL
    have hcl := hL.lt
    have s1 := hb1.size
    have K1 := hide (K0.out.below hb1 (by omega))
    have B1 := hide (A0.out.trans (hb1.mono (by omega)))
    have G1 := hide ((hb1.cell (p := ⟨0, 0, none⟩) (by show 0 < w0.heap.size; omega)).trans G0.out)
    have HL := hide hL
    have hn1 : 1 ≤ n := by have := HV.out.1.1; rw [HN.out] at this; exact this.1
    have hn2 : n ≤ 8193 := by have := HV.out.1.1; rw [HN.out] at this; exact this.2
    clear hL hb1 RL2 K0
    by_cases hp : inRR gs a b
    · -- a told core, whatever it is
      have FIN : ∀ (w2 : World) (g' cap' a' b' : Nat) (sv' : Value) (vs' : List Value) (G' : List Gr) (r' : Int), LCr w2 w0.heap.size w2.heap.size c (.slice (some ⟨g', 0, none⟩) G'.length cap') sv' vs' G' a' b' r' S → a' ≤ b' → b' ≤ G'.length → G'.length ≤ 8193 → 1 ≤ G'.length → cutG a' b' G' = G → 1 ≤ a' + (G'.length - b') → w1.heap.size ≤ w2.heap.size → Calls Tryz.prog 56 #[.pointer (some ⟨c, 0, none⟩), .nilIface] w2 fun e w' => ∃ vr vt, e = .returned (.tuple #[.agg #[vr, vt], .int .i64 0]) ∧ OwL w' w0.heap.size w'.heap.size vr vt G S ∧ Below w2.heap.size w2 w' := by
        intro w2 g' cap' a' b' sv' vs' G' r' hL q1 q2 q3 q4 q5 q6 q7
        have := answerL_cut w0.heap.size w2.heap.size c g' cap' G'.length a' b' sv' vs' G' r' S w2 hL rfl q4 (by omega) q1 q2 q6 (Nat.le_refl _) (by omega) (by omega)
        rw [q5] at this
        exact this
      have DT : C = 0 ∧ Calls Tryz.prog 55 #[.iface 98 (.pointer (some ⟨c, 0, none⟩)), .int .i64 a, .int .i64 b] w1 fun e w2 => e = .returned .nilIface ∧ Below w0.heap.size w1 w2 ∧ Calls Tryz.prog 56 #[.pointer (some ⟨c, 0, none⟩), .nilIface] w2 fun e w' => ∃ vr vt, e = .returned (.tuple #[.agg #[vr, vt], .int .i64 0]) ∧ OwL w' w0.heap.size w'.heap.size vr vt G S ∧ Below w2.heap.size w2 w' := by
        rcases HA.out with ⟨_, _, hab, hR, eC⟩ | ⟨_, _, hab, eG, eS, eC⟩ | ⟨_, h3, _⟩ | ⟨h3, _⟩
        · refine ⟨eC, ?_⟩
          obtain ⟨an, rfl⟩ : ∃ k : Nat, a = k := ⟨a.toNat, by have := hp.1; omega⟩
          obtain ⟨bn, rfl⟩ : ∃ k : Nat, b = k := ⟨b.toNat, by have := hp.2.1; omega⟩
          rw [Int.toNat_natCast, Int.toNat_natCast] at hR
          have hbb : bn ≤ (jn (gs.map grT)).length := by have := hp.2.2; omega
          refine (delTextL w0.heap.size w1.heap.size c g n n an bn sv vs gs _ st w1 HL.out rfl HN.out hn2 (Nat.le_refl _) hc hcl HV.out.2.1.1 HV.out.2.2 (by have := HV.out.2.1.2; rw [HN.out] at this; exact this) HV.out.1.2.1 HV.out.1.2.2 (by omega) hbb).mono ?_
          rintro e w2 ⟨rfl, _, k, k2, x, y, g', cap', a', b', sv', vs', G', l1, l2, x1, y1, hL2, ⟨q1, q2, q3⟩, hcut, hb2⟩
          rw [show an + (bn - an) = bn by omega] at l2 hcut
          refine ⟨rfl, hb2, ?_⟩
          obtain ⟨k', k2', x', y', l1', l2', x1', y1', eG, eS⟩ := hR
          obtain rfl := l1'.uniq l1
          obtain rfl := l2'.uniq l2
          rw [x1] at x1'
          rw [y1] at y1'
          obtain rfl := Option.some.inj x1'
          obtain rfl := Option.some.inj y1'
          have hlen : 1 ≤ (cutG a' b' G').length := by rw [hcut]; exact remRows_ne _ _ _ _ _ _ _ (by have := l1.1; rw [List.length_map] at this; exact this)
          rw [cutG_len q1 q2] at hlen
          rw [← eS] at hL2
          exact FIN w2 g' cap' a' b' sv' vs' G' _ hL2 q1 q2 q3 (by omega) (by rw [hcut, eG]) hlen hb2.size
        · refine ⟨eC, ?_⟩
          subst hab
          refine (delText0L w0.heap.size w1.heap.size c _ sv vs gs n n _ st a w1 HL.out ⟨hp.1, hp.2.2⟩).mono ?_
          rintro e w2 ⟨rfl, hw⟩
          have hw' := hw.symm
          subst hw'
          refine ⟨rfl, Below.refl _ _, ?_⟩
          have h9 := HL.out
          rw [← HN.out, ← eS] at h9
          have hgl1 : 1 ≤ gs.length := by rw [HN.out]; exact hn1
          exact FIN _ g gs.length gs.length gs.length sv vs gs _ h9 (Nat.le_refl _) (Nat.le_refl _) (by rw [HN.out]; exact hn2) hgl1 (by rw [cutG_all, eG]) (by omega) (Nat.le_refl _)
        · exact absurd hp h3
        · exact absurd HVV.out h3
      obtain ⟨eC, DT⟩ := DT
      subst eC
      have DT2 := hide DT
      clear DT HA FIN HL
      go_wp2_with fail
      refine DT2.out.mono ?_
      rintro e w2 ⟨rfl, hb2, AN0⟩
      have AN := hide AN0
      have s2 := hb2.size
      have K2 := hide (K1.out.below hb2 (by omega))
      have B2 := hide (B1.out.trans (hb2.mono (by omega)))
      clear hb2 DT2 K1 AN0
      go_wp2_with fail
      refine AN.out.mono ?_
      rintro e w3 ⟨vr3, vt3, rfl, ho3, hb3⟩
      obtain ⟨b1, d1, b2, d2, rfl, rfl⟩ := ho3.val
      have s3 := hb3.size
      have K3 := hide (K2.out.below hb3 (by omega))
      have B3 := hide (B2.out.trans (hb3.mono (by omega)))
      have O3 := hide ho3
      have e0 := K3.out.c.1
      have e1 := K3.out.c.2
      have f0 := K3.out.fz 0
      have f1 := K3.out.fz 1
      clear ho3 hb3 AN K2
      generalize S.length = sl at *
      generalize G.length = gl at *
      go_wp2
      refine bodyPost_ret (v := .tuple #[.agg #[.slice b1 gl d1, .slice b2 sl d2], .int .i64 0]) (by simp [results, Tryz.results12, go_sem, e0, e1]) rfl ⟨_, _, rfl, ?_, ?_⟩
      · refine (O3.out.frame (fun q h1 h2 => ?_)).mono (by omega) (by simp)
        rw [heap_setCell_other _ _ _ _ (by show q ≠ w.heap.size + 1; omega), heap_setCell_other _ _ _ _ (by show q ≠ w.heap.size + 1; omega)]
      · exact (B3.out.setCell (by simp) _).setCell (by simp) _
    · rcases HA.out with ⟨_, h3, _⟩ | ⟨_, h3, _⟩ | ⟨_, _, eG, eS, eC⟩ | ⟨h3, _⟩
      · exact absurd h3 hp
      · exact absurd h3 hp
      · have OF2 := hide (delTextRL w0.heap.size w1.heap.size c _ sv vs gs n n _ st a b w1 HL.out (by unfold inRR at hp; exact hp))
        subst eG eS eC
        clear HA HL
        go_wp2_with fail
        refine OF2.out.mono ?_
        rintro e w2 ⟨⟨msg, rfl⟩, hw⟩
        have hw' := hw.symm
        subst hw'
        clear OF2 hw
        go_wp2_with fail
        refine (answerL_errG msg 2 c _ G1.out).mono ?_
        rintro e w3 ⟨rfl, hb3⟩
        have s3 := hb3.size
        have K3 := hide (K1.out.below hb3 (by omega))
        have B3 := hide (B1.out.trans (hb3.mono (by omega)))
        have e0 := K3.out.c.1
        have e1 := K3.out.c.2
        have f0 := K3.out.fz 0
        have f1 := K3.out.fz 1
        clear hb3 K1
        go_wp2
        refine bodyPost_ret (v := .tuple #[.agg #[.slice none 0 0, .slice none 0 0], .int .i64 2]) (by simp [results, Tryz.results12, go_sem, e0, e1]) rfl ⟨_, _, rfl, OwL.nil _ _ _, ?_⟩
        exact (B3.out.setCell (by simp) _).setCell (by simp) _
      · exact absurd HVV.out h3
  · have RL2 := hide (RL.out.mono (fun e w' h => h.2 hv))
    unfold RLBad at RL2
    rcases HA.out with ⟨h3, _⟩ | ⟨h3, _⟩ | ⟨h3, _⟩ | ⟨_, eG, eS, eC⟩
    · exact absurd h3 hv
    · exact absurd h3 hv
    · exact absurd h3 hv
    subst eG eS eC
    clear RL hv HA
    go_enter Tryz.func12, Tryz.ntmps12
    go_wp2_with fail
    generalize (w.alloc (.cells #[.slice a1 n c1, .slice a2 m c2] 29)).alloc (.cells #[.slice none 0 0, .slice none 0 0] 29) = w0 at *
    refine RL2.out.mono ?_
    rintro e w1 ⟨er, rfl, hbe, hb1⟩
    have s1 := hb1.size
    have K1 := hide (K0.out.below hb1 (by omega))
    have B1 := hide (A0.out.trans (hb1.mono (by omega)))
    have G1 := hide ((hb1.cell (p := ⟨0, 0, none⟩) (by show 0 < w0.heap.size; omega)).trans G0.out)
    have CO := hide (answerL_bad none er hbe w1 G1.out)
    clear hb1 RL2 K0
    rcases hbe with ⟨msg, rfl⟩ | ⟨msg, msg', rfl⟩
    all_goals
      go_wp2_with fail
      refine CO.out.mono ?_
      rintro e w2 ⟨rfl, hb2⟩
      have B2 := hide (B1.out.trans (hb2.mono (by omega)))
      have K2 := hide (K1.out.below hb2 (by omega))
      have e0 := K2.out.c.1
      have e1 := K2.out.c.2
      have f0 := K2.out.fz 0
      have f1 := K2.out.fz 1
      clear hb2
      go_wp2
      refine bodyPost_ret (v := .tuple #[.agg #[.slice none 0 0, .slice none 0 0], .int .i64 1]) (by simp [results, Tryz.results12, go_sem, e0, e1]) rfl ⟨_, _, rfl, OwL.nil _ _ _, ?_⟩
      exact (B2.out.setCell (by simp) _).setCell (by simp) _
end Go.Proofs.YtbgngikejgihgagGreatDoor
