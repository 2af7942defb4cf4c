import Derived.Test.YtdjdkgidihhkfabDoorSrc
namespace Go.Proofs.YtdjdkgidihhkfabDoor
open Go Go.RowKit
set_option linter.unusedVariables false

set_option maxHeartbeats 400000 in
theorem drawNN (bs : List Int) (vb : Value) (p : Nat) (k : Int) (w : World) (hS : Src bs vb p w) (hk0 : 0 < k) (hk1 : k ≤ 1048576) :
    Calls Tryd.prog 24 #[.pointer (some ⟨p, 0, none⟩), .int .i64 k] w fun e w' => ∃ r : Int, e = .returned (.int .i64 r) ∧ (0 ≤ r ∧ r < k) ∧ Src bs vb p w' ∧ w.grownBy w' (some p) := by
  have HS := hide hS
  clear hS
  go_enter Tryd.func24, Tryd.ntmps24
  go_wp2_with fail
  refine (drawN bs vb p k w HS.out hk0 hk1).mono ?_
  rintro e w1 ⟨r, rfl, hr, hs, hg⟩
  have H1 := hide hs
  have H2 := hide hg
  clear hs hg
  go_wp2
  go_ret
  exact ⟨_, rfl, hr, H1.out, H2.out⟩

set_option maxHeartbeats 400000 in
theorem drawOne (bs : List Int) (vb : Value) (p : Nat) (k : Int) (w : World) (hS : Src bs vb p w) (hk0 : 0 < k) (hk1 : k ≤ 1048576) :
    Calls Tryd.prog 57 #[.pointer (some ⟨p, 0, none⟩), .int .i64 k] w fun e w' => ∃ b : Bool, e = .returned (.bool b) ∧ Src bs vb p w' ∧ w.grownBy w' (some p) := by
  have HS := hide hS
  clear hS
  go_enter Tryd.func57, Tryd.ntmps57
  go_wp2_with fail
  refine (drawN bs vb p k w HS.out hk0 hk1).mono ?_
  rintro e w1 ⟨r, rfl, hr, hs, hg⟩
  have H1 := hide hs
  have H2 := hide hg
  clear hs hg
  go_wp2
  go_ret
  exact ⟨_, rfl, H1.out, H2.out⟩

set_option maxHeartbeats 400000 in
theorem size1 (n : Nat) (ao : Option Addr) (cap : Nat) (m : Int) (w : World) (hn : n ≤ 1048576) (hm : 2 ≤ m ∧ m ≤ 1048576) :
    Calls Tryd.prog 60 #[.slice ao n cap, .int .i64 m] w fun e w' => ∃ r : Int, e = .returned (.int .i64 r) ∧ (0 < r ∧ r ≤ m) ∧ w' = w := by
  go_enter Tryd.func60, Tryd.ntmps60
  go_wp2
  · go_ret
    exact ⟨_, rfl, ⟨by omega, by omega⟩, rfl⟩
  · go_ret
    exact ⟨_, rfl, ⟨by omega, by omega⟩, rfl⟩

set_option maxHeartbeats 400000 in
theorem size2 (n : Nat) (ao : Option Addr) (cap : Nat) (m : Int) (w : World) (hn : n ≤ 1048576) (hm : 2 ≤ m ∧ m ≤ 1048576) :
    Calls Tryd.prog 26 #[.slice ao n cap, .int .i64 m] w fun e w' => ∃ r : Int, e = .returned (.int .i64 r) ∧ (0 < r ∧ r ≤ m) ∧ w' = w := by
  go_enter Tryd.func26, Tryd.ntmps26
  go_wp2_with fail
  refine (size1 n ao cap m w hn hm).mono ?_
  rintro e w1 ⟨r, rfl, hr, rfl⟩
  go_wp2
  go_ret
  exact ⟨_, rfl, hr, rfl⟩

set_option maxHeartbeats 400000 in
theorem new1 (bs : List Int) (vb : Value) (w : World) (h : Rd .u8 w vb bs) (hb : ∀ z ∈ bs, 0 ≤ z ∧ z ≤ 255) (hn : bs.length ≤ 1048576) :
    Calls Tryd.prog 55 #[vb] w fun e w' => e = .returned (.pointer (some ⟨w.heap.size, 0, none⟩)) ∧ Src bs vb w.heap.size w' ∧ Below w.heap.size w w' := by
  have HB := hide hb
  have HR := hide h
  obtain ⟨ao, cap, rfl⟩ : ∃ ao cap, vb = .slice ao bs.length cap := by
    rcases h with ⟨ao, cap, rfl, rfl⟩ | ⟨b, off, cap, rfl, _⟩
    · exact ⟨_, _, rfl⟩
    · exact ⟨_, _, rfl⟩
  clear hb h
  go_enter Tryd.func55, Tryd.ntmps55
  go_wp2
  go_ret
  have hbw := (Below.refl w.heap.size w).alloc (Nat.le_refl _) (.cells #[.slice ao bs.length cap, .int .i64 0, .int .u64 (88172645463325252 + bs.length)] 116)
  refine ⟨rfl, ⟨⟨0, 88172645463325252 + bs.length, Nat.zero_le _, by omega, by omega, heap_alloc_new _ _⟩, HB.out, hn, ?_⟩, hbw⟩
  rcases HR.out with ⟨ao', cap', e, e2⟩ | ⟨b, off, cap', e, hl, hc⟩
  · subst e2; exact .inl ⟨_, _, rfl, rfl⟩
  · refine .inr ⟨b, off, cap', e, ?_, hl, fun i hi => ?_⟩
    · have := World.block_lt_of_cell? w _ (hc 0 hl.1)
      simp at this; omega
    · have h4 := hc i hi
      rw [hbw.cell (p := ⟨b, off + i, none⟩) (World.block_lt_of_cell? w _ h4)]
      exact h4

set_option maxHeartbeats 400000 in
theorem new2 (bs : List Int) (vb : Value) (w : World) (h : Rd .u8 w vb bs) (hb : ∀ z ∈ bs, 0 ≤ z ∧ z ≤ 255) (hn : bs.length ≤ 1048576) :
    Calls Tryd.prog 23 #[vb] w fun e w' => e = .returned (.pointer (some ⟨w.heap.size, 0, none⟩)) ∧ Src bs vb w.heap.size w' ∧ Below w.heap.size w w' := by
  have HB := hide hb
  have HR := hide h
  clear hb h
  go_enter Tryd.func23, Tryd.ntmps23
  go_wp2_with fail
  refine (new1 bs vb w HR.out HB.out hn).mono ?_
  rintro e w1 ⟨rfl, hs, hbw⟩
  have H1 := hide hs
  have H2 := hide hbw
  clear hs hbw
  go_wp2
  go_ret
  exact ⟨rfl, H1.out, H2.out⟩

/-- A source, and all of it lies below B. -/
def SrcL (bs : List Int) (vb : Value) (p B : Nat) (w : World) : Prop := Src bs vb p w ∧ p < B ∧ ∀ b off cap, vb = .slice (some ⟨b, off, none⟩) bs.length cap → 0 < bs.length → b < B
theorem Src.low {bs : List Int} {vb : Value} {p : Nat} {w : World} (h : Src bs vb p w) : SrcL bs vb p w.heap.size w := by
  refine ⟨h, h.lt, fun b off cap hv h0 => ?_⟩
  obtain ⟨_, _, _, h3⟩ := h
  rcases h3 with ⟨ao, cap', e, e2⟩ | ⟨b', off', cap', e, hne, hl, hc⟩
  · subst e2; simp at h0
  · rw [e] at hv
    simp only [Value.slice.injEq, Option.some.injEq, Addr.mk.injEq] at hv
    have := World.block_lt_of_cell? w _ (hc 0 hl.1)
    simp only at this
    omega
theorem SrcL.below {bs : List Int} {vb : Value} {p B : Nat} {w w' : World} (h : SrcL bs vb p B w) (hb : Below B w w') : SrcL bs vb p B w' := by
  obtain ⟨⟨⟨i, x, h5, h6, h7, h8⟩, h1, h2, h3⟩, hp, hv0⟩ := h
  refine ⟨⟨⟨i, x, h5, h6, h7, (hb.block p hp).trans h8⟩, h1, h2, ?_⟩, hp, hv0⟩
  rcases h3 with h3 | ⟨b, off, cap, hv, hne, hl, hcc⟩
  · exact .inl h3
  · refine .inr ⟨b, off, cap, hv, hne, hl, fun i hi => ?_⟩
    rw [hb.cell (p := ⟨b, off + i, none⟩) (hv0 b off cap hv hl.1)]
    exact hcc i hi
theorem SrcL.src {bs : List Int} {vb : Value} {p B : Nat} {w w' : World} (h : SrcL bs vb p B w) (hs : Src bs vb p w') : SrcL bs vb p B w' := ⟨hs, h.2⟩

/-- The source's block, and what is new. -/
theorem grown_below {w w1 w2 : World} {row : Option Nat} (h : w.grownBy w1 row) (hb : Below w.heap.size w1 w2) : w.grownBy w2 row :=
  ⟨hb.os.trans h.os, hb.tape.trans h.tape, hb.output.trans h.output, Nat.le_trans h.size hb.size, fun i hi hr => (hb.block i hi).trans (h.block i hi hr)⟩
theorem grown_sub {B p : Nat} {w w' : World} (h : w.grownBy w' (some p)) (hB : B ≤ w.heap.size) (hp : B ≤ p) : Below B w w' :=
  ⟨h.os, h.tape, h.output, h.size, fun i hi => h.block i (by omega) (fun e => by cases e; omega)⟩
theorem grown_then {w w1 w2 : World} {p : Nat} (h : w.grownBy w1 (some p)) (k : w1.grownBy w2 (some p)) : w.grownBy w2 (some p) := grown_trans h k

theorem own_srcL {bs : List Int} {vb : Value} {p : Nat} {w w' : World} {B e size n : Nat} {v : Value} {xs : List Value} (h : w.ownsRow B e size v n xs) (hs : Src bs vb p w) (hg : w.grownBy w' (some p)) (hne : e ≠ 116) : w'.ownsRow B e size v n xs := by
  refine h.kept hg ?_
  rcases h.2 with ⟨rfl, _⟩ | ⟨g, cap, cur, rfl, _, hg', _⟩
  · exact .inl rfl
  · right
    intro e1
    have : g = p := by simpa [Value.ownBlock] using e1
    subst this
    obtain ⟨⟨i, x, _, _, _, hh⟩, _⟩ := hs
    rw [hg'] at hh
    cases hh
    exact hne rfl
end Go.Proofs.YtdjdkgidihhkfabDoor
