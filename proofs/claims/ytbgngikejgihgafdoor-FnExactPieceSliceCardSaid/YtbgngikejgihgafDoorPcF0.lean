import Derived.Test.YtbgngikejgihgafDoorPcR
import Derived.Test.YtbgngikejgihgafDoorTFld
import Derived.Lib.QuietBelow
import Derived.Deep.QuietTactic
import Derived.BigQuiet
namespace Go.Proofs.YtbgngikejgihgafDoor
open Go Go.RowKit Go.Sort
set_option linter.unusedVariables false

/-- A core that lies there: its store, its tree. -/
structure PCore (w : World) (base c b o cap : Nat) (zs : List Int) (T : AT) : Prop where
  k : ∃ u bs, PK w c b o zs.length cap u ∧ Lies w base T u bs
  a : At32 w b o zs
  b : b < w.heap.size
  ok : T.ok
  wp : T.wp zs
  n : zs.length ≤ 1048576 ∧ zs.length ≤ cap ∧ cap ≤ maxLen
theorem PCore.below {B base c b o cap : Nat} {w w' : World} {zs : List Int} {T : AT} (h : PCore w base c b o cap zs T) (hb : Below B w w') (hB : w.heap.size ≤ B) : PCore w' base c b o cap zs T := by
  obtain ⟨⟨u, bs, h1, h2⟩, h3, h4, h5, h6, h7⟩ := h
  have hs := hb.size
  have hl := h1.lt
  exact ⟨⟨u, bs, h1.below hb (by omega), h2.below hb hB⟩, h3.below hb (by omega), by have := (Below.mono hb hB).size; omega, h5, h6, h7⟩

set_option maxHeartbeats 1000000 in
set_option maxRecDepth 100000 in
theorem textN (c b o n cap q m : Nat) (pb : Int) (u : Option Addr) (w : World) (hk : PK w c b o n cap u) (h : q + m ≤ n) (h0 : 0 < m ∨ q = 0) (hcap : n ≤ cap) (hm : cap ≤ maxLen) :
    Calls Tryd.prog 93 #[.pointer (some ⟨c, 0, none⟩), .agg #[.int .i64 (q : Int), .int .i64 (m : Int), .int .i64 pb]] w fun e w' => e = .returned (.slice (some ⟨b, o + q, none⟩) m (cap - q)) ∧ Below w.heap.size w w' := by
  have HB0 := hide ((Below.refl w.heap.size w).alloc (Nat.le_refl _) (.cells #[.int .i64 (q : Int), .int .i64 (m : Int), .int .i64 pb] 113))
  have c0 := (HB0.out.cell (p := ⟨c, 0, none⟩) hk.lt).trans hk.c0
  have KA : (w.alloc (.cells #[.int .i64 (q : Int), .int .i64 (m : Int), .int .i64 pb] 113)).heap[w.heap.size]? = some (.cells #[.int .i64 (q : Int), .int .i64 (m : Int), .int .i64 pb] 113 (0, 0)) := heap_alloc_new _ _
  have d0 : (w.alloc (.cells #[.int .i64 (q : Int), .int .i64 (m : Int), .int .i64 pb] 113)).cell? ⟨w.heap.size, 0, none⟩ = some (.int .i64 (q : Int)) := by rw [cell_of_row _ _ 0 _ _ _ KA]; rfl
  have d1 : (w.alloc (.cells #[.int .i64 (q : Int), .int .i64 (m : Int), .int .i64 pb] 113)).cell? ⟨w.heap.size, 1, none⟩ = some (.int .i64 (m : Int)) := by rw [cell_of_row _ _ 1 _ _ _ KA]; rfl
  have hs0 : (w.alloc (.cells #[.int .i64 (q : Int), .int .i64 (m : Int), .int .i64 pb] 113)).heap.size = w.heap.size + 1 := by simp
  unfold maxLen at hm
  have g1 : (q : Int) ≤ (q : Int) + (m : Int) := by omega
  have g2 : (q : Int) + (m : Int) ≤ (cap : Int) := by omega
  have g4 : (0 : Int) ≤ (q : Int) + (m : Int) := by omega
  clear hk KA
  by_cases hco : cap = q
  · obtain rfl : q = 0 := by omega
    obtain rfl : m = 0 := by omega
    subst hco
    go_enter Tryd.func93, Tryd.ntmps93
    go_wp2_with fail
    generalize w.alloc (.cells #[.int .i64 ((0 : Nat) : Int), .int .i64 ((0 : Nat) : Int), .int .i64 pb] 113) = w0 at *
    go_quiet (fail)
    have HBN := hide (show Below w.heap.size w (w0.drewN nq) from HB0.out.trans (below_dn2 _ _ _))
    go_wp2
    go_ret
    exact ⟨rfl, HBN.out⟩
  · have HQM := hide (show Ending.returned (.slice (some ⟨b, o + q, none⟩) (q + m - q) (cap - q)) = Ending.returned (.slice (some ⟨b, o + q, none⟩) m (cap - q)) by rw [show q + m - q = m by omega])
    go_enter Tryd.func93, Tryd.ntmps93
    go_wp2_with fail
    generalize w.alloc (.cells #[.int .i64 (q : Int), .int .i64 (m : Int), .int .i64 pb] 113) = w0 at *
    go_quiet (fail)
    have HBN := hide (show Below w.heap.size w (w0.drewN nq) from HB0.out.trans (below_dn2 _ _ _))
    go_wp2
    go_ret
    exact ⟨Eq.trans rfl HQM.out, HBN.out⟩

set_option maxHeartbeats 1000000 in
theorem lengthN (T : AT) (base c b o cap : Nat) (zs : List Int) (w : World) (h : PCore w base c b o cap zs T) :
    Calls Tryd.prog 52 #[.pointer (some ⟨c, 0, none⟩)] w fun e w' => e = .returned (.int .i64 T.rns) ∧ Below w.heap.size w w' := by
  obtain ⟨⟨u, bs, h1, h2⟩, _⟩ := h
  have c1 := h1.c1
  have HA := hide (allN T u bs base w h2)
  clear h1 h2
  go_enter Tryd.func52, Tryd.ntmps52
  go_wp2_with fail
  refine HA.out.mono ?_
  rintro e w1 ⟨rfl, hb1⟩
  have HB1 := hide hb1
  have fl1 := Tryd.fld1
  unfold cnt
  clear hb1
  go_wp2
  go_ret
  exact ⟨rfl, HB1.out⟩

end Go.Proofs.YtbgngikejgihgafDoor
