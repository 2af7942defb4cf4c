import Derived.Test.YtlcgdfompbkphacDoorGFace
import Derived.Test.YtlcgdfompbkphacDoorGNil
import Derived.Test.YtlcgdfompbkphacDoorCodeOf
import Derived.WalkKit
import Derived.WalkLawsBesides
namespace Go.Proofs.YtlcgdfompbkphacDoor
open Go Go.RowKit
set_option linter.unusedVariables false

set_option maxHeartbeats 1000000 in
theorem tellGapN (ao : Option Addr) (n cap : Nat) (lo hi : Int) (w : World) :
    Calls Tryd.prog 79 #[.agg #[.slice ao n cap, .int .i64 lo, .int .i64 hi]] w fun e w' => e = .returned (.agg #[.slice ao n cap, .int .i64 lo, .int .i64 hi]) ∧ Below w.heap.size w w' := by
  have HB := hide (((Below.refl w.heap.size w).alloc (Nat.le_refl _) (.cells #[.slice ao n cap, .int .i64 lo, .int .i64 hi] 92)).alloc (by simp) (.cells #[.slice ao n cap, .int .i64 lo, .int .i64 hi] 38))
  go_enter Tryd.func79, Tryd.ntmps79
  go_wp2
  refine bodyPost_ret (v := .agg #[.slice ao n cap, .int .i64 lo, .int .i64 hi]) (by simp [results, Tryd.results79, go_sem]) rfl ⟨rfl, HB.out⟩

set_option maxHeartbeats 1000000 in
theorem answer_ok (ao : Option Addr) (n cap : Nat) (lo hi : Int) (w : World) :
    Calls Tryd.prog 50 #[.agg #[.slice ao n cap, .int .i64 lo, .int .i64 hi], .nilIface] w fun e w' => e = .returned (.tuple #[.agg #[.slice ao n cap, .int .i64 lo, .int .i64 hi], .int .i64 0]) ∧ Below w.heap.size w w' := by
  have HB := hide (((Below.refl w.heap.size w).alloc (Nat.le_refl _) (.cells #[.slice ao n cap, .int .i64 lo, .int .i64 hi] 92)).alloc (by simp) (.cells #[.slice none 0 0, .int .i64 0, .int .i64 0] 38))
  have HT := hide (T3.new (w.alloc (.cells #[.slice ao n cap, .int .i64 lo, .int .i64 hi] 92)) (.slice none 0 0) (.int .i64 0) (.int .i64 0) 38)
  have es : (w.alloc (.cells #[.slice ao n cap, .int .i64 lo, .int .i64 hi] 92)).heap.size = w.heap.size + 1 := by simp
  rw [es] at HT
  have hs0 : ((w.alloc (.cells #[.slice ao n cap, .int .i64 lo, .int .i64 hi] 92)).alloc (.cells #[.slice none 0 0, .int .i64 0, .int .i64 0] 38)).heap.size = w.heap.size + 2 := by simp
  clear es
  go_enter Tryd.func50, Tryd.ntmps50
  go_wp2_with fail
  generalize (w.alloc (.cells #[.slice ao n cap, .int .i64 lo, .int .i64 hi] 92)).alloc (.cells #[.slice none 0 0, .int .i64 0, .int .i64 0] 38) = w0 at *
  refine (tellGapN ao n cap lo hi w0).mono ?_
  rintro e w1 ⟨rfl, hb1⟩
  have HT1 := hide (HT.out.below hb1 (by omega))
  have HB1 := hide (HB.out.trans (hb1.mono (by omega)))
  obtain ⟨g0, g1, g2⟩ := HT1.out.c
  have z0 := HT1.out.fz 0
  have z1 := HT1.out.fz 1
  have z2 := HT1.out.fz 2
  clear hb1 HT HB
  go_wp2
  refine bodyPost_ret (v := .tuple #[.agg #[.slice ao n cap, .int .i64 lo, .int .i64 hi], .int .i64 0]) (by simp [results, Tryd.results50, go_sem, g0, g1, g2]) rfl ?_
  exact ⟨rfl, ((HB1.out.setCell (by simp) _).setCell (by simp) _).setCell (by simp) _⟩

set_option maxHeartbeats 1000000 in
theorem answer_err (msg : ByteArray) (c : Int) (ao : Option Addr) (n cap : Nat) (lo hi : Int) (w : World) (hg : w.cell? ⟨0, 0, none⟩ = some (.iface 186 (.agg #[.pointer (some ⟨1, 83, none⟩)]))) :
    Calls Tryd.prog 50 #[.agg #[.slice ao n cap, .int .i64 lo, .int .i64 hi], .iface 120 (.agg #[.string msg, .iface 118 (.int .i64 c)])] w fun e w' => e = .returned (.tuple #[zeroG, .int .i64 c]) ∧ Below w.heap.size w w' := by
  have hlt : 0 < w.heap.size := World.block_lt_of_cell? w _ hg
  have HB := hide (((Below.refl w.heap.size w).alloc (Nat.le_refl _) (.cells #[.slice ao n cap, .int .i64 lo, .int .i64 hi] 92)).alloc (by simp) (.cells #[.slice none 0 0, .int .i64 0, .int .i64 0] 38))
  have HT := hide (T3.new (w.alloc (.cells #[.slice ao n cap, .int .i64 lo, .int .i64 hi] 92)) (.slice none 0 0) (.int .i64 0) (.int .i64 0) 38)
  have es : (w.alloc (.cells #[.slice ao n cap, .int .i64 lo, .int .i64 hi] 92)).heap.size = w.heap.size + 1 := by simp
  rw [es] at HT
  have hs0 : ((w.alloc (.cells #[.slice ao n cap, .int .i64 lo, .int .i64 hi] 92)).alloc (.cells #[.slice none 0 0, .int .i64 0, .int .i64 0] 38)).heap.size = w.heap.size + 2 := by simp
  have HG := hide ((HB.out.cell (p := ⟨0, 0, none⟩) hlt).trans hg)
  clear es hg
  go_enter Tryd.func50, Tryd.ntmps50
  go_wp2_with fail
  generalize (w.alloc (.cells #[.slice ao n cap, .int .i64 lo, .int .i64 hi] 92)).alloc (.cells #[.slice none 0 0, .int .i64 0, .int .i64 0] 38) = w0 at *
  refine (codeOf msg c w0 HG.out).mono ?_
  rintro e w1 ⟨rfl, hb1⟩
  have HT1 := hide (HT.out.below hb1 (by omega))
  have HB1 := hide (HB.out.trans (hb1.mono (by omega)))
  obtain ⟨g0, g1, g2⟩ := HT1.out.c
  have z0 := HT1.out.fz 0
  have z1 := HT1.out.fz 1
  have z2 := HT1.out.fz 2
  clear hb1 HT HB
  go_wp2
  refine bodyPost_ret (v := .tuple #[zeroG, .int .i64 c]) (by simp [results, Tryd.results50, go_sem, g0, g1, g2]; rfl) rfl ?_
  exact ⟨rfl, ((HB1.out.setCell (by simp) _).setCell (by simp) _).setCell (by simp) _⟩

/-- What the inside answers on an edit. -/
def EditPost (w : World) (r : Except Int (List Int × Int × Int)) (e : Ending) (w' : World) : Prop :=
  Below w.heap.size w w' ∧ match r with
  | .error c => ∃ msg ao n cap lo hi, e = .returned (.tuple #[.agg #[.slice ao n cap, .int .i64 lo, .int .i64 hi], .iface 120 (.agg #[.string msg, .iface 118 (.int .i64 c)])])
  | .ok (cs, lo, hi) => ∃ ao cap, e = .returned (.tuple #[.agg #[.slice ao cs.length cap, .int .i64 lo, .int .i64 hi], .nilIface]) ∧ w'.ownsRow w.heap.size 21 1 (.slice ao cs.length cap) cs.length (ints .i32 cs)

/-- What a face answers on an edit. -/
def faceG (r : Except Int (List Int × Int × Int)) : List Int × Int × Int × Int :=
  match r with
  | .error c => ([], 0, 0, c)
  | .ok (cs, lo, hi) => (cs, lo, hi, 0)

def FacePost (w : World) (q : List Int × Int × Int × Int) (e : Ending) (w' : World) : Prop :=
  ∃ ao cap, e = .returned (.tuple #[.agg #[.slice ao q.1.length cap, .int .i64 q.2.1, .int .i64 q.2.2.1], .int .i64 q.2.2.2]) ∧ w'.ownsRow w.heap.size 21 1 (.slice ao q.1.length cap) q.1.length (ints .i32 q.1) ∧ Below w.heap.size w w'
end Go.Proofs.YtlcgdfompbkphacDoor
