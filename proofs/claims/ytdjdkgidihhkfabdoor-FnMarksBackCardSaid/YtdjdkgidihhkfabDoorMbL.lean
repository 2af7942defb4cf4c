import Derived.Test.YtdjdkgidihhkfabDoorMbLaw
import Derived.Test.YtdjdkgidihhkfabDoorMbP
namespace Go.Proofs.YtdjdkgidihhkfabDoor
open Go Go.RowKit
set_option linter.unusedVariables false

theorem insDel : InsDel := by
  intro ys off n hv hx ho hn
  have h1 := back_ins hv off n hx (by omega) hn
  have h2 := back_del hv off n hx ho hn
  have hl := hv.1
  refine ⟨srt (ys.map (mov (pushF off n))), by rw [srt_length, List.length_map], fun y hy => ?_, fun B v w hr hB hg => ?_, fun B v w hr hB hg => ?_⟩
  · show mov (pushF off n) y ∈ _
    exact (srt_perm _).mem_iff.2 (List.mem_map_of_mem hy)
  · have h3 := implIns B ys v off n w hr hB (by omega) hg
    rw [h1.1] at h3
    exact h3
  · have h3 := implDel B _ v off (off + n) w hr hB (by rw [srt_length, List.length_map]; omega) hg
    rw [h2] at h3
    exact h3

theorem marksBackLaw (bs : List Int) (vb : Value) (w : World) (h : Rd .u8 w vb bs) (hb : ∀ z ∈ bs, 0 ≤ z ∧ z ≤ 255) (hn : bs.length ≤ 1048576) (hg : w.cell? ⟨0, 0, none⟩ = some (.iface 182 (.agg #[.pointer (some ⟨5, 74, none⟩)]))) :
    Calls Tryd.prog 6 #[vb] w fun e w' => e = .returned (.bool true) ∧ Below w.heap.size w w' :=
  backLaw insDel bs vb w h hb hn hg
end Go.Proofs.YtdjdkgidihhkfabDoor
