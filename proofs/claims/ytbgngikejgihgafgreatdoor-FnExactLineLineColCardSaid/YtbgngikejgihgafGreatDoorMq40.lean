import Derived.Test.YtbgngikejgihgafGreatDoorMq35
import Derived.Test.YtbgngikejgihgafGreatDoorMq36
import Derived.Test.YtbgngikejgihgafGreatDoorMq39
namespace Go.Proofs.YtbgngikejgihgafGreatDoor
open Go Go.RowKit
set_option linter.unusedVariables false

theorem readLinesN (gs : List Gr) (st : List Int) (vr vt : Value) (lo hi : Nat) (w : World) (h : OwL w lo hi vr vt gs st) (hh : hi ≤ w.heap.size) (hs : ∀ x ∈ gs, x.cells.length ≤ 1048576) (hg : gs.length ≤ 1048576) (hst : st.length ≤ 1048576) :
    Calls Tryz.prog 43 #[.agg #[vr, vt]] w fun e w' => (LV gs st → RLOk w gs st e w') ∧ (¬ LV gs st → RLBad w e w') := by
  by_cases hR : RV gs
  · exact readLines_in gs st vr vt lo hi w h hh hs hst hR
  · refine (readLines_rows gs st vr vt lo hi w h hh hs hg hst hR).mono ?_
    intro e w' hb
    exact ⟨fun hv => absurd ((LV_iff gs st).1 hv).1 hR, fun _ => hb⟩

theorem codeBadL (er : Value) (hb : BadL er) (w : World) (hg : w.cell? ⟨0, 0, none⟩ = some (.iface 207 (.agg #[.pointer (some ⟨1, 68, none⟩)]))) :
    Calls Tryz.prog 35 #[er] w fun e w' => e = .returned (.int .i64 1) ∧ Below w.heap.size w w' := by
  rcases hb with ⟨msg, rfl⟩ | ⟨msg, msg', rfl⟩
  · exact codeOf msg 1 w hg
  · exact codeOf2 msg msg' 1 w hg

set_option maxHeartbeats 1000000 in
theorem answerL_ok (lo hi c g n : Nat) (sv : Value) (vs : List Value) (gs : List Gr) (rn : Int) (st : List Int) (w : World) (h : LCr w lo hi c (.slice (some ⟨g, 0, none⟩) n n) sv vs gs n n rn st) (hN : gs.length = n) (h1 : 1 ≤ n) (h2 : n ≤ 8193) (hh : hi ≤ w.heap.size) (hl : lo ≤ hi) (hch : c < hi) :
    Calls Tryz.prog 44 #[.pointer (some ⟨c, 0, none⟩), .nilIface] w fun e w' => ∃ vr vt, e = .returned (.tuple #[.agg #[vr, vt], .int .i64 0]) ∧ OwL w' lo w'.heap.size vr vt gs st ∧ Below w.heap.size w w' := by
  have A0 := hide ((Below.refl w.heap.size w).alloc (Nat.le_refl _) (.cells #[.slice none 0 0, .slice none 0 0] 40))
  have K0 := hide (D2.new w (.slice none 0 0) (.slice none 0 0) 40)
  have hs0 : (w.alloc (.cells #[.slice none 0 0, .slice none 0 0] 40)).heap.size = w.heap.size + 1 := by simp
  have TL := hide (tellL lo hi c g n n n n sv vs gs rn st _ (h.below A0.out hh (by omega)) hN h1 (by omega) (Nat.le_refl _) (Nat.le_refl _) (by omega) hl (by omega))
  rw [cutG_all] at TL
  clear h
  go_enter Tryz.func44, Tryz.ntmps44
  go_wp2_with fail
  generalize w.alloc (.cells #[.slice none 0 0, .slice none 0 0] 40) = w0 at *
  refine TL.out.mono ?_
  rintro e w3 ⟨vr, rfl, ho3, hb3⟩
  obtain ⟨a1, c1', a2, c2', rfl, hvt⟩ := ho3.val
  subst hvt
  have s3 := hb3.size
  have K3 := hide (K0.out.below hb3 (by omega))
  have B3 := hide (A0.out.trans (hb3.mono (by omega)))
  have O3 := hide ho3
  have e0 := K3.out.c.1
  have e1 := K3.out.c.2
  have f0 := K3.out.fz 0
  have f1 := K3.out.fz 1
  obtain ⟨vs3, G3⟩ := ho3.rows
  have hne : ∀ q, (Value.slice a1 gs.length c1').ownBlock = some q ∨ (Value.slice a2 st.length c2').ownBlock = some q → True := fun _ _ => trivial
  have FR := hide (show ∀ w', (∀ q, q ≠ w.heap.size → w'.heap[q]? = w3.heap[q]?) → OwL w' lo w3.heap.size (.slice a1 gs.length c1') (.slice a2 st.length c2') gs st from fun w' hw' => by
    have hr2 := blk_row2 K3.out
    refine ⟨⟨vs3, ⟨?_, G3.bl, ?_⟩⟩, ?_, ho3.bl⟩
    · exact owns_of_block G3.row (fun q hq => hw' q (fun e => own_apart G3.row hr2 (by decide) hq (by simp [Value.ownBlock, e])))
    · exact ⟨G3.nest.len, fun i u l hu hl => owns_of_block (G3.nest.own i u l hu hl) (fun q hq => hw' q (fun e => own_apart (G3.nest.own i u l hu hl) hr2 (by decide) hq (by simp [Value.ownBlock, e]))), G3.nest.bl, G3.nest.ne⟩
    · exact owns_of_block ho3.starts (fun q hq => hw' q (fun e => own_apart ho3.starts hr2 (by decide) hq (by simp [Value.ownBlock, e]))))
  clear ho3 hb3 TL G3 hne
  go_wp2
  refine bodyPost_ret (v := .tuple #[.agg #[.slice a1 gs.length c1', .slice a2 st.length c2'], .int .i64 0]) (by simp [results, Tryz.results44, go_sem, e0, e1, hN]) rfl ⟨_, _, rfl, ?_, ?_⟩
  · refine (FR.out _ (fun q hq => ?_)).mono (Nat.le_refl _) (by simp)
    rw [heap_setCell_other _ _ _ _ (by show q ≠ w.heap.size; exact hq), heap_setCell_other _ _ _ _ (by show q ≠ w.heap.size; exact hq)]
  · exact (B3.out.setCell (Nat.le_refl _) _).setCell (Nat.le_refl _) _

set_option maxHeartbeats 1000000 in
theorem answerL_errG (msg : ByteArray) (k : Int) (c : Nat) (w : World) (hg : w.cell? ⟨0, 0, none⟩ = some (.iface 207 (.agg #[.pointer (some ⟨1, 68, none⟩)]))) :
    Calls Tryz.prog 44 #[.pointer (some ⟨c, 0, none⟩), .iface 120 (.agg #[.string msg, .iface 121 (.int .i64 k)])] w fun e w' => e = .returned (.tuple #[.agg #[.slice none 0 0, .slice none 0 0], .int .i64 k]) ∧ Below w.heap.size w w' := by
  have hlt0 : 0 < w.heap.size := World.block_lt_of_cell? w _ hg
  have A0 := hide ((Below.refl w.heap.size w).alloc (Nat.le_refl _) (.cells #[.slice none 0 0, .slice none 0 0] 40))
  have K0 := hide (D2.new w (.slice none 0 0) (.slice none 0 0) 40)
  have hs0 : (w.alloc (.cells #[.slice none 0 0, .slice none 0 0] 40)).heap.size = w.heap.size + 1 := by simp
  have G0 := hide ((A0.out.cell (p := ⟨0, 0, none⟩) hlt0).trans hg)
  have CO := hide (fun w hg => codeOf msg k w hg)
  clear hg
  go_enter Tryz.func44, Tryz.ntmps44
  go_wp2_with fail
  generalize w.alloc (.cells #[.slice none 0 0, .slice none 0 0] 40) = w0 at *
  refine (CO.out _ G0.out).mono ?_
  rintro e w2 ⟨rfl, hb2⟩
  have B2 := hide (A0.out.trans (hb2.mono (by omega)))
  have K2 := hide (K0.out.below hb2 (by omega))
  have e0 := K2.out.c.1
  have e1 := K2.out.c.2
  have f0 := K2.out.fz 0
  have f1 := K2.out.fz 1
  clear hb2
  go_wp2
  refine bodyPost_ret (v := .tuple #[.agg #[.slice none 0 0, .slice none 0 0], .int .i64 k]) (by simp [results, Tryz.results44, go_sem, e0, e1]) rfl ⟨rfl, ?_⟩
  repeat (first | exact B2.out | refine Below.setCell ?_ (by simp) _)
end Go.Proofs.YtbgngikejgihgafGreatDoor
