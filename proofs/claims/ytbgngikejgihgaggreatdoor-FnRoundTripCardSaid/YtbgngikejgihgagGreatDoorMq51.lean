import Derived.Test.YtbgngikejgihgagGreatDoorMq39
import Derived.Test.YtbgngikejgihgagGreatDoorMq50
namespace Go.Proofs.YtbgngikejgihgagGreatDoor
open Go Go.RowKit
set_option linter.unusedVariables false

theorem roundTripLaw (bs : List Int) (v : Value) (w : World) (h : Rd .u8 w v bs) (hb : ∀ z ∈ bs, 0 ≤ z ∧ z ≤ 255) (hn : bs.length ≤ 1048576) (hg : w.cell? ⟨0, 0, none⟩ = some (.iface 307 (.agg #[.pointer (some ⟨2, 100, none⟩)]))) :
    Calls Tryz.prog 8 #[v] w fun e w' => e = .returned (.bool true) ∧ Below w.heap.size w w' := by
  have HBV : ∀ b off cap, v = .slice (some ⟨b, off, none⟩) bs.length cap → 0 < bs.length → b < w.heap.size := by
    intro b off cap hv h0
    rcases h with ⟨_, _, _, rfl⟩ | ⟨b', off', cap', hv', hl, hc⟩
    · simp at h0
    · rw [hv] at hv'
      simp only [Value.slice.injEq, Option.some.injEq, Addr.mk.injEq, and_true, true_and] at hv'
      obtain ⟨⟨rfl, rfl⟩, rfl⟩ := hv'
      have h1 := World.block_lt_of_cell? w _ (hc 0 h0)
      simpa using h1
  have h' := h
  obtain ⟨ao, cap, rfl⟩ : ∃ ao cap, v = .slice ao bs.length cap := by
    rcases h' with ⟨ao, cap, rfl, rfl⟩ | ⟨b, off, cap, rfl, _⟩
    · exact ⟨_, _, rfl⟩
    · exact ⟨_, _, rfl⟩
  refine roundA (fun W => SrcB bs (.slice ao bs.length cap) w.heap.size W) ao bs.length cap w hn ?_ ?_ hg
  · refine (new2 bs _ w h hb hn).mono ?_
    rintro e w1 ⟨rfl, hs1, hb1⟩
    exact ⟨rfl, ⟨hs1, HBV⟩, hb1⟩
  · intro W hS hW
    have z1 := hW.size
    refine (drawPB bs _ w.heap.size bs.length ao cap W hS hn).mono ?_
    rintro e w2 ⟨vs, vi, zs, T, rfl, ho, hoi, hok, hbal, hwp, hrn, hzl, hs2, hc2, ⟨g, n', c', hvs⟩⟩
    obtain ⟨a1, k1, hv1⟩ := own32_val ho
    obtain ⟨a2, k2, hv2⟩ := ownI_val hoi
    rw [hvs] at hv1
    simp only [Value.slice.injEq] at hv1
    obtain ⟨rfl, rfl, rfl⟩ := hv1
    subst hvs hv2
    have F : BFr zs T := ⟨hok, hbal, hwp, by omega⟩
    exact ⟨g, _, a2, k2, zs, T, rfl, owns_base ho z1, owns_base hoi z1, F, by have := F.txl; omega, hW.trans (hc2.below (B := w.heap.size) (by omega) (by simp))⟩
end Go.Proofs.YtbgngikejgihgagGreatDoor
