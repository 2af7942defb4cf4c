import Derived.Test.YtbgngikejgihgadDoorLnW
import Derived.Test.YtbgngikejgihgadDoorChkT
import Derived.Test.YtbgngikejgihgadDoorCodeOf
namespace Go.Proofs.YtbgngikejgihgadDoor
open Go Go.RowKit
set_option linter.unusedVariables false

theorem specLl (base : Nat) (zs : List Int) (b cap : Nat) (w : World) (h : o32 w base (.slice (some ⟨b, 0, none⟩) zs.length cap) zs) (hn : zs.length ≤ 1048576) (hcap : zs.length ≤ cap ∧ cap ≤ maxLen) :
    Calls Tryd.prog 8 #[.slice (some ⟨b, 0, none⟩) zs.length cap] w (LlPost w zs) := by
  by_cases h8 : zs.length ≤ 8192
  · refine (specOk zs b 0 cap w (fun i hi => by rw [Nat.zero_add]; exact owns_cell h i hi) (h.lt b rfl).2 h8 hcap.1 hcap.2).mono ?_
    rintro e w' ⟨vr, vt, rfl, h1, h3⟩
    refine ⟨vr, vt, by rw [llC, if_pos h8], ?_, h3⟩
    rw [llG, llS, if_pos h8, if_pos h8]; exact h1
  · refine (specBig (some ⟨b, 0, none⟩) zs.length cap w (by omega) (by unfold maxLen; omega)).mono ?_
    rintro e w' ⟨rfl, h3⟩
    refine ⟨_, _, by rw [llC, if_neg h8], ?_, h3⟩
    rw [llG, llS, if_neg h8, if_neg h8]; exact OwL.nil _ _ _

set_option maxHeartbeats 2000000 in
set_option maxRecDepth 100000 in
theorem implLl (base : Nat) (zs : List Int) (b cap : Nat) (w : World) (h : o32 w base (.slice (some ⟨b, 0, none⟩) zs.length cap) zs) (hn : zs.length ≤ 1048576) (hcap : zs.length ≤ cap ∧ cap ≤ maxLen) (hg : w.cell? ⟨0, 0, none⟩ = some (.iface 222 (.agg #[.pointer (some ⟨2, 86, none⟩)]))) :
    Calls Tryd.prog 10 #[.slice (some ⟨b, 0, none⟩) zs.length cap] w (LlPost w zs) := by
  have hlt0 : 0 < w.heap.size := World.block_lt_of_cell? w _ hg
  have hbl := (h.lt b rfl).2
  have A0 := hide ((Below.refl w.heap.size w).alloc (Nat.le_refl _) (.cells #[.slice none 0 0, .slice none 0 0] 26))
  have K0 := hide (D2.new w (.slice none 0 0) (.slice none 0 0) 26)
  have hs0 : (w.alloc (.cells #[.slice none 0 0, .slice none 0 0] 26)).heap.size = w.heap.size + 1 := by simp
  have O0 := hide (show o32 _ base _ zs from owns_below h A0.out (Nat.le_refl _))
  have G0 := hide ((A0.out.cell (p := ⟨0, 0, none⟩) hlt0).trans hg)
  have CT := hide (fun w => checkTextN (some ⟨b, 0, none⟩) zs.length cap w)
  by_cases h8 : zs.length ≤ 8192
  · rw [if_pos h8] at CT
    have LD := hide (loadL zs b 0 cap _ (fun i hi => by rw [Nat.zero_add]; exact owns_cell O0.out i hi) (by rw [hs0]; omega) h8 hcap.1 hcap.2)
    have LL := lns_len zs
    have HE := hide (show (llC zs = 0 ∧ llG zs = (lns zs).map plG ∧ llS zs = [0]) from ⟨by rw [llC, if_pos h8], by rw [llG, if_pos h8], by rw [llS, if_pos h8]⟩)
    generalize hL : lns zs = L at *
    generalize hN : zs.length = n at *
    generalize hm : L.length = m at *
    have HM := hide (show (L.map plG).length = m by rw [List.length_map, hm])
    clear h hg hN hL hm
    go_enter Tryd.func10, Tryd.ntmps10
    go_wp2_with fail
    generalize w.alloc (.cells #[.slice none 0 0, .slice none 0 0] 26) = w0 at *
    refine (CT.out _).mono ?_
    rintro e w1 ⟨rfl, hw1⟩
    have hw2 := hw1.symm
    subst hw2
    go_wp2_with fail
    refine LD.out.mono ?_
    rintro e w2 ⟨c, g, sv, vs, rfl, hc1, hc2, hlc, hb2⟩
    have s2 := hb2.size
    have TL := hide (tellL w0.heap.size w2.heap.size c g m m m m sv vs (L.map plG) n [0] w2 hlc HM.out (by omega) (by omega) (Nat.le_refl _) (Nat.le_refl _) (Nat.le_refl _) s2 (by omega))
    rw [cutG_all] at TL
    have K2 := hide (K0.out.below hb2 (by omega))
    have B2 := hide (A0.out.trans (hb2.mono (by omega)))
    clear hlc hb2 CT LD K0 O0
    go_wp2_with fail
    refine TL.out.mono ?_
    rintro e w3 ⟨vr, rfl, ho3, hb3⟩
    obtain ⟨a1, c1', a2, c2', rfl, hvt⟩ := ho3.val
    subst hvt
    have s3 := hb3.size
    have K3 := hide (K2.out.below hb3 (by omega))
    have B3 := hide (B2.out.trans (hb3.mono (by omega)))
    have O3 := hide ho3
    have e0 := K3.out.c.1
    have e1 := K3.out.c.2
    have f0 := K3.out.fz 0
    have f1 := K3.out.fz 1
    clear ho3 hb3 K2 TL
    go_wp2
    refine bodyPost_ret (v := .tuple #[.agg #[.slice a1 (L.map plG).length c1', .slice a2 [(0 : Int)].length c2'], .int .i64 0]) (by simp [results, Tryd.results10, go_sem, e0, e1]) rfl ⟨_, _, by rw [HE.out.1], ?_, ?_⟩
    · rw [HE.out.2.1, HE.out.2.2]
      exact (O3.out.frame (fun q h1 h2 => by rw [heap_setCell_other _ _ _ _ (by show q ≠ w.heap.size; omega), heap_setCell_other _ _ _ _ (by show q ≠ w.heap.size; omega)])).mono (by omega) (by simp)
    · exact (B3.out.setCell (Nat.le_refl _) _).setCell (Nat.le_refl _) _
  · rw [if_neg h8] at CT
    have HE := hide (show (llC zs = 10 ∧ llG zs = [] ∧ llS zs = []) from ⟨by rw [llC, if_neg h8], by rw [llG, if_neg h8], by rw [llS, if_neg h8]⟩)
    have CO := hide (fun w hg => codeOf msgLd 10 w hg)
    generalize hN : zs.length = n at *
    clear h hg hN
    go_enter Tryd.func10, Tryd.ntmps10
    go_wp2_with fail
    generalize w.alloc (.cells #[.slice none 0 0, .slice none 0 0] 26) = w0 at *
    refine (CT.out _).mono ?_
    rintro e w1 ⟨rfl, hw1⟩
    have hw2 := hw1.symm
    subst hw2
    go_wp2_with fail
    refine (CO.out _ (by first | exact G0.out | exact (World.cell?_alloc_lt _ _ ⟨0, 0, none⟩ (by show 0 < w0.heap.size; omega)).trans G0.out)).mono ?_
    rintro e w2 ⟨rfl, hb2⟩
    have B2 := hide (A0.out.trans (hb2.mono (by omega)))
    have K2 := hide (K0.out.below hb2 (by omega))
    have e0 := K2.out.c.1
    have e1 := K2.out.c.2
    have f0 := K2.out.fz 0
    have f1 := K2.out.fz 1
    clear hb2
    go_wp2
    refine bodyPost_ret (v := .tuple #[.agg #[.slice none 0 0, .slice none 0 0], .int .i64 10]) (by simp [results, Tryd.results10, go_sem, e0, e1]) rfl ⟨_, _, by rw [HE.out.1], ?_, ?_⟩
    · rw [HE.out.2.1, HE.out.2.2]; exact OwL.nil _ _ _
    · repeat (first | exact B2.out | refine Below.setCell ?_ (by simp) _)
end Go.Proofs.YtbgngikejgihgadDoor
