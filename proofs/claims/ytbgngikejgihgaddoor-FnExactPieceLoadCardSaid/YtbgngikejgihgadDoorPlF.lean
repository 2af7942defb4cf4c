import Derived.Test.YtbgngikejgihgadDoorPlE
import Derived.Test.YtbgngikejgihgadDoorPlO
import Derived.Test.YtbgngikejgihgadDoorChkR
import Derived.Test.YtbgngikejgihgadDoorCodeOf
namespace Go.Proofs.YtbgngikejgihgadDoor
open Go Go.RowKit
set_option linter.unusedVariables false

def msgLd : ByteArray := ⟨#[108, 111, 97, 100, 105, 110, 103, 32, 97, 32, 116, 101, 120, 116]⟩
set_option maxHeartbeats 1000000 in
theorem checkTextN (ao : Option Addr) (n cap : Nat) (w : World) :
    Calls Tryd.prog 45 #[.slice ao n cap] w fun e w' => e = .returned (if n ≤ 8192 then .nilIface else .iface 134 (.agg #[.string msgLd, .iface 135 (.int .i64 10)])) ∧ w' = w := by
  have HK := hide (checkRoomN 0 n w (by omega) (by omega))
  by_cases h : n ≤ 8192
  · rw [if_pos h]
    rw [show decide ((0 : Int) ≤ 8192 ∧ (n : Int) ≤ 8192 - 0) = true by rw [decide_eq_true_eq]; omega] at HK
    simp only [errV, if_true] at HK
    go_enter Tryd.func45, Tryd.ntmps45
    go_wp2_with fail
    refine HK.out.mono ?_
    rintro e w1 ⟨rfl, rfl⟩
    go_wp2
    go_ret
    exact ⟨rfl, rfl⟩
  · rw [if_neg h]
    rw [show decide ((0 : Int) ≤ 8192 ∧ (n : Int) ≤ 8192 - 0) = false by rw [decide_eq_false_iff_not]; omega] at HK
    simp only [errV, Bool.false_eq_true, if_false] at HK
    go_enter Tryd.func45, Tryd.ntmps45
    go_wp2_with fail
    refine HK.out.mono ?_
    rintro e w1 ⟨rfl, rfl⟩
    go_wp2
    go_ret
    exact ⟨rfl, rfl⟩

/-- What PieceLoad answers. -/
def ldS (zs : List Int) : List Int := if zs.length ≤ 8192 then zs else []
def ldI (zs : List Int) : List It := if zs.length ≤ 8192 then (ldT zs).told 0 else []
def ldC (zs : List Int) : Int := if zs.length ≤ 8192 then 0 else 10
def LdPost (w : World) (zs : List Int) (e : Ending) (w' : World) : Prop := ∃ vs vi, e = .returned (.tuple #[.agg #[vs, vi], .int .i64 (ldC zs)]) ∧ own32 w' w.heap.size vs (ldS zs) ∧ OwI w' w.heap.size vi (ldI zs) ∧ Below w.heap.size w w'
theorem ldS_len (zs : List Int) : (ldS zs).length ≤ 8192 := by
  unfold ldS
  split
  · assumption
  · simp
theorem ldI_len (zs : List Int) : (ldI zs).length ≤ 8192 := by
  unfold ldI
  split
  · rename_i h
    rw [AT.told_length]
    have := (ldT_ok zs h).bd
    omega
  · simp

theorem specLd (base : Nat) (zs : List Int) (b cap : Nat) (w : World) (h : own32 w base (.slice (some ⟨b, 0, none⟩) zs.length cap) zs) (hn : zs.length ≤ 1048576) :
    Calls Tryd.prog 16 #[.slice (some ⟨b, 0, none⟩) zs.length cap] w (LdPost w zs) := by
  by_cases h8 : zs.length ≤ 8192
  · refine (specLoad base zs b cap w h h8).mono ?_
    rintro e w' ⟨vs, vi, rfl, h1, h2, h3⟩
    refine ⟨vs, vi, by rw [ldC, if_pos h8], ?_, ?_, h3⟩
    · rw [ldS, if_pos h8]; exact h1
    · rw [ldI, if_pos h8]; exact h2
  · refine (specLoadBig (some ⟨b, 0, none⟩) zs.length cap w (by omega) hn).mono ?_
    rintro e w' ⟨rfl, h3⟩
    refine ⟨_, _, by rw [ldC, if_neg h8], ?_, ?_, h3⟩
    · rw [ldS, if_neg h8]; exact World.ownsRow_nil _ _ _ _
    · rw [ldI, if_neg h8]; exact World.ownsRow_nil _ _ _ _

set_option maxHeartbeats 2000000 in
set_option maxRecDepth 100000 in
theorem implLd (base : Nat) (zs : List Int) (b cap : Nat) (w : World) (h : own32 w base (.slice (some ⟨b, 0, none⟩) zs.length cap) zs) (hn : zs.length ≤ 1048576) (hcap : zs.length ≤ cap ∧ cap ≤ maxLen) (hg : w.cell? ⟨0, 0, none⟩ = some (.iface 222 (.agg #[.pointer (some ⟨2, 86, none⟩)]))) :
    Calls Tryd.prog 17 #[.slice (some ⟨b, 0, none⟩) zs.length cap] w (LdPost w zs) := by
  have hlt0 : 0 < w.heap.size := World.block_lt_of_cell? w _ hg
  have hbl := (h.lt b rfl).2
  have A0 := hide ((Below.refl w.heap.size w).alloc (Nat.le_refl _) (.cells #[.slice none 0 0, .slice none 0 0] 39))
  have K0 := hide (show (w.alloc (.cells #[.slice none 0 0, .slice none 0 0] 39)).heap[w.heap.size]? = some (.cells #[.slice none 0 0, .slice none 0 0] 39 (0, 0)) from heap_alloc_new _ _)
  have hs0 : w.heap.size < (w.alloc (.cells #[.slice none 0 0, .slice none 0 0] 39)).heap.size := by simp
  have O0 := hide (show own32 _ base _ zs from owns_below h A0.out (Nat.le_refl _))
  have G0 := hide ((A0.out.cell (p := ⟨0, 0, none⟩) hlt0).trans hg)
  have CT := hide (fun w => checkTextN (some ⟨b, 0, none⟩) zs.length cap w)
  by_cases h8 : zs.length ≤ 8192
  · rw [if_pos h8] at CT
    have LD := hide (fun w h => loadN base zs b cap w h hcap h8 (ldT_ok zs h8))
    have HOK := hide (ldT_ok zs h8)
    have HE := hide (show (ldC zs = 0 ∧ ldS zs = zs ∧ ldI zs = (ldT zs).told 0) from ⟨by rw [ldC, if_pos h8], by rw [ldS, if_pos h8], by rw [ldI, if_pos h8]⟩)
    have TL := hide (fun u bs bb c w hc hb hT hk => tellPN zs (ldT zs) u bs bb c b w hc hb hn hT HOK.out hk)
    generalize ldT zs = T at *
    generalize hN : zs.length = n at *
    have HN := hide hN
    clear h hg hN
    go_enter Tryd.func17, Tryd.ntmps17
    go_wp2_with fail
    generalize w.alloc (.cells #[.slice none 0 0, .slice none 0 0] 39) = w0 at *
    refine (CT.out _).mono ?_
    rintro e w1 ⟨rfl, hw1⟩
    have hw2 := hw1.symm
    subst hw2
    go_wp2_with fail
    refine (LD.out w0 O0.out).mono ?_
    rintro e w2 ⟨c, u, bs, rfl, hc1, hc2, hk2, hl2, hb2⟩
    have B2 := hide (A0.out.trans (hb2.mono (by omega)))
    have K2 := hide ((hb2.block w.heap.size hs0).trans K0.out)
    have O2 := hide (show own32 w2 base _ zs from owns_below O0.out hb2 (Nat.le_refl _))
    have KC := hide hk2
    have L2 := hide hl2
    have s2 := hb2.size
    clear hk2 hl2 hb2 CT LD K0 O0
    go_wp2_with fail
    refine (TL.out u bs _ c w2 (by have h9 := O2.out; rw [← HN.out] at h9; have h10 := own32_cells h9; rw [HN.out] at h10; exact h10) (by omega) L2.out KC.out).mono ?_
    rintro e w3 ⟨vs, vi, rfl, ho3, hi3, hb3⟩
    obtain ⟨as1, cs1, rfl⟩ := own32_val ho3
    obtain ⟨ai1, ci1, rfl⟩ := ownI_val hi3
    have B3 := hide (B2.out.trans (hb3.mono (by omega)))
    have K3 := (hb3.block w.heap.size (by omega)).trans K2.out
    have O3 := hide ho3
    have I3 := hide hi3
    have s3 := hb3.size
    have e0 : w3.cell? ⟨w.heap.size, 0, none⟩ = some (.slice none 0 0) := by rw [cell_of_row w3 _ 0 _ _ _ K3]; rfl
    have e1 : w3.cell? ⟨w.heap.size, 1, none⟩ = some (.slice none 0 0) := by rw [cell_of_row w3 _ 1 _ _ _ K3]; rfl
    have f0 := frozen_of_row w3 w.heap.size 0 _ _ K3
    have f1 := frozen_of_row w3 w.heap.size 1 _ _ K3
    clear ho3 hi3 hb3 K3 K2 O2 L2 KC TL
    go_wp2
    refine bodyPost_ret (v := .tuple #[.agg #[.slice as1 zs.length cs1, .slice ai1 (T.told 0).length ci1], .int .i64 0]) (by simp [results, Tryd.results17, go_sem, e0, e1]) rfl ⟨_, _, by rw [HE.out.1], ?_, ?_, ?_⟩
    · rw [HE.out.2.1]
      exact owns_of_block (owns_base O3.out (by omega)) (fun k hk => by have h1 := O3.out.lt k hk; rw [Below.heap_setCell _ _ _ _ (by simp; omega), Below.heap_setCell _ _ _ _ (by simp; omega)])
    · rw [HE.out.2.2]
      exact owns_of_block (owns_base I3.out (by omega)) (fun k hk => by have h1 := I3.out.lt k hk; rw [Below.heap_setCell _ _ _ _ (by simp; omega), Below.heap_setCell _ _ _ _ (by simp; omega)])
    · exact (B3.out.setCell (Nat.le_refl _) _).setCell (Nat.le_refl _) _
  · rw [if_neg h8] at CT
    have HE := hide (show (ldC zs = 10 ∧ ldS zs = [] ∧ ldI zs = []) from ⟨by rw [ldC, if_neg h8], by rw [ldS, if_neg h8], by rw [ldI, if_neg h8]⟩)
    have CO := hide (fun w hg => codeOf msgLd 10 w hg)
    generalize hN : zs.length = n at *
    clear h hg hN
    go_enter Tryd.func17, Tryd.ntmps17
    go_wp2_with fail
    generalize w.alloc (.cells #[.slice none 0 0, .slice none 0 0] 39) = w0 at *
    refine (CT.out _).mono ?_
    rintro e w1 ⟨rfl, hw1⟩
    have hw2 := hw1.symm
    subst hw2
    go_wp2_with fail
    refine (CO.out _ (by first | exact G0.out | exact (World.cell?_alloc_lt _ _ ⟨0, 0, none⟩ (by show 0 < w0.heap.size; omega)).trans G0.out)).mono ?_
    rintro e w2 ⟨rfl, hb2⟩
    have B2 := hide (A0.out.trans (hb2.mono (by omega)))
    have K2 := (hb2.block w.heap.size hs0).trans K0.out
    have e0 : w2.cell? ⟨w.heap.size, 0, none⟩ = some (.slice none 0 0) := by rw [cell_of_row w2 _ 0 _ _ _ K2]; rfl
    have e1 : w2.cell? ⟨w.heap.size, 1, none⟩ = some (.slice none 0 0) := by rw [cell_of_row w2 _ 1 _ _ _ K2]; rfl
    have f0 := frozen_of_row w2 w.heap.size 0 _ _ K2
    have f1 := frozen_of_row w2 w.heap.size 1 _ _ K2
    clear hb2 K2
    go_wp2
    refine bodyPost_ret (v := .tuple #[.agg #[.slice none 0 0, .slice none 0 0], .int .i64 10]) (by simp [results, Tryd.results17, go_sem, e0, e1]) rfl ⟨_, _, by rw [HE.out.1], ?_, ?_, ?_⟩
    · rw [HE.out.2.1]; exact World.ownsRow_nil _ _ _ _
    · rw [HE.out.2.2]; exact World.ownsRow_nil _ _ _ _
    · repeat (first | exact B2.out | refine Below.setCell ?_ (by simp) _)
end Go.Proofs.YtbgngikejgihgadDoor
