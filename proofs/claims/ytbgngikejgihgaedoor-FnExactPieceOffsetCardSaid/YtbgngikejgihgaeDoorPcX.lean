import Derived.Test.YtbgngikejgihgaeDoorPcB
import Derived.Test.YtbgngikejgihgaeDoorTxQ
namespace Go.Proofs.YtbgngikejgihgaeDoor
open Go Go.RowKit
set_option linter.unusedVariables false

set_option maxHeartbeats 1000000 in
set_option maxRecDepth 100000 in
/-- slices.Index of a break that is there. -/
theorem indexN (zs : List Int) (b o cap : Nat) (w : World) (hc : ∀ i, i < zs.length → w.cell? ⟨b, o + i, none⟩ = some (.int .i32 (zs.getD i 0))) (hn : zs.length ≤ 1048576) (hcap : zs.length ≤ cap) (hm : cap ≤ maxLen) (hb : 0 < bkn zs) :
    Calls Tryd.prog 173 #[.slice (some ⟨b, o, none⟩) zs.length cap, .int .i32 10] w fun e w' => e = .returned (.int .i64 ((bb zs 0 : Nat) - 1)) ∧ w' = w := by
  have HC := hide hc
  have HF := hide (fun k hk => bb_first zs k hb hk)
  have h0 := bb_pos zs 0 hb
  have hl := bb_le zs 0
  generalize hR : bb zs 0 = R at *
  generalize hN : zs.length = n at *
  unfold maxLen at hm
  clear hc hb
  go_enter Tryd.func173, Tryd.ntmps173
  go_wp2_with fail
  go_loop [8] (fun i => ∃ k : Nat, k < R ∧ i = .int .i64 k) (fun i => n - (intOf i).toNat)
  case atStart => exact ⟨0, h0, rfl⟩
  case round =>
    obtain ⟨k, hk, rfl⟩ := hrel
    obtain ⟨f1, f2, f3⟩ := HF.out k hk
    have hx := HC.out k f3
    generalize zs.getD k 0 = z at *
    have hkn : (k : Int) < n := by omega
    by_cases hz : z = 10
    · have e1 := f1 hz
      subst hz
      have HE := hide (show Ending.returned (.int .i64 ((R : Int) - 1)) = Ending.returned (.int .i64 (k : Int)) by rw [show (R : Int) - 1 = k by omega])
      clear f1 f2
      go_wp2
      go_ret
      exact ⟨by first | rfl | exact Eq.trans rfl HE.out.symm, rfl⟩
    · have e1 := f2 hz
      have hz' : ¬ 10 = z := fun h => hz h.symm
      clear f1 f2
      go_wp2
      go_round
      case rel => exact ⟨k + 1, e1, by go_num⟩
      case measure => simp [intOf]; omega

theorem at_drop {w : World} {b o : Nat} {zs : List Int} (hc : ∀ i, i < zs.length → w.cell? ⟨b, o + i, none⟩ = some (.int .i32 (zs.getD i 0))) (k : Nat) : ∀ i, i < (zs.drop k).length → w.cell? ⟨b, o + k + i, none⟩ = some (.int .i32 ((zs.drop k).getD i 0)) := by
  intro i hi
  rw [List.length_drop] at hi
  rw [Nat.add_assoc, hc (k + i) (by omega)]
  simp [List.getD_eq_getElem?_getD, List.getElem?_drop]

set_option maxHeartbeats 1000000 in
set_option maxRecDepth 100000 in
theorem behindN (zs : List Int) (b o cap j : Nat) (w : World) (hc : ∀ i, i < zs.length → w.cell? ⟨b, o + i, none⟩ = some (.int .i32 (zs.getD i 0))) (hn : zs.length ≤ 1048576) (hcap : zs.length ≤ cap) (hm : cap ≤ maxLen) (hj : j < bkn zs) :
    Calls Tryd.prog 172 #[.slice (some ⟨b, o, none⟩) zs.length cap, .int .i64 (j : Int)] w fun e w' => e = .returned (.int .i64 (bb zs j : Nat)) ∧ w' = w := by
  have HC := hide hc
  have HS := hide (fun t ht => bb_step zs t ht)
  have hbn := bkn_le zs
  have HLE := hide (fun t => ls_le zs t)
  have HSU := hide (fun t => ls_succ zs t)
  have HI := hide (fun (k : Nat) (h : 0 < bkn (zs.drop k)) (hk : k < zs.length) => indexN (zs.drop k) b (o + k) (cap - k) w (at_drop hc k) (by rw [List.length_drop]; omega) (by rw [List.length_drop]; omega) (by omega) h)
  have HBP := hide (fun (k : Nat) => bb_le (zs.drop k) 0)
  unfold maxLen at hm
  generalize hB : bkn zs = B at *
  clear hc
  go_enter Tryd.func172, Tryd.ntmps172
  go_wp2_with fail
  go_loop [1, 5] (fun x y => ∃ t : Nat, t ≤ j + 1 ∧ x = .int .i64 ((j : Int) - t) ∧ y = .int .i64 (ls zs t : Nat)) (fun x y => ((intOf x) + 1).toNat)
  case atStart => exact ⟨0, by omega, by simp, by simp [ls]⟩
  case round =>
    obtain ⟨t, ht, rfl, rfl⟩ := hrel
    by_cases htj : t = j + 1
    · subst htj
      have hneg : ¬ (0 : Int) ≤ (j : Int) - ((j + 1 : Nat) : Int) := by omega
      have HE := hide (HSU.out j)
      go_wp2
      go_ret
      exact ⟨by rw [← HE.out]; rfl, rfl⟩
    · obtain ⟨s1, s2, s3⟩ := HS.out t (by omega)
      have hge : (0 : Int) ≤ (j : Int) - (t : Int) := by omega
      have HIX := hide (HI.out (ls zs t) s2 s3)
      have hbl := HBP.out (ls zs t)
      have e2 := HSU.out t
      rw [s1] at e2
      have HE := hide e2
      rw [List.length_drop] at HIX hbl
      have hpos := bb_pos _ _ s2
      generalize bb (zs.drop (ls zs t)) 0 = r at *
      generalize ls zs t = at' at *
      generalize zs.length = n at *
      clear s1 s2 e2
      have g3 : ¬ cap = at' := by omega
      have g5 : (at' : Int) ≤ n := by omega
      go_wp2_with fail
      refine HIX.out.mono ?_
      rintro e w1 ⟨rfl, hw1⟩
      have hw2 := hw1.symm
      subst hw2
      go_wp2
      go_round
      case rel => exact ⟨t + 1, by omega, by go_num, by rw [HE.out]; go_num⟩
      case measure => simp [intOf]; omega
end Go.Proofs.YtbgngikejgihgaeDoor
