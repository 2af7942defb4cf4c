import Derived.Test.YtbkcbhjejkicjaaGreatDoorMq25
import Derived.RegionTactic
import Derived.ChangeAlike
import Derived.Test.YtbkcbhjejkicjaaGreatDoorTie
namespace Go.Proofs.YtbkcbhjejkicjaaGreatDoor
open Go Go.RowKit Go.Sort
set_option linter.unusedVariables false

theorem obsF_get (cp : Nat) : ∀ (n k j : Nat), k < n → j < 10 → (obsF cp n)[k * 10 + j]? = (obL cp k)[j]?
  | 0, k, j, h, _ => by omega
  | n + 1, k, j, h, hj => by
    rw [obsF]
    rcases Nat.lt_or_ge k n with h9 | h9
    · rw [List.getElem?_append_left (by rw [obsF_len]; omega)]
      exact obsF_get cp n k j h9 hj
    · obtain rfl : k = n := by omega
      rw [List.getElem?_append_right (by rw [obsF_len]; omega), obsF_len]
      congr 1; omega
set_option maxHeartbeats 4000000 in
set_option maxRecDepth 100000 in
theorem smRunT (B C cp n : Nat) (v u : Value) (w : World) (h1 : w.ownsRow B 52 10 v n (obsF cp n)) (h2 : w.ownsRow C 52 10 u n (obsF cp n)) (h0 : 0 < n) (hn : n ≤ 100) :
    Calls Tryz.prog 9 #[v, u] w fun e w' => e = .returned (.bool true) ∧ Below w.heap.size w w' := by
  obtain ⟨b, cap, rfl, hcap⟩ : ∃ b cap, v = .slice (some ⟨b, 0, none⟩) n cap ∧ n ≤ cap ∧ cap ≤ maxLen := by
    rcases h1.2 with ⟨e, e0⟩ | ⟨g, cap, cur, e, _, _, h3, h4, _⟩
    · omega
    · exact ⟨_, _, e, h3, h4⟩
  obtain ⟨c, cac, rfl, hcac⟩ : ∃ b cap, u = .slice (some ⟨b, 0, none⟩) n cap ∧ n ≤ cap ∧ cap ≤ maxLen := by
    rcases h2.2 with ⟨e, e0⟩ | ⟨g, cap, cur, e, _, _, h3, h4, _⟩
    · omega
    · exact ⟨_, _, e, h3, h4⟩
  have hbl := (h1.lt b rfl).2
  have hcl := (h2.lt c rfl).2
  have HV := hide (show ∀ k j, k < n → j < 10 → w.cell? ⟨b, k * 10 + j, none⟩ = (obL cp k)[j]? from fun k j hk hj => by rw [h1.cellAt (k * 10 + j) (by omega), obsF_get cp n k j hk hj])
  have HU := hide (show ∀ k j, k < n → j < 10 → w.cell? ⟨c, k * 10 + j, none⟩ = (obL cp k)[j]? from fun k j hk hj => by rw [h2.cellAt (k * 10 + j) (by omega), obsF_get cp n k j hk hj])
  unfold maxLen at hcap hcac
  clear h1 h2
  go_enter Tryz.func9, Tryz.ntmps9
  go_wp2_with fail
  go_loopw [13] (fun i wr => ∃ k : Nat, k ≤ n ∧ i = .int .i64 k ∧ Below w.heap.size w wr) (fun i _ => n - (intOf i).toNat)
  case atStart => exact ⟨0, Nat.zero_le _, rfl, Below.refl _ _⟩
  case round =>
    obtain ⟨k, hk, rfl, hb⟩ := hrel
    have HB := hide hb
    have hsz := hb.size
    by_cases hlt : k < n
    · have hlt' : (k : Int) < n := by omega
      obtain ⟨n1, hn1⟩ : ∃ x, x = k + 1 := ⟨_, rfl⟩
      obtain ⟨u1, hu1⟩ : ∃ x, x = min (k + 1) cp := ⟨_, rfl⟩
      have OL := hide (show obL cp k = [.int .i64 0, .int .i64 1, .int .i64 0, .slice none 0 0, .slice none 0 0, .int .i64 (n1 : Nat), .int .i64 1, .int .i64 (u1 : Nat), .int .i64 0, .int .i64 0] from by unfold obL; rw [hn1, hu1])
      have VC := hide (show ∀ k j, k < n → j < 10 → wr.cell? ⟨b, k * 10 + j, none⟩ = (obL cp k)[j]? from fun k j h3 h4 => (hb.cell (p := ⟨b, k * 10 + j, none⟩) hbl).trans (HV.out k j h3 h4))
      have UC := hide (show ∀ k j, k < n → j < 10 → wr.cell? ⟨c, k * 10 + j, none⟩ = (obL cp k)[j]? from fun k j h3 h4 => (hb.cell (p := ⟨c, k * 10 + j, none⟩) hcl).trans (HU.out k j h3 h4))
      clear hn1 hu1 hb
      have SM := hide (fun W => smOb 0 1 0 n1 1 u1 0 0 W)
      go_upto_region 6 with fail
      refine (wpIn_wide (n := 6)).1 ?_
      refine regionC (fun y => Below wr.heap.size wr y) (by kernel_rfl) ?_
      refine tk 0 (.slice (some ⟨b, 0, none⟩) n cap) ?_ ?_
      · intro y hC
        go_simp
      go_simp
      refine tk 1 (.int .i64 k) ?_ ?_
      · intro y hC
        go_simp
      go_simp
      refine tk 2 (.pointer (some ⟨b, k * 10, none⟩)) ?_ ?_
      · intro y hC
        go_simp
      go_simp
      refine tk 3 (.agg #[.int .i64 0, .int .i64 1, .int .i64 0, .slice none 0 0, .slice none 0 0, .int .i64 (n1 : Nat), .int .i64 1, .int .i64 (u1 : Nat), .int .i64 0, .int .i64 0]) ?_ ?_
      · intro y hC
        have cv0 : y.cell? ⟨b, k * 10, none⟩ = some (.int .i64 0) := (hC.cell (p := ⟨b, k * 10 + 0, none⟩) (by show b < _; omega)).trans (by have h9 := VC.out k 0 hlt (by omega); rw [OL.out] at h9; exact h9)
        have cv1 : y.cell? ⟨b, k * 10 + 1, none⟩ = some (.int .i64 1) := (hC.cell (p := ⟨b, k * 10 + 1, none⟩) (by show b < _; omega)).trans (by have h9 := VC.out k 1 hlt (by omega); rw [OL.out] at h9; exact h9)
        have cv2 : y.cell? ⟨b, k * 10 + 2, none⟩ = some (.int .i64 0) := (hC.cell (p := ⟨b, k * 10 + 2, none⟩) (by show b < _; omega)).trans (by have h9 := VC.out k 2 hlt (by omega); rw [OL.out] at h9; exact h9)
        have cv3 : y.cell? ⟨b, k * 10 + 3, none⟩ = some (.slice none 0 0) := (hC.cell (p := ⟨b, k * 10 + 3, none⟩) (by show b < _; omega)).trans (by have h9 := VC.out k 3 hlt (by omega); rw [OL.out] at h9; exact h9)
        have cv4 : y.cell? ⟨b, k * 10 + 4, none⟩ = some (.slice none 0 0) := (hC.cell (p := ⟨b, k * 10 + 4, none⟩) (by show b < _; omega)).trans (by have h9 := VC.out k 4 hlt (by omega); rw [OL.out] at h9; exact h9)
        have cv5 : y.cell? ⟨b, k * 10 + 5, none⟩ = some (.int .i64 (n1 : Nat)) := (hC.cell (p := ⟨b, k * 10 + 5, none⟩) (by show b < _; omega)).trans (by have h9 := VC.out k 5 hlt (by omega); rw [OL.out] at h9; exact h9)
        have cv6 : y.cell? ⟨b, k * 10 + 6, none⟩ = some (.int .i64 1) := (hC.cell (p := ⟨b, k * 10 + 6, none⟩) (by show b < _; omega)).trans (by have h9 := VC.out k 6 hlt (by omega); rw [OL.out] at h9; exact h9)
        have cv7 : y.cell? ⟨b, k * 10 + 7, none⟩ = some (.int .i64 (u1 : Nat)) := (hC.cell (p := ⟨b, k * 10 + 7, none⟩) (by show b < _; omega)).trans (by have h9 := VC.out k 7 hlt (by omega); rw [OL.out] at h9; exact h9)
        have cv8 : y.cell? ⟨b, k * 10 + 8, none⟩ = some (.int .i64 0) := (hC.cell (p := ⟨b, k * 10 + 8, none⟩) (by show b < _; omega)).trans (by have h9 := VC.out k 8 hlt (by omega); rw [OL.out] at h9; exact h9)
        have cv9 : y.cell? ⟨b, k * 10 + 9, none⟩ = some (.int .i64 0) := (hC.cell (p := ⟨b, k * 10 + 9, none⟩) (by show b < _; omega)).trans (by have h9 := VC.out k 9 hlt (by omega); rw [OL.out] at h9; exact h9)
        go_simp
      go_simp
      refine tk 4 (.slice (some ⟨c, 0, none⟩) n cac) ?_ ?_
      · intro y hC
        go_simp
      go_simp
      refine tk 5 (.int .i64 k) ?_ ?_
      · intro y hC
        go_simp
      go_simp
      refine tk 6 (.pointer (some ⟨c, k * 10, none⟩)) ?_ ?_
      · intro y hC
        go_simp
      go_simp
      refine tk 7 (.agg #[.int .i64 0, .int .i64 1, .int .i64 0, .slice none 0 0, .slice none 0 0, .int .i64 (n1 : Nat), .int .i64 1, .int .i64 (u1 : Nat), .int .i64 0, .int .i64 0]) ?_ ?_
      · intro y hC
        have cu0 : y.cell? ⟨c, k * 10, none⟩ = some (.int .i64 0) := (hC.cell (p := ⟨c, k * 10 + 0, none⟩) (by show c < _; omega)).trans (by have h9 := UC.out k 0 hlt (by omega); rw [OL.out] at h9; exact h9)
        have cu1 : y.cell? ⟨c, k * 10 + 1, none⟩ = some (.int .i64 1) := (hC.cell (p := ⟨c, k * 10 + 1, none⟩) (by show c < _; omega)).trans (by have h9 := UC.out k 1 hlt (by omega); rw [OL.out] at h9; exact h9)
        have cu2 : y.cell? ⟨c, k * 10 + 2, none⟩ = some (.int .i64 0) := (hC.cell (p := ⟨c, k * 10 + 2, none⟩) (by show c < _; omega)).trans (by have h9 := UC.out k 2 hlt (by omega); rw [OL.out] at h9; exact h9)
        have cu3 : y.cell? ⟨c, k * 10 + 3, none⟩ = some (.slice none 0 0) := (hC.cell (p := ⟨c, k * 10 + 3, none⟩) (by show c < _; omega)).trans (by have h9 := UC.out k 3 hlt (by omega); rw [OL.out] at h9; exact h9)
        have cu4 : y.cell? ⟨c, k * 10 + 4, none⟩ = some (.slice none 0 0) := (hC.cell (p := ⟨c, k * 10 + 4, none⟩) (by show c < _; omega)).trans (by have h9 := UC.out k 4 hlt (by omega); rw [OL.out] at h9; exact h9)
        have cu5 : y.cell? ⟨c, k * 10 + 5, none⟩ = some (.int .i64 (n1 : Nat)) := (hC.cell (p := ⟨c, k * 10 + 5, none⟩) (by show c < _; omega)).trans (by have h9 := UC.out k 5 hlt (by omega); rw [OL.out] at h9; exact h9)
        have cu6 : y.cell? ⟨c, k * 10 + 6, none⟩ = some (.int .i64 1) := (hC.cell (p := ⟨c, k * 10 + 6, none⟩) (by show c < _; omega)).trans (by have h9 := UC.out k 6 hlt (by omega); rw [OL.out] at h9; exact h9)
        have cu7 : y.cell? ⟨c, k * 10 + 7, none⟩ = some (.int .i64 (u1 : Nat)) := (hC.cell (p := ⟨c, k * 10 + 7, none⟩) (by show c < _; omega)).trans (by have h9 := UC.out k 7 hlt (by omega); rw [OL.out] at h9; exact h9)
        have cu8 : y.cell? ⟨c, k * 10 + 8, none⟩ = some (.int .i64 0) := (hC.cell (p := ⟨c, k * 10 + 8, none⟩) (by show c < _; omega)).trans (by have h9 := UC.out k 8 hlt (by omega); rw [OL.out] at h9; exact h9)
        have cu9 : y.cell? ⟨c, k * 10 + 9, none⟩ = some (.int .i64 0) := (hC.cell (p := ⟨c, k * 10 + 9, none⟩) (by show c < _; omega)).trans (by have h9 := UC.out k 9 hlt (by omega); rw [OL.out] at h9; exact h9)
        go_simp
      go_simp
      obtain ⟨y0, hy⟩ : ∃ y, y = wr.drew := ⟨_, rfl⟩
      rw [← hy]
      have BY0 := hide (show Below wr.heap.size wr y0 from by rw [hy]; exact ⟨rfl, rfl, rfl, Nat.le_refl _, fun _ _ => rfl⟩)
      clear hy
      refine on 8 BY0.out ?_
      gi_wp2_with fail
      refine ⟨trivial, (callsIn_wide.2 (SM.out _)).mono ?_⟩
      rintro e y1 ⟨rfl, hb1⟩
      have BY1 := hide (BY0.out.trans (hb1.mono BY0.out.size))
      clear hb1 BY0
      gi_wp2_with fail
      refine tk 9 (.bool false) ?_ ?_
      · intro y hC; go_simp
      go_simp
      refine doneC (by kernel_rfl) BY1.out ?_ _
      have HBC := hide (HB.out.trans (BY1.out.mono hsz))
      clear BY1
      go_wp2
      go_roundw
      case rel => exact ⟨k + 1, by omega, by go_num, HBC.out⟩
      case measure => simp [intOf]; omega
    · have hlt' : ¬ (k : Int) < n := by omega
      clear hb
      go_wp2
      go_ret
      exact ⟨rfl, HB.out⟩
end Go.Proofs.YtbkcbhjejkicjaaGreatDoor

namespace Go.Proofs.YtbkcbhjejkicjaaGreatDoor
open Go Go.RowKit Go.Sort
set_option linter.unusedVariables false

theorem Tryz.infoOP : (Tryz.prog.info? 30).map (fun i => (i.zero, i.size, i.bytes)) = some (some (.agg #[.int .i64 0, .int .i64 0, .int .i64 0, .int .i64 0, .slice none 0 0]), 5, 56) := by kernel_rfl
theorem Tryz.infoB8 : (Tryz.prog.info? 5).map (fun i => (i.zero, i.size, i.bytes)) = some (some (.int .u8 0), 1, 1) := by kernel_rfl
theorem TyO.app {w w' : World} {B : Nat} {v v' tv : Value} {cs : List Int} {c : Int} {tvs : List Value} (h1 : w.ownsRow B 30 5 v cs.length (opVs 0 tvs)) (h2 : tvs.length = cs.length) (h3 : ∀ (k : Nat) tv, tvs[k]? = some tv → w.ownsRow B 5 1 tv 1 [.int .u8 (cs.getD k 0)]) (hg : w.grownBy w' v.ownBlock) (ho : w'.ownsRow B 30 5 v' (cs.length + 1) (opVs 0 tvs ++ [.int .i64 1, .int .i64 (cs.length : Nat), .int .i64 0, .int .i64 0, tv])) (ht : w.ownsRow B 5 1 tv 1 [.int .u8 c]) : TyO w' B v' (cs ++ [c]) := by
  have kp : ∀ {u : Value} {xs : List Value}, w.ownsRow B 5 1 u 1 xs → w'.ownsRow B 5 1 u 1 xs := fun hu => owns_of_block hu (fun q hq => hg.block q (hu.lt q hq).2 (fun e => own_apart h1 hu (by decide) e.symm hq))
  refine ⟨tvs ++ [tv], ?_, by simp [h2], fun k u hk => ?_⟩
  · rw [opVs_app, Nat.zero_add, h2]
    simpa using ho
  · rcases Nat.lt_or_ge k tvs.length with h9 | h9
    · rw [List.getElem?_append_left h9] at hk
      have h8 := kp (h3 k u hk)
      rwa [show (cs ++ [c]).getD k 0 = cs.getD k 0 from by simp [List.getD_eq_getElem?_getD, List.getElem?_append_left (show k < cs.length by omega)]]
    · have hkl : k = tvs.length := by
        have := (List.getElem?_eq_some_iff.1 hk).1
        simp at this; omega
      subst hkl
      rw [List.getElem?_append_right (Nat.le_refl _), Nat.sub_self] at hk
      simp at hk
      subst hk
      rw [show (cs ++ [c]).getD tvs.length 0 = c from by rw [h2]; simp [List.getD_eq_getElem?_getD]]
      exact kp ht
theorem rd_one {w : World} {ta : Option Addr} {tk : Nat} {c : Int} (h : Rd .u8 w (.slice ta 1 tk) [c]) : ∃ b o, ta = some ⟨b, o, none⟩ ∧ w.cell? ⟨b, o, none⟩ = some (.int .u8 c) ∧ 1 ≤ tk ∧ tk ≤ maxLen := by
  rcases h with ⟨ao, cap, e, e2⟩ | ⟨b, off, cap, e, hp, hc⟩
  · cases e2
  · simp only [Value.slice.injEq] at e
    obtain ⟨rfl, _, rfl⟩ := e
    have := hc 0 (by simp)
    exact ⟨b, off, rfl, by simpa using this, by have := hp.2.1; simpa using this, hp.2.2⟩
set_option maxHeartbeats 4000000 in
set_option maxRecDepth 100000 in
theorem cpOpsT (C : Nat) (v : Value) (cs : List Int) (w : World) (h : TyO w C v cs) (h0 : 0 < cs.length) (hn : cs.length ≤ 100) :
    Calls Tryz.prog 7 #[v] w fun e w' => ∃ v', e = .returned v' ∧ TyO w' w.heap.size v' cs ∧ Below w.heap.size w w' := by
  obtain ⟨i0, hi0, hz0, hz1, hz2⟩ := info_parts Tryz.infoOP
  obtain ⟨j0, hj0, hy0, hy1, hy2⟩ := info_parts Tryz.infoB8
  obtain ⟨b, cap, rfl, hb, hca, hcm⟩ := h.val h0
  have H := hide h
  obtain ⟨n, hN⟩ : ∃ n, n = cs.length := ⟨_, rfl⟩
  have HN := hide hN
  rw [← hN] at h0 hn hca ⊢
  unfold maxLen at hcm
  clear h hN
  have T0 := hide (show TyO (w.alloc (.cells #[] 30)) w.heap.size (.slice (some ⟨w.heap.size, 0, none⟩) 0 0) (cs.take 0) from ⟨[], World.ownsRow_made w #[] 0 (Nat.le_refl _) (Nat.zero_le _) rfl, rfl, fun k tv hk => by simp at hk⟩)
  have B0 := hide (bAS (Below.refl w.heap.size w) (.cells #[] 30))
  go_enter Tryz.func7, Tryz.ntmps7
  go_wp2_with fail
  generalize w.alloc (.cells #[] 30) = w2 at *
  go_loopw [3, 9] (fun ov i wr => ∃ k : Nat, k ≤ n ∧ i = .int .i64 k ∧ TyO wr w.heap.size ov (cs.take k) ∧ Below w.heap.size w wr) (fun _ i _ => n - (intOf i).toNat)
  case atStart => exact ⟨0, Nat.zero_le _, rfl, T0.out, B0.out⟩
  case round =>
    obtain ⟨k, hk, rfl, hT, hB⟩ := hrel
    have TY := hide (H.out.below hB)
    have hsz := hB.size
    have HT := hide hT
    have HB := hide hB
    clear T0 B0
    by_cases hlt : k < n
    · have hlt' : (k : Int) < n := by omega
      obtain ⟨ta, tq, T⟩ := TY.out.at k (by rw [← HN.out]; exact hlt)
      obtain ⟨q0, q1, q2, q3, q4, hrd⟩ := T
      obtain ⟨tb, tz, rfl, htc, htl⟩ := rd_one hrd
      have htbl : tb < wr.heap.size := World.block_lt_of_cell? _ _ htc
      obtain ⟨c, hc⟩ : ∃ c, c = cs.getD k 0 := ⟨_, rfl⟩
      rw [← hc] at htc
      have HC := hide hc
      have BA := hide (bAS (Below.refl wr.heap.size wr) (.cells #[.int .i64 1, .int .i64 k, .int .i64 0, .int .i64 0, .slice (some ⟨tb, tz, none⟩) 1 tq] 30))
      have OP := hide (show (wr.alloc (.cells #[.int .i64 1, .int .i64 k, .int .i64 0, .int .i64 0, .slice (some ⟨tb, tz, none⟩) 1 tq] 30)).heap[wr.heap.size]? = some (.cells #[.int .i64 1, .int .i64 k, .int .i64 0, .int .i64 0, .slice (some ⟨tb, tz, none⟩) 1 tq] 30 (0, 0)) from heap_alloc_new _ _)
      have z1' : wr.heap.size < (wr.alloc (.cells #[.int .i64 1, .int .i64 k, .int .i64 0, .int .i64 0, .slice (some ⟨tb, tz, none⟩) 1 tq] 30)).heap.size := by simp
      clear hT hB hrd hc
      go_upto_region 5 with fail
      generalize wr.alloc (.cells #[.int .i64 1, .int .i64 k, .int .i64 0, .int .i64 0, .slice (some ⟨tb, tz, none⟩) 1 tq] 30) = w3 at *
      clear q0 q1 q2 q3 q4
      have BA3 := hide (bAS (Below.refl w3.heap.size w3) (.cells #[] 5))
      have B3 := hide (BA.out.trans (BA3.out.mono (by omega)))
      have OP3 := hide ((BA3.out.block wr.heap.size z1').trans OP.out)
      have z4 : (w3.alloc (.cells #[] 5)).cell? ⟨wr.heap.size, 4, none⟩ = some (.slice (some ⟨tb, tz, none⟩) 1 tq) := by rw [cell_of_row _ _ 4 _ _ _ OP3.out]; rfl
      have O0 := hide (show (w3.alloc (.cells #[] 5)).ownsRow w3.heap.size 5 1 (.slice (some ⟨w3.heap.size, 0, none⟩) 0 0) 0 [] from World.ownsRow_made w3 #[] 0 (Nat.le_refl _) (Nat.zero_le _) rfl)
      have HA := hide (show ∀ j u, [Value.int .u8 c][j]? = some u → (w3.alloc (.cells #[] 5)).cell? ((⟨tb, tz, none⟩ : Addr).add j) = some u from fun j u hj => by
        have hj0 : j = 0 := by have := (List.getElem?_eq_some_iff.1 hj).1; simp at this; omega
        subst hj0
        simp at hj
        subst hj
        rw [addr_add, World.cell?_of_block (a := ⟨tb, tz + 0, none⟩) (B3.out.block tb htbl)]
        exact htc)
      have hz5 : w3.heap.size ≤ (w3.alloc (.cells #[] 5)).heap.size := by simp
      go_upto_region 6 with (at_builtin; refine wpList_append_lies _ rfl _ _ 22 rfl w3.heap.size 5 j0 (.int .u8 0) 1 1 Tryz.underlying22 hj0 hy0 hy1 hy2 rfl (by decide) (.slice (some ⟨w3.heap.size, 0, none⟩) 0 0) 0 [] rfl (by exact O0.out) ⟨tb, tz, none⟩ 1 tq [.int .u8 c] rfl rfl (by exact HA.out) (by simp [Value.oneCell']) (by omega) (by unfold maxLen; omega) (by omega) (by omega) _ rfl ?_; intro g5 c5 w5 hown5 hgr5 hgq5 hgl5; have OP5 := hide (show w5.heap[wr.heap.size]? = _ from (hgr5.block wr.heap.size (by omega) (fun e => by simp [Value.ownBlock] at e; omega)).trans OP3.out); have x4 : w5.cell? ⟨wr.heap.size, 4, none⟩ = some (.slice (some ⟨tb, tz, none⟩) 1 tq) := (by rw [cell_of_row _ _ 4 _ _ _ OP5.out]; rfl); have f4 := frozen_of_row w5 wr.heap.size 4 _ _ OP5.out)
      rw [Nat.zero_add, List.nil_append] at hown5
      have T5 := hide (show (w5.setCell ⟨wr.heap.size, 4, none⟩ (.slice (some ⟨g5, 0, none⟩) 1 c5)).ownsRow w.heap.size 5 1 (.slice (some ⟨g5, 0, none⟩) 1 c5) 1 [.int .u8 c] from owns_base (owns_of_block hown5 (fun q hq => heap_setCell_other _ _ q _ (by have := (hown5.lt q hq).1; show q ≠ wr.heap.size; omega))) (by omega))
      have OP6 := hide (heap_setCell_same w5 wr.heap.size 4 _ _ (.slice (some ⟨g5, 0, none⟩) 1 c5) OP5.out)
      have B6 := hide ((B3.out.grown hgr5 (by omega) (fun q hq => by simp [Value.ownBlock] at hq; omega)).setCell (p := ⟨wr.heap.size, 4, none⟩) (Nat.le_refl _) (.slice (some ⟨g5, 0, none⟩) 1 c5))
      clear hown5 hgr5 hgq5 hgl5 OP5 x4 f4 z4 O0 HA OP3 B3 BA3
      generalize w5.setCell ⟨wr.heap.size, 4, none⟩ (.slice (some ⟨g5, 0, none⟩) 1 c5) = w6 at *
      have z6 := B6.out.size
      have p0 : w6.cell? ⟨wr.heap.size, 0, none⟩ = some (.int .i64 1) := by rw [cell_of_row _ _ 0 _ _ _ OP6.out]; rfl
      have p1 : w6.cell? ⟨wr.heap.size, 1, none⟩ = some (.int .i64 k) := by rw [cell_of_row _ _ 1 _ _ _ OP6.out]; rfl
      have p2 : w6.cell? ⟨wr.heap.size, 2, none⟩ = some (.int .i64 0) := by rw [cell_of_row _ _ 2 _ _ _ OP6.out]; rfl
      have p3 : w6.cell? ⟨wr.heap.size, 3, none⟩ = some (.int .i64 0) := by rw [cell_of_row _ _ 3 _ _ _ OP6.out]; rfl
      have p4 : w6.cell? ⟨wr.heap.size, 4, none⟩ = some (.slice (some ⟨g5, 0, none⟩) 1 c5) := by rw [cell_of_row _ _ 4 _ _ _ OP6.out]; rfl
      have NC := hide (newcells w6 30 [.int .i64 1, .int .i64 k, .int .i64 0, .int .i64 0, .slice (some ⟨g5, 0, none⟩) 1 c5])
      have BA7 := hide (bAS (Below.refl w6.heap.size w6) (.cells #[.int .i64 1, .int .i64 k, .int .i64 0, .int .i64 0, .slice (some ⟨g5, 0, none⟩) 1 c5] 30))
      have B7 := hide (B6.out.trans (BA7.out.mono z6))
      have T7 := hide (T5.out.alloc (.cells #[.int .i64 1, .int .i64 k, .int .i64 0, .int .i64 0, .slice (some ⟨g5, 0, none⟩) 1 c5] 30))
      obtain ⟨tvs, t1, t2, t3⟩ := HT.out.below B7.out
      have L7 := hide (show (cs.take k).length = k by rw [List.length_take, ← HN.out]; omega)
      rw [L7.out] at t1 t2
      have T1 := hide t1
      have T2 := hide t2
      have T3 := hide t3
      have z7 : w6.heap.size ≤ (w6.alloc (.cells #[.int .i64 1, .int .i64 k, .int .i64 0, .int .i64 0, .slice (some ⟨g5, 0, none⟩) 1 c5] 30)).heap.size := by simp
      clear t1 t2 t3 T5 OP6 HT
      go_wp2_with (at_builtin; refine wpList_append_lies _ rfl _ _ 28 rfl w.heap.size 30 i0 (.agg #[.int .i64 0, .int .i64 0, .int .i64 0, .int .i64 0, .slice none 0 0]) 5 56 Tryz.underlying28 hi0 hz0 hz1 hz2 rfl (by decide) u3 k (opVs 0 tvs) rfl (by exact T1.out) ⟨w6.heap.size, 0, none⟩ 1 1 _ rfl rfl NC.out (by simp [Value.oneCell']) (by omega) (by unfold maxLen; omega) (by omega) (by omega) _ rfl ?_; intro g8 c8 w8 hown8 hgr8 hgq8 hgl8)
      go_roundw
      case rel =>
        refine ⟨k + 1, by omega, by go_num, ?_, HB.out.trans (B7.out.mono hsz) |>.grown hgr8 (by omega) (fun q hq => (T1.out.lt q hq).1)⟩
        have h9 := TyO.app (cs := cs.take k) (c := c) (v' := .slice (some ⟨g8, 0, none⟩) (k + 1) c8) (by rw [L7.out]; exact T1.out) (by rw [L7.out]; exact T2.out) T3.out hgr8 (by rw [L7.out]; exact hown8) T7.out
        rw [HC.out] at h9
        have e2 : cs.take k ++ [cs.getD k 0] = cs.take (k + 1) := by
          have hkl : k < cs.length := by rw [← HN.out]; exact hlt
          rw [List.take_add_one, List.getElem?_eq_getElem hkl]
          simp [List.getD_eq_getElem?_getD, hkl]
        rw [e2] at h9
        exact h9
      case measure => simp [intOf]; omega
    · have hlt' : ¬ (k : Int) < n := by omega
      clear hT hB
      go_wp2
      go_ret
      refine ⟨_, rfl, ?_, HB.out⟩
      have h9 := HT.out
      rw [List.take_of_length_le (by rw [← HN.out]; omega)] at h9
      exact h9
end Go.Proofs.YtbkcbhjejkicjaaGreatDoor

namespace Go.Proofs.YtbkcbhjejkicjaaGreatDoor
open Go Go.RowKit
set_option linter.unusedVariables false

/-- A source of draws, in block p, over the bytes bs. -/
def Src (bs : List Int) (vb : Value) (p : Nat) (w : World) : Prop :=
  (∃ (i : Nat) (x : Int), i ≤ bs.length ∧ 0 ≤ x ∧ x < 18446744073709551616 ∧ w.heap[p]? = some (.cells #[vb, .int .i64 i, .int .u64 x] 61 (0, 0))) ∧
  (∀ z ∈ bs, 0 ≤ z ∧ z ≤ 255) ∧ bs.length ≤ 1048576 ∧
  ((∃ ao cap, vb = .slice ao 0 cap ∧ bs = []) ∨
   (∃ b off cap, vb = .slice (some ⟨b, off, none⟩) bs.length cap ∧ b ≠ p ∧ (0 < bs.length ∧ bs.length ≤ cap ∧ cap ≤ maxLen) ∧ ∀ i, i < bs.length → w.cell? ⟨b, off + i, none⟩ = some (.int .u8 (bs.getD i 0))))

theorem Src.lt {bs : List Int} {vb : Value} {p : Nat} {w : World} (h : Src bs vb p w) : p < w.heap.size := by
  obtain ⟨⟨i, x, _, _, _, hh⟩, _⟩ := h
  rcases Nat.lt_or_ge p w.heap.size with h | h
  · exact h
  · rw [Array.getElem?_eq_none h] at hh; cases hh

/-- The source's own block turned, and what is new. -/
theorem Src.turned {bs : List Int} {vb : Value} {p : Nat} {w w' : World} (h : Src bs vb p w) (hg : w.grownBy w' (some p))
    (hp : ∃ (i : Nat) (x : Int), i ≤ bs.length ∧ 0 ≤ x ∧ x < 18446744073709551616 ∧ w'.heap[p]? = some (.cells #[vb, .int .i64 i, .int .u64 x] 61 (0, 0))) : Src bs vb p w' := by
  obtain ⟨_, h1, h2, h3⟩ := h
  refine ⟨hp, h1, h2, ?_⟩
  rcases h3 with h3 | ⟨b, off, cap, hv, hne, hl, hc⟩
  · exact .inl h3
  · refine .inr ⟨b, off, cap, hv, hne, hl, fun i hi => ?_⟩
    have h4 := hc i hi
    rw [World.cell?_of_block (w := w) (hg.block b (World.block_lt_of_cell? w _ h4) (by simpa using hne))]
    exact h4

theorem Src.done2 {bs : List Int} {vb : Value} {p : Nat} {w W : World} (h : Src bs vb p w) {i : Nat} {a : Value} (hh : w.heap[p]? = some (.cells #[vb, .int .i64 i, a] 61 (0, 0))) (x : Int) (hi : i ≤ bs.length) (h0 : 0 ≤ x) (h1 : x < 18446744073709551616)
    (e1 : W.os = w.os) (e2 : W.tape = w.tape) (e3 : W.output = w.output) (e4 : W.heap = (w.setCell ⟨p, 2, none⟩ (.int .u64 x)).heap) : Src bs vb p W ∧ w.grownBy W (some p) := by
  have hg : w.grownBy W (some p) := ⟨e1, e2, e3, by rw [e4]; simp, fun k hk hne => by rw [e4]; exact heap_setCell_other _ _ _ _ (fun e => hne (by subst e; rfl))⟩
  exact ⟨h.turned hg ⟨i, x, hi, h0, h1, by rw [e4, heap_setCell_same w p 2 _ _ _ hh]; rfl⟩, hg⟩

theorem Src.done1 {bs : List Int} {vb : Value} {p : Nat} {w W : World} (h : Src bs vb p w) {a b : Value} (hh : w.heap[p]? = some (.cells #[vb, a, b] 61 (0, 0))) (i : Nat) (x : Int) (hi : i ≤ bs.length) (h0 : 0 ≤ x) (h1 : x < 18446744073709551616)
    (e1 : W.os = w.os) (e2 : W.tape = w.tape) (e3 : W.output = w.output) (e4 : W.heap = ((w.setCell ⟨p, 1, none⟩ (.int .i64 i)).setCell ⟨p, 2, none⟩ (.int .u64 x)).heap) : Src bs vb p W ∧ w.grownBy W (some p) := by
  have hg : w.grownBy W (some p) := ⟨e1, e2, e3, by rw [e4]; simp, fun k hk hne => by
    have hne' : k ≠ p := fun e => hne (by subst e; rfl)
    rw [e4, heap_setCell_other _ _ _ _ hne', heap_setCell_other _ _ _ _ hne']⟩
  have h2 := heap_setCell_same w p 1 _ _ (.int .i64 i) hh
  exact ⟨h.turned hg ⟨i, x, hi, h0, h1, by rw [e4, heap_setCell_same _ p 2 _ _ _ h2]; rfl⟩, hg⟩

theorem wrapu_bd (n : Int) : 0 ≤ IntKind.u64.wrap n ∧ IntKind.u64.wrap n < 18446744073709551616 := by
  rw [IntKind.wrap_u64]; omega

theorem draw_bd (n k : Int) (hk0 : 0 < k) (hk1 : k ≤ 1048576) : 0 ≤ wrap64 ((IntKind.u64.wrap n / 8589934592).tmod k) ∧ wrap64 ((IntKind.u64.wrap n / 8589934592).tmod k) < k := by
  have h := wrapu_bd n
  generalize IntKind.u64.wrap n = m at *
  have h1 : 0 ≤ m / 8589934592 := by omega
  generalize m / 8589934592 = q at *
  rw [Int.tmod_eq_emod_of_nonneg h1]
  have h2 := Int.emod_nonneg q (show k ≠ 0 by omega)
  have h3 := Int.emod_lt_of_pos q hk0
  rw [IntWalk.wrap64_in _ (by omega)]
  exact ⟨h2, h3⟩

set_option maxHeartbeats 2000000 in
set_option maxRecDepth 100000 in
theorem drawN (bs : List Int) (vb : Value) (p : Nat) (k : Int) (w : World) (hS : Src bs vb p w) (hk0 : 0 < k) (hk1 : k ≤ 1048576) :
    Calls Tryz.prog 11 #[.pointer (some ⟨p, 0, none⟩), .int .i64 k] w fun e w' => ∃ r : Int, e = .returned (.int .i64 r) ∧ (0 ≤ r ∧ r < k) ∧ Src bs vb p w' ∧ w.grownBy w' (some p) := by
  have HS := hide hS
  obtain ⟨⟨i, x, hi, hx0, hx1, hh⟩, hby, hlen, hv⟩ := hS
  have HH := hide hh
  have hc0 : w.cell? ⟨p, 0, none⟩ = some vb := by rw [cell_of_row w p 0 _ _ _ hh]; rfl
  have hc1 : w.cell? ⟨p, 1, none⟩ = some (.int .i64 i) := by rw [cell_of_row w p 1 _ _ _ hh]; rfl
  have hc2 : w.cell? ⟨p, 2, none⟩ = some (.int .u64 x) := by rw [cell_of_row w p 2 _ _ _ hh]; rfl
  have f1 : w.frozen? ⟨p, 1, none⟩ = false := frozen_of_row w p 1 _ _ hh
  have f2 : w.frozen? ⟨p, 2, none⟩ = false := frozen_of_row w p 2 _ _ hh
  clear hh
  by_cases hlt : i < bs.length
  · rcases hv with ⟨ao, cap, rfl, rfl⟩ | ⟨b, off, cap, rfl, hne, ⟨hl0, hl1, hl2⟩, hc⟩
    · exact absurd hlt (Nat.not_lt_zero _)
    · have hcc := hc i hlt
      have hz := hby (bs.getD i 0) (by simp [List.getD_eq_getElem?_getD, hlt])
      generalize bs.getD i 0 = z at *
      clear hc hby
      go_enter Tryz.func11, Tryz.ntmps11
      go_wp2
      go_region
      go_wp2
      go_region
      go_wp2
      · go_ret
        exact ⟨_, rfl, ⟨by omega, by omega⟩, HS.out.done1 HH.out (i + 1) _ (by omega) (wrapu_bd _).1 (wrapu_bd _).2 rfl rfl rfl rfl⟩
      · go_ret
        exact ⟨_, rfl, draw_bd _ _ hk0 hk1, HS.out.done1 HH.out (i + 1) _ (by omega) (wrapu_bd _).1 (wrapu_bd _).2 rfl rfl rfl rfl⟩
  · have hi' : i = bs.length := by omega
    subst hi'
    obtain ⟨ao, cap, rfl⟩ : ∃ ao cap, vb = .slice ao bs.length cap := by
      rcases hv with ⟨ao, cap, rfl, rfl⟩ | ⟨b, off, cap, rfl, _⟩
      · exact ⟨_, _, rfl⟩
      · exact ⟨_, _, rfl⟩
    clear hv hby
    go_enter Tryz.func11, Tryz.ntmps11
    go_wp2
    go_region
    go_wp2
    · go_ret
      exact ⟨_, rfl, ⟨by omega, by omega⟩, HS.out.done2 HH.out _ (by omega) (wrapu_bd _).1 (wrapu_bd _).2 rfl rfl rfl rfl⟩
    · go_ret
      exact ⟨_, rfl, draw_bd _ _ hk0 hk1, HS.out.done2 HH.out _ (by omega) (wrapu_bd _).1 (wrapu_bd _).2 rfl rfl rfl rfl⟩
end Go.Proofs.YtbkcbhjejkicjaaGreatDoor

namespace Go.Proofs.YtbkcbhjejkicjaaGreatDoor
open Go Go.RowKit
set_option linter.unusedVariables false

set_option maxHeartbeats 400000 in
theorem drawNN (bs : List Int) (vb : Value) (p : Nat) (k : Int) (w : World) (hS : Src bs vb p w) (hk0 : 0 < k) (hk1 : k ≤ 1048576) :
    Calls Tryz.prog 5 #[.pointer (some ⟨p, 0, none⟩), .int .i64 k] w fun e w' => ∃ r : Int, e = .returned (.int .i64 r) ∧ (0 ≤ r ∧ r < k) ∧ Src bs vb p w' ∧ w.grownBy w' (some p) := by
  have HS := hide hS
  clear hS
  go_enter Tryz.func5, Tryz.ntmps5
  go_wp2_with fail
  refine (drawN bs vb p k w HS.out hk0 hk1).mono ?_
  rintro e w1 ⟨r, rfl, hr, hs, hg⟩
  have H1 := hide hs
  have H2 := hide hg
  clear hs hg
  go_wp2
  go_ret
  exact ⟨_, rfl, hr, H1.out, H2.out⟩

set_option maxHeartbeats 400000 in
theorem new1 (bs : List Int) (vb : Value) (w : World) (h : Rd .u8 w vb bs) (hb : ∀ z ∈ bs, 0 ≤ z ∧ z ≤ 255) (hn : bs.length ≤ 1048576) :
    Calls Tryz.prog 10 #[vb] w fun e w' => e = .returned (.pointer (some ⟨w.heap.size, 0, none⟩)) ∧ Src bs vb w.heap.size w' ∧ Below w.heap.size w w' := by
  have HB := hide hb
  have HR := hide h
  obtain ⟨ao, cap, rfl⟩ : ∃ ao cap, vb = .slice ao bs.length cap := by
    rcases h with ⟨ao, cap, rfl, rfl⟩ | ⟨b, off, cap, rfl, _⟩
    · exact ⟨_, _, rfl⟩
    · exact ⟨_, _, rfl⟩
  clear hb h
  go_enter Tryz.func10, Tryz.ntmps10
  go_wp2
  go_ret
  have hbw := (Below.refl w.heap.size w).alloc (Nat.le_refl _) (.cells #[.slice ao bs.length cap, .int .i64 0, .int .u64 (88172645463325252 + bs.length)] 61)
  refine ⟨rfl, ⟨⟨0, 88172645463325252 + bs.length, Nat.zero_le _, by omega, by omega, heap_alloc_new _ _⟩, HB.out, hn, ?_⟩, hbw⟩
  rcases HR.out with ⟨ao', cap', e, e2⟩ | ⟨b, off, cap', e, hl, hc⟩
  · subst e2; exact .inl ⟨_, _, rfl, rfl⟩
  · refine .inr ⟨b, off, cap', e, ?_, hl, fun i hi => ?_⟩
    · have := World.block_lt_of_cell? w _ (hc 0 hl.1)
      simp at this; omega
    · have h4 := hc i hi
      rw [hbw.cell (p := ⟨b, off + i, none⟩) (World.block_lt_of_cell? w _ h4)]
      exact h4

set_option maxHeartbeats 400000 in
theorem new2 (bs : List Int) (vb : Value) (w : World) (h : Rd .u8 w vb bs) (hb : ∀ z ∈ bs, 0 ≤ z ∧ z ≤ 255) (hn : bs.length ≤ 1048576) :
    Calls Tryz.prog 4 #[vb] w fun e w' => e = .returned (.pointer (some ⟨w.heap.size, 0, none⟩)) ∧ Src bs vb w.heap.size w' ∧ Below w.heap.size w w' := by
  have HB := hide hb
  have HR := hide h
  clear hb h
  go_enter Tryz.func4, Tryz.ntmps4
  go_wp2_with fail
  refine (new1 bs vb w HR.out HB.out hn).mono ?_
  rintro e w1 ⟨rfl, hs, hbw⟩
  have H1 := hide hs
  have H2 := hide hbw
  clear hs hbw
  go_wp2
  go_ret
  exact ⟨rfl, H1.out, H2.out⟩
end Go.Proofs.YtbkcbhjejkicjaaGreatDoor

namespace Go.Proofs.YtbkcbhjejkicjaaGreatDoor
open Go
theorem rowTieI : Rows.fnTypingRow.laidByTextAt .later Tryz.pinned [.handle, .data] true := fnTyping_row_tie
end Go.Proofs.YtbkcbhjejkicjaaGreatDoor

