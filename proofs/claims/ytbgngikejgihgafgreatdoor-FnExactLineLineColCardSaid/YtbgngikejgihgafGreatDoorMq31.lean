import Derived.WalkKit
import Derived.Test.YtbgngikejgihgafGreatDoorMq30
import Derived.Test.YtbgngikejgihgafGreatDoorProg
import Derived.Test.YtbgngikejgihgafGreatDoorMq01
import Derived.OwnWalk
import Derived.WalkLawsBesides
namespace Go.Proofs.YtbgngikejgihgafGreatDoor
open Go Go.RowKit
set_option linter.unusedVariables false

theorem ls_succ (zs : List Int) (t : Nat) : ls zs (t + 1) = bb zs t := by simp [ls]
theorem bb_pos (zs : List Int) (n : Nat) (h : n < bkn zs) : 0 < bb zs n := (bb_key zs 0 n h).1 (by simp [bkn])
theorem bkn_ls (zs : List Int) (t : Nat) (h : t ≤ bkn zs) : bkn (zs.take (ls zs t)) = t := by
  cases t with
  | zero => simp [ls, bkn]
  | succ t =>
    rw [ls_succ]
    have h1 := bb_key zs (bb zs t) t (by omega)
    have h2 := bb_key zs (bb zs t - 1) t (by omega)
    have h3 := bb_pos zs t (by omega)
    have h4 := bb_le zs t
    have h5 := bkn_take_succ zs (bb zs t - 1) (by omega)
    rw [show bb zs t - 1 + 1 = bb zs t by omega] at h5
    split at h5 <;> omega
theorem bb_step (zs : List Int) (t : Nat) (h : t < bkn zs) : bb zs t = ls zs t + bb (zs.drop (ls zs t)) 0 ∧ 0 < bkn (zs.drop (ls zs t)) ∧ ls zs t < zs.length := by
  have h1 := bkn_ls zs t (by omega)
  have h2 := bkn_append (zs.take (ls zs t)) (zs.drop (ls zs t))
  rw [List.take_append_drop, h1] at h2
  have h3 := bkn_le (zs.drop (ls zs t))
  rw [List.length_drop] at h3
  have h4 := bb_right (zs.take (ls zs t)) (zs.drop (ls zs t)) t (by omega) (by omega)
  rw [List.take_append_drop, h1, Nat.sub_self, List.length_take] at h4
  exact ⟨by omega, by omega, by omega⟩
/-- The first break. -/
theorem bb_first (zs : List Int) (k : Nat) (h : 0 < bkn zs) (hk : k < bb zs 0) : (zs.getD k 0 = 10 → bb zs 0 = k + 1) ∧ (¬ zs.getD k 0 = 10 → k + 1 < bb zs 0) ∧ k < zs.length := by
  have h1 := bb_le zs 0
  have h2 := bb_key zs k 0 h
  have h3 := bb_key zs (k + 1) 0 h
  have h4 := bkn_take_succ zs k (by omega)
  refine ⟨fun hz => ?_, fun hz => ?_, by omega⟩
  · rw [if_pos hz] at h4; omega
  · rw [if_neg hz] at h4; omega
theorem seek_nonneg (S : List Int) (m : Pc → Int) : ∀ (T : AT) (k : Int), T.wp S → 0 ≤ (seekT m T k).2.1 ∧ 0 ≤ (seekT m T k).2.2.1
  | .nil, _, _ => by simp [seekT]
  | .node l p r, k, hw => by
    obtain ⟨hl, hp, hr⟩ := hw
    have e1 := AT.tx_len hl
    have e2 := AT.tx_brk hl
    have e3 := (brk_bd (l.tx S)).1
    have e4 := hp.2.2.2
    have e5 := (brk_bd (ptx S p)).1
    have e6 := hp.2.1
    have i1 := seek_nonneg S m l k hl
    have i2 := seek_nonneg S m r (k - sumM m (l.told 0) - m p) hr
    simp only [seekT]
    split
    · exact i1
    · split
      · simp only; omega
      · simp only; omega
theorem seekP_nil (S : List Int) : ∀ (T : AT) (k : Int), T.wp S → 0 ≤ k → 0 < (seekP (fun p => p.len) T k).len ∨ (seekP (fun p => p.len) T k).off = 0
  | .nil, _, _, _ => .inr rfl
  | .node l p r, k, hw, h0 => by
    obtain ⟨hl, hp, hr⟩ := hw
    have e1 := AT.tx_len hl
    have e0 : sumM (fun p => p.len) (l.told 0) = l.rns := by rw [sumM_len, AT.rns_told]
    simp only [seekP, e0]
    split
    · exact seekP_nil S l k hl h0
    · split
      · left; omega
      · exact seekP_nil S r _ hr (by omega)
/-- Line and column by counting. -/
def lcL (zs : List Int) (k : Nat) : Int := (bkn (zs.take k) : Nat)
def lcC (zs : List Int) (k : Nat) : Int := (k : Int) - (ls zs (bkn (zs.take k)) : Nat)
theorem lc_zero (zs : List Int) : lcL zs 0 = 0 ∧ lcC zs 0 = 0 := by simp [lcL, lcC, bkn, ls]
theorem lc_brk (zs : List Int) (k : Nat) (h : k < zs.length) (hz : zs.getD k 0 = 10) : lcL zs (k + 1) = lcL zs k + 1 ∧ lcC zs (k + 1) = 0 := by
  have h1 := bkn_take_succ zs k h
  rw [if_pos hz] at h1
  have h2 := ls_step zs k h hz
  unfold lcL lcC
  rw [h2, h1]
  omega
theorem lc_col (zs : List Int) (k : Nat) (h : k < zs.length) (hz : ¬ zs.getD k 0 = 10) : lcL zs (k + 1) = lcL zs k ∧ lcC zs (k + 1) = lcC zs k + 1 := by
  have h1 := bkn_take_succ zs k h
  rw [if_neg hz] at h1
  have h2 : bkn (zs.take (k + 1)) = bkn (zs.take k) := by omega
  unfold lcL lcC
  rw [h2]
  omega
theorem lc_bd (zs : List Int) (k : Nat) (h : k ≤ zs.length) : 0 ≤ lcL zs k ∧ lcL zs k ≤ k ∧ 0 ≤ lcC zs k ∧ lcC zs k ≤ k := by
  have h1 := bkn_le (zs.take k)
  have h2 := ls_low zs k h
  rw [List.length_take] at h1
  unfold lcL lcC
  omega
/-- The offset of a line and a column, or none. -/
def offL (zs : List Int) (line col : Int) : Int :=
  if 0 ≤ line ∧ line ≤ brk zs ∧ 0 ≤ col ∧ (ls zs line.toNat : Int) + col ≤ (le zs line.toNat : Nat) then (ls zs line.toNat : Int) + col else -1
theorem offL_some {zs : List Int} {line col : Int} {k : Nat} (hk : k ≤ zs.length) (h1 : lcL zs k = line) (h2 : lcC zs k = col) : offL zs line col = k := by
  have h3 := ls_low zs k hk
  have h4 := lc_only zs k hk
  have h5 := bkn_take zs k
  subst h1 h2
  unfold offL lcL lcC
  rw [brk_bkn, Int.toNat_natCast, if_pos (by omega)]
  omega
theorem offL_none {zs : List Int} {line col : Int} (h : ∀ k, k ≤ zs.length → ¬ (lcL zs k = line ∧ lcC zs k = col)) : offL zs line col = -1 := by
  unfold offL
  split
  · rename_i hc
    exfalso
    rw [brk_bkn] at hc
    obtain ⟨l, rfl⟩ : ∃ l : Nat, line = l := ⟨line.toNat, by omega⟩
    obtain ⟨c, rfl⟩ : ∃ c : Nat, col = c := ⟨col.toNat, by omega⟩
    rw [Int.toNat_natCast] at hc
    obtain ⟨h1, h2⟩ := lc_there zs l c (by omega) (by omega)
    refine h (ls zs l + c) h1 ⟨by rw [lcL, h2], ?_⟩
    rw [lcC, h2]
    omega
  · rfl
end Go.Proofs.YtbgngikejgihgafGreatDoor

namespace Go.Proofs.YtbgngikejgihgafGreatDoor
open Go Go.RowKit
set_option linter.unusedVariables false

set_option maxHeartbeats 1000000 in
set_option maxRecDepth 100000 in
theorem lcS (zs : List Int) (v : Value) (k : Nat) (w : World) (h : Rd .i32 w v zs) (hn : zs.length ≤ 8192) (hk : k ≤ zs.length) :
    Calls Tryz.prog 59 #[v, .int .i64 (k : Int)] w fun e w' => e = .returned (.tuple #[.int .i64 (lcL zs k), .int .i64 (lcC zs k)]) ∧ w' = w := by
  obtain ⟨ao, cap, rfl⟩ : ∃ ao cap, v = .slice ao zs.length cap := by
    rcases h with ⟨ao, cap, rfl, rfl⟩ | ⟨b, off, cap, rfl, _⟩
    · exact ⟨_, _, rfl⟩
    · exact ⟨_, _, rfl⟩
  have HC : Hid (∀ i, i < zs.length → ∃ b off, ao = some ⟨b, off, none⟩ ∧ w.cell? ⟨b, off + i, none⟩ = some (.int .i32 (zs.getD i 0))) := hide (by
    intro i hi
    rcases h with ⟨a1, c1, e, rfl⟩ | ⟨b, off, c1, e, hp, hc⟩
    · simp at hi
    · cases e; exact ⟨b, off, rfl, hc i hi⟩)
  have HZ := hide (lc_zero zs)
  have HB := hide (fun i hi => lc_brk zs i hi)
  have HO := hide (fun i hi => lc_col zs i hi)
  have HD := hide (fun i hi => lc_bd zs i hi)
  clear h
  generalize hN : zs.length = n at *
  go_enter Tryz.func59, Tryz.ntmps59
  go_wp2_with fail
  go_loop [6, 7, 8] (fun x y i => ∃ j : Nat, j ≤ k ∧ i = .int .i64 j ∧ x = .int .i64 (lcL zs j) ∧ y = .int .i64 (lcC zs j)) (fun x y i => k - (intOf i).toNat)
  case atStart => exact ⟨0, Nat.zero_le _, rfl, by rw [HZ.out.1], by rw [HZ.out.2]⟩
  case round =>
    obtain ⟨j, hj, rfl, rfl, rfl⟩ := hrel
    have hd := HD.out j (by omega)
    by_cases hjk : j < k
    · obtain ⟨b, off, rfl, hx⟩ := HC.out j (by omega)
      have hB := HB.out j (by omega)
      have hO := HO.out j (by omega)
      have hjk' : (j : Int) < k := by omega
      have hjn : (j : Int) < n := by omega
      generalize zs.getD j 0 = z at *
      generalize lcL zs j = x at *
      generalize lcC zs j = y at *
      by_cases hz : z = 10
      · have hE := hide (hB hz)
        subst hz
        clear hB hO
        go_wp2
        go_round
        case rel => exact ⟨j + 1, by omega, by go_num, by rw [hE.out.1], by rw [hE.out.2]⟩
        case measure => simp [intOf]; omega
      · have hE := hide (hO hz)
        clear hB hO
        go_wp2
        go_round
        case rel => exact ⟨j + 1, by omega, by go_num, by rw [hE.out.1], by rw [hE.out.2]⟩
        case measure => simp [intOf]; omega
    · obtain rfl : j = k := by omega
      have hge : ¬ (j : Int) < (j : Int) := by omega
      go_wp2
      go_ret2
      exact ⟨rfl, rfl⟩

end Go.Proofs.YtbgngikejgihgafGreatDoor
