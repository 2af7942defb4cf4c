import Derived.Test.YtbgngikejgihgafDoorProg
import Derived.Test.YtbgngikejgihgafDoorMq01
import Derived.Test.YtbgngikejgihgafDoorMq30
import Derived.OwnWalk
import Derived.WalkKit
import Derived.WalkLawsBesides
namespace Go.Proofs.YtbgngikejgihgafDoor
open Go Go.RowKit
set_option linter.unusedVariables false

set_option maxHeartbeats 1000000 in
set_option maxRecDepth 100000 in
theorem offS (zs : List Int) (v : Value) (line col : Int) (w : World) (h : Rd .i32 w v zs) (hn : zs.length ≤ 8192) :
    Calls Tryd.prog 57 #[v, .int .i64 line, .int .i64 col] w fun e w' => e = .returned (.int .i64 (offL zs line col)) ∧ w' = w := by
  obtain ⟨ao, cap, rfl⟩ : ∃ ao cap, v = .slice ao zs.length cap := by
    rcases h with ⟨ao, cap, rfl, rfl⟩ | ⟨b, off, cap, rfl, _⟩
    · exact ⟨_, _, rfl⟩
    · exact ⟨_, _, rfl⟩
  have HC : Hid (∀ i, i < zs.length → ∃ b off, ao = some ⟨b, off, none⟩ ∧ w.cell? ⟨b, off + i, none⟩ = some (.int .i32 (zs.getD i 0))) := hide (by
    intro i hi
    rcases h with ⟨a1, c1, e, rfl⟩ | ⟨b, off, c1, e, hp, hc⟩
    · simp at hi
    · cases e; exact ⟨b, off, rfl, hc i hi⟩)
  have HZ := hide (lc_zero zs)
  have HB := hide (fun i hi => lc_brk zs i hi)
  have HO := hide (fun i hi => lc_col zs i hi)
  have HD := hide (fun i hi => lc_bd zs i hi)
  have HS := hide (fun (k : Nat) (hk : k ≤ zs.length) h1 h2 => offL_some (zs := zs) (line := line) (col := col) (k := k) hk h1 h2)
  have HNO := hide (offL_none (zs := zs) (line := line) (col := col))
  generalize offL zs line col = res at *
  clear h
  generalize hN : zs.length = n at *
  go_enter Tryd.func57, Tryd.ntmps57
  go_wp2_with fail
  go_loop [7, 8, 9] (fun x y i => ∃ j : Nat, j ≤ n + 1 ∧ i = .int .i64 j ∧ (∀ q, q < j → ¬ (lcL zs q = line ∧ lcC zs q = col)) ∧ (j ≤ n → x = .int .i64 (lcL zs j) ∧ y = .int .i64 (lcC zs j))) (fun x y i => n + 1 - (intOf i).toNat)
  case atStart => exact ⟨0, Nat.zero_le _, rfl, fun q hq => by omega, fun _ => ⟨by rw [HZ.out.1], by rw [HZ.out.2]⟩⟩
  case round =>
    obtain ⟨j, hj, rfl, hno, hxy⟩ := hrel
    have HNJ := hide hno
    clear hno
    by_cases hjn : j ≤ n
    · obtain ⟨rfl, rfl⟩ := hxy hjn
      have hd := HD.out j hjn
      have hjn' : (j : Int) ≤ n := by omega
      have HSJ := hide (HS.out j hjn)
      have HNX : Hid (¬ (lcL zs j = line ∧ lcC zs j = col) → ∀ q, q < j + 1 → ¬ (lcL zs q = line ∧ lcC zs q = col)) := hide fun h q hq => by
        by_cases e : q = j
        · subst e; exact h
        · exact HNJ.out q (by omega)
      have hB := fun h => HB.out j h
      have hO := fun h => HO.out j h
      generalize lcL zs j = x at *
      generalize lcC zs j = y at *
      by_cases h1 : x = line
      · by_cases h2 : y = col
        · have HE := hide (HSJ.out h1 h2)
          subst h1 h2
          clear hB hO hxy
          go_wp2
          go_ret
          exact ⟨by rw [HE.out]; rfl, rfl⟩
        · have HNY := hide (HNX.out (fun h => h2 h.2))
          subst h1
          clear hxy
          by_cases hjl : j < n
          · obtain ⟨b, off, rfl, hx⟩ := HC.out j (by omega)
            have hB := hB hjl
            have hO := hO hjl
            have hjl' : (j : Int) < n := by omega
            generalize zs.getD j 0 = z at *
            by_cases hz : z = 10
            · have hE := hide (hB hz)
              subst hz
              clear hB hO
              go_wp2
              go_round
              case rel => exact ⟨j + 1, by omega, by go_num, HNY.out, fun _ => ⟨by rw [hE.out.1], by rw [hE.out.2]⟩⟩
              case measure => simp [intOf]; omega
            · have hE := hide (hO hz)
              clear hB hO
              go_wp2
              go_round
              case rel => exact ⟨j + 1, by omega, by go_num, HNY.out, fun _ => ⟨by rw [hE.out.1], by rw [hE.out.2]⟩⟩
              case measure => simp [intOf]; omega
          · have hjl' : ¬ (j : Int) < n := by omega
            clear hB hO
            go_wp2
            go_round
            case rel => exact ⟨j + 1, by omega, by go_num, HNY.out, fun h => by omega⟩
            case measure => simp [intOf]; omega
      · have HNY := hide (HNX.out (fun h => h1 h.1))
        clear hxy
        by_cases hjl : j < n
        · obtain ⟨b, off, rfl, hx⟩ := HC.out j (by omega)
          have hB := hB hjl
          have hO := hO hjl
          have hjl' : (j : Int) < n := by omega
          generalize zs.getD j 0 = z at *
          by_cases hz : z = 10
          · have hE := hide (hB hz)
            subst hz
            clear hB hO
            go_wp2
            go_round
            case rel => exact ⟨j + 1, by omega, by go_num, HNY.out, fun _ => ⟨by rw [hE.out.1], by rw [hE.out.2]⟩⟩
            case measure => simp [intOf]; omega
          · have hE := hide (hO hz)
            clear hB hO
            go_wp2
            go_round
            case rel => exact ⟨j + 1, by omega, by go_num, HNY.out, fun _ => ⟨by rw [hE.out.1], by rw [hE.out.2]⟩⟩
            case measure => simp [intOf]; omega
        · have hjl' : ¬ (j : Int) < n := by omega
          clear hB hO
          go_wp2
          go_round
          case rel => exact ⟨j + 1, by omega, by go_num, HNY.out, fun h => by omega⟩
          case measure => simp [intOf]; omega
    · have hjn' : ¬ (j : Int) ≤ n := by omega
      have HE := hide (HNO.out (fun q hq => HNJ.out q (by omega)))
      clear hxy
      go_wp2
      go_ret
      exact ⟨by rw [HE.out]; rfl, rfl⟩
end Go.Proofs.YtbgngikejgihgafDoor
