import Derived.Test.YtmpclndnjjhijadDoorProg
import Derived.Test.YtmpclndnjjhijadDoorBegins
import Derived.WalkKit
import Derived.WalkLawsBesides
namespace Go.Proofs.YtmpclndnjjhijadDoor
open Go Go.RowKit
set_option linter.unusedVariables false

theorem step_ascii {a : Int} {r : List Int} (h : a < 128) : step (a :: r) = (a, 1) := by
  rcases shape (show a :: r ≠ [] by simp) with ⟨x, e⟩ | ⟨x, y, e⟩ | ⟨x, y, z, e⟩ | ⟨x, y, z, u, q, e⟩
  all_goals
    cases e
    simp [step, h]

theorem rd_take {w : World} {b off cap k : Nat} {bs : List Int} (hc : ∀ i, i < bs.length → w.cell? ⟨b, off + i, none⟩ = some (.int .u8 (bs.getD i 0))) (h1 : 1 ≤ k) (hk : k ≤ bs.length) (hcp : bs.length ≤ cap) (hcm : cap ≤ maxLen) : Rd .u8 w (.slice (some ⟨b, off, none⟩) k cap) (bs.take k) := by
  have hl : (bs.take k).length = k := by rw [List.length_take]; omega
  refine .inr ⟨b, off, cap, by rw [hl], ⟨by omega, by omega, hcm⟩, fun i hi => ?_⟩
  rw [hc i (by omega), List.getD_eq_getElem?_getD, List.getD_eq_getElem?_getD, List.getElem?_take, if_pos (by omega)]

theorem bytes_take {bs : List Int} (h : bytes bs) (k : Nat) : bytes (bs.take k) := fun z hz => h z (List.mem_of_mem_take hz)

set_option maxHeartbeats 4000000 in
set_option maxRecDepth 100000 in
theorem l1Step (bs : List Int) (v : Value) (w : World) (h : Rd .u8 w v bs) (hb : bytes bs) (hne : bs ≠ []) (hn : bs.length ≤ 1048576) :
    Calls Tryd.prog 24 #[v] w fun e w' => e = .returned (.tuple #[.int .i32 (step bs).1, .int .i64 (step bs).2]) ∧ Below w.heap.size w w' := by
  have hpos : 0 < bs.length := List.length_pos_iff.2 hne
  rcases h with ⟨_, _, _, e⟩ | ⟨b, off, cap, rfl, ⟨hp, hcp, hcm⟩, hc⟩
  · exact absurd e hne
  have hcB : b < w.heap.size := World.block_lt_of_cell? w _ (hc 0 hp)
  have hb0 := hb (bs.getD 0 0) (by rw [List.getD_eq_getElem?_getD, List.getElem?_eq_getElem hp]; simp)
  have hx0 : w.cell? ⟨b, off, none⟩ = some (.int .u8 (bs.getD 0 0)) := hc 0 hp
  have hs0 : bs.getD 0 0 < 128 → step bs = (bs.getD 0 0, 1) := by
    cases bs with
    | nil => exact absurd rfl hne
    | cons a r => exact fun h => step_ascii h
  have HS0 := hide hs0
  generalize bs.getD 0 0 = a at hx0 hb0 HS0
  obtain ⟨ha0, ha1⟩ := hb0
  clear hs0
  have hp' : (0 : Int) < (bs.length : Int) := by omega
  by_cases hasc : a < 128
  · rw [HS0.out hasc]
    go_enter Tryd.func24, Tryd.ntmps24
    go_wp2
    go_ret2
    exact ⟨rfl, Below.refl _ _⟩
  · have HRD := hide (fun (W : World) (hW : Below w.heap.size w W) (k : Nat) (h1 : 1 ≤ k) (hk : k ≤ bs.length) => rd_take (w := W) (k := k) (fun i hi => (hW.cell (p := ⟨b, off + i, none⟩) hcB).trans (hc i hi)) h1 hk hcp hcm)
    have HBY := hide hb
    have HNE := hide hne
    unfold maxLen at hcm
    clear hc hb hne HS0
    go_enter Tryd.func24, Tryd.ntmps24
    go_wp2
    go_loopw [4] (fun i wr => ∃ k : Nat, 1 ≤ k ∧ k ≤ 5 ∧ k ≤ bs.length + 1 ∧ i = .int .i64 k ∧ (∀ j, 1 ≤ j → j < k → formOk (bs.take j) = false) ∧ Below w.heap.size w wr) (fun i _ => 5 - (intOf i).toNat)
    case atStart => exact ⟨1, by omega, by omega, by omega, rfl, fun j h1 h2 => by omega, Below.refl _ _⟩
    case round =>
      obtain ⟨k, hk1, hk5, hkl, rfl, hno, hbw⟩ := hrel
      have HNO := hide hno
      have HBW := hide hbw
      have hsz := hbw.size
      clear hno hbw
      by_cases hk : k ≤ 4 ∧ k ≤ bs.length
      · obtain ⟨hk4, hkb⟩ := hk
        have hg1 : (k : Int) ≤ 4 := by omega
        have hg2 : (k : Int) ≤ (bs.length : Int) := by omega
        have hlt : (bs.take k).length = k := by rw [List.length_take]; omega
        have HLT := hide hlt
        clear hlt
        go_wp2_with fail
        refine (l1Form (bs.take k) _ _ (HRD.out wr HBW.out k hk1 hkb) (bytes_take HBY.out k) (by rw [HLT.out]; omega) (by rw [HLT.out]; omega)).mono ?_
        rintro e w1 ⟨n, rfl, hn1, hb1⟩
        have HB1 := hide (HBW.out.trans (hb1.mono hsz))
        cases hok : formOk (bs.take k) with
        | true =>
          have hst := step_form HBY.out hk1 hk4 hkb hok HNO.out
          have hbd := numZ_le HBY.out hok
          rw [← hn1 hok] at hst hbd
          obtain ⟨hbd0, hbd1⟩ := hbd
          have HST := hide hst
          clear hst hb1 hn1 hok
          go_wp2
          go_ret2
          exact ⟨by rw [HST.out]; rfl, HB1.out⟩
        | false =>
          have HOK := hide hok
          clear hok hb1 hn1
          go_wp2
          go_roundw
          case rel =>
            have hnx : ∀ j, 1 ≤ j → j < k + 1 → formOk (bs.take j) = false := fun j g1 g2 => by
              by_cases g3 : j = k
              · rw [g3]; exact HOK.out
              · exact HNO.out j g1 (by omega)
            exact ⟨k + 1, by omega, by omega, by omega, by go_num, hnx, HB1.out⟩
          case measure => simp [intOf]; omega
      · have HNF := hide (show ∀ j, 1 ≤ j → j ≤ 4 → j ≤ bs.length → formOk (bs.take j) = false from fun j g1 g2 g3 => HNO.out j g1 (by omega))
        have hex : ¬ ((k : Int) ≤ 4) ∨ ((k : Int) ≤ 4 ∧ ¬ (k : Int) ≤ (bs.length : Int)) := by omega
        clear HNO
        rcases hex with hex | ⟨hex1, hex2⟩
        · go_wp2
          go_loopw [7, 8] (fun tk i wr => ∃ k m : Nat, 1 ≤ k ∧ k ≤ 4 ∧ k ≤ bs.length + 1 ∧ 1 ≤ m ∧ m ≤ 3 ∧ m ≤ bs.length ∧ tk = .int .i64 m ∧ i = .int .i64 k ∧ (m = 1 ∨ begOk (bs.take m)) ∧ (∀ j, m < j → j < k → ¬ begOk (bs.take j)) ∧ Below w.heap.size w wr) (fun _ i _ => 4 - (intOf i).toNat)
          case atStart => exact ⟨1, 1, by omega, by omega, by omega, by omega, by omega, by omega, rfl, rfl, .inl rfl, fun j h1 h2 => by omega, HBW.out⟩
          case round =>
            obtain ⟨k, m, hk1, hk5, hkl, hm1, hm3, hml, rfl, rfl, hm, hmax, hbw⟩ := hrel
            have HM := hide hm
            have HMX := hide hmax
            have HBX := hide hbw
            have hsy := hbw.size
            clear hm hmax hbw
            by_cases hk : k ≤ 3 ∧ k ≤ bs.length
            · obtain ⟨hk4, hkb⟩ := hk
              have hg1 : (k : Int) ≤ 3 := by omega
              have hg2 : (k : Int) ≤ (bs.length : Int) := by omega
              have HLT := hide (show (bs.take k).length = k by rw [List.length_take]; omega)
              go_wp2_with fail
              refine (l1Begins (bs.take k) _ _ (HRD.out wr HBX.out k hk1 hkb) (bytes_take HBY.out k) (by rw [HLT.out]; omega) (by rw [HLT.out]; omega)).mono ?_
              rintro e w1 ⟨r, rfl, hr, hb1⟩
              have HB1 := hide (HBX.out.trans (hb1.mono hsy))
              have HR := hide hr
              clear hb1 hr
              cases r with
              | true =>
                have HBG := hide (HR.out.1 rfl)
                clear HR
                go_wp2
                go_roundw
                case rel => exact ⟨k + 1, k, by omega, by omega, by omega, by omega, by omega, by omega, rfl, by go_num, .inr HBG.out, fun j g1 g2 => by omega, HB1.out⟩
                case measure => simp [intOf]; omega
              | false =>
                have HBG := hide (show ¬ begOk (bs.take k) from fun hh => by have := HR.out.2 hh; cases this)
                clear HR
                go_wp2
                go_roundw
                case rel =>
                  have hnx : ∀ j, m < j → j < k + 1 → ¬ begOk (bs.take j) := fun j g1 g2 => by
                    by_cases g3 : j = k
                    · rw [g3]; exact HBG.out
                    · exact HMX.out j g1 (by omega)
                  exact ⟨k + 1, m, by omega, by omega, by omega, by omega, by omega, by omega, rfl, by go_num, HM.out, hnx, HB1.out⟩
                case measure => simp [intOf]; omega
            · have HST := hide (step_rep HBY.out HNE.out HNF.out hm1 hm3 hml HM.out (fun j g1 g2 g3 => HMX.out j g1 (by omega)))
              have hex : ¬ ((k : Int) ≤ 3) ∨ ((k : Int) ≤ 3 ∧ ¬ (k : Int) ≤ (bs.length : Int)) := by omega
              rcases hex with hex | ⟨hex1, hex2⟩
              · go_wp2
                go_ret2
                exact ⟨by rw [HST.out]; rfl, HBX.out⟩
              · go_wp2
                go_ret2
                exact ⟨by rw [HST.out]; rfl, HBX.out⟩
        · go_wp2
          go_loopw [7, 8] (fun tk i wr => ∃ k m : Nat, 1 ≤ k ∧ k ≤ 4 ∧ k ≤ bs.length + 1 ∧ 1 ≤ m ∧ m ≤ 3 ∧ m ≤ bs.length ∧ tk = .int .i64 m ∧ i = .int .i64 k ∧ (m = 1 ∨ begOk (bs.take m)) ∧ (∀ j, m < j → j < k → ¬ begOk (bs.take j)) ∧ Below w.heap.size w wr) (fun _ i _ => 4 - (intOf i).toNat)
          case atStart => exact ⟨1, 1, by omega, by omega, by omega, by omega, by omega, by omega, rfl, rfl, .inl rfl, fun j h1 h2 => by omega, HBW.out⟩
          case round =>
            obtain ⟨k, m, hk1, hk5, hkl, hm1, hm3, hml, rfl, rfl, hm, hmax, hbw⟩ := hrel
            have HM := hide hm
            have HMX := hide hmax
            have HBX := hide hbw
            have hsy := hbw.size
            clear hm hmax hbw
            by_cases hk : k ≤ 3 ∧ k ≤ bs.length
            · obtain ⟨hk4, hkb⟩ := hk
              have hg1 : (k : Int) ≤ 3 := by omega
              have hg2 : (k : Int) ≤ (bs.length : Int) := by omega
              have HLT := hide (show (bs.take k).length = k by rw [List.length_take]; omega)
              go_wp2_with fail
              refine (l1Begins (bs.take k) _ _ (HRD.out wr HBX.out k hk1 hkb) (bytes_take HBY.out k) (by rw [HLT.out]; omega) (by rw [HLT.out]; omega)).mono ?_
              rintro e w1 ⟨r, rfl, hr, hb1⟩
              have HB1 := hide (HBX.out.trans (hb1.mono hsy))
              have HR := hide hr
              clear hb1 hr
              cases r with
              | true =>
                have HBG := hide (HR.out.1 rfl)
                clear HR
                go_wp2
                go_roundw
                case rel => exact ⟨k + 1, k, by omega, by omega, by omega, by omega, by omega, by omega, rfl, by go_num, .inr HBG.out, fun j g1 g2 => by omega, HB1.out⟩
                case measure => simp [intOf]; omega
              | false =>
                have HBG := hide (show ¬ begOk (bs.take k) from fun hh => by have := HR.out.2 hh; cases this)
                clear HR
                go_wp2
                go_roundw
                case rel =>
                  have hnx : ∀ j, m < j → j < k + 1 → ¬ begOk (bs.take j) := fun j g1 g2 => by
                    by_cases g3 : j = k
                    · rw [g3]; exact HBG.out
                    · exact HMX.out j g1 (by omega)
                  exact ⟨k + 1, m, by omega, by omega, by omega, by omega, by omega, by omega, rfl, by go_num, HM.out, hnx, HB1.out⟩
                case measure => simp [intOf]; omega
            · have HST := hide (step_rep HBY.out HNE.out HNF.out hm1 hm3 hml HM.out (fun j g1 g2 g3 => HMX.out j g1 (by omega)))
              have hex : ¬ ((k : Int) ≤ 3) ∨ ((k : Int) ≤ 3 ∧ ¬ (k : Int) ≤ (bs.length : Int)) := by omega
              rcases hex with hex | ⟨hex1, hex2⟩
              · go_wp2
                go_ret2
                exact ⟨by rw [HST.out]; rfl, HBX.out⟩
              · go_wp2
                go_ret2
                exact ⟨by rw [HST.out]; rfl, HBX.out⟩
end Go.Proofs.YtmpclndnjjhijadDoor
