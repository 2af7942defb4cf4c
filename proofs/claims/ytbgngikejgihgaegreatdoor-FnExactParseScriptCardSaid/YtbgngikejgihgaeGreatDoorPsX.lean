import Derived.Test.YtbgngikejgihgaeGreatDoorPsI
import Derived.Test.YtbgngikejgihgaeGreatDoorImS
import Derived.Test.YtbgngikejgihgaeGreatDoorImY
import Derived.Lib.SlBytesConst
namespace Go.Proofs.YtbgngikejgihgaeGreatDoor
open Go Go.RowKit Go.Sort
set_option linter.unusedVariables false

def digL : List UInt8 := [48, 49, 50, 51, 52, 53, 54, 55, 56, 57, 97, 98, 99, 100, 101, 102]
theorem dig_at : ∀ j : Fin 16, digI (digL.getD j.val 0) = (j.val : Int) := by decide +kernel
theorem dig_no : ∀ n : Fin 256, (∀ j : Fin 16, digL.getD j.val 0 ≠ UInt8.ofNat n.val) → digI (UInt8.ofNat n.val) = -1 := by decide +kernel
theorem dig_none (c : UInt8) (h : ∀ j, j < 16 → digL.getD j 0 ≠ c) : digI c = -1 := by
  have h9 := dig_no ⟨c.toNat, c.toNat_lt⟩ (fun j => by simpa using h j.val j.isLt)
  simpa using h9
theorem dig_hit (c : UInt8) (j : Nat) (hj : j < 16) (h : digL.getD j 0 = c) : digI c = (j : Int) := by rw [← h]; exact dig_at ⟨j, hj⟩
theorem dig_cell (k : Nat) (hk : k < 16) : ([.int .u8 48, .int .u8 49, .int .u8 50, .int .u8 51, .int .u8 52, .int .u8 53, .int .u8 54, .int .u8 55, .int .u8 56, .int .u8 57, .int .u8 97, .int .u8 98, .int .u8 99, .int .u8 100, .int .u8 101, .int .u8 102] : List Value)[k]? = some (.int .u8 ((digL.getD k 0).toNat : Int)) := by
  have hk' : k = 0 ∨ k = 1 ∨ k = 2 ∨ k = 3 ∨ k = 4 ∨ k = 5 ∨ k = 6 ∨ k = 7 ∨ k = 8 ∨ k = 9 ∨ k = 10 ∨ k = 11 ∨ k = 12 ∨ k = 13 ∨ k = 14 ∨ k = 15 := by omega
  rcases hk' with rfl | rfl | rfl | rfl | rfl | rfl | rfl | rfl | rfl | rfl | rfl | rfl | rfl | rfl | rfl | rfl <;> rfl

set_option maxHeartbeats 1000000 in
set_option maxRecDepth 100000 in
theorem digitS (c : UInt8) (w : World) : Calls Tryz.prog 34 #[.int .u8 (c.toNat : Int)] w fun e w' => e = .returned (.int .i64 (digI c)) ∧ Below w.heap.size w w' := by
  have A1 := hide ((Below.refl w.heap.size w).alloc (Nat.le_refl _) (.cells #[.int .u8 48, .int .u8 49, .int .u8 50, .int .u8 51, .int .u8 52, .int .u8 53, .int .u8 54, .int .u8 55, .int .u8 56, .int .u8 57, .int .u8 97, .int .u8 98, .int .u8 99, .int .u8 100, .int .u8 101, .int .u8 102] 5 (16, 17)))
  have D1 := hide (show (w.alloc (.cells #[.int .u8 48, .int .u8 49, .int .u8 50, .int .u8 51, .int .u8 52, .int .u8 53, .int .u8 54, .int .u8 55, .int .u8 56, .int .u8 57, .int .u8 97, .int .u8 98, .int .u8 99, .int .u8 100, .int .u8 101, .int .u8 102] 5 (16, 17))).heap[w.heap.size]? = some (.cells #[.int .u8 48, .int .u8 49, .int .u8 50, .int .u8 51, .int .u8 52, .int .u8 53, .int .u8 54, .int .u8 55, .int .u8 56, .int .u8 57, .int .u8 97, .int .u8 98, .int .u8 99, .int .u8 100, .int .u8 101, .int .u8 102] 5 (16, 17)) from heap_alloc_new _ _)
  have hcv := Lib.run_convert_bytes_const (P := Tryz.prog) w 22 5 #[.int .u8 48, .int .u8 49, .int .u8 50, .int .u8 51, .int .u8 52, .int .u8 53, .int .u8 54, .int .u8 55, .int .u8 56, .int .u8 57, .int .u8 97, .int .u8 98, .int .u8 99, .int .u8 100, .int .u8 101, .int .u8 102] 16 16 Tryz.underlying22 Tryz.underlying5
  have hsz : (#[.int .u8 48, .int .u8 49, .int .u8 50, .int .u8 51, .int .u8 52, .int .u8 53, .int .u8 54, .int .u8 55, .int .u8 56, .int .u8 57, .int .u8 97, .int .u8 98, .int .u8 99, .int .u8 100, .int .u8 101, .int .u8 102] : Array Value).size = 16 := rfl
  rw [hsz] at hcv
  go_enter Tryz.func34, Tryz.ntmps34
  go_wp2_with fail
  generalize w.alloc (.cells #[.int .u8 48, .int .u8 49, .int .u8 50, .int .u8 51, .int .u8 52, .int .u8 53, .int .u8 54, .int .u8 55, .int .u8 56, .int .u8 57, .int .u8 97, .int .u8 98, .int .u8 99, .int .u8 100, .int .u8 101, .int .u8 102] 5 (16, 17)) = w1 at *
  clear hcv hsz
  go_loopw [8] (fun i wr => ∃ k : Nat, k ≤ 16 ∧ i = .int .i64 k ∧ (∀ q, q < k → digL.getD q 0 ≠ c) ∧ wr = w1) (fun i _ => 16 - (intOf i).toNat)
  case atStart => exact ⟨0, Nat.zero_le _, rfl, fun q hq => by omega, rfl⟩
  case round =>
    obtain ⟨k, hk, rfl, hno, rfl⟩ := hrel
    have HNO := hide hno
    clear hno
    by_cases hlt : k < 16
    · have ck := (cell_of_row _ _ k _ _ _ D1.out).trans (show _ = some (.int .u8 ((digL.getD k 0).toNat : Int)) from (by have h9 := dig_cell k hlt; simpa using h9))
      have hk16 : (k : Int) < 16 := by omega
      have hq := byte_eq c (digL.getD k 0)
      obtain ⟨d, hd⟩ : ∃ d, digL.getD k 0 = d := ⟨_, rfl⟩
      rw [hd] at hq ck
      by_cases he : c = d
      · rw [decide_eq_true he] at hq
        have HX := hide (dig_hit c k hlt (by rw [hd]; exact he.symm))
        clear he hd
        go_wp2
        go_ret
        exact ⟨by rw [HX.out]; rfl, A1.out⟩
      · rw [decide_eq_false he] at hq
        have HE := hide (show digL.getD k 0 ≠ c from (by rw [hd]; exact fun e => he e.symm))
        clear he hd
        go_wp2_with fail
        go_roundw
        case rel =>
          refine ⟨k + 1, by omega, by go_num, fun q hq => ?_, by trivial⟩
          by_cases e : q = k
          · rw [e]; exact HE.out
          · exact HNO.out q (by omega)
        case measure => simp [intOf]; omega
    · obtain rfl : k = 16 := by omega
      have HX := hide (dig_none c HNO.out)
      go_wp2
      go_ret
      exact ⟨by rw [HX.out]; rfl, A1.out⟩

/-- What l7Hex answers. -/
def HexS (l : List UInt8) (base : Nat) (e : Ending) (w' : World) : Prop :=
  (∃ t a n c, hexU l = some t ∧ e = .returned (.tuple #[.slice a n c, .bool true]) ∧ OwB w' base (.slice a n c) (bts t)) ∨ (hexU l = none ∧ e = .returned (.tuple #[.slice none 0 0, .bool false]))

set_option maxHeartbeats 2000000 in
set_option maxRecDepth 100000 in
theorem hexS (l : List UInt8) (v : Value) (w : World) (h : Rd .u8 w v (bts l)) (h0 : 0 < l.length) (hl : l.length ≤ 16384) : Calls Tryz.prog 22 #[v] w fun e w' => HexS l w.heap.size e w' ∧ Below w.heap.size w w' := by
  have CV := conv_allP h
  rcases h with ⟨_, _, _, e⟩ | ⟨b, off, cap, rfl, hp, hc⟩
  · have h9 := congrArg List.length e; rw [bts_length, List.length_nil] at h9; omega
  rw [bts_length] at hp hc CV ⊢
  have hbw : b < w.heap.size := World.block_lt_of_cell? w _ (hc 0 h0)
  have hcap := hp.2.1
  have HC := hide (show ∀ k c, l[k]? = some c → w.cell? ⟨b, off + k, none⟩ = some (.int .u8 (c.toNat : Int)) from fun k c hk => by
    have h9 := hc k (List.getElem?_eq_some_iff.1 hk).1
    rw [h9, List.getD_eq_getElem?_getD, bts, List.getElem?_map, hk]; rfl)
  obtain ⟨sb, hsb⟩ : ∃ sb : ByteArray, (⟨l.toArray⟩ : ByteArray) = sb := ⟨_, rfl⟩
  have q0 : (sb.toList == [45]) = decide (l = [45]) := by
    rw [ByteArray.toList_eq, ← hsb]
    show (l == [45]) = _
    by_cases h : l = [45]
    · rw [h]; rfl
    · rw [decide_eq_false h, beq_eq_false_iff_ne]; exact h
  rw [hsb] at CV
  clear hc hsb hp
  by_cases h45 : l = [45]
  · rw [decide_eq_true h45] at q0
    have HX := hide (show hexU l = some [] by unfold hexU; rw [if_pos h45])
    clear h45
    go_enter Tryz.func22, Tryz.ntmps22
    go_wp2
    exact bodyPost_ret (v := .tuple #[.slice none 0 0, .bool true]) (by simp [results, Tryz.results22, go_sem]) rfl ⟨.inl ⟨[], none, 0, 0, HX.out, rfl, World.ownsRow_nil _ _ _ _⟩, Below.refl _ _⟩
  rw [decide_eq_false h45] at q0
  have HXP := hide (show hexU l = hexP l by unfold hexU; rw [if_neg h45])
  have HO := hide (hexP_odd l)
  have HLE := hide (show ∀ k, l.length ≤ k → l.take k = l from fun k hk => List.take_of_length_le hk)
  have HGT := hide (show ∀ k, k < l.length → ∃ c, l[k]? = some c from fun k hk => ⟨_, List.getElem?_eq_getElem hk⟩)
  generalize hn : l.length = n at *
  have hn0 : ((n : Int) == 0) = false := by rw [beq_eq_false_iff_ne]; omega
  clear h45
  by_cases hodd : n % 2 ≠ 0
  · have HX := hide (HXP.out.trans (HO.out hodd))
    have hm : ((n : Int) % 2 != 0) = true := by rw [bne_iff_ne]; omega
    clear HXP hodd HO hn
    go_enter Tryz.func22, Tryz.ntmps22
    go_wp2
    exact bodyPost_ret (v := .tuple #[.slice none 0 0, .bool false]) (by simp [results, Tryz.results22, go_sem]) rfl ⟨.inr ⟨HX.out, rfl⟩, Below.refl _ _⟩
  · obtain ⟨m, hm2⟩ : ∃ m, n = 2 * m := ⟨n / 2, by omega⟩
    have hm : ((n : Int) % 2 != 0) = false := by rw [bne_eq_false_iff_eq]; omega
    have O1 := hide (show OwB (w.alloc (.cells #[] 5)) w.heap.size (.slice (some ⟨w.heap.size, 0, none⟩) 0 0) (bts []) from World.ownsRow_made w #[] 0 (Nat.le_refl _) (Nat.zero_le _) rfl)
    have B1 := hide ((Below.refl w.heap.size w).alloc (Nat.le_refl _) (.cells #[] 5))
    obtain ⟨i0, hi, hz0, hz1, hz2⟩ := info_parts Tryz.info8
    have HN2 := hide hm2
    clear hodd HO hn hm2
    go_enter Tryz.func22, Tryz.ntmps22
    go_wp2_with fail
    generalize w.alloc (.cells #[] 5) = w1 at *
    clear hm
    go_loopw [4, 5] (fun bv kv wr => ∃ (j : Nat) (t : List UInt8), j ≤ m ∧ kv = .int .i64 (2 * j : Nat) ∧ hexP (l.take (2 * j)) = some t ∧ t.length = j ∧ OwB wr w.heap.size bv (bts t) ∧ Below w.heap.size w wr) (fun _ kv _ => n - (intOf kv).toNat)
    case atStart => exact ⟨0, [], by omega, rfl, rfl, rfl, O1.out, B1.out⟩
    case round =>
      obtain ⟨j, t, hj, rfl, ht, htl, ho, hb⟩ := hrel
      have OR := hide ho
      have BR := hide hb
      have HT := hide ht
      have HTL := hide htl
      clear ho hb ht htl O1 B1
      by_cases hlt : j < m
      · obtain ⟨k, hk2⟩ : ∃ k, 2 * j = k := ⟨_, rfl⟩
        rw [hk2] at HT ⊢
        have k2 : k + 1 < n := by have := HN2.out; omega
        obtain ⟨c1, A1'⟩ := HGT.out k (by omega)
        obtain ⟨c2, A2'⟩ := HGT.out (k + 1) k2
        have A1 := hide A1'
        have A2 := hide A2'
        have d1 := (BR.out.cell (p := ⟨b, off + k, none⟩) hbw).trans (HC.out k c1 A1')
        have e2 := HC.out (k + 1) c2 A2'
        have I1 := hide (digitS c1 wr)
        have hkn : (k : Int) < (n : Int) := by omega
        have hkn2 : (k : Int) + 1 < (n : Int) := by omega
        clear hj A1' A2'
        go_wp2_with fail
        refine I1.out.mono ?_
        rintro e w2 ⟨rfl, hb2⟩
        have B2 := hide (BR.out.trans (hb2.mono BR.out.size))
        have O2 := hide (OR.out.below hb2)
        have I2 := hide (digitS c2 w2)
        have d2 := (B2.out.cell (p := ⟨b, off + (k + 1), none⟩) hbw).trans e2
        have d2' := d2
        rw [← Nat.add_assoc] at d2
        clear hb2 I1 OR BR d1 e2
        go_wp2_with fail
        refine I2.out.mono ?_
        rintro e w3 ⟨rfl, hb3⟩
        have BQ := hide (B2.out.trans (hb3.mono B2.out.size))
        have OQ := hide (O2.out.below hb3)
        obtain ⟨ub, cb, hu4⟩ := ownB_val OQ.out
        clear hb3 I2 O2 B2 d2 d2'
        cases h1 : digU c1 with
        | none =>
          have HX := hide (HXP.out.trans (hex_no A1.out A2.out HT.out (.inl h1)))
          rw [show digI c1 = -1 by unfold digI; rw [h1]]
          clear h1
          go_wp2
          exact bodyPost_ret (v := .tuple #[.slice none 0 0, .bool false]) (by simp [results, Tryz.results22, go_sem]) rfl ⟨.inr ⟨HX.out, rfl⟩, BQ.out⟩
        | some x =>
          have hx := digU_lt h1
          rw [show digI c1 = (x : Int) by unfold digI; rw [h1]]
          have hx0 : ¬ (x : Int) < 0 := by omega
          cases h2 : digU c2 with
          | none =>
            have HX := hide (HXP.out.trans (hex_no A1.out A2.out HT.out (.inr h2)))
            rw [show digI c2 = -1 by unfold digI; rw [h2]]
            clear h1 h2
            go_wp2
            exact bodyPost_ret (v := .tuple #[.slice none 0 0, .bool false]) (by simp [results, Tryz.results22, go_sem]) rfl ⟨.inr ⟨HX.out, rfl⟩, BQ.out⟩
          | some y =>
            have hy := digU_lt h2
            rw [show digI c2 = (y : Int) by unfold digI; rw [h2]]
            have hy0 : ¬ (y : Int) < 0 := by omega
            have HX := hide (hex_more A1.out A2.out HT.out h1 h2)
            clear h1 h2
            have zq := BQ.out.size
            have htl := HTL.out
            have hbl : (bts t).length = j := by rw [bts_length]; exact htl
            rw [hbl] at hu4
            subst hu4
            have OQ2 := hide (show w3.ownsRow w.heap.size 5 1 (.slice ub j cb) j (ints .u8 (bts t)) from (by have h9 := OQ.out; unfold OwB at h9; rw [hbl] at h9; exact h9))
            have NC := hide (newcells w3 5 [.int .u8 (16 * (x : Int) + y)])
            have HBT := hide (bts_one t (16 * x + y) (by omega))
            have hmo : (16 * (x : Int) + y) % 256 = 16 * (x : Int) + y := by omega
            clear hbl htl A1 A2 HT
            go_wp2_with (at_builtin; refine wpList_append_own_at _ rfl _ _ 22 rfl w.heap.size 5 i0 (.int .u8 0) 1 1 Tryz.underlying22 hi hz0 hz1 hz2 rfl (by decide) _ j (ints .u8 (bts t)) rfl (by exact World.ownsRow.alloc OQ2.out _) ⟨w3.heap.size, 0, none⟩ 1 1 [.int .u8 (16 * (x : Int) + y)] rfl rfl (by exact NC.out) (by simp [Value.oneCell']) (by unfold maxLen; omega) (by omega) (by simp; omega) ?_; intro v6 w6 ho6 hg6 _ hat6; have OA := hide ho6; have BA := hide (BQ.out.trans (((Below.refl w.heap.size w3).alloc zq (.cells #[.int .u8 (16 * (x : Int) + y)] 5)).grown hg6 (by simp; omega) (fun q hq => (OQ.out.lt q hq).1))); clear ho6 hg6 hat6)
            go_roundw
            case rel =>
              refine ⟨j + 1, t ++ [UInt8.ofNat (16 * x + y)], by omega, by go_num, ?_, by rw [List.length_append, HTL.out]; rfl, ?_, BA.out⟩
              · rw [show 2 * (j + 1) = k + 2 by omega]; exact HX.out
              · have h9 := OA.out
                unfold OwB
                rw [HBT.out, List.length_append, bts_length, HTL.out, ints_append]
                simpa [ints] using h9
            case measure => simp [intOf]; omega
      · obtain rfl : j = m := by omega
        have HX := hide (HXP.out.trans (show hexP l = some t from (by have h9 := HT.out; rw [HLE.out _ (by have := HN2.out; omega)] at h9; exact h9)))
        obtain ⟨ub, cb, hu4⟩ := ownB_val OR.out
        subst hu4
        have hnj : ¬ ((2 * j : Nat) : Int) < (n : Int) := by have := HN2.out; omega
        clear HT HTL
        go_wp2
        exact bodyPost_ret (v := .tuple #[.slice ub (bts t).length cb, .bool true]) (by simp [results, Tryz.results22, go_sem]) rfl ⟨.inl ⟨t, _, _, _, HX.out, rfl, OR.out⟩, BR.out⟩
end Go.Proofs.YtbgngikejgihgaeGreatDoor
