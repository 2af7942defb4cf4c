import Derived.Test.YtbgngikejgihgaeGreatDoorPsA
import Derived.Deep.Cut
import Derived.Deep.QuietTactic
import Derived.BigQuiet
namespace Go.Proofs.YtbgngikejgihgaeGreatDoor
open Go Go.RowKit Go.Sort
set_option linter.unusedVariables false

def digI (c : UInt8) : Int := match digU c with
  | some x => x
  | none => -1
theorem dig_fin : ∀ n : Fin 256, Lib.indexByte [48, 49, 50, 51, 52, 53, 54, 55, 56, 57, 97, 98, 99, 100, 101, 102] (UInt8.ofNat n.val) = digI (UInt8.ofNat n.val) := by decide +kernel
theorem dig_index (c : UInt8) : Lib.indexByte [48, 49, 50, 51, 52, 53, 54, 55, 56, 57, 97, 98, 99, 100, 101, 102] c = digI c := by
  have h := dig_fin ⟨c.toNat, c.toNat_lt⟩
  simpa using h
theorem nat_byte (c : UInt8) : ((c.toNat : Int).toNat).toUInt8 = c := by simp
set_option maxHeartbeats 400000 in
theorem indexL (c : UInt8) (w : World) : Calls Tryz.prog 49 #[.string ⟨#[48, 49, 50, 51, 52, 53, 54, 55, 56, 57, 97, 98, 99, 100, 101, 102]⟩, .int .u8 (c.toNat : Int)] w fun e w' => e = .returned (.int .i64 (digI c)) ∧ ∃ q, w' = w.drewN q := by
  have H := hide (show Calls Tryz.prog 60 #[.string ⟨#[48, 49, 50, 51, 52, 53, 54, 55, 56, 57, 97, 98, 99, 100, 101, 102]⟩, .int .u8 (c.toNat : Int)] w _ from Any.stringslite_IndexByte Tryz.ibLays ⟨#[48, 49, 50, 51, 52, 53, 54, 55, 56, 57, 97, 98, 99, 100, 101, 102]⟩ (c.toNat : Int) w)
  rw [nat_byte, show (⟨#[48, 49, 50, 51, 52, 53, 54, 55, 56, 57, 97, 98, 99, 100, 101, 102]⟩ : ByteArray).data.toList = [48, 49, 50, 51, 52, 53, 54, 55, 56, 57, 97, 98, 99, 100, 101, 102] from rfl, dig_index] at H
  go_enter Tryz.func49, Tryz.ntmps49
  go_wp2_with fail
  refine H.out.mono ?_
  rintro e w1 ⟨rfl, rfl⟩
  go_wp2
  go_ret
  exact ⟨rfl, 0, rfl⟩
theorem ba_at (s : ByteArray) (k : Nat) (h : k < s.size) : s.data.toList[k]? = some s[k] := by
  rw [Array.getElem?_toList]
  exact Array.getElem?_eq_getElem h
theorem hex_step {l : List UInt8} {k : Nat} {a b : UInt8} (ha : l[k]? = some a) (hb : l[k + 1]? = some b) : l = l.take k ++ a :: b :: l.drop (k + 2) := by
  obtain ⟨h1, e1⟩ := List.getElem?_eq_some_iff.1 ha
  obtain ⟨h2, e2⟩ := List.getElem?_eq_some_iff.1 hb
  conv => lhs; rw [← List.take_append_drop k l, List.drop_eq_getElem_cons h1, List.drop_eq_getElem_cons h2, e1, e2]
theorem hex_no {l : List UInt8} {k : Nat} {a b : UInt8} {t : List UInt8} (ha : l[k]? = some a) (hb : l[k + 1]? = some b) (ht : hexP (l.take k) = some t) (h : digU a = none ∨ digU b = none) : hexP l = none := by
  rw [hex_step ha hb, hexP_app _ _ t ht, hexP_bad _ h]; rfl
theorem hex_more {l : List UInt8} {k : Nat} {a b : UInt8} {t : List UInt8} {x y : Nat} (ha : l[k]? = some a) (hb : l[k + 1]? = some b) (ht : hexP (l.take k) = some t) (h1 : digU a = some x) (h2 : digU b = some y) : hexP (l.take (k + 2)) = some (t ++ [UInt8.ofNat (16 * x + y)]) := by
  have e : l.take (k + 2) = l.take k ++ [a, b] := by
    have e1 := List.take_succ_eq_append_getElem (l := l) (i := k) (List.getElem?_eq_some_iff.1 ha).1
    have e2 := List.take_succ_eq_append_getElem (l := l) (i := k + 1) (List.getElem?_eq_some_iff.1 hb).1
    rw [e2, e1, (List.getElem?_eq_some_iff.1 ha).2, (List.getElem?_eq_some_iff.1 hb).2]; simp
  rw [e, hexP_app _ _ t ht, hexP_ok _ h1 h2]; rfl

theorem or_fin : ∀ x y : Fin 16, bits BinOp.or IntKind.i64 ((x.val : Int) * 16) (y.val : Int) % 256 = ((16 * x.val + y.val : Nat) : Int) := by decide +kernel
theorem hex_or (x y : Nat) (hx : x < 16) (hy : y < 16) : bits BinOp.or IntKind.i64 ((x : Int) * 16) (y : Int) % 256 = ((16 * x + y : Nat) : Int) := or_fin ⟨x, hx⟩ ⟨y, hy⟩
theorem bts_one (t : List UInt8) (z : Nat) (h : z < 256) : bts (t ++ [UInt8.ofNat z]) = bts t ++ [(z : Int)] := by
  rw [bts_append]
  congr 1
  simp only [bts, List.map_cons, List.map_nil]
  rw [UInt8.toNat_ofNat', Nat.mod_eq_of_lt h]
/-- What readHex answers. -/
def HexA (l : List UInt8) (base : Nat) (e : Ending) (w' : World) : Prop :=
  (∃ t v, hexU l = some t ∧ e = .returned (.tuple #[v, .nilIface]) ∧ OwB w' base v (bts t)) ∨ (hexU l = none ∧ e = .returned (.tuple #[.slice none 0 0, .iface 71 (.int .i64 18)]))

set_option maxHeartbeats 1000000 in
set_option maxRecDepth 100000 in
theorem readHexL (s : ByteArray) (hs : s.size ≤ 20000) (w : World) : Calls Tryz.prog 39 #[.string s] w fun e w' => HexA s.data.toList w.heap.size e w' ∧ Below w.heap.size w w' := by
  obtain ⟨l, hl⟩ : ∃ l, s.data.toList = l := ⟨_, rfl⟩
  obtain ⟨n, hn⟩ : ∃ n, s.size = n := ⟨_, rfl⟩
  have hln : l.length = n := by rw [← hl, ← hn]; rfl
  have q0 : (s.toList == [45]) = decide (l = [45]) := by
    rw [ByteArray.toList_eq, hl]
    by_cases h : l = [45]
    · rw [h]; rfl
    · rw [decide_eq_false h, beq_eq_false_iff_ne]; exact h
  rw [hl]
  by_cases h45 : l = [45]
  · rw [decide_eq_true h45] at q0
    have HX := hide (show hexU l = some [] by unfold hexU; rw [if_pos h45])
    clear h45 hl
    go_enter Tryz.func39, Tryz.ntmps39
    go_wp2
    exact bodyPost_ret (v := .tuple #[.slice none 0 0, .nilIface]) (by simp [results, Tryz.results39, go_sem]) rfl ⟨.inl ⟨[], _, HX.out, rfl, World.ownsRow_nil _ _ _ _⟩, Below.refl _ _⟩
  rw [decide_eq_false h45] at q0
  have HXP := hide (show hexU l = hexP l by unfold hexU; rw [if_neg h45])
  by_cases hodd : n % 2 ≠ 0
  · have HX := hide (HXP.out.trans (hexP_odd l (by rw [hln]; exact hodd)))
    have hm : ((n : Int) % 2 != 0) = true := by rw [bne_iff_ne]; omega
    clear HXP hodd hl h45
    go_enter Tryz.func39, Tryz.ntmps39
    go_wp2
    exact bodyPost_ret (v := .tuple #[.slice none 0 0, .iface 71 (.int .i64 18)]) (by simp [results, Tryz.results39, go_sem]) rfl ⟨.inr ⟨HX.out, rfl⟩, Below.refl _ _⟩
  · obtain ⟨m, hm2⟩ : ∃ m, n = 2 * m := ⟨n / 2, by omega⟩
    have hm : ((n : Int) % 2 != 0) = false := by rw [bne_eq_false_iff_eq]; omega
    have hdv : (n : Int) / 2 = (m : Int) := by omega
    have hn2 : n ≤ 20000 := by omega
    obtain ⟨i0, hi, hz0, hz1, hz2⟩ := info_parts Tryz.info8
    have HL := hide hl
    have HLN := hide hln
    have AT := hide (fun (k : Nat) (h : k < s.size) => (show l[k]? = some s[k] from HL.out ▸ ba_at s k h))
    clear hl hln h45 hodd
    go_enter Tryz.func39, Tryz.ntmps39
    go_wp2_with (at_make; refine wpList_make_own _ rfl _ _ 22 rfl w.heap.size 5 i0 (.int .u8 0) 1 Tryz.underlying22 hi hz0 hz1 .i64 .i64 _ m rfl rfl (by omega) (by rw [hz2]; omega) (by unfold maxLen; omega) (Nat.le_refl _) ?_; intro w1 hown hgrow)
    have O1 := hide (show OwB w1 w.heap.size _ (bts []) from hown)
    have B1 := hide ((Below.refl w.heap.size w).grown hgrow (Nat.le_refl _) (fun k hk => by cases hk))
    clear hown hgrow hm
    go_loopw [4, 5] (fun bv kv wr => ∃ (j : Nat) (t : List UInt8), j ≤ m ∧ kv = .int .i64 (2 * j : Nat) ∧ hexP (l.take (2 * j)) = some t ∧ t.length = j ∧ OwB wr w.heap.size bv (bts t) ∧ Below w.heap.size w wr) (fun _ kv _ => n - (intOf kv).toNat)
    case atStart => exact ⟨0, [], by omega, rfl, rfl, rfl, O1.out, B1.out⟩
    case round =>
      obtain ⟨j, t, hj, rfl, ht, htl, ho, hb⟩ := hrel
      have OR := hide ho
      have BR := hide hb
      have HT := hide ht
      have HTL := hide htl
      clear ho hb ht htl O1 B1
      by_cases hlt : j < m
      · obtain ⟨k, hk2⟩ : ∃ k, 2 * j = k := ⟨_, rfl⟩
        rw [hk2] at HT ⊢
        have k1 : k < s.size := by omega
        have k2 : k + 1 < s.size := by omega
        have A1 := hide (AT.out _ k1)
        have A2 := hide (AT.out _ k2)
        obtain ⟨c1, hc1⟩ : ∃ c, s[k] = c := ⟨_, rfl⟩
        obtain ⟨c2, hc2⟩ : ∃ c, s[k + 1] = c := ⟨_, rfl⟩
        rw [hc1] at A1
        rw [hc2] at A2
        have I1 := hide (indexL c1)
        have I2 := hide (indexL c2)
        have hw1 : IntKind.i64.wrap ((k : Int) + 1) = (k : Int) + 1 := by rw [IntKind.wrap_i64]; omega
        have hk3 : k < 2 * m := by omega
        have hk4 : k + 1 < 2 * m := by omega
        clear hj hlt
        go_upto_region 9 with fail
        go_quiet (first
          | (go_at_call_of 49 (Value.int IntKind.u8 (c1.toNat : Int)); exact Calls.quiet_of (I1.out _))
          | (go_at_call_of 49 (Value.int IntKind.u8 (c2.toNat : Int)); exact Calls.quiet_of (I2.out _)))
        have OQ := hide (show OwB (wr.drewN nq) w.heap.size u4 (bts t) from OR.out)
        have BQ := hide (BR.out.trans (show Below w.heap.size wr (wr.drewN nq) from ⟨rfl, rfl, rfl, Nat.le_refl _, fun _ _ => rfl⟩))
        generalize wr.drewN nq = wq at *
        clear hc1 hc2 I1 I2 hw1 AT OR BR
        cases h1 : digU c1 with
        | none =>
          have HX := hide (HXP.out.trans (hex_no A1.out A2.out HT.out (.inl h1)))
          rw [show digI c1 = -1 by unfold digI; rw [h1]]
          clear h1
          go_wp2
          exact bodyPost_ret (v := .tuple #[.slice none 0 0, .iface 71 (.int .i64 18)]) (by simp [results, Tryz.results39, go_sem]) rfl ⟨.inr ⟨HX.out, rfl⟩, BQ.out⟩
        | some x =>
          have hx := digU_lt h1
          rw [show digI c1 = (x : Int) by unfold digI; rw [h1]]
          have hx0 : ¬ (x : Int) < 0 := by omega
          cases h2 : digU c2 with
          | none =>
            have HX := hide (HXP.out.trans (hex_no A1.out A2.out HT.out (.inr h2)))
            rw [show digI c2 = -1 by unfold digI; rw [h2]]
            clear h1 h2
            go_wp2
            exact bodyPost_ret (v := .tuple #[.slice none 0 0, .iface 71 (.int .i64 18)]) (by simp [results, Tryz.results39, go_sem]) rfl ⟨.inr ⟨HX.out, rfl⟩, BQ.out⟩
          | some y =>
            have hy := digU_lt h2
            rw [show digI c2 = (y : Int) by unfold digI; rw [h2]]
            have hy0 : ¬ (y : Int) < 0 := by omega
            have HX := hide (hex_more A1.out A2.out HT.out h1 h2)
            clear h1 h2
            have hbo := hex_or x y hx hy
            have zq := BQ.out.size
            have htl := HTL.out
            have hbl : (bts t).length = j := by rw [bts_length]; exact htl
            obtain ⟨ub, cb, hu4⟩ := ownB_val OQ.out
            rw [hbl] at hu4
            subst hu4
            have OQ2 := hide (show wq.ownsRow w.heap.size 5 1 (.slice ub j cb) j (ints .u8 (bts t)) from (by have h9 := OQ.out; unfold OwB at h9; rw [hbl] at h9; exact h9))
            have NC := hide (newcells wq 5 [.int .u8 ((16 * x + y : Nat) : Int)])
            have hj1 : j < m := by omega
            have HBT := hide (bts_one t (16 * x + y) (by omega))
            clear hbl htl A1 A2 HT
            generalize hbv : ((16 * x + y : Nat) : Int) = bv at *
            clear hbv
            go_upto_region 12 with fail
            go_wp2_with (at_builtin; refine wpList_append_own_at _ rfl _ _ 22 rfl w.heap.size 5 i0 (.int .u8 0) 1 1 Tryz.underlying22 hi hz0 hz1 hz2 rfl (by decide) _ j (ints .u8 (bts t)) rfl (by exact World.ownsRow.alloc OQ2.out _) ⟨wq.heap.size, 0, none⟩ 1 1 [.int .u8 bv] rfl rfl (by exact NC.out) (by simp [Value.oneCell']) (by unfold maxLen; omega) (by omega) (by simp; omega) ?_; intro v6 w6 ho6 hg6 _ hat6; have OA := hide ho6; have BA := hide (BQ.out.trans (((Below.refl w.heap.size wq).alloc zq (.cells #[.int .u8 bv] 5)).grown hg6 (by simp; omega) (fun q hq => (OQ.out.lt q hq).1))); clear ho6 hg6 hat6)
            go_roundw
            case rel =>
              refine ⟨j + 1, t ++ [UInt8.ofNat (16 * x + y)], by omega, by go_num, ?_, by rw [List.length_append, HTL.out]; rfl, ?_, BA.out⟩
              · rw [show 2 * (j + 1) = k + 2 by omega]; exact HX.out
              · have h9 := OA.out
                unfold OwB
                rw [HBT.out, List.length_append, bts_length, HTL.out, ints_append]
                exact h9
            case measure => simp [intOf]; omega
      · obtain rfl : j = m := by omega
        have HX := hide (HXP.out.trans (show hexP l = some t from (by have h9 := HT.out; rw [List.take_of_length_le (by rw [HLN.out]; omega)] at h9; exact h9)))
        obtain ⟨ub, cb, hu4⟩ := ownB_val OR.out
        subst hu4
        clear HT HTL AT
        go_wp2
        exact bodyPost_ret (v := .tuple #[.slice ub (bts t).length cb, .nilIface]) (by simp [results, Tryz.results39, go_sem]) rfl ⟨.inl ⟨t, _, HX.out, rfl, OR.out⟩, BR.out⟩
end Go.Proofs.YtbgngikejgihgaeGreatDoor
