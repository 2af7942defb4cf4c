import Derived.Test.YtbgngikejgihgagGreatDoorMq25
import Derived.Test.YtbgngikejgihgagGreatDoorMq13
import Derived.Test.YtbgngikejgihgagGreatDoorMq16
import Derived.Test.YtbgngikejgihgagGreatDoorMq10
namespace Go.Proofs.YtbgngikejgihgagGreatDoor
open Go Go.RowKit
set_option linter.unusedVariables false

/-- A slice of a known block. -/
def SlB (w : World) (b : Nat) (v : Value) (l : List Int) : Prop := ∃ off cap, v = .slice (some ⟨b, off, none⟩) l.length cap ∧ ∀ i, i < l.length → w.cell? ⟨b, off + i, none⟩ = some (.int .i32 (l.getD i 0))
theorem SlB.sl {w w' : World} {b D : Nat} {v : Value} {l : List Int} (h : SlB w b v l) (hb : Below D w w') (hD : b < D) (hw : b < w'.heap.size) : Sl .i32 w' v l := by
  obtain ⟨off, cap, rfl, hc⟩ := h
  exact .inr ⟨b, off, cap, rfl, hw, fun i hi => (hb.cell (p := ⟨b, off + i, none⟩) hD).trans (hc i hi)⟩
/-- Values that lead to lines of a known block. -/
structure LnAtB (w : World) (b : Nat) (vals : List Value) (L : List (List Int)) : Prop where
  len : vals.length = L.length
  at_ : ∀ (i : Nat) v l, vals[i]? = some v → L[i]? = some l → SlB w b v l
theorem LnAtB.nil (w : World) (b : Nat) : LnAtB w b [] [] := ⟨rfl, fun i v l h => by simp at h⟩
theorem LnAtB.snoc {w : World} {b : Nat} {vals : List Value} {L : List (List Int)} {v : Value} {l : List Int} (h : LnAtB w b vals L) (hs : SlB w b v l) : LnAtB w b (vals ++ [v]) (L ++ [l]) := by
  refine ⟨by simp [h.len], fun i u m hu hm => ?_⟩
  rcases Nat.lt_trichotomy i vals.length with q | q | q
  · rw [List.getElem?_append_left q] at hu
    rw [List.getElem?_append_left (by rw [← h.len]; exact q)] at hm
    exact h.at_ i u m hu hm
  · subst q
    rw [List.getElem?_append_right (Nat.le_refl _)] at hu
    rw [h.len, List.getElem?_append_right (Nat.le_refl _)] at hm
    simp at hu hm
    subst hu hm
    exact hs
  · rw [List.getElem?_eq_none (by simp; omega)] at hu; cases hu
theorem sl_takeB {w : World} {b o c : Nat} {zs : List Int} (hc : ∀ i, i < zs.length → w.cell? ⟨b, o + i, none⟩ = some (.int .i32 (zs.getD i 0))) {k : Nat} (hk : k ≤ zs.length) : SlB w b (.slice (some ⟨b, o, none⟩) k c) (zs.take k) := by
  refine ⟨o, c, by rw [List.length_take, Nat.min_eq_left hk], fun i hi => ?_⟩
  rw [List.length_take] at hi
  rw [hc i (by omega)]
  simp [List.getD_eq_getElem?_getD, show i < k by omega]

set_option maxHeartbeats 2000000 in
set_option maxRecDepth 100000 in
theorem cutLB (zs : List Int) (b o cap : Nat) (w : World) (hc : ∀ i, i < zs.length → w.cell? ⟨b, o + i, none⟩ = some (.int .i32 (zs.getD i 0))) (hb : b < w.heap.size) (hn : zs.length ≤ 1048576) (hcap : zs.length ≤ cap) (hm : cap ≤ maxLen) :
    Calls Tryz.prog 153 #[.slice (some ⟨b, o, none⟩) zs.length cap] w fun e w' => ∃ v vals, e = .returned v ∧ w'.ownsRow w.heap.size 36 1 v (lns zs).length vals ∧ LnAtB w b vals (lns zs) ∧ Below w.heap.size w w' := by
  obtain ⟨i0, hi, hz0, hz1, hz2⟩ := info_parts Tryz.infoS
  have HC := hide hc
  have LL := hide (lns_len zs)
  generalize hLZ : lns zs = LZ at *
  have HLZ := hide hLZ
  generalize hN : zs.length = N at *
  have HN := hide hN
  clear hc hLZ hN
  go_enter Tryz.func153, Tryz.ntmps153
  go_wp2_with fail
  go_loopw [0, 3] (fun tx ls wr => ∃ (L : List (List Int)) (rest : List Int) (o' c : Nat) (vals : List Value), LZ = L ++ lns rest ∧ tx = .slice (some ⟨b, o', none⟩) rest.length c ∧ rest.length ≤ c ∧ c ≤ maxLen ∧ rest.length ≤ N ∧
      (∀ i, i < rest.length → w.cell? ⟨b, o' + i, none⟩ = some (.int .i32 (rest.getD i 0))) ∧ wr.ownsRow w.heap.size 36 1 ls L.length vals ∧ LnAtB w b vals L ∧ Below w.heap.size w wr)
    (fun tx _ _ => lenV tx)
  case atStart => exact ⟨[], zs, o, cap, [], by simp [HLZ.out], by rw [HN.out], by rw [HN.out]; exact hcap, hm, by rw [HN.out]; exact Nat.le_refl _, fun i hi => HC.out i (by rw [← HN.out]; exact hi), World.ownsRow_nil _ _ _ _, LnAtB.nil _ _, Below.refl _ _⟩
  case round =>
    obtain ⟨L, rest, o', c, vals, hL, rfl, hrc, hcm, hrN, hcl, hown, hat, hbw⟩ := hrel
    have CL := hide hcl
    have HO := hide hown
    have HAT := hide hat
    have HBW := hide hbw
    have HL := hide hL
    have IX := hide (indexL rest b o' c wr (fun i hi => (hbw.cell (p := ⟨b, o' + i, none⟩) hb).trans (hcl i hi)) (by omega) hrc hcm)
    have hsz := hbw.size
    have hll : L.length ≤ 1048577 := by have h1 := LL.out.2; have h2 := HL.out; rw [h2, List.length_append] at h1; omega
    have hVN := HO.out.1
    unfold ix at IX
    unfold maxLen at hcm
    by_cases hf : fb rest < rest.length
    · rw [if_pos hf] at IX
      have EL := hide (fb_lns hf)
      have ST := hide (sl_takeB (c := c) CL.out (Nat.le_of_lt hf))
      generalize hF : fb rest = F at *
      generalize hR : rest.length = R at *
      have HR := hide hR
      clear hcl hown hat hbw hL hR hVN
      go_wp2_with fail
      refine IX.out.mono ?_
      rintro e w1 ⟨rfl, hw⟩
      have hw2 := hw.symm
      subst hw2
      clear hw IX
      have hF0 : ¬ (F : Int) < 0 := by omega
      have hFc : (F : Int) ≤ c := by omega
      have hFc1 : (F : Int) + 1 ≤ c := by omega
      have hFc2 : (F : Int) + 1 ≤ R := by omega
      have NC := hide (newcells wr 36 [.slice (some ⟨b, o', none⟩) F c])
      by_cases hcF : c = F + 1
      · subst hcF
        go_wp2_with (at_builtin; refine wpList_append_own _ rfl _ _ 190 rfl w.heap.size 36 i0 (.slice none 0 0) 1 24 Tryz.underlying190 hi hz0 hz1 hz2 rfl (by decide) _ _ _ rfl (HO.out.alloc _) ⟨wr.heap.size, 0, none⟩ 1 1 [.slice (some ⟨b, o', none⟩) F (F + 1)] rfl rfl NC.out (by intro u hu; simp at hu; subst hu; rfl) (by unfold maxLen; omega) (by omega) (by simp; omega) ?_; intro v2 w2 ho2 hg2 _)
        have B2 := hide ((HBW.out.alloc (by omega) (.cells #[.slice (some ⟨b, o', none⟩) F (F + 1)] 36)).grown hg2 (by simp; omega) (fun q hq => (HO.out.lt q hq).1))
        have O2 := hide ho2
        clear ho2 hg2
        go_wp2
        go_roundw
        case rel =>
          have eR : rest.drop (F + 1) = [] := List.drop_of_length_le (by rw [HR.out]; omega)
          refine ⟨L ++ [rest.take F], [], o', 0, vals ++ [.slice (some ⟨b, o', none⟩) F (F + 1)], ?_, ?_, Nat.zero_le _, by unfold maxLen; omega, Nat.zero_le _, fun i hi => by simp at hi, ?_, HAT.out.snoc ST.out, B2.out⟩
          · rw [HL.out, EL.out, eR]; simp
          · simp
          · rw [List.length_append]; exact O2.out
        case measure => simp [lenV]; omega
      · have hcF' : ¬ ((c : Int) = F + 1) := by omega
        have hcl' : (F : Int) + 1 < c := by omega
        go_wp2_with (at_builtin; refine wpList_append_own _ rfl _ _ 190 rfl w.heap.size 36 i0 (.slice none 0 0) 1 24 Tryz.underlying190 hi hz0 hz1 hz2 rfl (by decide) _ _ _ rfl (HO.out.alloc _) ⟨wr.heap.size, 0, none⟩ 1 1 [.slice (some ⟨b, o', none⟩) F c] rfl rfl NC.out (by intro u hu; simp at hu; subst hu; rfl) (by unfold maxLen; omega) (by omega) (by simp; omega) ?_; intro v2 w2 ho2 hg2 _)
        have B2 := hide ((HBW.out.alloc (by omega) (.cells #[.slice (some ⟨b, o', none⟩) F c] 36)).grown hg2 (by simp; omega) (fun q hq => (HO.out.lt q hq).1))
        have O2 := hide ho2
        clear ho2 hg2
        go_wp2
        go_roundw
        case rel =>
          have eR : (rest.drop (F + 1)).length = R - (F + 1) := by rw [List.length_drop, HR.out]
          refine ⟨L ++ [rest.take F], rest.drop (F + 1), o' + (F + 1), c - (F + 1), vals ++ [.slice (some ⟨b, o', none⟩) F c], ?_, ?_, by rw [eR]; omega, by unfold maxLen; omega, by rw [eR]; omega, ?_, ?_, HAT.out.snoc ST.out, B2.out⟩
          · rw [HL.out, EL.out]; simp
          · rw [eR]
          · intro i hi
            rw [eR] at hi
            rw [Nat.add_assoc, CL.out (F + 1 + i) (by omega)]
            simp [List.getD_eq_getElem?_getD, List.getElem?_drop]
          · rw [List.length_append]; exact O2.out
        case measure => simp [lenV]; omega
    · rw [if_neg hf] at IX
      have hfe : fb rest = rest.length := by have := fb_le rest; omega
      have EL := hide (fb_lns0 hfe)
      have ST := hide (sl_takeB (c := c) CL.out (Nat.le_refl _))
      rw [List.take_of_length_le (Nat.le_refl _)] at ST
      generalize hR : rest.length = R at *
      clear hcl hown hat hbw hL hR hVN hfe hf
      go_wp2_with fail
      refine IX.out.mono ?_
      rintro e w1 ⟨rfl, hw⟩
      have hw2 := hw.symm
      subst hw2
      clear hw IX
      have NC := hide (newcells wr 36 [.slice (some ⟨b, o', none⟩) R c])
      go_wp2_with (at_builtin; refine wpList_append_own _ rfl _ _ 190 rfl w.heap.size 36 i0 (.slice none 0 0) 1 24 Tryz.underlying190 hi hz0 hz1 hz2 rfl (by decide) _ _ _ rfl (HO.out.alloc _) ⟨wr.heap.size, 0, none⟩ 1 1 [.slice (some ⟨b, o', none⟩) R c] rfl rfl NC.out (by intro u hu; simp at hu; subst hu; rfl) (by unfold maxLen; omega) (by omega) (by simp; omega) ?_; intro v2 w2 ho2 hg2 _)
      have B2 := hide ((HBW.out.alloc (by omega) (.cells #[.slice (some ⟨b, o', none⟩) R c] 36)).grown hg2 (by simp; omega) (fun q hq => (HO.out.lt q hq).1))
      have O2 := hide ho2
      clear ho2 hg2
      go_wp2
      go_ret
      refine ⟨_, vals ++ [.slice (some ⟨b, o', none⟩) R c], rfl, ?_, ?_, B2.out⟩
      · rw [HL.out, EL.out, List.length_append]; exact O2.out
      · rw [HL.out, EL.out]; exact HAT.out.snoc ST.out
end Go.Proofs.YtbgngikejgihgagGreatDoor

namespace Go.Proofs.YtbgngikejgihgagGreatDoor
open Go Go.RowKit
set_option linter.unusedVariables false


set_option maxHeartbeats 2000000 in
set_option maxRecDepth 100000 in
/-- slices.Concat of one row. -/
theorem concat1 (xs : List Int) (vs : Value) (B : Nat) (w : World) (hS : Sl .i32 w vs xs) (hB : B < w.heap.size) (k0 : w.cell? ⟨B, 0, none⟩ = some vs) (hx : xs.length ≤ 1048576) :
    Calls Tryz.prog 189 #[.slice (some ⟨B, 0, none⟩) 1 1] w fun e w' => ∃ v', e = .returned v' ∧ o32 w' w.heap.size v' xs ∧ Below w.heap.size w w' := by
  obtain ⟨i0, hi, hz0, hz1, hz2⟩ := info_parts Tryz.infoG
  have HS := hide hS
  rcases hS with ⟨rfl, rfl⟩ | ⟨b, off, cap, rfl, _, _⟩
  · skip
    go_enter Tryz.func189, Tryz.ntmps189
    go_wp2
    refine wp_loop_rounds 2 ?_
    rw [rounds_succ]
    go_wp2
    rw [rounds_succ]
    go_wp2_with fail
    refine (growNil 0 _ (by omega)).mono ?_
    rintro e w1 ⟨v1, rfl, ho, hb⟩
    have HO1 := hide ho
    have HB1 := hide hb
    have hs1 := hb.size
    have e0 := (hb.cell (p := ⟨B, 0, none⟩) hB).trans k0
    clear ho hb
    go_wp2_with fail
    refine wp_loop_rounds 2 ?_
    rw [rounds_succ]
    go_wp2_with (at_builtin; refine wpList_append_own_none rfl _ _ 36 rfl w.heap.size 21 i0 1 Tryz.underlying36 hi _ _ _ rfl HO1.out rfl ?_)
    rw [rounds_succ]
    go_wp2
    go_ret
    exact ⟨_, rfl, by simpa [o32, ints, Nat.add_assoc] using HO1.out, HB1.out⟩
  · skip
    go_enter Tryz.func189, Tryz.ntmps189
    go_wp2
    refine wp_loop_rounds 2 ?_
    rw [rounds_succ]
    go_wp2
    rw [rounds_succ]
    go_wp2_with fail
    refine (growNil xs.length _ (by omega)).mono ?_
    rintro e w1 ⟨v1, rfl, ho, hb⟩
    have HO1 := hide ho
    have HB1 := hide hb
    have hs1 := hb.size
    have e0 := (hb.cell (p := ⟨B, 0, none⟩) hB).trans k0
    clear ho hb
    go_wp2_with fail
    refine wp_loop_rounds 2 ?_
    rw [rounds_succ]
    have HC2 := hide (HS.out.below HB1.out |>.rd rfl)
    go_wp2_with (at_builtin; refine wpList_append_own _ rfl _ _ 36 rfl w.heap.size 21 i0 (.int .i32 0) 1 4 Tryz.underlying36 hi hz0 hz1 hz2 rfl (by decide) _ _ _ rfl HO1.out ⟨b, off, none⟩ xs.length cap (ints .i32 xs) rfl (by rw [ints_length, Nat.mul_one]) HC2.out (ints_one _ _) (by unfold maxLen; omega) (by omega) hs1 ?_; intro v2 w2 ho2 hg2 _)
    have HO2 := hide ho2
    have HB2 := hide (HB1.out.grown hg2 hs1 (fun q hq => (HO1.out.lt q hq).1))
    have hs2 := HB2.out.size
    have f02 := (HB2.out.cell (p := ⟨B, 0, none⟩) hB).trans k0
    clear ho2 hg2
    go_wp2
    rw [rounds_succ]
    go_wp2
    go_ret
    exact ⟨_, rfl, by simpa [o32, ints, Nat.add_assoc] using HO2.out, HB2.out⟩
end Go.Proofs.YtbgngikejgihgagGreatDoor

namespace Go.Proofs.YtbgngikejgihgagGreatDoor
open Go Go.RowKit
set_option linter.unusedVariables false

set_option maxHeartbeats 400000 in
theorem plain32N (ao : Option Addr) (n cap : Nat) (w : World) :
    Calls Tryz.prog 188 #[.slice ao n cap] w fun e w' => e = .returned (.agg #[.slice ao n cap, .int .i64 n, .int .i64 n]) ∧ Below w.heap.size w w' := by
  have HB := hide ((Below.refl w.heap.size w).alloc (Nat.le_refl _) (.cells #[.slice ao n cap, .int .i64 n, .int .i64 n] 177))
  go_enter Tryz.func188, Tryz.ntmps188
  go_wp2
  refine bodyPost_ret (v := .agg #[.slice ao n cap, .int .i64 n, .int .i64 n]) (by simp [results, Tryz.results188, go_sem]) rfl ⟨rfl, HB.out⟩
/-- The lines as rows, the tail behind the last. -/
def plR (L : List (List Int)) (t : List Int) : List Gr := L.dropLast.map plG ++ [plG (L.getLastD [] ++ t)]
theorem plR_len {L : List (List Int)} (h : L ≠ []) (t : List Int) : (plR L t).length = L.length := by
  have : 0 < L.length := List.length_pos_iff.2 h
  simp [plR]; omega
theorem last_get {L : List (List Int)} {k : Nat} (h : L.length = k + 1) : L[k]? = some (L.getLastD []) := by
  rw [List.getLastD_eq_getLast?, List.getLast?_eq_getElem?, h]
  simp [show k < L.length by omega]
theorem dropLast_take {L : List (List Int)} {k : Nat} (h : L.length = k + 1) : L.dropLast = L.take k := by
  rw [List.dropLast_eq_take, h]; rfl

end Go.Proofs.YtbgngikejgihgagGreatDoor

namespace Go.Proofs.YtbgngikejgihgagGreatDoor
open Go Go.RowKit
set_option linter.unusedVariables false

set_option maxHeartbeats 4000000 in
set_option maxRecDepth 100000 in
theorem plainRowsO (L : List (List Int)) (tl : List Int) (gl o cl : Nat) (vt : Value) (w : World) (m : Nat) (hm : L.length = m + 1) (hgl : gl < w.heap.size) (c1 : m + 1 ≤ cl) (c2 : cl ≤ maxLen) (hvc : ∀ k, k < m + 1 → ∃ v l, L[k]? = some l ∧ Sl .i32 w v l ∧ w.cell? ⟨gl, o + k, none⟩ = some v) (ht : Sl .i32 w vt tl) (hn : m + 1 ≤ 1048577) (hs : ∀ l ∈ L, l.length ≤ 1048576) (htl : tl.length ≤ 1048576) :
    Calls Tryz.prog 152 #[.slice (some ⟨gl, o, none⟩) (m + 1) cl, vt] w fun e w' => ∃ vs, e = .returned (.slice (some ⟨w.heap.size, 0, none⟩) (m + 1) (m + 1)) ∧ OwG 177 w' w.heap.size w'.heap.size (.slice (some ⟨w.heap.size, 0, none⟩) (m + 1) (m + 1)) vs (plR L tl) ∧ Below w.heap.size w w' := by
  obtain ⟨i0, hi, hz0, hz1, hz2⟩ := info_parts Tryz.infoGB
  have VC := hide hvc
  have HT := hide ht
  have HS := hide (fun (k : Nat) (l : List Int) (h : L[k]? = some l) => hs l (List.mem_of_getElem? h))
  have tv : ∃ at_ nt ct, vt = .slice at_ nt ct := by
    rcases ht with ⟨q, _⟩ | ⟨_, _, _, q, _⟩ <;> exact ⟨_, _, _, q⟩
  obtain ⟨at_, nt, ct, rfl⟩ := tv
  have HM := hide hm
  unfold maxLen at c2
  have DL := hide (dropLast_take hm)
  have LG := hide (last_get hm)
  clear hvc ht hs hm
  go_enter Tryz.func152, Tryz.ntmps152
  go_wp2_with (at_make; refine wpList_make_full _ rfl _ _ 168 rfl w.heap.size 177 i0 (.agg #[.slice none 0 0, .int .i64 0, .int .i64 0]) 3 Tryz.underlying168 hi hz0 hz1 .i64 .i64 _ _ (m + 1) rfl rfl (by omega) (by omega) (by rw [hz2]; omega) (by unfold maxLen; omega) (Nat.le_refl _) ?_; intro w1 hown hgrow)
  rw [made_grs] at hown
  have B1 := hide ((Below.refl w.heap.size w).grown hgrow (Nat.le_refl _) (fun k hk => by cases hk))
  have G1 := hide (show OwG 177 w1 w.heap.size w1.heap.size (.slice (some ⟨w.heap.size, 0, none⟩) (m + 1) (m + 1)) (List.replicate (m + 1) (.slice none 0 0)) (List.replicate (m + 1) nilG) from ⟨by rw [List.length_replicate]; exact hown, fun q hq => (hown.lt q hq).2, Nest.nils _ _ _ _⟩)
  clear hown hgrow
  go_loopw [19] (fun i wr => ∃ k : Nat, k ≤ m ∧ i = .int .i64 k ∧ Below w.heap.size w wr ∧ ∃ us : List Value, us.length = k ∧ OwG 177 wr w.heap.size wr.heap.size (.slice (some ⟨w.heap.size, 0, none⟩) (m + 1) (m + 1)) (us ++ List.replicate (m + 1 - k) (.slice none 0 0)) ((L.take k).map plG ++ List.replicate (m + 1 - k) nilG))
    (fun i _ => m - (intOf i).toNat)
  case atStart => exact ⟨0, Nat.zero_le _, rfl, B1.out, [], rfl, by simpa using G1.out⟩
  case round =>
    obtain ⟨k, hk, rfl, hb, us, hus, hG⟩ := hrel
    have HB := hide hb
    have hsz := hb.size
    obtain ⟨v, l, hl, hsl, hc0⟩ := VC.out k (by omega)
    have hc := (hb.cell (p := ⟨gl, o + k, none⟩) hgl).trans hc0
    have hlen := HS.out k l hl
    have hLk : (L.take k).length = k := by rw [List.length_take, HM.out]; omega
    have hrep : ∀ (β : Type) (x : β), List.replicate (m + 1 - k) x = x :: List.replicate (m + 1 - (k + 1)) x := fun β x => by rw [show m + 1 - k = (m + 1 - (k + 1)) + 1 by omega, List.replicate_succ]
    rw [hrep, hrep] at hG
    have hn3 : ((L.take k).map plG ++ nilG :: List.replicate (m + 1 - (k + 1)) nilG).length = m + 1 := by simp only [List.length_append, List.length_map, hLk, List.length_cons, List.length_replicate]; omega
    have SS := hide (hsl.below hb)
    have GG := hide hG
    have N3 := hide hn3
    have LK := hide hLk
    have US := hide hus
    have HL := hide hl
    have sv : ∃ a n' c, v = .slice a n' c := by
      rcases hsl with ⟨q, _⟩ | ⟨_, _, _, q, _⟩ <;> exact ⟨_, _, _, q⟩
    obtain ⟨a, n', c, rfl⟩ := sv
    have AA := hide ((Below.refl wr.heap.size wr).alloc (Nat.le_refl _) (.cells #[.slice a n' c] 36))
    have k0 : (wr.alloc (.cells #[.slice a n' c] 36)).cell? ⟨wr.heap.size, 0, none⟩ = some (.slice a n' c) := by simp
    have hsa : (wr.alloc (.cells #[.slice a n' c] 36)).heap.size = wr.heap.size + 1 := by simp
    by_cases hlt : k < m
    · have CC := hide (concat1 l _ _ _ (SS.out.below AA.out) (by rw [hsa]; omega) k0 hlen)
      have hlt' : (k : Int) < m := by omega
      clear hG hb hc0 hsl hl hus hLk hn3 hrep
      go_wp2_with fail
      generalize wr.alloc (.cells #[.slice a n' c] 36) = wa at *
      refine CC.out.mono ?_
      rintro e w2 ⟨u, rfl, ho2, hb2⟩
      obtain ⟨au, cu, rfl⟩ := o32_val ho2
      have O2 := hide ho2
      have BB2 := hide (AA.out.trans (hb2.mono (by omega)))
      have U2 := hide (fun q (hq : (Value.slice au l.length cu).ownBlock = some q) => (ho2.lt q hq))
      clear ho2 hb2 CC
      go_wp2_with fail
      refine (plain32N au l.length cu w2).mono ?_
      rintro e w3 ⟨rfl, hb3⟩
      have s23 := hb3.size
      have s2 := BB2.out.size
      have BB3 := hide (BB2.out.trans (hb3.mono (by omega)))
      have O3 := owns_below O2.out hb3 (Nat.le_refl _)
      have G3 := GG.out.frame (w' := w3) (fun q _ hq => BB3.out.block q hq)
      have ST := G3.store (hi' := w3.heap.size) l.length l.length N3.out (by rw [US.out, List.length_map, LK.out]) (owns_base O3 (by omega)) (fun q hq => by have := U2.out q hq; omega) (fun q hq => by have := U2.out q hq; omega) (by omega) (by decide)
      have kx := G3.cells N3.out (i := k) (get_midL (by rw [List.length_map, LK.out])) (get_midL US.out)
      have hr := G3.row
      rw [N3.out] at hr
      have f0 : w3.frozen? ⟨w.heap.size, k * 3, none⟩ = false := hr.frozenAt _
      have f1 : w3.frozen? ⟨w.heap.size, k * 3 + 1, none⟩ = false := hr.frozenAt _
      have f2 : w3.frozen? ⟨w.heap.size, k * 3 + 2, none⟩ = false := hr.frozenAt _
      obtain ⟨p0, p1, p2⟩ := kx
      rw [List.length_map, LK.out] at ST
      have S4 := hide ST.1
      have B4 := hide ((HB.out.trans (BB3.out.mono hsz)).grown ST.2 (by omega) (fun q hq => by cases hq; exact Nat.le_refl _))
      clear hb3 O3 G3 ST hr GG
      go_wp2
      go_roundw
      case rel =>
        refine ⟨k + 1, by omega, by go_num, B4.out, us ++ [.slice au l.length cu], by simp [US.out], ?_⟩
        rw [List.take_add_one, HL.out]
        have := S4.out
        simp only [Option.toList_some, List.map_append, List.map_cons, List.map_nil, List.append_assoc, List.cons_append, List.nil_append]
        exact this.mono (Nat.le_refl _) (by simp)
      case measure => simp [intOf]; omega
    · obtain rfl : k = m := by omega
      have hlt' : ¬ (k : Int) < k := by omega
      have AA2 := hide ((Below.refl wr.heap.size wr).alloc (Nat.le_refl _) (.cells #[.slice a n' c, .slice at_ nt ct] 36))
      have k0' : (wr.alloc (.cells #[.slice a n' c, .slice at_ nt ct] 36)).cell? ⟨wr.heap.size, 0, none⟩ = some (.slice a n' c) := by simp
      have k1' : (wr.alloc (.cells #[.slice a n' c, .slice at_ nt ct] 36)).cell? ⟨wr.heap.size, 1, none⟩ = some (.slice at_ nt ct) := by simp
      have hsa2 : (wr.alloc (.cells #[.slice a n' c, .slice at_ nt ct] 36)).heap.size = wr.heap.size + 1 := by simp
      have cc := concat l tl _ _ _ _ (SS.out.below AA2.out) ((HT.out.below HB.out).below AA2.out) (by rw [hsa2]; omega) k0' k1' hlen htl
      generalize hX : l ++ tl = X at cc
      have HX := hide hX
      have CC := hide cc
      clear cc hX
      clear hG hb hc0 hsl hl hus hLk hn3 hrep k0 hsa AA
      go_wp2_with fail
      generalize wr.alloc (.cells #[.slice a n' c, .slice at_ nt ct] 36) = wa at *
      refine CC.out.mono ?_
      rintro e w2 ⟨u, rfl, ho2, hb2⟩
      obtain ⟨au, cu, rfl⟩ := o32_val (show o32 w2 _ u X from ho2)
      have O2 := hide (show o32 w2 _ _ X from ho2)
      have BB2 := hide (AA2.out.trans (hb2.mono (by omega)))
      have U2 := hide (fun q (hq : (Value.slice au X.length cu).ownBlock = some q) => (ho2.lt q hq))
      clear ho2 hb2 CC
      go_wp2_with fail
      refine (plain32N au X.length cu w2).mono ?_
      rintro e w3 ⟨rfl, hb3⟩
      have s23 := hb3.size
      have s2 := BB2.out.size
      have BB3 := hide (BB2.out.trans (hb3.mono (by omega)))
      have O3 := owns_below O2.out hb3 (Nat.le_refl _)
      have G3 := GG.out.frame (w' := w3) (fun q _ hq => BB3.out.block q hq)
      have ST := G3.store (hi' := w3.heap.size) X.length X.length N3.out (by rw [US.out, List.length_map, LK.out]) (owns_base O3 (by omega)) (fun q hq => by have := U2.out q hq; omega) (fun q hq => by have := U2.out q hq; omega) (by omega) (by decide)
      have kx := G3.cells N3.out (i := k) (get_midL (by rw [List.length_map, LK.out])) (get_midL US.out)
      have hr := G3.row
      rw [N3.out] at hr
      have f0 : w3.frozen? ⟨w.heap.size, k * 3, none⟩ = false := hr.frozenAt _
      have f1 : w3.frozen? ⟨w.heap.size, k * 3 + 1, none⟩ = false := hr.frozenAt _
      have f2 : w3.frozen? ⟨w.heap.size, k * 3 + 2, none⟩ = false := hr.frozenAt _
      obtain ⟨p0, p1, p2⟩ := kx
      rw [List.length_map, LK.out] at ST
      have S4 := hide ST.1
      have B4 := hide ((HB.out.trans (BB3.out.mono hsz)).grown ST.2 (by omega) (fun q hq => by cases hq; exact Nat.le_refl _))
      generalize hLT : X.length = lt at *
      have HLT := hide hLT
      clear hb3 O3 G3 ST hr GG hLT
      go_wp2
      go_ret
      refine ⟨us ++ [.slice au lt cu], rfl, ?_, B4.out⟩
      have h9 := S4.out
      rw [show k + 1 - (k + 1) = 0 by omega] at h9
      have e1 : L.getLastD [] = l := by have := LG.out; rw [HL.out] at this; exact (Option.some.inj this).symm
      have e2 : plR L tl = (L.take k).map plG ++ [⟨X, lt, lt⟩] := by rw [plR, DL.out, e1, HX.out]; simp only [plG, HLT.out]
      rw [e2]
      exact h9.mono (Nat.le_refl _) (by simp)
end Go.Proofs.YtbgngikejgihgagGreatDoor
