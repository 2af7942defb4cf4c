import Derived.Test.YtbgngikejgihgadDoorLnB
import Derived.Test.YtbgngikejgihgadDoorConcat
import Derived.WalkKit
import Derived.WalkLawsBesides
namespace Go.Proofs.YtbgngikejgihgadDoor
open Go Go.RowKit
set_option linter.unusedVariables false

theorem Tryd.infoS : (Tryd.prog.info? 22).map (fun i => (i.zero, i.size, i.bytes)) = some (some (.slice none 0 0), 1, 24) := by kernel_rfl

/-- Where the first break is, or -1. -/
def ix (zs : List Int) : Int := if fb zs < zs.length then fb zs else -1
set_option maxHeartbeats 1000000 in
set_option maxRecDepth 100000 in
theorem indexL (zs : List Int) (b o cap : Nat) (w : World) (hc : ∀ i, i < zs.length → w.cell? ⟨b, o + i, none⟩ = some (.int .i32 (zs.getD i 0))) (hn : zs.length ≤ 1048576) (hcap : zs.length ≤ cap) (hm : cap ≤ maxLen) :
    Calls Tryd.prog 131 #[.slice (some ⟨b, o, none⟩) zs.length cap, .int .i32 10] w fun e w' => e = .returned (.int .i64 (ix zs)) ∧ w' = w := by
  have HC := hide hc
  have HL := hide (fun k (hk : k < fb zs) => fb_no hk)
  have HA := hide (fun (h : fb zs < zs.length) => fb_at h)
  have hl := fb_le zs
  unfold ix
  generalize hR : fb zs = R at *
  generalize hN : zs.length = n at *
  unfold maxLen at hm
  obtain ⟨X, hX⟩ : ∃ X : Int, X = if R < n then (R : Int) else -1 := ⟨_, rfl⟩
  rw [← hX]
  have HX := hide hX
  clear hc hX
  go_enter Tryd.func131, Tryd.ntmps131
  go_wp2_with fail
  go_loop [8] (fun i => ∃ k : Nat, k ≤ R ∧ i = .int .i64 k) (fun i => n - (intOf i).toNat)
  case atStart => exact ⟨0, Nat.zero_le _, rfl⟩
  case round =>
    obtain ⟨k, hk, rfl⟩ := hrel
    by_cases hkn : k < n
    · have hx := HC.out k hkn
      by_cases hkR : k = R
      · subst hkR
        have e1 := HA.out hkn
        rw [e1] at hx
        have HK := hide hkn
        have hkn' : (k : Int) < n := by omega
        clear hkn
        go_wp2
        go_ret
        exact ⟨by have h9 := HX.out; rw [if_pos HK.out] at h9; rw [h9]; rfl, rfl⟩
      · have hne := HL.out k (by omega)
        generalize zs.getD k 0 = z at *
        have hz' : ¬ 10 = z := fun h => hne h.symm
        have hkn' : (k : Int) < n := by omega
        go_wp2
        go_round
        case rel => exact ⟨k + 1, by omega, by go_num⟩
        case measure => simp [intOf]; omega
    · have hkn' : ¬ (k : Int) < n := by omega
      have HK := hide (show ¬ R < n by omega)
      go_wp2
      go_ret
      exact ⟨by have h9 := HX.out; rw [if_neg HK.out] at h9; rw [h9]; rfl, rfl⟩
set_option maxHeartbeats 1000000 in
theorem indexNil (w : World) : Calls Tryd.prog 131 #[.slice none 0 0, .int .i32 10] w fun e w' => e = .returned (.int .i64 (-1)) ∧ w' = w := by
  go_enter Tryd.func131, Tryd.ntmps131
  go_wp2_with fail
  refine wp_loop_rounds 1 ?_
  rw [rounds_succ]
  go_wp2
  go_ret
  exact ⟨rfl, rfl⟩

/-- Values that lead to lines. -/
structure LnAt (w : World) (vals : List Value) (L : List (List Int)) : Prop where
  len : vals.length = L.length
  at_ : ∀ (i : Nat) v l, vals[i]? = some v → L[i]? = some l → Sl .i32 w v l
theorem LnAt.nil (w : World) : LnAt w [] [] := ⟨rfl, fun i v l h => by simp at h⟩
theorem LnAt.snoc {w : World} {vals : List Value} {L : List (List Int)} {v : Value} {l : List Int} (h : LnAt w vals L) (hs : Sl .i32 w v l) : LnAt w (vals ++ [v]) (L ++ [l]) := by
  refine ⟨by simp [h.len], fun i u m hu hm => ?_⟩
  rcases Nat.lt_trichotomy i vals.length with q | q | q
  · rw [List.getElem?_append_left q] at hu
    rw [List.getElem?_append_left (by rw [← h.len]; exact q)] at hm
    exact h.at_ i u m hu hm
  · subst q
    rw [List.getElem?_append_right (Nat.le_refl _)] at hu
    rw [h.len, List.getElem?_append_right (Nat.le_refl _)] at hm
    simp at hu hm
    subst hu hm
    exact hs
  · rw [List.getElem?_eq_none (by simp; omega)] at hu; cases hu
theorem LnAt.below {w w' : World} {vals : List Value} {L : List (List Int)} (h : LnAt w vals L) (hb : Below w.heap.size w w') : LnAt w' vals L := ⟨h.len, fun i v l hv hl => (h.at_ i v l hv hl).below hb⟩
theorem sl_one {k : IntKind} {w : World} {v : Value} {l : List Int} (h : Sl k w v l) : v.oneCell' = true := by
  rcases h with ⟨rfl, _⟩ | ⟨b, off, cap, rfl, _⟩ <;> rfl
theorem sl_take {w : World} {b o c : Nat} {zs : List Int} (hc : ∀ i, i < zs.length → w.cell? ⟨b, o + i, none⟩ = some (.int .i32 (zs.getD i 0))) (hb : b < w.heap.size) {k : Nat} (hk : k ≤ zs.length) : Sl .i32 w (.slice (some ⟨b, o, none⟩) k c) (zs.take k) := by
  refine .inr ⟨b, o, c, by rw [List.length_take, Nat.min_eq_left hk], hb, fun i hi => ?_⟩
  rw [List.length_take] at hi
  rw [hc i (by omega)]
  simp [List.getD_eq_getElem?_getD, show i < k by omega]
def lenV : Value → Nat
  | .slice _ n _ => n
  | _ => 0

set_option maxHeartbeats 2000000 in
set_option maxRecDepth 100000 in
theorem cutL (zs : List Int) (b o cap : Nat) (w : World) (hc : ∀ i, i < zs.length → w.cell? ⟨b, o + i, none⟩ = some (.int .i32 (zs.getD i 0))) (hb : b < w.heap.size) (hn : zs.length ≤ 1048576) (hcap : zs.length ≤ cap) (hm : cap ≤ maxLen) :
    Calls Tryd.prog 92 #[.slice (some ⟨b, o, none⟩) zs.length cap] w fun e w' => ∃ v vals, e = .returned v ∧ w'.ownsRow w.heap.size 22 1 v (lns zs).length vals ∧ LnAt w vals (lns zs) ∧ Below w.heap.size w w' := by
  obtain ⟨i0, hi, hz0, hz1, hz2⟩ := info_parts Tryd.infoS
  have HC := hide hc
  have LL := hide (lns_len zs)
  generalize hLZ : lns zs = LZ at *
  have HLZ := hide hLZ
  generalize hN : zs.length = N at *
  have HN := hide hN
  clear hc hLZ hN
  go_enter Tryd.func92, Tryd.ntmps92
  go_wp2_with fail
  go_loopw [0, 3] (fun tx ls wr => ∃ (L : List (List Int)) (rest : List Int) (o' c : Nat) (vals : List Value), LZ = L ++ lns rest ∧ tx = .slice (some ⟨b, o', none⟩) rest.length c ∧ rest.length ≤ c ∧ c ≤ maxLen ∧ rest.length ≤ N ∧
      (∀ i, i < rest.length → w.cell? ⟨b, o' + i, none⟩ = some (.int .i32 (rest.getD i 0))) ∧ wr.ownsRow w.heap.size 22 1 ls L.length vals ∧ LnAt w vals L ∧ Below w.heap.size w wr)
    (fun tx _ _ => lenV tx)
  case atStart => exact ⟨[], zs, o, cap, [], by simp [HLZ.out], by rw [HN.out], by rw [HN.out]; exact hcap, hm, by rw [HN.out]; exact Nat.le_refl _, fun i hi => HC.out i (by rw [← HN.out]; exact hi), World.ownsRow_nil _ _ _ _, LnAt.nil _, Below.refl _ _⟩
  case round =>
    obtain ⟨L, rest, o', c, vals, hL, rfl, hrc, hcm, hrN, hcl, hown, hat, hbw⟩ := hrel
    have CL := hide hcl
    have HO := hide hown
    have HAT := hide hat
    have HBW := hide hbw
    have HL := hide hL
    have IX := hide (indexL rest b o' c wr (fun i hi => (hbw.cell (p := ⟨b, o' + i, none⟩) hb).trans (hcl i hi)) (by omega) hrc hcm)
    have hsz := hbw.size
    have hll : L.length ≤ 1048577 := by have h1 := LL.out.2; have h2 := HL.out; rw [h2, List.length_append] at h1; omega
    have hVN := HO.out.1
    unfold ix at IX
    unfold maxLen at hcm
    by_cases hf : fb rest < rest.length
    · rw [if_pos hf] at IX
      have EL := hide (fb_lns hf)
      have ST := hide (sl_take (c := c) CL.out hb (Nat.le_of_lt hf))
      generalize hF : fb rest = F at *
      generalize hR : rest.length = R at *
      have HR := hide hR
      clear hcl hown hat hbw hL hR hVN
      go_wp2_with fail
      refine IX.out.mono ?_
      rintro e w1 ⟨rfl, hw⟩
      have hw2 := hw.symm
      subst hw2
      clear hw IX
      have hF0 : ¬ (F : Int) < 0 := by omega
      have hFc : (F : Int) ≤ c := by omega
      have hFc1 : (F : Int) + 1 ≤ c := by omega
      have hFc2 : (F : Int) + 1 ≤ R := by omega
      have NC := hide (newcells wr 22 [.slice (some ⟨b, o', none⟩) F c])
      by_cases hcF : c = F + 1
      · subst hcF
        go_wp2_with (at_builtin; refine wpList_append_own _ rfl _ _ 80 rfl w.heap.size 22 i0 (.slice none 0 0) 1 24 Tryd.underlying80 hi hz0 hz1 hz2 rfl (by decide) _ _ _ rfl (HO.out.alloc _) ⟨wr.heap.size, 0, none⟩ 1 1 [.slice (some ⟨b, o', none⟩) F (F + 1)] rfl rfl NC.out (by intro u hu; simp at hu; subst hu; rfl) (by unfold maxLen; omega) (by omega) (by simp; omega) ?_; intro v2 w2 ho2 hg2 _)
        have B2 := hide ((HBW.out.alloc (by omega) (.cells #[.slice (some ⟨b, o', none⟩) F (F + 1)] 22)).grown hg2 (by simp; omega) (fun q hq => (HO.out.lt q hq).1))
        have O2 := hide ho2
        clear ho2 hg2
        go_wp2
        go_roundw
        case rel =>
          have eR : rest.drop (F + 1) = [] := List.drop_of_length_le (by rw [HR.out]; omega)
          refine ⟨L ++ [rest.take F], [], o', 0, vals ++ [.slice (some ⟨b, o', none⟩) F (F + 1)], ?_, ?_, Nat.zero_le _, by unfold maxLen; omega, Nat.zero_le _, fun i hi => by simp at hi, ?_, HAT.out.snoc ST.out, B2.out⟩
          · rw [HL.out, EL.out, eR]; simp
          · simp
          · rw [List.length_append]; exact O2.out
        case measure => simp [lenV]; omega
      · have hcF' : ¬ ((c : Int) = F + 1) := by omega
        have hcl' : (F : Int) + 1 < c := by omega
        go_wp2_with (at_builtin; refine wpList_append_own _ rfl _ _ 80 rfl w.heap.size 22 i0 (.slice none 0 0) 1 24 Tryd.underlying80 hi hz0 hz1 hz2 rfl (by decide) _ _ _ rfl (HO.out.alloc _) ⟨wr.heap.size, 0, none⟩ 1 1 [.slice (some ⟨b, o', none⟩) F c] rfl rfl NC.out (by intro u hu; simp at hu; subst hu; rfl) (by unfold maxLen; omega) (by omega) (by simp; omega) ?_; intro v2 w2 ho2 hg2 _)
        have B2 := hide ((HBW.out.alloc (by omega) (.cells #[.slice (some ⟨b, o', none⟩) F c] 22)).grown hg2 (by simp; omega) (fun q hq => (HO.out.lt q hq).1))
        have O2 := hide ho2
        clear ho2 hg2
        go_wp2
        go_roundw
        case rel =>
          have eR : (rest.drop (F + 1)).length = R - (F + 1) := by rw [List.length_drop, HR.out]
          refine ⟨L ++ [rest.take F], rest.drop (F + 1), o' + (F + 1), c - (F + 1), vals ++ [.slice (some ⟨b, o', none⟩) F c], ?_, ?_, by rw [eR]; omega, by unfold maxLen; omega, by rw [eR]; omega, ?_, ?_, HAT.out.snoc ST.out, B2.out⟩
          · rw [HL.out, EL.out]; simp
          · rw [eR]
          · intro i hi
            rw [eR] at hi
            rw [Nat.add_assoc, CL.out (F + 1 + i) (by omega)]
            simp [List.getD_eq_getElem?_getD, List.getElem?_drop]
          · rw [List.length_append]; exact O2.out
        case measure => simp [lenV]; omega
    · rw [if_neg hf] at IX
      have hfe : fb rest = rest.length := by have := fb_le rest; omega
      have EL := hide (fb_lns0 hfe)
      have ST := hide (sl_take (c := c) CL.out hb (Nat.le_refl _))
      rw [List.take_of_length_le (Nat.le_refl _)] at ST
      generalize hR : rest.length = R at *
      clear hcl hown hat hbw hL hR hVN hfe hf
      go_wp2_with fail
      refine IX.out.mono ?_
      rintro e w1 ⟨rfl, hw⟩
      have hw2 := hw.symm
      subst hw2
      clear hw IX
      have NC := hide (newcells wr 22 [.slice (some ⟨b, o', none⟩) R c])
      go_wp2_with (at_builtin; refine wpList_append_own _ rfl _ _ 80 rfl w.heap.size 22 i0 (.slice none 0 0) 1 24 Tryd.underlying80 hi hz0 hz1 hz2 rfl (by decide) _ _ _ rfl (HO.out.alloc _) ⟨wr.heap.size, 0, none⟩ 1 1 [.slice (some ⟨b, o', none⟩) R c] rfl rfl NC.out (by intro u hu; simp at hu; subst hu; rfl) (by unfold maxLen; omega) (by omega) (by simp; omega) ?_; intro v2 w2 ho2 hg2 _)
      have B2 := hide ((HBW.out.alloc (by omega) (.cells #[.slice (some ⟨b, o', none⟩) R c] 22)).grown hg2 (by simp; omega) (fun q hq => (HO.out.lt q hq).1))
      have O2 := hide ho2
      clear ho2 hg2
      go_wp2
      go_ret
      refine ⟨_, vals ++ [.slice (some ⟨b, o', none⟩) R c], rfl, ?_, ?_, B2.out⟩
      · rw [HL.out, EL.out, List.length_append]; exact O2.out
      · rw [HL.out, EL.out]; exact HAT.out.snoc ST.out
end Go.Proofs.YtbgngikejgihgadDoor
