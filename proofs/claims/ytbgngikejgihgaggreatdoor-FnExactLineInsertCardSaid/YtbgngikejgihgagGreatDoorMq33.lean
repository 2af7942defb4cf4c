import Derived.Test.YtbgngikejgihgagGreatDoorMq07
import Derived.Test.YtbgngikejgihgagGreatDoorMq32
import Derived.WalkKit
import Derived.WalkLawsBesides
import Derived.Laws.AppendOwnNone
import Derived.Deep.RegionWith
import Derived.Deep.Cut
import Derived.Deep.CutRange
import Derived.Deep.CutBlock
import Derived.Deep.DeepCutAuto
import Derived.Test.YtbgngikejgihgagGreatDoorMq06
namespace Go.Proofs.YtbgngikejgihgagGreatDoor
open Go Go.RowKit
set_option linter.unusedVariables false

/-- A row that is read: what append takes, from a place on; or nothing. -/
structure Src32 (w : World) (v : Value) (xs : List Int) : Prop where
  p : v = .slice none 0 0 ∧ xs = [] ∨ ∃ ad c, v = .slice (some ad) xs.length c ∧ ∀ j u, (ints .i32 xs)[j]? = some u → w.cell? (ad.add j) = some u

theorem Sl.src {w : World} {v : Value} {xs : List Int} (h : Sl .i32 w v xs) : Src32 w v xs := by
  rcases h with ⟨h, e⟩ | ⟨b, off, cap, rfl, hb, hc⟩
  · exact ⟨.inl ⟨h, e⟩⟩
  · refine ⟨.inr ⟨⟨b, off, none⟩, cap, rfl, ?_⟩⟩
    have := cut_cells (o := 0) (l := xs.length) hc
    simpa using this

set_option maxHeartbeats 1000000 in
set_option maxRecDepth 100000 in
/-- The list with a stretch replaced: the text lies in a row, the new part is whatever. -/
theorem l3Splice_row (g cap n : Nat) (tx ps : List Int) (a b : Nat) (vp : Value) (w : World) (hz : Cl w g tx) (hg : g < w.heap.size) (hN : tx.length = n) (hc : n ≤ cap) (hcm : cap ≤ maxLen) (hab : a ≤ b) (hb : b ≤ n) (hn : n ≤ 1048576) (hp : Sl .i32 w vp ps) (hpn : ps.length ≤ 1048576) :
    Calls Tryz.prog 159 #[.slice (some ⟨g, 0, none⟩) n cap, .int .i64 a, .int .i64 b, vp] w fun e w' => ∃ v', e = .returned v' ∧ v' ≠ .slice none 0 0 ∧ w'.ownsRow w.heap.size 21 1 v' (a + ps.length + (n - b)) (ints .i32 (tx.take a ++ (ps ++ tx.drop b))) ∧ Below w.heap.size w w' := by
  obtain ⟨i0, hi', hz0, hz1, hz2⟩ := info_parts Tryz.infoG
  have HB := hide ((Below.refl w.heap.size w).alloc (Nat.le_refl _) (.cells #[] 21))
  have H0 := hide (own_new w)
  have HZ := hide (hz.below HB.out hg)
  have HZ0 := hide hz
  have HP := hide hp
  have hs0 := HB.out.size
  have es2 : (w.alloc (.cells #[] 21)).heap.size = w.heap.size + 1 := by simp
  have HA1 := hide (HZ.out.app 0 a (by omega))
  have E1 := hide (show (ints .i32 ((tx.drop 0).take a)).length = a * 1 by rw [ints_length, List.length_take, List.drop_zero]; omega)
  have HN := hide hN
  obtain ⟨m, hm⟩ : ∃ m, m = ps.length := ⟨_, rfl⟩
  rw [← hm] at hpn ⊢
  have HM := hide hm
  have hv : ∃ ap cp, vp = .slice ap m cp := by
    rcases hp with ⟨h, e⟩ | ⟨b', off, cap', h, _, _⟩
    · exact ⟨none, 0, by rw [h, hm, e]; rfl⟩
    · exact ⟨_, _, by rw [h, hm]⟩
  clear hN hz hp hm
  obtain ⟨ap, cp, rfl⟩ := hv
  go_enter Tryz.func159, Tryz.ntmps159
  go_upto_region 2 with (at_builtin; refine wpList_append_own _ rfl _ _ 36 rfl w.heap.size 21 i0 (.int .i32 0) 1 4 Tryz.underlying36 hi' hz0 hz1 hz2 rfl (by decide) _ 0 [] rfl H0.out ⟨g, 0, none⟩ a cap (ints .i32 ((tx.drop 0).take a)) rfl E1.out HA1.out (ints_one _ _) (by unfold maxLen; omega) (by omega) hs0 ?_; intro v2 w2 hown' hgrow hnil2)
  have N2 := hide (show v2 ≠ .slice none 0 0 from fun e => by
    have h' : Value.slice (some ⟨w.heap.size, 0, none⟩) 0 0 = .slice none 0 0 := (hnil2.1 e).1
    cases h')
  have HO2 := hide hown'
  have HB2 := hide (HB.out.grown hgrow hs0 (fun q hq => (H0.out.lt q hq).1))
  have HZ2 := hide (HZ0.out.below HB2.out hg)
  have HP2 := hide (HP.out.below HB2.out).src
  have hs2 := HB2.out.size
  clear hown' hgrow hnil2 HB H0 HZ HA1 E1 es2 hs0
  have step : ∃ C : World → Value → Prop, (∀ w3 v3, C w3 v3 ↔ v3 ≠ .slice none 0 0 ∧ w3.ownsRow w.heap.size 21 1 v3 (0 + a + m) ([] ++ ints .i32 ((tx.drop 0).take a) ++ ints .i32 ps) ∧ Below w.heap.size w w3) := ⟨_, fun _ _ => Iff.rfl⟩
  obtain ⟨C, hC⟩ := step
  have HCd := hide hC
  clear hC
  go_cut [9] (fun s9 w3 => C w3 s9)
  case first =>
    rcases HP2.out.p with ⟨h, e⟩ | ⟨ad, c, h, hc⟩
    · simp only [Value.slice.injEq] at h
      obtain ⟨rfl, rfl, rfl⟩ := h
      subst e
      go_wp2_with (at_builtin; refine wpList_append_own_none rfl _ _ 36 rfl w.heap.size 21 i0 1 Tryz.underlying36 hi' _ _ _ rfl HO2.out rfl ?_)
      go_meet
      exact (HCd.out _ _).2 ⟨N2.out, by simpa [ints] using HO2.out, HB2.out⟩
    · simp only [Value.slice.injEq] at h
      obtain ⟨rfl, rfl, rfl⟩ := h
      have HC2 := hide hc
      clear hc
      go_wp2_with (at_builtin; refine wpList_append_own _ rfl _ _ 36 rfl w.heap.size 21 i0 (.int .i32 0) 1 4 Tryz.underlying36 hi' hz0 hz1 hz2 rfl (by decide) _ _ _ rfl HO2.out ad ps.length cp (ints .i32 ps) rfl (by rw [ints_length, Nat.mul_one]) HC2.out (ints_one _ _) (by unfold maxLen; omega) (by omega) hs2 ?_; intro v3 w3 hown' hgrow hnil3)
      have N3 := hide (show v3 ≠ .slice none 0 0 from fun e => N2.out (hnil3.1 e).1)
      have HO3 := hide hown'
      have HB3 := hide (HB2.out.grown hgrow hs2 (fun q hq => (HO2.out.lt q hq).1))
      clear hown' hgrow hnil3
      go_wp2
      go_meet
      exact (HCd.out _ _).2 ⟨N3.out, HO3.out, HB3.out⟩
  case rest =>
    obtain ⟨hn3, ho3, hb3⟩ := (HCd.out _ _).1 hcut
    have N3 := hide hn3
    have HO3 := hide ho3
    have HB3 := hide hb3
    have HZ3 := hide (HZ0.out.below hb3 hg)
    have hs3 := hb3.size
    clear hcut hn3 ho3 hb3 HZ2 HP2 HO2 HB2 N2 HCd
    by_cases hco : cap = b
    · have EQ := hide (show tx.drop b = [] from List.drop_of_length_le (by rw [HN.out]; omega))
      obtain rfl : n = b := by omega
      subst hco
      go_wp2_with (at_builtin; refine wpList_append_own _ rfl _ _ 36 rfl w.heap.size 21 i0 (.int .i32 0) 1 4 Tryz.underlying36 hi' hz0 hz1 hz2 rfl (by decide) _ _ _ rfl HO3.out ⟨g, 0, none⟩ 0 _ (ints .i32 []) rfl (by simp [ints]) (by intro j u h; simp [ints] at h) (ints_one _ _) (by unfold maxLen; omega) (by omega) hs3 ?_; intro v4 w4 hown' hgrow hnil4)
      have N4 := hide (show v4 ≠ .slice none 0 0 from fun e => N3.out (hnil4.1 e).1)
      have HO4 := hide hown'
      have HB4 := hide (HB3.out.grown hgrow hs3 (fun q hq => (HO3.out.lt q hq).1))
      clear hown' hgrow hnil4
      go_wp2
      go_ret
      refine ⟨_, rfl, N4.out, ?_, HB4.out⟩
      rw [EQ.out, List.append_nil, ints_append]
      simpa [ints] using HO4.out
    · have HA2 := hide (HZ3.out.app b (n - b) (by rw [HN.out]; omega))
      have EQ := hide (show tx.drop b = (tx.drop b).take (n - b) by rw [List.take_of_length_le (l := tx.drop b) (by rw [List.length_drop, HN.out]; exact Nat.le_refl _)])
      have E2 := hide (show (ints .i32 ((tx.drop b).take (n - b))).length = (n - b) * 1 by rw [ints_length, List.length_take, List.length_drop, HN.out]; omega)
      go_wp2_with (at_builtin; refine wpList_append_own _ rfl _ _ 36 rfl w.heap.size 21 i0 (.int .i32 0) 1 4 Tryz.underlying36 hi' hz0 hz1 hz2 rfl (by decide) _ _ _ rfl HO3.out ⟨g, b, none⟩ (n - b) (cap - b) (ints .i32 ((tx.drop b).take (n - b))) rfl E2.out HA2.out (ints_one _ _) (by unfold maxLen; omega) (by omega) hs3 ?_; intro v4 w4 hown' hgrow hnil4)
      have N4 := hide (show v4 ≠ .slice none 0 0 from fun e => N3.out (hnil4.1 e).1)
      have HO4 := hide hown'
      have HB4 := hide (HB3.out.grown hgrow hs3 (fun q hq => (HO3.out.lt q hq).1))
      clear hown' hgrow hnil4
      go_wp2
      go_ret
      refine ⟨_, rfl, N4.out, ?_, HB4.out⟩
      rw [EQ.out, ints_append, ints_append]
      have e : a + m + (n - b) = 0 + a + m + (n - b) := by omega
      rw [e]
      simpa using HO4.out

theorem owns_val {w : World} {base n : Nat} {v : Value} {zs : List Int} (h : w.ownsRow base 21 1 v n (ints .i32 zs)) : ∃ ao cap, v = .slice ao n cap := by
  have hl : zs.length = n := by have := h.1; simpa [ints] using this
  obtain ⟨ao, cap, hv⟩ := (Gs.of_owns h).val
  exact ⟨ao, cap, by rw [hv, hl]⟩

set_option maxHeartbeats 2000000 in
set_option maxRecDepth 100000 in
/-- A text laid out. -/
theorem l3Lay_row (g cap n : Nat) (tx : List Int) (p c : Nat) (w : World) (hz : Cl w g tx) (hg : g < w.heap.size) (hN : tx.length = n) (hc : n ≤ cap) (hcm : cap ≤ maxLen) (hp : p ≤ n) (hnc : n ≤ c) (hcc : c ≤ 1048576) :
    Calls Tryz.prog 158 #[.slice (some ⟨g, 0, none⟩) n cap, .int .i64 p, .int .i64 c] w fun e w' => ∃ ao cap', e = .returned (.agg #[.slice ao c cap', .int .i64 p, .int .i64 ((p + (c - n) : Nat) : Int)]) ∧ w'.ownsRow w.heap.size 21 1 (.slice ao c cap') c (ints .i32 (glay tx p c)) ∧ Below w.heap.size w w' := by
  obtain ⟨i0, hi', hz0, hz1, hz2⟩ := info_parts Tryz.infoG
  obtain ⟨G, hG⟩ : ∃ G : Nat, G = c - n := ⟨_, rfl⟩
  rw [← hG]
  have eG : (c : Int) - (n : Int) = G := by omega
  have HB := hide (((Below.refl w.heap.size w).alloc (Nat.le_refl _) (.cells #[.slice none 0 0, .int .i64 0, .int .i64 0] 152)).alloc (by simp) (.cells #[] 21))
  have H0 := hide (owns_base (base' := w.heap.size + 1) (own_new (w.alloc (.cells #[.slice none 0 0, .int .i64 0, .int .i64 0] 152))) (by simp))
  have es : (w.alloc (.cells #[.slice none 0 0, .int .i64 0, .int .i64 0] 152)).heap.size = w.heap.size + 1 := by simp
  rw [es] at H0
  have HT0 := hide ((T3.new w (.slice none 0 0) (.int .i64 0) (.int .i64 0) 152).below ((Below.refl _ _).alloc (Nat.le_refl _) (.cells #[] 21)) (by simp))
  have HZ := hide (hz.below HB.out hg)
  have HZ0 := hide hz
  have HA1 := hide (HZ.out.app 0 p (by omega))
  have E1 := hide (show (ints .i32 ((tx.drop 0).take p)).length = p * 1 by rw [ints_length, List.length_take, List.drop_zero]; omega)
  have HN := hide hN
  have hs0 : w.heap.size + 1 ≤ ((w.alloc (.cells #[.slice none 0 0, .int .i64 0, .int .i64 0] 152)).alloc (.cells #[] 21)).heap.size := by simp
  have HGL := hide (show ints .i32 (glay tx p c) = ints .i32 ((tx.drop 0).take p) ++ (ints .i32 (List.replicate G 0) ++ ints .i32 (tx.drop p)) by rw [glay, hN, ← hG, ints_append, ints_append, List.drop_zero])
  have hs1 : w.heap.size + 1 < ((w.alloc (.cells #[.slice none 0 0, .int .i64 0, .int .i64 0] 152)).alloc (.cells #[] 21)).heap.size := by simp
  generalize glay tx p c = res at *
  have hGc : G ≤ c := by omega
  have hnG : n + G = c := by omega
  have HNG := hide hnG
  clear hN hz es hG hnG
  go_enter Tryz.func158, Tryz.ntmps158
  go_upto_region 3 with (at_builtin; refine wpList_append_own _ rfl _ _ 36 rfl (w.heap.size + 1) 21 i0 (.int .i32 0) 1 4 Tryz.underlying36 hi' hz0 hz1 hz2 rfl (by decide) _ 0 [] rfl H0.out ⟨g, 0, none⟩ p cap (ints .i32 ((tx.drop 0).take p)) rfl E1.out HA1.out (ints_one _ _) (by unfold maxLen; omega) (by omega) hs0 ?_; intro v2 w2 hown' hgrow hnil2)
  have HO2 := hide hown'
  have HB2 := hide (HB.out.grown hgrow (by omega) (fun q hq => by have := (H0.out.lt q hq).1; omega))
  have HBB := hide (show Below (w.heap.size + 1) ((w.alloc (.cells #[.slice none 0 0, .int .i64 0, .int .i64 0] 152)).alloc (.cells #[] 21)) w2 from (Below.refl _ _).grown hgrow hs0 (fun q hq => (H0.out.lt q hq).1))
  have HT2 := hide (HT0.out.below HBB.out (by omega))
  have hs2 : w.heap.size + 1 ≤ w2.heap.size := by have := HBB.out.size; omega
  clear hown' hgrow hnil2 HB H0 HZ HA1 E1 hs0 hs1 HBB HT0
  go_wp2_with fail
  go_loopw [8, 9] (fun out k wr => ∃ j : Nat, j ≤ G ∧ k = .int .i64 j ∧ wr.ownsRow (w.heap.size + 1) 21 1 out (0 + p + j) ([] ++ ints .i32 ((tx.drop 0).take p) ++ ints .i32 (List.replicate j 0)) ∧ Below w.heap.size w wr ∧ T3 wr w.heap.size (.slice none 0 0) (.int .i64 0) (.int .i64 0) 152 ∧ w.heap.size + 1 ≤ wr.heap.size)
    (fun _ k _ => G - (intOf k).toNat)
  case atStart => exact ⟨0, Nat.zero_le _, rfl, by simpa [ints] using HO2.out, HB2.out, HT2.out, hs2⟩
  case round =>
    rename_i u8 u9 wr0
    obtain ⟨j, hj, rfl, hown, hbr, htr, hsr⟩ := hrel
    by_cases hlt : j < G
    · have HO := hide (owns_below hown ((Below.refl wr.heap.size wr).alloc (Nat.le_refl _) (.cells #[.int .i32 0] 21)) (Nat.le_refl _))
      have HBr := hide (hbr.alloc (by omega) (.cells #[.int .i32 0] 21))
      have HTr := hide (htr.below ((Below.refl wr.heap.size wr).alloc (Nat.le_refl _) (.cells #[.int .i32 0] 21)) (by omega))
      have hsA : w.heap.size + 1 ≤ (wr.alloc (.cells #[.int .i32 0] 21)).heap.size := by simp; omega
      have HC := hide (newcells wr 21 (ints .i32 [0]))
      clear hown hbr htr
      go_wp2_with (at_builtin; refine wpList_append_own _ rfl _ _ 36 rfl (w.heap.size + 1) 21 i0 (.int .i32 0) 1 4 Tryz.underlying36 hi' hz0 hz1 hz2 rfl (by decide) _ _ _ rfl HO.out ⟨wr.heap.size, 0, none⟩ 1 1 (ints .i32 [0]) rfl (by simp [ints]) (by exact HC.out) (ints_one _ _) (by unfold maxLen; omega) (by omega) hsA ?_; intro v3 w3 hown' hgrow hnil3)
      have HO3 := hide hown'
      have HB3 := hide (HBr.out.grown hgrow (by omega) (fun q hq => by have := (HO.out.lt q hq).1; omega))
      have HBB := hide (show Below (w.heap.size + 1) (wr.alloc (.cells #[.int .i32 0] 21)) w3 from (Below.refl _ _).grown hgrow hsA (fun q hq => (HO.out.lt q hq).1))
      have HT3 := hide (HTr.out.below HBB.out (by omega))
      have hs3 : w.heap.size + 1 ≤ w3.heap.size := by have := HBB.out.size; omega
      clear hown' hgrow hnil3 HBB
      go_wp2
      go_roundw
      case rel => exact ⟨j + 1, by omega, by go_num, by
        have h3 := HO3.out
        rw [List.append_assoc, ← ints_append] at h3
        rw [show List.replicate (j + 1) (0 : Int) = List.replicate j 0 ++ [0] from List.replicate_succ']
        exact h3, HB3.out, HT3.out, hs3⟩
      case measure => simp [intOf]; omega
    · obtain rfl : j = G := by omega
      have HO := hide hown
      have HBr := hide hbr
      have HTr := hide htr
      have HZr := hide (HZ0.out.below hbr hg)
      clear hown hbr htr
      obtain ⟨k0, k1, k2⟩ := HTr.out.c
      by_cases hco : cap = p
      · obtain rfl : n = p := by omega
        subst hco
        have EQ := hide (show tx.drop cap = [] from List.drop_of_length_le (by rw [HN.out]; exact Nat.le_refl _))
        go_upto_region 8 with (at_builtin; refine wpList_append_own _ rfl _ _ 36 rfl (w.heap.size + 1) 21 i0 (.int .i32 0) 1 4 Tryz.underlying36 hi' hz0 hz1 hz2 rfl (by decide) _ _ _ rfl HO.out ⟨g, 0, none⟩ 0 _ (ints .i32 []) rfl (by simp [ints]) (by intro j u h; simp [ints] at h) (ints_one _ _) (by unfold maxLen; omega) (by omega) hsr ?_; intro v4 w4 hown' hgrow hnil4)
        have HO4 := hide (show w4.ownsRow (w.heap.size + 1) 21 1 v4 c (ints .i32 res) from by
          have h4 := hown'
          rw [HGL.out, EQ.out]
          rw [show c = 0 + cap + j + 0 by have := HNG.out; omega]
          simpa [ints] using h4)
        have HB4 := hide (HBr.out.grown hgrow (by omega) (fun q hq => by have := (HO.out.lt q hq).1; omega))
        have HBB := hide (show Below (w.heap.size + 1) wr w4 from (Below.refl _ _).grown hgrow hsr (fun q hq => (HO.out.lt q hq).1))
        have HT4 := hide (HTr.out.below HBB.out (by omega))
        obtain ⟨ao4, cap4, hv4⟩ := owns_val HO4.out
        subst hv4
        obtain ⟨g0, g1, g2⟩ := HT4.out.c
        have z0 := HT4.out.fz 0
        have z1 := HT4.out.fz 1
        have z2 := HT4.out.fz 2
        clear hown' hgrow hnil4 HBB
        go_wp2
        refine bodyPost_ret (v := .agg #[.slice ao4 c cap4, .int .i64 cap, .int .i64 ((cap + j : Nat) : Int)]) (by simp [results, Tryz.results158, go_sem, g0, g1, g2]) rfl ?_
        exact ⟨ao4, cap4, rfl, owns_base (owns_set3 HO4.out (by omega) _ _ _) (by omega), ((HB4.out.setCell (by simp) _).setCell (by simp) _).setCell (by simp) _⟩
      · skip
        have HA2 := hide (HZr.out.app p (n - p) (by rw [HN.out]; omega))
        have EQ := hide (show tx.drop p = (tx.drop p).take (n - p) by rw [List.take_of_length_le (l := tx.drop p) (by rw [List.length_drop, HN.out]; exact Nat.le_refl _)])
        have E2 := hide (show (ints .i32 ((tx.drop p).take (n - p))).length = (n - p) * 1 by rw [ints_length, List.length_take, List.length_drop, HN.out]; omega)
        go_upto_region 8 with (at_builtin; refine wpList_append_own _ rfl _ _ 36 rfl (w.heap.size + 1) 21 i0 (.int .i32 0) 1 4 Tryz.underlying36 hi' hz0 hz1 hz2 rfl (by decide) _ _ _ rfl HO.out ⟨g, p, none⟩ (n - p) (cap - p) (ints .i32 ((tx.drop p).take (n - p))) rfl E2.out HA2.out (ints_one _ _) (by unfold maxLen; omega) (by omega) hsr ?_; intro v4 w4 hown' hgrow hnil4)
        have HO4 := hide (show w4.ownsRow (w.heap.size + 1) 21 1 v4 c (ints .i32 res) from by
          have h4 := hown'
          rw [HGL.out, EQ.out]
          rw [show c = 0 + p + j + (n - p) by have := HNG.out; omega]
          simpa using h4)
        have HB4 := hide (HBr.out.grown hgrow (by omega) (fun q hq => by have := (HO.out.lt q hq).1; omega))
        have HBB := hide (show Below (w.heap.size + 1) wr w4 from (Below.refl _ _).grown hgrow hsr (fun q hq => (HO.out.lt q hq).1))
        have HT4 := hide (HTr.out.below HBB.out (by omega))
        obtain ⟨ao4, cap4, hv4⟩ := owns_val HO4.out
        subst hv4
        obtain ⟨g0, g1, g2⟩ := HT4.out.c
        have z0 := HT4.out.fz 0
        have z1 := HT4.out.fz 1
        have z2 := HT4.out.fz 2
        clear hown' hgrow hnil4 HBB
        go_wp2
        refine bodyPost_ret (v := .agg #[.slice ao4 c cap4, .int .i64 p, .int .i64 ((p + j : Nat) : Int)]) (by simp [results, Tryz.results158, go_sem, g0, g1, g2]) rfl ?_
        exact ⟨ao4, cap4, rfl, owns_base (owns_set3 HO4.out (by omega) _ _ _) (by omega), ((HB4.out.setCell (by simp) _).setCell (by simp) _).setCell (by simp) _⟩
end Go.Proofs.YtbgngikejgihgagGreatDoor

namespace Go.Proofs.YtbgngikejgihgagGreatDoor
open Go Go.RowKit
set_option linter.unusedVariables false

theorem owns_some {w : World} {base n : Nat} {v : Value} {zs : List Int} (h : w.ownsRow base 21 1 v n (ints .i32 zs)) (hv : v ≠ .slice none 0 0) : ∃ g cap, v = .slice (some ⟨g, 0, none⟩) n cap ∧ base ≤ g ∧ g < w.heap.size ∧ n ≤ cap ∧ cap ≤ maxLen ∧ Cl w g zs := by
  have hl : zs.length = n := by have := h.1; simpa [ints] using this
  rcases Gs.of_owns h with ⟨e, _⟩ | ⟨g, cap, e, h1, h2, h3, h4⟩
  · exact absurd e hv
  · subst e
    exact ⟨g, cap, by rw [hl], (h.lt g rfl).1, h1, by omega, h3, h4⟩

set_option maxHeartbeats 4000000 in
set_option maxRecDepth 100000 in
/-- The three calls of l3Delete, one after another. -/
theorem l3DeleteN (zs : List Int) (v : Value) (lo hi : Nat) (a b : Nat) (w : World) (h : Gs w v zs) (hk : GV zs lo hi) (hab : a ≤ b) (hb : b + (hi - lo) ≤ zs.length) :
    Calls Tryz.prog 105 #[.agg #[v, .int .i64 lo, .int .i64 hi], .int .i64 a, .int .i64 b] w fun e w' => ∃ ao cap', e = .returned (.agg #[.slice ao zs.length cap', .int .i64 a, .int .i64 ((b + (hi - lo) : Nat) : Int)]) ∧ w'.ownsRow w.heap.size 21 1 (.slice ao zs.length cap') zs.length (ints .i32 (glay ((gtext zs lo hi).take a ++ (gtext zs lo hi).drop b) a zs.length)) ∧ Below w.heap.size w w' := by
  obtain ⟨ao, cap, rfl⟩ := h.val
  have hc := hk.c
  have h1 := hk.a
  have h2 := hk.b
  have hL : (gtext zs lo hi).length = zs.length - (hi - lo) := gtext_length h1 h2
  have HB0 := hide (((Below.refl w.heap.size w).alloc (Nat.le_refl _) (.cells #[.slice ao zs.length cap, .int .i64 lo, .int .i64 hi] 152)).alloc (by simp) (.cells #[.slice none 0 0, .int .i64 0, .int .i64 0] 152))
  have HX := hide (fun w' (hw : Gs w' (.slice ao zs.length cap) zs) => l3TextN zs _ lo hi w' hw hk)
  have HS0 := hide (h.below HB0.out (Nat.le_refl _))
  have HT0 := hide (T3.new (w.alloc (.cells #[.slice ao zs.length cap, .int .i64 lo, .int .i64 hi] 152)) (.slice none 0 0) (.int .i64 0) (.int .i64 0) 152)
  have HP0 := hide ((T3.new w (.slice ao zs.length cap) (.int .i64 lo) (.int .i64 hi) 152).below ((Below.refl _ _).alloc (Nat.le_refl _) (.cells #[.slice none 0 0, .int .i64 0, .int .i64 0] 152)) (by simp))
  have es : (w.alloc (.cells #[.slice ao zs.length cap, .int .i64 lo, .int .i64 hi] 152)).heap.size = w.heap.size + 1 := by simp
  have hs0 : ((w.alloc (.cells #[.slice ao zs.length cap, .int .i64 lo, .int .i64 hi] 152)).alloc (.cells #[.slice none 0 0, .int .i64 0, .int .i64 0] 152)).heap.size = w.heap.size + 2 := by simp
  rw [es] at HT0
  generalize gtext zs lo hi = tx at *
  have SPL := hide (fun g cap w' hz hg hc' hcm => l3Splice_row g cap tx.length tx [] a b (.slice none 0 0) w' hz hg rfl hc' hcm hab (by omega) (by omega) (.inl ⟨rfl, rfl⟩) (by simp))
  have hL2 : (tx.take a ++ ([] ++ tx.drop b)).length = a + 0 + (tx.length - b) := by simp only [List.nil_append, List.length_append, List.length_take, List.length_drop]; omega
  have LAY := hide (fun g cap w' hz hg hc' hcm => l3Lay_row g cap (a + 0 + (tx.length - b)) (tx.take a ++ ([] ++ tx.drop b)) a zs.length w' hz hg hL2 hc' hcm (by omega) (by omega) (by omega))
  simp only [List.nil_append, List.length_nil] at SPL LAY
  have eF : a + (zs.length - (a + 0 + (tx.length - b))) = b + (hi - lo) := by omega
  rw [eF] at LAY
  generalize glay (tx.take a ++ tx.drop b) a zs.length = res at *
  generalize tx.take a ++ tx.drop b = tz at *
  obtain ⟨F, hF⟩ : ∃ F, F = b + (hi - lo) := ⟨_, rfl⟩
  rw [← hF] at LAY ⊢
  obtain ⟨M, hM⟩ : ∃ M, M = a + 0 + (tx.length - b) := ⟨_, rfl⟩
  rw [← hM] at LAY SPL
  obtain ⟨m, hm⟩ : ∃ m, m = tx.length := ⟨_, rfl⟩
  rw [← hm] at SPL HX
  generalize zs.length = n at *
  clear h hk es hL hL2 eF hb hab h1 h2 hc hF hM hm
  go_enter Tryz.func105, Tryz.ntmps105
  go_wp2_with fail
  generalize (w.alloc (.cells #[.slice ao n cap, .int .i64 lo, .int .i64 hi] 152)).alloc (.cells #[.slice none 0 0, .int .i64 0, .int .i64 0] 152) = w0 at *
  obtain ⟨p0, p1, p2⟩ := HP0.out.c
  go_region_with (first
    | (go_at_call 96; refine (HX.out _ (by exact (HS0.out.below (w' := w0.drew) ⟨rfl, rfl, rfl, Nat.le_refl _, fun _ _ => rfl⟩ (Nat.le_refl _)))).mono ?_; rintro e w1 ⟨v1, rfl, hn1, ho1, hb1⟩; obtain ⟨g1, cap1, hv1, hg1, hg1', hc1, hcm1, hcl1⟩ := owns_some ho1 hn1; subst hv1; have C1 := hide (show Below w0.heap.size w0 w1 from ⟨hb1.os, hb1.tape, hb1.output, hb1.size, hb1.block⟩); have X1 := hide hcl1; have Y1 := hide hcm1; have Z1 := hide hc1; have P1 := hide (HP0.out.below C1.out (by omega)); have T1 := hide (HT0.out.below C1.out (by omega)); have r0 := P1.out.c.1; have s1 := C1.out.size; clear ho1 hn1 hb1 hcl1 hcm1 hc1)
    | (go_at_call 159; refine (SPL.out g1 cap1 w1 X1.out hg1' Z1.out Y1.out).mono ?_; rintro e w2 ⟨v2, rfl, hn2, ho2, hb2⟩; obtain ⟨g2, cap2, hv2, hg2, hg2', hc2, hcm2, hcl2⟩ := owns_some ho2 hn2; subst hv2; have C2 := hide (C1.out.trans (hb2.mono s1)); have X2 := hide hcl2; have Y2 := hide hcm2; have Z2 := hide hc2; have P2 := hide (HP0.out.below C2.out (by omega)); have T2 := hide (HT0.out.below C2.out (by omega)); have q0 := P2.out.c.1; have s2 := C2.out.size; clear ho2 hn2 hb2 hcl2 hcm2 hc2)
    | (go_at_call 158; refine (LAY.out g2 cap2 w2 X2.out hg2' Z2.out Y2.out).mono ?_; rintro e w3 ⟨ao3, cap3, rfl, ho3, hb3⟩; have C3 := hide (C2.out.trans (hb3.mono s2)); have T3' := hide (HT0.out.below C3.out (by omega)); have t0 := T3'.out.c.1; have t1 := T3'.out.c.2.1; have t2 := T3'.out.c.2.2; have z0 := T3'.out.fz 0; have z1 := T3'.out.fz 1; have z2 := T3'.out.fz 2; have OF := hide (owns_base (base' := w.heap.size) (owns_set3 (b := w.heap.size + 1) ho3 (by omega) (.slice ao3 n cap3) (.int .i64 a) (.int .i64 F)) (by omega)); have BF := hide ((((HB0.out.trans (C3.out.mono (by omega))).setCell (show w.heap.size ≤ (⟨w.heap.size + 1, 0, none⟩ : Addr).block by simp) (.slice ao3 n cap3)).setCell (show w.heap.size ≤ (⟨w.heap.size + 1, 1, none⟩ : Addr).block by simp) (.int .i64 a)).setCell (show w.heap.size ≤ (⟨w.heap.size + 1, 2, none⟩ : Addr).block by simp) (.int .i64 F)); clear ho3 hb3))
  all_goals (
    go_wp2
    refine bodyPost_ret (v := .agg #[.slice ao3 n cap3, .int .i64 a, .int .i64 F]) (by simp [results, Tryz.results105, go_sem, t0, t1, t2]) rfl ?_
    exact ⟨ao3, cap3, rfl, OF.out, BF.out⟩)
end Go.Proofs.YtbgngikejgihgagGreatDoor
