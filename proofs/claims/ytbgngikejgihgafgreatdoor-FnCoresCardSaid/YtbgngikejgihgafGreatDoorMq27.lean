import Derived.Test.YtbgngikejgihgafGreatDoorMq25
namespace Go.Proofs.YtbgngikejgihgafGreatDoor
open Go Go.RowKit
set_option linter.unusedVariables false
set_option maxRecDepth 100000
set_option maxHeartbeats 8000000
theorem Km (ao : Option Addr) (n cap : Nat) (lo hi : Int) (w : World) (h : ¬ ((n : Int) <= 65536 ∧ 0 <= lo ∧ lo <= hi ∧ hi <= n)) (hn : n <= 1048576) :
  Calls Tryz.prog 48 #[.agg #[.slice ao n cap, .int .i64 lo, .int .i64 hi]] w fun e w' => e = .returned (.bool false) ∧ Below w.heap.size w w' := by
 have HB := hide ((Below.refl w.heap.size w).alloc lR (.cells #[.slice ao n cap, .int .i64 lo, .int .i64 hi] 92))
 by_cases h1 : (65536 : Int) < n
 ·clear h
  go_enter Tryz.func48, Tryz.ntmps48;go_wp2;go_ret;exact ⟨rfl, HB.out⟩
 by_cases h2 : lo < 0
 ·clear h
  go_enter Tryz.func48, Tryz.ntmps48;go_wp2;go_ret;exact ⟨rfl, HB.out⟩
 by_cases h3 : hi < lo
 ·clear h
  go_enter Tryz.func48, Tryz.ntmps48;go_wp2;go_ret;exact ⟨rfl, HB.out⟩
 ·have h4 : (n : Int) < hi := by omega
  clear h;go_enter Tryz.func48, Tryz.ntmps48;go_wp2;go_ret;exact ⟨rfl, HB.out⟩
theorem Ko (w : World) :
  Calls Tryz.prog 48 #[.agg #[.slice none 0 0, .int .i64 0, .int .i64 0]] w fun e w' => e = .returned (.bool true) ∧ Below w.heap.size w w' := by
 have HB := hide ((Below.refl w.heap.size w).alloc lR (.cells #[.slice none 0 0, .int .i64 0, .int .i64 0] 92));go_enter Tryz.func48, Tryz.ntmps48;go_wp2;refine wp_loop_rounds 1 ?_;rw [rounds_succ];go_wp2;go_ret;exact ⟨rfl, HB.out⟩
theorem Kp (g cap n : Nat) (zs : List Int) (lo hi : Nat) (b : Bool) (w : World) (hz : Cl w g zs) (hg : g < w.heap.size) (hN : zs.length = n) (hc : n <= cap) (h1 : lo <= hi) (h2 : hi <= n) (h3 : n <= 65536) (hb : b = true ↔ (n - (hi - lo) <= 8192 ∧ ∀ i, lo <= i -> i < hi -> zs.getD i 0 = 0)) :
  Calls Tryz.prog 48 #[.agg #[.slice (some ⟨g, 0, none⟩) n cap, .int .i64 lo, .int .i64 hi]] w fun e w' => e = .returned (.bool b) ∧ Below w.heap.size w w' := by
 have HB := hide ((Below.refl w.heap.size w).alloc lR (.cells #[.slice (some ⟨g, 0, none⟩) n cap, .int .i64 lo, .int .i64 hi] 92));have HZ := hide (hz.below HB.out hg);have HBB := hide hb;have HN := hide hN
 have k0 : (w.alloc (.cells #[.slice (some ⟨g, 0, none⟩) n cap, .int .i64 lo, .int .i64 hi] 92)).cell? ⟨w.heap.size, 0, none⟩ = some (.slice (some ⟨g, 0, none⟩) n cap) := by simp
 have k1 : (w.alloc (.cells #[.slice (some ⟨g, 0, none⟩) n cap, .int .i64 lo, .int .i64 hi] 92)).cell? ⟨w.heap.size, 1, none⟩ = some (.int .i64 lo) := by simp
 have k2 : (w.alloc (.cells #[.slice (some ⟨g, 0, none⟩) n cap, .int .i64 lo, .int .i64 hi] 92)).cell? ⟨w.heap.size, 2, none⟩ = some (.int .i64 hi) := by simp
 clear hz hb hN;go_enter Tryz.func48, Tryz.ntmps48;go_wp2;generalize w.alloc (.cells #[.slice (some ⟨g, 0, none⟩) n cap, .int .i64 lo, .int .i64 hi] 92) = w2 at *
 go_loop [3] (fun i => ∃ k : Nat, lo <= k ∧ k <= hi ∧ i = .int .i64 k ∧ ∀ j, lo <= j -> j < k -> zs.getD j 0 = 0) (fun i => hi - (intOf i).toNat)
 case atStart => exact ⟨lo, lR, h1, rfl, fun j a c => by omega⟩
 case round =>
  obtain ⟨k, hk0, hk, rfl, hall⟩ := hrel;have HA := hide hall;clear hall
  by_cases hlt : k < hi
  ·have hx := HZ.out k (by rw [HN.out]; omega)
   obtain ⟨z, hzz⟩ : ∃ z, z = zs.getD k 0 := ⟨_, rfl⟩;rw [<- hzz] at hx;have HZZ := hide hzz;clear hzz
   by_cases h0 : z = 0
   ·subst h0
    go_wp2;go_round
    case rel => exact ⟨k + 1, by omega, by omega, by go_num, fun j a c => by
     by_cases e : j = k
     ·rw [e]; exact HZZ.out.symm
     ·exact HA.out j a (by omega)⟩
    case measure => simp [intOf]; omega
   ·have hne : (z != 0) = true := by simpa using h0
    obtain rfl : b = false := by
     cases hbb : b with
     | false => rfl
     | true => exact absurd (HZZ.out.trans ((HBB.out.1 hbb).2 k (by omega) (by omega))) h0
    go_wp2;go_ret;exact ⟨rfl, HB.out⟩
  ·obtain rfl : k = hi := by omega
   by_cases ht : (n : Int) - ((k : Int) - (lo : Int)) <= 8192
   ·obtain rfl : b = true := HBB.out.2 ⟨by omega, fun i a c => HA.out i a (by omega)⟩
    go_wp2
    refine bodyPost_ret (v := .bool true) (by simp [results, Tryz.results48, go_sem]) rfl ⟨rfl, HB.out⟩
   ·obtain rfl : b = false := by
     cases hbb : b with
     | false => rfl
     | true => exact absurd (HBB.out.1 hbb).1 (by omega)
    go_wp2
    refine bodyPost_ret (v := .bool false) (by simp [results, Tryz.results48, go_sem]) rfl ⟨rfl, HB.out⟩
open Classical in
theorem l3ValidN (zs : List Int) (v : Value) (lo hi : Int) (w : World) (h : Gs w v zs) (hn : zs.length <= 1048576) :
  Calls Tryz.prog 48 #[.agg #[v, .int .i64 lo, .int .i64 hi]] w fun e w' => e = .returned (.bool (decide (gok zs lo hi))) ∧ Below w.heap.size w w' := by
 by_cases hb : (zs.length : Int) <= 65536 ∧ 0 <= lo ∧ lo <= hi ∧ hi <= zs.length
 ·obtain ⟨b1, b2, b3, b4⟩ := hb
  obtain ⟨l, rfl⟩ := Int.eq_ofNat_of_zero_le b2;obtain ⟨k, rfl⟩ := Int.eq_ofNat_of_zero_le (Int.le_trans b2 b3)
  rcases h with ⟨rfl, rfl⟩ | ⟨g, cap, rfl, hg, h1, h2, h3⟩
  ·obtain rfl : k = 0 := by simpa using b4
   obtain rfl : l = 0 := by omega
   have hd : decide (gok [] ((0 : Nat) : Int) ((0 : Nat) : Int)) = true := by
    simp only [decide_eq_true_eq]
    exact gok_gv.2 ⟨by omega, by simp, fun i a c => by omega, by simp, by simp⟩
   rw [hd];exact Ko w
  ·refine Kp g cap zs.length zs l k _ w h3 hg rfl h1 (by omega) (by omega) (by omega) ?_
   simp only [decide_eq_true_eq];constructor
   ·intro hh; have := gok_gv.1 hh; exact ⟨this.t, this.z⟩
   ·intro hh; exact gok_gv.2 ⟨by omega, by omega, hh.2, by omega, hh.1⟩
 ·obtain ⟨ao, cap, rfl⟩ := h.val
  have hd : decide (gok zs lo hi) = false := by
   simp only [decide_eq_false_iff_not]
   exact fun hh => hb ⟨hh.1.1, hh.1.2.2.1.1, hh.1.2.2.1.2, hh.1.2.1.2⟩
  rw [hd];exact Km ao zs.length cap lo hi w hb hn
theorem zC1 (w : World) : (w.alloc (.cells #[] 21)).ownsRow w.heap.size 21 1 (.slice (some ⟨w.heap.size, 0, none⟩) 0 0) 0 [] := by
 have := World.ownsRow_made (base := w.heap.size) (e := 21) (size := 1) w #[] 0 (by simp) (Nat.zero_le _) rfl
 simpa using this
theorem Cl.app {w : World} {g : Nat} {zs : List Int} (h : Cl w g zs) (p l : Nat) (hp : p + l <= zs.length) : ∀ j u, (ints .i32 ((zs.drop p).take l))[j]? = some u -> w.cell? ((⟨g, p, none⟩ : Addr).add j) = some u := by
 have := jH (k := .i32) (w := w) (b := g) (off := 0) (o := p) (l := l) (zs := zs) (fun i hi => by rw [Nat.zero_add]; exact h i hi)
 simpa using this
theorem zAp (w : World) :
  Calls Tryz.prog 49 #[.agg #[.slice none 0 0, .int .i64 0, .int .i64 0]] w fun e w' => ∃ g cap, e = .returned (.slice (some ⟨g, 0, none⟩) 0 cap) ∧ w'.ownsRow w.heap.size 21 1 (.slice (some ⟨g, 0, none⟩) 0 cap) 0 (ints .i32 []) ∧ Below w.heap.size w w' := by
 obtain ⟨i0, hi, hz0, hz1, hz2⟩ := info_parts Tryz.infoG
 have HB := hide (((Below.refl w.heap.size w).alloc lR (.cells #[.slice none 0 0, .int .i64 0, .int .i64 0] 92)).alloc (by simp) (.cells #[] 21))
 have H0 := hide (zE (base' := w.heap.size) (zC1 (w.alloc (.cells #[.slice none 0 0, .int .i64 0, .int .i64 0] 92))) (by simp))
 have es : (w.alloc (.cells #[.slice none 0 0, .int .i64 0, .int .i64 0] 92)).heap.size = w.heap.size + 1 := by simp
 rw [es] at H0;clear es;go_enter Tryz.func49, Tryz.ntmps49;go_wp2_with (at_builtin; refine wpList_append_own_none rfl _ _ 25 rfl w.heap.size 21 i0 1 Tryz.underlying25 hi _ _ _ rfl H0.out rfl ?_);go_ret;exact ⟨_, _, rfl, H0.out, HB.out⟩
theorem zAq (g cap n : Nat) (zs : List Int) (lo hi : Nat) (w : World) (hz : Cl w g zs) (hg : g < w.heap.size) (hN : zs.length = n) (hc : n <= cap) (hcm : cap <= maxLen) (h1 : lo <= hi) (h2 : hi <= n) (h3 : n <= 65536) :
  Calls Tryz.prog 49 #[.agg #[.slice (some ⟨g, 0, none⟩) n cap, .int .i64 lo, .int .i64 hi]] w fun e w' => ∃ v', e = .returned v' ∧ v' ≠ .slice none 0 0 ∧ w'.ownsRow w.heap.size 21 1 v' (n - (hi - lo)) (ints .i32 (gtext zs lo hi)) ∧ Below w.heap.size w w' := by
 obtain ⟨i0, hi', hz0, hz1, hz2⟩ := info_parts Tryz.infoG
 have HB := hide (((Below.refl w.heap.size w).alloc lR (.cells #[.slice (some ⟨g, 0, none⟩) n cap, .int .i64 lo, .int .i64 hi] 92)).alloc (by simp) (.cells #[] 21))
 have H0 := hide (zE (base' := w.heap.size) (zC1 (w.alloc (.cells #[.slice (some ⟨g, 0, none⟩) n cap, .int .i64 lo, .int .i64 hi] 92))) (by simp))
 have es : (w.alloc (.cells #[.slice (some ⟨g, 0, none⟩) n cap, .int .i64 lo, .int .i64 hi] 92)).heap.size = w.heap.size + 1 := by simp
 rw [es] at H0
 have HT0 := hide ((T3.new w (.slice (some ⟨g, 0, none⟩) n cap) (.int .i64 lo) (.int .i64 hi) 92).below ((Below.refl _ _).alloc lR (.cells #[] 21)) (by simp))
 have HZ := hide (hz.below HB.out hg)
 have HA1 := hide (HZ.out.app 0 lo (by omega))
 have e1 : (ints .i32 ((zs.drop 0).take lo)).length = lo * 1 := by rw [zA, List.length_take, List.drop_zero]; omega
 have E1 := hide e1;have HN := hide hN
 have es2 : ((w.alloc (.cells #[.slice (some ⟨g, 0, none⟩) n cap, .int .i64 lo, .int .i64 hi] 92)).alloc (.cells #[] 21)).heap.size = w.heap.size + 2 := by simp
 have hs0 := HB.out.size;clear es e1 hN hz;go_enter Tryz.func49, Tryz.ntmps49
 go_upto_region 2 with (at_builtin; refine wpList_append_own _ rfl _ _ 25 rfl w.heap.size 21 i0 (.int .i32 0) 1 4 Tryz.underlying25 hi' hz0 hz1 hz2 rfl (by decide) _ 0 [] rfl H0.out ⟨g, 0, none⟩ lo cap (ints .i32 ((zs.drop 0).take lo)) rfl E1.out HA1.out (zG _ _) (by unfold maxLen; omega) (by omega) hs0 ?_; intro v2 w2 hown' hgrow hnil2)
 have N2 := hide (show v2 ≠ .slice none 0 0 from fun e => by
  have h' : Value.slice (some ⟨w.heap.size + 1, 0, none⟩) 0 0 = .slice none 0 0 := (hnil2.1 e).1
  cases h')
 have HO2 := hide hown'
 have HB2 := hide (HB.out.grown hgrow hs0 (fun q hq => (H0.out.lt q hq).1))
 have hgr2 : ((w.alloc (.cells #[.slice (some ⟨g, 0, none⟩) n cap, .int .i64 lo, .int .i64 hi] 92)).alloc (.cells #[] 21)).grownBy w2 (some (w.heap.size + 1)) := hgrow
 have HT2 := hide (show T3 w2 w.heap.size (.slice (some ⟨g, 0, none⟩) n cap) (.int .i64 lo) (.int .i64 hi) 92 from (hgr2.block _ (by rw [es2]; omega) (by simp)).trans HT0.out)
 have HZ2 := hide (show Cl w2 g zs from fun i hi => (World.cell?_of_block (hgr2.block g (by rw [es2]; omega) (by simp; omega))).trans (HZ.out i hi))
 have hs2 := HB2.out.size
 have hl2 : w.heap.size + 1 < w2.heap.size := by have := hgrow.size; rw [es2] at this; omega
 obtain ⟨g0, g1, g2⟩ := HT2.out.c;clear hown' hgrow hgr2 hnil2 HB H0 HT0 HZ HA1 E1 es2 hs0
 by_cases hco : cap = hi
 ·have HA2 := hide (HZ2.out.app hi 0 (by rw [HN.out]; omega))
  obtain rfl : n = hi := by omega
  have EQ := hide (show gtext zs lo n = (zs.drop 0).take lo ++ (zs.drop n).take 0 by rw [gtext, List.drop_zero, List.take_zero, List.drop_of_length_le (by rw [HN.out]; exact lR)])
  subst hco
  go_wp2_with (at_builtin; refine wpList_append_own _ rfl _ _ 25 rfl w.heap.size 21 i0 (.int .i32 0) 1 4 Tryz.underlying25 hi' hz0 hz1 hz2 rfl (by decide) _ _ _ rfl HO2.out ⟨g, 0, none⟩ 0 _ (ints .i32 ((zs.drop cap).take 0)) rfl (by simp [ints]) (by intro j u h; simp [ints] at h) (zG _ _) (by unfold maxLen; omega) (by omega) hs2 ?_; intro v3 w3 hown' hgrow hnil3)
  have N3 := hide (show v3 ≠ .slice none 0 0 from fun e => N2.out (hnil3.1 e).1)
  have HO3 := hide hown'
  have HB3 := hide (HB2.out.grown hgrow hs2 (fun q hq => (HO2.out.lt q hq).1))
  clear hown' hgrow hnil3;go_wp2;go_ret;refine ⟨_, rfl, N3.out, ?_, HB3.out⟩;rw [EQ.out, zV]
  have e : cap - (cap - lo) = 0 + lo + 0 := by omega
  rw [e];simpa using HO3.out
 ·have HA2 := hide (HZ2.out.app hi (n - hi) (by rw [HN.out]; omega))
  have EQ := hide (show gtext zs lo hi = (zs.drop 0).take lo ++ (zs.drop hi).take (n - hi) by rw [gtext, List.drop_zero, List.take_of_length_le (l := zs.drop hi) (by rw [List.length_drop, HN.out]; exact lR)])
  have E2 := hide (show (ints .i32 ((zs.drop hi).take (n - hi))).length = (n - hi) * 1 by rw [zA, List.length_take, List.length_drop, HN.out]; omega)
  go_wp2_with (at_builtin; refine wpList_append_own _ rfl _ _ 25 rfl w.heap.size 21 i0 (.int .i32 0) 1 4 Tryz.underlying25 hi' hz0 hz1 hz2 rfl (by decide) _ _ _ rfl HO2.out ⟨g, hi, none⟩ (n - hi) (cap - hi) (ints .i32 ((zs.drop hi).take (n - hi))) rfl E2.out HA2.out (zG _ _) (by unfold maxLen; omega) (by omega) hs2 ?_; intro v3 w3 hown' hgrow hnil3)
  have N3 := hide (show v3 ≠ .slice none 0 0 from fun e => N2.out (hnil3.1 e).1)
  have HO3 := hide hown'
  have HB3 := hide (HB2.out.grown hgrow hs2 (fun q hq => (HO2.out.lt q hq).1))
  clear hown' hgrow hnil3;go_wp2;go_ret;refine ⟨_, rfl, N3.out, ?_, HB3.out⟩;rw [EQ.out, zV]
  have e : n - (hi - lo) = 0 + lo + (n - hi) := by omega
  rw [e];simpa using HO3.out
theorem zC2 (zs : List Int) (v : Value) (lo hi : Nat) (w : World) (h : Gs w v zs) (hv : GV zs lo hi) :
  Calls Tryz.prog 49 #[.agg #[v, .int .i64 lo, .int .i64 hi]] w fun e w' => ∃ v', e = .returned v' ∧ v' ≠ .slice none 0 0 ∧ w'.ownsRow w.heap.size 21 1 v' (gtext zs lo hi).length (ints .i32 (gtext zs lo hi)) ∧ Below w.heap.size w w' := by
 have h1 := hv.a;have h2 := hv.b
 rcases h with ⟨rfl, rfl⟩ | ⟨g, cap, rfl, hg, k1, k2, k3⟩
 ·obtain rfl : hi = 0 := by simpa using h2
  obtain rfl : lo = 0 := by omega
  exact (zAp w).mono fun e w' ⟨g, cap, he, ho, hb⟩ => ⟨_, he, by simp, by simpa [gtext] using ho, hb⟩
 ·rw [zM h1 h2]
  exact zAq g cap zs.length zs lo hi w k3 hg rfl k1 k2 h1 h2 hv.c
end Go.Proofs.YtbgngikejgihgafGreatDoor
namespace Go.Proofs.YtbgngikejgihgafGreatDoor
open Go Go.RowKit
set_option linter.unusedVariables false
set_option maxRecDepth 100000
set_option maxHeartbeats 8000000
theorem Kq (w : World) (e : TypeId) : (w.alloc (.cells #[] e)).ownsRow w.heap.size e 1 (.slice (some ⟨w.heap.size, 0, none⟩) 0 0) 0 [] := by
 have := World.ownsRow_made (base := w.heap.size) (e := e) (size := 1) w #[] 0 (by simp) (Nat.zero_le _) rfl
 simpa using this
theorem ZZ {w : World} {base e size : Nat} {v : Value} {n : Nat} {xs : List Value} (h : w.ownsRow base e size v n xs) : ∃ ao cap, v = .slice ao n cap := by
 rcases h.2 with ⟨rfl, h0⟩ | ⟨g, cap, cur, rfl, _⟩
 ·exact ⟨none, 0, by rw [h0]⟩
 ·exact ⟨_, _, rfl⟩
theorem gkP_gok {zs : List Int} {lo hi : Int} : gkP zs lo hi ↔ gok zs lo hi := Iff.rfl
theorem Kr {w : World} {base : Nat} {v : Value} {n : Nat} {zs : List Int} (h : w.ownsRow base 21 1 v n (ints .i32 zs)) (hv : v ≠ .slice none 0 0) : ∃ g cap, v = .slice (some ⟨g, 0, none⟩) n cap ∧ ∀ j u, (ints .i32 zs)[j]? = some u -> w.cell? ((⟨g, 0, none⟩ : Addr).add j) = some u := by
 rcases h.2 with ⟨q, _⟩ | ⟨g, cap, cur, q, _⟩
 ·exact absurd q hv
 ·exact ⟨g, cap, q, h.cells (by rw [q]; rfl)⟩
theorem Xm {ls : List (List Int)} {k : Nat} {l : List Int} (h : ls[k]? = some l) : jn (ls.take (k + 1)) = (if k = 0 then [] else jn (ls.take k) ++ [10]) ++ l := by
 have hk : k < ls.length := (List.getElem?_eq_some_iff.1 h).1;rw [List.take_add_one, h]
 by_cases h0 : k = 0
 ·subst h0; simp [jn, jt]
 ·rw [if_neg h0, Option.toList_some, zBu (by intro e; have := congrArg List.length e; rw [List.length_take] at this; simp only [List.length_nil] at this; omega)]
  simp
theorem Ks {ls : List (List Int)} {k : Nat} (hk : k <= ls.length) : (jn (ls.take k)).length <= smL ls + ls.length := by
 by_cases h0 : ls.take k = []
 ·rw [h0]; simp [jn]
 ·have h1 := yH h0
  have h2 := zm ls k;rw [List.length_take] at h1;omega
theorem XA (gs : List Gr) (st : List Int) (vr vt : Value) (lo hi : Nat) (w : World) (h : OwL w lo hi vr vt gs st) (hh : hi <= w.heap.size) (hg : gs.length <= 8193) (h1 : 1 <= gs.length) (hok : ∀ x ∈ gs, gkP x.cells x.lo x.hi) (hb : smL (gs.map grT) + gs.length <= 4194304) :
  Calls Tryz.prog 19 #[.agg #[vr, vt]] w fun e w' => ∃ v', e = .returned v' ∧ o32 w' w.heap.size v' (jn (gs.map grT)) ∧ Below w.heap.size w w' := by
 obtain ⟨i0, hi0, hz0, hz1, hz2⟩ := info_parts Tryz.infoG;obtain ⟨LS, hLS⟩ : ∃ LS, LS = gs.map grT := ⟨_, rfl⟩
 have A0 := hide (((Below.refl w.heap.size w).alloc lR (.cells #[vr, vt] 40)).alloc (by simp) (.cells #[] 21))
 have K0 := hide ((D2.new w vr vt 40).below ((Below.refl _ _).alloc lR (.cells #[] 21)) (by simp))
 have E0 := hide (zE (base' := w.heap.size) (Kq (w.alloc (.cells #[vr, vt] 40)) 21) (by simp))
 have es : (w.alloc (.cells #[vr, vt] 40)).heap.size = w.heap.size + 1 := by simp
 rw [es] at E0
 have es2 : ((w.alloc (.cells #[vr, vt] 40)).alloc (.cells #[] 21)).heap.size = w.heap.size + 2 := by simp
 obtain ⟨a1, c1, a2, c2, rfl, rfl⟩ := h.val;obtain ⟨vs, hG⟩ := h.rows
 rcases hG.row.2 with ⟨_, q⟩ | ⟨g0, cap, cur, q, _, _, cc1, cc2, _⟩
 ·omega
 simp only [Value.slice.injEq, true_and] at q;obtain ⟨rfl, rfl⟩ := q
 have F := hide (fun (w' : World) (hb : Below w.heap.size w w') => hG.frame (w' := w') (fun q _ hq => hb.block q (by omega)))
 have GET := hide (fun (k : Nat) (hk : k < gs.length) => (show ∃ x u, gs[k]? = some x ∧ vs[k]? = some u ∧ LS[k]? = some (grT x) ∧ gkP x.cells x.lo x.hi from by
  obtain ⟨x, u, hx, hu⟩ := hG.get hk
  exact ⟨x, u, hx, hu, by rw [hLS]; simp [hx], hok x (List.mem_of_getElem? hx)⟩))
 rw [<- hLS] at hb |-
 have JL := hide (fun k (hk : k <= LS.length) => Ks (ls := LS) (k := k) hk)
 have JS := hide (fun k l (hl : LS[k]? = some l) => Xm (ls := LS) (k := k) hl)
 have SL := hide (fun k l (hl : LS[k]? = some l) => jZ (ls := LS) hl)
 have HLn : LS.length = gs.length := by rw [hLS, List.length_map]
 generalize hn : gs.length = n at *;generalize st.length = m at *;have HN := hide hn;have HL := hide HLn;unfold maxLen at cc2;clear h hG hok hLS es HLn hn;go_enter Tryz.func19, Tryz.ntmps19;go_wp2_with fail;generalize (w.alloc (.cells #[.slice (some ⟨g0, 0, none⟩) n c1, .slice a2 m c2] 40)).alloc (.cells #[] 21) = w0 at *
 go_loopw [3, 10] (fun out i wr => ∃ k : Nat, k <= n ∧ i = .int .i64 k ∧ out ≠ .slice none 0 0 ∧ Below w.heap.size w wr ∧ w.heap.size + 1 <= wr.heap.size ∧ wr.ownsRow w.heap.size 21 1 out (jn (LS.take k)).length (ints .i32 (jn (LS.take k))))
  (fun _ i _ => n - (intOf i).toNat)
 case atStart => exact ⟨0, Nat.zero_le _, rfl, by simp, A0.out, by omega, by simpa [jn, ints] using E0.out⟩
 case round =>
  obtain ⟨k, hk, rfl, hnn, hb', hs', hown⟩ := hrel;have HB := hide hb';have OW := hide hown;have NN0 := hide hnn;obtain ⟨ao, co, rfl⟩ := ZZ hown
  have hjl := JL.out k (by rw [HL.out]; exact hk)
  rw [HL.out] at hjl
  by_cases hlt : k < n
  ·obtain ⟨x, u, hx, hu, hl, hgk⟩ := GET.out k hlt
   have FR := F.out wr hb';obtain ⟨y0, y1, y2⟩ := FR.cells HN.out hx hu;obtain ⟨au, cu, hu'⟩ := zn (FR.inner hx hu);obtain ⟨xl, xh, exl, exh, hGV⟩ := zBz (gkP_gok.1 hgk);have hjs := JS.out k _ hl;have hsl := SL.out k _ hl
   have eT : grT x = gtext x.cells xl xh := by unfold grT; rw [exl, exh]; simp
   rw [exl] at y1;rw [exh] at y2
   have TX := hide (fun (W : World) (hW : Below w.heap.size w W) => zC2 x.cells u xl xh W (Gs.of_owns ((F.out W hW).inner hx hu)) hGV)
   rw [<- eT] at TX;generalize hxc : x.cells.length = xc at *;generalize hgx : grT x = gx at *
   have hlt' : (k : Int) < n := by omega
   subst hu';clear hown hb' FR hx hu hl hgk exl exh hGV eT hnn;have A4 := hide ((Below.refl wr.heap.size wr).alloc lR (.cells #[.slice au xc cu, .int .i64 xl, .int .i64 xh] 92));have Q4 := hide (Q3.new wr (.slice au xc cu) (.int .i64 xl) (.int .i64 xh) 92)
   have z4 : (wr.alloc (.cells #[.slice au xc cu, .int .i64 xl, .int .i64 xh] 92)).heap.size = wr.heap.size + 1 := by simp
   have hsw := HB.out.size;have O4 := hide (zD OW.out A4.out lR);have B4 := hide (HB.out.trans (A4.out.mono hsw))
   by_cases h0 : k = 0
   ·subst h0
    rw [if_pos rfl, List.nil_append] at hjs
    go_upto_region 7 with fail
    generalize wr.alloc (.cells #[.slice au xc cu, .int .i64 xl, .int .i64 xh] 92) = x4 at *;obtain ⟨r0, r1, r2⟩ := Q4.out.c;go_wp2_with fail;refine (TX.out _ B4.out).mono ?_;rintro e x5 ⟨v5, rfl, hv5, ho5, hb5⟩;obtain ⟨g5, c5, rfl, hc5⟩ := Kr ho5 hv5;have O5 := hide (zD O4.out hb5 lR)
    have B5 := hide (B4.out.trans (hb5.mono (by omega)))
    have hs5 := hb5.size;have C5 := hide hc5;clear ho5 hb5 hc5 hv5
    go_wp2_with (at_builtin; refine wpList_append_own _ rfl _ _ 25 rfl w.heap.size 21 i0 (.int .i32 0) 1 4 Tryz.underlying25 hi0 hz0 hz1 hz2 rfl (by decide) _ _ _ rfl O5.out ⟨g5, 0, none⟩ gx.length c5 (ints .i32 gx) rfl (by rw [zA, Nat.mul_one]) C5.out (zG _ _) (by unfold maxLen; omega) (by omega) (by omega) ?_; intro v6 x6 ho6 hg6 hnil6)
    have N6 := hide (show v6 ≠ .slice none 0 0 from fun e => NN0.out (hnil6.1 e).1)
    have B6 := hide (B5.out.grown hg6 (by omega) (fun q hq => (O5.out.lt q hq).1))
    have O6 := hide ho6;have s6 := hg6.size;clear ho6 hg6 hnil6;go_wp2;go_roundw
    case rel =>
     refine ⟨0 + 1, by omega, by go_num, N6.out, B6.out, by omega, ?_⟩
     rw [hjs];simpa [jn, ints] using O6.out
    case measure => simp [intOf]; omega
   ·rw [if_neg h0] at hjs
    have hk0 : (0 : Int) < (k : Int) := by omega
    have NC := hide (zo (wr.alloc (.cells #[.slice au xc cu, .int .i64 xl, .int .i64 xh] 92)) 21 [.int .i32 10]);rw [z4] at NC
    go_upto_region 7 with (at_builtin; refine wpList_append_own _ rfl _ _ 25 rfl w.heap.size 21 i0 (.int .i32 0) 1 4 Tryz.underlying25 hi0 hz0 hz1 hz2 rfl (by decide) _ _ _ rfl (O4.out.alloc _) ⟨wr.heap.size + 1, 0, none⟩ 1 1 [.int .i32 10] rfl rfl NC.out (zG .i32 [10]) (by unfold maxLen; omega) (by omega) (by simp; omega) ?_; intro v2 x2 ho2 hg2 hnil2)
    have N2 := hide (show v2 ≠ .slice none 0 0 from fun e => NN0.out (hnil2.1 e).1)
    have AB := ((Below.refl w.heap.size (wr.alloc (.cells #[.slice au xc cu, .int .i64 xl, .int .i64 xh] 92))).alloc (by omega) (.cells #[.int .i32 10] 21)).grown hg2 (by simp; omega) (fun q hq => (O4.out.lt q hq).1)
    have B2 := hide (B4.out.trans AB);have s2 := hg2.size;simp at s2;have nk : w.heap.size <= wr.heap.size := hsw
    have Q2 := hide (show Q3 x2 wr.heap.size (.slice au xc cu) (.int .i64 xl) (.int .i64 xh) 92 from by
     refine ((hg2.block wr.heap.size (by simp; omega) (fun e => ?_)).trans (Below.heap_alloc _ _ _ (by simp))).trans Q4.out
     have := (OW.out.lt wr.heap.size e.symm).2
     omega)
    have O2 := hide ho2;obtain ⟨ao2, co2, hv2⟩ := ZZ ho2;subst hv2;clear ho2 hg2 hnil2 AB;obtain ⟨r0, r1, r2⟩ := Q2.out.c;go_wp2_with fail;refine (TX.out _ B2.out).mono ?_;rintro e x5 ⟨v5, rfl, hv5, ho5, hb5⟩;obtain ⟨g5, c5, rfl, hc5⟩ := Kr ho5 hv5;have O5 := hide (zD O2.out hb5 lR)
    have B5 := hide (B2.out.trans (hb5.mono (by omega)))
    have hs5 := hb5.size;have C5 := hide hc5;clear ho5 hb5 hc5 hv5
    go_wp2_with (at_builtin; refine wpList_append_own _ rfl _ _ 25 rfl w.heap.size 21 i0 (.int .i32 0) 1 4 Tryz.underlying25 hi0 hz0 hz1 hz2 rfl (by decide) _ _ _ rfl O5.out ⟨g5, 0, none⟩ gx.length c5 (ints .i32 gx) rfl (by rw [zA, Nat.mul_one]) C5.out (zG _ _) (by unfold maxLen; omega) (by omega) (by omega) ?_; intro v6 x6 ho6 hg6 hnil6)
    have N6 := hide (show v6 ≠ .slice none 0 0 from fun e => N2.out (hnil6.1 e).1)
    have B6 := hide (B5.out.grown hg6 (by omega) (fun q hq => (O5.out.lt q hq).1))
    have O6 := hide ho6;have s6 := hg6.size;clear ho6 hg6 hnil6;go_wp2;go_roundw
    case rel =>
     refine ⟨k + 1, by omega, by go_num, N6.out, B6.out, by omega, ?_⟩
     rw [hjs, List.length_append, List.length_append, zV, zV];exact O6.out
    case measure => simp [intOf]; omega
  ·obtain rfl : k = n := by omega
   have hlt' : ¬ (k : Int) < k := by omega
   rw [List.take_of_length_le (by rw [HL.out]; exact lR)] at OW
   clear hown hb' hnn;go_wp2;go_ret;refine ⟨_, rfl, ?_, HB.out⟩
   rw [List.take_of_length_le (by rw [HL.out]; exact lR)]
   exact OW.out
theorem Tryz.info64T : (Tryz.prog.info? 3).map (fun i => (i.zero, i.size, i.bytes)) = some (some (.int .i64 0), 1, 8) := by kernel_rfl
theorem allS (gs : List Gr) (st : List Int) (vr vt : Value) (lo hi : Nat) (w : World) (h : OwL w lo hi vr vt gs st) (hh : hi <= w.heap.size) (hg : gs.length <= 8193) (h1 : 1 <= gs.length) (hok : ∀ x ∈ gs, gkP x.cells x.lo x.hi) (hb : smL (gs.map grT) + gs.length <= 4194304) :
  Calls Tryz.prog 50 #[.agg #[vr, vt]] w fun e w' => ∃ v', e = .returned v' ∧ v' ≠ .slice none 0 0 ∧ o64 w' w.heap.size v' (stL (gs.map grT)) ∧ Below w.heap.size w w' := by
 obtain ⟨i0, hi0, hz0, hz1, hz2⟩ := info_parts Tryz.info64T;obtain ⟨LS, hLS⟩ : ∃ LS, LS = gs.map grT := ⟨_, rfl⟩
 have A0 := hide (((Below.refl w.heap.size w).alloc lR (.cells #[vr, vt] 40)).alloc (by simp) (.cells #[] 3))
 have E0 := hide (zE (base' := w.heap.size) (Kq (w.alloc (.cells #[vr, vt] 40)) 3) (by simp))
 have es : (w.alloc (.cells #[vr, vt] 40)).heap.size = w.heap.size + 1 := by simp
 rw [es] at E0
 have es2 : ((w.alloc (.cells #[vr, vt] 40)).alloc (.cells #[] 3)).heap.size = w.heap.size + 2 := by simp
 obtain ⟨a1, c1, a2, c2, rfl, rfl⟩ := h.val;obtain ⟨vs, hG⟩ := h.rows
 rcases hG.row.2 with ⟨_, q⟩ | ⟨g0, cap, cur, q, _, _, cc1, cc2, _⟩
 ·omega
 simp only [Value.slice.injEq, true_and] at q;obtain ⟨rfl, rfl⟩ := q
 have F := hide (fun (w' : World) (hb : Below w.heap.size w w') => hG.frame (w' := w') (fun q _ hq => hb.block q (by omega)))
 have GET := hide (fun (k : Nat) (hk : k < gs.length) => (show ∃ x u, gs[k]? = some x ∧ vs[k]? = some u ∧ LS[k]? = some (grT x) ∧ gkP x.cells x.lo x.hi from by
  obtain ⟨x, u, hx, hu⟩ := hG.get hk
  exact ⟨x, u, hx, hu, by rw [hLS]; simp [hx], hok x (List.mem_of_getElem? hx)⟩))
 rw [<- hLS] at hb |-
 have HLn : LS.length = gs.length := by rw [hLS, List.length_map]
 have TS := hide (fun k (hk : k < LS.length) => yw (ls := LS) (i := k) hk)
 have SS := hide (fun k l (hl : LS[k]? = some l) => yA (ls := LS) (i := k) hl)
 have SLE := hide (fun k => zm LS k)
 have SLN := hide (zr LS);generalize hn : gs.length = n at *;generalize st.length = m at *;have HN := hide hn;have HL := hide HLn;unfold maxLen at cc2;clear h hG hok hLS es HLn hn;go_enter Tryz.func50, Tryz.ntmps50;go_wp2_with fail;generalize (w.alloc (.cells #[.slice (some ⟨g0, 0, none⟩) n c1, .slice a2 m c2] 40)).alloc (.cells #[] 3) = w0 at *
 go_loopw [3, 4, 11] (fun out a i wr => ∃ k : Nat, k <= n ∧ i = .int .i64 k ∧ a = .int .i64 ((smL (LS.take k) + k : Nat) : Int) ∧ out ≠ .slice none 0 0 ∧ Below w.heap.size w wr ∧ w.heap.size + 1 <= wr.heap.size ∧ wr.ownsRow w.heap.size 3 1 out k (ints .i64 ((stL LS).take k)))
  (fun _ _ i _ => n - (intOf i).toNat)
 case atStart => exact ⟨0, Nat.zero_le _, rfl, by simp [smL], by simp, A0.out, by omega, by simpa [ints] using E0.out⟩
 case round =>
  obtain ⟨k, hk, rfl, rfl, hnn, hb', hs', hown⟩ := hrel;have HB := hide hb';have OW := hide hown;have NN0 := hide hnn;obtain ⟨ao, co, rfl⟩ := ZZ hown;have hsle := SLE.out k
  by_cases hlt : k < n
  ·obtain ⟨x, u, hx, hu, hl, hgk⟩ := GET.out k hlt
   have FR := F.out wr hb';obtain ⟨y0, y1, y2⟩ := FR.cells HN.out hx hu;obtain ⟨au, cu, hu'⟩ := zn (FR.inner hx hu);have hgt := jG hgk
   have hbd : 0 <= x.lo ∧ x.lo <= x.hi ∧ x.hi <= x.cells.length := by
    obtain ⟨⟨_, ⟨_, q3⟩, ⟨q4, q5⟩, _⟩, _⟩ := hgk;exact ⟨q4, q5, q3⟩
   have hss := SS.out k _ hl
   have TSk := hide (TS.out k (by rw [HL.out]; exact hlt))
   have e9 : ((smL (LS.take k) + k : Nat) : Int) + ((x.cells.length : Int) - (x.hi - x.lo) + 1) = ((smL (LS.take (k + 1)) + (k + 1) : Nat) : Int) := by rw [hss]; omega
   have E9 := hide e9;generalize hA : smL (LS.take k) + k = A at *;generalize hxc : x.cells.length = xc at *;generalize hxl : x.lo = xl at *;generalize hxh : x.hi = xh at *
   have hA2 : A <= 4194304 := by omega
   have hlt' : (k : Int) < n := by omega
   have hsw := HB.out.size;have hxc2 := hgt.2.2;subst hu';clear hown hb' FR hx hu hl hgk hnn hss e9;have A4 := hide ((Below.refl wr.heap.size wr).alloc lR (.cells #[.slice au xc cu, .int .i64 xl, .int .i64 xh] 92));have Q4 := hide (Q3.new wr (.slice au xc cu) (.int .i64 xl) (.int .i64 xh) 92)
   have z4 : (wr.alloc (.cells #[.slice au xc cu, .int .i64 xl, .int .i64 xh] 92)).heap.size = wr.heap.size + 1 := by simp
   have O4 := hide (zD OW.out A4.out lR);have B4 := hide (HB.out.trans (A4.out.mono hsw));have NC := hide (zo (wr.alloc (.cells #[.slice au xc cu, .int .i64 xl, .int .i64 xh] 92)) 3 [.int .i64 (A : Int)]);rw [z4] at NC
   go_upto_region 7 with (at_builtin; refine wpList_append_own _ rfl _ _ 38 rfl w.heap.size 3 i0 (.int .i64 0) 1 8 Tryz.underlying38 hi0 hz0 hz1 hz2 rfl (by decide) _ _ _ rfl (O4.out.alloc _) ⟨wr.heap.size + 1, 0, none⟩ 1 1 [.int .i64 (A : Int)] rfl rfl NC.out (zG .i64 [(A : Int)]) (by unfold maxLen; omega) (by omega) (by simp; omega) ?_; intro v2 x2 ho2 hg2 hnil2)
   have N2 := hide (show v2 ≠ .slice none 0 0 from fun e => NN0.out (hnil2.1 e).1)
   have AB := ((Below.refl w.heap.size (wr.alloc (.cells #[.slice au xc cu, .int .i64 xl, .int .i64 xh] 92))).alloc (by omega) (.cells #[.int .i64 (A : Int)] 3)).grown hg2 (by simp; omega) (fun q hq => (O4.out.lt q hq).1)
   have B2 := hide (B4.out.trans AB);have s2 := hg2.size;simp at s2
   have Q2 := hide (show Q3 x2 wr.heap.size (.slice au xc cu) (.int .i64 xl) (.int .i64 xh) 92 from by
    refine ((hg2.block wr.heap.size (by simp; omega) (fun e => ?_)).trans (Below.heap_alloc _ _ _ (by simp))).trans Q4.out
    have := (OW.out.lt wr.heap.size e.symm).2
    omega)
   have O2 := hide ho2;clear ho2 hg2 hnil2 AB;obtain ⟨r0, r1, r2⟩ := Q2.out.c;go_wp2;go_roundw
   case rel =>
    refine ⟨k + 1, by omega, by go_num, by rw [<- E9.out], N2.out, B2.out, by omega, ?_⟩
    rw [TSk.out, zV];exact O2.out
   case measure => simp [intOf]; omega
  ·obtain rfl : k = n := by omega
   have hlt' : ¬ (k : Int) < k := by omega
   have et : (stL LS).take k = stL LS := List.take_of_length_le (by rw [SLN.out, HL.out]; exact lR)
   rw [et] at OW;clear hown hb' hnn;go_wp2;go_ret;refine ⟨_, rfl, NN0.out, ?_, HB.out⟩;unfold o64;rw [SLN.out, HL.out];exact OW.out
end Go.Proofs.YtbgngikejgihgafGreatDoor
