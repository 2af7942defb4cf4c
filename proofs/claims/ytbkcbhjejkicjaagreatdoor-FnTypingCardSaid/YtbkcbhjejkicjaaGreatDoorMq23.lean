import Derived.Test.YtbkcbhjejkicjaaGreatDoorMq22
namespace Go.Proofs.YtbkcbhjejkicjaaGreatDoor
open Go Go.RowKit
set_option linter.unusedVariables false

/-- A row that is read: what append takes, from a place on; or nothing. -/
structure Src32 (w : World) (v : Value) (xs : List Int) : Prop where
  p : v = .slice none 0 0 ∧ xs = [] ∨ ∃ ad c, v = .slice (some ad) xs.length c ∧ ∀ j u, (ints .i32 xs)[j]? = some u → w.cell? (ad.add j) = some u

theorem Sl.src {w : World} {v : Value} {xs : List Int} (h : Sl .i32 w v xs) : Src32 w v xs := by
  rcases h with ⟨h, e⟩ | ⟨b, off, cap, rfl, hb, hc⟩
  · exact ⟨.inl ⟨h, e⟩⟩
  · refine ⟨.inr ⟨⟨b, off, none⟩, cap, rfl, ?_⟩⟩
    have := cut_cells (o := 0) (l := xs.length) hc
    simpa using this

set_option maxHeartbeats 1000000 in
set_option maxRecDepth 100000 in
/-- The list with a stretch replaced: the text lies in a row, the new part is whatever. -/
theorem l3Splice_row (g cap n : Nat) (tx ps : List Int) (a b : Nat) (vp : Value) (w : World) (hz : Cl w g tx) (hg : g < w.heap.size) (hN : tx.length = n) (hc : n ≤ cap) (hcm : cap ≤ maxLen) (hab : a ≤ b) (hb : b ≤ n) (hn : n ≤ 1048576) (hp : Sl .i32 w vp ps) (hpn : ps.length ≤ 1048576) :
    Calls Tryz.prog 76 #[.slice (some ⟨g, 0, none⟩) n cap, .int .i64 a, .int .i64 b, vp] w fun e w' => ∃ v', e = .returned v' ∧ v' ≠ .slice none 0 0 ∧ w'.ownsRow w.heap.size 21 1 v' (a + ps.length + (n - b)) (ints .i32 (tx.take a ++ (ps ++ tx.drop b))) ∧ Below w.heap.size w w' := by
  obtain ⟨i0, hi', hz0, hz1, hz2⟩ := info_parts Tryz.infoG
  have HB := hide ((Below.refl w.heap.size w).alloc (Nat.le_refl _) (.cells #[] 21))
  have H0 := hide (own_new w)
  have HZ := hide (hz.below HB.out hg)
  have HZ0 := hide hz
  have HP := hide hp
  have hs0 := HB.out.size
  have es2 : (w.alloc (.cells #[] 21)).heap.size = w.heap.size + 1 := by simp
  have HA1 := hide (HZ.out.app 0 a (by omega))
  have E1 := hide (show (ints .i32 ((tx.drop 0).take a)).length = a * 1 by rw [ints_length, List.length_take, List.drop_zero]; omega)
  have HN := hide hN
  obtain ⟨m, hm⟩ : ∃ m, m = ps.length := ⟨_, rfl⟩
  rw [← hm] at hpn ⊢
  have HM := hide hm
  have hv : ∃ ap cp, vp = .slice ap m cp := by
    rcases hp with ⟨h, e⟩ | ⟨b', off, cap', h, _, _⟩
    · exact ⟨none, 0, by rw [h, hm, e]; rfl⟩
    · exact ⟨_, _, by rw [h, hm]⟩
  clear hN hz hp hm
  obtain ⟨ap, cp, rfl⟩ := hv
  go_enter Tryz.func76, Tryz.ntmps76
  go_upto_region 2 with (at_builtin; refine wpList_append_own _ rfl _ _ 49 rfl w.heap.size 21 i0 (.int .i32 0) 1 4 Tryz.underlying49 hi' hz0 hz1 hz2 rfl (by decide) _ 0 [] rfl H0.out ⟨g, 0, none⟩ a cap (ints .i32 ((tx.drop 0).take a)) rfl E1.out HA1.out (ints_one _ _) (by unfold maxLen; omega) (by omega) hs0 ?_; intro v2 w2 hown' hgrow hnil2)
  have N2 := hide (show v2 ≠ .slice none 0 0 from fun e => by
    have h' : Value.slice (some ⟨w.heap.size, 0, none⟩) 0 0 = .slice none 0 0 := (hnil2.1 e).1
    cases h')
  have HO2 := hide hown'
  have HB2 := hide (HB.out.grown hgrow hs0 (fun q hq => (H0.out.lt q hq).1))
  have HZ2 := hide (HZ0.out.below HB2.out hg)
  have HP2 := hide (HP.out.below HB2.out).src
  have hs2 := HB2.out.size
  clear hown' hgrow hnil2 HB H0 HZ HA1 E1 es2 hs0
  have step : ∃ C : World → Value → Prop, (∀ w3 v3, C w3 v3 ↔ v3 ≠ .slice none 0 0 ∧ w3.ownsRow w.heap.size 21 1 v3 (0 + a + m) ([] ++ ints .i32 ((tx.drop 0).take a) ++ ints .i32 ps) ∧ Below w.heap.size w w3) := ⟨_, fun _ _ => Iff.rfl⟩
  obtain ⟨C, hC⟩ := step
  have HCd := hide hC
  clear hC
  go_cut [9] (fun s9 w3 => C w3 s9)
  case first =>
    rcases HP2.out.p with ⟨h, e⟩ | ⟨ad, c, h, hc⟩
    · simp only [Value.slice.injEq] at h
      obtain ⟨rfl, rfl, rfl⟩ := h
      subst e
      go_wp2_with (at_builtin; refine wpList_append_own_none rfl _ _ 49 rfl w.heap.size 21 i0 1 Tryz.underlying49 hi' _ _ _ rfl HO2.out rfl ?_)
      go_meet
      exact (HCd.out _ _).2 ⟨N2.out, by simpa [ints] using HO2.out, HB2.out⟩
    · simp only [Value.slice.injEq] at h
      obtain ⟨rfl, rfl, rfl⟩ := h
      have HC2 := hide hc
      clear hc
      go_wp2_with (at_builtin; refine wpList_append_own _ rfl _ _ 49 rfl w.heap.size 21 i0 (.int .i32 0) 1 4 Tryz.underlying49 hi' hz0 hz1 hz2 rfl (by decide) _ _ _ rfl HO2.out ad ps.length cp (ints .i32 ps) rfl (by rw [ints_length, Nat.mul_one]) HC2.out (ints_one _ _) (by unfold maxLen; omega) (by omega) hs2 ?_; intro v3 w3 hown' hgrow hnil3)
      have N3 := hide (show v3 ≠ .slice none 0 0 from fun e => N2.out (hnil3.1 e).1)
      have HO3 := hide hown'
      have HB3 := hide (HB2.out.grown hgrow hs2 (fun q hq => (HO2.out.lt q hq).1))
      clear hown' hgrow hnil3
      go_wp2
      go_meet
      exact (HCd.out _ _).2 ⟨N3.out, HO3.out, HB3.out⟩
  case rest =>
    obtain ⟨hn3, ho3, hb3⟩ := (HCd.out _ _).1 hcut
    have N3 := hide hn3
    have HO3 := hide ho3
    have HB3 := hide hb3
    have HZ3 := hide (HZ0.out.below hb3 hg)
    have hs3 := hb3.size
    clear hcut hn3 ho3 hb3 HZ2 HP2 HO2 HB2 N2 HCd
    by_cases hco : cap = b
    · have EQ := hide (show tx.drop b = [] from List.drop_of_length_le (by rw [HN.out]; omega))
      obtain rfl : n = b := by omega
      subst hco
      go_wp2_with (at_builtin; refine wpList_append_own _ rfl _ _ 49 rfl w.heap.size 21 i0 (.int .i32 0) 1 4 Tryz.underlying49 hi' hz0 hz1 hz2 rfl (by decide) _ _ _ rfl HO3.out ⟨g, 0, none⟩ 0 _ (ints .i32 []) rfl (by simp [ints]) (by intro j u h; simp [ints] at h) (ints_one _ _) (by unfold maxLen; omega) (by omega) hs3 ?_; intro v4 w4 hown' hgrow hnil4)
      have N4 := hide (show v4 ≠ .slice none 0 0 from fun e => N3.out (hnil4.1 e).1)
      have HO4 := hide hown'
      have HB4 := hide (HB3.out.grown hgrow hs3 (fun q hq => (HO3.out.lt q hq).1))
      clear hown' hgrow hnil4
      go_wp2
      go_ret
      refine ⟨_, rfl, N4.out, ?_, HB4.out⟩
      rw [EQ.out, List.append_nil, ints_append]
      simpa [ints] using HO4.out
    · have HA2 := hide (HZ3.out.app b (n - b) (by rw [HN.out]; omega))
      have EQ := hide (show tx.drop b = (tx.drop b).take (n - b) by rw [List.take_of_length_le (l := tx.drop b) (by rw [List.length_drop, HN.out]; exact Nat.le_refl _)])
      have E2 := hide (show (ints .i32 ((tx.drop b).take (n - b))).length = (n - b) * 1 by rw [ints_length, List.length_take, List.length_drop, HN.out]; omega)
      go_wp2_with (at_builtin; refine wpList_append_own _ rfl _ _ 49 rfl w.heap.size 21 i0 (.int .i32 0) 1 4 Tryz.underlying49 hi' hz0 hz1 hz2 rfl (by decide) _ _ _ rfl HO3.out ⟨g, b, none⟩ (n - b) (cap - b) (ints .i32 ((tx.drop b).take (n - b))) rfl E2.out HA2.out (ints_one _ _) (by unfold maxLen; omega) (by omega) hs3 ?_; intro v4 w4 hown' hgrow hnil4)
      have N4 := hide (show v4 ≠ .slice none 0 0 from fun e => N3.out (hnil4.1 e).1)
      have HO4 := hide hown'
      have HB4 := hide (HB3.out.grown hgrow hs3 (fun q hq => (HO3.out.lt q hq).1))
      clear hown' hgrow hnil4
      go_wp2
      go_ret
      refine ⟨_, rfl, N4.out, ?_, HB4.out⟩
      rw [EQ.out, ints_append, ints_append]
      have e : a + m + (n - b) = 0 + a + m + (n - b) := by omega
      rw [e]
      simpa using HO4.out

end Go.Proofs.YtbkcbhjejkicjaaGreatDoor

namespace Go.Proofs.YtbkcbhjejkicjaaGreatDoor
open Go Go.RowKit Go.Sort
set_option linter.unusedVariables false

set_option maxHeartbeats 1000000 in
set_option maxRecDepth 100000 in
/-- A text put into no text. -/
theorem splice0 (vp : Value) (ps : List Int) (B : Nat) (w : World) (hp : own32 w B vp ps) (h0 : 0 < ps.length) (hn : ps.length ≤ 1048576) :
    Calls Tryz.prog 76 #[.slice none 0 0, .int .i64 0, .int .i64 0, vp] w fun e w' => ∃ v', e = .returned v' ∧ own32 w' w.heap.size v' ps ∧ Below w.heap.size w w' := by
  obtain ⟨i0, hi', hz0, hz1, hz2⟩ := info_parts Tryz.infoG
  have HB := hide ((Below.refl w.heap.size w).alloc (Nat.le_refl _) (.cells #[] 21))
  have H0 := hide (own32_new w)
  have hs0 := HB.out.size
  obtain ⟨g, cap, rfl⟩ : ∃ g cap, vp = .slice (some ⟨g, 0, none⟩) ps.length cap := by
    rcases hp.2 with ⟨e, e0⟩ | ⟨g, cap, cur, e, _⟩
    · omega
    · exact ⟨g, cap, e⟩
  have HA := hide (show ∀ j u, (ints .i32 ps)[j]? = some u → (w.alloc (.cells #[] 21)).cell? ((⟨g, 0, none⟩ : Addr).add j) = some u from fun j u hj => by
    have h9 := (own32_at hp).app 0 ps.length (by omega) j u (by rw [List.drop_zero, List.take_of_length_le (Nat.le_refl _)]; exact hj)
    rw [addr_add] at h9 ⊢
    rw [World.cell?_of_block (a := ⟨g, 0 + j, none⟩) (HB.out.block g (hp.lt g rfl).2)]
    exact h9)
  have HL := hide (show (ints .i32 ps).length = ps.length * 1 by rw [ints_length]; omega)
  obtain ⟨n, hN⟩ : ∃ n, n = ps.length := ⟨_, rfl⟩
  have HN := hide hN
  rw [← hN] at h0 hn ⊢
  clear hp hN
  go_enter Tryz.func76, Tryz.ntmps76
  go_upto_region 2 with (at_builtin; refine wpList_append_own_none rfl _ _ 49 rfl w.heap.size 21 i0 1 Tryz.underlying49 hi' _ _ _ rfl (by exact H0.out) rfl ?_)
  go_upto_region 3 with (at_builtin; refine wpList_append_lies _ rfl _ _ 49 rfl w.heap.size 21 i0 (.int .i32 0) 1 4 Tryz.underlying49 hi' hz0 hz1 hz2 rfl (by decide) (.slice (some ⟨w.heap.size, 0, none⟩) 0 0) 0 [] rfl (by exact H0.out) ⟨g, 0, none⟩ n cap (ints .i32 ps) rfl (by rw [HN.out]; exact HL.out) (by exact HA.out) (ints_one _ _) (by omega) (by unfold maxLen; omega) (by omega) (by omega) _ rfl ?_; intro g1 c1 w1 hown1 hgr1 hgq1 hgl1)
  have O1 := hide (show w1.ownsRow w.heap.size 21 1 (.slice (some ⟨g1, 0, none⟩) n c1) n (ints .i32 ps) from by have h9 := hown1; rw [Nat.zero_add, List.nil_append] at h9; exact h9)
  have B1 := hide (HB.out.grown hgr1 hs0 (fun q hq => by simp [Value.ownBlock] at hq; omega))
  clear hown1 hgr1 hgq1 hgl1
  go_wp2_with (at_builtin; refine wpList_append_own_none rfl _ _ 49 rfl w.heap.size 21 i0 1 Tryz.underlying49 hi' _ _ _ rfl (by exact O1.out) rfl ?_)
  go_ret
  exact ⟨_, rfl, by unfold own32; rw [← HN.out]; exact O1.out, B1.out⟩
theorem spliceS (tv vp : Value) (tx ps : List Int) (B C a : Nat) (w : World) (h : own32 w C tv tx) (hp : own32 w B vp ps) (h0 : 0 < ps.length) (ha : a ≤ tx.length) (hx : tx.length ≤ 8192) (hn : ps.length ≤ 1048576) :
    Calls Tryz.prog 76 #[tv, .int .i64 a, .int .i64 a, vp] w fun e w' => ∃ v', e = .returned v' ∧ own32 w' w.heap.size v' (tx.take a ++ (ps ++ tx.drop a)) ∧ Below w.heap.size w w' := by
  rcases h.2 with ⟨rfl, e0⟩ | ⟨g, cap, cur, rfl, _, hb, h2, h3, _⟩
  · have : tx = [] := List.eq_nil_of_length_eq_zero e0
    subst this
    obtain rfl : a = 0 := by simpa using ha
    simpa using splice0 vp ps B w hp h0 hn
  · refine (l3Splice_row g cap tx.length tx ps a a vp w (fun i hi => owns_cell h i hi) (h.lt g rfl).2 rfl h2 h3 (Nat.le_refl _) ha (by omega) (Sl.of_owns hp) hn).mono ?_
    rintro e w' ⟨v', rfl, _, h5, h6⟩
    refine ⟨v', rfl, ?_, h6⟩
    unfold own32
    have e : (tx.take a ++ (ps ++ tx.drop a)).length = a + ps.length + (tx.length - a) := by simp; omega
    rw [e]
    exact h5
/-- The model, no group being open, no mark being set. -/
def MS (w : World) (B s : Nat) (tx : List Int) (us : List Value) (sp : Int) (cp nl : Nat) (lv : Value) : Prop :=
  ∃ tv mv uv gv slv ls, S6 w s tv mv uv gv slv lv sp cp ∧ own32 w B tv tx ∧ OwM w B mv [] ∧ RdV w uv us ∧ (∀ u ∈ us, ∃ a l k, u = .slice a l k) ∧ w.ownsRow B 190 4 lv nl ls ∧ (∀ b o l c, uv = .slice (some ⟨b, o, none⟩) l c → b ≠ s ∧ lv.ownBlock ≠ some b) ∧ us.length ≤ cp ∧ (1 ≤ cp ∧ cp ≤ 1000) ∧ B ≤ w.heap.size
def EditS (w : World) (B s : Nat) (tx : List Int) (u : Nat) (sp : Int) (cp nl : Nat) (lv : Value) (w' : World) : Prop :=
  ∃ lv' us', MS w' B s tx us' sp cp nl lv' ∧ us'.length = u ∧ ChgP w w' (fun q => q = s ∨ lv.ownBlock = some q) ∧ ∀ q, lv'.ownBlock = some q → lv.ownBlock = some q ∨ w.heap.size ≤ q
theorem pushW_len {cp : Nat} {us : List Value} {g : Value} (h : us.length ≤ cp) : (pushW cp us g).length = min (us.length + 1) cp := by
  unfold pushW
  split <;> simp <;> omega
theorem pushW_one {cp : Nat} {us : List Value} {a : Option Addr} {l k : Nat} (h : ∀ u ∈ us, ∃ a l k, u = Value.slice a l k) : ∀ u ∈ pushW cp us (.slice a l k), ∃ a l k, u = Value.slice a l k := by
  have h1 : ∀ u ∈ us ++ [Value.slice a l k], ∃ a l k, u = Value.slice a l k := fun u hu => by
    rcases List.mem_append.1 hu with h9 | h9
    · exact h u h9
    · simp at h9; exact ⟨_, _, _, h9⟩
  unfold pushW
  split
  · exact fun u hu => h1 u (List.mem_of_mem_drop hu)
  · exact h1
theorem bAS {w x : World} (h : Below w.heap.size w x) (o : Obj) : Below w.heap.size w (x.alloc o) := h.alloc h.size o
theorem srt0 (f : Mk → Int) : srt (([] : List Mk).map (mov f)) = [] := by simp [srt, sel]
set_option maxHeartbeats 4000000 in
set_option maxRecDepth 100000 in
theorem editS (B C s cp nl off : Nat) (tx ts : List Int) (us : List Value) (sp : Int) (lv pv : Value) (w : World) (h : MS w B s tx us sp cp nl lv) (hp : own32 w C pv ts) (h0 : 0 < ts.length) (ho : off ≤ tx.length) (hx : tx.length + ts.length ≤ 8192) (hnl : nl ≤ 10000) :
    Calls Tryz.prog 60 #[.pointer (some ⟨s, 0, none⟩), .int .i64 off, .int .i64 off, pv] w fun e w' => e = .returned (.tuple #[]) ∧ EditS w B s (tx.take off ++ (ts ++ tx.drop off)) (min (us.length + 1) cp) sp cp (nl + 1) lv w' := by
  obtain ⟨tv, mv, uv, gv, slv, ls, hS, hT, hM, hU, hU1, hL, hUb, hul, hcp, hB⟩ := h
  obtain ⟨ta, tl, tq, rfl⟩ : ∃ a l k, tv = .slice a l k := by
    obtain ⟨a, k, e⟩ := own32_val hT; exact ⟨a, _, k, e⟩
  obtain ⟨ma, ml, mk, rfl⟩ : ∃ a l k, mv = .slice a l k := by
    obtain ⟨a, k, e⟩ := hM.val; exact ⟨a, _, k, e⟩
  obtain ⟨pa, pk, rfl⟩ : ∃ a k, pv = .slice a ts.length k := own32_val hp
  have hs := hS.lt
  have HS := hide hS
  have HT := hide hT
  have HM := hide hM
  have HU := hide hU
  have HL := hide hL
  have HPv := hide hp
  have HUL := hide (show ∀ b o l c, uv = .slice (some ⟨b, o, none⟩) l c → b < w.heap.size from fun b o l c e => hU.lt e)
  have HSP := hide (fun (W : World) (x : own32 W B (.slice ta tl tq) tx) (y : own32 W C (.slice pa ts.length pk) ts) => spliceS (.slice ta tl tq) (.slice pa ts.length pk) tx ts C B off W x y h0 ho (by omega) (by omega))
  have HIN := hide (fun (W : World) (x : OwM W B (.slice ma ml mk) []) => l5InsertL B [] (.slice ma ml mk) off ts.length W x (by simp) (fun x hx => by cases hx) ⟨by omega, by omega⟩)
  obtain ⟨tx', htx⟩ : ∃ t, t = tx.take off ++ (ts ++ tx.drop off) := ⟨_, rfl⟩
  rw [← htx] at HSP ⊢
  obtain ⟨m, hm⟩ : ∃ m, m = ts.length := ⟨_, rfl⟩
  rw [← hm] at HSP HIN HPv h0 hx ⊢
  obtain ⟨c0, c1, _⟩ := hS.c
  have e0 : (off : Int) - off = 0 := by omega
  have em : IntKind.i64.wrap ((m : Nat) : Int) = m := by rw [IntKind.wrap_i64]; omega
  have ez : IntKind.i64.wrap 0 = 0 := by rw [IntKind.wrap_i64]; omega
  have R0 := hide (show ∀ y : World, y.heap = w.heap → y.cell? ⟨s, 0, none⟩ = some (.slice ta tl tq) ∧ y.cell? ⟨s, 1, none⟩ = some (.slice ma ml mk) from fun y hy => ⟨(World.cell?_of_block (w := w) (by rw [hy])).trans c0, (World.cell?_of_block (w := w) (by rw [hy])).trans c1⟩)
  have hne : ¬ w.heap.size = s := by omega
  clear hS hT hM hU hL hp htx hm c0 c1
  go_enter Tryz.func60, Tryz.ntmps60
  go_upto_region 0 with fail
  refine (wpIn_wide (n := 6)).1 ?_
  refine regionC (fun y => y.cell? ⟨s, 0, none⟩ = some (.slice ta tl tq) ∧ y.cell? ⟨s, 1, none⟩ = some (.slice ma ml mk)) (by kernel_rfl) ?_
  refine tk 0 (.int .i64 off) ?_ ?_
  · intro y hC; obtain ⟨hC1, hC2⟩ := hC; go_simp
  go_simp
  refine tk 1 (.int .i64 off) ?_ ?_
  · intro y hC; obtain ⟨hC1, hC2⟩ := hC; go_simp
  go_simp
  refine tk 2 (.bool true) ?_ ?_
  · intro y hC; obtain ⟨hC1, hC2⟩ := hC; go_simp
  go_simp
  refine tk 3 (.int .i64 off) ?_ ?_
  · intro y hC; obtain ⟨hC1, hC2⟩ := hC; go_simp
  go_simp
  refine tk 4 (.int .i64 off) ?_ ?_
  · intro y hC; obtain ⟨hC1, hC2⟩ := hC; go_simp
  go_simp
  refine tk 5 (.int .i64 off) ?_ ?_
  · intro y hC; obtain ⟨hC1, hC2⟩ := hC; go_simp
  go_simp
  refine tk 6 (.int .i64 0) ?_ ?_
  · intro y hC; obtain ⟨hC1, hC2⟩ := hC; go_simp
  go_simp
  refine tk 7 (.slice pa m pk) ?_ ?_
  · intro y hC; obtain ⟨hC1, hC2⟩ := hC; go_simp
  go_simp
  refine tk 8 (.int .i64 (m : Nat)) ?_ ?_
  · intro y hC; obtain ⟨hC1, hC2⟩ := hC; go_simp
  go_simp
  refine tk 9 (.int .i64 (m : Nat)) ?_ ?_
  · intro y hC; obtain ⟨hC1, hC2⟩ := hC; go_simp
  go_simp
  refine tk 10 (.pointer (some ⟨s, 0, none⟩)) ?_ ?_
  · intro y hC; obtain ⟨hC1, hC2⟩ := hC; go_simp
  go_simp
  refine tk 11 (.pointer (some ⟨s, 0, none⟩)) ?_ ?_
  · intro y hC; obtain ⟨hC1, hC2⟩ := hC; go_simp
  go_simp
  refine tk 12 (.pointer (some ⟨s, 0, none⟩)) ?_ ?_
  · intro y hC; obtain ⟨hC1, hC2⟩ := hC; go_simp
  go_simp
  refine tk 13 (.slice ta tl tq) ?_ ?_
  · intro y hC; obtain ⟨hC1, hC2⟩ := hC; go_simp
  go_simp
  refine tk 14 (.pointer (some ⟨s, 0, none⟩)) ?_ ?_
  · intro y hC; obtain ⟨hC1, hC2⟩ := hC; go_simp
  go_simp
  refine tk 15 (.pointer (some ⟨s, 0, none⟩)) ?_ ?_
  · intro y hC; obtain ⟨hC1, hC2⟩ := hC; go_simp
  go_simp
  refine tk 16 (.pointer (some ⟨s, 1, none⟩)) ?_ ?_
  · intro y hC; obtain ⟨hC1, hC2⟩ := hC; go_simp
  go_simp
  refine tk 17 (.slice ma ml mk) ?_ ?_
  · intro y hC; obtain ⟨hC1, hC2⟩ := hC; go_simp
  go_simp
  refine tk 18 (.agg #[.bool true, .int .i64 off, .int .i64 (m : Nat), .slice ta tl tq, .slice none 0 0, .slice ma ml mk, .slice none 0 0]) ?_ ?_
  · intro y hC; obtain ⟨hC1, hC2⟩ := hC; go_simp
  go_simp
  obtain ⟨y0, hy⟩ : ∃ y, y = w.drew := ⟨_, rfl⟩
  rw [← hy]
  have hyh : y0.heap = w.heap := by rw [hy]; rfl
  have BY0 := hide (show Below w.heap.size w y0 from by rw [hy]; exact ⟨rfl, rfl, rfl, Nat.le_refl _, fun _ _ => rfl⟩)
  have RC0 := hide (R0.out y0 hyh)
  have hyz : y0.heap.size = w.heap.size := by rw [hyh]
  have HYZ := hide hyz
  clear hy hyh hyz
  refine on 19 RC0.out ?_
  gi_wp2_with fail
  have AL := hide (show (y0.alloc (.cells #[.bool false, .int .i64 0, .int .i64 0, .slice none 0 0, .slice none 0 0, .slice none 0 0, .slice none 0 0] 173)).heap[y0.heap.size]? = some (.cells #[.bool false, .int .i64 0, .int .i64 0, .slice none 0 0, .slice none 0 0, .slice none 0 0, .slice none 0 0] 173 (0, 0)) from heap_alloc_new _ _)
  have BA := hide (BY0.out.trans ((bAS (Below.refl y0.heap.size y0) (.cells #[.bool false, .int .i64 0, .int .i64 0, .slice none 0 0, .slice none 0 0, .slice none 0 0, .slice none 0 0] 173)).mono (by rw [HYZ.out]; exact Nat.le_refl _)))
  have RC1 := hide (show (y0.alloc (.cells #[.bool false, .int .i64 0, .int .i64 0, .slice none 0 0, .slice none 0 0, .slice none 0 0, .slice none 0 0] 173)).cell? ⟨s, 0, none⟩ = some (.slice ta tl tq) ∧ (y0.alloc (.cells #[.bool false, .int .i64 0, .int .i64 0, .slice none 0 0, .slice none 0 0, .slice none 0 0, .slice none 0 0] 173)).cell? ⟨s, 1, none⟩ = some (.slice ma ml mk) from ⟨(World.cell?_of_block (a := ⟨s, 0, none⟩) (BA.out.block s hs)).trans (HS.out.c).1, (World.cell?_of_block (a := ⟨s, 1, none⟩) (BA.out.block s hs)).trans (HS.out.c).2.1⟩)
  have hR : w.heap.size = y0.heap.size := HYZ.out.symm
  have hRl : y0.heap.size < (y0.alloc (.cells #[.bool false, .int .i64 0, .int .i64 0, .slice none 0 0, .slice none 0 0, .slice none 0 0, .slice none 0 0] 173)).heap.size := by simp
  refine on 20 RC1.out ?_
  gi_wp2_with fail
  have B1 := hide (BY0.out.trans ((bAS (Below.refl y0.heap.size y0) (.cells #[.bool true, .int .i64 off, .int .i64 (m : Nat), .slice ta tl tq, .slice none 0 0, .slice ma ml mk, .slice none 0 0] 173)).mono (by rw [HYZ.out]; exact Nat.le_refl _)))
  have RW1 := hide (show (y0.alloc (.cells #[.bool true, .int .i64 off, .int .i64 (m : Nat), .slice ta tl tq, .slice none 0 0, .slice ma ml mk, .slice none 0 0] 173)).heap[y0.heap.size]? = some (.cells #[.bool true, .int .i64 off, .int .i64 (m : Nat), .slice ta tl tq, .slice none 0 0, .slice ma ml mk, .slice none 0 0] 173 (0, 0)) from heap_alloc_new _ _)
  have S1 := hide (HS.out.same (B1.out.block s hs))
  have hRl : y0.heap.size < (y0.alloc (.cells #[.bool true, .int .i64 off, .int .i64 (m : Nat), .slice ta tl tq, .slice none 0 0, .slice ma ml mk, .slice none 0 0] 173)).heap.size := by simp
  refine doneC (by kernel_rfl) ⟨S1.out.c.1, S1.out.c.2.1⟩ ?_ _
  have hR : w.heap.size = y0.heap.size := HYZ.out.symm
  clear AL BA RC1 RC0 R0 HYZ BY0
  go_upto_region 1 with fail
  generalize y0.alloc (.cells #[.bool true, .int .i64 off, .int .i64 (m : Nat), .slice ta tl tq, .slice none 0 0, .slice ma ml mk, .slice none 0 0] 173) = w1 at *
  generalize y0.heap.size = R at *
  have hRs : ¬ R = s := by omega
  have hRs2 : ¬ s = R := by omega
  obtain ⟨c0, c1, _⟩ := S1.out.c
  have f0 := S1.out.f 0
  have T1 := hide (owns_below HT.out B1.out (Nat.le_refl _))
  have M1 := hide (show OwM w1 B (.slice ma ml mk) [] from owns_below HM.out B1.out (Nat.le_refl _))
  have P1 := hide (owns_below HPv.out B1.out (Nat.le_refl _))
  have L1 := hide (owns_below HL.out B1.out (Nat.le_refl _))
  have U1 := hide (HU.out.kept (w' := w1) (fun b o l c e => B1.out.block b (HU.out.lt e)) B1.out.size)
  have C1 := hide (ChgP.of_below (S := fun q => q = s ∨ lv.ownBlock = some q) B1.out (Nat.le_refl _))
  have SP := hide (HSP.out w1 T1.out P1.out)
  have z1 := B1.out.size
  clear HSP HT HPv HU HS
  go_wp2_with fail
  refine SP.out.mono ?_
  rintro e w2 ⟨v2, rfl, ho2, hb2⟩
  obtain ⟨va, vk, rfl⟩ := own32_val ho2
  have z2 := hb2.size
  have S2 := hide (S1.out.same (hb2.block s S1.out.lt))
  have T2 := hide ho2
  have M2 := hide (show OwM w2 B (.slice ma ml mk) [] from owns_below M1.out hb2 (Nat.le_refl _))
  have L2 := hide (owns_below L1.out hb2 (Nat.le_refl _))
  have U2 := hide (U1.out.kept (w' := w2) (fun b o l c e => hb2.block b (U1.out.lt e)) hb2.size)
  have C2 := hide (C1.out.belowS hb2 z1)
  have RW2 := hide ((hb2.block R hRl).trans RW1.out)
  obtain ⟨d0, d1, _⟩ := S2.out.c
  have g0 := S2.out.f 0
  have g1 := S2.out.f 1
  clear ho2 hb2 SP S1 T1 M1 P1 L1 U1 C1 RW1 c0 c1 f0
  generalize hNL : tx'.length = n' at *
  have HNL := hide hNL
  clear hNL
  go_upto_region 2 with fail
  have S3 := hide (S2.out.set0 (.slice va n' vk))
  have C3 := hide (C2.out.setS ⟨s, 0, none⟩ (.slice va n' vk) (.inl (.inl rfl)))
  have hT3 : ∀ q, (Value.slice va n' vk).ownBlock = some q → q ≠ s := fun q hq => S2.out.off T2.out (by decide) hq
  have T3 := hide (owns_of_block T2.out (w' := w2.setCell ⟨s, 0, none⟩ (.slice va n' vk)) (fun q hq => heap_setCell_other _ _ q _ (hT3 q hq)))
  have M3 := hide (show OwM (w2.setCell ⟨s, 0, none⟩ (.slice va n' vk)) B (.slice ma ml mk) [] from owns_of_block M2.out (fun q hq => heap_setCell_other _ _ q _ (S2.out.off M2.out (by decide) hq)))
  have L3 := hide (owns_of_block L2.out (w' := w2.setCell ⟨s, 0, none⟩ (.slice va n' vk)) (fun q hq => heap_setCell_other _ _ q _ (S2.out.off L2.out (by decide) hq)))
  have U3 := hide (U2.out.kept (w' := w2.setCell ⟨s, 0, none⟩ (.slice va n' vk)) (fun b o l c e => heap_setCell_other _ _ b _ (hUb b o l c e).1) (by simp))
  have RW3 := hide (show (w2.setCell ⟨s, 0, none⟩ (.slice va n' vk)).heap[R]? = _ from (heap_setCell_other w2 ⟨s, 0, none⟩ R (.slice va n' vk) hRs).trans RW2.out)
  have z3 : (w2.setCell ⟨s, 0, none⟩ (.slice va n' vk)).heap.size = w2.heap.size := by simp
  have z3' : w2.heap.size ≤ (w2.setCell ⟨s, 0, none⟩ (.slice va n' vk)).heap.size := by omega
  clear z3
  generalize w2.setCell ⟨s, 0, none⟩ (.slice va n' vk) = w3 at *
  clear S2 C2 T2 M2 L2 U2 RW2 d0 d1 g0 g1 hT3
  have r0 : w3.cell? ⟨R, 0, none⟩ = some (.bool true) := by rw [cell_of_row w3 R 0 _ _ _ RW3.out]; rfl
  obtain ⟨c0, c1, _⟩ := S3.out.c
  have IN := hide (HIN.out w3 M3.out)
  clear HIN
  go_wp2_with fail
  refine IN.out.mono ?_
  rintro e w4 ⟨v4, rfl, ho4, hb4⟩
  rw [srt0] at ho4
  obtain ⟨na, nk, rfl⟩ := ho4.val
  have z4 := hb4.size
  have S4 := hide (S3.out.same (hb4.block s S3.out.lt))
  have T4 := hide (owns_below T3.out hb4 (Nat.le_refl _))
  have M4 := hide (show OwM w4 w3.heap.size (.slice na [].length nk) [] from ho4)
  have L4 := hide (owns_below L3.out hb4 (Nat.le_refl _))
  have U4 := hide (U3.out.kept (w' := w4) (fun b o l c e => hb4.block b (U3.out.lt e)) hb4.size)
  have C4 := hide (C3.out.belowS hb4 (by omega))
  have RW4 := hide ((hb4.block R (by omega)).trans RW3.out)
  obtain ⟨d0, d1, _⟩ := S4.out.c
  have g1 := S4.out.f 1
  clear ho4 hb4 IN S3 T3 M3 L3 U3 C3 RW3 c0 c1 r0
  go_upto_region 4 with fail
  have S5 := hide (S4.out.set1 (.slice na 0 nk))
  have C5 := hide (C4.out.setS ⟨s, 1, none⟩ (.slice na 0 nk) (.inl (.inl rfl)))
  have T5 := hide (owns_of_block T4.out (w' := w4.setCell ⟨s, 1, none⟩ (.slice na 0 nk)) (fun q hq => heap_setCell_other _ _ q _ (S4.out.off T4.out (by decide) hq)))
  have M5 := hide (show OwM (w4.setCell ⟨s, 1, none⟩ (.slice na 0 nk)) w3.heap.size (.slice na 0 nk) [] from owns_of_block M4.out (fun q hq => heap_setCell_other _ _ q _ (S4.out.off M4.out (by decide) hq)))
  have L5 := hide (owns_of_block L4.out (w' := w4.setCell ⟨s, 1, none⟩ (.slice na 0 nk)) (fun q hq => heap_setCell_other _ _ q _ (S4.out.off L4.out (by decide) hq)))
  have U5 := hide (U4.out.kept (w' := w4.setCell ⟨s, 1, none⟩ (.slice na 0 nk)) (fun b o l c e => heap_setCell_other _ _ b _ (hUb b o l c e).1) (by simp))
  have RW5 := hide (show (w4.setCell ⟨s, 1, none⟩ (.slice na 0 nk)).heap[R]? = _ from (heap_setCell_other w4 ⟨s, 1, none⟩ R (.slice na 0 nk) hRs).trans RW4.out)
  have z5' : w4.heap.size ≤ (w4.setCell ⟨s, 1, none⟩ (.slice na 0 nk)).heap.size := by simp
  generalize w4.setCell ⟨s, 1, none⟩ (.slice na 0 nk) = w5 at *
  clear S4 C4 T4 M4 L4 U4 RW4 d0 d1 g1
  have NO := hide (noteS B s nl _ _ _ _ _ _ _ _ ls 1 off 0 pa m pk w5 S5.out L5.out (by omega) (by omega))
  go_wp2_with fail
  refine NO.out.mono ?_
  rintro e w6 ⟨rfl, lv6, hs6, hl6, hc6, hq6⟩
  have z6 := hc6.size
  have hlw : ∀ q, lv.ownBlock = some q → q < w.heap.size := fun q hq => (HL.out.lt q hq).2
  have hlR : lv.ownBlock ≠ some R := fun e => by have := hlw R e; omega
  have S6' := hide hs6
  have T6 := hide (owns_of_block T5.out (w' := w6) (fun q hq => hc6.block q (T5.out.lt q hq).2 (fun h9 => h9.elim (S5.out.off T5.out (by decide) hq) (fun h8 => own_apart T5.out L5.out (by decide) hq h8))))
  have M6 := hide (show OwM w6 w3.heap.size (.slice na 0 nk) [] from owns_of_block M5.out (fun q hq => hc6.block q (M5.out.lt q hq).2 (fun h9 => h9.elim (S5.out.off M5.out (by decide) hq) (fun h8 => own_apart M5.out L5.out (by decide) hq h8))))
  have L6 := hide hl6
  have U6 := hide (U5.out.kept (w' := w6) (fun b o l c e => hc6.block b (U5.out.lt e) (fun h9 => h9.elim (hUb b o l c e).1 (hUb b o l c e).2)) hc6.size)
  have C6 := hide (C5.out.transS hc6 (fun q hq => .inl hq))
  have RW6 := hide ((hc6.block R (by omega) (fun h9 => h9.elim hRs hlR)).trans RW5.out)
  have Q6 := hide (show ∀ q, lv6.ownBlock = some q → lv.ownBlock = some q ∨ w.heap.size ≤ q from fun q hq => (hq6 q hq).imp id (fun h9 => by omega))
  have hs6l := S6'.out.lt
  clear hs6 hl6 hc6 hq6 NO S5 T5 M5 L5 U5 C5 RW5
  obtain ⟨c0, c1, _, c3, c5, _⟩ := S6'.out.c
  have f3 := S6'.out.f 3
  have f4 := frozen_of_row w6 R 4 _ _ RW6.out
  have f6 := frozen_of_row w6 R 6 _ _ RW6.out
  have r4 : w6.cell? ⟨R, 4, none⟩ = some (.slice none 0 0) := by rw [cell_of_row w6 R 4 _ _ _ RW6.out]; rfl
  have r6 : w6.cell? ⟨R, 6, none⟩ = some (.slice none 0 0) := by rw [cell_of_row w6 R 6 _ _ _ RW6.out]; rfl
  go_upto_region 12 with fail
  have S9 := hide (show S6 (((w6.setCell ⟨R, 4, none⟩ (.slice va n' vk)).setCell ⟨R, 6, none⟩ (.slice na 0 nk)).setCell ⟨s, 3, none⟩ (.slice none 0 0)) s (.slice va n' vk) (.slice na 0 nk) uv gv slv lv6 sp cp from (S6'.out.same (w' := (w6.setCell ⟨R, 4, none⟩ (.slice va n' vk)).setCell ⟨R, 6, none⟩ (.slice na 0 nk)) (by rw [heap_setCell_other _ ⟨R, 6, none⟩ s _ hRs2, heap_setCell_other _ ⟨R, 4, none⟩ s _ hRs2])).set3)
  have RWn := hide (show (((w6.setCell ⟨R, 4, none⟩ (.slice va n' vk)).setCell ⟨R, 6, none⟩ (.slice na 0 nk)).setCell ⟨s, 3, none⟩ (.slice none 0 0)).heap[R]? = some (.cells #[.bool true, .int .i64 off, .int .i64 (m : Nat), .slice ta tl tq, .slice va n' vk, .slice ma ml mk, .slice na 0 nk] 173 (0, 0)) from by
    rw [heap_setCell_other _ ⟨s, 3, none⟩ R _ hRs]
    exact heap_setCell_same _ R 6 _ _ _ (heap_setCell_same w6 R 4 _ _ _ RW6.out))
  have C9 := hide (((C6.out.setS ⟨R, 4, none⟩ (.slice va n' vk) (.inr (by show w.heap.size ≤ R; omega))).setS ⟨R, 6, none⟩ (.slice na 0 nk) (.inr (by show w.heap.size ≤ R; omega))).setS ⟨s, 3, none⟩ (.slice none 0 0) (.inl (.inl rfl)))
  have K9 := hide (show ∀ q, q ≠ s → q ≠ R → (((w6.setCell ⟨R, 4, none⟩ (.slice va n' vk)).setCell ⟨R, 6, none⟩ (.slice na 0 nk)).setCell ⟨s, 3, none⟩ (.slice none 0 0)).heap[q]? = w6.heap[q]? from fun q h1 h2 => by rw [heap_setCell_other _ ⟨s, 3, none⟩ q _ h1, heap_setCell_other _ ⟨R, 6, none⟩ q _ h2, heap_setCell_other _ ⟨R, 4, none⟩ q _ h2])
  have z9 : (((w6.setCell ⟨R, 4, none⟩ (.slice va n' vk)).setCell ⟨R, 6, none⟩ (.slice na 0 nk)).setCell ⟨s, 3, none⟩ (.slice none 0 0)).heap.size = w6.heap.size := by simp
  have z9' : w6.heap.size ≤ (((w6.setCell ⟨R, 4, none⟩ (.slice va n' vk)).setCell ⟨R, 6, none⟩ (.slice na 0 nk)).setCell ⟨s, 3, none⟩ (.slice none 0 0)).heap.size := by omega
  have z9'' : (((w6.setCell ⟨R, 4, none⟩ (.slice va n' vk)).setCell ⟨R, 6, none⟩ (.slice na 0 nk)).setCell ⟨s, 3, none⟩ (.slice none 0 0)).heap.size ≤ w6.heap.size := by omega
  clear z9
  generalize (((w6.setCell ⟨R, 4, none⟩ (.slice va n' vk)).setCell ⟨R, 6, none⟩ (.slice na 0 nk)).setCell ⟨s, 3, none⟩ (.slice none 0 0)) = w9 at *
  have hTR : ∀ q, (Value.slice va n' vk).ownBlock = some q → q ≠ s ∧ q ≠ R := fun q hq => ⟨S6'.out.off T6.out (by decide) hq, fun e => by
    subst e
    exact own_apart T6.out (⟨rfl, .inr ⟨q, 1, _, rfl, Nat.zero_le _, RW6.out, Nat.le_refl _, by unfold maxLen; omega, rfl, rfl⟩⟩ : w6.ownsRow 0 173 7 (.slice (some ⟨q, 0, none⟩) 1 1) 1 _) (by decide) hq rfl⟩
  have hMR : ∀ q, (Value.slice na 0 nk).ownBlock = some q → q ≠ s ∧ q ≠ R := fun q hq => ⟨S6'.out.off M6.out (by decide) hq, fun e => by
    subst e
    exact own_apart M6.out (⟨rfl, .inr ⟨q, 1, _, rfl, Nat.zero_le _, RW6.out, Nat.le_refl _, by unfold maxLen; omega, rfl, rfl⟩⟩ : w6.ownsRow 0 173 7 (.slice (some ⟨q, 0, none⟩) 1 1) 1 _) (by decide) hq rfl⟩
  have hLR : ∀ q, lv6.ownBlock = some q → q ≠ s ∧ q ≠ R := fun q hq => ⟨S6'.out.off L6.out (by decide) hq, fun e => by
    subst e
    exact own_apart L6.out (⟨rfl, .inr ⟨q, 1, _, rfl, Nat.zero_le _, RW6.out, Nat.le_refl _, by unfold maxLen; omega, rfl, rfl⟩⟩ : w6.ownsRow 0 173 7 (.slice (some ⟨q, 0, none⟩) 1 1) 1 _) (by decide) hq rfl⟩
  have T9 := hide (owns_of_block T6.out (w' := w9) (fun q hq => K9.out q (hTR q hq).1 (hTR q hq).2))
  have M9 := hide (show OwM w9 w3.heap.size (.slice na 0 nk) [] from owns_of_block M6.out (fun q hq => K9.out q (hMR q hq).1 (hMR q hq).2))
  have L9 := hide (owns_of_block L6.out (w' := w9) (fun q hq => K9.out q (hLR q hq).1 (hLR q hq).2))
  have hUR : ∀ b o l c, uv = .slice (some ⟨b, o, none⟩) l c → b < w.heap.size := fun b o l c e => HUL.out b o l c e
  have U9 := hide (U6.out.kept (w' := w9) (fun b o l c e => K9.out b (hUb b o l c e).1 (by have := hUR b o l c e; omega)) (by omega))
  clear S6' T6 M6 L6 U6 C6 RW6 K9 hTR hMR hLR c0 c1 c3 c5 f3 f4 f6 r4 r6
  have q0 : w9.cell? ⟨R, 0, none⟩ = some (.bool true) := by rw [cell_of_row w9 R 0 _ _ _ RWn.out]; rfl
  have q1 : w9.cell? ⟨R, 1, none⟩ = some (.int .i64 off) := by rw [cell_of_row w9 R 1 _ _ _ RWn.out]; rfl
  have q2 : w9.cell? ⟨R, 2, none⟩ = some (.int .i64 (m : Nat)) := by rw [cell_of_row w9 R 2 _ _ _ RWn.out]; rfl
  have q3 : w9.cell? ⟨R, 3, none⟩ = some (.slice ta tl tq) := by rw [cell_of_row w9 R 3 _ _ _ RWn.out]; rfl
  have q4 : w9.cell? ⟨R, 4, none⟩ = some (.slice va n' vk) := by rw [cell_of_row w9 R 4 _ _ _ RWn.out]; rfl
  have q5 : w9.cell? ⟨R, 5, none⟩ = some (.slice ma ml mk) := by rw [cell_of_row w9 R 5 _ _ _ RWn.out]; rfl
  have q6 : w9.cell? ⟨R, 6, none⟩ = some (.slice na 0 nk) := by rw [cell_of_row w9 R 6 _ _ _ RWn.out]; rfl
  have BA := hide (bAS (Below.refl w9.heap.size w9) (.cells #[.bool true, .int .i64 off, .int .i64 (m : Nat), .slice ta tl tq, .slice va n' vk, .slice ma ml mk, .slice na 0 nk] 173))
  have zA : w9.heap.size ≤ (w9.alloc (.cells #[.bool true, .int .i64 off, .int .i64 (m : Nat), .slice ta tl tq, .slice va n' vk, .slice ma ml mk, .slice na 0 nk] 173)).heap.size := by simp
  have PU := hide (pushS s cp (.slice va n' vk) (.slice na 0 nk) uv gv slv lv6 sp us (some ⟨w9.heap.size, 0, none⟩) 1 1 (w9.alloc (.cells #[.bool true, .int .i64 off, .int .i64 (m : Nat), .slice ta tl tq, .slice va n' vk, .slice ma ml mk, .slice na 0 nk] 173)) (S9.out.same (BA.out.block s S9.out.lt)) (U9.out.kept (fun b o l c e => BA.out.block b (U9.out.lt e)) BA.out.size) hU1 hul hcp)
  go_wp2_with fail
  refine PU.out.mono ?_
  rintro e w11 ⟨rfl, uv', hs11, hu11, hc11, hb11⟩
  have RES := hide (show EditS w B s tx' (min (us.length + 1) cp) sp cp (nl + 1) lv w11 from by
    have z11 := hc11.size
    have hsl := S9.out.lt
    have kp : ∀ q, q < w9.heap.size → q ≠ s → w11.heap[q]? = w9.heap[q]? := fun q h1 h2 => (hc11.block q (by omega) h2).trans (BA.out.block q h1)
    refine ⟨lv6, _, ⟨_, _, uv', gv, slv, ls ++ [.int .i64 1, .int .i64 off, .int .i64 0, .slice pa m pk], hs11, ?_, ?_, hu11, pushW_one hU1, ?_, ?_, ?_, hcp, by omega⟩, pushW_len hul, (C9.out.belowS BA.out (by omega)).transS hc11 (fun q hq => .inl (.inl hq)), Q6.out⟩
    · have h9 := owns_base (owns_of_block T9.out (w' := w11) (fun q hq => kp q (T9.out.lt q hq).2 (S9.out.off T9.out (by decide) hq))) (base' := B) (by omega)
      unfold own32
      rw [HNL.out] at h9 ⊢
      exact h9
    · exact OwM.base (owns_of_block M9.out (w' := w11) (fun q hq => kp q (M9.out.lt q hq).2 (S9.out.off M9.out (by decide) hq))) (by omega)
    · exact owns_of_block L9.out (w' := w11) (fun q hq => kp q (L9.out.lt q hq).2 (S9.out.off L9.out (by decide) hq))
    · intro b o l c e
      have h1 := hb11 b o l c e
      exact ⟨by omega, fun h2 => by have := (L9.out.lt b h2).2; omega⟩
    · rw [pushW_len hul]; omega)
  clear hs11 hu11 hc11 hb11 PU
  go_wp2
  go_end0
  exact ⟨rfl, RES.out⟩
end Go.Proofs.YtbkcbhjejkicjaaGreatDoor

