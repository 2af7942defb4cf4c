import Derived.Test.YtbgngikejgihgagGreatDoorMq13
import Derived.Test.YtbgngikejgihgagGreatDoorMq17
import Derived.Lib.Hide
import Derived.Laws.AppendOwnNone
namespace Go.Proofs.YtbgngikejgihgagGreatDoor
open Go Go.RowKit
set_option linter.unusedVariables false

namespace AT
/-- Two trees with a piece between, nothing repaired. -/
def splR : AT → Pc → AT → AT
  | a, e, b =>
    if a.ht > b.ht + 1 then
      match a with
      | nil => nil
      | node l p r => node l p (splR r e b)
    else if b.ht > a.ht + 1 then
      match b with
      | nil => nil
      | node l p r => node (splR a e l) p r
    else node a e b
  termination_by a _ b => a.its + b.its
  decreasing_by all_goals (simp only [its]; omega)
theorem spl_fx (a : AT) (e : Pc) (b : AT) : a.bal → b.bal → ∃ n, n ≤ a.its + b.its ∧ Fx (splR a e b) n (spl a e b) := by
  fun_induction splR a e b with
  | case1 => rename_i h; simp [ht] at h
  | case2 b0 e0 l p r h ih =>
    intro ⟨hl, hr, h1, h2⟩ hb
    obtain ⟨n, hn, hf⟩ := ih hr hb
    obtain ⟨c, g1, g2⟩ := spl_bal r b0 e0 hr hb
    simp only [ht, its] at h hn ⊢
    obtain ⟨m, hm, hg⟩ := Fx.right (p := p) hf hl (by omega) (by omega)
    refine ⟨m, by omega, ?_⟩
    rw [spl.eq_def]; dsimp only; rw [if_pos (by simp only [ht]; omega)]
    exact hg
  | case3 => rename_i h1 h; simp [ht] at h
  | case4 a0 e0 l p r h' h ih =>
    intro ha ⟨hl, hr, h1, h2⟩
    obtain ⟨n, hn, hf⟩ := ih ha hl
    obtain ⟨c, g1, g2⟩ := spl_bal a0 e0 l ha hl
    simp only [ht, its] at h h' hn ⊢
    obtain ⟨m, hm, hg⟩ := Fx.left (p := p) hf hr (by omega) (by omega)
    refine ⟨m, by omega, ?_⟩
    rw [spl.eq_def]; dsimp only; rw [if_neg (by simp only [ht]; omega), if_pos (by simp only [ht]; omega)]
    exact hg
  | case5 a0 e0 b0 h h' =>
    intro ha hb
    refine ⟨0, Nat.zero_le _, ?_⟩
    rw [spl.eq_def]; dsimp only; rw [if_neg h, if_neg h']
    exact Fx.stop ((wd_bal _).2 ⟨ha, hb, by omega, by omega⟩)
theorem splR_its (a : AT) (e : Pc) (b : AT) : (splR a e b).its = a.its + 1 + b.its := by
  fun_induction splR a e b with
  | case1 => rename_i h; simp [ht] at h
  | case2 => rename_i h ih; simp only [its]; omega
  | case3 => rename_i h1 h; simp [ht] at h
  | case4 => rename_i ih; simp only [its]; omega
  | case5 => simp [its]

/-- Down the right edge: behind each node on the way what is left is a subtree. -/
theorem edgeR (hb : Nat) : ∀ (a : AT) (d : Int), a.bal → hb + 1 < a.ht → ∃ l p r, a = node l p r ∧ a.told d = l.told (d + 1) ++ ⟨p, d⟩ :: r.told (d + 1) ∧ hb ≤ r.ht ∧ r.ht < a.ht ∧ r.bal
  | nil, d, _, h => by simp [ht] at h
  | node l p r, d, ⟨hl, hr, h1, h2⟩, h => by
    simp only [ht] at h ⊢
    exact ⟨l, p, r, rfl, by simp [told], by omega, by omega, hr⟩
theorem edgeL (hb : Nat) : ∀ (a : AT) (d : Int), a.bal → hb + 1 < a.ht → ∃ l p r, a = node l p r ∧ a.told d = l.told (d + 1) ++ ⟨p, d⟩ :: r.told (d + 1) ∧ hb ≤ l.ht ∧ l.ht < a.ht ∧ l.bal
  | nil, d, _, h => by simp [ht] at h
  | node l p r, d, ⟨hl, hr, h1, h2⟩, h => by
    simp only [ht] at h ⊢
    exact ⟨l, p, r, rfl, by simp [told], by omega, by omega, hl⟩
theorem splR_right {l r b : AT} {p e : Pc} (h : b.ht + 1 < (node l p r).ht) : splR (node l p r) e b = node l p (splR r e b) := by
  rw [splR.eq_def]; dsimp only; rw [if_pos h]
theorem splR_left {a l r : AT} {p e : Pc} (h : a.ht + 1 < (node l p r).ht) : splR a e (node l p r) = node (splR a e l) p r := by
  rw [splR.eq_def]; dsimp only; rw [if_neg (by omega), if_pos h]
theorem splR_mid {a b : AT} {e : Pc} (h : ¬ b.ht + 1 < a.ht) (h' : ¬ a.ht + 1 < b.ht) : splR a e b = node a e b := by
  rw [splR.eq_def]; dsimp only; rw [if_neg h, if_neg h']
end AT

/-- All levels changed by d. -/
def lift (d : Int) (X : List It) : List It := adj (fun _ => d) 0 X
theorem lift_told (T : AT) (e d : Int) : lift d (T.told e) = T.told (e + d) := adj_told _ d T 0 e (fun _ _ _ => rfl)
theorem lift_length (d : Int) (X : List It) : (lift d X).length = X.length := adj_length _ _ _
/-- How far a loop over the levels has come. -/
def lft (d : Int) (k : Nat) (j : Nat) : Int := if j < k then d else 0
theorem lft_start (d : Int) (X : List It) : adj (lft d 0) 0 X = X := adj_same _ 0 X (fun j _ _ => by unfold lft; rw [if_neg (by omega)])
theorem lft_end (d : Int) (X : List It) (n : Nat) (h : X.length = n) : adj (lft d n) 0 X = lift d X := adj_congr 0 X (fun j _ h2 => by unfold lft; rw [if_pos (by omega)])

/-- Down the right edge of the higher tree. -/
structure EdR (TA TB : AT) (p : Pc) (Pre : List It) (S : AT) (lv : Int) : Prop where
  list : TA.told 0 = Pre ++ S.told lv
  bal : S.bal
  low : TB.ht ≤ S.ht
  fin : (AT.splR TA p TB).told 0 = Pre ++ (AT.splR S p TB).told lv
  lvl : 0 ≤ lv
  top : lv + S.ht ≤ TA.ht
  fit : AT.Fit Pre [] lv
theorem EdR.start {TA TB : AT} {p : Pc} (h : TA.bal) (hh : TB.ht ≤ TA.ht) : EdR TA TB p [] TA 0 := ⟨by simp, h, hh, by simp, Int.le_refl _, by omega, ⟨fun a h => by simp at h, fun a h => by simp at h⟩⟩
theorem EdR.step {TA TB : AT} {p : Pc} {Pre : List It} {S : AT} {lv : Int} (h : EdR TA TB p Pre S lv) (hgt : TB.ht + 1 < S.ht) : ∃ l q r, S = .node l q r ∧ EdR TA TB p (Pre ++ l.told (lv + 1) ++ [⟨q, lv⟩]) r (lv + 1) := by
  obtain ⟨l, q, r, hS, _, h1, h2, h3⟩ := AT.edgeR TB.ht S lv h.bal hgt
  refine ⟨l, q, r, hS, ?_, h3, h1, ?_, by have := h.lvl; omega, by have := h.top; omega, ⟨fun a ha => by simp at ha; subst ha; show lv < lv + 1; omega, fun a ha => by simp at ha⟩⟩
  · rw [h.list, hS]; simp [AT.told]
  · rw [h.fin, hS, AT.splR_right (by rw [← hS]; exact hgt)]; simp [AT.told]
theorem EdR.done {TA TB : AT} {p : Pc} {Pre : List It} {S : AT} {lv : Int} (h : EdR TA TB p Pre S lv) (hle : ¬ TB.ht + 1 < S.ht) : (AT.splR TA p TB).told 0 = Pre ++ S.told (lv + 1) ++ ⟨p, lv⟩ :: TB.told (lv + 1) := by
  have := h.low
  rw [h.fin, AT.splR_mid hle (by omega)]; simp [AT.told]
/-- Down the left edge. -/
structure EdL (TA TB : AT) (p : Pc) (Post : List It) (S : AT) (lv : Int) : Prop where
  list : TB.told 0 = S.told lv ++ Post
  bal : S.bal
  low : TA.ht ≤ S.ht
  fin : (AT.splR TA p TB).told 0 = (AT.splR TA p S).told lv ++ Post
  lvl : 0 ≤ lv
  top : lv + S.ht ≤ TB.ht
  fit : AT.Fit [] Post lv
theorem EdL.start {TA TB : AT} {p : Pc} (h : TB.bal) (hh : TA.ht ≤ TB.ht) : EdL TA TB p [] TB 0 := ⟨by simp, h, hh, by simp, Int.le_refl _, by omega, ⟨fun a h => by simp at h, fun a h => by simp at h⟩⟩
theorem EdL.step {TA TB : AT} {p : Pc} {Post : List It} {S : AT} {lv : Int} (h : EdL TA TB p Post S lv) (hgt : TA.ht + 1 < S.ht) : ∃ l q r, S = .node l q r ∧ EdL TA TB p (⟨q, lv⟩ :: (r.told (lv + 1) ++ Post)) l (lv + 1) := by
  obtain ⟨l, q, r, hS, _, h1, h2, h3⟩ := AT.edgeL TA.ht S lv h.bal hgt
  refine ⟨l, q, r, hS, ?_, h3, h1, ?_, by have := h.lvl; omega, by have := h.top; omega, ⟨fun a ha => by simp at ha, fun a ha => by simp at ha; subst ha; show lv < lv + 1; omega⟩⟩
  · rw [h.list, hS]; simp [AT.told]
  · rw [h.fin, hS, AT.splR_left (by rw [← hS]; exact hgt)]; simp [AT.told]
theorem EdL.done {TA TB : AT} {p : Pc} {Post : List It} {S : AT} {lv : Int} (h : EdL TA TB p Post S lv) (hle : ¬ TA.ht + 1 < S.ht) : (AT.splR TA p TB).told 0 = TA.told (lv + 1) ++ ⟨p, lv⟩ :: (S.told (lv + 1) ++ Post) := by
  have := h.low
  rw [h.fin, AT.splR_mid (by omega) hle]; simp [AT.told]

/-- A slice of items whose cells can be copied. -/
def SrcI (w : World) (v : Value) (xs : List It) : Prop :=
  (v = .slice none 0 0 ∧ xs = []) ∨ ∃ b o cap, v = .slice (some ⟨b, o, none⟩) xs.length cap ∧ b < w.heap.size ∧ (∀ j u, (itVs xs)[j]? = some u → w.cell? ((⟨b, o, none⟩ : Addr).add j) = some u)
theorem SrcI.of {w : World} {base : Nat} {v : Value} {xs : List It} (h : OwI w base v xs) : SrcI w v xs := by
  rcases h.2 with ⟨h1, h2⟩ | ⟨g, cap, cur, h1, h2⟩
  · exact .inl ⟨h1, List.eq_nil_of_length_eq_zero h2⟩
  · subst h1
    exact .inr ⟨g, 0, cap, rfl, (h.lt g rfl).2, fun j u hj => h.cells j u hj⟩
theorem SrcI.below {w w' : World} {v : Value} {xs : List It} (h : SrcI w v xs) (hb : Below w.heap.size w w') : SrcI w' v xs := by
  rcases h with h | ⟨b, o, cap, h1, h2, h3⟩
  · exact .inl h
  · refine .inr ⟨b, o, cap, h1, Nat.lt_of_lt_of_le h2 hb.size, fun j u hj => ?_⟩
    have h9 := h3 j u hj
    rw [addr_add] at h9 ⊢
    exact (hb.cell (p := ⟨b, o + j, none⟩) h2).trans h9
theorem SrcI.heap {w w' : World} {v : Value} {xs : List It} (h : SrcI w v xs) (hb : w'.heap = w.heap) : SrcI w' v xs := by
  rcases h with h | ⟨b, o, cap, h1, h2, h3⟩
  · exact .inl h
  · exact .inr ⟨b, o, cap, h1, by rw [hb]; exact h2, fun j u hj => (World.cell?_of_block (w := w) (by rw [hb])).trans (h3 j u hj)⟩

set_option maxHeartbeats 1000000 in
set_option maxRecDepth 100000 in
theorem copyG (xs : List It) (v : Value) (w : World) (h : SrcI w v xs) (hn : xs.length ≤ 1048576) :
    Calls Tryz.prog 129 #[v] w fun e w' => ∃ g cp, e = .returned (.slice (some ⟨g, 0, none⟩) xs.length cp) ∧ OwI w' w.heap.size (.slice (some ⟨g, 0, none⟩) xs.length cp) xs ∧ Below w.heap.size w w' := by
  rcases h with ⟨rfl, rfl⟩ | ⟨b, o, cap, rfl, h2, h3⟩
  · obtain ⟨i0, hi, hz0, hz1, hz2⟩ := info_parts Tryz.infoIT
    have O0 := hide (show (w.alloc (.cells #[] 145)).ownsRow w.heap.size 145 4 (.slice (some ⟨w.heap.size, 0, none⟩) 0 0) 0 [] from ⟨rfl, .inr ⟨_, 0, #[], rfl, Nat.le_refl _, heap_alloc_new _ _, Nat.le_refl _, by unfold maxLen; omega, rfl, rfl⟩⟩)
    have B0 := hide ((Below.refl w.heap.size w).alloc (Nat.le_refl _) (.cells #[] 145))
    go_enter Tryz.func129, Tryz.ntmps129
    go_wp2_with (at_builtin; refine wpList_append_own_none rfl _ _ 65 rfl w.heap.size 145 i0 4 Tryz.underlying65 hi _ _ _ rfl O0.out rfl ?_)
    go_ret
    exact ⟨_, _, rfl, O0.out, B0.out⟩
  · exact copyS xs b o cap w h3 h2 hn

set_option maxHeartbeats 2000000 in
set_option maxRecDepth 100000 in
theorem liftS (d : Int) (xs : List It) (v : Value) (w : World) (h : SrcI w v xs) (hn : xs.length ≤ 1048576) (hd : -100000 ≤ d ∧ d ≤ 100000) (hlv : ∀ x ∈ xs, 0 ≤ x.lv ∧ x.lv ≤ 1000000) :
    Calls Tryz.prog 185 #[v, .int .i64 d] w fun e w' => ∃ g cp, e = .returned (.slice (some ⟨g, 0, none⟩) xs.length cp) ∧ OwI w' w.heap.size (.slice (some ⟨g, 0, none⟩) xs.length cp) (lift d xs) ∧ Below w.heap.size w w' := by
  have CP := hide (copyG xs v w h hn)
  have LE := hide (lft_end d xs xs.length rfl)
  have HLV := hide hlv
  have HLL := hide (lift_length d xs)
  have HGT := hide (show ∀ k, k < xs.length → ∃ x, xs[k]? = some x from fun k hk => ⟨_, List.getElem?_eq_getElem hk⟩)
  unfold OwI at CP
  unfold OwI
  rw [HLL.out]
  generalize hN : xs.length = n at *
  obtain ⟨ao, m, cap, rfl⟩ : ∃ ao m cap, v = .slice ao m cap := by
    rcases h with ⟨rfl, _⟩ | ⟨b, o, cap, rfl, _⟩ <;> exact ⟨_, _, _, rfl⟩
  clear h hN hlv
  go_enter Tryz.func185, Tryz.ntmps185
  go_wp2_with fail
  refine CP.out.mono ?_
  rintro e w1 ⟨g, cp, rfl, ho1, hb1⟩
  have O1 := hide ho1
  have B1 := hide hb1
  have hgs := (ho1.lt g rfl)
  obtain ⟨hcp, hcm⟩ : n ≤ cp ∧ cp ≤ maxLen := by
    rcases ho1.2 with ⟨h1, _⟩ | ⟨g', cp', cur, h1, _, _, h2, h3, _⟩
    · cases h1
    · cases h1; exact ⟨h2, h3⟩
  unfold maxLen at hcm
  have s1 := hb1.size
  clear ho1 hb1 CP
  go_wp2_with fail
  go_loopw [11] (fun kv wr => ∃ k : Nat, k ≤ n ∧ kv = .int .i64 k ∧ wr.ownsRow w.heap.size 145 4 (.slice (some ⟨g, 0, none⟩) n cp) n (itVs (adj (lft d k) 0 xs)) ∧ w1.grownBy wr (some g)) (fun kv _ => n - (intOf kv).toNat)
  case atStart => exact ⟨0, Nat.zero_le _, rfl, by rw [lft_start]; exact O1.out, grown_refl _ _⟩
  case round =>
    obtain ⟨k, hk, rfl, hown, hgr⟩ := hrel
    have HGR := hide hgr
    by_cases hkn : k < n
    · obtain ⟨x, hx⟩ := HGT.out k hkn
      have hxb := HLV.out x (List.mem_iff_getElem?.2 ⟨k, hx⟩)
      have hyk : (adj (lft d k) 0 xs)[k]? = some x := by
        rw [adj_get, hx]
        have h9 : lft d k k = 0 := by unfold lft; rw [if_neg (by omega)]
        simp only [Nat.zero_add, h9, Option.map_some, Int.add_zero]
      have cx := OwI.lv hown hyk
      have fx : wr.frozen? ⟨g, k * 4 + 3, none⟩ = false := hown.frozenAt _
      have ST := OwI.setLv hown hyk (x.lv + d)
      have e9 : (adj (lft d k) 0 xs).set k ⟨x.pc, x.lv + d⟩ = adj (lft d (k + 1)) 0 xs := by
        rw [adj_set hx]
        refine adj_congr 0 xs (fun j _ _ => ?_)
        unfold lft
        by_cases h : j = k
        · subst h; rw [if_pos rfl, if_pos (by omega)]; omega
        · rw [if_neg h]
          by_cases h2 : j < k
          · rw [if_pos h2, if_pos (by omega)]
          · rw [if_neg h2, if_neg (by omega)]
      rw [e9] at ST
      have HST := hide ST
      generalize x.lv = lx at *
      have g2 : (k : Int) < (n : Int) := by omega
      clear hx hyk hown hgr ST e9
      go_wp2
      go_roundw
      case rel => exact ⟨k + 1, by omega, by go_num, HST.out.1, grown_trans HGR.out HST.out.2⟩
      case measure => simp [intOf]; omega
    · obtain rfl : n = k := by omega
      have g2 : ¬ (n : Int) < (n : Int) := by omega
      rw [LE.out] at hown
      have HO := hide hown
      have BW := hide (B1.out.trans ((Below.refl w.heap.size w1).grown hgr s1 (fun z hz => by cases hz; exact hgs.1)))
      clear hown hgr
      go_wp2
      go_ret
      exact ⟨_, _, rfl, HO.out, BW.out⟩

theorem heightSub (B0 : Nat) (v : Value) (X : List It) (W : World) (hr : RdI B0 W v X) (hlen : X.length ≤ 1048576) (hlv : ∀ x ∈ X, 0 ≤ x.lv ∧ x.lv ≤ 1000000) {A B : List It} {S : AT} {e : Int} (hX : X = A ++ S.told e ++ B) (lo hi : Int) (h1 : lo = (A.length : Int)) (h2 : hi = (A.length : Int) + (S.its : Int)) :
    Calls Tryz.prog 205 #[v, .int .i64 lo, .int .i64 hi] W fun e' w' => e' = .returned (.int .i64 (S.ht : Int)) ∧ w' = W := by
  subst h1
  obtain rfl : hi = ((A.length + S.its : Nat) : Int) := by omega
  have h := heightS B0 v X W hr hlen hlv A.length (A.length + S.its) (by omega) (by rw [hX]; simp only [List.length_append, AT.told_length]; omega)
  rw [show seg X A.length (A.length + S.its) = S.told e by rw [hX]; have h := seg_mid A (S.told e) B; rw [AT.told_length] at h; exact h, hgt_told] at h
  exact h
theorem childSub (B0 : Nat) (v : Value) (X : List It) (W : World) (hr : RdI B0 W v X) (hlen : X.length ≤ 1048576) {A B : List It} {l r : AT} {q : Pc} {e : Int} (hX : X = A ++ (AT.node l q r).told e ++ B) (hf : AT.Fit A B e) (lo hi : Int) (h1 : lo = (A.length : Int)) (h2 : hi = (A.length : Int) + ((AT.node l q r).its : Int)) :
    Calls Tryz.prog 184 #[v, .int .i64 lo, .int .i64 hi] W fun e' w' => e' = .returned (.int .i64 ((A.length + l.its : Nat) : Int)) ∧ ∃ q, w' = W.drewN q := by
  subst h1
  obtain rfl : hi = ((A.length + (AT.node l q r).its : Nat) : Int) := by omega
  have hl : X.length = A.length + (AT.node l q r).its + B.length := by rw [hX]; simp only [List.length_append, AT.told_length]
  have h := childS B0 v X W hr hlen (by intro h; rw [h] at hl; simp only [List.length_nil, AT.its] at hl; omega) A.length (A.length + (AT.node l q r).its) (by omega) (by omega)
  refine h.mono ?_
  rintro e' w' ⟨c, rfl, hc, hw⟩
  obtain rfl : c = A.length + l.its := by
    refine Am.root (e := e) ?_ hc
    rw [hX]; exact Sub.of hf
  exact ⟨rfl, hw⟩
theorem srcI_take {w : World} {base b cap n : Nat} {X : List It} (h : OwI w base (.slice (some ⟨b, 0, none⟩) n cap) X) (hn : X.length = n) {Z R : List It} (hX : X = Z ++ R) : ∀ j u, (itVs Z)[j]? = some u → w.cell? ((⟨b, 0, none⟩ : Addr).add j) = some u := by
  intro j u hj
  subst hn
  refine h.cells j u ?_
  rw [hX, itVs_append, List.getElem?_append_left (by
    rcases Nat.lt_or_ge j (itVs Z).length with g | g
    · exact g
    · rw [List.getElem?_eq_none g] at hj; cases hj)]
  exact hj
theorem srcI_drop {w : World} {base b cap n : Nat} {X : List It} (h : OwI w base (.slice (some ⟨b, 0, none⟩) n cap) X) (hn : X.length = n) {Z R : List It} (hX : X = Z ++ R) : ∀ j u, (itVs R)[j]? = some u → w.cell? ((⟨b, Z.length * 4, none⟩ : Addr).add j) = some u := by
  intro j u hj
  subst hn
  have h1 := h.cells (Z.length * 4 + j) u (by rw [hX, itVs_append, List.getElem?_append_right (by rw [itVs_length]; omega), itVs_length, show Z.length * 4 + j - Z.length * 4 = j by omega]; exact hj)
  rw [addr_add] at h1 ⊢
  rw [Nat.zero_add] at h1; exact h1
theorem lv_part {X Z A B : List It} {M : Int} (hX : X = A ++ Z ++ B) (h : ∀ x ∈ X, 0 ≤ x.lv ∧ x.lv ≤ M) : ∀ x ∈ Z, 0 ≤ x.lv ∧ x.lv ≤ M := fun x hx => h x (by rw [hX]; simp [hx])

set_option maxHeartbeats 4000000 in
set_option maxRecDepth 100000 in
theorem join3 (TA TB : AT) (p : Pc) (ba bb : Nat) (va vb : Value) (w : World) (hA : TA.bal) (hB : TB.bal) (hn : TA.its + TB.its ≤ 8192) (oa : OwI w ba va (TA.told 0)) (ob : OwI w bb vb (TB.told 0)) (h1 : ¬ TB.ht + 1 < TA.ht) (h2 : ¬ TA.ht + 1 < TB.ht) :
    Calls Tryz.prog 186 #[va, pcV p, vb] w fun e w' => ∃ v', e = .returned v' ∧ OwI w' w.heap.size v' ((AT.spl TA p TB).told 0) ∧ Below w.heap.size w w' := by
  obtain ⟨i0, hi, hz0, hz1, hz2⟩ := info_parts Tryz.infoIT
  have A0 := hide ((Below.refl w.heap.size w).alloc (Nat.le_refl _) (.cells #[.int .i64 p.off, .int .i64 p.len, .int .i64 p.brk] 143))
  have K0 := hide (show (w.alloc (.cells #[.int .i64 p.off, .int .i64 p.len, .int .i64 p.brk] 143)).heap[w.heap.size]? = some (.cells #[.int .i64 p.off, .int .i64 p.len, .int .i64 p.brk] 143 (0, 0)) from heap_alloc_new _ _)
  have hs0 : w.heap.size < (w.alloc (.cells #[.int .i64 p.off, .int .i64 p.len, .int .i64 p.brk] 143)).heap.size := by simp
  have RA0 := hide (RdI.below oa.rd A0.out (Nat.le_refl _))
  have RB0 := hide (RdI.below ob.rd A0.out (Nat.le_refl _))
  have OA0 := hide (owns_below oa A0.out (Nat.le_refl _))
  have OB0 := hide (owns_below ob A0.out (Nat.le_refl _))
  have hla := AT.told_length TA 0
  have hlb := AT.told_length TB 0
  have HLA := hide hla
  have HLB := hide hlb
  have LVA := hide (lv_told TA (by omega))
  have LVB := hide (lv_told TB (by omega))
  have HFX := hide (AT.spl_fx TA p TB hA hB)
  have IRN := hide (AT.splR_its TA p TB)
  have HTA := hide (AT.ht_its TA)
  have HTB := hide (AT.ht_its TB)
  have FIN := hide (show (AT.splR TA p TB).told 0 = lift 1 (TA.told 0) ++ ⟨p, 0⟩ :: lift 1 (TB.told 0) from (by rw [lift_told, lift_told, AT.splR_mid h1 h2]; simp [AT.told]))
  obtain ⟨ao, cx, hvx⟩ : ∃ ao cx, va = .slice ao TA.its cx := by
    obtain ⟨ao, cx, h⟩ := (OwI.rd oa).val
    exact ⟨ao, cx, by rw [h, hla]⟩
  subst hvx
  obtain ⟨bo, cy, hvy⟩ : ∃ bo cy, vb = .slice bo TB.its cy := by
    obtain ⟨bo, cy, h⟩ := (OwI.rd ob).val
    exact ⟨bo, cy, by rw [h, hlb]⟩
  subst hvy
  have HA := hide (fun W (hr : RdI w.heap.size W (.slice ao TA.its cx) (TA.told 0)) => heightSub w.heap.size _ (TA.told 0) W hr (by omega) LVA.out (A := []) (B := []) (S := TA) (e := 0) (by simp) 0 (TA.its : Int) rfl (by simp))
  have HB := hide (fun W (hr : RdI w.heap.size W (.slice bo TB.its cy) (TB.told 0)) => heightSub w.heap.size _ (TB.told 0) W hr (by omega) LVB.out (A := []) (B := []) (S := TB) (e := 0) (by simp) 0 (TB.its : Int) rfl (by simp))
  have O1' := hide (fun W : World => show (W.alloc (.cells #[] 145)).ownsRow W.heap.size 145 4 (.slice (some ⟨W.heap.size, 0, none⟩) 0 0) 0 [] from ⟨rfl, .inr ⟨_, 0, #[], rfl, Nat.le_refl _, heap_alloc_new _ _, Nat.le_refl _, by unfold maxLen; omega, rfl, rfl⟩⟩)
  have SA := hide (fun W (hW : Below (w.alloc (.cells #[.int .i64 p.off, .int .i64 p.len, .int .i64 p.brk] 143)).heap.size (w.alloc (.cells #[.int .i64 p.off, .int .i64 p.len, .int .i64 p.brk] 143)) W) => liftS 1 (TA.told 0) _ W (SrcI.of (owns_below OA0.out hW (Nat.le_refl _))) (by omega) (by omega) LVA.out)
  have SB := hide (fun W (hW : Below (w.alloc (.cells #[.int .i64 p.off, .int .i64 p.len, .int .i64 p.brk] 143)).heap.size (w.alloc (.cells #[.int .i64 p.off, .int .i64 p.len, .int .i64 p.brk] 143)) W) => liftS 1 (TB.told 0) _ W (SrcI.of (owns_below OB0.out hW (Nat.le_refl _))) (by omega) (by omega) LVB.out)
  have LIA := hide ((lift_length 1 (TA.told 0)).trans hla)
  have LIB := hide ((lift_length 1 (TB.told 0)).trans hlb)
  rw [hla] at SA
  rw [hlb] at SB
  have q1 : ¬ (TB.ht : Int) + 1 < (TA.ht : Int) := by omega
  have q2 : ¬ (TA.ht : Int) + 1 < (TB.ht : Int) := by omega
  have b1 := HTA.out
  have b2 := HTB.out
  generalize AT.splR TA p TB = R at *
  generalize AT.spl TA p TB = U at *
  generalize TA.told 0 = X at *
  generalize TB.told 0 = Y at *
  generalize TA.ht = ta at *
  generalize TB.ht = tb at *
  generalize TA.its = na at *
  generalize TB.its = nb at *
  generalize lift 1 X = X1 at *
  generalize lift 1 Y = Y1 at *
  clear oa ob hA hB h1 h2 hla hlb
  unfold pcV
  unfold maxLen at *
  go_enter Tryz.func186, Tryz.ntmps186
  go_wp2_with fail
  generalize w.alloc (.cells #[.int .i64 p.off, .int .i64 p.len, .int .i64 p.brk] 143) = w0 at *
  refine (HA.out w0 RA0.out).mono ?_
  rintro e wx ⟨rfl, hwx⟩
  subst wx
  go_wp2_with fail
  refine (HB.out w0 RB0.out).mono ?_
  rintro e wx ⟨rfl, hwx⟩
  subst wx
  have C1 := hide ((Below.refl w0.heap.size w0).alloc (Nat.le_refl _) (.cells #[] 145))
  have O1 := hide (O1'.out w0)
  have s1 := C1.out.size
  have LF := hide (SA.out _ C1.out)
  go_wp2_with fail
  generalize w0.alloc (.cells #[] 145) = w1 at *
  refine LF.out.mono ?_
  rintro e w2 ⟨gl2, cl2, rfl, hol2, hbl2⟩
  have s2 := hbl2.size
  have C2 := hide (C1.out.trans (hbl2.mono (by omega)))
  have O2 := hide (owns_below O1.out hbl2 (Nat.le_refl _))
  have OL2 := hide (show ∀ j u, (itVs X1)[j]? = some u → w2.cell? ((⟨gl2, 0, none⟩ : Addr).add j) = some u from srcI_take hol2 LIA.out (R := []) (by simp))
  clear hol2 hbl2 LF
  go_wp2_with (at_builtin; refine wpList_append_own _ rfl _ _ 65 rfl w0.heap.size 145 i0 (.agg #[.int .i64 0, .int .i64 0, .int .i64 0, .int .i64 0]) 4 32 Tryz.underlying65 hi hz0 hz1 hz2 rfl (by decide) _ (0) _ rfl (by exact O2.out) ⟨gl2, 0, none⟩ (na) (cl2) (itVs (X1)) rfl (by rw [itVs_length]; have := LIA.out; omega) (by exact OL2.out) (itVs_one _) (by unfold maxLen; omega) (by omega) (by omega) ?_; intro v3 w3 ho3 hg3 hnl3; refine Hid.out ?_)
  refine Lib.hid ?_
  have s3 := hg3.size
  have C3 := hide (C2.out.trans ((Below.refl w0.heap.size w2).grown hg3 (by omega) (fun z hz => (O2.out.lt z hz).1)))
  rw [show 0 + (na) = na by omega] at ho3
  obtain ⟨g3, cp3, rfl⟩ : ∃ g c, v3 = .slice (some ⟨g, 0, none⟩) (na) c := by
    rcases ho3.2 with ⟨h1, h0⟩ | ⟨g, c, cur, h1, _⟩
    · exact absurd (hnl3.1 h1).1 (fun h => by cases h)
    · exact ⟨_, _, h1⟩
  have O3 := hide ho3
  clear ho3 hg3 hnl3
  have K3 := (C3.out.block w.heap.size hs0).trans K0.out
  have d0 : w3.cell? ⟨w.heap.size, 0, none⟩ = some (.int .i64 p.off) := by rw [cell_of_row w3 _ 0 _ _ _ K3]; rfl
  have d1 : w3.cell? ⟨w.heap.size, 1, none⟩ = some (.int .i64 p.len) := by rw [cell_of_row w3 _ 1 _ _ _ K3]; rfl
  have d2 : w3.cell? ⟨w.heap.size, 2, none⟩ = some (.int .i64 p.brk) := by rw [cell_of_row w3 _ 2 _ _ _ K3]; rfl
  have NC := hide (newcells w3 145 [.int .i64 p.off, .int .i64 p.len, .int .i64 p.brk, .int .i64 0])
  clear K3
  go_wp2_with (at_builtin; refine wpList_append_own _ rfl _ _ 65 rfl w0.heap.size 145 i0 (.agg #[.int .i64 0, .int .i64 0, .int .i64 0, .int .i64 0]) 4 32 Tryz.underlying65 hi hz0 hz1 hz2 rfl (by decide) _ (na) _ rfl (by exact World.ownsRow.alloc O3.out _) ⟨w3.heap.size, 0, none⟩ 1 1 [.int .i64 p.off, .int .i64 p.len, .int .i64 p.brk, .int .i64 0] rfl rfl (by exact NC.out) (by intro u hu; simp at hu; rcases hu with rfl | rfl | rfl | rfl <;> rfl) (by unfold maxLen; omega) (by omega) (by simp; omega) ?_; intro v4 w4 ho4 hg4 _; refine Hid.out ?_)
  refine Lib.hid ?_
  have C4 := hide (C3.out.trans (((Below.refl w0.heap.size w3).alloc (by omega) (.cells #[.int .i64 p.off, .int .i64 p.len, .int .i64 p.brk, .int .i64 0] 145)).grown hg4 (by simp; omega) (fun z hz => (O3.out.lt z hz).1)))
  have s4 : w0.heap.size ≤ w4.heap.size := C4.out.size
  obtain ⟨g4, cp4, rfl⟩ : ∃ g c, v4 = .slice (some ⟨g, 0, none⟩) (na + 1) c := by
    rcases ho4.2 with ⟨_, h0⟩ | ⟨g, c, cur, h1, _⟩
    · omega
    · exact ⟨_, _, h1⟩
  have O4 := hide ho4
  clear ho4 hg4 NC d0 d1 d2
  have LF := hide (SB.out w4 C4.out)
  go_wp2_with fail
  refine LF.out.mono ?_
  rintro e w5 ⟨gl5, cl5, rfl, hol5, hbl5⟩
  have s5 := hbl5.size
  have C5 := hide (C4.out.trans (hbl5.mono (by omega)))
  have O5 := hide (owns_below O4.out hbl5 (Nat.le_refl _))
  have OL5 := hide (show ∀ j u, (itVs Y1)[j]? = some u → w5.cell? ((⟨gl5, 0, none⟩ : Addr).add j) = some u from srcI_take hol5 LIB.out (R := []) (by simp))
  clear hol5 hbl5 LF
  go_wp2_with (at_builtin; refine wpList_append_own _ rfl _ _ 65 rfl w0.heap.size 145 i0 (.agg #[.int .i64 0, .int .i64 0, .int .i64 0, .int .i64 0]) 4 32 Tryz.underlying65 hi hz0 hz1 hz2 rfl (by decide) _ (na + 1) _ rfl (by exact O5.out) ⟨gl5, 0, none⟩ (nb) (cl5) (itVs (Y1)) rfl (by rw [itVs_length]; have := LIB.out; omega) (by exact OL5.out) (itVs_one _) (by unfold maxLen; omega) (by omega) (by omega) ?_; intro v6 w6 ho6 hg6 hnl6; refine Hid.out ?_)
  refine Lib.hid ?_
  have s6 := hg6.size
  have C6 := hide (C5.out.trans ((Below.refl w0.heap.size w5).grown hg6 (by omega) (fun z hz => (O5.out.lt z hz).1)))
  rw [show na + 1 + (nb) = na + 1 + nb by omega] at ho6
  obtain ⟨g6, cp6, rfl⟩ : ∃ g c, v6 = .slice (some ⟨g, 0, none⟩) (na + 1 + nb) c := by
    rcases ho6.2 with ⟨h1, h0⟩ | ⟨g, c, cur, h1, _⟩
    · exact absurd (hnl6.1 h1).1 (fun h => by cases h)
    · exact ⟨_, _, h1⟩
  have O6 := hide ho6
  clear ho6 hg6 hnl6
  have ho9 : OwI w6 w0.heap.size (.slice (some ⟨g6, 0, none⟩) (na + 1 + nb) cp6) (R.told 0) := by
    have h9 := O6.out
    unfold OwI
    rw [AT.told_length, IRN.out]
    have e9 : itVs (R.told 0) = ([] : List Value) ++ itVs (X1) ++ [.int .i64 p.off, .int .i64 p.len, .int .i64 p.brk, .int .i64 0] ++ itVs (Y1) := by rw [FIN.out]; simp [itVs, itV]
    rw [e9]; exact h9
  obtain ⟨hc9, hm9⟩ : na + 1 + nb ≤ cp6 ∧ cp6 ≤ maxLen := by
    rcases ho9.2 with ⟨h1, _⟩ | ⟨g3, c3, cur, h1, _, _, h2, h3, _⟩
    · cases h1
    · rw [AT.told_length, IRN.out] at h1 h2; cases h1; exact ⟨h2, h3⟩
  obtain ⟨mm, hmm, hfx⟩ := HFX.out
  have RP := hide (repairS w0.heap.size g6 cp6 (na + 1 + nb) U ⟨hc9, hm9⟩ (by omega) mm R w6 IRN.out hfx (by omega) ho9)
  have L9 := hide (fun z hz => (ho9.lt z hz).1)
  clear ho9 hfx
  go_wp2_with fail
  refine RP.out.mono ?_
  rintro e w7 ⟨rfl, ho8, hg8⟩
  have C7 := hide (C6.out.trans ((Below.refl w0.heap.size w6).grown hg8 (by omega) (fun z hz => L9.out z (by simpa [Value.ownBlock] using hz))))
  have B9 := hide (A0.out.trans (C7.out.mono (by omega)))
  have O9 := hide (owns_base ho8 (show w.heap.size ≤ w0.heap.size by omega))
  clear ho8 hg8
  go_wp2
  go_ret
  exact ⟨_, rfl, O9.out, B9.out⟩

set_option maxHeartbeats 4000000 in
set_option maxRecDepth 100000 in
theorem join1 (TA TB : AT) (p : Pc) (ba bb : Nat) (va vb : Value) (w : World) (hA : TA.bal) (hB : TB.bal) (hn : TA.its + TB.its ≤ 8192) (oa : OwI w ba va (TA.told 0)) (ob : OwI w bb vb (TB.told 0)) (h1 : TB.ht + 1 < TA.ht) :
    Calls Tryz.prog 186 #[va, pcV p, vb] w fun e w' => ∃ v', e = .returned v' ∧ OwI w' w.heap.size v' ((AT.spl TA p TB).told 0) ∧ Below w.heap.size w w' := by
  obtain ⟨i0, hi, hz0, hz1, hz2⟩ := info_parts Tryz.infoIT
  have A0 := hide ((Below.refl w.heap.size w).alloc (Nat.le_refl _) (.cells #[.int .i64 p.off, .int .i64 p.len, .int .i64 p.brk] 143))
  have K0 := hide (show (w.alloc (.cells #[.int .i64 p.off, .int .i64 p.len, .int .i64 p.brk] 143)).heap[w.heap.size]? = some (.cells #[.int .i64 p.off, .int .i64 p.len, .int .i64 p.brk] 143 (0, 0)) from heap_alloc_new _ _)
  have hs0 : w.heap.size < (w.alloc (.cells #[.int .i64 p.off, .int .i64 p.len, .int .i64 p.brk] 143)).heap.size := by simp
  have RA0 := hide (RdI.below oa.rd A0.out (Nat.le_refl _))
  have RB0 := hide (RdI.below ob.rd A0.out (Nat.le_refl _))
  have OA0 := hide (owns_below oa A0.out (Nat.le_refl _))
  have OB0 := hide (owns_below ob A0.out (Nat.le_refl _))
  have hla := AT.told_length TA 0
  have hlb := AT.told_length TB 0
  have HLA := hide hla
  have HLB := hide hlb
  have LVA := hide (lv_told TA (by omega))
  have LVB := hide (lv_told TB (by omega))
  have HFX := hide (AT.spl_fx TA p TB hA hB)
  have IRN := hide (AT.splR_its TA p TB)
  have HTA := hide (AT.ht_its TA)
  have HTB := hide (AT.ht_its TB)
  obtain ⟨b, ca, rfl, hcap, hcm⟩ : ∃ b ca, va = .slice (some ⟨b, 0, none⟩) TA.its ca ∧ TA.its ≤ ca ∧ ca ≤ maxLen := by
    rcases oa.2 with ⟨h1, h2⟩ | ⟨g, cp, cur, h1, _, _, h2, h3, _⟩
    · exact absurd h2 (by rw [hla]; have := AT.ht_its TA; omega)
    · rw [hla] at h1 h2; exact ⟨g, cp, h1, h2, h3⟩
  obtain ⟨bo, cy, hvy⟩ : ∃ bo cy, vb = .slice bo TB.its cy := by
    obtain ⟨bo, cy, h⟩ := (OwI.rd ob).val
    exact ⟨bo, cy, by rw [h, hlb]⟩
  subst hvy
  have HA := hide (fun W (hr : RdI w.heap.size W (.slice (some ⟨b, 0, none⟩) TA.its ca) (TA.told 0)) => heightSub w.heap.size _ (TA.told 0) W hr (by omega) LVA.out (A := []) (B := []) (S := TA) (e := 0) (by simp) 0 (TA.its : Int) rfl (by simp))
  have HB := hide (fun W (hr : RdI w.heap.size W (.slice bo TB.its cy) (TB.told 0)) => heightSub w.heap.size _ (TB.told 0) W hr (by omega) LVB.out (A := []) (B := []) (S := TB) (e := 0) (by simp) 0 (TB.its : Int) rfl (by simp))
  have O1' := hide (fun W : World => show (W.alloc (.cells #[] 145)).ownsRow W.heap.size 145 4 (.slice (some ⟨W.heap.size, 0, none⟩) 0 0) 0 [] from ⟨rfl, .inr ⟨_, 0, #[], rfl, Nat.le_refl _, heap_alloc_new _ _, Nat.le_refl _, by unfold maxLen; omega, rfl, rfl⟩⟩)
  have E0 := hide (EdR.start (p := p) hA (by omega : TB.ht ≤ TA.ht))
  have hbw := (OA0.out.lt b rfl).2
  have q1 : (TB.ht : Int) + 1 < (TA.ht : Int) := by omega
  have b1 := HTA.out
  have b2 := HTB.out
  obtain ⟨R, hR⟩ : ∃ R, R = AT.splR TA p TB := ⟨_, rfl⟩
  have HR := hide hR
  rw [← hR] at IRN HFX
  generalize AT.spl TA p TB = U at *
  clear oa ob hA hB h1 hR
  unfold pcV
  unfold maxLen at *
  go_enter Tryz.func186, Tryz.ntmps186
  go_wp2_with fail
  generalize w.alloc (.cells #[.int .i64 p.off, .int .i64 p.len, .int .i64 p.brk] 143) = w0 at *
  refine (HA.out w0 RA0.out).mono ?_
  rintro e wx ⟨rfl, hwx⟩
  subst wx
  go_wp2_with fail
  refine (HB.out w0 RB0.out).mono ?_
  rintro e wx ⟨rfl, hwx⟩
  subst wx
  have C1 := hide ((Below.refl w0.heap.size w0).alloc (Nat.le_refl _) (.cells #[] 145))
  have O1 := hide (O1'.out w0)
  have s1 := C1.out.size
  have RA1 := hide (RdI.below RA0.out C1.out (by omega))
  go_wp2_with fail
  generalize w0.alloc (.cells #[] 145) = w1 at *
  go_loopw [10, 11] (fun lo lev wr => ∃ (Pre : List It) (S : AT) (lv : Int) (nq : Nat), EdR TA TB p Pre S lv ∧ lo = .int .i64 (Pre.length : Int) ∧ lev = .int .i64 lv ∧ wr = w1.drewN nq) (fun lo _ _ => TA.its - (intOf lo).toNat)
  case atStart => exact ⟨[], TA, 0, 0, E0.out, rfl, rfl, rfl⟩
  case round =>
    obtain ⟨Pre, S, lv, nq, hed, rfl, rfl, rfl⟩ := hrel
    have hXX : TA.told 0 = Pre ++ S.told lv ++ [] := by rw [hed.list]; simp
    have hpl : Pre.length + S.its = TA.its := by have h9 := congrArg List.length hed.list; simp only [List.length_append, AT.told_length] at h9; omega
    have hlvb : 0 ≤ lv ∧ lv ≤ TA.ht := ⟨hed.lvl, by have := hed.top; omega⟩
    have HS := hide (heightSub w.heap.size (.slice (some ⟨b, 0, none⟩) TA.its ca) (TA.told 0) (w1.drewN nq) (RdI.heap RA1.out rfl) (by omega) LVA.out hXX (Pre.length : Int) (TA.its : Int) rfl (by omega))
    by_cases hgt : TB.ht + 1 < S.ht
    · obtain ⟨l, q, r, hS, hed2⟩ := hed.step hgt
      have CH := hide (childSub w.heap.size (.slice (some ⟨b, 0, none⟩) TA.its ca) (TA.told 0) (w1.drewN nq) (RdI.heap RA1.out rfl) (by omega) (A := Pre) (B := []) (l := l) (q := q) (r := r) (e := lv) (by rw [← hS]; exact hXX) hed.fit (Pre.length : Int) (TA.its : Int) rfl (by rw [← hS]; omega))
      have hsi : S.its = l.its + 1 + r.its := by rw [hS]; rfl
      have E2 := hide hed2
      have HL2 := hide (show (Pre ++ l.told (lv + 1) ++ [(⟨q, lv⟩ : It)]).length = Pre.length + l.its + 1 from (by simp only [List.length_append, AT.told_length, List.length_cons, List.length_nil]))
      have g2 : (TB.ht : Int) + 1 < (S.ht : Int) := by omega
      clear hed hed2 hXX hS hgt
      go_wp2_with fail
      refine HS.out.mono ?_
      rintro e wx ⟨rfl, hwx⟩
      subst wx
      go_wp2_with fail
      refine CH.out.mono ?_
      rintro e wx ⟨rfl, nq2, hwx⟩
      subst wx
      go_wp2
      go_roundw
      case rel => exact ⟨_, r, lv + 1, nq + nq2, E2.out, by rw [HL2.out]; go_num, by go_num, by first | exact World.drewN_drewN _ _ _ | rfl⟩
      case measure => simp [intOf]; omega
    · have FIN := hide (show R.told 0 = Pre ++ lift 1 (S.told lv) ++ ⟨p, lv⟩ :: lift (lv + 1) (TB.told 0) from (by rw [HR.out, lift_told, lift_told, Int.zero_add]; exact hed.done hgt))
      have HXL := hide hed.list
      have HSI := hide (show TA.its - Pre.length = S.its by omega)
      have LVS := hide (lv_part hXX LVA.out)
      have RDA := hide (fun W (hW : Below w0.heap.size w0 W) => srcI_take (owns_below OA0.out hW (Nat.le_refl _)) HLA.out HXL.out)
      have SDA := hide (fun W (v : Value) (hW : Below w0.heap.size w0 W) (hs : SrcI W v (S.told lv)) => liftS 1 (S.told lv) v W hs (by rw [AT.told_length]; omega) (by omega) LVS.out)
      have SRC := hide (fun W (hW : Below w0.heap.size w0 W) => (show SrcI W (.slice (some ⟨b, Pre.length * 4, none⟩) (TA.its - Pre.length) (ca - Pre.length)) (S.told lv) from .inr ⟨b, Pre.length * 4, ca - Pre.length, by rw [AT.told_length, HSI.out], Nat.lt_of_lt_of_le hbw hW.size, srcI_drop (owns_below OA0.out hW (Nat.le_refl _)) HLA.out HXL.out⟩))
      have SRN := hide (fun (W : World) (hW : Below w0.heap.size w0 W) (h0 : S.its = 0) => (show SrcI W (.slice (some ⟨b, 0, none⟩) 0 0) (S.told lv) from (by
        have h9 : S.told lv = [] := List.eq_nil_of_length_eq_zero (by rw [AT.told_length]; exact h0)
        rw [h9]
        exact .inr ⟨b, 0, 0, rfl, Nat.lt_of_lt_of_le hbw hW.size, by intro j u hj; simp [itVs] at hj⟩)))
      have SB := hide (fun W (hW : Below w0.heap.size w0 W) => liftS (lv + 1) (TB.told 0) _ W (SrcI.of (owns_below OB0.out hW (Nat.le_refl _))) (by omega) (by omega) LVB.out)
      have LIA := hide ((lift_length 1 (S.told lv)).trans (AT.told_length S lv))
      have LIB := hide ((lift_length (lv + 1) (TB.told 0)).trans HLB.out)
      rw [AT.told_length] at SB
      have LS := hide (AT.told_length S lv)
      generalize lift 1 (S.told lv) = X1 at *
      generalize lift (lv + 1) (TB.told 0) = Y1 at *
      have g2 : ¬ (TB.ht : Int) + 1 < (S.ht : Int) := by omega
      have k1 : (Pre.length : Int) ≤ (ca : Int) := by omega
      have C2 := hide (C1.out.trans (show Below w0.heap.size w1 (w1.drewN nq) from ⟨rfl, rfl, rfl, Nat.le_refl _, fun _ _ => rfl⟩))
      have O2 := hide (owns_of_block (w' := w1.drewN nq) O1.out (fun _ _ => rfl))
      have s2 : w1.heap.size ≤ (w1.drewN nq).heap.size := Nat.le_refl _
      clear hed hgt hXX
      go_wp2_with fail
      refine HS.out.mono ?_
      rintro e wx ⟨rfl, hwx⟩
      subst wx
      clear HS
      generalize w1.drewN nq = w2 at *
      have OL2 := hide (RDA.out w2 C2.out)
      have lt9 : Pre.length ≤ TA.its := by omega
      go_wp2_with (at_builtin; refine wpList_append_own _ rfl _ _ 65 rfl w0.heap.size 145 i0 (.agg #[.int .i64 0, .int .i64 0, .int .i64 0, .int .i64 0]) 4 32 Tryz.underlying65 hi hz0 hz1 hz2 rfl (by decide) _ (0) _ rfl (by exact O2.out) ⟨b, 0, none⟩ (Pre.length) (ca) (itVs (Pre)) rfl (by rw [itVs_length]; skip) (by exact OL2.out) (itVs_one _) (by unfold maxLen; omega) (by omega) (by omega) ?_; intro v3 w3 ho3 hg3 hnl3; refine Hid.out ?_)
      refine Lib.hid ?_
      have s3 := hg3.size
      have C3 := hide (C2.out.trans ((Below.refl w0.heap.size w2).grown hg3 (by omega) (fun z hz => (O2.out.lt z hz).1)))
      rw [show 0 + (Pre.length) = Pre.length by omega] at ho3
      obtain ⟨g3, cp3, rfl⟩ : ∃ g c, v3 = .slice (some ⟨g, 0, none⟩) (Pre.length) c := by
        rcases ho3.2 with ⟨h1, h0⟩ | ⟨g, c, cur, h1, _⟩
        · exact absurd (hnl3.1 h1).1 (fun h => by cases h)
        · exact ⟨_, _, h1⟩
      have O3 := hide ho3
      clear ho3 hg3 hnl3
      by_cases hck : ca = Pre.length
      · have h00 : S.its = 0 := by omega
        have hta : TA.its = Pre.length := by omega
        have LF := hide (SDA.out w3 _ C3.out (SRN.out w3 C3.out h00))
        rw [LS.out, h00] at LF
        go_wp2_with fail
        refine LF.out.mono ?_
        rintro e w4 ⟨gl4, cl4, rfl, hol4, hbl4⟩
        have s4 := hbl4.size
        have C4 := hide (C3.out.trans (hbl4.mono (by omega)))
        have O4 := hide (owns_below O3.out hbl4 (Nat.le_refl _))
        have OL4 := hide (show ∀ j u, (itVs X1)[j]? = some u → w4.cell? ((⟨gl4, 0, none⟩ : Addr).add j) = some u from srcI_take hol4 (by rw [LIA.out]; omega) (R := []) (by simp))
        clear hol4 hbl4 LF
        clear hta
        go_wp2_with (at_builtin; refine wpList_append_own _ rfl _ _ 65 rfl w0.heap.size 145 i0 (.agg #[.int .i64 0, .int .i64 0, .int .i64 0, .int .i64 0]) 4 32 Tryz.underlying65 hi hz0 hz1 hz2 rfl (by decide) _ (Pre.length) _ rfl (by exact O4.out) ⟨gl4, 0, none⟩ (0) (cl4) (itVs (X1)) rfl (by rw [itVs_length]; have := LIA.out; omega) (by exact OL4.out) (itVs_one _) (by unfold maxLen; omega) (by omega) (by omega) ?_; intro v5 w5 ho5 hg5 hnl5; refine Hid.out ?_)
        refine Lib.hid ?_
        have s5 := hg5.size
        have C5 := hide (C4.out.trans ((Below.refl w0.heap.size w4).grown hg5 (by omega) (fun z hz => (O4.out.lt z hz).1)))
        rw [show Pre.length + (0) = Pre.length by omega] at ho5
        obtain ⟨g5, cp5, rfl⟩ : ∃ g c, v5 = .slice (some ⟨g, 0, none⟩) (Pre.length) c := by
          rcases ho5.2 with ⟨h1, h0⟩ | ⟨g, c, cur, h1, _⟩
          · exact absurd (hnl5.1 h1).1 (fun h => by cases h)
          · exact ⟨_, _, h1⟩
        have O5 := hide ho5
        clear ho5 hg5 hnl5
        have K5 := (C5.out.block w.heap.size hs0).trans K0.out
        have d0 : w5.cell? ⟨w.heap.size, 0, none⟩ = some (.int .i64 p.off) := by rw [cell_of_row w5 _ 0 _ _ _ K5]; rfl
        have d1 : w5.cell? ⟨w.heap.size, 1, none⟩ = some (.int .i64 p.len) := by rw [cell_of_row w5 _ 1 _ _ _ K5]; rfl
        have d2 : w5.cell? ⟨w.heap.size, 2, none⟩ = some (.int .i64 p.brk) := by rw [cell_of_row w5 _ 2 _ _ _ K5]; rfl
        have NC := hide (newcells w5 145 [.int .i64 p.off, .int .i64 p.len, .int .i64 p.brk, .int .i64 lv])
        clear K5
        go_wp2_with (at_builtin; refine wpList_append_own _ rfl _ _ 65 rfl w0.heap.size 145 i0 (.agg #[.int .i64 0, .int .i64 0, .int .i64 0, .int .i64 0]) 4 32 Tryz.underlying65 hi hz0 hz1 hz2 rfl (by decide) _ (Pre.length) _ rfl (by exact World.ownsRow.alloc O5.out _) ⟨w5.heap.size, 0, none⟩ 1 1 [.int .i64 p.off, .int .i64 p.len, .int .i64 p.brk, .int .i64 lv] rfl rfl (by exact NC.out) (by intro u hu; simp at hu; rcases hu with rfl | rfl | rfl | rfl <;> rfl) (by unfold maxLen; omega) (by omega) (by simp; omega) ?_; intro v6 w6 ho6 hg6 _; refine Hid.out ?_)
        refine Lib.hid ?_
        have C6 := hide (C5.out.trans (((Below.refl w0.heap.size w5).alloc (by omega) (.cells #[.int .i64 p.off, .int .i64 p.len, .int .i64 p.brk, .int .i64 lv] 145)).grown hg6 (by simp; omega) (fun z hz => (O5.out.lt z hz).1)))
        have s6 : w0.heap.size ≤ w6.heap.size := C6.out.size
        obtain ⟨g6, cp6, rfl⟩ : ∃ g c, v6 = .slice (some ⟨g, 0, none⟩) (Pre.length + 1) c := by
          rcases ho6.2 with ⟨_, h0⟩ | ⟨g, c, cur, h1, _⟩
          · omega
          · exact ⟨_, _, h1⟩
        have O6 := hide ho6
        clear ho6 hg6 NC d0 d1 d2
        have LF := hide (SB.out w6 C6.out)
        go_wp2_with fail
        refine LF.out.mono ?_
        rintro e w7 ⟨gl7, cl7, rfl, hol7, hbl7⟩
        have s7 := hbl7.size
        have C7 := hide (C6.out.trans (hbl7.mono (by omega)))
        have O7 := hide (owns_below O6.out hbl7 (Nat.le_refl _))
        have OL7 := hide (show ∀ j u, (itVs Y1)[j]? = some u → w7.cell? ((⟨gl7, 0, none⟩ : Addr).add j) = some u from srcI_take hol7 LIB.out (R := []) (by simp))
        clear hol7 hbl7 LF
        go_wp2_with (at_builtin; refine wpList_append_own _ rfl _ _ 65 rfl w0.heap.size 145 i0 (.agg #[.int .i64 0, .int .i64 0, .int .i64 0, .int .i64 0]) 4 32 Tryz.underlying65 hi hz0 hz1 hz2 rfl (by decide) _ (Pre.length + 1) _ rfl (by exact O7.out) ⟨gl7, 0, none⟩ (TB.its) (cl7) (itVs (Y1)) rfl (by rw [itVs_length]; have := LIB.out; omega) (by exact OL7.out) (itVs_one _) (by unfold maxLen; omega) (by omega) (by omega) ?_; intro v8 w8 ho8 hg8 hnl8; refine Hid.out ?_)
        refine Lib.hid ?_
        have s8 := hg8.size
        have C8 := hide (C7.out.trans ((Below.refl w0.heap.size w7).grown hg8 (by omega) (fun z hz => (O7.out.lt z hz).1)))
        rw [show Pre.length + 1 + (TB.its) = TA.its + 1 + TB.its by omega] at ho8
        obtain ⟨g8, cp8, rfl⟩ : ∃ g c, v8 = .slice (some ⟨g, 0, none⟩) (TA.its + 1 + TB.its) c := by
          rcases ho8.2 with ⟨h1, h0⟩ | ⟨g, c, cur, h1, _⟩
          · exact absurd (hnl8.1 h1).1 (fun h => by cases h)
          · exact ⟨_, _, h1⟩
        have O8 := hide ho8
        clear ho8 hg8 hnl8
        have ho9 : OwI w8 w0.heap.size (.slice (some ⟨g8, 0, none⟩) (TA.its + 1 + TB.its) cp8) (R.told 0) := by
          have h9 := O8.out
          unfold OwI
          rw [AT.told_length, IRN.out]
          have e9 : itVs (R.told 0) = ([] : List Value) ++ itVs (Pre) ++ itVs (X1) ++ [.int .i64 p.off, .int .i64 p.len, .int .i64 p.brk, .int .i64 lv] ++ itVs (Y1) := by rw [FIN.out]; simp [itVs, itV]
          rw [e9]; exact h9
        obtain ⟨hc9, hm9⟩ : TA.its + 1 + TB.its ≤ cp8 ∧ cp8 ≤ maxLen := by
          rcases ho9.2 with ⟨h1, _⟩ | ⟨g3, c3, cur, h1, _, _, h2, h3, _⟩
          · cases h1
          · rw [AT.told_length, IRN.out] at h1 h2; cases h1; exact ⟨h2, h3⟩
        obtain ⟨mm, hmm, hfx⟩ := HFX.out
        have RP := hide (repairS w0.heap.size g8 cp8 (TA.its + 1 + TB.its) U ⟨hc9, hm9⟩ (by omega) mm R w8 IRN.out hfx (by omega) ho9)
        have L9 := hide (fun z hz => (ho9.lt z hz).1)
        clear ho9 hfx
        go_wp2_with fail
        refine RP.out.mono ?_
        rintro e w9 ⟨rfl, ho8, hg8⟩
        have C9 := hide (C8.out.trans ((Below.refl w0.heap.size w8).grown hg8 (by omega) (fun z hz => L9.out z (by simpa [Value.ownBlock] using hz))))
        have B9 := hide (A0.out.trans (C9.out.mono (by omega)))
        have O9 := hide (owns_base ho8 (show w.heap.size ≤ w0.heap.size by omega))
        clear ho8 hg8
        go_wp2
        go_ret
        exact ⟨_, rfl, O9.out, B9.out⟩
      · have LF := hide (SDA.out w3 _ C3.out (SRC.out w3 C3.out))
        rw [LS.out, ← HSI.out] at LF
        go_wp2_with fail
        refine LF.out.mono ?_
        rintro e w4 ⟨gl4, cl4, rfl, hol4, hbl4⟩
        have s4 := hbl4.size
        have C4 := hide (C3.out.trans (hbl4.mono (by omega)))
        have O4 := hide (owns_below O3.out hbl4 (Nat.le_refl _))
        have OL4 := hide (show ∀ j u, (itVs X1)[j]? = some u → w4.cell? ((⟨gl4, 0, none⟩ : Addr).add j) = some u from srcI_take hol4 (by rw [LIA.out]; omega) (R := []) (by simp))
        clear hol4 hbl4 LF
        go_wp2_with (at_builtin; refine wpList_append_own _ rfl _ _ 65 rfl w0.heap.size 145 i0 (.agg #[.int .i64 0, .int .i64 0, .int .i64 0, .int .i64 0]) 4 32 Tryz.underlying65 hi hz0 hz1 hz2 rfl (by decide) _ (Pre.length) _ rfl (by exact O4.out) ⟨gl4, 0, none⟩ (TA.its - Pre.length) (cl4) (itVs (X1)) rfl (by rw [itVs_length]; have := LIA.out; omega) (by exact OL4.out) (itVs_one _) (by unfold maxLen; omega) (by omega) (by omega) ?_; intro v5 w5 ho5 hg5 hnl5; refine Hid.out ?_)
        refine Lib.hid ?_
        have s5 := hg5.size
        have C5 := hide (C4.out.trans ((Below.refl w0.heap.size w4).grown hg5 (by omega) (fun z hz => (O4.out.lt z hz).1)))
        rw [show Pre.length + (TA.its - Pre.length) = TA.its by omega] at ho5
        obtain ⟨g5, cp5, rfl⟩ : ∃ g c, v5 = .slice (some ⟨g, 0, none⟩) (TA.its) c := by
          rcases ho5.2 with ⟨h1, h0⟩ | ⟨g, c, cur, h1, _⟩
          · exact absurd (hnl5.1 h1).1 (fun h => by cases h)
          · exact ⟨_, _, h1⟩
        have O5 := hide ho5
        clear ho5 hg5 hnl5
        have K5 := (C5.out.block w.heap.size hs0).trans K0.out
        have d0 : w5.cell? ⟨w.heap.size, 0, none⟩ = some (.int .i64 p.off) := by rw [cell_of_row w5 _ 0 _ _ _ K5]; rfl
        have d1 : w5.cell? ⟨w.heap.size, 1, none⟩ = some (.int .i64 p.len) := by rw [cell_of_row w5 _ 1 _ _ _ K5]; rfl
        have d2 : w5.cell? ⟨w.heap.size, 2, none⟩ = some (.int .i64 p.brk) := by rw [cell_of_row w5 _ 2 _ _ _ K5]; rfl
        have NC := hide (newcells w5 145 [.int .i64 p.off, .int .i64 p.len, .int .i64 p.brk, .int .i64 lv])
        clear K5
        go_wp2_with (at_builtin; refine wpList_append_own _ rfl _ _ 65 rfl w0.heap.size 145 i0 (.agg #[.int .i64 0, .int .i64 0, .int .i64 0, .int .i64 0]) 4 32 Tryz.underlying65 hi hz0 hz1 hz2 rfl (by decide) _ (TA.its) _ rfl (by exact World.ownsRow.alloc O5.out _) ⟨w5.heap.size, 0, none⟩ 1 1 [.int .i64 p.off, .int .i64 p.len, .int .i64 p.brk, .int .i64 lv] rfl rfl (by exact NC.out) (by intro u hu; simp at hu; rcases hu with rfl | rfl | rfl | rfl <;> rfl) (by unfold maxLen; omega) (by omega) (by simp; omega) ?_; intro v6 w6 ho6 hg6 _; refine Hid.out ?_)
        refine Lib.hid ?_
        have C6 := hide (C5.out.trans (((Below.refl w0.heap.size w5).alloc (by omega) (.cells #[.int .i64 p.off, .int .i64 p.len, .int .i64 p.brk, .int .i64 lv] 145)).grown hg6 (by simp; omega) (fun z hz => (O5.out.lt z hz).1)))
        have s6 : w0.heap.size ≤ w6.heap.size := C6.out.size
        obtain ⟨g6, cp6, rfl⟩ : ∃ g c, v6 = .slice (some ⟨g, 0, none⟩) (TA.its + 1) c := by
          rcases ho6.2 with ⟨_, h0⟩ | ⟨g, c, cur, h1, _⟩
          · omega
          · exact ⟨_, _, h1⟩
        have O6 := hide ho6
        clear ho6 hg6 NC d0 d1 d2
        have LF := hide (SB.out w6 C6.out)
        go_wp2_with fail
        refine LF.out.mono ?_
        rintro e w7 ⟨gl7, cl7, rfl, hol7, hbl7⟩
        have s7 := hbl7.size
        have C7 := hide (C6.out.trans (hbl7.mono (by omega)))
        have O7 := hide (owns_below O6.out hbl7 (Nat.le_refl _))
        have OL7 := hide (show ∀ j u, (itVs Y1)[j]? = some u → w7.cell? ((⟨gl7, 0, none⟩ : Addr).add j) = some u from srcI_take hol7 LIB.out (R := []) (by simp))
        clear hol7 hbl7 LF
        go_wp2_with (at_builtin; refine wpList_append_own _ rfl _ _ 65 rfl w0.heap.size 145 i0 (.agg #[.int .i64 0, .int .i64 0, .int .i64 0, .int .i64 0]) 4 32 Tryz.underlying65 hi hz0 hz1 hz2 rfl (by decide) _ (TA.its + 1) _ rfl (by exact O7.out) ⟨gl7, 0, none⟩ (TB.its) (cl7) (itVs (Y1)) rfl (by rw [itVs_length]; have := LIB.out; omega) (by exact OL7.out) (itVs_one _) (by unfold maxLen; omega) (by omega) (by omega) ?_; intro v8 w8 ho8 hg8 hnl8; refine Hid.out ?_)
        refine Lib.hid ?_
        have s8 := hg8.size
        have C8 := hide (C7.out.trans ((Below.refl w0.heap.size w7).grown hg8 (by omega) (fun z hz => (O7.out.lt z hz).1)))
        rw [show TA.its + 1 + (TB.its) = TA.its + 1 + TB.its by omega] at ho8
        obtain ⟨g8, cp8, rfl⟩ : ∃ g c, v8 = .slice (some ⟨g, 0, none⟩) (TA.its + 1 + TB.its) c := by
          rcases ho8.2 with ⟨h1, h0⟩ | ⟨g, c, cur, h1, _⟩
          · exact absurd (hnl8.1 h1).1 (fun h => by cases h)
          · exact ⟨_, _, h1⟩
        have O8 := hide ho8
        clear ho8 hg8 hnl8
        have ho9 : OwI w8 w0.heap.size (.slice (some ⟨g8, 0, none⟩) (TA.its + 1 + TB.its) cp8) (R.told 0) := by
          have h9 := O8.out
          unfold OwI
          rw [AT.told_length, IRN.out]
          have e9 : itVs (R.told 0) = ([] : List Value) ++ itVs (Pre) ++ itVs (X1) ++ [.int .i64 p.off, .int .i64 p.len, .int .i64 p.brk, .int .i64 lv] ++ itVs (Y1) := by rw [FIN.out]; simp [itVs, itV]
          rw [e9]; exact h9
        obtain ⟨hc9, hm9⟩ : TA.its + 1 + TB.its ≤ cp8 ∧ cp8 ≤ maxLen := by
          rcases ho9.2 with ⟨h1, _⟩ | ⟨g3, c3, cur, h1, _, _, h2, h3, _⟩
          · cases h1
          · rw [AT.told_length, IRN.out] at h1 h2; cases h1; exact ⟨h2, h3⟩
        obtain ⟨mm, hmm, hfx⟩ := HFX.out
        have RP := hide (repairS w0.heap.size g8 cp8 (TA.its + 1 + TB.its) U ⟨hc9, hm9⟩ (by omega) mm R w8 IRN.out hfx (by omega) ho9)
        have L9 := hide (fun z hz => (ho9.lt z hz).1)
        clear ho9 hfx
        go_wp2_with fail
        refine RP.out.mono ?_
        rintro e w9 ⟨rfl, ho8, hg8⟩
        have C9 := hide (C8.out.trans ((Below.refl w0.heap.size w8).grown hg8 (by omega) (fun z hz => L9.out z (by simpa [Value.ownBlock] using hz))))
        have B9 := hide (A0.out.trans (C9.out.mono (by omega)))
        have O9 := hide (owns_base ho8 (show w.heap.size ≤ w0.heap.size by omega))
        clear ho8 hg8
        go_wp2
        go_ret
        exact ⟨_, rfl, O9.out, B9.out⟩

set_option maxHeartbeats 4000000 in
set_option maxRecDepth 100000 in
theorem join2 (TA TB : AT) (p : Pc) (ba bb : Nat) (va vb : Value) (w : World) (hA : TA.bal) (hB : TB.bal) (hn : TA.its + TB.its ≤ 8192) (oa : OwI w ba va (TA.told 0)) (ob : OwI w bb vb (TB.told 0)) (h1 : TA.ht + 1 < TB.ht) :
    Calls Tryz.prog 186 #[va, pcV p, vb] w fun e w' => ∃ v', e = .returned v' ∧ OwI w' w.heap.size v' ((AT.spl TA p TB).told 0) ∧ Below w.heap.size w w' := by
  obtain ⟨i0, hi, hz0, hz1, hz2⟩ := info_parts Tryz.infoIT
  have A0 := hide ((Below.refl w.heap.size w).alloc (Nat.le_refl _) (.cells #[.int .i64 p.off, .int .i64 p.len, .int .i64 p.brk] 143))
  have K0 := hide (show (w.alloc (.cells #[.int .i64 p.off, .int .i64 p.len, .int .i64 p.brk] 143)).heap[w.heap.size]? = some (.cells #[.int .i64 p.off, .int .i64 p.len, .int .i64 p.brk] 143 (0, 0)) from heap_alloc_new _ _)
  have hs0 : w.heap.size < (w.alloc (.cells #[.int .i64 p.off, .int .i64 p.len, .int .i64 p.brk] 143)).heap.size := by simp
  have RA0 := hide (RdI.below oa.rd A0.out (Nat.le_refl _))
  have RB0 := hide (RdI.below ob.rd A0.out (Nat.le_refl _))
  have OA0 := hide (owns_below oa A0.out (Nat.le_refl _))
  have OB0 := hide (owns_below ob A0.out (Nat.le_refl _))
  have hla := AT.told_length TA 0
  have hlb := AT.told_length TB 0
  have HLA := hide hla
  have HLB := hide hlb
  have LVA := hide (lv_told TA (by omega))
  have LVB := hide (lv_told TB (by omega))
  have HFX := hide (AT.spl_fx TA p TB hA hB)
  have IRN := hide (AT.splR_its TA p TB)
  have HTA := hide (AT.ht_its TA)
  have HTB := hide (AT.ht_its TB)
  obtain ⟨b, ca, rfl, hcap, hcm⟩ : ∃ b ca, vb = .slice (some ⟨b, 0, none⟩) TB.its ca ∧ TB.its ≤ ca ∧ ca ≤ maxLen := by
    rcases ob.2 with ⟨h1, h2⟩ | ⟨g, cp, cur, h1, _, _, h2, h3, _⟩
    · exact absurd h2 (by rw [hlb]; have := AT.ht_its TB; omega)
    · rw [hlb] at h1 h2; exact ⟨g, cp, h1, h2, h3⟩
  obtain ⟨ao, cx, hvx⟩ : ∃ ao cx, va = .slice ao TA.its cx := by
    obtain ⟨ao, cx, h⟩ := (OwI.rd oa).val
    exact ⟨ao, cx, by rw [h, hla]⟩
  subst hvx
  have HA := hide (fun W (hr : RdI w.heap.size W (.slice ao TA.its cx) (TA.told 0)) => heightSub w.heap.size _ (TA.told 0) W hr (by omega) LVA.out (A := []) (B := []) (S := TA) (e := 0) (by simp) 0 (TA.its : Int) rfl (by simp))
  have HB := hide (fun W (hr : RdI w.heap.size W (.slice (some ⟨b, 0, none⟩) TB.its ca) (TB.told 0)) => heightSub w.heap.size _ (TB.told 0) W hr (by omega) LVB.out (A := []) (B := []) (S := TB) (e := 0) (by simp) 0 (TB.its : Int) rfl (by simp))
  have O1' := hide (fun W : World => show (W.alloc (.cells #[] 145)).ownsRow W.heap.size 145 4 (.slice (some ⟨W.heap.size, 0, none⟩) 0 0) 0 [] from ⟨rfl, .inr ⟨_, 0, #[], rfl, Nat.le_refl _, heap_alloc_new _ _, Nat.le_refl _, by unfold maxLen; omega, rfl, rfl⟩⟩)
  have E0 := hide (EdL.start (p := p) hB (by omega : TA.ht ≤ TB.ht))
  have hbw := (OB0.out.lt b rfl).2
  have q1 : ¬ (TB.ht : Int) + 1 < (TA.ht : Int) := by omega
  have q2 : (TA.ht : Int) + 1 < (TB.ht : Int) := by omega
  have b1 := HTA.out
  have b2 := HTB.out
  obtain ⟨R, hR⟩ : ∃ R, R = AT.splR TA p TB := ⟨_, rfl⟩
  have HR := hide hR
  rw [← hR] at IRN HFX
  generalize AT.spl TA p TB = U at *
  clear oa ob hA hB hR
  unfold pcV
  unfold maxLen at *
  go_enter Tryz.func186, Tryz.ntmps186
  go_wp2_with fail
  generalize w.alloc (.cells #[.int .i64 p.off, .int .i64 p.len, .int .i64 p.brk] 143) = w0 at *
  refine (HA.out w0 RA0.out).mono ?_
  rintro e wx ⟨rfl, hwx⟩
  subst wx
  go_wp2_with fail
  refine (HB.out w0 RB0.out).mono ?_
  rintro e wx ⟨rfl, hwx⟩
  subst wx
  have C1 := hide ((Below.refl w0.heap.size w0).alloc (Nat.le_refl _) (.cells #[] 145))
  have O1 := hide (O1'.out w0)
  have s1 := C1.out.size
  have RB1 := hide (RdI.below RB0.out C1.out (by omega))
  go_wp2_with fail
  generalize w0.alloc (.cells #[] 145) = w1 at *
  go_loopw [12, 13] (fun h lev wr => ∃ (Post : List It) (S : AT) (lv : Int) (nq : Nat), EdL TA TB p Post S lv ∧ h = .int .i64 (S.its : Int) ∧ lev = .int .i64 lv ∧ wr = w1.drewN nq) (fun h _ _ => (intOf h).toNat)
  case atStart => exact ⟨[], TB, 0, 0, E0.out, rfl, rfl, rfl⟩
  case round =>
    obtain ⟨Post, S, lv, nq, hed, rfl, rfl, rfl⟩ := hrel
    have hXX : TB.told 0 = [] ++ S.told lv ++ Post := by rw [hed.list]; simp
    have hpl : S.its + Post.length = TB.its := by have h9 := congrArg List.length hed.list; simp only [List.length_append, AT.told_length] at h9; omega
    have hlvb : 0 ≤ lv ∧ lv ≤ TB.ht := ⟨hed.lvl, by have := hed.top; omega⟩
    have HS := hide (heightSub w.heap.size (.slice (some ⟨b, 0, none⟩) TB.its ca) (TB.told 0) (w1.drewN nq) (RdI.heap RB1.out rfl) (by omega) LVB.out hXX 0 (S.its : Int) rfl (by simp))
    by_cases hgt : TA.ht + 1 < S.ht
    · obtain ⟨l, q, r, hS, hed2⟩ := hed.step hgt
      have CH := hide (childSub w.heap.size (.slice (some ⟨b, 0, none⟩) TB.its ca) (TB.told 0) (w1.drewN nq) (RdI.heap RB1.out rfl) (by omega) (A := []) (B := Post) (l := l) (q := q) (r := r) (e := lv) (by rw [← hS]; exact hXX) hed.fit 0 (S.its : Int) rfl (by rw [← hS]; simp))
      rw [List.length_nil, Nat.zero_add] at CH
      have HSI := hide (show S.its = l.its + 1 + r.its from (by rw [hS]; rfl))
      have E2 := hide hed2
      have g2 : (TA.ht : Int) + 1 < (S.ht : Int) := by omega
      clear hed hed2 hXX hS hgt
      go_wp2_with fail
      refine HS.out.mono ?_
      rintro e wx ⟨rfl, hwx⟩
      subst wx
      go_wp2_with fail
      refine CH.out.mono ?_
      rintro e wx ⟨rfl, nq2, hwx⟩
      subst wx
      go_wp2
      go_roundw
      case rel => exact ⟨_, l, lv + 1, nq + nq2, E2.out, rfl, by go_num, by first | exact World.drewN_drewN _ _ _ | rfl⟩
      case measure => have := HSI.out; simp [intOf]; omega
    · have FIN := hide (show R.told 0 = lift (lv + 1) (TA.told 0) ++ ⟨p, lv⟩ :: (lift 1 (S.told lv) ++ Post) from (by rw [HR.out, lift_told, lift_told, Int.zero_add]; exact hed.done hgt))
      have HXL := hide hed.list
      have hpos : Post.length ≠ 0 := by
        intro h0
        have h9 : Post = [] := List.eq_nil_of_length_eq_zero h0
        have h8 : Go.Proofs.YtbgngikejgihgagGreatDoor.hgt (TB.told 0) = Go.Proofs.YtbgngikejgihgagGreatDoor.hgt (S.told lv) := by rw [hed.list, h9, List.append_nil]
        rw [hgt_told, hgt_told] at h8
        omega
      have LVS := hide (lv_part hXX LVB.out)
      have RDB := hide (fun W (hW : Below w0.heap.size w0 W) => srcI_drop (owns_below OB0.out hW (Nat.le_refl _)) HLB.out HXL.out)
      rw [AT.told_length] at RDB
      have SDB := hide (fun W (hW : Below w0.heap.size w0 W) => liftS 1 (S.told lv) (.slice (some ⟨b, 0, none⟩) S.its ca) W (.inr ⟨b, 0, ca, by rw [AT.told_length], Nat.lt_of_lt_of_le hbw hW.size, srcI_take (owns_below OB0.out hW (Nat.le_refl _)) HLB.out HXL.out⟩) (by rw [AT.told_length]; omega) (by omega) LVS.out)
      have SA := hide (fun W (hW : Below w0.heap.size w0 W) => liftS (lv + 1) (TA.told 0) _ W (SrcI.of (owns_below OA0.out hW (Nat.le_refl _))) (by omega) (by omega) LVA.out)
      have LIA := hide ((lift_length (lv + 1) (TA.told 0)).trans HLA.out)
      have LIB := hide ((lift_length 1 (S.told lv)).trans (AT.told_length S lv))
      rw [AT.told_length] at SA SDB
      generalize lift 1 (S.told lv) = Y1 at *
      generalize lift (lv + 1) (TA.told 0) = X1 at *
      have g2 : ¬ (TA.ht : Int) + 1 < (S.ht : Int) := by omega
      have k1 : (S.its : Int) ≤ (ca : Int) := by omega
      have k2 : S.its < ca := by omega
      have k3 : S.its < TB.its := by omega
      have C2 := hide (C1.out.trans (show Below w0.heap.size w1 (w1.drewN nq) from ⟨rfl, rfl, rfl, Nat.le_refl _, fun _ _ => rfl⟩))
      have O2 := hide (owns_of_block (w' := w1.drewN nq) O1.out (fun _ _ => rfl))
      have s2 : w1.heap.size ≤ (w1.drewN nq).heap.size := Nat.le_refl _
      clear hed hgt hXX h1
      go_wp2_with fail
      refine HS.out.mono ?_
      rintro e wx ⟨rfl, hwx⟩
      subst wx
      clear HS
      generalize w1.drewN nq = w2 at *
      have LF := hide (SA.out w2 C2.out)
      go_wp2_with fail
      refine LF.out.mono ?_
      rintro e w3 ⟨gl3, cl3, rfl, hol3, hbl3⟩
      have s3 := hbl3.size
      have C3 := hide (C2.out.trans (hbl3.mono (by omega)))
      have O3 := hide (owns_below O2.out hbl3 (Nat.le_refl _))
      have OL3 := hide (show ∀ j u, (itVs X1)[j]? = some u → w3.cell? ((⟨gl3, 0, none⟩ : Addr).add j) = some u from srcI_take hol3 LIA.out (R := []) (by simp))
      clear hol3 hbl3 LF
      go_wp2_with (at_builtin; refine wpList_append_own _ rfl _ _ 65 rfl w0.heap.size 145 i0 (.agg #[.int .i64 0, .int .i64 0, .int .i64 0, .int .i64 0]) 4 32 Tryz.underlying65 hi hz0 hz1 hz2 rfl (by decide) _ (0) _ rfl (by exact O3.out) ⟨gl3, 0, none⟩ (TA.its) (cl3) (itVs (X1)) rfl (by rw [itVs_length]; have := LIA.out; omega) (by exact OL3.out) (itVs_one _) (by unfold maxLen; omega) (by omega) (by omega) ?_; intro v4 w4 ho4 hg4 hnl4; refine Hid.out ?_)
      refine Lib.hid ?_
      have s4 := hg4.size
      have C4 := hide (C3.out.trans ((Below.refl w0.heap.size w3).grown hg4 (by omega) (fun z hz => (O3.out.lt z hz).1)))
      rw [show 0 + (TA.its) = TA.its by omega] at ho4
      obtain ⟨g4, cp4, rfl⟩ : ∃ g c, v4 = .slice (some ⟨g, 0, none⟩) (TA.its) c := by
        rcases ho4.2 with ⟨h1, h0⟩ | ⟨g, c, cur, h1, _⟩
        · exact absurd (hnl4.1 h1).1 (fun h => by cases h)
        · exact ⟨_, _, h1⟩
      have O4 := hide ho4
      clear ho4 hg4 hnl4
      have K4 := (C4.out.block w.heap.size hs0).trans K0.out
      have d0 : w4.cell? ⟨w.heap.size, 0, none⟩ = some (.int .i64 p.off) := by rw [cell_of_row w4 _ 0 _ _ _ K4]; rfl
      have d1 : w4.cell? ⟨w.heap.size, 1, none⟩ = some (.int .i64 p.len) := by rw [cell_of_row w4 _ 1 _ _ _ K4]; rfl
      have d2 : w4.cell? ⟨w.heap.size, 2, none⟩ = some (.int .i64 p.brk) := by rw [cell_of_row w4 _ 2 _ _ _ K4]; rfl
      have NC := hide (newcells w4 145 [.int .i64 p.off, .int .i64 p.len, .int .i64 p.brk, .int .i64 lv])
      clear K4
      go_wp2_with (at_builtin; refine wpList_append_own _ rfl _ _ 65 rfl w0.heap.size 145 i0 (.agg #[.int .i64 0, .int .i64 0, .int .i64 0, .int .i64 0]) 4 32 Tryz.underlying65 hi hz0 hz1 hz2 rfl (by decide) _ (TA.its) _ rfl (by exact World.ownsRow.alloc O4.out _) ⟨w4.heap.size, 0, none⟩ 1 1 [.int .i64 p.off, .int .i64 p.len, .int .i64 p.brk, .int .i64 lv] rfl rfl (by exact NC.out) (by intro u hu; simp at hu; rcases hu with rfl | rfl | rfl | rfl <;> rfl) (by unfold maxLen; omega) (by omega) (by simp; omega) ?_; intro v5 w5 ho5 hg5 _; refine Hid.out ?_)
      refine Lib.hid ?_
      have C5 := hide (C4.out.trans (((Below.refl w0.heap.size w4).alloc (by omega) (.cells #[.int .i64 p.off, .int .i64 p.len, .int .i64 p.brk, .int .i64 lv] 145)).grown hg5 (by simp; omega) (fun z hz => (O4.out.lt z hz).1)))
      have s5 : w0.heap.size ≤ w5.heap.size := C5.out.size
      obtain ⟨g5, cp5, rfl⟩ : ∃ g c, v5 = .slice (some ⟨g, 0, none⟩) (TA.its + 1) c := by
        rcases ho5.2 with ⟨_, h0⟩ | ⟨g, c, cur, h1, _⟩
        · omega
        · exact ⟨_, _, h1⟩
      have O5 := hide ho5
      clear ho5 hg5 NC d0 d1 d2
      have LF := hide (SDB.out w5 C5.out)
      go_wp2_with fail
      refine LF.out.mono ?_
      rintro e w6 ⟨gl6, cl6, rfl, hol6, hbl6⟩
      have s6 := hbl6.size
      have C6 := hide (C5.out.trans (hbl6.mono (by omega)))
      have O6 := hide (owns_below O5.out hbl6 (Nat.le_refl _))
      have OL6 := hide (show ∀ j u, (itVs Y1)[j]? = some u → w6.cell? ((⟨gl6, 0, none⟩ : Addr).add j) = some u from srcI_take hol6 LIB.out (R := []) (by simp))
      clear hol6 hbl6 LF
      go_wp2_with (at_builtin; refine wpList_append_own _ rfl _ _ 65 rfl w0.heap.size 145 i0 (.agg #[.int .i64 0, .int .i64 0, .int .i64 0, .int .i64 0]) 4 32 Tryz.underlying65 hi hz0 hz1 hz2 rfl (by decide) _ (TA.its + 1) _ rfl (by exact O6.out) ⟨gl6, 0, none⟩ (S.its) (cl6) (itVs (Y1)) rfl (by rw [itVs_length]; have := LIB.out; omega) (by exact OL6.out) (itVs_one _) (by unfold maxLen; omega) (by omega) (by omega) ?_; intro v7 w7 ho7 hg7 hnl7; refine Hid.out ?_)
      refine Lib.hid ?_
      have s7 := hg7.size
      have C7 := hide (C6.out.trans ((Below.refl w0.heap.size w6).grown hg7 (by omega) (fun z hz => (O6.out.lt z hz).1)))
      rw [show TA.its + 1 + (S.its) = TA.its + 1 + S.its by omega] at ho7
      obtain ⟨g7, cp7, rfl⟩ : ∃ g c, v7 = .slice (some ⟨g, 0, none⟩) (TA.its + 1 + S.its) c := by
        rcases ho7.2 with ⟨h1, h0⟩ | ⟨g, c, cur, h1, _⟩
        · exact absurd (hnl7.1 h1).1 (fun h => by cases h)
        · exact ⟨_, _, h1⟩
      have O7 := hide ho7
      clear ho7 hg7 hnl7
      have RD := hide (RDB.out w7 C7.out)
      go_wp2_with (at_builtin; refine wpList_append_own _ rfl _ _ 65 rfl w0.heap.size 145 i0 (.agg #[.int .i64 0, .int .i64 0, .int .i64 0, .int .i64 0]) 4 32 Tryz.underlying65 hi hz0 hz1 hz2 rfl (by decide) _ (TA.its + 1 + S.its) _ rfl (by exact O7.out) ⟨b, S.its * 4, none⟩ (TB.its - S.its) (ca - S.its) (itVs (Post)) rfl (by rw [itVs_length]; omega) (by exact RD.out) (itVs_one _) (by unfold maxLen; omega) (by omega) (by omega) ?_; intro v8 w8 ho8 hg8 hnl8; refine Hid.out ?_)
      refine Lib.hid ?_
      have s8 := hg8.size
      have C8 := hide (C7.out.trans ((Below.refl w0.heap.size w7).grown hg8 (by omega) (fun z hz => (O7.out.lt z hz).1)))
      rw [show TA.its + 1 + S.its + (TB.its - S.its) = TA.its + 1 + TB.its by omega] at ho8
      obtain ⟨g8, cp8, rfl⟩ : ∃ g c, v8 = .slice (some ⟨g, 0, none⟩) (TA.its + 1 + TB.its) c := by
        rcases ho8.2 with ⟨h1, h0⟩ | ⟨g, c, cur, h1, _⟩
        · exact absurd (hnl8.1 h1).1 (fun h => by cases h)
        · exact ⟨_, _, h1⟩
      have O8 := hide ho8
      clear ho8 hg8 hnl8
      have ho9 : OwI w8 w0.heap.size (.slice (some ⟨g8, 0, none⟩) (TA.its + 1 + TB.its) cp8) (R.told 0) := by
        have h9 := O8.out
        unfold OwI
        rw [AT.told_length, IRN.out]
        have e9 : itVs (R.told 0) = ([] : List Value) ++ itVs (X1) ++ [.int .i64 p.off, .int .i64 p.len, .int .i64 p.brk, .int .i64 lv] ++ itVs (Y1) ++ itVs (Post) := by rw [FIN.out]; simp [itVs, itV]
        rw [e9]; exact h9
      obtain ⟨hc9, hm9⟩ : TA.its + 1 + TB.its ≤ cp8 ∧ cp8 ≤ maxLen := by
        rcases ho9.2 with ⟨h1, _⟩ | ⟨g3, c3, cur, h1, _, _, h2, h3, _⟩
        · cases h1
        · rw [AT.told_length, IRN.out] at h1 h2; cases h1; exact ⟨h2, h3⟩
      obtain ⟨mm, hmm, hfx⟩ := HFX.out
      have RP := hide (repairS w0.heap.size g8 cp8 (TA.its + 1 + TB.its) U ⟨hc9, hm9⟩ (by omega) mm R w8 IRN.out hfx (by omega) ho9)
      have L9 := hide (fun z hz => (ho9.lt z hz).1)
      clear ho9 hfx
      go_wp2_with fail
      refine RP.out.mono ?_
      rintro e w9 ⟨rfl, ho8, hg8⟩
      have C9 := hide (C8.out.trans ((Below.refl w0.heap.size w8).grown hg8 (by omega) (fun z hz => L9.out z (by simpa [Value.ownBlock] using hz))))
      have B9 := hide (A0.out.trans (C9.out.mono (by omega)))
      have O9 := hide (owns_base ho8 (show w.heap.size ≤ w0.heap.size by omega))
      clear ho8 hg8
      go_wp2
      go_ret
      exact ⟨_, rfl, O9.out, B9.out⟩

theorem joinS (TA TB : AT) (p : Pc) (ba bb : Nat) (va vb : Value) (w : World) (hA : TA.bal) (hB : TB.bal) (hn : TA.its + TB.its ≤ 8192) (oa : OwI w ba va (TA.told 0)) (ob : OwI w bb vb (TB.told 0)) :
    Calls Tryz.prog 186 #[va, pcV p, vb] w fun e w' => ∃ v', e = .returned v' ∧ OwI w' w.heap.size v' ((AT.spl TA p TB).told 0) ∧ Below w.heap.size w w' := by
  by_cases h1 : TB.ht + 1 < TA.ht
  · exact join1 TA TB p ba bb va vb w hA hB hn oa ob h1
  · by_cases h2 : TA.ht + 1 < TB.ht
    · exact join2 TA TB p ba bb va vb w hA hB hn oa ob h2
    · exact join3 TA TB p ba bb va vb w hA hB hn oa ob h1 h2
end Go.Proofs.YtbgngikejgihgagGreatDoor
