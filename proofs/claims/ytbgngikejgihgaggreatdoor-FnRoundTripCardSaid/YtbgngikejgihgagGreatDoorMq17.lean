import Derived.Test.YtbgngikejgihgagGreatDoorMq16
import Derived.Test.YtbgngikejgihgagGreatDoorMq13
namespace Go.Proofs.YtbgngikejgihgagGreatDoor
open Go Go.RowKit
set_option linter.unusedVariables false

set_option maxHeartbeats 1000000 in
set_option maxRecDepth 100000 in
theorem copyS (ys : List It) (b o cap : Nat) (w : World) (hc : ∀ j u, (itVs ys)[j]? = some u → w.cell? ((⟨b, o, none⟩ : Addr).add j) = some u) (hb : b < w.heap.size) (hn : ys.length ≤ 1048576) :
    Calls Tryz.prog 129 #[.slice (some ⟨b, o, none⟩) ys.length cap] w fun e w' => ∃ g cp, e = .returned (.slice (some ⟨g, 0, none⟩) ys.length cp) ∧ OwI w' w.heap.size (.slice (some ⟨g, 0, none⟩) ys.length cp) ys ∧ Below w.heap.size w w' := by
  obtain ⟨i0, hi, hz0, hz1, hz2⟩ := info_parts Tryz.infoIT
  have O0 := hide (show (w.alloc (.cells #[] 145)).ownsRow w.heap.size 145 4 (.slice (some ⟨w.heap.size, 0, none⟩) 0 0) 0 [] from ⟨rfl, .inr ⟨_, 0, #[], rfl, Nat.le_refl _, heap_alloc_new _ _, Nat.le_refl _, by unfold maxLen; omega, rfl, rfl⟩⟩)
  have B0 := hide ((Below.refl w.heap.size w).alloc (Nat.le_refl _) (.cells #[] 145))
  have RC := hide (show ∀ j u, (itVs ys)[j]? = some u → (w.alloc (.cells #[] 145)).cell? ((⟨b, o, none⟩ : Addr).add j) = some u from fun j u hj => by
    have h9 := hc j u hj
    rw [addr_add] at h9 ⊢
    exact (B0.out.cell (p := ⟨b, o + j, none⟩) hb).trans h9)
  have s0 := B0.out.size
  clear hc
  go_enter Tryz.func129, Tryz.ntmps129
  go_wp2_with (at_builtin; refine wpList_append_own _ rfl _ _ 65 rfl w.heap.size 145 i0 (.agg #[.int .i64 0, .int .i64 0, .int .i64 0, .int .i64 0]) 4 32 Tryz.underlying65 hi hz0 hz1 hz2 rfl (by decide) _ _ _ rfl (by exact O0.out) ⟨b, o, none⟩ ys.length cap (itVs ys) rfl (itVs_length ys) (by exact RC.out) (itVs_one ys) (by unfold maxLen; omega) (by omega) (by omega) ?_; intro v4 w4 ho4 hg4 hnl4; have B4 := hide (B0.out.trans ((Below.refl w.heap.size _).grown hg4 (by omega) (own_row2 O0.out))))
  rw [Nat.zero_add, List.nil_append] at ho4
  have h8 : OwI w4 w.heap.size v4 ys := ho4
  obtain ⟨g, cp, rfl⟩ : ∃ g cp, v4 = .slice (some ⟨g, 0, none⟩) ys.length cp := by
    rcases h8.2 with ⟨rfl, _⟩ | ⟨g, cp, cur, rfl, _⟩
    · exact absurd (hnl4.1 rfl).1 (fun h => by have h2 : Value.slice (some ⟨w.heap.size, 0, none⟩) 0 0 = .slice none 0 0 := h; cases h2)
    · exact ⟨_, _, rfl⟩
  have O4 := hide h8
  clear ho4 hg4 h8 hnl4
  go_wp2
  go_ret
  exact ⟨g, cp, rfl, O4.out, B4.out⟩
end Go.Proofs.YtbgngikejgihgagGreatDoor

namespace Go.Proofs.YtbgngikejgihgagGreatDoor
open Go Go.RowKit
set_option linter.unusedVariables false

theorem itVs_pc : ∀ (Y : List It) (k : Nat) (y : It) (q : Pc), Y[k]? = some y → (((itVs Y).set (k * 4) (.int .i64 q.off)).set (k * 4 + 1) (.int .i64 q.len)).set (k * 4 + 2) (.int .i64 q.brk) = itVs (Y.set k ⟨q, y.lv⟩)
  | [], k, y, q, h => by simp at h
  | x :: Y, 0, y, q, h => by
    simp only [List.getElem?_cons_zero, Option.some.injEq] at h
    subst h
    simp [itVs, itV]
  | x :: Y, k + 1, y, q, h => by
    simp only [List.getElem?_cons_succ] at h
    have ih := itVs_pc Y k y q h
    have e : itVs (x :: Y) = itV x ++ itVs Y := by simp [itVs]
    have e2 : itVs ((x :: Y).set (k + 1) ⟨q, y.lv⟩) = itV x ++ itVs (Y.set k ⟨q, y.lv⟩) := by simp [itVs]
    have l4 : (itV x).length = 4 := rfl
    rw [e, e2, ← ih, List.set_append_right _ _ (by omega), List.set_append_right _ _ (by omega), List.set_append_right _ _ (by omega), l4, show (k + 1) * 4 - 4 = k * 4 by omega, show (k + 1) * 4 + 1 - 4 = k * 4 + 1 by omega, show (k + 1) * 4 + 2 - 4 = k * 4 + 2 by omega]
theorem OwI.setPc {w : World} {base g cap n : Nat} {Y : List It} (h : w.ownsRow base 145 4 (.slice (some ⟨g, 0, none⟩) n cap) n (itVs Y)) {k : Nat} {y : It} (hy : Y[k]? = some y) (q : Pc) : (((w.setCell ⟨g, k * 4, none⟩ (.int .i64 q.off)).setCell ⟨g, k * 4 + 1, none⟩ (.int .i64 q.len)).setCell ⟨g, k * 4 + 2, none⟩ (.int .i64 q.brk)).ownsRow base 145 4 (.slice (some ⟨g, 0, none⟩) n cap) n (itVs (Y.set k ⟨q, y.lv⟩)) ∧ w.grownBy (((w.setCell ⟨g, k * 4, none⟩ (.int .i64 q.off)).setCell ⟨g, k * 4 + 1, none⟩ (.int .i64 q.len)).setCell ⟨g, k * 4 + 2, none⟩ (.int .i64 q.brk)) (some g) := by
  have h1 := h.stored (k * 4) (.int .i64 q.off)
  have h2 := h1.1.stored (k * 4 + 1) (.int .i64 q.len)
  have h3 := h2.1.stored (k * 4 + 2) (.int .i64 q.brk)
  rw [itVs_pc Y k y q hy] at h3
  exact ⟨h3.1, grown_trans (grown_trans h1.2 h2.2) h3.2⟩
theorem OwI.c3 {w : World} {base g cap n : Nat} {Y : List It} (h : w.ownsRow base 145 4 (.slice (some ⟨g, 0, none⟩) n cap) n (itVs Y)) {k : Nat} {y : It} (hy : Y[k]? = some y) : w.cell? ⟨g, k * 4, none⟩ = some (.int .i64 y.pc.off) ∧ w.cell? ⟨g, k * 4 + 1, none⟩ = some (.int .i64 y.pc.len) ∧ w.cell? ⟨g, k * 4 + 2, none⟩ = some (.int .i64 y.pc.brk) := by
  have hl : k < Y.length := by
    rcases Nat.lt_or_ge k Y.length with g | g
    · exact g
    · rw [List.getElem?_eq_none g] at hy; cases hy
  have e : itVs Y = itVs (Y.take k) ++ itV y ++ itVs (Y.drop (k + 1)) := by
    have e1 : Y = Y.take k ++ [y] ++ Y.drop (k + 1) := by
      have e2 : Y[k] = y := by rw [List.getElem?_eq_getElem hl] at hy; exact Option.some.inj hy
      rw [List.append_assoc, List.singleton_append, ← e2, ← List.drop_eq_getElem_cons hl, List.take_append_drop]
    conv => lhs; rw [e1]
    rw [itVs_append, itVs_append]; simp [itVs]
  have ll : (itVs (Y.take k)).length = k * 4 := by rw [itVs_length, List.length_take]; omega
  have l4 : (itV y).length = 4 := rfl
  have get : ∀ j, j < 4 → (itVs Y)[k * 4 + j]? = (itV y)[j]? := by
    intro j hj
    rw [e, List.append_assoc, List.getElem?_append_right (by omega), ll, show k * 4 + j - k * 4 = j by omega, List.getElem?_append_left (by omega)]
  refine ⟨?_, ?_, ?_⟩
  · have h4 := h.cells (g := g) rfl (k * 4 + 0) _ ((get 0 (by omega)).trans rfl)
    rw [addr_add, Nat.zero_add] at h4; exact h4
  · have h4 := h.cells (g := g) rfl (k * 4 + 1) _ ((get 1 (by omega)).trans rfl)
    rw [addr_add, Nat.zero_add] at h4; exact h4
  · have h4 := h.cells (g := g) rfl (k * 4 + 2) _ ((get 2 (by omega)).trans rfl)
    rw [addr_add, Nat.zero_add] at h4; exact h4
end Go.Proofs.YtbgngikejgihgagGreatDoor

namespace Go.Proofs.YtbgngikejgihgagGreatDoor
set_option linter.unusedVariables false
namespace AT
/-- A leaf put in, nothing repaired. -/
def insR : AT → Nat → Pc → AT
  | nil, _, e => node nil e nil
  | node l p r, k, e => if k ≤ l.its then node (insR l k e) p r else node l p (insR r (k - l.its - 1) e)
theorem ins_fx : ∀ (T : AT) (k : Nat) (e : Pc), T.bal → ∃ n, n ≤ T.ht ∧ Fx (insR T k e) n (ins T k e)
  | nil, k, e, _ => ⟨0, Nat.zero_le _, Fx.stop (by simp [insR, wd, ht])⟩
  | node l p r, k, e, ⟨hl, hr, h1, h2⟩ => by
    simp only [insR, ins, ht]
    split
    · obtain ⟨n, hn, hf⟩ := ins_fx l k e hl
      obtain ⟨b, g1, g2⟩ := ins_bal l k e hl
      obtain ⟨m, hm, hg⟩ := Fx.left (p := p) hf hr (by omega) (by omega)
      exact ⟨m, by omega, hg⟩
    · obtain ⟨n, hn, hf⟩ := ins_fx r (k - l.its - 1) e hr
      obtain ⟨b, g1, g2⟩ := ins_bal r (k - l.its - 1) e hr
      obtain ⟨m, hm, hg⟩ := Fx.right (p := p) hf hl (by omega) (by omega)
      exact ⟨m, by omega, hg⟩
/-- The level of a new leaf, by its neighbours. -/
def nb (o : Option It) (d : Int) : Int := match o with
  | none => d
  | some x => if d < x.lv + 1 then x.lv + 1 else d
def insLv (d : Int) (X : List It) (k : Nat) : Int := nb X[k]? (nb (if k = 0 then none else X[k - 1]?) d)
theorem insLv_nil (d : Int) (k : Nat) : insLv d [] k = d := by simp [insLv, nb]
theorem nb_none (d : Int) : nb none d = d := rfl
theorem nb_some (x : It) (d : Int) : nb (some x) d = max d (x.lv + 1) := by simp only [nb]; split <;> omega

theorem insLv_left (l : AT) (p : Pc) (X : List It) (d : Int) (k : Nat) (hk : k ≤ l.its) : insLv d (l.told (d + 1) ++ ⟨p, d⟩ :: X) k = insLv (d + 1) (l.told (d + 1)) k := by
  have hlen := told_length l (d + 1)
  have hlv := told_lv l (d + 1)
  have prev : k ≠ 0 → ∃ y : It, (l.told (d + 1) ++ ⟨p, d⟩ :: X)[k - 1]? = some y ∧ (l.told (d + 1))[k - 1]? = some y ∧ d + 1 ≤ y.lv := by
    intro h0
    refine ⟨(l.told (d + 1))[k - 1]'(by omega), ?_, List.getElem?_eq_getElem (by omega), (hlv _ (List.getElem_mem _)).1⟩
    rw [List.getElem?_append_left (by omega)]; exact List.getElem?_eq_getElem (by omega)
  rcases Nat.lt_or_ge k l.its with h | h
  · obtain ⟨x, hx1, hx2, hx3⟩ : ∃ x : It, (l.told (d + 1) ++ ⟨p, d⟩ :: X)[k]? = some x ∧ (l.told (d + 1))[k]? = some x ∧ d + 1 ≤ x.lv := by
      refine ⟨(l.told (d + 1))[k]'(by omega), ?_, List.getElem?_eq_getElem (by omega), (hlv _ (List.getElem_mem _)).1⟩
      rw [List.getElem?_append_left (by omega)]; exact List.getElem?_eq_getElem (by omega)
    unfold insLv
    rw [hx1, hx2]
    by_cases h0 : k = 0
    · rw [if_pos h0, if_pos h0]; simp only [nb_none, nb_some]; omega
    · obtain ⟨y, hy1, hy2, hy3⟩ := prev h0
      rw [if_neg h0, if_neg h0, hy1, hy2]; simp only [nb_some]; omega
  · have hx : (l.told (d + 1))[k]? = none := List.getElem?_eq_none (by omega)
    have hke : k = (l.told (d + 1)).length := by omega
    have hx2 : (l.told (d + 1) ++ ⟨p, d⟩ :: X)[k]? = some ⟨p, d⟩ := by rw [List.getElem?_append_right (by omega)]; simp [hke]
    unfold insLv
    rw [hx, hx2]
    by_cases h0 : k = 0
    · rw [if_pos h0, if_pos h0]; simp only [nb_none, nb_some]; omega
    · obtain ⟨y, hy1, hy2, hy3⟩ := prev h0
      rw [if_neg h0, if_neg h0, hy1, hy2]; simp only [nb_none, nb_some]; omega
theorem insLv_right (r : AT) (p : Pc) (X : List It) (d : Int) (j : Nat) (hj : j ≤ r.its) : insLv d (X ++ ⟨p, d⟩ :: r.told (d + 1)) (X.length + 1 + j) = insLv (d + 1) (r.told (d + 1)) j := by
  have hlen := told_length r (d + 1)
  have hlv := told_lv r (d + 1)
  have g : ∀ i, (X ++ ⟨p, d⟩ :: r.told (d + 1))[X.length + 1 + i]? = (r.told (d + 1))[i]? := by
    intro i
    rw [List.getElem?_append_right (by omega), show X.length + 1 + i - X.length = i + 1 by omega, List.getElem?_cons_succ]
  have fin : ∀ a b : Int, a = b → nb (r.told (d + 1))[j]? a = nb (r.told (d + 1))[j]? b := by intro a b h; rw [h]
  unfold insLv
  rw [g j, if_neg (by omega)]
  by_cases h0 : j = 0
  · subst h0
    have hp : (X ++ ⟨p, d⟩ :: r.told (d + 1))[X.length + 1 + 0 - 1]? = some ⟨p, d⟩ := by
      rw [show X.length + 1 + 0 - 1 = X.length by omega, List.getElem?_append_right (by omega)]; simp
    rw [hp, if_pos rfl]
    refine fin _ _ ?_
    simp only [nb_none, nb_some]; omega
  · rw [if_neg h0, show X.length + 1 + j - 1 = X.length + 1 + (j - 1) by omega, g (j - 1)]
    have hy : (r.told (d + 1))[j - 1]? = some ((r.told (d + 1))[j - 1]'(by omega)) := List.getElem?_eq_getElem (by omega)
    have h1 := hlv _ (List.getElem_mem (show j - 1 < (r.told (d + 1)).length by omega))
    rw [hy]
    refine fin _ _ ?_
    simp only [nb_some]; omega

theorem insR_told : ∀ (T : AT) (d : Int) (k : Nat) (e : Pc), k ≤ T.its → (insR T k e).told d = (T.told d).take k ++ ⟨e, insLv d (T.told d) k⟩ :: (T.told d).drop k
  | nil, d, k, e, _ => by simp [insR, told, insLv_nil]
  | node l p r, d, k, e, hk => by
    simp only [its] at hk
    have hlen := told_length l (d + 1)
    simp only [insR]
    split
    · rename_i h
      rw [told, insR_told l (d + 1) k e h, told, insLv_left l p _ d k h, List.take_append_of_le_length (by omega), List.drop_append_of_le_length (by omega)]
      simp
    · rename_i h
      obtain ⟨j, rfl⟩ : ∃ j, k = (l.told (d + 1)).length + 1 + j := ⟨k - l.its - 1, by omega⟩
      rw [told, show (l.told (d + 1)).length + 1 + j - l.its - 1 = j by omega, insR_told r (d + 1) j e (by omega), told, insLv_right r p _ d j (by omega)]
      have e1 : (l.told (d + 1) ++ ⟨p, d⟩ :: r.told (d + 1)).take ((l.told (d + 1)).length + 1 + j) = l.told (d + 1) ++ ⟨p, d⟩ :: (r.told (d + 1)).take j := by
        rw [List.take_append, List.take_of_length_le (by omega), show (l.told (d + 1)).length + 1 + j - (l.told (d + 1)).length = j + 1 by omega]; simp
      have e2 : (l.told (d + 1) ++ ⟨p, d⟩ :: r.told (d + 1)).drop ((l.told (d + 1)).length + 1 + j) = (r.told (d + 1)).drop j := by
        rw [List.drop_append, List.drop_eq_nil_of_le (by omega), show (l.told (d + 1)).length + 1 + j - (l.told (d + 1)).length = j + 1 by omega]; simp
      rw [e1, e2]; simp
end AT
end Go.Proofs.YtbgngikejgihgagGreatDoor
