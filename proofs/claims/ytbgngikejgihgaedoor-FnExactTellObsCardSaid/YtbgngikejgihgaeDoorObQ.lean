import Derived.Test.YtbgngikejgihgaeDoorObV
import Derived.Test.YtbgngikejgihgaeDoorMark32
namespace Go.Proofs.YtbgngikejgihgaeDoor
open Go Go.RowKit
set_option linter.unusedVariables false

/-- Blocks of bytes stay as they are. -/
def KB (w w' : World) : Prop := ∀ (q : Nat) (cs : Array Value) (fz : Nat × Nat), w.heap[q]? = some (.cells cs 5 fz) → w'.heap[q]? = some (.cells cs 5 fz)
theorem KB.refl (w : World) : KB w w := fun _ _ _ h => h
theorem KB.trans {a b c : World} (h : KB a b) (k : KB b c) : KB a c := fun q cs fz hq => k q cs fz (h q cs fz hq)
theorem KB.grown {w w' : World} {B n e size : Nat} {v : Value} {xs : List Value} (h : w.ownsRow B e size v n xs) (hne : e ≠ 5) (hg : w.grownBy w' v.ownBlock) : KB w w' := fun q cs fz hq =>
  (hg.block q (Array.getElem?_eq_some_iff.1 hq).1 (own_offM h hq hne)).trans hq
theorem KB.own {w w' : World} {base n : Nat} {v : Value} {xs : List Value} (h : w.ownsRow base 5 1 v n xs) (hk : KB w w') : w'.ownsRow base 5 1 v n xs := by
  refine owns_of_block h (fun q hq => ?_)
  rcases h.2 with ⟨rfl, _⟩ | ⟨g, cap, cur, rfl, _, hgb, _⟩
  · simp [Value.ownBlock] at hq
  · simp only [Value.ownBlock, Option.some.injEq] at hq
    subst hq
    rw [hgb]
    exact hk _ _ _ hgb

/-- A row of observations that is being marked. -/
structure MkO (w : World) (lo g n : Nat) (vts vms : List Value) (xs : List Ob) : Prop where
  row : ∃ cells, w.ownsRow lo 89 10 (.slice (some ⟨g, 0, none⟩) n n) n cells ∧ ∀ i, i < n → cells[i * 10 + 3]? = vts[i]? ∧ cells[i * 10 + 4]? = vms[i]?
  t : ∀ (i : Nat) vt x, vts[i]? = some vt → xs[i]? = some x → ∃ zs, w.ownsRow lo 21 1 vt x.t.length (ints .i32 zs)
  m : ∀ (i : Nat) vm x, vms[i]? = some vm → xs[i]? = some x → ∃ ys, ys.length = x.m.length ∧ OwM w lo vm ys
  nt : ∀ (i j : Nat) u v q, i ≠ j → vts[i]? = some u → vts[j]? = some v → u.ownBlock = some q → v.ownBlock ≠ some q
  nm : ∀ (i j : Nat) u v q, i ≠ j → vms[i]? = some u → vms[j]? = some v → u.ownBlock = some q → v.ownBlock ≠ some q
section
variable {w w' : World} {lo hi g n : Nat} {vts vms : List Value} {xs : List Ob}
theorem OwO.mkO (h : OwO w lo hi (.slice (some ⟨g, 0, none⟩) xs.length xs.length) vts vms xs) : MkO w lo g xs.length vts vms xs := by
  have l1 : vts.length = xs.length := by rw [h.nt.len, List.length_map]
  have l2 : vms.length = xs.length := by rw [h.nm.len, List.length_map]
  refine ⟨⟨_, h.row, fun i hi => ?_⟩, fun i vt x hv hx => ⟨x.t, h.nt.own i _ _ _ hv (by rw [List.getElem?_map, hx]; rfl) (by rw [List.getElem?_map, hx]; rfl)⟩, fun i vm x hv hx => ⟨x.m, rfl, h.nm.own i _ _ _ hv (by rw [List.getElem?_map, hx]; rfl) (by rw [List.getElem?_map, hx]; rfl)⟩, h.nt.ne, h.nm.ne⟩
  have hv := List.getElem?_eq_getElem (show i < vts.length by omega)
  have hm := List.getElem?_eq_getElem (show i < vms.length by omega)
  have hx := List.getElem?_eq_getElem hi
  exact ⟨(obVs_get hv hm hx (by omega)).trans hv.symm, (obVs_get hv hm hx (by omega)).trans hm.symm⟩
theorem MkO.stored (h : MkO w lo g n vts vms xs) (i j : Nat) (u : Value) (hj : j < 10) (h3 : j ≠ 3) (h4 : j ≠ 4) : MkO (w.setCell ⟨g, i * 10 + j, none⟩ u) lo g n vts vms xs ∧ KB w (w.setCell ⟨g, i * 10 + j, none⟩ u) := by
  obtain ⟨cells, hr, hc⟩ := h.row
  have hs := hr.stored (i * 10 + j) u
  obtain ⟨cb, fb, hcb⟩ := own_blk hr
  have off : ∀ q, q ≠ g → (w.setCell ⟨g, i * 10 + j, none⟩ u).heap[q]? = w.heap[q]? := fun q hq => heap_setCell_other _ _ _ _ (by show q ≠ g; exact hq)
  refine ⟨⟨⟨_, hs.1, fun k hk => ?_⟩, fun k vt x hv hx => ?_, fun k vm x hv hx => ?_, h.nt, h.nm⟩, KB.grown hr (by decide) hs.2⟩
  · rw [List.getElem?_set_ne (by omega), List.getElem?_set_ne (by omega)]
    exact hc k hk
  · obtain ⟨zs, ho⟩ := h.t k vt x hv hx
    exact ⟨zs, owns_of_block ho (fun q hq => off q (fun e => own_offM ho hcb (by decide) (by rw [← e]; exact hq.symm)))⟩
  · obtain ⟨ys, hl, ho⟩ := h.m k vm x hv hx
    exact ⟨ys, hl, owns_of_block ho (fun q hq => off q (fun e => own_offM ho hcb (by decide) (by rw [← e]; exact hq.symm)))⟩
theorem MkO.cell (h : MkO w lo g n vts vms xs) {i j : Nat} (hi : i < n) (hj : j < 10) : ∃ v, w.cell? ⟨g, i * 10 + j, none⟩ = some v := by
  obtain ⟨cells, hr, hc⟩ := h.row
  exact own_cellN hr (i * 10 + j) (by omega)
theorem MkO.fz (h : MkO w lo g n vts vms xs) (i : Nat) : w.frozen? ⟨g, i, none⟩ = false := by
  obtain ⟨cells, hr, hc⟩ := h.row
  exact hr.frozenAt _
theorem MkO.c3 (h : MkO w lo g n vts vms xs) {i : Nat} (hi : i < n) : w.cell? ⟨g, i * 10 + 3, none⟩ = vts[i]? := by
  obtain ⟨cells, hr, hc⟩ := h.row
  rw [hr.cellAt _ (by omega)]; exact (hc i hi).1
theorem MkO.c4 (h : MkO w lo g n vts vms xs) {i : Nat} (hi : i < n) : w.cell? ⟨g, i * 10 + 4, none⟩ = vms[i]? := by
  obtain ⟨cells, hr, hc⟩ := h.row
  rw [hr.cellAt _ (by omega)]; exact (hc i hi).2
theorem own_far {base base' e e' size size' n n' : Nat} {v v' : Value} {ys ys' : List Value} (h : w.ownsRow base e size v n ys) (h' : w.ownsRow base' e' size' v' n' ys') (hne : e ≠ e') (hg : w.grownBy w' v'.ownBlock) : w'.ownsRow base e size v n ys := by
  refine owns_of_block h (fun q hq => hg.block q (h.lt q hq).2 (fun eq => ?_))
  rcases h.2 with ⟨rfl, _⟩ | ⟨g, cap, cur, rfl, _, hgb, _⟩
  · simp [Value.ownBlock] at hq
  · simp only [Value.ownBlock, Option.some.injEq] at hq
    subst hq
    exact own_offM h' hgb (fun e => hne e.symm) eq
theorem MkO.text (h : MkO w lo g n vts vms xs) {i : Nat} {vt : Value} {x : Ob} {zs zs' : List Int} (hv : vts[i]? = some vt) (hx : xs[i]? = some x) (ho : w.ownsRow lo 21 1 vt x.t.length (ints .i32 zs)) (ho' : w'.ownsRow lo 21 1 vt x.t.length (ints .i32 zs')) (hg : w.grownBy w' vt.ownBlock) : MkO w' lo g n vts vms xs ∧ KB w w' := by
  obtain ⟨cells, hr, hc⟩ := h.row
  refine ⟨⟨⟨cells, own_far hr ho (by decide) hg, hc⟩, fun k ut y hu hy => ?_, fun k vm y hu hy => ?_, h.nt, h.nm⟩, KB.grown ho (by decide) hg⟩
  · by_cases hk : k = i
    · subst hk
      rw [hv] at hu; rw [hx] at hy
      cases hu; cases hy
      exact ⟨zs', ho'⟩
    · obtain ⟨zu, hou⟩ := h.t k ut y hu hy
      exact ⟨zu, owns_of_block hou (fun q hq => hg.block q (hou.lt q hq).2 (fun eq => h.nt k i ut vt q hk hu hv hq eq.symm))⟩
  · obtain ⟨ys, hl, hou⟩ := h.m k vm y hu hy
    exact ⟨ys, hl, own_far hou ho (by decide) hg⟩
theorem MkO.mks (h : MkO w lo g n vts vms xs) {i : Nat} {vm : Value} {x : Ob} {ys ys' : List Mk} (hv : vms[i]? = some vm) (hx : xs[i]? = some x) (hl : ys.length = x.m.length) (hl' : ys'.length = x.m.length) (ho : OwM w lo vm ys) (ho' : OwM w' lo vm ys') (hg : w.grownBy w' vm.ownBlock) : MkO w' lo g n vts vms xs ∧ KB w w' := by
  obtain ⟨cells, hr, hc⟩ := h.row
  refine ⟨⟨⟨cells, own_far hr ho (by decide) hg, hc⟩, fun k ut y hu hy => ?_, fun k um y hu hy => ?_, h.nt, h.nm⟩, KB.grown ho (by decide) hg⟩
  · obtain ⟨zu, hou⟩ := h.t k ut y hu hy
    exact ⟨zu, own_far hou ho (by decide) hg⟩
  · by_cases hk : k = i
    · subst hk
      rw [hv] at hu; rw [hx] at hy
      cases hu; cases hy
      exact ⟨ys', hl', ho'⟩
    · obtain ⟨zu, hlu, hou⟩ := h.m k um y hu hy
      exact ⟨zu, hlu, owns_of_block hou (fun q hq => hg.block q (hou.lt q hq).2 (fun eq => h.nm k i um vm q hk hu hv hq eq.symm))⟩
theorem MkO.rl (h : MkO w lo g n vts vms xs) : lo ≤ g ∧ g < w.heap.size := by
  obtain ⟨cells, hr, hc⟩ := h.row
  exact hr.lt g rfl
end

set_option maxHeartbeats 4000000 in
set_option maxRecDepth 100000 in
theorem markObsL (lo g nn : Nat) (vts vms : List Value) (xs : List Ob) (w : World) (h : MkO w lo g nn vts vms xs) (hs : szOs xs ≤ 1048576) (hN : xs.length = nn) (hl1 : vts.length = nn) (hl2 : vms.length = nn) :
    Calls Tryd.prog 21 #[.slice (some ⟨g, 0, none⟩) nn nn, .int .i64 1] w fun e w' => (∃ K : Int, e = .returned (.int .i64 K) ∧ 0 ≤ K ∧ K ≤ 100000000) ∧ KB w w' ∧ Below lo w w' := by
  have hnl : nn ≤ 1048576 := by unfold szOs at hs; omega
  have H0 := hide h
  have HNN := hide hN
  have GET := hide (show ∀ k, k < nn → ∃ y, xs[k]? = some y from fun k hk => ⟨_, List.getElem?_eq_getElem (by omega)⟩)
  have GT := hide (show ∀ k, k < nn → ∃ y, vts[k]? = some y from fun k hk => ⟨_, List.getElem?_eq_getElem (by omega)⟩)
  have GM := hide (show ∀ k, k < nn → ∃ y, vms[k]? = some y from fun k hk => ⟨_, List.getElem?_eq_getElem (by omega)⟩)
  have SZS := hide (fun k x (hk : xs[k]? = some x) => szOs_take_succ hk)
  have SZT := hide (fun k => szOs_take xs k)
  have ML := hide (fun (W : World) (i : Nat) (u : Value) (hW : Below lo w W) (hg : lo ≤ g) => hW.setCell (p := ⟨g, i, none⟩) (by show lo ≤ g; exact hg) u)
  clear h hN hl1 hl2
  go_enter Tryd.func21, Tryd.ntmps21
  go_wp2_with fail
  go_loopw [1, 5] (fun kk i wr => ∃ (k : Nat) (K : Int), k ≤ nn ∧ i = .int .i64 k ∧ kk = .int .i64 K ∧ 1 ≤ K ∧ K ≤ 1 + 11 * (szOs (xs.take k) : Nat) ∧ MkO wr lo g nn vts vms xs ∧ KB w wr ∧ Below lo w wr) (fun _ i _ => nn - (intOf i).toNat)
  case atStart => exact ⟨0, 1, Nat.zero_le _, rfl, rfl, by omega, by omega, H0.out, KB.refl _, Below.refl _ _⟩
  case round =>
    obtain ⟨k, K, hk, rfl, rfl, hK0, hK1, hM, hkb, hb⟩ := hrel
    have HM := hide hM
    have HKB := hide hkb
    have HB := hide hb
    have z2 := SZT.out k
    have hgl := hM.rl
    by_cases hlt : k < nn
    · obtain ⟨x, hx⟩ := GET.out k hlt
      obtain ⟨vt, hvt⟩ := GT.out k hlt
      obtain ⟨vm, hvm⟩ := GM.out k hlt
      have z1 := SZS.out k x hx
      have z3 := SZT.out (k + 1)
      have hlt' : (k : Int) < nn := by omega
      have zq : szO x = x.t.length + x.m.length := rfl
      generalize szOs (xs.take k) = S at *
      generalize hS1 : szOs (xs.take (k + 1)) = S1 at *
      have HS1 := hide hS1
      have hgl2 := hgl.2
      clear hkb hb hS1
      obtain ⟨y0, p0⟩ := hM.cell hlt (show 0 < 10 by omega)
      have f0 := hM.fz (k * 10 + 0)
      obtain ⟨y1, p1⟩ := hM.cell hlt (show 1 < 10 by omega)
      have f1 := hM.fz (k * 10 + 1)
      obtain ⟨y2, p2⟩ := hM.cell hlt (show 2 < 10 by omega)
      have f2 := hM.fz (k * 10 + 2)
      rw [Nat.add_zero] at p0 f0
      have A0 := hM.stored k 0 (.int .i64 K) (by omega) (by omega) (by omega)
      have A1 := A0.1.stored k 1 (.int .i64 (K + 1)) (by omega) (by omega) (by omega)
      have A2 := A1.1.stored k 2 (.int .i64 (K + 1 + 1)) (by omega) (by omega) (by omega)
      rw [Nat.add_zero] at A0 A1 A2
      have M1 := hide A2.1
      have KB1 := hide (HKB.out.trans (A0.2.trans (A1.2.trans A2.2)))
      have B1 := hide (ML.out _ (k * 10 + 2) (.int .i64 (K + 1 + 1)) (ML.out _ (k * 10 + 1) (.int .i64 (K + 1)) (ML.out _ (k * 10) (.int .i64 K) HB.out hgl.1) hgl.1) hgl.1)
      clear A0 A1 A2 hM HM HB HKB
      go_upto_region 10 with fail
      generalize ((wr.setCell ⟨g, k * 10, none⟩ (.int .i64 K)).setCell ⟨g, k * 10 + 1, none⟩ (.int .i64 (K + 1))).setCell ⟨g, k * 10 + 2, none⟩ (.int .i64 (K + 1 + 1)) = w1 at *
      clear p0 p1 p2 f0 f1 f2
      have c3 := (M1.out.c3 hlt).trans hvt
      obtain ⟨zs, hot⟩ := M1.out.t k vt x hvt hx
      obtain ⟨at_, ct, hat⟩ : ∃ a c, vt = .slice a x.t.length c := by
        rcases hot.2 with ⟨rfl, e⟩ | ⟨g', cap', cur, rfl, _⟩
        · exact ⟨none, 0, by rw [e]⟩
        · exact ⟨_, _, rfl⟩
      subst hat
      have OT := hide hot
      have HVT := hide hvt
      have HVM := hide hvm
      have HX := hide hx
      have gl1 := M1.out.rl.2
      have MK := hide (mark32 zs _ lo x.t.length (K + 1 + 1 + 1) w1 hot (by omega) (by omega) (by omega))
      generalize htn : x.t.length = tn at *
      have HTN := hide htn
      clear hot hvt hx htn
      go_wp2_with fail
      refine MK.out.mono ?_
      rintro e w2 ⟨rfl, ho2, hg2⟩
      have TX := M1.out.text HVT.out HX.out (by rw [HTN.out]; exact OT.out) (by rw [HTN.out]; exact ho2) hg2
      have M2 := hide TX.1
      have KB2 := hide (KB1.out.trans TX.2)
      have B2 := hide (B1.out.grown hg2 (by have := M1.out.rl; omega) (fun q hq => (OT.out.lt q hq).1))
      have c4 := (M2.out.c4 hlt).trans hvm
      obtain ⟨ys, hyl, hom⟩ := M2.out.m k vm x HVM.out HX.out
      obtain ⟨am, cm, ham⟩ := hom.val
      subst ham
      have OM := hide hom
      have gl2 := M2.out.rl.2
      have MM := hide (markMarksL ys _ lo (K + 1 + 1 + 1 + tn) w2 hom (by omega) (by omega) (by omega))
      have HYL := hide hyl
      generalize hmn : ys.length = mn at *
      have HMN := hide hmn
      clear ho2 hg2 TX M1 KB1 B1 MK c3 OT hom hvm hyl hmn gl1
      go_wp2_with fail
      refine MM.out.mono ?_
      rintro e w3 ⟨rfl, ho3, hg3⟩
      have TX := M2.out.mks HVM.out HX.out (by rw [HMN.out]; exact HYL.out) (by rw [mmk_length]; exact HYL.out) OM.out ho3 hg3
      have M3 := hide TX.1
      have KB3 := hide (KB2.out.trans TX.2)
      have B3 := hide (B2.out.grown hg3 (by have := M2.out.rl; omega) (fun q hq => (OM.out.lt q hq).1))
      have gl3 := M3.out.rl.2
      have hmm : mn = x.m.length := HYL.out
      generalize hK3 : K + 1 + 1 + 1 + (tn : Int) + 3 * (mn : Int) = K3 at *
      have hK3a : 1 ≤ K3 := by omega
      have hK3b : K3 + 5 ≤ 1 + 11 * (S1 : Int) := by omega
      have hK3c : K3 ≤ 100000000 := by omega
      clear ho3 hg3 TX M2 KB2 B2 MM c4 OM gl2 hK3 hmm z1 zq
      obtain ⟨y5, p5⟩ := M3.out.cell hlt (show 5 < 10 by omega)
      have f5 := M3.out.fz (k * 10 + 5)
      obtain ⟨y6, p6⟩ := M3.out.cell hlt (show 6 < 10 by omega)
      have f6 := M3.out.fz (k * 10 + 6)
      obtain ⟨y7, p7⟩ := M3.out.cell hlt (show 7 < 10 by omega)
      have f7 := M3.out.fz (k * 10 + 7)
      obtain ⟨y8, p8⟩ := M3.out.cell hlt (show 8 < 10 by omega)
      have f8 := M3.out.fz (k * 10 + 8)
      obtain ⟨y9, p9⟩ := M3.out.cell hlt (show 9 < 10 by omega)
      have f9 := M3.out.fz (k * 10 + 9)
      have A5 := M3.out.stored k 5 (.int .i64 K3) (by omega) (by omega) (by omega)
      have A6 := A5.1.stored k 6 (.int .i64 (K3 + 1)) (by omega) (by omega) (by omega)
      have A7 := A6.1.stored k 7 (.int .i64 (K3 + 1 + 1)) (by omega) (by omega) (by omega)
      have A8 := A7.1.stored k 8 (.int .i64 (K3 + 1 + 1 + 1)) (by omega) (by omega) (by omega)
      have A9 := A8.1.stored k 9 (.int .i64 (K3 + 1 + 1 + 1 + 1)) (by omega) (by omega) (by omega)
      have M4 := hide A9.1
      have KB4 := hide (KB3.out.trans (A5.2.trans (A6.2.trans (A7.2.trans (A8.2.trans A9.2)))))
      have B4 := hide (ML.out _ (k * 10 + 9) (.int .i64 (K3 + 1 + 1 + 1 + 1)) (ML.out _ (k * 10 + 8) (.int .i64 (K3 + 1 + 1 + 1)) (ML.out _ (k * 10 + 7) (.int .i64 (K3 + 1 + 1)) (ML.out _ (k * 10 + 6) (.int .i64 (K3 + 1)) (ML.out _ (k * 10 + 5) (.int .i64 K3) B3.out hgl.1) hgl.1) hgl.1) hgl.1) hgl.1)
      clear A5 A6 A7 A8 A9 M3 KB3 B3
      go_wp2
      go_roundw
      case rel =>
        refine ⟨k + 1, K3 + 1 + 1 + 1 + 1 + 1, by omega, by go_num, rfl, by omega, ?_, M4.out, KB4.out, B4.out⟩
        rw [HS1.out]
        omega
      case measure => simp [intOf]; omega
    · obtain rfl : k = nn := by omega
      have hlt' : ¬ (k : Int) < k := by omega
      clear hkb hb hM
      go_wp2
      go_ret
      exact ⟨⟨K, rfl, by omega, by omega⟩, HKB.out, HB.out⟩
end Go.Proofs.YtbgngikejgihgaeDoor
