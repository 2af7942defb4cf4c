import Derived.Test.YtbgngikejgihgaeDoorObM
import Derived.Test.YtbgngikejgihgaeDoorObG
import Derived.Test.YtbgngikejgihgaeDoorExD
import Derived.Test.YtbgngikejgihgaeDoorSpecEnc
import Derived.Test.YtbgngikejgihgaeDoorObC
import Derived.Deep.CutBlock
import Derived.Deep.CutRange
import Derived.Deep.DeepCutAuto
namespace Go.Proofs.YtbgngikejgihgaeDoor
open Go Go.RowKit
set_option linter.unusedVariables false

theorem K8.of_below {W W' : World} (h : Below W.heap.size W W') : K8 W W' := fun q cs t fz ht hq => (h.block q (Array.getElem?_eq_some_iff.1 hq).1).trans hq
/-- A row of bytes that is being written. -/
structure TSt (w W : World) (v : Value) (N : Nat) (X : List Value) : Prop where
  o : W.ownsRow w.heap.size 5 1 v N X
  b : Below w.heap.size w W
theorem TSt.below {w W W' : World} {v : Value} {N : Nat} {X : List Value} (h : TSt w W v N X) (hb : Below W.heap.size W W') : TSt w W' v N X :=
  ⟨owns_below h.o hb (Nat.le_refl _), h.b.trans (hb.mono h.b.size)⟩
theorem TSt.app {w W W' : World} {v v' : Value} {N N' : Nat} {X X' : List Value} (h : TSt w W v N X) (ho : W'.ownsRow w.heap.size 5 1 v' N' X') (hg : W.grownBy W' v.ownBlock) : TSt w W' v' N' X' ∧ K8 W W' :=
  ⟨⟨ho, h.b.grown hg h.b.size (fun q hq => (h.o.lt q hq).1)⟩, K8.grown h.o hg⟩
theorem TSt.alloc {w W : World} {v : Value} {N : Nat} {X : List Value} (h : TSt w W v N X) (o : Obj) : TSt w (W.alloc o) v N X := ⟨World.ownsRow.alloc h.o o, h.b.alloc h.b.size o⟩
theorem TSt.appU {w W W' : World} {v v' : Value} {N N' : Nat} {X X' : List Value} {o : Obj} (h : TSt w W v N X) (ho : W'.ownsRow w.heap.size 5 1 v' N' X') (hg : (W.alloc o).grownBy W' v.ownBlock) : TSt w W' v' N' X' ∧ K8 W W' :=
  have h1 := (h.alloc o).app ho hg
  ⟨h1.1, (K8.alloc W o).trans h1.2⟩
theorem TSt.val {w W : World} {v : Value} {N : Nat} {X : List Value} (h : TSt w W v N X) : ∃ a m c, v = .slice a m c := by
  rcases h.o.2 with ⟨rfl, _⟩ | ⟨g, cap, cur, rfl, _⟩ <;> exact ⟨_, _, _, rfl⟩
theorem num_put {E : List Value} {zs : List Int} {j : Nat} {z : Int} (h0 : j ≠ 0) (hj : zs[j]? = some z) : E ++ ints .u8 (bts (numB (zs.take j))) ++ [.int .u8 32] ++ ints .u8 (bts (Lib.itoa z)) = E ++ ints .u8 (bts (numB (zs.take (j + 1)))) := by
  rw [take_snoc hj, numB_snoc (fun e => h0 (by
    have h1 := congrArg List.length e
    rw [List.length_take] at h1
    have h2 := (List.getElem?_eq_some_iff.1 hj).1
    simp only [List.length_nil] at h1
    omega))]
  simp [bts, ints]
theorem num_put0 {E : List Value} {zs : List Int} {z : Int} (hj : zs[0]? = some z) : E ++ ints .u8 (bts (Lib.itoa z)) = E ++ ints .u8 (bts (numB (zs.take 1))) := by
  have h9 := take_snoc hj
  rw [h9]
  simp [numB]
theorem num_len {zs : List Int} {j : Nat} {z : Int} (h0 : j ≠ 0) (hj : zs[j]? = some z) (e : Nat) : e + (numB (zs.take j)).length + 1 + (bts (Lib.itoa z)).length = e + (numB (zs.take (j + 1))).length := by
  have h9 := congrArg List.length (num_put (E := []) h0 hj)
  simp only [List.nil_append, List.length_append, ints_length, bts_length, List.length_cons, List.length_nil] at h9
  rw [bts_length]; omega
theorem num_len0 {zs : List Int} {z : Int} (hj : zs[0]? = some z) (e : Nat) : e + (bts (Lib.itoa z)).length = e + (numB (zs.take 1)).length := by
  have h9 := congrArg List.length (num_put0 (E := []) hj)
  simp only [List.nil_append, ints_length, bts_length] at h9
  rw [bts_length]; omega
theorem encs_pos (zs : List Int) (h : ¬ zs.length = 0) : 0 < (encs zs).length := by
  match zs, h with
  | [], h => exact absurd rfl h
  | z :: zs, _ => have := encZ_length z; simp only [encs, List.flatMap_cons, List.length_append]; omega
theorem mk_end2 (X : List Value) (xs : List Mk) (m0 m1 m2 : Int) : X ++ ints .u8 (mksB xs) ++ [.int .u8 32] ++ ints .u8 (bts (Lib.itoa m0)) ++ [.int .u8 64] ++ ints .u8 (bts (Lib.itoa m1)) ++ [.int .u8 (grv (m0, m1, m2))] = X ++ ints .u8 (mksB (xs ++ [(m0, m1, m2)])) := by
  rw [mksB_snoc]
  simp [mkB, ints]
theorem mk_len2 (N : Nat) (xs : List Mk) (m0 m1 m2 : Int) : N + (mksB xs).length + 1 + (bts (Lib.itoa m0)).length + 1 + (bts (Lib.itoa m1)).length + 1 = N + (mksB (xs ++ [(m0, m1, m2)])).length := by
  rw [mksB_snoc]
  simp [mkB]; omega

set_option maxHeartbeats 8000000 in
set_option maxRecDepth 100000 in
theorem specTell (xs : List Ob) (v : Value) (w : World) (h : RdO w v xs) (hok : ∀ x ∈ xs, OkO x) (hs : szOs xs ≤ 1048576) :
    Calls Tryd.prog 16 #[v] w fun e w' => ∃ v', e = .returned v' ∧ OwB w' w.heap.size v' (obsB xs) ∧ Below w.heap.size w w' := by
  obtain ⟨i0, hi, hz0, hz1, hz2⟩ := info_parts Tryd.info8
  obtain ⟨ao, cap, hv⟩ := h.val
  subst hv
  have AT := hide (fun k x (hk : xs[k]? = some x) => h.at hk)
  have HOK := hide hok
  have OKL := hide (fun k => obsB_length (xs.take k) (fun y hy => hok y (List.mem_of_mem_take hy)))
  have SZT := hide (fun k => szOs_take xs k)
  have GET := hide (show ∀ k, k < xs.length → ∃ y, xs[k]? = some y from fun k hk => ⟨_, List.getElem?_eq_getElem hk⟩)
  have SZS := hide (fun k x (hk : xs[k]? = some x) => szOs_take_succ hk)
  have TN := hide (show xs.take xs.length = xs from List.take_length)
  have SN := hide (fun k x (hk : xs[k]? = some x) => (show obsB (xs.take (k + 1)) = obsB (xs.take k) ++ obB x by rw [take_snoc hk, obsB_snoc]))
  have S0 := hide (show TSt w (w.alloc (.cells #[] 5)) (.slice (some ⟨w.heap.size, 0, none⟩) 0 0) 0 [] from ⟨World.ownsRow_made w #[] 0 (Nat.le_refl _) (Nat.zero_le _) rfl, (Below.refl w.heap.size w).alloc (Nat.le_refl _) (.cells #[] 5)⟩)
  generalize hN : xs.length = nn at *
  have HNN := hide hN
  clear h hok hN
  go_enter Tryd.func16, Tryd.ntmps16
  go_wp2_with fail
  generalize w.alloc (.cells #[] 5) = w1 at *
  go_loopw [3, 13] (fun bv iv wr => ∃ k : Nat, k ≤ nn ∧ iv = .int .i64 k ∧ TSt w wr bv (obsB (xs.take k)).length (ints .u8 (obsB (xs.take k)))) (fun _ iv _ => nn - (intOf iv).toNat)
  case atStart => exact ⟨0, Nat.zero_le _, rfl, S0.out⟩
  case round =>
    obtain ⟨k, hk, rfl, hst⟩ := hrel
    have ST := hide hst
    have hsw := hst.b.size
    by_cases hkn : k < nn
    · have hkn' : (k : Int) < (nn : Int) := by omega
      obtain ⟨x, hx⟩ := GET.out k hkn
      obtain ⟨b, off, cap2, hva, hcp, hat⟩ := AT.out k x hx
      obtain ⟨rfl, rfl⟩ : ao = some ⟨b, off, none⟩ ∧ cap = cap2 := by
        simp only [Value.slice.injEq] at hva; exact ⟨hva.1, hva.2.2⟩
      have hbl := hat.lt
      obtain ⟨vt, vm, ⟨a0, a1, a2, a3, a4, a5, a6, a7, a8, a9⟩, ⟨ta, tc, hvt⟩, ⟨ma, mc, hvm⟩, ht, hm, h1, h2⟩ := hat.cells
      subst hvt hvm
      have kc := fun o => hst.b.cell (p := ⟨b, o, none⟩) hbl
      have e0 := (kc _).trans a0
      have e1 := (kc _).trans a1
      have e2 := (kc _).trans a2
      have e3 := (kc _).trans a3
      have e4 := (kc _).trans a4
      have e5 := (kc _).trans a5
      have e6 := (kc _).trans a6
      have e7 := (kc _).trans a7
      have e8 := (kc _).trans a8
      have e9 := (kc _).trans a9
      have z1 := SZS.out k x hx
      have z2 := SZT.out (k + 1)
      have z3 := OKL.out k
      have z4 : (obsB (xs.take k)).length ≤ 187695104 := by omega
      have hb2 : b < wr.heap.size := by omega
      have z5 : x.t.length ≤ 1048576 ∧ x.m.length ≤ 1048576 := by unfold szO at z1; omega
      obtain ⟨z51, z52⟩ := z5
      have hcp2 : nn ≤ cap ∧ cap ≤ 9223372036854775807 := by have h9 := hcp; unfold maxLen at h9; omega
      have NX := hide (SN.out k x hx)
      have OK := hide (HOK.out x (List.mem_of_getElem? hx))
      have FIN := hide (show ∀ E : List Int, ints .u8 E ++ ints .u8 (bts (numB x.nums)) ++ ints .u8 (txB x.t) ++ ints .u8 (mksB x.m) ++ [.int .u8 10] = ints .u8 (E ++ obB x) from fun E => by
        rw [obB]; simp [ints])
      have FLN := hide (show ∀ E : List Int, E.length + (numB x.nums).length + (txB x.t).length + (mksB x.m).length + 1 = (E ++ obB x).length from fun E => by
        rw [obB]; simp only [List.length_append, bts_length, List.length_cons, List.length_nil]; omega)
      have RT := hide (fun (W : World) (hW : Below w.heap.size w W) => ht.below hW)
      have RM := hide (fun (W : World) (hW : Below w.heap.size w W) => hm.below hW (Nat.le_refl _))
      have NUL := hide (fun j => numB_length (x.nums.take j) (fun z hz => OK.out.nums z (List.mem_of_mem_take hz)))
      have NUG := hide (show ∀ j, j < 8 → ∃ z, x.nums[j]? = some z ∧ I64 z from fun j hj => ⟨_, List.getElem?_eq_getElem (show j < x.nums.length from hj), OK.out.nums _ (List.getElem_mem _)⟩)
      have NU8 := hide (show x.nums.take 8 = x.nums from rfl)
      have NUI := hide (show x.nums = [x.c, x.x, x.y, x.l, x.n, x.u, x.r, x.o] from rfl)
      have HX0 := hide (show x.t.length = 0 → txB x.t = [] from fun e => by unfold txB; rw [if_pos e])
      have HX1 := hide (show ¬ x.t.length = 0 → txB x.t = 32 :: 58 :: hexB (encs x.t) from fun e => by unfold txB; rw [if_neg e])
      have EN := hide (fun (W : World) (hW : Below w.heap.size w W) => specEnc x.t _ W (ht.below hW) z51 (fun z hz => OK.out.tx z hz))
      have ENL := hide (encs_length x.t)
      have ENB := hide (encs_byte x.t)
      have ELP := hide (show ¬ x.t.length = 0 → 0 < (encs x.t).length from encs_pos x.t)
      have TXL := hide (txB_length x.t)
      have MKL := hide (fun k => mksB_length (x.m.take k) (fun y hy => OK.out.mks y (List.mem_of_mem_take hy)))
      have HMR := hide OK.out.mks
      have MGET := hide (show ∀ k, k < x.m.length → ∃ y, x.m[k]? = some y from fun k hk => ⟨_, List.getElem?_eq_getElem hk⟩)
      have MNE := hide (show ∀ k, k < x.m.length → x.m ≠ [] from fun k hk e => by rw [e] at hk; simp at hk)
      have MTN := hide (show x.m.take x.m.length = x.m from List.take_length)
      generalize htn : x.t.length = tn at *
      generalize hmn : x.m.length = mn at *
      have HMN := hide hmn
      generalize hnu : x.nums = nums at *
      obtain ⟨xc, xx, xy, xt, xm, xl, xn, xu, xr, xo⟩ := x
      simp only at *
      generalize hE : obsB (xs.take k) = E at *
      have ST2 := hide ((ST.out.alloc (.cells #[.int .i64 xc, .int .i64 xx, .int .i64 xy, .slice ta tn tc, .slice ma mn mc, .int .i64 xl, .int .i64 xn, .int .i64 xu, .int .i64 xr, .int .i64 xo] 89)).alloc (.cells #[.int .i64 xc, .int .i64 xx, .int .i64 xy, .int .i64 xl, .int .i64 xn, .int .i64 xu, .int .i64 xr, .int .i64 xo] 3))
      have KB := hide (show ((wr.alloc (.cells #[.int .i64 xc, .int .i64 xx, .int .i64 xy, .slice ta tn tc, .slice ma mn mc, .int .i64 xl, .int .i64 xn, .int .i64 xu, .int .i64 xr, .int .i64 xo] 89)).alloc (.cells #[.int .i64 xc, .int .i64 xx, .int .i64 xy, .int .i64 xl, .int .i64 xn, .int .i64 xu, .int .i64 xr, .int .i64 xo] 3)).heap[wr.heap.size]? = some (.cells #[.int .i64 xc, .int .i64 xx, .int .i64 xy, .slice ta tn tc, .slice ma mn mc, .int .i64 xl, .int .i64 xn, .int .i64 xu, .int .i64 xr, .int .i64 xo] 89 (0, 0)) from alloc_old (heap_alloc_new _ _))
      have KN := hide (show ((wr.alloc (.cells #[.int .i64 xc, .int .i64 xx, .int .i64 xy, .slice ta tn tc, .slice ma mn mc, .int .i64 xl, .int .i64 xn, .int .i64 xu, .int .i64 xr, .int .i64 xo] 89)).alloc (.cells #[.int .i64 xc, .int .i64 xx, .int .i64 xy, .int .i64 xl, .int .i64 xn, .int .i64 xu, .int .i64 xr, .int .i64 xo] 3)).heap[wr.heap.size + 1]? = some (.cells (ints .i64 nums).toArray 3 (0, 0)) from (new2 _ _ _).trans (by rw [NUI.out]; exact heap_alloc_new _ _))
      clear hva hcp a0 a1 a2 a3 a4 a5 a6 a7 a8 a9 kc hx z1 z2 z3 ht hm h1 h2 hst hE htn hmn hnu ST OK SZS AT HOK S0
      go_wp2_with fail
      generalize (wr.alloc (.cells #[.int .i64 xc, .int .i64 xx, .int .i64 xy, .slice ta tn tc, .slice ma mn mc, .int .i64 xl, .int .i64 xn, .int .i64 xu, .int .i64 xr, .int .i64 xo] 89)).alloc (.cells #[.int .i64 xc, .int .i64 xx, .int .i64 xy, .int .i64 xl, .int .i64 xn, .int .i64 xu, .int .i64 xr, .int .i64 xo] 3) = wa at *
      generalize wr.heap.size = ob at *
      clear e0 e1 e2 e3 e4 e5 e6 e7 e8 e9
      obtain ⟨a1, n1, c1, hv3⟩ := ST2.out.val
      subst hv3
      go_loopw [3, 35] (fun bv iv wz => ∃ j : Nat, j ≤ 8 ∧ iv = .int .i64 j ∧ TSt w wz bv (E.length + (numB (nums.take j)).length) (ints .u8 E ++ ints .u8 (bts (numB (nums.take j)))) ∧ wz.heap[ob]? = some (.cells #[.int .i64 xc, .int .i64 xx, .int .i64 xy, .slice ta tn tc, .slice ma mn mc, .int .i64 xl, .int .i64 xn, .int .i64 xu, .int .i64 xr, .int .i64 xo] 89 (0, 0)) ∧ wz.heap[ob + 1]? = some (.cells (ints .i64 nums).toArray 3 (0, 0))) (fun _ iv _ => 8 - (intOf iv).toNat)
      case atStart => exact ⟨0, by omega, rfl, by simpa [numB, bts, ints] using ST2.out, KB.out, KN.out⟩
      case round =>
        obtain ⟨j, hj, rfl, hst, hkb, hkn2⟩ := hrel
        have ST := hide hst
        have KB2 := hide hkb
        have KN2 := hide hkn2
        have sw := hst.b.size
        obtain ⟨w2, hw2⟩ : ∃ q, q = wr := ⟨_, rfl⟩
        subst hw2
        have zl := NUL.out j
        have zl2 : (numB (nums.take j)).length ≤ 176 := by have := List.length_take_le j nums; omega
        clear zl
        by_cases hj8 : j < 8
        · have hj8' : (j : Int) < 8 := by omega
          obtain ⟨z, hz, hzr⟩ := NUG.out j hj8
          have cz : w2.cell? ⟨ob + 1, j, none⟩ = some (.int .i64 z) := by
            rw [cell_of_row w2 _ j _ _ _ hkn2]; simp [ints, hz]
          have hnl : ob + 1 < w2.heap.size := (Array.getElem?_eq_some_iff.1 hkn2).1
          have hzr' : -9223372036854775808 ≤ z ∧ z ≤ 9223372036854775807 := hzr
          by_cases hj0 : j = 0
          · subst hj0
            have P1 := hide (num_put0 (E := ints .u8 E) hz)
            have P2 := hide (num_len0 hz E.length)
            have E0 := hide (show numB (nums.take 0) = [] from rfl)
            have ST1 := hide (show TSt w w2 _ E.length (ints .u8 E) from (by have h9 := ST.out; rw [E0.out] at h9; simpa [bts, ints] using h9))
            clear hst hkb hkn2 hz hzr ST
            go_wp2_with fail
            refine (decL z w2 hzr').mono ?_
            rintro e w3 ⟨vD, rfl, hoD, hbD⟩
            obtain ⟨gD, cD, rfl⟩ := ownB_shape hoD (itoa_pos z)
            have SC := hide (ownB_cells hoD)
            have SM := hide (ST1.out.below hbD)
            have sM := SM.out.b.size
            have KB2M := hide (K8.of_below hbD _ _ _ _ (by decide) KB2.out)
            have KN2M := hide (K8.of_below hbD _ _ _ _ (by decide) KN2.out)
            have lD : (bts (Lib.itoa z)).length ≤ 21 := by rw [bts_length]; exact Lib.itoa_length_le z hzr'.1 hzr'.2
            clear hoD hbD ST1 KB2 KN2
            go_wp2_with (at_builtin; refine wpList_append_own _ rfl _ _ 44 rfl w.heap.size 5 i0 (.int .u8 0) 1 1 Tryd.underlying44 hi hz0 hz1 hz2 rfl (by decide) _ (E.length) _ rfl (by exact SM.out.o) ⟨gD, 0, none⟩ (bts (Lib.itoa z)).length cD (ints .u8 (bts (Lib.itoa z))) rfl (by rw [ints_length, Nat.mul_one]) (by exact SC.out) (ints_one .u8 _) (by unfold maxLen; omega) (by omega) (by omega) ?_; intro v4 w4 hoN hgN _; refine Hid.out ?_)
            refine Lib.hid ?_
            have AP := SM.out.app hoN hgN
            have ST4 := hide AP.1
            have KB4 := hide (AP.2 _ _ _ _ (by decide) KB2M.out)
            have KN4 := hide (AP.2 _ _ _ _ (by decide) KN2M.out)
            have sw4 := ST4.out.b.size
            clear hoN hgN AP SC SM sM KB2M KN2M
            go_wp2
            go_roundw
            case rel =>
              refine ⟨1, by omega, by go_num, ?_, KB4.out, KN4.out⟩
              rw [← P1.out, ← P2.out]
              exact ST4.out
            case measure => (simp [intOf]; try omega)
          · have hj0' : (0 : Int) < (j : Int) := by omega
            have P1 := hide (num_put (E := ints .u8 E) hj0 hz)
            have P2 := hide (num_len hj0 hz E.length)
            generalize hNj : E.length + (numB (nums.take j)).length = Nj at *
            generalize ints .u8 E ++ ints .u8 (bts (numB (nums.take j))) = Xj at *
            have hNb : Nj ≤ 200000000 := by omega
            clear hst hkb hkn2 hz hzr hNj
            have NC := hide (newcells w2 5 [.int .u8 32])
            go_wp2_with (at_builtin; refine wpList_append_own _ rfl _ _ 44 rfl w.heap.size 5 i0 (.int .u8 0) 1 1 Tryd.underlying44 hi hz0 hz1 hz2 rfl (by decide) _ (Nj) _ rfl (by exact World.ownsRow.alloc ST.out.o _) ⟨w2.heap.size, 0, none⟩ 1 1 [.int .u8 32] rfl rfl (by exact NC.out) (by intro u hu; simp at hu; subst hu; rfl) (by unfold maxLen; omega) (by omega) (by simp; omega) ?_; intro v3 w3 hoN hgN _; refine Hid.out ?_)
            refine Lib.hid ?_
            have AP := ST.out.appU hoN hgN
            have ST3 := hide AP.1
            have KB3 := hide (AP.2 _ _ _ _ (by decide) KB2.out)
            have KN3 := hide (AP.2 _ _ _ _ (by decide) KN2.out)
            have sw3 := ST3.out.b.size
            clear hoN hgN AP NC ST KB2 KN2
            go_wp2_with fail
            refine (decL z w3 hzr').mono ?_
            rintro e w4 ⟨vD, rfl, hoD, hbD⟩
            obtain ⟨gD, cD, rfl⟩ := ownB_shape hoD (itoa_pos z)
            have SC := hide (ownB_cells hoD)
            have SM := hide (ST3.out.below hbD)
            have sM := SM.out.b.size
            have KB3M := hide (K8.of_below hbD _ _ _ _ (by decide) KB3.out)
            have KN3M := hide (K8.of_below hbD _ _ _ _ (by decide) KN3.out)
            have lD : (bts (Lib.itoa z)).length ≤ 21 := by rw [bts_length]; exact Lib.itoa_length_le z hzr'.1 hzr'.2
            clear hoD hbD ST3 KB3 KN3
            go_wp2_with (at_builtin; refine wpList_append_own _ rfl _ _ 44 rfl w.heap.size 5 i0 (.int .u8 0) 1 1 Tryd.underlying44 hi hz0 hz1 hz2 rfl (by decide) _ (Nj + 1) _ rfl (by exact SM.out.o) ⟨gD, 0, none⟩ (bts (Lib.itoa z)).length cD (ints .u8 (bts (Lib.itoa z))) rfl (by rw [ints_length, Nat.mul_one]) (by exact SC.out) (ints_one .u8 _) (by unfold maxLen; omega) (by omega) (by omega) ?_; intro v5 w5 hoN hgN _; refine Hid.out ?_)
            refine Lib.hid ?_
            have AP := SM.out.app hoN hgN
            have ST5 := hide AP.1
            have KB5 := hide (AP.2 _ _ _ _ (by decide) KB3M.out)
            have KN5 := hide (AP.2 _ _ _ _ (by decide) KN3M.out)
            have sw5 := ST5.out.b.size
            clear hoN hgN AP SC SM sM KB3M KN3M
            go_wp2
            go_roundw
            case rel =>
              refine ⟨j + 1, by omega, by go_num, ?_, KB5.out, KN5.out⟩
              rw [← P1.out, ← P2.out]
              exact ST5.out
            case measure => (simp [intOf]; try omega)
        · obtain rfl : j = 8 := by omega
          have hj8' : ¬ ((8 : Nat) : Int) < 8 := by omega
          have hj8'' : ¬ (8 : Int) < 8 := by omega
          rw [NU8.out] at ST zl2
          generalize hN1 : E.length + (numB nums).length = N1 at *
          generalize hX1 : ints .u8 E ++ ints .u8 (bts (numB nums)) = X1 at *
          have HN1 := hide hN1
          have HX1' := hide hX1
          have hN1b : N1 ≤ 200000000 := by omega
          have zo : ob < w2.heap.size := (Array.getElem?_eq_some_iff.1 hkb).1
          have c3 : w2.cell? ⟨ob, 3, none⟩ = some (.slice ta tn tc) := by rw [cell_of_row w2 _ 3 _ _ _ hkb]; rfl
          obtain ⟨a2, n2, c2, hv3⟩ := hst.val
          subst hv3
          clear hst hkb hkn2 KN2 hN1 hX1 ST2 KB KN NUL NUG NU8 NUI
          go_upto_if 53 with fail
          go_cut [3] from 14 to 99 (fun s3 wc => TSt w wc s3 (N1 + (txB xt).length) (X1 ++ ints .u8 (txB xt)) ∧ wc.heap[ob]? = some (.cells #[.int .i64 xc, .int .i64 xx, .int .i64 xy, .slice ta tn tc, .slice ma mn mc, .int .i64 xl, .int .i64 xn, .int .i64 xu, .int .i64 xr, .int .i64 xo] 89 (0, 0)))
          case first =>
            by_cases ht0 : tn = 0
            · have e0 := hide (HX0.out ht0)
              subst ht0
              go_wp2_with fail
              go_meet
              rw [e0.out]
              exact ⟨by simpa [ints] using ST.out, KB2.out⟩
            · have ht0' : (0 : Int) < (tn : Int) := by omega
              have e1 := hide (HX1.out ht0)
              clear HX0 HX1 MKL MGET MNE MTN RM HMR FIN FLN
              have NC := hide (newcells w2 5 [.int .u8 32, .int .u8 58])
              go_wp2_with (at_builtin; refine wpList_append_own _ rfl _ _ 44 rfl w.heap.size 5 i0 (.int .u8 0) 1 1 Tryd.underlying44 hi hz0 hz1 hz2 rfl (by decide) _ (N1) _ rfl (by exact World.ownsRow.alloc ST.out.o _) ⟨w2.heap.size, 0, none⟩ 2 2 [.int .u8 32, .int .u8 58] rfl rfl (by exact NC.out) (by intro u hu; simp at hu; rcases hu with rfl | rfl <;> rfl) (by unfold maxLen; omega) (by omega) (by simp; omega) ?_; intro v3 w3 hoN hgN _; refine Hid.out ?_)
              refine Lib.hid ?_
              have AP := ST.out.appU hoN hgN
              have ST3 := hide AP.1
              have KB3 := hide (AP.2 _ _ _ _ (by decide) KB2.out)
              have sw3 := ST3.out.b.size
              clear hoN hgN AP NC ST KB2
              have c3' : w3.cell? ⟨ob, 3, none⟩ = some (.slice ta tn tc) := by rw [cell_of_row w3 _ 3 _ _ _ KB3.out]; rfl
              have zo3 : ob < w3.heap.size := (Array.getElem?_eq_some_iff.1 KB3.out).1
              go_wp2_with fail
              refine (EN.out w3 ST3.out.b).mono ?_
              rintro e w4 ⟨vE, rfl, hoE, hbE⟩
              have ST4 := hide (ST3.out.below hbE)
              have KB4 := hide (K8.of_below hbE _ _ _ _ (by decide) KB3.out)
              have TH := hide (toHexL (encs xt) vE w4 (Rd.of_owns hoE) (by have := ENL.out; omega) ENB.out)
              clear hoE hbE
              go_wp2_with fail
              refine TH.out.mono ?_
              rintro e w5 ⟨vH, rfl, hoH, hbH⟩
              have HL := hide (hexB_length (encs xt))
              have ST5 := hide (ST4.out.below hbH)
              have s5 := ST5.out.b.size
              have KB5 := hide (K8.of_below hbH _ _ _ _ (by decide) KB4.out)
              obtain ⟨gH, cH, rfl⟩ := ownB_shape hoH (by rw [HL.out]; have := ELP.out ht0; omega)
              have SC := hide (ownB_cells hoH)
              have hlH : (hexB (encs xt)).length ≤ 8 * 1048576 := by rw [HL.out]; have := ENL.out; omega
              generalize hHX : hexB (encs xt) = HX at *
              clear hoH hbH ST3 KB3 ST4 KB4 TH HL
              go_wp2_with (at_builtin; refine wpList_append_own _ rfl _ _ 44 rfl w.heap.size 5 i0 (.int .u8 0) 1 1 Tryd.underlying44 hi hz0 hz1 hz2 rfl (by decide) _ (N1 + 2) _ rfl (by exact ST5.out.o) ⟨gH, 0, none⟩ HX.length cH (ints .u8 HX) rfl (by rw [ints_length, Nat.mul_one]) (by exact SC.out) (ints_one .u8 _) (by unfold maxLen; omega) (by omega) (by omega) ?_; intro v6 w6 hoN hgN _; refine Hid.out ?_)
              refine Lib.hid ?_
              have AP := ST5.out.app hoN hgN
              have ST6 := hide AP.1
              have KB6 := hide (AP.2 _ _ _ _ (by decide) KB5.out)
              clear hoN hgN AP SC ST5 KB5
              go_wp2_with fail
              go_meet
              rw [e1.out]
              refine ⟨?_, KB6.out⟩
              have h9 := ST6.out
              have e9 : N1 + (32 :: 58 :: HX).length = N1 + 2 + HX.length := by simp only [List.length_cons]; omega
              rw [e9]
              simpa [ints] using h9
          case rest =>
            obtain ⟨hor, hkr⟩ := hcut
            have OR := hide hor
            have zr : ob < wc.heap.size := (Array.getElem?_eq_some_iff.1 hkr).1
            have c4 : wc.cell? ⟨ob, 4, none⟩ = some (.slice ma mn mc) := by rw [cell_of_row wc _ 4 _ _ _ hkr]; rfl
            obtain ⟨a9, n9, c9, hv9⟩ := hor.val
            subst hv9
            have hN0b : N1 + (txB xt).length ≤ 300000000 := by have := TXL.out; omega
            generalize hN0 : N1 + (txB xt).length = N0 at *
            generalize hX0 : X1 ++ ints .u8 (txB xt) = X0 at *
            have HN0 := hide hN0
            have HX0' := hide hX0
            obtain ⟨wq, hwq⟩ : ∃ q, q = wc := ⟨_, rfl⟩
            subst hwq
            clear hor hkr hN0 hX0 ST KB2 c3 EN ENL ENB HX0 HX1 RT TXL
            go_wp2_with fail
            go_loopw [3, 66] (fun bv iv wz => ∃ i : Nat, i ≤ mn ∧ iv = .int .i64 i ∧ TSt w wz bv (N0 + (mksB (xm.take i)).length) (X0 ++ ints .u8 (mksB (xm.take i)))) (fun _ iv _ => mn - (intOf iv).toNat)
            case atStart => exact ⟨0, Nat.zero_le _, rfl, by simpa [mksB, ints] using OR.out⟩
            case round =>
              obtain ⟨i, hi2, rfl, hst⟩ := hrel
              have ST := hide hst
              have s3 := hst.b.size
              obtain ⟨w3, hw3⟩ : ∃ q, q = wr := ⟨_, rfl⟩
              subst hw3
              have hml9 := MKL.out i
              have hml8 : (mksB (xm.take i)).length ≤ 45 * 1048576 := by
                have := List.length_take_le i xm
                omega
              obtain ⟨a3, n3, c3, hv3⟩ := hst.val
              subst hv3
              clear hml9
              by_cases him : i < mn
              · have him' : (i : Int) < (mn : Int) := by omega
                obtain ⟨mk, mo, cap3, hva, hcp, hbl3, hcell⟩ := (RM.out w3 hst.b).at (MNE.out i him)
                obtain ⟨rfl, rfl⟩ : ma = some ⟨mk, mo, none⟩ ∧ mc = cap3 := by
                  simp only [Value.slice.injEq] at hva; exact ⟨hva.1, hva.2.2⟩
                obtain ⟨y, hy⟩ := MGET.out i him
                obtain ⟨e0, e1, e2⟩ := hcell i y hy
                have hyr := HMR.out y (List.mem_of_getElem? hy)
                have HTK := hide (take_snoc hy)
                obtain ⟨m0, m1, m2⟩ := y
                simp only at e0 e1 e2 hyr
                have ME := hide (mk_end2 X0 (xm.take i) m0 m1 m2)
                have MLn := hide (mk_len2 N0 (xm.take i) m0 m1 m2)
                rw [← HTK.out] at ME MLn
                have hr0 : -9223372036854775808 ≤ m0 ∧ m0 ≤ 9223372036854775807 := hyr.1
                have hr1 : -9223372036854775808 ≤ m1 ∧ m1 ≤ 9223372036854775807 := hyr.2
                have hcp3 : mn ≤ mc ∧ mc ≤ 9223372036854775807 := by have h9 := hcp.2; unfold maxLen at h9; rw [HMN.out] at h9; exact h9
                have hmk : mk < w3.heap.size := by omega
                have HGV := hide (show grv (m0, m1, m2) = if m2 = 0 then 76 else 82 from rfl)
                generalize grv (m0, m1, m2) = gv at ME HGV
                generalize hM2 : ints .u8 (mksB (xm.take (i + 1))) = M2 at *
                generalize hL2 : (mksB (xm.take (i + 1))).length = L2 at *
                have HM2 := hide hM2
                have HL2 := hide hL2
                generalize hNm : N0 + (mksB (xm.take i)).length = Nm at *
                generalize X0 ++ ints .u8 (mksB (xm.take i)) = Xm at *
                have hNmb : Nm ≤ 400000000 := by omega
                have ST4 := hide (ST.out.alloc (.cells #[.int .i64 m0, .int .i64 m1, .int .i64 m2] 95))
                have KM4 := hide (heap_alloc_new w3 (.cells #[.int .i64 m0, .int .i64 m1, .int .i64 m2] 95))
                have s4 := ST4.out.b.size
                clear hst hva hcp hcell hy hyr hNm ST hM2 hL2
                go_upto_region 18 with fail
                generalize w3.alloc (.cells #[.int .i64 m0, .int .i64 m1, .int .i64 m2] 95) = w4 at *
                generalize w3.heap.size = mb at *
                clear e0 e1 e2
                have NC := hide (newcells w4 5 [.int .u8 32])
                go_wp2_with (at_builtin; refine wpList_append_own _ rfl _ _ 44 rfl w.heap.size 5 i0 (.int .u8 0) 1 1 Tryd.underlying44 hi hz0 hz1 hz2 rfl (by decide) _ (Nm) _ rfl (by exact World.ownsRow.alloc ST4.out.o _) ⟨w4.heap.size, 0, none⟩ 1 1 [.int .u8 32] rfl rfl (by exact NC.out) (by intro u hu; simp at hu; subst hu; rfl) (by unfold maxLen; omega) (by omega) (by simp; omega) ?_; intro v5 w5 hoN hgN _; refine Hid.out ?_)
                refine Lib.hid ?_
                have AP := ST4.out.appU hoN hgN
                have ST5 := hide AP.1
                have KM5 := hide (AP.2 _ _ _ _ (by decide) KM4.out)
                have sw5 := ST5.out.b.size
                clear hoN hgN AP NC ST4 KM4
                have q5 : w5.cell? ⟨mb, 0, none⟩ = some (.int .i64 m0) := by rw [cell_of_row w5 _ 0 _ _ _ KM5.out]; rfl
                go_wp2_with fail
                refine (decL m0 w5 hr0).mono ?_
                rintro e w6 ⟨vD, rfl, hoD, hbD⟩
                obtain ⟨gD, cD, rfl⟩ := ownB_shape hoD (itoa_pos m0)
                have SC := hide (ownB_cells hoD)
                have SM := hide (ST5.out.below hbD)
                have sM := SM.out.b.size
                have KM5M := hide (K8.of_below hbD _ _ _ _ (by decide) KM5.out)
                have lD : (bts (Lib.itoa m0)).length ≤ 21 := by rw [bts_length]; exact Lib.itoa_length_le m0 hr0.1 hr0.2
                clear hoD hbD ST5 KM5
                go_wp2_with (at_builtin; refine wpList_append_own _ rfl _ _ 44 rfl w.heap.size 5 i0 (.int .u8 0) 1 1 Tryd.underlying44 hi hz0 hz1 hz2 rfl (by decide) _ (Nm + 1) _ rfl (by exact SM.out.o) ⟨gD, 0, none⟩ (bts (Lib.itoa m0)).length cD (ints .u8 (bts (Lib.itoa m0))) rfl (by rw [ints_length, Nat.mul_one]) (by exact SC.out) (ints_one .u8 _) (by unfold maxLen; omega) (by omega) (by omega) ?_; intro v7 w7 hoN hgN _; refine Hid.out ?_)
                refine Lib.hid ?_
                have AP := SM.out.app hoN hgN
                have ST7 := hide AP.1
                have KM7 := hide (AP.2 _ _ _ _ (by decide) KM5M.out)
                have sw7 := ST7.out.b.size
                clear hoN hgN AP SC SM sM KM5M
                have NC := hide (newcells w7 5 [.int .u8 64])
                go_wp2_with (at_builtin; refine wpList_append_own _ rfl _ _ 44 rfl w.heap.size 5 i0 (.int .u8 0) 1 1 Tryd.underlying44 hi hz0 hz1 hz2 rfl (by decide) _ (Nm + 1 + (bts (Lib.itoa m0)).length) _ rfl (by exact World.ownsRow.alloc ST7.out.o _) ⟨w7.heap.size, 0, none⟩ 1 1 [.int .u8 64] rfl rfl (by exact NC.out) (by intro u hu; simp at hu; subst hu; rfl) (by unfold maxLen; omega) (by omega) (by simp; omega) ?_; intro v8 w8 hoN hgN _; refine Hid.out ?_)
                refine Lib.hid ?_
                have AP := ST7.out.appU hoN hgN
                have ST8 := hide AP.1
                have KM8 := hide (AP.2 _ _ _ _ (by decide) KM7.out)
                have sw8 := ST8.out.b.size
                clear hoN hgN AP NC ST7 KM7
                have q8 : w8.cell? ⟨mb, 1, none⟩ = some (.int .i64 m1) := by rw [cell_of_row w8 _ 1 _ _ _ KM8.out]; rfl
                go_wp2_with fail
                refine (decL m1 w8 hr1).mono ?_
                rintro e w9 ⟨vD, rfl, hoD, hbD⟩
                obtain ⟨gD, cD, rfl⟩ := ownB_shape hoD (itoa_pos m1)
                have SC := hide (ownB_cells hoD)
                have SM := hide (ST8.out.below hbD)
                have sM := SM.out.b.size
                have KM8M := hide (K8.of_below hbD _ _ _ _ (by decide) KM8.out)
                have lD : (bts (Lib.itoa m1)).length ≤ 21 := by rw [bts_length]; exact Lib.itoa_length_le m1 hr1.1 hr1.2
                clear hoD hbD ST8 KM8
                go_wp2_with (at_builtin; refine wpList_append_own _ rfl _ _ 44 rfl w.heap.size 5 i0 (.int .u8 0) 1 1 Tryd.underlying44 hi hz0 hz1 hz2 rfl (by decide) _ (Nm + 1 + (bts (Lib.itoa m0)).length + 1) _ rfl (by exact SM.out.o) ⟨gD, 0, none⟩ (bts (Lib.itoa m1)).length cD (ints .u8 (bts (Lib.itoa m1))) rfl (by rw [ints_length, Nat.mul_one]) (by exact SC.out) (ints_one .u8 _) (by unfold maxLen; omega) (by omega) (by omega) ?_; intro vA wA hoN hgN _; refine Hid.out ?_)
                refine Lib.hid ?_
                have AP := SM.out.app hoN hgN
                have STA := hide AP.1
                have KMA := hide (AP.2 _ _ _ _ (by decide) KM8M.out)
                have swA := STA.out.b.size
                clear hoN hgN AP SC SM sM KM8M
                have qa : wA.cell? ⟨mb, 2, none⟩ = some (.int .i64 m2) := by rw [cell_of_row wA _ 2 _ _ _ KMA.out]; rfl
                generalize hNN : Nm + 1 + (bts (Lib.itoa m0)).length + 1 + (bts (Lib.itoa m1)).length = NN at *
                have hNNb : NN ≤ 400000100 := by omega
                by_cases hg : m2 = 0
                · subst hg
                  have hgv : gv = 76 := by rw [HGV.out, if_pos rfl]
                  subst hgv
                  have NC := hide (newcells wA 5 [.int .u8 76])
                  go_wp2_with (at_builtin; refine wpList_append_own _ rfl _ _ 44 rfl w.heap.size 5 i0 (.int .u8 0) 1 1 Tryd.underlying44 hi hz0 hz1 hz2 rfl (by decide) _ (NN) _ rfl (by exact World.ownsRow.alloc STA.out.o _) ⟨wA.heap.size, 0, none⟩ 1 1 [.int .u8 76] rfl rfl (by exact NC.out) (by intro u hu; simp at hu; subst hu; rfl) (by unfold maxLen; omega) (by omega) (by simp; omega) ?_; intro vB wB hoN hgN _; refine Hid.out ?_)
                  refine Lib.hid ?_
                  have AP := STA.out.appU hoN hgN
                  have STB := hide AP.1
                  have swB := STB.out.b.size
                  clear hoN hgN AP NC STA 
                  go_wp2
                  go_roundw
                  case rel =>
                    refine ⟨i + 1, by omega, by go_num, ?_⟩
                    rw [HM2.out, HL2.out, ← ME.out, ← MLn.out]
                    exact STB.out
                  case measure => (simp [intOf]; try omega)
                · have hg' : (m2 == 0) = false := by simpa using hg
                  have hgv : gv = 82 := by rw [HGV.out, if_neg hg]
                  subst hgv
                  have NC := hide (newcells wA 5 [.int .u8 82])
                  go_wp2_with (at_builtin; refine wpList_append_own _ rfl _ _ 44 rfl w.heap.size 5 i0 (.int .u8 0) 1 1 Tryd.underlying44 hi hz0 hz1 hz2 rfl (by decide) _ (NN) _ rfl (by exact World.ownsRow.alloc STA.out.o _) ⟨wA.heap.size, 0, none⟩ 1 1 [.int .u8 82] rfl rfl (by exact NC.out) (by intro u hu; simp at hu; subst hu; rfl) (by unfold maxLen; omega) (by omega) (by simp; omega) ?_; intro vB wB hoN hgN _; refine Hid.out ?_)
                  refine Lib.hid ?_
                  have AP := STA.out.appU hoN hgN
                  have STB := hide AP.1
                  have swB := STB.out.b.size
                  clear hoN hgN AP NC STA 
                  go_wp2
                  go_roundw
                  case rel =>
                    refine ⟨i + 1, by omega, by go_num, ?_⟩
                    rw [HM2.out, HL2.out, ← ME.out, ← MLn.out]
                    exact STB.out
                  case measure => (simp [intOf]; try omega)
              · obtain rfl : i = mn := by omega
                have hge : ¬ (i : Int) < (i : Int) := by omega
                rw [MTN.out] at ST hml8
                clear hst
                have NC := hide (newcells w3 5 [.int .u8 10])
                go_wp2_with (at_builtin; refine wpList_append_own _ rfl _ _ 44 rfl w.heap.size 5 i0 (.int .u8 0) 1 1 Tryd.underlying44 hi hz0 hz1 hz2 rfl (by decide) _ (N0 + (mksB xm).length) _ rfl (by exact World.ownsRow.alloc ST.out.o _) ⟨w3.heap.size, 0, none⟩ 1 1 [.int .u8 10] rfl rfl (by exact NC.out) (by intro u hu; simp at hu; subst hu; rfl) (by unfold maxLen; omega) (by omega) (by simp; omega) ?_; intro vZ wZ hoN hgN _; refine Hid.out ?_)
                refine Lib.hid ?_
                have AP := ST.out.appU hoN hgN
                have STZ := hide AP.1
                have swZ := STZ.out.b.size
                clear hoN hgN AP NC ST 
                go_wp2
                go_roundw
                case rel =>
                  refine ⟨k + 1, by omega, by go_num, ?_⟩
                  rw [NX.out, ← FIN.out, ← FLN.out, HX1'.out, HN1.out, HX0'.out, HN0.out]
                  exact STZ.out
                case measure => (simp [intOf]; try omega)
    · obtain rfl : k = nn := by omega
      have hge : ¬ (k : Int) < (k : Int) := by omega
      rw [TN.out] at ST
      clear hst
      go_wp2
      go_ret
      exact ⟨_, rfl, ST.out.o, ST.out.b⟩
end Go.Proofs.YtbgngikejgihgaeDoor
