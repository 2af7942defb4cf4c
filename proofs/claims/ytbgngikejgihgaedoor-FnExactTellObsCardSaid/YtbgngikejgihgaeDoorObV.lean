import Derived.Test.YtbgngikejgihgaeDoorObU
namespace Go.Proofs.YtbgngikejgihgaeDoor
open Go Go.RowKit
set_option linter.unusedVariables false

theorem NestG.off {e t : TypeId} {size : Nat} {w w' : World} {lo hi b : Nat} {vs : List Value} {cs : List (List Value)} {ns : List Nat} {cb : Array Value} {fz : Nat × Nat} (h : NestG e size w lo hi vs cs ns) (hb : w.heap[b]? = some (.cells cb t fz)) (hne : e ≠ t) (hf : ∀ q, q ≠ b → w'.heap[q]? = w.heap[q]?) : NestG e size w' lo hi vs cs ns :=
  ⟨h.len, h.len2, fun i v c n hv hc hn => owns_of_block (h.own i v c n hv hc hn) (fun q hq => hf q (fun e1 => by
    subst e1
    exact own_offM (h.own i v c n hv hc hn) hb hne hq.symm)), h.bl, h.ne⟩
theorem NestG.mono {e : TypeId} {size : Nat} {w : World} {lo hi hi' : Nat} {vs : List Value} {cs : List (List Value)} {ns : List Nat} (h : NestG e size w lo hi vs cs ns) (hh : hi ≤ hi') : NestG e size w lo hi' vs cs ns :=
  ⟨h.len, h.len2, h.own, fun v hv q hq => Nat.lt_of_lt_of_le (h.bl v hv q hq) hh, h.ne⟩
theorem own_blk {w : World} {base g n cap : Nat} {e : TypeId} {size : Nat} {xs : List Value} (h : w.ownsRow base e size (.slice (some ⟨g, 0, none⟩) n cap) n xs) : ∃ cs fz, w.heap[g]? = some (.cells cs e fz) := by
  rcases h.2 with ⟨e1, _⟩ | ⟨g', cap', cur, e1, _, hg, _⟩
  · cases e1
  · simp only [Value.slice.injEq, Option.some.injEq, Addr.mk.injEq] at e1
    obtain ⟨⟨rfl, _⟩, _⟩ := e1
    exact ⟨_, _, hg⟩

set_option maxHeartbeats 4000000 in
set_option maxRecDepth 100000 in
theorem toObsL (xs : List Ob) (v : Value) (w : World) (h : RdO w v xs) (hs : szOs xs ≤ 1048576) :
    Calls Tryd.prog 17 #[v] w fun e w' => e = .returned (.slice (some ⟨w.heap.size, 0, none⟩) xs.length xs.length) ∧ (∃ vts vms, OwO w' w.heap.size w'.heap.size (.slice (some ⟨w.heap.size, 0, none⟩) xs.length xs.length) vts vms xs) ∧ Below w.heap.size w w' := by
  obtain ⟨i0, hi0, hz0, hz1, hz2⟩ := info_parts Tryd.infoOB
  obtain ⟨ao, cap, hv⟩ := h.val
  subst hv
  have hnl : xs.length ≤ 1048576 := by unfold szOs at hs; omega
  have AT := hide (fun k x (hk : xs[k]? = some x) => h.at hk)
  have GET := hide (show ∀ k, k < xs.length → ∃ y, xs[k]? = some y from fun k hk => ⟨_, List.getElem?_eq_getElem hk⟩)
  have SZS := hide (fun k x (hk : xs[k]? = some x) => szOs_take_succ hk)
  have SZT := hide (fun k => szOs_take xs k)
  have TN := hide (show xs.take xs.length = xs from List.take_length)
  generalize hN : xs.length = nn at *
  have HNN := hide hN
  clear h hN
  go_enter Tryd.func17, Tryd.ntmps17
  go_wp2_with (at_make; refine wpList_make_full _ rfl _ _ 46 rfl w.heap.size 89 i0 zOV 10 Tryd.underlying46 hi0 hz0 hz1 .i64 .i64 _ _ nn rfl rfl (by omega) (by omega) (by rw [hz2]; omega) (by unfold maxLen; omega) (Nat.le_refl _) ?_; intro w1 hown hgrow)
  rw [made_obs] at hown
  have B1 := hide ((Below.refl w.heap.size w).grown hgrow (Nat.le_refl _) (fun k hk => by cases hk))
  have O1 := hide hown
  clear hown hgrow
  go_loopw [4] (fun i wr => ∃ k : Nat, k ≤ nn ∧ i = .int .i64 k ∧ Below w.heap.size w wr ∧ ∃ us ms : List Value, us.length = k ∧ ms.length = k ∧ wr.ownsRow w.heap.size 89 10 (.slice (some ⟨w.heap.size, 0, none⟩) nn nn) nn (obVs (us ++ List.replicate (nn - k) (.slice none 0 0)) (ms ++ List.replicate (nn - k) (.slice none 0 0)) (xs.take k ++ List.replicate (nn - k) zOb)) ∧ NestG 21 1 wr w.heap.size wr.heap.size us ((xs.take k).map fun x => ints .i32 x.t) ((xs.take k).map fun x => x.t.length) ∧ NestG 95 3 wr w.heap.size wr.heap.size ms ((xs.take k).map fun x => mkVs x.m) ((xs.take k).map fun x => x.m.length))
    (fun i _ => nn - (intOf i).toNat)
  case atStart => exact ⟨0, Nat.zero_le _, rfl, B1.out, [], [], rfl, rfl, by simpa using O1.out, NestG.nil, NestG.nil⟩
  case round =>
    obtain ⟨k, hk, rfl, hb, us, ms, hus, hms, hrow, hnt, hnm⟩ := hrel
    have HB := hide hb
    have hsz := hb.size
    by_cases hlt : k < nn
    · obtain ⟨x, hx⟩ := GET.out k hlt
      obtain ⟨b, off, cap2, hva, hcp, hat⟩ := AT.out k x hx
      obtain ⟨rfl, rfl⟩ : ao = some ⟨b, off, none⟩ ∧ cap = cap2 := by
        simp only [Value.slice.injEq] at hva; exact ⟨hva.1, hva.2.2⟩
      have hbl := hat.lt
      have hat2 := hat.below hb
      obtain ⟨vt, vm, ⟨e0, e1, e2, e3, e4, e5, e6, e7, e8, e9⟩, ⟨ta, tc, hvt⟩, ⟨ma, mc, hvm⟩, ht, hm, h1, h2⟩ := hat2.cells
      have z1 := SZS.out k x hx
      have z2 := SZT.out (k + 1)
      have hb2 : b < wr.heap.size := by omega
      have hcp2 : nn ≤ cap ∧ cap ≤ 9223372036854775807 := by have h9 := hcp; unfold maxLen at h9; omega
      have TO := hide (toObL x vt vm wr ht hm (by unfold szO at z1; omega) (by unfold szO at z1; omega))
      subst hvt hvm
      have hLk : (xs.take k).length = k := by rw [List.length_take, HNN.out]; omega
      have hrep : ∀ (β : Type) (z : β), List.replicate (nn - k) z = z :: List.replicate (nn - (k + 1)) z := fun β z => by rw [show nn - k = (nn - (k + 1)) + 1 by omega, List.replicate_succ]
      rw [hrep, hrep] at hrow
      have HR := hide hrow
      have NT := hide hnt
      have NM := hide hnm
      have LK := hide hLk
      have US := hide hus
      have MS := hide hms
      have TS := hide (take_snoc hx)
      have OS := hide (fun (u m' : Value) => obVs_set (vs := us) (us := List.replicate (nn - (k + 1)) (.slice none 0 0)) (ms := ms) (ns := List.replicate (nn - (k + 1)) (.slice none 0 0)) (xs := xs.take k) (ys := List.replicate (nn - (k + 1)) zOb) (v := .slice none 0 0) (u := u) (m := .slice none 0 0) (m' := m') (x := zOb) (y := x) (by omega) (by omega))
      have hlt' : (k : Int) < nn := by omega
      have TX := hide (show (ints .i32 x.t, mkVs x.m) = (ints .i32 x.t, mkVs x.m) from rfl)
      generalize hit : ints .i32 x.t = it at *
      generalize him : mkVs x.m = im at *
      have HIT := hide hit
      have HIM := hide him
      generalize htn : x.t.length = tn at *
      generalize hmn : x.m.length = mn at *
      have HTN := hide htn
      have HMN := hide hmn
      clear hva hcp hx hb ht hm h1 h2 hat hat2 hrow hnt hnm hus hms hLk hrep z1 z2 htn hmn hit him TX
      go_wp2_with fail
      refine TO.out.mono ?_
      rintro e w3 ⟨g1, g2, hg1, hg2, hl1, hl2, rfl, ho1, ho2, hb3⟩
      have s3 := hb3.size
      have R3 := owns_below HR.out hb3 (Nat.le_refl _)
      have B3 := hide (HB.out.trans (hb3.mono hsz))
      have NT3 := hide (NT.out.frame (w' := w3) (fun q _ hq => hb3.block q hq))
      have NM3 := hide (NM.out.frame (w' := w3) (fun q _ hq => hb3.block q hq))
      have NT4 := hide (NT3.out.snoc (owns_base ho1 hsz) (hi' := w3.heap.size) (fun q hq => ⟨(ho1.lt q hq).1, (ho1.lt q hq).2⟩) s3)
      have NM4 := hide (NM3.out.snoc (owns_base ho2 hsz) (hi' := w3.heap.size) (fun q hq => ⟨(ho2.lt q hq).1, (ho2.lt q hq).2⟩) s3)
      obtain ⟨cb, fb, hcb⟩ := own_blk R3
      have CB := hide hcb
      obtain ⟨y0, p0⟩ := own_cellN R3 (k * 10) (by omega)
      obtain ⟨y1, p1⟩ := own_cellN R3 (k * 10 + 1) (by omega)
      obtain ⟨y2, p2⟩ := own_cellN R3 (k * 10 + 2) (by omega)
      obtain ⟨y3, p3⟩ := own_cellN R3 (k * 10 + 3) (by omega)
      obtain ⟨y4, p4⟩ := own_cellN R3 (k * 10 + 4) (by omega)
      obtain ⟨y5, p5⟩ := own_cellN R3 (k * 10 + 5) (by omega)
      obtain ⟨y6, p6⟩ := own_cellN R3 (k * 10 + 6) (by omega)
      obtain ⟨y7, p7⟩ := own_cellN R3 (k * 10 + 7) (by omega)
      obtain ⟨y8, p8⟩ := own_cellN R3 (k * 10 + 8) (by omega)
      obtain ⟨y9, p9⟩ := own_cellN R3 (k * 10 + 9) (by omega)
      have f0 : w3.frozen? ⟨w.heap.size, k * 10, none⟩ = false := R3.frozenAt _
      have f1 : w3.frozen? ⟨w.heap.size, k * 10 + 1, none⟩ = false := R3.frozenAt _
      have f2 : w3.frozen? ⟨w.heap.size, k * 10 + 2, none⟩ = false := R3.frozenAt _
      have f3 : w3.frozen? ⟨w.heap.size, k * 10 + 3, none⟩ = false := R3.frozenAt _
      have f4 : w3.frozen? ⟨w.heap.size, k * 10 + 4, none⟩ = false := R3.frozenAt _
      have f5 : w3.frozen? ⟨w.heap.size, k * 10 + 5, none⟩ = false := R3.frozenAt _
      have f6 : w3.frozen? ⟨w.heap.size, k * 10 + 6, none⟩ = false := R3.frozenAt _
      have f7 : w3.frozen? ⟨w.heap.size, k * 10 + 7, none⟩ = false := R3.frozenAt _
      have f8 : w3.frozen? ⟨w.heap.size, k * 10 + 8, none⟩ = false := R3.frozenAt _
      have f9 : w3.frozen? ⟨w.heap.size, k * 10 + 9, none⟩ = false := R3.frozenAt _
      have SS := hide ((((((((((R3.stored (k * 10) (.int .i64 x.c)).1.stored (k * 10 + 1) (.int .i64 x.x)).1.stored (k * 10 + 2) (.int .i64 x.y)).1.stored (k * 10 + 3) (.slice (some ⟨g1, 0, none⟩) tn tn)).1.stored (k * 10 + 4) (.slice (some ⟨g2, 0, none⟩) mn mn)).1.stored (k * 10 + 5) (.int .i64 x.l)).1.stored (k * 10 + 6) (.int .i64 x.n)).1.stored (k * 10 + 7) (.int .i64 x.u)).1.stored (k * 10 + 8) (.int .i64 x.r)).1.stored (k * 10 + 9) (.int .i64 x.o)).1
      have OS2 := OS.out (.slice (some ⟨g1, 0, none⟩) tn tn) (.slice (some ⟨g2, 0, none⟩) mn mn)
      rw [LK.out] at OS2
      rw [OS2] at SS
      clear OS2 OS R3 ho1 ho2 hb3 hcb NT NM NT3 NM3 HR
      go_wp2
      go_roundw
      case rel =>
        refine ⟨k + 1, by omega, by go_num, ?_, us ++ [.slice (some ⟨g1, 0, none⟩) tn tn], ms ++ [.slice (some ⟨g2, 0, none⟩) mn mn], by simp [US.out], by simp [MS.out], ?_, ?_, ?_⟩
        · repeat (refine Below.setCell ?_ (by show w.heap.size ≤ w.heap.size; exact Nat.le_refl _) _)
          exact B3.out
        · rw [TS.out, List.append_assoc, List.append_assoc, List.append_assoc]
          exact SS.out
        · rw [TS.out, List.map_append, List.map_append]
          simp only [List.map_cons, List.map_nil, HIT.out, HTN.out]
          refine NestG.mono (NestG.off NT4.out CB.out (by decide) (fun q hq => ?_)) (by simp)
          repeat rw [heap_setCell_other _ _ _ _ (by show q ≠ w.heap.size; exact hq)]
        · rw [TS.out, List.map_append, List.map_append]
          simp only [List.map_cons, List.map_nil, HIM.out, HMN.out]
          refine NestG.mono (NestG.off NM4.out CB.out (by decide) (fun q hq => ?_)) (by simp)
          repeat rw [heap_setCell_other _ _ _ _ (by show q ≠ w.heap.size; exact hq)]
      case measure => simp [intOf]; omega
    · obtain rfl : k = nn := by omega
      have hlt' : ¬ (k : Int) < k := by omega
      rw [TN.out, Nat.sub_self, List.replicate_zero, List.append_nil, List.replicate_zero, List.append_nil, List.append_nil] at hrow
      rw [TN.out] at hnt hnm
      have HR := hide hrow
      have NT := hide hnt
      have NM := hide hnm
      clear hb hrow hnt hnm
      go_wp2
      go_ret
      refine ⟨rfl, ⟨us, ms, ?_, fun q hq => (HR.out.lt q hq).2, NT.out, NM.out⟩, HB.out⟩
      rw [HNN.out]
      exact HR.out
end Go.Proofs.YtbgngikejgihgaeDoor
