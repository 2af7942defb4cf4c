import Derived.Test.YtbgngikejgihgafGreatDoorMq48
namespace Go.Proofs.YtbgngikejgihgafGreatDoor
open Go Go.RowKit
set_option linter.unusedVariables false

theorem Tryz.infoGPJ : (Tryz.prog.info? 92).map (fun i => (i.zero, i.size, i.bytes)) = some (some (.agg #[.slice none 0 0, .int .i64 0, .int .i64 0]), 3, 40) := by kernel_rfl

set_option maxHeartbeats 2000000 in
set_option maxRecDepth 100000 in
theorem toGapSN (gs : List Gr) (v : Value) (w : World) (h : RdG w v gs) (hn : gs.length ≤ 1048576) (hc : smC gs ≤ 1048576) :
    Calls Tryz.prog 60 #[v] w fun e w' => ∃ vs, e = .returned (.slice (some ⟨w.heap.size, 0, none⟩) gs.length gs.length) ∧ OwG 92 w' w.heap.size w'.heap.size (.slice (some ⟨w.heap.size, 0, none⟩) gs.length gs.length) vs gs ∧ Below w.heap.size w w' := by
  obtain ⟨i0, hi0, hz0, hz1, hz2⟩ := info_parts Tryz.infoGPJ
  rcases h with ⟨ao, cap, rfl, rfl⟩ | ⟨b, off, cap, rfl, hp, hcc⟩
  · clear hn hc
    go_enter Tryz.func60, Tryz.ntmps60
    go_wp2_with (at_make; refine wpList_make_full _ rfl _ _ 37 rfl w.heap.size 92 i0 (.agg #[.slice none 0 0, .int .i64 0, .int .i64 0]) 3 Tryz.underlying37 hi0 hz0 hz1 .i64 .i64 _ _ 0 rfl rfl (by omega) (by omega) (by rw [hz2]; omega) (by unfold maxLen; omega) (Nat.le_refl _) ?_; intro w1 hown hgrow)
    rw [made_grs] at hown
    have B1 := hide ((Below.refl w.heap.size w).grown hgrow (Nat.le_refl _) (fun k hk => by cases hk))
    have G1 := hide (show OwG 92 w1 w.heap.size w1.heap.size (.slice (some ⟨w.heap.size, 0, none⟩) 0 0) [] [] from ⟨hown, fun q hq => (hown.lt q hq).2, Nest.nil _ _ _⟩)
    clear hown hgrow
    refine wp_loop_rounds 1 ?_
    rw [rounds_succ]
    go_wp2
    go_ret
    first | exact ⟨[], rfl, G1.out, B1.out⟩ | exact ⟨rfl, ⟨[], G1.out⟩, B1.out⟩
  have HCC := hide hcc
  have hcap := hp.2.1
  have hcm := hp.2.2
  unfold maxLen at hcm
  have SL := hide (fun i x (hx : gs[i]? = some x) => smC_get hx)
  generalize hN : gs.length = n at *
  have HN := hide hN
  clear hN hcc hp
  go_enter Tryz.func60, Tryz.ntmps60
  go_wp2_with (at_make; refine wpList_make_full _ rfl _ _ 37 rfl w.heap.size 92 i0 (.agg #[.slice none 0 0, .int .i64 0, .int .i64 0]) 3 Tryz.underlying37 hi0 hz0 hz1 .i64 .i64 _ _ n rfl rfl (by omega) (by omega) (by rw [hz2]; omega) (by unfold maxLen; omega) (Nat.le_refl _) ?_; intro w1 hown hgrow)
  rw [made_grs] at hown
  have B1 := hide ((Below.refl w.heap.size w).grown hgrow (Nat.le_refl _) (fun k hk => by cases hk))
  have G1 := hide (show OwG 92 w1 w.heap.size w1.heap.size (.slice (some ⟨w.heap.size, 0, none⟩) n n) (List.replicate n (.slice none 0 0)) (List.replicate n nilG) from ⟨by rw [List.length_replicate]; exact hown, fun q hq => (hown.lt q hq).2, Nest.nils _ _ _ _⟩)
  clear hown hgrow
  go_loopw [4] (fun i wr => ∃ k : Nat, k ≤ n ∧ i = .int .i64 k ∧ Below w.heap.size w wr ∧ ∃ us : List Value, us.length = k ∧ OwG 92 wr w.heap.size wr.heap.size (.slice (some ⟨w.heap.size, 0, none⟩) n n) (us ++ List.replicate (n - k) (.slice none 0 0)) (gs.take k ++ List.replicate (n - k) nilG))
    (fun i _ => n - (intOf i).toNat)
  case atStart => exact ⟨0, Nat.zero_le _, rfl, B1.out, [], rfl, by simpa using G1.out⟩
  case round =>
    obtain ⟨k, hk, rfl, hb, us, hus, hG⟩ := hrel
    have HB := hide hb
    have hsz := hb.size
    by_cases hlt : k < n
    · have hx : gs[k]? = some (gs[k]'(by rw [HN.out]; exact hlt)) := by simp [HN.out, hlt]
      generalize gs[k]'(by rw [HN.out]; exact hlt) = x at hx
      obtain ⟨u, e0, e1, e2, hr, hxm⟩ := HCC.out k x hx
      have hbl := World.block_lt_of_cell? w _ e0
      have y0 := (hb.cell (p := ⟨b, off + k * 3, none⟩) hbl).trans e0
      have y1 := (hb.cell (p := ⟨b, off + k * 3 + 1, none⟩) hbl).trans e1
      have y2 := (hb.cell (p := ⟨b, off + k * 3 + 2, none⟩) hbl).trans e2
      have hxs := SL.out k x hx
      have TG := hide (toGapN x.cells u x.lo x.hi wr (hr.below hb) (by omega))
      obtain ⟨au, cu, hu⟩ := hr.val
      have hLk : (gs.take k).length = k := by rw [List.length_take, HN.out]; omega
      have hrep : ∀ (β : Type) (z : β), List.replicate (n - k) z = z :: List.replicate (n - (k + 1)) z := fun β z => by rw [show n - k = (n - (k + 1)) + 1 by omega, List.replicate_succ]
      rw [hrep, hrep] at hG
      have hn3 : (gs.take k ++ nilG :: List.replicate (n - (k + 1)) nilG).length = n := by simp only [List.length_append, hLk, List.length_cons, List.length_replicate]; omega
      have GG := hide hG
      have N3 := hide hn3
      have LK := hide hLk
      have US := hide hus
      have TS := hide (show gs.take (k + 1) = gs.take k ++ [x] by rw [List.take_add_one, hx]; rfl)
      generalize hxl : x.lo = xl at *
      generalize hxh : x.hi = xh at *
      generalize hxc : x.cells.length = xc at *
      have HXC := hide hxc
      have HXE := hide (show (⟨x.cells, xl, xh⟩ : Gr) = x by rw [← hxl, ← hxh])
      have hlt' : (k : Int) < n := by omega
      subst hu
      clear hG hb hr e0 e1 e2 hx hus hLk hn3 hrep hxl hxh hxc
      go_wp2_with fail
      refine TG.out.mono ?_
      rintro e w3 ⟨g3, hg3, rfl, ho3, hb3⟩
      have s3 := hb3.size
      have G3 := GG.out.frame (w' := w3) (fun q _ hq => hb3.block q hq)
      have ST := G3.store (hi' := w3.heap.size) xl xh N3.out (by rw [US.out, LK.out]) (show o32 w3 w.heap.size (.slice (some ⟨g3, 0, none⟩) xc xc) x.cells from (by unfold o32; rw [HXC.out]; exact owns_base ho3 (by omega))) (fun q hq => (ho3.lt q hq).1) (fun q hq => (ho3.lt q hq).2) (by omega) (by decide)
      have kx := G3.cells N3.out (i := k) (get_mid LK.out) (get_mid US.out)
      have hr := G3.row
      rw [N3.out] at hr
      have f0 : w3.frozen? ⟨w.heap.size, k * 3, none⟩ = false := hr.frozenAt _
      have f1 : w3.frozen? ⟨w.heap.size, k * 3 + 1, none⟩ = false := hr.frozenAt _
      have f2 : w3.frozen? ⟨w.heap.size, k * 3 + 2, none⟩ = false := hr.frozenAt _
      obtain ⟨p0, p1, p2⟩ := kx
      rw [LK.out, HXE.out] at ST
      have S4 := hide ST.1
      have B4 := hide ((HB.out.trans (hb3.mono hsz)).grown ST.2 (by omega) (fun q hq => by cases hq; exact Nat.le_refl _))
      clear ho3 hb3 G3 ST hr GG
      go_wp2
      go_roundw
      case rel =>
        refine ⟨k + 1, by omega, by go_num, B4.out, us ++ [.slice (some ⟨g3, 0, none⟩) xc xc], by simp [US.out], ?_⟩
        rw [TS.out, List.append_assoc, List.append_assoc]
        exact S4.out.mono (Nat.le_refl _) (by simp)
      case measure => simp [intOf]; omega
    · obtain rfl : k = n := by omega
      have hlt' : ¬ (k : Int) < k := by omega
      rw [List.take_of_length_le (by rw [HN.out]; exact Nat.le_refl _), Nat.sub_self, List.replicate_zero, List.replicate_zero, List.append_nil, List.append_nil] at hG
      have GG := hide hG
      clear hG hb
      go_wp2
      go_ret
      first | exact ⟨us, rfl, GG.out, HB.out⟩ | exact ⟨rfl, ⟨us, GG.out⟩, HB.out⟩
end Go.Proofs.YtbgngikejgihgafGreatDoor
