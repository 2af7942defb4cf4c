import Derived.Test.YtbgngikejgihgafGreatDoorMq15
import Derived.Deep.RegionLaw
import Derived.Deep.AppendLies
import Derived.Deep.RegionWith
import Derived.WalkKit
namespace Go.Proofs.YtbgngikejgihgafGreatDoor
open Go Go.RowKit
set_option linter.unusedVariables false

theorem Tryz.info64T : (Tryz.prog.info? 3).map (fun i => (i.zero, i.size, i.bytes)) = some (some (.int .i64 0), 1, 8) := by kernel_rfl
theorem Tryz.infoGPT : (Tryz.prog.info? 92).map (fun i => (i.zero, i.size, i.bytes)) = some (some (.agg #[.slice none 0 0, .int .i64 0, .int .i64 0]), 3, 40) := by kernel_rfl

set_option maxHeartbeats 2000000 in
set_option maxRecDepth 100000 in
/-- All starts. -/
theorem allS (gs : List Gr) (st : List Int) (vr vt : Value) (lo hi : Nat) (w : World) (h : OwL w lo hi vr vt gs st) (hh : hi ≤ w.heap.size) (hg : gs.length ≤ 8193) (h1 : 1 ≤ gs.length) (hok : ∀ x ∈ gs, gkP x.cells x.lo x.hi) (hb : smL (gs.map grT) + gs.length ≤ 4194304) :
    Calls Tryz.prog 50 #[.agg #[vr, vt]] w fun e w' => ∃ v', e = .returned v' ∧ v' ≠ .slice none 0 0 ∧ o64 w' w.heap.size v' (stL (gs.map grT)) ∧ Below w.heap.size w w' := by
  obtain ⟨i0, hi0, hz0, hz1, hz2⟩ := info_parts Tryz.info64T
  obtain ⟨LS, hLS⟩ : ∃ LS, LS = gs.map grT := ⟨_, rfl⟩
  have A0 := hide (((Below.refl w.heap.size w).alloc (Nat.le_refl _) (.cells #[vr, vt] 40)).alloc (by simp) (.cells #[] 3))
  have E0 := hide (owns_base (base' := w.heap.size) (own_newT (w.alloc (.cells #[vr, vt] 40)) 3) (by simp))
  have es : (w.alloc (.cells #[vr, vt] 40)).heap.size = w.heap.size + 1 := by simp
  rw [es] at E0
  have es2 : ((w.alloc (.cells #[vr, vt] 40)).alloc (.cells #[] 3)).heap.size = w.heap.size + 2 := by simp
  obtain ⟨a1, c1, a2, c2, rfl, rfl⟩ := h.val
  obtain ⟨vs, hG⟩ := h.rows
  rcases hG.row.2 with ⟨_, q⟩ | ⟨g0, cap, cur, q, _, _, cc1, cc2, _⟩
  · omega
  simp only [Value.slice.injEq, true_and] at q
  obtain ⟨rfl, rfl⟩ := q
  have F := hide (fun (w' : World) (hb : Below w.heap.size w w') => hG.frame (w' := w') (fun q _ hq => hb.block q (by omega)))
  have GET := hide (fun (k : Nat) (hk : k < gs.length) => (show ∃ x u, gs[k]? = some x ∧ vs[k]? = some u ∧ LS[k]? = some (grT x) ∧ gkP x.cells x.lo x.hi from by
    obtain ⟨x, u, hx, hu⟩ := hG.get hk
    exact ⟨x, u, hx, hu, by rw [hLS]; simp [hx], hok x (List.mem_of_getElem? hx)⟩))
  rw [← hLS] at hb ⊢
  have HLn : LS.length = gs.length := by rw [hLS, List.length_map]
  have TS := hide (fun k (hk : k < LS.length) => stL_take_succ (ls := LS) (i := k) hk)
  have SS := hide (fun k l (hl : LS[k]? = some l) => smL_take_succ (ls := LS) (i := k) hl)
  have SLE := hide (fun k => smL_take_le LS k)
  have SLN := hide (stL_len LS)
  generalize hn : gs.length = n at *
  generalize st.length = m at *
  have HN := hide hn
  have HL := hide HLn
  unfold maxLen at cc2
  clear h hG hok hLS es HLn hn
  go_enter Tryz.func50, Tryz.ntmps50
  go_wp2_with fail
  generalize (w.alloc (.cells #[.slice (some ⟨g0, 0, none⟩) n c1, .slice a2 m c2] 40)).alloc (.cells #[] 3) = w0 at *
  go_loopw [3, 4, 11] (fun out a i wr => ∃ k : Nat, k ≤ n ∧ i = .int .i64 k ∧ a = .int .i64 ((smL (LS.take k) + k : Nat) : Int) ∧ out ≠ .slice none 0 0 ∧ Below w.heap.size w wr ∧ w.heap.size + 1 ≤ wr.heap.size ∧ wr.ownsRow w.heap.size 3 1 out k (ints .i64 ((stL LS).take k)))
    (fun _ _ i _ => n - (intOf i).toNat)
  case atStart => exact ⟨0, Nat.zero_le _, rfl, by simp [smL], by simp, A0.out, by omega, by simpa [ints] using E0.out⟩
  case round =>
    obtain ⟨k, hk, rfl, rfl, hnn, hb', hs', hown⟩ := hrel
    have HB := hide hb'
    have OW := hide hown
    have NN0 := hide hnn
    obtain ⟨ao, co, rfl⟩ := own_valT hown
    have hsle := SLE.out k
    by_cases hlt : k < n
    · obtain ⟨x, u, hx, hu, hl, hgk⟩ := GET.out k hlt
      have FR := F.out wr hb'
      obtain ⟨y0, y1, y2⟩ := FR.cells HN.out hx hu
      obtain ⟨au, cu, hu'⟩ := o32_val (FR.inner hx hu)
      have hgt := grT_len hgk
      have hbd : 0 ≤ x.lo ∧ x.lo ≤ x.hi ∧ x.hi ≤ x.cells.length := by
        obtain ⟨⟨_, ⟨_, q3⟩, ⟨q4, q5⟩, _⟩, _⟩ := hgk
        exact ⟨q4, q5, q3⟩
      have hss := SS.out k _ hl
      have TSk := hide (TS.out k (by rw [HL.out]; exact hlt))
      have e9 : ((smL (LS.take k) + k : Nat) : Int) + ((x.cells.length : Int) - (x.hi - x.lo) + 1) = ((smL (LS.take (k + 1)) + (k + 1) : Nat) : Int) := by rw [hss]; omega
      have E9 := hide e9
      generalize hA : smL (LS.take k) + k = A at *
      generalize hxc : x.cells.length = xc at *
      generalize hxl : x.lo = xl at *
      generalize hxh : x.hi = xh at *
      have hA2 : A ≤ 4194304 := by omega
      have hlt' : (k : Int) < n := by omega
      have hsw := HB.out.size
      have hxc2 := hgt.2.2
      subst hu'
      clear hown hb' FR hx hu hl hgk hnn hss e9
      have A4 := hide ((Below.refl wr.heap.size wr).alloc (Nat.le_refl _) (.cells #[.slice au xc cu, .int .i64 xl, .int .i64 xh] 92))
      have Q4 := hide (Q3.new wr (.slice au xc cu) (.int .i64 xl) (.int .i64 xh) 92)
      have z4 : (wr.alloc (.cells #[.slice au xc cu, .int .i64 xl, .int .i64 xh] 92)).heap.size = wr.heap.size + 1 := by simp
      have O4 := hide (owns_below OW.out A4.out (Nat.le_refl _))
      have B4 := hide (HB.out.trans (A4.out.mono hsw))
      have NC := hide (newcells (wr.alloc (.cells #[.slice au xc cu, .int .i64 xl, .int .i64 xh] 92)) 3 [.int .i64 (A : Int)])
      rw [z4] at NC
      go_upto_region 7 with (at_builtin; refine wpList_append_own _ rfl _ _ 38 rfl w.heap.size 3 i0 (.int .i64 0) 1 8 Tryz.underlying38 hi0 hz0 hz1 hz2 rfl (by decide) _ _ _ rfl (O4.out.alloc _) ⟨wr.heap.size + 1, 0, none⟩ 1 1 [.int .i64 (A : Int)] rfl rfl NC.out (ints_one .i64 [(A : Int)]) (by unfold maxLen; omega) (by omega) (by simp; omega) ?_; intro v2 x2 ho2 hg2 hnil2)
      have N2 := hide (show v2 ≠ .slice none 0 0 from fun e => NN0.out (hnil2.1 e).1)
      have AB := ((Below.refl w.heap.size (wr.alloc (.cells #[.slice au xc cu, .int .i64 xl, .int .i64 xh] 92))).alloc (by omega) (.cells #[.int .i64 (A : Int)] 3)).grown hg2 (by simp; omega) (fun q hq => (O4.out.lt q hq).1)
      have B2 := hide (B4.out.trans AB)
      have s2 := hg2.size
      simp at s2
      have Q2 := hide (show Q3 x2 wr.heap.size (.slice au xc cu) (.int .i64 xl) (.int .i64 xh) 92 from by
        refine ((hg2.block wr.heap.size (by simp; omega) (fun e => ?_)).trans (Below.heap_alloc _ _ _ (by simp))).trans Q4.out
        have := (OW.out.lt wr.heap.size e.symm).2
        omega)
      have O2 := hide ho2
      clear ho2 hg2 hnil2 AB
      obtain ⟨r0, r1, r2⟩ := Q2.out.c
      go_wp2
      go_roundw
      case rel =>
        refine ⟨k + 1, by omega, by go_num, by rw [← E9.out], N2.out, B2.out, by omega, ?_⟩
        rw [TSk.out, ints_append]
        exact O2.out
      case measure => simp [intOf]; omega
    · obtain rfl : k = n := by omega
      have hlt' : ¬ (k : Int) < k := by omega
      have et : (stL LS).take k = stL LS := List.take_of_length_le (by rw [SLN.out, HL.out]; exact Nat.le_refl _)
      rw [et] at OW
      clear hown hb' hnn
      go_wp2
      go_ret
      refine ⟨_, rfl, NN0.out, ?_, HB.out⟩
      unfold o64
      rw [SLN.out, HL.out]
      exact OW.out
end Go.Proofs.YtbgngikejgihgafGreatDoor

namespace Go.Proofs.YtbgngikejgihgafGreatDoor
open Go Go.RowKit

/-- How many breaks. -/
def brk (zs : List Int) : Int := ((zs.filter fun z => z == 10).length : Nat)
theorem brk_bd (zs : List Int) : 0 ≤ brk zs ∧ brk zs ≤ zs.length := by
  unfold brk
  exact ⟨by omega, by have := List.length_filter_le (fun z : Int => z == 10) zs; omega⟩
theorem brk_snoc (zs : List Int) (k : Nat) (h : k < zs.length) : brk (zs.take (k + 1)) = brk (zs.take k) + if zs.getD k 0 = 10 then 1 else 0 := by
  have e : zs.getD k 0 = zs[k] := by simp [List.getD_eq_getElem?_getD, h]
  rw [e, List.take_succ_eq_append_getElem h]
  unfold brk
  rw [List.filter_append]
  by_cases hz : zs[k] = 10
  · rw [if_pos hz]; simp [hz]
  · rw [if_neg hz]; simp [hz]

end Go.Proofs.YtbgngikejgihgafGreatDoor
