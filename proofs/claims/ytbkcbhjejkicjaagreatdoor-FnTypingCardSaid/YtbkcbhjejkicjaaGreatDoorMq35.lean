import Derived.Test.YtbkcbhjejkicjaaGreatDoorMq34
import Derived.Test.YtbkcbhjejkicjaaGreatDoorMq09
import Derived.Deep.RegionLaw
namespace Go.Proofs.YtbkcbhjejkicjaaGreatDoor
open Go Go.RowKit Go.Sort
set_option linter.unusedVariables false

theorem drewB {w w' : World} (h : w'.heap = w.heap) (ho : w'.os = w.os) (ht : w'.tape = w.tape) (hp : w'.output = w.output) : Below w.heap.size w w' := ⟨ho, ht, hp, by rw [h]; exact Nat.le_refl _, fun k _ => by rw [h]⟩
theorem brk_bnd (zs : List Int) (h : zs.length ≤ 8192) : IntKind.i64.wrap (brk zs + 1) = brk zs + 1 := by
  have h1 : 0 ≤ brk zs ∧ brk zs ≤ zs.length := by
    unfold brk
    have := List.length_filter_le (· == (10 : Int)) zs
    omega
  rw [IntKind.wrap_i64]; omega
theorem SG.sl {w : World} {Z : Nat → Prop} {v : Value} {gs : List (List Rc)} (h : SG w Z v gs) : ∃ a k, v = .slice a gs.length k := by
  obtain ⟨vs, ⟨_, h1 | ⟨g, cap, cur, h1, _⟩⟩, _⟩ := h
  · exact ⟨none, 0, by rw [h1.1, h1.2]⟩
  · exact ⟨_, _, h1⟩
/-- What an insertion that is taken is answered. -/
def insO (M : Ens) (m : Nat) : Array Value := obV 0 m 0 (.slice none 0 0) (.slice none 0 0) M.tx.length (brk M.tx + 1) M.dn.length M.ud.length 0
set_option maxHeartbeats 8000000 in
set_option maxRecDepth 100000 in
theorem stepI {K : Core} {P : List Int → Prop} {Z F FC : Nat → Prop} {E c n off : Nat} {mv dv uv cv : Value} {ss : List Value} {M : Ens} {bs : List Int} (b1 b2 : Int) {ta : Option Addr} {tl tq : Nat} {w : World} (h : EM K w Z F E c n mv dv uv cv ss FC M) (o : InsOk K P w M off bs (.slice ta tl tq)) :
    Calls Tryz.prog 38 #[.pointer (some ⟨E, 0, none⟩), .agg #[.int .i64 1, .int .i64 off, .int .i64 b1, .int .i64 b2, .slice ta tl tq]] w fun e w' => e = .returned (.agg (insO (insE M off (decs bs)) (decs bs).length)) ∧ AnsPost K w Z F E c (n + (decs bs).length) cv ss (insE M off (decs bs)) w' := by
  have OP := hide (heap1 w (.cells (obV 0 0 0 (.slice none 0 0) (.slice none 0 0) 0 0 0 0 0) 52) #[.int .i64 1, .int .i64 off, .int .i64 b1, .int .i64 b2, .slice ta tl tq] 30)
  have RS := hide (heap2 w (.cells #[.int .i64 1, .int .i64 off, .int .i64 b1, .int .i64 b2, .slice ta tl tq] 30) (obV 0 0 0 (.slice none 0 0) (.slice none 0 0) 0 0 0 0 0) 52)
  have BB := hide (bA (bA (Below.refl w.heap.size w) (.cells #[.int .i64 1, .int .i64 off, .int .i64 b1, .int .i64 b2, .slice ta tl tq] 30)) (.cells (obV 0 0 0 (.slice none 0 0) (.slice none 0 0) 0 0 0 0 0) 52))
  have yA : w.heap.size + 1 < ((w.alloc (.cells #[.int .i64 1, .int .i64 off, .int .i64 b1, .int .i64 b2, .slice ta tl tq] 30)).alloc (.cells (obV 0 0 0 (.slice none 0 0) (.slice none 0 0) 0 0 0 0 0) 52)).heap.size := by simp
  have AN := hide (fun (W : World) (hW : Below w.heap.size w W) => answerI b1 b2 (h.wide hW) (o.below hW))
  have HEl := hide (h.fl E h.fe.1)
  have HOP := hide o.opn
  have HZL := hide (fun q (hq : Z q) => h.fl q (h.ff q (h.zf q hq)))
  have HAK := hide o.ask
  have hm := K.mLen
  have he := K.eLen
  have hm2 := K.mBrk
  have he2 := K.eBrk
  unfold insO obV at *
  clear h o
  generalize hts : decs bs = ts at *
  clear hts
  go_enter Tryz.func38, Tryz.ntmps38
  go_upto_region 1 with fail
  generalize (w.alloc (.cells #[.int .i64 1, .int .i64 off, .int .i64 b1, .int .i64 b2, .slice ta tl tq] 30)).alloc (.cells #[.int .i64 0, .int .i64 0, .int .i64 0, .slice none 0 0, .slice none 0 0, .int .i64 0, .int .i64 0, .int .i64 0, .int .i64 0, .int .i64 0] 52) = wA at *
  have z0 : wA.cell? ⟨w.heap.size, 0, none⟩ = some (.int .i64 1) := by rw [cell_of_row _ _ 0 _ _ _ OP.out]; rfl
  have z1 : wA.cell? ⟨w.heap.size, 1, none⟩ = some (.int .i64 off) := by rw [cell_of_row _ _ 1 _ _ _ OP.out]; rfl
  have z2 : wA.cell? ⟨w.heap.size, 2, none⟩ = some (.int .i64 b1) := by rw [cell_of_row _ _ 2 _ _ _ OP.out]; rfl
  have z3 : wA.cell? ⟨w.heap.size, 3, none⟩ = some (.int .i64 b2) := by rw [cell_of_row _ _ 3 _ _ _ OP.out]; rfl
  have z4 : wA.cell? ⟨w.heap.size, 4, none⟩ = some (.slice ta tl tq) := by rw [cell_of_row _ _ 4 _ _ _ OP.out]; rfl
  have AI := hide (AN.out wA BB.out)
  clear AN
  go_wp2_with fail
  refine AI.out.mono ?_
  rintro e w3 ⟨rfl, Z', F', FC', mv', dv', hem, hF1, hZ1, hF2, hZ2, hch⟩
  have y3 := hch.size
  have yB := BB.out.size
  have RS3 := hide ((hch.block (w.heap.size + 1) (by omega) (fun h9 => h9 (.inr ⟨by omega, by omega⟩))).trans RS.out)
  have BX := hide (bA (Below.refl w3.heap.size w3) (.cells #[.int .i64 0, .int .i64 (ts.length : Nat), .int .i64 0, .slice none 0 0, .slice none 0 0, .int .i64 0, .int .i64 0, .int .i64 0, .int .i64 0, .int .i64 0] 52))
  have EM4 := hide (hem.wide BX.out)
  have RS4 := hide ((BX.out.block (w.heap.size + 1) (by omega)).trans RS3.out)
  have GG4 := hide (show F' (w.heap.size + 1) ∧ ¬ Z' (w.heap.size + 1) from ⟨hF1 _ (.inr ⟨by omega, by omega⟩), fun h9 => by
    rcases hZ2 _ h9 with h8 | h8
    · have := HZL.out _ h8; omega
    · omega⟩)
  have HZ3 := hide (fun q (hq : Z' q) => hem.fl q (hem.ff q (hem.zf q hq)))
  have HO3 := hide (show (insE M off ts).opn = false from HOP.out)
  have FF := hide (And.intro hF1 (And.intro hZ1 (And.intro hF2 (And.intro hZ2 hch))))
  have OB4 := hide (show (w3.alloc (.cells #[.int .i64 0, .int .i64 (ts.length : Nat), .int .i64 0, .slice none 0 0, .slice none 0 0, .int .i64 0, .int .i64 0, .int .i64 0, .int .i64 0, .int .i64 0] 52)).heap[w3.heap.size]? = some (.cells #[.int .i64 0, .int .i64 (ts.length : Nat), .int .i64 0, .slice none 0 0, .slice none 0 0, .int .i64 0, .int .i64 0, .int .i64 0, .int .i64 0, .int .i64 0] 52 (0, 0)) from heap_alloc_new _ _)
  have y4 : w3.heap.size < (w3.alloc (.cells #[.int .i64 0, .int .i64 (ts.length : Nat), .int .i64 0, .slice none 0 0, .slice none 0 0, .int .i64 0, .int .i64 0, .int .i64 0, .int .i64 0, .int .i64 0] 52)).heap.size := by simp
  clear hem hF1 hZ1 hF2 hZ2 hch AI RS RS3 OP z0 z1 z2 z3 z4
  go_upto_region 4 with fail
  generalize w3.alloc (.cells #[.int .i64 0, .int .i64 (ts.length : Nat), .int .i64 0, .slice none 0 0, .slice none 0 0, .int .i64 0, .int .i64 0, .int .i64 0, .int .i64 0, .int .i64 0] 52) = w4 at *
  generalize hMq : insE M off ts = M' at *
  have HMq := hide hMq
  clear hMq
  have wB := brk_bnd _ (K.len EM4.out.cr).1
  have EMo := hide (fun (y : World) (hy : ChgP w4 y (fun q => q = w3.heap.size)) => EM4.out.chg hy (fun q _ hq => by
    subst hq
    have hF : (fun q => F' q ∨ w3.heap.size ≤ q ∧ q < w4.heap.size) w3.heap.size := .inr ⟨Nat.le_refl _, y4⟩
    exact ⟨.inr ⟨Nat.le_refl _, y4⟩, fun h9 => absurd (HZ3.out _ h9) (Nat.lt_irrefl _), by have := HEl.out; omega, fun h9 => (EM4.out.fd _ h9).2 hF, by simp [Value.ownBlock], fun h9 => by rw [HO3.out] at h9; cases h9⟩))
  have BC := hide (fun (y : World) (hy : Below w4.heap.size w4 y) => ChgP.of_below (S := fun q => q = w3.heap.size) hy (Nat.le_refl _))
  have IC := hide (show ∀ y, ChgP w4 y (fun q => q = w3.heap.size) → y.cell? ⟨E, 6, none⟩ = some (.iface K.ty (.pointer (some ⟨c, 0, none⟩))) from fun y hy => by
    obtain ⟨s0, s1, s2, s3, s4, s5, s6, s7, hss, hb⟩ := (EMo.out y hy).blk
    rw [cell_of_row _ _ 6 _ _ _ hb]; rfl)
  refine (wpIn_wide (n := 6)).1 ?_
  refine regionC (fun y => y.cell? ⟨E, 6, none⟩ = some (.iface K.ty (.pointer (some ⟨c, 0, none⟩)))) (by kernel_rfl) ?_
  refine tk 5 (.pointer (some ⟨E, 0, none⟩)) ?_ ?_
  · intro y hC; go_simp
  go_simp
  refine tk 6 (.pointer (some ⟨E, 0, none⟩)) ?_ ?_
  · intro y hC; go_simp
  go_simp
  refine tk 7 (.pointer (some ⟨E, 6, none⟩)) ?_ ?_
  · intro y hC; go_simp
  go_simp
  refine tk 8 (.iface K.ty (.pointer (some ⟨c, 0, none⟩))) ?_ ?_
  · intro y hC; go_simp
  go_simp
  refine tk 0 (.pointer (some ⟨E, 0, none⟩)) ?_ ?_
  · intro y hC; go_simp
  go_simp
  refine tk 1 (.pointer (some ⟨E, 0, none⟩)) ?_ ?_
  · intro y hC; go_simp
  go_simp
  refine tk 2 (.pointer (some ⟨E, 6, none⟩)) ?_ ?_
  · intro y hC; go_simp
  go_simp
  refine tk 3 (.iface K.ty (.pointer (some ⟨c, 0, none⟩))) ?_ ?_
  · intro y hC; go_simp
  go_simp
  obtain ⟨y0, hy⟩ : ∃ y, y = w4.drew := ⟨_, rfl⟩
  rw [← hy]
  have BY0 := hide (show Below w4.heap.size w4 y0 from by rw [hy]; exact drewB rfl rfl rfl rfl)
  clear hy
  refine on 4 (IC.out _ (BC.out _ BY0.out)) ?_
  have CL := hide (HAK.out.len _ _ _ _ _ _ (EM4.out.below BY0.out).cr)
  gi_wp2_with fail
  refine ⟨trivial, (callsIn_wide.2 CL.out).mono ?_⟩
  rintro e y1 ⟨rfl, hb1⟩
  have BY1 := hide (BY0.out.trans (hb1.mono BY0.out.size))
  clear hb1 CL BY0
  gi_wp2_with fail
  refine tk 11 (.pointer (some ⟨w3.heap.size, 5, none⟩)) ?_ ?_
  · intro y hC; go_simp
  go_simp
  refine on 9 (IC.out _ (BC.out _ BY1.out)) ?_
  have CB := hide (HAK.out.brk _ _ _ _ _ _ (EM4.out.below BY1.out).cr)
  gi_wp2_with fail
  refine ⟨trivial, (callsIn_wide.2 CB.out).mono ?_⟩
  rintro e y2 ⟨rfl, hb1⟩
  have BY2 := hide (BY1.out.trans (hb1.mono BY1.out.size))
  clear hb1 CB BY1
  gi_wp2_with fail
  refine tk 10 (.int .i64 (brk M'.tx + 1)) ?_ ?_
  · intro y hC; go_simp
  go_simp
  have OB5 := hide ((BY2.out.block w3.heap.size y4).trans OB4.out)
  have C5 := hide (BC.out _ BY2.out)
  clear BY2 OB4
  have f5 := frozen_of_row y2 w3.heap.size 5 _ _ OB5.out
  have u5 : y2.cell? ⟨w3.heap.size, 5, none⟩ = some (.int .i64 0) := by rw [cell_of_row _ _ 5 _ _ _ OB5.out]; rfl
  refine on 12 (IC.out _ C5.out) ?_
  gi_wp2_with fail
  have OB6 := hide (heap_setCell_same y2 w3.heap.size 5 _ _ (.int .i64 (M'.tx.length : Nat)) OB5.out)
  have C6 := hide (C5.out.setS ⟨w3.heap.size, 5, none⟩ (.int .i64 (M'.tx.length : Nat)) (.inl rfl))
  generalize y2.setCell ⟨w3.heap.size, 5, none⟩ (.int .i64 (M'.tx.length : Nat)) = y3' at *
  clear OB5 C5 f5 u5
  refine tk 13 (.pointer (some ⟨w3.heap.size, 6, none⟩)) ?_ ?_
  · intro y hC; go_simp
  go_simp
  have f6 := frozen_of_row y3' w3.heap.size 6 _ _ OB6.out
  have u6 : y3'.cell? ⟨w3.heap.size, 6, none⟩ = some (.int .i64 0) := by rw [cell_of_row _ _ 6 _ _ _ OB6.out]; rfl
  refine on 14 (IC.out _ C6.out) ?_
  gi_wp2_with fail
  have OB7 := hide (heap_setCell_same y3' w3.heap.size 6 _ _ (.int .i64 (brk M'.tx + 1)) OB6.out)
  have C7 := hide (C6.out.setS ⟨w3.heap.size, 6, none⟩ (.int .i64 (brk M'.tx + 1)) (.inl rfl))
  generalize y3'.setCell ⟨w3.heap.size, 6, none⟩ (.int .i64 (brk M'.tx + 1)) = y4' at *
  clear OB6 C6 f6 u6
  refine doneC (by kernel_rfl) (IC.out _ C7.out) ?_ _
  have e4 := EMo.out _ C7.out
  go_upto_region 5 with fail
  obtain ⟨da, dk, hd⟩ := e4.dn.sl
  obtain ⟨ua, uk, hu⟩ := e4.ud.sl
  injection hu with hu1 hu2 hu3
  have HU := hide hu2
  clear hu2
  have IC2 := hide (show ∀ y, ChgP w4 y (fun q => q = w3.heap.size) → y.cell? ⟨E, 1, none⟩ = some (.slice da M'.dn.length dk) ∧ y.cell? ⟨E, 2, none⟩ = some (.slice none 0 0) from fun y hy => by
    obtain ⟨s0, s1, s2, s3, s4, s5, s6, s7, hss, hb⟩ := (EMo.out y hy).blk
    rw [hd] at hb
    exact ⟨by rw [cell_of_row _ _ 1 _ _ _ hb]; rfl, by rw [cell_of_row _ _ 2 _ _ _ hb]; rfl⟩)
  have IC3 := hide (show ∀ y, ChgP w4 y (fun q => q = w3.heap.size) → y.cell? ⟨E, 4, none⟩ = some (.bool false) from fun y hy => by
    obtain ⟨s0, s1, s2, s3, s4, s5, s6, s7, hss, hb⟩ := (EMo.out y hy).blk
    rw [HO3.out] at hb
    rw [cell_of_row _ _ 4 _ _ _ hb]; rfl)
  clear e4 hd hu1 hu3 ua uk
  refine (wpIn_wide (n := 6)).1 ?_
  refine regionC (fun y => y.cell? ⟨E, 1, none⟩ = some (.slice da M'.dn.length dk) ∧ y.cell? ⟨E, 2, none⟩ = some (.slice none 0 0)) (by kernel_rfl) ?_
  refine tk 0 (.pointer (some ⟨E, 0, none⟩)) ?_ ?_
  · intro y hC; obtain ⟨hC1, hC2⟩ := hC; go_simp
  go_simp
  refine tk 1 (.pointer (some ⟨E, 0, none⟩)) ?_ ?_
  · intro y hC; obtain ⟨hC1, hC2⟩ := hC; go_simp
  go_simp
  refine tk 2 (.pointer (some ⟨E, 1, none⟩)) ?_ ?_
  · intro y hC; obtain ⟨hC1, hC2⟩ := hC; go_simp
  go_simp
  refine tk 3 (.pointer (some ⟨E, 1, none⟩)) ?_ ?_
  · intro y hC; obtain ⟨hC1, hC2⟩ := hC; go_simp
  go_simp
  refine tk 4 (.pointer (some ⟨E, 1, none⟩)) ?_ ?_
  · intro y hC; obtain ⟨hC1, hC2⟩ := hC; go_simp
  go_simp
  refine tk 5 (.slice da M'.dn.length dk) ?_ ?_
  · intro y hC; obtain ⟨hC1, hC2⟩ := hC; go_simp
  go_simp
  refine tk 6 (.int .i64 (M'.dn.length : Nat)) ?_ ?_
  · intro y hC; obtain ⟨hC1, hC2⟩ := hC; go_simp
  go_simp
  refine tk 7 (.pointer (some ⟨E, 0, none⟩)) ?_ ?_
  · intro y hC; obtain ⟨hC1, hC2⟩ := hC; go_simp
  go_simp
  refine tk 8 (.pointer (some ⟨E, 0, none⟩)) ?_ ?_
  · intro y hC; obtain ⟨hC1, hC2⟩ := hC; go_simp
  go_simp
  refine tk 9 (.pointer (some ⟨E, 1, none⟩)) ?_ ?_
  · intro y hC; obtain ⟨hC1, hC2⟩ := hC; go_simp
  go_simp
  refine tk 10 (.pointer (some ⟨E, 1, none⟩)) ?_ ?_
  · intro y hC; obtain ⟨hC1, hC2⟩ := hC; go_simp
  go_simp
  refine tk 11 (.pointer (some ⟨E, 2, none⟩)) ?_ ?_
  · intro y hC; obtain ⟨hC1, hC2⟩ := hC; go_simp
  go_simp
  refine tk 12 (.slice none 0 0) ?_ ?_
  · intro y hC; obtain ⟨hC1, hC2⟩ := hC; go_simp
  go_simp
  refine tk 13 (.int .i64 0) ?_ ?_
  · intro y hC; obtain ⟨hC1, hC2⟩ := hC; go_simp
  go_simp
  refine tk 14 (.pointer (some ⟨w3.heap.size, 7, none⟩)) ?_ ?_
  · intro y hC; obtain ⟨hC1, hC2⟩ := hC; go_simp
  go_simp
  obtain ⟨y5, hy⟩ : ∃ y, y = y4'.drew := ⟨_, rfl⟩
  rw [← hy]
  have BY := hide (show Below y4'.heap.size y4' y5 from by rw [hy]; exact drewB rfl rfl rfl rfl)
  have C8 := hide (C7.out.belowS BY.out C7.out.size)
  have OB8 := hide ((BY.out.block w3.heap.size (by have := C7.out.size; omega)).trans OB7.out)
  clear hy BY C7 OB7
  have f7 := frozen_of_row y5 w3.heap.size 7 _ _ OB8.out
  have u7 : y5.cell? ⟨w3.heap.size, 7, none⟩ = some (.int .i64 0) := by rw [cell_of_row _ _ 7 _ _ _ OB8.out]; rfl
  refine on 15 (IC2.out _ C8.out) ?_
  gi_wp2_with fail
  have OB9 := hide (heap_setCell_same y5 w3.heap.size 7 _ _ (.int .i64 (M'.dn.length : Nat)) OB8.out)
  have C9 := hide (C8.out.setS ⟨w3.heap.size, 7, none⟩ (.int .i64 (M'.dn.length : Nat)) (.inl rfl))
  generalize y5.setCell ⟨w3.heap.size, 7, none⟩ (.int .i64 (M'.dn.length : Nat)) = y6 at *
  clear OB8 C8 f7 u7
  refine tk 16 (.pointer (some ⟨w3.heap.size, 8, none⟩)) ?_ ?_
  · intro y hC; obtain ⟨hC1, hC2⟩ := hC; go_simp
  go_simp
  have f8 := frozen_of_row y6 w3.heap.size 8 _ _ OB9.out
  have u8 : y6.cell? ⟨w3.heap.size, 8, none⟩ = some (.int .i64 0) := by rw [cell_of_row _ _ 8 _ _ _ OB9.out]; rfl
  refine on 17 (IC2.out _ C9.out) ?_
  gi_wp2_with fail
  have OBa := hide (heap_setCell_same y6 w3.heap.size 8 _ _ (.int .i64 0) OB9.out)
  have Ca := hide (C9.out.setS ⟨w3.heap.size, 8, none⟩ (.int .i64 0) (.inl rfl))
  generalize y6.setCell ⟨w3.heap.size, 8, none⟩ (.int .i64 0) = y7 at *
  clear OB9 C9 f8 u8
  refine doneC (by kernel_rfl) (IC2.out _ Ca.out) ?_ _
  have x4 := IC3.out _ Ca.out
  clear IC2 IC3 IC
  go_upto_region 8 with fail
  have u0 : y7.cell? ⟨w3.heap.size, 0, none⟩ = some (.int .i64 0) := by rw [cell_of_row _ _ 0 _ _ _ OBa.out]; rfl
  have u1 : y7.cell? ⟨w3.heap.size, 1, none⟩ = some (.int .i64 (ts.length : Nat)) := by rw [cell_of_row _ _ 1 _ _ _ OBa.out]; rfl
  have u2 : y7.cell? ⟨w3.heap.size, 2, none⟩ = some (.int .i64 0) := by rw [cell_of_row _ _ 2 _ _ _ OBa.out]; rfl
  have u3 : y7.cell? ⟨w3.heap.size, 3, none⟩ = some (.slice none 0 0) := by rw [cell_of_row _ _ 3 _ _ _ OBa.out]; rfl
  have u4 : y7.cell? ⟨w3.heap.size, 4, none⟩ = some (.slice none 0 0) := by rw [cell_of_row _ _ 4 _ _ _ OBa.out]; rfl
  have u5 : y7.cell? ⟨w3.heap.size, 5, none⟩ = some (.int .i64 (M'.tx.length : Nat)) := by rw [cell_of_row _ _ 5 _ _ _ OBa.out]; rfl
  have u6 : y7.cell? ⟨w3.heap.size, 6, none⟩ = some (.int .i64 (brk M'.tx + 1)) := by rw [cell_of_row _ _ 6 _ _ _ OBa.out]; rfl
  have u7 : y7.cell? ⟨w3.heap.size, 7, none⟩ = some (.int .i64 (M'.dn.length : Nat)) := by rw [cell_of_row _ _ 7 _ _ _ OBa.out]; rfl
  have u8 : y7.cell? ⟨w3.heap.size, 8, none⟩ = some (.int .i64 0) := by rw [cell_of_row _ _ 8 _ _ _ OBa.out]; rfl
  have u9 : y7.cell? ⟨w3.heap.size, 9, none⟩ = some (.int .i64 0) := by rw [cell_of_row _ _ 9 _ _ _ OBa.out]; rfl
  have RS7 := hide ((Ca.out.block (w.heap.size + 1) (by have := BX.out.size; omega) (fun h9 => by omega)).trans RS4.out)
  refine wp_region_lit ?_
  refine wpList_plain rfl (fun K hK => ?_)
  go_simp
  refine hK _ _ ?_
  clear hK K
  refine wpList_store_row rfl 52 _ _ rfl (w.heap.size + 1) _ #[.int .i64 0, .int .i64 (ts.length : Nat), .int .i64 0, .slice none 0 0, .slice none 0 0, .int .i64 (M'.tx.length : Nat), .int .i64 (brk M'.tx + 1), .int .i64 (M'.dn.length : Nat), .int .i64 0, .int .i64 0] 52 rfl rfl RS7.out (by kernel_rfl) rfl (by simp [Value.oneCell']) ?_
  have RW := hide (show (y7.setRow (w.heap.size + 1) #[.int .i64 0, .int .i64 (ts.length : Nat), .int .i64 0, .slice none 0 0, .slice none 0 0, .int .i64 (M'.tx.length : Nat), .int .i64 (brk M'.tx + 1), .int .i64 (M'.dn.length : Nat), .int .i64 0, .int .i64 0]).heap[w.heap.size + 1]? = some (.cells #[.int .i64 0, .int .i64 (ts.length : Nat), .int .i64 0, .slice none 0 0, .slice none 0 0, .int .i64 (M'.tx.length : Nat), .int .i64 (brk M'.tx + 1), .int .i64 (M'.dn.length : Nat), .int .i64 0, .int .i64 0] 52 (0, 0)) from setRow_heap _ _ _ _ _ _ RS7.out)
  have C5 := hide (show ChgP y7 (y7.setRow (w.heap.size + 1) #[.int .i64 0, .int .i64 (ts.length : Nat), .int .i64 0, .slice none 0 0, .slice none 0 0, .int .i64 (M'.tx.length : Nat), .int .i64 (brk M'.tx + 1), .int .i64 (M'.dn.length : Nat), .int .i64 0, .int .i64 0]) (fun q => q = w.heap.size + 1) from (ChgP.reflS y7 _).row _ _ (.inl rfl))
  generalize y7.setRow (w.heap.size + 1) #[.int .i64 0, .int .i64 (ts.length : Nat), .int .i64 0, .slice none 0 0, .slice none 0 0, .int .i64 (M'.tx.length : Nat), .int .i64 (brk M'.tx + 1), .int .i64 (M'.dn.length : Nat), .int .i64 0, .int .i64 0] = y8 at *
  refine wpList_nil ?_
  clear u0 u1 u2 u3 u4 u5 u6 u7 u8 u9
  go_wp2
  have g0 : y8.cell? ⟨w.heap.size + 1, 0, none⟩ = some (.int .i64 0) := by rw [cell_of_row _ _ 0 _ _ _ RW.out]; rfl
  have g1 : y8.cell? ⟨w.heap.size + 1, 1, none⟩ = some (.int .i64 (ts.length : Nat)) := by rw [cell_of_row _ _ 1 _ _ _ RW.out]; rfl
  have g2 : y8.cell? ⟨w.heap.size + 1, 2, none⟩ = some (.int .i64 0) := by rw [cell_of_row _ _ 2 _ _ _ RW.out]; rfl
  have g3 : y8.cell? ⟨w.heap.size + 1, 3, none⟩ = some (.slice none 0 0) := by rw [cell_of_row _ _ 3 _ _ _ RW.out]; rfl
  have g4 : y8.cell? ⟨w.heap.size + 1, 4, none⟩ = some (.slice none 0 0) := by rw [cell_of_row _ _ 4 _ _ _ RW.out]; rfl
  have g5 : y8.cell? ⟨w.heap.size + 1, 5, none⟩ = some (.int .i64 (M'.tx.length : Nat)) := by rw [cell_of_row _ _ 5 _ _ _ RW.out]; rfl
  have g6 : y8.cell? ⟨w.heap.size + 1, 6, none⟩ = some (.int .i64 (brk M'.tx + 1)) := by rw [cell_of_row _ _ 6 _ _ _ RW.out]; rfl
  have g7 : y8.cell? ⟨w.heap.size + 1, 7, none⟩ = some (.int .i64 (M'.dn.length : Nat)) := by rw [cell_of_row _ _ 7 _ _ _ RW.out]; rfl
  have g8 : y8.cell? ⟨w.heap.size + 1, 8, none⟩ = some (.int .i64 0) := by rw [cell_of_row _ _ 8 _ _ _ RW.out]; rfl
  have g9 : y8.cell? ⟨w.heap.size + 1, 9, none⟩ = some (.int .i64 0) := by rw [cell_of_row _ _ 9 _ _ _ RW.out]; rfl
  have hMq := HMq.out
  subst hMq
  refine bodyPost_ret (v := .agg #[.int .i64 0, .int .i64 (ts.length : Nat), .int .i64 0, .slice none 0 0, .slice none 0 0, .int .i64 ((insE M off ts).tx.length : Nat), .int .i64 (brk (insE M off ts).tx + 1), .int .i64 ((insE M off ts).dn.length : Nat), .int .i64 0, .int .i64 0]) (by simp [results, Tryz.results38, go_sem, g0, g1, g2, g3, g4, g5, g6, g7, g8, g9]) rfl ⟨by rw [← HU.out]; rfl, Z', (fun q => F' q ∨ w3.heap.size ≤ q ∧ q < w4.heap.size), (fun q => FC' q ∨ w3.heap.size ≤ q ∧ q < w4.heap.size), mv', dv', (EMo.out _ Ca.out).chg C5.out (fun q _ hq => ?_), fun q hq => .inl (FF.out.1 q (.inl hq)), FF.out.2.1, fun q hq => ?_, fun q hq => ?_, ?_⟩
  · subst hq
    exact ⟨EM4.out.ff _ (.inl GG4.out.1), GG4.out.2, by have := HEl.out; omega, fun h9 => (EM4.out.fd _ h9).2 (.inl GG4.out.1), by simp [Value.ownBlock], fun h9 => by rw [HO3.out] at h9; cases h9⟩
  · rcases hq with hq | hq
    · rcases FF.out.2.2.1 q hq with (h9 | h9) | h9
      · exact .inl h9
      · exact .inr h9.1
      · exact .inr (by omega)
    · exact .inr (by omega)
  · rcases FF.out.2.2.2.1 q hq with h9 | h9
    · exact .inl h9
    · exact .inr (by omega)
  · refine ((((ChgP.of_below (S := fun q => ¬ F q) BB.out (Nat.le_refl _)).transS FF.out.2.2.2.2 (fun q hq => ?_)).belowS BX.out (by omega)).transS Ca.out (fun q hq => .inr (by omega))).transS C5.out (fun q hq => .inr (by omega))
    exact .inl (fun h9 => hq (.inl h9))
end Go.Proofs.YtbkcbhjejkicjaaGreatDoor

namespace Go.Proofs.YtbkcbhjejkicjaaGreatDoor
open Go Go.RowKit
set_option linter.unusedVariables false

theorem Tryz.info64F : (Tryz.prog.info? 3).map (fun i => (i.zero, i.size, i.bytes)) = some (some (.int .i64 0), 1, 8) := by kernel_rfl

set_option maxHeartbeats 4000000 in
set_option maxRecDepth 100000 in
theorem learnF (c g cap n nl a b m : Nat) (sv : Value) (vs : List Value) (gs : List Gr) (LS : List (List Int)) (rn : Int) (st : List Int) (w : World) (h : LCr w 0 w.heap.size c (.slice (some ⟨g, 0, none⟩) n cap) sv vs gs a b rn st) (hN : gs.length = n) (hab : a ≤ b ∧ b ≤ n) (hn : n ≤ 1048576) (hLn : LS.length = nl) (h2 : nl ≤ 8193) (hSB : ∀ k, k < nl → ∃ x u, gs[phi a b k]? = some x ∧ vs[phi a b k]? = some u ∧ LS[k]? = some (grT x) ∧ okG x) (hs1 : 1 ≤ st.length) (hst : st = (stL LS).take st.length) (hsn : st.length ≤ nl) (hm : m ≤ nl) (hj : (jn LS).length ≤ 8192) :
    Calls Tryz.prog 225 #[.pointer (some ⟨c, 0, none⟩), .int .i64 m] w fun e w' => ∃ sv', e = .returned (.tuple #[]) ∧ LCr w' 0 w'.heap.size c (.slice (some ⟨g, 0, none⟩) n cap) sv' vs gs a b rn ((stL LS).take (max st.length m)) ∧ ChgP w w' (fun k => k = c ∨ sv.ownBlock = some k) ∧ (∀ q, sv'.ownBlock = some q → (q = c ∨ sv.ownBlock = some q) ∨ w.heap.size ≤ q) := by
  obtain ⟨i0, hi0, hz0, hz1, hz2⟩ := info_parts Tryz.info64F
  have SB := hide hSB
  generalize hSS : (fun k => k = c ∨ sv.ownBlock = some k) = S at *
  have HSS := hide hSS
  have SVE := hide (fun q (hq : sv.ownBlock = some q) => (show S q ∨ w.heap.size ≤ q from .inl (by rw [← hSS]; exact .inr hq)))
  have SC := hide (show S c from by rw [← hSS]; exact .inl rfl)
  have JB := hide (show smL LS + nl ≤ 8193 from by
    have := jn_len (ls := LS) (by intro e; rw [e] at hLn; simp at hLn; omega)
    rw [hLn] at this; omega)
  have ST := hide (fun (j : Nat) (l : List Int) (hl : LS[j]? = some l) => stL_step hl)
  have SG := hide (fun (j : Nat) (hj : j < nl) => stL_getD (ls := LS) (i := j) (by rw [hLn]; exact hj))
  have STS := hide (fun (j : Nat) (hj : j < nl) => stL_take_succ (ls := LS) (i := j) (by rw [hLn]; exact hj))
  have STL := hide (show (stL LS).length = nl by rw [stL_len, hLn])
  have SML := hide (fun j => smL_take_le LS j)
  have hcap : n ≤ cap ∧ cap ≤ maxLen := by
    have hr := h.rows.row
    rw [hN] at hr
    rcases hr.2 with ⟨q, _⟩ | ⟨g', cap', cur, q, _, _, c1, c2, _⟩
    · cases q
    · simp only [Value.slice.injEq, Option.some.injEq, Addr.mk.injEq, and_true, true_and] at q
      obtain ⟨_, rfl⟩ := q
      exact ⟨c1, c2⟩
  have HN := hide hN
  obtain ⟨s0, hs0⟩ : ∃ s0, s0 = st.length := ⟨_, rfl⟩
  rw [← hs0] at hst hs1 hsn ⊢
  rw [hst] at h
  have H := hide h
  obtain ⟨as_, cs_, hsv⟩ := o64_val h.starts
  rw [List.length_take, STL.out, Nat.min_eq_left hsn] at hsv
  subst hsv
  have c4 := h.cells.2.2.2.2
  obtain ⟨k1, k2⟩ := hcap
  unfold maxLen at k2
  clear h hN hSB hj hst hs0 hLn hSS
  go_enter Tryz.func225, Tryz.ntmps225
  go_wp2_with fail
  go_loopw [4] (fun kk wr => ∃ j : Nat, s0 ≤ j ∧ j ≤ max s0 m ∧ kk = .int .i64 j ∧ ChgP w wr S ∧ ∃ aj cj, LCr wr 0 wr.heap.size c (.slice (some ⟨g, 0, none⟩) n cap) (.slice aj j cj) vs gs a b rn ((stL LS).take j) ∧ ∀ q, (Value.slice aj j cj).ownBlock = some q → S q ∨ w.heap.size ≤ q)
    (fun kk _ => max s0 m - (intOf kk).toNat)
  case atStart => exact ⟨s0, Nat.le_refl _, by omega, rfl, ChgP.reflS _ _, _, _, H.out, SVE.out⟩
  case round =>
    obtain ⟨j, hj1, hj2, rfl, hb, aj, cj, hL, hso⟩ := hrel
    have SO := hide hso
    have HB := hide hb
    have HL := hide hL
    have hsz := hb.size
    by_cases hlt : j < m
    · have hjn : j < nl := by omega
      obtain ⟨i, rfl⟩ : ∃ i, j = i + 1 := ⟨j - 1, by omega⟩
      obtain ⟨x, u, hx, hu, hl, hokx⟩ := SB.out i (by omega)
      have hpi : phi a b i < n := by rw [← HN.out]; exact (List.getElem?_eq_some_iff.1 hx).1
      have e0 := ST.out i _ hl
      have hgl := SG.out i (by omega)
      have hc := hL.rows.cells HN.out hx hu
      have hgt := grT_len hokx.1
      obtain ⟨q0, q1, q2, q3, q4⟩ := hL.cells
      have f4 := hL.fz 4
      have hcl := hL.lt
      obtain ⟨ai, ci, hu'⟩ := o32_val (hL.rows.inner hx hu)
      have AT := hide (fun (W : World) (hW : W.heap = wr.heap) => atF c g cap n i a b W (RC.same (w := wr) ⟨q0, q1, q2⟩ hW) hab hpi k1 (by omega))
      have GCx := hide (show GC wr g (phi a b i * 3) u x.lo x.hi from ⟨hc.1, hc.2.1, hc.2.2⟩)
      have hbd : 0 ≤ x.lo ∧ x.lo ≤ x.hi ∧ x.hi ≤ x.cells.length := by
        obtain ⟨⟨_, ⟨_, q3⟩, ⟨q4, q5⟩, _⟩, _⟩ := hokx.1
        exact ⟨q4, q5, q3⟩
      have LE := hide (fun (W : World) (hW : W.heap = wr.heap) => lengthG g (phi a b i * 3) ai x.cells.length ci x.lo x.hi W (by have := GCx.out.same hW; rw [hu'] at this; exact this) hbd.1 hbd.2.1 hbd.2.2 (by omega))
      have hr := hL.starts
      unfold o64 at hr
      rw [List.length_take, STL.out, Nat.min_eq_left (by omega)] at hr
      have hsm1 := SML.out i
      have hjb := JB.out
      have OW := hide hr
      rcases hr.2 with ⟨_, q⟩ | ⟨gj, cj', cur, q, _, _, d1, d2, _⟩
      · omega
      simp only [Value.slice.injEq, true_and] at q
      obtain ⟨rfl, rfl⟩ := q
      have cs : wr.cell? ⟨gj, i, none⟩ = some (.int .i64 ((smL (LS.take i) + i : Nat) : Int)) := by
        have := owns_cell hr i (by omega)
        rw [this]
        simp only [List.getD_eq_getElem?_getD] at hgl ⊢
        rw [List.getElem?_take, if_pos (by omega), hgl]
      unfold maxLen at d2
      have TK := hide (STS.out (i + 1) hjn)
      have EV := hide e0
      have HGT := hide hgt.1
      generalize hsA : ((smL (LS.take i) + i : Nat) : Int) = sA at *
      have hsA0 : 0 ≤ sA ∧ sA ≤ 20000 := by omega
      generalize hxc : x.cells.length = xc at *
      generalize hxl : x.lo = xl at *
      generalize hxh : x.hi = xh at *
      have hxc2 : xc ≤ 65536 := hgt.2.2
      have X0 := hide hL
      have hclw : c < wr.heap.size := hL.lt
      have hlt' : ((i + 1 : Nat) : Int) < m := by omega
      have hnc : some gj ≠ some c := by
        intro e
        cases e
        exact own_apart (blk_row hL.blk) hr (by decide) rfl rfl
      have VV : sA + ((xc : Int) - (xh - xl)) + 1 = ((smL (LS.take (i + 1)) + (i + 1) : Nat) : Int) := by rw [← hgt.1]; exact e0
      have LAP := hide (fun (x7 : World) (X7 : x7.heap = wr.heap) (B7 : ChgP w x7 S) (x8 : World) (g5 cap5 : Nat) (hg5 : (x7.alloc (.cells #[.int .i64 (sA + ((xc : Int) - (xh - xl)) + 1)] 3)).grownBy x8 (Value.slice (some ⟨gj, 0, none⟩) (i + 1) cj).ownBlock) (ho5 : x8.ownsRow 0 3 1 (.slice (some ⟨g5, 0, none⟩) (i + 1 + 1) cap5) (i + 1 + 1) (ints .i64 ((stL LS).take (i + 1)) ++ [.int .i64 (sA + ((xc : Int) - (xh - xl)) + 1)])) (hgq : (Value.slice (some ⟨gj, 0, none⟩) (i + 1) cj).ownBlock = some g5 ∨ g5 = x7.heap.size + 1) (hgl5 : g5 < x8.heap.size) => (show LCr (x8.setCell ⟨c, 4, none⟩ (.slice (some ⟨g5, 0, none⟩) (i + 1 + 1) cap5)) 0 x8.heap.size c (.slice (some ⟨g, 0, none⟩) n cap) (.slice (some ⟨g5, 0, none⟩) (i + 1 + 1) cap5) vs gs a b rn ((stL LS).take (i + 1 + 1)) ∧ x8.heap[c]? = some (.cells #[.slice (some ⟨g, 0, none⟩) n cap, .int .i64 a, .int .i64 b, .int .i64 rn, .slice (some ⟨gj, 0, none⟩) (i + 1) cj] 148 (0, 0)) ∧ ChgP w x8 S ∧ (S g5 ∨ w.heap.size ≤ g5) from by
        have hs7 : x7.heap.size = wr.heap.size := by rw [X7]
        have AL := (Below.refl x7.heap.size x7).alloc (Nat.le_refl _) (.cells #[.int .i64 (sA + ((xc : Int) - (xh - xl)) + 1)] 3)
        have L7 := (hL.same X7).below AL (by omega) (by have := hL.lt; omega)
        have hsz8 := hg5.size
        simp at hsz8
        have AP := L7.app (hi' := x8.heap.size) hg5 (sv' := .slice (some ⟨g5, 0, none⟩) (i + 1 + 1) cap5) (st' := (stL LS).take (i + 1 + 1)) (by
          unfold o64
          rw [List.length_take, STL.out, Nat.min_eq_left (by omega), TK.out, ints_append, ← VV]
          exact ho5) (fun q hq => by simp only [Value.ownBlock, Option.some.injEq] at hq; omega) (by omega)
        exact ⟨AP.1, AP.2, (B7.allocS _).grownS hg5 (fun q hq => SO.out q hq), by
          rcases hgq with q | q
          · exact SO.out _ q
          · exact .inr (by omega)⟩))
      clear hL hr hb e0 hgl hc hgt VV hokx hl hx hu hu' hsA hxc hxl hxh GCx q3 hso
      have hw1 : IntKind.i64.wrap (i : Int) = i := IntWalk.i64_in _ (by omega)
      have hw2 : IntKind.i64.wrap (sA + ((xc : Int) - (xh - xl))) = sA + ((xc : Int) - (xh - xl)) := IntWalk.i64_in _ (by omega)
      have hw3 : IntKind.i64.wrap (sA + ((xc : Int) - (xh - xl)) + 1) = sA + ((xc : Int) - (xh - xl)) + 1 := IntWalk.i64_in _ (by omega)
      have hib : (0 : Int) ≤ (i : Int) ∧ (i : Int) < (i : Int) + 1 := by omega
      have hib1 : (i : Int) < (i : Int) + 1 := by omega
      clear H SB JB ST SG STS SML STL HN HL TK EV HGT X0 hs1 hsm1 hjb
      generalize phi a b i = pi at *
      go_upto_region 3 with fail
      go_region_law (first
        | (refine step_append_lies _ rfl _ _ 34 rfl 0 3 i0 (.int .i64 0) 1 8 Tryz.underlying34 hi0 hz0 hz1 hz2 rfl (by decide) _ _ _ rfl (by exact (O7.out.alloc _)) ⟨x7.heap.size, 0, none⟩ 1 1 [.int .i64 (sA + ((xc : Int) - (xh - xl)) + 1)] rfl rfl (by exact newcells x7 _ _) (by simp [Value.oneCell']) (by omega) (by unfold maxLen; omega) (by omega) (Nat.zero_le _) (x7.heap.size + 1) (by simp) ?_; intro g5 cap5 x8 ho5 hg5 hgg hgl5; have APP := LA7.out x8 g5 cap5 hg5 ho5 hgg hgl5; have T8 := hide APP.2.1; have t8 : x8.cell? ⟨c, 4, none⟩ = some (.slice (some ⟨gj, 0, none⟩) (i + 1) cj) := (by rw [cell_of_row x8 _ 4 _ _ _ T8.out]; rfl); have ft8 := frozen_of_row x8 c 4 _ _ T8.out; have F8 := hide APP.1; have B8 := hide APP.2.2.1; have G8 := hide APP.2.2.2; clear ho5 hg5 APP)
        | (go_simp; go_wp2_with (first | (go_at_call 218; refine (AT.out _ (by exact rfl)).mono ?_; rintro e w2 ⟨rfl, na, rfl⟩) | (go_at_call 221; refine (LE.out _ (by exact rfl)).mono ?_; rintro e x7 ⟨rfl, nq, hw⟩; have X7 : x7.heap = wr.heap := (by rw [hw]; rfl); have S7 : x7.heap.size = wr.heap.size := (by rw [X7]); have t47 : x7.cell? ⟨c, 4, none⟩ = some (.slice (some ⟨gj, 0, none⟩) (i + 1) cj) := (World.cell?_of_block (by rw [X7])).trans q4; have cs7 : x7.cell? ⟨gj, i, none⟩ = some (.int .i64 sA) := (World.cell?_of_block (by rw [X7])).trans cs; have l7 : c < x7.heap.size := (by omega); have n7 : c ≠ x7.heap.size := (by omega); have O7 := hide (show x7.ownsRow 0 3 1 (.slice (some ⟨gj, 0, none⟩) (i + 1) cj) (i + 1) (ints .i64 ((stL LS).take (i + 1))) from owns_of_block OW.out (fun q _ => by rw [X7])); have B7 := hide (show ChgP w x7 S from (by rw [hw]; exact ⟨HB.out.os, HB.out.tape, HB.out.output, HB.out.size, HB.out.block⟩)); have LA7 := hide (LAP.out x7 X7 B7.out); clear hw X7 S7))))
      all_goals (
        go_wp2_with fail
        go_roundw
        case rel =>
          exact ⟨i + 1 + 1, by omega, by omega, by go_num, B8.out.setS _ _ (.inl SC.out), _, _, F8.out.mono (Nat.le_refl _) (by simp), fun q hq => by simp only [Value.ownBlock, Option.some.injEq] at hq; subst hq; exact G8.out⟩
        case measure => simp [intOf]; omega)
    · have hmx : max s0 m = j := by omega
      have hlt' : ¬ (j : Int) < m := by omega
      clear hL hb hso
      go_wp2
      go_end0
      exact ⟨rfl, ⟨_, HL.out, HB.out, fun q hq => by have h9 := SO.out q hq; rw [← HSS.out] at h9; exact h9⟩⟩
end Go.Proofs.YtbkcbhjejkicjaaGreatDoor

namespace Go.Proofs.YtbkcbhjejkicjaaGreatDoor
open Go Go.RowKit
set_option linter.unusedVariables false

/-- The starts, as numbers. -/
def sAt (ls : List (List Int)) (i : Nat) : Nat := smL (ls.take i) + i
theorem sAt_lt (ls : List (List Int)) {i j : Nat} (h : i < j) : sAt ls i < sAt ls j := by
  unfold sAt
  have : smL (ls.take i) ≤ smL (ls.take j) := by
    have := smL_take_le (ls.take j) i
    rw [List.take_take, Nat.min_eq_left (by omega)] at this
    exact this
  omega
/-- How far the index is known behind a finding. -/
def Kn (ls : List (List Int)) (s0 off m : Nat) : Prop := s0 ≤ m ∧ m ≤ ls.length ∧ (∀ i, s0 ≤ i → i < m → sAt ls (i - 1) ≤ off) ∧ (m < ls.length → off < sAt ls (m - 1))
/-- The line of an offset. -/
def Ln (ls : List (List Int)) (off k : Nat) : Prop := k < ls.length ∧ sAt ls k ≤ off ∧ (k + 1 < ls.length → off < sAt ls (k + 1))

set_option maxHeartbeats 1000000 in
set_option maxRecDepth 100000 in
theorem knownN (lo hi c m off : Nat) (rv sv : Value) (vs : List Value) (gs : List Gr) (a b : Nat) (rn : Int) (ls : List (List Int)) (w : World) (h : LCr w lo hi c rv sv vs gs a b rn ((stL ls).take m)) (hm : m ≤ ls.length) (hm1 : 1 ≤ m) (hl : ls.length ≤ 8193) (hof : off ≤ 20000) :
    Calls Tryz.prog 226 #[.pointer (some ⟨c, 0, none⟩), .int .i64 off] w fun e w' => ∃ k : Nat, e = .returned (.int .i64 k) ∧ k < m ∧ sAt ls k ≤ off ∧ (k + 1 < m → off < sAt ls (k + 1)) ∧ w' = w := by
  have STL : (stL ls).length = ls.length := stL_len ls
  obtain ⟨as', cs', hsv⟩ := o64_val h.starts
  rw [List.length_take, STL, Nat.min_eq_left hm] at hsv
  have c4 := h.cells.2.2.2.2
  have hr := h.starts
  unfold o64 at hr
  rw [List.length_take, STL, Nat.min_eq_left hm, hsv] at hr
  have HR := hide hr
  rcases hr.2 with ⟨_, q⟩ | ⟨gj, cj, cur, q, _, _, d1, d2, _⟩
  · omega
  simp only [Value.slice.injEq, true_and] at q
  obtain ⟨rfl, rfl⟩ := q
  rw [hsv] at c4
  unfold maxLen at d2
  have SE := hide (searchIN gj cs' m (off : Int) (fun j => ((sAt ls j : Nat) : Int)) w (fun j hj => by
    have := owns_cell HR.out j hj
    rw [this]
    have h9 := stL_getD (ls := ls) (i := j) (by omega)
    simp only [List.getD_eq_getElem?_getD] at h9 ⊢
    rw [List.getElem?_take, if_pos hj, h9]
    rfl) d1 (by omega) (fun i j hij _ => by have := sAt_lt ls hij; omega))
  clear h hr hsv
  go_enter Tryz.func226, Tryz.ntmps226
  go_wp2_with fail
  refine SE.out.mono ?_
  rintro e w1 ⟨k, rfl, hk, h1, h2, hw⟩
  subst hw
  have H1 := hide h1
  have H2 := hide h2
  clear h1 h2 SE
  by_cases hx : k < m ∧ ((sAt ls k : Nat) : Int) = off
  · have HX := hide hx
    have hd : decide (k < m ∧ ((sAt ls k : Nat) : Int) = off) = true := by simpa using hx
    rw [hd]
    clear hx hd
    go_wp2_with fail
    go_ret
    exact ⟨k, rfl, HX.out.1, by have := HX.out.2; omega, fun q => by have := sAt_lt ls (show k < k + 1 by omega); have := HX.out.2; omega, rfl⟩
  · have HX := hide hx
    have hd : decide (k < m ∧ ((sAt ls k : Nat) : Int) = off) = false := by simpa using hx
    rw [hd]
    clear hx hd
    have hk1 : 1 ≤ k := by
      rcases Nat.eq_zero_or_pos k with q | q
      · subst q
        have := H2.out 0 (Nat.le_refl _) (by omega)
        have h0 : sAt ls 0 = 0 := by simp [sAt, smL]
        exact absurd ⟨by omega, by rw [h0] at this ⊢; omega⟩ HX.out
      · exact q
    obtain ⟨k', rfl⟩ : ∃ k', k = k' + 1 := ⟨k - 1, by omega⟩
    go_wp2_with fail
    go_ret
    refine ⟨k', by go_num, by omega, by have := H1.out k' (by omega); omega, fun q => ?_, rfl⟩
    have h3 := H2.out (k' + 1) (Nat.le_refl _) q
    rcases Nat.lt_or_ge off (sAt ls (k' + 1)) with q2 | q2
    · exact q2
    · exact absurd ⟨q, by omega⟩ HX.out
end Go.Proofs.YtbkcbhjejkicjaaGreatDoor

