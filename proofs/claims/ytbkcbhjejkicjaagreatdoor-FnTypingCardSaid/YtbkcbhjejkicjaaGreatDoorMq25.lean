import Derived.Test.YtbkcbhjejkicjaaGreatDoorMq24
namespace Go.Proofs.YtbkcbhjejkicjaaGreatDoor
open Go Go.RowKit Go.Sort
set_option linter.unusedVariables false

theorem brk_bndS (zs : List Int) (h : zs.length ≤ 8192) : IntKind.i64.wrap (brk zs + 1) = brk zs + 1 := by
  have h1 : 0 ≤ brk zs ∧ brk zs ≤ zs.length := by
    unfold brk
    have := List.length_filter_le (· == (10 : Int)) zs
    omega
  rw [IntKind.wrap_i64]; omega
set_option maxHeartbeats 4000000 in
set_option maxRecDepth 100000 in
theorem stepS (B s cp nl off : Nat) (tx bs : List Int) (us : List Value) (sp b1 b2 : Int) (lv : Value) (ba : Option Addr) (bl bk : Nat) (w : World) (h : MS w B s tx us sp cp nl lv) (hrd : Rd .u8 w (.slice ba bl bk) bs) (hby : bytes bs) (hbn : bs.length ≤ 1048576) (h0 : 0 < (decs bs).length) (ho : off ≤ tx.length) (hx : tx.length + (decs bs).length ≤ 8192) (hnl : nl ≤ 10000) (hsp : 0 ≤ sp ∧ sp + (decs bs).length ≤ 200000) :
    Calls Tryz.prog 19 #[.pointer (some ⟨s, 0, none⟩), .agg #[.int .i64 1, .int .i64 off, .int .i64 b1, .int .i64 b2, .slice ba bl bk]] w fun e w' => e = .returned (.agg (obS 0 (decs bs).length 0 (.slice none 0 0) (.slice none 0 0) (tx.take off ++ (decs bs ++ tx.drop off)).length (brk (tx.take off ++ (decs bs ++ tx.drop off)) + 1) (min (us.length + 1) cp : Nat) 0 0)) ∧ EditS w B s (tx.take off ++ (decs bs ++ tx.drop off)) (min (us.length + 1) cp) (sp + (decs bs).length) cp (nl + 1) lv w' := by
  have BB := hide (bAS (bAS (Below.refl w.heap.size w) (.cells #[.int .i64 1, .int .i64 off, .int .i64 b1, .int .i64 b2, .slice ba bl bk] 30)) (.cells (obS 0 0 0 (.slice none 0 0) (.slice none 0 0) 0 0 0 0 0) 52))
  have HDE := hide (fun (W : World) (hW : Below w.heap.size w W) => actS B s cp nl off tx bs us sp b1 b2 lv ba bl bk W (h.below hW) (hrd.below hW) hby hbn h0 ho hx hnl hsp)
  obtain ⟨hs, hlv, _⟩ := h.lv
  have HLV := hide hlv
  have OP := hide (heap1 w (.cells (obS 0 0 0 (.slice none 0 0) (.slice none 0 0) 0 0 0 0 0) 52) #[.int .i64 1, .int .i64 off, .int .i64 b1, .int .i64 b2, .slice ba bl bk] 30)
  have RS := hide (heap2 w (.cells #[.int .i64 1, .int .i64 off, .int .i64 b1, .int .i64 b2, .slice ba bl bk] 30) (obS 0 0 0 (.slice none 0 0) (.slice none 0 0) 0 0 0 0 0) 52)
  have yA : w.heap.size + 1 < ((w.alloc (.cells #[.int .i64 1, .int .i64 off, .int .i64 b1, .int .i64 b2, .slice ba bl bk] 30)).alloc (.cells (obS 0 0 0 (.slice none 0 0) (.slice none 0 0) 0 0 0 0 0) 52)).heap.size := by simp
  have hnx : (tx.take off ++ (decs bs ++ tx.drop off)).length ≤ 8192 := by simp; omega
  have wB := brk_bndS _ hnx
  unfold obS at *
  generalize hts : (decs bs).length = m at *
  generalize tx.take off ++ (decs bs ++ tx.drop off) = tx' at *
  generalize hu0 : min (us.length + 1) cp = u at *
  generalize hn0 : tx'.length = n' at *
  have HN := hide hn0
  clear h hrd hts hlv hu0 hn0
  go_enter Tryz.func19, Tryz.ntmps19
  go_upto_region 1 with fail
  generalize (w.alloc (.cells #[.int .i64 1, .int .i64 off, .int .i64 b1, .int .i64 b2, .slice ba bl bk] 30)).alloc (.cells #[.int .i64 0, .int .i64 0, .int .i64 0, .slice none 0 0, .slice none 0 0, .int .i64 0, .int .i64 0, .int .i64 0, .int .i64 0, .int .i64 0] 52) = wA at *
  have z0 : wA.cell? ⟨w.heap.size, 0, none⟩ = some (.int .i64 1) := by rw [cell_of_row _ _ 0 _ _ _ OP.out]; rfl
  have z1 : wA.cell? ⟨w.heap.size, 1, none⟩ = some (.int .i64 off) := by rw [cell_of_row _ _ 1 _ _ _ OP.out]; rfl
  have z2 : wA.cell? ⟨w.heap.size, 2, none⟩ = some (.int .i64 b1) := by rw [cell_of_row _ _ 2 _ _ _ OP.out]; rfl
  have z3 : wA.cell? ⟨w.heap.size, 3, none⟩ = some (.int .i64 b2) := by rw [cell_of_row _ _ 3 _ _ _ OP.out]; rfl
  have z4 : wA.cell? ⟨w.heap.size, 4, none⟩ = some (.slice ba bl bk) := by rw [cell_of_row _ _ 4 _ _ _ OP.out]; rfl
  have DE := hide (HDE.out wA BB.out)
  have CA := hide (ChgP.of_below (S := fun q => q = s ∨ lv.ownBlock = some q) BB.out (Nat.le_refl _))
  clear HDE
  go_wp2_with fail
  refine DE.out.mono ?_
  rintro e w1 ⟨rfl, hE⟩
  have hc3 : ChgP wA w1 (fun q => q = s ∨ lv.ownBlock = some q) := by obtain ⟨_, _, _, _, h9, _⟩ := hE; exact h9
  have y3 := hc3.size
  have hl1 : lv.ownBlock ≠ some (w.heap.size + 1) := fun e => by have := (HLV.out _ e).1; omega
  have BX := hide (bAS (Below.refl w1.heap.size w1) (.cells #[.int .i64 0, .int .i64 (m : Nat), .int .i64 0, .slice none 0 0, .slice none 0 0, .int .i64 0, .int .i64 0, .int .i64 0, .int .i64 0, .int .i64 0] 52))
  have RS3 := hide ((BX.out.block (w.heap.size + 1) (by omega)).trans ((hc3.block (w.heap.size + 1) (by omega) (fun h9 => h9.elim (by omega) hl1)).trans RS.out))
  have E2 := hide ((hE.after CA.out).later (ChgP.of_below (S := fun _ => False) BX.out (Nat.le_refl _)) (fun _ _ h9 => h9.elim) (fun _ h9 => h9.elim))
  have OB2 := hide (show (w1.alloc (.cells #[.int .i64 0, .int .i64 (m : Nat), .int .i64 0, .slice none 0 0, .slice none 0 0, .int .i64 0, .int .i64 0, .int .i64 0, .int .i64 0, .int .i64 0] 52)).heap[w1.heap.size]? = some (.cells #[.int .i64 0, .int .i64 (m : Nat), .int .i64 0, .slice none 0 0, .slice none 0 0, .int .i64 0, .int .i64 0, .int .i64 0, .int .i64 0, .int .i64 0] 52 (0, 0)) from heap_alloc_new _ _)
  have yB : w1.heap.size < (w1.alloc (.cells #[.int .i64 0, .int .i64 (m : Nat), .int .i64 0, .slice none 0 0, .slice none 0 0, .int .i64 0, .int .i64 0, .int .i64 0, .int .i64 0, .int .i64 0] 52)).heap.size := by simp
  have yC : w.heap.size + 1 < w1.heap.size := by omega
  clear hE hc3 DE OP RS CA BX z0 z1 z2 z3 z4
  go_upto_region 2 with fail
  generalize w1.alloc (.cells #[.int .i64 0, .int .i64 (m : Nat), .int .i64 0, .slice none 0 0, .slice none 0 0, .int .i64 0, .int .i64 0, .int .i64 0, .int .i64 0, .int .i64 0] 52) = w2 at *
  generalize w1.heap.size = O at *
  have e2 := E2.out
  obtain ⟨lv2, us2, hM2, hu2, -, -⟩ := e2
  have k0 : w2.cell? ⟨O, 0, none⟩ = some (.int .i64 0) := by rw [cell_of_row _ _ 0 _ _ _ OB2.out]; rfl
  have k5 : w2.cell? ⟨O, 5, none⟩ = some (.int .i64 0) := by rw [cell_of_row _ _ 5 _ _ _ OB2.out]; rfl
  have l5 := frozen_of_row w2 O 5 _ _ OB2.out
  obtain ⟨ta, tq, ua, uq, c0, hT, -⟩ := hM2.cells
  rw [HN.out] at c0
  clear hM2 hu2 hT us2 lv2
  go_upto_region 5 with fail
  have OB3 := hide (heap_setCell_same w2 O 5 _ _ (.int .i64 (n' : Nat)) OB2.out)
  have C3 := hide ((ChgP.reflS w2 (fun q => q = O)).setS ⟨O, 5, none⟩ (.int .i64 (n' : Nat)) (.inl rfl))
  have OT2 := hide (show Oth w2 O from ⟨_, _, _, OB2.out, by decide, by decide, by decide, by decide, by decide⟩)
  have E3 := hide (E2.out.later C3.out (fun q _ hq => by rw [hq]; exact OT2.out) (fun q hq => by omega))
  have RS4 := hide ((C3.out.block (w.heap.size + 1) (by omega) (by omega)).trans RS3.out)
  have y4 := C3.out.size
  generalize w2.setCell ⟨O, 5, none⟩ (.int .i64 (n' : Nat)) = w3 at *
  clear k0 k5 l5 c0 E2 OB2 C3 OT2 RS3
  have e3 := E3.out
  obtain ⟨lv2, us2, hM2, hu2, -, -⟩ := e3
  have BRK := hide (breaksS _ _ _ _ _ _ _ _ w3 hM2 (by rw [HN.out]; exact hnx))
  generalize hbq : brk tx' = bq at *
  have HBQ := hide hbq
  clear hbq
  have k6 : w3.cell? ⟨O, 6, none⟩ = some (.int .i64 0) := by rw [cell_of_row _ _ 6 _ _ _ OB3.out]; rfl
  have k7 : w3.cell? ⟨O, 7, none⟩ = some (.int .i64 0) := by rw [cell_of_row _ _ 7 _ _ _ OB3.out]; rfl
  have k8 : w3.cell? ⟨O, 8, none⟩ = some (.int .i64 0) := by rw [cell_of_row _ _ 8 _ _ _ OB3.out]; rfl
  have l6 := frozen_of_row w3 O 6 _ _ OB3.out
  have l7 := frozen_of_row w3 O 7 _ _ OB3.out
  have l8 := frozen_of_row w3 O 8 _ _ OB3.out
  obtain ⟨ta, tq, ua, uq, -, hT, c2, c3, c5⟩ := hM2.cells
  rw [hu2] at c2
  have hsO : ¬ s = O := by omega
  have hOs : ¬ O = s := by omega
  clear hM2 hu2 hT us2 lv2
  go_wp2_with fail
  refine BRK.out.mono ?_
  rintro e w3' ⟨rfl, rfl⟩
  go_upto_region 10 with fail
  have OB4 := hide (heap_setCell_same _ O 8 _ _ (.int .i64 0) (heap_setCell_same _ O 7 _ _ (.int .i64 (u : Nat)) (heap_setCell_same w3' O 6 _ _ (.int .i64 (bq + 1)) OB3.out)))
  have C4 := hide ((((ChgP.reflS w3' (fun q => q = O)).setS ⟨O, 6, none⟩ (.int .i64 (bq + 1)) (.inl rfl)).setS ⟨O, 7, none⟩ (.int .i64 (u : Nat)) (.inl rfl)).setS ⟨O, 8, none⟩ (.int .i64 0) (.inl rfl))
  have OT3 := hide (show Oth w3' O from ⟨_, _, _, OB3.out, by decide, by decide, by decide, by decide, by decide⟩)
  have E4 := hide (E3.out.later C4.out (fun q _ hq => by rw [hq]; exact OT3.out) (fun q hq => by omega))
  have RS5 := hide ((C4.out.block (w.heap.size + 1) (by omega) (by omega)).trans RS4.out)
  generalize ((w3'.setCell ⟨O, 6, none⟩ (.int .i64 (bq + 1))).setCell ⟨O, 7, none⟩ (.int .i64 (u : Nat))).setCell ⟨O, 8, none⟩ (.int .i64 0) = w4 at *
  replace OB4 := hide (show w4.heap[O]? = some (.cells #[.int .i64 0, .int .i64 (m : Nat), .int .i64 0, .slice none 0 0, .slice none 0 0, .int .i64 (n' : Nat), .int .i64 (bq + 1), .int .i64 (u : Nat), .int .i64 0, .int .i64 0] 52 (0, 0)) from OB4.out)
  clear k6 k7 k8 l6 l7 l8 c2 c3 c5 E3 OB3 C4 OT3 RS4 BRK
  have k0 : w4.cell? ⟨O, 0, none⟩ = some (.int .i64 0) := by rw [cell_of_row _ _ 0 _ _ _ OB4.out]; rfl
  have k1 : w4.cell? ⟨O, 1, none⟩ = some (.int .i64 (m : Nat)) := by rw [cell_of_row _ _ 1 _ _ _ OB4.out]; rfl
  have k2 : w4.cell? ⟨O, 2, none⟩ = some (.int .i64 0) := by rw [cell_of_row _ _ 2 _ _ _ OB4.out]; rfl
  have k3 : w4.cell? ⟨O, 3, none⟩ = some (.slice none 0 0) := by rw [cell_of_row _ _ 3 _ _ _ OB4.out]; rfl
  have k4 : w4.cell? ⟨O, 4, none⟩ = some (.slice none 0 0) := by rw [cell_of_row _ _ 4 _ _ _ OB4.out]; rfl
  have k5 : w4.cell? ⟨O, 5, none⟩ = some (.int .i64 (n' : Nat)) := by rw [cell_of_row _ _ 5 _ _ _ OB4.out]; rfl
  have k6 : w4.cell? ⟨O, 6, none⟩ = some (.int .i64 (bq + 1)) := by rw [cell_of_row _ _ 6 _ _ _ OB4.out]; rfl
  have k7 : w4.cell? ⟨O, 7, none⟩ = some (.int .i64 (u : Nat)) := by rw [cell_of_row _ _ 7 _ _ _ OB4.out]; rfl
  have k8 : w4.cell? ⟨O, 8, none⟩ = some (.int .i64 0) := by rw [cell_of_row _ _ 8 _ _ _ OB4.out]; rfl
  have k9 : w4.cell? ⟨O, 9, none⟩ = some (.int .i64 0) := by rw [cell_of_row _ _ 9 _ _ _ OB4.out]; rfl
  refine wp_region_lit ?_
  refine wpList_plain rfl (fun K hK => ?_)
  go_simp
  refine hK _ _ ?_
  clear hK K
  refine wpList_store_row rfl 52 _ _ rfl (w.heap.size + 1) _ #[.int .i64 0, .int .i64 (m : Nat), .int .i64 0, .slice none 0 0, .slice none 0 0, .int .i64 (n' : Nat), .int .i64 (bq + 1), .int .i64 (u : Nat), .int .i64 0, .int .i64 0] 52 rfl rfl RS5.out (by kernel_rfl) rfl (by simp [Value.oneCell']) ?_
  have RW := hide (show (w4.setRow (w.heap.size + 1) #[.int .i64 0, .int .i64 (m : Nat), .int .i64 0, .slice none 0 0, .slice none 0 0, .int .i64 (n' : Nat), .int .i64 (bq + 1), .int .i64 (u : Nat), .int .i64 0, .int .i64 0]).heap[w.heap.size + 1]? = some (.cells #[.int .i64 0, .int .i64 (m : Nat), .int .i64 0, .slice none 0 0, .slice none 0 0, .int .i64 (n' : Nat), .int .i64 (bq + 1), .int .i64 (u : Nat), .int .i64 0, .int .i64 0] 52 (0, 0)) from setRow_heap _ _ _ _ _ _ RS5.out)
  have C5 := hide (show ChgP w4 (w4.setRow (w.heap.size + 1) #[.int .i64 0, .int .i64 (m : Nat), .int .i64 0, .slice none 0 0, .slice none 0 0, .int .i64 (n' : Nat), .int .i64 (bq + 1), .int .i64 (u : Nat), .int .i64 0, .int .i64 0]) (fun q => q = w.heap.size + 1) from (ChgP.reflS w4 _).row _ _ (.inl rfl))
  have OT := hide (show Oth w4 (w.heap.size + 1) from ⟨_, _, _, RS5.out, by decide, by decide, by decide, by decide, by decide⟩)
  generalize w4.setRow (w.heap.size + 1) #[.int .i64 0, .int .i64 (m : Nat), .int .i64 0, .slice none 0 0, .slice none 0 0, .int .i64 (n' : Nat), .int .i64 (bq + 1), .int .i64 (u : Nat), .int .i64 0, .int .i64 0] = w5 at *
  refine wpList_nil ?_
  clear RS5 OB4 k0 k1 k2 k3 k4 k5 k6 k7 k8 k9
  go_wp2
  have g0 : w5.cell? ⟨w.heap.size + 1, 0, none⟩ = some (.int .i64 0) := by rw [cell_of_row _ _ 0 _ _ _ RW.out]; rfl
  have g1 : w5.cell? ⟨w.heap.size + 1, 1, none⟩ = some (.int .i64 (m : Nat)) := by rw [cell_of_row _ _ 1 _ _ _ RW.out]; rfl
  have g2 : w5.cell? ⟨w.heap.size + 1, 2, none⟩ = some (.int .i64 0) := by rw [cell_of_row _ _ 2 _ _ _ RW.out]; rfl
  have g3 : w5.cell? ⟨w.heap.size + 1, 3, none⟩ = some (.slice none 0 0) := by rw [cell_of_row _ _ 3 _ _ _ RW.out]; rfl
  have g4 : w5.cell? ⟨w.heap.size + 1, 4, none⟩ = some (.slice none 0 0) := by rw [cell_of_row _ _ 4 _ _ _ RW.out]; rfl
  have g5 : w5.cell? ⟨w.heap.size + 1, 5, none⟩ = some (.int .i64 (n' : Nat)) := by rw [cell_of_row _ _ 5 _ _ _ RW.out]; rfl
  have g6 : w5.cell? ⟨w.heap.size + 1, 6, none⟩ = some (.int .i64 (bq + 1)) := by rw [cell_of_row _ _ 6 _ _ _ RW.out]; rfl
  have g7 : w5.cell? ⟨w.heap.size + 1, 7, none⟩ = some (.int .i64 (u : Nat)) := by rw [cell_of_row _ _ 7 _ _ _ RW.out]; rfl
  have g8 : w5.cell? ⟨w.heap.size + 1, 8, none⟩ = some (.int .i64 0) := by rw [cell_of_row _ _ 8 _ _ _ RW.out]; rfl
  have g9 : w5.cell? ⟨w.heap.size + 1, 9, none⟩ = some (.int .i64 0) := by rw [cell_of_row _ _ 9 _ _ _ RW.out]; rfl
  refine bodyPost_ret (v := .agg #[.int .i64 0, .int .i64 (m : Nat), .int .i64 0, .slice none 0 0, .slice none 0 0, .int .i64 (n' : Nat), .int .i64 (bq + 1), .int .i64 (u : Nat), .int .i64 0, .int .i64 0]) (by simp [results, Tryz.results19, go_sem, g0, g1, g2, g3, g4, g5, g6, g7, g8, g9]) rfl ⟨by rw [HBQ.out], ?_⟩
  exact E4.out.later C5.out (fun q _ hq => by rw [hq]; exact OT.out) (fun q hq => by omega)
end Go.Proofs.YtbkcbhjejkicjaaGreatDoor

namespace Go.Proofs.YtbkcbhjejkicjaaGreatDoor
open Go Go.RowKit Go.Sort
set_option linter.unusedVariables false

theorem decs1 (c : Int) (h : c < 128) : decs [c] = [c] := by
  rw [decs_cons (by simp)]
  simp [step, h, decs_nil]
/-- The cells of insertions one behind another. -/
def opVs : Nat → List Value → List Value
  | _, [] => []
  | k, tv :: r => [.int .i64 1, .int .i64 k, .int .i64 0, .int .i64 0, tv] ++ opVs (k + 1) r
theorem opVs_app : ∀ (k : Nat) (a : List Value) (tv : Value), opVs k (a ++ [tv]) = opVs k a ++ [.int .i64 1, .int .i64 (k + a.length : Nat), .int .i64 0, .int .i64 0, tv]
  | k, [], tv => by simp [opVs]
  | k, x :: a, tv => by
    rw [List.cons_append, opVs, opVs, opVs_app (k + 1) a tv, List.append_assoc]
    have : k + 1 + a.length = k + (x :: a).length := by simp; omega
    rw [this]
theorem opVs_get : ∀ (k : Nat) (a : List Value) (i j : Nat) (tv : Value), a[i]? = some tv → j < 5 → (opVs k a)[i * 5 + j]? = [Value.int .i64 1, .int .i64 (k + i : Nat), .int .i64 0, .int .i64 0, tv][j]?
  | k, [], i, j, tv, h, hj => by simp at h
  | k, x :: a, 0, j, tv, h, hj => by
    simp at h; subst h
    rw [opVs, List.getElem?_append_left (by simp; omega)]
    simp
  | k, x :: a, i + 1, j, tv, h, hj => by
    rw [List.getElem?_cons_succ] at h
    have := opVs_get (k + 1) a i j tv h hj
    rw [opVs, List.getElem?_append_right (by simp; omega)]
    rw [show (i + 1) * 5 + j - [Value.int .i64 1, .int .i64 k, .int .i64 0, .int .i64 0, x].length = i * 5 + j by simp; omega, this, show k + 1 + i = k + (i + 1) by omega]
/-- A script that types these letters, one behind another. -/
def TyO (w : World) (B : Nat) (v : Value) (cs : List Int) : Prop := ∃ tvs, w.ownsRow B 30 5 v cs.length (opVs 0 tvs) ∧ tvs.length = cs.length ∧ ∀ (k : Nat) tv, tvs[k]? = some tv → w.ownsRow B 5 1 tv 1 [.int .u8 (cs.getD k 0)]
theorem TyO.chg {w w' : World} {B : Nat} {v : Value} {cs : List Int} {R : Nat → Prop} (h : TyO w B v cs) (hc : ChgP w w' R) (hR : ∀ q, q < w.heap.size → R q → ¬ ∃ cs fr, w.heap[q]? = some (.cells cs 30 fr) ∨ w.heap[q]? = some (.cells cs 5 fr)) : TyO w' B v cs := by
  obtain ⟨tvs, h1, h2, h3⟩ := h
  refine ⟨tvs, owns_of_block h1 (fun q hq => hc.block q (h1.lt q hq).2 (fun h9 => ?_)), h2, fun k tv hk => owns_of_block (h3 k tv hk) (fun q hq => hc.block q ((h3 k tv hk).lt q hq).2 (fun h9 => ?_))⟩
  · obtain ⟨cs, fr, h8⟩ := own_ty h1 hq
    exact hR q (h1.lt q hq).2 h9 ⟨cs, fr, .inl h8⟩
  · obtain ⟨cs, fr, h8⟩ := own_ty (h3 k tv hk) hq
    exact hR q ((h3 k tv hk).lt q hq).2 h9 ⟨cs, fr, .inr h8⟩
theorem TyO.below {w w' : World} {B : Nat} {v : Value} {cs : List Int} (h : TyO w B v cs) (hb : Below w.heap.size w w') : TyO w' B v cs :=
  h.chg (ChgP.of_below (S := fun _ => False) hb (Nat.le_refl _)) (fun _ _ h9 => h9.elim)
/-- How an operation of the script is read. -/
structure TyAt (w : World) (b k : Nat) (c : Int) (ta : Option Addr) (tk : Nat) : Prop where
  c0 : w.cell? ⟨b, k * 5, none⟩ = some (.int .i64 1)
  c1 : w.cell? ⟨b, k * 5 + 1, none⟩ = some (.int .i64 k)
  c2 : w.cell? ⟨b, k * 5 + 2, none⟩ = some (.int .i64 0)
  c3 : w.cell? ⟨b, k * 5 + 3, none⟩ = some (.int .i64 0)
  c4 : w.cell? ⟨b, k * 5 + 4, none⟩ = some (.slice ta 1 tk)
  rd : Rd .u8 w (.slice ta 1 tk) [c]
theorem TyO.at {w : World} {B b cap : Nat} {cs : List Int} (h : TyO w B (.slice (some ⟨b, 0, none⟩) cs.length cap) cs) (k : Nat) (hk : k < cs.length) : ∃ ta tk, TyAt w b k (cs.getD k 0) ta tk := by
  obtain ⟨tvs, h1, h2, h3⟩ := h
  obtain ⟨tv, htv⟩ : ∃ tv, tvs[k]? = some tv := ⟨_, List.getElem?_eq_getElem (by omega)⟩
  have h4 := h3 k tv htv
  obtain ⟨ta, tk, rfl⟩ : ∃ a c, tv = .slice a 1 c := by
    rcases h4.2 with ⟨e, e0⟩ | ⟨g, cap, cur, e, _⟩
    · omega
    · exact ⟨_, _, e⟩
  have g : ∀ j, j < 5 → w.cell? ⟨b, k * 5 + j, none⟩ = [Value.int .i64 1, .int .i64 (0 + k : Nat), .int .i64 0, .int .i64 0, .slice ta 1 tk][j]? := fun j hj => by
    rw [h1.cellAt (k * 5 + j) (by omega), opVs_get 0 tvs k j _ htv hj]
  refine ⟨ta, tk, ?_, ?_, ?_, ?_, ?_, ?_⟩
  · have := g 0 (by omega); simpa using this
  · have := g 1 (by omega); simpa using this
  · have := g 2 (by omega); simpa using this
  · have := g 3 (by omega); simpa using this
  · have := g 4 (by omega); simpa using this
  · exact Rd.of_owns (zs := [cs.getD k 0]) h4
theorem TyO.val {w : World} {B : Nat} {v : Value} {cs : List Int} (h : TyO w B v cs) (h0 : 0 < cs.length) : ∃ b cap, v = .slice (some ⟨b, 0, none⟩) cs.length cap ∧ b < w.heap.size ∧ cs.length ≤ cap ∧ cap ≤ maxLen := by
  obtain ⟨tvs, h1, h2, h3⟩ := h
  rcases h1.2 with ⟨e, e0⟩ | ⟨g, cap, cur, e, h4, h5, h6, h7, _⟩
  · omega
  · exact ⟨g, cap, e, (Array.getElem?_eq_some_iff.1 h5).1, h6, h7⟩
/-- An observation of typing. -/
def obL (cp k : Nat) : List Value := [.int .i64 0, .int .i64 1, .int .i64 0, .slice none 0 0, .slice none 0 0, .int .i64 (k + 1 : Nat), .int .i64 1, .int .i64 (min (k + 1) cp : Nat), .int .i64 0, .int .i64 0]
def obsF (cp : Nat) : Nat → List Value
  | 0 => []
  | k + 1 => obsF cp k ++ obL cp k
theorem obsF_len (cp : Nat) : ∀ k, (obsF cp k).length = k * 10
  | 0 => rfl
  | k + 1 => by rw [obsF, List.length_append, obsF_len cp k]; simp [obL]; omega
def Letters (cs : List Int) : Prop := ∀ c ∈ cs, 97 ≤ c ∧ c ≤ 122
theorem Letters.at {cs : List Int} (h : Letters cs) {k : Nat} (hk : k < cs.length) : 97 ≤ cs.getD k 0 ∧ cs.getD k 0 ≤ 122 := by
  have : cs.getD k 0 = cs[k] := by simp [List.getD_eq_getElem?_getD, hk]
  rw [this]; exact h _ (List.getElem_mem hk)
theorem Letters.brk {cs : List Int} (h : Letters cs) (k : Nat) : brk (cs.take k) = 0 := by
  unfold Go.Proofs.YtbkcbhjejkicjaaGreatDoor.brk
  have : (cs.take k).filter (· == (10 : Int)) = [] := by
    rw [List.filter_eq_nil_iff]
    intro c hc
    have := h c (List.mem_of_mem_take hc)
    simp; omega
  rw [this]; rfl
theorem take_step {cs : List Int} {k : Nat} (hk : k < cs.length) : (cs.take k).take k ++ ([cs.getD k 0] ++ (cs.take k).drop k) = cs.take (k + 1) := by
  have e : (cs.take k).drop k = [] := List.drop_of_length_le (by rw [List.length_take]; omega)
  have e2 : cs.getD k 0 = cs[k] := by simp [List.getD_eq_getElem?_getD, hk]
  rw [e, e2, List.append_nil, List.take_take, Nat.min_self, List.take_add_one, List.getElem?_eq_getElem hk]
  rfl
theorem Tryz.infoLK : (Tryz.prog.info? 175).map (fun i => (i.zero, i.size, i.bytes)) = some (some (.agg #[.bool false, .slice none 0 0, .slice none 0 0, .slice none 0 0, .slice none 0 0]), 5, 104) := by kernel_rfl
set_option maxHeartbeats 1000000 in
set_option maxRecDepth 100000 in
theorem newS (cp : Nat) (w : World) (h : 1 ≤ cp ∧ cp ≤ 1000) :
    Calls Tryz.prog 18 #[.int .i64 cp] w fun e w' => ∃ s, e = .returned (.pointer (some ⟨s, 0, none⟩)) ∧ w.heap.size ≤ s ∧ MS w' w.heap.size s [] [] 0 cp 0 (.slice none 0 0) ∧ Below w.heap.size w w' := by
  obtain ⟨i0, hi, hz0, hz1, hz2⟩ := info_parts Tryz.infoLK
  have h1 : ¬ (cp : Int) < 1 := by omega
  have h2 : ¬ (1000 : Int) < cp := by omega
  go_enter Tryz.func18, Tryz.ntmps18
  go_wp2_with (at_make; refine wpList_make_full _ rfl _ _ 79 rfl w.heap.size 175 i0 (.agg #[.bool false, .slice none 0 0, .slice none 0 0, .slice none 0 0, .slice none 0 0]) 5 Tryz.underlying79 hi hz0 hz1 .i64 .i64 _ _ 8 rfl rfl (by omega) (by omega) (by rw [hz2]; omega) (by unfold maxLen; omega) (Nat.le_refl _) ?_; intro w1 hown hgrow)
  have B1 := hide ((Below.refl w.heap.size w).grown hgrow (Nat.le_refl _) (fun k hk => by cases hk))
  clear hown hgrow
  go_ret
  have z1 := B1.out.size
  have B2 := B1.out.trans ((bAS (Below.refl w1.heap.size w1) (.cells #[.slice none 0 0, .slice none 0 0, .slice none 0 0, .slice none 0 0, .slice none 0 0, .bool false, .int .i64 0, .int .i64 cp, .slice (some ⟨w.heap.size, 0, none⟩) 8 8, .slice none 0 0] 84)).mono z1)
  refine ⟨w1.heap.size, rfl, z1, ⟨.slice none 0 0, .slice none 0 0, .slice none 0 0, .slice none 0 0, .slice (some ⟨w.heap.size, 0, none⟩) 8 8, [], heap_alloc_new _ _, World.ownsRow_nil _ _ _ _, World.ownsRow_nil _ _ _ _, .inl ⟨rfl, rfl⟩, (fun u hu => by cases hu), World.ownsRow_nil _ _ _ _, (fun b o l c e => by cases e), by simp, h, B2.size⟩, B2⟩
theorem Tryz.infoOB : (Tryz.prog.info? 52).map (fun i => (i.zero, i.size, i.bytes)) = some (some (.agg #[.int .i64 0, .int .i64 0, .int .i64 0, .slice none 0 0, .slice none 0 0, .int .i64 0, .int .i64 0, .int .i64 0, .int .i64 0, .int .i64 0]), 10, 112) := by kernel_rfl
theorem MS.off {w : World} {B s : Nat} {tx : List Int} {us : List Value} {sp : Int} {cp nl : Nat} {lv : Value} (h : MS w B s tx us sp cp nl lv) {base : Nat} {t : TypeId} {size n : Nat} {v : Value} {xs : List Value} (ho : w.ownsRow base t size v n xs) (h1 : t ≠ 84) (h2 : t ≠ 190) {q : Nat} (hq : v.ownBlock = some q) : ¬ (q = s ∨ lv.ownBlock = some q) := by
  obtain ⟨tv, mv, uv, gv, slv, ls, hS, hT, hM, hU, hU1, hL, hUb, hul, hcp, hB⟩ := h
  rintro (e | e)
  · exact hS.off ho h1 hq e
  · exact own_apart ho hL h2 hq e
theorem stepK (B s cp k : Nat) (cs : List Int) (us : List Value) (lv : Value) (ta : Option Addr) (tk : Nat) (w : World) (h : MS w B s (cs.take k) us k cp k lv) (hu : us.length = min k cp) (hrd : Rd .u8 w (.slice ta 1 tk) [cs.getD k 0]) (hl : Letters cs) (hk : k < cs.length) (hn : cs.length ≤ 100) (n1 u1 : Nat) (hn1 : n1 = k + 1) (hu1 : u1 = min (k + 1) cp) :
    Calls Tryz.prog 19 #[.pointer (some ⟨s, 0, none⟩), .agg #[.int .i64 1, .int .i64 k, .int .i64 0, .int .i64 0, .slice ta 1 tk]] w fun e w' => e = .returned (.agg #[.int .i64 0, .int .i64 1, .int .i64 0, .slice none 0 0, .slice none 0 0, .int .i64 (n1 : Nat), .int .i64 1, .int .i64 (u1 : Nat), .int .i64 0, .int .i64 0]) ∧ EditS w B s (cs.take (k + 1)) (min (k + 1) cp) (k + 1 : Nat) cp (k + 1) lv w' := by
  subst hn1 hu1
  have hc := hl.at hk
  have hd : decs [cs.getD k 0] = [cs.getD k 0] := decs1 _ (by omega)
  have hlen : (cs.take k).length = k := by rw [List.length_take]; omega
  have hst := stepS B s cp k k (cs.take k) [cs.getD k 0] us k 0 0 lv ta 1 tk w h hrd (fun z hz => by rw [List.mem_singleton] at hz; omega) (by simp) (by rw [hd]; simp) (by omega) (by rw [hlen, hd]; simp; omega) (by omega) ⟨by omega, by rw [hd]; simp; omega⟩
  rw [hd, take_step hk, hl.brk, hu, show min (min k cp + 1) cp = min (k + 1) cp by omega, show (cs.take (k + 1)).length = k + 1 by rw [List.length_take]; omega] at hst
  refine hst.mono ?_
  rintro e w' ⟨rfl, h2⟩
  refine ⟨rfl, ?_⟩
  have e1 : (k : Int) + (([cs.getD k 0] : List Int).length : Nat) = ((k + 1 : Nat) : Int) := by simp
  rw [e1] at h2
  exact h2
/-- The run over the model. -/
structure RunS (w0 : World) (s : Nat) (cs : List Int) (cp k : Nat) (ov : Value) (w : World) : Prop where
  out : w.ownsRow w0.heap.size 52 10 ov k (obsF cp k)
  st : ∃ us lv, MS w w0.heap.size s (cs.take k) us k cp k lv ∧ us.length = min k cp
  bel : Below w0.heap.size w0 w
def RunPost (w : World) (cp n : Nat) (e : Ending) (w' : World) : Prop := ∃ ov s, e = .returned (.tuple #[ov, .pointer (some ⟨s, 0, none⟩)]) ∧ w'.ownsRow w.heap.size 52 10 ov n (obsF cp n) ∧ Below w.heap.size w w'
set_option maxHeartbeats 4000000 in
set_option maxRecDepth 100000 in
theorem runS (C cp : Nat) (v : Value) (cs : List Int) (w : World) (h : TyO w C v cs) (hl : Letters cs) (h0 : 0 < cs.length) (hn : cs.length ≤ 100) (hc : 1 ≤ cp ∧ cp ≤ 1000) :
    Calls Tryz.prog 12 #[v, .int .i64 cp] w fun e w' => RunPost w cp cs.length e w' := by
  obtain ⟨i0, hi0, hz0, hz1, hz2⟩ := info_parts Tryz.infoOB
  obtain ⟨b, cap, rfl, hb, hca, hcm⟩ := h.val h0
  have H := hide h
  have NS := hide (newS cp w hc)
  have HLT := hide hl
  obtain ⟨n, hN⟩ : ∃ n, n = cs.length := ⟨_, rfl⟩
  have HN := hide hN
  rw [← hN] at h0 hn hca ⊢
  clear h hl hN
  go_enter Tryz.func12, Tryz.ntmps12
  go_wp2_with fail
  refine NS.out.mono ?_
  rintro e w1 ⟨s, rfl, hs, hM1, hB1⟩
  have z1 := hB1.size
  have BA := hide (hB1.trans ((bAS (Below.refl w1.heap.size w1) (.cells #[] 52)).mono z1))
  have RS0 := hide (show RunS w s cs cp 0 (.slice (some ⟨w1.heap.size, 0, none⟩) 0 0) (w1.alloc (.cells #[] 52)) from ⟨World.ownsRow_made w1 #[] 0 z1 (Nat.zero_le _) rfl, ⟨_, _, by simpa using hM1.below (bAS (Below.refl w1.heap.size w1) (.cells #[] 52)), by simp⟩, BA.out⟩)
  clear hM1 hB1 NS BA
  go_wp2_with fail
  generalize w1.alloc (.cells #[] 52) = w2 at *
  go_loopw [7, 15] (fun ov i wr => ∃ k : Nat, k ≤ n ∧ i = .int .i64 k ∧ RunS w s cs cp k ov wr) (fun _ i _ => n - (intOf i).toNat)
  case atStart => exact ⟨0, Nat.zero_le _, rfl, RS0.out⟩
  case round =>
    obtain ⟨k, hk, rfl, hR⟩ := hrel
    have TY := hide (H.out.below hR.bel)
    have hsz := hR.bel.size
    by_cases hlt : k < n
    · have hlt' : (k : Int) < n := by omega
      obtain ⟨ta, tq, T⟩ := TY.out.at k (by rw [← HN.out]; exact hlt)
      obtain ⟨us, lv, hM, hu⟩ := hR.st
      obtain ⟨q0, q1, q2, q3, q4, hrd⟩ := T
      have BA := hide (bAS (Below.refl wr.heap.size wr) (.cells #[.int .i64 1, .int .i64 k, .int .i64 0, .int .i64 0, .slice ta 1 tq] 30))
      obtain ⟨n1, hn1⟩ : ∃ x, x = k + 1 := ⟨_, rfl⟩
      obtain ⟨u1, hu1⟩ : ∃ x, x = min (k + 1) cp := ⟨_, rfl⟩
      have ST := hide (stepK w.heap.size s cp k cs us lv ta tq _ (hM.below BA.out) hu (hrd.below BA.out) HLT.out (by rw [← HN.out]; exact hlt) (by rw [← HN.out]; exact hn) n1 u1 hn1 hu1)
      have OL := hide (show obL cp k = [.int .i64 0, .int .i64 1, .int .i64 0, .slice none 0 0, .slice none 0 0, .int .i64 (n1 : Nat), .int .i64 1, .int .i64 (u1 : Nat), .int .i64 0, .int .i64 0] from by unfold obL; rw [hn1, hu1])
      clear hn1 hu1
      have M3 := hide (hM.below BA.out)
      have O3 := hide (owns_below hR.out BA.out (Nat.le_refl _))
      have B3 := hide (hR.bel.trans (BA.out.mono hsz))
      have OP := hide (show (wr.alloc (.cells #[.int .i64 1, .int .i64 k, .int .i64 0, .int .i64 0, .slice ta 1 tq] 30)).heap[wr.heap.size]? = some (.cells #[.int .i64 1, .int .i64 k, .int .i64 0, .int .i64 0, .slice ta 1 tq] 30 (0, 0)) from heap_alloc_new _ _)
      clear hM hu hR hrd BA
      unfold maxLen at hcm
      go_upto_region 6 with fail
      generalize wr.alloc (.cells #[.int .i64 1, .int .i64 k, .int .i64 0, .int .i64 0, .slice ta 1 tq] 30) = w3 at *
      have z0 : w3.cell? ⟨wr.heap.size, 0, none⟩ = some (.int .i64 1) := by rw [cell_of_row _ _ 0 _ _ _ OP.out]; rfl
      have z1 : w3.cell? ⟨wr.heap.size, 1, none⟩ = some (.int .i64 k) := by rw [cell_of_row _ _ 1 _ _ _ OP.out]; rfl
      have z2 : w3.cell? ⟨wr.heap.size, 2, none⟩ = some (.int .i64 0) := by rw [cell_of_row _ _ 2 _ _ _ OP.out]; rfl
      have z3 : w3.cell? ⟨wr.heap.size, 3, none⟩ = some (.int .i64 0) := by rw [cell_of_row _ _ 3 _ _ _ OP.out]; rfl
      have z4 : w3.cell? ⟨wr.heap.size, 4, none⟩ = some (.slice ta 1 tq) := by rw [cell_of_row _ _ 4 _ _ _ OP.out]; rfl
      clear q0 q1 q2 q3 q4
      go_wp2_with fail
      refine ST.out.mono ?_
      rintro e w4 ⟨rfl, lv', us', hM4, hu4, hc4, hq4⟩
      have O4 := hide (owns_of_block O3.out (w' := w4) (fun q hq => hc4.block q (O3.out.lt q hq).2 (M3.out.off O3.out (by decide) (by decide) hq)))
      have y4 := hc4.size
      have hsB : ∀ q, (q = s ∨ lv.ownBlock = some q) → w.heap.size ≤ q := fun q hq => by
        rcases hq with rfl | hq
        · exact hs
        · obtain ⟨tv, mv, uv, gv, slv, ls, hS, hT, hM, hU, hU1, hL, hUb, hul, hcp, hB⟩ := M3.out
          exact (hL.lt q hq).1
      have B4 := hide (show Below w.heap.size w w4 from ⟨hc4.os.trans B3.out.os, hc4.tape.trans B3.out.tape, hc4.output.trans B3.out.output, Nat.le_trans B3.out.size hc4.size, fun q hq => (hc4.block q (by have := B3.out.size; omega) (fun h9 => by have := hsB q h9; omega)).trans (B3.out.block q hq)⟩)
      have NC := hide (newcells w4 52 [.int .i64 0, .int .i64 1, .int .i64 0, .slice none 0 0, .slice none 0 0, .int .i64 (n1 : Nat), .int .i64 1, .int .i64 (u1 : Nat), .int .i64 0, .int .i64 0])
      have BA4 := hide (bAS (Below.refl w4.heap.size w4) (.cells #[.int .i64 0, .int .i64 1, .int .i64 0, .slice none 0 0, .slice none 0 0, .int .i64 (n1 : Nat), .int .i64 1, .int .i64 (u1 : Nat), .int .i64 0, .int .i64 0] 52))
      have B5 := hide (B4.out.trans (BA4.out.mono B4.out.size))
      have M5 := hide (hM4.below BA4.out)
      have U4 := hide hu4
      have O5 := hide (O4.out.alloc (.cells #[.int .i64 0, .int .i64 1, .int .i64 0, .slice none 0 0, .slice none 0 0, .int .i64 (n1 : Nat), .int .i64 1, .int .i64 (u1 : Nat), .int .i64 0, .int .i64 0] 52))
      have z5 : (w4.alloc (.cells #[.int .i64 0, .int .i64 1, .int .i64 0, .slice none 0 0, .slice none 0 0, .int .i64 (n1 : Nat), .int .i64 1, .int .i64 (u1 : Nat), .int .i64 0, .int .i64 0] 52)).heap.size = w4.heap.size + 1 := by simp
      have y5 := B4.out.size
      clear hM4 hu4 hc4 hq4 ST z0 z1 z2 z3 z4 OP M3 O3 B3 hsB
      go_wp2_with (at_builtin; refine wpList_append_lies _ rfl _ _ 31 rfl w.heap.size 52 i0 (.agg #[.int .i64 0, .int .i64 0, .int .i64 0, .slice none 0 0, .slice none 0 0, .int .i64 0, .int .i64 0, .int .i64 0, .int .i64 0, .int .i64 0]) 10 112 Tryz.underlying31 hi0 hz0 hz1 hz2 rfl (by decide) u7 k (obsF cp k) rfl (by exact O5.out) ⟨w4.heap.size, 0, none⟩ 1 1 _ rfl rfl NC.out (by simp [Value.oneCell']) (by omega) (by unfold maxLen; omega) (by omega) (by omega) _ rfl ?_; intro g6 c6 w6 hown6 hgr6 hgq6 hgl6)
      go_roundw
      case rel =>
        refine ⟨k + 1, by omega, by go_num, ⟨by rw [obsF, OL.out]; exact hown6, ⟨us', lv', ?_, U4.out⟩, B5.out.grown hgr6 (by omega) (fun q hq => (O4.out.lt q hq).1)⟩⟩
        exact M5.out.other (R := fun q => u7.ownBlock = some q) ⟨hgr6.os, hgr6.tape, hgr6.output, hgr6.size, fun q hq hn => hgr6.block q hq (fun e => hn e.symm)⟩ (fun q _ hq => by
          obtain ⟨cs', fr, h9⟩ := own_ty O5.out hq
          exact ⟨_, _, _, h9, by decide, by decide, by decide, by decide, by decide⟩)
      case measure => simp [intOf]; omega
    · have hlt' : ¬ (k : Int) < n := by omega
      have hkn : k = n := by omega
      have HR := hide hR
      clear hR
      go_wp2
      go_ret2
      refine ⟨_, _, rfl, ?_, HR.out.bel⟩
      rw [← hkn]
      exact HR.out.out
theorem obsS (C cp : Nat) (v : Value) (cs : List Int) (w : World) (h : TyO w C v cs) (hl : Letters cs) (h0 : 0 < cs.length) (hn : cs.length ≤ 100) (hc : 1 ≤ cp ∧ cp ≤ 1000) :
    Calls Tryz.prog 6 #[v, .int .i64 cp] w fun e w' => ∃ ov, e = .returned ov ∧ w'.ownsRow w.heap.size 52 10 ov cs.length (obsF cp cs.length) ∧ Below w.heap.size w w' := by
  have RU := hide (runS C cp v cs w h hl h0 hn hc)
  generalize hN : cs.length = n at *
  clear h hl hc hN
  go_enter Tryz.func6, Tryz.ntmps6
  go_wp2_with fail
  refine RU.out.mono ?_
  rintro e w1 ⟨ov, s, rfl, h1, h2⟩
  have R := hide (And.intro h1 h2)
  clear h1 h2
  go_wp2
  go_ret
  exact ⟨_, rfl, R.out.1, R.out.2⟩
end Go.Proofs.YtbkcbhjejkicjaaGreatDoor

namespace Go.Proofs.YtbkcbhjejkicjaaGreatDoor
open Go Go.RowKit Go.Sort
set_option linter.unusedVariables false

set_option maxHeartbeats 400000 in
theorem smT0 (w : World) : Calls Tryz.prog 29 #[.slice none 0 0, .slice none 0 0] w fun e w' => e = .returned (.bool true) ∧ w' = w := by
  go_enter Tryz.func29, Tryz.ntmps29
  go_wp2
  refine wp_loop_rounds 1 ?_
  rw [rounds_succ]
  go_wp2
  go_ret
  exact ⟨rfl, rfl⟩
set_option maxHeartbeats 400000 in
theorem smM0 (w : World) : Calls Tryz.prog 30 #[.slice none 0 0, .slice none 0 0] w fun e w' => e = .returned (.bool true) ∧ w' = w := by
  go_enter Tryz.func30, Tryz.ntmps30
  go_wp2
  refine wp_loop_rounds 1 ?_
  rw [rounds_succ]
  go_wp2
  go_ret
  exact ⟨rfl, rfl⟩
set_option maxHeartbeats 1000000 in
set_option maxRecDepth 100000 in
theorem smOb (a x y l n u r o : Int) (w : World) :
    Calls Tryz.prog 17 #[.agg #[.int .i64 a, .int .i64 x, .int .i64 y, .slice none 0 0, .slice none 0 0, .int .i64 l, .int .i64 n, .int .i64 u, .int .i64 r, .int .i64 o], .agg #[.int .i64 a, .int .i64 x, .int .i64 y, .slice none 0 0, .slice none 0 0, .int .i64 l, .int .i64 n, .int .i64 u, .int .i64 r, .int .i64 o]] w fun e w' => e = .returned (.bool true) ∧ Below w.heap.size w w' := by
  have BB := hide (bAS (bAS (Below.refl w.heap.size w) (.cells #[.int .i64 a, .int .i64 x, .int .i64 y, .slice none 0 0, .slice none 0 0, .int .i64 l, .int .i64 n, .int .i64 u, .int .i64 r, .int .i64 o] 52)) (.cells #[.int .i64 a, .int .i64 x, .int .i64 y, .slice none 0 0, .slice none 0 0, .int .i64 l, .int .i64 n, .int .i64 u, .int .i64 r, .int .i64 o] 52))
  have T0 := hide smT0
  have M0 := hide smM0
  go_enter Tryz.func17, Tryz.ntmps17
  go_wp2_with fail
  refine (T0.out _).mono ?_
  rintro e w1 ⟨rfl, hw⟩
  subst hw
  go_wp2_with fail
  refine (M0.out _).mono ?_
  rintro e w2 ⟨rfl, hw⟩
  subst hw
  go_wp2
  go_ret
  first
    | exact ⟨rfl, BB.out⟩
    | exact ⟨by simp, BB.out⟩
end Go.Proofs.YtbkcbhjejkicjaaGreatDoor

