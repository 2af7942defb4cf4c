import Derived.Test.YtbkcbhjejkicjaaGreatDoorMq33
namespace Go.Proofs.YtbkcbhjejkicjaaGreatDoor
open Go Go.RowKit
set_option linter.unusedVariables false

def ansT : Array Value := #[.string ⟨#[]⟩, .nilFunc, .string ⟨#[73, 110, 115, 101, 114, 116]⟩, .func (.func 81) #[] #[], .string ⟨#[68, 101, 108, 101, 116, 101]⟩, .func (.func 82) #[] #[], .string ⟨#[83, 108, 105, 99, 101]⟩, .func (.func 83) #[] #[], .string ⟨#[76, 105, 110, 101, 67, 111, 108]⟩, .func (.func 84) #[] #[], .string ⟨#[79, 102, 102, 115, 101, 116]⟩, .func (.func 85) #[] #[], .string ⟨#[77, 97, 114, 107]⟩, .func (.func 86) #[] #[], .string ⟨#[68, 114, 111, 112]⟩, .func (.func 87) #[] #[], .string ⟨#[76, 111, 111, 107]⟩, .func (.func 88) #[] #[], .string ⟨#[85, 110, 100, 111]⟩, .func (.func 89) #[] #[], .string ⟨#[82, 101, 100, 111]⟩, .func (.func 90) #[] #[], .string ⟨#[66, 101, 103, 105, 110]⟩, .func (.func 91) #[] #[], .string ⟨#[69, 110, 100]⟩, .func (.func 92) #[] #[], .string ⟨#[83, 110, 97, 112]⟩, .func (.func 93) #[] #[], .string ⟨#[66, 97, 99, 107]⟩, .func (.func 94) #[] #[], .string ⟨#[77, 111, 118, 101]⟩, .func (.func 95) #[] #[], .string ⟨#[68, 117, 109, 112]⟩, .func (.func 96) #[] #[]]
def ansZ : Array Value := #[.string ⟨#[]⟩, .nilFunc, .string ⟨#[]⟩, .nilFunc, .string ⟨#[]⟩, .nilFunc, .string ⟨#[]⟩, .nilFunc, .string ⟨#[]⟩, .nilFunc, .string ⟨#[]⟩, .nilFunc, .string ⟨#[]⟩, .nilFunc, .string ⟨#[]⟩, .nilFunc, .string ⟨#[]⟩, .nilFunc, .string ⟨#[]⟩, .nilFunc, .string ⟨#[]⟩, .nilFunc, .string ⟨#[]⟩, .nilFunc, .string ⟨#[]⟩, .nilFunc, .string ⟨#[]⟩, .nilFunc, .string ⟨#[]⟩, .nilFunc, .string ⟨#[]⟩, .nilFunc, .string ⟨#[]⟩, .nilFunc]
set_option maxHeartbeats 4000000 in
set_option maxRecDepth 100000 in
theorem answererOf1 (w : World) : Calls Tryz.prog 69 #[.int .i64 1] w fun e w' => e = .returned (.tuple #[.agg #[.string ⟨#[73, 110, 115, 101, 114, 116]⟩, .func (.func 81) #[] #[]], .nilIface]) ∧ Below w.heap.size w w' := by
  have hsf := Tryz.stF
  have hsn := Tryz.stN
  have HBd := hide (boundsI 1 1 16 13 (w.alloc (.cells #[.string ⟨#[]⟩, .nilFunc] 178)))
  rw [show decide ((1 : Int) ≤ 1 ∧ (1 : Int) ≤ 16) = true from rfl, show errV true 13 = .nilIface from rfl] at HBd
  go_enter Tryz.func69, Tryz.ntmps69
  go_wp2_with fail
  refine HBd.out.mono ?_
  rintro e w1 ⟨rfl, rfl⟩
  go_upto_region 4 with fail
  refine wp_region_lit ?_
  iterate 18 (refine wpList_plain rfl (fun K hK => ?_); go_simp; refine hK _ _ ?_; clear hK K)
  refine wpList_store_row rfl 193 _ _ rfl (w.heap.size + 1) ansZ ansT 193 rfl rfl (heap2 _ _ _ _) (by kernel_rfl) rfl (by kernel_rfl) ?_
  have KT := hide (show (((w.alloc (.cells #[.string ⟨#[]⟩, .nilFunc] 178)).alloc (.cells #[.string ⟨#[]⟩, .nilFunc, .string ⟨#[]⟩, .nilFunc, .string ⟨#[]⟩, .nilFunc, .string ⟨#[]⟩, .nilFunc, .string ⟨#[]⟩, .nilFunc, .string ⟨#[]⟩, .nilFunc, .string ⟨#[]⟩, .nilFunc, .string ⟨#[]⟩, .nilFunc, .string ⟨#[]⟩, .nilFunc, .string ⟨#[]⟩, .nilFunc, .string ⟨#[]⟩, .nilFunc, .string ⟨#[]⟩, .nilFunc, .string ⟨#[]⟩, .nilFunc, .string ⟨#[]⟩, .nilFunc, .string ⟨#[]⟩, .nilFunc, .string ⟨#[]⟩, .nilFunc, .string ⟨#[]⟩, .nilFunc] 193)).setRow (w.heap.size + 1) ansT).heap[w.heap.size + 1]? = some (.cells ansT 193 (0, 0)) from setRow_heap _ _ _ _ _ _ (heap2 _ _ _ _))
  have KR := hide (show (((w.alloc (.cells #[.string ⟨#[]⟩, .nilFunc] 178)).alloc (.cells #[.string ⟨#[]⟩, .nilFunc, .string ⟨#[]⟩, .nilFunc, .string ⟨#[]⟩, .nilFunc, .string ⟨#[]⟩, .nilFunc, .string ⟨#[]⟩, .nilFunc, .string ⟨#[]⟩, .nilFunc, .string ⟨#[]⟩, .nilFunc, .string ⟨#[]⟩, .nilFunc, .string ⟨#[]⟩, .nilFunc, .string ⟨#[]⟩, .nilFunc, .string ⟨#[]⟩, .nilFunc, .string ⟨#[]⟩, .nilFunc, .string ⟨#[]⟩, .nilFunc, .string ⟨#[]⟩, .nilFunc, .string ⟨#[]⟩, .nilFunc, .string ⟨#[]⟩, .nilFunc, .string ⟨#[]⟩, .nilFunc] 193)).setRow (w.heap.size + 1) ansT).heap[w.heap.size]? = some (.cells #[.string ⟨#[]⟩, .nilFunc] 178 (0, 0)) from (setRow_other _ _ _ _ (by omega)).trans (heap1 _ _ _ _))
  have BW := hide (show Below w.heap.size w (((w.alloc (.cells #[.string ⟨#[]⟩, .nilFunc] 178)).alloc (.cells #[.string ⟨#[]⟩, .nilFunc, .string ⟨#[]⟩, .nilFunc, .string ⟨#[]⟩, .nilFunc, .string ⟨#[]⟩, .nilFunc, .string ⟨#[]⟩, .nilFunc, .string ⟨#[]⟩, .nilFunc, .string ⟨#[]⟩, .nilFunc, .string ⟨#[]⟩, .nilFunc, .string ⟨#[]⟩, .nilFunc, .string ⟨#[]⟩, .nilFunc, .string ⟨#[]⟩, .nilFunc, .string ⟨#[]⟩, .nilFunc, .string ⟨#[]⟩, .nilFunc, .string ⟨#[]⟩, .nilFunc, .string ⟨#[]⟩, .nilFunc, .string ⟨#[]⟩, .nilFunc, .string ⟨#[]⟩, .nilFunc] 193)).setRow (w.heap.size + 1) ansT) from below_setRow (bA (bA (Below.refl _ _) _) _) (by omega) _)
  generalize ((w.alloc (.cells #[.string ⟨#[]⟩, .nilFunc] 178)).alloc (.cells #[.string ⟨#[]⟩, .nilFunc, .string ⟨#[]⟩, .nilFunc, .string ⟨#[]⟩, .nilFunc, .string ⟨#[]⟩, .nilFunc, .string ⟨#[]⟩, .nilFunc, .string ⟨#[]⟩, .nilFunc, .string ⟨#[]⟩, .nilFunc, .string ⟨#[]⟩, .nilFunc, .string ⟨#[]⟩, .nilFunc, .string ⟨#[]⟩, .nilFunc, .string ⟨#[]⟩, .nilFunc, .string ⟨#[]⟩, .nilFunc, .string ⟨#[]⟩, .nilFunc, .string ⟨#[]⟩, .nilFunc, .string ⟨#[]⟩, .nilFunc, .string ⟨#[]⟩, .nilFunc, .string ⟨#[]⟩, .nilFunc] 193)).setRow (w.heap.size + 1) ansT = w2 at *
  have t2 : w2.cell? ⟨w.heap.size + 1, 2, none⟩ = some (.string ⟨#[73, 110, 115, 101, 114, 116]⟩) := by rw [cell_of_row _ _ 2 _ _ _ KT.out]; rfl
  have t3 : w2.cell? ⟨w.heap.size + 1, 3, none⟩ = some (.func (.func 81) #[] #[]) := by rw [cell_of_row _ _ 3 _ _ _ KT.out]; rfl
  have r0 : w2.cell? ⟨w.heap.size, 0, none⟩ = some (.string ⟨#[]⟩) := by rw [cell_of_row _ _ 0 _ _ _ KR.out]; rfl
  have r1 : w2.cell? ⟨w.heap.size, 1, none⟩ = some .nilFunc := by rw [cell_of_row _ _ 1 _ _ _ KR.out]; rfl
  have rf := fun j => frozen_of_row w2 w.heap.size j _ _ KR.out
  have f0 := rf 0
  have f1 := rf 1
  have CB := hide (show Below w.heap.size w ((w2.setCell ⟨w.heap.size, 0, none⟩ (.string ⟨#[73, 110, 115, 101, 114, 116]⟩)).setCell ⟨w.heap.size, 1, none⟩ (.func (.func 81) #[] #[])) from (BW.out.setCell (p := ⟨w.heap.size, 0, none⟩) (Nat.le_refl _) _).setCell (p := ⟨w.heap.size, 1, none⟩) (Nat.le_refl _) _)
  clear rf HBd
  refine wpList_nil ?_
  go_wp2
  refine bodyPost_ret (v := .tuple #[.agg #[.string ⟨#[73, 110, 115, 101, 114, 116]⟩, .func (.func 81) #[] #[]], .nilIface]) ?_ rfl ⟨rfl, CB.out⟩
  have g0 : ((w2.setCell ⟨w.heap.size, 0, none⟩ (.string ⟨#[73, 110, 115, 101, 114, 116]⟩)).setCell ⟨w.heap.size, 1, none⟩ (.func (.func 81) #[] #[])).cell? ⟨w.heap.size, 0, none⟩ = some (.string ⟨#[73, 110, 115, 101, 114, 116]⟩) := by
    rw [cell_of_row _ _ 0 _ _ _ (heap_setCell_same _ w.heap.size 1 _ _ _ (heap_setCell_same w2 w.heap.size 0 _ _ _ KR.out))]; rfl
  have g1 : ((w2.setCell ⟨w.heap.size, 0, none⟩ (.string ⟨#[73, 110, 115, 101, 114, 116]⟩)).setCell ⟨w.heap.size, 1, none⟩ (.func (.func 81) #[] #[])).cell? ⟨w.heap.size, 1, none⟩ = some (.func (.func 81) #[] #[]) := by
    rw [cell_of_row _ _ 1 _ _ _ (heap_setCell_same _ w.heap.size 1 _ _ _ (heap_setCell_same w2 w.heap.size 0 _ _ _ KR.out))]; rfl
  simp [results, Tryz.results69, go_sem, g0, g1]
end Go.Proofs.YtbkcbhjejkicjaaGreatDoor

namespace Go.Proofs.YtbkcbhjejkicjaaGreatDoor
open Go Go.RowKit Go.Sort
set_option linter.unusedVariables false

/-- What is asked of an insertion that is taken. -/
structure InsOk (K : Core) (P : List Int → Prop) (w : World) (M : Ens) (off : Nat) (bs : List Int) (tv : Value) : Prop where
  ask : AskK K
  ins : InsK K P
  opn : M.opn = false
  rd : Rd .u8 w tv bs
  by_ : bytes bs
  tab : Tab w
  bn : bs.length ≤ 1048576
  pp : P (decs bs)
  pos : 0 < (decs bs).length
  ofl : off ≤ M.tx.length
  lnl : M.tx.length + (decs bs).length ≤ 8192
  spl : M.sp + (decs bs).length ≤ 200000
  vd : Vd (srt (M.ms.map (mov (pushF off (decs bs).length)))) ∧ ∀ x ∈ srt (M.ms.map (mov (pushF off (decs bs).length))), x.2.1 ≤ (putT M.tx off (decs bs)).length
theorem InsOk.below {K : Core} {P : List Int → Prop} {w w' : World} {M : Ens} {off : Nat} {bs : List Int} {tv : Value} (h : InsOk K P w M off bs tv) (hb : Below w.heap.size w w') : InsOk K P w' M off bs tv :=
  ⟨h.ask, h.ins, h.opn, h.rd.below hb, h.by_, by obtain ⟨t, fr, h9⟩ := h.tab; exact ⟨t, fr, (hb.block 1 (Array.getElem?_eq_some_iff.1 h9).1).trans h9⟩, h.bn, h.pp, h.pos, h.ofl, h.lnl, h.spl, h.vd⟩
theorem ansI {K : Core} {P : List Int → Prop} {Z F FC : Nat → Prop} {E c n off : Nat} {mv dv uv cv : Value} {ss : List Value} {M : Ens} {bs : List Int} (kd b1 b2 : Int) {ta : Option Addr} {tl tk : Nat} {w : World} (h : EM K w Z F E c n mv dv uv cv ss FC M) (o : InsOk K P w M off bs (.slice ta tl tk)) :
    Calls Tryz.prog 81 #[.pointer (some ⟨E, 0, none⟩), .agg #[.int .i64 kd, .int .i64 off, .int .i64 b1, .int .i64 b2, .slice ta tl tk]] w fun e w' => e = .returned (.tuple #[.agg (obV 0 (decs bs).length 0 (.slice none 0 0) (.slice none 0 0) 0 0 0 0 0), .nilIface]) ∧ AnsPost K w Z F E c (n + (decs bs).length) cv ss (insE M off (decs bs)) w' :=
  ansIns K P o.ask o.ins Z F FC E c n off mv dv uv cv ss M bs kd b1 b2 ta tl tk w h o.opn o.rd o.by_ o.tab o.bn o.pp o.pos o.ofl o.lnl o.spl o.vd
set_option maxHeartbeats 8000000 in
set_option maxRecDepth 100000 in
theorem answerI {K : Core} {P : List Int → Prop} {Z F FC : Nat → Prop} {E c n off : Nat} {mv dv uv cv : Value} {ss : List Value} {M : Ens} {bs : List Int} (b1 b2 : Int) {ta : Option Addr} {tl tk : Nat} {w : World} (h : EM K w Z F E c n mv dv uv cv ss FC M) (o : InsOk K P w M off bs (.slice ta tl tk)) :
    Calls Tryz.prog 51 #[.pointer (some ⟨E, 0, none⟩), .agg #[.int .i64 1, .int .i64 off, .int .i64 b1, .int .i64 b2, .slice ta tl tk]] w fun e w' => e = .returned (.tuple #[.agg (obV 0 (decs bs).length 0 (.slice none 0 0) (.slice none 0 0) 0 0 0 0 0), .nilIface]) ∧ AnsPost K w Z F E c (n + (decs bs).length) cv ss (insE M off (decs bs)) w' := by
  have hsf := Tryz.stF
  have OP := hide (heap1 w (.cells (obV 0 0 0 (.slice none 0 0) (.slice none 0 0) 0 0 0 0 0) 52) #[.int .i64 1, .int .i64 off, .int .i64 b1, .int .i64 b2, .slice ta tl tk] 30)
  have RS := hide (heap2 w (.cells #[.int .i64 1, .int .i64 off, .int .i64 b1, .int .i64 b2, .slice ta tl tk] 30) (obV 0 0 0 (.slice none 0 0) (.slice none 0 0) 0 0 0 0 0) 52)
  have BB := hide (bA (bA (Below.refl w.heap.size w) (.cells #[.int .i64 1, .int .i64 off, .int .i64 b1, .int .i64 b2, .slice ta tl tk] 30)) (.cells (obV 0 0 0 (.slice none 0 0) (.slice none 0 0) 0 0 0 0 0) 52))
  have yA : w.heap.size + 1 < ((w.alloc (.cells #[.int .i64 1, .int .i64 off, .int .i64 b1, .int .i64 b2, .slice ta tl tk] 30)).alloc (.cells (obV 0 0 0 (.slice none 0 0) (.slice none 0 0) 0 0 0 0 0) 52)).heap.size := by simp
  have AN := hide (fun (W : World) (hW : Below w.heap.size w W) => ansI 1 b1 b2 (h.wide hW) (o.below hW))
  have HEl := hide (h.fl E h.fe.1)
  have HOP := hide o.opn
  have HZL := hide (fun q (hq : Z q) => h.fl q (h.ff q (h.zf q hq)))
  unfold obV at *
  clear h o
  generalize hts : decs bs = ts at *
  clear hts
  go_enter Tryz.func51, Tryz.ntmps51
  go_upto_region 1 with fail
  generalize (w.alloc (.cells #[.int .i64 1, .int .i64 off, .int .i64 b1, .int .i64 b2, .slice ta tl tk] 30)).alloc (.cells #[.int .i64 0, .int .i64 0, .int .i64 0, .slice none 0 0, .slice none 0 0, .int .i64 0, .int .i64 0, .int .i64 0, .int .i64 0, .int .i64 0] 52) = wA at *
  have x0 : wA.cell? ⟨w.heap.size, 0, none⟩ = some (.int .i64 1) := by rw [cell_of_row _ _ 0 _ _ _ OP.out]; rfl
  have A1 := hide (answererOf1 wA)
  go_wp2_with fail
  refine A1.out.mono ?_
  rintro e w1 ⟨rfl, hb1⟩
  have y1 := hb1.size
  have BX := hide (bA hb1 (.cells #[.string ⟨#[73, 110, 115, 101, 114, 116]⟩, .func (.func 81) #[] #[]] 178))
  have B2 := hide (BB.out.trans (BX.out.mono (by omega)))
  have OP2 := hide ((BX.out.block w.heap.size (by omega)).trans OP.out)
  have RS2 := hide ((BX.out.block (w.heap.size + 1) (by omega)).trans RS.out)
  have F2 := hide (show (w1.alloc (.cells #[.string ⟨#[73, 110, 115, 101, 114, 116]⟩, .func (.func 81) #[] #[]] 178)).heap[w1.heap.size]? = some (.cells #[.string ⟨#[73, 110, 115, 101, 114, 116]⟩, .func (.func 81) #[] #[]] 178 (0, 0)) from heap_alloc_new _ _)
  have y2 : w1.heap.size < (w1.alloc (.cells #[.string ⟨#[73, 110, 115, 101, 114, 116]⟩, .func (.func 81) #[] #[]] 178)).heap.size := by simp
  clear hb1 A1 BB OP RS x0 BX
  go_upto_region 4 with fail
  generalize w1.alloc (.cells #[.string ⟨#[73, 110, 115, 101, 114, 116]⟩, .func (.func 81) #[] #[]] 178) = w2 at *
  have z0 : w2.cell? ⟨w.heap.size, 0, none⟩ = some (.int .i64 1) := by rw [cell_of_row _ _ 0 _ _ _ OP2.out]; rfl
  have z1 : w2.cell? ⟨w.heap.size, 1, none⟩ = some (.int .i64 off) := by rw [cell_of_row _ _ 1 _ _ _ OP2.out]; rfl
  have z2 : w2.cell? ⟨w.heap.size, 2, none⟩ = some (.int .i64 b1) := by rw [cell_of_row _ _ 2 _ _ _ OP2.out]; rfl
  have z3 : w2.cell? ⟨w.heap.size, 3, none⟩ = some (.int .i64 b2) := by rw [cell_of_row _ _ 3 _ _ _ OP2.out]; rfl
  have z4 : w2.cell? ⟨w.heap.size, 4, none⟩ = some (.slice ta tl tk) := by rw [cell_of_row _ _ 4 _ _ _ OP2.out]; rfl
  have z5 : w2.cell? ⟨w1.heap.size, 1, none⟩ = some (.func (.func 81) #[] #[]) := by rw [cell_of_row _ _ 1 _ _ _ F2.out]; rfl
  have AI := hide (AN.out w2 B2.out)
  clear AN
  go_wp2_with fail
  refine AI.out.mono ?_
  rintro e w3 ⟨rfl, Z', F', FC', mv', dv', hem, hF1, hZ1, hF2, hZ2, hch⟩
  have y3 := hch.size
  have yB := B2.out.size
  have RS3 := hide ((hch.block (w.heap.size + 1) (by omega) (fun h9 => h9 (.inr ⟨by omega, by omega⟩))).trans RS2.out)
  have BX := hide (bA (Below.refl w3.heap.size w3) (.cells #[.int .i64 0, .int .i64 (ts.length : Nat), .int .i64 0, .slice none 0 0, .slice none 0 0, .int .i64 0, .int .i64 0, .int .i64 0, .int .i64 0, .int .i64 0] 52))
  have EM4 := hide (hem.below BX.out)
  have RS4 := hide ((BX.out.block (w.heap.size + 1) (by omega)).trans RS3.out)
  have GG4 := hide (show F' (w.heap.size + 1) ∧ ¬ Z' (w.heap.size + 1) from ⟨hF1 _ (.inr ⟨by omega, by omega⟩), fun h9 => by
    rcases hZ2 _ h9 with h8 | h8
    · have := HZL.out _ h8; omega
    · omega⟩)
  have FF := hide (And.intro hF1 (And.intro hZ1 (And.intro hF2 (And.intro hZ2 hch))))
  clear hem hF1 hZ1 hF2 hZ2 hch AI RS2 RS3 OP2 F2 z0 z1 z2 z3 z4 z5
  go_upto_region 7 with fail
  have OB4 := hide (show (w3.alloc (.cells #[.int .i64 0, .int .i64 (ts.length : Nat), .int .i64 0, .slice none 0 0, .slice none 0 0, .int .i64 0, .int .i64 0, .int .i64 0, .int .i64 0, .int .i64 0] 52)).heap[w3.heap.size]? = some (.cells #[.int .i64 0, .int .i64 (ts.length : Nat), .int .i64 0, .slice none 0 0, .slice none 0 0, .int .i64 0, .int .i64 0, .int .i64 0, .int .i64 0, .int .i64 0] 52 (0, 0)) from heap_alloc_new _ _)
  have C4 := hide (ChgP.of_below (S := fun q => q = w.heap.size + 1) BX.out (Nat.le_refl _))
  have y4 := BX.out.size
  generalize w3.alloc (.cells #[.int .i64 0, .int .i64 (ts.length : Nat), .int .i64 0, .slice none 0 0, .slice none 0 0, .int .i64 0, .int .i64 0, .int .i64 0, .int .i64 0, .int .i64 0] 52) = w4 at *
  have u0 : w4.cell? ⟨w3.heap.size, 0, none⟩ = some (.int .i64 0) := by rw [cell_of_row _ _ 0 _ _ _ OB4.out]; rfl
  have u1 : w4.cell? ⟨w3.heap.size, 1, none⟩ = some (.int .i64 (ts.length : Nat)) := by rw [cell_of_row _ _ 1 _ _ _ OB4.out]; rfl
  have u2 : w4.cell? ⟨w3.heap.size, 2, none⟩ = some (.int .i64 0) := by rw [cell_of_row _ _ 2 _ _ _ OB4.out]; rfl
  have u3 : w4.cell? ⟨w3.heap.size, 3, none⟩ = some (.slice none 0 0) := by rw [cell_of_row _ _ 3 _ _ _ OB4.out]; rfl
  have u4 : w4.cell? ⟨w3.heap.size, 4, none⟩ = some (.slice none 0 0) := by rw [cell_of_row _ _ 4 _ _ _ OB4.out]; rfl
  have u5 : w4.cell? ⟨w3.heap.size, 5, none⟩ = some (.int .i64 0) := by rw [cell_of_row _ _ 5 _ _ _ OB4.out]; rfl
  have u6 : w4.cell? ⟨w3.heap.size, 6, none⟩ = some (.int .i64 0) := by rw [cell_of_row _ _ 6 _ _ _ OB4.out]; rfl
  have u7 : w4.cell? ⟨w3.heap.size, 7, none⟩ = some (.int .i64 0) := by rw [cell_of_row _ _ 7 _ _ _ OB4.out]; rfl
  have u8 : w4.cell? ⟨w3.heap.size, 8, none⟩ = some (.int .i64 0) := by rw [cell_of_row _ _ 8 _ _ _ OB4.out]; rfl
  have u9 : w4.cell? ⟨w3.heap.size, 9, none⟩ = some (.int .i64 0) := by rw [cell_of_row _ _ 9 _ _ _ OB4.out]; rfl
  refine wp_region_lit ?_
  refine wpList_plain rfl (fun K hK => ?_)
  go_simp
  refine hK _ _ ?_
  clear hK K
  refine wpList_store_row rfl 52 _ _ rfl (w.heap.size + 1) _ #[.int .i64 0, .int .i64 (ts.length : Nat), .int .i64 0, .slice none 0 0, .slice none 0 0, .int .i64 0, .int .i64 0, .int .i64 0, .int .i64 0, .int .i64 0] 52 rfl rfl RS4.out (by kernel_rfl) rfl (by simp [Value.oneCell']) ?_
  have RW := hide (show (w4.setRow (w.heap.size + 1) #[.int .i64 0, .int .i64 (ts.length : Nat), .int .i64 0, .slice none 0 0, .slice none 0 0, .int .i64 0, .int .i64 0, .int .i64 0, .int .i64 0, .int .i64 0]).heap[w.heap.size + 1]? = some (.cells #[.int .i64 0, .int .i64 (ts.length : Nat), .int .i64 0, .slice none 0 0, .slice none 0 0, .int .i64 0, .int .i64 0, .int .i64 0, .int .i64 0, .int .i64 0] 52 (0, 0)) from setRow_heap _ _ _ _ _ _ RS4.out)
  have C5 := hide (show ChgP w4 (w4.setRow (w.heap.size + 1) #[.int .i64 0, .int .i64 (ts.length : Nat), .int .i64 0, .slice none 0 0, .slice none 0 0, .int .i64 0, .int .i64 0, .int .i64 0, .int .i64 0, .int .i64 0]) (fun q => q = w.heap.size + 1) from (ChgP.reflS w4 _).row _ _ (.inl rfl))
  generalize w4.setRow (w.heap.size + 1) #[.int .i64 0, .int .i64 (ts.length : Nat), .int .i64 0, .slice none 0 0, .slice none 0 0, .int .i64 0, .int .i64 0, .int .i64 0, .int .i64 0, .int .i64 0] = w5 at *
  refine wpList_plain rfl (fun K hK => ?_)
  go_simp
  refine hK _ _ ?_
  clear hK K
  refine wpList_nil ?_
  clear u0 u1 u2 u3 u4 u5 u6 u7 u8 u9
  go_wp2
  have g0 : w5.cell? ⟨w.heap.size + 1, 0, none⟩ = some (.int .i64 0) := by rw [cell_of_row _ _ 0 _ _ _ RW.out]; rfl
  have g1 : w5.cell? ⟨w.heap.size + 1, 1, none⟩ = some (.int .i64 (ts.length : Nat)) := by rw [cell_of_row _ _ 1 _ _ _ RW.out]; rfl
  have g2 : w5.cell? ⟨w.heap.size + 1, 2, none⟩ = some (.int .i64 0) := by rw [cell_of_row _ _ 2 _ _ _ RW.out]; rfl
  have g3 : w5.cell? ⟨w.heap.size + 1, 3, none⟩ = some (.slice none 0 0) := by rw [cell_of_row _ _ 3 _ _ _ RW.out]; rfl
  have g4 : w5.cell? ⟨w.heap.size + 1, 4, none⟩ = some (.slice none 0 0) := by rw [cell_of_row _ _ 4 _ _ _ RW.out]; rfl
  have g5 : w5.cell? ⟨w.heap.size + 1, 5, none⟩ = some (.int .i64 0) := by rw [cell_of_row _ _ 5 _ _ _ RW.out]; rfl
  have g6 : w5.cell? ⟨w.heap.size + 1, 6, none⟩ = some (.int .i64 0) := by rw [cell_of_row _ _ 6 _ _ _ RW.out]; rfl
  have g7 : w5.cell? ⟨w.heap.size + 1, 7, none⟩ = some (.int .i64 0) := by rw [cell_of_row _ _ 7 _ _ _ RW.out]; rfl
  have g8 : w5.cell? ⟨w.heap.size + 1, 8, none⟩ = some (.int .i64 0) := by rw [cell_of_row _ _ 8 _ _ _ RW.out]; rfl
  have g9 : w5.cell? ⟨w.heap.size + 1, 9, none⟩ = some (.int .i64 0) := by rw [cell_of_row _ _ 9 _ _ _ RW.out]; rfl
  refine bodyPost_ret (v := .tuple #[.agg #[.int .i64 0, .int .i64 (ts.length : Nat), .int .i64 0, .slice none 0 0, .slice none 0 0, .int .i64 0, .int .i64 0, .int .i64 0, .int .i64 0, .int .i64 0], .nilIface]) (by simp [results, Tryz.results51, go_sem, g0, g1, g2, g3, g4, g5, g6, g7, g8, g9]) rfl ⟨rfl, Z', F', FC', mv', dv', EM4.out.chg C5.out (fun q _ hq => ?_), fun q hq => FF.out.1 q (.inl hq), FF.out.2.1, fun q hq => ?_, fun q hq => ?_, ?_⟩
  · subst hq
    exact ⟨EM4.out.ff _ GG4.out.1, GG4.out.2, by have := HEl.out; omega, fun h9 => (EM4.out.fd _ h9).2 GG4.out.1, by simp [Value.ownBlock], fun h9 => by rw [show (insE M off ts).opn = M.opn from rfl, HOP.out] at h9; cases h9⟩
  · rcases FF.out.2.2.1 q hq with (h9 | h9) | h9
    · exact .inl h9
    · exact .inr h9.1
    · exact .inr (by omega)
  · rcases FF.out.2.2.2.1 q hq with h9 | h9
    · exact .inl h9
    · exact .inr (by omega)
  · refine (((ChgP.of_below (S := fun q => ¬ F q) B2.out (Nat.le_refl _)).transS FF.out.2.2.2.2 (fun q hq => ?_)).belowS BX.out (by omega)).transS C5.out (fun q hq => .inr (by omega))
    exact .inl (fun h9 => hq (.inl h9))
end Go.Proofs.YtbkcbhjejkicjaaGreatDoor

