import Derived.Test.YtbkcbhjejkicjaaGreatDoorMq23
import Derived.Test.YtbkcbhjejkicjaaGreatDoorMq08
namespace Go.Proofs.YtbkcbhjejkicjaaGreatDoor
open Go Go.RowKit Go.Sort
set_option linter.unusedVariables false

/-- An observation's cells. -/
def obS (code x y : Int) (tv mv : Value) (len lines un re op : Int) : Array Value := #[.int .i64 code, .int .i64 x, .int .i64 y, tv, mv, .int .i64 len, .int .i64 lines, .int .i64 un, .int .i64 re, .int .i64 op]
theorem MS.lv {w : World} {B s : Nat} {tx : List Int} {us : List Value} {sp : Int} {cp nl : Nat} {lv : Value} (h : MS w B s tx us sp cp nl lv) : s < w.heap.size ∧ (∀ q, lv.ownBlock = some q → q < w.heap.size ∧ q ≠ s) ∧ (1 ≤ cp ∧ cp ≤ 1000) ∧ us.length ≤ cp ∧ B ≤ w.heap.size := by
  obtain ⟨tv, mv, uv, gv, slv, ls, hS, hT, hM, hU, hU1, hL, hUb, hul, hcp, hB⟩ := h
  exact ⟨hS.lt, fun q hq => ⟨(hL.lt q hq).2, hS.off hL (by decide) hq⟩, hcp, hul, hB⟩
theorem MS.below {w w' : World} {B s : Nat} {tx : List Int} {us : List Value} {sp : Int} {cp nl : Nat} {lv : Value} (h : MS w B s tx us sp cp nl lv) (hb : Below w.heap.size w w') : MS w' B s tx us sp cp nl lv := by
  obtain ⟨tv, mv, uv, gv, slv, ls, hS, hT, hM, hU, hU1, hL, hUb, hul, hcp, hB⟩ := h
  exact ⟨tv, mv, uv, gv, slv, ls, hS.same (hb.block s hS.lt), owns_below hT hb (Nat.le_refl _), owns_below hM hb (Nat.le_refl _), hU.kept (fun b o l c e => hb.block b (hU.lt e)) hb.size, hU1, owns_below hL hb (Nat.le_refl _), hUb, hul, hcp, by have := hb.size; omega⟩
theorem MS.cells {w : World} {B s : Nat} {tx : List Int} {us : List Value} {sp : Int} {cp nl : Nat} {lv : Value} (h : MS w B s tx us sp cp nl lv) : ∃ ta tq ua uq, w.cell? ⟨s, 0, none⟩ = some (.slice ta tx.length tq) ∧ own32 w B (.slice ta tx.length tq) tx ∧ w.cell? ⟨s, 2, none⟩ = some (.slice ua us.length uq) ∧ w.cell? ⟨s, 3, none⟩ = some (.slice none 0 0) ∧ w.cell? ⟨s, 5, none⟩ = some (.bool false) := by
  obtain ⟨tv, mv, uv, gv, slv, ls, hS, hT, hM, hU, hU1, hL, hUb, hul, hcp, hB⟩ := h
  obtain ⟨ta, tq, rfl⟩ := own32_val hT
  obtain ⟨c0, _, c2, c3, c5, _⟩ := hS.c
  rcases hU with ⟨rfl, rfl⟩ | ⟨b, o, cap, rfl, _⟩
  · exact ⟨ta, tq, none, 0, c0, hT, c2, c3, c5⟩
  · exact ⟨ta, tq, _, _, c0, hT, c2, c3, c5⟩
theorem payM (B s cp nl : Nat) (tx : List Int) (us : List Value) (sp n : Int) (lv : Value) (w : World) (h : MS w B s tx us sp cp nl lv) (h0 : 0 ≤ sp ∧ 0 ≤ n) (hn : sp + n ≤ 200000) :
    Calls Tryz.prog 59 #[.pointer (some ⟨s, 0, none⟩), .int .i64 n] w fun e w' => e = .returned (.bool true) ∧ MS w' B s tx us (sp + n) cp nl lv ∧ ChgP w w' (fun q => q = s) := by
  obtain ⟨tv, mv, uv, gv, slv, ls, hS, hT, hM, hU, hU1, hL, hUb, hul, hcp, hB⟩ := h
  refine (payS s tv mv uv gv slv lv sp cp n w hS h0 hn).mono ?_
  rintro e w' ⟨rfl, h1, rfl⟩
  refine ⟨rfl, ⟨tv, mv, uv, gv, slv, ls, h1, owns_of_block hT (fun q hq => heap_setCell_other _ _ q _ (hS.off hT (by decide) hq)), owns_of_block hM (fun q hq => heap_setCell_other _ _ q _ (hS.off hM (by decide) hq)), hU.kept (fun b o l c e => heap_setCell_other _ _ b _ (hUb b o l c e).1) (by simp), hU1, owns_of_block hL (fun q hq => heap_setCell_other _ _ q _ (hS.off hL (by decide) hq)), hUb, hul, hcp, by simpa using hB⟩, (ChgP.reflS w _).setS ⟨s, 6, none⟩ _ (.inl rfl)⟩
theorem EditS.after {w w1 w2 : World} {B s : Nat} {tx : List Int} {u : Nat} {sp : Int} {cp nl : Nat} {lv : Value} (h : EditS w1 B s tx u sp cp nl lv w2) (hc : ChgP w w1 (fun q => q = s ∨ lv.ownBlock = some q)) : EditS w B s tx u sp cp nl lv w2 := by
  obtain ⟨lv', us', h1, h2, h3, h4⟩ := h
  exact ⟨lv', us', h1, h2, hc.transS h3 (fun q hq => .inl hq), fun q hq => (h4 q hq).imp id (fun h9 => Nat.le_trans hc.size h9)⟩
/-- A block of none of the model's kinds. -/
def Oth (w : World) (q : Nat) : Prop := ∃ cs t fr, w.heap[q]? = some (.cells cs t fr) ∧ t ≠ 21 ∧ t ≠ 120 ∧ t ≠ 190 ∧ t ≠ 84 ∧ t ≠ 81
theorem oth_ne {w : World} {q : Nat} {t : TypeId} {cs : Array Value} {fr} (h : Oth w q) (ht : t = 21 ∨ t = 120 ∨ t = 190 ∨ t = 84 ∨ t = 81) (hq : w.heap[q]? = some (.cells cs t fr)) : False := by
  obtain ⟨cs', t', fr', h1, h2, h3, h4, h5, h6⟩ := h
  rw [hq] at h1
  simp only [Option.some.injEq, Obj.cells.injEq] at h1
  obtain ⟨_, rfl, _⟩ := h1
  rcases ht with rfl | rfl | rfl | rfl | rfl <;> contradiction
theorem MS.other {w w' : World} {B s : Nat} {tx : List Int} {us : List Value} {sp : Int} {cp nl : Nat} {lv : Value} {R : Nat → Prop} (h : MS w B s tx us sp cp nl lv) (hc : ChgP w w' R) (hR : ∀ q, q < w.heap.size → R q → Oth w q) : MS w' B s tx us sp cp nl lv := by
  obtain ⟨tv, mv, uv, gv, slv, ls, hS, hT, hM, hU, hU1, hL, hUb, hul, hcp, hB⟩ := h
  refine ⟨tv, mv, uv, gv, slv, ls, hS.same (hc.block s hS.lt (fun h9 => oth_ne (hR s hS.lt h9) (.inr (.inr (.inr (.inl rfl)))) hS)), owns_of_block hT (fun q hq => hc.block q (hT.lt q hq).2 (fun h9 => ?_)), owns_of_block hM (fun q hq => hc.block q (hM.lt q hq).2 (fun h9 => ?_)), hU.kept (fun b o l c e => hc.block b (hU.lt e) (fun h9 => ?_)) hc.size, hU1, owns_of_block hL (fun q hq => hc.block q (hL.lt q hq).2 (fun h9 => ?_)), hUb, hul, hcp, by have := hc.size; omega⟩
  · obtain ⟨cs, fr, h8⟩ := own_ty hT hq
    exact oth_ne (hR q (hT.lt q hq).2 h9) (.inl rfl) h8
  · obtain ⟨cs, fr, h8⟩ := own_ty hM hq
    exact oth_ne (hR q (hM.lt q hq).2 h9) (.inr (.inl rfl)) h8
  · obtain ⟨cs, fr, h8⟩ := hU.ty e
    exact oth_ne (hR b (hU.lt e) h9) (.inr (.inr (.inr (.inr rfl)))) h8
  · obtain ⟨cs, fr, h8⟩ := own_ty hL hq
    exact oth_ne (hR q (hL.lt q hq).2 h9) (.inr (.inr (.inl rfl))) h8
theorem EditS.later {w w1 w2 : World} {B s : Nat} {R : Nat → Prop} {tx : List Int} {u : Nat} {sp : Int} {cp nl : Nat} {lv : Value} (h : EditS w B s tx u sp cp nl lv w1) (hc : ChgP w1 w2 R) (hR : ∀ q, q < w1.heap.size → R q → Oth w1 q) (hb : ∀ q, R q → w.heap.size ≤ q) : EditS w B s tx u sp cp nl lv w2 := by
  obtain ⟨lv', us', h1, h2, h3, h4⟩ := h
  exact ⟨lv', us', h1.other hc hR, h2, h3.transS hc (fun q hq => .inr (hb q hq)), h4⟩
set_option maxHeartbeats 4000000 in
set_option maxRecDepth 100000 in
theorem textS (B s cp nl off : Nat) (tx bs : List Int) (us : List Value) (sp b1 b2 : Int) (lv : Value) (ba : Option Addr) (bl bk : Nat) (w : World) (h : MS w B s tx us sp cp nl lv) (hrd : Rd .u8 w (.slice ba bl bk) bs) (hby : bytes bs) (hbn : bs.length ≤ 1048576) (h0 : 0 < (decs bs).length) (ho : off ≤ tx.length) (hx : tx.length + (decs bs).length ≤ 8192) (hnl : nl ≤ 10000) (hsp : 0 ≤ sp ∧ sp + (decs bs).length ≤ 200000) :
    Calls Tryz.prog 43 #[.pointer (some ⟨s, 0, none⟩), .agg #[.int .i64 1, .int .i64 off, .int .i64 b1, .int .i64 b2, .slice ba bl bk]] w fun e w' => e = .returned (.agg (obS 0 (decs bs).length 0 (.slice none 0 0) (.slice none 0 0) 0 0 0 0 0)) ∧ EditS w B s (tx.take off ++ (decs bs ++ tx.drop off)) (min (us.length + 1) cp) (sp + (decs bs).length) cp (nl + 1) lv w' := by
  have BB := hide (bAS (bAS (Below.refl w.heap.size w) (.cells #[.int .i64 1, .int .i64 off, .int .i64 b1, .int .i64 b2, .slice ba bl bk] 30)) (.cells (obS 0 0 0 (.slice none 0 0) (.slice none 0 0) 0 0 0 0 0) 52))
  have H := hide h
  have HDE := hide (fun (W : World) (hW : Below w.heap.size w W) => specDec bs (.slice ba bl bk) W (hrd.below hW) hby hbn)
  obtain ⟨hs, hlv, _⟩ := h.lv
  have HLV := hide hlv
  have OP := hide (show ((w.alloc (.cells #[.int .i64 1, .int .i64 off, .int .i64 b1, .int .i64 b2, .slice ba bl bk] 30)).alloc (.cells (obS 0 0 0 (.slice none 0 0) (.slice none 0 0) 0 0 0 0 0) 52)).heap[w.heap.size]? = some (.cells #[.int .i64 1, .int .i64 off, .int .i64 b1, .int .i64 b2, .slice ba bl bk] 30 (0, 0)) from (((Below.refl (w.alloc (.cells #[.int .i64 1, .int .i64 off, .int .i64 b1, .int .i64 b2, .slice ba bl bk] 30)).heap.size (w.alloc (.cells #[.int .i64 1, .int .i64 off, .int .i64 b1, .int .i64 b2, .slice ba bl bk] 30))).alloc (Nat.le_refl _) _).block w.heap.size (by simp)).trans (heap_alloc_new _ _))
  have RS := hide (show ((w.alloc (.cells #[.int .i64 1, .int .i64 off, .int .i64 b1, .int .i64 b2, .slice ba bl bk] 30)).alloc (.cells (obS 0 0 0 (.slice none 0 0) (.slice none 0 0) 0 0 0 0 0) 52)).heap[w.heap.size + 1]? = some (.cells (obS 0 0 0 (.slice none 0 0) (.slice none 0 0) 0 0 0 0 0) 52 (0, 0)) from by
    have h9 := heap_alloc_new (w.alloc (.cells #[.int .i64 1, .int .i64 off, .int .i64 b1, .int .i64 b2, .slice ba bl bk] 30)) (.cells (obS 0 0 0 (.slice none 0 0) (.slice none 0 0) 0 0 0 0 0) 52)
    rw [World.size_alloc] at h9; exact h9)
  have yA : w.heap.size + 1 < ((w.alloc (.cells #[.int .i64 1, .int .i64 off, .int .i64 b1, .int .i64 b2, .slice ba bl bk] 30)).alloc (.cells (obS 0 0 0 (.slice none 0 0) (.slice none 0 0) 0 0 0 0 0) 52)).heap.size := by simp
  unfold obS at *
  generalize hts : decs bs = ts at *
  generalize hnx : tx.length = nx at *
  have HNX := hide hnx
  generalize hm : ts.length = m at *
  have HM := hide hm
  have hp1 : ¬ (m : Int) = 0 := by omega
  have hp2 : ¬ (8192 : Int) < (nx : Int) + m := by omega
  have hp3 : ¬ (off : Int) < 0 := by omega
  have hp4 : ¬ (nx : Int) < off := by omega
  clear h hrd hts hnx hm hlv
  go_enter Tryz.func43, Tryz.ntmps43
  go_upto_region 1 with fail
  generalize (w.alloc (.cells #[.int .i64 1, .int .i64 off, .int .i64 b1, .int .i64 b2, .slice ba bl bk] 30)).alloc (.cells #[.int .i64 0, .int .i64 0, .int .i64 0, .slice none 0 0, .slice none 0 0, .int .i64 0, .int .i64 0, .int .i64 0, .int .i64 0, .int .i64 0] 52) = wA at *
  have MA := hide (H.out.below BB.out)
  have z0 : wA.cell? ⟨w.heap.size, 0, none⟩ = some (.int .i64 1) := by rw [cell_of_row _ _ 0 _ _ _ OP.out]; rfl
  have z1 : wA.cell? ⟨w.heap.size, 1, none⟩ = some (.int .i64 off) := by rw [cell_of_row _ _ 1 _ _ _ OP.out]; rfl
  have z4 : wA.cell? ⟨w.heap.size, 4, none⟩ = some (.slice ba bl bk) := by rw [cell_of_row _ _ 4 _ _ _ OP.out]; rfl
  obtain ⟨ta, tq, ua, uq, c0, _⟩ := MA.out.cells
  rw [HNX.out] at c0
  have DE := hide (HDE.out wA BB.out)
  clear HDE
  go_upto_region 9 with fail
  go_wp2_with fail
  refine DE.out.mono ?_
  rintro e w1 ⟨v1, rfl, ho1, hb1⟩
  have O1 := hide (show own32 w1 wA.heap.size v1 ts from by unfold own32; rw [HM.out]; exact ho1)
  obtain ⟨pa, pk, rfl⟩ : ∃ a k, v1 = .slice a m k := by
    obtain ⟨a, k, e⟩ := own32_val O1.out; rw [HM.out] at e; exact ⟨a, k, e⟩
  have M1 := hide (MA.out.below hb1)
  have OP1 := hide ((hb1.block w.heap.size (by omega)).trans OP.out)
  have RS1 := hide ((hb1.block (w.heap.size + 1) (by omega)).trans RS.out)
  have y1 := hb1.size
  have C1 := hide (((ChgP.of_below (S := fun q => q = s ∨ lv.ownBlock = some q) BB.out (Nat.le_refl _))).belowS hb1 (by have := BB.out.size; omega))
  have PA := hide (payM B s cp nl tx us sp m lv w1 M1.out ⟨hsp.1, by omega⟩ hsp.2)
  clear ho1 hb1 DE MA OP RS z0 z1 z4 c0 H
  go_upto_region 12 with fail
  go_wp2_with fail
  refine PA.out.mono ?_
  rintro e w2 ⟨rfl, hm2, hc2⟩
  have y2 := hc2.size
  have hA : wA.heap.size ≤ w1.heap.size := y1
  have OP2 := hide ((hc2.block w.heap.size (by omega) (by omega)).trans OP1.out)
  have RS2 := hide ((hc2.block (w.heap.size + 1) (by omega) (by omega)).trans RS1.out)
  have hps : ∀ q, (Value.slice pa m pk).ownBlock = some q → q ≠ s := fun q hq e => by have := (O1.out.lt q hq).1; omega
  have O2 := hide (show own32 w2 wA.heap.size (.slice pa m pk) ts from owns_of_block O1.out (fun q hq => hc2.block q (O1.out.lt q hq).2 (hps q hq)))
  have C2 := hide (C1.out.transS hc2 (fun q hq => .inl (.inl hq)))
  have ED := hide (editS B wA.heap.size s cp nl off tx ts us (sp + m) lv (.slice pa m pk) w2 hm2 O2.out (by rw [HM.out]; omega) (by rw [HNX.out]; exact ho) (by rw [HM.out, HNX.out]; exact hx) hnl)
  have x1 : w2.cell? ⟨w.heap.size, 1, none⟩ = some (.int .i64 off) := by rw [cell_of_row _ _ 1 _ _ _ OP2.out]; rfl
  clear hm2 hc2 PA O1 M1 OP1 RS1 C1 hps
  go_upto_region 14 with fail
  go_wp2_with fail
  refine ED.out.mono ?_
  rintro e w3 ⟨rfl, hE⟩
  have hc3 : ChgP w2 w3 (fun q => q = s ∨ lv.ownBlock = some q) := by obtain ⟨_, _, _, _, h9, _⟩ := hE; exact h9
  have y3 := hc3.size
  have hl1 : lv.ownBlock ≠ some (w.heap.size + 1) := fun e => by have := (HLV.out _ e).1; omega
  have RS3 := hide ((hc3.block (w.heap.size + 1) (by omega) (fun h9 => h9.elim (by omega) hl1)).trans RS2.out)
  have E3 := hide (hE.after C2.out)
  clear hE hc3 ED O2 OP2 RS2 C2 x1
  have fz := fun j => frozen_of_row w3 (w.heap.size + 1) j _ _ RS3.out
  have f0 := fz 0
  have f1 := fz 1
  have f2 := fz 2
  have f3 := fz 3
  have f4 := fz 4
  have f5 := fz 5
  have f6 := fz 6
  have f7 := fz 7
  have f8 := fz 8
  have f9 := fz 9
  clear fz
  go_upto_region 15 with fail
  refine wp_region_lit ?_
  refine wpList_plain rfl (fun K hK => ?_)
  go_simp
  refine hK _ _ ?_
  clear hK K
  refine wpList_plain rfl (fun K hK => ?_)
  go_simp
  refine hK _ _ ?_
  clear hK K
  refine wpList_plain rfl (fun K hK => ?_)
  go_simp
  refine hK _ _ ?_
  clear hK K
  refine wpList_store_row rfl 52 _ _ rfl (w.heap.size + 1) _ #[.int .i64 0, .int .i64 (m : Nat), .int .i64 0, .slice none 0 0, .slice none 0 0, .int .i64 0, .int .i64 0, .int .i64 0, .int .i64 0, .int .i64 0] 52 rfl rfl RS3.out (by kernel_rfl) rfl (by simp [Value.oneCell']) ?_
  have RW := hide (show (w3.setRow (w.heap.size + 1) #[.int .i64 0, .int .i64 (m : Nat), .int .i64 0, .slice none 0 0, .slice none 0 0, .int .i64 0, .int .i64 0, .int .i64 0, .int .i64 0, .int .i64 0]).heap[w.heap.size + 1]? = some (.cells #[.int .i64 0, .int .i64 (m : Nat), .int .i64 0, .slice none 0 0, .slice none 0 0, .int .i64 0, .int .i64 0, .int .i64 0, .int .i64 0, .int .i64 0] 52 (0, 0)) from setRow_heap _ _ _ _ _ _ RS3.out)
  have C4 := hide (show ChgP w3 (w3.setRow (w.heap.size + 1) #[.int .i64 0, .int .i64 (m : Nat), .int .i64 0, .slice none 0 0, .slice none 0 0, .int .i64 0, .int .i64 0, .int .i64 0, .int .i64 0, .int .i64 0]) (fun q => q = w.heap.size + 1) from (ChgP.reflS w3 _).row _ _ (.inl rfl))
  have z4 : (w3.setRow (w.heap.size + 1) #[.int .i64 0, .int .i64 (m : Nat), .int .i64 0, .slice none 0 0, .slice none 0 0, .int .i64 0, .int .i64 0, .int .i64 0, .int .i64 0, .int .i64 0]).heap.size = w3.heap.size := by simp
  have OT := hide (show Oth w3 (w.heap.size + 1) from ⟨_, _, _, RS3.out, by decide, by decide, by decide, by decide, by decide⟩)
  clear z4
  generalize w3.setRow (w.heap.size + 1) #[.int .i64 0, .int .i64 (m : Nat), .int .i64 0, .slice none 0 0, .slice none 0 0, .int .i64 0, .int .i64 0, .int .i64 0, .int .i64 0, .int .i64 0] = w4 at *
  refine wpList_nil ?_
  clear f0 f1 f2 f3 f4 f5 f6 f7 f8 f9 RS3
  go_wp2
  have g0 : w4.cell? ⟨w.heap.size + 1, 0, none⟩ = some (.int .i64 0) := by rw [cell_of_row _ _ 0 _ _ _ RW.out]; rfl
  have g1 : w4.cell? ⟨w.heap.size + 1, 1, none⟩ = some (.int .i64 (m : Nat)) := by rw [cell_of_row _ _ 1 _ _ _ RW.out]; rfl
  have g2 : w4.cell? ⟨w.heap.size + 1, 2, none⟩ = some (.int .i64 0) := by rw [cell_of_row _ _ 2 _ _ _ RW.out]; rfl
  have g3 : w4.cell? ⟨w.heap.size + 1, 3, none⟩ = some (.slice none 0 0) := by rw [cell_of_row _ _ 3 _ _ _ RW.out]; rfl
  have g4 : w4.cell? ⟨w.heap.size + 1, 4, none⟩ = some (.slice none 0 0) := by rw [cell_of_row _ _ 4 _ _ _ RW.out]; rfl
  have g5 : w4.cell? ⟨w.heap.size + 1, 5, none⟩ = some (.int .i64 0) := by rw [cell_of_row _ _ 5 _ _ _ RW.out]; rfl
  have g6 : w4.cell? ⟨w.heap.size + 1, 6, none⟩ = some (.int .i64 0) := by rw [cell_of_row _ _ 6 _ _ _ RW.out]; rfl
  have g7 : w4.cell? ⟨w.heap.size + 1, 7, none⟩ = some (.int .i64 0) := by rw [cell_of_row _ _ 7 _ _ _ RW.out]; rfl
  have g8 : w4.cell? ⟨w.heap.size + 1, 8, none⟩ = some (.int .i64 0) := by rw [cell_of_row _ _ 8 _ _ _ RW.out]; rfl
  have g9 : w4.cell? ⟨w.heap.size + 1, 9, none⟩ = some (.int .i64 0) := by rw [cell_of_row _ _ 9 _ _ _ RW.out]; rfl
  refine bodyPost_ret (v := .agg #[.int .i64 0, .int .i64 (m : Nat), .int .i64 0, .slice none 0 0, .slice none 0 0, .int .i64 0, .int .i64 0, .int .i64 0, .int .i64 0, .int .i64 0]) (by simp [results, Tryz.results43, go_sem, g0, g1, g2, g3, g4, g5, g6, g7, g8, g9]) rfl ⟨rfl, ?_⟩
  exact E3.out.later C4.out (fun q _ hq => by rw [hq]; exact OT.out) (fun q hq => by omega)
end Go.Proofs.YtbkcbhjejkicjaaGreatDoor

namespace Go.Proofs.YtbkcbhjejkicjaaGreatDoor
open Go Go.RowKit Go.Sort
set_option linter.unusedVariables false

set_option maxHeartbeats 4000000 in
set_option maxRecDepth 100000 in
theorem actS (B s cp nl off : Nat) (tx bs : List Int) (us : List Value) (sp b1 b2 : Int) (lv : Value) (ba : Option Addr) (bl bk : Nat) (w : World) (h : MS w B s tx us sp cp nl lv) (hrd : Rd .u8 w (.slice ba bl bk) bs) (hby : bytes bs) (hbn : bs.length ≤ 1048576) (h0 : 0 < (decs bs).length) (ho : off ≤ tx.length) (hx : tx.length + (decs bs).length ≤ 8192) (hnl : nl ≤ 10000) (hsp : 0 ≤ sp ∧ sp + (decs bs).length ≤ 200000) :
    Calls Tryz.prog 31 #[.pointer (some ⟨s, 0, none⟩), .agg #[.int .i64 1, .int .i64 off, .int .i64 b1, .int .i64 b2, .slice ba bl bk]] w fun e w' => e = .returned (.agg (obS 0 (decs bs).length 0 (.slice none 0 0) (.slice none 0 0) 0 0 0 0 0)) ∧ EditS w B s (tx.take off ++ (decs bs ++ tx.drop off)) (min (us.length + 1) cp) (sp + (decs bs).length) cp (nl + 1) lv w' := by
  have BB := hide (bAS (bAS (Below.refl w.heap.size w) (.cells #[.int .i64 1, .int .i64 off, .int .i64 b1, .int .i64 b2, .slice ba bl bk] 30)) (.cells (obS 0 0 0 (.slice none 0 0) (.slice none 0 0) 0 0 0 0 0) 52))
  have HDE := hide (fun (W : World) (hW : Below w.heap.size w W) => textS B s cp nl off tx bs us sp b1 b2 lv ba bl bk W (h.below hW) (hrd.below hW) hby hbn h0 ho hx hnl hsp)
  obtain ⟨hs, hlv, _⟩ := h.lv
  have HLV := hide hlv
  have OP := hide (heap1 w (.cells (obS 0 0 0 (.slice none 0 0) (.slice none 0 0) 0 0 0 0 0) 52) #[.int .i64 1, .int .i64 off, .int .i64 b1, .int .i64 b2, .slice ba bl bk] 30)
  have RS := hide (heap2 w (.cells #[.int .i64 1, .int .i64 off, .int .i64 b1, .int .i64 b2, .slice ba bl bk] 30) (obS 0 0 0 (.slice none 0 0) (.slice none 0 0) 0 0 0 0 0) 52)
  have yA : w.heap.size + 1 < ((w.alloc (.cells #[.int .i64 1, .int .i64 off, .int .i64 b1, .int .i64 b2, .slice ba bl bk] 30)).alloc (.cells (obS 0 0 0 (.slice none 0 0) (.slice none 0 0) 0 0 0 0 0) 52)).heap.size := by simp
  unfold obS at *
  generalize hts : (decs bs).length = m at *
  generalize tx.take off ++ (decs bs ++ tx.drop off) = tx' at *
  clear h hrd hts hlv
  go_enter Tryz.func31, Tryz.ntmps31
  go_upto_region 1 with fail
  generalize (w.alloc (.cells #[.int .i64 1, .int .i64 off, .int .i64 b1, .int .i64 b2, .slice ba bl bk] 30)).alloc (.cells #[.int .i64 0, .int .i64 0, .int .i64 0, .slice none 0 0, .slice none 0 0, .int .i64 0, .int .i64 0, .int .i64 0, .int .i64 0, .int .i64 0] 52) = wA at *
  have z0 : wA.cell? ⟨w.heap.size, 0, none⟩ = some (.int .i64 1) := by rw [cell_of_row _ _ 0 _ _ _ OP.out]; rfl
  have z1 : wA.cell? ⟨w.heap.size, 1, none⟩ = some (.int .i64 off) := by rw [cell_of_row _ _ 1 _ _ _ OP.out]; rfl
  have z2 : wA.cell? ⟨w.heap.size, 2, none⟩ = some (.int .i64 b1) := by rw [cell_of_row _ _ 2 _ _ _ OP.out]; rfl
  have z3 : wA.cell? ⟨w.heap.size, 3, none⟩ = some (.int .i64 b2) := by rw [cell_of_row _ _ 3 _ _ _ OP.out]; rfl
  have z4 : wA.cell? ⟨w.heap.size, 4, none⟩ = some (.slice ba bl bk) := by rw [cell_of_row _ _ 4 _ _ _ OP.out]; rfl
  have DE := hide (HDE.out wA BB.out)
  have CA := hide (ChgP.of_below (S := fun q => q = s ∨ lv.ownBlock = some q) BB.out (Nat.le_refl _))
  clear HDE
  go_upto_region 8 with fail
  refine wp_region_lit ?_
  refine wpList_plain rfl (fun K hK => ?_)
  go_simp
  refine hK _ _ ?_
  clear hK K
  refine wpList_plain rfl (fun K hK => ?_)
  go_simp
  refine hK _ _ ?_
  clear hK K
  refine wpList_plain rfl (fun K hK => ?_)
  go_simp
  refine DE.out.mono ?_
  rintro e w1 ⟨rfl, hE⟩
  refine hK _ _ ?_
  clear hK K
  have hc3 : ChgP wA w1 (fun q => q = s ∨ lv.ownBlock = some q) := by obtain ⟨_, _, _, _, h9, _⟩ := hE; exact h9
  have y3 := hc3.size
  have hl1 : lv.ownBlock ≠ some (w.heap.size + 1) := fun e => by have := (HLV.out _ e).1; omega
  have RS3 := hide ((hc3.block (w.heap.size + 1) (by omega) (fun h9 => h9.elim (by omega) hl1)).trans RS.out)
  have E3 := hide (hE.after CA.out)
  clear hE hc3 DE OP RS CA z0 z1 z2 z3 z4
  refine wpList_store_row rfl 52 _ _ rfl (w.heap.size + 1) _ #[.int .i64 0, .int .i64 (m : Nat), .int .i64 0, .slice none 0 0, .slice none 0 0, .int .i64 0, .int .i64 0, .int .i64 0, .int .i64 0, .int .i64 0] 52 rfl rfl RS3.out (by kernel_rfl) rfl (by simp [Value.oneCell']) ?_
  have RW := hide (show (w1.setRow (w.heap.size + 1) #[.int .i64 0, .int .i64 (m : Nat), .int .i64 0, .slice none 0 0, .slice none 0 0, .int .i64 0, .int .i64 0, .int .i64 0, .int .i64 0, .int .i64 0]).heap[w.heap.size + 1]? = some (.cells #[.int .i64 0, .int .i64 (m : Nat), .int .i64 0, .slice none 0 0, .slice none 0 0, .int .i64 0, .int .i64 0, .int .i64 0, .int .i64 0, .int .i64 0] 52 (0, 0)) from setRow_heap _ _ _ _ _ _ RS3.out)
  have C4 := hide (show ChgP w1 (w1.setRow (w.heap.size + 1) #[.int .i64 0, .int .i64 (m : Nat), .int .i64 0, .slice none 0 0, .slice none 0 0, .int .i64 0, .int .i64 0, .int .i64 0, .int .i64 0, .int .i64 0]) (fun q => q = w.heap.size + 1) from (ChgP.reflS w1 _).row _ _ (.inl rfl))
  have OT := hide (show Oth w1 (w.heap.size + 1) from ⟨_, _, _, RS3.out, by decide, by decide, by decide, by decide, by decide⟩)
  generalize w1.setRow (w.heap.size + 1) #[.int .i64 0, .int .i64 (m : Nat), .int .i64 0, .slice none 0 0, .slice none 0 0, .int .i64 0, .int .i64 0, .int .i64 0, .int .i64 0, .int .i64 0] = w4 at *
  refine wpList_nil ?_
  clear RS3
  go_wp2
  have g0 : w4.cell? ⟨w.heap.size + 1, 0, none⟩ = some (.int .i64 0) := by rw [cell_of_row _ _ 0 _ _ _ RW.out]; rfl
  have g1 : w4.cell? ⟨w.heap.size + 1, 1, none⟩ = some (.int .i64 (m : Nat)) := by rw [cell_of_row _ _ 1 _ _ _ RW.out]; rfl
  have g2 : w4.cell? ⟨w.heap.size + 1, 2, none⟩ = some (.int .i64 0) := by rw [cell_of_row _ _ 2 _ _ _ RW.out]; rfl
  have g3 : w4.cell? ⟨w.heap.size + 1, 3, none⟩ = some (.slice none 0 0) := by rw [cell_of_row _ _ 3 _ _ _ RW.out]; rfl
  have g4 : w4.cell? ⟨w.heap.size + 1, 4, none⟩ = some (.slice none 0 0) := by rw [cell_of_row _ _ 4 _ _ _ RW.out]; rfl
  have g5 : w4.cell? ⟨w.heap.size + 1, 5, none⟩ = some (.int .i64 0) := by rw [cell_of_row _ _ 5 _ _ _ RW.out]; rfl
  have g6 : w4.cell? ⟨w.heap.size + 1, 6, none⟩ = some (.int .i64 0) := by rw [cell_of_row _ _ 6 _ _ _ RW.out]; rfl
  have g7 : w4.cell? ⟨w.heap.size + 1, 7, none⟩ = some (.int .i64 0) := by rw [cell_of_row _ _ 7 _ _ _ RW.out]; rfl
  have g8 : w4.cell? ⟨w.heap.size + 1, 8, none⟩ = some (.int .i64 0) := by rw [cell_of_row _ _ 8 _ _ _ RW.out]; rfl
  have g9 : w4.cell? ⟨w.heap.size + 1, 9, none⟩ = some (.int .i64 0) := by rw [cell_of_row _ _ 9 _ _ _ RW.out]; rfl
  refine bodyPost_ret (v := .agg #[.int .i64 0, .int .i64 (m : Nat), .int .i64 0, .slice none 0 0, .slice none 0 0, .int .i64 0, .int .i64 0, .int .i64 0, .int .i64 0, .int .i64 0]) (by simp [results, Tryz.results31, go_sem, g0, g1, g2, g3, g4, g5, g6, g7, g8, g9]) rfl ⟨rfl, ?_⟩
  exact E3.out.later C4.out (fun q _ hq => by rw [hq]; exact OT.out) (fun q hq => by omega)
set_option maxHeartbeats 400000 in
theorem breaksS (B s cp nl : Nat) (tx : List Int) (us : List Value) (sp : Int) (lv : Value) (w : World) (h : MS w B s tx us sp cp nl lv) (hn : tx.length ≤ 8192) :
    Calls Tryz.prog 32 #[.pointer (some ⟨s, 0, none⟩)] w fun e w' => e = .returned (.int .i64 (brk tx)) ∧ w' = w := by
  obtain ⟨ta, tq, ua, uq, c0, hT, _⟩ := h.cells
  have BR := hide (specBreaks tx (.slice ta tx.length tq) w (Rd.of_owns hT) (by omega))
  clear h hT
  go_enter Tryz.func32, Tryz.ntmps32
  go_wp2_with fail
  refine BR.out.mono ?_
  rintro e w1 ⟨rfl, rfl⟩
  go_wp2
  go_ret
  exact ⟨rfl, rfl⟩
end Go.Proofs.YtbkcbhjejkicjaaGreatDoor

