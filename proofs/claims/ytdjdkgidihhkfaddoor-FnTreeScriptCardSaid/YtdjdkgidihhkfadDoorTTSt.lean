import Derived.Test.YtdjdkgidihhkfadDoorTFPz
import Derived.Test.YtdjdkgidihhkfadDoorTFSplit
import Derived.Test.YtdjdkgidihhkfadDoorTFJoin
namespace Go.Proofs.YtdjdkgidihhkfadDoor
open Go Go.RowKit Go.Shelf
set_option linter.unusedVariables false

theorem sm_ok2 {T : AT} (h : ∀ q ∈ T.flat, Sm q) (hn : T.its ≤ 900) : T.ok :=
  ⟨fun p hp => (h p hp).ok, by have := AT.rns_sm T h; omega⟩

/-- The state of the script: the source, the tree behind its pointer, the list beside it. -/
structure TS (zs : List Int) (vz : Value) (w : World) (tb : Nat) (vt : Value) (gl cl : Nat) (T : AT) (F : List Pc) (W : World) : Prop where
  src : SrcB zs vz w.heap.size W
  blw : Below w.heap.size w W
  box : W.heap[tb]? = some (.cells #[vt] 37 (0, 0))
  tbl : w.heap.size < tb
  own : OwI W (w.heap.size + 1) vt (T.told 0)
  bal : T.bal
  sm : ∀ q ∈ T.flat, Sm q
  lst : OwP W (w.heap.size + 1) (.slice (some ⟨gl, 0, none⟩) F.length cl) F
  cap : F.length ≤ cl ∧ cl ≤ maxLen

section
variable {zs : List Int} {vz : Value} {w : World} {tb : Nat} {vt : Value} {gl cl : Nat} {T : AT} {F : List Pc} {W W' : World}
theorem TS.lt (h : TS zs vz w tb vt gl cl T F W) : tb < W.heap.size := by
  rcases Nat.lt_or_ge tb W.heap.size with q | q
  · exact q
  · have := h.box; rw [Array.getElem?_eq_none q] at this; cases this
theorem TS.cell (h : TS zs vz w tb vt gl cl T F W) : W.cell? ⟨tb, 0, none⟩ = some vt := by rw [cell_of_row W tb 0 _ _ _ h.box]; rfl
theorem TS.fz (h : TS zs vz w tb vt gl cl T F W) : W.frozen? ⟨tb, 0, none⟩ = false := frozen_of_row W tb 0 _ _ h.box
theorem TS.gl_lt (h : TS zs vz w tb vt gl cl T F W) : gl < W.heap.size := (h.lst.lt gl rfl).2
theorem TS.below (h : TS zs vz w tb vt gl cl T F W) (hb : Below W.heap.size W W') : TS zs vz w tb vt gl cl T F W' :=
  ⟨h.src.below hb h.src.1.lt (Nat.le_refl _), h.blw.trans (hb.mono h.blw.size), (hb.block tb h.lt).trans h.box, h.tbl, h.own.below hb (Nat.le_refl _), h.bal, h.sm, owns_below h.lst hb (Nat.le_refl _), h.cap⟩
theorem TS.chg (h : TS zs vz w tb vt gl cl T F W) (hs : SrcB zs vz w.heap.size W') (hc : Chg [w.heap.size] W W') : TS zs vz w tb vt gl cl T F W' :=
  ⟨hs, h.blw.trans (hc.below (B := w.heap.size) h.blw.size (by simp)), (hc.block tb h.lt (by have := h.tbl; simp; omega)).trans h.box, h.tbl, owns_chg h.own hc (by omega), h.bal, h.sm, owns_chg h.lst hc (by omega), h.cap⟩
theorem TS.tree (h : TS zs vz w tb vt gl cl T F W) {v' : Value} {T' : AT} (ho : OwI W (w.heap.size + 1) v' (T'.told 0)) (hb : T'.bal) (hs : ∀ q ∈ T'.flat, Sm q) : TS zs vz w tb v' gl cl T' F (W.setCell ⟨tb, 0, none⟩ v') :=
  ⟨h.src.below (B := tb) ((Below.refl tb W).setCell (p := ⟨tb, 0, none⟩) (Nat.le_refl _) v') h.tbl (Nat.le_of_lt h.lt), h.blw.setCell (p := ⟨tb, 0, none⟩) (Nat.le_of_lt h.tbl) v', heap_setCell_same W tb 0 _ _ _ h.box, h.tbl,
    owns_of_block ho (fun q hq => heap_setCell_other W ⟨tb, 0, none⟩ q v' (fun e => own_off2 ho h.box (by decide) (by rw [hq]; exact congrArg some e.symm))), hb, hs,
    owns_of_block h.lst (fun q hq => heap_setCell_other W ⟨tb, 0, none⟩ q v' (fun e => own_off2 h.lst h.box (by decide) (by rw [hq]; exact congrArg some e.symm))), h.cap⟩
theorem TS.list (h : TS zs vz w tb vt gl cl T F W) {g' c' : Nat} {F' : List Pc} (ho : OwP W (w.heap.size + 1) (.slice (some ⟨g', 0, none⟩) F'.length c') F') (hc : F'.length ≤ c' ∧ c' ≤ maxLen) : TS zs vz w tb vt g' c' T F' W :=
  ⟨h.src, h.blw, h.box, h.tbl, h.own, h.bal, h.sm, ho, hc⟩
end

theorem OwP.cells {W : World} {base g cap : Nat} {F : List Pc} (h : OwP W base (.slice (some ⟨g, 0, none⟩) F.length cap) F) : ∀ j u, (pcCs F)[j]? = some u → W.cell? ⟨g, j, none⟩ = some u := by
  intro j u hj
  have h1 := h.cellAt j (by have := (List.getElem?_eq_some_iff.1 hj).1; rw [pcCs_length] at this; omega)
  rw [h1, hj]
theorem OwP.shape {W : World} {base : Nat} {v : Value} {F : List Pc} (h : OwP W base v F) : (v = .slice none 0 0 ∧ F = []) ∨ ∃ g cap, v = .slice (some ⟨g, 0, none⟩) F.length cap ∧ F.length ≤ cap ∧ cap ≤ maxLen := by
  rcases h.2 with ⟨h1, h2⟩ | ⟨g, cap, cur, h1, h2, h3, h4, h5, _⟩
  · exact .inl ⟨h1, List.eq_nil_of_length_eq_zero h2⟩
  · exact .inr ⟨g, cap, h1, h4, h5⟩
theorem lst_take {W : World} {base g cap : Nat} {F : List Pc} (h : OwP W base (.slice (some ⟨g, 0, none⟩) F.length cap) F) (k : Nat) : ∀ j u, (pcCs (F.take k))[j]? = some u → W.cell? ((⟨g, 0, none⟩ : Addr).add j) = some u := by
  intro j u hj
  rw [Addr.add_lit, Nat.zero_add]
  refine h.cells j u ?_
  rw [← List.take_append_drop k F, pcCs_append, List.getElem?_append_left (List.getElem?_eq_some_iff.1 hj).1]
  exact hj
theorem lst_drop {W : World} {base g cap : Nat} {F : List Pc} (h : OwP W base (.slice (some ⟨g, 0, none⟩) F.length cap) F) (k : Nat) (hk : k ≤ F.length) : ∀ j u, (pcCs (F.drop k))[j]? = some u → W.cell? ((⟨g, k * 3, none⟩ : Addr).add j) = some u := by
  intro j u hj
  rw [Addr.add_lit]
  refine h.cells (k * 3 + j) u ?_
  have hl : (pcCs (F.take k)).length = k * 3 := by rw [pcCs_length, List.length_take]; congr 1; omega
  rw [← List.take_append_drop k F, pcCs_append, List.getElem?_append_right (by omega), hl, Nat.add_sub_cancel_left]
  exact hj
theorem pcCs_one (F : List Pc) : ∀ u ∈ pcCs F, u.oneCell' = true := by
  intro u hu
  simp only [pcCs, pcC, List.mem_flatMap, List.mem_cons, List.not_mem_nil, or_false] at hu
  obtain ⟨x, _, h | h | h⟩ := hu <;> subst h <;> rfl
theorem own_emptyP (W : World) : OwP (W.alloc (.cells #[] 52)) W.heap.size (.slice (some ⟨W.heap.size, 0, none⟩) 0 0) [] :=
  ⟨rfl, .inr ⟨_, 0, #[], rfl, Nat.le_refl _, heap_alloc_new _ _, Nat.le_refl _, by unfold maxLen; omega, rfl, rfl⟩⟩
theorem ownP_app {W : World} {base : Nat} {v : Value} {E F : List Pc} {n m : Nat} (hn : E.length = n) (hm : F.length = m) (h : W.ownsRow base 52 3 v (n + m) (pcCs E ++ pcCs F)) : OwP W base v (E ++ F) := by
  subst hn hm; unfold OwP; rw [List.length_append, pcCs_append]; exact h

set_option maxHeartbeats 400000 in
theorem sizeT (n : Nat) (ao : Option Addr) (cap : Nat) (m : Int) (w : World) (hn : n ≤ 1048576) (hm : 2 ≤ m ∧ m ≤ 1048576) :
    Calls Tryd.prog 76 #[.slice ao n cap, .int .i64 m] w fun e w' => ∃ r : Int, e = .returned (.int .i64 r) ∧ (0 < r ∧ r ≤ m) ∧ w' = w := by
  go_enter Tryd.func76, Tryd.ntmps76
  go_wp2
  · go_ret
    exact ⟨_, rfl, ⟨by omega, by omega⟩, rfl⟩
  · go_ret
    exact ⟨_, rfl, ⟨by omega, by omega⟩, rfl⟩
set_option maxHeartbeats 400000 in
theorem sizeT2 (n : Nat) (ao : Option Addr) (cap : Nat) (m : Int) (w : World) (hn : n ≤ 1048576) (hm : 2 ≤ m ∧ m ≤ 1048576) :
    Calls Tryd.prog 33 #[.slice ao n cap, .int .i64 m] w fun e w' => ∃ r : Int, e = .returned (.int .i64 r) ∧ (0 < r ∧ r ≤ m) ∧ w' = w := by
  go_enter Tryd.func33, Tryd.ntmps33
  go_wp2_with fail
  refine (sizeT n ao cap m w hn hm).mono ?_
  rintro e w1 ⟨r, rfl, hr, rfl⟩
  go_wp2
  go_ret
  exact ⟨_, rfl, hr, rfl⟩

end Go.Proofs.YtdjdkgidihhkfadDoor
