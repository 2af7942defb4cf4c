import Derived.Test.YtbgngikejgihgaeGreatDoorImLay
import Derived.Test.YtbgngikejgihgaeGreatDoorImC
import Derived.Test.YtbgngikejgihgaeGreatDoorSame
import Derived.Shelf.Strings.Split
import Derived.Shelf.Strings.Prefix
import Derived.Shelf.Strconv.AtoiAll
import Derived.Shelf.Strconv.Itoa3
import Derived.Lib.AppendIntMem
namespace Go.Proofs.YtbgngikejgihgaeGreatDoor
open Go Go.RowKit Go.Sort
set_option linter.unusedVariables false

/-- What the world's variables hold. -/
structure GS (w : World) : Prop where
  tab : Lib.TabIs Tryz.prog w "internal/strconv.uint64pow10" .u64 Lib.pow10Tab
  es : ∃ ev, w.cell? ⟨5, 0, none⟩ = some ev ∧ (ev = .nilIface ∨ ∃ te pe, ev = .iface te pe)
  er : ∃ ev, w.cell? ⟨6, 0, none⟩ = some ev ∧ (ev = .nilIface ∨ ∃ te pe, ev = .iface te pe)
  ml : ∃ m, w.cell? ⟨2, 0, none⟩ = some (.int .i64 m)
  eh : w.cell? ⟨1, 0, none⟩ = some (.iface 111 (.agg #[.pointer (some ⟨10, 40, none⟩)]))
theorem cell_below0 {w w' : World} (hb : Below w.heap.size w w') {p : Addr} {v : Value} (h : w.cell? p = some v) : w'.cell? p = some v := (hb.cell (World.block_lt_of_cell? w p h)).trans h
theorem GS.below {w w' : World} (h : GS w) (hb : Below w.heap.size w w') : GS w' := by
  obtain ⟨a, ha, ha2⟩ := h.es
  obtain ⟨b, hb', hb2⟩ := h.er
  obtain ⟨m, hm⟩ := h.ml
  exact ⟨Lib.tabBelow_of_tabIs h.tab w' hb, ⟨a, cell_below0 hb ha, ha2⟩, ⟨b, cell_below0 hb hb', hb2⟩, ⟨m, cell_below0 hb hm⟩, cell_below0 hb h.eh⟩

theorem below_growI {w : World} (k : Nat) (os : Array Obj) : Below w.heap.size w (grow (w.drewN k) os) := by
  refine ⟨rfl, rfl, rfl, by show w.heap.size ≤ (w.heap ++ os).size; simp, fun q hq => ?_⟩
  show (w.heap ++ os)[q]? = w.heap[q]?
  rw [Array.getElem?_append_left hq]

theorem atoiW (s : ByteArray) (hs : s.size ≤ 16384) (w : World) (hG : GS w) :
    Calls Tryz.prog 50 #[.string s] w fun e w' => ((∃ v, Lib.atoiAll s.data.toList = .ok v ∧ e = .returned (.tuple #[.int .i64 v, .nilIface])) ∨ ((∀ v, Lib.atoiAll s.data.toList ≠ .ok v) ∧ ∃ k t p, e = .returned (.tuple #[.int .i64 k, .iface t p]))) ∧ Below w.heap.size w w' := by
  cases h : Lib.atoiAll s.data.toList with
  | ok v =>
    refine Calls.mono (show Calls Tryz.prog 50 #[.string s] w _ from Any.strconv_Atoi_ok Tryz.atLays s (by omega) v h w) ?_
    rintro e w' ⟨rfl, hw⟩
    refine ⟨.inl ⟨v, rfl, rfl⟩, ?_⟩
    rcases hw with rfl | ⟨t, rfl⟩
    · exact Below.refl _ _
    · exact Lib.bytesWorld_below _ _ _
  | «syntax» =>
    obtain ⟨ev, h1, h2⟩ := hG.es
    refine Calls.mono (show Calls Tryz.prog 50 #[.string s] w _ from Any.strconv_Atoi_syntax Tryz.atLays s (by omega) h ev w h1 h2) ?_
    rintro e w' ⟨N, rfl, _, _, hb⟩
    exact ⟨.inr ⟨(fun v hv => by cases hv), _, _, _, rfl⟩, hb⟩
  | range =>
    obtain ⟨ev, h1, h2⟩ := hG.er
    refine Calls.mono (show Calls Tryz.prog 50 #[.string s] w _ from Any.strconv_Atoi_range Tryz.atLays s (by omega) h ev w h1 h2) ?_
    rintro e w' ⟨N, rfl, _, _, hb⟩
    exact ⟨.inr ⟨(fun v hv => by cases hv), _, _, _, rfl⟩, hb⟩
theorem itoaW (n : Int) (h0 : -9223372036854775808 ≤ n) (h1 : n ≤ 9223372036854775807) (w : World) (hG : GS w) :
    Calls Tryz.prog 51 #[.int .i64 n] w fun e w' => e = .returned (.string ⟨(Lib.itoa n).toArray⟩) ∧ Below w.heap.size w w' := by
  refine Calls.mono (show Calls Tryz.prog 51 #[.int .i64 n] w _ from Any.strconv_Itoa Tryz.itLays n h0 h1 w hG.tab) ?_
  rintro e w' ⟨rfl, k, os, rfl⟩
  exact ⟨rfl, below_growI k os⟩
theorem trimW (s p : ByteArray) (w : World) :
    Calls Tryz.prog 52 #[.string s, .string p] w fun e w' => e = .returned (.string ⟨(Lib.trimPrefix s.data.toList p.data.toList).toArray⟩) ∧ w' = w :=
  Any.strings_TrimPrefix Tryz.tpLays s p w
theorem splitW (s : ByteArray) (hs : s.size ≤ 20000) (c : UInt8) (w : World) (hG : GS w) :
    Calls Tryz.prog 24 #[.string s, .string ⟨#[c]⟩] w fun e w' => ∃ ws : List ByteArray, ws.map (·.data.toList) = cutU c s.data.toList ∧ e = .returned (.slice (some ⟨w.heap.size, 0, none⟩) ws.length ws.length) ∧ w' = w.alloc (.cells (ws.map Value.string).toArray 9) := by
  obtain ⟨m, hm⟩ := hG.ml
  have h1 : 1 ≤ (⟨#[c]⟩ : ByteArray).size := Nat.le_refl _
  refine Calls.mono (show Calls Tryz.prog 24 #[.string s, .string ⟨#[c]⟩] w _ from Any.strings_Split { Tryz.spLays with } Tryz.spLays.i9 s ⟨#[c]⟩ m w (by omega) hm h1) ?_
  rintro e w' ⟨rfl, rfl⟩
  have e1 : (Lib.splitB ⟨#[c]⟩ 0 (Lib.countB s ⟨#[c]⟩) s).length = Lib.countB s ⟨#[c]⟩ + 1 := Lib.splitB_all _ h1 0 _ s rfl
  refine ⟨Lib.splitB ⟨#[c]⟩ 0 (Lib.countB s ⟨#[c]⟩) s, ?_, by rw [e1], rfl⟩
  rw [Lib.splitB_data]
  exact split_one c _ _ (Nat.le_refl _)
end Go.Proofs.YtbgngikejgihgaeGreatDoor
