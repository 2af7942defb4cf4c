import Derived.Test.YtbgngikejgihgagGreatDoorMq19
import Derived.Test.YtbgngikejgihgagGreatDoorMq21
namespace Go.Proofs.YtbgngikejgihgagGreatDoor
open Go Go.RowKit
set_option linter.unusedVariables false

theorem delG_len {x : Gr} {a b : Nat} (hk : gkP x.cells x.lo x.hi) (hab : a ≤ b) (hb : b ≤ (grT x).length) : (delG x a b).cells.length = x.cells.length := by
  obtain ⟨hv, el, eh⟩ := gkP_GV hk
  have hgt : (grT x).length = x.cells.length - (x.hi.toNat - x.lo.toNat) := gtext_length hv.a hv.b
  have h1 := hv.a; have h2 := hv.b
  exact glay_length (by simp only [List.length_append, List.length_take, List.length_drop]; omega) (by simp only [List.length_append, List.length_take, List.length_drop]; omega)
theorem insG_len {x : Gr} {p : Nat} {ts : List Int} (hk : gkP x.cells x.lo x.hi) (hp : p ≤ (grT x).length) (hr : (grT x).length + ts.length ≤ 8192) : (insG x p ts).cells.length = cellsN x.cells x.lo.toNat x.hi.toNat ts.length ∧ cellsN x.cells x.lo.toNat x.hi.toNat ts.length ≤ 65536 := by
  obtain ⟨hv, el, eh⟩ := gkP_GV hk
  have bd := cellsN_bd hv (n := ts.length) hr
  have hg : (gtext x.cells x.lo.toNat x.hi.toNat).length = (grT x).length := rfl
  rw [hg] at bd
  exact ⟨glay_length (by simp only [List.length_append, List.length_take, List.length_drop]; omega) (by simp only [List.length_append, List.length_take, List.length_drop]; omega), bd.2⟩
/-- The specification's deletion in a row. -/
theorem delGS (x : Gr) (lo : Nat) (u : Value) (a b : Nat) (w : World) (h : o32 w lo u x.cells) (hk : gkP x.cells x.lo x.hi) (hab : a ≤ b) (hb : b ≤ (grT x).length) :
    Calls Tryz.prog 105 #[.agg #[u, .int .i64 x.lo, .int .i64 x.hi], .int .i64 a, .int .i64 b] w fun e w' => ∃ ao cap, e = .returned (.agg #[.slice ao (delG x a b).cells.length cap, .int .i64 (delG x a b).lo, .int .i64 (delG x a b).hi]) ∧ o32 w' w.heap.size (.slice ao (delG x a b).cells.length cap) (delG x a b).cells ∧ Below w.heap.size w w' := by
  obtain ⟨hv, el, eh⟩ := gkP_GV hk
  have hgt : (grT x).length = x.cells.length - (x.hi.toNat - x.lo.toNat) := gtext_length hv.a hv.b
  have h1 := hv.a; have h2 := hv.b
  have q := l3DeleteN x.cells u x.lo.toNat x.hi.toNat a b w (Gs.of_owns h) hv hab (by omega)
  rw [← el, ← eh] at q
  rw [delG_len hk hab hb]
  refine q.mono ?_
  rintro e w' ⟨ao, cap, he, ho, hb'⟩
  refine ⟨ao, cap, he, ?_, hb'⟩
  unfold o32
  rw [delG_len hk hab hb]
  exact ho
/-- The specification's insertion in a row. -/
theorem insGS (x : Gr) (lo : Nat) (u : Value) (p : Nat) (ts : List Int) (ap : Option Addr) (mt cp : Nat) (w : World) (h : o32 w lo u x.cells) (hk : gkP x.cells x.lo x.hi) (hmt : mt = ts.length) (hT : Sl .i32 w (.slice ap mt cp) ts) (hp : p ≤ (grT x).length) (hr : (grT x).length + ts.length ≤ 8192) :
    Calls Tryz.prog 106 #[.agg #[u, .int .i64 x.lo, .int .i64 x.hi], .int .i64 p, .slice ap mt cp] w fun e w' => ∃ ao cap, e = .returned (.agg #[.slice ao (insG x p ts).cells.length cap, .int .i64 (insG x p ts).lo, .int .i64 (insG x p ts).hi]) ∧ o32 w' w.heap.size (.slice ao (insG x p ts).cells.length cap) (insG x p ts).cells ∧ Below w.heap.size w w' := by
  obtain ⟨hv, el, eh⟩ := gkP_GV hk
  have hgt : (grT x).length = x.cells.length - (x.hi.toNat - x.lo.toNat) := gtext_length hv.a hv.b
  have h1 := hv.a; have h2 := hv.b
  subst hmt
  have q := l3InsertN x.cells ts u x.lo.toNat x.hi.toNat p ap ts.length cp w (Gs.of_owns h) hv rfl hT (by omega) (by omega)
  rw [← el, ← eh] at q
  rw [(insG_len hk hp hr).1]
  refine q.mono ?_
  rintro e w' ⟨ao, cap, he, ho, hb'⟩
  refine ⟨ao, cap, he, ?_, hb'⟩
  unfold o32
  rw [(insG_len hk hp hr).1]
  exact ho
/-- The specification's text of a row. -/
theorem textGS (x : Gr) (lo : Nat) (u : Value) (w : World) (h : o32 w lo u x.cells) (hk : gkP x.cells x.lo x.hi) :
    Calls Tryz.prog 96 #[.agg #[u, .int .i64 x.lo, .int .i64 x.hi]] w fun e w' => ∃ g cap, e = .returned (.slice (some ⟨g, 0, none⟩) (grT x).length cap) ∧ w'.ownsRow w.heap.size 21 1 (.slice (some ⟨g, 0, none⟩) (grT x).length cap) (grT x).length (ints .i32 (grT x)) ∧ ((grT x).length ≤ cap ∧ cap ≤ maxLen) ∧ Below w.heap.size w w' := by
  obtain ⟨hv, el, eh⟩ := gkP_GV hk
  have q := l3TextN x.cells u x.lo.toNat x.hi.toNat w (Gs.of_owns h) hv
  rw [← el, ← eh] at q
  refine q.mono ?_
  rintro e w' ⟨v', he, hn, ho, hb⟩
  obtain ⟨g, cap, e2, _, _, c1, c2, _⟩ := owns_some ho hn
  exact ⟨g, cap, by rw [he, e2]; rfl, by rw [e2] at ho; exact ho, ⟨c1, c2⟩, hb⟩
end Go.Proofs.YtbgngikejgihgagGreatDoor
