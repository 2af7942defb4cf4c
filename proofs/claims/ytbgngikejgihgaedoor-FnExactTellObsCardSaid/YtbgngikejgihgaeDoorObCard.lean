import Derived.Test.YtbgngikejgihgaeDoorRows
import Derived.Test.YtbgngikejgihgaeDoorCards
import Derived.Test.YtbgngikejgihgaeDoorTie
import Derived.Test.YtbgngikejgihgaeDoorObLaw
import Derived.Deep.Slices
import Derived.ChangeSlices
import Derived.WalkKit
import Derived.ProofKit
import Derived.OpenShut
import Derived.ChangeOld
import Derived.Below
import Derived.Lib.SmallJoins
import Derived.ChangeSame
import Derived.ChangeVars
import Derived.JoinedOf
import Derived.RowKit
import Derived.RowKitTokens
import Derived.LaidLaws
import Derived.LaidHandle
import Derived.Stop.Joined
import Derived.SevenTiedAt
import Derived.WalkSmall
import Derived.Stop.LaidErr
import Derived.Lib.LaidTab
namespace Go.Proofs.YtbgngikejgihgaeDoor
open Go Go.RowKit Go.ChangeShapes Go.WideShapes Go.ChangeAt Go.Joins
abbrev TabIs (w : World) : Prop := Lib.TabIs Tryd.prog w "internal/strconv.uint64pow10" .u64 Lib.pow10Tab
set_option linter.unusedVariables false

theorem own : ownKnob Tryd.prog.godebug = none := by kernel_rfl
theorem laidOut : laidOutB Tryd.prog = true := by kernel_rfl
def t32 : List Int := [0, 1, 28, 2, 29, 14, 24, 3, 30, 22, 20, 15, 25, 17, 4, 8, 31, 27, 13, 23, 21, 19, 16, 7, 26, 12, 18, 6, 11, 5, 10, 9]
def t64 : List Int := [0, 1, 56, 2, 57, 49, 28, 3, 61, 58, 42, 50, 38, 29, 17, 4, 62, 47, 59, 36, 45, 43, 51, 22, 53, 39, 33, 30, 24, 18, 12, 5, 63, 55, 48, 27, 60, 41, 37, 16, 46, 35, 44, 21, 52, 32, 23, 11, 54, 26, 40, 15, 34, 20, 31, 10, 25, 14, 19, 9, 13, 8, 7, 6]
theorem Tryd.gP : Tryd.prog.globalNamed "internal/strconv.uint64pow10" = some 1 := by kernel_rfl
theorem Tryd.gPt : (Tryd.prog.globals[(1 : Nat)]?).map (·.type) = some 221 := by kernel_rfl
theorem Tryd.g32 : Tryd.prog.globalNamed "math/bits.deBruijn32tab" = some 2 := by kernel_rfl
theorem Tryd.g32t : (Tryd.prog.globals[(2 : Nat)]?).map (·.type) = some 226 := by kernel_rfl
theorem Tryd.g64 : Tryd.prog.globalNamed "math/bits.deBruijn64tab" = some 3 := by kernel_rfl
theorem Tryd.g64t : (Tryd.prog.globals[(3 : Nat)]?).map (·.type) = some 227 := by kernel_rfl
theorem Tryd.cellsP : Tryd.prog.cellsOf 221 = 20 := by kernel_rfl
theorem Tryd.cells32 : Tryd.prog.cellsOf 226 = 32 := by kernel_rfl
theorem Tryd.cells64 : Tryd.prog.cellsOf 227 = 64 := by kernel_rfl
theorem Tryd.cellsU : Tryd.prog.cellsOf 134 = 1 := by kernel_rfl
theorem Tryd.cellsB : Tryd.prog.cellsOf 5 = 1 := by kernel_rfl

/-- The three tables. -/
theorem tabs_of_laid {W : World} (h : laidMetH Tryd.prog Rows.fnExactTellObsRow.laid W) :
    Lib.TabIs Tryd.prog W "math/bits.deBruijn32tab" .u8 t32 ∧ Lib.TabIs Tryd.prog W "math/bits.deBruijn64tab" .u8 t64 ∧ Lib.TabIs Tryd.prog W "internal/strconv.uint64pow10" .u64 Lib.pow10Tab := by
  have h1 : laidMet Tryd.prog (("math/bits.deBruijn32tab", Lib.tabData .u8 t32) :: ("math/bits.deBruijn64tab", Lib.tabData .u8 t64) :: ("internal/strconv.uint64pow10", Lib.tabData .u64 Lib.pow10Tab) :: []) W := h
  have h2 := h1.tail
  have h3 := h2.tail
  exact ⟨Lib.tabIs_of_head Tryd.g32 Tryd.g32t Tryd.underlying226 Tryd.underlying5 Tryd.cellsB Tryd.cells32 h1, Lib.tabIs_of_head Tryd.g64 Tryd.g64t Tryd.underlying227 Tryd.underlying5 Tryd.cellsB Tryd.cells64 h2,
    Lib.tabIs_of_head Tryd.gP Tryd.gPt Tryd.underlying221 Tryd.underlying134 Tryd.cellsU Tryd.cellsP h3⟩

def c32 : Array Value := (t32.map fun z => Value.int .u8 z).toArray
def c64 : Array Value := (t64.map fun z => Value.int .u8 z).toArray
def cP : Array Value := (Lib.pow10Tab.map fun z => Value.int .u64 z).toArray
/-- A world for the witness. -/
noncomputable def laidWorld (os : Os) : World :=
  let w0 := World.holding Tryd.prog os ⟨#[], #[], []⟩
  { w0 with heap := ((w0.heap.modify 1 fun
      | .cells _ t frozen => .cells cP t frozen
      | o => o).modify 2 fun
      | .cells _ t frozen => .cells c32 t frozen
      | o => o).modify 3 fun
      | .cells _ t frozen => .cells c64 t frozen
      | o => o }
theorem laidWorld_met (os : Os) (args : Array Value) : laidMetH Tryd.prog Rows.fnExactTellObsRow.laid ((laidWorld os).forCall (fun _ _ => 0) ⟨#[], args, []⟩).memory :=
  laidMet_of_run' 8 (by kernel_rfl) (by kernel_rfl)

theorem Tryd.cellsLM : Tryd.prog.cellsOf 178 = 3 := by kernel_rfl
theorem Tryd.cellsIn : Tryd.prog.cellsOf 3 = 1 := by kernel_rfl
theorem Tryd.cellsOL : Tryd.prog.cellsOf 86 = 10 := by kernel_rfl
theorem Tryd.cellsS32 : Tryd.prog.cellsOf 22 = 1 := by kernel_rfl
theorem Tryd.cellsSLM : Tryd.prog.cellsOf 84 = 1 := by kernel_rfl
theorem some_of_lt {α : Type} {xs : List α} {n i : Nat} (h : xs.length = n) (hi : i < n) : ∃ y, xs[i]? = some y := ⟨xs[i]'(by omega), by simp [h, hi]⟩
theorem len3 {α : Type} {cs : List α} (h : cs.length = 3) : ∃ a b c, cs = [a, b, c] := by
  match cs, h with
  | [a, b, c], _ => exact ⟨a, b, c, rfl⟩
theorem len10 {α : Type} {cs : List α} (h : cs.length = 10) : ∃ a b c d e f g h i j, cs = [a, b, c, d, e, f, g, h, i, j] := by
  match cs, h with
  | [a, b, c, d, e, f, g, h, i, j], _ => exact ⟨a, b, c, d, e, f, g, h, i, j, rfl⟩
theorem wf64 {n : Int} (h : (Lit.int .i64 n).wf = true) : I64 n := by
  simp only [Lit.wf, Bool.and_eq_true, decide_eq_true_eq, IntKind.min, IntKind.max, IntKind.signed, IntKind.bits] at h
  simp at h
  unfold I64; omega
theorem wf32 {n : Int} (h : (Lit.int .i32 n).wf = true) : I32 n := by
  simp only [Lit.wf, Bool.and_eq_true, decide_eq_true_eq, IntKind.min, IntKind.max, IntKind.signed, IntKind.bits] at h
  simp at h
  unfold I32; omega

section
variable {H : Type} {enc : TypeId × Value → H} {w : World}

theorem open_32 {n : Nat} {c : Value} {x : DataW H × List MemPlace} (h : DataW.trod enc Tryd.prog w 0 (fun _ => true) true n 22 [c] = some x) : ∃ zs, Rd .i32 w c zs ∧ zs.length ≤ maxLen ∧ ∀ z ∈ zs, I32 z := by
  rcases open_ints Tryd.underlying22 Tryd.underlying21 (by kernel_rfl) h with ⟨hcs, _⟩ | ⟨x, l, c', zs, hcs, _, hl, hmm, hz, _, hcell, hwz⟩
  · simp at hcs
    subst hcs
    exact ⟨[], .inl ⟨none, 0, rfl, rfl⟩, Nat.zero_le _, fun z hz => by cases hz⟩
  · simp at hcs
    subst hcs
    simp only [if_true] at hz
    exact ⟨zs.take l, Rd.of_row hcell (by omega) hl hmm, by rw [List.length_take]; omega, fun z hz => wf32 (hwz z (List.mem_of_mem_take hz))⟩
set_option maxRecDepth 100000 in
theorem mark_of {n : Nat} {cs : List Value} {x : DataW H × List MemPlace} (h : DataW.trod enc Tryd.prog w 0 (fun _ => true) true n 178 cs = some x) :
    ∃ p : Mk, cs = [.int .i64 p.1, .int .i64 p.2.1, .int .i64 p.2.2] ∧ I64 p.1 ∧ I64 p.2.1 := by
  obtain ⟨xs, k, rfl, _, hl, hxl, hf⟩ := DataW.trod_struct Tryd.underlying178 h
  rw [Tryd.cellsLM] at hl
  have g0 := hf 0 _ rfl
  have g1 := hf 1 _ rfl
  have g2 := hf 2 _ rfl
  obtain ⟨a, b, c, rfl⟩ := len3 hl
  have hxl3 : xs.length = 3 := hxl
  obtain ⟨y0, e0⟩ := some_of_lt hxl3 (show 0 < 3 by omega)
  obtain ⟨y1, e1⟩ := some_of_lt hxl3 (show 1 < 3 by omega)
  obtain ⟨y2, e2⟩ := some_of_lt hxl3 (show 2 < 3 by omega)
  rw [e0] at g0
  rw [e1] at g1
  rw [e2] at g2
  replace g0 : DataW.trod enc Tryd.prog w 0 (fun _ => true) true k 3 (([a, b, c].drop 0).take (Tryd.prog.cellsOf 3)) = some y0 := g0
  replace g1 : DataW.trod enc Tryd.prog w 0 (fun _ => true) true k 3 (([a, b, c].drop 1).take (Tryd.prog.cellsOf 3)) = some y1 := g1
  replace g2 : DataW.trod enc Tryd.prog w 0 (fun _ => true) true k 3 (([a, b, c].drop 2).take (Tryd.prog.cellsOf 3)) = some y2 := g2
  rw [Tryd.cellsIn] at g0 g1 g2
  obtain ⟨a', ea, _, wa⟩ := DataW.trod_int Tryd.underlying3 g0
  obtain ⟨b', eb, _, wb⟩ := DataW.trod_int Tryd.underlying3 g1
  obtain ⟨c', ec, _, _⟩ := DataW.trod_int Tryd.underlying3 g2
  simp at ea eb ec
  subst ea eb ec
  exact ⟨(a', b', c'), rfl, wf64 wa, wf64 wb⟩

/-- The marks that came in. -/
theorem open_marks {fuel : Nat} {c : Value} {x : DataW H × List MemPlace} (h : DataW.trod enc Tryd.prog w 0 (fun _ => true) true fuel 84 [c] = some x) :
    ∃ xs : List Mk, xs.length ≤ maxLen ∧ RdM w.heap.size w c xs ∧ ∀ y ∈ xs, I64 y.1 ∧ I64 y.2.1 := by
  rcases Go.Deep.open_slice Tryd.underlying84 h with ⟨hcs, _⟩ | ⟨a, len, cap, m, n, D, Pl, hcs, hb, hl, hm, hmm, _, hx⟩
  · simp at hcs; subst hcs
    exact ⟨[], Nat.zero_le _, .inl ⟨_, _, rfl, rfl⟩, fun y hy => by cases hy⟩
  · simp at hcs; subst hcs
    simp only [if_true] at hmm
    have each : ∀ i, i < m → ∃ y : Mk, w.cell? (a.add (i * 3)) = some (.int .i64 y.1) ∧ w.cell? (a.add (i * 3 + 1)) = some (.int .i64 y.2.1) ∧ w.cell? (a.add (i * 3 + 2)) = some (.int .i64 y.2.2) ∧ I64 y.1 ∧ I64 y.2.1 := by
      intro i hi
      obtain ⟨cs', h1, h2⟩ := hx i hi
      rw [Tryd.cellsLM] at h1
      obtain ⟨y, rfl, q1, q2⟩ := mark_of h2
      obtain ⟨_, _, hcell⟩ := World.cells?_some h1
      have k0 := hcell 0 (by omega)
      have k1 := hcell 1 (by omega)
      have k2 := hcell 2 (by omega)
      rw [Go.Deep.add_add] at k0 k1 k2
      exact ⟨y, by simpa using k0, by simpa using k1, by simpa using k2, q1, q2⟩
    obtain ⟨f, hf⟩ := Go.Deep.choose_lt each
    refine ⟨(List.range len).map f, by simp; omega, ?_, fun y hy => ?_⟩
    · by_cases h0 : len = 0
      · subst h0; exact .inl ⟨_, _, rfl, rfl⟩
      · have hc0 := (hf 0 (by omega)).1
        obtain ⟨b, off, spot⟩ := a
        have hspot : spot = none := by simpa [Addr.add] using World.cell?_spot hc0
        subst hspot
        refine .inr ⟨b, off, cap, by simp, ⟨by simp; omega, by simpa using hl, hm⟩, ?_, fun i y hy => ?_⟩
        · have := World.block_lt_of_cell? w _ hc0
          simpa [Addr.add] using this
        · have hil : i < len := by
            rcases Nat.lt_or_ge i len with q | q
            · exact q
            · rw [List.getElem?_eq_none (by simpa using q)] at hy; cases hy
          simp [hil] at hy
          subst hy
          obtain ⟨k0, k1, k2, _⟩ := hf i (by omega)
          rw [addr_add] at k0 k1 k2
          exact ⟨k0, k1, k2⟩
    · simp only [List.mem_map, List.mem_range] at hy
      obtain ⟨i, hi, rfl⟩ := hy
      exact (hf i (by omega)).2.2.2

set_option maxRecDepth 100000 in
theorem ob_of {n : Nat} {cs : List Value} {x : DataW H × List MemPlace} (h : DataW.trod enc Tryd.prog w 0 (fun _ => true) true n 86 cs = some x) :
    ∃ (o : Ob) (vt vm : Value), cs = obL o vt vm ∧ Rd .i32 w vt o.t ∧ RdM w.heap.size w vm o.m ∧ o.t.length ≤ maxLen ∧ o.m.length ≤ maxLen ∧ OkO o := by
  obtain ⟨xs, k, rfl, _, hl, hxl, hf⟩ := DataW.trod_struct Tryd.underlying86 h
  rw [Tryd.cellsOL] at hl
  have hxl3 : xs.length = 10 := hxl
  obtain ⟨c0, c1, c2, c3, c4, c5, c6, c7, c8, c9, rfl⟩ := len10 hl
  have g0 := hf 0 _ rfl
  obtain ⟨y0, e0⟩ := some_of_lt hxl3 (show 0 < 10 by omega)
  rw [e0] at g0
  replace g0 : DataW.trod enc Tryd.prog w 0 (fun _ => true) true k 3 (([c0, c1, c2, c3, c4, c5, c6, c7, c8, c9].drop 0).take (Tryd.prog.cellsOf 3)) = some y0 := g0
  rw [Tryd.cellsIn] at g0
  have g1 := hf 1 _ rfl
  obtain ⟨y1, e1⟩ := some_of_lt hxl3 (show 1 < 10 by omega)
  rw [e1] at g1
  replace g1 : DataW.trod enc Tryd.prog w 0 (fun _ => true) true k 3 (([c0, c1, c2, c3, c4, c5, c6, c7, c8, c9].drop 1).take (Tryd.prog.cellsOf 3)) = some y1 := g1
  rw [Tryd.cellsIn] at g1
  have g2 := hf 2 _ rfl
  obtain ⟨y2, e2⟩ := some_of_lt hxl3 (show 2 < 10 by omega)
  rw [e2] at g2
  replace g2 : DataW.trod enc Tryd.prog w 0 (fun _ => true) true k 3 (([c0, c1, c2, c3, c4, c5, c6, c7, c8, c9].drop 2).take (Tryd.prog.cellsOf 3)) = some y2 := g2
  rw [Tryd.cellsIn] at g2
  have g3 := hf 3 _ rfl
  obtain ⟨y3, e3⟩ := some_of_lt hxl3 (show 3 < 10 by omega)
  rw [e3] at g3
  replace g3 : DataW.trod enc Tryd.prog w 0 (fun _ => true) true k 22 (([c0, c1, c2, c3, c4, c5, c6, c7, c8, c9].drop 3).take (Tryd.prog.cellsOf 22)) = some y3 := g3
  rw [Tryd.cellsS32] at g3
  have g4 := hf 4 _ rfl
  obtain ⟨y4, e4⟩ := some_of_lt hxl3 (show 4 < 10 by omega)
  rw [e4] at g4
  replace g4 : DataW.trod enc Tryd.prog w 0 (fun _ => true) true k 84 (([c0, c1, c2, c3, c4, c5, c6, c7, c8, c9].drop 4).take (Tryd.prog.cellsOf 84)) = some y4 := g4
  rw [Tryd.cellsSLM] at g4
  have g5 := hf 5 _ rfl
  obtain ⟨y5, e5⟩ := some_of_lt hxl3 (show 5 < 10 by omega)
  rw [e5] at g5
  replace g5 : DataW.trod enc Tryd.prog w 0 (fun _ => true) true k 3 (([c0, c1, c2, c3, c4, c5, c6, c7, c8, c9].drop 5).take (Tryd.prog.cellsOf 3)) = some y5 := g5
  rw [Tryd.cellsIn] at g5
  have g6 := hf 6 _ rfl
  obtain ⟨y6, e6⟩ := some_of_lt hxl3 (show 6 < 10 by omega)
  rw [e6] at g6
  replace g6 : DataW.trod enc Tryd.prog w 0 (fun _ => true) true k 3 (([c0, c1, c2, c3, c4, c5, c6, c7, c8, c9].drop 6).take (Tryd.prog.cellsOf 3)) = some y6 := g6
  rw [Tryd.cellsIn] at g6
  have g7 := hf 7 _ rfl
  obtain ⟨y7, e7⟩ := some_of_lt hxl3 (show 7 < 10 by omega)
  rw [e7] at g7
  replace g7 : DataW.trod enc Tryd.prog w 0 (fun _ => true) true k 3 (([c0, c1, c2, c3, c4, c5, c6, c7, c8, c9].drop 7).take (Tryd.prog.cellsOf 3)) = some y7 := g7
  rw [Tryd.cellsIn] at g7
  have g8 := hf 8 _ rfl
  obtain ⟨y8, e8⟩ := some_of_lt hxl3 (show 8 < 10 by omega)
  rw [e8] at g8
  replace g8 : DataW.trod enc Tryd.prog w 0 (fun _ => true) true k 3 (([c0, c1, c2, c3, c4, c5, c6, c7, c8, c9].drop 8).take (Tryd.prog.cellsOf 3)) = some y8 := g8
  rw [Tryd.cellsIn] at g8
  have g9 := hf 9 _ rfl
  obtain ⟨y9, e9⟩ := some_of_lt hxl3 (show 9 < 10 by omega)
  rw [e9] at g9
  replace g9 : DataW.trod enc Tryd.prog w 0 (fun _ => true) true k 3 (([c0, c1, c2, c3, c4, c5, c6, c7, c8, c9].drop 9).take (Tryd.prog.cellsOf 3)) = some y9 := g9
  rw [Tryd.cellsIn] at g9
  obtain ⟨n0, q0, _, w0⟩ := DataW.trod_int Tryd.underlying3 g0
  simp at q0
  subst q0
  obtain ⟨n1, q1, _, w1⟩ := DataW.trod_int Tryd.underlying3 g1
  simp at q1
  subst q1
  obtain ⟨n2, q2, _, w2⟩ := DataW.trod_int Tryd.underlying3 g2
  simp at q2
  subst q2
  obtain ⟨n5, q5, _, w5⟩ := DataW.trod_int Tryd.underlying3 g5
  simp at q5
  subst q5
  obtain ⟨n6, q6, _, w6⟩ := DataW.trod_int Tryd.underlying3 g6
  simp at q6
  subst q6
  obtain ⟨n7, q7, _, w7⟩ := DataW.trod_int Tryd.underlying3 g7
  simp at q7
  subst q7
  obtain ⟨n8, q8, _, w8⟩ := DataW.trod_int Tryd.underlying3 g8
  simp at q8
  subst q8
  obtain ⟨n9, q9, _, w9⟩ := DataW.trod_int Tryd.underlying3 g9
  simp at q9
  subst q9
  obtain ⟨zs, hr, hz, hi⟩ := open_32 (c := c3) (by simpa using g3)
  obtain ⟨ms, hml, hrm, hmi⟩ := open_marks (c := c4) (by simpa using g4)
  refine ⟨⟨n0, n1, n2, zs, ms, n5, n6, n7, n8, n9⟩, c3, c4, rfl, hr, hrm, hz, hml, fun z hz => ?_, hi, hmi⟩
  simp only [Ob.nums, List.mem_cons, List.not_mem_nil, or_false] at hz
  rcases hz with rfl | rfl | rfl | rfl | rfl | rfl | rfl | rfl
  · exact wf64 w0
  · exact wf64 w1
  · exact wf64 w2
  · exact wf64 w5
  · exact wf64 w6
  · exact wf64 w7
  · exact wf64 w8
  · exact wf64 w9

/-- The observations that came in. -/
theorem open_obs {fuel : Nat} {c : Value} {x : DataW H × List MemPlace} (h : DataW.trod enc Tryd.prog w 0 (fun _ => true) true fuel 42 [c] = some x) :
    ∃ xs : List Ob, xs.length ≤ maxLen ∧ RdO w c xs ∧ ∀ o ∈ xs, OkO o := by
  rcases Go.Deep.open_slice Tryd.underlying42 h with ⟨hcs, _⟩ | ⟨a, len, cap, m, n, D, Pl, hcs, hb, hl, hm, hmm, _, hx⟩
  · simp at hcs; subst hcs
    exact ⟨[], Nat.zero_le _, .inl ⟨_, _, rfl, rfl⟩, fun y hy => by cases hy⟩
  · simp at hcs; subst hcs
    simp only [if_true] at hmm
    have each : ∀ i, i < m → ∃ y : Ob, ∃ vt vm, (∀ k, k < 10 → w.cell? (a.add (i * 10 + k)) = (obL y vt vm)[k]?) ∧ Rd .i32 w vt y.t ∧ RdM w.heap.size w vm y.m ∧ y.t.length ≤ maxLen ∧ y.m.length ≤ maxLen ∧ OkO y := by
      intro i hi
      obtain ⟨cs', h1, h2⟩ := hx i hi
      rw [Tryd.cellsOL] at h1
      obtain ⟨y, vt, vm, rfl, q1, q2, q3, q4, q5⟩ := ob_of h2
      obtain ⟨_, _, hcell⟩ := World.cells?_some h1
      refine ⟨y, vt, vm, fun k hk => ?_, q1, q2, q3, q4, q5⟩
      have k0 := hcell k (by omega)
      rw [Go.Deep.add_add] at k0
      rw [k0]
    have _i : Inhabited Ob := ⟨zOb⟩
    obtain ⟨f, hf⟩ := Go.Deep.choose_lt each
    refine ⟨(List.range len).map f, by simp; omega, ?_, fun y hy => ?_⟩
    · by_cases h0 : len = 0
      · subst h0; exact .inl ⟨_, _, rfl, rfl⟩
      · obtain ⟨vt0, vm0, hc0, _⟩ := hf 0 (by omega)
        have hc00 : w.cell? (a.add (0 * 10 + 0)) = some (.int .i64 (f 0).c) := hc0 0 (by omega)
        obtain ⟨b, off, spot⟩ := a
        have hspot : spot = none := by simpa [Addr.add] using World.cell?_spot hc00
        subst hspot
        refine .inr ⟨b, off, cap, by simp, ⟨by simp; omega, by simpa using hl, hm⟩, fun i y hy => ?_⟩
        have hil : i < len := by
          rcases Nat.lt_or_ge i len with q | q
          · exact q
          · rw [List.getElem?_eq_none (by simpa using q)] at hy; cases hy
        simp [hil] at hy
        subst hy
        obtain ⟨vt, vm, k0, q1, q2, q3, q4, _⟩ := hf i (by omega)
        refine ⟨vt, vm, fun k hk => ?_, q1, q2, q3, q4⟩
        have h9 := k0 k hk
        rw [addr_add] at h9
        rw [← h9, Nat.add_assoc]
    · simp only [List.mem_map, List.mem_range] at hy
      obtain ⟨i, hi, rfl⟩ := hy
      obtain ⟨vt, vm, _, _, _, _, _, q⟩ := hf i (by omega)
      exact q
end

set_option maxRecDepth 100000 in
theorem open_obsArg {H : Type} {enc : TypeId × Value → H} {W : World} {r : Reach} {b0 : Nat} {v : Value} {d : DataW H} {p : List MemPlace} (hv : Value.okWide Tryd.prog W r b0 42 v) (h : DataW.Trod enc Tryd.prog W 0 (fun _ => true) true 42 v d p) :
    ∃ xs : List Ob, xs.length ≤ maxLen ∧ RdO W v xs ∧ ∀ o ∈ xs, OkO o := by
  obtain ⟨fuel, hf⟩ := h
  obtain ⟨a0, l0, c0, rfl⟩ := okWide_slice Tryd.underlying42 hv
  have hc : (Value.slice a0 l0 c0).cells.toList = [Value.slice a0 l0 c0] := rfl
  rw [hc] at hf
  exact open_obs hf

theorem walk (v : Value) (xs : List Ob) (w : World) (hm : xs.length ≤ maxLen) (h : RdO w v xs) (hok : ∀ o ∈ xs, OkO o) (ht : TabIs w) :
    Calls Tryd.prog 5 #[v] w fun e w' => e = .returned (.bool true) ∧ Below w.heap.size w w' := by
  by_cases hn : 1048576 < szOs xs
  · exact lawLong xs v w h hm hn
  · exact law xs v w h hok (by omega) (Lib.tabBelow_of_tabIs ht)

set_option maxHeartbeats 1000000 in
set_option maxRecDepth 100000 in
theorem lifted (os : Os) (started : os.Started) (H : Type) (enc : TypeId × Value → H) :
    ReturnsInHanded {} Tryd.checked os 5 .any (fun w args => (Rows.fnExactTellObsSpec.pre enc Tryd.prog Tryd.f5 [] false w args ∧ laidMetH Tryd.prog Rows.fnExactTellObsRow.laid w) ∧ sizedMet enc Tryd.prog Tryd.f5 (OpenSpec.ofChange Rows.fnExactTellObsSpec) false w args)
      (Rows.fnExactTellObsSpec.post enc Tryd.prog Tryd.f5 false true false false) := by
  refine returnsInHanded_of_change_and (C := Tryd.checked) (X := fun w _ => laidMetH Tryd.prog Rows.fnExactTellObsRow.laid w) (fun _ _ _ hh h => h.of_heap hh) own started (by kernel_rfl) Tryd.func5
    (ChangeSpec.witness_at (enc := enc) (C := Tryd.checked) (os := os) (X := fun w _ => laidMetH Tryd.prog Rows.fnExactTellObsRow.laid w) false (laidWorld os) #[.slice none 0 0] 8 rfl (by kernel_rfl) (by kernel_rfl) (by kernel_rfl) (by kernel_rfl) (by kernel_rfl) (laidWorld_met os _)) ?_
  intro W base args ds gs before hval0 hW _ _ hL _
  have hval : ∀ (j : Nat) t v, Tryd.f5.params[j]? = some t → args[j]? = some v → Value.okWide Tryd.prog W .any base t v := hval0
  have hW' := hW
  obtain ⟨p, q, hA0, hV0, rfl, hfz, hnd⟩ := hW
  have hA : DataW.TrodAll enc Tryd.prog W 0 (fun _ => true) true Tryd.f5.params.toList args.toList ds p := hA0
  have hV : DataW.TrodVars enc Tryd.prog W (fun _ => true) [] gs q := hV0
  rw [Tryd.params5] at hA hval
  obtain ⟨v0, vs0, d0, ds0, p0, q0, hargs, rfl, rfl, h0, r0⟩ := trodAll_cons hA
  obtain ⟨rfl, rfl, rfl⟩ := trodAll_nil r0
  obtain rfl : args = #[v0] := by cases args; simp_all
  obtain ⟨rfl, rfl⟩ : gs = [] ∧ q = [] := by
    cases gs with
    | nil => exact ⟨rfl, hV⟩
    | cons g r => exact absurd hV (by intro h; cases h)
  have hTP : TabIs W := (tabs_of_laid hL).2.2
  have k0 := h0
  have lt0 : ∀ x ∈ p0, x.block < W.heap.size := by obtain ⟨m, hm⟩ := k0; exact DataW.trod_lt m _ _ _ hm
  obtain ⟨xs, hm, hrd, hok⟩ := open_obsArg (hval 0 42 v0 rfl rfl) h0
  clear hA0 hV0 hval0
  refine (walk v0 xs W hm hrd hok hTP).mono fun e W' ⟨he, bel⟩ => ?_
  subst he
  exact ⟨_, rfl, _, _, _, [], _, [], hW', trodAll_mk1 (shut_bool Tryd.underlying4 _), (trodAll_cons_mk (Below.trod laidOut (by kernel_rfl) (of_decide_eq_true (by kernel_rfl)) k0 bel lt0) trodAll_mk0), rfl, bel.frame _, fun h => by cases h⟩

theorem said : Rows.FnExactTellObsSaid :=
  OpenClaim.holds_of_wide 5 Tryd.f5 rfl rfl rfl rfl rfl rfl rfl ⟨rfl, rfl, rfl, rfl, rfl⟩ rfl rfl rfl rfl rfl (by kernel_rfl) Tryd.func5 (by kernel_rfl)
    (of_decide_eq_true (by kernel_rfl)) (by unfold Func.isWrapper; first | (rw [if_pos (by decide +kernel)]; kernel_rfl) | (rw [if_neg (by decide +kernel)]; exact ⟨rfl, rfl⟩))
    (fun os started H enc _ => lifted os started H enc)

theorem plain (f : FuncId) (fn : Func) (hf : Tryd.pinned.checked.prog.funcNamed "loop.example/s01685/laws.FnExactTellObs" = some f) (hfn : Tryd.pinned.checked.prog.funcs[f]? = some fn) :
    true = Tryd.pinned.checked.prog.looks [] ∧ ∀ (j : Nat) t, fn.params[j]? = some t → Tryd.pinned.checked.prog.wantsStandIn t = false := by
  obtain rfl : f = 5 := Option.some.inj ((show Tryd.prog.funcNamed "loop.example/s01685/laws.FnExactTellObs" = some 5 by kernel_rfl).symm.trans hf) |>.symm
  obtain rfl : fn = Tryd.f5 := (Option.some.inj (Tryd.func5.symm.trans hfn)).symm
  refine ⟨by kernel_rfl, fun j t ht => ?_⟩
  rw [Tryd.params5] at ht
  obtain rfl : t = 42 := by simpa using Array.mem_of_getElem? ht
  exact (show Tryd.prog.wantsStandIn 42 = false by kernel_rfl)

theorem tellObs_card : Rows.FnExactTellObsCardSaid :=
  Claim7.holds_tied_plain_at .later [] _ _ _ _ said (fun _ h => by cases h) (by kernel_rfl) (fun _ h => by cases h) fnExactTellObs_row_tie rfl ⟨rfl, rfl⟩ (by kernel_rfl) rfl plain (by kernel_rfl)
#print axioms tellObs_card
end Go.Proofs.YtbgngikejgihgaeDoor
