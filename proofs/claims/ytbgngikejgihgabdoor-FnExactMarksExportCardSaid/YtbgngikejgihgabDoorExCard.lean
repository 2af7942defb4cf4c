import Derived.Test.YtbgngikejgihgabDoorRows
import Derived.Test.YtbgngikejgihgabDoorCards
import Derived.Test.YtbgngikejgihgabDoorTie
import Derived.Test.YtbgngikejgihgabDoorExLaw
import Derived.Deep.Slices
import Derived.WalkKit
import Derived.ProofKit
import Derived.OpenShut
import Derived.ChangeOld
import Derived.Below
import Derived.Lib.SmallJoins
import Derived.ChangeSame
import Derived.ChangeVars
import Derived.JoinedOf
import Derived.RowKit
import Derived.RowKitTokens
import Derived.LaidLaws
import Derived.LaidHandle
import Derived.Stop.Joined
import Derived.SevenTiedAt
import Derived.WalkSmall
import Derived.Stop.LaidErr
import Derived.Lib.LaidTab
namespace Go.Proofs.YtbgngikejgihgabDoor
open Go Go.RowKit Go.ChangeShapes Go.WideShapes Go.ChangeAt Go.Joins
set_option linter.unusedVariables false

theorem own : ownKnob Tryd.prog.godebug = none := by kernel_rfl
theorem laidOut : laidOutB Tryd.prog = true := by kernel_rfl
def t32 : List Int := [0, 1, 28, 2, 29, 14, 24, 3, 30, 22, 20, 15, 25, 17, 4, 8, 31, 27, 13, 23, 21, 19, 16, 7, 26, 12, 18, 6, 11, 5, 10, 9]
def t64 : List Int := [0, 1, 56, 2, 57, 49, 28, 3, 61, 58, 42, 50, 38, 29, 17, 4, 62, 47, 59, 36, 45, 43, 51, 22, 53, 39, 33, 30, 24, 18, 12, 5, 63, 55, 48, 27, 60, 41, 37, 16, 46, 35, 44, 21, 52, 32, 23, 11, 54, 26, 40, 15, 34, 20, 31, 10, 25, 14, 19, 9, 13, 8, 7, 6]
theorem Tryd.gP : Tryd.prog.globalNamed "internal/strconv.uint64pow10" = some 2 := by kernel_rfl
theorem Tryd.gPt : (Tryd.prog.globals[(2 : Nat)]?).map (·.type) = some 236 := by kernel_rfl
theorem Tryd.g32 : Tryd.prog.globalNamed "math/bits.deBruijn32tab" = some 3 := by kernel_rfl
theorem Tryd.g32t : (Tryd.prog.globals[(3 : Nat)]?).map (·.type) = some 238 := by kernel_rfl
theorem Tryd.g64 : Tryd.prog.globalNamed "math/bits.deBruijn64tab" = some 4 := by kernel_rfl
theorem Tryd.g64t : (Tryd.prog.globals[(4 : Nat)]?).map (·.type) = some 239 := by kernel_rfl
theorem Tryd.cellsP : Tryd.prog.cellsOf 236 = 20 := by kernel_rfl
theorem Tryd.cells32 : Tryd.prog.cellsOf 238 = 32 := by kernel_rfl
theorem Tryd.cells64 : Tryd.prog.cellsOf 239 = 64 := by kernel_rfl
theorem Tryd.cellsU : Tryd.prog.cellsOf 113 = 1 := by kernel_rfl
theorem Tryd.cellsB : Tryd.prog.cellsOf 5 = 1 := by kernel_rfl

/-- The three tables. -/
theorem tabs_of_laid {W : World} (h : laidMetH Tryd.prog Rows.fnExactMarksExportRow.laid W) :
    Lib.TabIs Tryd.prog W "math/bits.deBruijn32tab" .u8 t32 ∧ Lib.TabIs Tryd.prog W "math/bits.deBruijn64tab" .u8 t64 ∧ Lib.TabIs Tryd.prog W "internal/strconv.uint64pow10" .u64 Lib.pow10Tab := by
  have h1 : laidMet Tryd.prog (("math/bits.deBruijn32tab", Lib.tabData .u8 t32) :: ("math/bits.deBruijn64tab", Lib.tabData .u8 t64) :: ("internal/strconv.uint64pow10", Lib.tabData .u64 Lib.pow10Tab) :: []) W := h
  have h2 := h1.tail
  have h3 := h2.tail
  exact ⟨Lib.tabIs_of_head Tryd.g32 Tryd.g32t Tryd.underlying238 Tryd.underlying5 Tryd.cellsB Tryd.cells32 h1, Lib.tabIs_of_head Tryd.g64 Tryd.g64t Tryd.underlying239 Tryd.underlying5 Tryd.cellsB Tryd.cells64 h2,
    Lib.tabIs_of_head Tryd.gP Tryd.gPt Tryd.underlying236 Tryd.underlying113 Tryd.cellsU Tryd.cellsP h3⟩

def c32 : Array Value := (t32.map fun z => Value.int .u8 z).toArray
def c64 : Array Value := (t64.map fun z => Value.int .u8 z).toArray
def cP : Array Value := (Lib.pow10Tab.map fun z => Value.int .u64 z).toArray
/-- A world for the witness. -/
noncomputable def laidWorld (os : Os) : World :=
  let w0 := World.holding Tryd.prog os ⟨#[], #[], []⟩
  { w0 with heap := ((w0.heap.modify 2 fun
      | .cells _ t frozen => .cells cP t frozen
      | o => o).modify 3 fun
      | .cells _ t frozen => .cells c32 t frozen
      | o => o).modify 4 fun
      | .cells _ t frozen => .cells c64 t frozen
      | o => o }
theorem laidWorld_met (os : Os) (args : Array Value) : laidMetH Tryd.prog Rows.fnExactMarksExportRow.laid ((laidWorld os).forCall (fun _ _ => 0) ⟨#[], args, []⟩).memory :=
  laidMet_of_run' 8 (by kernel_rfl) (by kernel_rfl)

theorem Tryd.cellsLM : Tryd.prog.cellsOf 70 = 3 := by kernel_rfl
theorem Tryd.cellsIn : Tryd.prog.cellsOf 3 = 1 := by kernel_rfl

section
variable {H : Type} {enc : TypeId × Value → H} {w : World} {base : Nat} {spare : Nat → Bool} {held : Bool}

theorem some_of_lt {α : Type} {xs : List α} {n i : Nat} (h : xs.length = n) (hi : i < n) : ∃ y, xs[i]? = some y := ⟨xs[i]'(by omega), by simp [h, hi]⟩

theorem len3 {α : Type} {cs : List α} (h : cs.length = 3) : ∃ a b c, cs = [a, b, c] := by
  match cs, h with
  | [a, b, c], _ => exact ⟨a, b, c, rfl⟩
set_option maxRecDepth 100000 in
theorem mark_of {n : Nat} {cs : List Value} {x : DataW H × List MemPlace} (h : DataW.trod enc Tryd.prog w base spare held n 70 cs = some x) :
    ∃ p : Mk, cs = [.int .i64 p.1, .int .i64 p.2.1, .int .i64 p.2.2] := by
  obtain ⟨xs, k, rfl, _, hl, hxl, hf⟩ := DataW.trod_struct Tryd.underlying70 h
  rw [Tryd.cellsLM] at hl
  have g0 := hf 0 _ rfl
  have g1 := hf 1 _ rfl
  have g2 := hf 2 _ rfl
  obtain ⟨a, b, c, rfl⟩ := len3 hl
  have hxl3 : xs.length = 3 := hxl
  obtain ⟨y0, e0⟩ := some_of_lt hxl3 (show 0 < 3 by omega)
  obtain ⟨y1, e1⟩ := some_of_lt hxl3 (show 1 < 3 by omega)
  obtain ⟨y2, e2⟩ := some_of_lt hxl3 (show 2 < 3 by omega)
  rw [e0] at g0
  rw [e1] at g1
  rw [e2] at g2
  replace g0 : DataW.trod enc Tryd.prog w base spare held k 3 (([a, b, c].drop 0).take (Tryd.prog.cellsOf 3)) = some y0 := g0
  replace g1 : DataW.trod enc Tryd.prog w base spare held k 3 (([a, b, c].drop 1).take (Tryd.prog.cellsOf 3)) = some y1 := g1
  replace g2 : DataW.trod enc Tryd.prog w base spare held k 3 (([a, b, c].drop 2).take (Tryd.prog.cellsOf 3)) = some y2 := g2
  rw [Tryd.cellsIn] at g0 g1 g2
  obtain ⟨a', ea, _, _⟩ := DataW.trod_int Tryd.underlying3 g0
  obtain ⟨b', eb, _, _⟩ := DataW.trod_int Tryd.underlying3 g1
  obtain ⟨c', ec, _, _⟩ := DataW.trod_int Tryd.underlying3 g2
  simp at ea eb ec
  subst ea eb ec
  exact ⟨(a', b', c'), rfl⟩

end

/-- The items that came in. -/
theorem open_marks {H : Type} {enc : TypeId × Value → H} {w : World} {fuel : Nat} {c : Value} {x : DataW H × List MemPlace} (h : DataW.trod enc Tryd.prog w 0 (fun _ => true) true fuel 22 [c] = some x) :
    ∃ ao len cap, c = .slice ao len cap ∧ len ≤ maxLen ∧ ∃ xs : List Mk, xs.length = len ∧ RdM w.heap.size w c xs := by
  rcases Go.Deep.open_slice Tryd.underlying22 h with ⟨hcs, _⟩ | ⟨a, len, cap, m, n, D, Pl, hcs, hb, hl, hm, hmm, _, hx⟩
  · simp at hcs; subst hcs
    exact ⟨none, 0, 0, rfl, by unfold maxLen; omega, [], rfl, .inl ⟨_, _, rfl, rfl⟩⟩
  · simp at hcs; subst hcs
    refine ⟨some a, len, cap, rfl, by omega, ?_⟩
    simp only [if_true] at hmm
    have each : ∀ i, i < m → ∃ y : Mk, w.cell? (a.add (i * 3)) = some (.int .i64 y.1) ∧ w.cell? (a.add (i * 3 + 1)) = some (.int .i64 y.2.1) ∧ w.cell? (a.add (i * 3 + 2)) = some (.int .i64 y.2.2) := by
      intro i hi
      obtain ⟨cs', h1, h2⟩ := hx i hi
      rw [Tryd.cellsLM] at h1
      obtain ⟨y, rfl⟩ := mark_of h2
      obtain ⟨_, _, hcell⟩ := World.cells?_some h1
      have k0 := hcell 0 (by omega)
      have k1 := hcell 1 (by omega)
      have k2 := hcell 2 (by omega)
      rw [Go.Deep.add_add] at k0 k1 k2
      exact ⟨y, by simpa using k0, by simpa using k1, by simpa using k2⟩
    obtain ⟨f, hf⟩ := Go.Deep.choose_lt each
    refine ⟨(List.range len).map f, by simp, ?_⟩
    by_cases h0 : len = 0
    · subst h0; exact .inl ⟨_, _, rfl, rfl⟩
    · have hc0 := (hf 0 (by omega)).1
      obtain ⟨b, off, spot⟩ := a
      have hspot : spot = none := by simpa [Addr.add] using World.cell?_spot hc0
      subst hspot
      refine .inr ⟨b, off, cap, by simp, ⟨by simp; omega, by simpa using hl, hm⟩, ?_, fun i y hy => ?_⟩
      · have := World.block_lt_of_cell? w _ hc0
        simpa [Addr.add] using this
      · have hil : i < len := by
          rcases Nat.lt_or_ge i len with q | q
          · exact q
          · rw [List.getElem?_eq_none (by simpa using q)] at hy; cases hy
        simp [hil] at hy
        subst hy
        obtain ⟨k0, k1, k2⟩ := hf i (by omega)
        rw [addr_add] at k0 k1 k2
        exact ⟨k0, k1, k2⟩

set_option maxRecDepth 100000 in
theorem open_marksArg {H : Type} {enc : TypeId × Value → H} {W : World} {r : Reach} {b0 : Nat} {v : Value} {d : DataW H} {p : List MemPlace} (hv : Value.okWide Tryd.prog W r b0 22 v) (h : DataW.Trod enc Tryd.prog W 0 (fun _ => true) true 22 v d p) :
    ∃ ao len cap xs, v = .slice ao len cap ∧ len ≤ maxLen ∧ xs.length = len ∧ RdM W.heap.size W (.slice ao len cap) xs := by
  obtain ⟨fuel, hf⟩ := h
  obtain ⟨a0, l0, c0, rfl⟩ := okWide_slice Tryd.underlying22 hv
  have hc : (Value.slice a0 l0 c0).cells.toList = [Value.slice a0 l0 c0] := rfl
  rw [hc] at hf
  obtain ⟨ao, len, cap, e, hm, xs, hl, hr⟩ := open_marks hf
  rw [e] at hr
  exact ⟨ao, len, cap, xs, e, hm, hl, hr⟩

theorem walk (ao : Option Addr) (len cap : Nat) (xs : List Mk) (w : World) (hl : xs.length = len) (hm : len ≤ maxLen) (h : RdM w.heap.size w (.slice ao len cap) xs) (ht : TabIs w) :
    Calls Tryd.prog 5 #[.slice ao len cap] w fun e w' => e = .returned (.bool true) ∧ Below w.heap.size w w' := by
  by_cases hn : 1048576 < len
  · exact lawLong _ _ _ w hn hm
  · exact law w.heap.size xs _ w h (Nat.le_refl _) (by omega) ht

set_option maxHeartbeats 1000000 in
set_option maxRecDepth 100000 in
theorem lifted (os : Os) (started : os.Started) (H : Type) (enc : TypeId × Value → H) :
    ReturnsInHanded {} Tryd.checked os 5 .any (fun w args => (Rows.fnExactMarksExportSpec.pre enc Tryd.prog Tryd.f5 [] false w args ∧ laidMetH Tryd.prog Rows.fnExactMarksExportRow.laid w) ∧ sizedMet enc Tryd.prog Tryd.f5 (OpenSpec.ofChange Rows.fnExactMarksExportSpec) false w args)
      (Rows.fnExactMarksExportSpec.post enc Tryd.prog Tryd.f5 false true false false) := by
  refine returnsInHanded_of_change_and (C := Tryd.checked) (X := fun w _ => laidMetH Tryd.prog Rows.fnExactMarksExportRow.laid w) (fun _ _ _ hh h => h.of_heap hh) own started (by kernel_rfl) Tryd.func5
    (ChangeSpec.witness_at (enc := enc) (C := Tryd.checked) (os := os) (X := fun w _ => laidMetH Tryd.prog Rows.fnExactMarksExportRow.laid w) false (laidWorld os) #[.slice none 0 0] 8 rfl (by kernel_rfl) (by kernel_rfl) (by kernel_rfl) (by kernel_rfl) (by kernel_rfl) (laidWorld_met os _)) ?_
  intro W base args ds gs before hval0 hW _ _ hL _
  have hval : ∀ (j : Nat) t v, Tryd.f5.params[j]? = some t → args[j]? = some v → Value.okWide Tryd.prog W .any base t v := hval0
  have hW' := hW
  obtain ⟨p, q, hA0, hV0, rfl, hfz, hnd⟩ := hW
  have hA : DataW.TrodAll enc Tryd.prog W 0 (fun _ => true) true Tryd.f5.params.toList args.toList ds p := hA0
  have hV : DataW.TrodVars enc Tryd.prog W (fun _ => true) [] gs q := hV0
  rw [Tryd.params5] at hA hval
  obtain ⟨v0, vs0, d0, ds0, p0, q0, hargs, rfl, rfl, h0, r0⟩ := trodAll_cons hA
  obtain ⟨rfl, rfl, rfl⟩ := trodAll_nil r0
  obtain rfl : args = #[v0] := by cases args; simp_all
  obtain ⟨rfl, rfl⟩ : gs = [] ∧ q = [] := by
    cases gs with
    | nil => exact ⟨rfl, hV⟩
    | cons g r => exact absurd hV (by intro h; cases h)
  have hTP : TabIs W := (tabs_of_laid hL).2.2
  have k0 := h0
  have lt0 : ∀ x ∈ p0, x.block < W.heap.size := by obtain ⟨m, hm⟩ := k0; exact DataW.trod_lt m _ _ _ hm
  obtain ⟨ao, len, cap, xs, hv0, hm, hl, hrd⟩ : ∃ ao len cap xs, v0 = .slice ao len cap ∧ len ≤ maxLen ∧ xs.length = len ∧ RdM W.heap.size W (.slice ao len cap) xs := by
    exact open_marksArg (hval 0 22 v0 rfl rfl) h0
  subst hv0
  clear hA0 hV0 hval0
  refine (walk ao len cap xs W hl hm hrd hTP).mono fun e W' ⟨he, bel⟩ => ?_
  subst he
  exact ⟨_, rfl, _, _, _, [], _, [], hW', trodAll_mk1 (shut_bool Tryd.underlying4 _), (trodAll_cons_mk (Below.trod laidOut (by kernel_rfl) (of_decide_eq_true (by kernel_rfl)) k0 bel lt0) trodAll_mk0), rfl, bel.frame _, fun h => by cases h⟩

theorem said : Rows.FnExactMarksExportSaid :=
  OpenClaim.holds_of_wide 5 Tryd.f5 rfl rfl rfl rfl rfl rfl rfl ⟨rfl, rfl, rfl, rfl, rfl⟩ rfl rfl rfl rfl rfl (by kernel_rfl) Tryd.func5 (by kernel_rfl)
    (of_decide_eq_true (by kernel_rfl)) (by unfold Func.isWrapper; first | (rw [if_pos (by decide +kernel)]; kernel_rfl) | (rw [if_neg (by decide +kernel)]; exact ⟨rfl, rfl⟩))
    (fun os started H enc _ => lifted os started H enc)

theorem plain (f : FuncId) (fn : Func) (hf : Tryd.pinned.checked.prog.funcNamed "loop.example/s01685/laws.FnExactMarksExport" = some f) (hfn : Tryd.pinned.checked.prog.funcs[f]? = some fn) :
    true = Tryd.pinned.checked.prog.looks [] ∧ ∀ (j : Nat) t, fn.params[j]? = some t → Tryd.pinned.checked.prog.wantsStandIn t = false := by
  obtain rfl : f = 5 := Option.some.inj ((show Tryd.prog.funcNamed "loop.example/s01685/laws.FnExactMarksExport" = some 5 by kernel_rfl).symm.trans hf) |>.symm
  obtain rfl : fn = Tryd.f5 := (Option.some.inj (Tryd.func5.symm.trans hfn)).symm
  refine ⟨by kernel_rfl, fun j t ht => ?_⟩
  rw [Tryd.params5] at ht
  obtain rfl : t = 22 := by simpa using Array.mem_of_getElem? ht
  exact (show Tryd.prog.wantsStandIn 22 = false by kernel_rfl)

theorem marksExport_card : Rows.FnExactMarksExportCardSaid :=
  Claim7.holds_tied_plain_at .later [] _ _ _ _ said (fun _ h => by cases h) (by kernel_rfl) (fun _ h => by cases h) fnExactMarksExport_row_tie rfl ⟨rfl, rfl⟩ (by kernel_rfl) rfl plain (by kernel_rfl)
#print axioms marksExport_card
end Go.Proofs.YtbgngikejgihgabDoor
