import Derived.Test.YtbgngikejgihgahGreatDoorRows
import Derived.Test.YtbgngikejgihgahGreatDoorCards
import Derived.Test.YtbgngikejgihgahGreatDoorMq46
import Derived.Test.YtbgngikejgihgahGreatDoorMq45
import Derived.Test.YtbgngikejgihgahGreatDoorMq47
import Derived.Deep.Slices
import Derived.ChangeSlices
import Derived.WalkKit
import Derived.ProofKit
import Derived.OpenShut
import Derived.ChangeOld
import Derived.Below
import Derived.Lib.SmallJoins
import Derived.ChangeSame
import Derived.ChangeVars
import Derived.JoinedOf
import Derived.RowKit
import Derived.RowKitTokens
import Derived.LaidLaws
import Derived.LaidHandle
import Derived.Stop.Joined
import Derived.SevenTiedAt
namespace Go.Proofs.YtbgngikejgihgahGreatDoor
open Go Go.RowKit Go.ChangeShapes Go.WideShapes Go.ChangeAt Go.Joins
set_option linter.unusedVariables false

theorem own : ownKnob Tryz.prog.godebug = none := by kernel_rfl
theorem laidOut : laidOutB Tryz.prog = true := by kernel_rfl
theorem Tryz.et : Tryz.prog.globalNamed "errors.errorType" = some 0 := by kernel_rfl
theorem Tryz.rt : (Tryz.prog.cutTypes.find? (·.1 == "internal/reflectlite.rtype")).map (·.2) = some 370 := by kernel_rfl
theorem Tryz.oneRow : ((List.range 579).filter fun t => Tryz.prog.rowNamed t [101, 114, 114, 111, 114]) = [104] := by kernel_rfl
theorem Tryz.size : Tryz.prog.types.size = 579 := by kernel_rfl

/-- The listed variable's one cell. -/
theorem handle_of_laid {W : World} (h : laidMetH Tryz.prog Rows.fnExactPieceDeleteRow.laid W) : W.cell? ⟨0, 0, none⟩ = some (.iface 370 (.agg #[.pointer (some ⟨11, 104, none⟩)])) := by
  have h' : laidMet Tryz.prog [] W ∧ handlesMet Tryz.prog Rows.fnExactPieceDeleteRow.laid W := h
  obtain ⟨name, u, ty, e1, e2, e3, e4, e5⟩ := h'.2 _ (List.mem_singleton.2 rfl)
  have en : name = [101, 114, 114, 111, 114] := (Option.some.inj e1).symm
  subst en
  obtain rfl := Option.some.inj (Tryz.rt.symm.trans e2)
  have hm : ty ∈ (List.range 579).filter fun t => Tryz.prog.rowNamed t [101, 114, 114, 111, 114] := List.mem_filter.2 ⟨List.mem_range.2 (by rw [← Tryz.size]; exact e3), e4⟩
  rw [Tryz.oneRow] at hm
  obtain rfl := List.mem_singleton.1 hm
  have hh : typeHandle Tryz.prog 104 = .pointer (some ⟨11, 104, none⟩) := by kernel_rfl
  rw [hh] at e5
  simpa using World.var?_cell Tryz.et e5 0

/-- A world for the witness. -/
noncomputable def laidWorld (os : Os) : World :=
  let w0 := World.holding Tryz.prog os ⟨#[], #[], []⟩
  { w0 with heap := w0.heap.modify 0 fun
      | .cells _ t frozen => .cells #[.iface 370 (.agg #[.pointer (some ⟨11, 104, none⟩)])] t frozen
      | o => o }
theorem laidWorld_met (os : Os) (args : Array Value) : laidMetH Tryz.prog Rows.fnExactPieceDeleteRow.laid ((laidWorld os).forCall (fun _ _ => 0) ⟨#[], args, []⟩).memory :=
  laidMetH_of_parts (laidMet_nil _ _) (by kernel_rfl)

theorem Tryz.cellsLI : Tryz.prog.cellsOf 271 = 4 := by kernel_rfl
theorem Tryz.cellsLP : Tryz.prog.cellsOf 269 = 3 := by kernel_rfl
theorem Tryz.cellsIn : Tryz.prog.cellsOf 3 = 1 := by kernel_rfl
theorem Tryz.cellsLS : Tryz.prog.cellsOf 23 = 1 := by kernel_rfl
theorem Tryz.cellsLB : Tryz.prog.cellsOf 27 = 2 := by kernel_rfl
theorem Tryz.cells32 : Tryz.prog.cellsOf 22 = 1 := by kernel_rfl
theorem Tryz.cellsLT : Tryz.prog.cellsOf 25 = 1 := by kernel_rfl

section
variable {H : Type} {enc : TypeId × Value → H} {w : World} {base : Nat} {spare : Nat → Bool} {held : Bool}

theorem some_of_lt {α : Type} {xs : List α} {n i : Nat} (h : xs.length = n) (hi : i < n) : ∃ y, xs[i]? = some y := ⟨xs[i]'(by omega), by simp [h, hi]⟩

theorem len3 {α : Type} {cs : List α} (h : cs.length = 3) : ∃ a b c, cs = [a, b, c] := by
  match cs, h with
  | [a, b, c], _ => exact ⟨a, b, c, rfl⟩
theorem len4 {α : Type} {cs : List α} (h : cs.length = 4) : ∃ a b c d, cs = [a, b, c, d] := by
  match cs, h with
  | [a, b, c, d], _ => exact ⟨a, b, c, d, rfl⟩
theorem arr2 {α : Type} {cs : Array α} (h : cs.size = 2) : ∃ a b, cs = #[a, b] := by
  match cs, h with
  | ⟨[a, b]⟩, _ => exact ⟨a, b, rfl⟩
theorem arr1 {α : Type} {cs : Array α} (h : cs.size = 1) : ∃ c, cs = #[c] := by
  match cs, h with
  | ⟨[c]⟩, _ => exact ⟨c, rfl⟩

set_option maxRecDepth 100000 in
theorem piece_of {n : Nat} {cs : List Value} {x : DataW H × List MemPlace} (h : DataW.trod enc Tryz.prog w base spare held n 269 cs = some x) :
    ∃ p : Pc, cs = [.int .i64 p.off, .int .i64 p.len, .int .i64 p.brk] := by
  obtain ⟨xs, k, rfl, _, hl, hxl, hf⟩ := DataW.trod_struct Tryz.underlying269 h
  rw [Tryz.cellsLP] at hl
  have g0 := hf 0 _ rfl
  have g1 := hf 1 _ rfl
  have g2 := hf 2 _ rfl
  obtain ⟨a, b, c, rfl⟩ := len3 hl
  have hxl3 : xs.length = 3 := hxl
  obtain ⟨y0, e0⟩ := some_of_lt hxl3 (show 0 < 3 by omega)
  obtain ⟨y1, e1⟩ := some_of_lt hxl3 (show 1 < 3 by omega)
  obtain ⟨y2, e2⟩ := some_of_lt hxl3 (show 2 < 3 by omega)
  rw [e0] at g0
  rw [e1] at g1
  rw [e2] at g2
  replace g0 : DataW.trod enc Tryz.prog w base spare held k 3 (([a, b, c].drop 0).take (Tryz.prog.cellsOf 3)) = some y0 := g0
  replace g1 : DataW.trod enc Tryz.prog w base spare held k 3 (([a, b, c].drop 1).take (Tryz.prog.cellsOf 3)) = some y1 := g1
  replace g2 : DataW.trod enc Tryz.prog w base spare held k 3 (([a, b, c].drop 2).take (Tryz.prog.cellsOf 3)) = some y2 := g2
  rw [Tryz.cellsIn] at g0 g1 g2
  obtain ⟨a', ea, _, _⟩ := DataW.trod_int Tryz.underlying3 g0
  obtain ⟨b', eb, _, _⟩ := DataW.trod_int Tryz.underlying3 g1
  obtain ⟨c', ec, _, _⟩ := DataW.trod_int Tryz.underlying3 g2
  simp at ea eb ec
  subst ea eb ec
  exact ⟨⟨a', b', c'⟩, rfl⟩

set_option maxRecDepth 100000 in
theorem item_of {n : Nat} {cs : List Value} {x : DataW H × List MemPlace} (h : DataW.trod enc Tryz.prog w base spare held n 271 cs = some x) :
    ∃ y : It, cs = [.int .i64 y.pc.off, .int .i64 y.pc.len, .int .i64 y.pc.brk, .int .i64 y.lv] := by
  obtain ⟨xs, k, rfl, _, hl, hxl, hf⟩ := DataW.trod_struct Tryz.underlying271 h
  rw [Tryz.cellsLI] at hl
  have g0 := hf 0 _ rfl
  have g1 := hf 1 _ rfl
  obtain ⟨a, b, c, d, rfl⟩ := len4 hl
  have hxl2 : xs.length = 2 := hxl
  obtain ⟨y0, e0⟩ := some_of_lt hxl2 (show 0 < 2 by omega)
  obtain ⟨y1, e1⟩ := some_of_lt hxl2 (show 1 < 2 by omega)
  rw [e0] at g0
  rw [e1] at g1
  replace g0 : DataW.trod enc Tryz.prog w base spare held k 269 (([a, b, c, d].drop 0).take (Tryz.prog.cellsOf 269)) = some y0 := g0
  replace g1 : DataW.trod enc Tryz.prog w base spare held k 3 (([a, b, c, d].drop 3).take (Tryz.prog.cellsOf 3)) = some y1 := g1
  rw [Tryz.cellsLP] at g0
  rw [Tryz.cellsIn] at g1
  obtain ⟨p, ep⟩ := piece_of g0
  obtain ⟨d', ed, _, _⟩ := DataW.trod_int Tryz.underlying3 g1
  simp at ep ed
  obtain ⟨rfl, rfl, rfl⟩ := ep
  subst ed
  exact ⟨⟨p, d'⟩, rfl⟩
end

theorem Rd.nil_items {w : World} (ao : Option Addr) (cap : Nat) : RdI w.heap.size w (.slice ao 0 cap) [] := .inl ⟨_, _, rfl, rfl⟩

/-- The items that came in. -/
theorem open_items {H : Type} {enc : TypeId × Value → H} {w : World} {fuel : Nat} {c : Value} {x : DataW H × List MemPlace} (h : DataW.trod enc Tryz.prog w 0 (fun _ => true) true fuel 23 [c] = some x) :
    ∃ ao len cap, c = .slice ao len cap ∧ len ≤ maxLen ∧ ∃ xs : List It, xs.length = len ∧ RdI w.heap.size w c xs := by
  rcases Go.Deep.open_slice Tryz.underlying23 h with ⟨hcs, _⟩ | ⟨a, len, cap, m, n, D, Pl, hcs, hb, hl, hm, hmm, _, hx⟩
  · simp at hcs; subst hcs
    exact ⟨none, 0, 0, rfl, by unfold maxLen; omega, [], rfl, .inl ⟨_, _, rfl, rfl⟩⟩
  · simp at hcs; subst hcs
    refine ⟨some a, len, cap, rfl, by omega, ?_⟩
    simp only [if_true] at hmm
    have each : ∀ i, i < m → ∃ y : It, w.cell? (a.add (i * 4)) = some (.int .i64 y.pc.off) ∧ w.cell? (a.add (i * 4 + 1)) = some (.int .i64 y.pc.len) ∧ w.cell? (a.add (i * 4 + 2)) = some (.int .i64 y.pc.brk) ∧ w.cell? (a.add (i * 4 + 3)) = some (.int .i64 y.lv) := by
      intro i hi
      obtain ⟨cs', h1, h2⟩ := hx i hi
      rw [Tryz.cellsLI] at h1
      obtain ⟨y, rfl⟩ := item_of h2
      obtain ⟨_, _, hcell⟩ := World.cells?_some h1
      have k0 := hcell 0 (by omega)
      have k1 := hcell 1 (by omega)
      have k2 := hcell 2 (by omega)
      have k3 := hcell 3 (by omega)
      rw [Go.Deep.add_add] at k0 k1 k2 k3
      exact ⟨y, by simpa using k0, by simpa using k1, by simpa using k2, by simpa using k3⟩
    obtain ⟨f, hf⟩ := Go.Deep.choose_lt each
    refine ⟨(List.range len).map f, by simp, ?_⟩
    by_cases h0 : len = 0
    · subst h0; exact .inl ⟨_, _, rfl, rfl⟩
    · have hc0 := (hf 0 (by omega)).1
      obtain ⟨b, off, spot⟩ := a
      have hspot : spot = none := by simpa [Addr.add] using World.cell?_spot hc0
      subst hspot
      refine .inr ⟨b, off, cap, by simp, ⟨by simp; omega, by simpa using hl, hm⟩, ?_, fun i y hy => ?_⟩
      · have := World.block_lt_of_cell? w _ hc0
        simpa [Addr.add] using this
      · have hil : i < len := by
          rcases Nat.lt_or_ge i len with q | q
          · exact q
          · rw [List.getElem?_eq_none (by simpa using q)] at hy; cases hy
        simp [hil] at hy
        subst hy
        obtain ⟨k0, k1, k2, k3⟩ := hf i (by omega)
        rw [addr_add] at k0 k1 k2 k3
        exact ⟨k0, k1, k2, k3⟩

set_option maxRecDepth 100000 in
theorem open_pbArg {H : Type} {enc : TypeId × Value → H} {W : World} {r : Reach} {b0 : Nat} {v : Value} {d : DataW H} {p : List MemPlace} (hv : Value.okWide Tryz.prog W r b0 27 v) (h : DataW.Trod enc Tryz.prog W 0 (fun _ => true) true 27 v d p) :
    ∃ ao n cap zs ao' m cap' xs, v = .agg #[.slice ao n cap, .slice ao' m cap'] ∧ n ≤ maxLen ∧ m ≤ maxLen ∧ zs.length = n ∧ xs.length = m ∧ Rd .i32 W (.slice ao n cap) zs ∧ RdI W.heap.size W (.slice ao' m cap') xs := by
  obtain ⟨cs, rfl, hsz⟩ := okWide_struct Tryz.underlying27 hv
  rw [Tryz.cellsLB] at hsz
  obtain ⟨fuel, hf⟩ := h
  obtain ⟨ys, k, _, _, _, hyl, hg⟩ := DataW.trod_struct Tryz.underlying27 hf
  have g0 := hg 0 _ rfl
  have g1 := hg 1 _ rfl
  have hyl2 : ys.length = 2 := hyl
  obtain ⟨y0, e0⟩ := some_of_lt hyl2 (show 0 < 2 by omega)
  obtain ⟨y1, e1⟩ := some_of_lt hyl2 (show 1 < 2 by omega)
  rw [e0] at g0
  rw [e1] at g1
  obtain ⟨c0, c1, rfl⟩ := arr2 hsz
  replace g0 : DataW.trod enc Tryz.prog W 0 (fun _ => true) true k 22 (([c0, c1].drop 0).take (Tryz.prog.cellsOf 22)) = some y0 := g0
  replace g1 : DataW.trod enc Tryz.prog W 0 (fun _ => true) true k 25 (([c0, c1].drop 1).take (Tryz.prog.cellsOf 25)) = some y1 := g1
  rw [Tryz.cells32] at g0
  rw [Tryz.cellsLT] at g1
  have g0' : DataW.trod enc Tryz.prog W 0 (fun _ => true) true k 22 [c0] = some y0 := g0
  have g1' : DataW.trod enc Tryz.prog W 0 (fun _ => true) true k 25 [c1] = some y1 := g1
  obtain ⟨zs', k', _, _, _, hzl, hgz⟩ := DataW.trod_struct Tryz.underlying25 g1'
  have gz := hgz 0 _ rfl
  obtain ⟨yz, ez⟩ := some_of_lt (show zs'.length = 1 from hzl) (show 0 < 1 by omega)
  rw [ez] at gz
  replace gz : DataW.trod enc Tryz.prog W 0 (fun _ => true) true k' 23 (([c1].drop 0).take (Tryz.prog.cellsOf 23)) = some yz := gz
  rw [Tryz.cellsLS] at gz
  obtain ⟨ao', m, cap', rfl, hm', xs, hlx, hrx⟩ := open_items (c := c1) (by simpa using gz)
  rcases open_ints Tryz.underlying22 Tryz.underlying21 (by kernel_rfl) g0' with ⟨hcs, _⟩ | ⟨x, l, c, zs, hcs, _, hl, hmm, hz, _, hcell, hwz⟩
  · simp at hcs
    subst hcs
    exact ⟨none, 0, 0, [], ao', m, cap', xs, rfl, Nat.zero_le _, hm', rfl, hlx, .inl ⟨none, 0, rfl, rfl⟩, hrx⟩
  · simp at hcs
    subst hcs
    simp only [if_true] at hz
    exact ⟨_, l, c, zs.take l, ao', m, cap', xs, rfl, by omega, hm', by rw [List.length_take]; omega, hlx, Rd.of_row hcell (by omega) hl hmm, hrx⟩

theorem walk (ao ao' : Option Addr) (n cap m cap' : Nat) (zs : List Int) (xs : List It) (line col : Int) (w : World) (hl : zs.length = n) (hl' : xs.length = m) (hm : n ≤ maxLen) (hm' : m ≤ maxLen) (h : Rd .i32 w (.slice ao n cap) zs) (h' : RdI w.heap.size w (.slice ao' m cap') xs) (hg : w.cell? ⟨0, 0, none⟩ = some (.iface 370 (.agg #[.pointer (some ⟨11, 104, none⟩)]))) :
    Calls Tryz.prog 3 #[.agg #[.slice ao n cap, .slice ao' m cap'], .int .i64 line, .int .i64 col] w fun e w' => e = .returned (.bool true) ∧ Below w.heap.size w w' := by
  by_cases hn : 1048576 < n + m
  · exact lawLong _ _ _ _ _ _ line col w hn hm hm'
  · exact law w.heap.size zs xs _ _ line col w h h' (Nat.le_refl _) (by omega) hg

set_option maxHeartbeats 1000000 in
set_option maxRecDepth 100000 in
theorem lifted (os : Os) (started : os.Started) (H : Type) (enc : TypeId × Value → H) :
    ReturnsInHanded {} Tryz.checked os 3 .any (fun w args => (Rows.fnExactPieceDeleteSpec.pre enc Tryz.prog Tryz.f3 [] false w args ∧ laidMetH Tryz.prog Rows.fnExactPieceDeleteRow.laid w) ∧ sizedMet enc Tryz.prog Tryz.f3 (OpenSpec.ofChange Rows.fnExactPieceDeleteSpec) false w args)
      (Rows.fnExactPieceDeleteSpec.post enc Tryz.prog Tryz.f3 false true false false) := by
  refine returnsInHanded_of_change_and (C := Tryz.checked) (X := fun w _ => laidMetH Tryz.prog Rows.fnExactPieceDeleteRow.laid w) (fun _ _ _ hh h => h.of_heap hh) own started (by kernel_rfl) Tryz.func3
    (ChangeSpec.witness_at (enc := enc) (C := Tryz.checked) (os := os) (X := fun w _ => laidMetH Tryz.prog Rows.fnExactPieceDeleteRow.laid w) false (laidWorld os) #[.agg #[.slice none 0 0, .slice none 0 0], .int .i64 0, .int .i64 0] 8 rfl (by kernel_rfl) (by kernel_rfl) (by kernel_rfl) (by kernel_rfl) (by kernel_rfl) (laidWorld_met os _)) ?_
  intro W base args ds gs before hval0 hW _ _ hL _
  have hval : ∀ (j : Nat) t v, Tryz.f3.params[j]? = some t → args[j]? = some v → Value.okWide Tryz.prog W .any base t v := hval0
  have hW' := hW
  obtain ⟨p, q, hA0, hV0, rfl, hfz, hnd⟩ := hW
  have hA : DataW.TrodAll enc Tryz.prog W 0 (fun _ => true) true Tryz.f3.params.toList args.toList ds p := hA0
  have hV : DataW.TrodVars enc Tryz.prog W (fun _ => true) [] gs q := hV0
  rw [Tryz.params3] at hA hval
  obtain ⟨v0, vs0, d0, ds0, p0, q0, hargs, rfl, rfl, h0, r0⟩ := trodAll_cons hA
  obtain ⟨v1, vs1, d1, ds1, p1, q1, rfl, rfl, rfl, h1, r1⟩ := trodAll_cons r0
  obtain ⟨v2, vs2, d2, ds2, p2, q2, rfl, rfl, rfl, h2, r2⟩ := trodAll_cons r1
  obtain ⟨rfl, rfl, rfl⟩ := trodAll_nil r2
  obtain rfl : args = #[v0, v1, v2] := by cases args; simp_all
  obtain ⟨rfl, rfl⟩ : gs = [] ∧ q = [] := by
    cases gs with
    | nil => exact ⟨rfl, hV⟩
    | cons g r => exact absurd hV (by intro h; cases h)
  have k0 := h0
  have lt0 : ∀ x ∈ p0, x.block < W.heap.size := by obtain ⟨m, hm⟩ := k0; exact DataW.trod_lt m _ _ _ hm
  have k1 := h1
  have lt1 : ∀ x ∈ p1, x.block < W.heap.size := by obtain ⟨m, hm⟩ := k1; exact DataW.trod_lt m _ _ _ hm
  have k2 := h2
  have lt2 : ∀ x ∈ p2, x.block < W.heap.size := by obtain ⟨m, hm⟩ := k2; exact DataW.trod_lt m _ _ _ hm
  obtain ⟨ao, n, cap, zs, ao', m, cap', xs, hv0, hm, hm', hl, hl', hrd, hrd'⟩ := open_pbArg (hval 0 27 v0 rfl rfl) h0
  subst hv0
  obtain ⟨line, hv1⟩ : ∃ z : Int, v1 = .int .i64 z := okWide_int Tryz.underlying3 (hval 1 3 v1 rfl rfl)
  subst hv1
  obtain ⟨col, hv2⟩ : ∃ z : Int, v2 = .int .i64 z := okWide_int Tryz.underlying3 (hval 2 3 v2 rfl rfl)
  subst hv2
  have hg := handle_of_laid hL
  clear hA0 hval0
  refine (walk ao ao' n cap m cap' zs xs line col W hl hl' hm hm' hrd hrd' hg).mono fun e W' ⟨he, bel⟩ => ?_
  subst he
  exact ⟨_, rfl, _, _, _, [], _, [], hW', trodAll_mk1 (shut_bool Tryz.underlying4 _), (trodAll_cons_mk (Below.trod laidOut (by kernel_rfl) (of_decide_eq_true (by kernel_rfl)) k0 bel lt0) (trodAll_cons_mk (Below.trod laidOut (by kernel_rfl) (of_decide_eq_true (by kernel_rfl)) k1 bel lt1) (trodAll_cons_mk (Below.trod laidOut (by kernel_rfl) (of_decide_eq_true (by kernel_rfl)) k2 bel lt2) trodAll_mk0))), rfl, bel.frame _, fun h => by cases h⟩

theorem said : Rows.FnExactPieceDeleteSaid :=
  OpenClaim.holds_of_wide 3 Tryz.f3 rfl rfl rfl rfl rfl rfl rfl ⟨rfl, rfl, rfl, rfl, rfl⟩ rfl rfl rfl rfl rfl (by as_aux_lemma => kernel_rfl) Tryz.func3 closedF
    (of_decide_eq_true (by as_aux_lemma => kernel_rfl)) (by unfold Func.isWrapper; first | (rw [if_pos (by decide +kernel)]; kernel_rfl) | (rw [if_neg (by decide +kernel)]; exact ⟨rfl, rfl⟩))
    (fun os started H enc _ => lifted os started H enc)

end Go.Proofs.YtbgngikejgihgahGreatDoor
