import Derived.Test.YtbgngikejgihgagGreatDoorRows
import Derived.Test.YtbgngikejgihgagGreatDoorCards
import Derived.Test.YtbgngikejgihgagGreatDoorTie
import Derived.Test.YtbgngikejgihgagGreatDoorMq48
import Derived.Test.YtbgngikejgihgagGreatDoorMq49
import Derived.Deep.Slices
import Derived.ChangeSlices
import Derived.WalkKit
import Derived.ProofKit
import Derived.OpenShut
import Derived.ChangeOld
import Derived.Below
import Derived.Lib.SmallJoins
import Derived.ChangeSame
import Derived.ChangeVars
import Derived.JoinedOf
import Derived.RowKit
import Derived.RowKitTokens
import Derived.LaidLaws
import Derived.LaidHandle
import Derived.Stop.Joined
import Derived.SevenTiedAt
namespace Go.Proofs.YtbgngikejgihgagGreatDoor
open Go Go.RowKit Go.ChangeShapes Go.WideShapes Go.ChangeAt Go.Joins
set_option linter.unusedVariables false

theorem own : ownKnob Tryz.prog.godebug = none := by kernel_rfl
theorem laidOut : laidOutB Tryz.prog = true := by kernel_rfl
theorem Tryz.et : Tryz.prog.globalNamed "errors.errorType" = some 0 := by kernel_rfl
theorem Tryz.rt : (Tryz.prog.cutTypes.find? (·.1 == "internal/reflectlite.rtype")).map (·.2) = some 307 := by kernel_rfl
theorem Tryz.oneRow : ((List.range 505).filter fun t => Tryz.prog.rowNamed t [101, 114, 114, 111, 114]) = [100] := by kernel_rfl
theorem Tryz.size : Tryz.prog.types.size = 505 := by kernel_rfl

/-- The listed variable's one cell. -/
theorem handle_of_laid {W : World} (h : laidMetH Tryz.prog Rows.fnExactLineInsertRow.laid W) : W.cell? ⟨0, 0, none⟩ = some (.iface 307 (.agg #[.pointer (some ⟨2, 100, none⟩)])) := by
  have h' : laidMet Tryz.prog [] W ∧ handlesMet Tryz.prog Rows.fnExactLineInsertRow.laid W := h
  obtain ⟨name, u, ty, e1, e2, e3, e4, e5⟩ := h'.2 _ (List.mem_singleton.2 rfl)
  have en : name = [101, 114, 114, 111, 114] := (Option.some.inj e1).symm
  subst en
  obtain rfl := Option.some.inj (Tryz.rt.symm.trans e2)
  have hm : ty ∈ (List.range 505).filter fun t => Tryz.prog.rowNamed t [101, 114, 114, 111, 114] := List.mem_filter.2 ⟨List.mem_range.2 (by rw [← Tryz.size]; exact e3), e4⟩
  rw [Tryz.oneRow] at hm
  obtain rfl := List.mem_singleton.1 hm
  have hh : typeHandle Tryz.prog 100 = .pointer (some ⟨2, 100, none⟩) := by kernel_rfl
  rw [hh] at e5
  simpa using World.var?_cell Tryz.et e5 0

/-- A world for the witness. -/
noncomputable def laidWorld (os : Os) : World :=
  let w0 := World.holding Tryz.prog os ⟨#[], #[], []⟩
  { w0 with heap := w0.heap.modify 0 fun
      | .cells _ t frozen => .cells #[.iface 307 (.agg #[.pointer (some ⟨2, 100, none⟩)])] t frozen
      | o => o }
theorem laidWorld_met (os : Os) (args : Array Value) : laidMetH Tryz.prog Rows.fnExactLineInsertRow.laid ((laidWorld os).forCall (fun _ _ => 0) ⟨#[], args, []⟩).memory :=
  laidMetH_of_parts (laidMet_nil _ _) (by kernel_rfl)

theorem Tryz.cellsLG : Tryz.prog.cellsOf 160 = 3 := by kernel_rfl
theorem Tryz.cellsIn : Tryz.prog.cellsOf 3 = 1 := by kernel_rfl
theorem Tryz.cellsSG : Tryz.prog.cellsOf 22 = 1 := by kernel_rfl
theorem Tryz.cellsLN : Tryz.prog.cellsOf 25 = 2 := by kernel_rfl
theorem Tryz.cells32 : Tryz.prog.cellsOf 36 = 1 := by kernel_rfl
theorem Tryz.cells64 : Tryz.prog.cellsOf 23 = 1 := by kernel_rfl

theorem some_of_lt {α : Type} {xs : List α} {n i : Nat} (h : xs.length = n) (hi : i < n) : ∃ y, xs[i]? = some y := ⟨xs[i]'(by omega), by simp [h, hi]⟩
theorem len3 {α : Type} {cs : List α} (h : cs.length = 3) : ∃ a b c, cs = [a, b, c] := by
  match cs, h with
  | [a, b, c], _ => exact ⟨a, b, c, rfl⟩
theorem arr2 {α : Type} {cs : Array α} (h : cs.size = 2) : ∃ a b, cs = #[a, b] := by
  match cs, h with
  | ⟨[a, b]⟩, _ => exact ⟨a, b, rfl⟩

section
variable {H : Type} {enc : TypeId × Value → H} {w : World}

theorem open_32 {n : Nat} {c : Value} {x : DataW H × List MemPlace} (h : DataW.trod enc Tryz.prog w 0 (fun _ => true) true n 36 [c] = some x) : ∃ zs, Rd .i32 w c zs ∧ zs.length ≤ maxLen := by
  rcases open_ints Tryz.underlying36 Tryz.underlying21 (by kernel_rfl) h with ⟨hcs, _⟩ | ⟨x, l, c', zs, hcs, _, hl, hmm, hz, _, hcell, hwz⟩
  · simp at hcs
    subst hcs
    exact ⟨[], .inl ⟨none, 0, rfl, rfl⟩, Nat.zero_le _⟩
  · simp at hcs
    subst hcs
    simp only [if_true] at hz
    exact ⟨zs.take l, Rd.of_row hcell (by omega) hl hmm, by rw [List.length_take]; omega⟩
theorem open_64 {n : Nat} {c : Value} {x : DataW H × List MemPlace} (h : DataW.trod enc Tryz.prog w 0 (fun _ => true) true n 23 [c] = some x) : ∃ zs, Rd .i64 w c zs ∧ zs.length ≤ maxLen := by
  rcases open_ints Tryz.underlying23 Tryz.underlying3 (by kernel_rfl) h with ⟨hcs, _⟩ | ⟨x, l, c', zs, hcs, _, hl, hmm, hz, _, hcell, hwz⟩
  · simp at hcs
    subst hcs
    exact ⟨[], .inl ⟨none, 0, rfl, rfl⟩, Nat.zero_le _⟩
  · simp at hcs
    subst hcs
    simp only [if_true] at hz
    exact ⟨zs.take l, Rd.of_row hcell (by omega) hl hmm, by rw [List.length_take]; omega⟩

set_option maxRecDepth 100000 in
theorem gap_of {n : Nat} {cs : List Value} {x : DataW H × List MemPlace} (h : DataW.trod enc Tryz.prog w 0 (fun _ => true) true n 160 cs = some x) :
    ∃ (g : Gr) (u : Value), cs = [u, .int .i64 g.lo, .int .i64 g.hi] ∧ Rd .i32 w u g.cells ∧ g.cells.length ≤ maxLen := by
  obtain ⟨xs, k, rfl, _, hl, hxl, hf⟩ := DataW.trod_struct Tryz.underlying160 h
  rw [Tryz.cellsLG] at hl
  have g0 := hf 0 _ rfl
  have g1 := hf 1 _ rfl
  have g2 := hf 2 _ rfl
  obtain ⟨a, b, c, rfl⟩ := len3 hl
  have hxl3 : xs.length = 3 := hxl
  obtain ⟨y0, e0⟩ := some_of_lt hxl3 (show 0 < 3 by omega)
  obtain ⟨y1, e1⟩ := some_of_lt hxl3 (show 1 < 3 by omega)
  obtain ⟨y2, e2⟩ := some_of_lt hxl3 (show 2 < 3 by omega)
  rw [e0] at g0
  rw [e1] at g1
  rw [e2] at g2
  replace g0 : DataW.trod enc Tryz.prog w 0 (fun _ => true) true k 36 (([a, b, c].drop 0).take (Tryz.prog.cellsOf 36)) = some y0 := g0
  replace g1 : DataW.trod enc Tryz.prog w 0 (fun _ => true) true k 3 (([a, b, c].drop 1).take (Tryz.prog.cellsOf 3)) = some y1 := g1
  replace g2 : DataW.trod enc Tryz.prog w 0 (fun _ => true) true k 3 (([a, b, c].drop 2).take (Tryz.prog.cellsOf 3)) = some y2 := g2
  rw [Tryz.cells32] at g0
  rw [Tryz.cellsIn] at g1 g2
  obtain ⟨b', eb, _, _⟩ := DataW.trod_int Tryz.underlying3 g1
  obtain ⟨c', ec, _, _⟩ := DataW.trod_int Tryz.underlying3 g2
  simp at eb ec
  subst eb ec
  obtain ⟨zs, hr, hz⟩ := open_32 (c := a) (by simpa using g0)
  exact ⟨⟨zs, b', c'⟩, a, rfl, hr, hz⟩
end

/-- The rows that came in. -/
theorem open_gaps {H : Type} {enc : TypeId × Value → H} {w : World} {fuel : Nat} {c : Value} {x : DataW H × List MemPlace} (h : DataW.trod enc Tryz.prog w 0 (fun _ => true) true fuel 22 [c] = some x) :
    ∃ gs : List Gr, RdG w c gs ∧ gs.length ≤ maxLen := by
  rcases Go.Deep.open_slice Tryz.underlying22 h with ⟨hcs, _⟩ | ⟨a, len, cap, m, n, D, Pl, hcs, hb, hl, hm, hmm, _, hx⟩
  · simp at hcs; subst hcs
    exact ⟨[], .inl ⟨_, _, rfl, rfl⟩, Nat.zero_le _⟩
  · simp at hcs; subst hcs
    simp only [if_true] at hmm
    have each : ∀ i, i < m → ∃ y : Gr, ∃ u, w.cell? (a.add (i * 3)) = some u ∧ w.cell? (a.add (i * 3 + 1)) = some (.int .i64 y.lo) ∧ w.cell? (a.add (i * 3 + 2)) = some (.int .i64 y.hi) ∧ Rd .i32 w u y.cells ∧ y.cells.length ≤ maxLen := by
      intro i hi
      obtain ⟨cs', h1, h2⟩ := hx i hi
      rw [Tryz.cellsLG] at h1
      obtain ⟨y, u, rfl, hr, hz⟩ := gap_of h2
      obtain ⟨_, _, hcell⟩ := World.cells?_some h1
      have k0 := hcell 0 (by omega)
      have k1 := hcell 1 (by omega)
      have k2 := hcell 2 (by omega)
      rw [Go.Deep.add_add] at k0 k1 k2
      exact ⟨y, u, by simpa using k0, by simpa using k1, by simpa using k2, hr, hz⟩
    have _i : Inhabited Gr := ⟨⟨[], 0, 0⟩⟩
    obtain ⟨f, hf⟩ := Go.Deep.choose_lt each
    refine ⟨(List.range len).map f, ?_, by simp; omega⟩
    by_cases h0 : len = 0
    · subst h0; exact .inl ⟨_, _, rfl, rfl⟩
    · obtain ⟨u0, hc0, _⟩ := hf 0 (by omega)
      obtain ⟨b, off, spot⟩ := a
      have hspot : spot = none := by simpa [Addr.add] using World.cell?_spot hc0
      subst hspot
      refine .inr ⟨b, off, cap, by simp, ⟨by simp; omega, by simpa using hl, hm⟩, fun i y hy => ?_⟩
      have hil : i < len := by
        rcases Nat.lt_or_ge i len with q | q
        · exact q
        · rw [List.getElem?_eq_none (by simpa using q)] at hy; cases hy
      simp [hil] at hy
      subst hy
      obtain ⟨u, k0, k1, k2, hr, hz⟩ := hf i (by omega)
      rw [addr_add] at k0 k1 k2
      exact ⟨u, k0, k1, k2, hr, hz⟩

set_option maxRecDepth 100000 in
theorem open_lbArg {H : Type} {enc : TypeId × Value → H} {W : World} {r : Reach} {b0 : Nat} {v : Value} {d : DataW H} {p : List MemPlace} (hv : Value.okWide Tryz.prog W r b0 25 v) (h : DataW.Trod enc Tryz.prog W 0 (fun _ => true) true 25 v d p) :
    ∃ vr vt gs st, v = .agg #[vr, vt] ∧ RdL W vr vt gs st := by
  obtain ⟨cs, rfl, hsz⟩ := okWide_struct Tryz.underlying25 hv
  rw [Tryz.cellsLN] at hsz
  obtain ⟨fuel, hf⟩ := h
  obtain ⟨ys, k, _, _, _, hyl, hg⟩ := DataW.trod_struct Tryz.underlying25 hf
  have g0 := hg 0 _ rfl
  have g1 := hg 1 _ rfl
  have hyl2 : ys.length = 2 := hyl
  obtain ⟨y0, e0⟩ := some_of_lt hyl2 (show 0 < 2 by omega)
  obtain ⟨y1, e1⟩ := some_of_lt hyl2 (show 1 < 2 by omega)
  rw [e0] at g0
  rw [e1] at g1
  obtain ⟨c0, c1, rfl⟩ := arr2 hsz
  replace g0 : DataW.trod enc Tryz.prog W 0 (fun _ => true) true k 22 (([c0, c1].drop 0).take (Tryz.prog.cellsOf 22)) = some y0 := g0
  replace g1 : DataW.trod enc Tryz.prog W 0 (fun _ => true) true k 23 (([c0, c1].drop 1).take (Tryz.prog.cellsOf 23)) = some y1 := g1
  rw [Tryz.cellsSG] at g0
  rw [Tryz.cells64] at g1
  have g0' : DataW.trod enc Tryz.prog W 0 (fun _ => true) true k 22 [c0] = some y0 := g0
  have g1' : DataW.trod enc Tryz.prog W 0 (fun _ => true) true k 23 [c1] = some y1 := g1
  obtain ⟨gs, hG, hgm⟩ := open_gaps g0'
  obtain ⟨st, hS, hsm⟩ := open_64 g1'
  exact ⟨c0, c1, gs, st, rfl, ⟨hG, hS, hgm, hsm⟩⟩

theorem walk (vr vt : Value) (gs : List Gr) (st : List Int) (line : Int) (at' : Option Addr) (tl ct : Nat) (ts : List Int) (w : World) (h : RdL w vr vt gs st) (htl : ts.length = tl) (ht : Rd .i32 w (.slice at' tl ct) ts) (hg : w.cell? ⟨0, 0, none⟩ = some (.iface 307 (.agg #[.pointer (some ⟨2, 100, none⟩)]))) :
    Calls Tryz.prog 4 #[.agg #[vr, vt], .int .i64 line, .slice at' tl ct] w fun e w' => e = .returned (.bool true) ∧ Below w.heap.size w w' := by
  by_cases hT : 1048576 < tl
  · obtain ⟨a1, c1, rfl⟩ := h.rows.val
    obtain ⟨a2, c2, rfl⟩ : ∃ ao cap, vt = .slice ao st.length cap := by
      rcases h.starts with ⟨ao, cap, e1, e2⟩ | ⟨b, off, cap, e, _⟩
      · exact ⟨ao, cap, by rw [e1, e2]; rfl⟩
      · exact ⟨_, _, e⟩
    exact lawLongLj _ _ _ _ _ _ _ _ _ line w hT
  by_cases hn : szL gs st < 0
  · exact lawBigLj gs st line at' tl ct (by omega) vr vt w h hn
  · subst htl
    exact lineInsertLaw gs st line ts _ (by omega) vr vt w h ht (by omega) hg

set_option maxHeartbeats 1000000 in
set_option maxRecDepth 100000 in
theorem lifted (os : Os) (started : os.Started) (H : Type) (enc : TypeId × Value → H) :
    ReturnsInHanded {} Tryz.checked os 4 .any (fun w args => (Rows.fnExactLineInsertSpec.pre enc Tryz.prog Tryz.f4 [] false w args ∧ laidMetH Tryz.prog Rows.fnExactLineInsertRow.laid w) ∧ sizedMet enc Tryz.prog Tryz.f4 (OpenSpec.ofChange Rows.fnExactLineInsertSpec) false w args)
      (Rows.fnExactLineInsertSpec.post enc Tryz.prog Tryz.f4 false true false false) := by
  refine returnsInHanded_of_change_and (C := Tryz.checked) (X := fun w _ => laidMetH Tryz.prog Rows.fnExactLineInsertRow.laid w) (fun _ _ _ hh h => h.of_heap hh) own started (by kernel_rfl) Tryz.func4
    (ChangeSpec.witness_at (enc := enc) (C := Tryz.checked) (os := os) (X := fun w _ => laidMetH Tryz.prog Rows.fnExactLineInsertRow.laid w) false (laidWorld os) #[.agg #[.slice none 0 0, .slice none 0 0], .int .i64 0, .slice none 0 0] 8 rfl (by kernel_rfl) (by kernel_rfl) (by kernel_rfl) (by kernel_rfl) (by kernel_rfl) (laidWorld_met os _)) ?_
  intro W base args ds gs before hval0 hW _ _ hL _
  have hval : ∀ (j : Nat) t v, Tryz.f4.params[j]? = some t → args[j]? = some v → Value.okWide Tryz.prog W .any base t v := hval0
  have hW' := hW
  obtain ⟨p, q, hA0, hV0, rfl, hfz, hnd⟩ := hW
  have hA : DataW.TrodAll enc Tryz.prog W 0 (fun _ => true) true Tryz.f4.params.toList args.toList ds p := hA0
  have hV : DataW.TrodVars enc Tryz.prog W (fun _ => true) [] gs q := hV0
  rw [Tryz.params4] at hA hval
  obtain ⟨v0, vs0, d0, ds0, p0, q0, hargs, rfl, rfl, h0, r0⟩ := trodAll_cons hA
  obtain ⟨v1, vs1, d1, ds1, p1, q1, rfl, rfl, rfl, h1, r1⟩ := trodAll_cons r0
  obtain ⟨v2, vs2, d2, ds2, p2, q2, rfl, rfl, rfl, h2, r2⟩ := trodAll_cons r1
  obtain ⟨rfl, rfl, rfl⟩ := trodAll_nil r2
  obtain rfl : args = #[v0, v1, v2] := by cases args; simp_all
  obtain ⟨rfl, rfl⟩ : gs = [] ∧ q = [] := by
    cases gs with
    | nil => exact ⟨rfl, hV⟩
    | cons g r => exact absurd hV (by intro h; cases h)
  have k0 := h0
  have lt0 : ∀ x ∈ p0, x.block < W.heap.size := by obtain ⟨m, hm⟩ := k0; exact DataW.trod_lt m _ _ _ hm
  have k1 := h1
  have lt1 : ∀ x ∈ p1, x.block < W.heap.size := by obtain ⟨m, hm⟩ := k1; exact DataW.trod_lt m _ _ _ hm
  have k2 := h2
  have lt2 : ∀ x ∈ p2, x.block < W.heap.size := by obtain ⟨m, hm⟩ := k2; exact DataW.trod_lt m _ _ _ hm
  obtain ⟨vr, vt, gs0, st0, hv0, hrd⟩ := open_lbArg (hval 0 25 v0 rfl rfl) h0
  subst hv0
  obtain ⟨line, hv1⟩ : ∃ z : Int, v1 = .int .i64 z := okWide_int Tryz.underlying3 (hval 1 3 v1 rfl rfl)
  subst hv1
  obtain ⟨at', tl, ct, ts, hv2, htl, hmt, hrt⟩ : ∃ at' tl ct ts, v2 = .slice at' tl ct ∧ ts.length = tl ∧ tl ≤ maxLen ∧ Rd .i32 W (.slice at' tl ct) ts := by
    obtain ⟨ao2, len2, cap2, rfl⟩ := okWide_slice Tryz.underlying36 (hval 2 36 v2 rfl rfl)
    obtain ⟨fuel, hf⟩ := h2
    rcases open_ints Tryz.underlying36 Tryz.underlying21 (by kernel_rfl) hf with ⟨hcs, _⟩ | ⟨x, l, c, zs2, hcs, _, hl, hm2, hz, _, hcell, hwz⟩
    · simp [Value.cells] at hcs
      obtain ⟨rfl, rfl, rfl⟩ := hcs
      exact ⟨none, 0, 0, [], rfl, rfl, Nat.zero_le _, .inl ⟨none, 0, rfl, rfl⟩⟩
    · simp [Value.cells] at hcs
      obtain ⟨rfl, rfl, rfl⟩ := hcs
      simp only [if_true] at hz
      exact ⟨_, len2, cap2, zs2.take len2, rfl, by rw [List.length_take]; omega, by omega, Rd.of_row hcell (by omega) hl hm2⟩
  subst hv2
  have hg := handle_of_laid hL
  clear hA0 hval0
  refine (walk vr vt gs0 st0 line at' tl ct ts W hrd htl hrt hg).mono fun e W' ⟨he, bel⟩ => ?_
  subst he
  exact ⟨_, rfl, _, _, _, [], _, [], hW', trodAll_mk1 (shut_bool Tryz.underlying4 _), (trodAll_cons_mk (Below.trod laidOut (by kernel_rfl) (of_decide_eq_true (by kernel_rfl)) k0 bel lt0) (trodAll_cons_mk (Below.trod laidOut (by kernel_rfl) (of_decide_eq_true (by kernel_rfl)) k1 bel lt1) (trodAll_cons_mk (Below.trod laidOut (by kernel_rfl) (of_decide_eq_true (by kernel_rfl)) k2 bel lt2) trodAll_mk0))), rfl, bel.frame _, fun h => by cases h⟩

theorem said : Rows.FnExactLineInsertSaid :=
  OpenClaim.holds_of_wide 4 Tryz.f4 rfl rfl rfl rfl rfl rfl rfl ⟨rfl, rfl, rfl, rfl, rfl⟩ rfl rfl rfl rfl rfl (by as_aux_lemma => kernel_rfl) Tryz.func4 closedF
    (of_decide_eq_true (by as_aux_lemma => kernel_rfl)) (by unfold Func.isWrapper; first | (rw [if_pos (by decide +kernel)]; kernel_rfl) | (rw [if_neg (by decide +kernel)]; exact ⟨rfl, rfl⟩))
    (fun os started H enc _ => lifted os started H enc)

theorem plain (f : FuncId) (fn : Func) (hf : Tryz.pinned.checked.prog.funcNamed "loop.example/s01685/laws.FnExactLineInsert" = some f) (hfn : Tryz.pinned.checked.prog.funcs[f]? = some fn) :
    true = Tryz.pinned.checked.prog.looks [] ∧ ∀ (j : Nat) t, fn.params[j]? = some t → Tryz.pinned.checked.prog.wantsStandIn t = false := by
  obtain rfl : f = 4 := Option.some.inj ((show Tryz.prog.funcNamed "loop.example/s01685/laws.FnExactLineInsert" = some 4 by kernel_rfl).symm.trans hf) |>.symm
  obtain rfl : fn = Tryz.f4 := (Option.some.inj (Tryz.func4.symm.trans hfn)).symm
  refine ⟨by kernel_rfl, fun j t ht => ?_⟩
  rw [Tryz.params4] at ht
  have hm : t = 25 ∨ t = 3 ∨ t = 36 := by simpa using Array.mem_of_getElem? ht
  rcases hm with rfl | rfl | rfl
  · exact (show Tryz.prog.wantsStandIn 25 = false by kernel_rfl)
  · exact (show Tryz.prog.wantsStandIn 3 = false by kernel_rfl)
  · exact (show Tryz.prog.wantsStandIn 36 = false by kernel_rfl)

theorem lineInsert_card : Rows.FnExactLineInsertCardSaid :=
  Claim7.holds_tied_plain_at .later [] _ _ _ _ said (fun _ h => by cases h) (by as_aux_lemma => kernel_rfl) (fun _ h => by cases h) fnExactLineInsert_row_tie rfl ⟨rfl, rfl⟩ (by as_aux_lemma => kernel_rfl) rfl plain (by as_aux_lemma => kernel_rfl)
#print axioms lineInsert_card
end Go.Proofs.YtbgngikejgihgagGreatDoor
