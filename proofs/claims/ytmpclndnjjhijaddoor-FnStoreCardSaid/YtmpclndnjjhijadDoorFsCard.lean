import Derived.Test.YtmpclndnjjhijadDoorRows
import Derived.Test.YtmpclndnjjhijadDoorCards
import Derived.Test.YtmpclndnjjhijadDoorTie
import Derived.Test.YtmpclndnjjhijadDoorFs
import Derived.WalkKit
import Derived.ProofKit
import Derived.OpenShut
import Derived.ChangeOld
import Derived.Below
import Derived.Lib.SmallJoins
import Derived.ChangeSame
import Derived.ChangeVars
import Derived.JoinedOf
import Derived.RowKit
import Derived.RowKitTokens
import Derived.LaidLaws
import Derived.LaidHandle
import Derived.Stop.Joined
import Derived.SevenTiedAt
import Derived.WalkSmall
namespace Go.Proofs.YtmpclndnjjhijadDoor
open Go Go.RowKit Go.ChangeShapes Go.WideShapes Go.ChangeAt Go.Joins
set_option linter.unusedVariables false

theorem own : ownKnob Tryd.prog.godebug = none := by kernel_rfl
theorem laidOut : laidOutB Tryd.prog = true := by kernel_rfl
theorem Tryd.et : Tryd.prog.globalNamed "errors.errorType" = some 0 := by kernel_rfl
theorem Tryd.rt : (Tryd.prog.cutTypes.find? (·.1 == "internal/reflectlite.rtype")).map (·.2) = some 96 := by kernel_rfl
theorem Tryd.oneRow : ((List.range 138).filter fun t => Tryd.prog.rowNamed t [101, 114, 114, 111, 114]) = [43] := by kernel_rfl
theorem Tryd.size : Tryd.prog.types.size = 138 := by kernel_rfl

theorem Tryd.gf : Tryd.prog.globalNamed "loop.example/s01685/impl.forms" = some 1 := by kernel_rfl
theorem Tryd.gft : (Tryd.prog.globals[1]?).map (·.type) = some 93 := by kernel_rfl
theorem Tryd.cells56 : Tryd.prog.cellsOf 73 = 6 := by kernel_rfl
theorem Tryd.cells76 : Tryd.prog.cellsOf 93 = 54 := by kernel_rfl
theorem Tryd.cells5 : Tryd.prog.cellsOf 5 = 1 := by kernel_rfl
theorem Tryd.cells3 : Tryd.prog.cellsOf 3 = 1 := by kernel_rfl

theorem len6 {α : Type} {l : List α} (h : l.length = 6) : ∃ a b c d e f, l = [a, b, c, d, e, f] := by
  match l, h with
  | [a, b, c, d, e, f], _ => exact ⟨a, b, c, d, e, f, rfl⟩
theorem len9 {α : Type} {l : List α} (h : l.length = 9) : ∃ a b c d e f g i j, l = [a, b, c, d, e, f, g, i, j] := by
  match l, h with
  | [a, b, c, d, e, f, g, i, j], _ => exact ⟨a, b, c, d, e, f, g, i, j, rfl⟩

/-- The cells that read as a row. -/
theorem row_cells {w : World} {sp : Nat → Bool} {held : Bool} {fuel : Nat} {cs : List Value} {p : List MemPlace} {a b c d e f : Int}
    (h : DataW.trod (fun _ => ()) Tryd.prog w 0 sp held fuel 73 cs = some (.agg [.lit (.int .u8 a), .lit (.int .u8 b), .lit (.int .u8 c), .lit (.int .u8 d), .lit (.int .i64 e), .lit (.int .u8 f)], p)) :
    cs = [.int .u8 a, .int .u8 b, .int .u8 c, .int .u8 d, .int .i64 e, .int .u8 f] := by
  obtain ⟨xs, n, _, hx, hl, hs, hf⟩ := DataW.trod_struct Tryd.underlying73 h
  rw [Tryd.cells56] at hl
  obtain ⟨c0, c1, c2, c3, c4, c5, rfl⟩ := len6 hl
  obtain ⟨x0, x1, x2, x3, x4, x5, rfl⟩ := len6 (show xs.length = 6 from hs)
  have h0 := hf 0 (Field.mk "first" 5 0 false "" "loop.example/s01685/impl" 0) rfl
  have h1 := hf 1 (Field.mk "last" 5 1 false "" "loop.example/s01685/impl" 1) rfl
  have h2 := hf 2 (Field.mk "low" 5 2 false "" "loop.example/s01685/impl" 2) rfl
  have h3 := hf 3 (Field.mk "high" 5 3 false "" "loop.example/s01685/impl" 3) rfl
  have h4 := hf 4 (Field.mk "size" 3 4 false "" "loop.example/s01685/impl" 8) rfl
  have h5 := hf 5 (Field.mk "mask" 5 5 false "" "loop.example/s01685/impl" 16) rfl
  simp only [Tryd.cells5, Tryd.cells3] at h0 h1 h2 h3 h4 h5
  have g0 : DataW.trod (fun _ => ()) Tryd.prog w 0 sp held n 5 [c0] = some x0 := h0
  have g1 : DataW.trod (fun _ => ()) Tryd.prog w 0 sp held n 5 [c1] = some x1 := h1
  have g2 : DataW.trod (fun _ => ()) Tryd.prog w 0 sp held n 5 [c2] = some x2 := h2
  have g3 : DataW.trod (fun _ => ()) Tryd.prog w 0 sp held n 5 [c3] = some x3 := h3
  have g4 : DataW.trod (fun _ => ()) Tryd.prog w 0 sp held n 3 [c4] = some x4 := h4
  have g5 : DataW.trod (fun _ => ()) Tryd.prog w 0 sp held n 5 [c5] = some x5 := h5
  obtain ⟨n0, e0, rfl, _⟩ := DataW.trod_int Tryd.underlying5 g0
  obtain ⟨n1, e1, rfl, _⟩ := DataW.trod_int Tryd.underlying5 g1
  obtain ⟨n2, e2, rfl, _⟩ := DataW.trod_int Tryd.underlying5 g2
  obtain ⟨n3, e3, rfl, _⟩ := DataW.trod_int Tryd.underlying5 g3
  obtain ⟨n4, e4, rfl, _⟩ := DataW.trod_int Tryd.underlying3 g4
  obtain ⟨n5, e5, rfl, _⟩ := DataW.trod_int Tryd.underlying5 g5
  simp at hx e0 e1 e2 e3 e4 e5
  obtain ⟨⟨rfl, rfl, rfl, rfl, rfl, rfl⟩, _⟩ := hx
  subst e0 e1 e2 e3 e4 e5
  rfl

theorem chop {l : List Value} (h : l.length = 54) : l = (l.drop 0).take 6 ++ (l.drop 6).take 6 ++ (l.drop 12).take 6 ++ (l.drop 18).take 6 ++ (l.drop 24).take 6 ++ (l.drop 30).take 6 ++ (l.drop 36).take 6 ++ (l.drop 42).take 6 ++ (l.drop 48).take 6 := by
  apply List.ext_getElem?
  intro i
  simp only [List.getElem?_append, List.length_append, List.length_take, List.length_drop, List.getElem?_take, List.getElem?_drop, h]
  by_cases hi : i < 54
  · repeat' split
    all_goals first
      | (exfalso; omega)
      | (congr 1; omega)
  · rw [List.getElem?_eq_none (by omega)]
    repeat' split
    all_goals first
      | (exfalso; omega)
      | rfl
      | (symm; apply List.getElem?_eq_none; omega)

/-- The listed variable's one cell. -/
theorem handle_of_laid {W : World} (h : laidMetH Tryd.prog Rows.fnStoreRow.laid W) : W.cell? ⟨0, 0, none⟩ = some (.iface 96 (.agg #[.pointer (some ⟨2, 43, none⟩)])) := by
  have h' : laidMet Tryd.prog [("loop.example/s01685/impl.forms", Rows.laid_loop_example_s01685_impl_forms)] W ∧ handlesMet Tryd.prog [("errors.errorType", Rows.laid_errors_errorType)] W := h
  obtain ⟨name, u, ty, e1, e2, e3, e4, e5⟩ := h'.2 _ (List.mem_singleton.2 rfl)
  have en : name = [101, 114, 114, 111, 114] := (Option.some.inj e1).symm
  subst en
  obtain rfl := Option.some.inj (Tryd.rt.symm.trans e2)
  have hm : ty ∈ (List.range 138).filter fun t => Tryd.prog.rowNamed t [101, 114, 114, 111, 114] := List.mem_filter.2 ⟨List.mem_range.2 (by rw [← Tryd.size]; exact e3), e4⟩
  rw [Tryd.oneRow] at hm
  obtain rfl := List.mem_singleton.1 hm
  have hh : typeHandle Tryd.prog 43 = .pointer (some ⟨2, 43, none⟩) := by kernel_rfl
  rw [hh] at e5
  simpa using World.var?_cell Tryd.et e5 0

theorem tab_of_laid {W : World} (h : laidMetH Tryd.prog Rows.fnStoreRow.laid W) : W.var? Tryd.prog "loop.example/s01685/impl.forms" = some tab := by
  have h' : laidMet Tryd.prog [("loop.example/s01685/impl.forms", Rows.laid_loop_example_s01685_impl_forms)] W := (show laidMet Tryd.prog [("loop.example/s01685/impl.forms", Rows.laid_loop_example_s01685_impl_forms)] W ∧ handlesMet Tryd.prog [("errors.errorType", Rows.laid_errors_errorType)] W from h).1
  obtain ⟨ps, ⟨g, t, cs, fuel, p, q, hg, ht, hvar, hd, _, _⟩, _⟩ := h'
  obtain rfl := Option.some.inj (Tryd.gf.symm.trans hg)
  obtain rfl := Option.some.inj (Tryd.gft.symm.trans ht)
  rw [hvar]
  congr 1
  obtain ⟨xs, m, _, hx, hl, hn, hf⟩ := DataW.trod_array Tryd.underlying93 hd
  rw [Tryd.cells76] at hl
  rw [Tryd.cells56] at hf
  obtain ⟨x0, x1, x2, x3, x4, x5, x6, x7, x8, rfl⟩ := len9 hn
  have hdat := congrArg Prod.fst hx
  simp only [Rows.laid_loop_example_s01685_impl_forms, List.map_cons, List.map_nil, DataW.agg.injEq, List.cons.injEq, and_true] at hdat
  obtain ⟨d0, d1, d2, d3, d4, d5, d6, d7, d8⟩ := hdat
  have r0 := row_cells (p := x0.2) ((hf 0 (by omega)).trans (by rw [d0]; rfl))
  have r1 := row_cells (p := x1.2) ((hf 1 (by omega)).trans (by rw [d1]; rfl))
  have r2 := row_cells (p := x2.2) ((hf 2 (by omega)).trans (by rw [d2]; rfl))
  have r3 := row_cells (p := x3.2) ((hf 3 (by omega)).trans (by rw [d3]; rfl))
  have r4 := row_cells (p := x4.2) ((hf 4 (by omega)).trans (by rw [d4]; rfl))
  have r5 := row_cells (p := x5.2) ((hf 5 (by omega)).trans (by rw [d5]; rfl))
  have r6 := row_cells (p := x6.2) ((hf 6 (by omega)).trans (by rw [d6]; rfl))
  have r7 := row_cells (p := x7.2) ((hf 7 (by omega)).trans (by rw [d7]; rfl))
  have r8 := row_cells (p := x8.2) ((hf 8 (by omega)).trans (by rw [d8]; rfl))
  have hc := chop hl
  simp only [Nat.zero_mul, Nat.one_mul, Nat.reduceMul] at r0 r1 r2 r3 r4 r5 r6 r7 r8
  rw [r0, r1, r2, r3, r4, r5, r6, r7, r8] at hc
  apply Array.toList_inj.1
  rw [hc]
  rfl

theorem tab_world {W : World} (h : W.var? Tryd.prog "loop.example/s01685/impl.forms" = some tab) : Tab W := by
  unfold World.var? at h
  simp only [Tryd.gf, Option.bind_some] at h
  split at h
  · rename_i cs t fr hh
    cases h
    exact ⟨t, fr, hh⟩
  · cases h

noncomputable def laidWorld (os : Os) : World :=
  let w0 := World.holding Tryd.prog os ⟨#[], #[], []⟩
  { w0 with heap := (w0.heap.modify 1 fun
      | .cells _ t frozen => .cells tab t frozen
      | o => o).modify 0 fun
      | .cells _ t frozen => .cells #[.iface 96 (.agg #[.pointer (some ⟨2, 43, none⟩)])] t frozen
      | o => o }
theorem laidWorld_met (os : Os) : laidMetH Tryd.prog Rows.fnStoreRow.laid ((laidWorld os).forCall (fun _ _ => 0) ⟨#[], #[.slice none 0 0], []⟩).memory :=
  laidMetH_of_parts (laidMet_of_run' 8 (by kernel_rfl) (by kernel_rfl)) (by kernel_rfl)

theorem reads_table {H : Type} (enc : TypeId × Value → H) (W : World) (sp : Nat → Bool) : DataW.trod enc Tryd.prog W 0 sp true 4 93 tab.toList = some (Rows.laid_loop_example_s01685_impl_forms, []) := by kernel_rfl

/-- A slice of integers that came in. -/
def IsRow (k : IntKind) (w : World) (a : Option Addr) (len cap : Nat) (zs : List Int) : Prop :=
  (a = none ∧ len = 0 ∧ cap = 0 ∧ zs = []) ∨
  ∃ x, a = some x ∧ len ≤ cap ∧ cap ≤ maxLen ∧ zs.length = cap ∧ (∀ i, i < zs.length → w.cell? (x.add i) = some (.int k (zs.getD i 0))) ∧ ∀ n ∈ zs, (Lit.int k n).wf = true

theorem rowRd {k : IntKind} {w : World} {a : Option Addr} {len cap : Nat} {zs : List Int} (h : IsRow k w a len cap zs) : len ≤ maxLen ∧ Rd k w (.slice a len cap) (zs.take len) ∧ (zs.take len).length = len ∧ ∀ n ∈ zs.take len, (Lit.int k n).wf = true := by
  rcases h with ⟨rfl, rfl, rfl, rfl⟩ | ⟨x, rfl, hl, hm, hz, hcell, hwz⟩
  · exact ⟨Nat.zero_le _, .inl ⟨none, 0, rfl, rfl⟩, rfl, by simp⟩
  · exact ⟨by omega, Rd.of_row hcell (by omega) (by omega) (by omega), by rw [List.length_take]; omega, fun n hn => hwz n (List.mem_of_mem_take hn)⟩

set_option maxHeartbeats 400000 in
theorem storeLong (ao : Option Addr) (len cap : Nat) (w : World) (hn : 1048576 < len) (hm : len ≤ maxLen) :
    Calls Tryd.prog 3 #[.slice ao len cap] w fun e w' => e = .returned (.bool true) ∧ Below w.heap.size w w' := by
  unfold maxLen at hm
  have hgt : (1048576 : Int) < (len : Int) := by omega
  go_enter Tryd.func3, Tryd.ntmps3
  go_wp2
  go_ret
  exact ⟨rfl, Below.refl _ _⟩

theorem walk (a0 : Option Addr) (len0 cap0 : Nat) (z0 : List Int) (w : World) (w0 : IsRow .u8 w a0 len0 cap0 z0) (hT : Tab w) (hg : w.cell? ⟨0, 0, none⟩ = some (.iface 96 (.agg #[.pointer (some ⟨2, 43, none⟩)]))) :
    Calls Tryd.prog 3 #[.slice a0 len0 cap0] w fun e w' => e = .returned (.bool true) ∧ Below w.heap.size w w' := by
  obtain ⟨m0, r0, l0, wf0⟩ := rowRd w0
  by_cases hn0 : 1048576 < len0
  · exact storeLong _ _ _ w hn0 m0
  · exact storeLaw _ _ w r0 (fun z hz => bounds_u8 (wf0 z hz)) (by omega) hT hg

set_option maxRecDepth 100000 in
theorem lifted (os : Os) (started : os.Started) (H : Type) (enc : TypeId × Value → H) :
    ReturnsInHanded {} Tryd.checked os 3 .any (fun w args => (Rows.fnStoreSpec.pre enc Tryd.prog Tryd.f3 [] false w args ∧ laidMetH Tryd.prog Rows.fnStoreRow.laid w) ∧ sizedMet enc Tryd.prog Tryd.f3 (OpenSpec.ofChange Rows.fnStoreSpec) false w args)
      (Rows.fnStoreSpec.post enc Tryd.prog Tryd.f3 false true false false) := by
  refine returnsInHanded_of_change_and (C := Tryd.checked) (X := fun w _ => laidMetH Tryd.prog Rows.fnStoreRow.laid w) (fun _ _ _ hh h => h.of_heap hh) own started (by kernel_rfl) Tryd.func3
    (ChangeSpec.witness_at (enc := enc) (C := Tryd.checked) (os := os) (X := fun w _ => laidMetH Tryd.prog Rows.fnStoreRow.laid w) false (laidWorld os) #[.slice none 0 0] 8 rfl (by kernel_rfl) (by kernel_rfl) (by kernel_rfl) (by kernel_rfl) (by kernel_rfl) (laidWorld_met os)) ?_
  intro W base args ds gs before hval0 hW _ _ hL _
  have hval : ∀ (j : Nat) t v, Tryd.f3.params[j]? = some t → args[j]? = some v → Value.okWide Tryd.prog W .any base t v := hval0
  have hW' := hW
  obtain ⟨p, q, hA0, hV0, rfl, hfz, hnd⟩ := hW
  have hA : DataW.TrodAll enc Tryd.prog W 0 (fun _ => true) true Tryd.f3.params.toList args.toList ds p := hA0
  have hV : DataW.TrodVars enc Tryd.prog W (fun _ => true) ["loop.example/s01685/impl.forms"] gs q := hV0
  rw [Tryd.params3] at hA hval
  obtain ⟨v0, vs0, d0, ds0, p0, q0, hargs, rfl, rfl, h0, r0⟩ := trodAll_cons hA
  obtain ⟨rfl, rfl, rfl⟩ := trodAll_nil r0
  obtain rfl : args = #[v0] := by cases args; simp_all
  obtain ⟨g, t, cs, fuel, dg, p', rfl, hg, ht, hvar, hd, rfl⟩ := trodVars_one hV
  obtain rfl := Option.some.inj (Tryd.gf.symm.trans hg)
  obtain rfl := Option.some.inj (Tryd.gft.symm.trans ht)
  obtain rfl : cs = tab := Option.some.inj (hvar.symm.trans (tab_of_laid hL))
  obtain ⟨rfl, rfl⟩ := DataW.Trod.unique (v := .agg tab) ⟨fuel, hd⟩ ⟨4, reads_table enc W _⟩
  obtain ⟨a0, len0, cap0, rfl⟩ := okWide_slice Tryd.underlying22 (hval 0 22 v0 rfl rfl)
  have k0 := h0
  have lt0 : ∀ x ∈ p0, x.block < W.heap.size := by obtain ⟨m, hm⟩ := k0; exact DataW.trod_lt m _ _ _ hm
  obtain ⟨z0, w0⟩ : ∃ zs, IsRow .u8 W a0 len0 cap0 zs := by
    obtain ⟨fuel, hf⟩ := h0
    rcases open_ints Tryd.underlying22 Tryd.underlying5 (by kernel_rfl) hf with ⟨hcs, _⟩ | ⟨x, l, c, zs, hcs, _, hl, hm, hz, _, hcell, hwz⟩
    · simp [Value.cells] at hcs
      obtain ⟨rfl, rfl, rfl⟩ := hcs
      exact ⟨[], .inl ⟨rfl, rfl, rfl, rfl⟩⟩
    · simp [Value.cells] at hcs
      obtain ⟨rfl, rfl, rfl⟩ := hcs
      exact ⟨zs, .inr ⟨_, rfl, hl, hm, by simpa using hz, hcell, hwz⟩⟩
  have hT := tab_world hvar
  have hlt : 1 < W.heap.size := by
    obtain ⟨t, fr, hh⟩ := hT
    rcases Nat.lt_or_ge 1 W.heap.size with h | h
    · exact h
    · rw [Array.getElem?_eq_none h] at hh; cases hh
  clear hA0 hV0 hval0
  have hgh := handle_of_laid hL
  refine (walk a0 len0 cap0 z0 W w0 hT hgh).mono fun e W' ⟨he, bel⟩ => ?_
  subst he
  exact ⟨_, rfl, _, _, _, [], _, _, hW', trodAll_mk1 (shut_bool Tryd.underlying4 _), (trodAll_cons_mk (Below.trod laidOut (by kernel_rfl) (of_decide_eq_true (by kernel_rfl)) k0 bel lt0) trodAll_mk0), trodVars_mk1 Tryd.gf Tryd.gft (var?_below bel Tryd.gf hlt hvar) (reads_table enc W' _), bel.frame _, fun h => by cases h⟩

theorem said : Rows.FnStoreSaid :=
  OpenClaim.holds_of_wide 3 Tryd.f3 rfl rfl rfl rfl rfl rfl rfl ⟨rfl, rfl, rfl, rfl, rfl⟩ rfl rfl rfl rfl rfl (by kernel_rfl) Tryd.func3 (by kernel_rfl)
    (of_decide_eq_true (by kernel_rfl)) (by unfold Func.isWrapper; first | (rw [if_pos (by decide +kernel)]; kernel_rfl) | (rw [if_neg (by decide +kernel)]; exact ⟨rfl, rfl⟩))
    (fun os started H enc _ => lifted os started H enc)

theorem plain (f : FuncId) (fn : Func) (hf : Tryd.pinned.checked.prog.funcNamed "loop.example/s01685/laws.FnStore" = some f) (hfn : Tryd.pinned.checked.prog.funcs[f]? = some fn) :
    true = Tryd.pinned.checked.prog.looks [] ∧ ∀ (j : Nat) t, fn.params[j]? = some t → Tryd.pinned.checked.prog.wantsStandIn t = false := by
  obtain rfl : f = 3 := Option.some.inj ((show Tryd.prog.funcNamed "loop.example/s01685/laws.FnStore" = some 3 by kernel_rfl).symm.trans hf) |>.symm
  obtain rfl : fn = Tryd.f3 := (Option.some.inj (Tryd.func3.symm.trans hfn)).symm
  refine ⟨by kernel_rfl, fun j t ht => ?_⟩
  rw [Tryd.params3] at ht
  have hm : t = 22 := by simpa using Array.mem_of_getElem? ht
  subst hm
  exact (show Tryd.prog.wantsStandIn 22 = false by kernel_rfl)

theorem store_card : Rows.FnStoreCardSaid :=
  Claim7.holds_tied_plain_at .later [] _ _ _ _ said (fun _ h => by cases h) (by kernel_rfl) (fun _ h => by cases h) fnStore_row_tie rfl ⟨rfl, rfl⟩ (by kernel_rfl) rfl plain (by kernel_rfl)
#print axioms store_card
end Go.Proofs.YtmpclndnjjhijadDoor
