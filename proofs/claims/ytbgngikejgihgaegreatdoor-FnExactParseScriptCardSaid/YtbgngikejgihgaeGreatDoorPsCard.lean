import Derived.Test.YtbgngikejgihgaeGreatDoorRows
import Derived.Test.YtbgngikejgihgaeGreatDoorCards
import Derived.Test.YtbgngikejgihgaeGreatDoorTie
import Derived.Test.YtbgngikejgihgaeGreatDoorPsLaw
import Derived.Test.YtbgngikejgihgaeGreatDoorPsCl
import Derived.WalkKit
import Derived.ProofKit
import Derived.OpenShut
import Derived.ChangeOld
import Derived.Below
import Derived.Lib.SmallJoins
import Derived.ChangeSame
import Derived.ChangeVars
import Derived.JoinedOf
import Derived.RowKit
import Derived.RowKitTokens
import Derived.LaidLaws
import Derived.LaidHandle
import Derived.Stop.Joined
import Derived.SevenTiedAt
import Derived.Stop.LaidErr
import Derived.Lib.LaidTab
import Derived.Handed
import Derived.Shelf.Vars
import Derived.WalkSmall
namespace Go.Proofs.YtbgngikejgihgaeGreatDoor
open Go Go.RowKit Go.ChangeShapes Go.WideShapes Go.ChangeAt Go.Joins
set_option linter.unusedVariables false

theorem own : ownKnob Tryz.prog.godebug = none := by kernel_rfl
theorem laidOut : laidOutB Tryz.prog = true := by kernel_rfl
theorem Tryz.et : Tryz.prog.globalNamed "errors.errorType" = some 1 := by kernel_rfl
theorem Tryz.rt : (Tryz.prog.cutTypes.find? (·.1 == "internal/reflectlite.rtype")).map (·.2) = some 111 := by kernel_rfl
theorem Tryz.oneRow : ((List.range 196).filter fun t => Tryz.prog.rowNamed t [101, 114, 114, 111, 114]) = [40] := by kernel_rfl
theorem Tryz.size : Tryz.prog.types.size = 196 := by kernel_rfl

def t32 : List Int := [0, 1, 28, 2, 29, 14, 24, 3, 30, 22, 20, 15, 25, 17, 4, 8, 31, 27, 13, 23, 21, 19, 16, 7, 26, 12, 18, 6, 11, 5, 10, 9]
def t64 : List Int := [0, 1, 56, 2, 57, 49, 28, 3, 61, 58, 42, 50, 38, 29, 17, 4, 62, 47, 59, 36, 45, 43, 51, 22, 53, 39, 33, 30, 24, 18, 12, 5, 63, 55, 48, 27, 60, 41, 37, 16, 46, 35, 44, 21, 52, 32, 23, 11, 54, 26, 40, 15, 34, 20, 31, 10, 25, 14, 19, 9, 13, 8, 7, 6]
theorem Tryz.gP : Tryz.prog.globalNamed "internal/strconv.uint64pow10" = some 7 := by kernel_rfl
theorem Tryz.gPt : (Tryz.prog.globals[(7 : Nat)]?).map (·.type) = some 161 := by kernel_rfl
theorem Tryz.g32 : Tryz.prog.globalNamed "math/bits.deBruijn32tab" = some 8 := by kernel_rfl
theorem Tryz.g32t : (Tryz.prog.globals[(8 : Nat)]?).map (·.type) = some 166 := by kernel_rfl
theorem Tryz.g64 : Tryz.prog.globalNamed "math/bits.deBruijn64tab" = some 9 := by kernel_rfl
theorem Tryz.g64t : (Tryz.prog.globals[(9 : Nat)]?).map (·.type) = some 167 := by kernel_rfl
theorem Tryz.cellsP : Tryz.prog.cellsOf 161 = 20 := by kernel_rfl
theorem Tryz.cells32 : Tryz.prog.cellsOf 166 = 32 := by kernel_rfl
theorem Tryz.cells64 : Tryz.prog.cellsOf 167 = 64 := by kernel_rfl
theorem Tryz.cellsU : Tryz.prog.cellsOf 102 = 1 := by kernel_rfl
theorem Tryz.cellsB : Tryz.prog.cellsOf 5 = 1 := by kernel_rfl


theorem Tryz.gE1 : Tryz.prog.globalNamed "strconv.ErrRange" = some 6 := by kernel_rfl
theorem Tryz.gE1t : (Tryz.prog.globals[(6 : Nat)]?).map (·.type) = some 40 := by kernel_rfl
theorem Tryz.gE2 : Tryz.prog.globalNamed "strconv.ErrSyntax" = some 5 := by kernel_rfl
theorem Tryz.gE2t : (Tryz.prog.globals[(5 : Nat)]?).map (·.type) = some 40 := by kernel_rfl

/-- A variable that holds an interface value. -/
theorem laid_iface {P : Program} {n nm : String} {d : DataW Unit} {r : List (String × DataW Unit)} {W : World} {g : Nat} {ti : TypeId} {ms : Array (String × TypeId)}
    (h : laidMet P ((n, .iface nm d) :: r) W) (hg : P.globalNamed n = some g) (ht : (P.globals[g]?).map (·.type) = some ti) (hi : P.underlying ti = some (.interface ms)) :
    ∃ ev, W.cell? ⟨g, 0, none⟩ = some ev ∧ (ev = .nilIface ∨ ∃ te pe, ev = .iface te pe) := by
  obtain ⟨ps, ⟨g0, t0, cs0, f0, p0, q0, hg0, ht0, hv0, hd0, _, e0⟩, _, _⟩ := h
  obtain rfl := Option.some.inj (hg.symm.trans hg0)
  obtain rfl := Option.some.inj (ht.symm.trans ht0)
  obtain ⟨l0⟩ := cs0
  obtain ⟨f1, u, v, rfl, _, _⟩ := iface_of_trod hi hd0
  exact ⟨.iface u v, by simpa using World.var?_cell hg0 hv0 0, .inr ⟨u, v, rfl⟩⟩

/-- Three cells a row. -/
theorem flat3 {α : Type} (F : α → List Value) (hF : ∀ a, (F a).length = 3) : ∀ (l : List α) (cs : List Value), cs.length = l.length * 3 → (∀ i c, l[i]? = some c → (cs.drop (i * 3)).take 3 = F c) → cs = l.flatMap F
  | [], cs, h, _ => by simpa using h
  | a :: l, cs, h, hi => by
    have h0 := hi 0 a rfl
    rw [Nat.zero_mul, List.drop_zero] at h0
    rw [List.flatMap_cons, ← h0, ← flat3 F hF l (cs.drop 3) (by simp at h ⊢; omega) (fun i c hc => by
      have := hi (i + 1) c (by simpa using hc)
      rw [← this, List.drop_drop]
      congr 2; omega)]
    exact (List.take_append_drop 3 cs).symm
def fC (c : List UInt8 × Int × List UInt8) : List Value := [.string ⟨c.1.toArray⟩, .int .i64 c.2.1, .string ⟨c.2.2.toArray⟩]
def fD (c : List UInt8 × Int × List UInt8) : DataW Unit := .agg [.lit (.string c.1), .lit (.int .i64 c.2.1), .lit (.string c.2.2)]
set_option maxRecDepth 100000 in
theorem cmds_data : (Rows.laid_loop_example_s01685_impl_commands : DataW Unit) = .agg (cmds.map fD) := by rfl
set_option maxRecDepth 100000 in
theorem cmds_cells : cmdTab.toList = cmds.flatMap fC := by rfl
theorem Tryz.gCM : Tryz.prog.globalNamed "loop.example/s01685/impl.commands" = some 0 := by kernel_rfl
theorem Tryz.gCMt : (Tryz.prog.globals[(0 : Nat)]?).map (·.type) = some 81 := by kernel_rfl
theorem Tryz.cellsCM : Tryz.prog.cellsOf 81 = 57 := by kernel_rfl
theorem Tryz.cellsCD : Tryz.prog.cellsOf 59 = 3 := by kernel_rfl
theorem Tryz.cells9 : Tryz.prog.cellsOf 9 = 1 := by kernel_rfl
theorem Tryz.cells2 : Tryz.prog.cellsOf 3 = 1 := by kernel_rfl
theorem len3 {α : Type} {l : List α} (h : l.length = 3) : ∃ a b c, l = [a, b, c] := by
  match l, h with
  | [a, b, c], _ => exact ⟨a, b, c, rfl⟩
set_option maxRecDepth 100000 in
theorem row_of {w : World} {fuel : Nat} {cs : List Value} {x : DataW Unit × List MemPlace} {c : List UInt8 × Int × List UInt8} (h : DataW.trod (fun _ => ()) Tryz.prog w 0 (fun _ => true) false fuel 59 cs = some x) (hx : x.1 = fD c) : cs = fC c := by
  obtain ⟨xs, n, _, e, hl, hxl, hat⟩ := DataW.trod_struct Tryz.underlying59 h
  rw [Tryz.cellsCD] at hl
  obtain ⟨y0, y1, y2, rfl⟩ := len3 (show xs.length = 3 from hxl)
  obtain ⟨k0, k1, k2, rfl⟩ := len3 hl
  have h0 : DataW.trod (fun _ => ()) Tryz.prog w 0 (fun _ => true) false n 9 (([k0, k1, k2].drop 0).take (Tryz.prog.cellsOf 9)) = some y0 := hat 0 _ rfl
  have h1 : DataW.trod (fun _ => ()) Tryz.prog w 0 (fun _ => true) false n 3 (([k0, k1, k2].drop 1).take (Tryz.prog.cellsOf 3)) = some y1 := hat 1 _ rfl
  have h2 : DataW.trod (fun _ => ()) Tryz.prog w 0 (fun _ => true) false n 9 (([k0, k1, k2].drop 2).take (Tryz.prog.cellsOf 9)) = some y2 := hat 2 _ rfl
  rw [Tryz.cells9] at h0 h2
  rw [Tryz.cells2] at h1
  obtain ⟨s0, e0, f0, _⟩ := DataW.trod_string Tryz.underlying9 h0
  obtain ⟨n1, e1, f1, _⟩ := DataW.trod_int Tryz.underlying3 h1
  obtain ⟨s2, e2, f2, _⟩ := DataW.trod_string Tryz.underlying9 h2
  obtain rfl : k0 = .string s0 := by injection e0
  obtain rfl : k1 = .int .i64 n1 := by injection e1
  obtain rfl : k2 = .string s2 := by injection e2
  subst f0 f1 f2
  rw [e] at hx
  unfold fD at hx
  injection hx with hx
  injection hx with q0 hx
  injection hx with q1 hx
  injection hx with q2 hx
  injection q0 with q0
  injection q1 with q1
  injection q2 with q2
  injection q0 with q0
  injection q1 with _ q1
  injection q2 with q2
  unfold fC
  rw [← q0, ← q1, ← q2]
def zC : Array Value := (List.replicate 19 [Value.string ⟨#[]⟩, .int .i64 0, .string ⟨#[]⟩]).flatten.toArray
set_option maxRecDepth 100000 in
theorem laid_cmds {W : World} {r : List (String × DataW Unit)} (h : laidMet Tryz.prog (("loop.example/s01685/impl.commands", Rows.laid_loop_example_s01685_impl_commands) :: r) W) (hsh : W.ShapedOpen Tryz.prog) : TabC W := by
  obtain ⟨ps, ⟨g', t', cs, fuel, p, q, hg', ht', hvar, hd, _, _⟩, _⟩ := h
  obtain rfl := Option.some.inj (Tryz.gCM.symm.trans hg')
  obtain rfl := Option.some.inj (Tryz.gCMt.symm.trans ht')
  obtain ⟨cs2, hh, hs, _⟩ := hsh.1 0 zC 81 (of_decide_eq_true (by kernel_rfl)) (by kernel_rfl)
  have e2 : cs2 = cs := by
    unfold World.var? at hvar
    rw [Tryz.gCM, Option.bind_some, hh] at hvar
    exact Option.some.inj hvar
  subst e2
  obtain ⟨xs, m, _, hx, hl, hxl, hat⟩ := DataW.trod_array Tryz.underlying81 hd
  rw [cmds_data] at hx
  have hm : cmds.map fD = xs.map (·.1) := by
    have := congrArg Prod.fst hx
    simpa using this
  rw [Tryz.cellsCM] at hl
  have hc : cs2.toList = cmds.flatMap fC := by
    refine flat3 fC (fun _ => rfl) cmds cs2.toList (by rw [hl]; rfl) (fun i c hc => ?_)
    have hi : i < 19 := by have := (List.getElem?_eq_some_iff.1 hc).1; exact this
    have h1 := hat i hi
    rw [Tryz.cellsCD] at h1
    have h2 : (xs.map (·.1))[i]? = some (fD c) := by rw [← hm, List.getElem?_map, hc]; rfl
    rw [List.getElem?_map] at h2
    obtain ⟨x, hx1, hx2⟩ := Option.map_eq_some_iff.1 h2
    exact row_of (h1.trans hx1) hx2
  unfold TabC
  rw [hh]
  congr 2
  rw [← Array.toList_inj, hc, cmds_cells]

theorem var_cmds {W : World} (h : TabC W) : W.var? Tryz.prog "loop.example/s01685/impl.commands" = some cmdTab := by
  unfold World.var?
  rw [Tryz.gCM, Option.bind_some]
  unfold TabC at h
  rw [h]
theorem reads_cmds {H : Type} (enc : TypeId × Value → H) (W : World) (sp : Nat → Bool) : DataW.trod enc Tryz.prog W 0 sp true 4 81 cmdTab.toList = some (Rows.laid_loop_example_s01685_impl_commands, []) := by kernel_rfl
set_option maxRecDepth 100000 in
/-- What the laid variables and the world's shape give. -/
theorem gs_of_laid {W : World} (h : laidMetH Tryz.prog Rows.fnExactParseScriptRow.laid W) (hsh : W.ShapedOpen Tryz.prog) : GS W ∧ TabC W := by
  have h' : laidMet Tryz.prog (("math/bits.deBruijn32tab", Lib.tabData .u8 t32) :: ("math/bits.deBruijn64tab", Lib.tabData .u8 t64) :: ("internal/strconv.uint64pow10", Lib.tabData .u64 Lib.pow10Tab) :: ("unicode/utf8.acceptRanges", Rows.laid_unicode_utf8_acceptRanges) :: ("strconv.ErrRange", Rows.laid_strconv_ErrRange) :: ("strconv.ErrSyntax", Rows.laid_strconv_ErrSyntax) :: ("loop.example/s01685/impl.commands", Rows.laid_loop_example_s01685_impl_commands) :: ("unicode/utf8.first", Rows.laid_unicode_utf8_first) :: []) W ∧ handlesMet Tryz.prog [("errors.errorType", Rows.laid_errors_errorType)] W := h
  obtain ⟨h1, hh⟩ := h'
  have h3 := h1.tail.tail
  have h5 := h3.tail.tail
  have h6 := h5.tail
  refine ⟨⟨Lib.tabIs_of_head Tryz.gP Tryz.gPt Tryz.underlying161 Tryz.underlying102 Tryz.cellsU Tryz.cellsP h3, laid_iface h6 Tryz.gE2 Tryz.gE2t Tryz.underlying40, laid_iface h5 Tryz.gE1 Tryz.gE1t Tryz.underlying40, cell_of_shapedOpen_int (t := 3) (zero := #[.int .i64 0]) hsh (of_decide_eq_true (by kernel_rfl)) (by kernel_rfl) rfl (by kernel_rfl) (by kernel_rfl) Tryz.underlying3, ?_⟩, laid_cmds h6.tail hsh⟩
  obtain ⟨name, u, ty, e1, e2, e3, e4, e5⟩ := hh _ (List.mem_singleton.2 rfl)
  have en : name = [101, 114, 114, 111, 114] := (Option.some.inj e1).symm
  subst en
  obtain rfl := Option.some.inj (Tryz.rt.symm.trans e2)
  have hm : ty ∈ (List.range 196).filter fun t => Tryz.prog.rowNamed t [101, 114, 114, 111, 114] := List.mem_filter.2 ⟨List.mem_range.2 (by rw [← Tryz.size]; exact e3), e4⟩
  rw [Tryz.oneRow] at hm
  obtain rfl := List.mem_singleton.1 hm
  have hty : typeHandle Tryz.prog 40 = .pointer (some ⟨10, 40, none⟩) := by kernel_rfl
  rw [hty] at e5
  simpa using World.var?_cell Tryz.et e5 0

def c32 : Array Value := (t32.map fun z => Value.int .u8 z).toArray
def c64 : Array Value := (t64.map fun z => Value.int .u8 z).toArray
def cPw : Array Value := (Lib.pow10Tab.map fun z => Value.int .u64 z).toArray
def cAr : Array Value := ([128, 191, 160, 191, 128, 159, 144, 191, 128, 143, 0, 0, 0, 0, 0, 0, 0, 0, 0, 0, 0, 0, 0, 0, 0, 0, 0, 0, 0, 0, 0, 0].map fun z => Value.int .u8 z).toArray
def cFi : Array Value := (Go.Pinned.utf8FirstZ.map fun (z : Nat) => Value.int .u8 (Int.ofNat z)).toArray
abbrev rangeS : ByteArray := { data := #[118, 97, 108, 117, 101, 32, 111, 117, 116, 32, 111, 102, 32, 114, 97, 110, 103, 101] }
abbrev syntaxS : ByteArray := { data := #[105, 110, 118, 97, 108, 105, 100, 32, 115, 121, 110, 116, 97, 120] }
noncomputable def low : Nat := (World.holding Tryz.prog default ⟨#[], #[], []⟩).heap.size
/-- A world for the witness. -/
noncomputable def laidWorld (os : Os) : World :=
  let w0 := World.holding Tryz.prog os ⟨#[.cells #[.string rangeS] 159, .cells #[.string syntaxS] 159], #[], []⟩
  { w0 with heap := (((((((((w0.heap.modify 7 fun
      | .cells _ t frozen => .cells cPw t frozen
      | o => o).modify 8 fun
      | .cells _ t frozen => .cells c32 t frozen
      | o => o).modify 9 fun
      | .cells _ t frozen => .cells c64 t frozen
      | o => o).modify 4 fun
      | .cells _ t frozen => .cells cAr t frozen
      | o => o).modify 3 fun
      | .cells _ t frozen => .cells cFi t frozen
      | o => o).modify 6 fun
      | .cells _ t frozen => .cells #[.iface 157 (.pointer (some ⟨low, 0, none⟩))] t frozen
      | o => o).modify 5 fun
      | .cells _ t frozen => .cells #[.iface 157 (.pointer (some ⟨low + 1, 0, none⟩))] t frozen
      | o => o).modify 0 fun
      | .cells _ t frozen => .cells cmdTab t frozen
      | o => o).modify 1 fun
      | .cells _ t frozen => .cells #[.iface 111 (.agg #[.pointer (some ⟨10, 40, none⟩)])] t frozen
      | o => o) }
theorem laidWorld_met (os : Os) (args : Array Value) : laidMetH Tryz.prog Rows.fnExactParseScriptRow.laid ((laidWorld os).forCall (fun _ _ => 0) ⟨#[], args, []⟩).memory :=
  laidMetH_of_parts (laidMet_of_run' 8 (by kernel_rfl) (by kernel_rfl)) (by kernel_rfl)

/-- The wrap with the world's shape kept. -/
theorem wrap_shaped {H : Type} {enc : TypeId × Value → H} {a : Assume} {C : Checked} {os : Os} {f : FuncId} {fn : Func} {s : ChangeSpec} {conds : List PathCond} {apart fresh handsOn again : Bool} {X : World → Array Value → Prop}
    (hX : ∀ (w w' : World) (args : Array Value), w.heap = w'.heap → X w args → X w' args)
    (own : ownKnob C.prog.godebug = none) (started : os.Started) (noInit : C.prog.inits.idxOf? f = none) (hfn : C.prog.funcs[f]? = some fn)
    (witness : ∃ (w : World) (tape : Tape) (i : Input), w.os = os ∧ (w.forCall tape i).Shaped C.prog ∧ i.vars = [] ∧ Input.okWide C.prog (w.forCall tape i) .any w.heap.size f i ∧
      ((s.pre enc C.prog fn conds apart (w.forCall tape i).memory i.args ∧ X (w.forCall tape i).memory i.args) ∧ sizedMet enc C.prog fn (OpenSpec.ofChange s) apart (w.forCall tape i).memory i.args) ∧ a.holds C.prog (lone (Frame.enter C.prog f i.args .normal) [] (w.forCall tape i)))
    (contract : ∀ (W : World) (base : Nat) (args : Array Value) (ds gs : List (DataW H)) (before : List MemPlace),
      (∀ (j : Nat) t v, fn.params[j]? = some t → args[j]? = some v → Value.okWide C.prog W .any base t v) →
      DataW.Whole enc C.prog fn.params.toList s.vars apart W args.toList ds gs before →
      W.ShapedOpen C.prog → X W args →
      Calls C.prog f args W fun e W' => ∃ v, e = .returned v ∧ s.post enc C.prog fn apart fresh handsOn again W args v W') :
    ReturnsInHanded a C os f .any (fun w args => (s.pre enc C.prog fn conds apart w args ∧ X w args) ∧ sizedMet enc C.prog fn (OpenSpec.ofChange s) apart w args) (s.post enc C.prog fn apart fresh handsOn again) := by
  refine returnsInHanded_of_calls own started noInit witness ?_
  intro w tape i _ hsh _ hok hpre hholds
  obtain ⟨_, _, _, fn', hfn', _, _, _, _, hval⟩ := hok
  have e : fn' = fn := Option.some.inj (hfn'.symm.trans hfn)
  subst e
  obtain ⟨⟨⟨ds, gs, before, hw, hc⟩, hx⟩, hz⟩ := hpre
  have hw' := DataW.Whole.of_heap (w' := w.forCall tape i) (by rfl) hw
  refine (contract (w.forCall tape i) w.heap.size i.args ds gs before hval hw' hsh (hX _ _ _ (by rfl) hx)).mono fun e W' ⟨v, he, hp⟩ => ?_
  subst he
  exact ChangeSpec.post_blind hp

theorem bts_of (zs : List Int) (h : ∀ z ∈ zs, 0 ≤ z ∧ z ≤ 255) : ∃ l : List UInt8, bts l = zs := by
  refine ⟨zs.map fun z => UInt8.ofNat z.toNat, ?_⟩
  unfold bts
  rw [List.map_map]
  conv => rhs; rw [← List.map_id zs]
  refine List.map_congr_left fun z hz => ?_
  have := h z hz
  simp only [Function.comp, id]
  rw [UInt8.toNat_ofNat']
  omega

/-- A slice of integers that came in. -/
def IsRow (k : IntKind) (w : World) (a : Option Addr) (len cap : Nat) (zs : List Int) : Prop :=
  (a = none ∧ len = 0 ∧ cap = 0 ∧ zs = []) ∨
  ∃ x, a = some x ∧ len ≤ cap ∧ cap ≤ maxLen ∧ zs.length = cap ∧ (∀ i, i < zs.length → w.cell? (x.add i) = some (.int k (zs.getD i 0))) ∧ ∀ n ∈ zs, (Lit.int k n).wf = true

theorem rowRd {k : IntKind} {w : World} {a : Option Addr} {len cap : Nat} {zs : List Int} (h : IsRow k w a len cap zs) : len ≤ maxLen ∧ Rd k w (.slice a len cap) (zs.take len) ∧ (zs.take len).length = len ∧ ∀ n ∈ zs.take len, (Lit.int k n).wf = true := by
  rcases h with ⟨rfl, rfl, rfl, rfl⟩ | ⟨x, rfl, hl, hm, hz, hcell, hwz⟩
  · exact ⟨Nat.zero_le _, .inl ⟨none, 0, rfl, rfl⟩, rfl, by simp⟩
  · exact ⟨by omega, Rd.of_row hcell (by omega) (by omega) (by omega), by rw [List.length_take]; omega, fun n hn => hwz n (List.mem_of_mem_take hn)⟩

theorem walk (a0 : Option Addr) (len0 cap0 : Nat) (z0 : List Int) (w : World) (w0 : IsRow .u8 w a0 len0 cap0 z0) (hg : GS w ∧ TabC w) :
    Calls Tryz.prog 3 #[.slice a0 len0 cap0] w fun e w' => e = .returned (.bool true) ∧ Below w.heap.size w w' := by
  obtain ⟨m0, r0, l0, wf0⟩ := rowRd w0
  by_cases hn0 : 1048576 < len0
  · exact lawLong _ _ _ w hn0 m0
  · obtain ⟨l, hl⟩ := bts_of _ (fun z hz => bounds_u8 (wf0 z hz))
    exact law l _ w (by rw [hl]; exact r0) (by have h9 := congrArg List.length hl; rw [bts_length] at h9; omega) hg.1 hg.2

set_option maxRecDepth 100000 in
theorem lifted (os : Os) (started : os.Started) (H : Type) (enc : TypeId × Value → H) :
    ReturnsInHanded {} Tryz.checked os 3 .any (fun w args => (Rows.fnExactParseScriptSpec.pre enc Tryz.prog Tryz.f3 [] false w args ∧ laidMetH Tryz.prog Rows.fnExactParseScriptRow.laid w) ∧ sizedMet enc Tryz.prog Tryz.f3 (OpenSpec.ofChange Rows.fnExactParseScriptSpec) false w args)
      (Rows.fnExactParseScriptSpec.post enc Tryz.prog Tryz.f3 false true false false) := by
  refine wrap_shaped (C := Tryz.checked) (X := fun w _ => laidMetH Tryz.prog Rows.fnExactParseScriptRow.laid w) (fun _ _ _ hh h => h.of_heap hh) own started (by kernel_rfl) Tryz.func3
    (ChangeSpec.witness_at (enc := enc) (C := Tryz.checked) (os := os) (X := fun w _ => laidMetH Tryz.prog Rows.fnExactParseScriptRow.laid w) false (laidWorld os) #[.slice none 0 0] 8 rfl (by kernel_rfl) (by kernel_rfl) (by kernel_rfl) (by kernel_rfl) (by kernel_rfl) (laidWorld_met os _)) ?_
  intro W base args ds gs before hval0 hW hsh hL
  have hval : ∀ (j : Nat) t v, Tryz.f3.params[j]? = some t → args[j]? = some v → Value.okWide Tryz.prog W .any base t v := hval0
  have hW' := hW
  obtain ⟨p, q, hA0, hV0, rfl, hfz, hnd⟩ := hW
  have hA : DataW.TrodAll enc Tryz.prog W 0 (fun _ => true) true Tryz.f3.params.toList args.toList ds p := hA0
  have hV : DataW.TrodVars enc Tryz.prog W (fun _ => true) ["loop.example/s01685/impl.commands"] gs q := hV0
  rw [Tryz.params3] at hA hval
  obtain ⟨v0, vs0, d0, ds0, p0, q0, hargs, rfl, rfl, h0, r0⟩ := trodAll_cons hA
  obtain ⟨rfl, rfl, rfl⟩ := trodAll_nil r0
  obtain rfl : args = #[v0] := by cases args; simp_all
  have hT := (gs_of_laid hL hsh).2
  obtain ⟨g, t, cs, fuel, dg, p', rfl, hg, ht, hvar, hd, rfl⟩ := trodVars_one hV
  obtain rfl := Option.some.inj (Tryz.gCM.symm.trans hg)
  obtain rfl := Option.some.inj (Tryz.gCMt.symm.trans ht)
  obtain rfl : cs = cmdTab := Option.some.inj (hvar.symm.trans (var_cmds hT))
  obtain ⟨rfl, rfl⟩ := DataW.Trod.unique (v := .agg cmdTab) ⟨fuel, hd⟩ ⟨4, reads_cmds enc W _⟩
  obtain ⟨a0, len0, cap0, rfl⟩ := okWide_slice Tryz.underlying22 (hval 0 22 v0 rfl rfl)
  have k0 := h0
  have lt0 : ∀ x ∈ p0, x.block < W.heap.size := by obtain ⟨m, hm⟩ := k0; exact DataW.trod_lt m _ _ _ hm
  obtain ⟨z0, w0⟩ : ∃ zs, IsRow .u8 W a0 len0 cap0 zs := by
    obtain ⟨fuel, hf⟩ := h0
    rcases open_ints Tryz.underlying22 Tryz.underlying5 (by kernel_rfl) hf with ⟨hcs, _⟩ | ⟨x, l, c, zs, hcs, _, hl, hm, hz, _, hcell, hwz⟩
    · simp [Value.cells] at hcs
      obtain ⟨rfl, rfl, rfl⟩ := hcs
      exact ⟨[], .inl ⟨rfl, rfl, rfl, rfl⟩⟩
    · simp [Value.cells] at hcs
      obtain ⟨rfl, rfl, rfl⟩ := hcs
      exact ⟨zs, .inr ⟨_, rfl, hl, hm, by simpa using hz, hcell, hwz⟩⟩
  clear hA0 hval0
  refine (walk a0 len0 cap0 z0 W w0 (gs_of_laid hL hsh)).mono fun e W' ⟨he, bel⟩ => ?_
  subst he
  exact ⟨_, rfl, _, _, _, [], _, _, hW', trodAll_mk1 (shut_bool Tryz.underlying4 _), (trodAll_cons_mk (Below.trod laidOut (by kernel_rfl) (of_decide_eq_true (by kernel_rfl)) k0 bel lt0) trodAll_mk0), trodVars_mk1 Tryz.gCM Tryz.gCMt (var?_below bel Tryz.gCM hT.lt hvar) (reads_cmds enc W' _), bel.frame _, fun h => by cases h⟩

theorem said : Rows.FnExactParseScriptSaid :=
  OpenClaim.holds_of_wide 3 Tryz.f3 rfl rfl rfl rfl rfl rfl rfl ⟨rfl, rfl, rfl, rfl, rfl⟩ rfl rfl rfl rfl rfl (by as_aux_lemma => kernel_rfl) Tryz.func3 closedF
    (of_decide_eq_true (by as_aux_lemma => kernel_rfl)) (by unfold Func.isWrapper; first | (rw [if_pos (by decide +kernel)]; kernel_rfl) | (rw [if_neg (by decide +kernel)]; exact ⟨rfl, rfl⟩))
    (fun os started H enc _ => lifted os started H enc)

theorem plain (f : FuncId) (fn : Func) (hf : Tryz.pinned.checked.prog.funcNamed "loop.example/s01685/laws.FnExactParseScript" = some f) (hfn : Tryz.pinned.checked.prog.funcs[f]? = some fn) :
    true = Tryz.pinned.checked.prog.looks [] ∧ ∀ (j : Nat) t, fn.params[j]? = some t → Tryz.pinned.checked.prog.wantsStandIn t = false := by
  obtain rfl : f = 3 := Option.some.inj ((show Tryz.prog.funcNamed "loop.example/s01685/laws.FnExactParseScript" = some 3 by kernel_rfl).symm.trans hf) |>.symm
  obtain rfl : fn = Tryz.f3 := (Option.some.inj (Tryz.func3.symm.trans hfn)).symm
  refine ⟨by kernel_rfl, fun j t ht => ?_⟩
  rw [Tryz.params3] at ht
  have hm : t = 22 := by simpa using Array.mem_of_getElem? ht
  subst hm
  exact (show Tryz.prog.wantsStandIn 22 = false by kernel_rfl)

theorem parseScript_card : Rows.FnExactParseScriptCardSaid :=
  Claim7.holds_tied_plain_at .later [] _ _ _ _ said (fun _ h => by cases h) (by as_aux_lemma => kernel_rfl) (fun _ h => by cases h) fnExactParseScript_row_tie rfl ⟨rfl, rfl⟩ (by as_aux_lemma => kernel_rfl) rfl plain (by as_aux_lemma => kernel_rfl)
#print axioms parseScript_card
end Go.Proofs.YtbgngikejgihgaeGreatDoor
