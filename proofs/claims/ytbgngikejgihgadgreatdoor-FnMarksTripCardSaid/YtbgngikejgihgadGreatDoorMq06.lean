import Derived.Test.YtbgngikejgihgadGreatDoorProg
import Derived.Test.YtbgngikejgihgadGreatDoorMq05
import Derived.WalkKit
import Derived.WalkLawsBesides
import Derived.LaidEql
import Derived.Stop.Asserts
import Derived.RowKitTokens
import Derived.Test.YtbgngikejgihgadGreatDoorMq01
import Derived.Shelf.Abstract
namespace Go.Proofs.YtbgngikejgihgadGreatDoor
open Go.RowKit Go.Extern.Stop Go.Stop Go.Extern Go

theorem run_equalIn_ifi {P : Program} (w : World) (d : Nat) {ti tn : TypeId} {ms : Array (String × TypeId)} {i : TypeInfo} {k : IntKind} (a b : Int)
    (hi : P.underlying ti = some (.interface ms)) (hn : P.underlying tn = some (.int k)) (hinfo : P.info? tn = some i) (hcomp : i.comparable = true) :
    (Op.equalIn (d + 2) ti (.iface tn (.int k a)) (.iface tn (.int k b))).run P w = .ok (a == b) w := by
  simp [Op.equalIn, run_underlying hi, run_underlying hn, typeInfo, hinfo, hcomp]
theorem run_eql_ifi {P : Program} (w : World) {ti tn : TypeId} {ms : Array (String × TypeId)} {i : TypeInfo} {k : IntKind} (a b : Int)
    (hi : P.underlying ti = some (.interface ms)) (hn : P.underlying tn = some (.int k)) (hinfo : P.info? tn = some i) (hcomp : i.comparable = true) :
    (binOp .eql ti (.iface tn (.int k a)) (.iface tn (.int k b))).run P w = .ok (.bool (a == b)) w := by
  simp only [binOp]
  simp [Op.equal, Op.maxDepth, run_equalIn_ifi w 9998 a b hi hn hinfo hcomp]

def cmpEntry : Array Value → Sem Value := ReflectliteType.method fun t => do Rtype.noPackHeld "Comparable" t; pure (.bool (← typeInfo t).comparable)
theorem Tryz.isComparable (w : World) : (cmpEntry #[.agg #[.pointer (some ⟨9, 61, none⟩)]]).run Tryz.prog w = .ok (.bool true) w := by kernel_rfl
theorem Tryz.isMethodComparable (v : Value) (w : World) : (Go.method 306 112 v "Comparable").run Tryz.prog w = .ok (141, v) w := by kernel_rfl
theorem Tryz.isComp : (Tryz.prog.info? 61).map (·.comparable) = some true := by kernel_rfl
theorem Tryz.noIsW (v : Value) (xT : TypeId) (w : World) : (Instr.typeAssert (.iface 63 v) xT 133 true).run Tryz.prog w = .ok (.tuple #[.nilIface, .bool false]) w := run_typeAssert_lacksB Tryz.underlying133 (by kernel_rfl) (by kernel_rfl) v xT w

set_option maxHeartbeats 1000000 in
/-- errors.Is(nil, a fault). -/
theorem isNil (c : Int) (w : World) : Calls Tryz.prog 54 #[.nilIface, .iface 61 (.int .i64 c)] w fun e w' => e = .returned (.bool false) ∧ w' = w := by
  have hn := run_eql_iface_nil_left (P := Tryz.prog) w 61 (.int .i64 c) Tryz.underlying42
  go_enter Tryz.func54, Tryz.ntmps54
  go_wp2
  go_ret
  exact ⟨rfl, rfl⟩

set_option maxHeartbeats 2000000 in
set_option maxRecDepth 100000 in
/-- errors.Is(a refusal that holds a fault, the same fault). -/
theorem isChain (msg : ByteArray) (c : Int) (w : World) : Calls Tryz.prog 54 #[.iface 63 (.agg #[.string msg, .iface 61 (.int .i64 c)]), .iface 61 (.int .i64 c)] w fun e w' => e = .returned (.bool true) ∧ Below w.heap.size w w' := by
  obtain ⟨i, hi, hcmp⟩ := Option.map_eq_some_iff.1 Tryz.isComp
  have h8 := @run_callFunc_extern Tryz.prog 63 _ ReflectliteType.typeOf Tryz.func63 (by kernel_rfl) (by kernel_rfl) (by kernel_rfl) (by kernel_rfl)
  have h32 := @run_callFunc_extern Tryz.prog 141 _ cmpEntry Tryz.func141 (by kernel_rfl) (by kernel_rfl) (by kernel_rfl) (by kernel_rfl)
  have tT := Tryz.typeOfF
  have cT := Tryz.isComparable
  have mR := Tryz.isMethodComparable
  have nW := Tryz.noIsW
  have uW := Tryz.hasUnwrap
  have mU := Tryz.methodUnwrap
  have hcc : (c == c) = true := by simp
  have heq := fun W : World => run_eql_ifi (P := Tryz.prog) W c c Tryz.underlying42 Tryz.underlying61 hi hcmp
  rw [hcc] at heq
  have hty := run_eql_iface_types (P := Tryz.prog) 63 61 (.agg #[.string msg, .iface 61 (.int .i64 c)]) (.int .i64 c) Tryz.underlying42 (by decide)
  go_enter Tryz.func54, Tryz.ntmps54
  go_wp2
  refine wp_loop_rounds 2 ?_
  rw [rounds_succ]
  go_wp2
  rw [rounds_succ]
  go_wp2
  go_ret
  exact ⟨rfl, (Below.refl _ _).alloc (Nat.le_refl _) _⟩

end Go.Proofs.YtbgngikejgihgadGreatDoor

namespace Go.Proofs.YtbgngikejgihgadGreatDoor
open Go Go.RowKit
set_option linter.unusedVariables false

set_option maxHeartbeats 1000000 in
theorem withinI (v lo hi : Int) (w : World) : Calls Tryz.prog 52 #[.int .i64 v, .int .i64 lo, .int .i64 hi] w fun e w' => e = .returned (.bool (decide (lo ≤ v ∧ v ≤ hi))) ∧ w' = w := by
  by_cases h0 : lo ≤ v
  · by_cases h1 : v ≤ hi
    · have hd : decide (lo ≤ v ∧ v ≤ hi) = true := by simp [h0, h1]
      rw [hd]; clear hd
      go_enter Tryz.func52, Tryz.ntmps52
      go_wp2
      go_ret
      exact ⟨rfl, rfl⟩
    · have hd : decide (lo ≤ v ∧ v ≤ hi) = false := by simp [h0, h1]
      rw [hd]; clear hd
      go_enter Tryz.func52, Tryz.ntmps52
      go_wp2
      go_ret
      exact ⟨rfl, rfl⟩
  · have hd : decide (lo ≤ v ∧ v ≤ hi) = false := by simp [h0]
    rw [hd]; clear hd
    go_enter Tryz.func52, Tryz.ntmps52
    go_wp2
    go_ret
    exact ⟨rfl, rfl⟩

/-- An error that is nothing, or a code. -/
def errV (ok : Bool) (c : Int) : Value := if ok then .nilIface else .iface 61 (.int .i64 c)

end Go.Proofs.YtbgngikejgihgadGreatDoor

namespace Go.Proofs.YtbgngikejgihgadGreatDoor
open Go Go.RowKit
set_option linter.unusedVariables false

/-- The table's one cell. -/
def Tb (w : World) (tb : Nat) (v : Value) : Prop := w.heap[tb]? = some (.cells #[v] 40 (0, 0))
theorem Tb.c {w : World} {rb : Nat} {v : Value} (h : Tb w rb v) : w.cell? ⟨rb, 0, none⟩ = some v := by rw [cell_of_row w rb 0 _ _ _ h]; rfl
theorem Tb.fz {w : World} {rb : Nat} {v : Value} (h : Tb w rb v) : w.frozen? ⟨rb, 0, none⟩ = false := frozen_of_row w rb 0 _ _ h
theorem Tb.lt {w : World} {rb : Nat} {v : Value} (h : Tb w rb v) : rb < w.heap.size := by
  rcases Nat.lt_or_ge rb w.heap.size with h' | h'
  · exact h'
  · unfold Tb at h; rw [Array.getElem?_eq_none h'] at h; cases h
theorem Tb.set {w : World} {rb : Nat} {v : Value} (h : Tb w rb v) (v' : Value) : Tb (w.setCell ⟨rb, 0, none⟩ v') rb v' := by
  unfold Tb at h ⊢; rw [heap_setCell_same w rb 0 _ _ _ h]; rfl
theorem Tb.below {B : Nat} {w w' : World} {rb : Nat} {v : Value} (h : Tb w rb v) (hb : Below B w w') (hB : rb < B) : Tb w' rb v := (hb.block rb hB).trans h

/-- The place of the first mark with an id, or -1. -/
def idx (id : Int) : List Mk → Nat → Int
  | [], _ => -1
  | x :: xs, k => if x.1 = id then k else idx id xs (k + 1)
theorem idx_neg (id : Int) (xs : List Mk) : ∀ k, idx id xs k < 0 ↔ hasId xs id = false := by
  induction xs with
  | nil => intro k; simp [idx, hasId]
  | cons x xs ih =>
    intro k
    unfold idx
    by_cases h : x.1 = id
    · rw [if_pos h]; simp [hasId, h]
    · rw [if_neg h, ih]; simp [hasId, h]
theorem idx_miss (id : Int) (xs : List Mk) : ∀ k, (∀ x ∈ xs, x.1 ≠ id) → idx id xs k = -1 := by
  induction xs with
  | nil => intro k _; rfl
  | cons x xs ih => intro k h; unfold idx; rw [if_neg (h x (by simp))]; exact ih _ fun y hy => h y (by simp [hy])
theorem idx_hit (id : Int) (xs : List Mk) : ∀ (k j : Nat) (x : Mk), (∀ i y, i < j → xs[i]? = some y → y.1 ≠ id) → xs[j]? = some x → x.1 = id → idx id xs k = (k + j : Nat) := by
  induction xs with
  | nil => intro k j x _ h; simp at h
  | cons y ys ih =>
    intro k j x hn hx he
    unfold idx
    cases j with
    | zero => simp at hx; subst hx; rw [if_pos he]; simp
    | succ j =>
      rw [if_neg (hn 0 y (by omega) rfl), ih (k + 1) j x (fun i z hi hz => hn (i + 1) z (by omega) (by simpa using hz)) (by simpa using hx) he]
      omega
theorem idx_lt (id : Int) (xs : List Mk) : ∀ k, 0 ≤ idx id xs k → ∃ j x, idx id xs k = (k + j : Nat) ∧ xs[j]? = some x := by
  induction xs with
  | nil => intro k h; simp [idx] at h
  | cons y ys ih =>
    intro k h
    unfold idx at h ⊢
    by_cases e : y.1 = id
    · rw [if_pos e]; exact ⟨0, y, by simp, rfl⟩
    · rw [if_neg e] at h ⊢
      obtain ⟨j, x, h1, h2⟩ := ih (k + 1) h
      exact ⟨j + 1, x, by rw [h1]; omega, by simpa using h2⟩

set_option maxHeartbeats 400000 in
theorem rankClos (x : Mk) (id : Int) (B : Nat) (w : World) (hB : B < w.heap.size) (hc : w.cell? ⟨B, 0, none⟩ = some (.int .i64 id)) :
    Calls Tryz.prog 79 #[mkA x, .pointer (some ⟨B, 0, none⟩)] w fun e w' => e = .returned (.bool (x.1 == id)) ∧ Below w.heap.size w w' := by
  have hne : ¬ B = w.heap.size := by omega
  unfold mkA
  generalize hq : (x.1 == id) = q
  have HQ := hide hq
  clear hq
  go_enter Tryz.func79, Tryz.ntmps79
  go_wp2
  all_goals (go_ret; exact ⟨by rw [← HQ.out]; rfl, (Below.refl _ _).alloc (Nat.le_refl _) _⟩)

theorem entersRank : ∀ args w, (callFunc 79 args).run Tryz.prog w = .ok (.enter 79 args) w := Go.Proofs.enters_of Tryz.func79 (by kernel_rfl) rfl

set_option maxHeartbeats 1000000 in
set_option maxRecDepth 100000 in
theorem indexL (C B : Nat) (xs : List Mk) (v : Value) (id : Int) (w : World) (h : RdM C w v xs) (hC : C ≤ w.heap.size) (hn : xs.length ≤ 1048576) (hB : B < w.heap.size) (hc : w.cell? ⟨B, 0, none⟩ = some (.int .i64 id)) :
    Calls Tryz.prog 78 #[v, .func (.func 79) #[] #[.pointer (some ⟨B, 0, none⟩)]] w fun e w' => e = .returned (.int .i64 (idx id xs 0)) ∧ Below w.heap.size w w' := by
  have eg := entersRank
  rcases h with ⟨ao, cap, rfl, rfl⟩ | ⟨b, off, cap, rfl, hp, hb, hcell⟩
  · unfold idx
    go_enter Tryz.func78, Tryz.ntmps78
    go_wp2
    refine wp_loop_rounds 1 ?_
    rw [rounds_succ]
    go_wp2
    go_ret
    exact ⟨rfl, Below.refl _ _⟩
  · have HC := hide hcell
    have HG := hide hc
    generalize hN : xs.length = n at *
    generalize hR : idx id xs 0 = r
    have HR := hide hR
    have HNN := hide hN
    unfold maxLen at hp
    clear hcell hc hR hN
    go_enter Tryz.func78, Tryz.ntmps78
    go_wp2_with fail
    go_loopw [8] (fun i wr => ∃ k : Nat, k ≤ n ∧ i = .int .i64 k ∧ Below w.heap.size w wr ∧ ∀ i y, i < k → xs[i]? = some y → y.1 ≠ id) (fun i _ => n - (intOf i).toNat)
    case atStart => exact ⟨0, Nat.zero_le _, rfl, Below.refl _ _, fun i y hi => by omega⟩
    case round =>
      obtain ⟨k, hk, rfl, hbw, hno⟩ := hrel
      have HBW := hide hbw
      have HNO := hide hno
      have hsw := hbw.size
      by_cases hlt : k < n
      · obtain ⟨x, hx, a0, a1, a2⟩ := mkAt_of HC.out (show k < xs.length by rw [HNN.out]; omega)
        have hbl : b < w.heap.size := by omega
        have e0 := (hbw.cell (p := ⟨b, off + k * 3, none⟩) hbl).trans a0
        have e1 := (hbw.cell (p := ⟨b, off + k * 3 + 1, none⟩) hbl).trans a1
        have e2 := (hbw.cell (p := ⟨b, off + k * 3 + 2, none⟩) hbl).trans a2
        have hlt' : (k : Int) < n := by omega
        have hbr : b < wr.heap.size := by omega
        have HK := hide (rankClos x id B wr (by omega) ((hbw.cell (p := ⟨B, 0, none⟩) hB).trans HG.out))
        have HX := hide hx
        clear a0 a1 a2 hx hbw hno
        cases hq : (x.1 == id) with
        | true =>
          rw [hq] at HK
          have hq' : x.1 = id := by simpa using hq
          have HQ := hide hq'
          clear hq hq'
          go_wp2_with fail
          refine HK.out.mono ?_
          rintro e w2 ⟨rfl, hb2⟩
          have B2 := hide (HBW.out.trans (hb2.mono hsw))
          clear hb2
          go_wp2
          go_ret
          refine ⟨?_, B2.out⟩
          have e1 := idx_hit id xs 0 k x HNO.out HX.out HQ.out
          rw [Nat.zero_add] at e1
          rw [← HR.out, e1]
          rfl
        | false =>
          rw [hq] at HK
          have hq' : ¬ x.1 = id := by simpa using hq
          have HQ := hide hq'
          clear hq hq'
          go_wp2_with fail
          refine HK.out.mono ?_
          rintro e w2 ⟨rfl, hb2⟩
          have B2 := hide (HBW.out.trans (hb2.mono hsw))
          clear hb2
          go_wp2
          go_roundw
          case rel =>
            refine ⟨k + 1, by omega, by go_num, B2.out, fun i y hi hy => ?_⟩
            by_cases e : i = k
            · subst e
              obtain rfl : y = x := by rw [HX.out] at hy; exact (Option.some.inj hy).symm
              exact HQ.out
            · exact HNO.out i y (by omega) hy
          case measure => simp [intOf]; omega
      · obtain rfl : k = n := by omega
        have hge : ¬ (k : Int) < (k : Int) := by omega
        clear hbw hno
        go_wp2
        go_ret
        refine ⟨?_, HBW.out⟩
        have e1 := idx_miss id xs 0 fun y hy => by
          obtain ⟨j, hj, rfl⟩ := List.getElem_of_mem hy
          exact HNO.out j _ (by rw [← HNN.out]; exact hj) (by simp)
        rw [← HR.out, e1]
        rfl

set_option maxHeartbeats 1000000 in
set_option maxRecDepth 100000 in
theorem rankL (C tb : Nat) (xs : List Mk) (v : Value) (id : Int) (w : World) (ht : Tb w tb v) (h : RdM C w v xs) (hC : C ≤ w.heap.size) (hn : xs.length ≤ 1048576) :
    Calls Tryz.prog 66 #[.pointer (some ⟨tb, 0, none⟩), .int .i64 id] w fun e w' => e = .returned (.int .i64 (idx id xs 0)) ∧ Below w.heap.size w w' := by
  have hlt := ht.lt
  have HB0 := hide ((Below.refl w.heap.size w).alloc (Nat.le_refl _) (.cells #[.int .i64 id] 3))
  have c := (ht.below HB0.out hlt).c
  have hk : (w.alloc (.cells #[.int .i64 id] 3)).cell? ⟨w.heap.size, 0, none⟩ = some (.int .i64 id) := by rw [World.cell?_alloc_at _ _ _ _ rfl]; rfl
  have hs0 : (w.alloc (.cells #[.int .i64 id] 3)).heap.size = w.heap.size + 1 := by simp
  have HI := hide (indexL C w.heap.size xs v id _ (h.below HB0.out hC) (by omega) hn (by omega) hk)
  obtain ⟨ao, cap, rfl⟩ := h.val
  generalize idx id xs 0 = r at *
  generalize xs.length = n at *
  clear h ht hk
  go_enter Tryz.func66, Tryz.ntmps66
  go_wp2_with fail
  generalize w.alloc (.cells #[.int .i64 id] 3) = w0 at *
  refine HI.out.mono ?_
  rintro e w1 ⟨rfl, hb1⟩
  have B1 := hide (HB0.out.trans (hb1.mono (by omega)))
  clear hb1
  go_wp2
  go_ret
  exact ⟨rfl, B1.out⟩

/-- What is found of a mark. -/
def fndV (xs : List Mk) (id : Int) : Value :=
  if hasId xs id = true then .tuple #[mkA (xs.getD (idx id xs 0).toNat (0, 0, 0)), .nilIface]
  else .tuple #[mkA (0, 0, 0), .iface 63 (.agg #[.string { data := #[102, 105, 110, 100, 105, 110, 103, 32, 97, 32, 109, 97, 114, 107] }, .iface 61 (.int .i64 4)])]

set_option maxHeartbeats 1000000 in
set_option maxRecDepth 100000 in
theorem findL (C tb : Nat) (xs : List Mk) (v : Value) (id : Int) (w : World) (ht : Tb w tb v) (h : RdM C w v xs) (hC : C ≤ w.heap.size) (hn : xs.length ≤ 1048576) :
    Calls Tryz.prog 53 #[.pointer (some ⟨tb, 0, none⟩), .int .i64 id] w fun e w' => e = .returned (fndV xs id) ∧ Below w.heap.size w w' := by
  have hlt := ht.lt
  have HB0 := hide ((Below.refl w.heap.size w).alloc (Nat.le_refl _) (.cells #[.int .i64 0, .int .i64 0, .int .i64 0] 37))
  have hk0 : (w.alloc (.cells #[.int .i64 0, .int .i64 0, .int .i64 0] 37)).heap[w.heap.size]? = some (.cells #[.int .i64 0, .int .i64 0, .int .i64 0] 37 (0, 0)) := heap_alloc_new _ _
  have hs0 : (w.alloc (.cells #[.int .i64 0, .int .i64 0, .int .i64 0] 37)).heap.size = w.heap.size + 1 := by simp
  have HT0 := hide (ht.below HB0.out hlt)
  have HR0 := hide (h.below HB0.out hC)
  have HI := hide (rankL C tb xs v id _ HT0.out HR0.out (by omega) hn)
  have hneg := idx_neg id xs 0
  have hpos := idx_lt id xs 0
  unfold fndV mkA
  cases hh : hasId xs id with
  | false =>
    rw [if_neg (by simp)]
    have h1 : idx id xs 0 < 0 := hneg.2 hh
    generalize idx id xs 0 = r at *
    clear hneg hpos hh
    go_enter Tryz.func53, Tryz.ntmps53
    go_wp2_with fail
    generalize w.alloc (.cells #[.int .i64 0, .int .i64 0, .int .i64 0] 37) = w0 at *
    refine HI.out.mono ?_
    rintro e w1 ⟨rfl, hb1⟩
    have B1 := hide (HB0.out.trans (hb1.mono (by omega)))
    have g0 := (hb1.block w.heap.size (by omega)).trans hk0
    have k0 : w1.cell? ⟨w.heap.size, 0, none⟩ = some (.int .i64 0) := by rw [cell_of_row w1 _ 0 _ _ _ g0]; rfl
    have k1 : w1.cell? ⟨w.heap.size, 1, none⟩ = some (.int .i64 0) := by rw [cell_of_row w1 _ 1 _ _ _ g0]; rfl
    have k2 : w1.cell? ⟨w.heap.size, 2, none⟩ = some (.int .i64 0) := by rw [cell_of_row w1 _ 2 _ _ _ g0]; rfl
    have f0 := frozen_of_row w1 w.heap.size 0 _ _ g0
    have f1 := frozen_of_row w1 w.heap.size 1 _ _ g0
    have f2 := frozen_of_row w1 w.heap.size 2 _ _ g0
    clear hb1 g0 hk0
    go_wp2
    refine bodyPost_ret (v := .tuple #[.agg #[.int .i64 0, .int .i64 0, .int .i64 0], .iface 63 (.agg #[.string { data := #[102, 105, 110, 100, 105, 110, 103, 32, 97, 32, 109, 97, 114, 107] }, .iface 61 (.int .i64 4)])]) (by simp [results, Tryz.results53, go_sem, k0, k1, k2]) rfl ⟨rfl, ?_⟩
    exact ((B1.out.setCell (by simp) _).setCell (by simp) _).setCell (by simp) _
  | true =>
    rw [if_pos rfl]
    have h1 : ¬ idx id xs 0 < 0 := by rw [hneg, hh]; simp
    obtain ⟨j, x, hj, hx⟩ := hpos (by omega)
    rw [Nat.zero_add] at hj
    have hjn : j < xs.length := (List.getElem?_eq_some_iff.1 hx).1
    have hgd : xs.getD (idx id xs 0).toNat (0, 0, 0) = x := by rw [hj, Int.toNat_natCast, List.getD_eq_getElem?_getD, hx]; rfl
    rw [hgd]
    rw [hj] at h1 HI
    obtain ⟨b, off, cap, rfl, hp, hb, hc⟩ := h.at (by intro e; subst e; simp at hjn)
    obtain ⟨a0, a1, a2⟩ := hc j x hx
    have hbw : b < w.heap.size := by omega
    have hneb : ¬ b = w.heap.size := by omega
    have hnt : ¬ tb = w.heap.size := by omega
    generalize hN : xs.length = n at *
    unfold maxLen at hp
    have hjz : (j : Int) < (n : Int) := by omega
    have HA := hide (And.intro a0 (And.intro a1 a2))
    clear hneg hpos hh hgd hx hj hc h ht a0 a1 a2 hN
    go_enter Tryz.func53, Tryz.ntmps53
    go_wp2_with fail
    generalize w.alloc (.cells #[.int .i64 0, .int .i64 0, .int .i64 0] 37) = w0 at *
    refine HI.out.mono ?_
    rintro e w1 ⟨rfl, hb1⟩
    have B1 := hide (HB0.out.trans (hb1.mono (by omega)))
    have c := (HT0.out.below hb1 (by omega)).c
    have e0 := (B1.out.cell (p := ⟨b, off + j * 3, none⟩) hbw).trans HA.out.1
    have e1 := (B1.out.cell (p := ⟨b, off + j * 3 + 1, none⟩) hbw).trans HA.out.2.1
    have e2 := (B1.out.cell (p := ⟨b, off + j * 3 + 2, none⟩) hbw).trans HA.out.2.2
    have g0 := (hb1.block w.heap.size (by omega)).trans hk0
    have k0 : w1.cell? ⟨w.heap.size, 0, none⟩ = some (.int .i64 0) := by rw [cell_of_row w1 _ 0 _ _ _ g0]; rfl
    have k1 : w1.cell? ⟨w.heap.size, 1, none⟩ = some (.int .i64 0) := by rw [cell_of_row w1 _ 1 _ _ _ g0]; rfl
    have k2 : w1.cell? ⟨w.heap.size, 2, none⟩ = some (.int .i64 0) := by rw [cell_of_row w1 _ 2 _ _ _ g0]; rfl
    have f0 := frozen_of_row w1 w.heap.size 0 _ _ g0
    have f1 := frozen_of_row w1 w.heap.size 1 _ _ g0
    have f2 := frozen_of_row w1 w.heap.size 2 _ _ g0
    clear hb1 g0 hk0 HI HT0 HR0
    go_wp2
    refine bodyPost_ret (v := .tuple #[.agg #[.int .i64 x.1, .int .i64 x.2.1, .int .i64 x.2.2], .nilIface]) (by simp [results, Tryz.results53, go_sem, k0, k1, k2]) rfl ⟨rfl, ?_⟩
    exact ((B1.out.setCell (by simp) _).setCell (by simp) _).setCell (by simp) _

set_option maxHeartbeats 1000000 in
set_option maxRecDepth 100000 in
theorem checkFreeL (C tb : Nat) (xs : List Mk) (v : Value) (id : Int) (w : World) (ht : Tb w tb v) (h : RdM C w v xs) (hC : C ≤ w.heap.size) (hn : xs.length ≤ 1048576) :
    Calls Tryz.prog 37 #[.pointer (some ⟨tb, 0, none⟩), .int .i64 id] w fun e w' => e = .returned (errV (!hasId xs id) 5) ∧ Below w.heap.size w w' := by
  have HF := hide (findL C tb xs v id w ht h hC hn)
  unfold fndV mkA at HF
  generalize xs.getD (idx id xs 0).toNat (0, 0, 0) = x at HF
  clear h ht
  cases hq : hasId xs id with
  | false =>
    rw [hq, if_neg (by simp)] at HF
    clear hq
    go_enter Tryz.func37, Tryz.ntmps37
    go_wp2_with fail
    refine HF.out.mono ?_
    rintro e w1 ⟨rfl, hb1⟩
    have B1 := hide (hb1.alloc hb1.size (.cells #[.int .i64 0, .int .i64 0, .int .i64 0] 37))
    have s1 := hb1.size
    clear hb1
    go_wp2_with fail
    generalize w1.alloc (.cells #[.int .i64 0, .int .i64 0, .int .i64 0] 37) = w2 at *
    refine (isChain _ _ _).mono ?_
    rintro e w3 ⟨rfl, hb3⟩
    have B3 := hide (B1.out.trans (hb3.mono B1.out.size))
    clear hb3
    go_wp2
    go_ret
    exact ⟨rfl, B3.out⟩
  | true =>
    rw [hq, if_pos rfl] at HF
    clear hq
    go_enter Tryz.func37, Tryz.ntmps37
    go_wp2_with fail
    refine HF.out.mono ?_
    rintro e w1 ⟨rfl, hb1⟩
    have B1 := hide (hb1.alloc hb1.size (.cells #[.int .i64 x.1, .int .i64 x.2.1, .int .i64 x.2.2] 37))
    clear hb1
    go_wp2_with fail
    generalize w1.alloc (.cells #[.int .i64 x.1, .int .i64 x.2.1, .int .i64 x.2.2] 37) = w2 at *
    refine (isNil _ _).mono ?_
    rintro e w3 ⟨rfl, rfl⟩
    go_wp2
    go_ret
    exact ⟨rfl, B1.out⟩

end Go.Proofs.YtbgngikejgihgadGreatDoor
