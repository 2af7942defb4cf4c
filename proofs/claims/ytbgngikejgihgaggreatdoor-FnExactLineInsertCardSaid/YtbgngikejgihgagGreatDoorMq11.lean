import Derived.Test.YtbgngikejgihgagGreatDoorMq03
import Derived.Laws.CopyOwn
import Derived.Lib.SliceRun
import Derived.WalkKit
import Derived.Deep.RegionLaw
import Derived.Test.YtbgngikejgihgagGreatDoorMq10
namespace Go.Proofs.YtbgngikejgihgagGreatDoor
open Go Go.RowKit
set_option linter.unusedVariables false

/-- A row laid anew: the rest stays. -/
structure Row1 (w w' : World) (g : Nat) (L : List Value) (t : TypeId) : Prop where
  row : w'.heap[g]? = some (.cells L.toArray t (0, 0))
  os : w'.os = w.os
  tape : w'.tape = w.tape
  output : w'.output = w.output
  size : w'.heap.size = w.heap.size
  block : ∀ k, k ≠ g → w'.heap[k]? = w.heap[k]?

theorem Row1.of_set {w : World} {g : Nat} {old : Array Value} {t : TypeId} (L : List Value) (hg : w.heap[g]? = some (.cells old t (0, 0))) : Row1 w (w.setRow g L.toArray) g L t :=
  ⟨setRow_heap w g old _ t _ hg, rfl, rfl, rfl, by simp, fun k hk => setRow_other w g k _ hk⟩

theorem Row1.refl {w : World} {g : Nat} {L : List Value} {t : TypeId} (hg : w.heap[g]? = some (.cells L.toArray t (0, 0))) : Row1 w w g L t := ⟨hg, rfl, rfl, rfl, rfl, fun _ _ => rfl⟩

section
variable {P : Program}

theorem step_copy_row {ops : Array Oper} {o : Oper} {a : Act} {w : World} {K : Act → World → Prop} {Q : Exit → Act → World → Prop} {E : Prop} (hgd : o.guard = none) (d s : Operand) (dT sT : TypeId)
    (ho : o.op = .call { callee := .builtin .copy, args := #[d, s], argTypes := #[dT, sT] }) (elem : TypeId) (hu : P.underlying dT = some (.slice elem)) (hsz : (P.info? elem).map (·.size) = some 1)
    (dp sp : Option Addr) (dLen dCap sLen sCap : Nat) (hd : a.eval d = .slice dp dLen dCap) (hs : a.eval s = .slice sp sLen sCap)
    (g off : Nat) (cur : List Value) (t : TypeId) (hg : w.heap[g]? = some (.cells cur.toArray t (0, 0))) (cs : List Value) (hn : cs.length = Nat.min sLen dLen)
    (hpos : 0 < cs.length → dp = some ⟨g, off, none⟩ ∧ ∃ ad, sp = some ad ∧ ∀ j v, cs[j]? = some v → w.cell? (ad.add j) = some v)
    (hfit : off + cs.length ≤ cur.length) (h1 : ∀ v ∈ cs, v.oneCell' = true)
    (h : ∀ w', Hid (Row1 w w' g (splice cur off cs) t) → K (a.put o.dst (goInt cs.length)) w') :
    if Region.wanted o (yielded ops a.tmps) = true then Oper.wp P o a w K Q else E := by
  have hw : Region.wanted o (yielded ops a.tmps) = true := by simp [Region.wanted, hgd]
  rw [if_pos hw]
  by_cases h0 : cs.length = 0
  · obtain rfl : cs = [] := List.eq_nil_of_length_eq_zero h0
    have hrun := run_copy_none (P := P) w dT sT o.type elem dp sp dLen dCap sLen sCap hu hsz (by simpa using hn.symm)
    unfold Oper.wp
    simp [execOp, ho, resolve, invoke, builtin, hd, hs, hrun, Result.andThen]
    exact h w (hide (by simpa [splice] using Row1.refl hg))
  · obtain ⟨rfl, ad, rfl, hsrc⟩ := hpos (by omega)
    have hrun := run_copy_row (P := P) w dT sT o.type elem g off dLen dCap ad sLen sCap cur.toArray t cs hu hsz hg hn hsrc (by simpa using hfit) h1
    unfold Oper.wp
    simp [execOp, ho, resolve, invoke, builtin, hd, hs, hrun, Result.andThen]
    exact h _ (hide (by simpa [splice] using Row1.of_set (splice cur off cs) hg))

theorem wpList_copy_row {w : World} {ops : Array Oper} {rest : List Oper} {o : Oper} {a : Act} {Q : Exit → Act → World → Prop} (hgd : o.guard = none) (d s : Operand) (dT sT : TypeId)
    (ho : o.op = .call { callee := .builtin .copy, args := #[d, s], argTypes := #[dT, sT] }) (elem : TypeId) (hu : P.underlying dT = some (.slice elem)) (hsz : (P.info? elem).map (·.size) = some 1)
    (dp sp : Option Addr) (dLen dCap sLen sCap : Nat) (hd : a.eval d = .slice dp dLen dCap) (hs : a.eval s = .slice sp sLen sCap)
    (g off : Nat) (cur : List Value) (t : TypeId) (hg : w.heap[g]? = some (.cells cur.toArray t (0, 0))) (cs : List Value) (hn : cs.length = Nat.min sLen dLen)
    (hpos : 0 < cs.length → dp = some ⟨g, off, none⟩ ∧ ∃ ad, sp = some ad ∧ ∀ j v, cs[j]? = some v → w.cell? (ad.add j) = some v)
    (hfit : off + cs.length ≤ cur.length) (h1 : ∀ v ∈ cs, v.oneCell' = true)
    (h : ∀ w', Hid (Row1 w w' g (splice cur off cs) t) → wpList P ops Q rest (a.put o.dst (goInt cs.length)) w') :
    wpList P ops Q (o :: rest) a w := by
  by_cases h0 : cs.length = 0
  · obtain rfl : cs = [] := List.eq_nil_of_length_eq_zero h0
    refine wpList_copy_nothing hgd d s dT sT ho elem hu hsz dp sp dLen dCap sLen sCap hd hs (by simpa using hn.symm) ?_
    exact h w (hide (by simpa [splice] using Row1.refl hg))
  · obtain ⟨rfl, ad, rfl, hsrc⟩ := hpos (by omega)
    refine wpList_copy_own hgd d s dT sT ho elem hu hsz g off dLen dCap ad sLen sCap hd hs cur.toArray t hg cs hn hsrc (by simpa using hfit) h1 ?_
    exact h _ (hide (by simpa [splice] using Row1.of_set (splice cur off cs) hg))

theorem run_clear_row (w : World) (t e ty : TypeId) (z : Value) (ht : P.underlying t = some (.slice e)) (hv : ∀ w, (zeroValue e).run P w = .ok z w) (hz : z.cells = #[z]) (h1 : z.oneCell' = true) (g o n c : Nat) (hn : 0 < n)
    (cur : List Value) (et : TypeId) (hg : w.heap[g]? = some (.cells cur.toArray et (0, 0))) (hfit : o + n ≤ cur.length) :
    (Builtin.clear_ #[t] ty #[.slice (some ⟨g, o, none⟩) n c]).run P w = .ok (.tuple #[]) (w.setRow g (splice cur o (List.replicate n z)).toArray) := by
  have hzc : (Builtin.zeroCells z.cells n).toList = List.replicate n z := by
    rw [hz]
    simp [Builtin.zeroCells]
    apply List.ext_getElem
    · simp
    · intro i h1 h2
      simp [Nat.mod_one]
  have hst := run_storeCells_at P g o et (List.replicate n z) 0 cur.toArray w hg (by simpa using hfit) (by intro v hv'; rw [List.eq_of_mem_replicate hv']; exact h1)
  simp only [Nat.add_zero] at hst
  obtain ⟨m, rfl⟩ : ∃ m, n = m + 1 := ⟨n - 1, by omega⟩
  simp [Builtin.clear_, run_underlying ht, hv, hzc, hst, splice]

theorem run_clear_none (w : World) (t e ty : TypeId) (ht : P.underlying t = some (.slice e)) (a : Option Addr) (c : Nat) : (Builtin.clear_ #[t] ty #[.slice a 0 c]).run P w = .ok (.tuple #[]) w := by
  cases a <;> simp [Builtin.clear_, run_underlying ht]

theorem wpList_clear_row {w : World} {ops : Array Oper} {rest : List Oper} {o : Oper} {a : Act} {Q : Exit → Act → World → Prop} (hgd : o.guard = none) (d : Operand) (dT : TypeId)
    (ho : o.op = .call { callee := .builtin .clear, args := #[d], argTypes := #[dT] }) (e : TypeId) (hu : P.underlying dT = some (.slice e)) (z : Value) (hv : ∀ w, (zeroValue e).run P w = .ok z w) (hz : z.cells = #[z]) (h1 : z.oneCell' = true)
    (dp : Option Addr) (dLen dCap : Nat) (hd : a.eval d = .slice dp dLen dCap) (g off : Nat) (cur : List Value) (t : TypeId) (hg : w.heap[g]? = some (.cells cur.toArray t (0, 0)))
    (hpos : 0 < dLen → dp = some ⟨g, off, none⟩) (hfit : off + dLen ≤ cur.length)
    (h : ∀ w', Hid (Row1 w w' g (splice cur off (List.replicate dLen z)) t) → wpList P ops Q rest (a.put o.dst (.tuple #[])) w') :
    wpList P ops Q (o :: rest) a w := by
  refine wpList_plain hgd fun K hK => ?_
  by_cases h0 : dLen = 0
  · subst h0
    have hrun := run_clear_none (P := P) w dT e o.type hu dp dCap
    unfold Oper.wp
    simp [execOp, ho, resolve, invoke, builtin, hd, hrun, Result.andThen]
    exact hK _ _ (h w (hide (by simpa [splice] using Row1.refl hg)))
  · obtain rfl := hpos (by omega)
    have hrun := run_clear_row (P := P) w dT e o.type z hu hv hz h1 g off dLen dCap (by omega) cur t hg hfit
    unfold Oper.wp
    simp [execOp, ho, resolve, invoke, builtin, hd, hrun, Result.andThen]
    exact hK _ _ (h _ (hide (Row1.of_set _ hg)))
end
end Go.Proofs.YtbgngikejgihgagGreatDoor

namespace Go.Proofs.YtbgngikejgihgagGreatDoor
open Go Go.RowKit
set_option linter.unusedVariables false

/-- Elements of three cells, laid one behind another. -/
abbrev T3v := Value × Value × Value
def fl3 : List T3v → List Value
  | [] => []
  | x :: R => x.1 :: x.2.1 :: x.2.2 :: fl3 R
theorem fl3_len (R : List T3v) : (fl3 R).length = R.length * 3 := by
  induction R with
  | nil => rfl
  | cons x R ih => simp only [fl3, List.length_cons, ih]; omega
theorem fl3_app (a b : List T3v) : fl3 (a ++ b) = fl3 a ++ fl3 b := by
  induction a with
  | nil => rfl
  | cons x a ih => simp only [List.cons_append, fl3, ih]
theorem fl3_take (R : List T3v) (n : Nat) : (fl3 R).take (n * 3) = fl3 (R.take n) := by
  induction n generalizing R with
  | zero => simp [fl3]
  | succ n ih =>
    cases R with
    | nil => simp [fl3]
    | cons x R =>
      rw [show (n + 1) * 3 = n * 3 + 1 + 1 + 1 by omega]
      simp only [fl3, List.take_succ_cons, ih]
theorem fl3_drop (R : List T3v) (n : Nat) : (fl3 R).drop (n * 3) = fl3 (R.drop n) := by
  induction n generalizing R with
  | zero => simp
  | succ n ih =>
    cases R with
    | nil => simp [fl3]
    | cons x R =>
      rw [show (n + 1) * 3 = n * 3 + 1 + 1 + 1 by omega]
      simp only [fl3, List.drop_succ_cons, ih]
theorem splice_fl3 {R cs : List T3v} {sp : List Value} {off : Nat} (h : off + cs.length ≤ R.length) : splice (fl3 R ++ sp) (off * 3) (fl3 cs) = fl3 (splice R off cs) ++ sp := by
  unfold splice
  have h1 := fl3_len R
  have h2 := fl3_len cs
  rw [fl3_app, fl3_app, List.take_append_of_le_length (by omega), List.drop_append_of_le_length (by omega), fl3_take, h2, show off * 3 + cs.length * 3 = (off + cs.length) * 3 by omega, fl3_drop]
  simp only [List.append_assoc]
theorem fl3_get {R : List T3v} {i : Nat} {x : T3v} (h : R[i]? = some x) : (fl3 R)[i * 3]? = some x.1 ∧ (fl3 R)[i * 3 + 1]? = some x.2.1 ∧ (fl3 R)[i * 3 + 2]? = some x.2.2 := by
  induction R generalizing i with
  | nil => simp at h
  | cons y R ih =>
    cases i with
    | zero => simp at h; subst h; exact ⟨rfl, rfl, rfl⟩
    | succ i =>
      simp only [List.getElem?_cons_succ] at h
      have := ih h
      rw [show (i + 1) * 3 = i * 3 + 1 + 1 + 1 by omega, show i * 3 + 1 + 1 + 1 + 1 = i * 3 + 1 + 1 + 1 + 1 by omega, show i * 3 + 1 + 1 + 1 + 2 = i * 3 + 2 + 1 + 1 + 1 by omega]
      simp only [fl3, List.getElem?_cons_succ]
      exact this
/-- One cell each. -/
def One3 (R : List T3v) : Prop := ∀ x ∈ R, x.1.oneCell' = true ∧ x.2.1.oneCell' = true ∧ x.2.2.oneCell' = true
theorem One3.fl {R : List T3v} (h : One3 R) : ∀ v ∈ fl3 R, v.oneCell' = true := by
  induction R with
  | nil => simp [fl3]
  | cons x R ih =>
    intro v hv
    simp only [fl3, List.mem_cons] at hv
    have hx := h x (by simp)
    rcases hv with rfl | rfl | rfl | hv
    · exact hx.1
    · exact hx.2.1
    · exact hx.2.2
    · exact ih (fun y hy => h y (List.mem_cons_of_mem _ hy)) v hv
theorem One3.take {R : List T3v} (h : One3 R) (n : Nat) : One3 (R.take n) := fun x hx => h x (List.mem_of_mem_take hx)
theorem One3.drop {R : List T3v} (h : One3 R) (n : Nat) : One3 (R.drop n) := fun x hx => h x (List.mem_of_mem_drop hx)
theorem One3.app {a b : List T3v} (h : One3 a) (k : One3 b) : One3 (a ++ b) := fun x hx => by
  rcases List.mem_append.1 hx with q | q
  · exact h x q
  · exact k x q

section
variable {P : Program}
theorem run_copy_none3 (w : World) (dT sT ty elem : TypeId) (d a : Option Addr) (dLen dCap sLen sCap : Nat) (hu : P.underlying dT = some (.slice elem)) (hs : (P.info? elem).map (·.size) = some 3) (hn : Nat.min sLen dLen = 0) :
    (Builtin.copy_ #[dT, sT] ty #[.slice d dLen dCap, .slice a sLen sCap]).run P w = .ok (goInt 0) w := by
  cases hq : P.info? elem with
  | none => simp [hq] at hs
  | some i =>
    have hl : ∀ (x : Addr), (loadCells x 0).run P w = .ok #[] w := fun x => by simpa using run_loadCells_list (P := P) w x [] (by simp)
    cases d <;> cases a <;> simp [Builtin.copy_, run_underlying hu, Builtin.lenOf, Builtin.firstCells, sizeOf, typeInfo, hq, hn, storeCells, hl]
theorem run_copy_row3 (w : World) (dT sT ty elem : TypeId) (g o dLen dCap : Nat) (a : Addr) (sLen sCap : Nat) (cur : Array Value) (t : TypeId) (m : Nat) (cs : List Value)
    (hu : P.underlying dT = some (.slice elem)) (hs : (P.info? elem).map (·.size) = some 3)
    (hg : w.heap[g]? = some (.cells cur t (0, 0))) (hm : m = Nat.min sLen dLen) (hn : cs.length = m * 3)
    (hsrc : ∀ j v, cs[j]? = some v → w.cell? (a.add j) = some v) (hfit : o + cs.length ≤ cur.size) (h1 : ∀ v ∈ cs, v.oneCell' = true) :
    (Builtin.copy_ #[dT, sT] ty #[.slice (some ⟨g, o, none⟩) dLen dCap, .slice (some a) sLen sCap]).run P w =
      .ok (goInt m) (w.setRow g (cur.toList.take o ++ cs ++ cur.toList.drop (o + cs.length)).toArray) := by
  have hl := run_loadCells_list (P := P) w a cs hsrc
  have hst := run_storeCells_at P g o t cs 0 cur w hg (by simpa using hfit) h1
  cases hq : P.info? elem with
  | none => simp [hq] at hs
  | some i =>
    have hi : i.size = 3 := by simpa [hq] using hs
    rw [hn] at hl
    simp [Builtin.copy_, run_underlying hu, Builtin.lenOf, Builtin.firstCells, sizeOf, typeInfo, hq, hi, ← hm, hl, hst]

theorem step_copy_row3 {ops : Array Oper} {o : Oper} {a : Act} {w : World} {K : Act → World → Prop} {Q : Exit → Act → World → Prop} {E : Prop} (hgd : o.guard = none) (d s : Operand) (dT sT : TypeId)
    (ho : o.op = .call { callee := .builtin .copy, args := #[d, s], argTypes := #[dT, sT] }) (elem : TypeId) (hu : P.underlying dT = some (.slice elem)) (hsz : (P.info? elem).map (·.size) = some 3)
    (dp sp : Option Addr) (dLen dCap sLen sCap : Nat) (hd : a.eval d = .slice dp dLen dCap) (hs : a.eval s = .slice sp sLen sCap)
    (g off : Nat) (cur : List Value) (t : TypeId) (hg : w.heap[g]? = some (.cells cur.toArray t (0, 0))) (m : Nat) (hm : m = Nat.min sLen dLen) (cs : List Value) (hn : cs.length = m * 3)
    (hpos : 0 < m → dp = some ⟨g, off, none⟩ ∧ ∃ ad, sp = some ad ∧ ∀ j v, cs[j]? = some v → w.cell? (ad.add j) = some v)
    (hfit : off + cs.length ≤ cur.length) (h1 : ∀ v ∈ cs, v.oneCell' = true)
    (h : ∀ w', Hid (Row1 w w' g (splice cur off cs) t) → K (a.put o.dst (goInt m)) w') :
    if Region.wanted o (yielded ops a.tmps) = true then Oper.wp P o a w K Q else E := by
  have hw : Region.wanted o (yielded ops a.tmps) = true := by simp [Region.wanted, hgd]
  rw [if_pos hw]
  by_cases h0 : m = 0
  · subst h0
    obtain rfl : cs = [] := List.eq_nil_of_length_eq_zero (by omega)
    have hrun := run_copy_none3 (P := P) w dT sT o.type elem dp sp dLen dCap sLen sCap hu hsz hm.symm
    unfold Oper.wp
    simp [execOp, ho, resolve, invoke, builtin, hd, hs, hrun, Result.andThen]
    exact h w (hide (by simpa [splice] using Row1.refl hg))
  · obtain ⟨rfl, ad, rfl, hsrc⟩ := hpos (by omega)
    have hrun := run_copy_row3 (P := P) w dT sT o.type elem g off dLen dCap ad sLen sCap cur.toArray t m cs hu hsz hg hm hn hsrc (by simpa using hfit) h1
    unfold Oper.wp
    simp [execOp, ho, resolve, invoke, builtin, hd, hs, hrun, Result.andThen]
    exact h _ (hide (by simpa [splice] using Row1.of_set (splice cur off cs) hg))

theorem wpList_copy_row3 {w : World} {ops : Array Oper} {rest : List Oper} {o : Oper} {a : Act} {Q : Exit → Act → World → Prop} (hgd : o.guard = none) (d s : Operand) (dT sT : TypeId)
    (ho : o.op = .call { callee := .builtin .copy, args := #[d, s], argTypes := #[dT, sT] }) (elem : TypeId) (hu : P.underlying dT = some (.slice elem)) (hsz : (P.info? elem).map (·.size) = some 3)
    (dp sp : Option Addr) (dLen dCap sLen sCap : Nat) (hd : a.eval d = .slice dp dLen dCap) (hs : a.eval s = .slice sp sLen sCap)
    (g off : Nat) (cur : List Value) (t : TypeId) (hg : w.heap[g]? = some (.cells cur.toArray t (0, 0))) (m : Nat) (hm : m = Nat.min sLen dLen) (cs : List Value) (hn : cs.length = m * 3)
    (hpos : 0 < m → dp = some ⟨g, off, none⟩ ∧ ∃ ad, sp = some ad ∧ ∀ j v, cs[j]? = some v → w.cell? (ad.add j) = some v)
    (hfit : off + cs.length ≤ cur.length) (h1 : ∀ v ∈ cs, v.oneCell' = true)
    (h : ∀ w', Hid (Row1 w w' g (splice cur off cs) t) → wpList P ops Q rest (a.put o.dst (goInt m)) w') :
    wpList P ops Q (o :: rest) a w := by
  refine wpList_plain hgd fun K hK => ?_
  by_cases h0 : m = 0
  · subst h0
    obtain rfl : cs = [] := List.eq_nil_of_length_eq_zero (by omega)
    have hrun := run_copy_none3 (P := P) w dT sT o.type elem dp sp dLen dCap sLen sCap hu hsz hm.symm
    unfold Oper.wp
    simp [execOp, ho, resolve, invoke, builtin, hd, hs, hrun, Result.andThen]
    exact hK _ _ (h w (hide (by simpa [splice] using Row1.refl hg)))
  · obtain ⟨rfl, ad, rfl, hsrc⟩ := hpos (by omega)
    have hrun := run_copy_row3 (P := P) w dT sT o.type elem g off dLen dCap ad sLen sCap cur.toArray t m cs hu hsz hg hm hn hsrc (by simpa using hfit) h1
    unfold Oper.wp
    simp [execOp, ho, resolve, invoke, builtin, hd, hs, hrun, Result.andThen]
    exact hK _ _ (h _ (hide (by simpa [splice] using Row1.of_set (splice cur off cs) hg)))

theorem zero3 (a b c : Value) (n : Nat) : (Builtin.zeroCells #[a, b, c] n).toList = fl3 (List.replicate n (a, b, c)) := by
  apply List.ext_getElem?
  intro i
  have hl := fl3_len (List.replicate n (a, b, c))
  rw [List.length_replicate] at hl
  by_cases hi : i < n * 3
  · have h1 : i / 3 < n := by omega
    have hg := fl3_get (R := List.replicate n (a, b, c)) (i := i / 3) (x := (a, b, c)) (by simp [h1])
    have hm : i % 3 = 0 ∨ i % 3 = 1 ∨ i % 3 = 2 := by omega
    have hz : (Builtin.zeroCells #[a, b, c] n).toList[i]? = some (#[a, b, c][i % 3]!) := by
      simp [Builtin.zeroCells, hi]
    rw [hz]
    rcases hm with hm | hm | hm
    · rw [show i / 3 * 3 = i by omega] at hg
      rw [hg.1, hm]; rfl
    · rw [show i / 3 * 3 + 1 = i by omega] at hg
      rw [hg.2.1, hm]; rfl
    · rw [show i / 3 * 3 + 2 = i by omega] at hg
      rw [hg.2.2, hm]; rfl
  · rw [List.getElem?_eq_none (by simp [Builtin.zeroCells]; omega), List.getElem?_eq_none (by omega)]

theorem run_clear_row3 (w : World) (t e ty : TypeId) (z : Value) (z0 z1 z2 : Value) (ht : P.underlying t = some (.slice e)) (hv : ∀ w, (zeroValue e).run P w = .ok z w) (hz : z.cells = #[z0, z1, z2]) (h1 : z0.oneCell' = true ∧ z1.oneCell' = true ∧ z2.oneCell' = true) (g o n c : Nat) (hn : 0 < n)
    (cur : List Value) (et : TypeId) (hg : w.heap[g]? = some (.cells cur.toArray et (0, 0))) (hfit : o + n * 3 ≤ cur.length) :
    (Builtin.clear_ #[t] ty #[.slice (some ⟨g, o, none⟩) n c]).run P w = .ok (.tuple #[]) (w.setRow g (splice cur o (fl3 (List.replicate n (z0, z1, z2)))).toArray) := by
  have hzc : (Builtin.zeroCells z.cells n).toList = fl3 (List.replicate n (z0, z1, z2)) := by rw [hz]; exact zero3 z0 z1 z2 n
  have hlen := fl3_len (List.replicate n (z0, z1, z2))
  rw [List.length_replicate] at hlen
  have hst := run_storeCells_at P g o et (fl3 (List.replicate n (z0, z1, z2))) 0 cur.toArray w hg (by simpa [hlen] using hfit) (One3.fl (fun x hx => by rw [List.eq_of_mem_replicate hx]; exact h1))
  simp only [Nat.add_zero] at hst
  obtain ⟨m, rfl⟩ : ∃ m, n = m + 1 := ⟨n - 1, by omega⟩
  simp [Builtin.clear_, run_underlying ht, hv, hzc, hst, splice]

theorem wpList_clear_row3 {w : World} {ops : Array Oper} {rest : List Oper} {o : Oper} {a : Act} {Q : Exit → Act → World → Prop} (hgd : o.guard = none) (d : Operand) (dT : TypeId)
    (ho : o.op = .call { callee := .builtin .clear, args := #[d], argTypes := #[dT] }) (e : TypeId) (hu : P.underlying dT = some (.slice e)) (z z0 z1 z2 : Value) (hv : ∀ w, (zeroValue e).run P w = .ok z w) (hz : z.cells = #[z0, z1, z2]) (h1 : z0.oneCell' = true ∧ z1.oneCell' = true ∧ z2.oneCell' = true)
    (dp : Option Addr) (dLen dCap : Nat) (hd : a.eval d = .slice dp dLen dCap) (g off : Nat) (cur : List Value) (t : TypeId) (hg : w.heap[g]? = some (.cells cur.toArray t (0, 0)))
    (hpos : 0 < dLen → dp = some ⟨g, off, none⟩) (hfit : off + dLen * 3 ≤ cur.length)
    (h : ∀ w', Hid (Row1 w w' g (splice cur off (fl3 (List.replicate dLen (z0, z1, z2)))) t) → wpList P ops Q rest (a.put o.dst (.tuple #[])) w') :
    wpList P ops Q (o :: rest) a w := by
  refine wpList_plain hgd fun K hK => ?_
  by_cases h0 : dLen = 0
  · subst h0
    have hrun := run_clear_none (P := P) w dT e o.type hu dp dCap
    unfold Oper.wp
    simp [execOp, ho, resolve, invoke, builtin, hd, hrun, Result.andThen]
    exact hK _ _ (h w (hide (by simpa [splice, fl3] using Row1.refl hg)))
  · obtain rfl := hpos (by omega)
    have hrun := run_clear_row3 (P := P) w dT e o.type z z0 z1 z2 hu hv hz h1 g off dLen dCap (by omega) cur t hg hfit
    unfold Oper.wp
    simp [execOp, ho, resolve, invoke, builtin, hd, hrun, Result.andThen]
    exact hK _ _ (h _ (hide (Row1.of_set _ hg)))
end
end Go.Proofs.YtbgngikejgihgagGreatDoor
