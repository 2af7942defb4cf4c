import Derived.Test.YtbgngikejgihgadGreatDoorMq04
import Derived.Test.YtbgngikejgihgadGreatDoorMq01
import Derived.Lib.ItoaLen
import Derived.Lib.ItoaMem
import Derived.Lib.AppendIntMem
import Derived.Shelf.LaysM
import Derived.Shelf.Strconv.AppendIntPublic10
import Derived.Ground.NamesProg
import Derived.Test.YtbgngikejgihgadGreatDoorProg
import Derived.Test.YtbgngikejgihgadGreatDoorMq07
import Derived.Lib.AppendStr
import Derived.Lib.OthersKept
import Derived.WalkLawsBesides
import Derived.Test.YtbgngikejgihgadGreatDoorMq03
import Derived.Test.YtbgngikejgihgadGreatDoorMq05
namespace Go.Proofs.YtbgngikejgihgadGreatDoor
open Go Go.RowKit
set_option linter.unusedVariables false

/-- The letter of a mark's gravity. -/
def grB (x : Mk) : UInt8 := if x.2.2 = 0 then 76 else 82
/-- The line of a mark, without its end. -/
def pU (x : Mk) : List UInt8 := Lib.itoa x.1 ++ 32 :: (Lib.itoa x.2.1 ++ 32 :: [grB x])
def expU (xs : List Mk) : List UInt8 := xs.flatMap fun x => pU x ++ [10]
theorem bts_pU (x : Mk) : bts (pU x ++ [10]) = lineB x := by
  unfold pU lineB grB grv bts
  split <;> simp
theorem bts_expU (xs : List Mk) : bts (expU xs) = expB xs := by
  induction xs with
  | nil => rfl
  | cons x xs ih =>
    have e1 : expU (x :: xs) = (pU x ++ [10]) ++ expU xs := by simp [expU]
    have e2 : expB (x :: xs) = lineB x ++ expB xs := by simp [expB]
    rw [e1, e2, bts_append, bts_pU, ih]
theorem itoa_byte (n : Int) : ∀ c ∈ Lib.itoa n, c.toNat = 45 ∨ (48 ≤ c.toNat ∧ c.toNat ≤ 57) := by
  intro c hc
  rcases Int.lt_or_le n 0 with h | h
  · obtain ⟨a, rfl⟩ : ∃ a : Nat, n = -(a : Int) := ⟨n.natAbs, by omega⟩
    rw [Lib.itoa_neg a (by omega)] at hc
    rcases List.mem_cons.1 hc with rfl | hc
    · left; rfl
    · right; exact digits_byte a c hc
  · obtain ⟨a, rfl⟩ := Int.eq_ofNat_of_zero_le h
    rw [Lib.itoa_nonneg] at hc
    right; exact digits_byte a c hc
theorem itoa_no (n : Int) (c : UInt8) (h : c.toNat < 45) : c ∉ Lib.itoa n := by
  intro hc
  have := itoa_byte n c hc
  omega
theorem digits_len (k : Nat) : ∀ u, u < 10 ^ (k + 1) → (Lib.decDigits u).length ≤ k + 1 := by
  induction k with
  | zero => intro u h; rw [Lib.decDigits_one (by simpa using h)]; simp
  | succ k ih =>
    intro u h
    by_cases h9 : u < 10
    · rw [Lib.decDigits_one h9]; simp
    · rw [digits_step (by omega), List.length_append]
      have := ih (u / 10) (by rw [Nat.pow_succ] at h; omega)
      simp only [List.length_singleton]; omega
theorem num_itoa (n : Int) (h0 : -1000000000 ≤ n) (h1 : n ≤ 1000000000) : numU (Lib.itoa n) 10 = some n :=
  numU_of rfl (by rw [dropM_itoa]; exact digits_len 9 _ (by simp; omega))
theorem cut_pU (x : Mk) : cutU 32 (pU x) = [Lib.itoa x.1, Lib.itoa x.2.1, [grB x]] := by
  unfold pU
  rw [cutU_hit _ (itoa_no _ 32 (by decide)), cutU_hit _ (itoa_no _ 32 (by decide)), cutU_none]
  unfold grB
  split <;> simp
theorem pars_pU {x : Mk} (h1 : inI x = true) (h2 : inO x = true) : parsU (pU x) = (0, x) := by
  simp only [inI, inO, Bool.and_eq_true, decide_eq_true_eq] at h1 h2
  rw [parsU_ok (cut_pU x) (num_itoa _ (by omega) (by omega)) (num_itoa _ (by omega) (by omega))]
  obtain ⟨i, o, g⟩ := x
  simp only at h1 h2 ⊢
  have e : grU [grB (i, o, g)] = g := by
    unfold grB
    simp only
    split
    · rename_i hg; subst hg; rfl
    · have : g = 1 := by omega
      subst this; rfl
  rw [e]
theorem ten_pU (x : Mk) : (10 : UInt8) ∉ pU x := by
  unfold pU
  simp only [List.mem_append, List.mem_cons, List.not_mem_nil, or_false, not_or]
  refine ⟨itoa_no _ 10 (by decide), by decide, itoa_no _ 10 (by decide), by decide, ?_⟩
  unfold grB
  split <;> decide
theorem cut_expU (xs : List Mk) : cutU 10 (expU xs) = xs.map pU ++ [[]] := by
  induction xs with
  | nil => rfl
  | cons x xs ih =>
    have e1 : expU (x :: xs) = pU x ++ 10 :: expU xs := by simp [expU]
    rw [e1, cutU_hit _ (ten_pU x), ih]; rfl
theorem code_pU {t : List Mk} {x : Mk} (h : addErr t x = 0) : codeU t (pU x) = 0 := by
  have h9 := h
  unfold addErr at h9
  have h1 : inI x = true := by
    cases q : inI x with
    | true => rfl
    | false => rw [if_pos q] at h9; omega
  have h2 : inO x = true := by
    cases q : inO x with
    | true => rfl
    | false => rw [if_neg (by rw [h1]; simp), if_pos q] at h9; omega
  unfold codeU
  rw [pars_pU h1 h2]
  exact h
theorem parsV {t : List Mk} {p : List UInt8} (h : codeU t p = 0) : (parsU p).1 = 0 ∧ addErr t (parsU p).2 = 0 := by
  unfold codeU at h
  by_cases h1 : (parsU p).1 = 0
  · rw [if_pos h1] at h; exact ⟨h1, h⟩
  · rw [if_neg h1] at h; exact absurd h h1
theorem addErr_in {t : List Mk} {x : Mk} (h : addErr t x = 0) : inI x = true ∧ inO x = true := by
  unfold addErr at h
  have h1 : inI x = true := by
    cases q : inI x with
    | true => rfl
    | false => rw [if_pos q] at h; omega
  refine ⟨h1, ?_⟩
  cases q : inO x with
  | true => rfl
  | false => rw [if_neg (by rw [h1]; simp), if_pos q] at h; omega

theorem impU_exp : ∀ (ys t : List Mk) (k : Nat), Vd (t ++ ys) → impU t k (ys.map pU ++ [[]]) = (t ++ ys, 0, 0)
  | [], t, k, h => by simp [impU_last]
  | y :: ys, t, k, h => by
    have e : t ++ y :: ys = (t ++ [y]) ++ ys := by simp
    have h1 : Vd (t ++ [y]) := by
      have := h.take (t.length + 1)
      rw [e, List.take_append_of_le_length (by simp), List.take_of_length_le (by simp)] at this
      exact this
    have ha := (Vd.step.1 h1).2
    have hi := addErr_in ha
    have hc := code_pU ha
    rw [List.map_cons, List.cons_append, impU_step (by simp) hc, pars_pU hi.1 hi.2, impU_exp ys (t ++ [y]) (k + 1) (by rw [← e]; exact h), e]
theorem imp_exp {t : List Mk} (h : Vd t) (hl : (expU t).length ≤ 8192) : impAns (expU t) = (t, 0, 0) := by
  unfold impAns
  rw [if_neg (by omega), cut_expU]
  have := impU_exp t [] 0 (by simpa using h)
  simpa using this

/-- Parts joined again. -/
def cutJ (c : UInt8) : List (List UInt8) → List UInt8
  | [] => []
  | [a] => a
  | a :: b :: r => a ++ c :: cutJ c (b :: r)
theorem cutJ_snoc (c : UInt8) (b : List UInt8) : ∀ (d : List (List UInt8)) (a : List UInt8), cutJ c (d ++ [a, b]) = cutJ c (d ++ [a]) ++ c :: b
  | [], a => rfl
  | [x], a => by simp [cutJ]
  | x :: y :: r, a => by
    have := cutJ_snoc c b (y :: r) a
    simp only [List.cons_append, cutJ] at this ⊢
    rw [this]; simp
theorem cutJ_last (c : UInt8) (x : List UInt8) : ∀ (d : List (List UInt8)) (a : List UInt8), cutJ c (d ++ [a ++ x]) = cutJ c (d ++ [a]) ++ x
  | [], a => rfl
  | [y], a => by simp [cutJ]
  | z :: y :: r, a => by
    have := cutJ_last c x (y :: r) a
    simp only [List.cons_append, cutJ] at this ⊢
    rw [this]; simp
theorem cutJ_cutU (c : UInt8) (l : List UInt8) : cutJ c (cutU c l) = l := by
  have key : ∀ (l : List UInt8) (s : List (List UInt8) × List UInt8), cutJ c ((l.foldl (cutF c) s).1 ++ [(l.foldl (cutF c) s).2]) = cutJ c (s.1 ++ [s.2]) ++ l := by
    intro l
    induction l with
    | nil => intro s; simp
    | cons x l ih =>
      intro s
      simp only [List.foldl_cons]
      rw [ih]
      unfold cutF
      split
      · rename_i h
        subst h
        simp only
        rw [List.append_assoc, List.singleton_append, cutJ_snoc]
        simp
      · simp only
        rw [cutJ_last]
        simp
  have := key l ([], [])
  simpa [cutU, cutS, cutJ] using this
theorem grU_in {g : List UInt8} (h : 0 ≤ grU g ∧ grU g ≤ 1) : g = [if grU g = 0 then 76 else 82] := by
  unfold grU at h ⊢
  by_cases h1 : g = [76]
  · subst h1; rfl
  · rw [if_neg h1] at h ⊢
    by_cases h2 : g = [82]
    · subst h2; rfl
    · rw [if_neg h2] at h; omega
theorem pU_pars {p : List UInt8} (h0 : (parsU p).1 = 0) (hi : inI (parsU p).2 = true) : p = pU (parsU p).2 := by
  have hj := cutJ_cutU 32 p
  unfold parsU at h0 hi ⊢
  split at h0
  · rename_i a b g hc
    rw [hc] at hj
    split at h0
    · rename_i i o ha hb
      simp only [hc, ha, hb] at hi ⊢
      have ea := (numU_some ha).1
      have eb := (numU_some hb).1
      simp only [inI, Bool.and_eq_true, decide_eq_true_eq] at hi
      have eg := grU_in hi.2
      have ep : pU (i, o, grU g) = a ++ 32 :: (b ++ 32 :: g) := by
        unfold pU grB
        simp only
        rw [ea, eb]
        conv => rhs; rw [eg]
      rw [ep, ← hj]
      rfl
    · omega
  · omega
theorem impU_back : ∀ (P : List (List UInt8)) (t t' : List Mk) (k : Nat) (ln : Int), Vd t → P ≠ [] → impU t k P = (t', 0, ln) → ∃ ys, t' = t ++ ys ∧ P = ys.map pU ++ [[]] ∧ Vd t'
  | [], t, t', k, ln, hv, hn, h => absurd rfl hn
  | [q], t, t', k, ln, hv, hn, h => by
    rw [impU_last] at h
    split at h
    · rename_i hq
      have e := congrArg Prod.fst h
      simp only at e
      subst e
      exact ⟨[], by simp, by simp [List.eq_nil_of_length_eq_zero hq], hv⟩
    · have e := congrArg (fun x => x.2.1) h
      simp at e
  | p :: q :: ps, t, t', k, ln, hv, hn, h => by
    by_cases hc : codeU t p = 0
    · rw [impU_step (by simp) hc] at h
      have h1 := parsV hc
      have hv1 : Vd (t ++ [(parsU p).2]) := Vd.step.2 ⟨hv, h1.2⟩
      obtain ⟨ys, e1, e2, e3⟩ := impU_back (q :: ps) _ t' (k + 1) ln hv1 (by simp) h
      refine ⟨(parsU p).2 :: ys, by rw [e1]; simp, ?_, e3⟩
      rw [e2, List.map_cons, List.cons_append, ← pU_pars h1.1 (addErr_in h1.2).1]
    · rw [impU_bad (by simp) hc] at h
      have e := congrArg (fun x => x.2.1) h
      exact absurd e hc
theorem exp_cutJ (ys : List Mk) : cutJ 10 (ys.map pU ++ [[]]) = expU ys := by
  induction ys with
  | nil => rfl
  | cons y ys ih =>
    have e1 : expU (y :: ys) = pU y ++ 10 :: expU ys := by simp [expU]
    rw [e1, ← ih]
    cases ys with
    | nil => rfl
    | cons z zs => rfl
theorem exp_imp {l : List UInt8} (h : (impAns l).2.1 = 0) : expU (impAns l).1 = l ∧ Vd (impAns l).1 := by
  unfold impAns at h ⊢
  by_cases hl : 8192 < l.length
  · rw [if_pos hl] at h; simp at h
  · rw [if_neg hl] at h ⊢
    obtain ⟨ys, e1, e2, e3⟩ := impU_back (cutU 10 l) [] (impU [] 0 (cutU 10 l)).1 0 (impU [] 0 (cutU 10 l)).2.2 Vd.nil (cutU_ne 10 l) (by rw [← h])
    rw [List.nil_append] at e1
    refine ⟨?_, e3⟩
    rw [e1, ← exp_cutJ, ← e2, cutJ_cutU]
end Go.Proofs.YtbgngikejgihgadGreatDoor

namespace Go.Proofs.YtbgngikejgihgadGreatDoor
open Go Go.RowKit
set_option linter.unusedVariables false

/-- Numbers with one space between. -/
def numB : List Int → List UInt8
  | [] => []
  | z :: zs => Lib.itoa z ++ zs.flatMap (fun y => 32 :: Lib.itoa y)
theorem numB_snoc {zs : List Int} (h : zs ≠ []) (z : Int) : numB (zs ++ [z]) = numB zs ++ (32 :: Lib.itoa z) := by
  cases zs with
  | nil => exact absurd rfl h
  | cons y ys => simp [numB]
theorem numB_length (zs : List Int) (h : ∀ z ∈ zs, -9223372036854775808 ≤ z ∧ z ≤ 9223372036854775807) : (numB zs).length ≤ 22 * zs.length := by
  have hf : ∀ l : List Int, (∀ z ∈ l, -9223372036854775808 ≤ z ∧ z ≤ 9223372036854775807) → (l.flatMap (fun y => 32 :: Lib.itoa y)).length ≤ 22 * l.length := by
    intro l
    induction l with
    | nil => intro _; simp
    | cons y ys ih =>
      intro hh
      have h1 := Lib.itoa_length_le y (hh y (by simp)).1 (hh y (by simp)).2
      have h2 := ih (fun z hz => hh z (by simp [hz]))
      simp only [List.flatMap_cons, List.length_append, List.length_cons] at h2 ⊢
      omega
  cases zs with
  | nil => simp [numB]
  | cons y ys =>
    have h1 := Lib.itoa_length_le y (h y (by simp)).1 (h y (by simp)).2
    have h2 := hf ys (fun z hz => h z (by simp [hz]))
    simp only [numB, List.length_append, List.length_cons]
    omega
theorem byteCells_append (a b : List UInt8) : Lib.byteCells (a ++ b) = Lib.byteCells a ++ Lib.byteCells b := by simp [Lib.byteCells]

end Go.Proofs.YtbgngikejgihgadGreatDoor

namespace Go.Proofs
open Go.Shelf
def Tryz.aiLays_ren : Go.Shelf.Ren := ⟨fun | 176 => 40 | 249 => 57 | 288 => 69 | 283 => 80 | 284 => 81 | 285 => 82 | 286 => 83 | 129 => 96 | 317 => 95 | 318 => 97 | 319 => 98 | 320 => 99 | 337 => 108 | 338 => 109 | n => n, fun | 37 => 22 | 2 => 2 | 3 => 3 | 53 => 56 | 4 => 4 | 9 => 9 | 171 => 136 | 0 => 0 | 173 => 139 | 212 => 152 | 51 => 153 | 5 => 5 | 20 => 20 | 213 => 154 | 46 => 59 | 232 => 175 | 233 => 176 | n => n, fun | 17 => 2 | 18 => 7 | 19 => 8 | n => n⟩
theorem Tryz.aiLays : Go.Proofs.LaysM.n176 Tryz.prog Tryz.aiLays_ren := {
  mixed := by kernel_rfl
  f129 := Tryz.func96.trans (congrArg some (by kernel_rfl))
  f176 := Tryz.func40.trans (congrArg some (by kernel_rfl))
  f249 := Tryz.func57.trans (congrArg some (by kernel_rfl))
  f283 := Tryz.func80.trans (congrArg some (by kernel_rfl))
  f284 := Tryz.func81.trans (congrArg some (by kernel_rfl))
  f285 := Tryz.func82.trans (congrArg some (by kernel_rfl))
  f286 := Tryz.func83.trans (congrArg some (by kernel_rfl))
  f288 := Tryz.func69.trans (congrArg some (by kernel_rfl))
  f317 := Tryz.func95.trans (congrArg some (by kernel_rfl))
  f318 := Tryz.func97.trans (congrArg some (by kernel_rfl))
  f319 := Tryz.func98.trans (congrArg some (by kernel_rfl))
  f320 := Tryz.func99.trans (congrArg some (by kernel_rfl))
  f337 := Tryz.func108.trans (congrArg some (by kernel_rfl))
  f338 := Tryz.func109.trans (congrArg some (by kernel_rfl))
  t0 := Tryz.underlying0
  a0 := Tryz.isAgg0
  z0 := Tryz.sizeOf0
  v0 := Tryz.zeroValue0
  t2 := Tryz.underlying2
  a2 := Tryz.isAgg2
  z2 := Tryz.sizeOf2
  v2 := Tryz.zeroValue2
  t3 := Tryz.underlying3
  a3 := Tryz.isAgg3
  z3 := Tryz.sizeOf3
  v3 := Tryz.zeroValue3
  t4 := Tryz.underlying4
  a4 := Tryz.isAgg4
  z4 := Tryz.sizeOf4
  v4 := Tryz.zeroValue4
  t5 := Tryz.underlying5
  a5 := Tryz.isAgg5
  z5 := Tryz.sizeOf5
  v5 := Tryz.zeroValue5
  t9 := Tryz.underlying9
  a9 := Tryz.isAgg9
  z9 := Tryz.sizeOf9
  v9 := Tryz.zeroValue9
  t20 := Tryz.underlying20
  a20 := Tryz.isAgg20
  z20 := Tryz.sizeOf20
  v20 := Tryz.zeroValue20
  t37 := Tryz.underlying22
  a37 := Tryz.isAgg22
  z37 := Tryz.sizeOf22
  v37 := Tryz.zeroValue22
  t46 := Tryz.underlying59
  a46 := Tryz.isAgg59
  z46 := Tryz.sizeOf59
  v46 := Tryz.zeroValue59
  t51 := Tryz.underlying153
  a51 := Tryz.isAgg153
  z51 := Tryz.sizeOf153
  v51 := Tryz.zeroValue153
  t53 := Tryz.underlying56
  a53 := Tryz.isAgg56
  z53 := Tryz.sizeOf56
  v53 := Tryz.zeroValue56
  t171 := Tryz.underlying136
  a171 := Tryz.isAgg136
  z171 := Tryz.sizeOf136
  v171 := Tryz.zeroValue136
  t173 := Tryz.underlying139
  a173 := Tryz.isAgg139
  z173 := Tryz.sizeOf139
  v173 := Tryz.zeroValue139
  t212 := Tryz.underlying152
  a212 := Tryz.isAgg152
  z212 := Tryz.sizeOf152
  v212 := Tryz.zeroValue152
  t213 := Tryz.underlying154
  a213 := Tryz.isAgg154
  z213 := Tryz.sizeOf154
  t232 := Tryz.underlying175
  a232 := Tryz.isAgg175
  z232 := Tryz.sizeOf175
  v232 := Tryz.zeroValue175
  t233 := Tryz.underlying176
  a233 := Tryz.isAgg176
  z233 := Tryz.sizeOf176
  v233 := Tryz.zeroValue176
  g17 := by kernel_rfl
  g18 := by kernel_rfl
  g19 := by kernel_rfl
  i0 := by kernel_rfl
  i2 := by kernel_rfl
  i3 := by kernel_rfl
  i4 := by kernel_rfl
  i5 := by kernel_rfl
  i9 := by kernel_rfl
  i20 := by kernel_rfl
  i37 := by kernel_rfl
  i46 := by kernel_rfl
  i51 := by kernel_rfl
  i53 := by kernel_rfl
  i171 := by kernel_rfl
  i173 := by kernel_rfl
  i212 := by kernel_rfl
  i232 := by kernel_rfl
  i233 := by kernel_rfl
  m17 := by kernel_rfl
  m18 := by kernel_rfl
  m19 := by kernel_rfl }
end Go.Proofs

namespace Go.Proofs.YtbgngikejgihgadGreatDoor
open Go Go.RowKit
set_option linter.unusedVariables false

abbrev Tab (B : Nat) (w : World) : Prop := Lib.TabBelow Tryz.prog B w "internal/strconv.uint64pow10" .u64 Lib.pow10Tab

theorem aiL (B n : Nat) (i : Int) (h0 : -9223372036854775808 ≤ i) (h1 : i ≤ 9223372036854775807) (sv : Value) (xs : List Value) (w : World) (hown : w.ownsRow B 5 1 sv n xs) (hB : B ≤ w.heap.size) (hlim : n + 21 ≤ 140737488355328) (ht : Tab B w) :
    Calls Tryz.prog 40 #[sv, .int .i64 i, .int .i64 10] w fun e w' => ∃ v', e = .returned v' ∧ w'.ownsRow B 5 1 v' (n + (Lib.itoa i).length) (xs ++ Lib.byteCells (Lib.itoa i)) ∧ Below B w w' ∧ Lib.OthersKept 5 none w w' :=
  Any.strconv_AppendInt_10 Tryz.aiLays B n i h0 h1 sv xs w hown hB hlim ht

set_option maxHeartbeats 4000000 in
set_option maxRecDepth 100000 in
theorem appendNumbersL (B n nb : Nat) (zs : List Int) (sv : Value) (xs : List Value) (w : World) (hown : w.ownsRow B 5 1 sv n xs) (hB : B ≤ w.heap.size) (hn : n ≤ 1000000000000) (hz : zs.length ≤ 16) (hr : ∀ z ∈ zs, -9223372036854775808 ≤ z ∧ z ≤ 9223372036854775807) (hk : w.heap[nb]? = some (.cells (ints .i64 zs).toArray 3 (0, 0))) (ht : Tab B w) :
    Calls Tryz.prog 28 #[sv, .slice (some ⟨nb, 0, none⟩) zs.length zs.length] w fun e w' => ∃ v', e = .returned v' ∧ w'.ownsRow B 5 1 v' (n + (numB zs).length) (xs ++ Lib.byteCells (numB zs)) ∧ Below B w w' ∧ K8 w w' := by
  obtain ⟨i0, hi, hz0, hz1, hz2⟩ := info_parts Tryz.info8
  have HOWN := hide hown
  have HK := hide hk
  have HT := hide ht
  have HR := hide hr
  have HLE := hide (show ∀ k, k ≤ zs.length → (numB (zs.take k)).length ≤ 352 from fun k hk => by
    have := numB_length (zs.take k) (fun z hz => hr z (List.mem_of_mem_take hz))
    have := List.length_take_le k zs
    omega)
  obtain ⟨ao, ml, cp, hsv⟩ : ∃ ao m c, sv = .slice ao m c := by
    rcases hown.2 with ⟨rfl, _⟩ | ⟨g, cap, cur, rfl, _⟩ <;> exact ⟨_, _, _, rfl⟩
  subst hsv
  have HT0 := hide (show numB (zs.take 0) = [] from rfl)
  have HTN := hide (show zs.take zs.length = zs from List.take_length)
  generalize hN : zs.length = m at *
  have HN := hide hN
  clear hown hk ht hr hN
  go_enter Tryz.func28, Tryz.ntmps28
  go_wp2_with fail
  go_loopw [0, 9] (fun bv iv wr => ∃ k : Nat, k ≤ m ∧ iv = .int .i64 k ∧ wr.ownsRow B 5 1 bv (n + (numB (zs.take k)).length) (xs ++ Lib.byteCells (numB (zs.take k))) ∧ Below B w wr ∧ K8 w wr) (fun _ iv _ => m - (intOf iv).toNat)
  case atStart => exact ⟨0, Nat.zero_le _, rfl, by rw [HT0.out]; simpa [Lib.byteCells] using HOWN.out, Below.refl _ _, K8.refl _⟩
  case round =>
    obtain ⟨k, hk, rfl, hob, hbw, hk8⟩ := hrel
    have HOB := hide hob
    have HBW := hide hbw
    have H8 := hide hk8
    have hsw := hbw.size
    obtain ⟨a1, m1, c1, rfl⟩ : ∃ ao m c, u0 = .slice ao m c := by
      rcases hob.2 with ⟨rfl, _⟩ | ⟨g, cap, cur, rfl, _⟩ <;> exact ⟨_, _, _, rfl⟩
    by_cases hkm : k < m
    · have hkm' : (k : Int) < (m : Int) := by omega
      obtain ⟨z, hzk⟩ : ∃ z, zs[k]? = some z := ⟨_, List.getElem?_eq_getElem (by rw [HN.out]; exact hkm)⟩
      have hzr := HR.out z (List.mem_of_getElem? hzk)
      have KW := H8.out nb _ 3 _ (by decide) HK.out
      have cz : wr.cell? ⟨nb, k, none⟩ = some (.int .i64 z) := by
        rw [cell_of_row wr nb k _ _ _ KW]
        simp [ints, hzk]
      have hnl : nb < wr.heap.size := (Array.getElem?_eq_some_iff.1 KW).1
      have htk : zs.take (k + 1) = zs.take k ++ [z] := by
        rw [List.take_succ_eq_append_getElem (by rw [HN.out]; exact hkm)]
        rw [List.getElem?_eq_getElem (by rw [HN.out]; exact hkm)] at hzk
        rw [Option.some.inj hzk]
      have hle := HLE.out k hk
      have HTK := hide htk
      have T1 := hide (HT.out.on HBW.out)
      clear hob hbw hk8 hzk htk KW
      by_cases hk0 : k = 0
      · subst hk0
        have HE := hide (show numB (zs.take (0 + 1)) = Lib.itoa z from by rw [HTK.out]; simp [numB])
        have O0 := hide (show wr.ownsRow B 5 1 (.slice a1 m1 c1) n xs from by have h9 := HOB.out; rw [HT0.out] at h9; simpa [Lib.byteCells] using h9)
        clear HOB
        go_wp2_with fail
        refine (aiL B n z hzr.1 hzr.2 _ xs wr O0.out (by omega) (by omega) T1.out).mono ?_
        rintro e w1 ⟨v1, rfl, ho1, hb1, hok1⟩
        have B1 := hide (HBW.out.trans hb1)
        have K1 := hide (H8.out.trans (K8.of hok1))
        have O1 := hide ho1
        clear ho1 hb1 hok1
        go_wp2
        go_roundw
        case rel => exact ⟨1, by omega, by go_num, by rw [HE.out]; exact O1.out, B1.out, K1.out⟩
        case measure => simp [intOf]; omega
      · have hkg : (0 : Int) < (k : Int) := by omega
        have hne : zs.take k ≠ [] := by
          intro e
          have := congrArg List.length e
          rw [List.length_take, HN.out] at this
          simp at this; omega
        have HE := hide (show numB (zs.take (k + 1)) = numB (zs.take k) ++ (32 :: Lib.itoa z) from by rw [HTK.out]; exact numB_snoc hne z)
        clear hne
        generalize numB (zs.take k) = nk at *
        have NC := hide (newcells wr 5 [.int .u8 32])
        go_wp2_with (at_builtin; refine wpList_append_own _ rfl _ _ 22 rfl B 5 i0 (.int .u8 0) 1 1 Tryz.underlying22 hi hz0 hz1 hz2 rfl (by decide) _ (n + nk.length) _ rfl (by exact World.ownsRow.alloc HOB.out _) ⟨wr.heap.size, 0, none⟩ 1 1 [.int .u8 32] rfl rfl (by exact NC.out) (by intro u hu; simp at hu; subst hu; rfl) (by unfold maxLen; omega) (by omega) (by simp; omega) ?_; intro v2 w2 ho2 hg2 _; refine Hid.out ?_)
        refine Lib.hid ?_
        have A1 := hide ((Below.refl B wr).alloc (by omega) (.cells #[.int .u8 32] 5))
        have G2 := hide ((Below.refl B _).grown hg2 (by simp; omega) (fun k hk => (HOB.out.lt k hk).1))
        have B2 := hide ((HBW.out.trans A1.out).trans G2.out)
        have K2 := hide ((H8.out.trans (K8.alloc wr (.cells #[.int .u8 32] 5))).trans (K8.grown (World.ownsRow.alloc HOB.out (.cells #[.int .u8 32] 5)) hg2))
        have T2 := hide ((T1.out.on A1.out).on G2.out)
        have O2 := hide ho2
        have s2 := B2.out.size
        clear ho2 hg2 HOB A1 G2 NC
        go_wp2_with fail
        refine (aiL B (n + nk.length + 1) z hzr.1 hzr.2 v2 _ w2 O2.out (by omega) (by omega) T2.out).mono ?_
        rintro e w3 ⟨v3, rfl, ho3, hb3, hok3⟩
        have B3 := hide (B2.out.trans hb3)
        have K3 := hide (K2.out.trans (K8.of hok3))
        have O3 := hide ho3
        clear ho3 hb3 hok3
        go_wp2
        go_roundw
        case rel =>
          refine ⟨k + 1, by omega, by go_num, ?_, B3.out, K3.out⟩
          rw [HE.out]
          have h9 := O3.out
          simpa [byteCells_append, Lib.byteCells, Nat.add_assoc, Nat.add_comm 1] using h9
        case measure => simp [intOf]; omega
    · obtain rfl : m = k := by omega
      have hge : ¬ (m : Int) < (m : Int) := by omega
      rw [HTN.out] at HOB
      clear hob hbw hk8
      go_wp2
      go_ret
      exact ⟨_, rfl, HOB.out, HBW.out, H8.out⟩
end Go.Proofs.YtbgngikejgihgadGreatDoor

namespace Go.Proofs.YtbgngikejgihgadGreatDoor
open Go Go.RowKit
set_option linter.unusedVariables false

set_option maxHeartbeats 1000000 in
theorem letterL (m : Mk) (w : World) : Calls Tryz.prog 29 #[mkA m] w fun e w' => e = .returned (.int .u8 (grv m)) ∧ w' = w.alloc (.cells #[.int .i64 m.1, .int .i64 m.2.1, .int .i64 m.2.2] 37) := by
  unfold mkA
  by_cases hg : m.2.2 = 0
  · have hgv : grv m = 76 := by unfold grv; rw [if_pos hg]
    rw [hgv]
    have hg' : (m.2.2 == 0) = true := by simpa using hg
    clear hgv hg
    go_enter Tryz.func29, Tryz.ntmps29
    go_wp2
    go_ret
    exact ⟨rfl, rfl⟩
  · have hgv : grv m = 82 := by unfold grv; rw [if_neg hg]
    rw [hgv]
    have hg' : (m.2.2 == 0) = false := by simpa using hg
    clear hgv hg
    go_enter Tryz.func29, Tryz.ntmps29
    go_wp2
    go_ret
    exact ⟨rfl, rfl⟩

end Go.Proofs.YtbgngikejgihgadGreatDoor
