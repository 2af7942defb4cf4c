import Derived.Test.YtbgngikejgihgadGreatDoorMq01
import Derived.Lib.ItoaLen
import Derived.Lib.ItoaMem
import Derived.Lib.UnsafeStr
import Derived.Lib.AtoiAllCases
import Derived.Lib.Strings
namespace Go.Proofs.YtbgngikejgihgadGreatDoor
set_option linter.unusedVariables false

/-- A mark: id, offset, gravity. -/
abbrev Mk := Int × Int × Int

def bef (a b : Mk) : Bool := decide (a.2.1 < b.2.1 ∨ (a.2.1 = b.2.1 ∧ a.1 < b.1))
def inI (m : Mk) : Bool := decide (-1000000000 ≤ m.1 ∧ m.1 ≤ 1000000000) && decide (0 ≤ m.2.2 ∧ m.2.2 ≤ 1)
def inO (m : Mk) : Bool := decide (0 ≤ m.2.1 ∧ m.2.1 ≤ 8192)
def hasId (xs : List Mk) (i : Int) : Bool := xs.any fun x => decide (x.1 = i)
def late (xs : List Mk) (m : Mk) : Bool := match xs.getLast? with
  | none => false
  | some l => !bef l m

/-- Why a mark can't be added at the end: 0 if it can. -/
def addErr (xs : List Mk) (m : Mk) : Int :=
  if inI m = false then 12 else if inO m = false then 12 else if hasId xs m.1 = true then 5 else if late xs m = true then 2 else if 128 ≤ xs.length then 10 else 0

def Vd (xs : List Mk) : Prop := xs.length ≤ 128 ∧ (∀ x ∈ xs, inI x = true ∧ inO x = true) ∧ xs.Pairwise fun a b => bef a b = true ∧ a.1 ≠ b.1

theorem bef_iff (a b : Mk) : bef a b = true ↔ (a.2.1 < b.2.1 ∨ (a.2.1 = b.2.1 ∧ a.1 < b.1)) := by simp [bef]
theorem bef_trans {a b c : Mk} (h1 : bef a b = true) (h2 : bef b c = true) : bef a c = true := by rw [bef_iff] at *; omega
theorem bef_irrefl (a : Mk) : bef a a = false := by simp [bef]
theorem bef_asymm {a b : Mk} (h : bef a b = true) : bef b a = false := by
  cases h2 : bef b a with
  | false => rfl
  | true => rw [bef_iff] at *; omega
theorem bef_total {a b : Mk} (h : a.1 ≠ b.1) (h1 : bef a b = false) : bef b a = true := by
  have h2 : ¬ (a.2.1 < b.2.1 ∨ (a.2.1 = b.2.1 ∧ a.1 < b.1)) := by rw [← bef_iff, h1]; simp
  rw [bef_iff]; omega

theorem hasId_iff (xs : List Mk) (i : Int) : hasId xs i = true ↔ ∃ x ∈ xs, x.1 = i := by simp [hasId]
theorem hasId_false (xs : List Mk) (i : Int) : hasId xs i = false ↔ ∀ x ∈ xs, x.1 ≠ i := by
  rw [← Bool.not_eq_true, hasId_iff]
  exact ⟨fun h x hx e => h ⟨x, hx, e⟩, fun h ⟨x, hx, e⟩ => h x hx e⟩

theorem late_false {xs : List Mk} {m : Mk} (hx : xs.Pairwise fun a b => bef a b = true ∧ a.1 ≠ b.1) (h : late xs m = false) : ∀ x ∈ xs, bef x m = true := by
  intro x hm
  rcases List.eq_nil_or_concat xs with rfl | ⟨ys, l, rfl⟩
  · cases hm
  · rw [List.concat_eq_append] at *
    have h1 : bef l m = true := by simpa [late] using h
    rw [List.pairwise_append] at hx
    simp only [List.mem_append, List.mem_singleton] at hm
    rcases hm with hm | rfl
    · exact bef_trans (hx.2.2 x hm l (by simp)).1 h1
    · exact h1

theorem Vd.step {xs : List Mk} {m : Mk} : Vd (xs ++ [m]) ↔ Vd xs ∧ addErr xs m = 0 := by
  constructor
  · rintro ⟨h1, h2, h3⟩
    rw [List.pairwise_append] at h3
    simp only [List.length_append, List.length_singleton] at h1
    refine ⟨⟨by omega, fun x hx => h2 x (by simp [hx]), h3.1⟩, ?_⟩
    have hm := h2 m (by simp)
    have hid : hasId xs m.1 = false := by
      rw [hasId_false]; exact fun x hx => (h3.2.2 x hx m (by simp)).2
    have hl : late xs m = false := by
      unfold late
      cases hq : xs.getLast? with
      | none => rfl
      | some l => simp [(h3.2.2 l (List.mem_of_getLast? hq) m (by simp)).1]
    unfold addErr
    rw [if_neg (by rw [hm.1]; simp), if_neg (by rw [hm.2]; simp), if_neg (by rw [hid]; simp), if_neg (by rw [hl]; simp), if_neg (by omega)]
  · rintro ⟨⟨h1, h2, h3⟩, h4⟩
    unfold addErr at h4
    split at h4
    · cases h4
    · split at h4
      · cases h4
      · split at h4
        · cases h4
        · split at h4
          · cases h4
          · split at h4
            · cases h4
            · rename_i a1 a2 a3 a4 a5
              have a1' : inI m = true := by simpa using a1
              have a2' : inO m = true := by simpa using a2
              have a3' : hasId xs m.1 = false := by simpa using a3
              have a4' : late xs m = false := by simpa using a4
              refine ⟨by simp; omega, fun x hx => ?_, ?_⟩
              · simp only [List.mem_append, List.mem_singleton] at hx
                rcases hx with hx | rfl
                · exact h2 x hx
                · exact ⟨a1', a2'⟩
              · rw [List.pairwise_append]
                refine ⟨h3, List.pairwise_singleton _ _, fun x hx y hy => ?_⟩
                simp only [List.mem_singleton] at hy
                subst hy
                exact ⟨late_false h3 a4' x hx, (hasId_false _ _).1 a3' x hx⟩

theorem Vd.take {xs : List Mk} (h : Vd xs) (k : Nat) : Vd (xs.take k) :=
  ⟨by rw [List.length_take]; have := h.1; omega, fun x hx => h.2.1 x (List.mem_of_mem_take hx), h.2.2.take⟩

theorem Vd.nil : Vd [] := ⟨by simp, by simp, List.Pairwise.nil⟩

theorem Vd.snoc_get {xs : List Mk} {k : Nat} {m : Mk} (h : xs[k]? = some m) : xs.take (k + 1) = xs.take k ++ [m] := by
  rw [List.take_add_one, h]; rfl

theorem Vd.addErr {xs : List Mk} (h : Vd xs) {k : Nat} {m : Mk} (hk : xs[k]? = some m) : addErr (xs.take k) m = 0 := by
  have := h.take (k + 1)
  rw [Vd.snoc_get hk] at this
  exact (Vd.step.1 this).2

/-- The place of the first of the least. -/
def minAt (xs : List Mk) : Nat → Nat
  | 0 => 0
  | i + 1 => if bef (xs.getD i (0, 0, 0)) (xs.getD (minAt xs i) (0, 0, 0)) = true then i else minAt xs i
theorem minAt_lt (xs : List Mk) (i : Nat) (h : i ≤ xs.length) (h0 : 0 < xs.length) : minAt xs i < xs.length := by
  induction i with
  | zero => exact h0
  | succ i ih => unfold minAt; split
                 · omega
                 · exact ih (by omega)
theorem minAt_min (xs : List Mk) (i : Nat) : ∀ j, j < i → bef (xs.getD j (0, 0, 0)) (xs.getD (minAt xs i) (0, 0, 0)) = false := by
  induction i with
  | zero => intro j hj; omega
  | succ i ih =>
    intro j hj
    unfold minAt
    split
    · rename_i h
      by_cases e : j = i
      · subst e; exact bef_irrefl _
      · have h1 := ih j (by omega)
        cases h2 : bef (xs.getD j (0, 0, 0)) (xs.getD i (0, 0, 0)) with
        | false => rfl
        | true => rw [bef_trans h2 h] at h1; cases h1
    · rename_i h
      by_cases e : j = i
      · subst e; simpa using h
      · exact ih j (by omega)

/-- Again and again the first of the least. -/
def sel : Nat → List Mk → List Mk
  | 0, _ => []
  | n + 1, xs => if xs = [] then [] else xs.getD (minAt xs xs.length) (0, 0, 0) :: sel n (xs.eraseIdx (minAt xs xs.length))

theorem sel_perm (n : Nat) : ∀ xs : List Mk, xs.length ≤ n → (sel n xs).Perm xs := by
  induction n with
  | zero => intro xs h; obtain rfl : xs = [] := List.eq_nil_of_length_eq_zero (by omega); exact List.Perm.refl _
  | succ n ih =>
    intro xs h
    unfold sel
    split
    · rename_i e; rw [e]
    · rename_i e
      have h0 : 0 < xs.length := by rcases xs with _ | ⟨a, b⟩ <;> simp_all
      have hm := minAt_lt xs xs.length (Nat.le_refl _) h0
      have hl : (xs.eraseIdx (minAt xs xs.length)).length ≤ n := by rw [List.length_eraseIdx, if_pos hm]; omega
      refine (List.Perm.cons _ (ih _ hl)).trans ?_
      have e1 : xs.getD (minAt xs xs.length) (0, 0, 0) = xs[minAt xs xs.length] := by simp [List.getD_eq_getElem?_getD, hm]
      rw [e1]
      rw [List.eraseIdx_eq_take_drop_succ]
      have e2 : xs = xs.take (minAt xs xs.length) ++ xs[minAt xs xs.length] :: xs.drop (minAt xs xs.length + 1) := by
        rw [← List.drop_eq_getElem_cons hm, List.take_append_drop]
      exact (List.perm_middle).symm.trans (by rw [← e2])

theorem sel_sorted (n : Nat) : ∀ xs : List Mk, xs.length ≤ n → (sel n xs).Pairwise fun a b => bef b a = false := by
  induction n with
  | zero => intro xs h; exact List.Pairwise.nil
  | succ n ih =>
    intro xs h
    unfold sel
    split
    · exact List.Pairwise.nil
    · rename_i e
      have h0 : 0 < xs.length := by rcases xs with _ | ⟨a, b⟩ <;> simp_all
      have hm := minAt_lt xs xs.length (Nat.le_refl _) h0
      have hl : (xs.eraseIdx (minAt xs xs.length)).length ≤ n := by rw [List.length_eraseIdx, if_pos hm]; omega
      refine List.pairwise_cons.2 ⟨fun b hb => ?_, ih _ hl⟩
      have hb' : b ∈ xs := List.mem_of_mem_eraseIdx ((sel_perm n _ hl).subset hb)
      obtain ⟨j, hj, rfl⟩ := List.getElem_of_mem hb'
      have := minAt_min xs xs.length j hj
      rwa [show xs.getD j (0, 0, 0) = xs[j] by simp [List.getD_eq_getElem?_getD, hj]] at this

/-- The table in order. -/
def srt (xs : List Mk) : List Mk := sel xs.length xs
theorem srt_perm (xs : List Mk) : (srt xs).Perm xs := sel_perm _ xs (Nat.le_refl _)
theorem srt_sorted (xs : List Mk) : (srt xs).Pairwise fun a b => bef b a = false := sel_sorted _ xs (Nat.le_refl _)
theorem srt_length (xs : List Mk) : (srt xs).length = xs.length := (srt_perm xs).length_eq

end Go.Proofs.YtbgngikejgihgadGreatDoor

namespace Go.Proofs.YtbgngikejgihgadGreatDoor
open Go Go.RowKit
set_option linter.unusedVariables false

/-- The bytes of a text, as numbers. -/
def bts (l : List UInt8) : List Int := l.map fun b => (b.toNat : Int)
theorem bts_length (l : List UInt8) : (bts l).length = l.length := by simp [bts]
theorem bts_append (a b : List UInt8) : bts (a ++ b) = bts a ++ bts b := by simp [bts]
theorem bts_byte (l : List UInt8) : ∀ z ∈ bts l, 0 ≤ z ∧ z ≤ 255 := by
  intro z hz
  simp only [bts, List.mem_map] at hz
  obtain ⟨b, _, rfl⟩ := hz
  have := b.toNat_lt
  omega

def grv (x : Mk) : Int := if x.2.2 = 0 then 76 else 82
/-- The line of a mark. -/
def lineB (x : Mk) : List Int := bts (Lib.itoa x.1) ++ [32] ++ bts (Lib.itoa x.2.1) ++ [32, grv x, 10]
def expB (xs : List Mk) : List Int := xs.flatMap lineB

theorem lineB_length (x : Mk) (h : inI x = true ∧ inO x = true) : (lineB x).length ≤ 46 := by
  simp only [inI, inO, Bool.and_eq_true, decide_eq_true_eq] at h
  have h1 := Lib.itoa_length_le x.1 (by omega) (by omega)
  have h2 := Lib.itoa_length_le x.2.1 (by omega) (by omega)
  simp only [lineB, List.length_append, bts_length, List.length_cons, List.length_nil]
  omega
theorem expB_snoc (xs : List Mk) (x : Mk) : expB (xs ++ [x]) = expB xs ++ lineB x := by simp [expB]
theorem expB_length (xs : List Mk) (h : ∀ x ∈ xs, inI x = true ∧ inO x = true) : (expB xs).length ≤ 46 * xs.length := by
  induction xs with
  | nil => simp [expB]
  | cons x xs ih =>
    have h1 := lineB_length x (h x (by simp))
    have h2 := ih (fun y hy => h y (by simp [hy]))
    simp only [expB, List.flatMap_cons, List.length_append, List.length_cons] at h2 ⊢
    omega
open Classical in
noncomputable def expAns (xs : List Mk) : List Int := if Vd xs then expB xs else []
theorem expAns_good {xs : List Mk} (h : Vd xs) : expAns xs = expB xs := by unfold expAns; rw [if_pos h]
theorem expAns_bad {xs : List Mk} (h : ¬ Vd xs) : expAns xs = [] := by unfold expAns; rw [if_neg h]
theorem expAns_length (xs : List Mk) : (expAns xs).length ≤ 8192 := by
  unfold expAns
  split
  · rename_i h
    have h1 := expB_length xs h.2.1
    have h2 := h.1
    omega
  · simp
/-- The digits, from the last one on. -/
theorem digits_step {u : Nat} (h : 10 ≤ u) : Lib.decDigits u = Lib.decDigits (u / 10) ++ [UInt8.ofNat (48 + u % 10)] := by
  rw [Lib.decDigits, dif_neg (by omega)]
/-- All digits but the last. -/
def topD (u : Nat) : List UInt8 := if u < 10 then [] else Lib.decDigits (u / 10)
theorem topD_one (u : Nat) : Lib.decDigits u = topD u ++ [UInt8.ofNat (48 + u % 10)] := by
  unfold topD
  split
  · rename_i h
    rw [Lib.decDigits, dif_pos h, Nat.mod_eq_of_lt h]; rfl
  · rename_i h
    exact digits_step (by omega)
theorem topD_step {u : Nat} (h : 10 ≤ u) : topD u = topD (u / 10) ++ [UInt8.ofNat (48 + u / 10 % 10)] := by
  conv => lhs; unfold topD
  rw [if_neg (by omega), topD_one]
theorem topD_end {u : Nat} (h : u < 10) : topD u = [] := by unfold topD; rw [if_pos h]
theorem dig_byte (u : Nat) : (((UInt8.ofNat (48 + u % 10)).toNat : Nat) : Int) = 48 + ((u % 10 : Nat) : Int) := by
  have : (UInt8.ofNat (48 + u % 10)).toNat = 48 + u % 10 := by rw [UInt8.toNat_ofNat']; omega
  rw [this]; omega

end Go.Proofs.YtbgngikejgihgadGreatDoor

namespace Go.Proofs.YtbgngikejgihgadGreatDoor
open Go Go.RowKit
set_option linter.unusedVariables false

/-- What digits spell. -/
def foldD (v : Int) (d : List UInt8) : Int := d.foldl (fun v c => v * 10 + (c.toNat : Int) - 48) v
theorem foldD_app (v : Int) (a b : List UInt8) : foldD v (a ++ b) = foldD (foldD v a) b := List.foldl_append
theorem foldD_one (v : Int) (c : UInt8) : foldD v [c] = v * 10 + (c.toNat : Int) - 48 := rfl
theorem dig_nat (u : Nat) : (UInt8.ofNat (48 + u % 10)).toNat = 48 + u % 10 := by rw [UInt8.toNat_ofNat']; omega
theorem foldD_digits (u : Nat) : foldD 0 (Lib.decDigits u) = u := by
  induction u using Nat.strongRecOn with
  | _ u ih =>
    by_cases h : u < 10
    · rw [Lib.decDigits_one h]
      have e := dig_nat u
      rw [Nat.mod_eq_of_lt h] at e
      rw [foldD_one, e]; omega
    · rw [digits_step (by omega), foldD_app, ih (u / 10) (by omega), foldD_one, dig_nat]; omega
theorem digits_byte (u : Nat) : ∀ c ∈ Lib.decDigits u, 48 ≤ c.toNat ∧ c.toNat ≤ 57 := by
  induction u using Nat.strongRecOn with
  | _ u ih =>
    intro c hc
    by_cases h : u < 10
    · rw [Lib.decDigits_one h] at hc
      obtain rfl := List.mem_singleton.1 hc
      have e := dig_nat u
      rw [Nat.mod_eq_of_lt h] at e
      rw [e]; omega
    · rw [digits_step (by omega)] at hc
      rcases List.mem_append.1 hc with hc | hc
      · exact ih (u / 10) (by omega) c hc
      · obtain rfl := List.mem_singleton.1 hc
        rw [dig_nat]; omega
theorem digits_ne (u : Nat) : Lib.decDigits u ≠ [] := by rw [topD_one]; simp
theorem parse_digits (acc u : Nat) (k : Nat) (hk : k = (Lib.decDigits u).length) (h : acc * 10 ^ k + u < 18446744073709551616) : Lib.parseUint10 acc (Lib.decDigits u) = .ok (acc * 10 ^ k + u) := by
  have key : ∀ (l : List UInt8) (acc : Nat), (∀ c ∈ l, 48 ≤ c.toNat ∧ c.toNat ≤ 57) → 0 ≤ foldD acc l → foldD acc l < 18446744073709551616 → Lib.parseUint10 acc l = .ok (foldD acc l).toNat := by
    intro l
    induction l with
    | nil => intro acc _ _ _; simp [Lib.parseUint10, foldD]
    | cons c r ih =>
      intro acc hl h0 h1
      have hc := hl c (by simp)
      have hm : ∀ (r : List UInt8) (a b : Int), 0 ≤ a → a ≤ b → (∀ c ∈ r, 48 ≤ c.toNat ∧ c.toNat ≤ 57) → a ≤ foldD a r ∧ foldD a r ≤ foldD b r := by
        intro r
        induction r with
        | nil => intro a b h0 h1 _; simp [foldD]; omega
        | cons d r ih2 =>
          intro a b h0 h1 hr
          have hd := hr d (by simp)
          have q := ih2 (a * 10 + (d.toNat : Int) - 48) (b * 10 + (d.toNat : Int) - 48) (by omega) (by omega) (fun c hc => hr c (by simp [hc]))
          have e1 : foldD a (d :: r) = foldD (a * 10 + (d.toNat : Int) - 48) r := rfl
          have e2 : foldD b (d :: r) = foldD (b * 10 + (d.toNat : Int) - 48) r := rfl
          rw [e1, e2]; omega
      have e : foldD (acc : Int) (c :: r) = foldD ((acc : Int) * 10 + (c.toNat : Int) - 48) r := rfl
      have ea : (acc : Int) * 10 + (c.toNat : Int) - 48 = ((acc * 10 + (c.toNat - 48) : Nat) : Int) := by omega
      rw [ea] at e
      have q := (hm r ((acc * 10 + (c.toNat - 48) : Nat) : Int) _ (by omega) (Int.le_refl _) (fun d hd => hl d (by simp [hd]))).1
      rw [e] at h0 h1 ⊢
      simp only [Lib.parseUint10]
      rw [if_pos hc, if_neg (by omega), if_neg (by omega)]
      exact ih _ (fun d hd => hl d (by simp [hd])) h0 h1
  have e : ∀ (l : List UInt8) (a : Int), foldD a l = a * 10 ^ l.length + foldD 0 l := by
    intro l
    induction l with
    | nil => intro a; simp [foldD]
    | cons c r ih =>
      intro a
      have e1 : foldD a (c :: r) = foldD (a * 10 + (c.toNat : Int) - 48) r := rfl
      have e2 : foldD 0 (c :: r) = foldD (0 * 10 + (c.toNat : Int) - 48) r := rfl
      rw [e1, e2, ih, ih (0 * 10 + (c.toNat : Int) - 48), List.length_cons, Int.pow_succ]
      have : (10 : Int) ^ r.length * 10 = 10 * 10 ^ r.length := Int.mul_comm _ _
      rw [this]
      have d1 : (a * 10 + (c.toNat : Int) - 48) * 10 ^ r.length = a * (10 * 10 ^ r.length) + (0 * 10 + (c.toNat : Int) - 48) * 10 ^ r.length := by
        rw [← Int.mul_assoc, ← Int.add_mul]; congr 1; omega
      rw [d1]; omega
  have e2 : foldD (acc : Int) (Lib.decDigits u) = ((acc * 10 ^ k + u : Nat) : Int) := by
    rw [e, foldD_digits, hk]; push_cast; rfl
  have h9 := key (Lib.decDigits u) acc (digits_byte u) (by rw [e2]; omega) (by rw [e2]; omega)
  rw [h9, e2, Int.toNat_natCast]
theorem mag_digits (u : Nat) (h : u < 18446744073709551616) : Lib.parseMag (Lib.decDigits u) = .ok u := by
  unfold Lib.parseMag
  rw [if_neg (digits_ne u), parse_digits 0 u _ rfl (by omega)]
  simp
theorem atoi_itoa (n : Int) (h0 : -9223372036854775808 ≤ n) (h1 : n ≤ 9223372036854775807) : Lib.atoiAll (Lib.itoa n) = .ok n := by
  rcases Int.lt_or_le n 0 with h | h
  · obtain ⟨a, rfl⟩ : ∃ a : Nat, n = -(a : Int) := ⟨n.natAbs, by omega⟩
    rw [Lib.itoa_neg a (by omega), Lib.atoiAll_minus, mag_digits a (by omega)]
    simp only [Lib.signed]
    rw [if_neg (by omega)]
  · obtain ⟨a, rfl⟩ := Int.eq_ofNat_of_zero_le h
    rw [Lib.itoa_nonneg]
    have hm := mag_digits a (by omega)
    have hb := digits_byte a
    cases hd : Lib.decDigits a with
    | nil => exact absurd hd (digits_ne a)
    | cons c r =>
      have hc := hb c (by rw [hd]; simp)
      rw [hd] at hm
      rw [Lib.atoiAll_plain c r (by omega) (by omega), hm]
      simp only [Lib.signless]
      rw [if_neg (by omega)]
/-- What stands behind a sign. -/
def dropM (b : List UInt8) : List UInt8 := if b.head? = some 45 then b.tail else b
/-- The only number that bytes could be. -/
def valU (b : List UInt8) : Int := if b.head? = some 45 then - foldD 0 b.tail else foldD 0 b
theorem val_itoa (n : Int) : valU (Lib.itoa n) = n := by
  rcases Int.lt_or_le n 0 with h | h
  · obtain ⟨a, rfl⟩ : ∃ a : Nat, n = -(a : Int) := ⟨n.natAbs, by omega⟩
    rw [Lib.itoa_neg a (by omega)]
    simp only [valU, List.head?_cons, if_true, List.tail_cons, foldD_digits]
  · obtain ⟨a, rfl⟩ := Int.eq_ofNat_of_zero_le h
    rw [Lib.itoa_nonneg]
    unfold valU
    rw [if_neg, foldD_digits]
    intro e
    have hb := digits_byte a 45 (List.mem_of_mem_head? (by rw [e]; rfl))
    have : (45 : UInt8).toNat = 45 := rfl
    omega
theorem dropM_itoa (n : Int) : dropM (Lib.itoa n) = Lib.decDigits n.natAbs := by
  rcases Int.lt_or_le n 0 with h | h
  · obtain ⟨a, rfl⟩ : ∃ a : Nat, n = -(a : Int) := ⟨n.natAbs, by omega⟩
    rw [Lib.itoa_neg a (by omega)]
    simp only [dropM, List.head?_cons, if_true, List.tail_cons]
    congr 1; omega
  · obtain ⟨a, rfl⟩ := Int.eq_ofNat_of_zero_le h
    rw [Lib.itoa_nonneg]
    unfold dropM
    rw [if_neg]
    · rfl
    · intro e
      have hb := digits_byte a 45 (List.mem_of_mem_head? (by rw [e]; rfl))
      have : (45 : UInt8).toNat = 45 := rfl
      omega
/-- The number that bytes are. -/
def numU (b : List UInt8) (most : Nat) : Option Int := if 1 ≤ (dropM b).length ∧ (dropM b).length ≤ most ∧ Lib.itoa (valU b) = b then some (valU b) else none
theorem numU_of {b : List UInt8} {most : Nat} {n : Int} (h : Lib.itoa n = b) (hl : (dropM b).length ≤ most) : numU b most = some n := by
  subst h
  have h1 : 1 ≤ (dropM (Lib.itoa n)).length := by
    rw [dropM_itoa]
    have := digits_ne n.natAbs
    cases hd : Lib.decDigits n.natAbs with
    | nil => exact absurd hd this
    | cons c r => simp
  unfold numU
  rw [val_itoa, if_pos ⟨h1, hl, rfl⟩]
theorem numU_some {b : List UInt8} {most : Nat} {n : Int} (h : numU b most = some n) : Lib.itoa n = b ∧ 1 ≤ (dropM b).length ∧ (dropM b).length ≤ most := by
  unfold numU at h
  split at h
  · rename_i hh
    obtain rfl := Option.some.inj h
    exact ⟨hh.2.2, hh.1, hh.2.1⟩
  · cases h
theorem foldD_bound (d : List UInt8) : ∀ (v : Int) (k : Nat), d.length ≤ k → -(300 * 10 ^ k) ≤ foldD 0 d ∧ foldD 0 d ≤ 300 * 10 ^ k := by
  have e : ∀ (l : List UInt8) (a : Int) (B : Int), -B ≤ a → a ≤ B → -(B * 10 ^ l.length + 207 * (10 ^ l.length - 1)) ≤ foldD a l ∧ foldD a l ≤ B * 10 ^ l.length + 207 * (10 ^ l.length - 1) := by
    intro l
    induction l with
    | nil => intro a B h0 h1; simp [foldD]; omega
    | cons c r ih =>
      intro a B h0 h1
      have hc := c.toNat_lt
      have q := ih (a * 10 + (c.toNat : Int) - 48) (B * 10 + 207) (by omega) (by omega)
      have e1 : foldD a (c :: r) = foldD (a * 10 + (c.toNat : Int) - 48) r := rfl
      rw [e1, List.length_cons, Int.pow_succ]
      have p : (1 : Int) ≤ 10 ^ r.length := by
        have := Nat.one_le_pow r.length 10 (by omega)
        have h9 : ((1 : Nat) : Int) ≤ ((10 ^ r.length : Nat) : Int) := by omega
        push_cast at h9
        exact h9
      generalize (10 : Int) ^ r.length = P at *
      have e2 : (B * 10 + 207) * P = B * (P * 10) + 207 * P := by
        rw [Int.add_mul, Int.mul_assoc, Int.mul_comm 10 P]
      rw [e2] at q
      omega
  intro v k hk
  have q := e d 0 0 (by omega) (by omega)
  have p : (10 : Int) ^ d.length ≤ 10 ^ k := by
    have := Nat.pow_le_pow_right (show 0 < 10 by omega) hk
    have h9 : ((10 ^ d.length : Nat) : Int) ≤ ((10 ^ k : Nat) : Int) := by omega
    push_cast at h9
    exact h9
  have p2 : (0 : Int) ≤ 10 ^ d.length := Int.pow_nonneg (by omega)
  generalize (10 : Int) ^ d.length = P at *
  generalize (10 : Int) ^ k = K at *
  omega
end Go.Proofs.YtbgngikejgihgadGreatDoor
