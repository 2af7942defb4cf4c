import Derived.Test.YtbgngikejgihgaeDoorObP
import Derived.Test.YtbgngikejgihgaeDoorNuB
import Derived.Test.YtbgngikejgihgaeDoorMkR
namespace Go.Proofs.YtbgngikejgihgaeDoor
open Go Go.RowKit
set_option linter.unusedVariables false

/-- An observation. -/
structure Ob where
  c : Int
  x : Int
  y : Int
  t : List Int
  m : List Mk
  l : Int
  n : Int
  u : Int
  r : Int
  o : Int
def Ob.nums (b : Ob) : List Int := [b.c, b.x, b.y, b.l, b.n, b.u, b.r, b.o]
def I64 (z : Int) : Prop := -9223372036854775808 ≤ z ∧ z ≤ 9223372036854775807
def I32 (z : Int) : Prop := -2147483648 ≤ z ∧ z ≤ 2147483647
structure OkO (b : Ob) : Prop where
  nums : ∀ z ∈ b.nums, I64 z
  tx : ∀ z ∈ b.t, I32 z
  mks : ∀ x ∈ b.m, I64 x.1 ∧ I64 x.2.1
def mkB (x : Mk) : List Int := 32 :: (bts (Lib.itoa x.1) ++ 64 :: (bts (Lib.itoa x.2.1) ++ [grv x]))
def mksB (xs : List Mk) : List Int := xs.flatMap mkB
def txB (zs : List Int) : List Int := if zs.length = 0 then [] else 32 :: 58 :: hexB (encs zs)
def obB (b : Ob) : List Int := bts (numB b.nums) ++ (txB b.t ++ (mksB b.m ++ [10]))
def obsB (bs : List Ob) : List Int := bs.flatMap obB
def szO (b : Ob) : Nat := b.t.length + b.m.length
def szOs (bs : List Ob) : Nat := bs.length + (bs.map szO).sum

theorem mkB_length (x : Mk) (h : I64 x.1 ∧ I64 x.2.1) : (mkB x).length ≤ 45 := by
  have h1 := Lib.itoa_length_le x.1 h.1.1 h.1.2
  have h2 := Lib.itoa_length_le x.2.1 h.2.1 h.2.2
  simp only [mkB, List.length_append, bts_length, List.length_cons, List.length_nil]
  omega
theorem mksB_length (xs : List Mk) (h : ∀ x ∈ xs, I64 x.1 ∧ I64 x.2.1) : (mksB xs).length ≤ 45 * xs.length := by
  induction xs with
  | nil => simp [mksB]
  | cons x xs ih =>
    have h1 := mkB_length x (h x (by simp))
    have h2 := ih (fun y hy => h y (by simp [hy]))
    simp only [mksB, List.flatMap_cons, List.length_append, List.length_cons] at h2 ⊢
    omega
theorem mksB_snoc (xs : List Mk) (x : Mk) : mksB (xs ++ [x]) = mksB xs ++ mkB x := by simp [mksB]
theorem txB_length (zs : List Int) : (txB zs).length ≤ 2 + 8 * zs.length := by
  unfold txB
  split
  · simp
  · have h1 := hexB_length (encs zs)
    have h2 := encs_length zs
    simp only [List.length_cons]; omega
theorem obB_length (b : Ob) (h : OkO b) : (obB b).length ≤ 179 + 45 * szO b := by
  have h1 := numB_length b.nums h.nums
  have h2 := txB_length b.t
  have h3 := mksB_length b.m h.mks
  have h4 : b.nums.length = 8 := rfl
  simp only [obB, szO, List.length_append, bts_length, List.length_cons, List.length_nil]
  omega
theorem obsB_snoc (bs : List Ob) (b : Ob) : obsB (bs ++ [b]) = obsB bs ++ obB b := by simp [obsB]
theorem szOs_cons (b : Ob) (bs : List Ob) : szOs (b :: bs) = 1 + szO b + szOs bs := by simp [szOs]; omega
theorem obsB_length (bs : List Ob) (h : ∀ b ∈ bs, OkO b) : (obsB bs).length ≤ 179 * szOs bs := by
  induction bs with
  | nil => simp [obsB]
  | cons b bs ih =>
    have h1 := obB_length b (h b (by simp))
    have h2 := ih (fun y hy => h y (by simp [hy]))
    rw [szOs_cons]
    simp only [obsB, List.flatMap_cons, List.length_append] at h2 ⊢
    omega
theorem szOs_take (bs : List Ob) (k : Nat) : szOs (bs.take k) ≤ szOs bs := by
  induction bs generalizing k with
  | nil => simp
  | cons b bs ih =>
    cases k with
    | zero => simp [szOs]
    | succ k => rw [List.take_succ_cons, szOs_cons, szOs_cons]; have := ih k; omega
theorem szOs_take_succ {bs : List Ob} {k : Nat} {b : Ob} (h : bs[k]? = some b) : szOs (bs.take (k + 1)) = szOs (bs.take k) + 1 + szO b := by
  induction bs generalizing k with
  | nil => simp at h
  | cons c bs ih =>
    cases k with
    | zero => simp at h; subst h; simp [szOs]
    | succ k =>
      simp at h
      rw [List.take_succ_cons, List.take_succ_cons, szOs_cons, szOs_cons, ih h]; omega
theorem take_snoc {α : Type} {xs : List α} {k : Nat} {x : α} (h : xs[k]? = some x) : xs.take (k + 1) = xs.take k ++ [x] := by
  rw [List.take_add_one, h]; rfl

/-- The value of an observation. -/
def obL (b : Ob) (vt vm : Value) : List Value := [.int .i64 b.c, .int .i64 b.x, .int .i64 b.y, vt, vm, .int .i64 b.l, .int .i64 b.n, .int .i64 b.u, .int .i64 b.r, .int .i64 b.o]
/-- An observation that lies at a place. -/
def ObAt (w : World) (b o : Nat) (x : Ob) : Prop :=
  ∃ vt vm, (∀ k, k < 10 → w.cell? ⟨b, o + k, none⟩ = (obL x vt vm)[k]?) ∧ Rd .i32 w vt x.t ∧ RdM w.heap.size w vm x.m ∧ x.t.length ≤ maxLen ∧ x.m.length ≤ maxLen
theorem ObAt.lt {w : World} {b o : Nat} {x : Ob} (h : ObAt w b o x) : b < w.heap.size := by
  obtain ⟨vt, vm, hc, _⟩ := h
  exact World.block_lt_of_cell? w ⟨b, o + 0, none⟩ (hc 0 (by omega))
theorem ObAt.below {w w' : World} {b o : Nat} {x : Ob} (h : ObAt w b o x) (hb : Below w.heap.size w w') : ObAt w' b o x := by
  have hl := h.lt
  obtain ⟨vt, vm, hc, ht, hm, h1, h2⟩ := h
  exact ⟨vt, vm, fun k hk => (hb.cell (p := ⟨b, o + k, none⟩) hl).trans (hc k hk), ht.below hb, (hm.below hb (Nat.le_refl _)).mono hb.size, h1, h2⟩
/-- A row of observations. -/
def RdO (w : World) (v : Value) (xs : List Ob) : Prop :=
  (∃ ao cap, v = .slice ao 0 cap ∧ xs = []) ∨
  (∃ b off cap, v = .slice (some ⟨b, off, none⟩) xs.length cap ∧ (0 < xs.length ∧ xs.length ≤ cap ∧ cap ≤ maxLen) ∧ ∀ i x, xs[i]? = some x → ObAt w b (off + i * 10) x)
theorem RdO.below {w w' : World} {v : Value} {xs : List Ob} (h : RdO w v xs) (hb : Below w.heap.size w w') : RdO w' v xs := by
  rcases h with h | ⟨b, off, cap, hv, hp, hc⟩
  · exact .inl h
  · exact .inr ⟨b, off, cap, hv, hp, fun i x hx => (hc i x hx).below hb⟩
theorem RdO.val {w : World} {v : Value} {xs : List Ob} (h : RdO w v xs) : ∃ ao cap, v = .slice ao xs.length cap := by
  rcases h with ⟨ao, cap, rfl, rfl⟩ | ⟨b, off, cap, rfl, _⟩
  · exact ⟨_, _, rfl⟩
  · exact ⟨_, _, rfl⟩
theorem RdO.at {w : World} {v : Value} {xs : List Ob} (h : RdO w v xs) {k : Nat} {x : Ob} (hk : xs[k]? = some x) : ∃ b off cap, v = .slice (some ⟨b, off, none⟩) xs.length cap ∧ (xs.length ≤ cap ∧ cap ≤ maxLen) ∧ ObAt w b (off + k * 10) x := by
  rcases h with ⟨ao, cap, rfl, rfl⟩ | ⟨b, off, cap, hv, hp, hc⟩
  · simp at hk
  · exact ⟨b, off, cap, hv, hp.2, hc k x hk⟩
end Go.Proofs.YtbgngikejgihgaeDoor
