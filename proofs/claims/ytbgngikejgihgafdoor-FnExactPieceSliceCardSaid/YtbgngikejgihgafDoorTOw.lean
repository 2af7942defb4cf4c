import Derived.Test.YtbgngikejgihgafDoorTItem
import Derived.WalkLawsBesides
namespace Go.Proofs.YtbgngikejgihgafDoor
open Go Go.RowKit
set_option linter.unusedVariables false

def itV (x : It) : List Value := [.int .i64 x.pc.off, .int .i64 x.pc.len, .int .i64 x.pc.brk, .int .i64 x.lv]
def itVs (xs : List It) : List Value := xs.flatMap itV
theorem itVs_length (xs : List It) : (itVs xs).length = xs.length * 4 := by
  induction xs with
  | nil => rfl
  | cons x xs ih => simp only [itVs, List.flatMap_cons, List.length_append] at ih ⊢; rw [ih]; simp [itV]; omega
theorem itVs_append (a b : List It) : itVs (a ++ b) = itVs a ++ itVs b := by simp [itVs]
theorem itVs_get (xs : List It) (i k : Nat) (x : It) (h : xs[i]? = some x) (hk : k < 4) : (itVs xs)[i * 4 + k]? = (itV x)[k]? := by
  induction xs generalizing i with
  | nil => simp at h
  | cons y ys ih =>
    cases i with
    | zero =>
      simp at h; subst h
      simp only [itVs, List.flatMap_cons, Nat.zero_mul, Nat.zero_add]
      rw [List.getElem?_append_left (by simp [itV]; omega)]
    | succ i =>
      simp only [List.getElem?_cons_succ] at h
      have := ih i h
      simp only [itVs, List.flatMap_cons] at this ⊢
      rw [List.getElem?_append_right (by simp [itV]; omega)]
      rw [← this]
      congr 1
      simp [itV]; omega

theorem itVs_set (a : List It) (y x : It) (b : List It) : ((((itVs (a ++ y :: b)).set (a.length * 4) (.int .i64 x.pc.off)).set (a.length * 4 + 1) (.int .i64 x.pc.len)).set (a.length * 4 + 2) (.int .i64 x.pc.brk)).set (a.length * 4 + 3) (.int .i64 x.lv) = itVs (a ++ x :: b) := by
  have e : ∀ z : It, itVs (a ++ z :: b) = itVs a ++ ([.int .i64 z.pc.off, .int .i64 z.pc.len, .int .i64 z.pc.brk, .int .i64 z.lv] ++ itVs b) := fun z => by simp [itVs, itV]
  have hl := itVs_length a
  rw [e, e]
  rw [List.set_append_right _ _ (by omega), List.set_append_right _ _ (by omega), List.set_append_right _ _ (by omega), List.set_append_right _ _ (by omega), hl]
  rw [Nat.sub_self, show a.length * 4 + 1 - a.length * 4 = 1 by omega, show a.length * 4 + 2 - a.length * 4 = 2 by omega, show a.length * 4 + 3 - a.length * 4 = 3 by omega]
  rfl

/-- The call's own items. -/
def OwI (w : World) (base : Nat) (v : Value) (xs : List It) : Prop := w.ownsRow base 115 4 v xs.length (itVs xs)

theorem OwI.rd {w : World} {base : Nat} {v : Value} {xs : List It} (h : OwI w base v xs) : RdI w.heap.size w v xs := by
  unfold OwI at h
  have hlt := h.lt
  rcases h.2 with ⟨hv, hn⟩ | ⟨g, cap, cur, hv, hrest⟩
  · left; exact ⟨none, 0, by rw [hv], by apply List.eq_nil_of_length_eq_zero; omega⟩
  · obtain ⟨hb, hg, hcap, hcm, hsz, htk⟩ := hrest
    subst hv
    have hgl := (hlt g rfl).2
    by_cases h0 : xs.length = 0
    · left; rw [h0]; exact ⟨_, _, rfl, by apply List.eq_nil_of_length_eq_zero; exact h0⟩
    · right
      refine ⟨g, 0, cap, rfl, ⟨by omega, hcap, hcm⟩, hgl, fun i x hx => ?_⟩
      have hil : i < xs.length := by
        rcases Nat.lt_or_ge i xs.length with q | q
        · exact q
        · rw [List.getElem?_eq_none q] at hx; cases hx
      have key : ∀ k, k < 4 → w.cell? ⟨g, i * 4 + k, none⟩ = (itV x)[k]? := fun k hk => by
        rw [cell_of_row w g _ _ _ _ hg, ← itVs_get xs i k x hx hk, ← htk, List.getElem?_take, if_pos (by omega)]
        simp
      have k0 := key 0 (by omega)
      have k1 := key 1 (by omega)
      have k2 := key 2 (by omega)
      have k3 := key 3 (by omega)
      simp only [Nat.zero_add]
      exact ⟨k0, k1, k2, k3⟩
theorem OwI.below {w w' : World} {base B : Nat} {v : Value} {xs : List It} (h : OwI w base v xs) (hb : Below B w w') (hB : w.heap.size ≤ B) : OwI w' base v xs := owns_below h hb hB
theorem OwI.base {w : World} {base base' : Nat} {v : Value} {xs : List It} (h : OwI w base v xs) (hb : base' ≤ base) : OwI w base' v xs := owns_base h hb

def itA (x : It) : Value := .agg #[.int .i64 x.pc.off, .int .i64 x.pc.len, .int .i64 x.pc.brk, .int .i64 x.lv]

theorem itAt_of' {w : World} {b off : Nat} {xs : List It} (h : ∀ i x, xs[i]? = some x → ItAt w b (off + i * 4) x) {j : Nat} (hj : j < xs.length) : ∃ x, xs[j]? = some x ∧ ItAt w b (off + j * 4) x :=
  ⟨xs[j], by simp [hj], h j _ (by simp [hj])⟩
theorem own_cell4 {w : World} {base g cap n : Nat} {xs : List Value} (h : w.ownsRow base 115 4 (.slice (some ⟨g, 0, none⟩) n cap) n xs) (j : Nat) (hj : j < n * 4) : ∃ v, w.cell? ⟨g, j, none⟩ = some v := by
  have h1 := h.cellAt j hj
  have hl := h.1
  refine ⟨xs[j]'(by omega), ?_⟩
  rw [h1, List.getElem?_eq_getElem (by omega)]

theorem Tryd.infoIT : (Tryd.prog.info? 115).map (fun i => (i.zero, i.size, i.bytes)) = some (some (.agg #[.int .i64 0, .int .i64 0, .int .i64 0, .int .i64 0]), 4, 32) := by kernel_rfl
def zIt : It := ⟨⟨0, 0, 0⟩, 0⟩
theorem made_its (n : Nat) : (madeCells (Value.agg #[.int .i64 0, .int .i64 0, .int .i64 0, .int .i64 0]).cells (n * 4)).toList = itVs (List.replicate n zIt) := by
  have h1 : itVs (List.replicate n zIt) = List.replicate (n * 4) (.int .i64 0) := by
    rw [List.eq_replicate_iff]
    refine ⟨by rw [itVs_length]; simp, fun v hv => ?_⟩
    simp only [itVs, List.mem_flatMap, List.mem_replicate] at hv
    obtain ⟨x, ⟨_, rfl⟩, hv⟩ := hv
    simpa [itV, zIt] using hv
  rw [h1, List.eq_replicate_iff]
  refine ⟨by simp [size_madeCells], fun v hv => ?_⟩
  simp only [madeCells, Array.toList_map, List.mem_map] at hv
  obtain ⟨i, _, rfl⟩ := hv
  have e : (Value.agg #[.int .i64 0, .int .i64 0, .int .i64 0, .int .i64 0]).cells = #[Value.int .i64 0, .int .i64 0, .int .i64 0, .int .i64 0] := rfl
  rw [e]
  have h4 : i % 4 = 0 ∨ i % 4 = 1 ∨ i % 4 = 2 ∨ i % 4 = 3 := by omega
  show (#[Value.int .i64 0, .int .i64 0, .int .i64 0, .int .i64 0])[i % 4]! = _
  rcases h4 with h | h | h | h <;> rw [h] <;> rfl

theorem set_its (xs : List It) (k : Nat) (x : It) (h : xs[k]? = some x) : ((((itVs (xs.take k ++ List.replicate (xs.length - k) zIt)).set (k * 4) (.int .i64 x.pc.off)).set (k * 4 + 1) (.int .i64 x.pc.len)).set (k * 4 + 2) (.int .i64 x.pc.brk)).set (k * 4 + 3) (.int .i64 x.lv) = itVs (xs.take (k + 1) ++ List.replicate (xs.length - (k + 1)) zIt) := by
  have hk : k < xs.length := by
    rcases Nat.lt_or_ge k xs.length with q | q
    · exact q
    · rw [List.getElem?_eq_none q] at h; cases h
  have hl : (xs.take k).length = k := by rw [List.length_take]; omega
  obtain ⟨m, hm⟩ : ∃ m, xs.length - k = m + 1 := ⟨xs.length - k - 1, by omega⟩
  have e := itVs_set (xs.take k) zIt x (List.replicate m zIt)
  rw [hl] at e
  rw [hm, List.replicate_succ, e, List.take_add_one, h, show xs.length - (k + 1) = m by omega]
  simp

end Go.Proofs.YtbgngikejgihgafDoor
