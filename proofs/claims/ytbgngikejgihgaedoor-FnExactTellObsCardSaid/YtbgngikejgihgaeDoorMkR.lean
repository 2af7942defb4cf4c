import Derived.Test.YtbgngikejgihgaeDoorProg
import Derived.Test.YtbgngikejgihgaeDoorMkP
import Derived.WalkKit
import Derived.WalkLawsBesides
import Derived.Laws.Rows
import Derived.Deep.RegionWith
import Derived.Deep.Cut
import Derived.Deep.CutRange
import Derived.Deep.CutBlock
import Derived.Deep.DeepCutAuto
namespace Go.Proofs.YtbgngikejgihgaeDoor
open Go Go.RowKit
set_option linter.unusedVariables false

def mkV (x : Mk) : List Value := [.int .i64 x.1, .int .i64 x.2.1, .int .i64 x.2.2]
def mkA (x : Mk) : Value := .agg #[.int .i64 x.1, .int .i64 x.2.1, .int .i64 x.2.2]
def mkVs (xs : List Mk) : List Value := xs.flatMap mkV
theorem mkVs_length (xs : List Mk) : (mkVs xs).length = xs.length * 3 := by
  induction xs with
  | nil => rfl
  | cons x xs ih => simp only [mkVs, List.flatMap_cons, List.length_append] at ih ⊢; rw [ih]; simp [mkV]; omega
theorem mkVs_append (a b : List Mk) : mkVs (a ++ b) = mkVs a ++ mkVs b := by simp [mkVs]
theorem mkVs_get (xs : List Mk) (i k : Nat) (x : Mk) (h : xs[i]? = some x) (hk : k < 3) : (mkVs xs)[i * 3 + k]? = (mkV x)[k]? := by
  induction xs generalizing i with
  | nil => simp at h
  | cons y ys ih =>
    cases i with
    | zero =>
      simp at h; subst h
      simp only [mkVs, List.flatMap_cons, Nat.zero_mul, Nat.zero_add]
      rw [List.getElem?_append_left (by simp [mkV]; omega)]
    | succ i =>
      simp only [List.getElem?_cons_succ] at h
      have := ih i h
      simp only [mkVs, List.flatMap_cons] at this ⊢
      rw [List.getElem?_append_right (by simp [mkV]; omega)]
      rw [← this]
      congr 1
      simp [mkV]; omega
theorem mkVs_one (xs : List Mk) : ∀ u ∈ mkVs xs, u.oneCell' = true := by
  intro u hu
  simp only [mkVs, mkV, List.mem_flatMap, List.mem_cons, List.not_mem_nil, or_false] at hu
  obtain ⟨x, _, h | h | h⟩ := hu <;> subst h <;> rfl

theorem mkVs_set (a : List Mk) (y x : Mk) (b : List Mk) : (((mkVs (a ++ y :: b)).set (a.length * 3) (.int .i64 x.1)).set (a.length * 3 + 1) (.int .i64 x.2.1)).set (a.length * 3 + 2) (.int .i64 x.2.2) = mkVs (a ++ x :: b) := by
  have e : ∀ z : Mk, mkVs (a ++ z :: b) = mkVs a ++ ([.int .i64 z.1, .int .i64 z.2.1, .int .i64 z.2.2] ++ mkVs b) := fun z => by simp [mkVs, mkV]
  have hl := mkVs_length a
  rw [e, e]
  rw [List.set_append_right _ _ (by omega), List.set_append_right _ _ (by omega), List.set_append_right _ _ (by omega), hl]
  rw [Nat.sub_self, show a.length * 3 + 1 - a.length * 3 = 1 by omega, show a.length * 3 + 2 - a.length * 3 = 2 by omega]
  rfl
theorem mkVs_set1 (a : List Mk) (y : Mk) (z : Int) (b : List Mk) : (mkVs (a ++ y :: b)).set (a.length * 3 + 1) (.int .i64 z) = mkVs (a ++ (y.1, z, y.2.2) :: b) := by
  have e : ∀ z : Mk, mkVs (a ++ z :: b) = mkVs a ++ ([.int .i64 z.1, .int .i64 z.2.1, .int .i64 z.2.2] ++ mkVs b) := fun z => by simp [mkVs, mkV]
  have hl := mkVs_length a
  rw [e, e, List.set_append_right _ _ (by omega), hl, show a.length * 3 + 1 - a.length * 3 = 1 by omega]
  rfl

/-- A mark lies at a place. -/
def MkAt (w : World) (b o : Nat) (x : Mk) : Prop :=
  w.cell? ⟨b, o, none⟩ = some (.int .i64 x.1) ∧ w.cell? ⟨b, o + 1, none⟩ = some (.int .i64 x.2.1) ∧ w.cell? ⟨b, o + 2, none⟩ = some (.int .i64 x.2.2)

/-- A slice value that reads as these marks, in a block below B. -/
def RdM (B : Nat) (w : World) (v : Value) (xs : List Mk) : Prop :=
  (∃ ao cap, v = .slice ao 0 cap ∧ xs = []) ∨
  (∃ b off cap, v = .slice (some ⟨b, off, none⟩) xs.length cap ∧ (0 < xs.length ∧ xs.length ≤ cap ∧ cap ≤ maxLen) ∧ b < B ∧ ∀ i x, xs[i]? = some x → MkAt w b (off + i * 3) x)

theorem RdM.below {B B' : Nat} {w w' : World} {v : Value} {xs : List Mk} (h : RdM B w v xs) (hb : Below B' w w') (hB : B ≤ B') : RdM B w' v xs := by
  rcases h with h | ⟨b, off, cap, hv, hp, hl, hc⟩
  · exact .inl h
  · refine .inr ⟨b, off, cap, hv, hp, hl, fun i x hx => ?_⟩
    have hk : ∀ o, w'.cell? ⟨b, o, none⟩ = w.cell? ⟨b, o, none⟩ := fun o => hb.cell (p := ⟨b, o, none⟩) (by show b < B'; omega)
    have := hc i x hx
    unfold MkAt at this ⊢
    rw [hk, hk, hk]; exact this
theorem RdM.heap {B : Nat} {w w' : World} {v : Value} {xs : List Mk} (h : RdM B w v xs) (hb : w'.heap = w.heap) : RdM B w' v xs := by
  rcases h with h | ⟨b, off, cap, hv, hp, hl, hc⟩
  · exact .inl h
  · refine .inr ⟨b, off, cap, hv, hp, hl, fun i x hx => ?_⟩
    have hk : ∀ o, w'.cell? ⟨b, o, none⟩ = w.cell? ⟨b, o, none⟩ := fun o => World.cell?_of_block (w := w) (by rw [hb])
    have := hc i x hx
    unfold MkAt at this ⊢
    rw [hk, hk, hk]; exact this
theorem RdM.mono {B B' : Nat} {w : World} {v : Value} {xs : List Mk} (h : RdM B w v xs) (hB : B ≤ B') : RdM B' w v xs := by
  rcases h with h | ⟨b, off, cap, hv, hp, hl, hc⟩
  · exact .inl h
  · exact .inr ⟨b, off, cap, hv, hp, by omega, hc⟩
theorem RdM.val {B : Nat} {w : World} {v : Value} {xs : List Mk} (h : RdM B w v xs) : ∃ ao cap, v = .slice ao xs.length cap := by
  rcases h with ⟨ao, cap, rfl, rfl⟩ | ⟨b, off, cap, rfl, _⟩
  · exact ⟨_, _, rfl⟩
  · exact ⟨_, _, rfl⟩
theorem RdM.at {B : Nat} {w : World} {v : Value} {xs : List Mk} (h : RdM B w v xs) (h0 : xs ≠ []) : ∃ b off cap, v = .slice (some ⟨b, off, none⟩) xs.length cap ∧ (0 < xs.length ∧ xs.length ≤ cap ∧ cap ≤ maxLen) ∧ b < B ∧ ∀ i x, xs[i]? = some x → MkAt w b (off + i * 3) x := by
  rcases h with ⟨ao, cap, rfl, rfl⟩ | h
  · exact absurd rfl h0
  · exact h

/-- The call's own marks. -/
def OwM (w : World) (base : Nat) (v : Value) (xs : List Mk) : Prop := w.ownsRow base 95 3 v xs.length (mkVs xs)

theorem OwM.rd {w : World} {base : Nat} {v : Value} {xs : List Mk} (h : OwM w base v xs) : RdM w.heap.size w v xs := by
  unfold OwM at h
  have hlt := h.lt
  rcases h.2 with ⟨hv, hn⟩ | ⟨g, cap, cur, hv, hrest⟩
  · left; exact ⟨none, 0, by rw [hv], by apply List.eq_nil_of_length_eq_zero; omega⟩
  · obtain ⟨hb, hg, hcap, hcm, hsz, htk⟩ := hrest
    subst hv
    have hgl := (hlt g rfl).2
    by_cases h0 : xs.length = 0
    · left; rw [h0]; exact ⟨_, _, rfl, by apply List.eq_nil_of_length_eq_zero; exact h0⟩
    · right
      refine ⟨g, 0, cap, rfl, ⟨by omega, hcap, hcm⟩, hgl, fun i x hx => ?_⟩
      have hil : i < xs.length := by
        rcases Nat.lt_or_ge i xs.length with q | q
        · exact q
        · rw [List.getElem?_eq_none q] at hx; cases hx
      have key : ∀ k, k < 3 → w.cell? ⟨g, i * 3 + k, none⟩ = (mkV x)[k]? := fun k hk => by
        rw [cell_of_row w g _ _ _ _ hg, ← mkVs_get xs i k x hx hk, ← htk, List.getElem?_take, if_pos (by omega)]
        simp
      have k0 := key 0 (by omega)
      have k1 := key 1 (by omega)
      have k2 := key 2 (by omega)
      simp only [Nat.zero_add]
      exact ⟨k0, k1, k2⟩
theorem OwM.below {w w' : World} {base B : Nat} {v : Value} {xs : List Mk} (h : OwM w base v xs) (hb : Below B w w') (hB : w.heap.size ≤ B) : OwM w' base v xs := owns_below h hb hB
theorem OwM.base {w : World} {base base' : Nat} {v : Value} {xs : List Mk} (h : OwM w base v xs) (hb : base' ≤ base) : OwM w base' v xs := owns_base h hb
theorem OwM.shape {w : World} {base : Nat} {v : Value} {xs : List Mk} (h : OwM w base v xs) : (v = .slice none 0 0 ∧ xs = []) ∨ ∃ g cap, v = .slice (some ⟨g, 0, none⟩) xs.length cap ∧ xs.length ≤ cap ∧ cap ≤ maxLen ∧ base ≤ g ∧ g < w.heap.size := by
  rcases h.2 with ⟨h1, h2⟩ | ⟨g, cap, cur, h1, h2, h3, h4, h5, _⟩
  · exact .inl ⟨h1, List.eq_nil_of_length_eq_zero h2⟩
  · exact .inr ⟨g, cap, h1, h4, h5, h2, (h.lt g (by rw [h1]; rfl)).2⟩
theorem OwM.cells {w : World} {base g cap : Nat} {xs : List Mk} (h : OwM w base (.slice (some ⟨g, 0, none⟩) xs.length cap) xs) : ∀ j u, (mkVs xs)[j]? = some u → w.cell? ((⟨g, 0, none⟩ : Addr).add j) = some u := by
  intro j u hj
  have h1 := h.cellAt j (by have := (List.getElem?_eq_some_iff.1 hj).1; rw [mkVs_length] at this; omega)
  rw [Addr.add_lit, Nat.zero_add, h1, hj]
theorem OwM.val {w : World} {base : Nat} {v : Value} {xs : List Mk} (h : OwM w base v xs) : ∃ ao cap, v = .slice ao xs.length cap := h.rd.val

theorem mkAt_of {w : World} {b off : Nat} {xs : List Mk} (h : ∀ i x, xs[i]? = some x → MkAt w b (off + i * 3) x) {j : Nat} (hj : j < xs.length) : ∃ x, xs[j]? = some x ∧ MkAt w b (off + j * 3) x :=
  ⟨xs[j], by simp [hj], h j _ (by simp [hj])⟩
theorem own_cell3 {w : World} {base g cap n : Nat} {e : TypeId} {xs : List Value} (h : w.ownsRow base e 3 (.slice (some ⟨g, 0, none⟩) n cap) n xs) (j : Nat) (hj : j < n * 3) : ∃ v, w.cell? ⟨g, j, none⟩ = some v := by
  have h1 := h.cellAt j hj
  have hl := h.1
  refine ⟨xs[j]'(by omega), ?_⟩
  rw [h1, List.getElem?_eq_getElem (by omega)]

theorem own_rowM {w : World} {base : Nat} {e : TypeId} {size : Nat} {v : Value} {n : Nat} {xs : List Value} (h : w.ownsRow base e size v n xs) : ∀ q, v.ownBlock = some q → base ≤ q := fun q hq => (h.lt q hq).1
theorem own_slM {w : World} {base : Nat} {e : TypeId} {size : Nat} {v : Value} {n : Nat} {xs : List Value} (h : w.ownsRow base e size v n xs) : ∃ ao m cap, v = .slice ao m cap := by
  rcases h.2 with ⟨rfl, _⟩ | ⟨g, cap, cur, rfl, _⟩
  · exact ⟨_, _, _, rfl⟩
  · exact ⟨_, _, _, rfl⟩
theorem own_offM {w : World} {base b n : Nat} {e t : TypeId} {size : Nat} {v : Value} {xs : List Value} {cs : Array Value} {fz : Nat × Nat} (ho : w.ownsRow base e size v n xs) (hb : w.heap[b]? = some (.cells cs t fz)) (hne : e ≠ t) : some b ≠ v.ownBlock := by
  rcases ho.2 with ⟨rfl, _⟩ | ⟨g', cap', cur, rfl, _, hg, _⟩
  · simp [Value.ownBlock]
  · intro h
    simp only [Value.ownBlock, Option.some.injEq] at h
    subst h
    rw [hb] at hg
    cases hg
    exact hne rfl

theorem Tryd.infoMK : (Tryd.prog.info? 95).map (fun i => (i.zero, i.size, i.bytes)) = some (some (.agg #[.int .i64 0, .int .i64 0, .int .i64 0]), 3, 24) := by kernel_rfl
def zMk : Mk := (0, 0, 0)
theorem made_mks (n : Nat) : (madeCells (Value.agg #[.int .i64 0, .int .i64 0, .int .i64 0]).cells (n * 3)).toList = mkVs (List.replicate n zMk) := by
  have h1 : mkVs (List.replicate n zMk) = List.replicate (n * 3) (.int .i64 0) := by
    rw [List.eq_replicate_iff]
    refine ⟨by rw [mkVs_length]; simp, fun v hv => ?_⟩
    simp only [mkVs, List.mem_flatMap, List.mem_replicate] at hv
    obtain ⟨x, ⟨_, rfl⟩, hv⟩ := hv
    simpa [mkV, zMk] using hv
  rw [h1, List.eq_replicate_iff]
  refine ⟨by simp [size_madeCells], fun v hv => ?_⟩
  simp only [madeCells, Array.toList_map, List.mem_map] at hv
  obtain ⟨i, _, rfl⟩ := hv
  have e : (Value.agg #[.int .i64 0, .int .i64 0, .int .i64 0]).cells = #[Value.int .i64 0, .int .i64 0, .int .i64 0] := rfl
  rw [e]
  have h4 : i % 3 = 0 ∨ i % 3 = 1 ∨ i % 3 = 2 := by omega
  show (#[Value.int .i64 0, .int .i64 0, .int .i64 0])[i % 3]! = _
  rcases h4 with h | h | h <;> rw [h] <;> rfl

theorem set_mks (xs : List Mk) (k : Nat) (x : Mk) (h : xs[k]? = some x) : (((mkVs (xs.take k ++ List.replicate (xs.length - k) zMk)).set (k * 3) (.int .i64 x.1)).set (k * 3 + 1) (.int .i64 x.2.1)).set (k * 3 + 2) (.int .i64 x.2.2) = mkVs (xs.take (k + 1) ++ List.replicate (xs.length - (k + 1)) zMk) := by
  have hk : k < xs.length := by
    rcases Nat.lt_or_ge k xs.length with q | q
    · exact q
    · rw [List.getElem?_eq_none q] at h; cases h
  have hl : (xs.take k).length = k := by rw [List.length_take]; omega
  obtain ⟨m, hm⟩ : ∃ m, xs.length - k = m + 1 := ⟨xs.length - k - 1, by omega⟩
  have e := mkVs_set (xs.take k) zMk x (List.replicate m zMk)
  rw [hl] at e
  rw [hm, List.replicate_succ, e, List.take_add_one, h, show xs.length - (k + 1) = m by omega]
  simp

/-- The marks that the laws write. -/
def mmk (k0 : Int) (n : Nat) : List Mk := (List.range n).map fun i : Nat => (k0 + 3 * (i : Int), k0 + 3 * (i : Int) + 1, k0 + 3 * (i : Int) + 1 + 1)
theorem mmk_length (k0 : Int) (n : Nat) : (mmk k0 n).length = n := by simp [mmk]
theorem mmk_get {k0 : Int} {n i : Nat} (h : i < n) : (mmk k0 n)[i]? = some (k0 + 3 * (i : Int), k0 + 3 * (i : Int) + 1, k0 + 3 * (i : Int) + 1 + 1) := by simp [mmk, h]
theorem mmk_set {k0 : Int} {j : Nat} {xs : List Mk} (h : j < xs.length) : (((mkVs (mmk k0 j ++ xs.drop j)).set (j * 3) (.int .i64 (k0 + 3 * j))).set (j * 3 + 1) (.int .i64 (k0 + 3 * j + 1))).set (j * 3 + 2) (.int .i64 (k0 + 3 * j + 1 + 1)) = mkVs (mmk k0 (j + 1) ++ xs.drop (j + 1)) := by
  rw [List.drop_eq_getElem_cons h]
  have e := mkVs_set (mmk k0 j) xs[j] (k0 + 3 * (j : Int), k0 + 3 * (j : Int) + 1, k0 + 3 * (j : Int) + 1 + 1) (xs.drop (j + 1))
  rw [mmk_length] at e
  simp only at e
  rw [e]
  congr 1
  simp [mmk, List.range_succ]

end Go.Proofs.YtbgngikejgihgaeDoor
