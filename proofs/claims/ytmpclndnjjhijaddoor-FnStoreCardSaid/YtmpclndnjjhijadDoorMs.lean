import Derived.Test.YtmpclndnjjhijadDoorDb
import Derived.Test.YtmpclndnjjhijadDoorSm
import Derived.Test.YtmpclndnjjhijadDoorRead
import Derived.Test.YtmpclndnjjhijadDoorImplApp
import Derived.Test.YtmpclndnjjhijadDoorSpecDec
namespace Go.Proofs.YtmpclndnjjhijadDoor
open Go Go.RowKit
set_option linter.unusedVariables false

/-- Two rows of different kinds lie in different blocks. -/
theorem own_ne2 {w : World} {B B' e e' size size' n n' : Nat} {v v' : Value} {xs xs' : List Value} (h : w.ownsRow B e size v n xs) (h' : w.ownsRow B' e' size' v' n' xs') (hne : e ≠ e') : v.ownBlock = none ∨ v.ownBlock ≠ v'.ownBlock := by
  rcases h.2 with ⟨rfl, _⟩ | ⟨g, cap, cur, rfl, _, hg, _⟩
  · exact .inl rfl
  · right
    intro e1
    rcases h'.2 with ⟨rfl, _⟩ | ⟨g', cap', cur', rfl, _, hg', _⟩
    · cases e1
    · have : g = g' := by simpa [Value.ownBlock] using e1
      subst this
      rw [hg] at hg'
      cases hg'
      exact hne rfl

theorem own_src {bs : List Int} {vb : Value} {p : Nat} {w w' : World} {B e size n : Nat} {v : Value} {xs : List Value} (h : w.ownsRow B e size v n xs) (hs : Src bs vb p w) (hg : w.grownBy w' (some p)) (hne : e ≠ 54) : w'.ownsRow B e size v n xs := by
  refine h.kept hg ?_
  rcases h.2 with ⟨rfl, _⟩ | ⟨g, cap, cur, rfl, _, hg', _⟩
  · exact .inl rfl
  · right
    intro e1
    have : g = p := by simpa [Value.ownBlock] using e1
    subst this
    obtain ⟨⟨i, x, _, _, _, hh⟩, _⟩ := hs
    rw [hg'] at hh
    cases hh
    exact hne rfl

def spanCells (sps : List (Nat × Nat)) : List Value := sps.flatMap fun x => [.int .i64 (x.1 : Int), .int .i64 (x.2 : Int)]
theorem spanCells_snoc (sps : List (Nat × Nat)) (o l : Nat) : spanCells (sps ++ [(o, l)]) = spanCells sps ++ [.int .i64 (o : Int), .int .i64 (l : Int)] := by simp [spanCells]
theorem spanCells_length (sps : List (Nat × Nat)) : (spanCells sps).length = sps.length * 2 := by
  induction sps with
  | nil => rfl
  | cons a l ih => simp only [spanCells, List.flatMap_cons, List.length_append, List.length_cons, List.length_nil] at *; omega
theorem spanCells_get (sps : List (Nat × Nat)) : ∀ (j o l : Nat), sps[j]? = some (o, l) → (spanCells sps)[j * 2]? = some (.int .i64 (o : Int)) ∧ (spanCells sps)[j * 2 + 1]? = some (.int .i64 (l : Int)) := by
  induction sps with
  | nil => intro j o l h; simp at h
  | cons a t ih =>
    intro j o l h
    cases j with
    | zero => simp at h; subst h; simp [spanCells]
    | succ j =>
      have h' : t[j]? = some (o, l) := by simpa using h
      obtain ⟨h1, h2⟩ := ih j o l h'
      rw [show (j + 1) * 2 = j * 2 + 2 by omega, show j * 2 + 2 + 1 = j * 2 + 1 + 2 by omega]
      simp only [spanCells, List.flatMap_cons] at *
      exact ⟨by simpa using h1, by simpa using h2⟩

/-- The law's state: the source of draws, the store, the spans and the parts. -/
structure MS (zs : List Int) (vz : Value) (p : Nat) (w0 : World) (st sp pt : Value) (S : List Int) (sps : List (Nat × Nat)) (pts : List (Value × List Int)) (w : World) : Prop where
  src : Src zs vz p w
  low : Low zs vz w0.heap.size (w0.heap.size + 1)
  st : w.ownsRow w0.heap.size 21 1 st S.length (ints .i32 S)
  sp : w.ownsRow w0.heap.size 33 2 sp sps.length (spanCells sps)
  pt : w.ownsRow w0.heap.size 22 1 pt pts.length (pts.map (·.1))
  parts : ∀ q ∈ pts, w.ownsRow w0.heap.size 5 1 q.1 q.2.length (ints .u8 q.2) ∧ (∀ z ∈ q.2, 0 ≤ z ∧ z ≤ 255) ∧ q.2.length ≤ 160
  rel : ∀ (j o l : Nat) (v : Value) (b : List Int), sps[j]? = some (o, l) → pts[j]? = some (v, b) → o + l ≤ S.length ∧ (S.drop o).take l = decs b
  below : Below w0.heap.size w0 w
  pp : p = w0.heap.size

section
variable {zs : List Int} {vz : Value} {p : Nat} {w0 w w' : World} {st sp pt : Value} {S : List Int} {sps : List (Nat × Nat)} {pts : List (Value × List Int)}

theorem MS.size (h : MS zs vz p w0 st sp pt S sps pts w) : w0.heap.size ≤ w.heap.size := h.below.size

theorem MS.draw (h : MS zs vz p w0 st sp pt S sps pts w) (hs : Src zs vz p w') (hg : w.grownBy w' (some p)) : MS zs vz p w0 st sp pt S sps pts w' :=
  ⟨hs, h.low, own_src h.st h.src hg (by decide), own_src h.sp h.src hg (by decide), own_src h.pt h.src hg (by decide),
    fun q hq => ⟨own_src (h.parts q hq).1 h.src hg (by decide), (h.parts q hq).2⟩, h.rel, h.below.grown hg h.size (fun q hq => by cases hq; rw [h.pp]; exact Nat.le_refl _), h.pp⟩

theorem below_grown {B : Nat} (hb : Below B w w') (hB : w.heap.size ≤ B) : w.grownBy w' none :=
  ⟨hb.os, hb.tape, hb.output, hb.size, fun k hk _ => hb.block k (by omega)⟩

theorem MS.fresh (h : MS zs vz p w0 st sp pt S sps pts w) (hb : Below w.heap.size w w') : MS zs vz p w0 st sp pt S sps pts w' :=
  ⟨h.src.up h.src.low (below_grown hb (Nat.le_refl _)) (fun q hq => by cases hq), h.low, owns_below h.st hb (Nat.le_refl _), owns_below h.sp hb (Nat.le_refl _), owns_below h.pt hb (Nat.le_refl _),
    fun q hq => ⟨owns_below (h.parts q hq).1 hb (Nat.le_refl _), (h.parts q hq).2⟩, h.rel, h.below.trans (hb.mono h.size), h.pp⟩

theorem MS.store {st' : Value} {D : List Int} (h : MS zs vz p w0 st sp pt S sps pts w) (ho : w.ownsRow w0.heap.size 21 1 st' (S ++ D).length (ints .i32 (S ++ D))) : MS zs vz p w0 st' sp pt (S ++ D) sps pts w :=
  ⟨h.src, h.low, ho, h.sp, h.pt, h.parts, fun j o l v b h1 h2 => by
    obtain ⟨h3, h4⟩ := h.rel j o l v b h1 h2
    refine ⟨by rw [List.length_append]; omega, ?_⟩
    rw [List.drop_append_of_le_length (by omega), List.take_append_of_le_length (by rw [List.length_drop]; omega), h4], h.below, h.pp⟩

theorem MS.span {sp' : Value} {o l : Nat} (h : MS zs vz p w0 st sp pt S sps pts w) (hl : sps.length = pts.length) (hg : w.grownBy w' sp.ownBlock) (ho : w'.ownsRow w0.heap.size 33 2 sp' (sps ++ [(o, l)]).length (spanCells (sps ++ [(o, l)]))) : MS zs vz p w0 st sp' pt S (sps ++ [(o, l)]) pts w' := by
  have hr : ∀ q, sp.ownBlock = some q → w0.heap.size ≤ q := fun q hq => (h.sp.lt q hq).1
  have hnp : ∀ q, sp.ownBlock = some q → w0.heap.size + 1 ≤ q := fun q hq => by
    have h1 := hr q hq
    rcases Nat.lt_or_ge w0.heap.size q with h2 | h2
    · exact h2
    · exfalso
      have e : q = p := by rw [h.pp]; omega
      subst e
      rcases h.sp.2 with ⟨rfl, _⟩ | ⟨g, cap, cur, rfl, _, hg', _⟩
      · cases hq
      · have : g = q := by simpa [Value.ownBlock] using hq
        subst this
        obtain ⟨⟨i, x, _, _, _, hh⟩, _⟩ := h.src
        rw [hg'] at hh
        cases hh
  refine ⟨h.src.up (by rw [h.pp]; exact h.low) hg hnp, h.low, h.st.kept hg (own_ne2 h.st h.sp (by decide)), ho, h.pt.kept hg (own_ne2 h.pt h.sp (by decide)),
    fun q hq => ⟨(h.parts q hq).1.kept hg (own_ne2 (h.parts q hq).1 h.sp (by decide)), (h.parts q hq).2⟩, fun j o' l' v b h1 h2 => ?_, h.below.grown hg h.size hr, h.pp⟩
  have hj : j < pts.length := by
    rcases Nat.lt_or_ge j pts.length with h3 | h3
    · exact h3
    · rw [List.getElem?_eq_none h3] at h2; cases h2
  rw [List.getElem?_append_left (by omega)] at h1
  exact h.rel j o' l' v b h1 h2

theorem MS.part {pt' v : Value} {b : List Int} {o l : Nat} (h : MS zs vz p w0 st sp pt S (sps ++ [(o, l)]) pts w) (hl : sps.length = pts.length) (hg : w.grownBy w' pt.ownBlock)
    (ho : w'.ownsRow w0.heap.size 22 1 pt' (pts ++ [(v, b)]).length ((pts ++ [(v, b)]).map (·.1))) (hv : w.ownsRow w0.heap.size 5 1 v b.length (ints .u8 b)) (hb : ∀ z ∈ b, 0 ≤ z ∧ z ≤ 255) (hbl : b.length ≤ 160)
    (hol : o + l ≤ S.length) (hd : (S.drop o).take l = decs b) : MS zs vz p w0 st sp pt' S (sps ++ [(o, l)]) (pts ++ [(v, b)]) w' := by
  have hr : ∀ q, pt.ownBlock = some q → w0.heap.size ≤ q := fun q hq => (h.pt.lt q hq).1
  have hnp : ∀ q, pt.ownBlock = some q → w0.heap.size + 1 ≤ q := fun q hq => by
    have h1 := hr q hq
    rcases Nat.lt_or_ge w0.heap.size q with h2 | h2
    · exact h2
    · exfalso
      have e : q = p := by rw [h.pp]; omega
      subst e
      rcases h.pt.2 with ⟨rfl, _⟩ | ⟨g, cap, cur, rfl, _, hg', _⟩
      · cases hq
      · have : g = q := by simpa [Value.ownBlock] using hq
        subst this
        obtain ⟨⟨i, x, _, _, _, hh⟩, _⟩ := h.src
        rw [hg'] at hh
        cases hh
  refine ⟨h.src.up (by rw [h.pp]; exact h.low) hg hnp, h.low, h.st.kept hg (own_ne2 h.st h.pt (by decide)), h.sp.kept hg (own_ne2 h.sp h.pt (by decide)), ho, ?_, ?_, h.below.grown hg h.size hr, h.pp⟩
  · intro q hq
    rcases List.mem_append.1 hq with hq | hq
    · exact ⟨(h.parts q hq).1.kept hg (own_ne2 (h.parts q hq).1 h.pt (by decide)), (h.parts q hq).2⟩
    · obtain rfl := List.mem_singleton.1 hq
      exact ⟨hv.kept hg (own_ne2 hv h.pt (by decide)), hb, hbl⟩
  · intro j o' l' v' b' h1 h2
    by_cases hj : j < pts.length
    · rw [List.getElem?_append_left hj] at h2
      exact h.rel j o' l' v' b' h1 h2
    · have hj' : j = pts.length := by
        rcases Nat.lt_or_ge j (pts ++ [(v, b)]).length with h3 | h3
        · simp at h3; omega
        · rw [List.getElem?_eq_none h3] at h2; cases h2
      subst hj'
      rw [List.getElem?_append_right (Nat.le_refl _)] at h2
      rw [List.getElem?_append_right (by omega), hl] at h1
      simp at h1 h2
      obtain ⟨rfl, rfl⟩ := h1
      obtain ⟨rfl, rfl⟩ := h2
      exact ⟨hol, hd⟩
end
end Go.Proofs.YtmpclndnjjhijadDoor
