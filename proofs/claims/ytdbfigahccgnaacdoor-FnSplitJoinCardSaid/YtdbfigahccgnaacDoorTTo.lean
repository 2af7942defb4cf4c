import Derived.Test.YtdbfigahccgnaacDoorTItem
import Derived.WalkLawsBesides
namespace Go.Proofs.YtdbfigahccgnaacDoor
open Go Go.RowKit
set_option linter.unusedVariables false

def itV (x : It) : List Value := [.int .i64 x.pc.off, .int .i64 x.pc.len, .int .i64 x.pc.brk, .int .i64 x.lv]
def itVs (xs : List It) : List Value := xs.flatMap itV
theorem itVs_length (xs : List It) : (itVs xs).length = xs.length * 4 := by
  induction xs with
  | nil => rfl
  | cons x xs ih => simp only [itVs, List.flatMap_cons, List.length_append] at ih ⊢; rw [ih]; simp [itV]; omega
theorem itVs_append (a b : List It) : itVs (a ++ b) = itVs a ++ itVs b := by simp [itVs]
theorem itVs_get (xs : List It) (i k : Nat) (x : It) (h : xs[i]? = some x) (hk : k < 4) : (itVs xs)[i * 4 + k]? = (itV x)[k]? := by
  induction xs generalizing i with
  | nil => simp at h
  | cons y ys ih =>
    cases i with
    | zero =>
      simp at h; subst h
      simp only [itVs, List.flatMap_cons, Nat.zero_mul, Nat.zero_add]
      rw [List.getElem?_append_left (by simp [itV]; omega)]
    | succ i =>
      simp only [List.getElem?_cons_succ] at h
      have := ih i h
      simp only [itVs, List.flatMap_cons] at this ⊢
      rw [List.getElem?_append_right (by simp [itV]; omega)]
      rw [← this]
      congr 1
      simp [itV]; omega

theorem itVs_set (a : List It) (y x : It) (b : List It) : ((((itVs (a ++ y :: b)).set (a.length * 4) (.int .i64 x.pc.off)).set (a.length * 4 + 1) (.int .i64 x.pc.len)).set (a.length * 4 + 2) (.int .i64 x.pc.brk)).set (a.length * 4 + 3) (.int .i64 x.lv) = itVs (a ++ x :: b) := by
  have e : ∀ z : It, itVs (a ++ z :: b) = itVs a ++ ([.int .i64 z.pc.off, .int .i64 z.pc.len, .int .i64 z.pc.brk, .int .i64 z.lv] ++ itVs b) := fun z => by simp [itVs, itV]
  have hl := itVs_length a
  rw [e, e]
  rw [List.set_append_right _ _ (by omega), List.set_append_right _ _ (by omega), List.set_append_right _ _ (by omega), List.set_append_right _ _ (by omega), hl]
  rw [Nat.sub_self, show a.length * 4 + 1 - a.length * 4 = 1 by omega, show a.length * 4 + 2 - a.length * 4 = 2 by omega, show a.length * 4 + 3 - a.length * 4 = 3 by omega]
  rfl

/-- The call's own items. -/
def OwI (w : World) (base : Nat) (v : Value) (xs : List It) : Prop := w.ownsRow base 52 4 v xs.length (itVs xs)

theorem OwI.rd {w : World} {base : Nat} {v : Value} {xs : List It} (h : OwI w base v xs) : RdI w.heap.size w v xs := by
  unfold OwI at h
  have hlt := h.lt
  rcases h.2 with ⟨hv, hn⟩ | ⟨g, cap, cur, hv, hrest⟩
  · left; exact ⟨none, 0, by rw [hv], by apply List.eq_nil_of_length_eq_zero; omega⟩
  · obtain ⟨hb, hg, hcap, hcm, hsz, htk⟩ := hrest
    subst hv
    have hgl := (hlt g rfl).2
    by_cases h0 : xs.length = 0
    · left; rw [h0]; exact ⟨_, _, rfl, by apply List.eq_nil_of_length_eq_zero; exact h0⟩
    · right
      refine ⟨g, 0, cap, rfl, ⟨by omega, hcap, hcm⟩, hgl, fun i x hx => ?_⟩
      have hil : i < xs.length := by
        rcases Nat.lt_or_ge i xs.length with q | q
        · exact q
        · rw [List.getElem?_eq_none q] at hx; cases hx
      have key : ∀ k, k < 4 → w.cell? ⟨g, i * 4 + k, none⟩ = (itV x)[k]? := fun k hk => by
        rw [cell_of_row w g _ _ _ _ hg, ← itVs_get xs i k x hx hk, ← htk, List.getElem?_take, if_pos (by omega)]
        simp
      have k0 := key 0 (by omega)
      have k1 := key 1 (by omega)
      have k2 := key 2 (by omega)
      have k3 := key 3 (by omega)
      simp only [Nat.zero_add]
      exact ⟨k0, k1, k2, k3⟩
theorem OwI.below {w w' : World} {base B : Nat} {v : Value} {xs : List It} (h : OwI w base v xs) (hb : Below B w w') (hB : w.heap.size ≤ B) : OwI w' base v xs := owns_below h hb hB
theorem OwI.base {w : World} {base base' : Nat} {v : Value} {xs : List It} (h : OwI w base v xs) (hb : base' ≤ base) : OwI w base' v xs := owns_base h hb

set_option maxHeartbeats 1000000 in
theorem toPieceL (p : Pc) (w : World) : Calls Tryd.prog 49 #[pcV p] w fun e w' => e = .returned (pcV p) ∧ Below w.heap.size w w' := by
  unfold pcV
  go_enter Tryd.func49, Tryd.ntmps49
  go_wp2
  refine bodyPost_ret (v := cnt _ _ _) (by simp [results, Tryd.results49, go_sem]; rfl) rfl ⟨rfl, ?_⟩
  exact (((Below.refl _ _).alloc (Nat.le_refl _) _).alloc (by simp) _).alloc (by simp; omega) _

def itA (x : It) : Value := .agg #[.int .i64 x.pc.off, .int .i64 x.pc.len, .int .i64 x.pc.brk, .int .i64 x.lv]

set_option maxHeartbeats 1000000 in
set_option maxRecDepth 100000 in
theorem toItemL (x : It) (w : World) : Calls Tryd.prog 34 #[itA x] w fun e w' => e = .returned (itA x) ∧ Below w.heap.size w w' := by
  obtain ⟨⟨po, pl, pb⟩, lv⟩ := x
  have HB0 := hide ((((Below.refl w.heap.size w).alloc (Nat.le_refl _) (.cells #[.int .i64 po, .int .i64 pl, .int .i64 pb, .int .i64 lv] 80)).alloc (by simp) (.cells #[.int .i64 0, .int .i64 0, .int .i64 0, .int .i64 0] 52)).alloc (by simp; omega) (.cells #[.int .i64 0, .int .i64 0, .int .i64 0, .int .i64 0] 52))
  have hk0 : (((w.alloc (.cells #[.int .i64 po, .int .i64 pl, .int .i64 pb, .int .i64 lv] 80)).alloc (.cells #[.int .i64 0, .int .i64 0, .int .i64 0, .int .i64 0] 52)).alloc (.cells #[.int .i64 0, .int .i64 0, .int .i64 0, .int .i64 0] 52)).heap[w.heap.size]? = some (.cells #[.int .i64 po, .int .i64 pl, .int .i64 pb, .int .i64 lv] 80 (0, 0)) := by
    rw [Below.heap_alloc _ _ _ (by simp; omega), Below.heap_alloc _ _ _ (by simp)]; exact heap_alloc_new _ _
  have hk1 : (((w.alloc (.cells #[.int .i64 po, .int .i64 pl, .int .i64 pb, .int .i64 lv] 80)).alloc (.cells #[.int .i64 0, .int .i64 0, .int .i64 0, .int .i64 0] 52)).alloc (.cells #[.int .i64 0, .int .i64 0, .int .i64 0, .int .i64 0] 52)).heap[w.heap.size + 1]? = some (.cells #[.int .i64 0, .int .i64 0, .int .i64 0, .int .i64 0] 52 (0, 0)) := by
    rw [Below.heap_alloc _ _ _ (by simp)]
    have := heap_alloc_new (w.alloc (.cells #[.int .i64 po, .int .i64 pl, .int .i64 pb, .int .i64 lv] 80)) (.cells #[.int .i64 0, .int .i64 0, .int .i64 0, .int .i64 0] 52)
    simpa using this
  have hk2 : (((w.alloc (.cells #[.int .i64 po, .int .i64 pl, .int .i64 pb, .int .i64 lv] 80)).alloc (.cells #[.int .i64 0, .int .i64 0, .int .i64 0, .int .i64 0] 52)).alloc (.cells #[.int .i64 0, .int .i64 0, .int .i64 0, .int .i64 0] 52)).heap[w.heap.size + 1 + 1]? = some (.cells #[.int .i64 0, .int .i64 0, .int .i64 0, .int .i64 0] 52 (0, 0)) := by
    have := heap_alloc_new ((w.alloc (.cells #[.int .i64 po, .int .i64 pl, .int .i64 pb, .int .i64 lv] 80)).alloc (.cells #[.int .i64 0, .int .i64 0, .int .i64 0, .int .i64 0] 52)) (.cells #[.int .i64 0, .int .i64 0, .int .i64 0, .int .i64 0] 52)
    simpa using this
  have hs0 : (((w.alloc (.cells #[.int .i64 po, .int .i64 pl, .int .i64 pb, .int .i64 lv] 80)).alloc (.cells #[.int .i64 0, .int .i64 0, .int .i64 0, .int .i64 0] 52)).alloc (.cells #[.int .i64 0, .int .i64 0, .int .i64 0, .int .i64 0] 52)).heap.size = w.heap.size + 3 := by simp
  have HH := hide (And.intro hk0 (And.intro hk1 hk2))
  unfold itA
  simp only
  clear hk0 hk1 hk2
  go_enter Tryd.func34, Tryd.ntmps34
  go_wp2_with fail
  generalize ((w.alloc (.cells #[.int .i64 po, .int .i64 pl, .int .i64 pb, .int .i64 lv] 80)).alloc (.cells #[.int .i64 0, .int .i64 0, .int .i64 0, .int .i64 0] 52)).alloc (.cells #[.int .i64 0, .int .i64 0, .int .i64 0, .int .i64 0] 52) = w0 at *
  refine (toPieceL ⟨po, pl, pb⟩ w0).mono ?_
  rintro e w1 ⟨rfl, hb1⟩
  have HB1 := hide (HB0.out.trans (hb1.mono (by omega)))
  have g0 := (hb1.block w.heap.size (by omega)).trans HH.out.1
  have g1 := (hb1.block (w.heap.size + 1) (by omega)).trans HH.out.2.1
  have g2 := (hb1.block (w.heap.size + 1 + 1) (by omega)).trans HH.out.2.2
  have hs1 := hb1.size
  have c3 : w1.cell? ⟨w.heap.size, 3, none⟩ = some (.int .i64 lv) := by rw [cell_of_row w1 _ 3 _ _ _ g0]; rfl
  have l0 : w1.cell? ⟨w.heap.size + 1, 0, none⟩ = some (.int .i64 0) := by rw [cell_of_row w1 _ 0 _ _ _ g1]; rfl
  have l1 : w1.cell? ⟨w.heap.size + 1, 1, none⟩ = some (.int .i64 0) := by rw [cell_of_row w1 _ 1 _ _ _ g1]; rfl
  have l2 : w1.cell? ⟨w.heap.size + 1, 2, none⟩ = some (.int .i64 0) := by rw [cell_of_row w1 _ 2 _ _ _ g1]; rfl
  have l3 : w1.cell? ⟨w.heap.size + 1, 3, none⟩ = some (.int .i64 0) := by rw [cell_of_row w1 _ 3 _ _ _ g1]; rfl
  have m0 : w1.cell? ⟨w.heap.size + 1 + 1, 0, none⟩ = some (.int .i64 0) := by rw [cell_of_row w1 _ 0 _ _ _ g2]; rfl
  have m1 : w1.cell? ⟨w.heap.size + 1 + 1, 1, none⟩ = some (.int .i64 0) := by rw [cell_of_row w1 _ 1 _ _ _ g2]; rfl
  have m2 : w1.cell? ⟨w.heap.size + 1 + 1, 2, none⟩ = some (.int .i64 0) := by rw [cell_of_row w1 _ 2 _ _ _ g2]; rfl
  have m3 : w1.cell? ⟨w.heap.size + 1 + 1, 3, none⟩ = some (.int .i64 0) := by rw [cell_of_row w1 _ 3 _ _ _ g2]; rfl
  have fl := fun j => frozen_of_row w1 (w.heap.size + 1) j _ _ g1
  have fm := fun j => frozen_of_row w1 (w.heap.size + 1 + 1) j _ _ g2
  have fl0 := fl 0
  have fl1 := fl 1
  have fl2 := fl 2
  have fl3 := fl 3
  have fm0 := fm 0
  have fm1 := fm 1
  have fm2 := fm 2
  have fm3 := fm 3
  clear hb1 HH g0 g1 g2 HB0 fl fm
  unfold pcV
  simp only
  go_wp2
  refine bodyPost_ret (v := itA ⟨⟨po, pl, pb⟩, lv⟩) (by simp [results, Tryd.results34, go_sem, l0, l1, l2, l3]; rfl) rfl ⟨rfl, ?_⟩
  exact (((((((HB1.out.setCell (by simp; omega) _).setCell (by simp; omega) _).setCell (by simp; omega) _).setCell (by simp; omega) _).setCell (by simp) _).setCell (by simp) _).setCell (by simp) _).setCell (by simp) _

theorem itAt_of' {w : World} {b off : Nat} {xs : List It} (h : ∀ i x, xs[i]? = some x → ItAt w b (off + i * 4) x) {j : Nat} (hj : j < xs.length) : ∃ x, xs[j]? = some x ∧ ItAt w b (off + j * 4) x :=
  ⟨xs[j], by simp [hj], h j _ (by simp [hj])⟩
theorem own_cell4 {w : World} {base g cap n : Nat} {xs : List Value} (h : w.ownsRow base 52 4 (.slice (some ⟨g, 0, none⟩) n cap) n xs) (j : Nat) (hj : j < n * 4) : ∃ v, w.cell? ⟨g, j, none⟩ = some v := by
  have h1 := h.cellAt j hj
  have hl := h.1
  refine ⟨xs[j]'(by omega), ?_⟩
  rw [h1, List.getElem?_eq_getElem (by omega)]

theorem Tryd.infoIT : (Tryd.prog.info? 52).map (fun i => (i.zero, i.size, i.bytes)) = some (some (.agg #[.int .i64 0, .int .i64 0, .int .i64 0, .int .i64 0]), 4, 32) := by kernel_rfl
def zIt : It := ⟨⟨0, 0, 0⟩, 0⟩
theorem made_its (n : Nat) : (madeCells (Value.agg #[.int .i64 0, .int .i64 0, .int .i64 0, .int .i64 0]).cells (n * 4)).toList = itVs (List.replicate n zIt) := by
  have h1 : itVs (List.replicate n zIt) = List.replicate (n * 4) (.int .i64 0) := by
    rw [List.eq_replicate_iff]
    refine ⟨by rw [itVs_length]; simp, fun v hv => ?_⟩
    simp only [itVs, List.mem_flatMap, List.mem_replicate] at hv
    obtain ⟨x, ⟨_, rfl⟩, hv⟩ := hv
    simpa [itV, zIt] using hv
  rw [h1, List.eq_replicate_iff]
  refine ⟨by simp [size_madeCells], fun v hv => ?_⟩
  simp only [madeCells, Array.toList_map, List.mem_map] at hv
  obtain ⟨i, _, rfl⟩ := hv
  have e : (Value.agg #[.int .i64 0, .int .i64 0, .int .i64 0, .int .i64 0]).cells = #[Value.int .i64 0, .int .i64 0, .int .i64 0, .int .i64 0] := rfl
  rw [e]
  have h4 : i % 4 = 0 ∨ i % 4 = 1 ∨ i % 4 = 2 ∨ i % 4 = 3 := by omega
  show (#[Value.int .i64 0, .int .i64 0, .int .i64 0, .int .i64 0])[i % 4]! = _
  rcases h4 with h | h | h | h <;> rw [h] <;> rfl

theorem set_its (xs : List It) (k : Nat) (x : It) (h : xs[k]? = some x) : ((((itVs (xs.take k ++ List.replicate (xs.length - k) zIt)).set (k * 4) (.int .i64 x.pc.off)).set (k * 4 + 1) (.int .i64 x.pc.len)).set (k * 4 + 2) (.int .i64 x.pc.brk)).set (k * 4 + 3) (.int .i64 x.lv) = itVs (xs.take (k + 1) ++ List.replicate (xs.length - (k + 1)) zIt) := by
  have hk : k < xs.length := by
    rcases Nat.lt_or_ge k xs.length with q | q
    · exact q
    · rw [List.getElem?_eq_none q] at h; cases h
  have hl : (xs.take k).length = k := by rw [List.length_take]; omega
  obtain ⟨m, hm⟩ : ∃ m, xs.length - k = m + 1 := ⟨xs.length - k - 1, by omega⟩
  have e := itVs_set (xs.take k) zIt x (List.replicate m zIt)
  rw [hl] at e
  rw [hm, List.replicate_succ, e, List.take_add_one, h, show xs.length - (k + 1) = m by omega]
  simp

set_option maxHeartbeats 2000000 in
set_option maxRecDepth 100000 in
theorem toItemsL (B : Nat) (xs : List It) (v : Value) (w : World) (h : RdI B w v xs) (hB : B ≤ w.heap.size) (hn : xs.length ≤ 1048576) :
    Calls Tryd.prog 20 #[v] w fun e w' => e = .returned (.slice (some ⟨w.heap.size, 0, none⟩) xs.length xs.length) ∧
      OwI w' w.heap.size (.slice (some ⟨w.heap.size, 0, none⟩) xs.length xs.length) xs ∧ Below w.heap.size w w' := by
  obtain ⟨i0, hi, hz0, hz1, hz2⟩ := info_parts Tryd.infoIT
  rcases h with ⟨ao, cap, rfl, rfl⟩ | ⟨b, off, cap, rfl, hp, hb, hc⟩
  · go_enter Tryd.func20, Tryd.ntmps20
    go_wp2_with (at_make; refine wpList_make_full _ rfl _ _ 28 rfl w.heap.size 52 i0 (.agg #[.int .i64 0, .int .i64 0, .int .i64 0, .int .i64 0]) 4 Tryd.underlying28 hi hz0 hz1 .i64 .i64 _ _ 0 rfl rfl (by omega) (by omega) (by rw [hz2]; omega) (by unfold maxLen; omega) (Nat.le_refl _) ?_; intro w1 hown hgrow)
    rw [made_its] at hown
    refine wp_loop_rounds 1 ?_
    rw [rounds_succ]
    go_wp2
    go_ret
    exact ⟨rfl, hown, (Below.refl _ _).grown hgrow (Nat.le_refl _) (fun k hk => by cases hk)⟩
  · have hcB : b < w.heap.size := by omega
    go_enter Tryd.func20, Tryd.ntmps20
    go_wp2_with (at_make; refine wpList_make_full _ rfl _ _ 28 rfl w.heap.size 52 i0 (.agg #[.int .i64 0, .int .i64 0, .int .i64 0, .int .i64 0]) 4 Tryd.underlying28 hi hz0 hz1 .i64 .i64 _ _ xs.length rfl rfl (by omega) (by omega) (by rw [hz2]; omega) (by unfold maxLen; omega) (Nat.le_refl _) ?_; intro w1 hown hgrow)
    rw [made_its] at hown
    have hb1 : Below w.heap.size w w1 := (Below.refl _ _).grown hgrow (Nat.le_refl _) (fun k hk => by cases hk)
    have HO := hide hown
    have HC := hide hc
    unfold maxLen at hp
    clear hown hgrow hc
    go_loopw [4] (fun i wr => ∃ k : Nat, k ≤ xs.length ∧ i = .int .i64 k ∧ wr.ownsRow w.heap.size 52 4 (.slice (some ⟨w.heap.size, 0, none⟩) xs.length xs.length) xs.length (itVs (xs.take k ++ List.replicate (xs.length - k) zIt)) ∧ Below w.heap.size w wr)
      (fun i _ => xs.length - (intOf i).toNat)
    case atStart => exact ⟨0, Nat.zero_le _, rfl, by simpa using HO.out, hb1⟩
    case round =>
      obtain ⟨k, hk, rfl, hown, hb⟩ := hrel
      by_cases hlt : k < xs.length
      · obtain ⟨x, hx, a0, a1, a2, a3⟩ := itAt_of' HC.out hlt
        have e0 := (hb.cell (p := ⟨b, off + k * 4, none⟩) hcB).trans a0
        have e1 := (hb.cell (p := ⟨b, off + k * 4 + 1, none⟩) hcB).trans a1
        have e2 := (hb.cell (p := ⟨b, off + k * 4 + 2, none⟩) hcB).trans a2
        have e3 := (hb.cell (p := ⟨b, off + k * 4 + 3, none⟩) hcB).trans a3
        have hlt' : (k : Int) < xs.length := by omega
        have hsz := hb.size
        have hbr : b < wr.heap.size := by omega
        have HB := hide hb
        have HOW := hide hown
        have HXK := hide hx
        have hgl : w.heap.size < wr.heap.size := (hown.lt w.heap.size rfl).2
        clear a0 a1 a2 a3 hb hown hx
        go_wp2_with fail
        refine (toItemL x wr).mono ?_
        rintro e w2 ⟨rfl, hb2⟩
        have hown2 := owns_below HOW.out hb2 (Nat.le_refl _)
        have HB2 := hide (HB.out.trans (hb2.mono hsz))
        have hs2 := hb2.size
        have eS := set_its xs k x HXK.out
        have k0 := own_cell4 hown2 (k * 4) (by omega)
        have k1 := own_cell4 hown2 (k * 4 + 1) (by omega)
        have k2 := own_cell4 hown2 (k * 4 + 2) (by omega)
        have k3 := own_cell4 hown2 (k * 4 + 3) (by omega)
        obtain ⟨v0, k0⟩ := k0
        obtain ⟨v1, k1⟩ := k1
        obtain ⟨v2, k2⟩ := k2
        obtain ⟨v3, k3⟩ := k3
        have f0 : w2.frozen? ⟨w.heap.size, k * 4, none⟩ = false := hown2.frozenAt _
        have f1 : w2.frozen? ⟨w.heap.size, k * 4 + 1, none⟩ = false := hown2.frozenAt _
        have f2 : w2.frozen? ⟨w.heap.size, k * 4 + 2, none⟩ = false := hown2.frozenAt _
        have f3 : w2.frozen? ⟨w.heap.size, k * 4 + 3, none⟩ = false := hown2.frozenAt _
        have s1 := (hown2.stored (k * 4) (.int .i64 x.pc.off)).1
        have s2 := (s1.stored (k * 4 + 1) (.int .i64 x.pc.len)).1
        have s3 := (s2.stored (k * 4 + 2) (.int .i64 x.pc.brk)).1
        have s4 := (s3.stored (k * 4 + 3) (.int .i64 x.lv)).1
        rw [eS] at s4
        have HS := hide s4
        clear hb2 hown2 s1 s2 s3 s4 eS e0 e1 e2 e3
        unfold itA
        go_wp2
        go_roundw
        case rel => exact ⟨k + 1, by omega, by go_num, HS.out, (((HB2.out.setCell (by simp) _).setCell (by simp) _).setCell (by simp) _).setCell (by simp) _⟩
        case measure => simp [intOf]; omega
      · obtain rfl : k = xs.length := by omega
        rw [List.take_length, Nat.sub_self, List.replicate_zero, List.append_nil] at hown
        have HO2 := hide hown
        have HB := hide hb
        clear hb hown
        go_wp2
        go_ret
        exact ⟨rfl, HO2.out, HB.out⟩

set_option maxHeartbeats 1000000 in
set_option maxRecDepth 100000 in
theorem toTreeL (B : Nat) (xs : List It) (v : Value) (w : World) (h : RdI B w v xs) (hB : B ≤ w.heap.size) (hn : xs.length ≤ 1048576) :
    Calls Tryd.prog 7 #[.agg #[v]] w fun e w' => ∃ g, w.heap.size ≤ g ∧ e = .returned (.agg #[.slice (some ⟨g, 0, none⟩) xs.length xs.length]) ∧
      OwI w' w.heap.size (.slice (some ⟨g, 0, none⟩) xs.length xs.length) xs ∧ Below w.heap.size w w' := by
  obtain ⟨ao, cap, rfl⟩ := h.val
  have HB0 := hide ((((Below.refl w.heap.size w).alloc (Nat.le_refl _) (.cells #[.slice ao xs.length cap] 24)).alloc (by simp) (.cells #[.slice none 0 0] 30)).alloc (by simp; omega) (.cells #[.slice none 0 0] 30))
  have hk1 : (((w.alloc (.cells #[.slice ao xs.length cap] 24)).alloc (.cells #[.slice none 0 0] 30)).alloc (.cells #[.slice none 0 0] 30)).heap[w.heap.size + 1]? = some (.cells #[.slice none 0 0] 30 (0, 0)) := by
    rw [Below.heap_alloc _ _ _ (by simp)]
    have := heap_alloc_new (w.alloc (.cells #[.slice ao xs.length cap] 24)) (.cells #[.slice none 0 0] 30)
    simpa using this
  have hk2 : (((w.alloc (.cells #[.slice ao xs.length cap] 24)).alloc (.cells #[.slice none 0 0] 30)).alloc (.cells #[.slice none 0 0] 30)).heap[w.heap.size + 1 + 1]? = some (.cells #[.slice none 0 0] 30 (0, 0)) := by
    have := heap_alloc_new ((w.alloc (.cells #[.slice ao xs.length cap] 24)).alloc (.cells #[.slice none 0 0] 30)) (.cells #[.slice none 0 0] 30)
    simpa using this
  have hs0 : (((w.alloc (.cells #[.slice ao xs.length cap] 24)).alloc (.cells #[.slice none 0 0] 30)).alloc (.cells #[.slice none 0 0] 30)).heap.size = w.heap.size + 3 := by simp
  have HI := hide (toItemsL B xs _ _ (h.below HB0.out hB) (by omega) hn)
  have HH := hide (And.intro hk1 hk2)
  generalize hN : xs.length = n at *
  clear h hk1 hk2
  go_enter Tryd.func7, Tryd.ntmps7
  go_wp2_with fail
  generalize ((w.alloc (.cells #[.slice ao n cap] 24)).alloc (.cells #[.slice none 0 0] 30)).alloc (.cells #[.slice none 0 0] 30) = w0 at *
  refine HI.out.mono ?_
  rintro e w1 ⟨rfl, ho, hb1⟩
  have HB1 := hide (HB0.out.trans (hb1.mono (by omega)))
  have g1 := (hb1.block (w.heap.size + 1) (by omega)).trans HH.out.1
  have g2 := (hb1.block (w.heap.size + 1 + 1) (by omega)).trans HH.out.2
  have hs1 := hb1.size
  have l0 : w1.cell? ⟨w.heap.size + 1, 0, none⟩ = some (.slice none 0 0) := by rw [cell_of_row w1 _ 0 _ _ _ g1]; rfl
  have m0 : w1.cell? ⟨w.heap.size + 1 + 1, 0, none⟩ = some (.slice none 0 0) := by rw [cell_of_row w1 _ 0 _ _ _ g2]; rfl
  have fl0 := frozen_of_row w1 (w.heap.size + 1) 0 _ _ g1
  have fm0 := frozen_of_row w1 (w.heap.size + 1 + 1) 0 _ _ g2
  have HO := hide ho
  clear ho hb1 HH g1 g2 HB0 HI
  go_wp2
  refine bodyPost_ret (v := .agg #[.slice (some ⟨w0.heap.size, 0, none⟩) n n]) (by simp [results, Tryd.results7, go_sem, l0]) rfl ?_
  refine ⟨w0.heap.size, by omega, rfl, ?_, (HB1.out.setCell (by simp; omega) _).setCell (by simp) _⟩
  refine OwI.base (base := w0.heap.size) ?_ (by omega)
  refine owns_of_block HO.out fun k hk => ?_
  simp only [Value.ownBlock, Option.some.injEq] at hk
  subst hk
  rw [heap_setCell_other _ _ _ _ (by simp; omega), heap_setCell_other _ _ _ _ (by simp; omega)]
end Go.Proofs.YtdbfigahccgnaacDoor
