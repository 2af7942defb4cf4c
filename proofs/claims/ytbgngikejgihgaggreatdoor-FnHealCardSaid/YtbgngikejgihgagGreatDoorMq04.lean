import Derived.Test.YtbgngikejgihgagGreatDoorMq03
import Derived.WalkLawsBesides
import Derived.Test.YtbgngikejgihgagGreatDoorMq01
import Derived.Laws.AppendOwnNone
namespace Go.Proofs.YtbgngikejgihgagGreatDoor
open Go Go.RowKit
set_option linter.unusedVariables false

/-- An item lies at a place. -/
def ItAt (w : World) (b o : Nat) (x : It) : Prop :=
  w.cell? ⟨b, o, none⟩ = some (.int .i64 x.pc.off) ∧ w.cell? ⟨b, o + 1, none⟩ = some (.int .i64 x.pc.len) ∧ w.cell? ⟨b, o + 2, none⟩ = some (.int .i64 x.pc.brk) ∧ w.cell? ⟨b, o + 3, none⟩ = some (.int .i64 x.lv)

/-- A slice value that reads as these items, in a block below B. -/
def RdI (B : Nat) (w : World) (v : Value) (xs : List It) : Prop :=
  (∃ ao cap, v = .slice ao 0 cap ∧ xs = []) ∨
  (∃ b off cap, v = .slice (some ⟨b, off, none⟩) xs.length cap ∧ (0 < xs.length ∧ xs.length ≤ cap ∧ cap ≤ maxLen) ∧ b < B ∧ ∀ i x, xs[i]? = some x → ItAt w b (off + i * 4) x)

theorem RdI.below {B B' : Nat} {w w' : World} {v : Value} {xs : List It} (h : RdI B w v xs) (hb : Below B' w w') (hB : B ≤ B') : RdI B w' v xs := by
  rcases h with h | ⟨b, off, cap, hv, hp, hl, hc⟩
  · exact .inl h
  · refine .inr ⟨b, off, cap, hv, hp, hl, fun i x hx => ?_⟩
    have hk : ∀ o, w'.cell? ⟨b, o, none⟩ = w.cell? ⟨b, o, none⟩ := fun o => hb.cell (p := ⟨b, o, none⟩) (by show b < B'; omega)
    have := hc i x hx
    unfold ItAt at this ⊢
    rw [hk, hk, hk, hk]; exact this
theorem RdI.heap {B : Nat} {w w' : World} {v : Value} {xs : List It} (h : RdI B w v xs) (hb : w'.heap = w.heap) : RdI B w' v xs := by
  rcases h with h | ⟨b, off, cap, hv, hp, hl, hc⟩
  · exact .inl h
  · refine .inr ⟨b, off, cap, hv, hp, hl, fun i x hx => ?_⟩
    have hk : ∀ o, w'.cell? ⟨b, o, none⟩ = w.cell? ⟨b, o, none⟩ := fun o => World.cell?_of_block (w := w) (by rw [hb])
    have := hc i x hx
    unfold ItAt at this ⊢
    rw [hk, hk, hk, hk]; exact this
theorem RdI.mono {B B' : Nat} {w : World} {v : Value} {xs : List It} (h : RdI B w v xs) (hB : B ≤ B') : RdI B' w v xs := by
  rcases h with h | ⟨b, off, cap, hv, hp, hl, hc⟩
  · exact .inl h
  · exact .inr ⟨b, off, cap, hv, hp, by omega, hc⟩
theorem RdI.val {B : Nat} {w : World} {v : Value} {xs : List It} (h : RdI B w v xs) : ∃ ao cap, v = .slice ao xs.length cap := by
  rcases h with ⟨ao, cap, rfl, rfl⟩ | ⟨b, off, cap, rfl, _⟩
  · exact ⟨_, _, rfl⟩
  · exact ⟨_, _, rfl⟩
theorem RdI.at {B : Nat} {w : World} {v : Value} {xs : List It} (h : RdI B w v xs) (h0 : xs ≠ []) : ∃ b off cap, v = .slice (some ⟨b, off, none⟩) xs.length cap ∧ (0 < xs.length ∧ xs.length ≤ cap ∧ cap ≤ maxLen) ∧ b < B ∧ ∀ i x, xs[i]? = some x → ItAt w b (off + i * 4) x := by
  rcases h with ⟨ao, cap, rfl, rfl⟩ | h
  · exact absurd rfl h0
  · exact h
theorem RdI.head {B : Nat} {w : World} {v : Value} {x : It} {xs : List It} (h : RdI B w v (x :: xs)) : ∃ b off cap, v = .slice (some ⟨b, off, none⟩) (xs.length + 1) cap ∧ xs.length + 1 ≤ cap ∧ cap ≤ maxLen ∧ b < B ∧ ItAt w b off x ∧ RdI B w (.slice (some ⟨b, off + 4, none⟩) xs.length (cap - 1)) xs := by
  obtain ⟨b, off, cap, hv, hp, hl, hc⟩ := h.at (by simp)
  simp only [List.length_cons] at hv hp
  refine ⟨b, off, cap, hv, by omega, by omega, hl, by simpa using hc 0 x rfl, ?_⟩
  cases xs with
  | nil => exact .inl ⟨_, _, rfl, rfl⟩
  | cons y ys =>
    refine .inr ⟨b, off + 4, cap - 1, rfl, ⟨by simp, by simp at hp ⊢; omega, by omega⟩, hl, fun i z hz => ?_⟩
    have := hc (i + 1) z (by simpa using hz)
    have e : off + 4 + i * 4 = off + (i + 1) * 4 := by omega
    rw [e]; exact this

/-- The reader holds this slice. -/
def Rdr (w : World) (rb : Nat) (v : Value) : Prop := w.heap[rb]? = some (.cells #[v] 288 (0, 0))
theorem Rdr.c {w : World} {rb : Nat} {v : Value} (h : Rdr w rb v) : w.cell? ⟨rb, 0, none⟩ = some v := by rw [cell_of_row w rb 0 _ _ _ h]; rfl
theorem Rdr.fz {w : World} {rb : Nat} {v : Value} (h : Rdr w rb v) : w.frozen? ⟨rb, 0, none⟩ = false := frozen_of_row w rb 0 _ _ h
theorem Rdr.lt {w : World} {rb : Nat} {v : Value} (h : Rdr w rb v) : rb < w.heap.size := by
  rcases Nat.lt_or_ge rb w.heap.size with h' | h'
  · exact h'
  · unfold Rdr at h; rw [Array.getElem?_eq_none h'] at h; cases h
theorem Rdr.set {w : World} {rb : Nat} {v : Value} (h : Rdr w rb v) (v' : Value) : Rdr (w.setCell ⟨rb, 0, none⟩ v') rb v' := by
  unfold Rdr at h ⊢; rw [heap_setCell_same w rb 0 _ _ _ h]; rfl
theorem Rdr.below {B : Nat} {w w' : World} {rb : Nat} {v : Value} (h : Rdr w rb v) (hb : Below B w w') (hB : rb < B) : Rdr w' rb v := (hb.block rb hB).trans h

set_option maxHeartbeats 1000000 in
set_option maxRecDepth 100000 in
theorem takeN_bad (B rb : Nat) (v : Value) (xs : List It) (lv : Int) (w : World) (hr : RdI B w v xs) (hv : Rdr w rb v) (hB : B ≤ rb) (hno : ∀ x xt, xs = x :: xt → x.lv ≠ lv) (hlen : xs.length ≤ 8192) :
    Calls Tryz.prog 209 #[.pointer (some ⟨rb, 0, none⟩), .int .i64 lv] w fun e w' => e = .returned (.tuple #[.agg #[.int .i64 0, .int .i64 0, .int .i64 0], .iface 181 (.int .i64 1)]) ∧ Below w.heap.size w w' := by
  have c := hv.c
  have hlt := hv.lt
  cases xs with
  | nil =>
    obtain ⟨ao, cap, rfl⟩ := hr.val
    simp only [List.length_nil] at c
    clear hr hv hno
    go_enter Tryz.func209, Tryz.ntmps209
    go_wp2
    refine bodyPost_ret (v := .tuple #[.agg #[.int .i64 0, .int .i64 0, .int .i64 0], .iface 181 (.int .i64 1)]) (by simp [results, Tryz.results209, go_sem]) rfl ⟨rfl, ?_⟩
    exact (Below.refl _ _).alloc (Nat.le_refl _) _
  | cons x xt =>
    obtain ⟨b, off, cap, rfl, hcap, hm, hb, ⟨a0, a1, a2, a3⟩, _⟩ := hr.head
    have hne := hno x xt rfl
    have hltb : b < w.heap.size := World.block_lt_of_cell? w _ a0
    have hne' : (x.lv != lv) = true := by simpa using hne
    unfold maxLen at hm
    clear hr hv hno
    go_enter Tryz.func209, Tryz.ntmps209
    go_wp2
    refine bodyPost_ret (v := .tuple #[.agg #[.int .i64 0, .int .i64 0, .int .i64 0], .iface 181 (.int .i64 1)]) (by simp [results, Tryz.results209, go_sem]) rfl ⟨rfl, ?_⟩
    exact (Below.refl _ _).alloc (Nat.le_refl _) _

theorem Chg.alloc {bs : List Nat} {a b : World} (h : Chg bs a b) (o : Obj) : Chg bs a (b.alloc o) :=
  h.trans (.of_below ((Below.refl _ _).alloc (Nat.le_refl _) o)) (fun _ h _ => h) (fun _ h _ => h) (cs := bs)
theorem Rdr.chg {bs : List Nat} {w w' : World} {rb : Nat} {v : Value} (h : Rdr w rb v) (hc : Chg bs w w') (hn : rb ∉ bs) : Rdr w' rb v := (hc.block rb h.lt hn).trans h
theorem Rdr.alloc {w : World} {rb : Nat} {v : Value} (h : Rdr w rb v) (o : Obj) : Rdr (w.alloc o) rb v := h.chg (bs := []) (.of_below ((Below.refl _ _).alloc (Nat.le_refl _) o)) (by simp)

set_option maxHeartbeats 1000000 in
set_option maxRecDepth 100000 in
theorem takeN_ok (B rb : Nat) (v : Value) (x : It) (xs : List It) (w : World) (hr : RdI B w v (x :: xs)) (hv : Rdr w rb v) (hB : B ≤ rb) (hlen : xs.length ≤ 8192) :
    Calls Tryz.prog 209 #[.pointer (some ⟨rb, 0, none⟩), .int .i64 x.lv] w fun e w' => e = .returned (.tuple #[pcV x.pc, .nilIface]) ∧ ∃ v', RdI B w' v' xs ∧ Rdr w' rb v' ∧ Chg [rb] w w' := by
  have c := hv.c
  have f := hv.fz
  have hlt := hv.lt
  obtain ⟨b, off, cap, rfl, hcap, hm, hb, ⟨a0, a1, a2, a3⟩, hT⟩ := hr.head
  have hltb : b < w.heap.size := World.block_lt_of_cell? w _ a0
  have hne' : (x.lv != x.lv) = false := by simp
  have hnb : ¬ b = rb := by omega
  unfold maxLen at hm
  have HT := hide hT
  have HV := hide hv
  clear hr hv hT
  by_cases hc1 : cap = 1
  · subst hc1
    obtain rfl : xs = [] := by apply List.eq_nil_of_length_eq_zero; omega
    simp only [List.length_nil] at c
    go_enter Tryz.func209, Tryz.ntmps209
    go_wp2
    have HC := hide ((((Chg.refl [rb] w).setCell ⟨rb, 0, none⟩ (.slice (some ⟨b, off, none⟩) 0 0) (.inl (by simp))).alloc (.cells #[.int .i64 x.pc.off, .int .i64 x.pc.len, .int .i64 x.pc.brk] 143)).alloc (.cells #[.int .i64 x.pc.off, .int .i64 x.pc.len, .int .i64 x.pc.brk] 143))
    refine bodyPost_ret (v := .tuple #[pcV x.pc, .nilIface]) (by simp [results, Tryz.results209, go_sem]; rfl) rfl ⟨rfl, .slice (some ⟨b, off, none⟩) 0 0, .inl ⟨_, _, rfl, rfl⟩, ((HV.out.set _).alloc _).alloc _, HC.out⟩
  · go_enter Tryz.func209, Tryz.ntmps209
    go_wp2
    have HC := hide ((((Chg.refl [rb] w).setCell ⟨rb, 0, none⟩ (.slice (some ⟨b, off + 4, none⟩) xs.length (cap - 1)) (.inl (by simp))).alloc (.cells #[.int .i64 x.pc.off, .int .i64 x.pc.len, .int .i64 x.pc.brk] 143)).alloc (.cells #[.int .i64 x.pc.off, .int .i64 x.pc.len, .int .i64 x.pc.brk] 143))
    refine bodyPost_ret (v := .tuple #[pcV x.pc, .nilIface]) (by simp [results, Tryz.results209, go_sem]; rfl) rfl ⟨rfl, .slice (some ⟨b, off + 4, none⟩) xs.length (cap - 1), HT.out.below (B' := B) (HC.out.below (by omega) (by simp; omega)) (Nat.le_refl _), ((HV.out.set _).alloc _).alloc _, HC.out⟩
end Go.Proofs.YtbgngikejgihgagGreatDoor

namespace Go.Proofs.YtbgngikejgihgagGreatDoor
open Go Go.RowKit
set_option linter.unusedVariables false

def itV (x : It) : List Value := [.int .i64 x.pc.off, .int .i64 x.pc.len, .int .i64 x.pc.brk, .int .i64 x.lv]
def itVs (xs : List It) : List Value := xs.flatMap itV
theorem itVs_length (xs : List It) : (itVs xs).length = xs.length * 4 := by
  induction xs with
  | nil => rfl
  | cons x xs ih => simp only [itVs, List.flatMap_cons, List.length_append] at ih ⊢; rw [ih]; simp [itV]; omega
theorem itVs_append (a b : List It) : itVs (a ++ b) = itVs a ++ itVs b := by simp [itVs]
theorem itVs_get (xs : List It) (i k : Nat) (x : It) (h : xs[i]? = some x) (hk : k < 4) : (itVs xs)[i * 4 + k]? = (itV x)[k]? := by
  induction xs generalizing i with
  | nil => simp at h
  | cons y ys ih =>
    cases i with
    | zero =>
      simp at h; subst h
      simp only [itVs, List.flatMap_cons, Nat.zero_mul, Nat.zero_add]
      rw [List.getElem?_append_left (by simp [itV]; omega)]
    | succ i =>
      simp only [List.getElem?_cons_succ] at h
      have := ih i h
      simp only [itVs, List.flatMap_cons] at this ⊢
      rw [List.getElem?_append_right (by simp [itV]; omega)]
      rw [← this]
      congr 1
      simp [itV]; omega

theorem itVs_set (a : List It) (y x : It) (b : List It) : ((((itVs (a ++ y :: b)).set (a.length * 4) (.int .i64 x.pc.off)).set (a.length * 4 + 1) (.int .i64 x.pc.len)).set (a.length * 4 + 2) (.int .i64 x.pc.brk)).set (a.length * 4 + 3) (.int .i64 x.lv) = itVs (a ++ x :: b) := by
  have e : ∀ z : It, itVs (a ++ z :: b) = itVs a ++ ([.int .i64 z.pc.off, .int .i64 z.pc.len, .int .i64 z.pc.brk, .int .i64 z.lv] ++ itVs b) := fun z => by simp [itVs, itV]
  have hl := itVs_length a
  rw [e, e]
  rw [List.set_append_right _ _ (by omega), List.set_append_right _ _ (by omega), List.set_append_right _ _ (by omega), List.set_append_right _ _ (by omega), hl]
  rw [Nat.sub_self, show a.length * 4 + 1 - a.length * 4 = 1 by omega, show a.length * 4 + 2 - a.length * 4 = 2 by omega, show a.length * 4 + 3 - a.length * 4 = 3 by omega]
  rfl

/-- The call's own items. -/
def OwI (w : World) (base : Nat) (v : Value) (xs : List It) : Prop := w.ownsRow base 145 4 v xs.length (itVs xs)

theorem OwI.rd {w : World} {base : Nat} {v : Value} {xs : List It} (h : OwI w base v xs) : RdI w.heap.size w v xs := by
  unfold OwI at h
  have hlt := h.lt
  rcases h.2 with ⟨hv, hn⟩ | ⟨g, cap, cur, hv, hrest⟩
  · left; exact ⟨none, 0, by rw [hv], by apply List.eq_nil_of_length_eq_zero; omega⟩
  · obtain ⟨hb, hg, hcap, hcm, hsz, htk⟩ := hrest
    subst hv
    have hgl := (hlt g rfl).2
    by_cases h0 : xs.length = 0
    · left; rw [h0]; exact ⟨_, _, rfl, by apply List.eq_nil_of_length_eq_zero; exact h0⟩
    · right
      refine ⟨g, 0, cap, rfl, ⟨by omega, hcap, hcm⟩, hgl, fun i x hx => ?_⟩
      have hil : i < xs.length := by
        rcases Nat.lt_or_ge i xs.length with q | q
        · exact q
        · rw [List.getElem?_eq_none q] at hx; cases hx
      have key : ∀ k, k < 4 → w.cell? ⟨g, i * 4 + k, none⟩ = (itV x)[k]? := fun k hk => by
        rw [cell_of_row w g _ _ _ _ hg, ← itVs_get xs i k x hx hk, ← htk, List.getElem?_take, if_pos (by omega)]
        simp
      have k0 := key 0 (by omega)
      have k1 := key 1 (by omega)
      have k2 := key 2 (by omega)
      have k3 := key 3 (by omega)
      simp only [Nat.zero_add]
      exact ⟨k0, k1, k2, k3⟩
theorem OwI.below {w w' : World} {base B : Nat} {v : Value} {xs : List It} (h : OwI w base v xs) (hb : Below B w w') (hB : w.heap.size ≤ B) : OwI w' base v xs := owns_below h hb hB
theorem OwI.base {w : World} {base base' : Nat} {v : Value} {xs : List It} (h : OwI w base v xs) (hb : base' ≤ base) : OwI w base' v xs := owns_base h hb

def itA (x : It) : Value := .agg #[.int .i64 x.pc.off, .int .i64 x.pc.len, .int .i64 x.pc.brk, .int .i64 x.lv]

theorem itAt_of' {w : World} {b off : Nat} {xs : List It} (h : ∀ i x, xs[i]? = some x → ItAt w b (off + i * 4) x) {j : Nat} (hj : j < xs.length) : ∃ x, xs[j]? = some x ∧ ItAt w b (off + j * 4) x :=
  ⟨xs[j], by simp [hj], h j _ (by simp [hj])⟩
theorem own_cell4 {w : World} {base g cap n : Nat} {xs : List Value} (h : w.ownsRow base 145 4 (.slice (some ⟨g, 0, none⟩) n cap) n xs) (j : Nat) (hj : j < n * 4) : ∃ v, w.cell? ⟨g, j, none⟩ = some v := by
  have h1 := h.cellAt j hj
  have hl := h.1
  refine ⟨xs[j]'(by omega), ?_⟩
  rw [h1, List.getElem?_eq_getElem (by omega)]

theorem Tryz.infoIT : (Tryz.prog.info? 145).map (fun i => (i.zero, i.size, i.bytes)) = some (some (.agg #[.int .i64 0, .int .i64 0, .int .i64 0, .int .i64 0]), 4, 32) := by kernel_rfl
def zIt : It := ⟨⟨0, 0, 0⟩, 0⟩
theorem made_its (n : Nat) : (madeCells (Value.agg #[.int .i64 0, .int .i64 0, .int .i64 0, .int .i64 0]).cells (n * 4)).toList = itVs (List.replicate n zIt) := by
  have h1 : itVs (List.replicate n zIt) = List.replicate (n * 4) (.int .i64 0) := by
    rw [List.eq_replicate_iff]
    refine ⟨by rw [itVs_length]; simp, fun v hv => ?_⟩
    simp only [itVs, List.mem_flatMap, List.mem_replicate] at hv
    obtain ⟨x, ⟨_, rfl⟩, hv⟩ := hv
    simpa [itV, zIt] using hv
  rw [h1, List.eq_replicate_iff]
  refine ⟨by simp [size_madeCells], fun v hv => ?_⟩
  simp only [madeCells, Array.toList_map, List.mem_map] at hv
  obtain ⟨i, _, rfl⟩ := hv
  have e : (Value.agg #[.int .i64 0, .int .i64 0, .int .i64 0, .int .i64 0]).cells = #[Value.int .i64 0, .int .i64 0, .int .i64 0, .int .i64 0] := rfl
  rw [e]
  have h4 : i % 4 = 0 ∨ i % 4 = 1 ∨ i % 4 = 2 ∨ i % 4 = 3 := by omega
  show (#[Value.int .i64 0, .int .i64 0, .int .i64 0, .int .i64 0])[i % 4]! = _
  rcases h4 with h | h | h | h <;> rw [h] <;> rfl

theorem set_its (xs : List It) (k : Nat) (x : It) (h : xs[k]? = some x) : ((((itVs (xs.take k ++ List.replicate (xs.length - k) zIt)).set (k * 4) (.int .i64 x.pc.off)).set (k * 4 + 1) (.int .i64 x.pc.len)).set (k * 4 + 2) (.int .i64 x.pc.brk)).set (k * 4 + 3) (.int .i64 x.lv) = itVs (xs.take (k + 1) ++ List.replicate (xs.length - (k + 1)) zIt) := by
  have hk : k < xs.length := by
    rcases Nat.lt_or_ge k xs.length with q | q
    · exact q
    · rw [List.getElem?_eq_none q] at h; cases h
  have hl : (xs.take k).length = k := by rw [List.length_take]; omega
  obtain ⟨m, hm⟩ : ∃ m, xs.length - k = m + 1 := ⟨xs.length - k - 1, by omega⟩
  have e := itVs_set (xs.take k) zIt x (List.replicate m zIt)
  rw [hl] at e
  rw [hm, List.replicate_succ, e, List.take_add_one, h, show xs.length - (k + 1) = m by omega]
  simp

end Go.Proofs.YtbgngikejgihgagGreatDoor

namespace Go.Proofs.YtbgngikejgihgagGreatDoor
open Go Go.RowKit
set_option linter.unusedVariables false

theorem Chg.of_grown {w w' : World} {p : Nat} (h : w.grownBy w' (some p)) : Chg [p] w w' :=
  ⟨h.os, h.tape, h.output, h.size, fun k hk hn => h.block k hk (fun e => hn (by cases e; simp))⟩

/-- A source whose bytes lie below it. -/
def SrcB (bs : List Int) (vb : Value) (p : Nat) (w : World) : Prop := Src bs vb p w ∧ ∀ b off cap, vb = .slice (some ⟨b, off, none⟩) bs.length cap → 0 < bs.length → b < p
theorem SrcB.chg {bs : List Int} {vb : Value} {p : Nat} {w w' : World} {cs : List Nat} (h : SrcB bs vb p w) (hc : Chg cs w w') (hn : ∀ x ∈ cs, p < x) : SrcB bs vb p w' := by
  refine ⟨?_, h.2⟩
  have hlt := h.1.lt
  have hb := h.2
  obtain ⟨⟨i, x, h5, h6, h7, h8⟩, h1, h2, h3⟩ := h.1
  refine ⟨⟨i, x, h5, h6, h7, (hc.block p hlt (fun hm => by have := hn p hm; omega)).trans h8⟩, h1, h2, ?_⟩
  rcases h3 with h3 | ⟨b, off, cap, hv, hne, hl, hcc⟩
  · exact .inl h3
  · refine .inr ⟨b, off, cap, hv, hne, hl, fun i hi => ?_⟩
    have h4 := hcc i hi
    have hbl := World.block_lt_of_cell? w _ h4
    have hbp := hb b off cap hv hl.1
    rw [World.cell?_of_block (w := w) (hc.block b hbl (fun hm => by have := hn b hm; omega))]
    exact h4
theorem SrcB.below {bs : List Int} {vb : Value} {p B : Nat} {w w' : World} (h : SrcB bs vb p w) (hb : Below B w w') (hp : p < B) (hB : B ≤ w.heap.size) : SrcB bs vb p w' := by
  refine ⟨?_, h.2⟩
  obtain ⟨⟨i, x, h5, h6, h7, h8⟩, h1, h2, h3⟩ := h.1
  refine ⟨⟨i, x, h5, h6, h7, (hb.block p hp).trans h8⟩, h1, h2, ?_⟩
  rcases h3 with h3 | ⟨b, off, cap, hv, hne, hl, hcc⟩
  · exact .inl h3
  · refine .inr ⟨b, off, cap, hv, hne, hl, fun i hi => ?_⟩
    have hbp := h.2 b off cap hv hl.1
    rw [hb.cell (p := ⟨b, off + i, none⟩) (by show b < B; omega)]
    exact hcc i hi
theorem SrcB.heap {bs : List Int} {vb : Value} {p : Nat} {w w' : World} (h : SrcB bs vb p w) (e : w'.heap = w.heap) : SrcB bs vb p w' := by
  refine ⟨?_, h.2⟩
  obtain ⟨⟨i, x, h5, h6, h7, h8⟩, h1, h2, h3⟩ := h.1
  refine ⟨⟨i, x, h5, h6, h7, by rw [e]; exact h8⟩, h1, h2, ?_⟩
  rcases h3 with h3 | ⟨b, off, cap, hv, hne, hl, hcc⟩
  · exact .inl h3
  · refine .inr ⟨b, off, cap, hv, hne, hl, fun i hi => ?_⟩
    rw [World.cell?_of_block (w := w) (by rw [e])]
    exact hcc i hi

theorem drawNB (bs : List Int) (vb : Value) (p : Nat) (k : Int) (w : World) (hS : SrcB bs vb p w) (hk0 : 0 < k) (hk1 : k ≤ 1048576) :
    Calls Tryz.prog 66 #[.pointer (some ⟨p, 0, none⟩), .int .i64 k] w fun e w' => ∃ r : Int, e = .returned (.int .i64 r) ∧ (0 ≤ r ∧ r < k) ∧ SrcB bs vb p w' ∧ Chg [p] w w' :=
  (drawN bs vb p k w hS.1 hk0 hk1).mono fun e w' ⟨r, h1, h2, h3, h4⟩ => ⟨r, h1, h2, ⟨h3, hS.2⟩, Chg.of_grown h4⟩
theorem drawOneB (bs : List Int) (vb : Value) (p : Nat) (k : Int) (w : World) (hS : SrcB bs vb p w) (hk0 : 0 < k) (hk1 : k ≤ 1048576) :
    Calls Tryz.prog 84 #[.pointer (some ⟨p, 0, none⟩), .int .i64 k] w fun e w' => ∃ b : Bool, e = .returned (.bool b) ∧ SrcB bs vb p w' ∧ Chg [p] w w' :=
  (drawOne bs vb p k w hS.1 hk0 hk1).mono fun e w' ⟨r, h1, h3, h4⟩ => ⟨r, h1, ⟨h3, hS.2⟩, Chg.of_grown h4⟩

set_option maxHeartbeats 1000000 in
theorem tallN (n : Nat) (ao : Option Addr) (cap : Nat) (w : World) (hn : n ≤ 1048576) :
    Calls Tryz.prog 87 #[.slice ao n cap] w fun e w' => ∃ r : Int, e = .returned (.int .i64 r) ∧ (0 ≤ r ∧ r ≤ 7) ∧ w' = w := by
  go_enter Tryz.func87, Tryz.ntmps87
  go_wp2_with fail
  go_loopw [3, 4] (fun h m wr => ∃ (a : Int) (q : Nat), h = .int .i64 a ∧ m = .int .i64 q ∧ (2 ≤ a ∧ a + q ≤ 1048578) ∧ wr = w) (fun _ m _ => (intOf m).toNat)
  case atStart => exact ⟨2, n, rfl, rfl, by omega, rfl⟩
  case round =>
    obtain ⟨a, q, rfl, rfl, hb, rfl⟩ := hrel
    by_cases hq : (q : Int) > 2
    · go_wp2
      go_roundw
      case rel => exact ⟨a + 1, q / 2, rfl, by first | rfl | go_num | (simp; omega), by omega, by first | rfl | trivial⟩
      case measure => simp [intOf]; omega
    · by_cases ha : a > 7
      · go_wp2
        go_ret
        exact ⟨_, rfl, by omega, rfl⟩
      · go_wp2
        go_ret
        exact ⟨_, rfl, by omega, rfl⟩

set_option maxHeartbeats 400000 in
theorem size1 (n : Nat) (ao : Option Addr) (cap : Nat) (m : Int) (w : World) (hn : n ≤ 1048576) (hm : 2 ≤ m ∧ m ≤ 1048576) :
    Calls Tryz.prog 86 #[.slice ao n cap, .int .i64 m] w fun e w' => ∃ r : Int, e = .returned (.int .i64 r) ∧ (0 < r ∧ r ≤ m) ∧ w' = w := by
  go_enter Tryz.func86, Tryz.ntmps86
  go_wp2
  · go_ret
    exact ⟨_, rfl, ⟨by omega, by omega⟩, rfl⟩
  · go_ret
    exact ⟨_, rfl, ⟨by omega, by omega⟩, rfl⟩
end Go.Proofs.YtbgngikejgihgagGreatDoor

namespace Go.Proofs.YtbgngikejgihgagGreatDoor
open Go Go.RowKit
set_option linter.unusedVariables false

/-- The levels of a drawn tree. -/
inductive Lv : Nat → Int → List Int → Prop
  | nil (l : Int) : Lv 0 l []
  | node (h a b : Nat) (l : Int) (A B : List Int) (ha : a ≤ h) (hb : b ≤ h) (h1 : a = h ∨ b = h) (h2 : h ≤ a + 1) (h3 : h ≤ b + 1) (hA : Lv a (l + 1) A) (hB : Lv b (l + 1) B) : Lv (h + 1) l (A ++ l :: B)

theorem Lv.length {h : Nat} {l : Int} {ls : List Int} (k : Lv h l ls) : ls.length + 1 ≤ 2 ^ h := by
  induction k with
  | nil => simp
  | node h a b l A B ha hb h1 h2 h3 _ _ iA iB =>
    have e1 : 2 ^ a ≤ 2 ^ h := Nat.pow_le_pow_right (by omega) ha
    have e2 : 2 ^ b ≤ 2 ^ h := Nat.pow_le_pow_right (by omega) hb
    rw [Nat.pow_succ]
    simp only [List.length_append, List.length_cons]
    omega

theorem len7 {h : Nat} {l : Int} {ls : List Int} (k : Lv h l ls) (hh : h ≤ 7) : ls.length ≤ 127 := by
  have h1 := k.length
  have h2 : 2 ^ h ≤ 2 ^ 7 := Nat.pow_le_pow_right (by omega) hh
  omega

theorem Lv.tree {h : Nat} {l : Int} {ls : List Int} (k : Lv h l ls) : ∀ qs : List Pc, qs.length = ls.length → ∃ T : AT, T.bal ∧ T.ht = h ∧ T.flat = qs ∧ T.told l = (qs.zip ls).map (fun x => ⟨x.1, x.2⟩) := by
  induction k with
  | nil =>
    intro qs hq
    obtain rfl : qs = [] := List.eq_nil_of_length_eq_zero hq
    exact ⟨.nil, trivial, rfl, rfl, rfl⟩
  | node h a b l A B ha hb h1 h2 h3 _ _ iA iB =>
    intro qs hq
    simp only [List.length_append, List.length_cons] at hq
    obtain ⟨q, hq2⟩ : ∃ q, qs = qs.take A.length ++ q :: qs.drop (A.length + 1) := by
      refine ⟨qs[A.length]'(by omega), ?_⟩
      rw [← List.drop_eq_getElem_cons (by omega), List.take_append_drop]
    obtain ⟨TA, bA, tA, fA, oA⟩ := iA (qs.take A.length) (by simp; omega)
    obtain ⟨TB, bB, tB, fB, oB⟩ := iB (qs.drop (A.length + 1)) (by simp; omega)
    refine ⟨.node TA q TB, ⟨bA, bB, by omega, by omega⟩, by simp only [AT.ht]; omega, by simp only [AT.flat, fA, fB]; exact hq2.symm, ?_⟩
    simp only [AT.told, oA, oB]
    conv => rhs; rw [hq2]
    rw [List.zip_append (by simp; omega)]
    simp

theorem Tryz.infoI : (Tryz.prog.info? 3).map (fun i => (i.zero, i.size, i.bytes)) = some (some (.int .i64 0), 1, 8) := by kernel_rfl

theorem Below.grown {B : Nat} {w w' : World} {row : Option Nat} (hg : w.grownBy w' row) (hr : ∀ q, row = some q → B ≤ q) (hB : B ≤ w.heap.size) : Below B w w' :=
  ⟨hg.os, hg.tape, hg.output, hg.size, fun k hk => hg.block k (by omega) (fun e => by have := hr k e.symm; omega)⟩
theorem own_row {w : World} {base : Nat} {e : TypeId} {size : Nat} {v : Value} {n : Nat} {xs : List Value} (h : w.ownsRow base e size v n xs) : ∀ q, v.ownBlock = some q → base ≤ q := fun q hq => (h.lt q hq).1

theorem Chg.belowR {bs : List Nat} {a b c : World} (h : Chg bs a b) (k : Below a.heap.size b c) : Chg bs a c :=
  ⟨k.os.trans h.os, k.tape.trans h.tape, k.output.trans h.output, Nat.le_trans h.size k.size, fun i hi hn => (k.block i hi).trans (h.block i hi hn)⟩
theorem owns_chg {w w' : World} {base p : Nat} {e : TypeId} {size : Nat} {v : Value} {n : Nat} {xs : List Value} (h : w.ownsRow base e size v n xs) (hc : Chg [p] w w') (hp : p < base) : w'.ownsRow base e size v n xs :=
  owns_of_block h fun k hk => hc.block k (h.lt k hk).2 (by have := (h.lt k hk).1; simp; omega)
theorem owns_cells {w : World} {base : Nat} {e : TypeId} {g cap n : Nat} {xs : List Value} (h : w.ownsRow base e 1 (.slice (some ⟨g, 0, none⟩) n cap) n xs) : ∀ j u, xs[j]? = some u → w.cell? ((⟨g, 0, none⟩ : Addr).add j) = some u := by
  intro j u hj
  have hl := h.1
  have h1 := h.cellAt j (by have := (List.getElem?_eq_some_iff.1 hj).1; omega)
  rw [Addr.add_lit, Nat.zero_add, h1, hj]

set_option maxHeartbeats 4000000 in
set_option maxRecDepth 100000 in
theorem levelsN (bs : List Int) (vb : Value) (p : Nat) : ∀ (m : Nat) (h level lean : Int) (w : World), h.toNat = m → (h ≤ 7 ∧ -1 ≤ h) → (0 ≤ level ∧ level + h ≤ 1000) → (0 ≤ lean ∧ lean ≤ 100) → SrcB bs vb p w →
    Calls Tryz.prog 142 #[.pointer (some ⟨p, 0, none⟩), .int .i64 h, .int .i64 level, .int .i64 lean] w fun e w' => ∃ v ls, e = .returned v ∧ Lv m level ls ∧ w'.ownsRow w.heap.size 3 1 v ls.length (ints .i64 ls) ∧ SrcB bs vb p w' ∧ Chg [p] w w' := by
  intro m
  induction m using Nat.strongRecOn with
  | ind m ih =>
  intro h level lean w hm hh hlv hln hS
  have hlt := hS.1.lt
  obtain ⟨i0, hi, hz0, hz1, hz2⟩ := info_parts Tryz.infoI
  have HS := hide hS
  have IH := hide ih
  clear hS ih
  by_cases h0 : h ≤ 0
  · go_enter Tryz.func142, Tryz.ntmps142
    go_wp2
    go_ret
    obtain rfl : m = 0 := by omega
    exact ⟨_, [], rfl, .nil _, World.ownsRow_nil w _ _ _, HS.out, Chg.refl _ _⟩
  · go_enter Tryz.func142, Tryz.ntmps142
    go_wp2_with fail
    refine (drawNB bs vb p 4 w HS.out (by omega) (by omega)).mono ?_
    rintro e w1 ⟨r, rfl, hr, hs1, hc1⟩
    have H1 := hide hs1
    have C1 := hide hc1
    clear hs1 hc1 HS
    by_cases hrl : r < lean
    · go_wp2_with fail
      refine (drawOneB bs vb p 2 w1 H1.out (by omega) (by omega)).mono ?_
      rintro e w2 ⟨b1, rfl, hs2, hc2⟩
      have H2 := hide hs2
      have C2 := hide (C1.out.trans hc2 (fun _ h _ => h) (fun _ h _ => h))
      clear hs2 hc2 H1 C1
      cases b1
      · go_wp2_with fail
        refine (IH.out (h - 1).toNat (by omega) (h - 1) _ _ w2 rfl (by omega) (by omega) (by omega) H2.out).mono ?_
        rintro e w3 ⟨v3, A, rfl, hA, ho3, hs3, hc3⟩
        have hA7 := len7 hA (by omega)
        have z2 := C2.out.size
        have z3 := hc3.size
        have O3 := hide (owns_base ho3 z2)
        have H3 := hide hs3
        have C3 := hide (C2.out.trans hc3 (fun _ h _ => h) (fun _ h _ => h))
        have LA := hide hA
        clear hA ho3 hs3 hc3 H2 C2
        go_wp2_with (at_builtin; refine wpList_append_own _ rfl _ _ 23 rfl w.heap.size 3 i0 (.int .i64 0) 1 8 Tryz.underlying23 hi hz0 hz1 hz2 rfl (by decide) _ _ _ rfl (O3.out.alloc _) ⟨w3.heap.size, 0, none⟩ 1 1 [.int .i64 level] rfl rfl (newcells w3 3 [.int .i64 level]) (ints_one .i64 [level]) (by unfold maxLen; omega) (by omega) (by simp; omega) ?_; intro v4 w4 ho4 hg4 _)
        have B4 : Below w.heap.size w3 w4 := ((Below.refl w.heap.size w3).alloc (by omega) _).trans (Below.grown hg4 (own_row O3.out) (by simp; omega))
        have z4 := B4.size
        have H4 := hide (H3.out.below B4 hlt (by omega))
        have C4 := hide (C3.out.belowR B4)
        have O4 := hide ho4
        clear ho4 hg4 B4 H3 C3 O3
        refine (IH.out (h - 1 - 1).toNat (by omega) (h - 1 - 1) _ _ w4 rfl (by omega) (by omega) (by omega) H4.out).mono ?_
        rintro e w5 ⟨v5, B, rfl, hB, ho5, hs5, hc5⟩
        have hB7 := len7 hB (by omega)
        have z5 := hc5.size
        have O5 := hide (owns_chg O4.out hc5 hlt)
        have H5 := hide hs5
        have C5 := hide (C4.out.trans hc5 (fun _ h _ => h) (fun _ h _ => h))
        have LB := hide hB
        have P5 := hide ho5
        clear hB hs5 hc5 O4 C4 H4
        have LL : Hid (Lv m level (A ++ level :: B)) := hide (by
          obtain ⟨m', rfl⟩ : ∃ m', m = m' + 1 := ⟨m - 1, by omega⟩
          exact .node m' _ _ level A B (by omega) (by omega) (by omega) (by omega) (by omega) LA.out LB.out)
        rcases ho5.2 with ⟨rfl, hb0⟩ | ⟨g, cap, cur, rfl, _⟩
        · clear ho5
          go_wp2_with (at_builtin; refine wpList_append_own_none rfl _ _ 23 rfl w.heap.size 3 i0 1 Tryz.underlying23 hi _ _ _ rfl (by exact O5.out) rfl ?_)
          go_ret
          obtain rfl : B = [] := List.eq_nil_of_length_eq_zero hb0
          refine ⟨_, _, rfl, LL.out, ?_, H5.out, C5.out⟩
          have h9 := O5.out
          simpa [ints] using h9
        · clear ho5
          go_wp2_with (at_builtin; refine wpList_append_own _ rfl _ _ 23 rfl w.heap.size 3 i0 (.int .i64 0) 1 8 Tryz.underlying23 hi hz0 hz1 hz2 rfl (by decide) _ _ _ rfl (by exact O5.out) ⟨g, 0, none⟩ B.length cap (ints .i64 B) rfl (by rw [ints_length]; omega) (by exact owns_cells P5.out) (ints_one .i64 B) (by unfold maxLen; omega) (by omega) (by omega) ?_; intro v6 w6 ho6 hg6 _)
          go_ret
          have B6 : Below w.heap.size w5 w6 := Below.grown hg6 (own_row O5.out) (by omega)
          refine ⟨_, _, rfl, LL.out, ?_, H5.out.below B6 hlt (by omega), C5.out.belowR B6⟩
          have e9 : (A ++ level :: B).length = A.length + 1 + B.length := by simp; omega
          rw [e9]
          simpa [ints] using ho6
      · go_wp2_with fail
        refine (IH.out (h - 1 - 1).toNat (by omega) (h - 1 - 1) _ _ w2 rfl (by omega) (by omega) (by omega) H2.out).mono ?_
        rintro e w3 ⟨v3, A, rfl, hA, ho3, hs3, hc3⟩
        have hA7 := len7 hA (by omega)
        have z2 := C2.out.size
        have z3 := hc3.size
        have O3 := hide (owns_base ho3 z2)
        have H3 := hide hs3
        have C3 := hide (C2.out.trans hc3 (fun _ h _ => h) (fun _ h _ => h))
        have LA := hide hA
        clear hA ho3 hs3 hc3 H2 C2
        go_wp2_with (at_builtin; refine wpList_append_own _ rfl _ _ 23 rfl w.heap.size 3 i0 (.int .i64 0) 1 8 Tryz.underlying23 hi hz0 hz1 hz2 rfl (by decide) _ _ _ rfl (O3.out.alloc _) ⟨w3.heap.size, 0, none⟩ 1 1 [.int .i64 level] rfl rfl (newcells w3 3 [.int .i64 level]) (ints_one .i64 [level]) (by unfold maxLen; omega) (by omega) (by simp; omega) ?_; intro v4 w4 ho4 hg4 _)
        have B4 : Below w.heap.size w3 w4 := ((Below.refl w.heap.size w3).alloc (by omega) _).trans (Below.grown hg4 (own_row O3.out) (by simp; omega))
        have z4 := B4.size
        have H4 := hide (H3.out.below B4 hlt (by omega))
        have C4 := hide (C3.out.belowR B4)
        have O4 := hide ho4
        clear ho4 hg4 B4 H3 C3 O3
        refine (IH.out (h - 1).toNat (by omega) (h - 1) _ _ w4 rfl (by omega) (by omega) (by omega) H4.out).mono ?_
        rintro e w5 ⟨v5, B, rfl, hB, ho5, hs5, hc5⟩
        have hB7 := len7 hB (by omega)
        have z5 := hc5.size
        have O5 := hide (owns_chg O4.out hc5 hlt)
        have H5 := hide hs5
        have C5 := hide (C4.out.trans hc5 (fun _ h _ => h) (fun _ h _ => h))
        have LB := hide hB
        have P5 := hide ho5
        clear hB hs5 hc5 O4 C4 H4
        have LL : Hid (Lv m level (A ++ level :: B)) := hide (by
          obtain ⟨m', rfl⟩ : ∃ m', m = m' + 1 := ⟨m - 1, by omega⟩
          exact .node m' _ _ level A B (by omega) (by omega) (by omega) (by omega) (by omega) LA.out LB.out)
        rcases ho5.2 with ⟨rfl, hb0⟩ | ⟨g, cap, cur, rfl, _⟩
        · clear ho5
          go_wp2_with (at_builtin; refine wpList_append_own_none rfl _ _ 23 rfl w.heap.size 3 i0 1 Tryz.underlying23 hi _ _ _ rfl (by exact O5.out) rfl ?_)
          go_ret
          obtain rfl : B = [] := List.eq_nil_of_length_eq_zero hb0
          refine ⟨_, _, rfl, LL.out, ?_, H5.out, C5.out⟩
          have h9 := O5.out
          simpa [ints] using h9
        · clear ho5
          go_wp2_with (at_builtin; refine wpList_append_own _ rfl _ _ 23 rfl w.heap.size 3 i0 (.int .i64 0) 1 8 Tryz.underlying23 hi hz0 hz1 hz2 rfl (by decide) _ _ _ rfl (by exact O5.out) ⟨g, 0, none⟩ B.length cap (ints .i64 B) rfl (by rw [ints_length]; omega) (by exact owns_cells P5.out) (ints_one .i64 B) (by unfold maxLen; omega) (by omega) (by omega) ?_; intro v6 w6 ho6 hg6 _)
          go_ret
          have B6 : Below w.heap.size w5 w6 := Below.grown hg6 (own_row O5.out) (by omega)
          refine ⟨_, _, rfl, LL.out, ?_, H5.out.below B6 hlt (by omega), C5.out.belowR B6⟩
          have e9 : (A ++ level :: B).length = A.length + 1 + B.length := by simp; omega
          rw [e9]
          simpa [ints] using ho6
    · go_wp2_with fail
      refine (IH.out (h - 1).toNat (by omega) (h - 1) _ _ w1 rfl (by omega) (by omega) (by omega) H1.out).mono ?_
      rintro e w3 ⟨v3, A, rfl, hA, ho3, hs3, hc3⟩
      have hA7 := len7 hA (by omega)
      have z2 := C1.out.size
      have z3 := hc3.size
      have O3 := hide (owns_base ho3 z2)
      have H3 := hide hs3
      have C3 := hide (C1.out.trans hc3 (fun _ h _ => h) (fun _ h _ => h))
      have LA := hide hA
      clear hA ho3 hs3 hc3 H1 C1
      go_wp2_with (at_builtin; refine wpList_append_own _ rfl _ _ 23 rfl w.heap.size 3 i0 (.int .i64 0) 1 8 Tryz.underlying23 hi hz0 hz1 hz2 rfl (by decide) _ _ _ rfl (O3.out.alloc _) ⟨w3.heap.size, 0, none⟩ 1 1 [.int .i64 level] rfl rfl (newcells w3 3 [.int .i64 level]) (ints_one .i64 [level]) (by unfold maxLen; omega) (by omega) (by simp; omega) ?_; intro v4 w4 ho4 hg4 _)
      have B4 : Below w.heap.size w3 w4 := ((Below.refl w.heap.size w3).alloc (by omega) _).trans (Below.grown hg4 (own_row O3.out) (by simp; omega))
      have z4 := B4.size
      have H4 := hide (H3.out.below B4 hlt (by omega))
      have C4 := hide (C3.out.belowR B4)
      have O4 := hide ho4
      clear ho4 hg4 B4 H3 C3 O3
      refine (IH.out (h - 1).toNat (by omega) (h - 1) _ _ w4 rfl (by omega) (by omega) (by omega) H4.out).mono ?_
      rintro e w5 ⟨v5, B, rfl, hB, ho5, hs5, hc5⟩
      have hB7 := len7 hB (by omega)
      have z5 := hc5.size
      have O5 := hide (owns_chg O4.out hc5 hlt)
      have H5 := hide hs5
      have C5 := hide (C4.out.trans hc5 (fun _ h _ => h) (fun _ h _ => h))
      have LB := hide hB
      have P5 := hide ho5
      clear hB hs5 hc5 O4 C4 H4
      have LL : Hid (Lv m level (A ++ level :: B)) := hide (by
        obtain ⟨m', rfl⟩ : ∃ m', m = m' + 1 := ⟨m - 1, by omega⟩
        exact .node m' _ _ level A B (by omega) (by omega) (by omega) (by omega) (by omega) LA.out LB.out)
      rcases ho5.2 with ⟨rfl, hb0⟩ | ⟨g, cap, cur, rfl, _⟩
      · clear ho5
        go_wp2_with (at_builtin; refine wpList_append_own_none rfl _ _ 23 rfl w.heap.size 3 i0 1 Tryz.underlying23 hi _ _ _ rfl (by exact O5.out) rfl ?_)
        go_ret
        obtain rfl : B = [] := List.eq_nil_of_length_eq_zero hb0
        refine ⟨_, _, rfl, LL.out, ?_, H5.out, C5.out⟩
        have h9 := O5.out
        simpa [ints] using h9
      · clear ho5
        go_wp2_with (at_builtin; refine wpList_append_own _ rfl _ _ 23 rfl w.heap.size 3 i0 (.int .i64 0) 1 8 Tryz.underlying23 hi hz0 hz1 hz2 rfl (by decide) _ _ _ rfl (by exact O5.out) ⟨g, 0, none⟩ B.length cap (ints .i64 B) rfl (by rw [ints_length]; omega) (by exact owns_cells P5.out) (ints_one .i64 B) (by unfold maxLen; omega) (by omega) (by omega) ?_; intro v6 w6 ho6 hg6 _)
        go_ret
        have B6 : Below w.heap.size w5 w6 := Below.grown hg6 (own_row O5.out) (by omega)
        refine ⟨_, _, rfl, LL.out, ?_, H5.out.below B6 hlt (by omega), C5.out.belowR B6⟩
        have e9 : (A ++ level :: B).length = A.length + 1 + B.length := by simp; omega
        rw [e9]
        simpa [ints] using ho6
end Go.Proofs.YtbgngikejgihgagGreatDoor
