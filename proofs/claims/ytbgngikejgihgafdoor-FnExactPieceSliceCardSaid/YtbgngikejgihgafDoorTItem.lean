import Derived.Test.YtbgngikejgihgafDoorTPlant
namespace Go.Proofs.YtbgngikejgihgafDoor
open Go Go.RowKit
set_option linter.unusedVariables false

/-- An item lies at a place. -/
def ItAt (w : World) (b o : Nat) (x : It) : Prop :=
  w.cell? ⟨b, o, none⟩ = some (.int .i64 x.pc.off) ∧ w.cell? ⟨b, o + 1, none⟩ = some (.int .i64 x.pc.len) ∧ w.cell? ⟨b, o + 2, none⟩ = some (.int .i64 x.pc.brk) ∧ w.cell? ⟨b, o + 3, none⟩ = some (.int .i64 x.lv)

/-- A slice value that reads as these items, in a block below B. -/
def RdI (B : Nat) (w : World) (v : Value) (xs : List It) : Prop :=
  (∃ ao cap, v = .slice ao 0 cap ∧ xs = []) ∨
  (∃ b off cap, v = .slice (some ⟨b, off, none⟩) xs.length cap ∧ (0 < xs.length ∧ xs.length ≤ cap ∧ cap ≤ maxLen) ∧ b < B ∧ ∀ i x, xs[i]? = some x → ItAt w b (off + i * 4) x)

theorem RdI.below {B B' : Nat} {w w' : World} {v : Value} {xs : List It} (h : RdI B w v xs) (hb : Below B' w w') (hB : B ≤ B') : RdI B w' v xs := by
  rcases h with h | ⟨b, off, cap, hv, hp, hl, hc⟩
  · exact .inl h
  · refine .inr ⟨b, off, cap, hv, hp, hl, fun i x hx => ?_⟩
    have hk : ∀ o, w'.cell? ⟨b, o, none⟩ = w.cell? ⟨b, o, none⟩ := fun o => hb.cell (p := ⟨b, o, none⟩) (by show b < B'; omega)
    have := hc i x hx
    unfold ItAt at this ⊢
    rw [hk, hk, hk, hk]; exact this
theorem RdI.heap {B : Nat} {w w' : World} {v : Value} {xs : List It} (h : RdI B w v xs) (hb : w'.heap = w.heap) : RdI B w' v xs := by
  rcases h with h | ⟨b, off, cap, hv, hp, hl, hc⟩
  · exact .inl h
  · refine .inr ⟨b, off, cap, hv, hp, hl, fun i x hx => ?_⟩
    have hk : ∀ o, w'.cell? ⟨b, o, none⟩ = w.cell? ⟨b, o, none⟩ := fun o => World.cell?_of_block (w := w) (by rw [hb])
    have := hc i x hx
    unfold ItAt at this ⊢
    rw [hk, hk, hk, hk]; exact this
theorem RdI.mono {B B' : Nat} {w : World} {v : Value} {xs : List It} (h : RdI B w v xs) (hB : B ≤ B') : RdI B' w v xs := by
  rcases h with h | ⟨b, off, cap, hv, hp, hl, hc⟩
  · exact .inl h
  · exact .inr ⟨b, off, cap, hv, hp, by omega, hc⟩
theorem RdI.val {B : Nat} {w : World} {v : Value} {xs : List It} (h : RdI B w v xs) : ∃ ao cap, v = .slice ao xs.length cap := by
  rcases h with ⟨ao, cap, rfl, rfl⟩ | ⟨b, off, cap, rfl, _⟩
  · exact ⟨_, _, rfl⟩
  · exact ⟨_, _, rfl⟩
theorem RdI.at {B : Nat} {w : World} {v : Value} {xs : List It} (h : RdI B w v xs) (h0 : xs ≠ []) : ∃ b off cap, v = .slice (some ⟨b, off, none⟩) xs.length cap ∧ (0 < xs.length ∧ xs.length ≤ cap ∧ cap ≤ maxLen) ∧ b < B ∧ ∀ i x, xs[i]? = some x → ItAt w b (off + i * 4) x := by
  rcases h with ⟨ao, cap, rfl, rfl⟩ | h
  · exact absurd rfl h0
  · exact h
theorem RdI.head {B : Nat} {w : World} {v : Value} {x : It} {xs : List It} (h : RdI B w v (x :: xs)) : ∃ b off cap, v = .slice (some ⟨b, off, none⟩) (xs.length + 1) cap ∧ xs.length + 1 ≤ cap ∧ cap ≤ maxLen ∧ b < B ∧ ItAt w b off x ∧ RdI B w (.slice (some ⟨b, off + 4, none⟩) xs.length (cap - 1)) xs := by
  obtain ⟨b, off, cap, hv, hp, hl, hc⟩ := h.at (by simp)
  simp only [List.length_cons] at hv hp
  refine ⟨b, off, cap, hv, by omega, by omega, hl, by simpa using hc 0 x rfl, ?_⟩
  cases xs with
  | nil => exact .inl ⟨_, _, rfl, rfl⟩
  | cons y ys =>
    refine .inr ⟨b, off + 4, cap - 1, rfl, ⟨by simp, by simp at hp ⊢; omega, by omega⟩, hl, fun i z hz => ?_⟩
    have := hc (i + 1) z (by simpa using hz)
    have e : off + 4 + i * 4 = off + (i + 1) * 4 := by omega
    rw [e]; exact this

/-- The reader holds this slice. -/
def Rdr (w : World) (rb : Nat) (v : Value) : Prop := w.heap[rb]? = some (.cells #[v] 180 (0, 0))
theorem Rdr.c {w : World} {rb : Nat} {v : Value} (h : Rdr w rb v) : w.cell? ⟨rb, 0, none⟩ = some v := by rw [cell_of_row w rb 0 _ _ _ h]; rfl
theorem Rdr.fz {w : World} {rb : Nat} {v : Value} (h : Rdr w rb v) : w.frozen? ⟨rb, 0, none⟩ = false := frozen_of_row w rb 0 _ _ h
theorem Rdr.lt {w : World} {rb : Nat} {v : Value} (h : Rdr w rb v) : rb < w.heap.size := by
  rcases Nat.lt_or_ge rb w.heap.size with h' | h'
  · exact h'
  · unfold Rdr at h; rw [Array.getElem?_eq_none h'] at h; cases h
theorem Rdr.set {w : World} {rb : Nat} {v : Value} (h : Rdr w rb v) (v' : Value) : Rdr (w.setCell ⟨rb, 0, none⟩ v') rb v' := by
  unfold Rdr at h ⊢; rw [heap_setCell_same w rb 0 _ _ _ h]; rfl
theorem Rdr.below {B : Nat} {w w' : World} {rb : Nat} {v : Value} (h : Rdr w rb v) (hb : Below B w w') (hB : rb < B) : Rdr w' rb v := (hb.block rb hB).trans h

set_option maxHeartbeats 1000000 in
set_option maxRecDepth 100000 in
theorem takeN_bad (B rb : Nat) (v : Value) (xs : List It) (lv : Int) (w : World) (hr : RdI B w v xs) (hv : Rdr w rb v) (hB : B ≤ rb) (hno : ∀ x xt, xs = x :: xt → x.lv ≠ lv) (hlen : xs.length ≤ 8192) :
    Calls Tryd.prog 135 #[.pointer (some ⟨rb, 0, none⟩), .int .i64 lv] w fun e w' => e = .returned (.tuple #[.agg #[.int .i64 0, .int .i64 0, .int .i64 0], .iface 130 (.int .i64 1)]) ∧ Below w.heap.size w w' := by
  have c := hv.c
  have hlt := hv.lt
  cases xs with
  | nil =>
    obtain ⟨ao, cap, rfl⟩ := hr.val
    simp only [List.length_nil] at c
    clear hr hv hno
    go_enter Tryd.func135, Tryd.ntmps135
    go_wp2
    refine bodyPost_ret (v := .tuple #[.agg #[.int .i64 0, .int .i64 0, .int .i64 0], .iface 130 (.int .i64 1)]) (by simp [results, Tryd.results135, go_sem]) rfl ⟨rfl, ?_⟩
    exact (Below.refl _ _).alloc (Nat.le_refl _) _
  | cons x xt =>
    obtain ⟨b, off, cap, rfl, hcap, hm, hb, ⟨a0, a1, a2, a3⟩, _⟩ := hr.head
    have hne := hno x xt rfl
    have hltb : b < w.heap.size := World.block_lt_of_cell? w _ a0
    have hne' : (x.lv != lv) = true := by simpa using hne
    unfold maxLen at hm
    clear hr hv hno
    go_enter Tryd.func135, Tryd.ntmps135
    go_wp2
    refine bodyPost_ret (v := .tuple #[.agg #[.int .i64 0, .int .i64 0, .int .i64 0], .iface 130 (.int .i64 1)]) (by simp [results, Tryd.results135, go_sem]) rfl ⟨rfl, ?_⟩
    exact (Below.refl _ _).alloc (Nat.le_refl _) _

theorem Chg.alloc {bs : List Nat} {a b : World} (h : Chg bs a b) (o : Obj) : Chg bs a (b.alloc o) :=
  h.trans (.of_below ((Below.refl _ _).alloc (Nat.le_refl _) o)) (fun _ h _ => h) (fun _ h _ => h) (cs := bs)
theorem Rdr.chg {bs : List Nat} {w w' : World} {rb : Nat} {v : Value} (h : Rdr w rb v) (hc : Chg bs w w') (hn : rb ∉ bs) : Rdr w' rb v := (hc.block rb h.lt hn).trans h
theorem Rdr.alloc {w : World} {rb : Nat} {v : Value} (h : Rdr w rb v) (o : Obj) : Rdr (w.alloc o) rb v := h.chg (bs := []) (.of_below ((Below.refl _ _).alloc (Nat.le_refl _) o)) (by simp)

set_option maxHeartbeats 1000000 in
set_option maxRecDepth 100000 in
theorem takeN_ok (B rb : Nat) (v : Value) (x : It) (xs : List It) (w : World) (hr : RdI B w v (x :: xs)) (hv : Rdr w rb v) (hB : B ≤ rb) (hlen : xs.length ≤ 8192) :
    Calls Tryd.prog 135 #[.pointer (some ⟨rb, 0, none⟩), .int .i64 x.lv] w fun e w' => e = .returned (.tuple #[pcV x.pc, .nilIface]) ∧ ∃ v', RdI B w' v' xs ∧ Rdr w' rb v' ∧ Chg [rb] w w' := by
  have c := hv.c
  have f := hv.fz
  have hlt := hv.lt
  obtain ⟨b, off, cap, rfl, hcap, hm, hb, ⟨a0, a1, a2, a3⟩, hT⟩ := hr.head
  have hltb : b < w.heap.size := World.block_lt_of_cell? w _ a0
  have hne' : (x.lv != x.lv) = false := by simp
  have hnb : ¬ b = rb := by omega
  unfold maxLen at hm
  have HT := hide hT
  have HV := hide hv
  clear hr hv hT
  by_cases hc1 : cap = 1
  · subst hc1
    obtain rfl : xs = [] := by apply List.eq_nil_of_length_eq_zero; omega
    simp only [List.length_nil] at c
    go_enter Tryd.func135, Tryd.ntmps135
    go_wp2
    have HC := hide ((((Chg.refl [rb] w).setCell ⟨rb, 0, none⟩ (.slice (some ⟨b, off, none⟩) 0 0) (.inl (by simp))).alloc (.cells #[.int .i64 x.pc.off, .int .i64 x.pc.len, .int .i64 x.pc.brk] 113)).alloc (.cells #[.int .i64 x.pc.off, .int .i64 x.pc.len, .int .i64 x.pc.brk] 113))
    refine bodyPost_ret (v := .tuple #[pcV x.pc, .nilIface]) (by simp [results, Tryd.results135, go_sem]; rfl) rfl ⟨rfl, .slice (some ⟨b, off, none⟩) 0 0, .inl ⟨_, _, rfl, rfl⟩, ((HV.out.set _).alloc _).alloc _, HC.out⟩
  · go_enter Tryd.func135, Tryd.ntmps135
    go_wp2
    have HC := hide ((((Chg.refl [rb] w).setCell ⟨rb, 0, none⟩ (.slice (some ⟨b, off + 4, none⟩) xs.length (cap - 1)) (.inl (by simp))).alloc (.cells #[.int .i64 x.pc.off, .int .i64 x.pc.len, .int .i64 x.pc.brk] 113)).alloc (.cells #[.int .i64 x.pc.off, .int .i64 x.pc.len, .int .i64 x.pc.brk] 113))
    refine bodyPost_ret (v := .tuple #[pcV x.pc, .nilIface]) (by simp [results, Tryd.results135, go_sem]; rfl) rfl ⟨rfl, .slice (some ⟨b, off + 4, none⟩) xs.length (cap - 1), HT.out.below (B' := B) (HC.out.below (by omega) (by simp; omega)) (Nat.le_refl _), ((HV.out.set _).alloc _).alloc _, HC.out⟩
end Go.Proofs.YtbgngikejgihgafDoor
