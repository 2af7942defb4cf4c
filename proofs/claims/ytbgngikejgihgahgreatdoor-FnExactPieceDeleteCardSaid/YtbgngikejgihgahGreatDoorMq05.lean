import Derived.Test.YtbgngikejgihgahGreatDoorMq04
import Derived.Test.YtbgngikejgihgahGreatDoorProg
import Derived.Test.YtbgngikejgihgahGreatDoorMq01
import Derived.WalkKit
import Derived.WalkLawsBesides
import Derived.Test.YtbgngikejgihgahGreatDoorMq02
import Derived.Deep.RegionWith
import Derived.Deep.Cut
import Derived.Deep.CutRange
import Derived.Deep.CutBlock
import Derived.Deep.DeepCutAuto
namespace Go.Proofs.YtbgngikejgihgahGreatDoor
open Go Go.RowKit
set_option linter.unusedVariables false

/-- An item lies at a place. -/
def ItAt (w : World) (b o : Nat) (x : It) : Prop :=
  w.cell? ⟨b, o, none⟩ = some (.int .i64 x.pc.off) ∧ w.cell? ⟨b, o + 1, none⟩ = some (.int .i64 x.pc.len) ∧ w.cell? ⟨b, o + 2, none⟩ = some (.int .i64 x.pc.brk) ∧ w.cell? ⟨b, o + 3, none⟩ = some (.int .i64 x.lv)

/-- A slice value that reads as these items, in a block below B. -/
def RdI (B : Nat) (w : World) (v : Value) (xs : List It) : Prop :=
  (∃ ao cap, v = .slice ao 0 cap ∧ xs = []) ∨
  (∃ b off cap, v = .slice (some ⟨b, off, none⟩) xs.length cap ∧ (0 < xs.length ∧ xs.length ≤ cap ∧ cap ≤ maxLen) ∧ b < B ∧ ∀ i x, xs[i]? = some x → ItAt w b (off + i * 4) x)

theorem RdI.below {B B' : Nat} {w w' : World} {v : Value} {xs : List It} (h : RdI B w v xs) (hb : Below B' w w') (hB : B ≤ B') : RdI B w' v xs := by
  rcases h with h | ⟨b, off, cap, hv, hp, hl, hc⟩
  · exact .inl h
  · refine .inr ⟨b, off, cap, hv, hp, hl, fun i x hx => ?_⟩
    have hk : ∀ o, w'.cell? ⟨b, o, none⟩ = w.cell? ⟨b, o, none⟩ := fun o => hb.cell (p := ⟨b, o, none⟩) (by show b < B'; omega)
    have := hc i x hx
    unfold ItAt at this ⊢
    rw [hk, hk, hk, hk]; exact this
theorem RdI.heap {B : Nat} {w w' : World} {v : Value} {xs : List It} (h : RdI B w v xs) (hb : w'.heap = w.heap) : RdI B w' v xs := by
  rcases h with h | ⟨b, off, cap, hv, hp, hl, hc⟩
  · exact .inl h
  · refine .inr ⟨b, off, cap, hv, hp, hl, fun i x hx => ?_⟩
    have hk : ∀ o, w'.cell? ⟨b, o, none⟩ = w.cell? ⟨b, o, none⟩ := fun o => World.cell?_of_block (w := w) (by rw [hb])
    have := hc i x hx
    unfold ItAt at this ⊢
    rw [hk, hk, hk, hk]; exact this
theorem RdI.mono {B B' : Nat} {w : World} {v : Value} {xs : List It} (h : RdI B w v xs) (hB : B ≤ B') : RdI B' w v xs := by
  rcases h with h | ⟨b, off, cap, hv, hp, hl, hc⟩
  · exact .inl h
  · exact .inr ⟨b, off, cap, hv, hp, by omega, hc⟩
theorem RdI.val {B : Nat} {w : World} {v : Value} {xs : List It} (h : RdI B w v xs) : ∃ ao cap, v = .slice ao xs.length cap := by
  rcases h with ⟨ao, cap, rfl, rfl⟩ | ⟨b, off, cap, rfl, _⟩
  · exact ⟨_, _, rfl⟩
  · exact ⟨_, _, rfl⟩
theorem RdI.at {B : Nat} {w : World} {v : Value} {xs : List It} (h : RdI B w v xs) (h0 : xs ≠ []) : ∃ b off cap, v = .slice (some ⟨b, off, none⟩) xs.length cap ∧ (0 < xs.length ∧ xs.length ≤ cap ∧ cap ≤ maxLen) ∧ b < B ∧ ∀ i x, xs[i]? = some x → ItAt w b (off + i * 4) x := by
  rcases h with ⟨ao, cap, rfl, rfl⟩ | h
  · exact absurd rfl h0
  · exact h
theorem RdI.head {B : Nat} {w : World} {v : Value} {x : It} {xs : List It} (h : RdI B w v (x :: xs)) : ∃ b off cap, v = .slice (some ⟨b, off, none⟩) (xs.length + 1) cap ∧ xs.length + 1 ≤ cap ∧ cap ≤ maxLen ∧ b < B ∧ ItAt w b off x ∧ RdI B w (.slice (some ⟨b, off + 4, none⟩) xs.length (cap - 1)) xs := by
  obtain ⟨b, off, cap, hv, hp, hl, hc⟩ := h.at (by simp)
  simp only [List.length_cons] at hv hp
  refine ⟨b, off, cap, hv, by omega, by omega, hl, by simpa using hc 0 x rfl, ?_⟩
  cases xs with
  | nil => exact .inl ⟨_, _, rfl, rfl⟩
  | cons y ys =>
    refine .inr ⟨b, off + 4, cap - 1, rfl, ⟨by simp, by simp at hp ⊢; omega, by omega⟩, hl, fun i z hz => ?_⟩
    have := hc (i + 1) z (by simpa using hz)
    have e : off + 4 + i * 4 = off + (i + 1) * 4 := by omega
    rw [e]; exact this

/-- The reader holds this slice. -/
def Rdr (w : World) (rb : Nat) (v : Value) : Prop := w.heap[rb]? = some (.cells #[v] 274 (0, 0))
theorem Rdr.c {w : World} {rb : Nat} {v : Value} (h : Rdr w rb v) : w.cell? ⟨rb, 0, none⟩ = some v := by rw [cell_of_row w rb 0 _ _ _ h]; rfl
theorem Rdr.fz {w : World} {rb : Nat} {v : Value} (h : Rdr w rb v) : w.frozen? ⟨rb, 0, none⟩ = false := frozen_of_row w rb 0 _ _ h
theorem Rdr.lt {w : World} {rb : Nat} {v : Value} (h : Rdr w rb v) : rb < w.heap.size := by
  rcases Nat.lt_or_ge rb w.heap.size with h' | h'
  · exact h'
  · unfold Rdr at h; rw [Array.getElem?_eq_none h'] at h; cases h
theorem Rdr.set {w : World} {rb : Nat} {v : Value} (h : Rdr w rb v) (v' : Value) : Rdr (w.setCell ⟨rb, 0, none⟩ v') rb v' := by
  unfold Rdr at h ⊢; rw [heap_setCell_same w rb 0 _ _ _ h]; rfl
theorem Rdr.below {B : Nat} {w w' : World} {rb : Nat} {v : Value} (h : Rdr w rb v) (hb : Below B w w') (hB : rb < B) : Rdr w' rb v := (hb.block rb hB).trans h

set_option maxHeartbeats 1000000 in
set_option maxRecDepth 100000 in
theorem takeN_bad (B rb : Nat) (v : Value) (xs : List It) (lv : Int) (w : World) (hr : RdI B w v xs) (hv : Rdr w rb v) (hB : B ≤ rb) (hno : ∀ x xt, xs = x :: xt → x.lv ≠ lv) (hlen : xs.length ≤ 8192) :
    Calls Tryz.prog 242 #[.pointer (some ⟨rb, 0, none⟩), .int .i64 lv] w fun e w' => e = .returned (.tuple #[.agg #[.int .i64 0, .int .i64 0, .int .i64 0], .iface 187 (.int .i64 1)]) ∧ Below w.heap.size w w' := by
  have c := hv.c
  have hlt := hv.lt
  cases xs with
  | nil =>
    obtain ⟨ao, cap, rfl⟩ := hr.val
    simp only [List.length_nil] at c
    clear hr hv hno
    go_enter Tryz.func242, Tryz.ntmps242
    go_wp2
    refine bodyPost_ret (v := .tuple #[.agg #[.int .i64 0, .int .i64 0, .int .i64 0], .iface 187 (.int .i64 1)]) (by simp [results, Tryz.results242, go_sem]) rfl ⟨rfl, ?_⟩
    exact (Below.refl _ _).alloc (Nat.le_refl _) _
  | cons x xt =>
    obtain ⟨b, off, cap, rfl, hcap, hm, hb, ⟨a0, a1, a2, a3⟩, _⟩ := hr.head
    have hne := hno x xt rfl
    have hltb : b < w.heap.size := World.block_lt_of_cell? w _ a0
    have hne' : (x.lv != lv) = true := by simpa using hne
    unfold maxLen at hm
    clear hr hv hno
    go_enter Tryz.func242, Tryz.ntmps242
    go_wp2
    refine bodyPost_ret (v := .tuple #[.agg #[.int .i64 0, .int .i64 0, .int .i64 0], .iface 187 (.int .i64 1)]) (by simp [results, Tryz.results242, go_sem]) rfl ⟨rfl, ?_⟩
    exact (Below.refl _ _).alloc (Nat.le_refl _) _

theorem Chg.alloc {bs : List Nat} {a b : World} (h : Chg bs a b) (o : Obj) : Chg bs a (b.alloc o) :=
  h.trans (.of_below ((Below.refl _ _).alloc (Nat.le_refl _) o)) (fun _ h _ => h) (fun _ h _ => h) (cs := bs)
theorem Rdr.chg {bs : List Nat} {w w' : World} {rb : Nat} {v : Value} (h : Rdr w rb v) (hc : Chg bs w w') (hn : rb ∉ bs) : Rdr w' rb v := (hc.block rb h.lt hn).trans h
theorem Rdr.alloc {w : World} {rb : Nat} {v : Value} (h : Rdr w rb v) (o : Obj) : Rdr (w.alloc o) rb v := h.chg (bs := []) (.of_below ((Below.refl _ _).alloc (Nat.le_refl _) o)) (by simp)

set_option maxHeartbeats 1000000 in
set_option maxRecDepth 100000 in
theorem takeN_ok (B rb : Nat) (v : Value) (x : It) (xs : List It) (w : World) (hr : RdI B w v (x :: xs)) (hv : Rdr w rb v) (hB : B ≤ rb) (hlen : xs.length ≤ 8192) :
    Calls Tryz.prog 242 #[.pointer (some ⟨rb, 0, none⟩), .int .i64 x.lv] w fun e w' => e = .returned (.tuple #[pcV x.pc, .nilIface]) ∧ ∃ v', RdI B w' v' xs ∧ Rdr w' rb v' ∧ Chg [rb] w w' := by
  have c := hv.c
  have f := hv.fz
  have hlt := hv.lt
  obtain ⟨b, off, cap, rfl, hcap, hm, hb, ⟨a0, a1, a2, a3⟩, hT⟩ := hr.head
  have hltb : b < w.heap.size := World.block_lt_of_cell? w _ a0
  have hne' : (x.lv != x.lv) = false := by simp
  have hnb : ¬ b = rb := by omega
  unfold maxLen at hm
  have HT := hide hT
  have HV := hide hv
  clear hr hv hT
  by_cases hc1 : cap = 1
  · subst hc1
    obtain rfl : xs = [] := by apply List.eq_nil_of_length_eq_zero; omega
    simp only [List.length_nil] at c
    go_enter Tryz.func242, Tryz.ntmps242
    go_wp2
    have HC := hide ((((Chg.refl [rb] w).setCell ⟨rb, 0, none⟩ (.slice (some ⟨b, off, none⟩) 0 0) (.inl (by simp))).alloc (.cells #[.int .i64 x.pc.off, .int .i64 x.pc.len, .int .i64 x.pc.brk] 130)).alloc (.cells #[.int .i64 x.pc.off, .int .i64 x.pc.len, .int .i64 x.pc.brk] 130))
    refine bodyPost_ret (v := .tuple #[pcV x.pc, .nilIface]) (by simp [results, Tryz.results242, go_sem]; rfl) rfl ⟨rfl, .slice (some ⟨b, off, none⟩) 0 0, .inl ⟨_, _, rfl, rfl⟩, ((HV.out.set _).alloc _).alloc _, HC.out⟩
  · go_enter Tryz.func242, Tryz.ntmps242
    go_wp2
    have HC := hide ((((Chg.refl [rb] w).setCell ⟨rb, 0, none⟩ (.slice (some ⟨b, off + 4, none⟩) xs.length (cap - 1)) (.inl (by simp))).alloc (.cells #[.int .i64 x.pc.off, .int .i64 x.pc.len, .int .i64 x.pc.brk] 130)).alloc (.cells #[.int .i64 x.pc.off, .int .i64 x.pc.len, .int .i64 x.pc.brk] 130))
    refine bodyPost_ret (v := .tuple #[pcV x.pc, .nilIface]) (by simp [results, Tryz.results242, go_sem]; rfl) rfl ⟨rfl, .slice (some ⟨b, off + 4, none⟩) xs.length (cap - 1), HT.out.below (B' := B) (HC.out.below (by omega) (by simp; omega)) (Nat.le_refl _), ((HV.out.set _).alloc _).alloc _, HC.out⟩
end Go.Proofs.YtbgngikejgihgahGreatDoor

namespace Go.Proofs.YtbgngikejgihgahGreatDoor
open Go Go.RowKit
set_option linter.unusedVariables false

set_option maxHeartbeats 1000000 in
theorem withinI (v lo hi : Int) (w : World) : Calls Tryz.prog 182 #[.int .i64 v, .int .i64 lo, .int .i64 hi] w fun e w' => e = .returned (.bool (decide (lo ≤ v ∧ v ≤ hi))) ∧ w' = w := by
  by_cases h0 : lo ≤ v
  · by_cases h1 : v ≤ hi
    · have hd : decide (lo ≤ v ∧ v ≤ hi) = true := by simp [h0, h1]
      rw [hd]; clear hd
      go_enter Tryz.func182, Tryz.ntmps182
      go_wp2
      go_ret
      exact ⟨rfl, rfl⟩
    · have hd : decide (lo ≤ v ∧ v ≤ hi) = false := by simp [h0, h1]
      rw [hd]; clear hd
      go_enter Tryz.func182, Tryz.ntmps182
      go_wp2
      go_ret
      exact ⟨rfl, rfl⟩
  · have hd : decide (lo ≤ v ∧ v ≤ hi) = false := by simp [h0]
    rw [hd]; clear hd
    go_enter Tryz.func182, Tryz.ntmps182
    go_wp2
    go_ret
    exact ⟨rfl, rfl⟩

/-- An error that is nothing, or a code. -/
def errV (ok : Bool) (c : Int) : Value := if ok then .nilIface else .iface 187 (.int .i64 c)

end Go.Proofs.YtbgngikejgihgahGreatDoor

namespace Go.Proofs.YtbgngikejgihgahGreatDoor
open Go Go.RowKit
set_option linter.unusedVariables false

set_option maxHeartbeats 1000000 in
theorem boundsI (v lo hi c : Int) (w : World) : Calls Tryz.prog 129 #[.int .i64 v, .int .i64 lo, .int .i64 hi, .int .i64 c] w fun e w' => e = .returned (errV (decide (lo ≤ v ∧ v ≤ hi)) c) ∧ w' = w := by
  have HK := hide (withinI v lo hi w)
  cases hd : decide (lo ≤ v ∧ v ≤ hi) with
  | true =>
    rw [hd] at HK
    clear hd
    go_enter Tryz.func129, Tryz.ntmps129
    go_wp2_with fail
    refine HK.out.mono ?_
    rintro e w1 ⟨rfl, rfl⟩
    go_wp2
    go_ret
    exact ⟨rfl, rfl⟩
  | false =>
    rw [hd] at HK
    clear hd
    go_enter Tryz.func129, Tryz.ntmps129
    go_wp2_with fail
    refine HK.out.mono ?_
    rintro e w1 ⟨rfl, rfl⟩
    go_wp2
    go_ret
    exact ⟨rfl, rfl⟩

end Go.Proofs.YtbgngikejgihgahGreatDoor

namespace Go.Proofs.YtbgngikejgihgahGreatDoor
open Go Go.RowKit
set_option linter.unusedVariables false

def bnd (p : Pc) : Pc := ⟨min (max p.off 0) (220000 - min (max p.len 1) 8192), min (max p.len 1) 8192, min (max p.brk 0) (min (max p.len 1) 8192)⟩

theorem bnd_eq (p : Pc) : (bnd p = p) = (pcOk p = true) := by
  apply propext
  obtain ⟨a, b, c⟩ := p
  simp only [bnd, pcOk, decide_eq_true_eq, Pc.mk.injEq]
  omega

theorem pc3 {a b c a' b' c' : Int} (h1 : a = a') (h2 : b = b') (h3 : c = c') : Ending.returned (.agg #[.int .i64 a, .int .i64 b, .int .i64 c]) = Ending.returned (.agg #[.int .i64 a', .int .i64 b', .int .i64 c']) := by
  subst h1 h2 h3; rfl
set_option maxHeartbeats 1000000 in
theorem boundedI (p : Pc) (w : World) : Calls Tryz.prog 273 #[pcV p] w fun e w' => e = .returned (pcV (bnd p)) ∧ Below w.heap.size w w' := by
  obtain ⟨po, pl, pb⟩ := p
  unfold pcV
  simp only
  go_enter Tryz.func273, Tryz.ntmps273
  go_wp2
  all_goals (refine bodyPost_ret (v := cnt _ _ _) (by simp [results, Tryz.results273, go_sem]; rfl) rfl ?_; exact ⟨pc3 (by simp only [bnd]; omega) (by simp only [bnd]; omega) (by simp only [bnd]; omega), ((Below.refl _ _).alloc (Nat.le_refl _) _).alloc (by simp) _⟩)

set_option maxHeartbeats 1000000 in
set_option maxRecDepth 100000 in
theorem pieceW (p q : Pc) (b : Bool) (w : World) (hK : ∀ w, Calls Tryz.prog 273 #[pcV p] w fun e w' => e = .returned (pcV q) ∧ Below w.heap.size w w')
    (hq : (b = true ∧ p.off = q.off ∧ p.len = q.len ∧ p.brk = q.brk) ∨ (b = false ∧ ¬ p.off = q.off) ∨ (b = false ∧ p.off = q.off ∧ ¬ p.len = q.len) ∨ (b = false ∧ p.off = q.off ∧ p.len = q.len ∧ ¬ p.brk = q.brk)) :
    Calls Tryz.prog 241 #[pcV p] w fun e w' => e = .returned (errV b 1) ∧ Below w.heap.size w w' := by
  have HB0 := hide ((Below.refl w.heap.size w).alloc (Nat.le_refl _) (.cells #[.int .i64 p.off, .int .i64 p.len, .int .i64 p.brk] 130))
  have k0 : (w.alloc (.cells #[.int .i64 p.off, .int .i64 p.len, .int .i64 p.brk] 130)).cell? ⟨w.heap.size, 0, none⟩ = some (.int .i64 p.off) := by simp
  have k1 : (w.alloc (.cells #[.int .i64 p.off, .int .i64 p.len, .int .i64 p.brk] 130)).cell? ⟨w.heap.size, 1, none⟩ = some (.int .i64 p.len) := by simp
  have k2 : (w.alloc (.cells #[.int .i64 p.off, .int .i64 p.len, .int .i64 p.brk] 130)).cell? ⟨w.heap.size, 2, none⟩ = some (.int .i64 p.brk) := by simp
  have hl0 : w.heap.size < (w.alloc (.cells #[.int .i64 p.off, .int .i64 p.len, .int .i64 p.brk] 130)).heap.size := by simp
  have HK := hide hK
  clear hK
  obtain ⟨po, pl, pb⟩ := p
  obtain ⟨qo, ql, qb⟩ := q
  simp only at k0 k1 k2 hl0 HB0 hq
  unfold pcV
  go_enter Tryz.func241, Tryz.ntmps241
  go_upto_region 1 with fail
  generalize w.alloc (.cells #[.int .i64 po, .int .i64 pl, .int .i64 pb] 130) = w0 at *
  go_cut [6] (fun s6 wc => s6 = .bool (!b) ∧ Below w0.heap.size w0 wc)
  case first =>
    rcases hq with ⟨rfl, rfl, rfl, rfl⟩ | ⟨rfl, g0⟩ | ⟨rfl, rfl, g0⟩ | ⟨rfl, rfl, rfl, g0⟩
    all_goals (go_region_with (go_at_call 273; refine (HK.out _).mono ?_; rintro e w1 ⟨rfl, hb1⟩; have B1 := hide (show Below w0.heap.size w0 w1 from ⟨hb1.os, hb1.tape, hb1.output, hb1.size, hb1.block⟩); have d0 := (B1.out.cell (p := ⟨w.heap.size, 0, none⟩) hl0).trans k0; have d1 := (B1.out.cell (p := ⟨w.heap.size, 1, none⟩) hl0).trans k1; have d2 := (B1.out.cell (p := ⟨w.heap.size, 2, none⟩) hl0).trans k2; simp only [pcV]; clear hb1))
    all_goals (go_wp2_with fail; go_meet; exact ⟨rfl, B1.out⟩)
  case rest =>
    obtain ⟨rfl, hbc⟩ := hcut
    have HBC := hide hbc
    clear hbc k0 k1 k2 hq
    cases b with
    | true =>
      go_wp2
      go_ret
      exact ⟨rfl, HB0.out.trans (HBC.out.mono (Nat.le_of_lt hl0))⟩
    | false =>
      go_wp2
      go_ret
      exact ⟨rfl, HB0.out.trans (HBC.out.mono (Nat.le_of_lt hl0))⟩

theorem pieceI (p : Pc) (w : World) : Calls Tryz.prog 241 #[pcV p] w fun e w' => e = .returned (errV (pcOk p) 1) ∧ Below w.heap.size w w' := by
  refine pieceW p (bnd p) (pcOk p) w (boundedI p) ?_
  have h := bnd_eq p
  cases hp : pcOk p with
  | true =>
    have e : bnd p = p := by rw [h]; exact hp
    left; rw [e]; simp
  | false =>
    right
    have e : ¬ bnd p = p := by rw [h, hp]; simp
    have e2 : ¬ (p.off = (bnd p).off ∧ p.len = (bnd p).len ∧ p.brk = (bnd p).brk) := by
      intro hh; apply e
      generalize bnd p = q at hh
      obtain ⟨a, b, c⟩ := p; obtain ⟨a', b', c'⟩ := q; simp at hh ⊢; omega
    by_cases g0 : p.off = (bnd p).off
    · by_cases g1 : p.len = (bnd p).len
      · exact .inr (.inr ⟨rfl, g0, g1, fun g2 => e2 ⟨g0, g1, g2⟩⟩)
      · exact .inr (.inl ⟨rfl, g0, g1⟩)
    · exact .inl ⟨rfl, g0⟩
end Go.Proofs.YtbgngikejgihgahGreatDoor

namespace Go.Proofs.YtbgngikejgihgahGreatDoor
open Go Go.RowKit
set_option linter.unusedVariables false

theorem okI_nil (n : Nat) : okI n [] = true := by simp [okI, total]
theorem take_succ_of {xs : List It} {j : Nat} {x : It} (h : xs[j]? = some x) : xs.take (j + 1) = xs.take j ++ [x] := by
  rw [List.take_add_one, h]; rfl
theorem okI_snoc (n : Nat) (xs : List It) (x : It) (h : okI n xs = true) : okI n (xs ++ [x]) = (pcOk x.pc && decide (0 ≤ x.lv ∧ x.lv ≤ (n : Int) - 1) && decide (total xs + x.pc.len ≤ 8192)) := by
  simp only [okI, Bool.and_eq_true] at h
  simp only [okI, List.all_append, h.1, Bool.true_and, total_append, total, List.all_cons, List.all_nil, Bool.and_true]
  simp
/-- What is too much already stays too much. -/
theorem okI_prefix (n : Nat) (xs : List It) (j : Nat) (h : okI n xs = true) : okI n (xs.take j) = true := by
  simp only [okI, Bool.and_eq_true, decide_eq_true_eq] at h ⊢
  have hall : ∀ x ∈ xs, pcOk x.pc = true := fun x hx => by have := List.all_eq_true.1 h.1 x hx; simp only [Bool.and_eq_true] at this; exact this.1
  refine ⟨List.all_eq_true.2 fun x hx => List.all_eq_true.1 h.1 x (List.mem_of_mem_take hx), ?_⟩
  have e : total xs = total (xs.take j) + total (xs.drop j) := by rw [← total_append, List.take_append_drop]
  have h2 := total_len (xs.drop j) (List.all_eq_true.2 fun x hx => hall x (List.mem_of_mem_drop hx))
  omega
theorem okI_total {n : Nat} {xs : List It} (h : okI n xs = true) : 0 ≤ total xs ∧ total xs ≤ 8192 := by
  simp only [okI, Bool.and_eq_true, decide_eq_true_eq] at h
  have h2 := total_len xs (List.all_eq_true.2 fun x hx => by have := List.all_eq_true.1 h.1 x hx; simp only [Bool.and_eq_true] at this; exact this.1)
  omega

theorem itAt_of {B : Nat} {w : World} {b off cap : Nat} {xs : List It} (h : ∀ i x, xs[i]? = some x → ItAt w b (off + i * 4) x) {j : Nat} (hj : j < xs.length) : ∃ x, xs[j]? = some x ∧ ItAt w b (off + j * 4) x :=
  ⟨xs[j], by simp [hj], h j _ (by simp [hj])⟩

set_option maxHeartbeats 2000000 in
set_option maxRecDepth 100000 in
theorem itemsI (B : Nat) (v : Value) (xs : List It) (w : World) (hr : RdI B w v xs) (hB : B ≤ w.heap.size) (hn : xs.length ≤ 1048576) :
    Calls Tryz.prog 193 #[v] w fun e w' => e = .returned (errV (okI xs.length xs) 1) ∧ Below w.heap.size w w' := by
  rcases hr with ⟨ao, cap, rfl, rfl⟩ | ⟨b, off, cap, rfl, ⟨hp0, hpc, hpm⟩, hb, hc⟩
  · rw [okI_nil]
    go_enter Tryz.func193, Tryz.ntmps193
    go_wp2_with fail
    go_loopw [3, 10] (fun s i wr => i = .int .i64 0 ∧ s = .int .i64 0 ∧ wr = w) (fun _ _ _ => 0)
    case atStart => exact ⟨rfl, rfl, rfl⟩
    case round =>
      obtain ⟨rfl, rfl, rfl⟩ := hrel
      go_wp2
      go_ret
      exact ⟨rfl, Below.refl _ _⟩
  · have hbl : b < w.heap.size := by omega
    have HC := hide hc
    have hn' : (xs.length : Int) ≤ 1048576 := by omega
    generalize hN : xs.length = n at *
    generalize hres : okI n xs = res
    have HRES := hide hres
    unfold maxLen at hpm
    clear hc hres
    go_enter Tryz.func193, Tryz.ntmps193
    go_wp2_with fail
    go_loopw [3, 10] (fun s i wr => ∃ j : Nat, j ≤ n ∧ i = .int .i64 j ∧ s = .int .i64 (total (xs.take j)) ∧ okI n (xs.take j) = true ∧ Below w.heap.size w wr) (fun _ i _ => n - (intOf i).toNat)
    case atStart => exact ⟨0, Nat.zero_le _, rfl, by simp [total], by simp [okI_nil], Below.refl _ _⟩
    case round =>
      obtain ⟨j, hj, rfl, rfl, hok, hbw⟩ := hrel
      have HOK := hide hok
      have HBW := hide hbw
      have hsw := hbw.size
      have hT := okI_total hok
      generalize hTT : total (xs.take j) = tt at *
      have HTT := hide hTT
      clear hok hbw hTT
      by_cases hjn : j < n
      · obtain ⟨x, hx, a0, a1, a2, a3⟩ := itAt_of (B := B) (cap := cap) HC.out (hN ▸ hjn)
        have hjn' : (j : Int) < n := by omega
        have hx' := hide hx
        have e0 := (HBW.out.cell (p := ⟨b, off + j * 4, none⟩) hbl).trans a0
        have e1 := (HBW.out.cell (p := ⟨b, off + j * 4 + 1, none⟩) hbl).trans a1
        have e2 := (HBW.out.cell (p := ⟨b, off + j * 4 + 2, none⟩) hbl).trans a2
        have e3 := (HBW.out.cell (p := ⟨b, off + j * 4 + 3, none⟩) hbl).trans a3
        have hbr : b < wr.heap.size := by omega
        clear a0 a1 a2 a3 hx
        have HBA := hide ((Below.refl wr.heap.size wr).alloc (Nat.le_refl _) (.cells #[.int .i64 x.pc.off, .int .i64 x.pc.len, .int .i64 x.pc.brk, .int .i64 x.lv] 132))
        have hkx : (wr.alloc (.cells #[.int .i64 x.pc.off, .int .i64 x.pc.len, .int .i64 x.pc.brk, .int .i64 x.lv] 132)).heap[wr.heap.size]? = some (.cells #[.int .i64 x.pc.off, .int .i64 x.pc.len, .int .i64 x.pc.brk, .int .i64 x.lv] 132 (0, 0)) := heap_alloc_new _ _
        have hlx : wr.heap.size < (wr.alloc (.cells #[.int .i64 x.pc.off, .int .i64 x.pc.len, .int .i64 x.pc.brk, .int .i64 x.lv] 132)).heap.size := by simp
        go_wp2_with fail
        generalize wr.alloc (.cells #[.int .i64 x.pc.off, .int .i64 x.pc.len, .int .i64 x.pc.brk, .int .i64 x.lv] 132) = wa at *
        refine (pieceI x.pc wa).mono ?_
        rintro e w1 ⟨rfl, hb1⟩
        have hk1 := (hb1.block _ hlx).trans hkx
        have d1 : w1.cell? ⟨wr.heap.size, 1, none⟩ = some (.int .i64 x.pc.len) := by rw [cell_of_row w1 _ 1 _ _ _ hk1]; rfl
        have d3 : w1.cell? ⟨wr.heap.size, 3, none⟩ = some (.int .i64 x.lv) := by rw [cell_of_row w1 _ 3 _ _ _ hk1]; rfl
        have hl1 : wr.heap.size < w1.heap.size := by have := hb1.size; omega
        have HB1 := hide (HBW.out.trans ((HBA.out.trans (hb1.mono (Nat.le_of_lt hlx))).mono hsw))
        have HS := hide (okI_snoc n (xs.take j) x HOK.out)
        have HP := hide (show okI n xs = true → okI n (xs.take j ++ [x]) = true from fun h => by rw [← take_succ_of hx'.out]; exact okI_prefix n xs (j + 1) h)
        rw [HTT.out] at HS
        clear hb1 hk1 hkx hlx HBA e0 e1 e2 e3 HBW
        cases hpk : pcOk x.pc with
        | false =>
          have hbad : okI n xs = false := by
            cases hh : okI n xs with
            | false => rfl
            | true => have := HP.out hh; rw [HS.out, hpk] at this; simp at this
          have hr0 : res = false := HRES.out.symm.trans hbad
          clear hbad
          simp only [errV, Bool.false_eq_true, if_false]
          go_wp2
          go_ret
          exact ⟨by first | rfl | (rw [hr0]; rfl), HB1.out⟩
        | true =>
          have hpk' := hpk
          simp only [pcOk, decide_eq_true_eq] at hpk'
          simp only [errV, if_true]
          by_cases htot : 8192 < tt + x.pc.len
          · have hbad : okI n xs = false := by
              cases hh : okI n xs with
              | false => rfl
              | true => have := HP.out hh; rw [HS.out] at this; simp at this; omega
            have hr0 : res = false := HRES.out.symm.trans hbad
            clear hbad
            go_wp2
            go_ret
            exact ⟨by first | rfl | (rw [hr0]; rfl), HB1.out⟩
          · have HKB := hide (boundsI x.lv 0 ((n : Int) - 1) 1 w1)
            cases hlv : decide (0 ≤ x.lv ∧ x.lv ≤ (n : Int) - 1) with
            | false =>
              rw [hlv] at HKB
              have hbad : okI n xs = false := by
                cases hh : okI n xs with
                | false => rfl
                | true => have := HP.out hh; rw [HS.out, hlv] at this; simp at this
              have hr0 : res = false := HRES.out.symm.trans hbad
              clear hpk hlv hbad
              simp only [errV, Bool.false_eq_true, if_false] at HKB
              go_wp2_with fail
              refine HKB.out.mono ?_
              rintro e w2 ⟨rfl, rfl⟩
              go_wp2
              go_ret
              exact ⟨by first | rfl | (rw [hr0]; rfl), HB1.out⟩
            | true =>
              rw [hlv] at HKB
              have HOK2 := hide (show okI n (xs.take j ++ [x]) = true by rw [HS.out, hpk, hlv]; simp; omega)
              clear hpk hlv
              simp only [errV, if_true] at HKB
              go_wp2_with fail
              refine HKB.out.mono ?_
              rintro e w2 ⟨rfl, rfl⟩
              go_wp2
              go_roundw
              case rel => exact ⟨j + 1, by omega, by go_num, by rw [take_succ_of hx'.out, total_append, HTT.out]; simp [total], by rw [take_succ_of hx'.out]; exact HOK2.out, HB1.out⟩
              case measure => simp [intOf]; omega
      · have hjn2 : j = n := by omega
        subst hjn2
        have hge : ¬ (j : Int) < (j : Int) := by omega
        have e : okI j xs = true := by
          have := HOK.out; rw [List.take_of_length_le (by omega)] at this; exact this
        have hr0 : res = true := HRES.out.symm.trans e
        clear e
        go_wp2
        go_ret
        exact ⟨by first | rfl | (rw [hr0]; rfl), HBW.out⟩
end Go.Proofs.YtbgngikejgihgahGreatDoor
