import Derived.Test.YtbgngikejgihgafDoorTRep
import Derived.Deep.LoopGhost
namespace Go.Proofs.YtbgngikejgihgafDoor
open Go Go.RowKit
set_option linter.unusedVariables false

/-- What a call that changes a tree answers. -/
def MutPost (base : Nat) (T : AT) (bs : List Nat) (w : World) (e : Ending) (w' : World) : Prop :=
  ∃ u' bs', e = .returned (.pointer u') ∧ Lies w' base T u' bs' ∧ bs'.Nodup ∧ (∀ x ∈ bs', x ∈ bs ∨ w.heap.size ≤ x) ∧ Chg bs w w'

theorem nd_left {b m : Nat} {bl br bl' : List Nat} (hnd : (b :: (bl ++ br)).Nodup) (hlt : ∀ x ∈ b :: (bl ++ br), x < m) (h1 : bl'.Nodup) (h2 : ∀ x ∈ bl', x ∈ bl ∨ m ≤ x) : (b :: (bl' ++ br)).Nodup := by
  simp only [List.nodup_cons, List.nodup_append, List.mem_append, not_or] at hnd ⊢
  obtain ⟨⟨n1, n2⟩, n3, n4, n5⟩ := hnd
  refine ⟨⟨fun hm => ?_, n2⟩, h1, n4, fun x hx y hy e => ?_⟩
  · rcases h2 b hm with h | h
    · exact n1 h
    · have := hlt b (by simp); omega
  · subst e
    rcases h2 x hx with h | h
    · exact n5 x h x hy rfl
    · have := hlt x (by simp [hy]); omega
theorem nd_right {b m : Nat} {bl br br' : List Nat} (hnd : (b :: (bl ++ br)).Nodup) (hlt : ∀ x ∈ b :: (bl ++ br), x < m) (h1 : br'.Nodup) (h2 : ∀ x ∈ br', x ∈ br ∨ m ≤ x) : (b :: (bl ++ br')).Nodup := by
  simp only [List.nodup_cons, List.nodup_append, List.mem_append, not_or] at hnd ⊢
  obtain ⟨⟨n1, n2⟩, n3, n4, n5⟩ := hnd
  refine ⟨⟨n1, fun hm => ?_⟩, n3, h1, fun x hx y hy e => ?_⟩
  · rcases h2 b hm with h | h
    · exact n2 h
    · have := hlt b (by simp); omega
  · subst e
    rcases h2 x hy with h | h
    · exact n5 x hx x h rfl
    · have := hlt x (by simp [hx]); omega

theorem sum_sub {a b : List Pc} (h : a.Sublist b) (hp : ∀ p ∈ b, pcOk p = true) : (a.map (fun p => p.len)).sum ≤ (b.map (fun p => p.len)).sum := by
  induction h with
  | slnil => simp
  | cons x h ih =>
    have := ih (fun p hq => hp p (by simp [hq]))
    have hx := hp x (by simp)
    simp only [pcOk, decide_eq_true_eq] at hx
    simp only [List.map_cons, List.sum_cons]; omega
  | cons_cons x h ih =>
    have := ih (fun p hq => hp p (by simp [hq]))
    simp only [List.map_cons, List.sum_cons]; omega
theorem AT.ok.sub {S T : AT} (h : T.ok) (hs : S.flat.Sublist T.flat) : S.ok :=
  ⟨fun p hp => h.1 p (hs.subset hp), by have h1 := sum_sub hs h.1; have h2 := h.2; rw [AT.rns_of_flat] at h2 ⊢; omega⟩

theorem AT.rem_sub (T : AT) (k : Nat) (hk : k < T.its) : (T.rem k).flat.Sublist T.flat := by
  rw [AT.rem_flat T k hk]
  have e : T.flat.drop k = (T.flat.drop k).take 1 ++ T.flat.drop (k + 1) := by
    rw [← List.drop_drop, List.take_append_drop]
  have h : (T.flat.take k ++ T.flat.drop (k + 1)).Sublist (T.flat.take k ++ T.flat.drop k) := by
    apply List.Sublist.append_left
    rw [e]
    exact List.sublist_append_right _ _
  rwa [List.take_append_drop] at h

theorem AT.first_left (A : AT) (q : Pc) (S : AT) (p : Pc) (r : AT) : AT.first (.node (.node A q S) p r) = AT.first (.node A q S) := rfl

set_option maxHeartbeats 2000000 in
set_option maxRecDepth 100000 in
theorem firstN (T : AT) (u : Option Addr) (bs : List Nat) (base : Nat) (w : World) (hT : Lies w base T u bs) (hne : T ≠ .nil) :
    Calls Tryd.prog 120 #[.pointer u] w fun e w' => e = .returned (pcV T.first) ∧ Below w.heap.size w w' := by
  have HT := hide hT
  have HNE := hide hne
  have HB0 := hide ((Below.refl w.heap.size w).alloc (Nat.le_refl _) (.cells #[.int .i64 0, .int .i64 0, .int .i64 0] 113))
  have hk0 : (w.alloc (.cells #[.int .i64 0, .int .i64 0, .int .i64 0] 113)).heap[w.heap.size]? = some (.cells #[.int .i64 0, .int .i64 0, .int .i64 0] 113 (0, 0)) := heap_alloc_new _ _
  have hs0 : (w.alloc (.cells #[.int .i64 0, .int .i64 0, .int .i64 0] 113)).heap.size = w.heap.size + 1 := by simp
  generalize hres : T.first = res
  have HRES := hide hres
  clear hT hne hres
  go_enter Tryd.func120, Tryd.ntmps120
  go_wp2_with fail
  generalize w.alloc (.cells #[.int .i64 0, .int .i64 0, .int .i64 0] 113) = w0 at *
  go_loopg [0] T.ht (fun g pv wr => ∃ (S : AT) (us : Option Addr) (cs : List Nat), pv = .pointer us ∧ g = S.ht ∧ Lies w base S us cs ∧ S ≠ .nil ∧ S.first = res ∧ wr = w0)
  case atStart => exact ⟨T, u, bs, rfl, rfl, HT.out, HNE.out, HRES.out, rfl⟩
  case round =>
    obtain ⟨S, us, cs, rfl, rfl, hS, hSn, hSf, rfl⟩ := hrel
    clear HT HNE HRES
    cases S with
    | nil => exact absurd rfl hSn
    | node l p r =>
      obtain ⟨b, ul, ur, bl, br, rfl, hbase, hnd, hl, hr, rfl⟩ := hS
      have hltb := hnd.lt
      have c0 := (HB0.out.cell (p := ⟨b, 0, none⟩) hltb).trans hnd.c0
      have c1 := (HB0.out.cell (p := ⟨b, 1, none⟩) hltb).trans hnd.c1
      have c2 := (HB0.out.cell (p := ⟨b, 2, none⟩) hltb).trans hnd.c2
      have c3 := (HB0.out.cell (p := ⟨b, 3, none⟩) hltb).trans hnd.c3
      have hltb' : b < wr.heap.size := by omega
      cases l with
      | nil =>
        obtain ⟨rfl, rfl⟩ := hl
        have HF := hide (show p = res from hSf)
        have z0 : wr.cell? ⟨w.heap.size, 0, none⟩ = some (.int .i64 0) := by rw [cell_of_row wr _ 0 _ _ _ hk0]; rfl
        have z1 : wr.cell? ⟨w.heap.size, 1, none⟩ = some (.int .i64 0) := by rw [cell_of_row wr _ 1 _ _ _ hk0]; rfl
        have z2 : wr.cell? ⟨w.heap.size, 2, none⟩ = some (.int .i64 0) := by rw [cell_of_row wr _ 2 _ _ _ hk0]; rfl
        have y0 := frozen_of_row wr w.heap.size 0 _ _ hk0
        have y1 := frozen_of_row wr w.heap.size 1 _ _ hk0
        have y2 := frozen_of_row wr w.heap.size 2 _ _ hk0
        have hnb : ¬ b = w.heap.size := by omega
        clear hnd hr hSn hSf hk0
        go_wp2
        refine bodyPost_ret (v := pcV p) (by simp [results, Tryd.results120, go_sem, z0, z1, z2]; rfl) rfl ⟨by rw [HF.out], ((HB0.out.setCell (by simp) _).setCell (by simp) _).setCell (by simp) _⟩
      | node A q S =>
        have HL := hide hl
        obtain ⟨c, ua, us, ba, bs', rfl, _⟩ := hl
        have HF := hide (show (AT.node A q S).first = res from hSf)
        clear hnd hr hSn hSf
        go_wp2
        go_roundg (AT.node A q S).ht
        case measure => simp only [AT.ht]; omega
        case rel => exact ⟨AT.node A q S, _, _, rfl, rfl, HL.out, by simp, HF.out, by first | rfl | trivial⟩
end Go.Proofs.YtbgngikejgihgafDoor
