import Derived.Test.YtbgngikejgihgaeDoorObM
namespace Go.Proofs.YtbgngikejgihgaeDoor
open Go Go.RowKit
set_option linter.unusedVariables false

theorem ObAt.cells {w : World} {b o : Nat} {x : Ob} (h : ObAt w b o x) : ∃ vt vm, (w.cell? ⟨b, o, none⟩ = some (.int .i64 x.c) ∧ w.cell? ⟨b, o + 1, none⟩ = some (.int .i64 x.x) ∧ w.cell? ⟨b, o + 2, none⟩ = some (.int .i64 x.y) ∧ w.cell? ⟨b, o + 3, none⟩ = some vt ∧ w.cell? ⟨b, o + 4, none⟩ = some vm ∧ w.cell? ⟨b, o + 5, none⟩ = some (.int .i64 x.l) ∧ w.cell? ⟨b, o + 6, none⟩ = some (.int .i64 x.n) ∧ w.cell? ⟨b, o + 7, none⟩ = some (.int .i64 x.u) ∧ w.cell? ⟨b, o + 8, none⟩ = some (.int .i64 x.r) ∧ w.cell? ⟨b, o + 9, none⟩ = some (.int .i64 x.o)) ∧ (∃ ta tc, vt = .slice ta x.t.length tc) ∧ (∃ ma mc, vm = .slice ma x.m.length mc) ∧ Rd .i32 w vt x.t ∧ RdM w.heap.size w vm x.m ∧ x.t.length ≤ maxLen ∧ x.m.length ≤ maxLen := by
  obtain ⟨vt, vm, hc, ht, hm, h1, h2⟩ := h
  refine ⟨vt, vm, ⟨hc 0 (by omega), hc 1 (by omega), hc 2 (by omega), hc 3 (by omega), hc 4 (by omega), hc 5 (by omega), hc 6 (by omega), hc 7 (by omega), hc 8 (by omega), hc 9 (by omega)⟩, ?_, hm.val, ht, hm, h1, h2⟩
  rcases ht with ⟨ao, cap, rfl, e⟩ | ⟨b, off, cap, rfl, _⟩
  · exact ⟨_, _, by rw [e]; rfl⟩
  · exact ⟨_, _, rfl⟩

theorem alloc_old {w : World} {q : Nat} {o o' : Obj} (h : w.heap[q]? = some o) : (w.alloc o').heap[q]? = some o := (Below.heap_alloc _ _ _ (Array.getElem?_eq_some_iff.1 h).1).trans h
theorem newcells1 (w : World) (o : Obj) (t : TypeId) (news : List Value) : ∀ j u, news[j]? = some u → ((w.alloc (.cells news.toArray t)).alloc o).cell? ((⟨w.heap.size, 0, none⟩ : Addr).add j) = some u := fun j u h => by
  have h9 := newcells w t news j u h
  rw [addr_add] at h9 ⊢
  exact (World.cell?_of_block (Below.heap_alloc _ _ _ (by simp))).trans h9
theorem newcells2 (w : World) (o : Obj) (t : TypeId) (news : List Value) : ∀ j u, news[j]? = some u → ((w.alloc o).alloc (.cells news.toArray t)).cell? ((⟨w.heap.size + 1, 0, none⟩ : Addr).add j) = some u := fun j u h => by
  have h9 := newcells (w.alloc o) t news j u h
  rw [World.size_alloc] at h9
  exact h9
theorem new2 (w : World) (o o' : Obj) : ((w.alloc o).alloc o').heap[w.heap.size + 1]? = ((w.alloc o).alloc o').heap[(w.alloc o).heap.size]? := by rw [World.size_alloc]

end Go.Proofs.YtbgngikejgihgaeDoor
