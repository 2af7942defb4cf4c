import Derived.Test.YtmpclndnjjhijadDoorProg
import Derived.Test.YtmpclndnjjhijadDoorConcat
import Derived.WalkKit
import Derived.WalkLawsBesides
namespace Go.Proofs.YtmpclndnjjhijadDoor
open Go Go.RowKit
set_option linter.unusedVariables false

theorem checkRoom_ok (a b : Int) (w : World) (h0 : 0 ≤ a) (h1 : 0 ≤ b) (h : a + b ≤ 220000) :
    Calls Tryd.prog 29 #[.int .i64 a, .int .i64 b, .int .i64 220000] w fun e w' => e = .returned .nilIface ∧ w' = w := by
  have g1 : ¬ (220000 : Int) < a := by omega
  have g2 : ¬ (220000 : Int) - a < b := by omega
  go_enter Tryd.func29, Tryd.ntmps29
  go_wp2
  go_ret
  exact ⟨rfl, rfl⟩
theorem checkRoom_bad (a b : Int) (w : World) (h0 : 0 ≤ a) (h1 : 0 ≤ b) (h2 : a ≤ 1048576) (h : ¬ a + b ≤ 220000) :
    Calls Tryd.prog 29 #[.int .i64 a, .int .i64 b, .int .i64 220000] w fun e w' => e = .returned (.iface 64 (.int .i64 10)) ∧ w' = w := by
  by_cases g1 : (220000 : Int) < a
  · go_enter Tryd.func29, Tryd.ntmps29
    go_wp2
    go_ret
    exact ⟨rfl, rfl⟩
  · have g2 : (220000 : Int) - a < b := by omega
    go_enter Tryd.func29, Tryd.ntmps29
    go_wp2
    go_ret
    exact ⟨rfl, rfl⟩

def msgApp : ByteArray := ⟨#[97, 112, 112, 101, 110, 100, 105, 110, 103, 32, 116, 111, 32, 97, 32, 115, 116, 111, 114, 101]⟩

theorem Sl.val {k : IntKind} {w : World} {v : Value} {zs : List Int} (h : Sl k w v zs) : ∃ ao cap, v = .slice ao zs.length cap := by
  rcases h with ⟨rfl, rfl⟩ | ⟨b, off, cap, rfl, _⟩
  · exact ⟨_, _, rfl⟩
  · exact ⟨_, _, rfl⟩

set_option maxHeartbeats 1000000 in
set_option maxRecDepth 100000 in
theorem appendRunes_bad (xs ys : List Int) (vs vt : Value) (w : World) (hS : Sl .i32 w vs xs) (hT : Sl .i32 w vt ys) (hx : xs.length ≤ 1048576) (hy : ys.length ≤ 1048576) (hf : ¬ xs.length + ys.length ≤ 220000) :
    Calls Tryd.prog 19 #[vs, vt] w fun e w' => e = .returned (.tuple #[.slice none 0 0, .agg #[.int .i64 0, .int .i64 0], .iface 62 (.agg #[.string msgApp, .iface 64 (.int .i64 10)])]) ∧ Below w.heap.size w w' := by
  obtain ⟨ao, cap, rfl⟩ := hS.val
  obtain ⟨ao2, cap2, rfl⟩ := hT.val
  have HK := hide (checkRoom_bad xs.length ys.length (w.alloc (.cells #[.int .i64 0, .int .i64 0] 33)) (by omega) (by omega) (by omega) (by omega))
  clear hS hT hf
  go_enter Tryd.func19, Tryd.ntmps19
  go_wp2_with fail
  refine HK.out.mono ?_
  rintro e w1 ⟨rfl, rfl⟩
  go_wp2
  refine bodyPost_ret (v := .tuple #[.slice none 0 0, .agg #[.int .i64 0, .int .i64 0], .iface 62 (.agg #[.string msgApp, .iface 64 (.int .i64 10)])]) (by simp [results, Tryd.results19, go_sem, msgApp]) rfl ⟨rfl, ?_⟩
  exact (Below.refl _ _).alloc (Nat.le_refl _) _

set_option maxHeartbeats 1000000 in
set_option maxRecDepth 100000 in
theorem appendRunes_ok (xs ys : List Int) (vs vt : Value) (w : World) (hS : Sl .i32 w vs xs) (hT : Sl .i32 w vt ys) (hf : xs.length + ys.length ≤ 220000) :
    Calls Tryd.prog 19 #[vs, vt] w fun e w' => ∃ v', e = .returned (.tuple #[v', .agg #[.int .i64 xs.length, .int .i64 ys.length], .nilIface]) ∧ w'.ownsRow w.heap.size 21 1 v' (xs ++ ys).length (ints .i32 (xs ++ ys)) ∧ Below w.heap.size w w' := by
  have HK := hide (checkRoom_ok xs.length ys.length (w.alloc (.cells #[.int .i64 0, .int .i64 0] 33)) (by omega) (by omega) (by omega))
  have hb1 : Below w.heap.size w ((w.alloc (.cells #[.int .i64 0, .int .i64 0] 33)).alloc (.cells #[vs, vt] 25)) := ((Below.refl _ _).alloc (Nat.le_refl _) _).alloc (by simp) _
  have HC := hide (concat xs ys vs vt (w.heap.size + 1) ((w.alloc (.cells #[.int .i64 0, .int .i64 0] 33)).alloc (.cells #[vs, vt] 25)) (hS.below hb1) (hT.below hb1) (by simp) (by simp) (by simp) (by omega) (by omega))
  obtain ⟨ao, cap, rfl⟩ := hS.val
  obtain ⟨ao2, cap2, rfl⟩ := hT.val
  clear hS hT hb1
  go_enter Tryd.func19, Tryd.ntmps19
  go_wp2_with fail
  refine HK.out.mono ?_
  rintro e w1 ⟨rfl, rfl⟩
  go_wp2_with fail
  refine HC.out.mono ?_
  rintro e w2 ⟨v', rfl, ho, hb⟩
  have HO := hide (owns_base ho (base' := w.heap.size) (by simp; omega))
  have HO1 := hide ho
  have HB := hide ((((Below.refl w.heap.size w).alloc (Nat.le_refl _) _).alloc (by simp) _).trans (hb.mono (by simp; omega)))
  have hbk : w2.heap[w.heap.size]? = some (.cells #[.int .i64 0, .int .i64 0] 33 (0, 0)) := by
    rw [hb.block w.heap.size (by simp; omega), Below.heap_alloc _ _ _ (by simp)]; exact heap_alloc_new _ _
  have c0 : w2.cell? ⟨w.heap.size, 0, none⟩ = some (.int .i64 0) := by rw [cell_of_row w2 w.heap.size 0 _ _ _ hbk]; rfl
  have c1 : w2.cell? ⟨w.heap.size, 1, none⟩ = some (.int .i64 0) := by rw [cell_of_row w2 w.heap.size 1 _ _ _ hbk]; rfl
  have f0 : w2.frozen? ⟨w.heap.size, 0, none⟩ = false := frozen_of_row w2 w.heap.size 0 _ _ hbk
  have f1 : w2.frozen? ⟨w.heap.size, 1, none⟩ = false := frozen_of_row w2 w.heap.size 1 _ _ hbk
  have hs2 : w.heap.size + 2 ≤ w2.heap.size := by have := hb.size; simpa using this
  clear hb hbk HK HC ho
  go_wp2
  refine bodyPost_ret (v := .tuple #[v', .agg #[.int .i64 xs.length, .int .i64 ys.length], .nilIface]) (by simp [results, Tryd.results19, go_sem, c0, c1]) rfl ⟨v', rfl, ?_, ?_⟩
  · refine owns_of_block HO.out (fun k hk => ?_)
    have h1 := (HO1.out.lt k hk).1
    simp at h1
    rw [Below.heap_setCell _ _ _ _ (by simp; omega), Below.heap_setCell _ _ _ _ (by simp; omega)]
  · exact (HB.out.setCell (Nat.le_refl _) _).setCell (Nat.le_refl _) _
end Go.Proofs.YtmpclndnjjhijadDoor
