import Derived.Test.YtbgngikejgihgagGreatDoorMq35
import Derived.Test.YtbgngikejgihgagGreatDoorMq11
namespace Go.Proofs.YtbgngikejgihgagGreatDoor
open Go Go.RowKit
set_option linter.unusedVariables false

theorem own32_nil (w : World) (base : Nat) : own32 w base (.slice none 0 0) [] := ⟨rfl, .inl ⟨rfl, rfl⟩⟩
theorem ownI_nil (w : World) (base : Nat) : OwI w base (.slice none 0 0) [] := World.ownsRow_nil _ _ _ _

/-- What PieceInsert answers. -/
def piT (zs : List Int) (xs : List It) (off : Int) (ts : List Int) : Option AT :=
  match pRead zs xs with
  | none => none
  | some T => if (0 ≤ off ∧ off ≤ T.rns) ∧ T.rns + ts.length ≤ 8192 ∧ zs.length + ts.length ≤ 220000 then some (if ts.length = 0 then T else insP (zs ++ ts) zs.length T off) else none
def piC (zs : List Int) (xs : List It) (off : Int) (ts : List Int) : Int :=
  match pRead zs xs with
  | none => 1
  | some T => if 0 ≤ off ∧ off ≤ T.rns then (if T.rns + ts.length ≤ 8192 ∧ zs.length + ts.length ≤ 220000 then 0 else 10) else 2
def piS (zs : List Int) (xs : List It) (off : Int) (ts : List Int) : List Int := if (piT zs xs off ts).isSome then zs ++ ts else []
def piI (zs : List Int) (xs : List It) (off : Int) (ts : List Int) : List It := match piT zs xs off ts with | none => [] | some T => T.told 0

def TellPost (w : World) (zs : List Int) (xs : List It) (k : Int) (e : Ending) (w' : World) : Prop :=
  ∃ vs vi, e = .returned (.tuple #[.agg #[vs, vi], .int .i64 k]) ∧ own32 w' w.heap.size vs zs ∧ OwI w' w.heap.size vi xs ∧ Below w.heap.size w w'

set_option maxHeartbeats 1000000 in
set_option maxRecDepth 100000 in
theorem ansErr (x : Option Addr) (msg : ByteArray) (k : Int) (w : World) (hg : w.cell? ⟨0, 0, none⟩ = some (.iface 307 (.agg #[.pointer (some ⟨2, 100, none⟩)]))) :
    Calls Tryz.prog 79 #[.pointer x, .iface 172 (.agg #[.string msg, .iface 181 (.int .i64 k)])] w (TellPost w [] [] k) := by
  have hlt0 : 0 < w.heap.size := World.block_lt_of_cell? w _ hg
  have B0 := hide ((Below.refl w.heap.size w).alloc (Nat.le_refl _) (.cells #[.slice none 0 0, .slice none 0 0] 69))
  have K0 := hide (show (w.alloc (.cells #[.slice none 0 0, .slice none 0 0] 69)).heap[w.heap.size]? = some (.cells #[.slice none 0 0, .slice none 0 0] 69 (0, 0)) from heap_alloc_new _ _)
  have HCO := hide (codeOf msg k _ ((B0.out.cell (p := ⟨0, 0, none⟩) hlt0).trans hg))
  have s0 : w.heap.size < (w.alloc (.cells #[.slice none 0 0, .slice none 0 0] 69)).heap.size := by simp
  clear hg
  go_enter Tryz.func79, Tryz.ntmps79
  go_wp2_with fail
  generalize w.alloc (.cells #[.slice none 0 0, .slice none 0 0] 69) = w0 at *
  refine HCO.out.mono ?_
  rintro e w1 ⟨rfl, hb1⟩
  have k1 := (hb1.block w.heap.size s0).trans K0.out
  have c0 : w1.cell? ⟨w.heap.size, 0, none⟩ = some (.slice none 0 0) := by rw [cell_of_row w1 _ 0 _ _ _ k1]; rfl
  have c1 : w1.cell? ⟨w.heap.size, 1, none⟩ = some (.slice none 0 0) := by rw [cell_of_row w1 _ 1 _ _ _ k1]; rfl
  have f0 := frozen_of_row w1 w.heap.size 0 _ _ k1
  have f1 := frozen_of_row w1 w.heap.size 1 _ _ k1
  have B1 := hide (B0.out.trans (hb1.mono (by omega)))
  clear HCO hb1 k1
  go_wp2
  refine bodyPost_ret (v := .tuple #[.agg #[.slice none 0 0, .slice none 0 0], .int .i64 k]) (by simp [results, Tryz.results79, go_sem, c0, c1]) rfl ⟨_, _, rfl, own32_nil _ _, ownI_nil _ _, ?_⟩
  exact (B1.out.setCell (Nat.le_refl _) _).setCell (Nat.le_refl _) _

set_option maxHeartbeats 1000000 in
set_option maxRecDepth 100000 in
theorem ansOk (zs : List Int) (T : AT) (u : Option Addr) (bs : List Nat) (base c b o cap : Nat) (w : World) (h : PM w base c b o cap zs T u bs) (hok : T.ok) :
    Calls Tryz.prog 79 #[.pointer (some ⟨c, 0, none⟩), .nilIface] w (TellPost w zs (T.told 0) 0) := by
  have hn := h.n
  have B0 := hide ((Below.refl w.heap.size w).alloc (Nat.le_refl _) (.cells #[.slice none 0 0, .slice none 0 0] 69))
  have K0 := hide (show (w.alloc (.cells #[.slice none 0 0, .slice none 0 0] 69)).heap[w.heap.size]? = some (.cells #[.slice none 0 0, .slice none 0 0] 69 (0, 0)) from heap_alloc_new _ _)
  have h0 := h.below B0.out
  have HTE := hide (tellPM zs T u bs base c b o cap _ h0.rt h0.lb (by omega) h0.t hok h0.k)
  have s0 : w.heap.size < (w.alloc (.cells #[.slice none 0 0, .slice none 0 0] 69)).heap.size := by simp
  clear h h0 hok
  go_enter Tryz.func79, Tryz.ntmps79
  go_wp2_with fail
  generalize w.alloc (.cells #[.slice none 0 0, .slice none 0 0] 69) = w0 at *
  refine HTE.out.mono ?_
  rintro e w1 ⟨vs, vi, rfl, ho1, hi1, hb1⟩
  obtain ⟨as1, cs1, rfl⟩ := own32_val ho1
  obtain ⟨ai1, ci1, rfl⟩ := ownI_val hi1
  have O1 := hide ho1
  have I1 := hide hi1
  have k1 := (hb1.block w.heap.size s0).trans K0.out
  have c0 : w1.cell? ⟨w.heap.size, 0, none⟩ = some (.slice none 0 0) := by rw [cell_of_row w1 _ 0 _ _ _ k1]; rfl
  have c1 : w1.cell? ⟨w.heap.size, 1, none⟩ = some (.slice none 0 0) := by rw [cell_of_row w1 _ 1 _ _ _ k1]; rfl
  have f0 := frozen_of_row w1 w.heap.size 0 _ _ k1
  have f1 := frozen_of_row w1 w.heap.size 1 _ _ k1
  have B1 := hide (B0.out.trans (hb1.mono (by omega)))
  clear HTE hb1 k1 ho1 hi1
  generalize zs.length = zl at *
  generalize (T.told 0).length = tl at *
  go_wp2
  refine bodyPost_ret (v := .tuple #[.agg #[.slice as1 zl cs1, .slice ai1 tl ci1], .int .i64 0]) (by simp [results, Tryz.results79, go_sem, c0, c1]) rfl ⟨_, _, rfl, ?_, ?_, ?_⟩
  · exact owns_of_block (owns_base O1.out (by omega)) (fun k hk => by have h1 := O1.out.lt k hk; rw [Below.heap_setCell _ _ _ _ (by simp; omega), Below.heap_setCell _ _ _ _ (by simp; omega)]; try rfl)
  · exact owns_of_block (owns_base I1.out (by omega)) (fun k hk => by have h1 := I1.out.lt k hk; rw [Below.heap_setCell _ _ _ _ (by simp; omega), Below.heap_setCell _ _ _ _ (by simp; omega)]; try rfl)
  · exact (B1.out.setCell (Nat.le_refl _) _).setCell (Nat.le_refl _) _
end Go.Proofs.YtbgngikejgihgagGreatDoor
