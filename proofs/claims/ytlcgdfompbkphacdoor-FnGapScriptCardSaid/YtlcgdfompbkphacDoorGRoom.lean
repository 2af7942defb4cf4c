import Derived.Test.YtlcgdfompbkphacDoorGNil
import Derived.WalkKit
import Derived.WalkLawsBesides
import Derived.Deep.QuietTactic
import Derived.BigQuiet
import Derived.StillTailTactics
import Derived.Deep.RegionWith
import Derived.Deep.Cut
import Derived.Deep.CutRange
import Derived.Deep.CutBlock
import Derived.Deep.DeepCutAuto
namespace Go.Proofs.YtlcgdfompbkphacDoor
open Go Go.RowKit
set_option linter.unusedVariables false

set_option maxHeartbeats 1000000 in
theorem makeRoom_no (B o : Nat) (ao : Option Addr) (n0 cap : Nat) (lo hi n : Nat) (w : World) (h : GC w B o (.slice ao n0 cap) lo hi) (h1 : lo ≤ hi) (h2 : hi ≤ n0) (hn : n0 ≤ 1048576) (hg : n ≤ hi - lo) :
    Calls Tryd.prog 109 #[.pointer (some ⟨B, o, none⟩), .int .i64 n] w fun x w' => x = .returned (.tuple #[]) ∧ ∃ m, w' = w.drewN m := by
  have HK := hide (gapN B o (.slice ao n0 cap) lo hi w h (by omega) (by omega) (by omega))
  have hge : (n : Int) ≤ (hi : Int) - (lo : Int) := by omega
  clear h
  go_enter Tryd.func109, Tryd.ntmps109
  go_wp2_with fail
  refine HK.out.mono ?_
  rintro x w0 ⟨rfl, mm0, rfl⟩
  go_wp2
  refine bodyPost_ret (v := .tuple #[]) (by simp [results, Tryd.results109, go_sem]) rfl ⟨rfl, mm0, rfl⟩

/-- A new row of zeros: what make gives. -/
theorem rw_made {w : World} {g n : Nat} {base : Nat} (h : w.ownsRow base 21 1 (.slice (some ⟨g, 0, none⟩) n n) n (ints .i32 (List.replicate n 0))) : Rw w g (List.replicate n 0) [] := by
  obtain ⟨_, _, _, sp, hr, hs⟩ := Rw.of_owns h
  have : sp = [] := List.eq_nil_of_length_eq_zero (by omega)
  subst this
  exact hr

theorem Rw.row1 {w : World} {g : Nat} {zs : List Int} {sp : List Value} (h : Rw w g zs sp) : Row1 w w g (ints .i32 zs ++ sp) 21 := Row1.refl h

/-- What makeRoom leaves where it grows. -/
structure GrowPost (w w' : World) (B o : Nat) (cs : Array Value) (t : TypeId) (lo hi R : Nat) (zs : List Int) (g : Nat) : Prop where
  ge : w.heap.size ≤ g
  gb : GB w' B o (set3 cs o (.slice (some ⟨g, 0, none⟩) R R) (.int .i64 lo) (.int .i64 hi)) t (.slice (some ⟨g, 0, none⟩) R R) lo hi
  rw : Rw w' g zs []
  chg : Chg w w' (fun k => k = B)

theorem grow_set {w w1 w2 : World} {B o g : Nat} {cs : Array Value} {t : TypeId} {v : Value} {lo hi nh : Int} {zs zs' : List Int} {R : Nat} (h : GB w B o cs t v lo hi) (hc : Chg w w1 (fun _ => False)) (hg : w.heap.size ≤ g) (hr1 : Rw w1 g zs []) (hr : Row1 (w1.setCell ⟨B, o + 2, none⟩ (.int .i64 nh)) w2 g (ints .i32 zs' ++ []) 21) (lo' hi' : Nat) (e1 : lo = lo') (e2 : nh = hi') :
    GrowPost w (w2.setCell ⟨B, o, none⟩ (.slice (some ⟨g, 0, none⟩) R R)) B o cs t lo' hi' R zs' g := by
  subst e1
  subst e2
  have hBl := h.lt
  have hBg : B ≠ g := by omega
  have hs := h.sz
  have h0 : w1.heap[B]? = some (.cells cs t (0, 0)) := (hc.block B hBl (fun x => x)).trans h.blk
  have h1 := heap_setCell_same w1 B (o + 2) _ _ (.int .i64 (hi' : Int)) h0
  have h2 : w2.heap[B]? = _ := (hr.block B hBg).trans h1
  have h3 := heap_setCell_same w2 B o _ _ (.slice (some ⟨g, 0, none⟩) R R) h2
  refine ⟨hg, GB.of_set3 ?_ h.sz, ?_, ?_⟩
  · rw [h3]
    congr 2
    apply set3_ext (by simp) h.sz
    · rw [Array.getElem?_setIfInBounds, if_pos rfl, if_pos (by simp; omega)]
    · rw [Array.getElem?_setIfInBounds, Array.getElem?_setIfInBounds, if_neg (by omega), if_neg (by omega)]; exact h.c1
    · rw [Array.getElem?_setIfInBounds, Array.getElem?_setIfInBounds, if_neg (by omega), if_pos rfl, if_pos (by omega)]
    · intro j e0 e1 e2
      rw [Array.getElem?_setIfInBounds, Array.getElem?_setIfInBounds, if_neg (by omega), if_neg (by omega)]
  · show _ = _
    rw [setCell_block_other (by show g ≠ B; exact hBg.symm)]
    exact hr.row
  · refine ⟨by simpa [World.setCell] using hr.os.trans hc.os, by simpa [World.setCell] using hr.tape.trans hc.tape, by simpa [World.setCell] using hr.output.trans hc.output, ?_, fun k hk hn => ?_⟩
    · simp only [World.size_setCell, hr.size]
      exact hc.size
    · rw [setCell_block_other (by show k ≠ B; exact hn), hr.block k (by omega), setCell_block_other (by show k ≠ B; exact hn)]
      exact hc.block k hk (fun x => x)

end Go.Proofs.YtlcgdfompbkphacDoor
