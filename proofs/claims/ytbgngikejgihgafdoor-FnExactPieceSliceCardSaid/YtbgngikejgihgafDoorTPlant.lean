import Derived.Test.YtbgngikejgihgafDoorTRec
namespace Go.Proofs.YtbgngikejgihgafDoor
open Go Go.RowKit
set_option linter.unusedVariables false

set_option maxHeartbeats 1000000 in
set_option maxRecDepth 100000 in
theorem plantN (L : AT) (p : Pc) (R : AT) (ul ur : Option Addr) (bl br : List Nat) (base : Nat) (w : World) (hL : Lies w base L ul bl) (hR : Lies w base R ur br) (hok : (AT.node L p R).ok) (hbase : base ≤ w.heap.size) :
    Calls Tryd.prog 136 #[.pointer ul, pcV p, .pointer ur] w fun e w' => ∃ b, e = .returned (.pointer (some ⟨b, 0, none⟩)) ∧ w.heap.size ≤ b ∧ Lies w' base (.node L p R) (some ⟨b, 0, none⟩) (b :: (bl ++ br)) ∧ Below w.heap.size w w' := by
  have hbl := fun x hx => (hL.lt x hx).2
  have hbr := fun x hx => (hR.lt x hx).2
  have HB := hide (((Below.refl w.heap.size w).alloc (Nat.le_refl _) (.cells #[.int .i64 p.off, .int .i64 p.len, .int .i64 p.brk] 113)).alloc (by simp) (.cells (ndC p ul ur 0 0 0 0) 183))
  have hN : Nd ((w.alloc (.cells #[.int .i64 p.off, .int .i64 p.len, .int .i64 p.brk] 113)).alloc (.cells (ndC p ul ur 0 0 0 0) 183)) (w.heap.size + 1) p ul ur 0 0 0 0 := by
    have := heap_alloc_new (w.alloc (.cells #[.int .i64 p.off, .int .i64 p.len, .int .i64 p.brk] 113)) (.cells (ndC p ul ur 0 0 0 0) 183)
    simpa [Nd] using this
  have HK := hide (recountN L p R (w.heap.size + 1) ul ur bl br base 0 0 0 0 _ hN (hL.below HB.out (Nat.le_refl _)) (hR.below HB.out (Nat.le_refl _)) (fun h => by have := hbl _ h; omega) (fun h => by have := hbr _ h; omega) hok)
  have HL := hide (hL.below HB.out (Nat.le_refl _))
  have HR := hide (hR.below HB.out (Nat.le_refl _))
  have HX := hide (And.intro hbl hbr)
  clear hL hR hok hbl hbr hN
  unfold pcV
  go_enter Tryd.func136, Tryd.ntmps136
  go_wp2_with fail
  refine HK.out.mono ?_
  rintro e w1 ⟨rfl, hn, hc⟩
  have HN := hide hn
  have HC := hide hc
  clear hn hc HK
  go_wp2
  go_ret
  have h1 : ∀ x ∈ bl, x ∉ [w.heap.size + 1] := fun x hx e => by have := HX.out.1 x hx; simp at e; omega
  have h2 : ∀ x ∈ br, x ∉ [w.heap.size + 1] := fun x hx e => by have := HX.out.2 x hx; simp at e; omega
  exact ⟨w.heap.size + 1, rfl, by omega, ⟨_, ul, ur, bl, br, rfl, by omega, HN.out, HL.out.chg HC.out h1, HR.out.chg HC.out h2, rfl⟩, HB.out.trans (HC.out.below (by simp; omega) (by simp))⟩

set_option maxHeartbeats 1000000 in
set_option maxRecDepth 100000 in
theorem leanN (L : AT) (p : Pc) (R : AT) (b : Nat) (ul ur : Option Addr) (bl br : List Nat) (base : Nat) (h i n k : Int) (w : World) (hn : Nd w b p ul ur h i n k)
    (hL : Lies w base L ul bl) (hR : Lies w base R ur br) (h1 : (L.ht : Int) ≤ 8192) (h2 : (R.ht : Int) ≤ 8192) :
    Calls Tryd.prog 137 #[.pointer (some ⟨b, 0, none⟩)] w fun e w' => e = .returned (.int .i64 ((L.ht : Int) - R.ht)) ∧ Chg [] w w' := by
  have c3 := hn.c3
  have c4 := hn.c4
  have hlt := hn.lt
  have HL := hide hL
  have HR := hide hR
  clear hn hL hR
  have hw : IntKind.i64.wrap ((L.ht : Int) - R.ht) = (L.ht : Int) - R.ht := i64w _ (by omega) (by omega)
  go_enter Tryd.func137, Tryd.ntmps137
  go_upto_region 1 with fail
  go_region_with (first
      | (go_at_call_of 138 (Value.pointer ul); refine (heightN L ul bl base _ (by exact HL.out.frame (fun _ _ => rfl))).mono ?_; rintro e w1 ⟨rfl, rfl⟩)
      | (go_at_call_of 138 (Value.pointer ur); refine (heightN R ur br base _ (by exact HR.out.frame (fun _ _ => rfl))).mono ?_; rintro e w2 ⟨rfl, rfl⟩))
  all_goals (go_wp2; go_ret; exact ⟨by first | rfl | simp [hw], (Chg.refl _ _).drawn rfl rfl rfl rfl⟩)
end Go.Proofs.YtbgngikejgihgafDoor
