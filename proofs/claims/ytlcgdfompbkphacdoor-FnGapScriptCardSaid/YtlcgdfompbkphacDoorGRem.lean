import Derived.Test.YtlcgdfompbkphacDoorGBuf
import Derived.WalkKit
import Derived.WalkLawsBesides
import Derived.StillTailTactics
namespace Go.Proofs.YtlcgdfompbkphacDoor
open Go Go.RowKit
set_option linter.unusedVariables false

theorem GPost.trans {w w1 w2 : World} {B o g : Nat} {cs : Array Value} {t : TypeId} {v v' : Value} {lo hi lo' hi' : Int} {zs zs' : List Int} {sp sp' : List Value} (h : GPost w w1 B o g cs t v lo hi zs sp) (hs : o + 3 ≤ cs.size) (k : GPost w1 w2 B o g (set3 cs o v (.int .i64 lo) (.int .i64 hi)) t v' lo' hi' zs' sp') : GPost w w2 B o g cs t v' lo' hi' zs' sp' := by
  have e := set3_set3 cs o v (.int .i64 lo) (.int .i64 hi) v' (.int .i64 lo') (.int .i64 hi') hs
  have kg := k.gb
  rw [e] at kg
  exact ⟨kg, k.rw, h.chg.trans k.chg (fun _ _ s => s) (fun _ _ s => s)⟩

theorem gpost_set1 {w w1 : World} {B o g : Nat} {cs : Array Value} {t : TypeId} {v : Value} {lo hi : Int} {zs : List Int} {sp : List Value} (h : GB w B o cs t v lo hi) (hBg : B ≠ g) (hr : Row1 w w1 g (ints .i32 zs ++ sp) 21) (b : Int) :
    GPost w (w1.setCell ⟨B, o + 2, none⟩ (.int .i64 b)) B o g cs t v lo b zs sp := by
  have h0 : w1.heap[B]? = some (.cells cs t (0, 0)) := (hr.block B hBg).trans h.blk
  have h2 := heap_setCell_same w1 B (o + 2) _ _ (.int .i64 b) h0
  have hs := h.sz
  refine ⟨GB.of_set3 ?_ h.sz, ?_, ?_⟩
  · rw [h2]
    congr 2
    apply set3_ext (by simp) h.sz
    · rw [Array.getElem?_setIfInBounds, if_neg (by omega)]; exact h.c0
    · rw [Array.getElem?_setIfInBounds, if_neg (by omega)]; exact h.c1
    · rw [Array.getElem?_setIfInBounds, if_pos rfl, if_pos (by omega)]
    · intro j e0 e1 e2
      rw [Array.getElem?_setIfInBounds, if_neg (by omega)]
  · show _ = _
    rw [setCell_block_other (by show g ≠ B; exact hBg.symm)]
    exact hr.row
  · refine ⟨hr.os, hr.tape, hr.output, by simp [hr.size], fun k hk hn => ?_⟩
    rw [setCell_block_other (by show k ≠ B; exact fun e => hn (.inl e))]
    exact hr.block k (fun e => hn (.inr e))

set_option maxHeartbeats 2000000 in
set_option maxRecDepth 100000 in
theorem removeG (B o g cap : Nat) (cs : Array Value) (t : TypeId) (zs : List Int) (sp : List Value) (lo hi a b : Nat) (w : World) (h : GB w B o cs t (.slice (some ⟨g, 0, none⟩) zs.length cap) lo hi) (hr : Rw w g zs sp) (hBg : B ≠ g)
    (hc : zs.length ≤ cap) (hv : GV zs lo hi) (hab : a ≤ b) (hb : b + (hi - lo) ≤ zs.length) :
    Calls Tryd.prog 85 #[.pointer (some ⟨B, o, none⟩), .int .i64 a, .int .i64 b] w fun x w' => x = .returned (.tuple #[]) ∧ GPost w w' B o g cs t (.slice (some ⟨g, 0, none⟩) zs.length cap) a ((b + (hi - lo) : Nat) : Int) (glay ((gtext zs lo hi).take a ++ (gtext zs lo hi).drop b) a zs.length) sp := by
  have h1 := hv.a
  have h2 := hv.b
  have h3 := hv.c
  have hL : (gtext zs lo hi).length = zs.length - (hi - lo) := gtext_length h1 h2
  have hs := h.sz
  have HM := hide (moveToG B o g cap cs t zs sp lo hi a w h hr hBg hc hv (by omega))
  have HC := hide (glay_cut (xs := gtext zs lo hi) (p := a) (q := b) (n := zs.length) hab (by omega) (by omega))
  have hLg : (glay (gtext zs lo hi) a zs.length).length = zs.length := glay_length (by omega) (by omega)
  have eE : a + (zs.length - (gtext zs lo hi).length) = a + (hi - lo) := by omega
  rw [eE] at HC
  generalize gtext zs lo hi = tx at *
  generalize glay tx a zs.length = gl at *
  have HCC := hide (show splice gl (a + (hi - lo)) (List.replicate (b - a) 0) = glay (tx.take a ++ tx.drop b) a zs.length from HC.out)
  generalize glay (tx.take a ++ tx.drop b) a zs.length = res at *
  generalize hN : zs.length = n at *
  obtain ⟨E, hE⟩ : ∃ E, E = a + (hi - lo) := ⟨_, rfl⟩
  obtain ⟨F, hF⟩ : ∃ F, F = b + (hi - lo) := ⟨_, rfl⟩
  rw [← hE] at HM HCC
  rw [← hF]
  have hEF : F = E + (b - a) := by omega
  have hFn : F ≤ n := by omega
  have eF : (E : Int) + (b : Int) - (a : Int) = F := by omega
  have HLg := hide hLg
  have LS := hide (show (List.replicate (b - a) (0 : Int)).length = b - a by simp)
  have i3 : b ≤ n := by omega
  have i4 : b ≤ 65536 := by omega
  have i5 : E ≤ 65536 := by omega
  clear hL eE HC hF hE hb hN hr hLg
  have i1 : E ≤ F := by omega
  have i2 : F ≤ cap := by omega
  have HEF := hide hEF
  clear hEF
  by_cases hco : cap = E
  · obtain rfl : E = F := by omega
    obtain rfl : a = b := by have := HEF.out; omega
    subst hco
    go_enter Tryd.func85, Tryd.ntmps85
    go_wp2_with fail
    refine HM.out.mono ?_
    rintro x w1 ⟨rfl, hp1⟩
    have P1 := hide hp1
    obtain ⟨d0, d1, d2⟩ := hp1.gb.gc
    clear hp1 HM
    go_wp2_with fail
    go_still_tail 10, mixed
    refine wpList_clear_row rfl (.tmp 27) 34 rfl 21 Tryd.underlying34 (.int .i32 0) zero32 rfl rfl (some ⟨g, 0, none⟩) 0 0 rfl g cap _ 21 (by exact P1.out.rw) (fun hpos => absurd hpos (by omega)) (by rw [List.length_append, ints_length, HLg.out]; omega) ?_
    intro w3 rr3
    rw [ints_rep] at rr3
    have R3 := hide (Row1.to (Row1.of_drew rr3.out) (splice_ints (by rw [List.length_replicate, HLg.out]; omega)))
    obtain ⟨d0, d1, d2⟩ := (P1.out.gb.block (w' := w3) (rr3.out.block B hBg)).gc
    obtain ⟨f0, f1, f2⟩ := (P1.out.gb.block (w' := w3) (rr3.out.block B hBg)).gf
    clear rr3
    go_wp2
    go_end0
    refine ⟨rfl, P1.out.trans hs ?_⟩
    have hq := HCC.out
    rw [Nat.sub_self] at hq
    rw [← hq]
    exact gpost_set1 P1.out.gb hBg R3.out _
  · go_enter Tryd.func85, Tryd.ntmps85
    go_wp2_with fail
    refine HM.out.mono ?_
    rintro x w1 ⟨rfl, hp1⟩
    have P1 := hide hp1
    obtain ⟨d0, d1, d2⟩ := hp1.gb.gc
    clear hp1 HM
    go_wp2_with fail
    go_still_tail 10, mixed
    refine wpList_clear_row rfl (.tmp 27) 34 rfl 21 Tryd.underlying34 (.int .i32 0) zero32 rfl rfl (some ⟨g, E, none⟩) (F - E) (cap - E) rfl g E _ 21 (by exact P1.out.rw) (fun _ => rfl) (by rw [List.length_append, ints_length, HLg.out]; omega) ?_
    intro w3 rr3
    rw [ints_rep] at rr3
    have R3 := hide (Row1.to (Row1.of_drew rr3.out) (splice_ints (by rw [List.length_replicate, HLg.out]; omega)))
    obtain ⟨d0, d1, d2⟩ := (P1.out.gb.block (w' := w3) (rr3.out.block B hBg)).gc
    obtain ⟨f0, f1, f2⟩ := (P1.out.gb.block (w' := w3) (rr3.out.block B hBg)).gf
    clear rr3
    go_wp2
    go_end0
    refine ⟨rfl, P1.out.trans hs ?_⟩
    have hq := HCC.out
    rw [show b - a = F - E by have := HEF.out; omega] at hq
    rw [← hq]
    exact gpost_set1 P1.out.gb hBg R3.out _
end Go.Proofs.YtlcgdfompbkphacDoor
