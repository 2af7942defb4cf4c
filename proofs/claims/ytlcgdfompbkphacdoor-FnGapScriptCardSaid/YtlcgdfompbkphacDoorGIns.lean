import Derived.Test.YtlcgdfompbkphacDoorGRoomA
import Derived.Test.YtlcgdfompbkphacDoorGRoomB
import Derived.Test.YtlcgdfompbkphacDoorGRoomC
import Derived.Test.YtlcgdfompbkphacDoorGRoomD
import Derived.WalkKit
import Derived.WalkLawsBesides
import Derived.Deep.RegionLaw
import Derived.Deep.Cut
import Derived.Deep.CutRange
import Derived.Deep.CutBlock
import Derived.Deep.DeepCutAuto
namespace Go.Proofs.YtlcgdfompbkphacDoor
open Go Go.RowKit
set_option linter.unusedVariables false

/-- What makeRoom leaves, grown or not. -/
structure RoomPost (w w1 : World) (B o : Nat) (cs : Array Value) (t : TypeId) (tx : List Int) (n N D : Nat) (g2 cap2 : Nat) (zs2 : List Int) (sp2 : List Value) (lo2 hi2 : Nat) : Prop where
  gb : GB w1 B o (set3 cs o (.slice (some ⟨g2, 0, none⟩) N cap2) (.int .i64 lo2) (.int .i64 hi2)) t (.slice (some ⟨g2, 0, none⟩) N cap2) lo2 hi2
  rw : Rw w1 g2 zs2 sp2
  len : zs2.length = N
  gv : GV zs2 lo2 hi2
  tx : gtext zs2 lo2 hi2 = tx
  room : n ≤ hi2 - lo2
  cap : N ≤ cap2 ∧ cap2 ≤ maxLen ∧ sp2.length = cap2 - N
  low : D ≤ g2
  ne : B ≠ g2
  chg : Chg w w1 (fun k => D ≤ k)

/-- What insert leaves. -/
structure InsPost (w w1 : World) (B o : Nat) (cs : Array Value) (t : TypeId) (zs : List Int) (N D : Nat) (lo hi : Nat) (g2 cap2 : Nat) (sp2 : List Value) : Prop where
  gb : GB w1 B o (set3 cs o (.slice (some ⟨g2, 0, none⟩) N cap2) (.int .i64 lo) (.int .i64 hi)) t (.slice (some ⟨g2, 0, none⟩) N cap2) lo hi
  rw : Rw w1 g2 zs sp2
  cap : N ≤ cap2 ∧ cap2 ≤ maxLen ∧ sp2.length = cap2 - N
  low : D ≤ g2
  ne : B ≠ g2
  chg : Chg w w1 (fun k => D ≤ k)

theorem makeRoomG (B o g cap : Nat) (cs : Array Value) (t : TypeId) (zs : List Int) (sp : List Value) (lo hi n N D : Nat) (w : World) (h : GB w B o cs t (.slice (some ⟨g, 0, none⟩) zs.length cap) lo hi) (hr : Rw w g zs sp) (hBg : B ≠ g) (hg : g < w.heap.size)
    (hc : zs.length ≤ cap) (hcm : cap ≤ maxLen) (hsp : sp.length = cap - zs.length) (hv : GV zs lo hi) (hb : (gtext zs lo hi).length + n ≤ 8192) (hD : D ≤ g) (hDB : D ≤ B)
    (hN : (n ≤ hi - lo ∧ N = zs.length) ∨ (hi - lo < n ∧ Dbl ((gtext zs lo hi).length + n) (max zs.length 16) N)) :
    Calls Tryd.prog 109 #[.pointer (some ⟨B, o, none⟩), .int .i64 n] w fun x w1 => x = .returned (.tuple #[]) ∧ ∃ g2 cap2 zs2 sp2 lo2 hi2, RoomPost w w1 B o cs t (gtext zs lo hi) n N D g2 cap2 zs2 sp2 lo2 hi2 := by
  have h1 := hv.a
  have h2 := hv.b
  have h3 := hv.c
  have hL : (gtext zs lo hi).length = zs.length - (hi - lo) := gtext_length h1 h2
  have hBl := h.lt
  rcases hN with ⟨hno, rfl⟩ | ⟨hno, hd⟩
  · refine (makeRoom_no B o _ zs.length cap lo hi n w h.gc h1 h2 (by omega) hno).mono fun x w1 ⟨hx, m, hw⟩ => ⟨hx, g, cap, zs, sp, lo, hi, ?_⟩
    subst hw
    exact ⟨by rw [h.self]; exact h.block rfl, hr, rfl, hv, rfl, hno, ⟨hc, hcm, hsp⟩, hD, hBg, ⟨rfl, rfl, rfl, Nat.le_refl _, fun _ _ _ => rfl⟩⟩
  · have bd := dbl_bd hd
    have hcl := row_cells hr
    have hR0 : zs.length ≤ N := by omega
    have fin : ∀ x w1, (x = Ending.returned (.tuple #[]) ∧ ∃ g', GrowPost w w1 B o cs t lo (N - (zs.length - hi)) N (splice (splice (List.replicate N 0) 0 (zs.take lo)) (N - (zs.length - hi)) (zs.drop hi)) g') → (x = Ending.returned (.tuple #[]) ∧ ∃ g2 cap2 zs2 sp2 lo2 hi2, RoomPost w w1 B o cs t (gtext zs lo hi) n N D g2 cap2 zs2 sp2 lo2 hi2) := by
      rintro x w1 ⟨hx, g', hp⟩
      rw [ggrow h1 h2 hR0] at hp
      have eh : N - (zs.length - hi) = lo + (N - (gtext zs lo hi).length) := by omega
      rw [eh] at hp
      refine ⟨hx, g', N, glay (gtext zs lo hi) lo N, [], lo, lo + (N - (gtext zs lo hi).length), hp.gb, hp.rw, glay_length (by omega) (by omega), glay_valid (by omega) (by omega) (by omega) (by omega), glay_text (by omega) (by omega), by omega, ⟨Nat.le_refl _, by unfold maxLen; omega, by simp⟩, by have := hp.ge; omega, by have := hp.ge; omega, ?_⟩
      exact ⟨hp.chg.os, hp.chg.tape, hp.chg.output, hp.chg.size, fun k hk hn => hp.chg.block k hk (fun e => hn (by omega))⟩
    by_cases hA : hi < zs.length
    · exact (makeRoom_A B o g cap zs.length cs t zs lo hi n (max zs.length 16) (gtext zs lo hi).length ((gtext zs lo hi).length + n) N (N - (zs.length - hi)) w h hcl hg hc rfl h1 h2 h3 hno (by omega) rfl hb (by omega) hd (by omega) hA hBg.symm).mono fin
    · by_cases hB2 : cap = zs.length
      · exact (makeRoom_B B o g cap zs.length cs t zs lo hi n (max zs.length 16) (gtext zs lo hi).length ((gtext zs lo hi).length + n) N (N - (zs.length - hi)) w h hcl hg hc rfl h1 h2 h3 hno (by omega) rfl hb (by omega) hd (by omega) (by omega) hB2 hBg.symm).mono fin
      · exact (makeRoom_C B o g cap zs.length cs t zs lo hi n (max zs.length 16) (gtext zs lo hi).length ((gtext zs lo hi).length + n) N (N - (zs.length - hi)) w h hcl hg hc rfl h1 h2 h3 hno (by omega) rfl hb (by omega) hd (by omega) (by omega) hB2 hBg.symm).mono fin

theorem makeRoomNilG (B o : Nat) (cs : Array Value) (t : TypeId) (n N D : Nat) (w : World) (h : GB w B o cs t (.slice none 0 0) 0 0) (hb : n ≤ 8192) (hn : 0 < n) (hD : D ≤ w.heap.size) (hDB : D ≤ B) (hd : Dbl n 16 N) :
    Calls Tryd.prog 109 #[.pointer (some ⟨B, o, none⟩), .int .i64 n] w fun x w1 => x = .returned (.tuple #[]) ∧ ∃ g2 cap2 zs2 sp2 lo2 hi2, RoomPost w w1 B o cs t [] n N D g2 cap2 zs2 sp2 lo2 hi2 := by
  have bd := dbl_bd hd
  have hBl := h.lt
  refine (makeRoom_D B o 0 cs t [] 0 0 n 16 0 n N N w (by simpa using h) rfl (by omega) (by omega) (by omega) (by omega) (by omega) (by omega) hb (by omega) hd (by omega) rfl).mono ?_
  rintro x w1 ⟨hx, g', hp⟩
  have e : splice (splice (List.replicate N (0 : Int)) 0 (([] : List Int).take 0)) N (([] : List Int).drop 0) = glay [] 0 N := by
    simp [splice, glay]
  rw [e] at hp
  refine ⟨hx, g', N, glay [] 0 N, [], 0, 0 + (N - ([] : List Int).length), by simpa using hp.gb, hp.rw, glay_length (by simp) (by simp), glay_valid (by simp) (by simp) (by omega) (by simp), glay_text (by simp) (by simp), by simp; omega, ⟨Nat.le_refl _, by unfold maxLen; omega, by simp⟩, by have := hp.ge; omega, by have := hp.ge; omega, ?_⟩
  exact ⟨hp.chg.os, hp.chg.tape, hp.chg.output, hp.chg.size, fun k hk hn => hp.chg.block k hk (fun e => hn (by omega))⟩
end Go.Proofs.YtlcgdfompbkphacDoor
