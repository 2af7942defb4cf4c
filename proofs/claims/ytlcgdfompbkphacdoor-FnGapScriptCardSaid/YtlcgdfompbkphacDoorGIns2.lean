import Derived.Test.YtlcgdfompbkphacDoorGIns
import Derived.WalkKit
import Derived.WalkLawsBesides
import Derived.Deep.RegionLaw
import Derived.Deep.Cut
import Derived.Deep.CutRange
import Derived.Deep.CutBlock
import Derived.Deep.DeepCutAuto
namespace Go.Proofs.YtlcgdfompbkphacDoor
open Go Go.RowKit
set_option linter.unusedVariables false

theorem i64wG (x : Int) (h : -9223372036854775808 ≤ x) (h2 : x < 9223372036854775808) : IntKind.i64.wrap x = x := by rw [IntKind.wrap_i64]; omega

theorem Chg.mono {w w' : World} {S T : Nat → Prop} (h : Chg w w' S) (hS : ∀ k, k < w.heap.size → S k → T k) : Chg w w' T := ⟨h.os, h.tape, h.output, h.size, fun k hk hn => h.block k hk (fun s => hn (hS k hk s))⟩
theorem Chg.lowBelow {w w' : World} {D : Nat} (h : Chg w w' (fun k => D ≤ k)) (hD : D ≤ w.heap.size) : Below D w w' := ⟨h.os, h.tape, h.output, h.size, fun k hk => h.block k (by omega) (by omega)⟩

/-- Behind the copy: the first place moves on. -/
theorem ins_set {w w1 : World} {B o g : Nat} {cs : Array Value} {t : TypeId} {v : Value} {lo hi : Int} {zs : List Int} {sp : List Value} (h : GB w B o cs t v lo hi) (hBg : B ≠ g) (hr : Row1 w w1 g (ints .i32 zs ++ sp) 21) (a : Int) :
    GPost w (w1.setCell ⟨B, o + 1, none⟩ (.int .i64 a)) B o g cs t v a hi zs sp := by
  have h0 : w1.heap[B]? = some (.cells cs t (0, 0)) := (hr.block B hBg).trans h.blk
  have h2 := heap_setCell_same w1 B (o + 1) _ _ (.int .i64 a) h0
  have hs := h.sz
  refine ⟨GB.of_set3 ?_ h.sz, ?_, ?_⟩
  · rw [h2]
    congr 2
    apply set3_ext (by simp) h.sz
    · rw [Array.getElem?_setIfInBounds, if_neg (by omega)]; exact h.c0
    · rw [Array.getElem?_setIfInBounds, if_pos rfl, if_pos (by omega)]
    · rw [Array.getElem?_setIfInBounds, if_neg (by omega)]; exact h.c2
    · intro j e0 e1 e2
      rw [Array.getElem?_setIfInBounds, if_neg (by omega)]
  · show _ = _
    rw [setCell_block_other (by show g ≠ B; exact hBg.symm)]
    exact hr.row
  · refine ⟨hr.os, hr.tape, hr.output, by simp [hr.size], fun k hk hn => ?_⟩
    rw [setCell_block_other (by show k ≠ B; exact fun e => hn (.inl e))]
    exact hr.block k (fun e => hn (.inr e))

theorem row_cell {w : World} {b off n cap : Nat} {ts : List Int} (h : Sl .i32 w (.slice (some ⟨b, off, none⟩) n cap) ts) (hn : n = ts.length) : ∀ j u, (ints .i32 ts)[j]? = some u → w.cell? ((⟨b, off, none⟩ : Addr).add j) = some u := h.rd (by rw [hn])

set_option maxHeartbeats 4000000 in
set_option maxRecDepth 100000 in
theorem insertCore (B o : Nat) (cs : Array Value) (t : TypeId) (tx ts : List Int) (ap : Option Addr) (n cp : Nat) (N D p : Nat) (w : World) (hs : o + 3 ≤ cs.size) (hn : n = ts.length) (hp : p ≤ tx.length) (hroom : tx.length + n ≤ N) (hDw : D ≤ w.heap.size) (hDB : D ≤ B)
    (hT : ∀ w', Below D w w' → Sl .i32 w' (.slice ap n cp) ts)
    (HR : Hid (Calls Tryd.prog 109 #[.pointer (some ⟨B, o, none⟩), .int .i64 n] w fun x w1 => x = .returned (.tuple #[]) ∧ ∃ g2 cap2 zs2 sp2 lo2 hi2, RoomPost w w1 B o cs t tx n N D g2 cap2 zs2 sp2 lo2 hi2)) :
    Calls Tryd.prog 83 #[.pointer (some ⟨B, o, none⟩), .int .i64 p, .slice ap n cp] w fun x w' => x = .returned (.tuple #[]) ∧ ∃ g2 cap2 sp2, InsPost w w' B o cs t (glay (tx.take p ++ (ts ++ tx.drop p)) (p + n) N) N D (p + n) (p + (N - tx.length)) g2 cap2 sp2 := by
  have HT := hide hT
  have HNN := hide hn
  have gl : (glay tx p N).length = N := glay_length hp (by omega)
  have HPT := hide (glay_put (xs := tx) (ts := ts) (p := p) (n := N) hp (by omega))
  rw [← hn] at HPT
  have GLL := hide gl
  have MVT := hide (fun g2 cap2 cs' zs2 sp2 lo2 hi2 w1 h hr hBg hc hv hp' => moveToG B o g2 cap2 cs' t zs2 sp2 lo2 hi2 p w1 h hr hBg hc hv hp')
  obtain ⟨gz, hgz⟩ : ∃ gz, gz = glay tx p N := ⟨_, rfl⟩
  have HGZ := hide hgz
  rw [← hgz] at HPT GLL
  clear hgz gl
  generalize glay (tx.take p ++ (ts ++ tx.drop p)) (p + n) N = res at *
  obtain ⟨E, hE⟩ : ∃ E, E = p + (N - tx.length) := ⟨_, rfl⟩
  rw [← hE]
  have HEE := hide hE
  clear hT hn hE
  go_enter Tryd.func83, Tryd.ntmps83
  go_wp2_with fail
  refine HR.out.mono ?_
  rintro x w1 ⟨rfl, g2, cap2, zs2, sp2, lo2, hi2, hp1⟩
  have hc1 := hp1.cap
  have hg1 := hp1.gv
  have hL : tx.length = N - (hi2 - lo2) := by rw [← hp1.tx, gtext_length hg1.a hg1.b, hp1.len]
  have b1 := hg1.a
  have b2 := hg1.b
  have b3 := hg1.c
  rw [hp1.len] at b2 b3
  have rm := hp1.room
  have MV := hide (MVT.out g2 cap2 _ zs2 sp2 lo2 hi2 w1 (by rw [hp1.len]; exact hp1.gb) hp1.rw hp1.ne (by rw [hp1.len]; exact hc1.1) hg1 (by rw [hp1.len]; omega))
  rw [hp1.tx, hp1.len, ← HGZ.out] at MV
  have ehi : p + (hi2 - lo2) = E := by rw [HEE.out]; omega
  rw [ehi] at MV
  have P1 := hide hp1
  have hne := hp1.ne
  have hlow := hp1.low
  have e1 : p + n ≤ E := by omega
  have e2 : E ≤ N := by omega
  have e3 : N ≤ 65536 := by omega
  have e4 : N ≤ cap2 := hc1.1
  have HC1 := hide hc1
  clear hp1 ehi hL b1 b2 b3 rm hg1 HR hc1 MVT
  go_wp2_with fail
  refine MV.out.mono ?_
  rintro x w2 ⟨rfl, hp2⟩
  have P2 := hide hp2
  have C2 := hide (P1.out.chg.trans hp2.chg (U := fun k => D ≤ k) (fun _ _ s => s) (fun i _ s => by rcases s with rfl | rfl <;> omega))
  have TS := hide (HT.out w2 (C2.out.lowBelow hDw))
  obtain ⟨d0, d1, d2⟩ := hp2.gb.gc
  obtain ⟨f0, f1, f2⟩ := hp2.gb.gf
  clear hp2 MV HT
  have hnE : (ints .i32 ts).length = n := by rw [ints_length, ← HNN.out]
  have HNE := hide hnE
  clear hnE
  have i1 : p ≤ E := by omega
  have i2 : E ≤ cap2 := by omega
  have addn : (p : Int) + (n : Int) = ((p + n : Nat) : Int) := by omega
  have fin : ∀ w3, Row1 w2 w3 g2 (splice (ints .i32 gz ++ sp2) p (ints .i32 ts)) 21 → ∃ g2' cap2' sp2', InsPost w (w3.setCell ⟨B, o + 1, none⟩ (.int .i64 ((p + n : Nat) : Int))) B o cs t res N D (p + n) E g2' cap2' sp2' := by
    intro w3 hr3
    have hr3' := Row1.to hr3 (splice_ints (by rw [GLL.out, ← HNN.out]; omega))
    rw [HPT.out] at hr3'
    have q := P2.out.trans (by rw [set3_size]; exact hs) (ins_set P2.out.gb hne hr3' ((p + n : Nat) : Int))
    have e := set3_set3 cs o (.slice (some ⟨g2, 0, none⟩) N cap2) (.int .i64 lo2) (.int .i64 hi2) (.slice (some ⟨g2, 0, none⟩) N cap2) (.int .i64 ((p + n : Nat) : Int)) (.int .i64 E) hs
    have qg := q.gb
    rw [e] at qg
    exact ⟨g2, cap2, sp2, qg, q.rw, HC1.out, hlow, hne, P1.out.chg.trans q.chg (fun _ _ s => s) (fun i _ s => by rcases s with rfl | rfl <;> omega)⟩
  have FIN := hide fin
  have wr : IntKind.i64.wrap ((p : Int) + (n : Int)) = ((p + n : Nat) : Int) := by rw [i64wG _ (by omega) (by omega)]; omega
  clear fin addn
  by_cases hco : cap2 = p
  · have en : n = 0 := by omega
    subst en
    obtain rfl : cap2 = N := by omega
    obtain rfl : cap2 = E := by omega
    subst hco
    have wr0 : IntKind.i64.wrap (cap2 : Int) = (cap2 : Int) := i64wG _ (by omega) (by omega)
    have FIN0 := hide (show ∀ w3, Row1 w2 w3 g2 (splice (ints .i32 gz ++ sp2) cap2 (ints .i32 ts)) 21 → ∃ g2' cap2' sp2', InsPost w (w3.setCell ⟨B, o + 1, none⟩ (.int .i64 (cap2 : Int))) B o cs t res cap2 D (cap2 + 0) cap2 g2' cap2' sp2' from fun w3 h3 => by simpa using FIN.out w3 h3)
    clear FIN
    go_upto_region 2 with fail
    go_region_law (refine step_copy_row rfl (.tmp 29) (.tmp 30) 34 34 rfl 21 Tryd.underlying34 info_size1 (some ⟨g2, 0, none⟩) ap 0 0 0 cp rfl rfl g2 cap2 (ints .i32 gz ++ sp2) 21 (by exact P2.out.rw) (ints .i32 ts) (by rw [HNE.out]; rfl) (fun hpos => absurd hpos (by rw [HNE.out]; omega)) (by rw [HNE.out, List.length_append, ints_length, GLL.out]; omega) (ints_one _ _) ?_; intro w3 hr3; rw [HNE.out]; have R3 := hide (Row1.of_drew hr3.out); have k1 := (World.cell?_of_block (w := w2) (a := ⟨B, o + 1, none⟩) (R3.out.block B hne)).trans d1; have z1 := (frozen_of_block (w := w2) (p := ⟨B, o + 1, none⟩) (R3.out.block B hne)).trans f1; have k0 := (World.cell?_of_block (w := w2) (a := ⟨B, o, none⟩) (R3.out.block B hne)).trans d0; have k2 := (World.cell?_of_block (w := w2) (a := ⟨B, o + 2, none⟩) (R3.out.block B hne)).trans d2; clear hr3)
    all_goals (
      go_wp2
      go_end0
      exact ⟨rfl, FIN0.out _ R3.out⟩)
  · go_upto_region 2 with fail
    go_region_law (refine step_copy_row rfl (.tmp 29) (.tmp 30) 34 34 rfl 21 Tryd.underlying34 info_size1 (some ⟨g2, p, none⟩) ap (E - p) (cap2 - p) n cp rfl rfl g2 p (ints .i32 gz ++ sp2) 21 (by exact P2.out.rw) (ints .i32 ts) (by rw [HNE.out]; show n = min n (E - p); omega) (fun hpos => by
      rcases TS.out with ⟨h, e⟩ | ⟨b, off, c, h, _, hc⟩
      · subst e; simp [ints] at hpos
      · simp only [Value.slice.injEq] at h
        obtain ⟨rfl, rfl, rfl⟩ := h
        refine ⟨rfl, _, rfl, ?_⟩
        have := cut_cells (k := .i32) (o := 0) (l := ts.length) hc
        simpa using this) (by rw [HNE.out, List.length_append, ints_length, GLL.out]; omega) (ints_one _ _) ?_; intro w3 hr3; rw [HNE.out]; have R3 := hide (Row1.of_drew hr3.out); have k1 := (World.cell?_of_block (w := w2) (a := ⟨B, o + 1, none⟩) (R3.out.block B hne)).trans d1; have z1 := (frozen_of_block (w := w2) (p := ⟨B, o + 1, none⟩) (R3.out.block B hne)).trans f1; have k0 := (World.cell?_of_block (w := w2) (a := ⟨B, o, none⟩) (R3.out.block B hne)).trans d0; have k2 := (World.cell?_of_block (w := w2) (a := ⟨B, o + 2, none⟩) (R3.out.block B hne)).trans d2; clear hr3)
    all_goals (
      go_wp2
      go_end0
      exact ⟨rfl, FIN.out _ R3.out⟩)
end Go.Proofs.YtlcgdfompbkphacDoor
