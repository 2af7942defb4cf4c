import Derived.Test.YtbgngikejgihgadDoorPlC
import Derived.Test.YtbgngikejgihgadDoorPlD
import Derived.Test.YtbgngikejgihgadDoorPlT
namespace Go.Proofs.YtbgngikejgihgadDoor
open Go Go.RowKit
set_option linter.unusedVariables false

theorem measureI (zs : List Int) (c b o cap : Nat) (k l : Int) (w : World) (hc : ∀ i, i < zs.length → w.cell? ⟨b, o + i, none⟩ = some (.int .i32 (zs.getD i 0))) (hs : w.cell? ⟨c, 0, none⟩ = some (.slice (some ⟨b, o, none⟩) zs.length cap)) (hb : b < w.heap.size) (hcw : c < w.heap.size) (hk : 0 ≤ k) (hkl : k + l ≤ zs.length) (h0 : 0 < l) (hcap : zs.length ≤ cap) (hm : cap ≤ maxLen) (hn : zs.length ≤ 1048576) :
    Calls Tryd.prog 99 #[.pointer (some ⟨c, 0, none⟩), .int .i64 k, .int .i64 l] w fun e w' => e = .returned (.agg #[.int .i64 k, .int .i64 l, .int .i64 (brk ((zs.drop k.toNat).take l.toNat))]) ∧ Below w.heap.size w w' := by
  obtain ⟨k', rfl⟩ := Int.eq_ofNat_of_zero_le hk
  obtain ⟨l', rfl⟩ := Int.eq_ofNat_of_zero_le (show 0 ≤ l by omega)
  exact measureN zs c b o cap k' l' w hc hs hb hcw (by omega) (by omega) hcap hm hn

set_option maxHeartbeats 4000000 in
set_option maxRecDepth 100000 in
theorem loadN (base : Nat) (zs : List Int) (b cap : Nat) (w : World) (h : own32 w base (.slice (some ⟨b, 0, none⟩) zs.length cap) zs) (hcap : zs.length ≤ cap ∧ cap ≤ maxLen) (hn : zs.length ≤ 8192) (hok : (ldT zs).ok) :
    Calls Tryd.prog 57 #[.slice (some ⟨b, 0, none⟩) zs.length cap] w fun e w' => ∃ c u bs, e = .returned (.pointer (some ⟨c, 0, none⟩)) ∧ w.heap.size ≤ c ∧ c < w'.heap.size ∧ w'.heap[c]? = some (.cells #[.slice (some ⟨b, 0, none⟩) zs.length zs.length, .pointer u] 152 (0, 0)) ∧ Lies w' w.heap.size (ldT zs) u bs ∧ Below w.heap.size w w' := by
  obtain ⟨j0, hjP, hy0, hy1, hy2⟩ := info_parts Tryd.infoPC
  have hbl := (h.lt b rfl).2
  have CL := hide (fun W => clip32N (some ⟨b, 0, none⟩) zs.length cap W hcap.1 hcap.2)
  have SC := hide (own32_cells h)
  obtain ⟨n, hN⟩ : ∃ n, n = zs.length := ⟨_, rfl⟩
  have HNN := hide hN
  rw [← hN] at hn hcap CL
  rw [← hN]
  simp only [← hN] at SC
  clear hN
  go_enter Tryd.func57, Tryd.ntmps57
  go_wp2_with fail
  refine (CL.out w).mono ?_
  rintro e x ⟨rfl, hxw⟩
  subst hxw
  have A0 := hide ((Below.refl x.heap.size x).alloc (Nat.le_refl _) (.cells #[.slice (some ⟨b, 0, none⟩) n n, .pointer none] 152))
  have HK0 := hide (show (x.alloc (.cells #[.slice (some ⟨b, 0, none⟩) n n, .pointer none] 152)).heap[x.heap.size]? = some (.cells #[.slice (some ⟨b, 0, none⟩) n n, .pointer none] 152 (0, 0)) from heap_alloc_new _ _)
  have hs0 : (x.alloc (.cells #[.slice (some ⟨b, 0, none⟩) n n, .pointer none] 152)).heap.size = x.heap.size + 1 := by simp
  go_wp2_with fail
  generalize x.alloc (.cells #[.slice (some ⟨b, 0, none⟩) n n, .pointer none] 152) = w2 at *
  have SC2 := hide (fun i hi => (A0.out.cell (p := ⟨b, 0 + i, none⟩) hbl).trans (SC.out i hi))
  have HS2 := hide (show w2.cell? ⟨x.heap.size, 0, none⟩ = some (.slice (some ⟨b, 0, none⟩) n n) from (by rw [cell_of_row w2 _ 0 _ _ _ HK0.out]; rfl))
  have E3 := hide (show OwP w2 w2.heap.size (.slice none 0 0) (chs zs 0) from ⟨rfl, .inl ⟨rfl, rfl⟩⟩)
  have SPI := hide (fun k l W hc hs hb hcw hk hkl h0 => measureI zs x.heap.size b 0 n k l W hc (by rw [← HNN.out]; exact hs) hb hcw hk hkl h0 (by rw [← HNN.out]; exact Nat.le_refl _) (by unfold maxLen; omega) (by rw [← HNN.out]; omega))
  simp only [← HNN.out] at SPI
  have hnc : n ≤ cap := hcap.1
  clear CL SC hcap h
  go_loopw [4, 5] (fun pv ov wr => ∃ j : Nat, ov = .int .i64 (16 * (j : Int)) ∧ 16 * j < n + 16 ∧ OwP wr w2.heap.size pv (chs zs j) ∧ Below w2.heap.size w2 wr) (fun _ ov _ => n + 16 - (intOf ov).toNat)
  case atStart => exact ⟨0, by first | rfl | go_num, by omega, E3.out, Below.refl _ _⟩
  case round =>
    obtain ⟨j, rfl, hjn, hop, hbw⟩ := hrel
    have HOP := hide hop
    have HBW := hide hbw
    have hsw := hbw.size
    clear hop
    by_cases hj : 16 * j < n
    · have hj' : 16 * (j : Int) < (n : Int) := by omega
      have SCr := hide (fun i hi => (hbw.cell (p := ⟨b, 0 + i, none⟩) (by show b < w2.heap.size; omega)).trans (SC2.out i hi))
      have HSr := hide ((hbw.cell (p := ⟨x.heap.size, 0, none⟩) (by show x.heap.size < w2.heap.size; omega)).trans HS2.out)
      clear hbw
      have hlc : (if (n : Int) - 16 * (j : Int) < 16 then (n : Int) - 16 * (j : Int) else 16) = ((cln n j : Nat) : Int) := by unfold cln; split <;> omega
      have SP := hide (SPI.out (16 * (j : Int)) (if (n : Int) - 16 * (j : Int) < 16 then (n : Int) - 16 * (j : Int) else 16) wr SCr.out HSr.out (by omega) (by omega) (by omega) (by split <;> omega) (by split <;> omega))
      have CE := hide (chP_cells zs j (if (n : Int) - 16 * (j : Int) < 16 then (n : Int) - 16 * (j : Int) else 16) (by rw [← HNN.out]; exact hlc))
      clear hlc SCr
      generalize brk _ = br at SP CE
      have hj2 : j ≤ 8192 := by omega
      go_wp2_with (first | (go_at_call 99; refine SP.out.mono ?_; rintro e x1 ⟨rfl, hb1⟩; have B1 := hide (HBW.out.trans (hb1.mono hsw)); have z1 := B1.out.size; have O1 := hide (owns_below HOP.out hb1 (Nat.le_refl _)); have OA := hide (fun o => show (x1.alloc o).ownsRow w2.heap.size 52 3 _ j (pcCs (chs zs j)) from (by have h9 := O1.out; rw [chs_length] at h9; exact World.ownsRow.alloc h9 _)); have NC := hide (fun ns => newcells x1 52 ns); clear hb1) | (at_builtin; refine wpList_append_own _ rfl _ _ 48 rfl w2.heap.size 52 j0 (.agg #[.int .i64 0, .int .i64 0, .int .i64 0]) 3 24 Tryd.underlying48 hjP hy0 hy1 hy2 rfl (by decide) _ j (pcCs (chs zs j)) rfl (by exact OA.out _) ⟨x1.heap.size, 0, none⟩ 1 1 (pcCs [chP zs j]) rfl (by rw [CE.out]; rfl) (by rw [CE.out]; exact NC.out _) (by rw [CE.out]; intro u hu; simp at hu; rcases hu with rfl | rfl | rfl <;> rfl) (by unfold maxLen; omega) (by omega) (by simp; omega) ?_; intro v4 x2 hoN hgN hnil; refine Hid.out ?_))
      all_goals
        refine Lib.hid ?_
        have O4 := hide (show OwP x2 w2.heap.size v4 (chs zs (j + 1)) from (by rw [chs_succ]; exact ownP_app3 (chs_length zs j) rfl hoN))
        have B4 := hide ((B1.out.alloc z1 _).grown hgN (by simp; omega) (fun q hq => (O1.out.lt q hq).1))
        clear hoN hgN hnil
        go_wp2
        go_roundw
        case rel => exact ⟨j + 1, by first | rfl | go_num | (congr 1; omega), by omega, O4.out, B4.out⟩
        case measure => simp [intOf]; omega
    · have hj' : ¬ 16 * (j : Int) < (n : Int) := by omega
      have hjj : j = (n + 15) / 16 := by omega
      have HT := hide (show ldT zs = midT 8192 (chs zs j) from (by unfold ldT; rw [← HNN.out, ← hjj]))
      have M5 := hide (middledN 8192 (chs zs j) _ _ wr (by rw [chs_length]; omega) (OwP.rd HOP.out) (Nat.le_refl _) (by rw [chs_length]; omega) (by rw [← HT.out]; exact hok))
      clear hjj hbw hok
      generalize midT 8192 (chs zs j) = TT at *
      go_wp2_with fail
      refine M5.out.mono ?_
      rintro e x5 ⟨u5, bs5, rfl, hl5, hb5⟩
      have BX := hide (HBW.out.trans (hb5.mono hsw))
      have K5 := hide ((BX.out.block x.heap.size (by omega)).trans HK0.out)
      have L5 := hide hl5
      have z5 := hb5.size
      have f5 := frozen_of_row x5 x.heap.size 1 _ _ K5.out
      have c5 : x5.cell? ⟨x.heap.size, 1, none⟩ = some (.pointer none) := by rw [cell_of_row x5 _ 1 _ _ _ K5.out]; rfl
      clear hl5 hb5
      go_wp2
      refine bodyPost_ret (v := .pointer (some ⟨x.heap.size, 0, none⟩)) (by simp [results, Tryd.results57, go_sem]) rfl ⟨x.heap.size, u5, bs5, rfl, Nat.le_refl _, by simp; omega, ?_, ?_, ?_⟩
      · have h9 := heap_setCell_same x5 x.heap.size 1 _ _ (.pointer u5) K5.out
        simpa using h9
      · rw [HT.out]
        exact (Lies.base (by omega) L5.out).frame (fun q hq => heap_setCell_other _ _ _ _ (by have := (L5.out.lt q hq).1; show q ≠ x.heap.size; omega))
      · exact (A0.out.trans (BX.out.mono (by omega))).setCell (by simp) _
end Go.Proofs.YtbgngikejgihgadDoor
