import Derived.Test.YtbkcbhjejkicjaaGreatDoorMq20
import Derived.Shelf.SlSortCmp.QuietGrown
namespace Go.Proofs.YtbkcbhjejkicjaaGreatDoor
open Go Go.RowKit
set_option linter.unusedVariables false

theorem measureI (zs : List Int) (c b o cap : Nat) (k l : Int) (w : World) (hc : ∀ i, i < zs.length → w.cell? ⟨b, o + i, none⟩ = some (.int .i32 (zs.getD i 0))) (hs : w.cell? ⟨c, 0, none⟩ = some (.slice (some ⟨b, o, none⟩) zs.length cap)) (hb : b < w.heap.size) (hcw : c < w.heap.size) (hk : 0 ≤ k) (hkl : k + l ≤ zs.length) (h0 : 0 < l) (hcap : zs.length ≤ cap) (hm : cap ≤ maxLen) (hn : zs.length ≤ 1048576) :
    Calls Tryz.prog 56 #[.pointer (some ⟨c, 0, none⟩), .int .i64 k, .int .i64 l] w fun e w' => e = .returned (.agg #[.int .i64 k, .int .i64 l, .int .i64 (brk ((zs.drop k.toNat).take l.toNat))]) ∧ Below w.heap.size w w' := by
  obtain ⟨k', rfl⟩ := Int.eq_ofNat_of_zero_le hk
  obtain ⟨l', rfl⟩ := Int.eq_ofNat_of_zero_le (show 0 ≤ l by omega)
  exact measureN zs c b o cap k' l' w hc hs hb hcw (by omega) (by omega) hcap hm hn

set_option maxHeartbeats 4000000 in
set_option maxRecDepth 100000 in
theorem loadN (base : Nat) (zs : List Int) (b cap : Nat) (w : World) (h : own32 w base (.slice (some ⟨b, 0, none⟩) zs.length cap) zs) (hcap : zs.length ≤ cap ∧ cap ≤ maxLen) (hn : zs.length ≤ 8192) (hok : (ldT zs).ok) :
    Calls Tryz.prog 40 #[.slice (some ⟨b, 0, none⟩) zs.length cap] w fun e w' => ∃ c u bs, e = .returned (.pointer (some ⟨c, 0, none⟩)) ∧ w.heap.size ≤ c ∧ c < w'.heap.size ∧ w'.heap[c]? = some (.cells #[.slice (some ⟨b, 0, none⟩) zs.length zs.length, .pointer u] 152 (0, 0)) ∧ Lies w' w.heap.size (ldT zs) u bs ∧ bs.Nodup ∧ c ∉ bs ∧ Below w.heap.size w w' := by
  obtain ⟨j0, hjP, hy0, hy1, hy2⟩ := info_parts Tryz.infoPC
  have hbl := (h.lt b rfl).2
  have CL := hide (fun W => clip32N (some ⟨b, 0, none⟩) zs.length cap W hcap.1 hcap.2)
  have SC := hide (own32_cells h)
  obtain ⟨n, hN⟩ : ∃ n, n = zs.length := ⟨_, rfl⟩
  have HNN := hide hN
  rw [← hN] at hn hcap CL
  rw [← hN]
  simp only [← hN] at SC
  clear hN
  go_enter Tryz.func40, Tryz.ntmps40
  go_wp2_with fail
  refine (CL.out w).mono ?_
  rintro e x ⟨rfl, hxw⟩
  subst hxw
  have A0 := hide ((Below.refl x.heap.size x).alloc (Nat.le_refl _) (.cells #[.slice (some ⟨b, 0, none⟩) n n, .pointer none] 152))
  have HK0 := hide (show (x.alloc (.cells #[.slice (some ⟨b, 0, none⟩) n n, .pointer none] 152)).heap[x.heap.size]? = some (.cells #[.slice (some ⟨b, 0, none⟩) n n, .pointer none] 152 (0, 0)) from heap_alloc_new _ _)
  have hs0 : (x.alloc (.cells #[.slice (some ⟨b, 0, none⟩) n n, .pointer none] 152)).heap.size = x.heap.size + 1 := by simp
  go_wp2_with fail
  generalize x.alloc (.cells #[.slice (some ⟨b, 0, none⟩) n n, .pointer none] 152) = w2 at *
  have SC2 := hide (fun i hi => (A0.out.cell (p := ⟨b, 0 + i, none⟩) hbl).trans (SC.out i hi))
  have HS2 := hide (show w2.cell? ⟨x.heap.size, 0, none⟩ = some (.slice (some ⟨b, 0, none⟩) n n) from (by rw [cell_of_row w2 _ 0 _ _ _ HK0.out]; rfl))
  have E3 := hide (show OwP w2 w2.heap.size (.slice none 0 0) (chs zs 0) from ⟨rfl, .inl ⟨rfl, rfl⟩⟩)
  have SPI := hide (fun k l W hc hs hb hcw hk hkl h0 => measureI zs x.heap.size b 0 n k l W hc (by rw [← HNN.out]; exact hs) hb hcw hk hkl h0 (by rw [← HNN.out]; exact Nat.le_refl _) (by unfold maxLen; omega) (by rw [← HNN.out]; omega))
  simp only [← HNN.out] at SPI
  have hnc : n ≤ cap := hcap.1
  clear CL SC hcap h
  go_loopw [4, 5] (fun pv ov wr => ∃ j : Nat, ov = .int .i64 (16 * (j : Int)) ∧ 16 * j < n + 16 ∧ OwP wr w2.heap.size pv (chs zs j) ∧ Below w2.heap.size w2 wr) (fun _ ov _ => n + 16 - (intOf ov).toNat)
  case atStart => exact ⟨0, by first | rfl | go_num, by omega, E3.out, Below.refl _ _⟩
  case round =>
    obtain ⟨j, rfl, hjn, hop, hbw⟩ := hrel
    have HOP := hide hop
    have HBW := hide hbw
    have hsw := hbw.size
    clear hop
    by_cases hj : 16 * j < n
    · have hj' : 16 * (j : Int) < (n : Int) := by omega
      have SCr := hide (fun i hi => (hbw.cell (p := ⟨b, 0 + i, none⟩) (by show b < w2.heap.size; omega)).trans (SC2.out i hi))
      have HSr := hide ((hbw.cell (p := ⟨x.heap.size, 0, none⟩) (by show x.heap.size < w2.heap.size; omega)).trans HS2.out)
      clear hbw
      have hlc : (if (n : Int) - 16 * (j : Int) < 16 then (n : Int) - 16 * (j : Int) else 16) = ((cln n j : Nat) : Int) := by unfold cln; split <;> omega
      have SP := hide (SPI.out (16 * (j : Int)) (if (n : Int) - 16 * (j : Int) < 16 then (n : Int) - 16 * (j : Int) else 16) wr SCr.out HSr.out (by omega) (by omega) (by omega) (by split <;> omega) (by split <;> omega))
      have CE := hide (chP_cells zs j (if (n : Int) - 16 * (j : Int) < 16 then (n : Int) - 16 * (j : Int) else 16) (by rw [← HNN.out]; exact hlc))
      clear hlc SCr
      generalize brk _ = br at SP CE
      have hj2 : j ≤ 8192 := by omega
      go_wp2_with (first | (go_at_call 56; refine SP.out.mono ?_; rintro e x1 ⟨rfl, hb1⟩; have B1 := hide (HBW.out.trans (hb1.mono hsw)); have z1 := B1.out.size; have O1 := hide (owns_below HOP.out hb1 (Nat.le_refl _)); have OA := hide (fun o => show (x1.alloc o).ownsRow w2.heap.size 155 3 _ j (pcCs (chs zs j)) from (by have h9 := O1.out; rw [chs_length] at h9; exact World.ownsRow.alloc h9 _)); have NC := hide (fun ns => newcells x1 155 ns); clear hb1) | (at_builtin; refine wpList_append_own _ rfl _ _ 153 rfl w2.heap.size 155 j0 (.agg #[.int .i64 0, .int .i64 0, .int .i64 0]) 3 24 Tryz.underlying153 hjP hy0 hy1 hy2 rfl (by decide) _ j (pcCs (chs zs j)) rfl (by exact OA.out _) ⟨x1.heap.size, 0, none⟩ 1 1 (pcCs [chP zs j]) rfl (by rw [CE.out]; rfl) (by rw [CE.out]; exact NC.out _) (by rw [CE.out]; intro u hu; simp at hu; rcases hu with rfl | rfl | rfl <;> rfl) (by unfold maxLen; omega) (by omega) (by simp; omega) ?_; intro v4 x2 hoN hgN hnil; refine Hid.out ?_))
      all_goals
        refine Lib.hid ?_
        have O4 := hide (show OwP x2 w2.heap.size v4 (chs zs (j + 1)) from (by rw [chs_succ]; exact ownP_app3 (chs_length zs j) rfl hoN))
        have B4 := hide ((B1.out.alloc z1 _).grown hgN (by simp; omega) (fun q hq => (O1.out.lt q hq).1))
        clear hoN hgN hnil
        go_wp2
        go_roundw
        case rel => exact ⟨j + 1, by first | rfl | go_num | (congr 1; omega), by omega, O4.out, B4.out⟩
        case measure => simp [intOf]; omega
    · have hj' : ¬ 16 * (j : Int) < (n : Int) := by omega
      have hjj : j = (n + 15) / 16 := by omega
      have HT := hide (show ldT zs = midT 8192 (chs zs j) from (by unfold ldT; rw [← HNN.out, ← hjj]))
      have M5 := hide (middledN 8192 (chs zs j) _ _ wr (by rw [chs_length]; omega) (OwP.rd HOP.out) (Nat.le_refl _) (by rw [chs_length]; omega) (by rw [← HT.out]; exact hok))
      clear hjj hbw hok
      generalize midT 8192 (chs zs j) = TT at *
      go_wp2_with fail
      refine M5.out.mono ?_
      rintro e x5 ⟨u5, bs5, rfl, hl5, hn5, hb5⟩
      have N5 := hide hn5
      have C5 := hide (show x.heap.size ∉ bs5 from fun h9 => by have := (hl5.lt _ h9).1; have := HBW.out.size; omega)
      clear hn5
      have BX := hide (HBW.out.trans (hb5.mono hsw))
      have K5 := hide ((BX.out.block x.heap.size (by omega)).trans HK0.out)
      have L5 := hide hl5
      have z5 := hb5.size
      have f5 := frozen_of_row x5 x.heap.size 1 _ _ K5.out
      have c5 : x5.cell? ⟨x.heap.size, 1, none⟩ = some (.pointer none) := by rw [cell_of_row x5 _ 1 _ _ _ K5.out]; rfl
      clear hl5 hb5
      go_wp2
      refine bodyPost_ret (v := .pointer (some ⟨x.heap.size, 0, none⟩)) (by simp [results, Tryz.results40, go_sem]) rfl ⟨x.heap.size, u5, bs5, rfl, Nat.le_refl _, by simp; omega, ?_, ?_, N5.out, C5.out, ?_⟩
      · have h9 := heap_setCell_same x5 x.heap.size 1 _ _ (.pointer u5) K5.out
        simpa using h9
      · rw [HT.out]
        exact (Lies.base (by omega) L5.out).frame (fun q hq => heap_setCell_other _ _ _ _ (by have := (L5.out.lt q hq).1; show q ≠ x.heap.size; omega))
      · exact (A0.out.trans (BX.out.mono (by omega))).setCell (by simp) _
end Go.Proofs.YtbkcbhjejkicjaaGreatDoor

namespace Go.Proofs.YtbkcbhjejkicjaaGreatDoor
open Go Go.RowKit
set_option linter.unusedVariables false

/-- The model's block, no group being open, nothing to be done again. -/
def S6 (w : World) (s : Nat) (tv mv uv gv slv lv : Value) (sp cp : Int) : Prop := w.heap[s]? = some (.cells #[tv, mv, uv, .slice none 0 0, gv, .bool false, .int .i64 sp, .int .i64 cp, slv, lv] 84 (0, 0))
section
variable {w w' : World} {s : Nat} {tv mv uv gv slv lv : Value} {sp cp : Int}
theorem S6.c (h : S6 w s tv mv uv gv slv lv sp cp) : w.cell? ⟨s, 0, none⟩ = some tv ∧ w.cell? ⟨s, 1, none⟩ = some mv ∧ w.cell? ⟨s, 2, none⟩ = some uv ∧ w.cell? ⟨s, 3, none⟩ = some (.slice none 0 0) ∧ w.cell? ⟨s, 5, none⟩ = some (.bool false) ∧ w.cell? ⟨s, 6, none⟩ = some (.int .i64 sp) ∧ w.cell? ⟨s, 7, none⟩ = some (.int .i64 cp) ∧ w.cell? ⟨s, 9, none⟩ = some lv := by
  refine ⟨?_, ?_, ?_, ?_, ?_, ?_, ?_, ?_⟩ <;> (first | (rw [cell_of_row w s 0 _ _ _ h]; rfl) | (rw [cell_of_row w s 1 _ _ _ h]; rfl) | (rw [cell_of_row w s 2 _ _ _ h]; rfl) | (rw [cell_of_row w s 3 _ _ _ h]; rfl) | (rw [cell_of_row w s 5 _ _ _ h]; rfl) | (rw [cell_of_row w s 6 _ _ _ h]; rfl) | (rw [cell_of_row w s 7 _ _ _ h]; rfl) | (rw [cell_of_row w s 9 _ _ _ h]; rfl))
theorem S6.f (h : S6 w s tv mv uv gv slv lv sp cp) (j : Nat) : w.frozen? ⟨s, j, none⟩ = false := frozen_of_row w s j _ _ h
theorem S6.lt (h : S6 w s tv mv uv gv slv lv sp cp) : s < w.heap.size := (Array.getElem?_eq_some_iff.1 h).1
theorem S6.same (h : S6 w s tv mv uv gv slv lv sp cp) (e : w'.heap[s]? = w.heap[s]?) : S6 w' s tv mv uv gv slv lv sp cp := e.trans h
theorem S6.set0 (h : S6 w s tv mv uv gv slv lv sp cp) (v : Value) : S6 (w.setCell ⟨s, 0, none⟩ v) s v mv uv gv slv lv sp cp := by unfold S6; rw [heap_setCell_same w s 0 _ _ _ h]; rfl
theorem S6.set1 (h : S6 w s tv mv uv gv slv lv sp cp) (v : Value) : S6 (w.setCell ⟨s, 1, none⟩ v) s tv v uv gv slv lv sp cp := by unfold S6; rw [heap_setCell_same w s 1 _ _ _ h]; rfl
theorem S6.set2 (h : S6 w s tv mv uv gv slv lv sp cp) (v : Value) : S6 (w.setCell ⟨s, 2, none⟩ v) s tv mv v gv slv lv sp cp := by unfold S6; rw [heap_setCell_same w s 2 _ _ _ h]; rfl
theorem S6.set3 (h : S6 w s tv mv uv gv slv lv sp cp) : S6 (w.setCell ⟨s, 3, none⟩ (.slice none 0 0)) s tv mv uv gv slv lv sp cp := by unfold S6; rw [heap_setCell_same w s 3 _ _ _ h]; rfl
theorem S6.set6 (h : S6 w s tv mv uv gv slv lv sp cp) (v : Int) : S6 (w.setCell ⟨s, 6, none⟩ (.int .i64 v)) s tv mv uv gv slv lv v cp := by unfold S6; rw [heap_setCell_same w s 6 _ _ _ h]; rfl
theorem S6.set9 (h : S6 w s tv mv uv gv slv lv sp cp) (v : Value) : S6 (w.setCell ⟨s, 9, none⟩ v) s tv mv uv gv slv v sp cp := by unfold S6; rw [heap_setCell_same w s 9 _ _ _ h]; rfl
theorem S6.off {base : Nat} {t : TypeId} {size n : Nat} {v : Value} {xs : List Value} (h : S6 w s tv mv uv gv slv lv sp cp) (ho : w.ownsRow base t size v n xs) (ht : t ≠ 84) {q : Nat} (hq : v.ownBlock = some q) : q ≠ s := by
  rintro rfl
  rcases ho.2 with ⟨e, _⟩ | ⟨g', cap', cur, e, _, hb, _⟩
  · rw [e] at hq; cases hq
  · rw [e] at hq
    simp only [Value.ownBlock, Option.some.injEq] at hq
    subst hq
    rw [h] at hb
    simp only [Option.some.injEq, Obj.cells.injEq] at hb
    exact ht hb.2.1.symm
end
theorem Tryz.infoLC : (Tryz.prog.info? 190).map (fun i => (i.zero, i.size, i.bytes)) = some (some (.agg #[.int .i64 0, .int .i64 0, .int .i64 0, .slice none 0 0]), 4, 48) := by kernel_rfl
set_option maxHeartbeats 400000 in
theorem payS (s : Nat) (tv mv uv gv slv lv : Value) (sp cp n : Int) (w : World) (h : S6 w s tv mv uv gv slv lv sp cp) (h0 : 0 ≤ sp ∧ 0 ≤ n) (hn : sp + n ≤ 200000) :
    Calls Tryz.prog 59 #[.pointer (some ⟨s, 0, none⟩), .int .i64 n] w fun e w' => e = .returned (.bool true) ∧ S6 w' s tv mv uv gv slv lv (sp + n) cp ∧ w' = w.setCell ⟨s, 6, none⟩ (.int .i64 (sp + n)) := by
  have H := hide h
  obtain ⟨_, _, _, _, _, c6, _, _⟩ := h.c
  have f6 := h.f 6
  have e1 : ¬ sp + n > 200000 := by omega
  clear h
  go_enter Tryz.func59, Tryz.ntmps59
  go_wp2
  go_ret
  exact ⟨rfl, H.out.set6 _, rfl⟩
set_option maxHeartbeats 1000000 in
set_option maxRecDepth 100000 in
theorem noteS (B s nl : Nat) (tv mv uv gv slv lv : Value) (sp cp : Int) (ls : List Value) (kd lo hi : Int) (ta : Option Addr) (tl tk : Nat) (w : World) (h : S6 w s tv mv uv gv slv lv sp cp) (hl : w.ownsRow B 190 4 lv nl ls) (hn : nl ≤ 100000) (hB : B ≤ w.heap.size) :
    Calls Tryz.prog 61 #[.pointer (some ⟨s, 0, none⟩), .int .i64 kd, .int .i64 lo, .int .i64 hi, .slice ta tl tk] w fun e w' => e = .returned (.tuple #[]) ∧ ∃ lv', S6 w' s tv mv uv gv slv lv' sp cp ∧ w'.ownsRow B 190 4 lv' (nl + 1) (ls ++ [.int .i64 kd, .int .i64 lo, .int .i64 hi, .slice ta tl tk]) ∧ ChgP w w' (fun q => q = s ∨ lv.ownBlock = some q) ∧ ∀ q, lv'.ownBlock = some q → lv.ownBlock = some q ∨ w.heap.size ≤ q := by
  obtain ⟨i0, hi0, hz0, hz1, hz2⟩ := info_parts Tryz.infoLC
  have H := hide h
  have HD := hide hl
  obtain ⟨_, _, _, _, _, _, _, c9⟩ := h.c
  have f9 := h.f 9
  have hs := h.lt
  have OFF := hide (fun q hq => h.off hl (by decide) (q := q) hq)
  obtain ⟨la, lk, rfl⟩ : ∃ a k, lv = .slice a nl k := by
    rcases hl.2 with ⟨e, e0⟩ | ⟨g, cap, cur, e, _⟩
    · exact ⟨none, 0, by rw [e, e0]⟩
    · exact ⟨_, _, e⟩
  have NC := hide (newcells w 190 [.int .i64 kd, .int .i64 lo, .int .i64 hi, .slice ta tl tk])
  have BA := hide ((Below.refl w.heap.size w).alloc (Nat.le_refl _) (.cells #[.int .i64 kd, .int .i64 lo, .int .i64 hi, .slice ta tl tk] 190))
  have sA : w.heap.size + 1 = (w.alloc (.cells #[.int .i64 kd, .int .i64 lo, .int .i64 hi, .slice ta tl tk] 190)).heap.size := by simp
  clear h hl
  go_enter Tryz.func61, Tryz.ntmps61
  go_wp2_with (at_builtin; refine wpList_append_lies _ rfl _ _ 82 rfl B 190 i0 (.agg #[.int .i64 0, .int .i64 0, .int .i64 0, .slice none 0 0]) 4 48 Tryz.underlying82 hi0 hz0 hz1 hz2 rfl (by decide) (.slice la nl lk) nl ls rfl (HD.out.alloc _) ⟨w.heap.size, 0, none⟩ 1 1 [.int .i64 kd, .int .i64 lo, .int .i64 hi, .slice ta tl tk] rfl rfl NC.out (by simp [Value.oneCell']) (by omega) (by unfold maxLen; omega) (by omega) (by omega) _ rfl ?_; intro g cp1 w1 hown hgr hgq hgl; have E1 := hide (show S6 w1 s tv mv uv gv slv (.slice la nl lk) sp cp from (hgr.block s (by omega) (fun e => OFF.out s e.symm rfl)).trans ((BA.out.block s hs).trans H.out)); have d1 := E1.out.c.2.2.2.2.2.2.2; have z1 := E1.out.f 9)
  go_end0
  have hgne : g ≠ s := by
    rcases hgq with h9 | h9
    · exact OFF.out g h9
    · rw [← sA] at h9; omega
  refine ⟨rfl, _, E1.out.set9 _, owns_of_block hown (fun q hq => heap_setCell_other w1 ⟨s, 9, none⟩ q _ (by simp only [Value.ownBlock, Option.some.injEq] at hq; subst hq; exact hgne)), (((ChgP.reflS w _).allocS _).grownS hgr (fun q hq => .inl (.inr hq))).setS ⟨s, 9, none⟩ _ (.inl (.inl rfl)), fun q hq => ?_⟩
  simp only [Value.ownBlock, Option.some.injEq] at hq
  subst hq
  exact hgq.imp id (fun h9 => by rw [← sA] at h9; omega)
end Go.Proofs.YtbkcbhjejkicjaaGreatDoor

namespace Go.Proofs.YtbkcbhjejkicjaaGreatDoor
open Go Go.RowKit
set_option linter.unusedVariables false

/-- A stack that is read. -/
def RdV (w : World) (v : Value) (us : List Value) : Prop := v = .slice none 0 0 ∧ us = [] ∨ ∃ b o cap, v = .slice (some ⟨b, o, none⟩) us.length cap ∧ (0 < us.length ∧ us.length ≤ cap ∧ cap ≤ maxLen ∧ b < w.heap.size ∧ ∃ cs fr, w.heap[b]? = some (.cells cs 81 fr)) ∧ ∀ i u, us[i]? = some u → w.cell? ⟨b, o + i, none⟩ = some u
theorem RdV.kept {w w' : World} {v : Value} {us : List Value} (h : RdV w v us) (hk : ∀ b o l c, v = .slice (some ⟨b, o, none⟩) l c → w'.heap[b]? = w.heap[b]?) (hs : w.heap.size ≤ w'.heap.size) : RdV w' v us := by
  rcases h with h | ⟨b, o, cap, e, ⟨h0, h1, h2, h3, cs, fr, h5⟩, h4⟩
  · exact .inl h
  · exact .inr ⟨b, o, cap, e, ⟨h0, h1, h2, by omega, cs, fr, (hk b o _ _ e).trans h5⟩, fun i u hi => (World.cell?_of_block (a := ⟨b, o + i, none⟩) (hk b o _ _ e)).trans (h4 i u hi)⟩
theorem RdV.ty {w : World} {v : Value} {us : List Value} (h : RdV w v us) {b o l c : Nat} (e : v = .slice (some ⟨b, o, none⟩) l c) : ∃ cs fr, w.heap[b]? = some (.cells cs 81 fr) := by
  rcases h with ⟨h, _⟩ | ⟨b', o', cap, e', ⟨h0, h1, h2, h3, h5⟩, h4⟩
  · rw [h] at e; cases e
  · rw [e'] at e
    injection e with e1 e2 e3
    injection e1 with e1
    injection e1 with e1
    subst e1
    exact h5
theorem own_ty {w : World} {base : Nat} {t : TypeId} {size n : Nat} {v : Value} {xs : List Value} (ho : w.ownsRow base t size v n xs) {q : Nat} (hq : v.ownBlock = some q) : ∃ cs fr, w.heap[q]? = some (.cells cs t fr) := by
  rcases ho.2 with ⟨e, _⟩ | ⟨g', cap', cur, e, _, hb, _⟩
  · rw [e] at hq; cases hq
  · rw [e] at hq
    simp only [Value.ownBlock, Option.some.injEq] at hq
    subst hq
    exact ⟨_, _, hb⟩
theorem RdV.lt {w : World} {v : Value} {us : List Value} (h : RdV w v us) {b o l c : Nat} (e : v = .slice (some ⟨b, o, none⟩) l c) : b < w.heap.size := by
  rcases h with ⟨h, _⟩ | ⟨b', o', cap, e', ⟨h0, h1, h2, h3, h5⟩, h4⟩
  · rw [h] at e; cases e
  · rw [e'] at e
    injection e with e1 e2 e3
    injection e1 with e1
    injection e1 with e1
    omega
/-- A stack that may be nil, put behind an owned row. -/
theorem wpList_append_V {P : Program} {w : World} {ops : Array Oper} {rest : List Oper} {op : Oper} {a : Act} {Q : Exit → Act → World → Prop} (hgd : op.guard = none) (s x : Operand) (t : TypeId)
    (ho : op.op = .call { callee := .builtin .append, args := #[s, x], argTypes := #[t, t] })
    (base : Nat) (e : TypeId) (i : TypeInfo) (z : Value) (bytes : Nat) (ht : P.underlying t = some (.slice e)) (hi : P.info? e = some i) (hz : i.zero = some z)
    (hsize : i.size = 1) (hby : i.bytes = bytes) (hzs : z.cells.size = 1)
    (g0 c0 n : Nat) (xs : List Value) (hs : a.eval s = .slice (some ⟨g0, 0, none⟩) n c0) (hown : w.ownsRow base e 1 (.slice (some ⟨g0, 0, none⟩) n c0) n xs)
    (xv : Value) (us : List Value) (hx : a.eval x = xv) (hr : RdV w xv us) (h1 : ∀ u ∈ us, u.oneCell' = true)
    (h63 : n + us.length ≤ maxLen) (hbytes : (n + us.length) * bytes ≤ 140737488355328) (hbase : base ≤ w.heap.size)
    (h : ∀ g cap w', w'.ownsRow base e 1 (.slice (some ⟨g, 0, none⟩) (n + us.length) cap) (n + us.length) (xs ++ us) → w.grownBy w' (some g0) → (g0 = g ∨ g = w.heap.size) → g < w'.heap.size → wpList P ops Q rest (a.put op.dst (.slice (some ⟨g, 0, none⟩) (n + us.length) cap)) w') : wpList P ops Q (op :: rest) a w := by
  rcases hr with ⟨rfl, rfl⟩ | ⟨b, o, cap, rfl, ⟨h0, h2, h3, h4, _⟩, h5⟩
  · refine wpList_append_own_none hgd s x t ho base e i 1 ht hi _ n xs hs hown hx ?_
    exact h g0 c0 w (by rw [List.append_nil]; exact hown) ⟨rfl, rfl, rfl, Nat.le_refl _, fun _ _ _ => rfl⟩ (.inl rfl) (hown.lt g0 rfl).2
  · refine wpList_append_lies _ hgd s x t ho base e i z 1 bytes ht hi hz hsize hby hzs (by decide) _ n xs hs hown ⟨b, o, none⟩ us.length cap us hx (by omega) (fun j u hj => by rw [addr_add]; exact h5 j u hj) h1 h0 h63 hbytes hbase _ rfl ?_
    intro g c w' a1 a2 a3 a4
    exact h g c w' a1 a2 (a3.imp (fun e => by simpa [Value.ownBlock] using e) id) a4
def pushW (cp : Nat) (us : List Value) (g : Value) : List Value := if cp < us.length + 1 then (us ++ [g]).drop 1 else us ++ [g]
theorem Tryz.infoLR : (Tryz.prog.info? 81).map (fun i => (i.zero, i.size, i.bytes)) = some (some (.slice none 0 0), 1, 24) := by kernel_rfl
def PushS (w : World) (s cp : Nat) (tv mv gv slv lv : Value) (sp : Int) (us : List Value) (w' : World) : Prop :=
  ∃ uv', S6 w' s tv mv uv' gv slv lv sp cp ∧ RdV w' uv' us ∧ ChgP w w' (fun q => q = s) ∧ ∀ b o l c, uv' = .slice (some ⟨b, o, none⟩) l c → w.heap.size ≤ b
set_option maxHeartbeats 2000000 in
set_option maxRecDepth 100000 in
theorem pushS (s cp : Nat) (tv mv uv gv slv lv : Value) (sp : Int) (us : List Value) (ga : Option Addr) (gl gk : Nat) (w : World) (h : S6 w s tv mv uv gv slv lv sp cp) (hu : RdV w uv us) (hone : ∀ u ∈ us, ∃ a l k, u = .slice a l k) (hn : us.length ≤ cp) (hc : 1 ≤ cp ∧ cp ≤ 1000) :
    Calls Tryz.prog 66 #[.pointer (some ⟨s, 0, none⟩), .slice ga gl gk] w fun e w' => e = .returned (.tuple #[]) ∧ PushS w s cp tv mv gv slv lv sp (pushW cp us (.slice ga gl gk)) w' := by
  obtain ⟨i0, hi0, hz0, hz1, hz2⟩ := info_parts Tryz.infoLR
  have H := hide h
  have hs := h.lt
  have hne : ¬ w.heap.size = s := by omega
  obtain ⟨_, _, c2, _, _, _, c7, _⟩ := h.c
  have BA := hide ((Below.refl w.heap.size w).alloc (Nat.le_refl _) (.cells #[] 81))
  have O0 := hide (show (w.alloc (.cells #[] 81)).ownsRow w.heap.size 81 1 (.slice (some ⟨w.heap.size, 0, none⟩) 0 0) 0 [] from World.ownsRow_made w #[] 0 (Nat.le_refl _) (Nat.zero_le _) rfl)
  have sA : (w.alloc (.cells #[] 81)).heap.size = w.heap.size + 1 := by simp
  have HPW := hide (show (if cp < us.length + 1 then (us ++ [Value.slice ga gl gk]).drop 1 else us ++ [Value.slice ga gl gk]) = pushW cp us (.slice ga gl gk) from rfl)
  generalize pushW cp us (.slice ga gl gk) = V at *
  have ONE := hide (show ∀ u ∈ us, u.oneCell' = true from fun u hu => by obtain ⟨a, l, k, rfl⟩ := hone u hu; rfl)
  have RU := hide (hu.kept (w' := w.alloc (.cells #[] 81)) (fun b o l c e => BA.out.block b (hu.lt e)) BA.out.size)
  have HL := hide (show (us ++ [Value.slice ga gl gk]).length = us.length + 1 by simp)
  obtain ⟨n, hN⟩ : ∃ n, n = us.length := ⟨_, rfl⟩
  have HN := hide hN
  rw [← hN] at hn
  clear h hone hu hN
  go_enter Tryz.func66, Tryz.ntmps66
  go_upto_region 1 with (at_builtin; refine wpList_append_V rfl _ _ 80 rfl w.heap.size 81 i0 (.slice none 0 0) 24 Tryz.underlying80 hi0 hz0 hz1 hz2 rfl w.heap.size 0 0 [] rfl (by exact O0.out) uv us rfl (by exact RU.out) (by exact ONE.out) (by rw [← HN.out]; unfold maxLen; omega) (by rw [← HN.out]; omega) (by omega) ?_; intro g1 c1 w1 hown1 hgr1 hgq1 hgl1)
  rw [← HN.out, Nat.zero_add] at hown1
  rw [← HN.out]
  rw [List.nil_append] at hown1
  have G1 := hide (show w.heap.size ≤ g1 from hgq1.elim (fun e => by omega) (fun e => by omega))
  have C1 := hide (show ChgP w w1 (fun q => q = s) from ((ChgP.reflS w _).allocS _).grownS hgr1 (fun q hq => by simp at hq; omega))
  have E1 := hide (show S6 w1 s tv mv uv gv slv lv sp cp from (hgr1.block s (by omega) (fun e => by simp at e; omega)).trans ((BA.out.block s hs).trans H.out))
  have y1 : w.heap.size ≤ w1.heap.size := C1.out.size
  have NC := hide (newcells w1 81 [.slice ga gl gk])
  have BA1 := hide ((Below.refl w1.heap.size w1).alloc (Nat.le_refl _) (.cells #[.slice ga gl gk] 81))
  have O1 := hide (hown1.alloc (.cells #[.slice ga gl gk] 81))
  have s1 : (w1.alloc (.cells #[.slice ga gl gk] 81)).heap.size = w1.heap.size + 1 := by simp
  clear hown1 hgr1 hgq1 O0 RU BA sA c2 c7
  go_upto_region 2 with (at_builtin; refine wpList_append_lies _ rfl _ _ 80 rfl w.heap.size 81 i0 (.slice none 0 0) 1 24 Tryz.underlying80 hi0 hz0 hz1 hz2 rfl (by decide) (.slice (some ⟨g1, 0, none⟩) n c1) n us rfl (by exact O1.out) ⟨w1.heap.size, 0, none⟩ 1 1 [.slice ga gl gk] rfl rfl NC.out (by simp [Value.oneCell']) (by omega) (by unfold maxLen; omega) (by omega) (by omega) _ rfl ?_; intro g2 c2 w2 hown2 hgr2 hgq2 hgl2)
  have G2 := hide (show w.heap.size ≤ g2 from hgq2.elim (fun e => by simp [Value.ownBlock] at e; have := G1.out; omega) (fun e => by rw [e, s1]; omega))
  have C2 := hide (show ChgP w w2 (fun q => q = s) from (C1.out.allocS _).grownS hgr2 (fun q hq => by simp [Value.ownBlock] at hq; have := G1.out; exact .inr (by omega)))
  have E2 := hide (show S6 w2 s tv mv uv gv slv lv sp cp from (hgr2.block s (by omega) (fun e => by simp [Value.ownBlock] at e; have := G1.out; omega)).trans ((BA1.out.block s (by omega)).trans E1.out))
  have O2 := hide hown2
  have hcap : n + 1 ≤ c2 ∧ c2 ≤ maxLen := by
    rcases hown2.2 with ⟨e, _⟩ | ⟨g', cap', cur, e, _, _, h2, h3, _⟩
    · cases e
    · simp only [Value.slice.injEq] at e
      obtain ⟨_, _, rfl⟩ := e
      exact ⟨h2, h3⟩
  have hs2 := E2.out.lt
  obtain ⟨_, _, d2, _, _, _, d7, _⟩ := E2.out.c
  have f2 := E2.out.f 2
  clear hown2 hgr2 hgq2 O1 NC BA1 s1 C1 E1 H
  by_cases hlt : cp < n + 1
  · have hlt' : (cp : Int) < (n : Int) + 1 := by omega
    have hge : ¬ (cp : Int) < (n : Int) + 1 - 1 := by omega
    have hge2 : ¬ (cp : Int) < (n : Int) := by omega
    have hc1 : ¬ c2 = 1 := by omega
    have e1 : n + 1 - 1 = n := by omega
    unfold maxLen at hcap
    refine wp_loop_rounds 2 ?_
    rw [rounds_succ]
    go_wp2
    rw [rounds_succ]
    go_wp2
    go_end0
    refine ⟨rfl, _, E2.out.set2 _, .inr ⟨g2, 1, c2 - 1, ?_, ⟨?_, ?_, ?_, ?_, ?_⟩, fun i u hi => ?_⟩, C2.out.setS ⟨s, 2, none⟩ _ (.inl rfl), fun b o l c e => ?_⟩
    all_goals have hV := HPW.out; rw [← HN.out, if_pos hlt] at hV; have hVl : V.length = n := by rw [← hV, List.length_drop, HL.out, ← HN.out]; omega
    · rw [hVl]
    · omega
    · omega
    · unfold maxLen; omega
    · simp; exact hgl2
    · obtain ⟨cs, fr, h9⟩ := own_ty O2.out (q := g2) rfl
      exact ⟨cs, fr, (heap_setCell_other w2 ⟨s, 2, none⟩ g2 _ (by have := G2.out; show g2 ≠ s; omega)).trans h9⟩
    · rw [World.cell?_of_block (a := ⟨g2, 1 + i, none⟩) (heap_setCell_other w2 ⟨s, 2, none⟩ g2 _ (by have := G2.out; show g2 ≠ s; omega))]
      rw [← hV, List.getElem?_drop] at hi
      have h9 := O2.out.cellAt (1 + i) (by have := (List.getElem?_eq_some_iff.1 hi).1; rw [HL.out, ← HN.out] at this; omega)
      rw [h9, hi]
    · injection e with e1 e2 e3
      injection e1 with e1
      injection e1 with e1
      have := G2.out; omega
  · have hlt' : ¬ (cp : Int) < (n : Int) + 1 := by omega
    refine wp_loop_rounds 1 ?_
    rw [rounds_succ]
    go_wp2
    go_end0
    refine ⟨rfl, _, E2.out.set2 _, .inr ⟨g2, 0, c2, ?_, ⟨?_, ?_, ?_, ?_, ?_⟩, fun i u hi => ?_⟩, C2.out.setS ⟨s, 2, none⟩ _ (.inl rfl), fun b o l c e => ?_⟩
    all_goals have hV := HPW.out; rw [← HN.out, if_neg hlt] at hV; have hVl : V.length = n + 1 := by rw [← hV, HL.out, ← HN.out]
    · rw [hVl]
    · omega
    · omega
    · exact hcap.2
    · simp; exact hgl2
    · obtain ⟨cs, fr, h9⟩ := own_ty O2.out (q := g2) rfl
      exact ⟨cs, fr, (heap_setCell_other w2 ⟨s, 2, none⟩ g2 _ (by have := G2.out; show g2 ≠ s; omega)).trans h9⟩
    · rw [World.cell?_of_block (a := ⟨g2, 0 + i, none⟩) (heap_setCell_other w2 ⟨s, 2, none⟩ g2 _ (by have := G2.out; show g2 ≠ s; omega))]
      rw [← hV] at hi
      have h9 := O2.out.cellAt (0 + i) (by have := (List.getElem?_eq_some_iff.1 hi).1; rw [HL.out, ← HN.out] at this; omega)
      rw [h9, Nat.zero_add, hi]
    · injection e with e1 e2 e3
      injection e1 with e1
      injection e1 with e1
      have := G2.out; omega
end Go.Proofs.YtbkcbhjejkicjaaGreatDoor

namespace Go.Proofs.YtbkcbhjejkicjaaGreatDoor
open Go Go.RowKit Go.Sort Go.BigFrame
set_option linter.unusedVariables false

theorem mixedS : Tryz.prog.follows .mixedOrders = true := by kernel_rfl
theorem below_growS {B : Nat} {w0 w : World} (h : Below B w0 w) (hB : B ≤ w.heap.size) (n : Nat) (os : Array Obj) : Below B w0 (grow (w.drewN n) os) := by
  refine ⟨h.os, h.tape, h.output, Nat.le_trans h.size (by show w.heap.size ≤ (w.heap ++ os).size; simp), fun k hk => ?_⟩
  rw [← h.block k hk]
  show (w.heap ++ os)[k]? = w.heap[k]?
  rw [Array.getElem?_append_left (by omega)]

set_option maxHeartbeats 400000 in
set_option maxRecDepth 100000 in
theorem beforeL (x y : Mk) (w : World) : Calls Tryz.prog 101 #[mkA x, mkA y] w fun e w' => e = .returned (.bool (bef x y)) ∧ ∃ q os', w' = grow (w.drewN q) os' := by
  have HE := hide (show (w.alloc (.cells #[.int .i64 x.1, .int .i64 x.2.1, .int .i64 x.2.2] 120)).alloc (.cells #[.int .i64 y.1, .int .i64 y.2.1, .int .i64 y.2.2] 120) = grow (w.drewN 0) #[.cells #[.int .i64 x.1, .int .i64 x.2.1, .int .i64 x.2.2] 120, .cells #[.int .i64 y.1, .int .i64 y.2.1, .int .i64 y.2.2] 120] by rw [alloc_eq_grow, alloc_eq_grow, grow_grow]; rfl)
  unfold mkA bef
  by_cases h1 : x.2.1 < y.2.1
  · rw [show decide (x.2.1 < y.2.1 ∨ (x.2.1 = y.2.1 ∧ x.1 < y.1)) = true by simp [h1]]
    go_enter Tryz.func101, Tryz.ntmps101
    go_wp2
    go_ret
    exact ⟨rfl, 0, _, HE.out⟩
  · by_cases h2 : x.2.1 = y.2.1
    · have h2' : (x.2.1 == y.2.1) = true := by simpa using h2
      by_cases h3 : x.1 < y.1
      · rw [show decide (x.2.1 < y.2.1 ∨ (x.2.1 = y.2.1 ∧ x.1 < y.1)) = true by simp [h2, h3]]
        clear h2
        go_enter Tryz.func101, Tryz.ntmps101
        go_wp2
        go_ret
        exact ⟨rfl, 0, _, HE.out⟩
      · rw [show decide (x.2.1 < y.2.1 ∨ (x.2.1 = y.2.1 ∧ x.1 < y.1)) = false by simp [h1, h3]]
        clear h2
        go_enter Tryz.func101, Tryz.ntmps101
        go_wp2
        go_ret
        exact ⟨rfl, 0, _, HE.out⟩
    · have h2' : (x.2.1 == y.2.1) = false := by simpa using h2
      rw [show decide (x.2.1 < y.2.1 ∨ (x.2.1 = y.2.1 ∧ x.1 < y.1)) = false by simp [h1, h2]]
      clear h2
      go_enter Tryz.func101, Tryz.ntmps101
      go_wp2
      go_ret
      exact ⟨rfl, 0, _, HE.out⟩

end Go.Proofs.YtbkcbhjejkicjaaGreatDoor

