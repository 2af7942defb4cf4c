import Derived.Test.YtbgngikejgihgaeGreatDoorImX
namespace Go.Proofs.YtbgngikejgihgaeGreatDoor
open Go Go.RowKit
set_option linter.unusedVariables false

/-- Between two bytes. -/
def CutI (c : UInt8) (l : List UInt8) (N : Nat) (w : World) (out row i : Value) (wr : World) : Prop := ∃ (k h : Nat) (L : List (List UInt8)) (rr : List UInt8) (vals : List Value) (ga : Addr) (gc : Nat) (ao : Option Addr) (co : Nat), k ≤ N ∧ i = .int .i64 k ∧ w.heap.size ≤ h ∧ h ≤ wr.heap.size ∧ cutS c (l.take k) = (L, rr) ∧ row = .slice (some ga) rr.length gc ∧ out = .slice ao L.length co ∧ OwB wr h row (bts rr) ∧ wr.ownsRow w.heap.size 22 1 out L.length vals ∧ NsB wr w.heap.size h vals L ∧ Below w.heap.size w wr

set_option maxHeartbeats 1000000 in
set_option maxRecDepth 100000 in
theorem cutPos (c : UInt8) (l : List UInt8) (b o cap : Nat) (w : World) (hc : ∀ i, i < l.length → w.cell? ⟨b, o + i, none⟩ = some (.int .u8 ((bts l).getD i 0))) (hb : b < w.heap.size) (hn : l.length ≤ 16384) (ao0 : Option Addr) (hao : 0 < l.length → ao0 = some ⟨b, o, none⟩) :
    Calls Tryz.prog 12 #[.slice ao0 l.length cap, .int .u8 (c.toNat : Int)] w fun e w' => ∃ v vals, e = .returned v ∧ w'.ownsRow w.heap.size 22 1 v (cutU c l).length vals ∧ NsB w' w.heap.size w'.heap.size vals (cutU c l) ∧ Below w.heap.size w w' := by
  obtain ⟨i1, hi1, hz10, hz11, hz12⟩ := info_parts Tryz.infoSB
  obtain ⟨i0, hi0, hz0, hz1, hz2⟩ := info_parts Tryz.info8
  have HC := hide hc
  have AO := hide hao
  obtain ⟨N, hN⟩ : ∃ N, N = l.length := ⟨_, rfl⟩
  have HN := hide hN
  rw [← hN] at hn HC AO ⊢
  have A1 := hide ((Below.refl w.heap.size w).alloc (Nat.le_refl _) (.cells #[] 22))
  have A2 := hide (A1.out.alloc (by simp) (.cells #[] 5))
  have O1 := hide ((ownB_newS w 22).alloc (.cells #[] 5))
  have O2 := hide (ownB_newS (w.alloc (.cells #[] 22)) 5)
  have e1 : (w.alloc (.cells #[] 22)).heap.size = w.heap.size + 1 := by simp
  have e2 : ((w.alloc (.cells #[] 22)).alloc (.cells #[] 5)).heap.size = w.heap.size + 2 := by simp
  rw [e1] at O2
  clear hc hN e1 hao
  go_enter Tryz.func12, Tryz.ntmps12
  go_wp2_with fail
  generalize (w.alloc (.cells #[] 22)).alloc (.cells #[] 5) = w0 at *
  go_loopw [5, 6, 13] (CutI c l N w)
    (fun _ _ i _ => N - (intOf i).toNat)
  case atStart =>
    exact ⟨0, w.heap.size + 1, [], [], [], ⟨w.heap.size + 1, 0, none⟩, 0, _, _, Nat.zero_le _, rfl, by omega, by omega, rfl, rfl, rfl, O2.out, O1.out, NsB.nil _ _ _, A2.out⟩
  case round =>
    obtain ⟨k, h, L, rr, vals, ga, gc, ao, co, hk, rfl, hwh, hhs, hL, rfl, rfl, hro, hou, hns, hbw⟩ := hrel
    have RO := hide hro
    have OU := hide hou
    have NS := hide hns
    have BW := hide hbw
    have HL := hide hL
    have hsz := hbw.size
    have hll : L.length ≤ 16384 ∧ rr.length ≤ 16384 := by
      have h1 := cutS_len c (l.take k)
      have h2 : (l.take k).length ≤ 16384 := by rw [List.length_take, ← HN.out]; omega
      rw [hL] at h1
      simp only at h1
      omega
    obtain ⟨hl1, hl2⟩ := hll
    by_cases hlt : k < N
    · have hlk : k < l.length := by rw [← HN.out]; exact hlt
      have hx := (hbw.cell (p := ⟨b, o + k, none⟩) hb).trans (HC.out k hlt)
      rw [bts_get l k hlk] at hx
      have CN := hide (cut_next c l k hlk)
      rw [hL] at CN
      have hlt' : (k : Int) < N := by omega
      have hao1 := AO.out (by omega)
      subst hao1
      generalize l.getD k 0 = x at *
      by_cases hxc : x = c
      · subst hxc
        have CN2 := hide (show cutS x (l.take (k + 1)) = (L ++ [rr], []) by rw [CN.out]; unfold cutF; rw [if_pos rfl])
        have NC := hide (newcells wr 22 [.slice (some ga) rr.length gc])
        have OA := hide (OU.out.alloc (.cells #[.slice (some ga) rr.length gc] 22))
        clear hro hou hns hbw hL CN
        go_wp2_with (at_builtin; refine wpList_append_own _ rfl _ _ 35 rfl w.heap.size 22 i1 (.slice none 0 0) 1 24 Tryz.underlying35 hi1 hz10 hz11 hz12 rfl (by decide) _ _ _ rfl OA.out ⟨wr.heap.size, 0, none⟩ 1 1 [.slice (some ga) rr.length gc] rfl rfl NC.out (by intro u hu; simp at hu; subst hu; rfl) (by unfold maxLen; omega) (by omega) (by simp; omega) ?_; intro v2 w2 ho2 hg2 _)
        have BA := (BW.out.alloc (by omega) (.cells #[.slice (some ga) rr.length gc] 22))
        have B2 := hide (BA.grown hg2 (by simp; omega) (fun q hq => (OU.out.lt q hq).1))
        have R2 := hide (ownB_kept (RO.out.alloc (.cells #[.slice (some ga) rr.length gc] 22)) OA.out (by decide) hg2)
        have N2 := hide ((NS.out.frame (w' := wr.alloc (.cells #[.slice (some ga) rr.length gc] 22)) (fun q _ hq => ((Below.refl wr.heap.size wr).alloc (Nat.le_refl _) (.cells #[.slice (some ga) rr.length gc] 22)).block q (by omega))).kept OA.out (by decide) hg2)
        obtain ⟨ao2, co2, rfl⟩ := ownB_val1 ho2
        have O2' := hide ho2
        have s2 := B2.out.size
        have s2' : wr.heap.size + 1 ≤ w2.heap.size := by have := hg2.size; simp at this; omega
        clear ho2 hg2 BA
        have B3 := hide (B2.out.alloc (by omega) (.cells #[] 5))
        have E3 := hide (ownB_newS w2 5)
        have s3 : (w2.alloc (.cells #[] 5)).heap.size = w2.heap.size + 1 := by simp
        go_wp2
        go_roundw
        case rel =>
          refine ⟨k + 1, w2.heap.size, L ++ [rr], [], vals ++ [.slice (some ga) rr.length gc], ⟨w2.heap.size, 0, none⟩, 0, ao2, co2, by omega, by go_num, by omega, by omega, CN2.out, rfl, by rw [List.length_append]; rfl, E3.out, ?_, ?_, B3.out⟩
          · rw [List.length_append]; exact O2'.out.alloc _
          · exact (N2.out.snoc (owns_base (show OwB w2 h _ (bts rr) from R2.out) (by omega)) (fun q hq => (R2.out.lt q hq).2) (by omega)).frame (fun q _ hq => ((Below.refl w2.heap.size w2).alloc (Nat.le_refl _) (.cells #[] 5)).block q hq)
        case measure => simp [intOf]; omega
      · have CN2 := hide (show cutS c (l.take (k + 1)) = (L, rr ++ [x]) by rw [CN.out]; unfold cutF; rw [if_neg hxc])
        have hz' : ((x.toNat : Int) == (c.toNat : Int)) = false := by rw [beq_eq_false_iff_ne]; exact fun e => hxc (UInt8.toNat_inj.1 (by omega))
        have RO' := hide (show wr.ownsRow h 5 1 (.slice (some ga) rr.length gc) rr.length (ints .u8 (bts rr)) from (by have h9 := RO.out; unfold OwB at h9; rwa [bts_length] at h9))
        have BX := hide (show bts (rr ++ [x]) = bts rr ++ [(x.toNat : Int)] from bts_append rr [x])
        generalize (x.toNat : Int) = z at *
        have NC := hide (newcells wr 5 [.int .u8 z])
        have OA := hide (RO'.out.alloc (.cells #[.int .u8 z] 5))
        clear hro hou hns hbw hL CN hxc
        go_wp2_with (at_builtin; refine wpList_append_own _ rfl _ _ 22 rfl h 5 i0 (.int .u8 0) 1 1 Tryz.underlying22 hi0 hz0 hz1 hz2 rfl (by decide) _ _ _ rfl OA.out ⟨wr.heap.size, 0, none⟩ 1 1 [.int .u8 z] rfl rfl NC.out (ints_one .u8 [z]) (by unfold maxLen; omega) (by omega) (by simp; omega) ?_; intro v2 w2 ho2 hg2 _)
        have BA := (BW.out.alloc (by omega) (.cells #[.int .u8 z] 5))
        have B2 := hide (BA.grown hg2 (by simp; omega) (fun q hq => by have := (OA.out.lt q hq).1; omega))
        have Q2 := hide (ownB_kept (OU.out.alloc (.cells #[.int .u8 z] 5)) OA.out (by decide) hg2)
        have N2 := hide (NS.out.frame (w' := w2) (fun q _ hq => (hg2.block q (by simp; omega) (fun e => by have := (OA.out.lt q e.symm).1; omega)).trans (((Below.refl wr.heap.size wr).alloc (Nat.le_refl _) (.cells #[.int .u8 z] 5)).block q (by omega))))
        rcases ho2.2 with ⟨_, q⟩ | ⟨g2, c2, cur2, rfl, _⟩
        · omega
        have O2' := hide ho2
        have s2' : wr.heap.size + 1 ≤ w2.heap.size := by have := hg2.size; simp at this; omega
        clear ho2 hg2 BA
        go_wp2
        go_roundw
        case rel =>
          refine ⟨k + 1, h, L, rr ++ [x], vals, ⟨g2, 0, none⟩, c2, ao, co, by omega, by go_num, hwh, by omega, CN2.out, by simp, rfl, ?_, Q2.out, N2.out, B2.out⟩
          unfold OwB
          rw [BX.out, List.length_append, ints_append, bts_length]; exact O2'.out
        case measure => simp [intOf]; omega
    · obtain rfl : k = N := by omega
      have hlt' : ¬ (k : Int) < k := by omega
      have CU := hide (show cutU c l = L ++ [rr] by
        have h9 := HL.out
        rw [List.take_of_length_le (by rw [← HN.out]; exact Nat.le_refl _)] at h9
        unfold cutU; rw [h9])
      have NC := hide (newcells wr 22 [.slice (some ga) rr.length gc])
      have OA := hide (OU.out.alloc (.cells #[.slice (some ga) rr.length gc] 22))
      clear hro hou hns hbw hL
      go_wp2_with (at_builtin; refine wpList_append_own _ rfl _ _ 35 rfl w.heap.size 22 i1 (.slice none 0 0) 1 24 Tryz.underlying35 hi1 hz10 hz11 hz12 rfl (by decide) _ _ _ rfl OA.out ⟨wr.heap.size, 0, none⟩ 1 1 [.slice (some ga) rr.length gc] rfl rfl NC.out (by intro u hu; simp at hu; subst hu; rfl) (by unfold maxLen; omega) (by omega) (by simp; omega) ?_; intro v2 w2 ho2 hg2 _)
      have BA := (BW.out.alloc (by omega) (.cells #[.slice (some ga) rr.length gc] 22))
      have B2 := hide (BA.grown hg2 (by simp; omega) (fun q hq => (OU.out.lt q hq).1))
      have R2 := hide (ownB_kept (RO.out.alloc (.cells #[.slice (some ga) rr.length gc] 22)) OA.out (by decide) hg2)
      have N2 := hide ((NS.out.frame (w' := wr.alloc (.cells #[.slice (some ga) rr.length gc] 22)) (fun q _ hq => ((Below.refl wr.heap.size wr).alloc (Nat.le_refl _) (.cells #[.slice (some ga) rr.length gc] 22)).block q (by omega))).kept OA.out (by decide) hg2)
      have O2' := hide ho2
      have s2' : wr.heap.size + 1 ≤ w2.heap.size := by have := hg2.size; simp at this; omega
      clear ho2 hg2 BA
      go_wp2
      go_ret
      refine ⟨_, rfl, vals ++ [.slice (some ga) rr.length gc], ?_, ?_, B2.out⟩
      · rw [CU.out, List.length_append]; exact O2'.out
      · rw [CU.out]; exact N2.out.snoc (owns_base (show OwB w2 h _ (bts rr) from R2.out) (by omega)) (fun q hq => (R2.out.lt q hq).2) (by omega)
end Go.Proofs.YtbgngikejgihgaeGreatDoor
