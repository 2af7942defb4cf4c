import Derived.Test.YtbgngikejgihgadDoorLnI
import Derived.Test.YtbgngikejgihgadDoorLnK
import Derived.WalkKit
import Derived.WalkLawsBesides
namespace Go.Proofs.YtbgngikejgihgadDoor
open Go Go.RowKit
set_option linter.unusedVariables false

theorem Nest.kept {w w' : World} {lo hi B' e' size' n' : Nat} {v' : Value} {vs : List Value} {ls : List (List Int)} {xs' : List Value} (h : Nest w lo hi vs ls) (h' : w.ownsRow B' e' size' v' n' xs') (h2 : 21 ≠ e') (hg : w.grownBy w' v'.ownBlock) : Nest w' lo hi vs ls :=
  ⟨h.len, fun i u l hu hl => own_kept (h.own i u l hu hl) h' h2 hg, h.bl, h.ne⟩
/-- An empty row of its own. -/
theorem own_newS (w : World) (e : TypeId) : (w.alloc (.cells #[] e)).ownsRow w.heap.size e 1 (.slice (some ⟨w.heap.size, 0, none⟩) 0 0) 0 [] := by
  have := World.ownsRow_made (base := w.heap.size) (e := e) (size := 1) w #[] 0 (by simp) (Nat.zero_le _) rfl
  simpa using this
def NN (vs : List Value) : Prop := ∀ v ∈ vs, ∃ a n c, v = .slice (some a) n c
theorem NN.snoc {vs : List Value} {a : Addr} {n c : Nat} (h : NN vs) : NN (vs ++ [.slice (some a) n c]) := by
  intro v hv
  rcases List.mem_append.1 hv with q | q
  · exact h v q
  · simp at q; exact ⟨a, n, c, q⟩

theorem own_val1 {w : World} {base e size : Nat} {v : Value} {n : Nat} {xs : List Value} (h : w.ownsRow base e size v n xs) : ∃ ao cap, v = .slice ao n cap := by
  rcases h.2 with ⟨rfl, h0⟩ | ⟨g, cap, cur, rfl, _⟩
  · exact ⟨none, 0, by rw [h0]⟩
  · exact ⟨_, _, rfl⟩

set_option maxHeartbeats 4000000 in
set_option maxRecDepth 100000 in
theorem rowsS (zs : List Int) (b o cap : Nat) (w : World) (hc : ∀ i, i < zs.length → w.cell? ⟨b, o + i, none⟩ = some (.int .i32 (zs.getD i 0))) (hb : b < w.heap.size) (hn : zs.length ≤ 1048576) (hcap : zs.length ≤ cap) (hm : cap ≤ maxLen) :
    Calls Tryd.prog 43 #[.slice (some ⟨b, o, none⟩) zs.length cap] w fun e w' => ∃ v vals, e = .returned v ∧ w'.ownsRow w.heap.size 22 1 v (lns zs).length vals ∧ Nest w' w.heap.size w'.heap.size vals (lns zs) ∧ NN vals ∧ Below w.heap.size w w' := by
  obtain ⟨i1, hi1, hz10, hz11, hz12⟩ := info_parts Tryd.infoS
  obtain ⟨i0, hi0, hz0, hz1, hz2⟩ := info_parts Tryd.infoG
  have HC := hide hc
  have LL := hide (lns_len zs)
  obtain ⟨LZ, hLZ⟩ : ∃ LZ, LZ = lns zs := ⟨_, rfl⟩
  rw [← hLZ] at LL ⊢
  have HLZ := hide hLZ
  obtain ⟨N, hN⟩ : ∃ N, N = zs.length := ⟨_, rfl⟩
  have HN := hide hN
  rw [← hN] at hn hcap LL HC ⊢
  unfold maxLen at hm
  have A1 := hide ((Below.refl w.heap.size w).alloc (Nat.le_refl _) (.cells #[] 22))
  have A2 := hide (A1.out.alloc (by simp) (.cells #[] 21))
  have O1 := hide ((own_newS w 22).alloc (.cells #[] 21))
  have O2 := hide (own_newS (w.alloc (.cells #[] 22)) 21)
  have e1 : (w.alloc (.cells #[] 22)).heap.size = w.heap.size + 1 := by simp
  have e2 : ((w.alloc (.cells #[] 22)).alloc (.cells #[] 21)).heap.size = w.heap.size + 2 := by simp
  rw [e1] at O2
  clear hc hLZ hN e1
  go_enter Tryd.func43, Tryd.ntmps43
  go_wp2_with fail
  generalize (w.alloc (.cells #[] 22)).alloc (.cells #[] 21) = w0 at *
  go_loopw [3, 4, 11] (fun out row i wr => ∃ (k h : Nat) (L : List (List Int)) (rr : List Int) (vals : List Value) (ga : Addr) (gc : Nat) (ao : Option Addr) (co : Nat), k ≤ N ∧ i = .int .i64 k ∧ w.heap.size ≤ h ∧ h ≤ wr.heap.size ∧ LZ = L ++ gl rr (lns (zs.drop k)) ∧ rr.length ≤ k ∧ row = .slice (some ga) rr.length gc ∧ out = .slice ao L.length co ∧ wr.ownsRow h 21 1 row rr.length (ints .i32 rr) ∧ wr.ownsRow w.heap.size 22 1 out L.length vals ∧ Nest wr w.heap.size h vals L ∧ NN vals ∧ Below w.heap.size w wr)
    (fun _ _ i _ => N - (intOf i).toNat)
  case atStart =>
    exact ⟨0, w.heap.size + 1, [], [], [], ⟨w.heap.size + 1, 0, none⟩, 0, _, _, Nat.zero_le _, rfl, by omega, by omega, by rw [List.drop_zero, gl_start, HLZ.out]; rfl, by simp, rfl, rfl, O2.out, O1.out, Nest.nil _ _ _, fun v hv => by simp at hv, A2.out⟩
  case round =>
    obtain ⟨k, h, L, rr, vals, ga, gc, ao, co, hk, rfl, hwh, hhs, hL, hrr, rfl, rfl, hro, hou, hns, hnn, hbw⟩ := hrel
    have RO := hide hro
    have OU := hide hou
    have NS := hide hns
    have NNV := hide hnn
    have BW := hide hbw
    have HL := hide hL
    have hsz := hbw.size
    have hll : L.length ≤ 1048577 := by have h1 := LL.out.2; have h2 := HL.out; rw [h2, List.length_append] at h1; omega
    by_cases hlt : k < N
    · have hx := (hbw.cell (p := ⟨b, o + k, none⟩) hb).trans (HC.out k hlt)
      have hlt' : (k : Int) < N := by omega
      have DG := drop_get (zs := zs) (k := k) (by rw [← HN.out]; exact hlt)
      rw [DG] at HL
      by_cases h10 : zs.getD k 0 = 10
      · rw [h10] at hx HL
        rw [gl_br] at HL
        have NC := hide (newcells wr 22 [.slice (some ga) rr.length gc])
        have OA := hide (OU.out.alloc (.cells #[.slice (some ga) rr.length gc] 22))
        clear hro hou hns hnn hbw hL DG h10
        go_wp2_with (at_builtin; refine wpList_append_own _ rfl _ _ 80 rfl w.heap.size 22 i1 (.slice none 0 0) 1 24 Tryd.underlying80 hi1 hz10 hz11 hz12 rfl (by decide) _ _ _ rfl OA.out ⟨wr.heap.size, 0, none⟩ 1 1 [.slice (some ga) rr.length gc] rfl rfl NC.out (by intro u hu; simp at hu; subst hu; rfl) (by unfold maxLen; omega) (by omega) (by simp; omega) ?_; intro v2 w2 ho2 hg2 _)
        have BA := (BW.out.alloc (by omega) (.cells #[.slice (some ga) rr.length gc] 22))
        have B2 := hide (BA.grown hg2 (by simp; omega) (fun q hq => (OU.out.lt q hq).1))
        have R2 := hide (own_kept (RO.out.alloc (.cells #[.slice (some ga) rr.length gc] 22)) OA.out (by decide) hg2)
        have N2 := hide ((NS.out.frame (w' := wr.alloc (.cells #[.slice (some ga) rr.length gc] 22)) (fun q _ hq => ((Below.refl wr.heap.size wr).alloc (Nat.le_refl _) (.cells #[.slice (some ga) rr.length gc] 22)).block q (by omega))).kept OA.out (by decide) hg2)
        obtain ⟨ao2, co2, rfl⟩ := own_val1 ho2
        have O2' := hide ho2
        have s2 := B2.out.size
        have s2' : wr.heap.size + 1 ≤ w2.heap.size := by have := hg2.size; simp at this; omega
        clear ho2 hg2 BA
        have B3 := hide (B2.out.alloc (by omega) (.cells #[] 21))
        have E3 := hide (own_newS w2 21)
        have s3 : (w2.alloc (.cells #[] 21)).heap.size = w2.heap.size + 1 := by simp
        go_wp2
        go_roundw
        case rel =>
          refine ⟨k + 1, w2.heap.size, L ++ [rr], [], vals ++ [.slice (some ga) rr.length gc], ⟨w2.heap.size, 0, none⟩, 0, ao2, co2, by omega, by go_num, by omega, by omega, by rw [HL.out]; simp, by simp, rfl, by rw [List.length_append]; rfl, E3.out, ?_, ?_, NNV.out.snoc, B3.out⟩
          · rw [List.length_append]; exact O2'.out.alloc _
          · exact (N2.out.snoc (owns_base R2.out (by omega)) (fun q hq => (R2.out.lt q hq).1) (fun q hq => (R2.out.lt q hq).2) (by omega)).frame (fun q _ hq => ((Below.refl w2.heap.size w2).alloc (Nat.le_refl _) (.cells #[] 21)).block q hq)
        case measure => simp [intOf]; omega
      · rw [gl_in _ _ _ h10] at HL
        generalize zs.getD k 0 = z at *
        have NC := hide (newcells wr 21 [.int .i32 z])
        have OA := hide (RO.out.alloc (.cells #[.int .i32 z] 21))
        clear hro hou hns hnn hbw hL DG
        go_wp2_with (at_builtin; refine wpList_append_own _ rfl _ _ 22 rfl h 21 i0 (.int .i32 0) 1 4 Tryd.underlying22 hi0 hz0 hz1 hz2 rfl (by decide) _ _ _ rfl OA.out ⟨wr.heap.size, 0, none⟩ 1 1 [.int .i32 z] rfl rfl NC.out (ints_one .i32 [z]) (by unfold maxLen; omega) (by omega) (by simp; omega) ?_; intro v2 w2 ho2 hg2 _)
        have BA := (BW.out.alloc (by omega) (.cells #[.int .i32 z] 21))
        have B2 := hide (BA.grown hg2 (by simp; omega) (fun q hq => by have := (OA.out.lt q hq).1; omega))
        have Q2 := hide (own_kept (OU.out.alloc (.cells #[.int .i32 z] 21)) OA.out (by decide) hg2)
        have N2 := hide (NS.out.frame (w' := w2) (fun q _ hq => (hg2.block q (by simp; omega) (fun e => by have := (OA.out.lt q e.symm).1; omega)).trans (((Below.refl wr.heap.size wr).alloc (Nat.le_refl _) (.cells #[.int .i32 z] 21)).block q (by omega))))
        rcases ho2.2 with ⟨_, q⟩ | ⟨g2, c2, cur2, rfl, _⟩
        · omega
        have O2' := hide ho2
        have s2' : wr.heap.size + 1 ≤ w2.heap.size := by have := hg2.size; simp at this; omega
        clear ho2 hg2 BA
        go_wp2
        go_roundw
        case rel =>
          refine ⟨k + 1, h, L, rr ++ [z], vals, ⟨g2, 0, none⟩, c2, ao, co, by omega, by go_num, hwh, by omega, HL.out, by simp; omega, by simp, rfl, ?_, Q2.out, N2.out, NNV.out, B2.out⟩
          rw [List.length_append, ints_append]; exact O2'.out
        case measure => simp [intOf]; omega
    · obtain rfl : k = N := by omega
      have hlt' : ¬ (k : Int) < k := by omega
      rw [List.drop_of_length_le (by rw [← HN.out]; exact Nat.le_refl _), gl_nil] at HL
      have NC := hide (newcells wr 22 [.slice (some ga) rr.length gc])
      have OA := hide (OU.out.alloc (.cells #[.slice (some ga) rr.length gc] 22))
      clear hro hou hns hnn hbw hL
      go_wp2_with (at_builtin; refine wpList_append_own _ rfl _ _ 80 rfl w.heap.size 22 i1 (.slice none 0 0) 1 24 Tryd.underlying80 hi1 hz10 hz11 hz12 rfl (by decide) _ _ _ rfl OA.out ⟨wr.heap.size, 0, none⟩ 1 1 [.slice (some ga) rr.length gc] rfl rfl NC.out (by intro u hu; simp at hu; subst hu; rfl) (by unfold maxLen; omega) (by omega) (by simp; omega) ?_; intro v2 w2 ho2 hg2 _)
      have BA := (BW.out.alloc (by omega) (.cells #[.slice (some ga) rr.length gc] 22))
      have B2 := hide (BA.grown hg2 (by simp; omega) (fun q hq => (OU.out.lt q hq).1))
      have R2 := hide (own_kept (RO.out.alloc (.cells #[.slice (some ga) rr.length gc] 22)) OA.out (by decide) hg2)
      have N2 := hide ((NS.out.frame (w' := wr.alloc (.cells #[.slice (some ga) rr.length gc] 22)) (fun q _ hq => ((Below.refl wr.heap.size wr).alloc (Nat.le_refl _) (.cells #[.slice (some ga) rr.length gc] 22)).block q (by omega))).kept OA.out (by decide) hg2)
      have O2' := hide ho2
      have s2' : wr.heap.size + 1 ≤ w2.heap.size := by have := hg2.size; simp at this; omega
      clear ho2 hg2 BA
      go_wp2
      go_ret
      refine ⟨_, rfl, vals ++ [.slice (some ga) rr.length gc], ?_, ?_, NNV.out.snoc, B2.out⟩
      · rw [HL.out, List.length_append]; exact O2'.out
      · rw [HL.out]; exact N2.out.snoc (owns_base R2.out (by omega)) (fun q hq => (R2.out.lt q hq).1) (fun q hq => (R2.out.lt q hq).2) (by omega)
end Go.Proofs.YtbgngikejgihgadDoor
