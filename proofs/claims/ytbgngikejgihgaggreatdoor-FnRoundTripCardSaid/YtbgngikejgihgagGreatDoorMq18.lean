import Derived.Test.YtbgngikejgihgagGreatDoorMq17
import Derived.Lib.Hide
namespace Go.Proofs.YtbgngikejgihgagGreatDoor
open Go Go.RowKit
set_option linter.unusedVariables false

theorem itVs_take {X : List It} (k : Nat) {b : Nat} {w : World} (hc : ∀ j u, (itVs X)[j]? = some u → w.cell? ((⟨b, 0, none⟩ : Addr).add j) = some u) : ∀ j u, (itVs (X.take k))[j]? = some u → w.cell? ((⟨b, 0, none⟩ : Addr).add j) = some u := by
  intro j u hj
  refine hc j u ?_
  have e : itVs X = itVs (X.take k) ++ itVs (X.drop k) := by rw [← itVs_append, List.take_append_drop]
  rw [e, List.getElem?_append_left (by
    rcases Nat.lt_or_ge j (itVs (X.take k)).length with g | g
    · exact g
    · rw [List.getElem?_eq_none g] at hj; cases hj)]
  exact hj
theorem itVs_drop {X : List It} (k : Nat) (hk : k ≤ X.length) {b : Nat} {w : World} (hc : ∀ j u, (itVs X)[j]? = some u → w.cell? ((⟨b, 0, none⟩ : Addr).add j) = some u) : ∀ j u, (itVs (X.drop k))[j]? = some u → w.cell? ((⟨b, k * 4, none⟩ : Addr).add j) = some u := by
  intro j u hj
  have e : itVs X = itVs (X.take k) ++ itVs (X.drop k) := by rw [← itVs_append, List.take_append_drop]
  have hl : (itVs (X.take k)).length = k * 4 := by rw [itVs_length, List.length_take]; omega
  have h1 := hc (k * 4 + j) u (by rw [e, List.getElem?_append_right (by omega), hl, show k * 4 + j - k * 4 = j by omega]; exact hj)
  rw [addr_add] at h1 ⊢
  rw [Nat.zero_add] at h1; exact h1

set_option maxHeartbeats 4000000 in
set_option maxRecDepth 100000 in
theorem insertS (T : AT) (k : Nat) (q : Pc) (base b cap : Nat) (w : World) (hb : T.bal) (hn : T.its ≤ 8192) (hk : k ≤ T.its) (ho : OwI w base (.slice (some ⟨b, 0, none⟩) T.its cap) (T.told 0)) :
    Calls Tryz.prog 133 #[.slice (some ⟨b, 0, none⟩) T.its cap, .int .i64 (k : Int), pcV q] w fun e w' => ∃ v', e = .returned v' ∧ OwI w' w.heap.size v' ((T.ins k q).told 0) ∧ Below w.heap.size w w' := by
  obtain ⟨i0, hi, hz0, hz1, hz2⟩ := info_parts Tryz.infoIT
  have hlen := AT.told_length T 0
  obtain ⟨hcap, hcm⟩ : T.its ≤ cap ∧ cap ≤ maxLen := by
    rcases ho.2 with ⟨h1, _⟩ | ⟨g, cp, cur, h1, _, _, h2, h3, _⟩
    · cases h1
    · rw [hlen] at h1 h2; cases h1; exact ⟨h2, h3⟩
  have hlt := (ho.lt b rfl).2
  have A0 := hide ((Below.refl w.heap.size w).alloc (Nat.le_refl _) (.cells #[.int .i64 q.off, .int .i64 q.len, .int .i64 q.brk] 143))
  have K0 := hide (show (w.alloc (.cells #[.int .i64 q.off, .int .i64 q.len, .int .i64 q.brk] 143)).heap[w.heap.size]? = some (.cells #[.int .i64 q.off, .int .i64 q.len, .int .i64 q.brk] 143 (0, 0)) from heap_alloc_new _ _)
  have ho0 : OwI (w.alloc (.cells #[.int .i64 q.off, .int .i64 q.len, .int .i64 q.brk] 143)) base (.slice (some ⟨b, 0, none⟩) T.its cap) (T.told 0) := owns_below ho A0.out (Nat.le_refl _)
  have RC := hide (fun j u hj => (show OwI (w.alloc (.cells #[.int .i64 q.off, .int .i64 q.len, .int .i64 q.brk] 143)) base (.slice (some ⟨b, 0, none⟩) (T.told 0).length cap) (T.told 0) from (by rw [hlen]; exact ho0)).cells j u hj)
  have LV := hide (fun j x (hx : (T.told 0)[j]? = some x) => show (w.alloc (.cells #[.int .i64 q.off, .int .i64 q.len, .int .i64 q.brk] 143)).cell? ⟨b, j * 4 + 3, none⟩ = some (.int .i64 x.lv) from OwI.lv (by have h9 := ho0; unfold OwI at h9; rw [hlen] at h9; exact h9) hx)
  have BD := hide (lv_told T (by omega))
  have GE := hide (fun j (hj : j < T.its) => (show ∃ x, (T.told 0)[j]? = some x from ⟨_, List.getElem?_eq_getElem (by omega)⟩))
  have IL := hide (show AT.insLv 0 (T.told 0) k = AT.nb (T.told 0)[k]? (AT.nb (if k = 0 then none else (T.told 0)[k - 1]?) 0) from rfl)
  have NK := hide (show T.its ≤ k → (T.told 0)[k]? = none from fun h => List.getElem?_eq_none (by omega))
  have HFX := hide (AT.ins_fx T k q hb)
  have TLD := hide (AT.insR_told T 0 k q hk)
  have IRN := hide (show (AT.insR T k q).its = T.its + 1 from (by have h9 := AT.told_length (AT.insR T k q) 0; rw [AT.insR_told T 0 k q hk] at h9; simp only [List.length_append, List.length_cons, List.length_take, List.length_drop, hlen] at h9; omega))
  have hth := AT.ht_its T
  generalize AT.insR T k q = R at *
  generalize AT.ins T k q = U at *
  have HTH := hide hth
  generalize hX : T.told 0 = X at *
  generalize T.ht = th at *
  generalize T.its = n at *
  have TK := hide (show (X.take k).length = k from (by rw [List.length_take]; omega))
  have DR := hide (show (X.drop k).length = n - k from (by rw [List.length_drop]; omega))
  have CP := hide (copyS (X.take k) b 0 cap (w.alloc (.cells #[.int .i64 q.off, .int .i64 q.len, .int .i64 q.brk] 143)) (itVs_take k RC.out) (by simp; omega) (by rw [TK.out]; omega))
  rw [TK.out] at CP
  have DC := hide (itVs_drop k (by omega) RC.out)
  have hs0 : w.heap.size < (w.alloc (.cells #[.int .i64 q.off, .int .i64 q.len, .int .i64 q.brk] 143)).heap.size := by simp
  have hkc : (k : Int) ≤ (cap : Int) := by omega
  have hbl : b < (w.alloc (.cells #[.int .i64 q.off, .int .i64 q.len, .int .i64 q.brk] 143)).heap.size := by omega
  have HLEN := hide hlen
  unfold maxLen at hcm
  unfold pcV
  clear hb ho ho0 hX hth hlen
  generalize AT.insLv 0 X k = lev at *
  have BX := hide (show ∀ (j : Nat) (x : It), X[j]? = some x → 0 ≤ x.lv ∧ x.lv ≤ 1000000 from fun j x hx => BD.out x (List.mem_iff_getElem?.2 ⟨j, hx⟩))
  by_cases hk0 : k = 0
  · subst hk0
    have HK9 := hide (rfl : (0 : Nat) = 0)
    by_cases hkn : 0 < n
    · obtain ⟨y, hy⟩ := GE.out 0 hkn
      have cy := LV.out 0 y hy
      rw [Nat.zero_mul, Nat.zero_add] at cy
      have hyb := BX.out 0 y hy
      have HY := hide hy
      generalize hly : y.lv = ly at *
      have HLY := hide hly
      have gn : (0 : Int) < (n : Int) := by omega
      have gl : (0 : Int) < ly + 1 := by omega
      clear hy hly
      skip
      have HE := hide (show lev = ly + 1 from (by rw [IL.out]; rw [if_pos HK9.out, HY.out, AT.nb_none, AT.nb_some, HLY.out]; omega))
      go_enter Tryz.func133, Tryz.ntmps133
      go_wp2_with fail
      generalize w.alloc (.cells #[.int .i64 q.off, .int .i64 q.len, .int .i64 q.brk] 143) = w0 at *
      refine CP.out.mono ?_
      rintro e w1 ⟨g, cp, rfl, ho1, hb1⟩
      have s1 := hb1.size
      have B1 := hide (A0.out.trans (hb1.mono (by omega)))
      have K1 := (hb1.block w.heap.size hs0).trans K0.out
      have d0 : w1.cell? ⟨w.heap.size, 0, none⟩ = some (.int .i64 q.off) := by rw [cell_of_row w1 _ 0 _ _ _ K1]; rfl
      have d1 : w1.cell? ⟨w.heap.size, 1, none⟩ = some (.int .i64 q.len) := by rw [cell_of_row w1 _ 1 _ _ _ K1]; rfl
      have d2 : w1.cell? ⟨w.heap.size, 2, none⟩ = some (.int .i64 q.brk) := by rw [cell_of_row w1 _ 2 _ _ _ K1]; rfl
      have O1 := hide (show w1.ownsRow w0.heap.size 145 4 (.slice (some ⟨g, 0, none⟩) 0 cp) 0 (itVs (X.take (0))) from (by have h9 := ho1; unfold OwI at h9; rw [TK.out] at h9; exact h9))
      have D1 := hide (fun j u hj => (show w1.cell? ((⟨b, (0) * 4, none⟩ : Addr).add j) = some u from (by have h9 := DC.out j u hj; rw [addr_add] at h9 ⊢; exact (hb1.cell (p := ⟨b, (0) * 4 + j, none⟩) hbl).trans h9)))
      have NC := hide (newcells w1 145 [.int .i64 q.off, .int .i64 q.len, .int .i64 q.brk, .int .i64 (ly + 1)])
      clear ho1 hb1 K1 CP DC
      go_wp2_with (at_builtin; refine wpList_append_own _ rfl _ _ 65 rfl w0.heap.size 145 i0 (.agg #[.int .i64 0, .int .i64 0, .int .i64 0, .int .i64 0]) 4 32 Tryz.underlying65 hi hz0 hz1 hz2 rfl (by decide) _ (0) _ rfl (by exact World.ownsRow.alloc O1.out _) ⟨w1.heap.size, 0, none⟩ 1 1 [.int .i64 q.off, .int .i64 q.len, .int .i64 q.brk, .int .i64 (ly + 1)] rfl rfl (by exact NC.out) (by intro u hu; simp at hu; rcases hu with rfl | rfl | rfl | rfl <;> rfl) (by unfold maxLen; omega) (by omega) (by simp; omega) ?_; intro v2 w2 ho2 hg2 _; refine Hid.out ?_)
      refine Lib.hid ?_
      have A2 := hide ((Below.refl w0.heap.size w1).alloc s1 (.cells #[.int .i64 q.off, .int .i64 q.len, .int .i64 q.brk, .int .i64 (ly + 1)] 145))
      have B2 := hide (B1.out.trans ((A2.out.grown hg2 (by simp; omega) (fun q hq => (O1.out.lt q hq).1)).mono (by omega)))
      have C2 := hide (A2.out.grown hg2 (by simp; omega) (fun q hq => (O1.out.lt q hq).1))
      have s2 := C2.out.size
      have D2 := hide (fun j u hj => (show w2.cell? ((⟨b, (0) * 4, none⟩ : Addr).add j) = some u from (by have h9 := D1.out j u hj; rw [addr_add] at h9 ⊢; exact (C2.out.cell (p := ⟨b, (0) * 4 + j, none⟩) hbl).trans h9)))
      obtain ⟨g2, cp2, rfl⟩ : ∃ g c, v2 = .slice (some ⟨g, 0, none⟩) (0 + 1) c := by
        rcases ho2.2 with ⟨_, h0⟩ | ⟨g, c, cur, h1, _⟩
        · omega
        · exact ⟨_, _, h1⟩
      have O2 := hide ho2
      clear ho2 hg2 NC D1 A2
      go_wp2_with (at_builtin; refine wpList_append_own _ rfl _ _ 65 rfl w0.heap.size 145 i0 (.agg #[.int .i64 0, .int .i64 0, .int .i64 0, .int .i64 0]) 4 32 Tryz.underlying65 hi hz0 hz1 hz2 rfl (by decide) _ (0 + 1) _ rfl (by exact O2.out) ⟨b, 0, none⟩ (n) (cap) (itVs (X.drop (0))) rfl (by rw [itVs_length, DR.out, Nat.sub_zero]) (by exact D2.out) (itVs_one _) (by unfold maxLen; omega) (by omega) (by omega) ?_; intro v3 w3 ho3 hg3 _; refine Hid.out ?_)
      refine Lib.hid ?_
      have B3 := hide (B2.out.trans (((Below.refl w0.heap.size w2).grown hg3 (by omega) (fun q hq => (O2.out.lt q hq).1)).mono (by omega)))
      have s3 := hg3.size
      have ho4 : OwI w3 w0.heap.size v3 (R.told 0) := by
        have h9 := ho3
        rw [show 0 + 1 + (n) = n + 1 by omega] at h9
        unfold OwI
        rw [AT.told_length, IRN.out, TLD.out, HE.out]
        have e9 : itVs (X.take (0) ++ ⟨q, ly + 1⟩ :: X.drop (0)) = itVs (X.take (0)) ++ [.int .i64 q.off, .int .i64 q.len, .int .i64 q.brk, .int .i64 (ly + 1)] ++ itVs (X.drop (0)) := by simp [itVs, itV]
        rw [e9]; exact h9
      obtain ⟨hv3, hc3, hm3⟩ : ∃ g3 c3, v3 = .slice (some ⟨g3, 0, none⟩) (n + 1) c3 ∧ n + 1 ≤ c3 ∧ c3 ≤ maxLen := by
        rcases ho4.2 with ⟨_, h0⟩ | ⟨g3, c3, cur, h1, _, _, h2, h3, _⟩
        · rw [AT.told_length, IRN.out] at h0; omega
        · rw [AT.told_length, IRN.out] at h1 h2; exact ⟨g3, c3, h1, h2, h3⟩
      obtain ⟨rfl, hc4, hc5⟩ := hm3
      obtain ⟨mm, hmm, hfx⟩ := HFX.out
      have RP := hide (repairS w0.heap.size hv3 hc3 (n + 1) U ⟨hc4, hc5⟩ (by omega) mm R w3 IRN.out hfx (by have := HTH.out; omega) ho4)
      have L4 := hide (fun q hq => (ho4.lt q hq).1)
      clear ho3 hg3 ho4 hfx
      go_wp2_with fail
      refine RP.out.mono ?_
      rintro e w5 ⟨rfl, ho5, hg5⟩
      have B5 := hide (B3.out.trans (((Below.refl w0.heap.size w3).grown hg5 (by omega) (fun q hq => by have h1 := L4.out q (by simpa [Value.ownBlock] using hq); omega)).mono (by omega)))
      have O5 := hide (owns_base ho5 (show w.heap.size ≤ w0.heap.size by omega))
      clear ho5 hg5
      go_wp2
      go_ret
      exact ⟨_, rfl, O5.out, B5.out⟩
    · have gn : ¬ (0 : Int) < (n : Int) := by omega
      skip
      have HE := hide (show lev = 0 from (by rw [IL.out]; rw [if_pos HK9.out, NK.out (by omega)]; rfl))
      go_enter Tryz.func133, Tryz.ntmps133
      go_wp2_with fail
      generalize w.alloc (.cells #[.int .i64 q.off, .int .i64 q.len, .int .i64 q.brk] 143) = w0 at *
      refine CP.out.mono ?_
      rintro e w1 ⟨g, cp, rfl, ho1, hb1⟩
      have s1 := hb1.size
      have B1 := hide (A0.out.trans (hb1.mono (by omega)))
      have K1 := (hb1.block w.heap.size hs0).trans K0.out
      have d0 : w1.cell? ⟨w.heap.size, 0, none⟩ = some (.int .i64 q.off) := by rw [cell_of_row w1 _ 0 _ _ _ K1]; rfl
      have d1 : w1.cell? ⟨w.heap.size, 1, none⟩ = some (.int .i64 q.len) := by rw [cell_of_row w1 _ 1 _ _ _ K1]; rfl
      have d2 : w1.cell? ⟨w.heap.size, 2, none⟩ = some (.int .i64 q.brk) := by rw [cell_of_row w1 _ 2 _ _ _ K1]; rfl
      have O1 := hide (show w1.ownsRow w0.heap.size 145 4 (.slice (some ⟨g, 0, none⟩) 0 cp) 0 (itVs (X.take (0))) from (by have h9 := ho1; unfold OwI at h9; rw [TK.out] at h9; exact h9))
      have D1 := hide (fun j u hj => (show w1.cell? ((⟨b, (0) * 4, none⟩ : Addr).add j) = some u from (by have h9 := DC.out j u hj; rw [addr_add] at h9 ⊢; exact (hb1.cell (p := ⟨b, (0) * 4 + j, none⟩) hbl).trans h9)))
      have NC := hide (newcells w1 145 [.int .i64 q.off, .int .i64 q.len, .int .i64 q.brk, .int .i64 (0)])
      clear ho1 hb1 K1 CP DC
      go_wp2_with (at_builtin; refine wpList_append_own _ rfl _ _ 65 rfl w0.heap.size 145 i0 (.agg #[.int .i64 0, .int .i64 0, .int .i64 0, .int .i64 0]) 4 32 Tryz.underlying65 hi hz0 hz1 hz2 rfl (by decide) _ (0) _ rfl (by exact World.ownsRow.alloc O1.out _) ⟨w1.heap.size, 0, none⟩ 1 1 [.int .i64 q.off, .int .i64 q.len, .int .i64 q.brk, .int .i64 (0)] rfl rfl (by exact NC.out) (by intro u hu; simp at hu; rcases hu with rfl | rfl | rfl | rfl <;> rfl) (by unfold maxLen; omega) (by omega) (by simp; omega) ?_; intro v2 w2 ho2 hg2 _; refine Hid.out ?_)
      refine Lib.hid ?_
      have A2 := hide ((Below.refl w0.heap.size w1).alloc s1 (.cells #[.int .i64 q.off, .int .i64 q.len, .int .i64 q.brk, .int .i64 (0)] 145))
      have B2 := hide (B1.out.trans ((A2.out.grown hg2 (by simp; omega) (fun q hq => (O1.out.lt q hq).1)).mono (by omega)))
      have C2 := hide (A2.out.grown hg2 (by simp; omega) (fun q hq => (O1.out.lt q hq).1))
      have s2 := C2.out.size
      have D2 := hide (fun j u hj => (show w2.cell? ((⟨b, (0) * 4, none⟩ : Addr).add j) = some u from (by have h9 := D1.out j u hj; rw [addr_add] at h9 ⊢; exact (C2.out.cell (p := ⟨b, (0) * 4 + j, none⟩) hbl).trans h9)))
      obtain ⟨g2, cp2, rfl⟩ : ∃ g c, v2 = .slice (some ⟨g, 0, none⟩) (0 + 1) c := by
        rcases ho2.2 with ⟨_, h0⟩ | ⟨g, c, cur, h1, _⟩
        · omega
        · exact ⟨_, _, h1⟩
      have O2 := hide ho2
      clear ho2 hg2 NC D1 A2
      go_wp2_with (at_builtin; refine wpList_append_own _ rfl _ _ 65 rfl w0.heap.size 145 i0 (.agg #[.int .i64 0, .int .i64 0, .int .i64 0, .int .i64 0]) 4 32 Tryz.underlying65 hi hz0 hz1 hz2 rfl (by decide) _ (0 + 1) _ rfl (by exact O2.out) ⟨b, 0, none⟩ (n) (cap) (itVs (X.drop (0))) rfl (by rw [itVs_length, DR.out, Nat.sub_zero]) (by exact D2.out) (itVs_one _) (by unfold maxLen; omega) (by omega) (by omega) ?_; intro v3 w3 ho3 hg3 _; refine Hid.out ?_)
      refine Lib.hid ?_
      have B3 := hide (B2.out.trans (((Below.refl w0.heap.size w2).grown hg3 (by omega) (fun q hq => (O2.out.lt q hq).1)).mono (by omega)))
      have s3 := hg3.size
      have ho4 : OwI w3 w0.heap.size v3 (R.told 0) := by
        have h9 := ho3
        rw [show 0 + 1 + (n) = n + 1 by omega] at h9
        unfold OwI
        rw [AT.told_length, IRN.out, TLD.out, HE.out]
        have e9 : itVs (X.take (0) ++ ⟨q, 0⟩ :: X.drop (0)) = itVs (X.take (0)) ++ [.int .i64 q.off, .int .i64 q.len, .int .i64 q.brk, .int .i64 (0)] ++ itVs (X.drop (0)) := by simp [itVs, itV]
        rw [e9]; exact h9
      obtain ⟨hv3, hc3, hm3⟩ : ∃ g3 c3, v3 = .slice (some ⟨g3, 0, none⟩) (n + 1) c3 ∧ n + 1 ≤ c3 ∧ c3 ≤ maxLen := by
        rcases ho4.2 with ⟨_, h0⟩ | ⟨g3, c3, cur, h1, _, _, h2, h3, _⟩
        · rw [AT.told_length, IRN.out] at h0; omega
        · rw [AT.told_length, IRN.out] at h1 h2; exact ⟨g3, c3, h1, h2, h3⟩
      obtain ⟨rfl, hc4, hc5⟩ := hm3
      obtain ⟨mm, hmm, hfx⟩ := HFX.out
      have RP := hide (repairS w0.heap.size hv3 hc3 (n + 1) U ⟨hc4, hc5⟩ (by omega) mm R w3 IRN.out hfx (by have := HTH.out; omega) ho4)
      have L4 := hide (fun q hq => (ho4.lt q hq).1)
      clear ho3 hg3 ho4 hfx
      go_wp2_with fail
      refine RP.out.mono ?_
      rintro e w5 ⟨rfl, ho5, hg5⟩
      have B5 := hide (B3.out.trans (((Below.refl w0.heap.size w3).grown hg5 (by omega) (fun q hq => by have h1 := L4.out q (by simpa [Value.ownBlock] using hq); omega)).mono (by omega)))
      have O5 := hide (owns_base ho5 (show w.heap.size ≤ w0.heap.size by omega))
      clear ho5 hg5
      go_wp2
      go_ret
      exact ⟨_, rfl, O5.out, B5.out⟩
  · obtain ⟨m, rfl⟩ : ∃ m, k = m + 1 := ⟨k - 1, by omega⟩
    obtain ⟨x, hx⟩ := GE.out m (by omega)
    have cx := LV.out m x hx
    have hxb := BX.out m x hx
    have HXX := hide hx
    generalize hlx : x.lv = lx at *
    have HLX := hide hlx
    have gk : (0 : Int) < (m : Int) + 1 := by omega
    have gm : (m : Int) < (n : Int) := by omega
    have gl0 : (0 : Int) < lx + 1 := by omega
    have hkc2 : (m : Int) + 1 ≤ (cap : Int) := by omega
    clear hx hlx
    by_cases hkn : m + 1 < n
    · obtain ⟨y, hy⟩ := GE.out (m + 1) hkn
      have cy := LV.out (m + 1) y hy
      have hyb := BX.out (m + 1) y hy
      have HY := hide hy
      generalize hly : y.lv = ly at *
      have HLY := hide hly
      have gn : (m : Int) + 1 < (n : Int) := by omega
      clear hy hly
      by_cases hyx : lx + 1 < ly + 1
      · have gyx : lx + 1 < ly + 1 := hyx
        have HE := hide (show lev = ly + 1 from (by rw [IL.out]; rw [if_neg (by omega), HY.out, Nat.add_sub_cancel, HXX.out, AT.nb_some, AT.nb_some, HLX.out, HLY.out]; omega))
        go_enter Tryz.func133, Tryz.ntmps133
        go_wp2_with fail
        generalize w.alloc (.cells #[.int .i64 q.off, .int .i64 q.len, .int .i64 q.brk] 143) = w0 at *
        refine CP.out.mono ?_
        rintro e w1 ⟨g, cp, rfl, ho1, hb1⟩
        have s1 := hb1.size
        have B1 := hide (A0.out.trans (hb1.mono (by omega)))
        have K1 := (hb1.block w.heap.size hs0).trans K0.out
        have d0 : w1.cell? ⟨w.heap.size, 0, none⟩ = some (.int .i64 q.off) := by rw [cell_of_row w1 _ 0 _ _ _ K1]; rfl
        have d1 : w1.cell? ⟨w.heap.size, 1, none⟩ = some (.int .i64 q.len) := by rw [cell_of_row w1 _ 1 _ _ _ K1]; rfl
        have d2 : w1.cell? ⟨w.heap.size, 2, none⟩ = some (.int .i64 q.brk) := by rw [cell_of_row w1 _ 2 _ _ _ K1]; rfl
        have O1 := hide (show w1.ownsRow w0.heap.size 145 4 (.slice (some ⟨g, 0, none⟩) (m + 1) cp) (m + 1) (itVs (X.take (m + 1))) from (by have h9 := ho1; unfold OwI at h9; rw [TK.out] at h9; exact h9))
        have D1 := hide (fun j u hj => (show w1.cell? ((⟨b, (m + 1) * 4, none⟩ : Addr).add j) = some u from (by have h9 := DC.out j u hj; rw [addr_add] at h9 ⊢; exact (hb1.cell (p := ⟨b, (m + 1) * 4 + j, none⟩) hbl).trans h9)))
        have NC := hide (newcells w1 145 [.int .i64 q.off, .int .i64 q.len, .int .i64 q.brk, .int .i64 (ly + 1)])
        clear ho1 hb1 K1 CP DC
        go_wp2_with (at_builtin; refine wpList_append_own _ rfl _ _ 65 rfl w0.heap.size 145 i0 (.agg #[.int .i64 0, .int .i64 0, .int .i64 0, .int .i64 0]) 4 32 Tryz.underlying65 hi hz0 hz1 hz2 rfl (by decide) _ (m + 1) _ rfl (by exact World.ownsRow.alloc O1.out _) ⟨w1.heap.size, 0, none⟩ 1 1 [.int .i64 q.off, .int .i64 q.len, .int .i64 q.brk, .int .i64 (ly + 1)] rfl rfl (by exact NC.out) (by intro u hu; simp at hu; rcases hu with rfl | rfl | rfl | rfl <;> rfl) (by unfold maxLen; omega) (by omega) (by simp; omega) ?_; intro v2 w2 ho2 hg2 _; refine Hid.out ?_)
        refine Lib.hid ?_
        have A2 := hide ((Below.refl w0.heap.size w1).alloc s1 (.cells #[.int .i64 q.off, .int .i64 q.len, .int .i64 q.brk, .int .i64 (ly + 1)] 145))
        have B2 := hide (B1.out.trans ((A2.out.grown hg2 (by simp; omega) (fun q hq => (O1.out.lt q hq).1)).mono (by omega)))
        have C2 := hide (A2.out.grown hg2 (by simp; omega) (fun q hq => (O1.out.lt q hq).1))
        have s2 := C2.out.size
        have D2 := hide (fun j u hj => (show w2.cell? ((⟨b, (m + 1) * 4, none⟩ : Addr).add j) = some u from (by have h9 := D1.out j u hj; rw [addr_add] at h9 ⊢; exact (C2.out.cell (p := ⟨b, (m + 1) * 4 + j, none⟩) hbl).trans h9)))
        obtain ⟨g2, cp2, rfl⟩ : ∃ g c, v2 = .slice (some ⟨g, 0, none⟩) (m + 1 + 1) c := by
          rcases ho2.2 with ⟨_, h0⟩ | ⟨g, c, cur, h1, _⟩
          · omega
          · exact ⟨_, _, h1⟩
        have O2 := hide ho2
        clear ho2 hg2 NC D1 A2
        by_cases hck : cap = m + 1
        · exfalso; omega
        · go_wp2_with (at_builtin; refine wpList_append_own _ rfl _ _ 65 rfl w0.heap.size 145 i0 (.agg #[.int .i64 0, .int .i64 0, .int .i64 0, .int .i64 0]) 4 32 Tryz.underlying65 hi hz0 hz1 hz2 rfl (by decide) _ (m + 1 + 1) _ rfl (by exact O2.out) ⟨b, (m + 1) * 4, none⟩ (n - (m + 1)) (cap - (m + 1)) (itVs (X.drop (m + 1))) rfl (by rw [itVs_length, DR.out]) (by exact D2.out) (itVs_one _) (by unfold maxLen; omega) (by omega) (by omega) ?_; intro v3 w3 ho3 hg3 _; refine Hid.out ?_)
          refine Lib.hid ?_
          have B3 := hide (B2.out.trans (((Below.refl w0.heap.size w2).grown hg3 (by omega) (fun q hq => (O2.out.lt q hq).1)).mono (by omega)))
          have s3 := hg3.size
          have ho4 : OwI w3 w0.heap.size v3 (R.told 0) := by
            have h9 := ho3
            rw [show m + 1 + 1 + (n - (m + 1)) = n + 1 by omega] at h9
            unfold OwI
            rw [AT.told_length, IRN.out, TLD.out, HE.out]
            have e9 : itVs (X.take (m + 1) ++ ⟨q, ly + 1⟩ :: X.drop (m + 1)) = itVs (X.take (m + 1)) ++ [.int .i64 q.off, .int .i64 q.len, .int .i64 q.brk, .int .i64 (ly + 1)] ++ itVs (X.drop (m + 1)) := by simp [itVs, itV]
            rw [e9]; exact h9
          obtain ⟨hv3, hc3, hm3⟩ : ∃ g3 c3, v3 = .slice (some ⟨g3, 0, none⟩) (n + 1) c3 ∧ n + 1 ≤ c3 ∧ c3 ≤ maxLen := by
            rcases ho4.2 with ⟨_, h0⟩ | ⟨g3, c3, cur, h1, _, _, h2, h3, _⟩
            · rw [AT.told_length, IRN.out] at h0; omega
            · rw [AT.told_length, IRN.out] at h1 h2; exact ⟨g3, c3, h1, h2, h3⟩
          obtain ⟨rfl, hc4, hc5⟩ := hm3
          obtain ⟨mm, hmm, hfx⟩ := HFX.out
          have RP := hide (repairS w0.heap.size hv3 hc3 (n + 1) U ⟨hc4, hc5⟩ (by omega) mm R w3 IRN.out hfx (by have := HTH.out; omega) ho4)
          have L4 := hide (fun q hq => (ho4.lt q hq).1)
          clear ho3 hg3 ho4 hfx
          go_wp2_with fail
          refine RP.out.mono ?_
          rintro e w5 ⟨rfl, ho5, hg5⟩
          have B5 := hide (B3.out.trans (((Below.refl w0.heap.size w3).grown hg5 (by omega) (fun q hq => by have h1 := L4.out q (by simpa [Value.ownBlock] using hq); omega)).mono (by omega)))
          have O5 := hide (owns_base ho5 (show w.heap.size ≤ w0.heap.size by omega))
          clear ho5 hg5
          go_wp2
          go_ret
          exact ⟨_, rfl, O5.out, B5.out⟩
      · have gyx : ¬ lx + 1 < ly + 1 := hyx
        have HE := hide (show lev = lx + 1 from (by rw [IL.out]; rw [if_neg (by omega), HY.out, Nat.add_sub_cancel, HXX.out, AT.nb_some, AT.nb_some, HLX.out, HLY.out]; omega))
        go_enter Tryz.func133, Tryz.ntmps133
        go_wp2_with fail
        generalize w.alloc (.cells #[.int .i64 q.off, .int .i64 q.len, .int .i64 q.brk] 143) = w0 at *
        refine CP.out.mono ?_
        rintro e w1 ⟨g, cp, rfl, ho1, hb1⟩
        have s1 := hb1.size
        have B1 := hide (A0.out.trans (hb1.mono (by omega)))
        have K1 := (hb1.block w.heap.size hs0).trans K0.out
        have d0 : w1.cell? ⟨w.heap.size, 0, none⟩ = some (.int .i64 q.off) := by rw [cell_of_row w1 _ 0 _ _ _ K1]; rfl
        have d1 : w1.cell? ⟨w.heap.size, 1, none⟩ = some (.int .i64 q.len) := by rw [cell_of_row w1 _ 1 _ _ _ K1]; rfl
        have d2 : w1.cell? ⟨w.heap.size, 2, none⟩ = some (.int .i64 q.brk) := by rw [cell_of_row w1 _ 2 _ _ _ K1]; rfl
        have O1 := hide (show w1.ownsRow w0.heap.size 145 4 (.slice (some ⟨g, 0, none⟩) (m + 1) cp) (m + 1) (itVs (X.take (m + 1))) from (by have h9 := ho1; unfold OwI at h9; rw [TK.out] at h9; exact h9))
        have D1 := hide (fun j u hj => (show w1.cell? ((⟨b, (m + 1) * 4, none⟩ : Addr).add j) = some u from (by have h9 := DC.out j u hj; rw [addr_add] at h9 ⊢; exact (hb1.cell (p := ⟨b, (m + 1) * 4 + j, none⟩) hbl).trans h9)))
        have NC := hide (newcells w1 145 [.int .i64 q.off, .int .i64 q.len, .int .i64 q.brk, .int .i64 (lx + 1)])
        clear ho1 hb1 K1 CP DC
        go_wp2_with (at_builtin; refine wpList_append_own _ rfl _ _ 65 rfl w0.heap.size 145 i0 (.agg #[.int .i64 0, .int .i64 0, .int .i64 0, .int .i64 0]) 4 32 Tryz.underlying65 hi hz0 hz1 hz2 rfl (by decide) _ (m + 1) _ rfl (by exact World.ownsRow.alloc O1.out _) ⟨w1.heap.size, 0, none⟩ 1 1 [.int .i64 q.off, .int .i64 q.len, .int .i64 q.brk, .int .i64 (lx + 1)] rfl rfl (by exact NC.out) (by intro u hu; simp at hu; rcases hu with rfl | rfl | rfl | rfl <;> rfl) (by unfold maxLen; omega) (by omega) (by simp; omega) ?_; intro v2 w2 ho2 hg2 _; refine Hid.out ?_)
        refine Lib.hid ?_
        have A2 := hide ((Below.refl w0.heap.size w1).alloc s1 (.cells #[.int .i64 q.off, .int .i64 q.len, .int .i64 q.brk, .int .i64 (lx + 1)] 145))
        have B2 := hide (B1.out.trans ((A2.out.grown hg2 (by simp; omega) (fun q hq => (O1.out.lt q hq).1)).mono (by omega)))
        have C2 := hide (A2.out.grown hg2 (by simp; omega) (fun q hq => (O1.out.lt q hq).1))
        have s2 := C2.out.size
        have D2 := hide (fun j u hj => (show w2.cell? ((⟨b, (m + 1) * 4, none⟩ : Addr).add j) = some u from (by have h9 := D1.out j u hj; rw [addr_add] at h9 ⊢; exact (C2.out.cell (p := ⟨b, (m + 1) * 4 + j, none⟩) hbl).trans h9)))
        obtain ⟨g2, cp2, rfl⟩ : ∃ g c, v2 = .slice (some ⟨g, 0, none⟩) (m + 1 + 1) c := by
          rcases ho2.2 with ⟨_, h0⟩ | ⟨g, c, cur, h1, _⟩
          · omega
          · exact ⟨_, _, h1⟩
        have O2 := hide ho2
        clear ho2 hg2 NC D1 A2
        by_cases hck : cap = m + 1
        · exfalso; omega
        · go_wp2_with (at_builtin; refine wpList_append_own _ rfl _ _ 65 rfl w0.heap.size 145 i0 (.agg #[.int .i64 0, .int .i64 0, .int .i64 0, .int .i64 0]) 4 32 Tryz.underlying65 hi hz0 hz1 hz2 rfl (by decide) _ (m + 1 + 1) _ rfl (by exact O2.out) ⟨b, (m + 1) * 4, none⟩ (n - (m + 1)) (cap - (m + 1)) (itVs (X.drop (m + 1))) rfl (by rw [itVs_length, DR.out]) (by exact D2.out) (itVs_one _) (by unfold maxLen; omega) (by omega) (by omega) ?_; intro v3 w3 ho3 hg3 _; refine Hid.out ?_)
          refine Lib.hid ?_
          have B3 := hide (B2.out.trans (((Below.refl w0.heap.size w2).grown hg3 (by omega) (fun q hq => (O2.out.lt q hq).1)).mono (by omega)))
          have s3 := hg3.size
          have ho4 : OwI w3 w0.heap.size v3 (R.told 0) := by
            have h9 := ho3
            rw [show m + 1 + 1 + (n - (m + 1)) = n + 1 by omega] at h9
            unfold OwI
            rw [AT.told_length, IRN.out, TLD.out, HE.out]
            have e9 : itVs (X.take (m + 1) ++ ⟨q, lx + 1⟩ :: X.drop (m + 1)) = itVs (X.take (m + 1)) ++ [.int .i64 q.off, .int .i64 q.len, .int .i64 q.brk, .int .i64 (lx + 1)] ++ itVs (X.drop (m + 1)) := by simp [itVs, itV]
            rw [e9]; exact h9
          obtain ⟨hv3, hc3, hm3⟩ : ∃ g3 c3, v3 = .slice (some ⟨g3, 0, none⟩) (n + 1) c3 ∧ n + 1 ≤ c3 ∧ c3 ≤ maxLen := by
            rcases ho4.2 with ⟨_, h0⟩ | ⟨g3, c3, cur, h1, _, _, h2, h3, _⟩
            · rw [AT.told_length, IRN.out] at h0; omega
            · rw [AT.told_length, IRN.out] at h1 h2; exact ⟨g3, c3, h1, h2, h3⟩
          obtain ⟨rfl, hc4, hc5⟩ := hm3
          obtain ⟨mm, hmm, hfx⟩ := HFX.out
          have RP := hide (repairS w0.heap.size hv3 hc3 (n + 1) U ⟨hc4, hc5⟩ (by omega) mm R w3 IRN.out hfx (by have := HTH.out; omega) ho4)
          have L4 := hide (fun q hq => (ho4.lt q hq).1)
          clear ho3 hg3 ho4 hfx
          go_wp2_with fail
          refine RP.out.mono ?_
          rintro e w5 ⟨rfl, ho5, hg5⟩
          have B5 := hide (B3.out.trans (((Below.refl w0.heap.size w3).grown hg5 (by omega) (fun q hq => by have h1 := L4.out q (by simpa [Value.ownBlock] using hq); omega)).mono (by omega)))
          have O5 := hide (owns_base ho5 (show w.heap.size ≤ w0.heap.size by omega))
          clear ho5 hg5
          go_wp2
          go_ret
          exact ⟨_, rfl, O5.out, B5.out⟩
    · have gn : ¬ (m : Int) + 1 < (n : Int) := by omega
      skip
      have HE := hide (show lev = lx + 1 from (by rw [IL.out]; rw [if_neg (by omega), NK.out (by omega), Nat.add_sub_cancel, HXX.out, AT.nb_some, AT.nb_none, HLX.out]; omega))
      go_enter Tryz.func133, Tryz.ntmps133
      go_wp2_with fail
      generalize w.alloc (.cells #[.int .i64 q.off, .int .i64 q.len, .int .i64 q.brk] 143) = w0 at *
      refine CP.out.mono ?_
      rintro e w1 ⟨g, cp, rfl, ho1, hb1⟩
      have s1 := hb1.size
      have B1 := hide (A0.out.trans (hb1.mono (by omega)))
      have K1 := (hb1.block w.heap.size hs0).trans K0.out
      have d0 : w1.cell? ⟨w.heap.size, 0, none⟩ = some (.int .i64 q.off) := by rw [cell_of_row w1 _ 0 _ _ _ K1]; rfl
      have d1 : w1.cell? ⟨w.heap.size, 1, none⟩ = some (.int .i64 q.len) := by rw [cell_of_row w1 _ 1 _ _ _ K1]; rfl
      have d2 : w1.cell? ⟨w.heap.size, 2, none⟩ = some (.int .i64 q.brk) := by rw [cell_of_row w1 _ 2 _ _ _ K1]; rfl
      have O1 := hide (show w1.ownsRow w0.heap.size 145 4 (.slice (some ⟨g, 0, none⟩) (m + 1) cp) (m + 1) (itVs (X.take (m + 1))) from (by have h9 := ho1; unfold OwI at h9; rw [TK.out] at h9; exact h9))
      have D1 := hide (fun j u hj => (show w1.cell? ((⟨b, (m + 1) * 4, none⟩ : Addr).add j) = some u from (by have h9 := DC.out j u hj; rw [addr_add] at h9 ⊢; exact (hb1.cell (p := ⟨b, (m + 1) * 4 + j, none⟩) hbl).trans h9)))
      have NC := hide (newcells w1 145 [.int .i64 q.off, .int .i64 q.len, .int .i64 q.brk, .int .i64 (lx + 1)])
      clear ho1 hb1 K1 CP DC
      go_wp2_with (at_builtin; refine wpList_append_own _ rfl _ _ 65 rfl w0.heap.size 145 i0 (.agg #[.int .i64 0, .int .i64 0, .int .i64 0, .int .i64 0]) 4 32 Tryz.underlying65 hi hz0 hz1 hz2 rfl (by decide) _ (m + 1) _ rfl (by exact World.ownsRow.alloc O1.out _) ⟨w1.heap.size, 0, none⟩ 1 1 [.int .i64 q.off, .int .i64 q.len, .int .i64 q.brk, .int .i64 (lx + 1)] rfl rfl (by exact NC.out) (by intro u hu; simp at hu; rcases hu with rfl | rfl | rfl | rfl <;> rfl) (by unfold maxLen; omega) (by omega) (by simp; omega) ?_; intro v2 w2 ho2 hg2 _; refine Hid.out ?_)
      refine Lib.hid ?_
      have A2 := hide ((Below.refl w0.heap.size w1).alloc s1 (.cells #[.int .i64 q.off, .int .i64 q.len, .int .i64 q.brk, .int .i64 (lx + 1)] 145))
      have B2 := hide (B1.out.trans ((A2.out.grown hg2 (by simp; omega) (fun q hq => (O1.out.lt q hq).1)).mono (by omega)))
      have C2 := hide (A2.out.grown hg2 (by simp; omega) (fun q hq => (O1.out.lt q hq).1))
      have s2 := C2.out.size
      have D2 := hide (fun j u hj => (show w2.cell? ((⟨b, (m + 1) * 4, none⟩ : Addr).add j) = some u from (by have h9 := D1.out j u hj; rw [addr_add] at h9 ⊢; exact (C2.out.cell (p := ⟨b, (m + 1) * 4 + j, none⟩) hbl).trans h9)))
      obtain ⟨g2, cp2, rfl⟩ : ∃ g c, v2 = .slice (some ⟨g, 0, none⟩) (m + 1 + 1) c := by
        rcases ho2.2 with ⟨_, h0⟩ | ⟨g, c, cur, h1, _⟩
        · omega
        · exact ⟨_, _, h1⟩
      have O2 := hide ho2
      clear ho2 hg2 NC D1 A2
      by_cases hck : cap = m + 1
      · subst hck
        go_wp2_with (at_builtin; refine wpList_append_own _ rfl _ _ 65 rfl w0.heap.size 145 i0 (.agg #[.int .i64 0, .int .i64 0, .int .i64 0, .int .i64 0]) 4 32 Tryz.underlying65 hi hz0 hz1 hz2 rfl (by decide) _ (m + 1 + 1) _ rfl (by exact O2.out) ⟨b, 0, none⟩ (0) (0) (itVs (X.drop (m + 1))) rfl (by rw [itVs_length, DR.out]; omega) (by have h9 : X.drop (m + 1) = [] := List.eq_nil_of_length_eq_zero (by rw [DR.out]; omega); rw [h9]; intro j u hj; simp [itVs] at hj) (itVs_one _) (by unfold maxLen; omega) (by omega) (by omega) ?_; intro v3 w3 ho3 hg3 _; refine Hid.out ?_)
        refine Lib.hid ?_
        have B3 := hide (B2.out.trans (((Below.refl w0.heap.size w2).grown hg3 (by omega) (fun q hq => (O2.out.lt q hq).1)).mono (by omega)))
        have s3 := hg3.size
        have ho4 : OwI w3 w0.heap.size v3 (R.told 0) := by
          have h9 := ho3
          rw [show m + 1 + 1 + (0) = n + 1 by omega] at h9
          unfold OwI
          rw [AT.told_length, IRN.out, TLD.out, HE.out]
          have e9 : itVs (X.take (m + 1) ++ ⟨q, lx + 1⟩ :: X.drop (m + 1)) = itVs (X.take (m + 1)) ++ [.int .i64 q.off, .int .i64 q.len, .int .i64 q.brk, .int .i64 (lx + 1)] ++ itVs (X.drop (m + 1)) := by simp [itVs, itV]
          rw [e9]; exact h9
        obtain ⟨hv3, hc3, hm3⟩ : ∃ g3 c3, v3 = .slice (some ⟨g3, 0, none⟩) (n + 1) c3 ∧ n + 1 ≤ c3 ∧ c3 ≤ maxLen := by
          rcases ho4.2 with ⟨_, h0⟩ | ⟨g3, c3, cur, h1, _, _, h2, h3, _⟩
          · rw [AT.told_length, IRN.out] at h0; omega
          · rw [AT.told_length, IRN.out] at h1 h2; exact ⟨g3, c3, h1, h2, h3⟩
        obtain ⟨rfl, hc4, hc5⟩ := hm3
        obtain ⟨mm, hmm, hfx⟩ := HFX.out
        have RP := hide (repairS w0.heap.size hv3 hc3 (n + 1) U ⟨hc4, hc5⟩ (by omega) mm R w3 IRN.out hfx (by have := HTH.out; omega) ho4)
        have L4 := hide (fun q hq => (ho4.lt q hq).1)
        clear ho3 hg3 ho4 hfx
        go_wp2_with fail
        refine RP.out.mono ?_
        rintro e w5 ⟨rfl, ho5, hg5⟩
        have B5 := hide (B3.out.trans (((Below.refl w0.heap.size w3).grown hg5 (by omega) (fun q hq => by have h1 := L4.out q (by simpa [Value.ownBlock] using hq); omega)).mono (by omega)))
        have O5 := hide (owns_base ho5 (show w.heap.size ≤ w0.heap.size by omega))
        clear ho5 hg5
        go_wp2
        go_ret
        exact ⟨_, rfl, O5.out, B5.out⟩
      · go_wp2_with (at_builtin; refine wpList_append_own _ rfl _ _ 65 rfl w0.heap.size 145 i0 (.agg #[.int .i64 0, .int .i64 0, .int .i64 0, .int .i64 0]) 4 32 Tryz.underlying65 hi hz0 hz1 hz2 rfl (by decide) _ (m + 1 + 1) _ rfl (by exact O2.out) ⟨b, (m + 1) * 4, none⟩ (n - (m + 1)) (cap - (m + 1)) (itVs (X.drop (m + 1))) rfl (by rw [itVs_length, DR.out]) (by exact D2.out) (itVs_one _) (by unfold maxLen; omega) (by omega) (by omega) ?_; intro v3 w3 ho3 hg3 _; refine Hid.out ?_)
        refine Lib.hid ?_
        have B3 := hide (B2.out.trans (((Below.refl w0.heap.size w2).grown hg3 (by omega) (fun q hq => (O2.out.lt q hq).1)).mono (by omega)))
        have s3 := hg3.size
        have ho4 : OwI w3 w0.heap.size v3 (R.told 0) := by
          have h9 := ho3
          rw [show m + 1 + 1 + (n - (m + 1)) = n + 1 by omega] at h9
          unfold OwI
          rw [AT.told_length, IRN.out, TLD.out, HE.out]
          have e9 : itVs (X.take (m + 1) ++ ⟨q, lx + 1⟩ :: X.drop (m + 1)) = itVs (X.take (m + 1)) ++ [.int .i64 q.off, .int .i64 q.len, .int .i64 q.brk, .int .i64 (lx + 1)] ++ itVs (X.drop (m + 1)) := by simp [itVs, itV]
          rw [e9]; exact h9
        obtain ⟨hv3, hc3, hm3⟩ : ∃ g3 c3, v3 = .slice (some ⟨g3, 0, none⟩) (n + 1) c3 ∧ n + 1 ≤ c3 ∧ c3 ≤ maxLen := by
          rcases ho4.2 with ⟨_, h0⟩ | ⟨g3, c3, cur, h1, _, _, h2, h3, _⟩
          · rw [AT.told_length, IRN.out] at h0; omega
          · rw [AT.told_length, IRN.out] at h1 h2; exact ⟨g3, c3, h1, h2, h3⟩
        obtain ⟨rfl, hc4, hc5⟩ := hm3
        obtain ⟨mm, hmm, hfx⟩ := HFX.out
        have RP := hide (repairS w0.heap.size hv3 hc3 (n + 1) U ⟨hc4, hc5⟩ (by omega) mm R w3 IRN.out hfx (by have := HTH.out; omega) ho4)
        have L4 := hide (fun q hq => (ho4.lt q hq).1)
        clear ho3 hg3 ho4 hfx
        go_wp2_with fail
        refine RP.out.mono ?_
        rintro e w5 ⟨rfl, ho5, hg5⟩
        have B5 := hide (B3.out.trans (((Below.refl w0.heap.size w3).grown hg5 (by omega) (fun q hq => by have h1 := L4.out q (by simpa [Value.ownBlock] using hq); omega)).mono (by omega)))
        have O5 := hide (owns_base ho5 (show w.heap.size ≤ w0.heap.size by omega))
        clear ho5 hg5
        go_wp2
        go_ret
        exact ⟨_, rfl, O5.out, B5.out⟩
end Go.Proofs.YtbgngikejgihgagGreatDoor
