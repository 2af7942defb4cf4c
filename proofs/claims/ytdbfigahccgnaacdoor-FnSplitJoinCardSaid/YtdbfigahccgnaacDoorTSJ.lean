import Derived.Test.YtdbfigahccgnaacDoorTDTop
import Derived.Test.YtdbfigahccgnaacDoorTPcs3
import Derived.Test.YtdbfigahccgnaacDoorTFSplit
import Derived.Test.YtdbfigahccgnaacDoorTFJoin
import Derived.Test.YtdbfigahccgnaacDoorTVal2
namespace Go.Proofs.YtdbfigahccgnaacDoor
open Go Go.RowKit Go.Shelf
set_option linter.unusedVariables false

theorem AT.told_pc : ∀ (T : AT) (d : Int), (T.told d).map It.pc = T.flat
  | .nil, _ => rfl
  | .node l p r, d => by simp [AT.told, AT.flat, AT.told_pc l, AT.told_pc r]
theorem AT.rns_sm : ∀ T : AT, (∀ q ∈ T.flat, Sm q) → T.rns ≤ 9 * T.its
  | .nil, _ => by simp [AT.rns, AT.its]
  | .node l p r, h => by
    have h1 := AT.rns_sm l (fun q hq => h q (by simp [AT.flat, hq]))
    have h2 := AT.rns_sm r (fun q hq => h q (by simp [AT.flat, hq]))
    have h3 := (h p (by simp [AT.flat])).2.2.2.1
    simp only [AT.rns, AT.its]; omega
theorem sm_ok {T : AT} (h : ∀ q ∈ T.flat, Sm q) (hn : T.its ≤ 127) : T.ok :=
  ⟨fun q hq => (h q hq).ok, by have := AT.rns_sm T h; omega⟩

theorem RdP.take {B g cap k : Nat} {w : World} {qs : List Pc} (h : RdP B w (.slice (some ⟨g, 0, none⟩) qs.length cap) qs) (hk : k ≤ qs.length) : RdP B w (.slice (some ⟨g, 0, none⟩) k cap) (qs.take k) := by
  rcases Nat.eq_zero_or_pos k with rfl | h0
  · exact .inl ⟨_, _, rfl, by simp⟩
  · rcases h with ⟨_, _, _, rfl⟩ | ⟨b, off, cap', hv, hp, hl, hc⟩
    · simp at hk; omega
    · simp only [Value.slice.injEq, Option.some.injEq, Addr.mk.injEq, and_true, true_and] at hv
      obtain ⟨⟨rfl, rfl⟩, rfl⟩ := hv
      refine .inr ⟨g, 0, cap, by rw [List.length_take, Nat.min_eq_left hk], by rw [List.length_take]; omega, hl, fun i q hq => hc i q ?_⟩
      rw [List.getElem?_take] at hq
      split at hq
      · exact hq
      · cases hq
theorem RdP.drop {B g cap k : Nat} {w : World} {qs : List Pc} (h : RdP B w (.slice (some ⟨g, 0, none⟩) qs.length cap) qs) (hk : k ≤ qs.length) {ao : Option Addr} (ha : k < qs.length → ao = some ⟨g, k * 3, none⟩) : RdP B w (.slice ao (qs.length - k) (cap - k)) (qs.drop k) := by
  rcases Nat.eq_or_lt_of_le hk with rfl | h0
  · exact .inl ⟨_, _, by rw [Nat.sub_self], by simp⟩
  · obtain rfl := ha h0
    rcases h with ⟨_, _, _, rfl⟩ | ⟨b, off, cap', hv, hp, hl, hc⟩
    · simp at h0
    · simp only [Value.slice.injEq, Option.some.injEq, Addr.mk.injEq, and_true, true_and] at hv
      obtain ⟨⟨rfl, rfl⟩, rfl⟩ := hv
      refine .inr ⟨g, k * 3, cap - k, by rw [List.length_drop], by rw [List.length_drop]; omega, hl, fun i q hq => ?_⟩
      rw [List.getElem?_drop] at hq
      have := hc (k + i) q hq
      rw [show 0 + (k + i) * 3 = k * 3 + i * 3 by omega] at this
      exact this

set_option maxHeartbeats 8000000 in
set_option maxRecDepth 100000 in
theorem splitJoinLaw (zs : List Int) (v : Value) (w : World) (h : Rd .u8 w v zs) (hb : ∀ z ∈ zs, 0 ≤ z ∧ z ≤ 255) (hn : zs.length ≤ 1048576) :
    Calls Tryd.prog 4 #[v] w fun e w' => e = .returned (.bool true) ∧ Below w.heap.size w w' := by
  have HR := hide h
  have HBY := hide hb
  have HBV : Hid (∀ b off cap, v = .slice (some ⟨b, off, none⟩) zs.length cap → 0 < zs.length → b < w.heap.size) := hide (by
    intro b off cap hv h0
    rcases h with ⟨_, _, _, rfl⟩ | ⟨b', off', cap', hv', hl, hc⟩
    · simp at h0
    · rw [hv] at hv'
      simp only [Value.slice.injEq, Option.some.injEq, Addr.mk.injEq, and_true, true_and] at hv'
      obtain ⟨⟨rfl, rfl⟩, rfl⟩ := hv'
      have h1 := World.block_lt_of_cell? w _ (hc 0 h0)
      simpa using h1)
  obtain ⟨ao, cap, rfl⟩ : ∃ ao cap, v = .slice ao zs.length cap := by
    rcases h with ⟨ao, cap, rfl, rfl⟩ | ⟨b, off, cap, rfl, _⟩
    · exact ⟨_, _, rfl⟩
    · exact ⟨_, _, rfl⟩
  have hgt : ¬ (1048576 : Int) < (zs.length : Int) := by omega
  clear h hb
  go_enter Tryd.func4, Tryd.ntmps4
  go_wp2_with fail
  refine (new2 zs _ w HR.out HBY.out hn).mono ?_
  rintro e w1 ⟨rfl, hs1, hb1⟩
  have S1 := hide (show SrcB zs (.slice ao zs.length cap) w.heap.size w1 from ⟨hs1, HBV.out⟩)
  have B1 := hide hb1
  have z1 := hb1.size
  have l1 := hs1.lt
  clear hs1 hb1
  go_wp2_with fail
  refine (drawTop zs _ w.heap.size zs.length ao cap w1 S1.out hn).mono ?_
  rintro e w2 ⟨vT, T, rfl, hTb, hTn, hTs, hTo, hs2, hc2⟩
  have z2 := hc2.size
  have B2 := hide (B1.out.trans (hc2.below (B := w.heap.size) (by omega) (by simp)))
  obtain ⟨gT, cT, rfl, hcT, hmT, hgT, hlT⟩ : ∃ g cap, vT = .slice (some ⟨g, 0, none⟩) T.its cap ∧ T.its ≤ cap ∧ cap ≤ maxLen ∧ w1.heap.size ≤ g ∧ g < w2.heap.size := by
    rcases hTo.shape with ⟨_, h0⟩ | ⟨g, cap, h1, h2, h3, h4, h5⟩
    · have := AT.told_length T 0; rw [h0] at this; simp at this; omega
    · rw [AT.told_length] at h1 h2; exact ⟨g, cap, h1, h2, h3, h4, h5⟩
  have OT := hide hTo
  have TS := hide hTs
  unfold maxLen at hmT
  clear hTo hTs hs2 hc2 B1 S1 HBV
  have hB3 : Below w.heap.size w (w2.alloc (.cells #[.slice (some ⟨gT, 0, none⟩) T.its cT] 30)) := B2.out.alloc (by omega) _
  have hs3 : (w2.alloc (.cells #[.slice (some ⟨gT, 0, none⟩) T.its cT] 30)).heap.size = w2.heap.size + 1 := by simp
  have T3 : (w2.alloc (.cells #[.slice (some ⟨gT, 0, none⟩) T.its cT] 30)).heap[w2.heap.size]? = some (.cells #[.slice (some ⟨gT, 0, none⟩) T.its cT] 30 (0, 0)) := heap_alloc_new _ _
  have O3 := hide (show OwI (w2.alloc (.cells #[.slice (some ⟨gT, 0, none⟩) T.its cT] 30)) w1.heap.size (.slice (some ⟨gT, 0, none⟩) T.its cT) (T.told 0) from World.ownsRow.alloc OT.out _)
  have B3 := hide hB3
  clear OT B2 hB3
  go_upto_region 5 with fail
  generalize w2.alloc (.cells #[.slice (some ⟨gT, 0, none⟩) T.its cT] 30) = w3 at *
  have t3 : w3.cell? ⟨w2.heap.size, 0, none⟩ = some (.slice (some ⟨gT, 0, none⟩) T.its cT) := by rw [cell_of_row w3 _ 0 _ _ _ T3]; rfl
  go_wp2_with fail
  have hlen := AT.told_length T 0
  refine (piecesL (T.told 0) _ _ w3 O3.out (by omega)).mono ?_
  rintro e w4 ⟨vL, rfl, hL, hb4⟩
  rw [AT.told_pc] at hL
  have hfl := AT.flat_length T
  obtain ⟨gL, cL, rfl, hcL, hmL, hlL⟩ : ∃ g cap, vL = .slice (some ⟨g, 0, none⟩) T.its cap ∧ T.its ≤ cap ∧ cap ≤ maxLen ∧ g < w4.heap.size := by
    rcases hL.2 with ⟨_, h0⟩ | ⟨g, cap, cur, h1, _, _, h2, h3, _⟩
    · omega
    · rw [hfl] at h1 h2; exact ⟨g, cap, h1, h2, h3, (hL.lt g (by rw [h1]; rfl)).2⟩
  unfold maxLen at hmL
  have z4 := hb4.size
  have B4 := hide (B3.out.trans (hb4.mono (by omega)))
  have O4 := hide (O3.out.below hb4 (Nat.le_refl _))
  have RL := hide (show RdP w4.heap.size w4 (.slice (some ⟨gL, 0, none⟩) T.flat.length cL) T.flat from (by rw [hfl]; exact hL.rd))
  have t4 : w4.cell? ⟨w2.heap.size, 0, none⟩ = some (.slice (some ⟨gT, 0, none⟩) T.its cT) := (hb4.cell (p := ⟨w2.heap.size, 0, none⟩) (by show w2.heap.size < w3.heap.size; omega)).trans t3
  clear hL hb4 O3 B3 t3 T3 hlen hfl
  go_wp2_with fail
  go_loopw [2, 6, 7, 8, 9, 10, 11] (fun s2 s6 s7 s8 s9 s10 s11 wr => ∃ k : Nat, s6 = .int .i64 k ∧ k ≤ T.its + 1 ∧ Below w4.heap.size w4 wr) (fun _ s6 _ _ _ _ _ _ => T.its + 1 - (intOf s6).toNat)
  case atStart => exact ⟨0, rfl, by omega, Below.refl _ _⟩
  case round =>
    obtain ⟨k, rfl, hk, hbr⟩ := hrel
    by_cases hkl : k ≤ T.its
    · have hkl' : (k : Int) ≤ (T.its : Int) := by omega
      have BR := hide hbr
      have zr := hbr.size
      have tr : wr.cell? ⟨w2.heap.size, 0, none⟩ = some (.slice (some ⟨gT, 0, none⟩) T.its cT) := (hbr.cell (p := ⟨w2.heap.size, 0, none⟩) (by show w2.heap.size < w4.heap.size; omega)).trans t4
      clear hbr
      go_wp2_with fail
      refine (cpTreeL (T.told 0) _ _ wr (O4.out.below BR.out (Nat.le_refl _)) (by have := AT.told_length T 0; omega)).mono ?_
      rintro e x1 ⟨u, rfl, hu, hb1⟩
      have y1 := hb1.size
      have U1 := hide hu
      have BX1 := hide hb1
      clear hu hb1
      go_wp2_with fail
      refine (implSplitOk _ u T k x1 hTb (sm_ok TS.out hTn.2) hkl U1.out.rd (Nat.le_refl _)).mono ?_
      rintro e x2 ⟨v1, v2, rfl, hv1, hv2, hb2⟩
      have y2 := hb2.size
      obtain ⟨f1, f2⟩ := AT.split_flat T k hkl
      obtain ⟨bal1, bal2⟩ := AT.split_bal T k hTb
      have F1 := hide f1
      have F2 := hide f2
      generalize hSX : (T.split k).1 = X at *
      generalize hSY : (T.split k).2 = Y at *
      have SX := hide (show ∀ q ∈ X.flat, Sm q from fun q hq => TS.out q (List.mem_of_mem_take (F1.out ▸ hq)))
      have SY := hide (show ∀ q ∈ Y.flat, Sm q from fun q hq => TS.out q (List.mem_of_mem_drop (F2.out ▸ hq)))
      have iX : X.its = k := by rw [← AT.flat_length, f1, List.length_take, AT.flat_length]; omega
      have iY : Y.its = T.its - k := by rw [← AT.flat_length, f2, List.length_drop, AT.flat_length]
      have IX := hide iX
      have IY := hide iY
      obtain ⟨a1, n1, c1, rfl⟩ := own_sl hv1
      obtain ⟨a2, n2, c2, rfl⟩ := own_sl hv2
      have hB3 : Below x2.heap.size x2 ((x2.alloc (.cells #[.slice a1 n1 c1] 30)).alloc (.cells #[.slice a2 n2 c2] 30)) := ((Below.refl _ _).alloc (Nat.le_refl _) _).alloc (by simp) _
      have y3 : ((x2.alloc (.cells #[.slice a1 n1 c1] 30)).alloc (.cells #[.slice a2 n2 c2] 30)).heap.size = x2.heap.size + 2 := by simp
      have K1 := (Boxed.new x2 30 (.slice a1 n1 c1)).alloc (.cells #[.slice a2 n2 c2] 30)
      have K2 := Boxed.new (x2.alloc (.cells #[.slice a1 n1 c1] 30)) 30 (.slice a2 n2 c2)
      rw [World.size_alloc] at K2
      have OX := hide (hv1.below hB3 (Nat.le_refl _))
      have OY := hide (hv2.below hB3 (Nat.le_refl _))
      have BX3 := hide ((BX1.out.trans (hb2.mono (by omega))).trans (hB3.mono (by omega)))
      clear hv1 hv2 hb2 hB3 U1 f1 f2 iX iY tr
      go_upto_region 10 with fail
      generalize (x2.alloc (.cells #[.slice a1 n1 c1] 30)).alloc (.cells #[.slice a2 n2 c2] 30) = x3 at *
      have k1 := K1.cell
      have k2 := K2.cell
      have HK1 := hide K1
      have HK2 := hide K2
      have BW3 := hide (BR.out.trans (BX3.out.mono zr))
      have RT := hide (show RdP w4.heap.size w4 (.slice (some ⟨gL, 0, none⟩) k cL) X.flat from F1.out ▸ RL.out.take (by rw [AT.flat_length]; omega))
      obtain ⟨aY, haY⟩ : ∃ aY, aY = (if cL = k then some (⟨gL, 0, none⟩ : Addr) else some ⟨gL, k * 3, none⟩) := ⟨_, rfl⟩
      have RD := hide (show RdP w4.heap.size w4 (.slice aY (T.its - k) (cL - k)) Y.flat from (by
        have h9 := RL.out.drop (k := k) (ao := aY) (by rw [AT.flat_length]; omega) (fun h8 => by rw [AT.flat_length] at h8; rw [haY, if_neg (by omega)])
        rw [AT.flat_length] at h9
        rw [F2.out]
        exact h9))
      have hkc : k ≤ cL := by omega
      have hkc' : (k : Int) ≤ (cL : Int) := by omega
      have hki : (0 : Int) ≤ (k : Int) := by omega
      have hXl : (X.told 0).length ≤ 8192 := by have := IX.out; rw [AT.told_length]; omega
      have hYl : (Y.told 0).length ≤ 8192 := by have := IY.out; rw [AT.told_length]; omega
      have hXf : X.flat.length ≤ 8192 := by have := IX.out; rw [AT.flat_length]; omega
      have hYf : Y.flat.length ≤ 8192 := by have := IY.out; rw [AT.flat_length]; omega
      have l3 : x2.heap.size + 1 < x3.heap.size := by omega
      clear K1 K2 BX1 BX3
      go_cut [55] from 22 to 83 (fun s55 wc => s55 = .bool false ∧ Below x3.heap.size x3 wc)
      case first =>
        by_cases hck : cL = k
        · rw [if_pos hck] at haY
          subst hck
          have hY0 : Hid (Y.flat = []) := hide (List.eq_nil_of_length_eq_zero (by have := IY.out; rw [AT.flat_length]; omega))
          go_region_with (first
            | (go_at_call_of 12 (Value.agg #[Value.slice a1 n1 c1]); refine (piecesL (X.told 0) _ _ _ (by exact OX.out) hXl).mono ?_; rintro e q1 ⟨p1, rfl, hp1, hbq0⟩; have hbq : Below x3.heap.size x3 q1 := (⟨hbq0.os, hbq0.tape, hbq0.output, hbq0.size, hbq0.block⟩); have RP1 := hide (show RdP q1.heap.size q1 p1 X.flat from (by have h9 := hp1.rd; rwa [AT.told_pc] at h9)); have BQ1 := hide hbq; have sq1 := hbq.size; have j2 := (hbq.cell (p := ⟨x2.heap.size + 1, 0, none⟩) l3).trans k2; clear hp1 hbq0 hbq)
            | (go_at_call_of 15 p1; refine (smPiecesL X.flat p1 _ _ _ _ (by exact RP1.out) (by exact RT.out.below (BW3.out.trans (BQ1.out.mono (by have := BW3.out.size; omega))) (Nat.le_refl _)) (Nat.le_refl _) (by have := BW3.out.size; omega) hXf).mono ?_; rintro e q2 ⟨rfl, hbq⟩; have BQ2 := hide (BQ1.out.trans (hbq.mono sq1)); have sq2 := hbq.size; have i2 := (hbq.cell (p := ⟨x2.heap.size + 1, 0, none⟩) (by show x2.heap.size + 1 < q1.heap.size; omega)).trans j2; clear hbq)
            | (go_at_call_of 12 (Value.agg #[Value.slice a2 n2 c2]); refine (piecesL (Y.told 0) _ _ _ (by exact OY.out.below BQ2.out (Nat.le_refl _)) hYl).mono ?_; rintro e q3 ⟨p2, rfl, hp2, hbq⟩; have RP2 := hide (show RdP q3.heap.size q3 p2 Y.flat from (by have h9 := hp2.rd; rwa [AT.told_pc] at h9)); have BQ3 := hide (BQ2.out.trans (hbq.mono (by omega))); have sq3 := hbq.size; clear hp2 hbq)
            | (go_at_call_of 15 p2; refine (smPiecesL Y.flat p2 _ _ 0 _ (by exact RP2.out) (by exact .inl ⟨_, _, rfl, hY0.out⟩) (Nat.le_refl _) (Nat.zero_le _) hYf).mono ?_; rintro e q4 ⟨rfl, hbq⟩; have BQ4 := hide (BQ3.out.trans (hbq.mono (by omega))); clear hbq))
          all_goals (go_wp2_with fail; go_meet; exact ⟨rfl, BQ4.out⟩)
        · rw [if_neg hck] at haY
          go_region_with (first
            | (go_at_call_of 12 (Value.agg #[Value.slice a1 n1 c1]); refine (piecesL (X.told 0) _ _ _ (by exact OX.out) hXl).mono ?_; rintro e q1 ⟨p1, rfl, hp1, hbq0⟩; have hbq : Below x3.heap.size x3 q1 := (⟨hbq0.os, hbq0.tape, hbq0.output, hbq0.size, hbq0.block⟩); have RP1 := hide (show RdP q1.heap.size q1 p1 X.flat from (by have h9 := hp1.rd; rwa [AT.told_pc] at h9)); have BQ1 := hide hbq; have sq1 := hbq.size; have j2 := (hbq.cell (p := ⟨x2.heap.size + 1, 0, none⟩) l3).trans k2; clear hp1 hbq0 hbq)
            | (go_at_call_of 15 p1; refine (smPiecesL X.flat p1 _ _ _ _ (by exact RP1.out) (by exact RT.out.below (BW3.out.trans (BQ1.out.mono (by have := BW3.out.size; omega))) (Nat.le_refl _)) (Nat.le_refl _) (by have := BW3.out.size; omega) hXf).mono ?_; rintro e q2 ⟨rfl, hbq⟩; have BQ2 := hide (BQ1.out.trans (hbq.mono sq1)); have sq2 := hbq.size; have i2 := (hbq.cell (p := ⟨x2.heap.size + 1, 0, none⟩) (by show x2.heap.size + 1 < q1.heap.size; omega)).trans j2; clear hbq)
            | (go_at_call_of 12 (Value.agg #[Value.slice a2 n2 c2]); refine (piecesL (Y.told 0) _ _ _ (by exact OY.out.below BQ2.out (Nat.le_refl _)) hYl).mono ?_; rintro e q3 ⟨p2, rfl, hp2, hbq⟩; have RP2 := hide (show RdP q3.heap.size q3 p2 Y.flat from (by have h9 := hp2.rd; rwa [AT.told_pc] at h9)); have BQ3 := hide (BQ2.out.trans (hbq.mono (by omega))); have sq3 := hbq.size; clear hp2 hbq)
            | (go_at_call_of 15 p2; refine (smPiecesL Y.flat p2 _ _ _ _ (by exact RP2.out) (by have h9 := RD.out.below (BW3.out.trans (BQ3.out.mono (by have := BW3.out.size; omega))) (Nat.le_refl _); rw [haY] at h9; exact h9) (Nat.le_refl _) (by have := BW3.out.size; omega) hYf).mono ?_; rintro e q4 ⟨rfl, hbq⟩; have BQ4 := hide (BQ3.out.trans (hbq.mono (by omega))); clear hbq))
          all_goals (go_wp2_with fail; go_meet; exact ⟨rfl, BQ4.out⟩)
      case rest =>
        obtain ⟨rfl, hbc⟩ := hcut
        have zc := hbc.size
        have BC := hide hbc
        have k1c := (hbc.cell (p := ⟨x2.heap.size, 0, none⟩) (by show x2.heap.size < x3.heap.size; omega)).trans k1
        have k2c := (hbc.cell (p := ⟨x2.heap.size + 1, 0, none⟩) l3).trans k2
        have RX := hide (OX.out.rd.below hbc (Nat.le_refl _))
        have RY := hide (OY.out.rd.below hbc (Nat.le_refl _))
        clear hbc k1 k2 RT RD OX OY HK1 HK2
        have VX := hide (okT_told X bal1 (sm_ok SX.out (by have := IX.out; omega)))
        have VY := hide (okT_told Y bal2 (sm_ok SY.out (by have := IY.out; omega)))
        go_wp2_with fail
        refine (validS _ _ (X.told 0) wc RX.out zc (by omega)).mono ?_
        rintro e d1 ⟨he, hb1⟩
        rw [VX.out] at he
        subst he
        have z1d := hb1.size
        have k1d := (hb1.cell (p := ⟨x2.heap.size, 0, none⟩) (by show x2.heap.size < wc.heap.size; omega)).trans k1c
        have k2d := (hb1.cell (p := ⟨x2.heap.size + 1, 0, none⟩) (by show x2.heap.size + 1 < wc.heap.size; omega)).trans k2c
        have RX1 := hide (RX.out.below hb1 zc)
        have RY1 := hide (RY.out.below hb1 zc)
        have BC1 := hide (BC.out.trans (hb1.mono zc))
        clear hb1 k1c k2c RX RY BC
        go_wp2_with fail
        refine (validS _ _ (Y.told 0) d1 RY1.out (by omega) (by omega)).mono ?_
        rintro e d2 ⟨he, hb2⟩
        rw [VY.out] at he
        subst he
        have z2d := hb2.size
        have k1e := (hb2.cell (p := ⟨x2.heap.size, 0, none⟩) (by show x2.heap.size < d1.heap.size; omega)).trans k1d
        have k2e := (hb2.cell (p := ⟨x2.heap.size + 1, 0, none⟩) (by show x2.heap.size + 1 < d1.heap.size; omega)).trans k2d
        have RX2 := hide (RX1.out.below hb2 (by omega))
        have RY2 := hide (RY1.out.below hb2 (by omega))
        have BC2 := hide (BC1.out.trans (hb2.mono (by omega)))
        clear hb2 k1d k2d RX1 RY1 BC1
        go_wp2_with fail
        refine (implJoinOk _ _ _ _ X Y d2 bal1 (sm_ok SX.out (by have := IX.out; omega)) bal2 (sm_ok SY.out (by have := IY.out; omega)) (by have := AT.rns_sm X SX.out; have := AT.rns_sm Y SY.out; have := IX.out; have := IY.out; omega) RX2.out (by omega) RY2.out (by omega)).mono ?_
        rintro e d3 ⟨v3, rfl, hv3, hb3⟩
        have z3d := hb3.size
        have fZ : (AT.join X Y).flat = T.flat := by rw [AT.join_flat, F1.out, F2.out, List.take_append_drop]
        have balZ := AT.join_bal X Y bal1 bal2
        generalize AT.join X Y = Z at *
        have iZ : Z.its = T.its := AT.its_of_flat fZ
        have FZ := hide fZ
        have IZ := hide iZ
        have VZ := hide (okT_told Z balZ (sm_ok (fZ ▸ TS.out) (by omega)))
        obtain ⟨a3, n3, c3, rfl⟩ := own_sl hv3
        have hB4 : Below d3.heap.size d3 (d3.alloc (.cells #[.slice a3 n3 c3] 30)) := (Below.refl _ _).alloc (Nat.le_refl _) _
        have z4d : (d3.alloc (.cells #[.slice a3 n3 c3] 30)).heap.size = d3.heap.size + 1 := by simp
        have k3 := (Boxed.new d3 30 (.slice a3 n3 c3)).cell
        have OZ := hide (hv3.below hB4 (Nat.le_refl _))
        have BC4 := hide ((BC2.out.trans (hb3.mono (by omega))).trans (hB4.mono (by omega)))
        clear hv3 hb3 hB4 fZ iZ k1e k2e RX2 RY2 BC2
        go_upto_region 15 with fail
        generalize d3.alloc (.cells #[.slice a3 n3 c3] 30) = d4 at *
        have hZl : (Z.told 0).length ≤ 8192 := by have := IZ.out; rw [AT.told_length]; omega
        have hTf : T.flat.length ≤ 8192 := by rw [AT.flat_length]; omega
        go_wp2_with fail
        refine (validS _ _ (Z.told 0) d4 OZ.out.rd (Nat.le_refl _) (by omega)).mono ?_
        rintro e d5 ⟨he, hb5⟩
        rw [VZ.out] at he
        subst he
        have z5d := hb5.size
        have k3e := (hb5.cell (p := ⟨d3.heap.size, 0, none⟩) (by show d3.heap.size < d4.heap.size; omega)).trans k3
        have OZ5 := hide (OZ.out.below hb5 (Nat.le_refl _))
        have BC5 := hide (BC4.out.trans (hb5.mono (by omega)))
        clear hb5 k3 OZ BC4
        go_wp2_with fail
        refine (piecesL (Z.told 0) _ _ d5 OZ5.out hZl).mono ?_
        rintro e d6 ⟨p3, rfl, hp3, hb6⟩
        have z6d := hb6.size
        have RP3 := hide (show RdP d6.heap.size d6 p3 T.flat from (by have h9 := hp3.rd; rwa [AT.told_pc, FZ.out] at h9))
        have BC6 := hide (BC5.out.trans (hb6.mono (by omega)))
        have BW6 := hide (BW3.out.trans (BC6.out.mono (by have := BW3.out.size; omega)))
        clear hp3 hb6 BC5 OZ5
        go_wp2_with fail
        refine (smPiecesL T.flat p3 _ _ _ d6 RP3.out (by have h9 := RL.out.below BW6.out (Nat.le_refl _); rw [AT.flat_length] at h9; exact h9) (Nat.le_refl _) (by have := BW3.out.size; omega) hTf).mono ?_
        rintro e d7 ⟨rfl, hb7⟩
        have z7d := hb7.size
        have BW7 := hide (BW6.out.trans (hb7.mono (by have := BW3.out.size; omega)))
        clear hb7 BC6 RP3 BW6
        go_wp2
        go_roundw
        case rel => exact ⟨k + 1, by go_num, by omega, BW7.out⟩
        case measure => simp [intOf]; omega
    · have hge : ¬ (k : Int) ≤ (T.its : Int) := by omega
      have BR := hide hbr
      clear hbr
      go_wp2
      go_ret
      exact ⟨rfl, B4.out.trans (BR.out.mono (by have := B4.out.size; omega))⟩
end Go.Proofs.YtdbfigahccgnaacDoor
