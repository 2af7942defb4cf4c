import Derived.Test.YtdjdkgidihhkfadDoorTTSt
import Derived.Lib.Hide
import Derived.Laws.AppendOwnNone
namespace Go.Proofs.YtdjdkgidihhkfadDoor
open Go Go.RowKit Go.Shelf
set_option linter.unusedVariables false

set_option maxHeartbeats 16000000 in
set_option maxRecDepth 100000 in
theorem treeScriptLaw (zs : List Int) (v : Value) (w : World) (h : Rd .u8 w v zs) (hb : ∀ z ∈ zs, 0 ≤ z ∧ z ≤ 255) (hn : zs.length ≤ 1048576) (hg : w.cell? ⟨0, 0, none⟩ = some (.iface 222 (.agg #[.pointer (some ⟨2, 86, none⟩)]))) :
    Calls Tryd.prog 6 #[v] w fun e w' => e = .returned (.bool true) ∧ Below w.heap.size w w' := by
  obtain ⟨i0, hi, hz0, hz1, hz2⟩ := info_parts Tryd.infoPC
  have HR := hide h
  have HBY := hide hb
  have HBV : Hid (∀ b off cap, v = .slice (some ⟨b, off, none⟩) zs.length cap → 0 < zs.length → b < w.heap.size) := hide (by
    intro b off cap hv h0
    rcases h with ⟨_, _, _, rfl⟩ | ⟨b', off', cap', hv', hl, hc⟩
    · simp at h0
    · rw [hv] at hv'
      simp only [Value.slice.injEq, Option.some.injEq, Addr.mk.injEq, and_true, true_and] at hv'
      obtain ⟨⟨rfl, rfl⟩, rfl⟩ := hv'
      have h1 := World.block_lt_of_cell? w _ (hc 0 h0)
      simpa using h1)
  obtain ⟨ao, cap, rfl⟩ : ∃ ao cap, v = .slice ao zs.length cap := by
    rcases h with ⟨ao, cap, rfl, rfl⟩ | ⟨b, off, cap, rfl, _⟩
    · exact ⟨_, _, rfl⟩
    · exact ⟨_, _, rfl⟩
  have hgt : ¬ (1048576 : Int) < (zs.length : Int) := by omega
  clear h hb hg
  go_enter Tryd.func6, Tryd.ntmps6
  go_wp2_with fail
  refine (new2 zs _ w HR.out HBY.out hn).mono ?_
  rintro e w1 ⟨rfl, hs1, hb1⟩
  have S1 : SrcB zs (.slice ao zs.length cap) w.heap.size w1 := ⟨hs1, HBV.out⟩
  have l1 := hs1.lt
  have A2 := ((Below.refl w1.heap.size w1).alloc (Nat.le_refl _) (.cells #[.slice none 0 0] 37)).alloc (by simp) (.cells #[] 52)
  have K2 : ((w1.alloc (.cells #[.slice none 0 0] 37)).alloc (.cells #[] 52)).heap[w1.heap.size]? = some (.cells #[.slice none 0 0] 37 (0, 0)) := by
    rw [Below.heap_alloc _ _ _ (by simp)]; exact heap_alloc_new _ _
  have L2 := own_emptyP (w1.alloc (.cells #[.slice none 0 0] 37))
  rw [World.size_alloc] at L2
  have TS2 := hide (show TS zs (.slice ao zs.length cap) w w1.heap.size (.slice none 0 0) (w1.heap.size + 1) 0 .nil [] ((w1.alloc (.cells #[.slice none 0 0] 37)).alloc (.cells #[] 52)) from
    ⟨S1.below A2 l1 (Nat.le_refl _), hb1.trans (A2.mono hb1.size), K2, l1, World.ownsRow_nil _ _ _ _, trivial, (by intro q hq; cases hq), owns_base L2 (by omega), (by simp), (by unfold maxLen; omega)⟩)
  clear hs1 hb1 S1 A2 K2 L2 HR HBY HBV
  go_wp2_with fail
  generalize (w1.alloc (.cells #[.slice none 0 0] 37)).alloc (.cells #[] 52) = w2 at *
  refine (drawNNB zs _ w.heap.size 2 w2 TS2.out.src (by omega) (by omega)).mono ?_
  rintro e w3 ⟨r3, rfl, hr3, hs3, hc3⟩
  have TS3 := hide (TS2.out.chg hs3 hc3)
  have z3 := hc3.size
  clear hs3 hc3 TS2
  have hr3' : r3 = 0 ∨ r3 = 1 := by omega
  clear hr3
  rcases hr3' with rfl | rfl
  case' inl =>
    go_wp2_with fail
    refine (drawTop zs _ w.heap.size zs.length ao cap w3 TS3.out.src hn).mono ?_
    rintro e w4 ⟨vT, T, rfl, hTb, hTn, hTs, hTo, hs4, hc4⟩
    obtain ⟨aT, nT, cT, rfl⟩ := own_sl hTo
    have TS4 := hide (TS3.out.chg hs4 hc4)
    have hw3 := TS3.out.blw.size
    have hw3' := TS3.out.src.1.lt
    have TS5 := hide (TS4.out.tree (OwI.base hTo (base' := w.heap.size + 1) (by omega)) hTb hTs)
    have c4 := TS4.out.cell
    have f4 := TS4.out.fz
    have c5 := TS5.out.cell
    clear hs4 hc4 TS3 hTo TS4
    go_wp2_with fail
    generalize w4.setCell ⟨w1.heap.size, 0, none⟩ (.slice aT nT cT) = w5 at *
    refine (piecesL (T.told 0) _ _ w5 TS5.out.own (by rw [AT.told_length]; omega)).mono ?_
    rintro e w6 ⟨vL, rfl, hL, hb6⟩
    rw [AT.told_pc] at hL
    have hfl := AT.flat_length T
    obtain ⟨gl, cl, rfl, hcl⟩ : ∃ g c, vL = .slice (some ⟨g, 0, none⟩) T.flat.length c ∧ T.flat.length ≤ c ∧ c ≤ maxLen := by
      rcases OwP.shape hL with ⟨_, h0⟩ | h1
      · rw [h0] at hfl; simp at hfl; omega
      · exact h1
    have hw5 := TS5.out.blw.size
    have hw5' := TS5.out.src.1.lt
    have TS6 := hide ((TS5.out.below hb6).list (owns_base hL (by omega)) hcl)
    obtain ⟨F, hTF⟩ : ∃ F, T.flat = F := ⟨_, rfl⟩
    rw [hTF] at TS6
    rw [hTF]
    have hFn : F.length ≤ 127 := by rw [← hTF, hfl]; omega
    obtain ⟨vt, hvt⟩ : ∃ x : Value, x = .slice aT nT cT := ⟨_, rfl⟩
    rw [← hvt] at TS6
    clear hL hb6 TS5 c4 f4 c5 hcl hvt hfl
  case' inr =>
    obtain ⟨w6, rfl⟩ : ∃ x, x = w3 := ⟨_, rfl⟩
    obtain ⟨vt, hvt⟩ : ∃ x : Value, x = .slice none 0 0 := ⟨_, rfl⟩
    obtain ⟨gl, hgl⟩ : ∃ x, x = w1.heap.size + 1 := ⟨_, rfl⟩
    obtain ⟨cl, hcl⟩ : ∃ x, x = 0 := ⟨_, rfl⟩
    obtain ⟨T, hT⟩ : ∃ x, x = AT.nil := ⟨_, rfl⟩
    obtain ⟨F, hF⟩ : ∃ x : List Pc, x = [] := ⟨_, rfl⟩
    have TS6 := hide (show TS zs (.slice ao zs.length cap) w w1.heap.size vt gl cl T F w6 from (by rw [hvt, hgl, hcl, hT, hF]; exact TS3.out))
    have hTF : T.flat = F := by rw [hT, hF]; rfl
    have hFn : F.length ≤ 127 := by rw [hF]; simp
    have hE : Value.slice (some ⟨w1.heap.size + 1, 0, none⟩) 0 0 = .slice (some ⟨gl, 0, none⟩) F.length cl := by rw [hgl, hcl, hF]; rfl
    rw [hE]
    clear hvt hgl hcl hT hF TS3 hE
  all_goals
    have HTF := hide hTF
    clear hTF
    go_wp2_with fail
    refine (sizeT2 zs.length ao cap 40 w6 hn (by omega)).mono ?_
    rintro e w7 ⟨sz, rfl, hsz, hw7⟩
    have hw7' := hw7.symm
    subst hw7'
    clear hw7
    go_wp2_with fail
    refine (drawNNB zs _ w.heap.size sz _ TS6.out.src (by omega) (by omega)).mono ?_
    rintro e w8 ⟨r8, rfl, hr8, hs8, hc8⟩
    have TS8 := hide (TS6.out.chg hs8 hc8)
    obtain ⟨n8, hn8⟩ := Int.eq_ofNat_of_zero_le hr8.1
    subst hn8
    clear hs8 hc8 TS6
    go_wp2_with fail
    go_loopw [5, 6] (fun lv kv wr => ∃ (j : Nat) (vt : Value) (gl cl : Nat) (T : AT) (F : List Pc), kv = .int .i64 j ∧ lv = .slice (some ⟨gl, 0, none⟩) F.length cl ∧ TS zs (.slice ao zs.length cap) w w1.heap.size vt gl cl T F wr ∧ T.flat = F ∧ F.length + j ≤ 200) (fun _ kv _ => (intOf kv).toNat)
    case atStart => exact ⟨2 + n8, vt, gl, cl, T, F, by first | rfl | go_num, rfl, TS8.out, HTF.out, by omega⟩
    case round =>
      clear TS8 HTF hFn
      obtain ⟨j, vt, gl, cl, T, F, rfl, rfl, hts, hTF, hFj⟩ := hrel
      have ST0 := hide hts
      have hcl := hts.cap
      unfold maxLen at hcl
      have hgl := hts.gl_lt
      have hbal := hts.bal
      have hsm := hts.sm
      have hits : T.its = F.length := by rw [← AT.flat_length, hTF]
      obtain ⟨N, hN⟩ : ∃ N, N = F.length := ⟨_, rfl⟩
      rw [← hN] at hcl hits hFj
      rw [← hN]
      have HNN := hide hN
      have HTF := hide hTF
      have HIT := hide hits
      have HBAL := hide hbal
      have HSM := hide hsm
      have hok := sm_ok2 hsm (by omega)
      have hrns := AT.rns_sm T hsm
      have HOK := hide hok
      have hrn : T.rns ≤ 1800 := by omega
      clear hts hN hTF hits hbal hsm hok hrns
      by_cases hj : 0 < j
      · obtain ⟨i, rfl⟩ : ∃ i, j = i + 1 := ⟨j - 1, by omega⟩
        have hj' : (0 : Int) < ((i + 1 : Nat) : Int) := by omega
        go_wp2_with fail
        refine (drawNNB zs _ w.heap.size 7 _ ST0.out.src (by omega) (by omega)).mono ?_
        rintro e x1 ⟨kd, rfl, hkd, hs1, hc1⟩
        have ST1 := hide (ST0.out.chg hs1 hc1)
        clear hs1 hc1 ST0
        have hcase : N = 0 ∨ (0 < N ∧ kd < 4) ∨ (0 < N ∧ ¬ kd < 4 ∧ kd < 6) ∨ (0 < N ∧ ¬ kd < 4 ∧ ¬ kd < 6) := by omega
        rcases hcase with hN0 | ⟨hN0, h4⟩ | ⟨hN0, h4, h6⟩ | ⟨hN0, h4, h6⟩
        case' inl =>
          have hNb : ((N : Int) == 0) = true := by simp; omega
          have HN0 := hide hN0
          clear hN0
        case' inr.inl => have hNb : ((N : Int) == 0) = false := by simp; omega
        case' inr.inr.inl => have hNb : ((N : Int) == 0) = false := by simp; omega
        case' inr.inr.inr => have hNb : ((N : Int) == 0) = false := by simp; omega
        case inr.inr.inl =>
          go_wp2_with fail
          refine (drawNNB zs _ w.heap.size (N : Int) x1 ST1.out.src (by omega) (by omega)).mono ?_
          rintro e x2 ⟨rk, rfl, hrk, hs2, hc2⟩
          obtain ⟨k, hk⟩ := Int.eq_ofNat_of_zero_le hrk.1
          subst hk
          have hkN : k < N := by omega
          have ST2 := hide (ST1.out.chg hs2 hc2)
          have hx2 := ST2.out.src.1.lt
          have c2 := ST2.out.cell
          have I5 := hide (implDeleteOk x2.heap.size vt T k x2 HBAL.out HOK.out (by have := HIT.out; omega) (OwI.rd ST2.out.own) (Nat.le_refl _))
          clear hs2 hc2 ST1 hrk
          go_wp2_with fail
          refine I5.out.mono ?_
          rintro e x5 ⟨v5, rfl, hv5, hb5⟩
          obtain ⟨a5, n5, c5, rfl⟩ := own_sl hv5
          have ST5 := hide (ST2.out.below hb5)
          obtain ⟨T', hT'⟩ : ∃ x, x = T.rem k := ⟨_, rfl⟩
          have hfl := AT.rem_flat T k (by have := HIT.out; omega)
          have hbl := (AT.rem_bal T k HBAL.out (by have := HIT.out; omega)).1
          rw [← hT'] at hv5 hfl hbl
          clear hT'
          rw [HTF.out] at hfl
          have hsm' : ∀ z ∈ T'.flat, Sm z := by
            intro z hz
            rw [hfl, List.mem_append] at hz
            rcases hz with hz | hz
            · exact HSM.out z (by rw [HTF.out]; exact List.mem_of_mem_take hz)
            · exact HSM.out z (by rw [HTF.out]; exact List.mem_of_mem_drop hz)
          have A6 := hide ((Below.refl x5.heap.size x5).alloc (Nat.le_refl _) (.cells #[.slice a5 n5 c5] 37))
          have ST6 := hide (ST5.out.below A6.out)
          have hw5 := ST5.out.blw.size
          have hw5' := ST5.out.src.1.lt
          have OV5 := hide (OwI.base hv5 (base' := w.heap.size + 1) (by omega))
          have ST7 := hide ((ST5.out.tree OV5.out hbl hsm').below ((Below.refl _ _).alloc (Nat.le_refl _) (.cells #[.slice a5 n5 c5] 37)))
          have HFL := hide hfl
          have tbx := ST5.out.lt
          have c6 := ST6.out.cell
          have f6 := ST6.out.fz
          have k6 : (x5.alloc (.cells #[.slice a5 n5 c5] 37)).cell? ⟨x5.heap.size, 0, none⟩ = some (.slice a5 n5 c5) := Boxed.cell (heap_alloc_new _ _)
          have l6 : x5.heap.size < (x5.alloc (.cells #[.slice a5 n5 c5] 37)).heap.size := by simp
          have glx := ST5.out.gl_lt
          have hs7 : x5.heap.size < ((x5.setCell ⟨w1.heap.size, 0, none⟩ (.slice a5 n5 c5)).alloc (.cells #[.slice a5 n5 c5] 37)).heap.size := by simp
          clear hb5 hv5 ST5 ST6 OV5 A6 hfl hbl hsm' c2 ST2 I5
          go_upto_region 31 with fail
          generalize (x5.setCell ⟨w1.heap.size, 0, none⟩ (.slice a5 n5 c5)).alloc (.cells #[.slice a5 n5 c5] 37) = x7 at *
          clear c6 f6 k6 l6
          have LS := hide (show OwP x7 (w.heap.size + 1) (.slice (some ⟨gl, 0, none⟩) F.length cl) F from ST7.out.lst)
          have hkc : (k : Int) ≤ (cl : Int) := by omega
          have hki : (0 : Int) ≤ (k : Int) := by omega
          have hkn : (k : Int) ≤ (N : Int) := by omega
          have E8 := hide (own_emptyP x7)
          have s8 : x7.heap.size ≤ (x7.alloc (.cells #[] 52)).heap.size := by simp
          have LS8 := hide (World.ownsRow.alloc LS.out (.cells #[] 52))
          have D8 := hide ((Below.refl x7.heap.size x7).alloc (Nat.le_refl _) (.cells #[] 52))
          have ltk : (F.take k).length = k := by rw [List.length_take, ← HNN.out]; omega
          have ldk : (F.drop k).length = N - k := by rw [List.length_drop, ← HNN.out]
          have ldk1 : (F.drop (k + 1)).length = N - (k + 1) := by rw [List.length_drop, ← HNN.out]
          have hk1 : ((k : Int) + 1) ≤ (N : Int) := by omega
          have hk1c : ((k : Int) + 1) ≤ (cl : Int) := by omega
          have C8 := hide (lst_take (show OwP (x7.alloc (.cells #[] 52)) (w.heap.size + 1) (.slice (some ⟨gl, 0, none⟩) F.length cl) F from LS8.out) k)
          go_wp2_with (at_builtin; refine wpList_append_own _ rfl _ _ 48 rfl x7.heap.size 52 i0 (.agg #[.int .i64 0, .int .i64 0, .int .i64 0]) 3 24 Tryd.underlying48 hi hz0 hz1 hz2 rfl (by decide) (.slice (some ⟨x7.heap.size, 0, none⟩) 0 0) 0 [] rfl (by exact E8.out) ⟨gl, 0, none⟩ k cl (pcCs (F.take k)) rfl (by rw [pcCs_length, ltk]) (by exact C8.out) (pcCs_one _) (by unfold maxLen; omega) (by omega) (by first | omega | (simp; omega)) ?_; intro v9 x9 hoN hgN hnil; refine Hid.out ?_)
          refine Lib.hid ?_
          have O9 := hide (show OwP x9 x7.heap.size v9 (F.take k) from (by have h9 := hoN; unfold OwP; rw [ltk]; rw [Nat.zero_add, List.nil_append] at h9; exact h9))
          have B9 := hide (D8.out.grown hgN (by simp) (fun q hq => (E8.out.lt q hq).1))
          have NN9 := hide (show ¬ v9 = .slice none 0 0 from fun e => absurd (hnil.1 e).1 (by simp))
          clear hoN hgN hnil C8 E8 D8 LS8
          have z9 := B9.out.size
          have OA9 := hide (show x9.ownsRow x7.heap.size 52 3 v9 k (pcCs (F.take k)) from (by have h9 := O9.out; unfold OwP at h9; rw [ltk] at h9; exact h9))
          have LS9 := hide (owns_below LS.out B9.out (Nat.le_refl _))
          by_cases hck : cl = k + 1
          case' pos =>
            have hck2 := hck.symm
            subst hck2
            clear hck
            have C11 := hide (show ∀ (j : Nat) (u : Value), ([] : List Value)[j]? = some u → x9.cell? ((⟨gl, 0, none⟩ : Addr).add j) = some u from (by intro j u hj; simp at hj))
            go_wp2_with (at_builtin; refine wpList_append_own _ rfl _ _ 48 rfl x7.heap.size 52 i0 (.agg #[.int .i64 0, .int .i64 0, .int .i64 0]) 3 24 Tryd.underlying48 hi hz0 hz1 hz2 rfl (by decide) v9 k (pcCs (F.take k)) rfl (by exact OA9.out) ⟨gl, 0, none⟩ _ _ [] rfl (by first | rfl | (simp; omega)) (by exact C11.out) (by intro u hu; cases hu) (by unfold maxLen; omega) (by omega) (by first | omega | (simp; omega)) ?_; intro v11 x11 hoN hgN hnil; refine Hid.out ?_)
            refine Lib.hid ?_
            have HON := hide (show x11.ownsRow x7.heap.size 52 3 v11 (k + (N - (k + 1))) ((pcCs (F.take k)) ++ pcCs (F.drop (k + 1))) from (by
              have e1 : N - (k + 1) = 0 := by omega
              have e2 : F.drop (k + 1) = [] := List.drop_eq_nil_of_le (by rw [← HNN.out]; omega)
              rw [e1, e2]; exact hoN))
          case' neg =>
            have C11 := hide (lst_drop (show OwP x9 (w.heap.size + 1) (.slice (some ⟨gl, 0, none⟩) F.length cl) F from LS9.out) (k + 1) (by rw [← HNN.out]; omega))
            go_wp2_with (at_builtin; refine wpList_append_own _ rfl _ _ 48 rfl x7.heap.size 52 i0 (.agg #[.int .i64 0, .int .i64 0, .int .i64 0]) 3 24 Tryd.underlying48 hi hz0 hz1 hz2 rfl (by decide) v9 k (pcCs (F.take k)) rfl (by exact OA9.out) ⟨gl, (k + 1) * 3, none⟩ (N - (k + 1)) _ (pcCs (F.drop (k + 1))) rfl (by rw [pcCs_length, ldk1]) (by exact C11.out) (pcCs_one _) (by unfold maxLen; omega) (by omega) (by first | omega | (simp; omega)) ?_; intro v11 x11 hoN hgN hnil; refine Hid.out ?_)
            refine Lib.hid ?_
            have HON := hide hoN
          all_goals
            have OF := hide (show OwP x11 x7.heap.size v11 (F.take k ++ F.drop (k + 1)) from ownP_app ltk ldk1 HON.out)
            have BF := hide (B9.out.grown hgN (by omega) (fun q hq => (O9.out.lt q hq).1))
            have NNF := hide (show ¬ v11 = .slice none 0 0 from fun e => NN9.out (hnil.1 e).1)
            have hTF2 : T'.flat = F.take k ++ F.drop (k + 1) := HFL.out
            have hFn2 : (F.take k ++ F.drop (k + 1)).length = N - 1 := by rw [List.length_append, ltk, ldk1]; omega
            clear hoN hgN hnil
            obtain ⟨F', hF'⟩ : ∃ x, x = F.take k ++ F.drop (k + 1) := ⟨_, rfl⟩
            rw [← hF'] at OF hTF2 hFn2
            have HTF2 := hide hTF2
            have hIT2 : T'.its = F'.length := by rw [← AT.flat_length, hTF2]
            rcases OwP.shape OF.out with ⟨hbad, _⟩ | ⟨g9, c9, rfl, hc9⟩
            · exact absurd hbad (fun e => NNF.out e)
            have STF := hide ((ST7.out.below BF.out).list (owns_base OF.out (base' := w.heap.size + 1) (by have := ST7.out.blw.size; have := ST7.out.src.1.lt; omega)) hc9)
            have hFl : F'.length ≤ 8192 := by omega
            have hFb : F'.length ≤ N + 1 := by omega
            have hIb : T'.its ≤ N + 1 := by omega
            clear OF BF NNF hTF2 hF' ST7 LS hFn2 hIT2 ltk ldk ldk1
            have okX := sm_ok2 STF.out.sm (show T'.its ≤ 900 by omega)
            have okTX := hide (okT_told T' STF.out.bal okX)
            have lenX : (T'.told 0).length ≤ 8192 := by rw [AT.told_length]; have := (show T'.its ≤ 900 by omega); omega
            have cX := STF.out.cell
            clear okX
            go_wp2_with fail
            refine (validS _ _ (T'.told 0) x11 (OwI.rd STF.out.own) (Nat.le_refl _) (by omega)).mono ?_
            rintro e y1 ⟨rfl, hb1⟩
            rw [okTX.out]
            have SY1 := hide (STF.out.below hb1)
            have cY := SY1.out.cell
            clear hb1 cX
            go_wp2_with fail
            refine (piecesL (T'.told 0) _ _ y1 SY1.out.own lenX).mono ?_
            rintro e y2 ⟨vp, rfl, hvp, hb2⟩
            rw [AT.told_pc, HTF2.out] at hvp
            have OVP := hide hvp
            have SY2 := hide (SY1.out.below hb2)
            clear hb2 hvp SY1 cY
            go_wp2_with fail
            refine (smPiecesL F' _ _ _ _ y2 (OwP.rd OVP.out) (OwP.rd SY2.out.lst) (Nat.le_refl _) (Nat.le_refl _) (by omega)).mono ?_
            rintro e y3 ⟨rfl, hb3⟩
            have SY3 := hide (SY2.out.below hb3)
            clear hb3 SY2 OVP
            go_wp2
            go_roundw
            case rel => exact ⟨i, _, g9, c9, T', F', by first | rfl | go_num | (congr 1; omega), rfl, SY3.out, HTF2.out, by omega⟩
            case measure => first | (simp [intOf]; done) | (simp [intOf]; omega)
        case inr.inr.inr =>
          go_wp2_with fail
          refine (drawNNB zs _ w.heap.size ((N : Int) + 1) x1 ST1.out.src (by omega) (by omega)).mono ?_
          rintro e x2 ⟨rk, rfl, hrk, hs2, hc2⟩
          obtain ⟨k, hk⟩ := Int.eq_ofNat_of_zero_le hrk.1
          subst hk
          have hkN : k ≤ N := by omega
          have ST2 := hide (ST1.out.chg hs2 hc2)
          have hx2 := ST2.out.src.1.lt
          have c2' := ST2.out.cell
          have I3 := hide (implSplitOk x2.heap.size vt T k x2 HBAL.out HOK.out (by have := HIT.out; omega) (OwI.rd ST2.out.own) (Nat.le_refl _))
          clear hs2 hc2 ST1 hrk
          go_wp2_with fail
          refine I3.out.mono ?_
          rintro e x2b ⟨v1, v2, rfl, hv1, hv2, hb3⟩
          obtain ⟨a1, n1, c1, rfl⟩ := own_sl hv1
          obtain ⟨a2, n2, c2, rfl⟩ := own_sl hv2
          have ST3 := hide (ST2.out.below hb3)
          have y2 := hb3.size
          obtain ⟨X, hX⟩ : ∃ x, x = (T.split k).1 := ⟨_, rfl⟩
          obtain ⟨Y, hY⟩ : ∃ x, x = (T.split k).2 := ⟨_, rfl⟩
          have hsf := AT.split_flat T k (by have := HIT.out; omega)
          have hsb := AT.split_bal T k HBAL.out
          rw [← hX, ← hY, HTF.out] at hsf
          rw [← hX, ← hY] at hsb
          rw [← hX] at hv1
          rw [← hY] at hv2
          clear hX hY
          have smX : ∀ z ∈ X.flat, Sm z := fun z hz => HSM.out z (by rw [HTF.out]; rw [hsf.1] at hz; exact List.mem_of_mem_take hz)
          have smY : ∀ z ∈ Y.flat, Sm z := fun z hz => HSM.out z (by rw [HTF.out]; rw [hsf.2] at hz; exact List.mem_of_mem_drop hz)
          have iX : X.its ≤ N := by rw [← AT.flat_length, hsf.1, List.length_take, ← HNN.out]; omega
          have iY : Y.its ≤ N := by rw [← AT.flat_length, hsf.2, List.length_drop, ← HNN.out]; omega
          have okX := sm_ok2 smX (by omega)
          have okY := sm_ok2 smY (by omega)
          have rX := AT.rns_sm X smX
          have rY := AT.rns_sm Y smY
          have A3 : Below x2b.heap.size x2b ((x2b.alloc (.cells #[.slice a1 n1 c1] 37)).alloc (.cells #[.slice a2 n2 c2] 37)) := ((Below.refl _ _).alloc (Nat.le_refl _) _).alloc (by simp) _
          have K1 := (Boxed.new x2b 37 (.slice a1 n1 c1)).alloc (.cells #[.slice a2 n2 c2] 37)
          have K2 := Boxed.new (x2b.alloc (.cells #[.slice a1 n1 c1] 37)) 37 (.slice a2 n2 c2)
          rw [World.size_alloc] at K2
          have HK1 := hide K1
          have HK2 := hide K2
          have OX := hide (OwI.below hv1 A3 (Nat.le_refl _))
          have OY := hide (OwI.below hv2 A3 (Nat.le_refl _))
          have ST4 := hide (ST3.out.below A3)
          have y3 := A3.size
          have I5 := hide (implJoinOk _ _ (.slice a2 n2 c2) (.slice a1 n1 c1) Y X ((x2b.alloc (.cells #[.slice a1 n1 c1] 37)).alloc (.cells #[.slice a2 n2 c2] 37)) hsb.2 okY hsb.1 okX (by omega) (OwI.rd OY.out) (Nat.le_refl _) (OwI.rd OX.out) (Nat.le_refl _))
          have HSF := hide hsf
          have HSB := hide hsb
          have SMX := hide smX
          have SMY := hide smY
          clear hb3 hv1 hv2 ST2 ST3 A3 K1 K2 hsf hsb smX smY okX okY rX rY c2' I3
          go_upto_region 35 with fail
          generalize (x2b.alloc (.cells #[.slice a1 n1 c1] 37)).alloc (.cells #[.slice a2 n2 c2] 37) = x4 at *
          have k1 := Boxed.cell HK1.out
          have k2 := Boxed.cell HK2.out
          go_wp2_with fail
          refine I5.out.mono ?_
          rintro e x5 ⟨v5, rfl, hv5, hb5⟩
          obtain ⟨a5, n5, c5, rfl⟩ := own_sl hv5
          have ST5 := hide (ST4.out.below hb5)
          obtain ⟨T', hT'⟩ : ∃ x, x = AT.join Y X := ⟨_, rfl⟩
          have hfl := AT.join_flat Y X
          have hbl := AT.join_bal Y X HSB.out.2 HSB.out.1
          rw [← hT'] at hv5 hfl hbl
          clear hT'
          have hsm' : ∀ z ∈ T'.flat, Sm z := by
            intro z hz
            rw [hfl, List.mem_append] at hz
            rcases hz with hz | hz
            · exact SMY.out z hz
            · exact SMX.out z hz
          rw [HSF.out.1, HSF.out.2] at hfl
          have A6 := hide ((Below.refl x5.heap.size x5).alloc (Nat.le_refl _) (.cells #[.slice a5 n5 c5] 37))
          have ST6 := hide (ST5.out.below A6.out)
          have hw5 := ST5.out.blw.size
          have hw5' := ST5.out.src.1.lt
          have OV5 := hide (OwI.base hv5 (base' := w.heap.size + 1) (by omega))
          have ST7 := hide ((ST5.out.tree OV5.out hbl hsm').below ((Below.refl _ _).alloc (Nat.le_refl _) (.cells #[.slice a5 n5 c5] 37)))
          have HFL := hide hfl
          have tbx := ST5.out.lt
          have c6 := ST6.out.cell
          have f6 := ST6.out.fz
          have k6 : (x5.alloc (.cells #[.slice a5 n5 c5] 37)).cell? ⟨x5.heap.size, 0, none⟩ = some (.slice a5 n5 c5) := Boxed.cell (heap_alloc_new _ _)
          have l6 : x5.heap.size < (x5.alloc (.cells #[.slice a5 n5 c5] 37)).heap.size := by simp
          have glx := ST5.out.gl_lt
          have hs7 : x5.heap.size < ((x5.setCell ⟨w1.heap.size, 0, none⟩ (.slice a5 n5 c5)).alloc (.cells #[.slice a5 n5 c5] 37)).heap.size := by simp
          clear hb5 hv5 ST5 ST6 OV5 A6 hfl hbl hsm' I5 k1 k2 HK1 HK2 OX OY ST4 HSF HSB SMX SMY
          go_upto_region 39 with fail
          generalize (x5.setCell ⟨w1.heap.size, 0, none⟩ (.slice a5 n5 c5)).alloc (.cells #[.slice a5 n5 c5] 37) = x7 at *
          clear c6 f6 k6 l6
          have LS := hide (show OwP x7 (w.heap.size + 1) (.slice (some ⟨gl, 0, none⟩) F.length cl) F from ST7.out.lst)
          have hkc : (k : Int) ≤ (cl : Int) := by omega
          have hki : (0 : Int) ≤ (k : Int) := by omega
          have hkn : (k : Int) ≤ (N : Int) := by omega
          have E8 := hide (own_emptyP x7)
          have s8 : x7.heap.size ≤ (x7.alloc (.cells #[] 52)).heap.size := by simp
          have LS8 := hide (World.ownsRow.alloc LS.out (.cells #[] 52))
          have D8 := hide ((Below.refl x7.heap.size x7).alloc (Nat.le_refl _) (.cells #[] 52))
          have ltk : (F.take k).length = k := by rw [List.length_take, ← HNN.out]; omega
          have ldk : (F.drop k).length = N - k := by rw [List.length_drop, ← HNN.out]
          by_cases hck : cl = k
          case' pos =>
            have hck2 := hck.symm
            subst hck2
            clear hck
            have C11 := hide (show ∀ (j : Nat) (u : Value), ([] : List Value)[j]? = some u → (x7.alloc (.cells #[] 52)).cell? ((⟨gl, 0, none⟩ : Addr).add j) = some u from (by intro j u hj; simp at hj))
            go_wp2_with (at_builtin; refine wpList_append_own _ rfl _ _ 48 rfl x7.heap.size 52 i0 (.agg #[.int .i64 0, .int .i64 0, .int .i64 0]) 3 24 Tryd.underlying48 hi hz0 hz1 hz2 rfl (by decide) (.slice (some ⟨x7.heap.size, 0, none⟩) 0 0) 0 [] rfl (by exact E8.out) ⟨gl, 0, none⟩ _ _ [] rfl (by first | rfl | (simp; omega)) (by exact C11.out) (by intro u hu; cases hu) (by unfold maxLen; omega) (by omega) (by first | omega | (simp; omega)) ?_; intro v9 x9 hoN hgN hnil; refine Hid.out ?_)
            refine Lib.hid ?_
            have HON := hide (show x9.ownsRow x7.heap.size 52 3 v9 (0 + (N - k)) ([] ++ pcCs (F.drop k)) from (by
              have e1 : N - k = 0 := by omega
              have e2 : F.drop k = [] := List.drop_eq_nil_of_le (by rw [← HNN.out]; omega)
              rw [e1, e2]; exact hoN))
          case' neg =>
            have C11 := hide (lst_drop (show OwP (x7.alloc (.cells #[] 52)) (w.heap.size + 1) (.slice (some ⟨gl, 0, none⟩) F.length cl) F from LS8.out) k (by rw [← HNN.out]; omega))
            go_wp2_with (at_builtin; refine wpList_append_own _ rfl _ _ 48 rfl x7.heap.size 52 i0 (.agg #[.int .i64 0, .int .i64 0, .int .i64 0]) 3 24 Tryd.underlying48 hi hz0 hz1 hz2 rfl (by decide) (.slice (some ⟨x7.heap.size, 0, none⟩) 0 0) 0 [] rfl (by exact E8.out) ⟨gl, k * 3, none⟩ (N - k) _ (pcCs (F.drop k)) rfl (by rw [pcCs_length, ldk]) (by exact C11.out) (pcCs_one _) (by unfold maxLen; omega) (by omega) (by first | omega | (simp; omega)) ?_; intro v9 x9 hoN hgN hnil; refine Hid.out ?_)
            refine Lib.hid ?_
            have HON := hide hoN
          all_goals
            have O9 := hide (show OwP x9 x7.heap.size v9 (F.drop k) from (by have h9 := HON.out; unfold OwP; rw [ldk]; rw [Nat.zero_add, List.nil_append] at h9; exact h9))
            have B9 := hide (D8.out.grown hgN (by simp) (fun q hq => (E8.out.lt q hq).1))
            have NN9 := hide (show ¬ v9 = .slice none 0 0 from fun e => absurd (hnil.1 e).1 (by simp))
            clear hoN hgN hnil HON C11 E8 D8 LS8
            have z9 := B9.out.size
            have OA9 := hide (show x9.ownsRow x7.heap.size 52 3 v9 (N - k) (pcCs (F.drop k)) from (by have h9 := O9.out; unfold OwP at h9; rw [ldk] at h9; exact h9))
            have LS9 := hide (owns_below LS.out B9.out (Nat.le_refl _))
            have C10 := hide (lst_take (show OwP x9 (w.heap.size + 1) (.slice (some ⟨gl, 0, none⟩) F.length _) F from LS9.out) k)
            go_wp2_with (at_builtin; refine wpList_append_own _ rfl _ _ 48 rfl x7.heap.size 52 i0 (.agg #[.int .i64 0, .int .i64 0, .int .i64 0]) 3 24 Tryd.underlying48 hi hz0 hz1 hz2 rfl (by decide) v9 (N - k) (pcCs (F.drop k)) rfl (by exact OA9.out) ⟨gl, 0, none⟩ k _ (pcCs (F.take k)) rfl (by rw [pcCs_length, ltk]) (by exact C10.out) (pcCs_one _) (by unfold maxLen; omega) (by omega) (by first | omega | (simp; omega)) ?_; intro v11 x11 hoN hgN hnil; refine Hid.out ?_)
            refine Lib.hid ?_
            have OF := hide (show OwP x11 x7.heap.size v11 (F.drop k ++ F.take k) from ownP_app ldk ltk hoN)
            have BF := hide (B9.out.grown hgN (by omega) (fun q hq => (O9.out.lt q hq).1))
            have NNF := hide (show ¬ v11 = .slice none 0 0 from fun e => NN9.out (hnil.1 e).1)
            have hTF2 : T'.flat = F.drop k ++ F.take k := HFL.out
            have hFn2 : (F.drop k ++ F.take k).length = N := by rw [List.length_append, ltk, ldk]; omega
            clear hoN hgN hnil
            obtain ⟨F', hF'⟩ : ∃ x, x = F.drop k ++ F.take k := ⟨_, rfl⟩
            rw [← hF'] at OF hTF2 hFn2
            have HTF2 := hide hTF2
            have hIT2 : T'.its = F'.length := by rw [← AT.flat_length, hTF2]
            rcases OwP.shape OF.out with ⟨hbad, _⟩ | ⟨g9, c9, rfl, hc9⟩
            · exact absurd hbad (fun e => NNF.out e)
            have STF := hide ((ST7.out.below BF.out).list (owns_base OF.out (base' := w.heap.size + 1) (by have := ST7.out.blw.size; have := ST7.out.src.1.lt; omega)) hc9)
            have hFl : F'.length ≤ 8192 := by omega
            have hFb : F'.length ≤ N + 1 := by omega
            have hIb : T'.its ≤ N + 1 := by omega
            clear OF BF NNF hTF2 hF' ST7 LS hFn2 hIT2 ltk ldk 
            have okX := sm_ok2 STF.out.sm (show T'.its ≤ 900 by omega)
            have okTX := hide (okT_told T' STF.out.bal okX)
            have lenX : (T'.told 0).length ≤ 8192 := by rw [AT.told_length]; have := (show T'.its ≤ 900 by omega); omega
            have cX := STF.out.cell
            clear okX
            go_wp2_with fail
            refine (validS _ _ (T'.told 0) x11 (OwI.rd STF.out.own) (Nat.le_refl _) (by omega)).mono ?_
            rintro e y1 ⟨rfl, hb1⟩
            rw [okTX.out]
            have SY1 := hide (STF.out.below hb1)
            have cY := SY1.out.cell
            clear hb1 cX
            go_wp2_with fail
            refine (piecesL (T'.told 0) _ _ y1 SY1.out.own lenX).mono ?_
            rintro e y2 ⟨vp, rfl, hvp, hb2⟩
            rw [AT.told_pc, HTF2.out] at hvp
            have OVP := hide hvp
            have SY2 := hide (SY1.out.below hb2)
            clear hb2 hvp SY1 cY
            go_wp2_with fail
            refine (smPiecesL F' _ _ _ _ y2 (OwP.rd OVP.out) (OwP.rd SY2.out.lst) (Nat.le_refl _) (Nat.le_refl _) (by omega)).mono ?_
            rintro e y3 ⟨rfl, hb3⟩
            have SY3 := hide (SY2.out.below hb3)
            clear hb3 SY2 OVP
            go_wp2
            go_roundw
            case rel => exact ⟨i, _, g9, c9, T', F', by first | rfl | go_num | (congr 1; omega), rfl, SY3.out, HTF2.out, by omega⟩
            case measure => first | (simp [intOf]; done) | (simp [intOf]; omega)
        all_goals
          go_wp2_with fail
          refine (drawNNB zs _ w.heap.size ((N : Int) + 1) x1 ST1.out.src (by omega) (by omega)).mono ?_
          rintro e x2 ⟨rk, rfl, hrk, hs2, hc2⟩
          obtain ⟨k, hk⟩ := Int.eq_ofNat_of_zero_le hrk.1
          subst hk
          have hkN : k ≤ N := by omega
          have ST2 := hide (ST1.out.chg hs2 hc2)
          clear hs2 hc2 ST1 hrk
          go_wp2_with fail
          refine (pieceD zs _ w.heap.size x2 ST2.out.src).mono ?_
          rintro e x3 ⟨q, rfl, hq, hs3, hc3⟩
          have ST3 := hide (ST2.out.chg hs3 hc3)
          have HQ := hide hq
          have hqs := hq
          unfold Sm at hqs
          have A4 := hide ((Below.refl x3.heap.size x3).alloc (Nat.le_refl _) (.cells #[.int .i64 q.off, .int .i64 q.len, .int .i64 q.brk] 52))
          have ST4 := hide (ST3.out.below A4.out)
          have P4 : (x3.alloc (.cells #[.int .i64 q.off, .int .i64 q.len, .int .i64 q.brk] 52)).heap[x3.heap.size]? = some (.cells #[.int .i64 q.off, .int .i64 q.len, .int .i64 q.brk] 52 (0, 0)) := heap_alloc_new _ _
          have HP4 := hide P4
          have l4 : x3.heap.size < (x3.alloc (.cells #[.int .i64 q.off, .int .i64 q.len, .int .i64 q.brk] 52)).heap.size := by simp
          have TB : w1.heap.size < x3.heap.size := ST3.out.lt
          clear hs3 hc3 ST2 hq A4 ST3 P4
          unfold pcV
          go_upto_region 18 with fail
          generalize x3.alloc (.cells #[.int .i64 q.off, .int .i64 q.len, .int .i64 q.brk] 52) = x4 at *
          have p0 : x4.cell? ⟨x3.heap.size, 0, none⟩ = some (.int .i64 q.off) := by rw [cell_of_row x4 _ 0 _ _ _ HP4.out]; rfl
          have p1 : x4.cell? ⟨x3.heap.size, 1, none⟩ = some (.int .i64 q.len) := by rw [cell_of_row x4 _ 1 _ _ _ HP4.out]; rfl
          have p2 : x4.cell? ⟨x3.heap.size, 2, none⟩ = some (.int .i64 q.brk) := by rw [cell_of_row x4 _ 2 _ _ _ HP4.out]; rfl
          have c4 := ST4.out.cell
          have I5 := hide (implInsertOk x4.heap.size vt T k q x4 HBAL.out HOK.out (by have := HIT.out; omega) HQ.out.ok (by omega) (OwI.rd ST4.out.own) (Nat.le_refl _))
          unfold pcV at I5
          go_wp2_with fail
          refine I5.out.mono ?_
          rintro e x5 ⟨v5, rfl, hv5, hb5⟩
          obtain ⟨a5, n5, c5, rfl⟩ := own_sl hv5
          have ST5 := hide (ST4.out.below hb5)
          have HP5 := hide ((hb5.block x3.heap.size l4).trans HP4.out)
          have l5 : x3.heap.size < x5.heap.size := by have := hb5.size; omega
          obtain ⟨T', hT'⟩ : ∃ x, x = T.ins k q := ⟨_, rfl⟩
          have hfl := AT.ins_flat T k q (by have := HIT.out; omega)
          have hbl := (AT.ins_bal T k q HBAL.out).1
          rw [← hT'] at hv5 hfl hbl
          clear hT'
          rw [HTF.out] at hfl
          have hsm' : ∀ z ∈ T'.flat, Sm z := by
            intro z hz
            rw [hfl, List.mem_append, List.mem_cons] at hz
            rcases hz with hz | rfl | hz
            · exact HSM.out z (by rw [HTF.out]; exact List.mem_of_mem_take hz)
            · exact HQ.out
            · exact HSM.out z (by rw [HTF.out]; exact List.mem_of_mem_drop hz)
          have A6 := hide ((Below.refl x5.heap.size x5).alloc (Nat.le_refl _) (.cells #[.slice a5 n5 c5] 37))
          have ST6 := hide (ST5.out.below A6.out)
          have hw5 := ST5.out.blw.size
          have hw5' := ST5.out.src.1.lt
          have OV5 := hide (OwI.base hv5 (base' := w.heap.size + 1) (by omega))
          have ST7 := hide ((ST5.out.tree OV5.out hbl hsm').below ((Below.refl _ _).alloc (Nat.le_refl _) (.cells #[.slice a5 n5 c5] 37)))
          have HFL := hide hfl
          have tbx := ST5.out.lt
          have c6 := ST6.out.cell
          have f6 := ST6.out.fz
          have k6 : (x5.alloc (.cells #[.slice a5 n5 c5] 37)).cell? ⟨x5.heap.size, 0, none⟩ = some (.slice a5 n5 c5) := Boxed.cell (heap_alloc_new _ _)
          have l6 : x5.heap.size < (x5.alloc (.cells #[.slice a5 n5 c5] 37)).heap.size := by simp
          have glx := ST5.out.gl_lt
          have HP7 := hide (show ((x5.setCell ⟨w1.heap.size, 0, none⟩ (.slice a5 n5 c5)).alloc (.cells #[.slice a5 n5 c5] 37)).heap[x3.heap.size]? = some (.cells #[.int .i64 q.off, .int .i64 q.len, .int .i64 q.brk] 52 (0, 0)) from (Below.heap_alloc _ _ _ (by simpa using l5)).trans ((heap_setCell_other _ ⟨w1.heap.size, 0, none⟩ x3.heap.size _ (by show x3.heap.size ≠ w1.heap.size; have := TB; omega)).trans HP5.out))
          have lp7 : x3.heap.size < ((x5.setCell ⟨w1.heap.size, 0, none⟩ (.slice a5 n5 c5)).alloc (.cells #[.slice a5 n5 c5] 37)).heap.size := by simp; omega
          have hs7 : x5.heap.size < ((x5.setCell ⟨w1.heap.size, 0, none⟩ (.slice a5 n5 c5)).alloc (.cells #[.slice a5 n5 c5] 37)).heap.size := by simp
          clear hb5 hv5 ST5 ST6 OV5 A6 HP5 hfl hbl hsm' c4 p0 p1 p2 HP4 ST4 I5
          go_upto_region 22 with fail
          generalize (x5.setCell ⟨w1.heap.size, 0, none⟩ (.slice a5 n5 c5)).alloc (.cells #[.slice a5 n5 c5] 37) = x7 at *
          clear c6 f6 k6 l6
          have LS := hide (show OwP x7 (w.heap.size + 1) (.slice (some ⟨gl, 0, none⟩) F.length cl) F from ST7.out.lst)
          have hkc : (k : Int) ≤ (cl : Int) := by omega
          have hki : (0 : Int) ≤ (k : Int) := by omega
          have hkn : (k : Int) ≤ (N : Int) := by omega
          have E8 := hide (own_emptyP x7)
          have s8 : x7.heap.size ≤ (x7.alloc (.cells #[] 52)).heap.size := by simp
          have LS8 := hide (World.ownsRow.alloc LS.out (.cells #[] 52))
          have D8 := hide ((Below.refl x7.heap.size x7).alloc (Nat.le_refl _) (.cells #[] 52))
          have ltk : (F.take k).length = k := by rw [List.length_take, ← HNN.out]; omega
          have ldk : (F.drop k).length = N - k := by rw [List.length_drop, ← HNN.out]
          have C8 := hide (lst_take (show OwP (x7.alloc (.cells #[] 52)) (w.heap.size + 1) (.slice (some ⟨gl, 0, none⟩) F.length cl) F from LS8.out) k)
          go_wp2_with (at_builtin; refine wpList_append_own _ rfl _ _ 48 rfl x7.heap.size 52 i0 (.agg #[.int .i64 0, .int .i64 0, .int .i64 0]) 3 24 Tryd.underlying48 hi hz0 hz1 hz2 rfl (by decide) (.slice (some ⟨x7.heap.size, 0, none⟩) 0 0) 0 [] rfl (by exact E8.out) ⟨gl, 0, none⟩ k cl (pcCs (F.take k)) rfl (by rw [pcCs_length, ltk]) (by exact C8.out) (pcCs_one _) (by unfold maxLen; omega) (by omega) (by first | omega | (simp; omega)) ?_; intro v9 x9 hoN hgN hnil; refine Hid.out ?_)
          refine Lib.hid ?_
          have O9 := hide (show OwP x9 x7.heap.size v9 (F.take k) from (by have h9 := hoN; unfold OwP; rw [ltk]; rw [Nat.zero_add, List.nil_append] at h9; exact h9))
          have B9 := hide (D8.out.grown hgN (by simp) (fun q hq => (E8.out.lt q hq).1))
          have NN9 := hide (show ¬ v9 = .slice none 0 0 from fun e => absurd (hnil.1 e).1 (by simp))
          clear hoN hgN hnil C8 E8 D8 LS8
          have z9 := B9.out.size
          have HP9 := (B9.out.block x3.heap.size lp7).trans HP7.out
          have p0 : x9.cell? ⟨x3.heap.size, 0, none⟩ = some (.int .i64 q.off) := by rw [cell_of_row x9 _ 0 _ _ _ HP9]; rfl
          have p1 : x9.cell? ⟨x3.heap.size, 1, none⟩ = some (.int .i64 q.len) := by rw [cell_of_row x9 _ 1 _ _ _ HP9]; rfl
          have p2 : x9.cell? ⟨x3.heap.size, 2, none⟩ = some (.int .i64 q.brk) := by rw [cell_of_row x9 _ 2 _ _ _ HP9]; rfl
          have NC := hide (newcells x9 52 [.int .i64 q.off, .int .i64 q.len, .int .i64 q.brk])
          have OA9 := hide (show (x9.alloc (.cells #[.int .i64 q.off, .int .i64 q.len, .int .i64 q.brk] 52)).ownsRow x7.heap.size 52 3 v9 k (pcCs (F.take k)) from (by have h9 := O9.out; unfold OwP at h9; rw [ltk] at h9; exact World.ownsRow.alloc h9 _))
          clear HP9
          go_wp2_with (at_builtin; refine wpList_append_own _ rfl _ _ 48 rfl x7.heap.size 52 i0 (.agg #[.int .i64 0, .int .i64 0, .int .i64 0]) 3 24 Tryd.underlying48 hi hz0 hz1 hz2 rfl (by decide) v9 k (pcCs (F.take k)) rfl (by exact OA9.out) ⟨x9.heap.size, 0, none⟩ 1 1 [.int .i64 q.off, .int .i64 q.len, .int .i64 q.brk] rfl rfl (by exact NC.out) (by intro u hu; simp at hu; rcases hu with rfl | rfl | rfl <;> rfl) (by unfold maxLen; omega) (by omega) (by first | omega | (simp; omega)) ?_; intro v10 x10 hoN hgN hnil; refine Hid.out ?_)
          refine Lib.hid ?_
          have O10 := hide (show OwP x10 x7.heap.size v10 (F.take k ++ [q]) from ownP_app (F := [q]) ltk rfl hoN)
          have B10 := hide ((B9.out.alloc (by omega) (.cells #[.int .i64 q.off, .int .i64 q.len, .int .i64 q.brk] 52)).grown hgN (by simp; omega) (fun q hq => (O9.out.lt q hq).1))
          have l10 : (F.take k ++ [q]).length = k + 1 := by rw [List.length_append, ltk]; rfl
          have NN10 := hide (show ¬ v10 = .slice none 0 0 from fun e => NN9.out (hnil.1 e).1)
          clear hoN hgN hnil NC O9 B9 NN9 p0 p1 p2
          have z10 := B10.out.size
          have LS10 := hide (owns_below LS.out B10.out (Nat.le_refl _))
          have OA10 := hide (show x10.ownsRow x7.heap.size 52 3 v10 (k + 1) (pcCs (F.take k ++ [q])) from (by have h9 := O10.out; unfold OwP at h9; rw [l10] at h9; exact h9))
          by_cases hck : cl = k
          case' pos =>
            have hck2 := hck.symm
            subst hck2
            clear hck
            have C11 := hide (show ∀ (j : Nat) (u : Value), ([] : List Value)[j]? = some u → x10.cell? ((⟨gl, 0, none⟩ : Addr).add j) = some u from (by intro j u hj; simp at hj))
            go_wp2_with (at_builtin; refine wpList_append_own _ rfl _ _ 48 rfl x7.heap.size 52 i0 (.agg #[.int .i64 0, .int .i64 0, .int .i64 0]) 3 24 Tryd.underlying48 hi hz0 hz1 hz2 rfl (by decide) v10 (k + 1) (pcCs (F.take k ++ [q])) rfl (by exact OA10.out) ⟨gl, 0, none⟩ _ _ [] rfl (by first | rfl | (simp; omega)) (by exact C11.out) (by intro u hu; cases hu) (by unfold maxLen; omega) (by omega) (by first | omega | (simp; omega)) ?_; intro v11 x11 hoN hgN hnil; refine Hid.out ?_)
            refine Lib.hid ?_
            have HON := hide (show x11.ownsRow x7.heap.size 52 3 v11 ((k + 1) + (N - k)) ((pcCs (F.take k ++ [q])) ++ pcCs (F.drop k)) from (by
              have e1 : N - k = 0 := by omega
              have e2 : F.drop k = [] := List.drop_eq_nil_of_le (by rw [← HNN.out]; omega)
              rw [e1, e2]; exact hoN))
          case' neg =>
            have C11 := hide (lst_drop (show OwP x10 (w.heap.size + 1) (.slice (some ⟨gl, 0, none⟩) F.length cl) F from LS10.out) k (by rw [← HNN.out]; omega))
            go_wp2_with (at_builtin; refine wpList_append_own _ rfl _ _ 48 rfl x7.heap.size 52 i0 (.agg #[.int .i64 0, .int .i64 0, .int .i64 0]) 3 24 Tryd.underlying48 hi hz0 hz1 hz2 rfl (by decide) v10 (k + 1) (pcCs (F.take k ++ [q])) rfl (by exact OA10.out) ⟨gl, k * 3, none⟩ (N - k) _ (pcCs (F.drop k)) rfl (by rw [pcCs_length, ldk]) (by exact C11.out) (pcCs_one _) (by unfold maxLen; omega) (by omega) (by first | omega | (simp; omega)) ?_; intro v11 x11 hoN hgN hnil; refine Hid.out ?_)
            refine Lib.hid ?_
            have HON := hide hoN
          all_goals
            have OF := hide (show OwP x11 x7.heap.size v11 (F.take k ++ [q] ++ F.drop k) from ownP_app l10 ldk HON.out)
            have BF := hide (B10.out.grown hgN (by omega) (fun q hq => (O10.out.lt q hq).1))
            have NNF := hide (show ¬ v11 = .slice none 0 0 from fun e => NN10.out (hnil.1 e).1)
            have hTF2 : T'.flat = F.take k ++ [q] ++ F.drop k := by rw [HFL.out]; simp
            have hFn2 : (F.take k ++ [q] ++ F.drop k).length = N + 1 := by rw [List.length_append, l10, ldk]; omega
            clear hoN hgN hnil
            obtain ⟨F', hF'⟩ : ∃ x, x = F.take k ++ [q] ++ F.drop k := ⟨_, rfl⟩
            rw [← hF'] at OF hTF2 hFn2
            have HTF2 := hide hTF2
            have hIT2 : T'.its = F'.length := by rw [← AT.flat_length, hTF2]
            rcases OwP.shape OF.out with ⟨hbad, _⟩ | ⟨g9, c9, rfl, hc9⟩
            · exact absurd hbad (fun e => NNF.out e)
            have STF := hide ((ST7.out.below BF.out).list (owns_base OF.out (base' := w.heap.size + 1) (by have := ST7.out.blw.size; have := ST7.out.src.1.lt; omega)) hc9)
            have hFl : F'.length ≤ 8192 := by omega
            have hFb : F'.length ≤ N + 1 := by omega
            have hIb : T'.its ≤ N + 1 := by omega
            clear OF BF NNF hTF2 hF' ST7 LS hFn2 hIT2 ltk ldk l10
            have okX := sm_ok2 STF.out.sm (show T'.its ≤ 900 by omega)
            have okTX := hide (okT_told T' STF.out.bal okX)
            have lenX : (T'.told 0).length ≤ 8192 := by rw [AT.told_length]; have := (show T'.its ≤ 900 by omega); omega
            have cX := STF.out.cell
            clear okX
            go_wp2_with fail
            refine (validS _ _ (T'.told 0) x11 (OwI.rd STF.out.own) (Nat.le_refl _) (by omega)).mono ?_
            rintro e y1 ⟨rfl, hb1⟩
            rw [okTX.out]
            have SY1 := hide (STF.out.below hb1)
            have cY := SY1.out.cell
            clear hb1 cX
            go_wp2_with fail
            refine (piecesL (T'.told 0) _ _ y1 SY1.out.own lenX).mono ?_
            rintro e y2 ⟨vp, rfl, hvp, hb2⟩
            rw [AT.told_pc, HTF2.out] at hvp
            have OVP := hide hvp
            have SY2 := hide (SY1.out.below hb2)
            clear hb2 hvp SY1 cY
            go_wp2_with fail
            refine (smPiecesL F' _ _ _ _ y2 (OwP.rd OVP.out) (OwP.rd SY2.out.lst) (Nat.le_refl _) (Nat.le_refl _) (by omega)).mono ?_
            rintro e y3 ⟨rfl, hb3⟩
            have SY3 := hide (SY2.out.below hb3)
            clear hb3 SY2 OVP
            go_wp2
            go_roundw
            case rel => exact ⟨i, _, g9, c9, T', F', by first | rfl | go_num | (congr 1; omega), rfl, SY3.out, HTF2.out, by omega⟩
            case measure => first | (simp [intOf]; done) | (simp [intOf]; omega)
      · obtain rfl : j = 0 := by omega
        go_wp2
        go_ret
        exact ⟨rfl, ST0.out.blw⟩
end Go.Proofs.YtdjdkgidihhkfadDoor
