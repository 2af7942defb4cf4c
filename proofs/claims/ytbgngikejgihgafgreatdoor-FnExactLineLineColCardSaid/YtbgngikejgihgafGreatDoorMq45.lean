import Derived.Test.YtbgngikejgihgafGreatDoorMq18
import Derived.Test.YtbgngikejgihgafGreatDoorMq27
import Derived.Test.YtbgngikejgihgafGreatDoorMq31
import Derived.Test.YtbgngikejgihgafGreatDoorMq44
namespace Go.Proofs.YtbgngikejgihgafGreatDoor
open Go Go.RowKit
set_option linter.unusedVariables false

theorem validC (gs : List Gr) (st : List Int) (vr vt : Value) (lo hi : Nat) (b : Bool) (w : World) (hbV : b = true ↔ LV gs st) (h : OwL w lo hi vr vt gs st) (hh : hi ≤ w.heap.size) (hg : gs.length ≤ 1048576) (hst : st.length ≤ 1048576) (hs : ∀ x ∈ gs, x.cells.length ≤ 1048576) (hB : (∀ x ∈ gs, gkP x.cells x.lo x.hi) → smL (gs.map grT) + gs.length ≤ 4194304) :
    Calls Tryz.prog 17 #[.agg #[vr, vt]] w fun e w' => e = .returned (.bool b) ∧ Below w.heap.size w w' := by
  by_cases hl : 1 ≤ gs.length ∧ gs.length ≤ 8193 ∧ 1 ≤ st.length ∧ st.length ≤ gs.length
  · exact validS_in gs st vr vt lo hi b w hbV h hh hl hs hB
  · obtain ⟨a1, c1, a2, c2, rfl, rfl⟩ := h.val
    obtain rfl : b = false := by
      cases b
      · rfl
      · exact absurd (hbV.1 rfl).1 hl
    exact validS_len a1 a2 gs.length c1 st.length c2 w hl hg hst

set_option maxHeartbeats 2000000 in
set_option maxRecDepth 100000 in
theorem specLc (gs : List Gr) (st : List Int) (off : Int) (vr vt : Value) (lo hi : Nat) (w : World) (G : List Gr) (S : List Int) (L K C : Int) (hA : LcAns gs st off G S L K C) (h : OwL w lo hi vr vt gs st) (hh : hi ≤ w.heap.size) (hs : ∀ x ∈ gs, x.cells.length ≤ 1048576) (hgl : gs.length ≤ 1048576) (hst : st.length ≤ 1048576) (hB : (∀ x ∈ gs, gkP x.cells x.lo x.hi) → smL (gs.map grT) + gs.length ≤ 4194304) :
    Calls Tryz.prog 25 #[.agg #[vr, vt], .int .i64 off] w (LcPost w G S L K C) := by
  have A0 := hide (((Below.refl w.heap.size w).alloc (Nat.le_refl _) (.cells #[vr, vt] 40)).alloc (by simp) (.cells #[.slice none 0 0, .slice none 0 0] 40))
  have KP := hide ((D2.new w vr vt 40).below ((Below.refl _ _).alloc (Nat.le_refl _) (.cells #[.slice none 0 0, .slice none 0 0] 40)) (by simp))
  have KR := hide (D2.new (w.alloc (.cells #[vr, vt] 40)) (.slice none 0 0) (.slice none 0 0) 40)
  have es : (w.alloc (.cells #[vr, vt] 40)).heap.size = w.heap.size + 1 := by simp
  rw [es] at KR
  have hs0 : ((w.alloc (.cells #[vr, vt] 40)).alloc (.cells #[.slice none 0 0, .slice none 0 0] 40)).heap.size = w.heap.size + 2 := by simp
  have VA := hide (fun (W : World) (hW : Below w.heap.size w W) (b : Bool) (hb : b = true ↔ LV gs st) => validC gs st vr vt lo hi b W hb (h.below hW hh) (by have := hW.size; omega) hgl hst hs hB)
  have TX := hide (fun (W : World) (hW : Below w.heap.size w W) (hv : LV gs st) => lineTextS gs st vr vt lo hi W (h.below hW hh) (by have := hW.size; omega) hv.1.2.1 hv.1.1 (fun x hx => (hv.2.1 x hx).1) (hB (fun x hx => (hv.2.1 x hx).1)))
  have FI := hide (fun (k : Nat) (hk : k ≤ 20000) (W : World) (hW : Below w.heap.size w W) (hv : LV gs st) => findS gs st k vr vt lo hi W (h.below hW hh) (by have := hW.size; omega) hv.1.2.1 hv.1.1 (fun x hx => (hv.2.1 x hx).1) (hB (fun x hx => (hv.2.1 x hx).1)) hs hv.1.2.2.1 hv.1.2.2.2 hk)
  obtain ⟨a1, c1, a2, c2, rfl, rfl⟩ := h.val
  have HA := hide hA
  unfold LcPost
  clear h hs hA hB es
  generalize hn : gs.length = n at *
  generalize hm : st.length = m at *
  have HN := hide hn
  have HM := hide hm
  clear hn hm
  by_cases hv : LV gs st
  · have V0 := hide (VA.out _ A0.out true (by simp [hv]))
    have TX0 := hide (fun W hW => TX.out W hW hv)
    have FI0 := hide (fun k hk W hW => FI.out k hk W hW hv)
    have hJ := hv.2.2.1
    have HV := hide hv
    clear VA TX FI
    by_cases hp : inR gs off
    · rcases HA.out with ⟨_, _, eG, ⟨m0, hm0, eS⟩, eL, eK, eC⟩ | ⟨_, h3, _⟩ | ⟨h3, _⟩
      · obtain ⟨k, rfl⟩ : ∃ k : Nat, off = k := ⟨off.toNat, by have := hp.1; omega⟩
        rw [Int.toNat_natCast] at hm0 eL eK
        have hkJ : k ≤ (jn (gs.map grT)).length := by have := hp.2; omega
        have FI1 := hide (fun W hW => FI0.out k (by omega) W hW)
        have LCS := hide (fun (v : Value) (W : World) hr => lcS (jn (gs.map grT)) v k W hr hJ hkJ)
        rw [← eL, ← eK] at LCS
        have EG := hide eG
        rw [HM.out] at hm0
        have KN0 := hide hm0
        have ES := hide eS
        subst eC
        have hk0 : ¬ (k : Int) < 0 := by omega
        have hk1 : ¬ (k : Int) > ((jn (gs.map grT)).length : Nat) := by omega
        have STL := hide (show S.length = m0 by
          have h9 := hm0.2.1
          rw [eS, List.length_take, stL_len]; omega)
        clear FI0 eL eK eS HA hv hp eG hm0
        generalize hLS : gs.map grT = LS at *
        clear hLS
        have TLE := hide hJ
        generalize hJJ : jn LS = JJ at *
        generalize hjl : JJ.length = jl at *
        have HJL := hide hjl
        clear hJJ hjl
        go_enter Tryz.func25, Tryz.ntmps25
        go_wp2_with fail
        generalize (w.alloc (.cells #[.slice a1 n c1, .slice a2 m c2] 40)).alloc (.cells #[.slice none 0 0, .slice none 0 0] 40) = w0 at *
        refine V0.out.mono ?_
        rintro e w1 ⟨rfl, hb1⟩
        have s1 := hb1.size
        have P1 := hide (KP.out.below hb1 (by omega))
        have R1 := hide (KR.out.below hb1 (by omega))
        have B1 := hide (A0.out.trans (hb1.mono (by omega)))
        have p0 := P1.out.c.1
        have p1 := P1.out.c.2
        clear hb1 V0 KP KR
        go_wp2_with fail
        refine (TX0.out _ B1.out).mono ?_
        rintro e w2 ⟨v2, rfl, ho2, hb2⟩
        have s2 := hb2.size
        have P2 := hide (P1.out.below hb2 (by omega))
        have R2 := hide (R1.out.below hb2 (by omega))
        have B2 := hide (B1.out.trans (hb2.mono (by omega)))
        obtain ⟨av, cv, hv2⟩ := o32_val ho2
        rw [HJL.out] at hv2
        subst hv2
        have LO2 := hide (fun (W : World) (hW : Below w2.heap.size w2 W) => LCS.out _ W (Rd.of_owns (owns_of_block ho2 (fun q hq => hW.block q (ho2.lt q hq).2))))
        have pp0 := P2.out.c.1
        have pp1 := P2.out.c.2
        clear ho2 hb2 P1 R1 TX0 LCS p0 p1
        go_wp2_with fail
        refine (FI1.out _ B2.out).mono ?_
        rintro e w3 ⟨vr3, vt3, q3, m3, rfl, hl3, hk3, ho3, hb3⟩
        have em := hk3.uniq KN0.out
        subst em
        rw [← ES.out] at ho3
        obtain ⟨b1, d1, b2, d2, rfl, rfl⟩ := ho3.val
        rw [HN.out, STL.out] at *
        have s3 := hb3.size
        have LO3 := hide (LO2.out (w3.alloc (.cells #[.slice b1 n d1, .slice b2 m3 d2] 40)) (hb3.alloc hb3.size _))
        have R3 := hide (R2.out.below hb3 (by omega))
        have B3 := hide (B2.out.trans (hb3.mono (by omega)))
        have O3 := hide ho3
        clear ho3 hb3 R2 hk3 hl3 KN0 LO2
        generalize sAt LS q3 = sq at *
        go_wp2_with fail
        refine LO3.out.mono ?_
        rintro e w4 ⟨rfl, hw⟩
        have W4 := hide ((Below.refl w3.heap.size w3).alloc (Nat.le_refl _) (.cells #[.slice b1 n d1, .slice b2 m3 d2] 40))
        have L4 := D2.new w3 (.slice b1 n d1) (.slice b2 m3 d2) 40
        have R4 := R3.out.below W4.out (by omega)
        have z4 : (w3.alloc (.cells #[.slice b1 n d1, .slice b2 m3 d2] 40)).heap.size = w3.heap.size + 1 := by simp
        rw [← hw] at W4 L4 R4 z4
        have hz4 : w3.heap.size < w4.heap.size := by omega
        have e0 := R4.c.1
        have e1 := R4.c.2
        have f0 := R4.fz 0
        have f1 := R4.fz 1
        have g0 := L4.c.1
        have g1 := L4.c.2
        have ne4 : w3.heap.size ≠ w.heap.size + 1 := by omega
        clear hw L4 R4 z4 LO3
        go_wp2
        refine bodyPost_ret (v := .tuple #[.agg #[.slice b1 n d1, .slice b2 m3 d2], .int .i64 L, .int .i64 K, .int .i64 0]) (by simp [results, Tryz.results25, go_sem, e0, e1]) rfl ⟨_, _, rfl, ?_, ?_⟩
        · rw [EG.out]
          refine (O3.out.frame (fun q h1 h2 => ?_)).mono (by omega) (by simp; omega)
          rw [heap_setCell_other _ _ _ _ (by show q ≠ w.heap.size + 1; omega), heap_setCell_other _ _ _ _ (by show q ≠ w.heap.size + 1; omega)]
          exact W4.out.block q h2
        · exact ((B3.out.trans (W4.out.mono (by omega))).setCell (by simp) _).setCell (by simp) _
      · exact absurd hp h3
      · exact absurd HV.out h3
    · rcases HA.out with ⟨_, h3, _⟩ | ⟨_, _, eG, eS, eL, eK, eC⟩ | ⟨h3, _⟩
      · exact absurd h3 hp
      · subst eG eS eL eK eC
        have hnk : ¬ (0 ≤ off ∧ off ≤ ((jn (gs.map grT)).length : Nat)) := hp
        clear FI0 HA hv hp
        generalize hJJ : jn (gs.map grT) = JJ at *
        generalize hjl : JJ.length = jl at *
        have HJL := hide hjl
        clear hJJ hjl
        have hcs : off < 0 ∨ (¬ off < 0 ∧ off > (jl : Int)) := by omega
        clear hnk
        rcases hcs with hk0 | ⟨hk0, hk1⟩
        all_goals
          go_enter Tryz.func25, Tryz.ntmps25
          go_wp2_with fail
          generalize (w.alloc (.cells #[.slice a1 n c1, .slice a2 m c2] 40)).alloc (.cells #[.slice none 0 0, .slice none 0 0] 40) = w0 at *
          refine V0.out.mono ?_
          rintro e w1 ⟨rfl, hb1⟩
          have s1 := hb1.size
          have P1 := hide (KP.out.below hb1 (by omega))
          have R1 := hide (KR.out.below hb1 (by omega))
          have B1 := hide (A0.out.trans (hb1.mono (by omega)))
          have p0 := P1.out.c.1
          have p1 := P1.out.c.2
          clear hb1 V0 KP KR
          go_wp2_with fail
          refine (TX0.out _ B1.out).mono ?_
          rintro e w2 ⟨v2, rfl, ho2, hb2⟩
          have s2 := hb2.size
          have R2 := hide (R1.out.below hb2 (by omega))
          have B2 := hide (B1.out.trans (hb2.mono (by omega)))
          obtain ⟨av, cv, hv2⟩ := o32_val ho2
          rw [HJL.out] at hv2
          subst hv2
          have e0 := R2.out.c.1
          have e1 := R2.out.c.2
          have f0 := R2.out.fz 0
          have f1 := R2.out.fz 1
          clear ho2 hb2 P1 R1 TX0 p0 p1
          go_wp2
          refine bodyPost_ret (v := .tuple #[.agg #[.slice none 0 0, .slice none 0 0], .int .i64 0, .int .i64 0, .int .i64 2]) (by simp [results, Tryz.results25, go_sem, e0, e1]) rfl ⟨_, _, rfl, OwL.nil _ _ _, ?_⟩
          exact (B2.out.setCell (by simp) _).setCell (by simp) _
      · exact absurd HV.out h3
  · rcases HA.out with ⟨h3, _⟩ | ⟨h3, _⟩ | ⟨_, eG, eS, eL, eK, eC⟩
    · exact absurd h3 hv
    · exact absurd h3 hv
    subst eG eS eL eK eC
    have V0 := hide (VA.out _ A0.out false (by simp [hv]))
    clear VA TX FI HA hv
    go_enter Tryz.func25, Tryz.ntmps25
    go_wp2_with fail
    generalize (w.alloc (.cells #[.slice a1 n c1, .slice a2 m c2] 40)).alloc (.cells #[.slice none 0 0, .slice none 0 0] 40) = w0 at *
    refine V0.out.mono ?_
    rintro e w1 ⟨rfl, hb1⟩
    have s1 := hb1.size
    have R1 := hide (KR.out.below hb1 (by omega))
    have B1 := hide (A0.out.trans (hb1.mono (by omega)))
    have e0 := R1.out.c.1
    have e1 := R1.out.c.2
    have f0 := R1.out.fz 0
    have f1 := R1.out.fz 1
    clear hb1 V0 KP KR
    go_wp2
    refine bodyPost_ret (v := .tuple #[.agg #[.slice none 0 0, .slice none 0 0], .int .i64 0, .int .i64 0, .int .i64 1]) (by simp [results, Tryz.results25, go_sem, e0, e1]) rfl ⟨_, _, rfl, OwL.nil _ _ _, ?_⟩
    exact (B1.out.setCell (by simp) _).setCell (by simp) _
end Go.Proofs.YtbgngikejgihgafGreatDoor
