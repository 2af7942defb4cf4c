import Derived.Test.YtbgngikejgihgafDoorMq18
import Derived.Test.YtbgngikejgihgafDoorMq26
import Derived.Test.YtbgngikejgihgafDoorMq30
import Derived.Test.YtbgngikejgihgafDoorMq31
import Derived.Test.YtbgngikejgihgafDoorMq43
namespace Go.Proofs.YtbgngikejgihgafDoor
open Go Go.RowKit
set_option linter.unusedVariables false

theorem validS (gs : List Gr) (st : List Int) (vr vt : Value) (lo hi : Nat) (b : Bool) (w : World) (hbV : b = true ↔ LV gs st) (h : OwL w lo hi vr vt gs st) (hh : hi ≤ w.heap.size) (hg : gs.length ≤ 1048576) (hst : st.length ≤ 1048576) (hs : ∀ x ∈ gs, x.cells.length ≤ 1048576) (hB : (∀ x ∈ gs, gkP x.cells x.lo x.hi) → smL (gs.map grT) + gs.length ≤ 4194304) :
    Calls Tryd.prog 56 #[.agg #[vr, vt]] w fun e w' => e = .returned (.bool b) ∧ Below w.heap.size w w' := by
  by_cases hl : 1 ≤ gs.length ∧ gs.length ≤ 8193 ∧ 1 ≤ st.length ∧ st.length ≤ gs.length
  · exact validS_in gs st vr vt lo hi b w hbV h hh hl hs hB
  · obtain ⟨a1, c1, a2, c2, rfl, rfl⟩ := h.val
    obtain rfl : b = false := by
      cases b
      · rfl
      · exact absurd (hbV.1 rfl).1 hl
    exact validS_len a1 a2 gs.length c1 st.length c2 w hl hg hst

set_option maxHeartbeats 2000000 in
set_option maxRecDepth 100000 in
theorem specLo (gs : List Gr) (st : List Int) (line col : Int) (vr vt : Value) (lo hi : Nat) (w : World) (G : List Gr) (S : List Int) (O C : Int) (hA : LoAns gs st line col G S O C) (h : OwL w lo hi vr vt gs st) (hh : hi ≤ w.heap.size) (hs : ∀ x ∈ gs, x.cells.length ≤ 1048576) (hgl : gs.length ≤ 1048576) (hst : st.length ≤ 1048576) (hB : (∀ x ∈ gs, gkP x.cells x.lo x.hi) → smL (gs.map grT) + gs.length ≤ 4194304) :
    Calls Tryd.prog 26 #[.agg #[vr, vt], .int .i64 line, .int .i64 col] w (LoPost w G S O C) := by
  have A0 := hide (((Below.refl w.heap.size w).alloc (Nat.le_refl _) (.cells #[vr, vt] 59)).alloc (by simp) (.cells #[.slice none 0 0, .slice none 0 0] 59))
  have KP := hide ((D2.new w vr vt 59).below ((Below.refl _ _).alloc (Nat.le_refl _) (.cells #[.slice none 0 0, .slice none 0 0] 59)) (by simp))
  have KR := hide (D2.new (w.alloc (.cells #[vr, vt] 59)) (.slice none 0 0) (.slice none 0 0) 59)
  have es : (w.alloc (.cells #[vr, vt] 59)).heap.size = w.heap.size + 1 := by simp
  rw [es] at KR
  have hs0 : ((w.alloc (.cells #[vr, vt] 59)).alloc (.cells #[.slice none 0 0, .slice none 0 0] 59)).heap.size = w.heap.size + 2 := by simp
  have VA := hide (fun (W : World) (hW : Below w.heap.size w W) (b : Bool) (hb : b = true ↔ LV gs st) => validS gs st vr vt lo hi b W hb (h.below hW hh) (by have := hW.size; omega) hgl hst hs hB)
  have TX := hide (fun (W : World) (hW : Below w.heap.size w W) (hv : LV gs st) => lineTextS gs st vr vt lo hi W (h.below hW hh) (by have := hW.size; omega) hv.1.2.1 hv.1.1 (fun x hx => (hv.2.1 x hx).1) (hB (fun x hx => (hv.2.1 x hx).1)))
  have KN := hide (fun (l k : Nat) (hk : k = max st.length (l + 1)) (hkn : k ≤ gs.length) (W : World) (hW : Below w.heap.size w W) (hv : LV gs st) => knownS gs st l k vr vt lo hi W (h.below hW hh) (by have := hW.size; omega) hv.1.2.1 hv.1.1 (fun x hx => (hv.2.1 x hx).1) (hB (fun x hx => (hv.2.1 x hx).1)) hs hk hkn)
  obtain ⟨a1, c1, a2, c2, rfl, rfl⟩ := h.val
  have HA := hide hA
  unfold LoPost
  clear h hs hA hB es
  generalize hn : gs.length = n at *
  generalize hm : st.length = m at *
  have HN := hide hn
  have HM := hide hm
  clear hn hm
  by_cases hv : LV gs st
  · have V0 := hide (VA.out _ A0.out true (by simp [hv]))
    have TX0 := hide (fun W hW => TX.out W hW hv)
    have KN0 := hide (fun l k hk hkn W hW => KN.out l k hk hkn W hW hv)
    have hne : gs.map grT ≠ [] := by
      intro e
      have h8 := congrArg List.length e
      rw [List.length_map] at h8
      have h9 := hv.1.1
      rw [h8] at h9
      simp at h9
    have hno : ∀ l ∈ gs.map grT, 10 ∉ l := by
      intro l hl
      obtain ⟨x, hx, rfl⟩ := List.mem_map.1 hl
      exact (hv.2.1 x hx).2
    have OF := hide (fun (v : Value) (W : World) hr => offS (jn (gs.map grT)) v line col W hr hv.2.2.1)
    rw [offL_jn hne hno] at OF
    have PL := hide (show plOk gs line col ↔ 0 ≤ line ∧ line < ((gs.map grT).length : Nat) ∧ 0 ≤ col ∧ col ≤ ((gs.map grT).getD line.toNat []).length by unfold plOk; rw [List.length_map])
    have HV := hide hv
    clear VA TX KN hne hno
    by_cases hp : plOk gs line col
    · rcases HA.out with ⟨_, _, eG, eS, eO, eC⟩ | ⟨_, h3, _⟩ | ⟨h3, _⟩
      · have eof : offG (gs.map grT) line col = O := by unfold offG; rw [if_pos (PL.out.1 hp), eO]
        rw [eof] at OF
        have hO0 : ¬ O < 0 := by rw [eO]; have := hp.2.2.1; omega
        obtain ⟨l, rfl⟩ : ∃ l : Nat, line = l := ⟨line.toNat, by have := hp.1; omega⟩
        rw [Int.toNat_natCast] at eS
        have KN1 := hide (fun W hW => KN0.out l (max m (l + 1)) rfl (by have h8 := hv.1.2.2.2; have h9 := hp.2.1; rw [HN.out] at h9 h8; rw [HM.out] at h8; omega) W hW)
        rw [HM.out] at eS
        rw [← eS] at KN1
        have EG := hide eG
        subst eC
        have STL := hide (show S.length = max m (l + 1) by
          rw [eS, List.length_take, stL_len, List.length_map, HN.out]
          have h8 := hv.1.2.2.2; have h9 := hp.2.1; rw [HN.out] at h9 h8; rw [HM.out] at h8; omega)
        clear KN0 eof eO eS HA PL hv hp eG
        generalize jn (gs.map grT) = JJ at *
        go_enter Tryd.func26, Tryd.ntmps26
        go_wp2_with fail
        generalize (w.alloc (.cells #[.slice a1 n c1, .slice a2 m c2] 59)).alloc (.cells #[.slice none 0 0, .slice none 0 0] 59) = w0 at *
        refine V0.out.mono ?_
        rintro e w1 ⟨rfl, hb1⟩
        have s1 := hb1.size
        have P1 := hide (KP.out.below hb1 (by omega))
        have R1 := hide (KR.out.below hb1 (by omega))
        have B1 := hide (A0.out.trans (hb1.mono (by omega)))
        have p0 := P1.out.c.1
        have p1 := P1.out.c.2
        clear hb1 V0 KP KR
        go_wp2_with fail
        refine (TX0.out _ B1.out).mono ?_
        rintro e w2 ⟨v2, rfl, ho2, hb2⟩
        have s2 := hb2.size
        have P2 := hide (P1.out.below hb2 (by omega))
        have R2 := hide (R1.out.below hb2 (by omega))
        have B2 := hide (B1.out.trans (hb2.mono (by omega)))
        have OF2 := hide (OF.out v2 w2 (Rd.of_owns ho2))
        obtain ⟨av, cv, hv2⟩ := o32_val ho2
        subst hv2
        have pp0 := P2.out.c.1
        have pp1 := P2.out.c.2
        clear ho2 hb2 P1 R1 TX0 OF p0 p1
        go_wp2_with fail
        refine OF2.out.mono ?_
        rintro e w3 ⟨rfl, hw⟩
        have hw2 := hw.symm
        subst hw2
        clear hw
        go_wp2_with fail
        refine (KN1.out _ B2.out).mono ?_
        rintro e w4 ⟨vr4, vt4, rfl, ho4, hb4⟩
        obtain ⟨b1, d1, b2, d2, rfl, rfl⟩ := ho4.val
        have s4 := hb4.size
        have R4 := hide (R2.out.below hb4 (by omega))
        have B4 := hide (B2.out.trans (hb4.mono (by omega)))
        have O4 := hide ho4
        rw [HN.out] at *
        have e0 := R4.out.c.1
        have e1 := R4.out.c.2
        have f0 := R4.out.fz 0
        have f1 := R4.out.fz 1
        clear ho4 hb4 R2
        generalize hsl : S.length = sl at *
        clear hsl STL
        go_wp2
        refine bodyPost_ret (v := .tuple #[.agg #[.slice b1 n d1, .slice b2 sl d2], .int .i64 O, .int .i64 0]) (by simp [results, Tryd.results26, go_sem, e0, e1]) rfl ⟨_, _, rfl, ?_, ?_⟩
        · rw [EG.out]
          refine (O4.out.frame (fun q h1 h2 => ?_)).mono (by omega) (by simp)
          rw [heap_setCell_other _ _ _ _ (by show q ≠ w.heap.size + 1; omega), heap_setCell_other _ _ _ _ (by show q ≠ w.heap.size + 1; omega)]
        · exact (B4.out.setCell (by simp) _).setCell (by simp) _
      · exact absurd hp h3
      · exact absurd hv h3
    · rcases HA.out with ⟨_, h3, _⟩ | ⟨_, _, eG, eS, eO, eC⟩ | ⟨h3, _⟩
      · exact absurd h3 hp
      · have eof : offG (gs.map grT) line col = -1 := by unfold offG; rw [if_neg (fun h => hp (PL.out.2 h))]
        rw [eof] at OF
        subst eG eS eO eC
        clear KN0 eof HA PL hv hp
        generalize jn (gs.map grT) = JJ at *
        go_enter Tryd.func26, Tryd.ntmps26
        go_wp2_with fail
        generalize (w.alloc (.cells #[.slice a1 n c1, .slice a2 m c2] 59)).alloc (.cells #[.slice none 0 0, .slice none 0 0] 59) = w0 at *
        refine V0.out.mono ?_
        rintro e w1 ⟨rfl, hb1⟩
        have s1 := hb1.size
        have P1 := hide (KP.out.below hb1 (by omega))
        have R1 := hide (KR.out.below hb1 (by omega))
        have B1 := hide (A0.out.trans (hb1.mono (by omega)))
        have p0 := P1.out.c.1
        have p1 := P1.out.c.2
        clear hb1 V0 KP KR
        go_wp2_with fail
        refine (TX0.out _ B1.out).mono ?_
        rintro e w2 ⟨v2, rfl, ho2, hb2⟩
        have s2 := hb2.size
        have R2 := hide (R1.out.below hb2 (by omega))
        have B2 := hide (B1.out.trans (hb2.mono (by omega)))
        have OF2 := hide (OF.out v2 w2 (Rd.of_owns ho2))
        obtain ⟨av, cv, hv2⟩ := o32_val ho2
        subst hv2
        have e0 := R2.out.c.1
        have e1 := R2.out.c.2
        have f0 := R2.out.fz 0
        have f1 := R2.out.fz 1
        clear ho2 hb2 P1 R1 TX0 OF p0 p1
        go_wp2_with fail
        refine OF2.out.mono ?_
        rintro e w3 ⟨rfl, hw⟩
        have hw2 := hw.symm
        subst hw2
        clear hw
        go_wp2
        refine bodyPost_ret (v := .tuple #[.agg #[.slice none 0 0, .slice none 0 0], .int .i64 0, .int .i64 3]) (by simp [results, Tryd.results26, go_sem, e0, e1]) rfl ⟨_, _, rfl, OwL.nil _ _ _, ?_⟩
        exact (B2.out.setCell (by simp) _).setCell (by simp) _
      · exact absurd hv h3
  · rcases HA.out with ⟨h3, _⟩ | ⟨h3, _⟩ | ⟨_, eG, eS, eO, eC⟩
    · exact absurd h3 hv
    · exact absurd h3 hv
    subst eG eS eO eC
    have V0 := hide (VA.out _ A0.out false (by simp [hv]))
    clear VA TX KN HA hv
    go_enter Tryd.func26, Tryd.ntmps26
    go_wp2_with fail
    generalize (w.alloc (.cells #[.slice a1 n c1, .slice a2 m c2] 59)).alloc (.cells #[.slice none 0 0, .slice none 0 0] 59) = w0 at *
    refine V0.out.mono ?_
    rintro e w1 ⟨rfl, hb1⟩
    have s1 := hb1.size
    have R1 := hide (KR.out.below hb1 (by omega))
    have B1 := hide (A0.out.trans (hb1.mono (by omega)))
    have e0 := R1.out.c.1
    have e1 := R1.out.c.2
    have f0 := R1.out.fz 0
    have f1 := R1.out.fz 1
    clear hb1 V0 KP KR
    go_wp2
    refine bodyPost_ret (v := .tuple #[.agg #[.slice none 0 0, .slice none 0 0], .int .i64 0, .int .i64 1]) (by simp [results, Tryd.results26, go_sem, e0, e1]) rfl ⟨_, _, rfl, OwL.nil _ _ _, ?_⟩
    exact (B1.out.setCell (by simp) _).setCell (by simp) _
end Go.Proofs.YtbgngikejgihgafDoor
