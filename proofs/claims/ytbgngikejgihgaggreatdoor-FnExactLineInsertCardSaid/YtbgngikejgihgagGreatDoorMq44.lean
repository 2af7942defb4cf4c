import Derived.Test.YtbgngikejgihgagGreatDoorMq42
import Derived.Test.YtbgngikejgihgagGreatDoorMq43
namespace Go.Proofs.YtbgngikejgihgagGreatDoor
open Go Go.RowKit
set_option linter.unusedVariables false

def offR (gs : List Gr) (off : Int) : Prop := 0 ≤ off ∧ off ≤ (jn (gs.map grT)).length
/-- What an insertion leaves. -/
def LjIns (gs : List Gr) (off : Nat) (ts : List Int) (G : List Gr) (S : List Int) : Prop := ∃ (k : Nat) (x : Gr), Ln (gs.map grT) off k ∧ gs[k]? = some x ∧ G = insRows gs k x (off - sAt (gs.map grT) k) ts ∧ S = (stL (gs.map grT)).take (k + 1)
/-- The answer is one of five. -/
def LjAns (gs : List Gr) (st : List Int) (off : Int) (ts : List Int) (G : List Gr) (S : List Int) (C : Int) : Prop :=
  (LV gs st ∧ offR gs off ∧ (jn (gs.map grT)).length + ts.length ≤ 8192 ∧ ts ≠ [] ∧ LjIns gs off.toNat ts G S ∧ C = 0) ∨ (LV gs st ∧ offR gs off ∧ ts = [] ∧ G = gs ∧ S = st ∧ C = 0) ∨
  (LV gs st ∧ offR gs off ∧ (ts ≠ [] ∧ ¬ (jn (gs.map grT)).length + ts.length ≤ 8192) ∧ G = [] ∧ S = [] ∧ C = 10) ∨ (LV gs st ∧ ¬ offR gs off ∧ G = [] ∧ S = [] ∧ C = 2) ∨ (¬ LV gs st ∧ G = [] ∧ S = [] ∧ C = 1)
theorem LjIns.ex (gs : List Gr) (off : Nat) (ts : List Int) (h : 1 ≤ gs.length) : ∃ G S, LjIns gs off ts G S := by
  have hne : gs.map grT ≠ [] := by intro e; have := congrArg List.length e; simp at this; rw [this] at h; simp at h
  obtain ⟨k, hk⟩ := Ln.ex (gs.map grT) off hne
  have l1 := hk.1
  rw [List.length_map] at l1
  exact ⟨_, _, k, gs[k], hk, by simp [l1], rfl, rfl⟩
theorem LjAns.ex (gs : List Gr) (st : List Int) (off : Int) (ts : List Int) : ∃ G S C, LjAns gs st off ts G S C := by
  by_cases h1 : LV gs st
  · by_cases h2 : offR gs off
    · by_cases h3 : ts = []
      · exact ⟨_, _, _, .inr (.inl ⟨h1, h2, h3, rfl, rfl, rfl⟩)⟩
      · by_cases h4 : (jn (gs.map grT)).length + ts.length ≤ 8192
        · obtain ⟨G, S, h⟩ := LjIns.ex gs off.toNat ts h1.1.1
          exact ⟨_, _, _, .inl ⟨h1, h2, h4, h3, h, rfl⟩⟩
        · exact ⟨_, _, _, .inr (.inr (.inl ⟨h1, h2, ⟨h3, h4⟩, rfl, rfl, rfl⟩))⟩
    · exact ⟨_, _, _, .inr (.inr (.inr (.inl ⟨h1, h2, rfl, rfl, rfl⟩)))⟩
  · exact ⟨_, _, _, .inr (.inr (.inr (.inr ⟨h1, rfl, rfl, rfl⟩)))⟩
theorem insRows_ne (gs : List Gr) (k : Nat) (x : Gr) (cc : Nat) (ts : List Int) : 1 ≤ (insRows gs k x cc ts).length := by
  unfold insRows insM
  split <;> simp <;> omega

set_option maxHeartbeats 2000000 in
set_option maxRecDepth 100000 in
theorem implLj (gs : List Gr) (st : List Int) (off : Int) (ts : List Int) (vx : Value) (vr vt : Value) (lo hi : Nat) (w : World) (G : List Gr) (S : List Int) (C : Int) (hA : LjAns gs st off ts G S C) (h : OwL w lo hi vr vt gs st) (hh : hi ≤ w.heap.size) (hs : ∀ x ∈ gs, x.cells.length ≤ 1048576) (hgl : gs.length ≤ 1048576) (hst : st.length ≤ 1048576) (hX : Sl .i32 w vx ts) (hXc : ∀ ad n c, vx = .slice ad n c → n ≤ c ∧ c ≤ maxLen) (htn : ts.length ≤ 1048576) (hg : w.cell? ⟨0, 0, none⟩ = some (.iface 307 (.agg #[.pointer (some ⟨2, 100, none⟩)]))) :
    Calls Tryz.prog 18 #[.agg #[vr, vt], .int .i64 off, vx] w (LdPost w G S C) := by
  have hlt0 : 0 < w.heap.size := World.block_lt_of_cell? w _ hg
  have A0 := hide (((Below.refl w.heap.size w).alloc (Nat.le_refl _) (.cells #[vr, vt] 29)).alloc (by simp) (.cells #[.slice none 0 0, .slice none 0 0] 29))
  have K0 := hide (show D2 ((w.alloc (.cells #[vr, vt] 29)).alloc (.cells #[.slice none 0 0, .slice none 0 0] 29)) (w.heap.size + 1) (.slice none 0 0) (.slice none 0 0) 29 from (by have h9 := D2.new (w.alloc (.cells #[vr, vt] 29)) (.slice none 0 0) (.slice none 0 0) 29; rw [World.size_alloc] at h9; exact h9))
  have hs0 : ((w.alloc (.cells #[vr, vt] 29)).alloc (.cells #[.slice none 0 0, .slice none 0 0] 29)).heap.size = w.heap.size + 2 := by simp
  have RL := hide (readLinesN gs st vr vt lo hi _ (h.below A0.out hh) (by rw [hs0]; omega) hs hgl hst)
  have G0 := hide ((A0.out.cell (p := ⟨0, 0, none⟩) hlt0).trans hg)
  obtain ⟨a1, c1, a2, c2, rfl, rfl⟩ := h.val
  have HA := hide hA
  unfold LdPost
  clear h hs hg hA
  generalize hn : gs.length = n at *
  generalize hm : st.length = m at *
  have HN := hide hn
  have HM := hide hm
  clear hn hm
  by_cases hv : LV gs st
  · have RL2 := hide (RL.out.mono (fun e w' h => h.1 hv))
    unfold RLOk at RL2
    have hv' := (LV_iff gs st).1 hv
    have HV := hide hv'
    have HVV := hide hv
    clear RL hv hv'
    go_enter Tryz.func18, Tryz.ntmps18
    go_wp2_with fail
    generalize (w.alloc (.cells #[.slice a1 n c1, .slice a2 m c2] 29)).alloc (.cells #[.slice none 0 0, .slice none 0 0] 29) = w0 at *
    refine RL2.out.mono ?_
    rintro e w1 ⟨c, g, sv, vs, rfl, hc, hL, hb1⟩
    rw [HN.out] at hL
    have hcl' := hL.lt
    have s1 := hb1.size
    have K1 := hide (K0.out.below hb1 (by omega))
    have B1 := hide (A0.out.trans (hb1.mono (by omega)))
    have G1 := hide ((hb1.cell (p := ⟨0, 0, none⟩) (by show 0 < w0.heap.size; omega)).trans G0.out)
    have HL := hide hL
    have hn1 : 1 ≤ n := by have := HV.out.1.1; rw [HN.out] at this; exact this.1
    have hn2 : n ≤ 8193 := by have := HV.out.1.1; rw [HN.out] at this; exact this.2
    clear hL hb1 RL2 K0
    have FIN : ∀ (w2 : World) (g' cap' a' b' : Nat) (sv' : Value) (vs' : List Value) (G' : List Gr) (r' : Int), LCr w2 w0.heap.size w2.heap.size c (.slice (some ⟨g', 0, none⟩) G'.length cap') sv' vs' G' a' b' r' S → a' ≤ b' → b' ≤ G'.length → G'.length ≤ 65536 → 1 ≤ G'.length → cutG a' b' G' = G → 1 ≤ a' + (G'.length - b') → w1.heap.size ≤ w2.heap.size → Calls Tryz.prog 56 #[.pointer (some ⟨c, 0, none⟩), .nilIface] w2 fun e w' => ∃ vr vt, e = .returned (.tuple #[.agg #[vr, vt], .int .i64 0]) ∧ OwL w' w0.heap.size w'.heap.size vr vt G S ∧ Below w2.heap.size w2 w' := by
      intro w2 g' cap' a' b' sv' vs' G' r' hL q1 q2 q3 q4 q5 q6 q7
      have := answerL_cut w0.heap.size w2.heap.size c g' cap' G'.length a' b' sv' vs' G' r' S w2 hL rfl q4 (by omega) q1 q2 q6 (Nat.le_refl _) (by omega) (by omega)
      rw [q5] at this
      exact this
    have hrb : (0 : Int) ≤ ((jn (gs.map grT)).length : Nat) ∧ (((jn (gs.map grT)).length : Nat) : Int) ≤ 8192 := by have := HV.out.1.2.2; omega
    obtain ⟨av, nv, cv, hvx⟩ : ∃ av nv cv, vx = .slice av nv cv := by
      rcases hX with ⟨e, _⟩ | ⟨_, _, _, e, _⟩ <;> exact ⟨_, _, _, e⟩
    have hnv : nv = ts.length := by
      rcases hX with ⟨e, e2⟩ | ⟨_, _, _, e, _⟩
      · rw [hvx] at e; cases e; rw [e2]; rfl
      · rw [hvx] at e; cases e; rfl
    subst hvx
    have hXl : ∀ ad, av = some ad → ad.block < w.heap.size := by
      intro ad e
      subst e
      rcases hX with ⟨e, _⟩ | ⟨b0, o0, c0, e, hb0, _⟩
      · cases e
      · simp only [Value.slice.injEq, Option.some.injEq] at e
        rw [e.1]; exact hb0
    have BWX : Below w.heap.size w w1 := B1.out
    have hX1 := hX.below BWX
    -- the call, and its four ways
    have DT : (C = 0 ∧ Calls Tryz.prog 64 #[.iface 98 (.pointer (some ⟨c, 0, none⟩)), .int .i64 off, .slice av nv cv] w1 fun e w2 => e = .returned .nilIface ∧ Below w0.heap.size w1 w2 ∧ Calls Tryz.prog 56 #[.pointer (some ⟨c, 0, none⟩), .nilIface] w2 fun e w' => ∃ vr vt, e = .returned (.tuple #[.agg #[vr, vt], .int .i64 0]) ∧ OwL w' w0.heap.size w'.heap.size vr vt G S ∧ Below w2.heap.size w2 w') ∨
        (G = [] ∧ S = [] ∧ Calls Tryz.prog 64 #[.iface 98 (.pointer (some ⟨c, 0, none⟩)), .int .i64 off, .slice av nv cv] w1 fun e w2 => (∃ msg, e = .returned (.iface 172 (.agg #[.string msg, .iface 181 (.int .i64 C)]))) ∧ w2 = w1) := by
      rcases HA.out with ⟨_, hof, hfu, hne, hR, eC⟩ | ⟨_, hof, hnil, eG, eS, eC⟩ | ⟨_, hof, hfu, eG, eS, eC⟩ | ⟨_, hof, eG, eS, eC⟩ | ⟨h3, _⟩
      · refine .inl ⟨eC, ?_⟩
        obtain ⟨on, rfl⟩ : ∃ k : Nat, off = k := ⟨off.toNat, by have := hof.1; omega⟩
        rw [Int.toNat_natCast] at hR
        have hob : on ≤ (jn (gs.map grT)).length := by have := hof.2; omega
        have ht1 : 1 ≤ ts.length := by
          rcases Nat.eq_zero_or_pos ts.length with q | q
          · exact absurd (List.eq_nil_of_length_eq_zero q) hne
          · exact q
        have hh1 := hXc av nv cv rfl
        rcases hX1 with ⟨e, e2⟩ | ⟨b0, o0, c0, e, hb0, hcl⟩
        · exact absurd e2 hne
        · simp only [Value.slice.injEq] at e
          obtain ⟨rfl, rfl, rfl⟩ := e
          have hbl0 : b0 < w0.heap.size := by have := hXl _ rfl; simp only at this; omega
          refine (insTextL w0.heap.size w1.heap.size c g n n on sv vs gs _ st ts b0 o0 ts.length cv w1 HL.out rfl HN.out hn2 (Nat.le_refl _) hc hcl' HV.out.2.1.1 HV.out.2.2 (by have := HV.out.2.1.2; rw [HN.out] at this; exact this) HV.out.1.2.1 hfu hob rfl ht1 hbl0 hh1.1 hh1.2 hcl).mono ?_
          rintro e w2 ⟨rfl, _, k, x, g', cap', a', b', sv', vs', G', l1, x1, hL2, ⟨q1, q2, q3⟩, hcut, hb2⟩
          refine ⟨rfl, hb2, ?_⟩
          obtain ⟨k', x', l1', x1', eG, eS⟩ := hR
          obtain rfl := l1'.uniq l1
          rw [x1] at x1'
          obtain rfl := Option.some.inj x1'
          have hlen : 1 ≤ (cutG a' b' G').length := by rw [hcut]; exact insRows_ne _ _ _ _ _
          rw [cutG_len q1 q2] at hlen
          rw [← eS] at hL2
          exact FIN w2 g' cap' a' b' sv' vs' G' _ hL2 q1 q2 q3 (by omega) (by rw [hcut, eG]) hlen hb2.size
      · refine .inl ⟨eC, ?_⟩
        refine (insText0L w0.heap.size w1.heap.size c _ sv vs gs n n _ st off av nv cv w1 HL.out hrb hof (by rw [hnv, hnil]; rfl)).mono ?_
        rintro e w2 ⟨rfl, hw⟩
        have hw' := hw.symm
        subst hw'
        refine ⟨rfl, Below.refl _ _, ?_⟩
        have h9 := HL.out
        rw [← HN.out, ← eS] at h9
        have hgl1 : 1 ≤ gs.length := by rw [HN.out]; exact hn1
        exact FIN _ g gs.length gs.length gs.length sv vs gs _ h9 (Nat.le_refl _) (Nat.le_refl _) (by rw [HN.out]; omega) hgl1 (by rw [cutG_all, eG]) (by omega) (Nat.le_refl _)
      · refine .inr ⟨eG, eS, ?_⟩
        rw [eC]
        exact insTextFL w0.heap.size w1.heap.size c _ sv vs gs n n _ st off av nv cv w1 HL.out hrb hof (by omega) (by rw [hnv]; have := hfu.2; omega)
      · refine .inr ⟨eG, eS, ?_⟩
        rw [eC]
        exact insTextRL w0.heap.size w1.heap.size c _ sv vs gs n n _ st off av nv cv w1 HL.out hrb hof
      · exact absurd HVV.out h3
    clear FIN HL HA hX hX1 hXc hnv hXl BWX hrb htn
    rcases DT with ⟨eC, DT⟩ | ⟨eG, eS, DT⟩
    · subst eC
      have DT2 := hide DT
      clear DT
      go_wp2_with fail
      refine DT2.out.mono ?_
      rintro e w2 ⟨rfl, hb2, AN0⟩
      have AN := hide AN0
      have s2 := hb2.size
      have K2 := hide (K1.out.below hb2 (by omega))
      have B2 := hide (B1.out.trans (hb2.mono (by omega)))
      clear hb2 DT2 K1 AN0
      go_wp2_with fail
      refine AN.out.mono ?_
      rintro e w3 ⟨vr3, vt3, rfl, ho3, hb3⟩
      obtain ⟨b1, d1, b2, d2, rfl, rfl⟩ := ho3.val
      have s3 := hb3.size
      have K3 := hide (K2.out.below hb3 (by omega))
      have B3 := hide (B2.out.trans (hb3.mono (by omega)))
      have O3 := hide ho3
      have e0 := K3.out.c.1
      have e1 := K3.out.c.2
      have f0 := K3.out.fz 0
      have f1 := K3.out.fz 1
      clear ho3 hb3 AN K2
      generalize S.length = sl at *
      generalize G.length = gl at *
      go_wp2
      refine bodyPost_ret (v := .tuple #[.agg #[.slice b1 gl d1, .slice b2 sl d2], .int .i64 0]) (by simp [results, Tryz.results18, go_sem, e0, e1]) rfl ⟨_, _, rfl, ?_, ?_⟩
      · refine (O3.out.frame (fun q h1 h2 => ?_)).mono (by omega) (by simp)
        rw [heap_setCell_other _ _ _ _ (by show q ≠ w.heap.size + 1; omega), heap_setCell_other _ _ _ _ (by show q ≠ w.heap.size + 1; omega)]
      · exact (B3.out.setCell (by simp) _).setCell (by simp) _
    · subst eG eS
      have OF2 := hide DT
      clear DT
      go_wp2_with fail
      refine OF2.out.mono ?_
      rintro e w2 ⟨⟨msg, rfl⟩, hw⟩
      have hw' := hw.symm
      subst hw'
      clear OF2 hw
      go_wp2_with fail
      refine (answerL_errG msg C c _ G1.out).mono ?_
      rintro e w3 ⟨rfl, hb3⟩
      have s3 := hb3.size
      have K3 := hide (K1.out.below hb3 (by omega))
      have B3 := hide (B1.out.trans (hb3.mono (by omega)))
      have e0 := K3.out.c.1
      have e1 := K3.out.c.2
      have f0 := K3.out.fz 0
      have f1 := K3.out.fz 1
      clear hb3 K1
      go_wp2
      refine bodyPost_ret (v := .tuple #[.agg #[.slice none 0 0, .slice none 0 0], .int .i64 C]) (by simp [results, Tryz.results18, go_sem, e0, e1]) rfl ⟨_, _, rfl, OwL.nil _ _ _, ?_⟩
      exact (B3.out.setCell (by simp) _).setCell (by simp) _
  · have RL2 := hide (RL.out.mono (fun e w' h => h.2 hv))
    unfold RLBad at RL2
    rcases HA.out with ⟨h3, _⟩ | ⟨h3, _⟩ | ⟨h3, _⟩ | ⟨h3, _⟩ | ⟨_, eG, eS, eC⟩
    · exact absurd h3 hv
    · exact absurd h3 hv
    · exact absurd h3 hv
    · exact absurd h3 hv
    subst eG eS eC
    clear RL hv HA
    go_enter Tryz.func18, Tryz.ntmps18
    go_wp2_with fail
    generalize (w.alloc (.cells #[.slice a1 n c1, .slice a2 m c2] 29)).alloc (.cells #[.slice none 0 0, .slice none 0 0] 29) = w0 at *
    refine RL2.out.mono ?_
    rintro e w1 ⟨er, rfl, hbe, hb1⟩
    have s1 := hb1.size
    have K1 := hide (K0.out.below hb1 (by omega))
    have B1 := hide (A0.out.trans (hb1.mono (by omega)))
    have G1 := hide ((hb1.cell (p := ⟨0, 0, none⟩) (by show 0 < w0.heap.size; omega)).trans G0.out)
    have CO := hide (answerL_bad none er hbe w1 G1.out)
    clear hb1 RL2 K0
    rcases hbe with ⟨msg, rfl⟩ | ⟨msg, msg', rfl⟩
    all_goals
      go_wp2_with fail
      refine CO.out.mono ?_
      rintro e w2 ⟨rfl, hb2⟩
      have B2 := hide (B1.out.trans (hb2.mono (by omega)))
      have K2 := hide (K1.out.below hb2 (by omega))
      have e0 := K2.out.c.1
      have e1 := K2.out.c.2
      have f0 := K2.out.fz 0
      have f1 := K2.out.fz 1
      clear hb2
      go_wp2
      refine bodyPost_ret (v := .tuple #[.agg #[.slice none 0 0, .slice none 0 0], .int .i64 1]) (by simp [results, Tryz.results18, go_sem, e0, e1]) rfl ⟨_, _, rfl, OwL.nil _ _ _, ?_⟩
      exact (B2.out.setCell (by simp) _).setCell (by simp) _
end Go.Proofs.YtbgngikejgihgagGreatDoor
