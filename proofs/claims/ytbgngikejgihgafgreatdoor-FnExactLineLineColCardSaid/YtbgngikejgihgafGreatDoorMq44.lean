import Derived.Test.YtbgngikejgihgafGreatDoorMq40
import Derived.Test.YtbgngikejgihgafGreatDoorMq43
namespace Go.Proofs.YtbgngikejgihgafGreatDoor
open Go Go.RowKit
set_option linter.unusedVariables false

/-- What LineLineCol answers. -/
def LcPost (w : World) (G : List Gr) (S : List Int) (L K C : Int) (e : Ending) (w' : World) : Prop := ∃ vr vt, e = .returned (.tuple #[.agg #[vr, vt], .int .i64 L, .int .i64 K, .int .i64 C]) ∧ OwL w' w.heap.size w'.heap.size vr vt G S ∧ Below w.heap.size w w'
def inR (gs : List Gr) (off : Int) : Prop := 0 ≤ off ∧ off ≤ (jn (gs.map grT)).length
/-- The answer is one of three. -/
def LcAns (gs : List Gr) (st : List Int) (off : Int) (G : List Gr) (S : List Int) (L K C : Int) : Prop :=
  (LV gs st ∧ inR gs off ∧ G = gs ∧ (∃ m, Kn (gs.map grT) st.length off.toNat m ∧ S = (stL (gs.map grT)).take m) ∧ L = lcL (jn (gs.map grT)) off.toNat ∧ K = lcC (jn (gs.map grT)) off.toNat ∧ C = 0) ∨
  (LV gs st ∧ ¬ inR gs off ∧ G = [] ∧ S = [] ∧ L = 0 ∧ K = 0 ∧ C = 2) ∨ (¬ LV gs st ∧ G = [] ∧ S = [] ∧ L = 0 ∧ K = 0 ∧ C = 1)
theorem LcAns.ex (gs : List Gr) (st : List Int) (off : Int) : ∃ G S L K C, LcAns gs st off G S L K C := by
  by_cases h1 : LV gs st
  · by_cases h2 : inR gs off
    · obtain ⟨m, hm⟩ := Kn.ex (gs.map grT) st.length off.toNat (by rw [List.length_map]; exact ((LV_iff gs st).1 h1).2.1.2)
      exact ⟨_, _, _, _, _, .inl ⟨h1, h2, rfl, ⟨m, hm, rfl⟩, rfl, rfl, rfl⟩⟩
    · exact ⟨_, _, _, _, _, .inr (.inl ⟨h1, h2, rfl, rfl, rfl, rfl, rfl⟩)⟩
  · exact ⟨_, _, _, _, _, .inr (.inr ⟨h1, rfl, rfl, rfl, rfl, rfl⟩)⟩

set_option maxHeartbeats 2000000 in
set_option maxRecDepth 100000 in
theorem implLc (gs : List Gr) (st : List Int) (off : Int) (vr vt : Value) (lo hi : Nat) (w : World) (G : List Gr) (S : List Int) (L K C : Int) (hA : LcAns gs st off G S L K C) (h : OwL w lo hi vr vt gs st) (hh : hi ≤ w.heap.size) (hs : ∀ x ∈ gs, x.cells.length ≤ 1048576) (hgl : gs.length ≤ 1048576) (hst : st.length ≤ 1048576) (hg : w.cell? ⟨0, 0, none⟩ = some (.iface 207 (.agg #[.pointer (some ⟨1, 68, none⟩)]))) :
    Calls Tryz.prog 23 #[.agg #[vr, vt], .int .i64 off] w (LcPost w G S L K C) := by
  have hlt0 : 0 < w.heap.size := World.block_lt_of_cell? w _ hg
  have A0 := hide (((Below.refl w.heap.size w).alloc (Nat.le_refl _) (.cells #[vr, vt] 40)).alloc (by simp) (.cells #[.slice none 0 0, .slice none 0 0] 40))
  have K0 := hide (show D2 ((w.alloc (.cells #[vr, vt] 40)).alloc (.cells #[.slice none 0 0, .slice none 0 0] 40)) (w.heap.size + 1) (.slice none 0 0) (.slice none 0 0) 40 from (by have h9 := D2.new (w.alloc (.cells #[vr, vt] 40)) (.slice none 0 0) (.slice none 0 0) 40; rw [World.size_alloc] at h9; exact h9))
  have hs0 : ((w.alloc (.cells #[vr, vt] 40)).alloc (.cells #[.slice none 0 0, .slice none 0 0] 40)).heap.size = w.heap.size + 2 := by simp
  have RL := hide (readLinesN gs st vr vt lo hi _ (h.below A0.out hh) (by rw [hs0]; omega) hs hgl hst)
  have G0 := hide ((A0.out.cell (p := ⟨0, 0, none⟩) hlt0).trans hg)
  obtain ⟨a1, c1, a2, c2, rfl, rfl⟩ := h.val
  have HA := hide hA
  unfold LcPost
  clear h hs hg hA
  generalize hn : gs.length = n at *
  generalize hm : st.length = m at *
  have HN := hide hn
  have HM := hide hm
  clear hn hm
  by_cases hv : LV gs st
  · have RL2 := hide (RL.out.mono (fun e w' h => h.1 hv))
    unfold RLOk at RL2
    have hv' := (LV_iff gs st).1 hv
    have HV := hide hv'
    have HVV := hide hv
    clear RL hv hv'
    go_enter Tryz.func23, Tryz.ntmps23
    go_wp2_with fail
    generalize (w.alloc (.cells #[.slice a1 n c1, .slice a2 m c2] 40)).alloc (.cells #[.slice none 0 0, .slice none 0 0] 40) = w0 at *
    refine RL2.out.mono ?_
    rintro e w1 ⟨c, g, sv, vs, rfl, hc, hL, hb1⟩
    rw [HN.out] at hL
    have hcl := hL.lt
    have s1 := hb1.size
    have OF := hide (placeLN w0.heap.size w1.heap.size c g n n sv vs gs st off w1 hL HN.out (by have := HV.out.1.1; rw [HN.out] at this; exact this.2) (Nat.le_refl _) hc hcl HV.out.2.1.1 HV.out.2.2 (by have := HV.out.2.1.2; rw [HN.out] at this; exact this) HV.out.1.2.1 HV.out.1.2.2)
    have K1 := hide (K0.out.below hb1 (by omega))
    have B1 := hide (A0.out.trans (hb1.mono (by omega)))
    have G1 := hide ((hb1.cell (p := ⟨0, 0, none⟩) (by show 0 < w0.heap.size; omega)).trans G0.out)
    clear hL hb1 RL2 K0
    by_cases hp : inR gs off
    · rcases HA.out with ⟨_, _, eG, ⟨m0, hm0, eS⟩, eL, eK, eC⟩ | ⟨_, h3, _⟩ | ⟨h3, _⟩
      · have OF2 := hide (OF.out.mono (fun e w' h => (⟨h.1 hp, h.2.2⟩ : _ ∧ Below w0.heap.size w1 w')))
        rw [← eL, ← eK] at OF2
        have ES := hide eS
        have HM0 := hide hm0
        clear hm0
        have HGE := hide eG
        subst eC
        clear OF eL eK eS eG HA
        go_wp2_with fail
        refine OF2.out.mono ?_
        rintro e w2 ⟨⟨m2, sv', rfl, hkn2, hL2⟩, hb2⟩
        have em := hkn2.uniq HM0.out
        subst em
        rw [← ES.out] at hL2
        clear hkn2 HM0 ES
        have s2 := hb2.size
        have AN := hide (answerL_ok w0.heap.size w2.heap.size c g n sv' vs gs _ S w2 hL2 HN.out (by have := HV.out.1.1; rw [HN.out] at this; exact this.1) (by have := HV.out.1.1; rw [HN.out] at this; exact this.2) (Nat.le_refl _) (by omega) (by omega))
        have K2 := hide (K1.out.below hb2 (by omega))
        have B2 := hide (B1.out.trans (hb2.mono (by omega)))
        clear hL2 hb2 OF2 K1
        go_wp2_with fail
        refine AN.out.mono ?_
        rintro e w3 ⟨vr3, vt3, rfl, ho3, hb3⟩
        obtain ⟨b1, d1, b2, d2, rfl, rfl⟩ := ho3.val
        have s3 := hb3.size
        have K3 := hide (K2.out.below hb3 (by omega))
        have B3 := hide (B2.out.trans (hb3.mono (by omega)))
        rw [HN.out] at *
        have O3 := hide ho3
        have W4 := hide ((Below.refl w3.heap.size w3).alloc (Nat.le_refl _) (.cells #[.slice b1 n d1, .slice b2 S.length d2] 40))
        have K4 := hide (K3.out.below W4.out (by omega))
        have e0 := K4.out.c.1
        have e1 := K4.out.c.2
        have f0 := K4.out.fz 0
        have f1 := K4.out.fz 1
        have z4 : (w3.alloc (.cells #[.slice b1 n d1, .slice b2 S.length d2] 40)).heap.size = w3.heap.size + 1 := by simp
        clear ho3 hb3 AN K2 K3
        generalize S.length = sl at *
        go_wp2
        refine bodyPost_ret (v := .tuple #[.agg #[.slice b1 n d1, .slice b2 sl d2], .int .i64 L, .int .i64 K, .int .i64 0]) (by simp [results, Tryz.results23, go_sem, e0, e1]) rfl ⟨_, _, rfl, ?_, ?_⟩
        · rw [HGE.out]
          refine (O3.out.frame (fun q h1 h2 => ?_)).mono (by omega) (by simp)
          rw [heap_setCell_other _ _ _ _ (by show q ≠ w.heap.size + 1; omega), heap_setCell_other _ _ _ _ (by show q ≠ w.heap.size + 1; omega)]
          exact W4.out.block q h2
        · exact ((B3.out.trans (W4.out.mono (by omega))).setCell (by simp) _).setCell (by simp) _
      · exact absurd hp h3
      · exact absurd HVV.out h3
    · rcases HA.out with ⟨_, h3, _⟩ | ⟨_, _, eG, eS, eL, eK, eC⟩ | ⟨h3, _⟩
      · exact absurd h3 hp
      · have OF2 := hide (OF.out.mono (fun e w' h => (⟨h.2.1 hp, h.2.2⟩ : _ ∧ Below w0.heap.size w1 w')))
        subst eG eS eL eK eC
        clear OF HA
        go_wp2_with fail
        refine OF2.out.mono ?_
        rintro e w2 ⟨rfl, hb2⟩
        have s2 := hb2.size
        have K2 := hide (K1.out.below hb2 (by omega))
        have B2 := hide (B1.out.trans (hb2.mono (by omega)))
        have G2 := hide ((hb2.cell (p := ⟨0, 0, none⟩) (by show 0 < w0.heap.size; omega)).trans G1.out)
        clear hb2 OF2 K1
        go_wp2_with fail
        refine (answerL_errG msgPlaceL 2 c w2 G2.out).mono ?_
        rintro e w3 ⟨rfl, hb3⟩
        have s3 := hb3.size
        have K3 := hide (K2.out.below hb3 (by omega))
        have B3 := hide (B2.out.trans (hb3.mono (by omega)))
        have W4 := hide ((Below.refl w3.heap.size w3).alloc (Nat.le_refl _) (.cells #[.slice none 0 0, .slice none 0 0] 40))
        have K4 := hide (K3.out.below W4.out (by omega))
        have e0 := K4.out.c.1
        have e1 := K4.out.c.2
        have f0 := K4.out.fz 0
        have f1 := K4.out.fz 1
        clear hb3 K2 K3
        go_wp2
        refine bodyPost_ret (v := .tuple #[.agg #[.slice none 0 0, .slice none 0 0], .int .i64 0, .int .i64 0, .int .i64 2]) (by simp [results, Tryz.results23, go_sem, e0, e1]) rfl ⟨_, _, rfl, OwL.nil _ _ _, ?_⟩
        exact ((B3.out.trans (W4.out.mono (by omega))).setCell (by simp) _).setCell (by simp) _
      · exact absurd HVV.out h3
  · have RL2 := hide (RL.out.mono (fun e w' h => h.2 hv))
    unfold RLBad at RL2
    rcases HA.out with ⟨h3, _⟩ | ⟨h3, _⟩ | ⟨_, eG, eS, eL, eK, eC⟩
    · exact absurd h3 hv
    · exact absurd h3 hv
    subst eG eS eL eK eC
    have CB := hide (fun er hb w hg => codeBadL er hb w hg)
    clear RL hv HA
    go_enter Tryz.func23, Tryz.ntmps23
    go_wp2_with fail
    generalize (w.alloc (.cells #[.slice a1 n c1, .slice a2 m c2] 40)).alloc (.cells #[.slice none 0 0, .slice none 0 0] 40) = w0 at *
    refine RL2.out.mono ?_
    rintro e w1 ⟨er, rfl, hbe, hb1⟩
    have s1 := hb1.size
    have K1 := hide (K0.out.below hb1 (by omega))
    have B1 := hide (A0.out.trans (hb1.mono (by omega)))
    have G1 := hide ((hb1.cell (p := ⟨0, 0, none⟩) (by show 0 < w0.heap.size; omega)).trans G0.out)
    have CO := hide (CB.out er hbe w1 G1.out)
    clear hb1 RL2 K0
    rcases hbe with ⟨msg, rfl⟩ | ⟨msg, msg', rfl⟩
    all_goals
      go_wp2_with fail
      refine CO.out.mono ?_
      rintro e w2 ⟨rfl, hb2⟩
      have B2 := hide (B1.out.trans (hb2.mono (by omega)))
      have K2 := hide (K1.out.below hb2 (by omega))
      have e0 := K2.out.c.1
      have e1 := K2.out.c.2
      have f0 := K2.out.fz 0
      have f1 := K2.out.fz 1
      clear hb2
      go_wp2
      refine bodyPost_ret (v := .tuple #[.agg #[.slice none 0 0, .slice none 0 0], .int .i64 0, .int .i64 0, .int .i64 1]) (by simp [results, Tryz.results23, go_sem, e0, e1]) rfl ⟨_, _, rfl, OwL.nil _ _ _, ?_⟩
      exact (B2.out.setCell (by simp) _).setCell (by simp) _
end Go.Proofs.YtbgngikejgihgafGreatDoor
