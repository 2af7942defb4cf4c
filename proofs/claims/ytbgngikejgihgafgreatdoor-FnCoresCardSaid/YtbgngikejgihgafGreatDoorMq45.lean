import Derived.Test.YtbgngikejgihgafGreatDoorMq44
namespace Go.Proofs.YtbgngikejgihgafGreatDoor
open Go Go.RowKit
set_option linter.unusedVariables false
set_option maxRecDepth 100000
set_option maxHeartbeats 8000000
def offR (gs : List Gr) (off : Int) : Prop := 0 <= off ∧ off <= (jn (gs.map grT)).length
def LjIns (gs : List Gr) (off : Nat) (ts : List Int) (G : List Gr) (S : List Int) : Prop := ∃ (k : Nat) (x : Gr), Ln (gs.map grT) off k ∧ gs[k]? = some x ∧ G = yE gs k x (off - sAt (gs.map grT) k) ts ∧ S = (stL (gs.map grT)).take (k + 1)
def LjAns (gs : List Gr) (st : List Int) (off : Int) (ts : List Int) (G : List Gr) (S : List Int) (C : Int) : Prop :=
 (LV gs st ∧ offR gs off ∧ (jn (gs.map grT)).length + ts.length <= 8192 ∧ ts ≠ [] ∧ LjIns gs off.toNat ts G S ∧ C = 0) ∨ (LV gs st ∧ offR gs off ∧ ts = [] ∧ G = gs ∧ S = st ∧ C = 0) ∨
 (LV gs st ∧ offR gs off ∧ (ts ≠ [] ∧ ¬ (jn (gs.map grT)).length + ts.length <= 8192) ∧ G = [] ∧ S = [] ∧ C = 10) ∨ (LV gs st ∧ ¬ offR gs off ∧ G = [] ∧ S = [] ∧ C = 2) ∨ (¬ LV gs st ∧ G = [] ∧ S = [] ∧ C = 1)
theorem LjIns.ex (gs : List Gr) (off : Nat) (ts : List Int) (h : 1 <= gs.length) : ∃ G S, LjIns gs off ts G S := by
 have hne : gs.map grT ≠ [] := by intro e; have := congrArg List.length e; simp at this; rw [this] at h; simp at h
 obtain ⟨k, hk⟩ := Ln.ex (gs.map grT) off hne;have l1 := hk.1;rw [List.length_map] at l1
 exact ⟨_, _, k, gs[k], hk, by simp [l1], rfl, rfl⟩
theorem zBd (gs : List Gr) (k : Nat) (x : Gr) (cc : Nat) (ts : List Int) : 1 <= (yE gs k x cc ts).length := by
 unfold yE insM
 split <;> simp <;> omega
theorem implLj (gs : List Gr) (st : List Int) (off : Int) (ts : List Int) (vx : Value) (vr vt : Value) (lo hi : Nat) (w : World) (G : List Gr) (S : List Int) (C : Int) (hA : LjAns gs st off ts G S C) (h : OwL w lo hi vr vt gs st) (hh : hi <= w.heap.size) (hs : ∀ x ∈ gs, x.cells.length <= 1048576) (hgl : gs.length <= 1048576) (hst : st.length <= 1048576) (hX : Sl .i32 w vx ts) (hXc : ∀ ad n c, vx = .slice ad n c -> n <= c ∧ c <= maxLen) (htn : ts.length <= 1048576) (hg : w.cell? ⟨0, 0, none⟩ = some (.iface 207 (.agg #[.pointer (some ⟨1, 68, none⟩)]))) (hOK : C = 0) (hne0 : ts ≠ []) :
  Calls Tryz.prog 13 #[.agg #[vr, vt], .int .i64 off, vx] w (ZD w G S C) := by
 have HOK := hide hOK;clear hOK;have hlt0 : 0 < w.heap.size := World.block_lt_of_cell? w _ hg
 have A0 := hide (((Below.refl w.heap.size w).alloc lR (.cells #[vr, vt] 40)).alloc (by simp) (.cells #[.slice none 0 0, .slice none 0 0] 40))
 have K0 := hide (show D2 ((w.alloc (.cells #[vr, vt] 40)).alloc (.cells #[.slice none 0 0, .slice none 0 0] 40)) (w.heap.size + 1) (.slice none 0 0) (.slice none 0 0) 40 from (by have h9 := D2.new (w.alloc (.cells #[vr, vt] 40)) (.slice none 0 0) (.slice none 0 0) 40; rw [World.size_alloc] at h9; exact h9))
 have hs0 : ((w.alloc (.cells #[vr, vt] 40)).alloc (.cells #[.slice none 0 0, .slice none 0 0] 40)).heap.size = w.heap.size + 2 := by simp
 have RL := hide (Zz gs st vr vt lo hi _ (h.below A0.out hh) (by rw [hs0]; omega) hs hgl hst)
 have G0 := hide ((A0.out.cell (p := ⟨0, 0, none⟩) hlt0).trans hg);obtain ⟨a1, c1, a2, c2, rfl, rfl⟩ := h.val;have HA := hide hA;unfold ZD;clear h hs hg hA;generalize hn : gs.length = n at *;generalize hm : st.length = m at *;have HN := hide hn;have HM := hide hm;clear hn hm
 by_cases hv : LV gs st
 ·have RL2 := hide (RL.out.mono (fun e w' h => h.1 hv))
  unfold RLOk at RL2;have hv' := (J8 gs st).1 hv;have HV := hide hv';have HVV := hide hv;clear RL hv hv';go_enter Tryz.func13, Tryz.ntmps13;go_wp2_with fail;generalize (w.alloc (.cells #[.slice a1 n c1, .slice a2 m c2] 40)).alloc (.cells #[.slice none 0 0, .slice none 0 0] 40) = w0 at *;refine RL2.out.mono ?_;rintro e w1 ⟨c, g, sv, vs, rfl, hc, hL, hb1⟩;rw [HN.out] at hL;have hcl' := hL.lt;have s1 := hb1.size
  have K1 := hide (K0.out.below hb1 (by omega))
  have B1 := hide (A0.out.trans (hb1.mono (by omega)))
  have G1 := hide ((hb1.cell (p := ⟨0, 0, none⟩) (by show 0 < w0.heap.size; omega)).trans G0.out)
  have HL := hide hL
  have hn1 : 1 <= n := by have := HV.out.1.1; rw [HN.out] at this; exact this.1
  have hn2 : n <= 8193 := by have := HV.out.1.1; rw [HN.out] at this; exact this.2
  clear hL hb1 RL2 K0
  have FIN : ∀ (w2 : World) (g' cap' a' b' : Nat) (sv' : Value) (vs' : List Value) (G' : List Gr) (r' : Int), LCr w2 w0.heap.size w2.heap.size c (.slice (some ⟨g', 0, none⟩) G'.length cap') sv' vs' G' a' b' r' S -> a' <= b' -> b' <= G'.length -> G'.length <= 65536 -> 1 <= G'.length -> cutG a' b' G' = G -> 1 <= a' + (G'.length - b') -> w1.heap.size <= w2.heap.size -> Calls Tryz.prog 44 #[.pointer (some ⟨c, 0, none⟩), .nilIface] w2 fun e w' => ∃ vr vt, e = .returned (.tuple #[.agg #[vr, vt], .int .i64 0]) ∧ OwL w' w0.heap.size w'.heap.size vr vt G S ∧ Below w2.heap.size w2 w' := by
   intro w2 g' cap' a' b' sv' vs' G' r' hL q1 q2 q3 q4 q5 q6 q7
   have := Yr w0.heap.size w2.heap.size c g' cap' G'.length a' b' sv' vs' G' r' S w2 hL rfl q4 (by omega) q1 q2 q6 lR (by omega) (by omega)
   rw [q5] at this;exact this
  have hrb : (0 : Int) <= ((jn (gs.map grT)).length : Nat) ∧ (((jn (gs.map grT)).length : Nat) : Int) <= 8192 := by have := HV.out.1.2.2; omega
  obtain ⟨av, nv, cv, hvx⟩ : ∃ av nv cv, vx = .slice av nv cv := by
   rcases hX with ⟨e, _⟩ | ⟨_, _, _, e, _⟩ <;> exact ⟨_, _, _, e⟩
  have hnv : nv = ts.length := by
   rcases hX with ⟨e, e2⟩ | ⟨_, _, _, e, _⟩
   ·rw [hvx] at e; cases e; rw [e2]; rfl
   ·rw [hvx] at e; cases e; rfl
  subst hvx
  have hXl : ∀ ad, av = some ad -> ad.block < w.heap.size := by
   intro ad e;subst e
   rcases hX with ⟨e, _⟩ | ⟨b0, o0, c0, e, hb0, _⟩
   ·cases e
   ·simp only [Value.slice.injEq, Option.some.injEq] at e
    rw [e.1]; exact hb0
  have BWX : Below w.heap.size w w1 := B1.out;have hX1 := hX.below BWX
  -- the call, and its four ways
  have DT : (C = 0 ∧ Calls Tryz.prog 41 #[.iface 74 (.pointer (some ⟨c, 0, none⟩)), .int .i64 off, .slice av nv cv] w1 fun e w2 => e = .returned .nilIface ∧ Below w0.heap.size w1 w2 ∧ Calls Tryz.prog 44 #[.pointer (some ⟨c, 0, none⟩), .nilIface] w2 fun e w' => ∃ vr vt, e = .returned (.tuple #[.agg #[vr, vt], .int .i64 0]) ∧ OwL w' w0.heap.size w'.heap.size vr vt G S ∧ Below w2.heap.size w2 w') ∨
    False := by
   rcases HA.out with ⟨_, hof, hfu, hne, hR, eC⟩ | ⟨_, hof, hnil, eG, eS, eC⟩ | ⟨_, hof, hfu, eG, eS, eC⟩ | ⟨_, hof, eG, eS, eC⟩ | ⟨h3, _⟩
   ·refine .inl ⟨eC, ?_⟩
    obtain ⟨on, rfl⟩ : ∃ k : Nat, off = k := ⟨off.toNat, by have := hof.1; omega⟩
    rw [Int.toNat_natCast] at hR
    have hob : on <= (jn (gs.map grT)).length := by have := hof.2; omega
    have ht1 : 1 <= ts.length := by
     rcases Nat.eq_zero_or_pos ts.length with q | q
     ·exact absurd (List.eq_nil_of_length_eq_zero q) hne
     ·exact q
    have hh1 := hXc av nv cv rfl
    rcases hX1 with ⟨e, e2⟩ | ⟨b0, o0, c0, e, hb0, hcl⟩
    ·exact absurd e2 hne
    ·simp only [Value.slice.injEq] at e
     obtain ⟨rfl, rfl, rfl⟩ := e
     have hbl0 : b0 < w0.heap.size := by have := hXl _ rfl; simp only at this; omega
     refine (insTextL w0.heap.size w1.heap.size c g n n on sv vs gs _ st ts b0 o0 ts.length cv w1 HL.out rfl HN.out hn2 lR hc hcl' HV.out.2.1.1 HV.out.2.2 (by have := HV.out.2.1.2; rw [HN.out] at this; exact this) HV.out.1.2.1 hfu hob rfl ht1 hbl0 hh1.1 hh1.2 hcl).mono ?_
     rintro e w2 ⟨rfl, _, k, x, g', cap', a', b', sv', vs', G', l1, x1, hL2, ⟨q1, q2, q3⟩, hcut, hb2⟩;refine ⟨rfl, hb2, ?_⟩;obtain ⟨k', x', l1', x1', eG, eS⟩ := hR;obtain rfl := l1'.uniq l1;rw [x1] at x1';obtain rfl := Option.some.inj x1'
     have hlen : 1 <= (cutG a' b' G').length := by rw [hcut]; exact zBd _ _ _ _ _
     rw [j9 q1 q2] at hlen;rw [<- eS] at hL2
     exact FIN w2 g' cap' a' b' sv' vs' G' _ hL2 q1 q2 q3 (by omega) (by rw [hcut, eG]) hlen hb2.size
   ·exact absurd hnil hne0
   ·exact absurd (eC.symm.trans HOK.out) (by decide)
   ·exact absurd (eC.symm.trans HOK.out) (by decide)
   ·exact absurd HVV.out h3
  clear FIN HL HA hX hX1 hXc hnv hXl BWX hrb htn
  rcases DT with ⟨eC, DT⟩ | hF
  ·subst eC
   have DT2 := hide DT;clear DT;go_wp2_with fail;refine DT2.out.mono ?_;rintro e w2 ⟨rfl, hb2, AN0⟩;have AN := hide AN0;have s2 := hb2.size
   have K2 := hide (K1.out.below hb2 (by omega))
   have B2 := hide (B1.out.trans (hb2.mono (by omega)))
   clear hb2 DT2 K1 AN0;go_wp2_with fail;refine AN.out.mono ?_;rintro e w3 ⟨vr3, vt3, rfl, ho3, hb3⟩;obtain ⟨b1, d1, b2, d2, rfl, rfl⟩ := ho3.val;have s3 := hb3.size
   have K3 := hide (K2.out.below hb3 (by omega))
   have B3 := hide (B2.out.trans (hb3.mono (by omega)))
   have O3 := hide ho3;have e0 := K3.out.c.1;have e1 := K3.out.c.2;have f0 := K3.out.fz 0;have f1 := K3.out.fz 1;clear ho3 hb3 AN K2;generalize S.length = sl at *;generalize G.length = gl at *;go_wp2
   refine bodyPost_ret (v := .tuple #[.agg #[.slice b1 gl d1, .slice b2 sl d2], .int .i64 0]) (by simp [results, Tryz.results13, go_sem, e0, e1]) rfl ⟨_, _, rfl, ?_, ?_⟩
   ·refine (O3.out.frame (fun q h1 h2 => ?_)).mono (by omega) (by simp)
    rw [heap_setCell_other _ _ _ _ (by show q ≠ w.heap.size + 1; omega), heap_setCell_other _ _ _ _ (by show q ≠ w.heap.size + 1; omega)]
   ·exact (B3.out.setCell (by simp) _).setCell (by simp) _
  ·exact hF.elim
 ·rcases HA.out with ⟨h3, _⟩ | ⟨h3, _⟩ | ⟨h3, _⟩ | ⟨h3, _⟩ | ⟨_, _, _, eC⟩
  ·exact absurd h3 hv
  ·exact absurd h3 hv
  ·exact absurd h3 hv
  ·exact absurd h3 hv
  ·exact absurd (eC.symm.trans HOK.out) (by decide)
def zBe (w : World) (G : List Gr) (S : List Int) (L K C : Int) (e : Ending) (w' : World) : Prop := ∃ vr vt, e = .returned (.tuple #[.agg #[vr, vt], .int .i64 L, .int .i64 K, .int .i64 C]) ∧ OwL w' w.heap.size w'.heap.size vr vt G S ∧ Below w.heap.size w w'
def inR (gs : List Gr) (off : Int) : Prop := 0 <= off ∧ off <= (jn (gs.map grT)).length
def LcAns (gs : List Gr) (st : List Int) (off : Int) (G : List Gr) (S : List Int) (L K C : Int) : Prop :=
 (LV gs st ∧ inR gs off ∧ G = gs ∧ (∃ m, Kn (gs.map grT) st.length off.toNat m ∧ S = (stL (gs.map grT)).take m) ∧ L = lcL (jn (gs.map grT)) off.toNat ∧ K = lcC (jn (gs.map grT)) off.toNat ∧ C = 0) ∨
 (LV gs st ∧ ¬ inR gs off ∧ G = [] ∧ S = [] ∧ L = 0 ∧ K = 0 ∧ C = 2) ∨ (¬ LV gs st ∧ G = [] ∧ S = [] ∧ L = 0 ∧ K = 0 ∧ C = 1)
theorem implLc (gs : List Gr) (st : List Int) (off : Int) (vr vt : Value) (lo hi : Nat) (w : World) (G : List Gr) (S : List Int) (L K C : Int) (hA : LcAns gs st off G S L K C) (h : OwL w lo hi vr vt gs st) (hh : hi <= w.heap.size) (hs : ∀ x ∈ gs, x.cells.length <= 1048576) (hgl : gs.length <= 1048576) (hst : st.length <= 1048576) (hg : w.cell? ⟨0, 0, none⟩ = some (.iface 207 (.agg #[.pointer (some ⟨1, 68, none⟩)]))) (hOK : C = 0) :
  Calls Tryz.prog 23 #[.agg #[vr, vt], .int .i64 off] w (zBe w G S L K C) := by
 have HOK := hide hOK;clear hOK;have hlt0 : 0 < w.heap.size := World.block_lt_of_cell? w _ hg
 have A0 := hide (((Below.refl w.heap.size w).alloc lR (.cells #[vr, vt] 40)).alloc (by simp) (.cells #[.slice none 0 0, .slice none 0 0] 40))
 have K0 := hide (show D2 ((w.alloc (.cells #[vr, vt] 40)).alloc (.cells #[.slice none 0 0, .slice none 0 0] 40)) (w.heap.size + 1) (.slice none 0 0) (.slice none 0 0) 40 from (by have h9 := D2.new (w.alloc (.cells #[vr, vt] 40)) (.slice none 0 0) (.slice none 0 0) 40; rw [World.size_alloc] at h9; exact h9))
 have hs0 : ((w.alloc (.cells #[vr, vt] 40)).alloc (.cells #[.slice none 0 0, .slice none 0 0] 40)).heap.size = w.heap.size + 2 := by simp
 have RL := hide (Zz gs st vr vt lo hi _ (h.below A0.out hh) (by rw [hs0]; omega) hs hgl hst)
 have G0 := hide ((A0.out.cell (p := ⟨0, 0, none⟩) hlt0).trans hg);obtain ⟨a1, c1, a2, c2, rfl, rfl⟩ := h.val;have HA := hide hA;unfold zBe;clear h hs hg hA;generalize hn : gs.length = n at *;generalize hm : st.length = m at *;have HN := hide hn;have HM := hide hm;clear hn hm
 by_cases hv : LV gs st
 ·have RL2 := hide (RL.out.mono (fun e w' h => h.1 hv))
  unfold RLOk at RL2;have hv' := (J8 gs st).1 hv;have HV := hide hv';have HVV := hide hv;clear RL hv hv';go_enter Tryz.func23, Tryz.ntmps23;go_wp2_with fail;generalize (w.alloc (.cells #[.slice a1 n c1, .slice a2 m c2] 40)).alloc (.cells #[.slice none 0 0, .slice none 0 0] 40) = w0 at *;refine RL2.out.mono ?_;rintro e w1 ⟨c, g, sv, vs, rfl, hc, hL, hb1⟩;rw [HN.out] at hL;have hcl := hL.lt;have s1 := hb1.size
  have OF := hide (placeLN w0.heap.size w1.heap.size c g n n sv vs gs st off w1 hL HN.out (by have := HV.out.1.1; rw [HN.out] at this; exact this.2) lR hc hcl HV.out.2.1.1 HV.out.2.2 (by have := HV.out.2.1.2; rw [HN.out] at this; exact this) HV.out.1.2.1 HV.out.1.2.2)
  have K1 := hide (K0.out.below hb1 (by omega))
  have B1 := hide (A0.out.trans (hb1.mono (by omega)))
  have G1 := hide ((hb1.cell (p := ⟨0, 0, none⟩) (by show 0 < w0.heap.size; omega)).trans G0.out)
  clear hL hb1 RL2 K0
  by_cases hp : inR gs off
  ·rcases HA.out with ⟨_, _, eG, ⟨m0, hm0, eS⟩, eL, eK, eC⟩ | ⟨_, h3, _⟩ | ⟨h3, _⟩
   ·have OF2 := hide (OF.out.mono (fun e w' h => (⟨h.1 hp, h.2.2⟩ : _ ∧ Below w0.heap.size w1 w')))
    rw [<- eL, <- eK] at OF2;have ES := hide eS;have HM0 := hide hm0;clear hm0;have HGE := hide eG;subst eC;clear OF eL eK eS eG HA;go_wp2_with fail;refine OF2.out.mono ?_;rintro e w2 ⟨⟨m2, sv', rfl, hkn2, hL2⟩, hb2⟩;have em := hkn2.uniq HM0.out;subst em;rw [<- ES.out] at hL2;clear hkn2 HM0 ES;have s2 := hb2.size
    have AN := hide (zAv w0.heap.size w2.heap.size c g n sv' vs gs _ S w2 hL2 HN.out (by have := HV.out.1.1; rw [HN.out] at this; exact this.1) (by have := HV.out.1.1; rw [HN.out] at this; exact this.2) lR (by omega) (by omega))
    have K2 := hide (K1.out.below hb2 (by omega))
    have B2 := hide (B1.out.trans (hb2.mono (by omega)))
    clear hL2 hb2 OF2 K1;go_wp2_with fail;refine AN.out.mono ?_;rintro e w3 ⟨vr3, vt3, rfl, ho3, hb3⟩;obtain ⟨b1, d1, b2, d2, rfl, rfl⟩ := ho3.val;have s3 := hb3.size
    have K3 := hide (K2.out.below hb3 (by omega))
    have B3 := hide (B2.out.trans (hb3.mono (by omega)))
    rw [HN.out] at *;have O3 := hide ho3;have W4 := hide ((Below.refl w3.heap.size w3).alloc lR (.cells #[.slice b1 n d1, .slice b2 S.length d2] 40))
    have K4 := hide (K3.out.below W4.out (by omega))
    have e0 := K4.out.c.1;have e1 := K4.out.c.2;have f0 := K4.out.fz 0;have f1 := K4.out.fz 1
    have z4 : (w3.alloc (.cells #[.slice b1 n d1, .slice b2 S.length d2] 40)).heap.size = w3.heap.size + 1 := by simp
    clear ho3 hb3 AN K2 K3;generalize S.length = sl at *;go_wp2
    refine bodyPost_ret (v := .tuple #[.agg #[.slice b1 n d1, .slice b2 sl d2], .int .i64 L, .int .i64 K, .int .i64 0]) (by simp [results, Tryz.results23, go_sem, e0, e1]) rfl ⟨_, _, rfl, ?_, ?_⟩
    ·rw [HGE.out]
     refine (O3.out.frame (fun q h1 h2 => ?_)).mono (by omega) (by simp)
     rw [heap_setCell_other _ _ _ _ (by show q ≠ w.heap.size + 1; omega), heap_setCell_other _ _ _ _ (by show q ≠ w.heap.size + 1; omega)]
     exact W4.out.block q h2
    ·exact ((B3.out.trans (W4.out.mono (by omega))).setCell (by simp) _).setCell (by simp) _
   ·exact absurd hp h3
   ·exact absurd HVV.out h3
  ·rcases HA.out with ⟨_, h3, _⟩ | ⟨_, _, eG, eS, eL, eK, eC⟩ | ⟨h3, _⟩
   ·exact absurd h3 hp
   ·exact absurd (eC.symm.trans HOK.out) (by decide)
   ·exact absurd HVV.out h3
 ·rcases HA.out with ⟨h3, _⟩ | ⟨h3, _⟩ | ⟨_, _, _, _, _, eC⟩
  ·exact absurd h3 hv
  ·exact absurd h3 hv
  ·exact absurd (eC.symm.trans HOK.out) (by decide)
noncomputable def midG (k k2 : Nat) (x y : Gr) (c1 c2 : Nat) : Gr := if k = k2 then delG x c1 c2 else insG (delG x c1 (grT x).length) c1 ((grT y).drop c2)
theorem Ln.mono {L : List (List Int)} {a b k k2 : Nat} (h1 : Ln L a k) (h2 : Ln L b k2) (hab : a <= b) : k <= k2 := by
 rcases Nat.lt_or_ge k2 k with h | h
 ·have h3 := h2.2.2 (by have := h1.1; omega)
  have h4 := Zy L (show k2 + 1 <= k by omega)
  have h5 := h1.2.1;omega
 ·exact h
theorem Ji {LS : List (List Int)} {k k2 : Nat} {a b : List Int} (h : k < k2) (ha : LS[k]? = some a) (hb : LS[k2]? = some b) (hj : (jn LS).length <= 8192) : a.length + b.length <= 8192 := by
 have h1 : (LS.take k2)[k]? = some a := by rw [List.getElem?_take, if_pos h]; exact ha
 have h2 := jZ h1;have h3 := yA hb;have h4 := zm LS (k2 + 1);have hk : k2 < LS.length := (List.getElem?_eq_some_iff.1 hb).1
 have h5 := yH (ls := LS) (by intro e; rw [e] at hk; simp at hk)
 omega
theorem XE {α : Type} {xs : List α} {k : Nat} (a : α) (h : k < xs.length) : xs.set k a = xs.take k ++ [a] ++ xs.drop (k + 1) := by
 rw [List.set_eq_take_append_cons_drop, if_pos h]; simp
theorem Z7 {gs : List Gr} {k k2 : Nat} {x y : Gr} {c1 c2 : Nat} (h : k < gs.length) : yD gs k k2 x y c1 c2 = gs.take k ++ [midG k k2 x y c1 c2] ++ gs.drop (k2 + 1) := by
 unfold yD midG
 split
 ·rename_i e; subst e; exact XE _ h
 ·rw [XE _ h, List.take_append_of_le_length (by simp; omega)]
  rw [List.take_of_length_le (by simp; omega)]
def preL (A : List (List Int)) : List Int := A.flatMap (fun l => l ++ [10])
def postL (B : List (List Int)) : List Int := B.flatMap (fun l => 10 :: l)
theorem Xw (A Y : List (List Int)) (h : Y ≠ []) : jn (A ++ Y) = preL A ++ jn Y := by
 induction A with
 | nil => simp [preL]
 | cons a A ih =>
  have hne : A ++ Y ≠ [] := by simp [h]
  have e : jn (a :: (A ++ Y)) = a ++ 10 :: jn (A ++ Y) := by
   cases hA : A ++ Y with
   | nil => exact absurd hA hne
   | cons b r => rfl
  rw [List.cons_append, e, ih];simp [preL]
theorem Jj (B : List (List Int)) : ∀ (Y : List (List Int)), Y ≠ [] -> jn (Y ++ B) = jn Y ++ postL B := by
 induction B with
 | nil => intro Y _; simp [postL]
 | cons b B ih =>
  intro Y h
  have e : Y ++ b :: B = (Y ++ [b]) ++ B := by simp
  rw [e, ih (Y ++ [b]) (by simp), zBu h]
  simp [postL]
theorem preL_len (A : List (List Int)) : (preL A).length = smL A + A.length := by
 induction A with
 | nil => rfl
 | cons a A ih =>
  have e : preL (a :: A) = a ++ [10] ++ preL A := by simp [preL]
  rw [e];simp only [List.length_append, List.length_cons, List.length_nil, ih, smL];omega
theorem Jk {LS : List (List Int)} {k : Nat} {T : List Int} (h : LS[k]? = some T) : jn LS = preL (LS.take k) ++ (T ++ postL (LS.drop (k + 1))) ∧ (preL (LS.take k)).length = sAt LS k := by
 have hk : k < LS.length := (List.getElem?_eq_some_iff.1 h).1
 have e : LS = LS.take k ++ ([T] ++ LS.drop (k + 1)) := by
  have h1 := List.take_append_drop k LS
  have h2 : LS.drop k = T :: LS.drop (k + 1) := by
   rw [List.drop_eq_getElem_cons hk];have := (List.getElem?_eq_some_iff.1 h).2;rw [this]
  rw [h2] at h1;exact h1.symm
 refine ⟨?_, ?_⟩
 ·conv => lhs; rw [e]
  rw [Xw _ _ (by simp), Jj _ _ (by simp)]
  simp [jn, jt]
 ·rw [preL_len]
  unfold sAt;simp; omega
theorem lns_gl (P z : List Int) (h : 10 ∉ P) : lns (P ++ z) = (P ++ (lns z).headD []) :: (lns z).tail := by
 induction P with
 | nil => exact Zb z
 | cons c P ih =>
  have hc : c ≠ 10 := fun e => h (by simp [e])
  have hP : 10 ∉ P := fun e => h (by simp [e])
  have := ih hP;simp only [List.cons_append, lns, if_neg hc, this];simp
theorem lns_last (z t : List Int) (h : 10 ∉ t) : lns (z ++ t) = (lns z).dropLast ++ [(lns z).getLastD [] ++ t] := by
 induction z with
 | nil => simp [lns, zAc h]
 | cons c z ih =>
  by_cases hc : c = 10
  ·subst hc
   rw [List.cons_append, Ya, Ya, ih];have hne := ZR z
   cases hz : lns z with
   | nil => exact absurd hz hne
   | cons a r => simp
  ·have hne := ZR z
   simp only [List.cons_append, lns, if_neg hc, ih]
   cases hz : lns z with
   | nil => exact absurd hz hne
   | cons a r =>
    cases r with
    | nil => simp
    | cons b r => simp
theorem plG_ok {l : List Int} (h : 10 ∉ l) (hl : l.length <= 8192) : okG (plG l) := by
 refine ⟨?_, by rw [jy]; exact h⟩
 exact Xs (x := plG l) (lo := l.length) (hi := l.length) ⟨lR, lR, fun i a b => by omega, by show l.length <= 65536; omega, by show l.length - (l.length - l.length) <= 8192; omega⟩ rfl rfl
theorem plR_map (L : List (List Int)) (t : List Int) : (plR L t).map grT = L.dropLast ++ [L.getLastD [] ++ t] := by
 unfold plR;rw [List.map_append, List.map_map]
 have e : (grT ∘ plG) = id := by funext l; exact jy l
 rw [e];simp [jy]
theorem zC8 {x : Gr} {cc : Nat} {ts : List Int} (hx : okG x) (hc : cc <= (grT x).length) (hr : (grT x).length + ts.length <= 8192) : (if (lns ts).length = 1 then [insG x cc ts] else insM x cc (lns ts)).map grT = lns ((grT x).take cc ++ (ts ++ (grT x).drop cc)) := by
 have n1 : 10 ∉ (grT x).take cc := fun e => hx.2 (List.mem_of_mem_take e)
 have n2 : 10 ∉ (grT x).drop cc := fun e => hx.2 (List.mem_of_mem_drop e)
 split
 ·rename_i h1
  have nt := zC7 h1;have := (jS (x := x) (p := cc) (ts := ts) hx.1 hc hr).2;simp only [List.map_cons, List.map_nil, this];rw [zAc];intro e
  rcases List.mem_append.1 e with e | e
  ·exact n1 e
  ·rcases List.mem_append.1 e with e | e
   ·exact nt e
   ·exact n2 e
 ·rename_i h1
  obtain ⟨hd, r, hL⟩ : ∃ hd r, lns ts = hd :: r := ⟨_, _, Zb ts⟩
  have hr0 : r ≠ [] := by
   intro e;rw [e] at hL;rw [hL] at h1;exact h1 rfl
  have hdl : hd.length <= ts.length := j7 (by rw [hL]; simp)
  have d1 := yo (x := x) (a := cc) (b := (grT x).length) hx.1 hc lR
  have e1 : grT (delG x cc (grT x).length) = (grT x).take cc := by rw [d1.2]; simp
  have hl1 : (grT (delG x cc (grT x).length)).length = cc := by rw [e1]; simp; omega
  have i1 := (jS (x := delG x cc (grT x).length) (p := cc) (ts := hd) d1.1 (by omega) (by omega)).2
  unfold insM;rw [List.map_append, plR_map, hL];simp only [List.headD_cons, List.tail_cons, List.map_cons, List.map_nil, i1, e1];rw [lns_gl _ _ n1, lns_last _ _ n2, hL]
  have e2 : ((grT x).take cc).take cc = (grT x).take cc := by rw [List.take_take, Nat.min_self]
  have e3 : ((grT x).take cc).drop cc = [] := List.drop_of_length_le (by simp; omega)
  rw [e2, e3]
  cases r with
  | nil => exact absurd rfl hr0
  | cons b r => simp
theorem YX {gs : List Gr} {k off : Nat} {x : Gr} {ts : List Int} (hx : gs[k]? = some x) (hok : ∀ g ∈ gs, okG g) (l1 : Ln (gs.map grT) off k) (ho : off <= (jn (gs.map grT)).length) (hr : (jn (gs.map grT)).length + ts.length <= 8192) :
  (yE gs k x (off - sAt (gs.map grT) k) ts).map grT = (gs.map grT).take k ++ lns ((grT x).take (off - sAt (gs.map grT) k) ++ (ts ++ (grT x).drop (off - sAt (gs.map grT) k))) ++ (gs.map grT).drop (k + 1) ∧
  jn ((yE gs k x (off - sAt (gs.map grT) k) ts).map grT) = (jn (gs.map grT)).take off ++ (ts ++ (jn (gs.map grT)).drop off) := by
 have hlx : (gs.map grT)[k]? = some (grT x) := by rw [List.getElem?_map, hx]; rfl
 have q := l1.col ho hlx;have okx := hok x (List.mem_of_getElem? hx)
 have hxt : (grT x).length <= (jn (gs.map grT)).length := by
  have h8 := jZ hlx
  have h9 := yH (ls := gs.map grT) (by intro e; rw [e] at hlx; simp at hlx)
  have h7 : 1 <= (gs.map grT).length := by have := (List.getElem?_eq_some_iff.1 hlx).1; omega
  omega
 obtain ⟨cc, hcc⟩ : ∃ cc, cc = off - sAt (gs.map grT) k := ⟨_, rfl⟩;rw [<- hcc] at q |-
 have hm := zC8 (x := x) (cc := cc) (ts := ts) okx q.1 (by omega)
 have e1 : (yE gs k x cc ts).map grT = (gs.map grT).take k ++ lns ((grT x).take cc ++ (ts ++ (grT x).drop cc)) ++ (gs.map grT).drop (k + 1) := by
  unfold yE;rw [List.map_append, List.map_append, hm, List.map_take, List.map_drop]
 refine ⟨e1, ?_⟩;obtain ⟨p1, p2⟩ := Jk hlx
 rw [e1, List.append_assoc, Xw _ _ (by simp [ZR]), Jj _ _ (ZR _), Xn, p1]
 have t1 : off = (preL ((gs.map grT).take k)).length + cc := by rw [p2]; omega
 rw [t1, List.take_length_add_append, List.drop_length_add_append];rw [List.take_append_of_le_length q.1, List.drop_append_of_le_length q.1];simp only [List.append_assoc]
theorem XF {k k2 : Nat} {x y : Gr} {c1 c2 : Nat} (okx : okG x) (q1 : c1 <= (grT x).length) (q2 : c2 <= (grT y).length) (h3 : k = k2 -> x = y ∧ c1 <= c2) (h4 : k ≠ k2 -> (grT x).length + (grT y).length <= 8192) : gkP (midG k k2 x y c1 c2).cells (midG k k2 x y c1 c2).lo (midG k k2 x y c1 c2).hi ∧ grT (midG k k2 x y c1 c2) = (grT x).take c1 ++ (grT y).drop c2 := by
 unfold midG
 split
 ·rename_i e
  obtain ⟨rfl, h5⟩ := h3 e;exact yo okx.1 h5 q2
 ·rename_i e
  have d1 := yo (x := x) (a := c1) (b := (grT x).length) okx.1 q1 lR
  have e1 : grT (delG x c1 (grT x).length) = (grT x).take c1 := by rw [d1.2]; simp
  have hl1 : (grT (delG x c1 (grT x).length)).length = c1 := by rw [e1]; simp; omega
  have hxy := h4 e
  have i1 := jS (x := delG x c1 (grT x).length) (p := c1) (ts := (grT y).drop c2) d1.1 (by omega) (by rw [hl1, List.length_drop]; omega)
  refine ⟨i1.1, ?_⟩;rw [i1.2, e1]
  have e2 : ((grT x).take c1).take c1 = (grT x).take c1 := by rw [List.take_take, Nat.min_self]
  have e3 : ((grT x).take c1).drop c1 = [] := List.drop_of_length_le (by simp; omega)
  rw [e2, e3, List.append_nil]
theorem YY {gs : List Gr} {k k2 a b : Nat} {x y : Gr} (hx : gs[k]? = some x) (hy : gs[k2]? = some y) (hok : ∀ g ∈ gs, okG g) (l1 : Ln (gs.map grT) a k) (l2 : Ln (gs.map grT) b k2) (hab : a <= b) (hb : b <= (jn (gs.map grT)).length) (hr : (jn (gs.map grT)).length <= 8192) :
  (yD gs k k2 x y (a - sAt (gs.map grT) k) (b - sAt (gs.map grT) k2)).map grT = (gs.map grT).take k ++ [(grT x).take (a - sAt (gs.map grT) k) ++ (grT y).drop (b - sAt (gs.map grT) k2)] ++ (gs.map grT).drop (k2 + 1) ∧
  jn ((yD gs k k2 x y (a - sAt (gs.map grT) k) (b - sAt (gs.map grT) k2)).map grT) = (jn (gs.map grT)).take a ++ (jn (gs.map grT)).drop b := by
 have hlx : (gs.map grT)[k]? = some (grT x) := by rw [List.getElem?_map, hx]; rfl
 have hly : (gs.map grT)[k2]? = some (grT y) := by rw [List.getElem?_map, hy]; rfl
 have q1 := l1.col (by omega) hlx
 have q2 := l2.col hb hly;have hkk := l1.mono l2 hab;have okx := hok x (List.mem_of_getElem? hx);have hkn : k < gs.length := (List.getElem?_eq_some_iff.1 hx).1;obtain ⟨c1, hc1⟩ : ∃ c, c = a - sAt (gs.map grT) k := ⟨_, rfl⟩;obtain ⟨c2, hc2⟩ : ∃ c, c = b - sAt (gs.map grT) k2 := ⟨_, rfl⟩;rw [<- hc1] at q1;rw [<- hc2] at q2;rw [<- hc1, <- hc2]
 have hm := (XF (k := k) (k2 := k2) okx q1.1 q2.1 (fun e => by
  subst e;rw [hx] at hy
  exact ⟨Option.some.inj hy, by omega⟩) (fun e => Ji (show k < k2 by omega) hlx hly hr)).2
 have e1 : (yD gs k k2 x y c1 c2).map grT = (gs.map grT).take k ++ [(grT x).take c1 ++ (grT y).drop c2] ++ (gs.map grT).drop (k2 + 1) := by
  rw [Z7 hkn, List.map_append, List.map_append, List.map_take, List.map_drop];simp [hm]
 refine ⟨e1, ?_⟩;obtain ⟨p1, p2⟩ := Jk hlx;obtain ⟨r1, r2⟩ := Jk hly
 rw [e1, List.append_assoc, Xw _ _ (by simp), Jj _ _ (by simp)]
 have t1 : a = (preL ((gs.map grT).take k)).length + c1 := by rw [p2]; omega
 have t2 : b = (preL ((gs.map grT).take k2)).length + c2 := by rw [r2]; omega
 have T1 : (jn (gs.map grT)).take a = preL ((gs.map grT).take k) ++ (grT x).take c1 := by
  rw [p1, t1, List.take_length_add_append, List.take_append_of_le_length q1.1]
 have T2 : (jn (gs.map grT)).drop b = (grT y).drop c2 ++ postL ((gs.map grT).drop (k2 + 1)) := by
  rw [r1, t2, List.drop_length_add_append, List.drop_append_of_le_length q2.1]
 rw [T1, T2];simp [jn, jt]
theorem LV_of {G : List Gr} {m : Nat} (hok : ∀ g ∈ G, okG g) (hj : (jn (G.map grT)).length <= 8192) (h1 : 1 <= m) (hm : m <= G.length) : LV G ((stL (G.map grT)).take m) := by
 have hl : (G.map grT).length = G.length := List.length_map _
 have hS : ((stL (G.map grT)).take m).length = m := by rw [List.length_take, zr, hl]; omega
 have h9 := yH (ls := G.map grT) (by intro e; have := congrArg List.length e; rw [hl] at this; simp at this; rw [this] at hm; simp at hm; omega)
 refine ⟨⟨by omega, by omega, by omega, by omega⟩, hok, hj, ?_⟩
 rw [hS]
theorem zA1 {L M : List (List Int)} {k : Nat} (h : L.take k = M.take k) (h1 : k < L.length) (h2 : k < M.length) : (stL L).take (k + 1) = (stL M).take (k + 1) := by
 apply List.ext_getElem?;intro i;rw [List.getElem?_take, List.getElem?_take]
 split
 ·rename_i hi
  rw [Xd (by omega), Xd (by omega)]
  have e : L.take i = M.take i := by
   have := congrArg (List.take i) h
   rw [List.take_take, List.take_take, Nat.min_eq_left (by omega)] at this
   exact this
  rw [e]
 ·rfl
theorem plG_gk {l : List Int} (hl : l.length <= 8192) : gkP (plG l).cells (plG l).lo (plG l).hi :=
 Xs (x := plG l) (lo := l.length) (hi := l.length) ⟨lR, lR, fun i a b => by omega, by show l.length <= 65536; omega, by show l.length - (l.length - l.length) <= 8192; omega⟩ rfl rfl
theorem mid_ok {x : Gr} {cc : Nat} {ts : List Int} (hx : okG x) (hc : cc <= (grT x).length) (hr : (grT x).length + ts.length <= 8192) : ∀ g ∈ (if (lns ts).length = 1 then [insG x cc ts] else insM x cc (lns ts)), okG g := by
 have hm := zC8 (x := x) (cc := cc) (ts := ts) hx hc hr;intro g hg
 have hin : grT g ∈ lns ((grT x).take cc ++ (ts ++ (grT x).drop cc)) := by
  rw [<- hm];exact List.mem_map_of_mem hg
 have hle := j7 hin;refine ⟨?_, J6 _ _ hin⟩
 split at hg
 ·rw [List.mem_singleton] at hg
  subst hg;exact (jS (x := x) (p := cc) (ts := ts) hx.1 hc hr).1
 ·unfold insM at hg
  rcases List.mem_append.1 hg with hg | hg
  ·rw [List.mem_singleton] at hg
   subst hg;have d1 := yo (x := x) (a := cc) (b := (grT x).length) hx.1 hc lR
   have hl1 : (grT (delG x cc (grT x).length)).length = cc := by rw [d1.2]; simp; omega
   have hd : ((lns ts).headD []).length <= ts.length := by
    cases hL : lns ts with
    | nil => exact absurd hL (ZR ts)
    | cons a r => exact j7 (by rw [hL]; simp)
   exact (jS d1.1 (by omega) (by omega)).1
  ·unfold plR at hg
   have hz : ((grT x).take cc ++ (ts ++ (grT x).drop cc)).length = (grT x).length + ts.length := by simp only [List.length_append, List.length_take, List.length_drop]; omega
   rcases List.mem_append.1 hg with hg | hg
   ·obtain ⟨l, _, rfl⟩ := List.mem_map.1 hg
    rw [jy] at hle
    exact plG_gk (by omega)
   ·rw [List.mem_singleton] at hg
    subst hg;rw [jy] at hle
    exact plG_gk (by omega)
theorem zBf {gs : List Gr} {k off : Nat} {x : Gr} {ts : List Int} (hx : gs[k]? = some x) (hok : ∀ g ∈ gs, okG g) (l1 : Ln (gs.map grT) off k) (ho : off <= (jn (gs.map grT)).length) (hr : (jn (gs.map grT)).length + ts.length <= 8192) :
  LV (yE gs k x (off - sAt (gs.map grT) k) ts) ((stL (gs.map grT)).take (k + 1)) := by
 have hlx : (gs.map grT)[k]? = some (grT x) := by rw [List.getElem?_map, hx]; rfl
 have q := l1.col ho hlx;have okx := hok x (List.mem_of_getElem? hx);have hkn : k < gs.length := (List.getElem?_eq_some_iff.1 hx).1
 have hxt : (grT x).length <= (jn (gs.map grT)).length := by
  have h8 := jZ hlx
  have h9 := yH (ls := gs.map grT) (by intro e; rw [e] at hlx; simp at hlx)
  have h7 : 1 <= (gs.map grT).length := by have := (List.getElem?_eq_some_iff.1 hlx).1; omega
  omega
 obtain ⟨t1, t2⟩ := YX (ts := ts) hx hok l1 ho hr;obtain ⟨cc, hcc⟩ : ∃ cc, cc = off - sAt (gs.map grT) k := ⟨_, rfl⟩;rw [<- hcc] at q t1 t2 |-
 have hmk := mid_ok (x := x) (cc := cc) (ts := ts) okx q.1 (by omega)
 have hlen : k < (yE gs k x cc ts).length := by
  have := congrArg List.length t1;rw [List.length_map] at this;have h2 := (yg ((grT x).take cc ++ (ts ++ (grT x).drop cc))).1;simp only [List.length_append, List.length_take, List.length_map] at this;omega
 have hst : (stL (gs.map grT)).take (k + 1) = (stL ((yE gs k x cc ts).map grT)).take (k + 1) := by
  refine zA1 ?_ (by rw [List.length_map]; exact hkn) (by rw [List.length_map]; exact hlen)
  rw [t1, List.append_assoc, List.take_append_of_le_length (by simp; omega), List.take_take, Nat.min_self]
 rw [hst]
 refine LV_of (fun g hg => ?_) ?_ (by omega) (by omega)
 ·unfold yE at hg
  rcases List.mem_append.1 hg with hg | hg
  ·rcases List.mem_append.1 hg with hg | hg
   ·exact hok g (List.mem_of_mem_take hg)
   ·exact hmk g hg
  ·exact hok g (List.mem_of_mem_drop hg)
 ·rw [t2]
  simp only [List.length_append, List.length_take, List.length_drop];omega
theorem zBg {gs : List Gr} {k k2 a b : Nat} {x y : Gr} (hx : gs[k]? = some x) (hy : gs[k2]? = some y) (hok : ∀ g ∈ gs, okG g) (l1 : Ln (gs.map grT) a k) (l2 : Ln (gs.map grT) b k2) (hab : a <= b) (hb : b <= (jn (gs.map grT)).length) (hr : (jn (gs.map grT)).length <= 8192) :
  LV (yD gs k k2 x y (a - sAt (gs.map grT) k) (b - sAt (gs.map grT) k2)) ((stL (gs.map grT)).take (k + 1)) := by
 have hlx : (gs.map grT)[k]? = some (grT x) := by rw [List.getElem?_map, hx]; rfl
 have hly : (gs.map grT)[k2]? = some (grT y) := by rw [List.getElem?_map, hy]; rfl
 have q1 := l1.col (by omega) hlx
 have q2 := l2.col hb hly;have hkk := l1.mono l2 hab;have okx := hok x (List.mem_of_getElem? hx);have oky := hok y (List.mem_of_getElem? hy);have hkn : k < gs.length := (List.getElem?_eq_some_iff.1 hx).1;obtain ⟨t1, t2⟩ := YY hx hy hok l1 l2 hab hb hr;obtain ⟨c1, hc1⟩ : ∃ c, c = a - sAt (gs.map grT) k := ⟨_, rfl⟩;obtain ⟨c2, hc2⟩ : ∃ c, c = b - sAt (gs.map grT) k2 := ⟨_, rfl⟩;rw [<- hc1] at q1;rw [<- hc2] at q2;rw [<- hc1, <- hc2] at t1 t2 |-
 have hgm := XF (k := k) (k2 := k2) okx q1.1 q2.1 (fun e => by
  subst e;rw [hx] at hy
  exact ⟨Option.some.inj hy, by omega⟩) (fun e => Ji (show k < k2 by omega) hlx hly hr)
 have hgk := hgm.1;have hmt := hgm.2
 have hlen : (yD gs k k2 x y c1 c2).length = k + 1 + (gs.length - (k2 + 1)) := by
  rw [Z7 hkn];simp; omega
 have hst : (stL (gs.map grT)).take (k + 1) = (stL ((yD gs k k2 x y c1 c2).map grT)).take (k + 1) := by
  refine zA1 ?_ (by rw [List.length_map]; exact hkn) (by rw [List.length_map, hlen]; omega)
  rw [t1, List.append_assoc, List.take_append_of_le_length (by simp; omega), List.take_take, Nat.min_self]
 rw [hst]
 refine LV_of (fun g hg => ?_) ?_ (by omega) (by omega)
 ·rw [Z7 hkn] at hg
  rcases List.mem_append.1 hg with hg | hg
  ·rcases List.mem_append.1 hg with hg | hg
   ·exact hok g (List.mem_of_mem_take hg)
   ·rw [List.mem_singleton] at hg
    subst hg;refine ⟨hgk, ?_⟩;rw [hmt];intro e
    rcases List.mem_append.1 e with e | e
    ·exact okx.2 (List.mem_of_mem_take e)
    ·exact oky.2 (List.mem_of_mem_drop e)
  ·exact hok g (List.mem_of_mem_drop hg)
 ·rw [t2]
  simp only [List.length_append, List.length_take, List.length_drop];omega
end Go.Proofs.YtbgngikejgihgafGreatDoor
