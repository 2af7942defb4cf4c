import Derived.Test.YtbgngikejgihgagGreatDoorMq09
import Derived.Test.YtbgngikejgihgagGreatDoorMq39
import Derived.Test.YtbgngikejgihgagGreatDoorMq44
import Derived.Test.YtbgngikejgihgagGreatDoorProg
import Derived.Test.YtbgngikejgihgagGreatDoorMq01
import Derived.WalkKit
import Derived.WalkLawsBesides
namespace Go.Proofs.YtbgngikejgihgagGreatDoor
open Go Go.RowKit
set_option linter.unusedVariables false

set_option maxHeartbeats 2000000 in
set_option maxRecDepth 100000 in
theorem specLj (gs : List Gr) (st : List Int) (off : Int) (ts : List Int) (vx : Value) (vr vt : Value) (lo hi : Nat) (w : World) (G : List Gr) (S : List Int) (C : Int) (hA : LjAns gs st off ts G S C) (h : OwL w lo hi vr vt gs st) (hh : hi ≤ w.heap.size) (hs : ∀ x ∈ gs, x.cells.length ≤ 1048576) (hgl : gs.length ≤ 1048576) (hst : st.length ≤ 1048576) (hX : Sl .i32 w vx ts) (hXc : ∀ ad n c, vx = .slice ad n c → n ≤ c ∧ c ≤ maxLen) (htn : ts.length ≤ 1048576) (hB : (∀ x ∈ gs, gkP x.cells x.lo x.hi) → smL (gs.map grT) + gs.length ≤ 4194304) :
    Calls Tryz.prog 16 #[.agg #[vr, vt], .int .i64 off, vx] w (LdPost w G S C) := by
  have A0 := hide (((Below.refl w.heap.size w).alloc (Nat.le_refl _) (.cells #[vr, vt] 29)).alloc (by simp) (.cells #[.slice none 0 0, .slice none 0 0] 29))
  have KP := hide ((D2.new w vr vt 29).below ((Below.refl _ _).alloc (Nat.le_refl _) (.cells #[.slice none 0 0, .slice none 0 0] 29)) (by simp))
  have KR := hide (D2.new (w.alloc (.cells #[vr, vt] 29)) (.slice none 0 0) (.slice none 0 0) 29)
  have es : (w.alloc (.cells #[vr, vt] 29)).heap.size = w.heap.size + 1 := by simp
  rw [es] at KR
  have hs0 : ((w.alloc (.cells #[vr, vt] 29)).alloc (.cells #[.slice none 0 0, .slice none 0 0] 29)).heap.size = w.heap.size + 2 := by simp
  have VA := hide (fun (W : World) (hW : Below w.heap.size w W) (b : Bool) (hb : b = true ↔ LV gs st) => validC gs st vr vt lo hi b W hb (h.below hW hh) (by have := hW.size; omega) hgl hst hs hB)
  have TX := hide (fun (W : World) (hW : Below w.heap.size w W) (hv : LV gs st) => lineTextS gs st vr vt lo hi W (h.below hW hh) (by have := hW.size; omega) hv.1.2.1 hv.1.1 (fun x hx => (hv.2.1 x hx).1) (hB (fun x hx => (hv.2.1 x hx).1)))
  obtain ⟨av, nv, cv, hvx⟩ : ∃ av nv cv, vx = .slice av nv cv := by
    rcases hX with ⟨e, _⟩ | ⟨_, _, _, e, _⟩ <;> exact ⟨_, _, _, e⟩
  have hnv : nv = ts.length := by
    rcases hX with ⟨e, e2⟩ | ⟨_, _, _, e, _⟩
    · rw [hvx] at e; cases e; rw [e2]; rfl
    · rw [hvx] at e; cases e; rfl
  subst hvx
  have CALL := hide (fun (W : World) (hW : Below w.heap.size w W) (hv : LV gs st) (hp : offR gs off) (hf : ts = [] ∨ (jn (gs.map grT)).length + ts.length ≤ 8192) => (show C = 0 ∧ Calls Tryz.prog 63 #[.agg #[vr, vt], .int .i64 off, .slice av nv cv] W fun e w' => ∃ vr' vt', e = .returned (.agg #[vr', vt']) ∧ OwL w' W.heap.size w'.heap.size vr' vt' G S ∧ Below W.heap.size W w' from by
    have hO := h.below hW hh
    have hhW : hi ≤ W.heap.size := by have := hW.size; omega
    rcases hA with ⟨_, _, hfu, hne, ⟨k, x, l1, hx, eG, eS⟩, eC⟩ | ⟨_, _, hnil, eG, eS, eC⟩ | ⟨_, _, hfu, _⟩ | ⟨_, h3, _⟩ | ⟨h3, _⟩
    · refine ⟨eC, ?_⟩
      obtain ⟨on, rfl⟩ : ∃ k : Nat, off = k := ⟨off.toNat, by have := hp.1; omega⟩
      rw [Int.toNat_natCast] at l1 eG
      have hbb : on ≤ (jn (gs.map grT)).length := by have := hp.2; omega
      have ht1 : 1 ≤ ts.length := by
        rcases Nat.eq_zero_or_pos ts.length with q | q
        · exact absurd (List.eq_nil_of_length_eq_zero q) hne
        · exact q
      have hh1 := hXc av nv cv rfl
      rcases hX with ⟨e, e2⟩ | ⟨b0, o0, c0, e, hb0, hcl⟩
      · exact absurd e2 hne
      · simp only [Value.slice.injEq] at e
        obtain ⟨rfl, rfl, rfl⟩ := e
        have := lineInsS gs st on k x ts b0 o0 ts.length cv vr vt lo hi W hO hhW hv.1.2.1 hv.1.1 (fun x hx => (hv.2.1 x hx).1) (hB (fun x hx => (hv.2.1 x hx).1)) hs hv.1.2.2.1 hv.1.2.2.2 hfu hbb l1 hx rfl ht1 (by have := hW.size; omega) hh1.1 hh1.2 (fun i hi => (hW.cell (p := ⟨b0, o0 + i, none⟩) hb0).trans (hcl i hi))
        rw [eG, eS]
        unfold insRows
        unfold midI at this
        exact this
    · refine ⟨eC, ?_⟩
      rw [eG, eS]
      have hn0 : nv = 0 := by rw [hnv, hnil]; rfl
      subst hn0
      exact insNilS gs st off av cv vr vt lo hi W hO hhW hv.1.2.1 hv.1.1 hs hv.1.2.2.1 (by have := hv.1.2.2.2; have := hv.1.2.1; omega)
    · rcases hf with hf | hf
      · exact absurd hf hfu.1
      · exact absurd hf hfu.2
    · exact absurd hp h3
    · exact absurd hv h3))
  obtain ⟨a1, c1, a2, c2, rfl, rfl⟩ := h.val
  have HA := hide hA
  unfold LdPost
  have HNV := hide hnv
  clear h hs hA hB es hX hXc hnv
  generalize hn : gs.length = n at *
  generalize hm : st.length = m at *
  have HN := hide hn
  have HM := hide hm
  clear hn hm
  by_cases hv : LV gs st
  · have V0 := hide (VA.out _ A0.out true (by simp [hv]))
    have TX0 := hide (fun W hW => TX.out W hW hv)
    have hJ := hv.2.2.1
    have HV := hide hv
    clear VA TX
    have hnvb : nv ≤ 1048576 := by rw [HNV.out]; exact htn
    by_cases hp : offR gs off
    · have hk0 : ¬ off < 0 := by have := hp.1; omega
      have hk1 : ¬ off > ((jn (gs.map grT)).length : Nat) := by have := hp.2; omega
      by_cases hnil : ts = []
      · have CL := hide (fun W hW => (CALL.out W hW hv hp (.inl hnil)).2)
        have eC := (CALL.out _ A0.out hv hp (.inl hnil)).1
        subst eC
        have hn0 : nv = 0 := by rw [HNV.out, hnil]; rfl
        subst hn0
        clear CALL HA hv hp HNV hnil
        generalize hJJ : jn (gs.map grT) = JJ at *
        generalize hjl : JJ.length = jl at *
        have HJL := hide hjl
        clear hJJ hjl
        go_enter Tryz.func16, Tryz.ntmps16
        go_wp2_with fail
        generalize (w.alloc (.cells #[.slice a1 n c1, .slice a2 m c2] 29)).alloc (.cells #[.slice none 0 0, .slice none 0 0] 29) = w0 at *
        refine V0.out.mono ?_
        rintro e w1 ⟨rfl, hb1⟩
        have s1 := hb1.size
        have P1 := hide (KP.out.below hb1 (by omega))
        have R1 := hide (KR.out.below hb1 (by omega))
        have B1 := hide (A0.out.trans (hb1.mono (by omega)))
        have p0 := P1.out.c.1
        have p1 := P1.out.c.2
        clear hb1 V0 KP KR
        go_wp2_with fail
        refine (TX0.out _ B1.out).mono ?_
        rintro e w2 ⟨v2, rfl, ho2, hb2⟩
        have s2 := hb2.size
        have P2 := hide (P1.out.below hb2 (by omega))
        have R2 := hide (R1.out.below hb2 (by omega))
        have B2 := hide (B1.out.trans (hb2.mono (by omega)))
        obtain ⟨av2, cv2, hv2⟩ := o32_val ho2
        rw [HJL.out] at hv2
        subst hv2
        have pp0 := P2.out.c.1
        have pp1 := P2.out.c.2
        clear ho2 hb2 P1 R1 TX0 p0 p1
        go_wp2_with fail
        refine (CL.out _ B2.out).mono ?_
        rintro e w3 ⟨vr3, vt3, rfl, ho3, hb3⟩
        obtain ⟨b1, d1, b2, d2, rfl, rfl⟩ := ho3.val
        generalize hgl' : G.length = gl at *
        generalize hsl' : S.length = sl at *
        have s3 := hb3.size
        have R3 := hide (R2.out.below hb3 (by omega))
        have B3 := hide (B2.out.trans (hb3.mono (by omega)))
        have O3 := hide ho3
        have e0 := R3.out.c.1
        have e1 := R3.out.c.2
        have f0 := R3.out.fz 0
        have f1 := R3.out.fz 1
        clear ho3 hb3 R2 hgl' hsl'
        go_wp2
        refine bodyPost_ret (v := .tuple #[.agg #[.slice b1 gl d1, .slice b2 sl d2], .int .i64 0]) (by simp [results, Tryz.results16, go_sem, e0, e1]) rfl ⟨_, _, rfl, ?_, ?_⟩
        · refine (O3.out.frame (fun q h1 h2 => ?_)).mono (by omega) (by simp)
          rw [heap_setCell_other _ _ _ _ (by show q ≠ w.heap.size + 1; omega), heap_setCell_other _ _ _ _ (by show q ≠ w.heap.size + 1; omega)]
        · exact (B3.out.setCell (by simp) _).setCell (by simp) _
      · have hn1 : (0 : Int) < (nv : Int) := by
          have := HNV.out
          rcases Nat.eq_zero_or_pos ts.length with q | q
          · exact absurd (List.eq_nil_of_length_eq_zero q) hnil
          · omega
        have hn1' : (nv : Int) > 0 := hn1
        by_cases hfu : (jn (gs.map grT)).length + ts.length ≤ 8192
        · have CL := hide (fun W hW => (CALL.out W hW hv hp (.inr hfu)).2)
          have eC := (CALL.out _ A0.out hv hp (.inr hfu)).1
          subst eC
          have hle : ¬ ((((jn (gs.map grT)).length : Nat) : Int) + (nv : Int)) > 8192 := by have := HNV.out; omega
          have wad : IntKind.i64.wrap ((((jn (gs.map grT)).length : Nat) : Int) + (nv : Int)) = ((((jn (gs.map grT)).length : Nat) : Int) + (nv : Int)) := i64wS _ (by omega) (by omega)
          clear CALL HA hv hp HNV hnil hfu
          generalize hJJ : jn (gs.map grT) = JJ at *
          generalize hjl : JJ.length = jl at *
          have HJL := hide hjl
          clear hJJ hjl
          go_enter Tryz.func16, Tryz.ntmps16
          go_wp2_with fail
          generalize (w.alloc (.cells #[.slice a1 n c1, .slice a2 m c2] 29)).alloc (.cells #[.slice none 0 0, .slice none 0 0] 29) = w0 at *
          refine V0.out.mono ?_
          rintro e w1 ⟨rfl, hb1⟩
          have s1 := hb1.size
          have P1 := hide (KP.out.below hb1 (by omega))
          have R1 := hide (KR.out.below hb1 (by omega))
          have B1 := hide (A0.out.trans (hb1.mono (by omega)))
          have p0 := P1.out.c.1
          have p1 := P1.out.c.2
          clear hb1 V0 KP KR
          go_wp2_with fail
          refine (TX0.out _ B1.out).mono ?_
          rintro e w2 ⟨v2, rfl, ho2, hb2⟩
          have s2 := hb2.size
          have P2 := hide (P1.out.below hb2 (by omega))
          have R2 := hide (R1.out.below hb2 (by omega))
          have B2 := hide (B1.out.trans (hb2.mono (by omega)))
          obtain ⟨av2, cv2, hv2⟩ := o32_val ho2
          rw [HJL.out] at hv2
          subst hv2
          have pp0 := P2.out.c.1
          have pp1 := P2.out.c.2
          clear ho2 hb2 P1 R1 TX0 p0 p1
          go_wp2_with fail
          refine (CL.out _ B2.out).mono ?_
          rintro e w3 ⟨vr3, vt3, rfl, ho3, hb3⟩
          obtain ⟨b1, d1, b2, d2, rfl, rfl⟩ := ho3.val
          generalize hgl' : G.length = gl at *
          generalize hsl' : S.length = sl at *
          have s3 := hb3.size
          have R3 := hide (R2.out.below hb3 (by omega))
          have B3 := hide (B2.out.trans (hb3.mono (by omega)))
          have O3 := hide ho3
          have e0 := R3.out.c.1
          have e1 := R3.out.c.2
          have f0 := R3.out.fz 0
          have f1 := R3.out.fz 1
          clear ho3 hb3 R2 hgl' hsl'
          go_wp2
          refine bodyPost_ret (v := .tuple #[.agg #[.slice b1 gl d1, .slice b2 sl d2], .int .i64 0]) (by simp [results, Tryz.results16, go_sem, e0, e1]) rfl ⟨_, _, rfl, ?_, ?_⟩
          · refine (O3.out.frame (fun q h1 h2 => ?_)).mono (by omega) (by simp)
            rw [heap_setCell_other _ _ _ _ (by show q ≠ w.heap.size + 1; omega), heap_setCell_other _ _ _ _ (by show q ≠ w.heap.size + 1; omega)]
          · exact (B3.out.setCell (by simp) _).setCell (by simp) _
        · rcases HA.out with ⟨_, _, h3, _⟩ | ⟨_, _, h3, _⟩ | ⟨_, _, _, eG, eS, eC⟩ | ⟨_, h3, _⟩ | ⟨h3, _⟩
          · exact absurd h3 hfu
          · exact absurd h3 hnil
          · subst eG eS eC
            have hle : ((((jn (gs.map grT)).length : Nat) : Int) + (nv : Int)) > 8192 := by have := HNV.out; omega
            have wad : IntKind.i64.wrap ((((jn (gs.map grT)).length : Nat) : Int) + (nv : Int)) = ((((jn (gs.map grT)).length : Nat) : Int) + (nv : Int)) := i64wS _ (by omega) (by omega)
            clear CALL HA hv hp HNV hnil hfu
            generalize hJJ : jn (gs.map grT) = JJ at *
            generalize hjl : JJ.length = jl at *
            have HJL := hide hjl
            clear hJJ hjl
            go_enter Tryz.func16, Tryz.ntmps16
            go_wp2_with fail
            generalize (w.alloc (.cells #[.slice a1 n c1, .slice a2 m c2] 29)).alloc (.cells #[.slice none 0 0, .slice none 0 0] 29) = w0 at *
            refine V0.out.mono ?_
            rintro e w1 ⟨rfl, hb1⟩
            have s1 := hb1.size
            have P1 := hide (KP.out.below hb1 (by omega))
            have R1 := hide (KR.out.below hb1 (by omega))
            have B1 := hide (A0.out.trans (hb1.mono (by omega)))
            have p0 := P1.out.c.1
            have p1 := P1.out.c.2
            clear hb1 V0 KP KR
            go_wp2_with fail
            refine (TX0.out _ B1.out).mono ?_
            rintro e w2 ⟨v2, rfl, ho2, hb2⟩
            have s2 := hb2.size
            have P2 := hide (P1.out.below hb2 (by omega))
            have R2 := hide (R1.out.below hb2 (by omega))
            have B2 := hide (B1.out.trans (hb2.mono (by omega)))
            obtain ⟨av2, cv2, hv2⟩ := o32_val ho2
            rw [HJL.out] at hv2
            subst hv2
            have pp0 := P2.out.c.1
            have pp1 := P2.out.c.2
            clear ho2 hb2 P1 R1 TX0 p0 p1
            have e0 := R2.out.c.1
            have e1 := R2.out.c.2
            have f0 := R2.out.fz 0
            have f1 := R2.out.fz 1
            go_wp2
            refine bodyPost_ret (v := .tuple #[.agg #[.slice none 0 0, .slice none 0 0], .int .i64 10]) (by simp [results, Tryz.results16, go_sem, e0, e1]) rfl ⟨_, _, rfl, OwL.nil _ _ _, ?_⟩
            exact (B2.out.setCell (by simp) _).setCell (by simp) _
          · exact absurd hp h3
          · exact absurd HV.out h3
    · rcases HA.out with ⟨_, h3, _⟩ | ⟨_, h3, _⟩ | ⟨_, h3, _⟩ | ⟨_, _, eG, eS, eC⟩ | ⟨h3, _⟩
      · exact absurd h3 hp
      · exact absurd h3 hp
      · exact absurd h3 hp
      · subst eG eS eC
        have hnk : ¬ (0 ≤ off ∧ off ≤ ((jn (gs.map grT)).length : Nat)) := hp
        clear CALL HA hv hp HNV
        generalize hJJ : jn (gs.map grT) = JJ at *
        generalize hjl : JJ.length = jl at *
        have HJL := hide hjl
        clear hJJ hjl
        have hcs : off < 0 ∨ (¬ off < 0 ∧ off > (jl : Int)) := by omega
        clear hnk
        rcases hcs with hk0 | ⟨hk0, hk1⟩
        all_goals
          go_enter Tryz.func16, Tryz.ntmps16
          go_wp2_with fail
          generalize (w.alloc (.cells #[.slice a1 n c1, .slice a2 m c2] 29)).alloc (.cells #[.slice none 0 0, .slice none 0 0] 29) = w0 at *
          refine V0.out.mono ?_
          rintro e w1 ⟨rfl, hb1⟩
          have s1 := hb1.size
          have P1 := hide (KP.out.below hb1 (by omega))
          have R1 := hide (KR.out.below hb1 (by omega))
          have B1 := hide (A0.out.trans (hb1.mono (by omega)))
          have p0 := P1.out.c.1
          have p1 := P1.out.c.2
          clear hb1 V0 KP KR
          go_wp2_with fail
          refine (TX0.out _ B1.out).mono ?_
          rintro e w2 ⟨v2, rfl, ho2, hb2⟩
          have s2 := hb2.size
          have P2 := hide (P1.out.below hb2 (by omega))
          have R2 := hide (R1.out.below hb2 (by omega))
          have B2 := hide (B1.out.trans (hb2.mono (by omega)))
          obtain ⟨av2, cv2, hv2⟩ := o32_val ho2
          rw [HJL.out] at hv2
          subst hv2
          have pp0 := P2.out.c.1
          have pp1 := P2.out.c.2
          clear ho2 hb2 P1 R1 TX0 p0 p1
          have e0 := R2.out.c.1
          have e1 := R2.out.c.2
          have f0 := R2.out.fz 0
          have f1 := R2.out.fz 1
          go_wp2
          refine bodyPost_ret (v := .tuple #[.agg #[.slice none 0 0, .slice none 0 0], .int .i64 2]) (by simp [results, Tryz.results16, go_sem, e0, e1]) rfl ⟨_, _, rfl, OwL.nil _ _ _, ?_⟩
          exact (B2.out.setCell (by simp) _).setCell (by simp) _
      · exact absurd HV.out h3
  · rcases HA.out with ⟨h3, _⟩ | ⟨h3, _⟩ | ⟨h3, _⟩ | ⟨h3, _⟩ | ⟨_, eG, eS, eC⟩
    · exact absurd h3 hv
    · exact absurd h3 hv
    · exact absurd h3 hv
    · exact absurd h3 hv
    subst eG eS eC
    have V0 := hide (VA.out _ A0.out false (by simp [hv]))
    clear VA TX CALL HA hv
    go_enter Tryz.func16, Tryz.ntmps16
    go_wp2_with fail
    generalize (w.alloc (.cells #[.slice a1 n c1, .slice a2 m c2] 29)).alloc (.cells #[.slice none 0 0, .slice none 0 0] 29) = w0 at *
    refine V0.out.mono ?_
    rintro e w1 ⟨rfl, hb1⟩
    have s1 := hb1.size
    have R1 := hide (KR.out.below hb1 (by omega))
    have B1 := hide (A0.out.trans (hb1.mono (by omega)))
    have e0 := R1.out.c.1
    have e1 := R1.out.c.2
    have f0 := R1.out.fz 0
    have f1 := R1.out.fz 1
    clear hb1 V0 KP KR
    go_wp2
    refine bodyPost_ret (v := .tuple #[.agg #[.slice none 0 0, .slice none 0 0], .int .i64 1]) (by simp [results, Tryz.results16, go_sem, e0, e1]) rfl ⟨_, _, rfl, OwL.nil _ _ _, ?_⟩
    exact (B1.out.setCell (by simp) _).setCell (by simp) _
end Go.Proofs.YtbgngikejgihgagGreatDoor

namespace Go.Proofs.YtbgngikejgihgagGreatDoor
open Go Go.RowKit

theorem Tryz.info32 : (Tryz.prog.info? 21).map (fun i => (i.zero, i.size, i.bytes)) = some (some (.int .i32 0), 1, 4) := by kernel_rfl

set_option maxHeartbeats 400000 in
theorem to32 (zs : List Int) (v : Value) (w : World) (h : Rd .i32 w v zs) (hn : zs.length ≤ 1099511627776) :
    Calls Tryz.prog 17 #[v] w fun e w' => e = .returned (.slice (some ⟨w.heap.size, 0, none⟩) zs.length zs.length) ∧
      w'.ownsRow w.heap.size 21 1 (.slice (some ⟨w.heap.size, 0, none⟩) zs.length zs.length) zs.length (ints .i32 zs) ∧ Below w.heap.size w w' := by
  obtain ⟨i0, hi, hz0, hz1, hz2⟩ := info_parts Tryz.info32
  rcases h with ⟨ao, cap, rfl, rfl⟩ | ⟨b, off, cap, rfl, hp, hc⟩
  · go_enter Tryz.func17, Tryz.ntmps17
    go_wp2_with (at_make; refine wpList_make_full _ rfl _ _ 36 rfl w.heap.size 21 i0 (.int .i32 0) 1 Tryz.underlying36 hi hz0 hz1 .i64 .i64 _ _ 0 rfl rfl (by omega) (by omega) (by rw [hz2]; omega) (by unfold maxLen; omega) (Nat.le_refl _) ?_; intro w1 hown hgrow)
    rw [made_ints] at hown
    refine wp_loop_rounds 1 ?_
    rw [rounds_succ]
    go_wp2
    go_ret
    exact ⟨rfl, hown, (Below.refl _ _).grown hgrow (Nat.le_refl _) (fun k hk => by cases hk)⟩
  · have hcB : b < w.heap.size := World.block_lt_of_cell? w _ (hc 0 hp.1)
    go_enter Tryz.func17, Tryz.ntmps17
    go_wp2_with (at_make; refine wpList_make_full _ rfl _ _ 36 rfl w.heap.size 21 i0 (.int .i32 0) 1 Tryz.underlying36 hi hz0 hz1 .i64 .i64 _ _ zs.length rfl rfl (by omega) (by omega) (by rw [hz2]; omega) (by unfold maxLen; omega) (Nat.le_refl _) ?_; intro w1 hown hgrow)
    rw [made_ints] at hown
    have hb1 : Below w.heap.size w w1 := (Below.refl _ _).grown hgrow (Nat.le_refl _) (fun k hk => by cases hk)
    have HO : Hid (w1.ownsRow w.heap.size 21 1 (.slice (some ⟨w.heap.size, 0, none⟩) zs.length zs.length) zs.length (ints .i32 (List.replicate zs.length 0))) := hown
    have HC : Hid (∀ i, i < zs.length → w.cell? ⟨b, off + i, none⟩ = some (.int .i32 (zs.getD i 0))) := hc
    clear hown hgrow hc
    go_loopw [4] (fun i wr => ∃ k : Nat, k ≤ zs.length ∧ i = .int .i64 k ∧ wr.ownsRow w.heap.size 21 1 (.slice (some ⟨w.heap.size, 0, none⟩) zs.length zs.length) zs.length (ints .i32 (zs.take k ++ List.replicate (zs.length - k) 0)) ∧ Below w.heap.size w wr)
      (fun i _ => zs.length - (intOf i).toNat)
    case atStart => exact ⟨0, Nat.zero_le _, rfl, by simpa using HO.out, hb1⟩
    case round =>
      obtain ⟨k, hk, rfl, hown, hb⟩ := hrel
      by_cases hlt : k < zs.length
      · have hx : wr.cell? ⟨b, off + k, none⟩ = some (.int .i32 (zs.getD k 0)) := (hb.cell (p := ⟨b, off + k, none⟩) hcB).trans (HC.out k hlt)
        have hy : wr.cell? ⟨w.heap.size, k, none⟩ = some (.int .i32 ((zs.take k ++ List.replicate (zs.length - k) 0).getD k 0)) := by
          exact owns_cell hown k hlt
        have hf : wr.frozen? ⟨w.heap.size, k, none⟩ = false := hown.frozenAt k
        have hst := hown.stored k (.int .i32 (zs.getD k 0))
        rw [ints_set, getD_take_append hlt] at hst
        generalize zs.getD k 0 = z at hx hst
        generalize (zs.take k ++ List.replicate (zs.length - k) 0).getD k 0 = z' at hy
        have HS := hide hst
        have HB := hide hb
        clear hst hb hown
        go_wp2
        go_roundw
        case rel => exact ⟨k + 1, by omega, by go_num, HS.out.1, HB.out.setCell (Nat.le_refl _) _⟩
        case measure => simp [intOf]; omega
      · obtain rfl : k = zs.length := by omega
        rw [List.take_length, Nat.sub_self, List.replicate_zero, List.append_nil] at hown
        have HO2 := hide hown
        have HB := hide hb
        clear hb hown
        go_wp2
        go_ret
        exact ⟨rfl, HO2.out, HB.out⟩
end Go.Proofs.YtbgngikejgihgagGreatDoor
