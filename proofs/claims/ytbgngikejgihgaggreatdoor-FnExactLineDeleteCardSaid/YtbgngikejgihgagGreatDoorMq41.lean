import Derived.Test.YtbgngikejgihgagGreatDoorMq09
import Derived.Test.YtbgngikejgihgagGreatDoorMq25
import Derived.Test.YtbgngikejgihgagGreatDoorMq24
import Derived.Test.YtbgngikejgihgagGreatDoorMq40
import Derived.Test.YtbgngikejgihgagGreatDoorProg
import Derived.Test.YtbgngikejgihgagGreatDoorMq01
import Derived.WalkKit
import Derived.WalkLawsBesides
import Derived.Test.YtbgngikejgihgagGreatDoorMq06
namespace Go.Proofs.YtbgngikejgihgagGreatDoor
open Go Go.RowKit
set_option linter.unusedVariables false

theorem set_parts {α : Type} {xs : List α} {k : Nat} (a : α) (h : k < xs.length) : xs.set k a = xs.take k ++ [a] ++ xs.drop (k + 1) := by
  rw [List.set_eq_take_append_cons_drop, if_pos h]; simp
theorem remRows_mid {gs : List Gr} {k k2 : Nat} {x y : Gr} {c1 c2 : Nat} (h : k < gs.length) : remRows gs k k2 x y c1 c2 = gs.take k ++ [midG k k2 x y c1 c2] ++ gs.drop (k2 + 1) := by
  unfold remRows midG
  split
  · rename_i e; subst e; exact set_parts _ h
  · rw [set_parts _ h, List.take_append_of_le_length (by simp; omega)]
    rw [List.take_of_length_le (by simp; omega)]

set_option maxHeartbeats 2000000 in
set_option maxRecDepth 100000 in
theorem specLd (gs : List Gr) (st : List Int) (a b : Int) (vr vt : Value) (lo hi : Nat) (w : World) (G : List Gr) (S : List Int) (C : Int) (hA : LdAns gs st a b G S C) (h : OwL w lo hi vr vt gs st) (hh : hi ≤ w.heap.size) (hs : ∀ x ∈ gs, x.cells.length ≤ 1048576) (hgl : gs.length ≤ 1048576) (hst : st.length ≤ 1048576) (hB : (∀ x ∈ gs, gkP x.cells x.lo x.hi) → smL (gs.map grT) + gs.length ≤ 4194304) :
    Calls Tryz.prog 10 #[.agg #[vr, vt], .int .i64 a, .int .i64 b] w (LdPost w G S C) := by
  have A0 := hide (((Below.refl w.heap.size w).alloc (Nat.le_refl _) (.cells #[vr, vt] 29)).alloc (by simp) (.cells #[.slice none 0 0, .slice none 0 0] 29))
  have KP := hide ((D2.new w vr vt 29).below ((Below.refl _ _).alloc (Nat.le_refl _) (.cells #[.slice none 0 0, .slice none 0 0] 29)) (by simp))
  have KR := hide (D2.new (w.alloc (.cells #[vr, vt] 29)) (.slice none 0 0) (.slice none 0 0) 29)
  have es : (w.alloc (.cells #[vr, vt] 29)).heap.size = w.heap.size + 1 := by simp
  rw [es] at KR
  have hs0 : ((w.alloc (.cells #[vr, vt] 29)).alloc (.cells #[.slice none 0 0, .slice none 0 0] 29)).heap.size = w.heap.size + 2 := by simp
  have VA := hide (fun (W : World) (hW : Below w.heap.size w W) (b : Bool) (hb : b = true ↔ LV gs st) => validC gs st vr vt lo hi b W hb (h.below hW hh) (by have := hW.size; omega) hgl hst hs hB)
  have TX := hide (fun (W : World) (hW : Below w.heap.size w W) (hv : LV gs st) => lineTextS gs st vr vt lo hi W (h.below hW hh) (by have := hW.size; omega) hv.1.2.1 hv.1.1 (fun x hx => (hv.2.1 x hx).1) (hB (fun x hx => (hv.2.1 x hx).1)))
  have CALL := hide (fun (W : World) (hW : Below w.heap.size w W) (hv : LV gs st) (hp : inRR gs a b) => (show C = 0 ∧ Calls Tryz.prog 51 #[.agg #[vr, vt], .int .i64 a, .int .i64 b] W fun e w' => ∃ vr' vt', e = .returned (.agg #[vr', vt']) ∧ OwL w' W.heap.size w'.heap.size vr' vt' G S ∧ Below W.heap.size W w' from by
    have hO := h.below hW hh
    have hhW : hi ≤ W.heap.size := by have := hW.size; omega
    rcases hA with ⟨_, _, hab, ⟨k, k2, x, y, l1, l2, hx, hy, eG, eS⟩, eC⟩ | ⟨_, _, hab, eG, eS, eC⟩ | ⟨_, h3, _⟩ | ⟨h3, _⟩
    · refine ⟨eC, ?_⟩
      obtain ⟨an, rfl⟩ : ∃ k : Nat, a = k := ⟨a.toNat, by have := hp.1; omega⟩
      obtain ⟨bn, rfl⟩ : ∃ k : Nat, b = k := ⟨b.toNat, by have := hp.2.1; omega⟩
      rw [Int.toNat_natCast] at l1 l2 eG
      rw [Int.toNat_natCast] at eG
      have hbb : bn ≤ (jn (gs.map grT)).length := by have := hp.2.2; omega
      rw [eG, eS, remRows_mid (List.getElem?_eq_some_iff.1 hx).1]
      exact lineDelS gs st an bn k k2 x y vr vt lo hi W hO hhW hv.1.2.1 hv.1.1 (fun x hx => (hv.2.1 x hx).1) (hB (fun x hx => (hv.2.1 x hx).1)) hs hv.1.2.2.1 hv.1.2.2.2 hv.2.2.1 (by omega) hbb l1 l2 hx hy
    · refine ⟨eC, ?_⟩
      subst hab
      rw [eG, eS]
      exact delNilS gs st a vr vt lo hi W hO hhW hv.1.2.1 hv.1.1 hs hv.1.2.2.1 (by have := hv.1.2.2.2; have := hv.1.2.1; omega)
    · exact absurd hp h3
    · exact absurd hv h3))
  obtain ⟨a1, c1, a2, c2, rfl, rfl⟩ := h.val
  have HA := hide hA
  unfold LdPost
  clear h hs hA hB es
  generalize hn : gs.length = n at *
  generalize hm : st.length = m at *
  have HN := hide hn
  have HM := hide hm
  clear hn hm
  by_cases hv : LV gs st
  · have V0 := hide (VA.out _ A0.out true (by simp [hv]))
    have TX0 := hide (fun W hW => TX.out W hW hv)
    have hJ := hv.2.2.1
    have HV := hide hv
    clear VA TX
    by_cases hp : inRR gs a b
    · have CL := hide (fun W hW => (CALL.out W hW hv hp).2)
      have eC := (CALL.out _ A0.out hv hp).1
      subst eC
      have hk0 : ¬ a < 0 := by have := hp.1; omega
      have hk1 : ¬ b < a := by have := hp.2.1; omega
      have hk2 : ¬ b > ((jn (gs.map grT)).length : Nat) := by have := hp.2.2; omega
      clear CALL HA hv hp
      generalize hJJ : jn (gs.map grT) = JJ at *
      generalize hjl : JJ.length = jl at *
      have HJL := hide hjl
      clear hJJ hjl
      go_enter Tryz.func10, Tryz.ntmps10
      go_wp2_with fail
      generalize (w.alloc (.cells #[.slice a1 n c1, .slice a2 m c2] 29)).alloc (.cells #[.slice none 0 0, .slice none 0 0] 29) = w0 at *
      refine V0.out.mono ?_
      rintro e w1 ⟨rfl, hb1⟩
      have s1 := hb1.size
      have P1 := hide (KP.out.below hb1 (by omega))
      have R1 := hide (KR.out.below hb1 (by omega))
      have B1 := hide (A0.out.trans (hb1.mono (by omega)))
      have p0 := P1.out.c.1
      have p1 := P1.out.c.2
      clear hb1 V0 KP KR
      go_wp2_with fail
      refine (TX0.out _ B1.out).mono ?_
      rintro e w2 ⟨v2, rfl, ho2, hb2⟩
      have s2 := hb2.size
      have P2 := hide (P1.out.below hb2 (by omega))
      have R2 := hide (R1.out.below hb2 (by omega))
      have B2 := hide (B1.out.trans (hb2.mono (by omega)))
      obtain ⟨av, cv, hv2⟩ := o32_val ho2
      rw [HJL.out] at hv2
      subst hv2
      have pp0 := P2.out.c.1
      have pp1 := P2.out.c.2
      clear ho2 hb2 P1 R1 TX0 p0 p1
      go_wp2_with fail
      refine (CL.out _ B2.out).mono ?_
      rintro e w3 ⟨vr3, vt3, rfl, ho3, hb3⟩
      obtain ⟨b1, d1, b2, d2, rfl, rfl⟩ := ho3.val
      generalize hgl' : G.length = gl at *
      generalize hsl' : S.length = sl at *
      have s3 := hb3.size
      have R3 := hide (R2.out.below hb3 (by omega))
      have B3 := hide (B2.out.trans (hb3.mono (by omega)))
      have O3 := hide ho3
      have e0 := R3.out.c.1
      have e1 := R3.out.c.2
      have f0 := R3.out.fz 0
      have f1 := R3.out.fz 1
      clear ho3 hb3 R2 hgl' hsl'
      go_wp2
      refine bodyPost_ret (v := .tuple #[.agg #[.slice b1 gl d1, .slice b2 sl d2], .int .i64 0]) (by simp [results, Tryz.results10, go_sem, e0, e1]) rfl ⟨_, _, rfl, ?_, ?_⟩
      · refine (O3.out.frame (fun q h1 h2 => ?_)).mono (by omega) (by simp)
        rw [heap_setCell_other _ _ _ _ (by show q ≠ w.heap.size + 1; omega), heap_setCell_other _ _ _ _ (by show q ≠ w.heap.size + 1; omega)]
      · exact (B3.out.setCell (by simp) _).setCell (by simp) _
    · rcases HA.out with ⟨_, h3, _⟩ | ⟨_, h3, _⟩ | ⟨_, _, eG, eS, eC⟩ | ⟨h3, _⟩
      · exact absurd h3 hp
      · exact absurd h3 hp
      · subst eG eS eC
        have hnk : ¬ (0 ≤ a ∧ a ≤ b ∧ b ≤ ((jn (gs.map grT)).length : Nat)) := hp
        clear CALL HA hv hp
        generalize hJJ : jn (gs.map grT) = JJ at *
        generalize hjl : JJ.length = jl at *
        have HJL := hide hjl
        clear hJJ hjl
        have hcs : a < 0 ∨ (¬ a < 0 ∧ b < a) ∨ (¬ a < 0 ∧ ¬ b < a ∧ b > (jl : Int)) := by omega
        clear hnk
        rcases hcs with hk0 | ⟨hk0, hk1⟩ | ⟨hk0, hk1, hk2⟩
        iterate 2
          · go_enter Tryz.func10, Tryz.ntmps10
            go_wp2_with fail
            generalize (w.alloc (.cells #[.slice a1 n c1, .slice a2 m c2] 29)).alloc (.cells #[.slice none 0 0, .slice none 0 0] 29) = w0 at *
            refine V0.out.mono ?_
            rintro e w1 ⟨rfl, hb1⟩
            have s1 := hb1.size
            have R1 := hide (KR.out.below hb1 (by omega))
            have B1 := hide (A0.out.trans (hb1.mono (by omega)))
            have e0 := R1.out.c.1
            have e1 := R1.out.c.2
            have f0 := R1.out.fz 0
            have f1 := R1.out.fz 1
            clear hb1 V0 KP KR TX0
            go_wp2
            refine bodyPost_ret (v := .tuple #[.agg #[.slice none 0 0, .slice none 0 0], .int .i64 2]) (by simp [results, Tryz.results10, go_sem, e0, e1]) rfl ⟨_, _, rfl, OwL.nil _ _ _, ?_⟩
            exact (B1.out.setCell (by simp) _).setCell (by simp) _
        · go_enter Tryz.func10, Tryz.ntmps10
          go_wp2_with fail
          generalize (w.alloc (.cells #[.slice a1 n c1, .slice a2 m c2] 29)).alloc (.cells #[.slice none 0 0, .slice none 0 0] 29) = w0 at *
          refine V0.out.mono ?_
          rintro e w1 ⟨rfl, hb1⟩
          have s1 := hb1.size
          have P1 := hide (KP.out.below hb1 (by omega))
          have R1 := hide (KR.out.below hb1 (by omega))
          have B1 := hide (A0.out.trans (hb1.mono (by omega)))
          have p0 := P1.out.c.1
          have p1 := P1.out.c.2
          clear hb1 V0 KP KR
          go_wp2_with fail
          refine (TX0.out _ B1.out).mono ?_
          rintro e w2 ⟨v2, rfl, ho2, hb2⟩
          have s2 := hb2.size
          have R2 := hide (R1.out.below hb2 (by omega))
          have B2 := hide (B1.out.trans (hb2.mono (by omega)))
          obtain ⟨av, cv, hv2⟩ := o32_val ho2
          rw [HJL.out] at hv2
          subst hv2
          have e0 := R2.out.c.1
          have e1 := R2.out.c.2
          have f0 := R2.out.fz 0
          have f1 := R2.out.fz 1
          clear ho2 hb2 P1 R1 TX0 p0 p1
          go_wp2
          refine bodyPost_ret (v := .tuple #[.agg #[.slice none 0 0, .slice none 0 0], .int .i64 2]) (by simp [results, Tryz.results10, go_sem, e0, e1]) rfl ⟨_, _, rfl, OwL.nil _ _ _, ?_⟩
          exact (B2.out.setCell (by simp) _).setCell (by simp) _
      · exact absurd HV.out h3
  · rcases HA.out with ⟨h3, _⟩ | ⟨h3, _⟩ | ⟨h3, _⟩ | ⟨_, eG, eS, eC⟩
    · exact absurd h3 hv
    · exact absurd h3 hv
    · exact absurd h3 hv
    subst eG eS eC
    have V0 := hide (VA.out _ A0.out false (by simp [hv]))
    clear VA TX CALL HA hv
    go_enter Tryz.func10, Tryz.ntmps10
    go_wp2_with fail
    generalize (w.alloc (.cells #[.slice a1 n c1, .slice a2 m c2] 29)).alloc (.cells #[.slice none 0 0, .slice none 0 0] 29) = w0 at *
    refine V0.out.mono ?_
    rintro e w1 ⟨rfl, hb1⟩
    have s1 := hb1.size
    have R1 := hide (KR.out.below hb1 (by omega))
    have B1 := hide (A0.out.trans (hb1.mono (by omega)))
    have e0 := R1.out.c.1
    have e1 := R1.out.c.2
    have f0 := R1.out.fz 0
    have f1 := R1.out.fz 1
    clear hb1 V0 KP KR
    go_wp2
    refine bodyPost_ret (v := .tuple #[.agg #[.slice none 0 0, .slice none 0 0], .int .i64 1]) (by simp [results, Tryz.results10, go_sem, e0, e1]) rfl ⟨_, _, rfl, OwL.nil _ _ _, ?_⟩
    exact (B1.out.setCell (by simp) _).setCell (by simp) _
end Go.Proofs.YtbgngikejgihgagGreatDoor

namespace Go.Proofs.YtbgngikejgihgagGreatDoor
open Go Go.RowKit

theorem Tryz.info32 : (Tryz.prog.info? 21).map (fun i => (i.zero, i.size, i.bytes)) = some (some (.int .i32 0), 1, 4) := by kernel_rfl

set_option maxHeartbeats 400000 in
theorem to32 (zs : List Int) (v : Value) (w : World) (h : Rd .i32 w v zs) (hn : zs.length ≤ 1099511627776) :
    Calls Tryz.prog 17 #[v] w fun e w' => e = .returned (.slice (some ⟨w.heap.size, 0, none⟩) zs.length zs.length) ∧
      w'.ownsRow w.heap.size 21 1 (.slice (some ⟨w.heap.size, 0, none⟩) zs.length zs.length) zs.length (ints .i32 zs) ∧ Below w.heap.size w w' := by
  obtain ⟨i0, hi, hz0, hz1, hz2⟩ := info_parts Tryz.info32
  rcases h with ⟨ao, cap, rfl, rfl⟩ | ⟨b, off, cap, rfl, hp, hc⟩
  · go_enter Tryz.func17, Tryz.ntmps17
    go_wp2_with (at_make; refine wpList_make_full _ rfl _ _ 36 rfl w.heap.size 21 i0 (.int .i32 0) 1 Tryz.underlying36 hi hz0 hz1 .i64 .i64 _ _ 0 rfl rfl (by omega) (by omega) (by rw [hz2]; omega) (by unfold maxLen; omega) (Nat.le_refl _) ?_; intro w1 hown hgrow)
    rw [made_ints] at hown
    refine wp_loop_rounds 1 ?_
    rw [rounds_succ]
    go_wp2
    go_ret
    exact ⟨rfl, hown, (Below.refl _ _).grown hgrow (Nat.le_refl _) (fun k hk => by cases hk)⟩
  · have hcB : b < w.heap.size := World.block_lt_of_cell? w _ (hc 0 hp.1)
    go_enter Tryz.func17, Tryz.ntmps17
    go_wp2_with (at_make; refine wpList_make_full _ rfl _ _ 36 rfl w.heap.size 21 i0 (.int .i32 0) 1 Tryz.underlying36 hi hz0 hz1 .i64 .i64 _ _ zs.length rfl rfl (by omega) (by omega) (by rw [hz2]; omega) (by unfold maxLen; omega) (Nat.le_refl _) ?_; intro w1 hown hgrow)
    rw [made_ints] at hown
    have hb1 : Below w.heap.size w w1 := (Below.refl _ _).grown hgrow (Nat.le_refl _) (fun k hk => by cases hk)
    have HO : Hid (w1.ownsRow w.heap.size 21 1 (.slice (some ⟨w.heap.size, 0, none⟩) zs.length zs.length) zs.length (ints .i32 (List.replicate zs.length 0))) := hown
    have HC : Hid (∀ i, i < zs.length → w.cell? ⟨b, off + i, none⟩ = some (.int .i32 (zs.getD i 0))) := hc
    clear hown hgrow hc
    go_loopw [4] (fun i wr => ∃ k : Nat, k ≤ zs.length ∧ i = .int .i64 k ∧ wr.ownsRow w.heap.size 21 1 (.slice (some ⟨w.heap.size, 0, none⟩) zs.length zs.length) zs.length (ints .i32 (zs.take k ++ List.replicate (zs.length - k) 0)) ∧ Below w.heap.size w wr)
      (fun i _ => zs.length - (intOf i).toNat)
    case atStart => exact ⟨0, Nat.zero_le _, rfl, by simpa using HO.out, hb1⟩
    case round =>
      obtain ⟨k, hk, rfl, hown, hb⟩ := hrel
      by_cases hlt : k < zs.length
      · have hx : wr.cell? ⟨b, off + k, none⟩ = some (.int .i32 (zs.getD k 0)) := (hb.cell (p := ⟨b, off + k, none⟩) hcB).trans (HC.out k hlt)
        have hy : wr.cell? ⟨w.heap.size, k, none⟩ = some (.int .i32 ((zs.take k ++ List.replicate (zs.length - k) 0).getD k 0)) := by
          exact owns_cell hown k hlt
        have hf : wr.frozen? ⟨w.heap.size, k, none⟩ = false := hown.frozenAt k
        have hst := hown.stored k (.int .i32 (zs.getD k 0))
        rw [ints_set, getD_take_append hlt] at hst
        generalize zs.getD k 0 = z at hx hst
        generalize (zs.take k ++ List.replicate (zs.length - k) 0).getD k 0 = z' at hy
        have HS := hide hst
        have HB := hide hb
        clear hst hb hown
        go_wp2
        go_roundw
        case rel => exact ⟨k + 1, by omega, by go_num, HS.out.1, HB.out.setCell (Nat.le_refl _) _⟩
        case measure => simp [intOf]; omega
      · obtain rfl : k = zs.length := by omega
        rw [List.take_length, Nat.sub_self, List.replicate_zero, List.append_nil] at hown
        have HO2 := hide hown
        have HB := hide hb
        clear hb hown
        go_wp2
        go_ret
        exact ⟨rfl, HO2.out, HB.out⟩
end Go.Proofs.YtbgngikejgihgagGreatDoor

namespace Go.Proofs.YtbgngikejgihgagGreatDoor
open Go Go.RowKit
set_option linter.unusedVariables false

theorem Rd.val {k : IntKind} {w : World} {v : Value} {zs : List Int} (h : Rd k w v zs) : ∃ ao cap, v = .slice ao zs.length cap := by
  rcases h with ⟨ao, cap, rfl, rfl⟩ | ⟨b, off, cap, rfl, _⟩
  · exact ⟨_, _, rfl⟩
  · exact ⟨_, _, rfl⟩

set_option maxHeartbeats 1000000 in
theorem szInt32N (ao : Option Addr) (n cap : Nat) (l : Int) (w : World) (h0 : 0 ≤ l) (h1 : l ≤ 1048576) (hn : n ≤ maxLen) :
    Calls Tryz.prog 73 #[.slice ao n cap, .int .i64 l] w fun e w' => e = .returned (.int .i64 (if l - n < 0 then -1 else l - n)) ∧ w' = w := by
  unfold maxLen at hn
  by_cases h : l - n < 0
  · rw [if_pos h]
    go_enter Tryz.func73, Tryz.ntmps73
    go_wp2
    go_ret
    exact ⟨rfl, rfl⟩
  · rw [if_neg h]
    go_enter Tryz.func73, Tryz.ntmps73
    go_wp2
    go_ret
    exact ⟨rfl, rfl⟩

set_option maxHeartbeats 1000000 in
theorem szGapN (ao : Option Addr) (n cap : Nat) (lo hi l : Int) (w : World) (h0 : 0 ≤ l) (h1 : l ≤ 1048576) (hn : n ≤ maxLen) :
    Calls Tryz.prog 100 #[.agg #[.slice ao n cap, .int .i64 lo, .int .i64 hi], .int .i64 l] w fun e w' => e = .returned (.int .i64 (if l - n < 0 then -1 else l - n)) ∧ Below w.heap.size w w' := by
  have HK := hide (fun w => szInt32N ao n cap l w h0 h1 hn)
  have HB := hide ((Below.refl w.heap.size w).alloc (Nat.le_refl _) (.cells #[.slice ao n cap, .int .i64 lo, .int .i64 hi] 160))
  clear hn
  by_cases h : l - n < 0
  · rw [if_pos h] at HK ⊢
    clear h
    go_enter Tryz.func100, Tryz.ntmps100
    go_wp2_with fail
    refine (HK.out _).mono ?_
    rintro e w1 ⟨rfl, rfl⟩
    go_wp2
    go_ret
    exact ⟨rfl, HB.out⟩
  · rw [if_neg h] at HK ⊢
    obtain ⟨d, hd⟩ : ∃ d, d = l - n := ⟨_, rfl⟩
    rw [← hd] at HK h ⊢
    clear hd
    go_enter Tryz.func100, Tryz.ntmps100
    go_wp2_with fail
    refine (HK.out _).mono ?_
    rintro e w1 ⟨rfl, rfl⟩
    go_wp2
    go_ret
    exact ⟨rfl, HB.out⟩

set_option maxHeartbeats 1000000 in
theorem toGapN (zs : List Int) (v : Value) (lo hi : Int) (w : World) (h : Rd .i32 w v zs) (hn : zs.length ≤ 1048576) :
    Calls Tryz.prog 107 #[.agg #[v, .int .i64 lo, .int .i64 hi]] w fun e w' => ∃ g, w.heap.size ≤ g ∧ e = .returned (.agg #[.slice (some ⟨g, 0, none⟩) zs.length zs.length, .int .i64 lo, .int .i64 hi]) ∧ w'.ownsRow w.heap.size 21 1 (.slice (some ⟨g, 0, none⟩) zs.length zs.length) zs.length (ints .i32 zs) ∧ Below w.heap.size w w' := by
  obtain ⟨ao, cap, rfl⟩ := h.val
  have HB0 := hide ((((Below.refl w.heap.size w).alloc (Nat.le_refl _) (.cells #[.slice ao zs.length cap, .int .i64 lo, .int .i64 hi] 160)).alloc (by simp) (.cells #[.slice none 0 0, .int .i64 0, .int .i64 0] 152)).alloc (by simp; omega) (.cells #[.slice none 0 0, .int .i64 0, .int .i64 0] 152))
  have HI := hide (to32 zs _ _ (h.below HB0.out) (by omega))
  have HT0 := hide (T3.new ((w.alloc (.cells #[.slice ao zs.length cap, .int .i64 lo, .int .i64 hi] 160)).alloc (.cells #[.slice none 0 0, .int .i64 0, .int .i64 0] 152)) (.slice none 0 0) (.int .i64 0) (.int .i64 0) 152)
  have HR0 := hide ((T3.new (w.alloc (.cells #[.slice ao zs.length cap, .int .i64 lo, .int .i64 hi] 160)) (.slice none 0 0) (.int .i64 0) (.int .i64 0) 152).below ((Below.refl _ _).alloc (Nat.le_refl _) (.cells #[.slice none 0 0, .int .i64 0, .int .i64 0] 152)) (by simp))
  have HP0 := hide (((T3.new w (.slice ao zs.length cap) (.int .i64 lo) (.int .i64 hi) 160).below ((Below.refl _ _).alloc (Nat.le_refl _) (.cells #[.slice none 0 0, .int .i64 0, .int .i64 0] 152)) (by simp)).below ((Below.refl _ _).alloc (Nat.le_refl _) (.cells #[.slice none 0 0, .int .i64 0, .int .i64 0] 152)) (by simp; omega))
  have hs0 : (((w.alloc (.cells #[.slice ao zs.length cap, .int .i64 lo, .int .i64 hi] 160)).alloc (.cells #[.slice none 0 0, .int .i64 0, .int .i64 0] 152)).alloc (.cells #[.slice none 0 0, .int .i64 0, .int .i64 0] 152)).heap.size = w.heap.size + 3 := by simp
  have es1 : ((w.alloc (.cells #[.slice ao zs.length cap, .int .i64 lo, .int .i64 hi] 160)).alloc (.cells #[.slice none 0 0, .int .i64 0, .int .i64 0] 152)).heap.size = w.heap.size + 2 := by simp
  have es2 : (w.alloc (.cells #[.slice ao zs.length cap, .int .i64 lo, .int .i64 hi] 160)).heap.size = w.heap.size + 1 := by simp
  rw [es1] at HT0
  rw [es2] at HR0
  rw [hs0] at HI
  generalize zs.length = n at *
  clear es1 es2 h
  go_enter Tryz.func107, Tryz.ntmps107
  go_wp2_with fail
  generalize ((w.alloc (.cells #[.slice ao n cap, .int .i64 lo, .int .i64 hi] 160)).alloc (.cells #[.slice none 0 0, .int .i64 0, .int .i64 0] 152)).alloc (.cells #[.slice none 0 0, .int .i64 0, .int .i64 0] 152) = w0 at *
  refine HI.out.mono ?_
  rintro e w1 ⟨rfl, ho1, hb1⟩
  have HT1 := hide (HT0.out.below hb1 (by omega))
  have HR1 := hide (HR0.out.below hb1 (by omega))
  have HP1 := hide (HP0.out.below hb1 (by omega))
  have HB1 := hide (HB0.out.trans (hb1.mono (by omega)))
  have HO1 := hide ho1
  obtain ⟨g0, g1, g2⟩ := HT1.out.c
  obtain ⟨p0, p1, p2⟩ := HP1.out.c
  obtain ⟨r0, r1, r2⟩ := HR1.out.c
  have z0 := HT1.out.fz 0
  have z1 := HT1.out.fz 1
  have z2 := HT1.out.fz 2
  have y0 := HR1.out.fz 0
  have y1 := HR1.out.fz 1
  have y2 := HR1.out.fz 2
  have hl0 := HT1.out.lt
  clear ho1 hb1 HI HT0 HB0 HP0 HR0
  go_wp2
  refine bodyPost_ret (v := .agg #[.slice (some ⟨w.heap.size + 3, 0, none⟩) n n, .int .i64 lo, .int .i64 hi]) (by simp [results, Tryz.results107, go_sem, r0, r1, r2]) rfl ?_
  refine ⟨w.heap.size + 3, by omega, rfl, ?_, ?_⟩
  · have hne : ∀ b j, b < w.heap.size + 3 → (Value.slice (some ⟨w.heap.size + 3, 0, none⟩) n n).ownBlock ≠ some (⟨b, j, none⟩ : Addr).block := by
      intro b j hb hk
      simp only [Value.ownBlock, Option.some.injEq] at hk
      omega
    exact owns_base (ownsRow_setCell_other (ownsRow_setCell_other (ownsRow_setCell_other (ownsRow_setCell_other (ownsRow_setCell_other (ownsRow_setCell_other HO1.out (hne _ _ (by omega)) _) (hne _ _ (by omega)) _) (hne _ _ (by omega)) _) (hne _ _ (by omega)) _) (hne _ _ (by omega)) _) (hne _ _ (by omega)) _) (by omega)
  · exact (((((HB1.out.setCell (by simp <;> omega) _).setCell (by simp <;> omega) _).setCell (by simp <;> omega) _).setCell (by simp <;> omega) _).setCell (by simp <;> omega) _).setCell (by simp <;> omega) _

end Go.Proofs.YtbgngikejgihgagGreatDoor
