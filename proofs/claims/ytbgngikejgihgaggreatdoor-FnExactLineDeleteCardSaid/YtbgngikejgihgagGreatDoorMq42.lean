import Derived.Test.YtbgngikejgihgagGreatDoorProg
import Derived.Test.YtbgngikejgihgagGreatDoorMq01
import Derived.WalkKit
import Derived.WalkLawsBesides
import Derived.Test.YtbgngikejgihgagGreatDoorMq41
import Derived.Test.YtbgngikejgihgagGreatDoorMq10
import Derived.Test.YtbgngikejgihgagGreatDoorMq05
namespace Go.Proofs.YtbgngikejgihgagGreatDoor
open Go Go.RowKit


set_option maxHeartbeats 400000 in
theorem to64 (zs : List Int) (v : Value) (w : World) (h : Rd .i64 w v zs) (hn : zs.length ≤ 1099511627776) :
    Calls Tryz.prog 53 #[v] w fun e w' => e = .returned (.slice (some ⟨w.heap.size, 0, none⟩) zs.length zs.length) ∧
      w'.ownsRow w.heap.size 3 1 (.slice (some ⟨w.heap.size, 0, none⟩) zs.length zs.length) zs.length (ints .i64 zs) ∧ Below w.heap.size w w' := by
  obtain ⟨i0, hi, hz0, hz1, hz2⟩ := info_parts Tryz.info64
  rcases h with ⟨ao, cap, rfl, rfl⟩ | ⟨b, off, cap, rfl, hp, hc⟩
  · go_enter Tryz.func53, Tryz.ntmps53
    go_wp2_with (at_make; refine wpList_make_full _ rfl _ _ 23 rfl w.heap.size 3 i0 (.int .i64 0) 1 Tryz.underlying23 hi hz0 hz1 .i64 .i64 _ _ 0 rfl rfl (by omega) (by omega) (by rw [hz2]; omega) (by unfold maxLen; omega) (Nat.le_refl _) ?_; intro w1 hown hgrow)
    rw [made_ints] at hown
    refine wp_loop_rounds 1 ?_
    rw [rounds_succ]
    go_wp2
    go_ret
    exact ⟨rfl, hown, (Below.refl _ _).grown hgrow (Nat.le_refl _) (fun k hk => by cases hk)⟩
  · have hcB : b < w.heap.size := World.block_lt_of_cell? w _ (hc 0 hp.1)
    go_enter Tryz.func53, Tryz.ntmps53
    go_wp2_with (at_make; refine wpList_make_full _ rfl _ _ 23 rfl w.heap.size 3 i0 (.int .i64 0) 1 Tryz.underlying23 hi hz0 hz1 .i64 .i64 _ _ zs.length rfl rfl (by omega) (by omega) (by rw [hz2]; omega) (by unfold maxLen; omega) (Nat.le_refl _) ?_; intro w1 hown hgrow)
    rw [made_ints] at hown
    have hb1 : Below w.heap.size w w1 := (Below.refl _ _).grown hgrow (Nat.le_refl _) (fun k hk => by cases hk)
    have HO : Hid (w1.ownsRow w.heap.size 3 1 (.slice (some ⟨w.heap.size, 0, none⟩) zs.length zs.length) zs.length (ints .i64 (List.replicate zs.length 0))) := hown
    have HC : Hid (∀ i, i < zs.length → w.cell? ⟨b, off + i, none⟩ = some (.int .i64 (zs.getD i 0))) := hc
    clear hown hgrow hc
    go_loopw [4] (fun i wr => ∃ k : Nat, k ≤ zs.length ∧ i = .int .i64 k ∧ wr.ownsRow w.heap.size 3 1 (.slice (some ⟨w.heap.size, 0, none⟩) zs.length zs.length) zs.length (ints .i64 (zs.take k ++ List.replicate (zs.length - k) 0)) ∧ Below w.heap.size w wr)
      (fun i _ => zs.length - (intOf i).toNat)
    case atStart => exact ⟨0, Nat.zero_le _, rfl, by simpa using HO.out, hb1⟩
    case round =>
      obtain ⟨k, hk, rfl, hown, hb⟩ := hrel
      by_cases hlt : k < zs.length
      · have hx : wr.cell? ⟨b, off + k, none⟩ = some (.int .i64 (zs.getD k 0)) := (hb.cell (p := ⟨b, off + k, none⟩) hcB).trans (HC.out k hlt)
        have hy : wr.cell? ⟨w.heap.size, k, none⟩ = some (.int .i64 ((zs.take k ++ List.replicate (zs.length - k) 0).getD k 0)) := by
          exact owns_cell hown k hlt
        have hf : wr.frozen? ⟨w.heap.size, k, none⟩ = false := hown.frozenAt k
        have hst := hown.stored k (.int .i64 (zs.getD k 0))
        rw [ints_set, getD_take_append hlt] at hst
        generalize zs.getD k 0 = z at hx hst
        generalize (zs.take k ++ List.replicate (zs.length - k) 0).getD k 0 = z' at hy
        have HS := hide hst
        have HB := hide hb
        clear hst hb hown
        go_wp2
        go_roundw
        case rel => exact ⟨k + 1, by omega, by go_num, HS.out.1, HB.out.setCell (Nat.le_refl _) _⟩
        case measure => simp [intOf]; omega
      · obtain rfl : k = zs.length := by omega
        rw [List.take_length, Nat.sub_self, List.replicate_zero, List.append_nil] at hown
        have HO2 := hide hown
        have HB := hide hb
        clear hb hown
        go_wp2
        go_ret
        exact ⟨rfl, HO2.out, HB.out⟩
end Go.Proofs.YtbgngikejgihgagGreatDoor

namespace Go.Proofs.YtbgngikejgihgagGreatDoor
open Go Go.RowKit
set_option linter.unusedVariables false

/-- Rows that came in. -/
def RdG (w : World) (v : Value) (gs : List Gr) : Prop :=
  (∃ ao cap, v = .slice ao 0 cap ∧ gs = []) ∨
  (∃ b off cap, v = .slice (some ⟨b, off, none⟩) gs.length cap ∧ (0 < gs.length ∧ gs.length ≤ cap ∧ cap ≤ maxLen) ∧ ∀ (i : Nat) x, gs[i]? = some x → ∃ u, w.cell? ⟨b, off + i * 3, none⟩ = some u ∧ w.cell? ⟨b, off + i * 3 + 1, none⟩ = some (.int .i64 x.lo) ∧ w.cell? ⟨b, off + i * 3 + 2, none⟩ = some (.int .i64 x.hi) ∧ Rd .i32 w u x.cells ∧ x.cells.length ≤ maxLen)
theorem RdG.below {w w' : World} {v : Value} {gs : List Gr} (h : RdG w v gs) (hb : Below w.heap.size w w') : RdG w' v gs := by
  rcases h with h | ⟨b, off, cap, hv, hp, hc⟩
  · exact .inl h
  · refine .inr ⟨b, off, cap, hv, hp, fun i x hx => ?_⟩
    obtain ⟨u, h0, h1, h2, h3, h4⟩ := hc i x hx
    have hB := World.block_lt_of_cell? w _ h0
    exact ⟨u, (hb.cell (p := ⟨b, off + i * 3, none⟩) hB).trans h0, (hb.cell (p := ⟨b, off + i * 3 + 1, none⟩) hB).trans h1, (hb.cell (p := ⟨b, off + i * 3 + 2, none⟩) hB).trans h2, h3.below hb, h4⟩
theorem RdG.val {w : World} {v : Value} {gs : List Gr} (h : RdG w v gs) : ∃ ao cap, v = .slice ao gs.length cap := by
  rcases h with ⟨ao, cap, rfl, rfl⟩ | ⟨b, off, cap, rfl, _⟩
  · exact ⟨_, _, rfl⟩
  · exact ⟨_, _, rfl⟩
/-- The cells of some rows. -/
def smC : List Gr → Nat
  | [] => 0
  | g :: gs => g.cells.length + smC gs
theorem smC_app (a b : List Gr) : smC (a ++ b) = smC a + smC b := by
  induction a with
  | nil => simp [smC]
  | cons x a ih => simp only [List.cons_append, smC, ih]; omega
theorem smC_take_succ {gs : List Gr} {i : Nat} {g : Gr} (h : gs[i]? = some g) : smC (gs.take (i + 1)) = smC (gs.take i) + g.cells.length := by
  rw [List.take_add_one, h, smC_app]
  simp [smC]
theorem smC_take_le (gs : List Gr) (i : Nat) : smC (gs.take i) ≤ smC gs := by
  have := smC_app (gs.take i) (gs.drop i)
  rw [List.take_append_drop] at this
  omega
theorem smC_get {gs : List Gr} {i : Nat} {g : Gr} (h : gs[i]? = some g) : g.cells.length ≤ smC gs := by
  have h1 := smC_take_succ h
  have h2 := smC_take_le gs (i + 1)
  omega

set_option maxHeartbeats 1000000 in
theorem szGapSN (gs : List Gr) (v : Value) (l : Int) (w : World) (h : RdG w v gs) (h0 : 0 ≤ l) (h1 : l ≤ 1048576) (hm : gs.length ≤ maxLen) :
    Calls Tryz.prog 48 #[v, .int .i64 l] w fun e w' => e = .returned (.int .i64 (if l - gs.length - smC gs < 0 then -1 else l - gs.length - smC gs)) ∧ Below w.heap.size w w' := by
  obtain ⟨X, hX⟩ : ∃ X : Int, X = if l - gs.length - smC gs < 0 then -1 else l - gs.length - smC gs := ⟨_, rfl⟩
  rw [← hX]
  have HX := hide hX
  clear hX
  obtain ⟨ao, cap, hv⟩ := h.val
  unfold maxLen at hm
  by_cases hneg : l - gs.length < 0
  · have E := hide (show X = -1 by rw [HX.out, if_pos (by omega)])
    subst hv
    generalize gs.length = n at *
    clear h HX
    go_enter Tryz.func48, Tryz.ntmps48
    go_wp2
    go_ret
    exact ⟨by rw [E.out]; rfl, Below.refl _ _⟩
  · rcases h with ⟨ao', cap', hv', rfl⟩ | ⟨b, off, cap', hv', hp, hc⟩
    · subst hv'
      have E := hide (show X = l by rw [HX.out]; simp [smC]; omega)
      have hl : ¬ l < 0 := by omega
      clear HX hv hneg
      go_enter Tryz.func48, Tryz.ntmps48
      go_wp2
      refine wp_loop_rounds 1 ?_
      rw [rounds_succ]
      go_wp2
      go_ret
      exact ⟨by rw [E.out]; first | rfl | simp, Below.refl _ _⟩
    · subst hv'
      have HC := hide hc
      have SS := hide (fun i x (hx : gs[i]? = some x) => smC_take_succ hx)
      have SL := hide (fun i => smC_take_le gs i)
      have GE := hide (fun i (hi : i < gs.length) => (show ∃ x, gs[i]? = some x from ⟨gs[i], by simp [hi]⟩))
      have TA := hide (show smC (gs.take gs.length) = smC gs by rw [List.take_length])
      generalize hN : gs.length = n at *
      have hneg' : ¬ (l - (n : Int)) < 0 := hneg
      obtain ⟨hp1, hp2, hp3⟩ := hp
      unfold maxLen at hp3
      clear hc hv
      go_enter Tryz.func48, Tryz.ntmps48
      go_wp2
      go_loopw [1, 5] (fun a i wr => ∃ k : Nat, k ≤ n ∧ i = .int .i64 k ∧ a = .int .i64 (l - n - (smC (gs.take k) : Nat)) ∧ 0 ≤ l - (n : Int) - (smC (gs.take k) : Nat) ∧ Below w.heap.size w wr) (fun _ i _ => n - (intOf i).toNat)
      case atStart => exact ⟨0, Nat.zero_le _, rfl, by simp [smC], by simp [smC]; omega, Below.refl _ _⟩
      case round =>
        obtain ⟨k, hk, rfl, rfl, hge, hb⟩ := hrel
        have HB := hide hb
        have hsz := hb.size
        by_cases hlt : k < n
        · obtain ⟨x, hx⟩ := GE.out k hlt
          obtain ⟨u, e0, e1, e2, hr, hxm⟩ := HC.out k x hx
          have hbl := World.block_lt_of_cell? w _ e0
          have y0 := (hb.cell (p := ⟨b, off + k * 3, none⟩) hbl).trans e0
          have y1 := (hb.cell (p := ⟨b, off + k * 3 + 1, none⟩) hbl).trans e1
          have y2 := (hb.cell (p := ⟨b, off + k * 3 + 2, none⟩) hbl).trans e2
          obtain ⟨au, cu, hu⟩ := hr.val
          have hss := SS.out k x hx
          have SZ := hide (fun W => szGapN au x.cells.length cu x.lo x.hi (l - n - (smC (gs.take k) : Nat)) W hge (by omega) hxm)
          generalize hxl : x.lo = xl at *
          generalize hxh : x.hi = xh at *
          generalize hxc : x.cells.length = xc at *
          subst hu
          have hlt' : (k : Int) < n := by omega
          have sl1 := SL.out (k + 1)
          clear hr e0 e1 e2 hx hb hxl hxh hxc
          by_cases hng : l - (n : Int) - (smC (gs.take k) : Nat) - (xc : Int) < 0
          · simp only [if_pos hng] at SZ
            have E := hide (show X = -1 by rw [HX.out, if_pos (by omega)])
            clear hng
            go_wp2_with fail
            refine (SZ.out _).mono ?_
            rintro e w1 ⟨rfl, hb1⟩
            have B1 := hide (HB.out.trans (hb1.mono hsz))
            clear hb1
            go_wp2
            go_ret
            exact ⟨by rw [E.out]; rfl, B1.out⟩
          · simp only [if_neg hng] at SZ
            have e9 : l - (n : Int) - (smC (gs.take k) : Nat) - (xc : Int) = l - (n : Int) - (smC (gs.take (k + 1)) : Nat) := by rw [hss]; omega
            rw [e9] at SZ hng
            obtain ⟨S1, hS1⟩ : ∃ S1, S1 = smC (gs.take (k + 1)) := ⟨_, rfl⟩
            rw [← hS1] at SZ hng
            have HS1 := hide hS1
            clear e9 hss hS1 sl1
            go_wp2_with fail
            refine (SZ.out _).mono ?_
            rintro e w1 ⟨rfl, hb1⟩
            have B1 := hide (HB.out.trans (hb1.mono hsz))
            clear hb1
            go_wp2
            go_roundw
            case rel => exact ⟨k + 1, by omega, by go_num, by rw [← HS1.out], by rw [← HS1.out]; omega, B1.out⟩
            case measure => simp [intOf]; omega
        · obtain rfl : k = n := by omega
          rw [TA.out] at hge
          have E := hide (show X = l - (k : Int) - (smC gs : Nat) by rw [HX.out, if_neg (by omega)])
          have hlt' : ¬ (k : Int) < k := by omega
          rw [TA.out]
          clear hb
          go_wp2
          go_ret
          exact ⟨by rw [E.out]; rfl, HB.out⟩

set_option maxHeartbeats 400000 in
theorem szIntN (ao : Option Addr) (n cap : Nat) (l : Int) (w : World) (h0 : 0 ≤ l) (h1 : l ≤ 1048576) (hn : n ≤ maxLen) :
    Calls Tryz.prog 49 #[.slice ao n cap, .int .i64 l] w fun e w' => e = .returned (.int .i64 (if l - n < 0 then -1 else l - n)) ∧ w' = w := by
  unfold maxLen at hn
  by_cases h : l - n < 0
  · rw [if_pos h]
    go_enter Tryz.func49, Tryz.ntmps49
    go_wp2
    go_ret
    exact ⟨rfl, rfl⟩
  · rw [if_neg h]
    go_enter Tryz.func49, Tryz.ntmps49
    go_wp2
    go_ret
    exact ⟨rfl, rfl⟩

/-- A line buffer that came in. -/
structure RdL (w : World) (vr vt : Value) (gs : List Gr) (st : List Int) : Prop where
  rows : RdG w vr gs
  starts : Rd .i64 w vt st
  gm : gs.length ≤ maxLen
  sm : st.length ≤ maxLen
theorem RdL.below {w w' : World} {vr vt : Value} {gs : List Gr} {st : List Int} (h : RdL w vr vt gs st) (hb : Below w.heap.size w w') : RdL w' vr vt gs st := ⟨h.rows.below hb, h.starts.below hb, h.gm, h.sm⟩
/-- How much of the law's room is left. -/
def szL (gs : List Gr) (st : List Int) : Int := 1048576 - gs.length - smC gs - st.length

set_option maxHeartbeats 1000000 in
theorem szLineBufN (gs : List Gr) (st : List Int) (vr vt : Value) (w : World) (h : RdL w vr vt gs st) :
    Calls Tryz.prog 9 #[.agg #[vr, vt], .int .i64 1048576] w fun e w' => (∃ r : Int, e = .returned (.int .i64 r) ∧ (r < 0 ↔ szL gs st < 0)) ∧ Below w.heap.size w w' := by
  have A0 := hide ((Below.refl w.heap.size w).alloc (Nat.le_refl _) (.cells #[vr, vt] 25))
  have K0 := hide (D2.new w vr vt 25)
  have hs0 : (w.alloc (.cells #[vr, vt] 25)).heap.size = w.heap.size + 1 := by simp
  have S1 := hide (szGapSN gs vr 1048576 _ (h.below A0.out).rows (by omega) (by omega) h.gm)
  obtain ⟨a1, c1, rfl⟩ := h.rows.val
  obtain ⟨a2, c2, rfl⟩ : ∃ ao cap, vt = .slice ao st.length cap := by
    rcases h.starts with ⟨ao, cap, e1, e2⟩ | ⟨b, off, cap, e, _⟩
    · exact ⟨ao, cap, by rw [e1, e2]; rfl⟩
    · exact ⟨_, _, e⟩
  have S2 := hide (fun l W h0 h1 => szIntN a2 st.length c2 l W h0 h1 h.sm)
  have hm := h.sm
  have hgm := h.gm
  unfold szL
  generalize hA : (1048576 : Int) - gs.length - smC gs = A at *
  generalize gs.length = n at *
  generalize hmm : st.length = m at *
  have hAle : A ≤ 1048576 := by omega
  clear h
  by_cases hneg : A < 0
  · rw [if_pos hneg] at S1
    go_enter Tryz.func9, Tryz.ntmps9
    go_wp2_with fail
    generalize w.alloc (.cells #[.slice a1 n c1, .slice a2 m c2] 25) = w0 at *
    refine S1.out.mono ?_
    rintro e w1 ⟨rfl, hb1⟩
    have B1 := hide (A0.out.trans (hb1.mono (by omega)))
    clear hb1
    go_wp2
    go_ret
    exact ⟨⟨-1, rfl, by omega⟩, B1.out⟩
  · rw [if_neg hneg] at S1
    have S3 := hide (fun W => S2.out A W (by omega) hAle)
    obtain ⟨r, hr⟩ : ∃ r : Int, r = if A - (m : Int) < 0 then -1 else A - (m : Int) := ⟨_, rfl⟩
    simp only [← hr] at S3
    have HR := hide (show r < 0 ↔ A - (m : Int) < 0 by rw [hr]; split <;> omega)
    have hrb : -1 ≤ r := by rw [hr]; split <;> omega
    have HRM := hide (show r < 0 → r = -1 by rw [hr]; split <;> omega)
    clear hr
    go_enter Tryz.func9, Tryz.ntmps9
    go_wp2_with fail
    generalize w.alloc (.cells #[.slice a1 n c1, .slice a2 m c2] 25) = w0 at *
    refine S1.out.mono ?_
    rintro e w1 ⟨rfl, hb1⟩
    have B1 := hide (A0.out.trans (hb1.mono (by omega)))
    have d1 := (K0.out.below hb1 (by omega)).c.2
    clear hb1
    by_cases hrn : r < 0
    · go_wp2_with fail
      refine (S3.out _).mono ?_
      rintro e w2 ⟨rfl, hw⟩
      have hw2 := hw.symm
      subst hw2
      go_wp2
      go_ret
      exact ⟨⟨-1, rfl, by have := HR.out; omega⟩, B1.out⟩
    · go_wp2_with fail
      refine (S3.out _).mono ?_
      rintro e w2 ⟨rfl, hw⟩
      have hw2 := hw.symm
      subst hw2
      go_wp2
      go_ret
      exact ⟨⟨r, rfl, HR.out⟩, B1.out⟩
end Go.Proofs.YtbgngikejgihgagGreatDoor

namespace Go.Proofs.YtbgngikejgihgagGreatDoor
open Go Go.RowKit
set_option linter.unusedVariables false

theorem Tryz.infoGPJ : (Tryz.prog.info? 152).map (fun i => (i.zero, i.size, i.bytes)) = some (some (.agg #[.slice none 0 0, .int .i64 0, .int .i64 0]), 3, 40) := by kernel_rfl

set_option maxHeartbeats 2000000 in
set_option maxRecDepth 100000 in
theorem toGapSN (gs : List Gr) (v : Value) (w : World) (h : RdG w v gs) (hn : gs.length ≤ 1048576) (hc : smC gs ≤ 1048576) :
    Calls Tryz.prog 52 #[v] w fun e w' => ∃ vs, e = .returned (.slice (some ⟨w.heap.size, 0, none⟩) gs.length gs.length) ∧ OwG 152 w' w.heap.size w'.heap.size (.slice (some ⟨w.heap.size, 0, none⟩) gs.length gs.length) vs gs ∧ Below w.heap.size w w' := by
  obtain ⟨i0, hi0, hz0, hz1, hz2⟩ := info_parts Tryz.infoGPJ
  rcases h with ⟨ao, cap, rfl, rfl⟩ | ⟨b, off, cap, rfl, hp, hcc⟩
  · clear hn hc
    go_enter Tryz.func52, Tryz.ntmps52
    go_wp2_with (at_make; refine wpList_make_full _ rfl _ _ 27 rfl w.heap.size 152 i0 (.agg #[.slice none 0 0, .int .i64 0, .int .i64 0]) 3 Tryz.underlying27 hi0 hz0 hz1 .i64 .i64 _ _ 0 rfl rfl (by omega) (by omega) (by rw [hz2]; omega) (by unfold maxLen; omega) (Nat.le_refl _) ?_; intro w1 hown hgrow)
    rw [made_grs] at hown
    have B1 := hide ((Below.refl w.heap.size w).grown hgrow (Nat.le_refl _) (fun k hk => by cases hk))
    have G1 := hide (show OwG 152 w1 w.heap.size w1.heap.size (.slice (some ⟨w.heap.size, 0, none⟩) 0 0) [] [] from ⟨hown, fun q hq => (hown.lt q hq).2, Nest.nil _ _ _⟩)
    clear hown hgrow
    refine wp_loop_rounds 1 ?_
    rw [rounds_succ]
    go_wp2
    go_ret
    first | exact ⟨[], rfl, G1.out, B1.out⟩ | exact ⟨rfl, ⟨[], G1.out⟩, B1.out⟩
  have HCC := hide hcc
  have hcap := hp.2.1
  have hcm := hp.2.2
  unfold maxLen at hcm
  have SL := hide (fun i x (hx : gs[i]? = some x) => smC_get hx)
  generalize hN : gs.length = n at *
  have HN := hide hN
  clear hN hcc hp
  go_enter Tryz.func52, Tryz.ntmps52
  go_wp2_with (at_make; refine wpList_make_full _ rfl _ _ 27 rfl w.heap.size 152 i0 (.agg #[.slice none 0 0, .int .i64 0, .int .i64 0]) 3 Tryz.underlying27 hi0 hz0 hz1 .i64 .i64 _ _ n rfl rfl (by omega) (by omega) (by rw [hz2]; omega) (by unfold maxLen; omega) (Nat.le_refl _) ?_; intro w1 hown hgrow)
  rw [made_grs] at hown
  have B1 := hide ((Below.refl w.heap.size w).grown hgrow (Nat.le_refl _) (fun k hk => by cases hk))
  have G1 := hide (show OwG 152 w1 w.heap.size w1.heap.size (.slice (some ⟨w.heap.size, 0, none⟩) n n) (List.replicate n (.slice none 0 0)) (List.replicate n nilG) from ⟨by rw [List.length_replicate]; exact hown, fun q hq => (hown.lt q hq).2, Nest.nils _ _ _ _⟩)
  clear hown hgrow
  go_loopw [4] (fun i wr => ∃ k : Nat, k ≤ n ∧ i = .int .i64 k ∧ Below w.heap.size w wr ∧ ∃ us : List Value, us.length = k ∧ OwG 152 wr w.heap.size wr.heap.size (.slice (some ⟨w.heap.size, 0, none⟩) n n) (us ++ List.replicate (n - k) (.slice none 0 0)) (gs.take k ++ List.replicate (n - k) nilG))
    (fun i _ => n - (intOf i).toNat)
  case atStart => exact ⟨0, Nat.zero_le _, rfl, B1.out, [], rfl, by simpa using G1.out⟩
  case round =>
    obtain ⟨k, hk, rfl, hb, us, hus, hG⟩ := hrel
    have HB := hide hb
    have hsz := hb.size
    by_cases hlt : k < n
    · have hx : gs[k]? = some (gs[k]'(by rw [HN.out]; exact hlt)) := by simp [HN.out, hlt]
      generalize gs[k]'(by rw [HN.out]; exact hlt) = x at hx
      obtain ⟨u, e0, e1, e2, hr, hxm⟩ := HCC.out k x hx
      have hbl := World.block_lt_of_cell? w _ e0
      have y0 := (hb.cell (p := ⟨b, off + k * 3, none⟩) hbl).trans e0
      have y1 := (hb.cell (p := ⟨b, off + k * 3 + 1, none⟩) hbl).trans e1
      have y2 := (hb.cell (p := ⟨b, off + k * 3 + 2, none⟩) hbl).trans e2
      have hxs := SL.out k x hx
      have TG := hide (toGapN x.cells u x.lo x.hi wr (hr.below hb) (by omega))
      obtain ⟨au, cu, hu⟩ := hr.val
      have hLk : (gs.take k).length = k := by rw [List.length_take, HN.out]; omega
      have hrep : ∀ (β : Type) (z : β), List.replicate (n - k) z = z :: List.replicate (n - (k + 1)) z := fun β z => by rw [show n - k = (n - (k + 1)) + 1 by omega, List.replicate_succ]
      rw [hrep, hrep] at hG
      have hn3 : (gs.take k ++ nilG :: List.replicate (n - (k + 1)) nilG).length = n := by simp only [List.length_append, hLk, List.length_cons, List.length_replicate]; omega
      have GG := hide hG
      have N3 := hide hn3
      have LK := hide hLk
      have US := hide hus
      have TS := hide (show gs.take (k + 1) = gs.take k ++ [x] by rw [List.take_add_one, hx]; rfl)
      generalize hxl : x.lo = xl at *
      generalize hxh : x.hi = xh at *
      generalize hxc : x.cells.length = xc at *
      have HXC := hide hxc
      have HXE := hide (show (⟨x.cells, xl, xh⟩ : Gr) = x by rw [← hxl, ← hxh])
      have hlt' : (k : Int) < n := by omega
      subst hu
      clear hG hb hr e0 e1 e2 hx hus hLk hn3 hrep hxl hxh hxc
      go_wp2_with fail
      refine TG.out.mono ?_
      rintro e w3 ⟨g3, hg3, rfl, ho3, hb3⟩
      have s3 := hb3.size
      have G3 := GG.out.frame (w' := w3) (fun q _ hq => hb3.block q hq)
      have ST := G3.store (hi' := w3.heap.size) xl xh N3.out (by rw [US.out, LK.out]) (show o32 w3 w.heap.size (.slice (some ⟨g3, 0, none⟩) xc xc) x.cells from (by unfold o32; rw [HXC.out]; exact owns_base ho3 (by omega))) (fun q hq => (ho3.lt q hq).1) (fun q hq => (ho3.lt q hq).2) (by omega) (by decide)
      have kx := G3.cells N3.out (i := k) (get_midL LK.out) (get_midL US.out)
      have hr := G3.row
      rw [N3.out] at hr
      have f0 : w3.frozen? ⟨w.heap.size, k * 3, none⟩ = false := hr.frozenAt _
      have f1 : w3.frozen? ⟨w.heap.size, k * 3 + 1, none⟩ = false := hr.frozenAt _
      have f2 : w3.frozen? ⟨w.heap.size, k * 3 + 2, none⟩ = false := hr.frozenAt _
      obtain ⟨p0, p1, p2⟩ := kx
      rw [LK.out, HXE.out] at ST
      have S4 := hide ST.1
      have B4 := hide ((HB.out.trans (hb3.mono hsz)).grown ST.2 (by omega) (fun q hq => by cases hq; exact Nat.le_refl _))
      clear ho3 hb3 G3 ST hr GG
      go_wp2
      go_roundw
      case rel =>
        refine ⟨k + 1, by omega, by go_num, B4.out, us ++ [.slice (some ⟨g3, 0, none⟩) xc xc], by simp [US.out], ?_⟩
        rw [TS.out, List.append_assoc, List.append_assoc]
        exact S4.out.mono (Nat.le_refl _) (by simp)
      case measure => simp [intOf]; omega
    · obtain rfl : k = n := by omega
      have hlt' : ¬ (k : Int) < k := by omega
      rw [List.take_of_length_le (by rw [HN.out]; exact Nat.le_refl _), Nat.sub_self, List.replicate_zero, List.replicate_zero, List.append_nil, List.append_nil] at hG
      have GG := hide hG
      clear hG hb
      go_wp2
      go_ret
      first | exact ⟨us, rfl, GG.out, HB.out⟩ | exact ⟨rfl, ⟨us, GG.out⟩, HB.out⟩
end Go.Proofs.YtbgngikejgihgagGreatDoor
