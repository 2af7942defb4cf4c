import Derived.Test.YtbgngikejgihgagGreatDoorMq41
import Derived.Test.YtbgngikejgihgagGreatDoorMq12
import Derived.Test.YtbgngikejgihgagGreatDoorMq05
import Derived.Test.YtbgngikejgihgagGreatDoorMq11
import Derived.Test.YtbgngikejgihgagGreatDoorMq20
import Derived.Deep.RegionLaw
import Derived.Deep.AppendLies
import Derived.Deep.Cut
import Derived.Deep.CutRange
import Derived.Deep.DeepCutAuto
import Derived.Test.YtbgngikejgihgagGreatDoorMq14
import Derived.Test.YtbgngikejgihgagGreatDoorMq03
namespace Go.Proofs.YtbgngikejgihgagGreatDoor
open Go Go.RowKit
set_option linter.unusedVariables false

theorem row_read {w : World} {base : Nat} {e : TypeId} {v : Value} {ls : List Int} (h : w.ownsRow base e 1 v ls.length (ints .i64 ls)) :
    ∃ ao cap, v = .slice ao ls.length cap ∧ ls.length ≤ cap ∧ cap ≤ maxLen ∧ ∀ i, i < ls.length → ∃ g, ao = some ⟨g, 0, none⟩ ∧ base ≤ g ∧ g < w.heap.size ∧ ∀ w' : World, w'.heap[g]? = w.heap[g]? → w'.cell? ⟨g, i, none⟩ = some (.int .i64 (ls.getD i 0)) := by
  rcases h.2 with ⟨rfl, h0⟩ | ⟨g, cap, cur, rfl, hb, _, hc, hc2, _⟩
  · exact ⟨none, 0, by rw [h0], by omega, by unfold maxLen; omega, fun i hi => by omega⟩
  · refine ⟨_, cap, rfl, hc, hc2, fun i hi => ⟨g, rfl, hb, (h.lt g rfl).2, fun w' hw => ?_⟩⟩
    have h1 := h.cellAt i (by omega)
    rw [World.cell?_of_block (w := w) hw, h1]
    simp [ints, List.getD, hi]
theorem Chg.belowR2 {bs : List Nat} {a b c : World} {B : Nat} (h : Chg bs a b) (k : Below B b c) (hB : a.heap.size ≤ B) : Chg bs a c :=
  ⟨k.os.trans h.os, k.tape.trans h.tape, k.output.trans h.output, Nat.le_trans h.size k.size, fun i hi hn => (k.block i (by omega)).trans (h.block i hi hn)⟩
/-- Pieces and levels beside one another. -/
def zipI (qs : List Pc) (ls : List Int) : List It := (qs.zip ls).map (fun x => ⟨x.1, x.2⟩)
theorem zipI_snoc (qs : List Pc) (ls : List Int) (q : Pc) (h : qs.length < ls.length) : zipI (qs ++ [q]) ls = zipI qs ls ++ [⟨q, ls.getD qs.length 0⟩] := by
  induction qs generalizing ls with
  | nil => cases ls with
    | nil => simp at h
    | cons a t => simp [zipI]
  | cons x t ih => cases ls with
    | nil => simp at h
    | cons a u =>
      have := ih u (by simpa using h)
      simp only [zipI, List.cons_append, List.zip_cons_cons, List.map_cons] at this ⊢
      rw [this]; simp
theorem zipI_length (qs : List Pc) (ls : List Int) (h : qs.length ≤ ls.length) : (zipI qs ls).length = qs.length := by simp [zipI]; omega
theorem tallH (n : Nat) (ao : Option Addr) (cap : Nat) (w : World) (hn : n ≤ 1048576) :
    Calls Tryz.prog 87 #[.slice ao n cap] w fun e w' => ∃ r : Int, e = .returned (.int .i64 r) ∧ (2 ≤ r ∧ r ≤ 7) ∧ w' = w := by
  go_enter Tryz.func87, Tryz.ntmps87
  go_wp2_with fail
  go_loopw [3, 4] (fun h m wr => ∃ (a : Int) (q : Nat), h = .int .i64 a ∧ m = .int .i64 q ∧ (2 ≤ a ∧ a + q ≤ 1048578) ∧ wr = w) (fun _ m _ => (intOf m).toNat)
  case atStart => exact ⟨2, n, rfl, rfl, by omega, rfl⟩
  case round =>
    obtain ⟨a, q, rfl, rfl, hb, rfl⟩ := hrel
    by_cases hq : (q : Int) > 2
    · go_wp2
      go_roundw
      case rel => exact ⟨a + 1, q / 2, rfl, by first | rfl | go_num | (simp; omega), by omega, by first | rfl | trivial⟩
      case measure => simp [intOf]; omega
    · by_cases ha : a > 7
      · go_wp2
        go_ret
        exact ⟨_, rfl, by omega, rfl⟩
      · go_wp2
        go_ret
        exact ⟨_, rfl, by omega, rfl⟩

/-- A piece of a drawn buffer. -/
def SmQ (zs : List Int) (q : Pc) : Prop := WP zs q ∧ 1 ≤ q.len ∧ q.len ≤ 40
theorem smq_sum {zs : List Int} {F : List Pc} (h : ∀ q ∈ F, SmQ zs q) : lsum F ≤ 40 * F.length := by
  induction F with
  | nil => simp [lsum]
  | cons p F ih =>
    rw [lsum_cons, List.length_cons]
    have h1 := h p (by simp)
    have h2 := ih fun q hq => h q (by simp [hq])
    have := h1.2.2
    omega
theorem smq_tree {zs : List Int} {T : AT} (h : ∀ q ∈ T.flat, SmQ zs q) (hz : zs.length ≤ 220000) (hn : T.its ≤ 127) : T.ok ∧ T.wp zs ∧ T.rns ≤ 5080 := by
  have hs := smq_sum h
  rw [AT.flat_its] at hs
  refine ⟨⟨fun p hp => ?_, by rw [AT.rns_lsum]; omega⟩, (wp_flat zs T).2 fun p hp => (h p hp).1, by rw [AT.rns_lsum]; omega⟩
  obtain ⟨⟨a1, a2, a3, a4⟩, a5, a6⟩ := h p hp
  have hb := brk_bdl (ptx zs p)
  have hl : ((ptx zs p).length : Int) = p.len := ptx_len ⟨a1, a2, a3, a4⟩
  simp only [pcOk, decide_eq_true_eq]
  omega

/-- A drawn piece buffer. -/
def PBPost (bs : List Int) (vb : Value) (p : Nat) (R : Int) (Z : Nat) (w : World) (e : Ending) (w' : World) : Prop :=
  ∃ (vs vi : Value) (zs : List Int) (T : AT), e = .returned (.agg #[vs, vi]) ∧ own32 w' w.heap.size vs zs ∧ OwI w' w.heap.size vi (T.told 0) ∧ T.ok ∧ T.bal ∧ T.wp zs ∧ T.rns ≤ R ∧ zs.length ≤ Z ∧ SrcB bs vb p w' ∧ Chg [p] w w' ∧ ∃ g n c, vs = .slice (some ⟨g, 0, none⟩) n c

set_option maxHeartbeats 8000000 in
set_option maxRecDepth 100000 in
theorem drawRaw (bs : List Int) (vb : Value) (p : Nat) (size height : Int) (w : World) (hS : SrcB bs vb p w) (hsz : 0 < size ∧ size ≤ 200) (hh : 0 ≤ height ∧ height ≤ 6) :
    Calls Tryz.prog 85 #[.pointer (some ⟨p, 0, none⟩), .int .i64 size, .int .i64 height] w (PBPost bs vb p 5080 220 w) := by
  obtain ⟨i0, hi, hz0, hz1, hz2⟩ := info_parts Tryz.infoIT
  have hlt := hS.1.lt
  have HB0 := hide ((Below.refl w.heap.size w).alloc (Nat.le_refl _) (.cells #[.slice none 0 0, .slice none 0 0] 69))
  have KR0 := hide (show (w.alloc (.cells #[.slice none 0 0, .slice none 0 0] 69)).heap[w.heap.size]? = some (.cells #[.slice none 0 0, .slice none 0 0] 69 (0, 0)) from heap_alloc_new _ _)
  have hs0 : w.heap.size < (w.alloc (.cells #[.slice none 0 0, .slice none 0 0] 69)).heap.size := by simp
  have H0 := hide (hS.below HB0.out hlt (Nat.le_refl _))
  have C0 := hide (Chg.of_below (bs := [p]) HB0.out)
  clear hS
  go_enter Tryz.func85, Tryz.ntmps85
  go_wp2_with fail
  generalize w.alloc (.cells #[.slice none 0 0, .slice none 0 0] 69) = w0 at *
  refine (drawNB bs vb p size w0 H0.out (by omega) (by omega)).mono ?_
  rintro e w1 ⟨r, rfl, hr, hs1, hc1⟩
  obtain ⟨k, rfl⟩ := Int.eq_ofNat_of_zero_le hr.1
  have z1 := hc1.size
  have KR1 := hide ((hc1.block w.heap.size (by omega) (by simp; omega)).trans KR0.out)
  have H1 := hide hs1
  have C1 := hide (C0.out.trans hc1 (fun _ h _ => h) (fun _ h _ => h))
  have DT := hide (drawText1 bs vb p (20 + k) w1 hs1.1 (by omega))
  rw [show ((20 + k : Nat) : Int) = 20 + (k : Int) by omega] at DT
  clear hs1 hc1 C0 H0 HB0 KR0
  go_wp2_with fail
  refine DT.out.mono ?_
  rintro e w2 ⟨v2, zs, rfl, hzl, hds⟩
  have z2 := hds.grown.size
  have hc2 : Chg [p] w1 w2 := Chg.of_grown hds.grown
  have KR2 := hide ((hc2.block w.heap.size (by omega) (by simp; omega)).trans KR1.out)
  have H2 := hide (show SrcB bs vb p w2 from ⟨hds.src, H1.out.2⟩)
  have C2 := hide (C1.out.trans hc2 (fun _ h _ => h) (fun _ h _ => h))
  obtain ⟨L, hL⟩ : ∃ L, zs.length = L := ⟨_, rfl⟩
  have HLL := hide hL
  have hLb : 20 ≤ L ∧ L ≤ 220 := by omega
  have ow2 : own32 w2 w1.heap.size v2 zs := hds.own
  obtain ⟨gs, cs, hv2, hgs1, hgs2⟩ : ∃ g c, v2 = .slice (some ⟨g, 0, none⟩) L c ∧ L ≤ c ∧ c ≤ maxLen := by
    rcases ow2.2 with ⟨_, h2⟩ | ⟨g, c, cur, h1, _, _, h2, h3, _⟩
    · omega
    · rw [hL] at h1 h2; exact ⟨g, c, h1, h2, h3⟩
  subst hv2
  have lgs := ow2.lt gs rfl
  have O2 := hide ow2
  have hgs2' : cs ≤ maxLen := hgs2
  unfold maxLen at hgs2
  have B3 := hide ((Below.refl w2.heap.size w2).alloc (Nat.le_refl _) (.cells #[.slice (some ⟨gs, 0, none⟩) L cs, .slice none 0 0] 69))
  have KR3 := hide ((B3.out.block w.heap.size (by omega)).trans KR2.out)
  have H3 := hide (H2.out.below B3.out (by have := H2.out.1.lt; omega) (Nat.le_refl _))
  have C3 := hide (C2.out.belowR2 B3.out (by omega))
  have O3 := hide (show own32 _ w1.heap.size _ zs from owns_below O2.out B3.out (Nat.le_refl _))
  have KB3 := hide (show (w2.alloc (.cells #[.slice (some ⟨gs, 0, none⟩) L cs, .slice none 0 0] 69)).heap[w2.heap.size]? = some (.cells #[.slice (some ⟨gs, 0, none⟩) L cs, .slice none 0 0] 69 (0, 0)) from heap_alloc_new _ _)
  have s3 : w2.heap.size < (w2.alloc (.cells #[.slice (some ⟨gs, 0, none⟩) L cs, .slice none 0 0] 69)).heap.size := by simp
  clear hds hc2 ow2 hL hzl DT H1 C1 H2 C2 O2 KR1 KR2 B3
  go_wp2_with fail
  generalize w2.alloc (.cells #[.slice (some ⟨gs, 0, none⟩) L cs, .slice none 0 0] 69) = w3 at *
  generalize w2.heap.size = bb at *
  refine (drawNB bs vb p (height + 1) w3 H3.out (by omega) (by omega)).mono ?_
  rintro e w4 ⟨o, rfl, ho, hs4, hc4⟩
  have z4 := hc4.size
  have nbp : bb ≠ p := by omega
  have KR4 := hide ((hc4.block w.heap.size (by omega) (by simp; omega)).trans KR3.out)
  have KB4 := hide ((hc4.block bb s3 (by simpa using nbp)).trans KB3.out)
  have H4 := hide hs4
  have C4 := hide (C3.out.trans hc4 (fun _ h _ => h) (fun _ h _ => h))
  have O4 := hide (show own32 w4 w1.heap.size _ zs from owns_chg O3.out hc4 (by omega))
  clear hs4 hc4 H3 C3 O3 KR3 KB3
  go_wp2_with fail
  refine (drawNB bs vb p 5 w4 H4.out (by omega) (by omega)).mono ?_
  rintro e w5 ⟨ln, rfl, hln, hs5, hc5⟩
  have z5 := hc5.size
  have KR5 := hide ((hc5.block w.heap.size (by omega) (by simp; omega)).trans KR4.out)
  have KB5 := hide ((hc5.block bb (by omega) (by simpa using nbp)).trans KB4.out)
  have H5 := hide hs5
  have C5 := hide (C4.out.trans hc5 (fun _ h _ => h) (fun _ h _ => h))
  have O5 := hide (show own32 w5 w1.heap.size _ zs from owns_chg O4.out hc5 (by omega))
  clear hs5 hc5 H4 C4 O4 KR4 KB4
  go_wp2_with fail
  refine (levelsN bs vb p _ o 0 ln w5 rfl (by omega) (by omega) (by omega) H5.out).mono ?_
  rintro e w6 ⟨v3, ls, rfl, hLv, ho3, hs6, hc6⟩
  have z6 := hc6.size
  have h7 := len7 hLv (by omega)
  have KR6 := hide ((hc6.block w.heap.size (by omega) (by simp; omega)).trans KR5.out)
  have KB6 := hide ((hc6.block bb (by omega) (by simpa using nbp)).trans KB5.out)
  have H6 := hide hs6
  have C6 := hide (C5.out.trans hc6 (fun _ h _ => h) (fun _ h _ => h))
  have O6 := hide (show own32 w6 w1.heap.size _ zs from owns_chg O5.out hc6 (by omega))
  have LV := hide hLv
  obtain ⟨ao, cap, rfl, hcp1, hcp2, hrd⟩ := row_read ho3
  have RD := hide hrd
  unfold maxLen at hcp2
  have hs60 : p < w6.heap.size := hs6.1.lt
  have hb6 : bb < w6.heap.size := by omega
  clear hs6 hc6 H5 C5 O5 KR5 KB5 hLv ho3 hrd
  have HCZ := hide (fun (W : World) (h : W.heap[gs]? = w6.heap[gs]?) => show ∀ i, i < zs.length → W.cell? ⟨gs, 0 + i, none⟩ = some (.int .i32 (zs.getD i 0)) from (by
    intro i hi'
    have h9 := O6.out
    rw [← HLL.out] at h9
    have h8 := own32_at h9 i hi'
    rw [World.cell?_of_block (w := w6) h]; exact h8))
  have HSP := hide (fun (W : World) (a b : Int) (h : W.heap[gs]? = w6.heap[gs]?) (hg : gs < W.heap.size) (h1 : 0 ≤ a) (h2 : 1 ≤ b) (h3 : a + b ≤ L) => (show Calls Tryz.prog 131 #[.slice (some ⟨gs, 0, none⟩) L cs, .int .i64 a, .int .i64 b] W fun e w' => e = .returned (.agg #[.int .i64 a, .int .i64 b, .int .i64 (pcAt zs a b).brk]) ∧ Below W.heap.size W w' from (by
    have h9 := specPieceI zs gs 0 cs a b W (HCZ.out W h) hg h1 (by rw [HLL.out]; exact h3) (by omega) (by rw [HLL.out]; exact hgs1) hgs2' (by rw [HLL.out]; omega)
    rw [HLL.out] at h9
    exact h9)))
  go_wp2_with fail
  go_loopw [8, 29] (fun s8 i wr => ∃ (k : Nat) (nx : Int) (v : Value) (qs : List Pc), k ≤ ls.length ∧ i = .int .i64 k ∧ s8 = .int .i64 nx ∧ (0 ≤ nx ∧ nx ≤ L) ∧ qs.length = k ∧ (∀ q ∈ qs, SmQ zs q) ∧ wr.heap[bb]? = some (.cells #[.slice (some ⟨gs, 0, none⟩) L cs, v] 69 (0, 0)) ∧ OwI wr w6.heap.size v (zipI qs ls) ∧ SrcB bs vb p wr ∧ Chg [p, bb] w6 wr)
      (fun _ i _ => ls.length - (intOf i).toNat)
  case atStart => exact ⟨0, 0, _, [], Nat.zero_le _, rfl, rfl, ⟨by omega, by omega⟩, rfl, by simp, KB6.out, World.ownsRow_nil _ _ _ _, H6.out, Chg.refl _ _⟩
  case round =>
    obtain ⟨k, nx, v, qs, hk, rfl, rfl, hnx, hq, hsm, ht, hown, hsrc, hchg⟩ := hrel
    have HSM := hide hsm
    have HOW := hide hown
    have HSR := hide hsrc
    have HCH := hide hchg
    have zr := hchg.size
    obtain ⟨av, cv, hvv⟩ := ownI_val hown
    have HVL := hide (zipI_length qs ls (by omega))
    have HT := hide ht
    have HQ := hide hq
    by_cases hkl : k < ls.length
    · obtain ⟨g, rfl, hg1, hg2, hrdd⟩ := RD.out k hkl
      have e0 := hrdd wr (hchg.block g (by omega) (by simp; omega))
      have hlt' : (k : Int) < ls.length := by omega
      obtain ⟨lv, hlv⟩ : ∃ lv, lv = ls.getD k 0 := ⟨_, rfl⟩
      rw [← hlv] at e0
      have HLV := hide hlv
      have t0 : wr.cell? ⟨bb, 0, none⟩ = some (.slice (some ⟨gs, 0, none⟩) L cs) := by rw [cell_of_row wr _ 0 _ _ _ ht]; rfl
      clear hsm hown hsrc hchg hrdd hlv ht hq hvv
      go_upto_region 6 with fail
      clear e0
      go_wp2_with fail
      refine (drawNB bs vb p L wr HSR.out (by omega) (by omega)).mono ?_
      rintro e x1 ⟨o1, rfl, ho1, hs1, hc1⟩
      have y1 := hc1.size
      have T1 := hide ((hc1.block bb (by omega) (by simpa using nbp)).trans HT.out)
      have S1 := hide hs1
      have D1 := hide hc1
      clear hs1 hc1 t0
      have t0 : x1.cell? ⟨bb, 0, none⟩ = some (.slice (some ⟨gs, 0, none⟩) L cs) := by rw [cell_of_row x1 _ 0 _ _ _ T1.out]; rfl
      go_upto_region 7 with fail
      go_cut [46] from 30 to 89 (fun s46 wc => ∃ b : Bool, s46 = .bool b ∧ (b = true → nx < L) ∧ SrcB bs vb p wc ∧ Chg [p] wr wc)
      case first =>
        go_wp2_with fail
        refine (drawOneB bs vb p 2 x1 S1.out (by omega) (by omega)).mono ?_
        rintro e x2 ⟨b1, rfl, hs2, hc2⟩
        have T2' := hide ((hc2.block bb (by omega) (by simpa using nbp)).trans T1.out)
        have t2 : x2.cell? ⟨bb, 0, none⟩ = some (.slice (some ⟨gs, 0, none⟩) L cs) := by rw [cell_of_row x2 _ 0 _ _ _ T2'.out]; rfl
        have S2 := hide hs2
        have D2 := hide (D1.out.trans hc2 (fun _ h _ => h) (fun _ h _ => h))
        clear hs2 hc2
        cases b1 with
        | true =>
          go_wp2_with fail
          go_meet
          case rel => exact ⟨decide (nx < (L : Int)), rfl, fun h => by simpa using h, S2.out, D2.out⟩
        | false =>
          go_wp2_with fail
          go_meet
          case rel => exact ⟨false, rfl, fun h => (by cases h), S2.out, D2.out⟩
      case rest =>
      obtain ⟨b1, rfl, hb1, hs2, hc2⟩ := hcut
      have S2 := hide hs2
      have D2 := hide hc2
      have y2 := hc2.size
      have T2' := hide ((hc2.block bb (by omega) (by simpa using nbp)).trans HT.out)
      obtain ⟨x2, hx2⟩ : ∃ z, z = wc := ⟨_, rfl⟩
      subst hx2
      clear hs2 hc2 t0 T1 S1 D1
      go_upto_if 46 with fail
      go_cut [11] from 30 to 89 (fun s11 wc => ∃ oi : Int, s11 = .int .i64 oi ∧ (0 ≤ oi ∧ oi < L) ∧ wc = x2)
      case first =>
        cases b1 with
        | true =>
          have hnl := hb1 rfl
          go_wp2_with fail
          go_meet
          case rel => exact ⟨_, rfl, ⟨by omega, by omega⟩, rfl⟩
        | false =>
          go_wp2_with fail
          go_meet
          case rel => exact ⟨_, rfl, ⟨by omega, by omega⟩, rfl⟩
      case rest =>
      obtain ⟨oi, rfl, hoi, hwc⟩ := hcut
      have hwd := hwc.symm
      subst hwd
      clear hb1
      have t0 : x2.cell? ⟨bb, 0, none⟩ = some (.slice (some ⟨gs, 0, none⟩) L cs) := by rw [cell_of_row x2 _ 0 _ _ _ T2'.out]; rfl
      go_wp2_with fail
      refine (drawNB bs vb p 9 x2 S2.out (by omega) (by omega)).mono ?_
      rintro e x3 ⟨n1, rfl, hn1, hs3, hc3⟩
      have y3 := hc3.size
      have T3 := hide ((hc3.block bb (by omega) (by simpa using nbp)).trans T2'.out)
      have S3 := hide hs3
      have D3 := hide (D2.out.trans hc3 (fun _ h _ => h) (fun _ h _ => h))
      clear hs3 hc3 t0 T2' S2 D2
      have t0 : x3.cell? ⟨bb, 0, none⟩ = some (.slice (some ⟨gs, 0, none⟩) L cs) := by rw [cell_of_row x3 _ 0 _ _ _ T3.out]; rfl
      go_upto_if 57 with fail
      go_cut [12] from 30 to 89 (fun s12 wc => ∃ ni : Int, s12 = .int .i64 ni ∧ (1 ≤ ni ∧ ni ≤ 40 ∧ oi + ni ≤ L) ∧ wc = x3)
      case first =>
        by_cases hgt : (L : Int) - oi < 1 + n1
        · go_wp2_with fail
          go_meet
          case rel => exact ⟨_, rfl, ⟨by omega, by omega, by omega⟩, rfl⟩
        · go_wp2_with fail
          go_meet
          case rel => exact ⟨_, rfl, ⟨by omega, by omega, by omega⟩, rfl⟩
      case rest =>
      obtain ⟨n2, rfl, hn2, hwc⟩ := hcut
      have hwd := hwc.symm
      subst hwd
      go_wp2_with fail
      refine (drawOneB bs vb p 8 x3 S3.out (by omega) (by omega)).mono ?_
      rintro e x4 ⟨b2, rfl, hs4, hc4⟩
      have y4 := hc4.size
      have T4 := hide ((hc4.block bb (by omega) (by simpa using nbp)).trans T3.out)
      have S4 := hide hs4
      have D4 := hide (D3.out.trans hc4 (fun _ h _ => h) (fun _ h _ => h))
      clear hs4 hc4 t0 T3 S3 D3
      have t0 : x4.cell? ⟨bb, 0, none⟩ = some (.slice (some ⟨gs, 0, none⟩) L cs) := by rw [cell_of_row x4 _ 0 _ _ _ T4.out]; rfl
      go_upto_if 64 with fail
      go_cut [12] from 30 to 89 (fun s12 wc => ∃ ni : Int, s12 = .int .i64 ni ∧ (1 ≤ ni ∧ ni ≤ 40 ∧ oi + ni ≤ L) ∧ wc = x4)
      case first =>
        cases b2 with
        | true =>
          by_cases hgt : (40 : Int) < (L : Int) - oi
          · go_wp2_with fail
            go_meet
            case rel => exact ⟨_, rfl, ⟨by omega, by omega, by omega⟩, rfl⟩
          · go_wp2_with fail
            go_meet
            case rel => exact ⟨_, rfl, ⟨by omega, by omega, by omega⟩, rfl⟩
        | false =>
          go_wp2_with fail
          go_meet
          case rel => exact ⟨_, rfl, hn2, rfl⟩
      case rest =>
      obtain ⟨ni, rfl, hni, hwc⟩ := hcut
      have hwd := hwc.symm
      subst hwd
      have t1 : x4.cell? ⟨bb, 1, none⟩ = some v := by rw [cell_of_row x4 _ 1 _ _ _ T4.out]; rfl
      have ft := frozen_of_row x4 bb 1 _ _ T4.out
      have CH4 := hide (HCH.out.trans D4.out (ds := [p, bb]) (fun _ h _ => h) (fun _ h _ => by simp at h; simp [h]))
      have y5 := CH4.out.size
      have ngs : gs ≠ bb ∧ gs ≠ p ∧ gs < w6.heap.size := ⟨by omega, by omega, by omega⟩
      have OW := hide (show x4.ownsRow w6.heap.size 145 4 v k (itVs (zipI qs ls)) from (by have h9 := owns_chg (p := p) HOW.out D4.out (by omega); unfold OwI at h9; rwa [HVL.out, HQ.out] at h9))
      have GS4 := hide (show x4.heap[gs]? = w6.heap[gs]? from CH4.out.block gs ngs.2.2 (by simp; omega))
      have SPC := hide (HSP.out x4 oi ni GS4.out (by omega) hoi.1 hni.1 hni.2.2)
      have HKB := hide (show (pcAt zs oi ni).brk = (pcAt zs oi ni).brk from rfl)
      obtain ⟨kb, hkb⟩ : ∃ kb, kb = (pcAt zs oi ni).brk := ⟨_, rfl⟩
      have HKQ := hide (show (⟨oi, ni, kb⟩ : Pc) = pcAt zs oi ni by rw [hkb]; rfl)
      have HSP' := hide (fun (W : World) h hg => HSP.out W oi ni h hg hoi.1 hni.1 hni.2.2)
      rw [← hkb] at HSP'
      have HPQ := hide (show SmQ zs (pcAt zs oi ni) from ⟨pcAt_wp hoi.1 (by omega) (by rw [HLL.out]; omega), hni.1, hni.2.1⟩)
      clear SPC HKB hkb
      go_upto_region 17 with fail
      go_region_law (first
        | (refine step_append_lies _ rfl _ _ 65 rfl w6.heap.size 145 i0 (.agg #[.int .i64 0, .int .i64 0, .int .i64 0, .int .i64 0]) 4 32 Tryz.underlying65 hi hz0 hz1 hz2 rfl (by decide) _ _ _ rfl (by exact (O7.out.alloc _)) ⟨x7.heap.size, 0, none⟩ 1 1 [.int .i64 oi, .int .i64 ni, .int .i64 kb, .int .i64 lv] rfl rfl (by exact newcells x7 _ _) (by simp [Value.oneCell']) (by omega) (by unfold maxLen; omega) (by omega) (by simp; omega) (x7.heap.size + 1) (by simp) ?_; intro g5 cap5 x8 ho5 hg5 _ _; have B8 : Below w6.heap.size x7 x8 := ((Below.refl w6.heap.size x7).alloc (by omega) (.cells #[.int .i64 oi, .int .i64 ni, .int .i64 kb, .int .i64 lv] 145)).trans (Below.grown (⟨hg5.os, hg5.tape, hg5.output, hg5.size, hg5.block⟩) (own_row O7.out) (by simp; omega)); have T8 := hide ((B8.block bb (by omega)).trans T7.out); have t8 : x8.cell? ⟨bb, 1, none⟩ = some v := (by rw [cell_of_row x8 _ 1 _ _ _ T8.out]; rfl); have ft8 := frozen_of_row x8 bb 1 _ _ T8.out; have s8 := B8.size; have S8 := hide (S7.out.below B8 (by omega) (by omega)); have C8 := hide (C7.out.belowR2 B8 (by omega)); have O8 := hide ho5; clear ho5 hg5 B8)
        | (go_simp; go_wp2_with (go_at_call 131; refine (HSP'.out _ (by exact GS4.out) (by show gs < x4.heap.size; omega)).mono ?_; rintro e x7 ⟨rfl, hb0⟩; have hb7 : Below x4.heap.size x4 x7 := (⟨hb0.os, hb0.tape, hb0.output, hb0.size, hb0.block⟩); have y7 := hb7.size; have l7 : bb < x7.heap.size := (by omega); have n7 : bb ≠ x7.heap.size := (by omega); have T7 := hide ((hb7.block bb (by omega)).trans T4.out); have t7 : x7.cell? ⟨bb, 1, none⟩ = some v := (by rw [cell_of_row x7 _ 1 _ _ _ T7.out]; rfl); have O7 := hide (owns_below OW.out hb7 (Nat.le_refl _)); have C7 := hide (CH4.out.belowR2 hb7 (by omega)); have S7 := hide (S4.out.below hb7 (by have := S4.out.1.lt; omega) (Nat.le_refl _)); clear hb0 hb7)))
      all_goals (
        go_wp2_with fail
        go_roundw
        case rel =>
          refine ⟨k + 1, oi + ni, _, qs ++ [⟨oi, ni, kb⟩], by omega, by go_num, by first | rfl | go_num, ⟨by omega, by omega⟩, by simp [HQ.out], ?_, heap_setCell_same x8 bb 1 _ _ _ T8.out, ?_, S8.out.below (B := bb) ((Below.refl bb x8).setCell (by simp) _) (by omega) (by omega), C8.out.setCell _ _ (.inl (by simp))⟩
          · intro q hq
            rcases List.mem_append.1 hq with h9 | h9
            · exact HSM.out q h9
            · simp only [List.mem_singleton] at h9; subst h9; rw [HKQ.out]; exact HPQ.out
          · have h9 : x8.ownsRow w6.heap.size 145 4 (.slice (some ⟨g5, 0, none⟩) (k + 1) cap5) (k + 1) (itVs (zipI (qs ++ [⟨oi, ni, kb⟩]) ls)) := by
              rw [zipI_snoc _ _ _ (by have := HQ.out; omega), itVs_append, HQ.out, ← HLV.out]
              simpa [itVs, itV] using O8.out
            have h8 : OwI x8 w6.heap.size (.slice (some ⟨g5, 0, none⟩) (k + 1) cap5) (zipI (qs ++ [⟨oi, ni, kb⟩]) ls) := by
              unfold OwI; rw [zipI_length _ _ (by simp [HQ.out]; omega)]; simpa [HQ.out] using h9
            refine owns_of_block h8 fun k hk => ?_
            simp only [Value.ownBlock, Option.some.injEq] at hk
            subst hk
            have hg5 := (h9.lt g5 rfl).1
            exact heap_setCell_other _ _ _ _ (by show g5 ≠ bb; omega)
        case measure => simp [intOf]; omega)
    · obtain rfl : k = ls.length := by omega
      obtain ⟨T, hTb, hTh, hTf, hTt⟩ := LV.out.tree qs HQ.out
      have hge : ¬ (ls.length : Int) < (ls.length : Int) := by omega
      have HTT := hide (show zipI qs ls = T.told 0 from hTt.symm)
      have hit : T.its = ls.length := by rw [← AT.flat_its, hTf, HQ.out]
      have HPT := hide (smq_tree (zs := zs) (T := T) (by rw [hTf]; exact HSM.out) (by rw [HLL.out]; omega) (by omega))
      have HTB := hide hTb
      have hvl : (zipI qs ls).length = ls.length := by rw [HVL.out, HQ.out]
      rw [hvl] at hvv
      subst hvv
      have t0 : wr.cell? ⟨bb, 0, none⟩ = some (.slice (some ⟨gs, 0, none⟩) L cs) := by rw [cell_of_row wr _ 0 _ _ _ ht]; rfl
      have t1 : wr.cell? ⟨bb, 1, none⟩ = some (.slice av ls.length cv) := by rw [cell_of_row wr _ 1 _ _ _ ht]; rfl
      have KRr := (hchg.block w.heap.size (by omega) (by simp; omega)).trans KR6.out
      have r0 : wr.cell? ⟨w.heap.size, 0, none⟩ = some (.slice none 0 0) := by rw [cell_of_row wr _ 0 _ _ _ KRr]; rfl
      have r1 : wr.cell? ⟨w.heap.size, 1, none⟩ = some (.slice none 0 0) := by rw [cell_of_row wr _ 1 _ _ _ KRr]; rfl
      have f0 := frozen_of_row wr w.heap.size 0 _ _ KRr
      have f1 := frozen_of_row wr w.heap.size 1 _ _ KRr
      have OZ := hide (show own32 wr w.heap.size (.slice (some ⟨gs, 0, none⟩) L cs) zs from owns_base (owns_of_block O6.out (fun q hq => by cases hq; exact hchg.block gs (by omega) (by simp; omega))) (by omega))
      have OI := hide (show OwI wr w.heap.size (.slice av ls.length cv) (T.told 0) from (by rw [← HTT.out]; exact OwI.base hown (by omega)))
      have LI := hide (fun q hq => (hown.lt q hq).1)
      have CF := hide (show Chg [p] w wr from C6.out.trans hchg (fun _ h _ => h) (fun x h hl => by simp at h; rcases h with h | h; simp [h]; omega))
      clear hTt hTf hTh hTb hit hsm hown hsrc hchg ht hq KRr hvl
      go_wp2
      refine bodyPost_ret (v := .agg #[.slice (some ⟨gs, 0, none⟩) L cs, .slice av ls.length cv]) (by simp [results, Tryz.results85, go_sem, r0, r1]) rfl ⟨_, _, zs, T, rfl, ?_, ?_, HPT.out.1, HTB.out, HPT.out.2.1, HPT.out.2.2, by rw [HLL.out]; omega, ?_, ?_, ⟨_, _, _, rfl⟩⟩
      · exact owns_of_block OZ.out (fun q hq => by cases hq; rw [heap_setCell_other _ ⟨w.heap.size, 1, none⟩ _ _ (by show gs ≠ w.heap.size; omega), heap_setCell_other _ ⟨w.heap.size, 0, none⟩ _ _ (by show gs ≠ w.heap.size; omega)])
      · exact owns_of_block OI.out (fun q hq => by have h9 := LI.out q hq; rw [heap_setCell_other _ ⟨w.heap.size, 1, none⟩ _ _ (by show q ≠ w.heap.size; omega), heap_setCell_other _ ⟨w.heap.size, 0, none⟩ _ _ (by show q ≠ w.heap.size; omega)])
      · exact (HSR.out.below (B := w.heap.size) ((Below.refl w.heap.size wr).setCell (by simp) _) hlt (by omega)).below (B := w.heap.size) ((Below.refl w.heap.size _).setCell (by simp) _) hlt (by simp; omega)
      · exact (CF.out.setCell _ _ (.inr (by simp))).setCell _ _ (.inr (by simp))
end Go.Proofs.YtbgngikejgihgagGreatDoor

namespace Go.Proofs.YtbgngikejgihgagGreatDoor
open Go Go.RowKit
set_option linter.unusedVariables false

def pcC (q : Pc) : List Value := [.int .i64 q.off, .int .i64 q.len, .int .i64 q.brk]
def pcCs (qs : List Pc) : List Value := qs.flatMap pcC
theorem pcCs_append (a b : List Pc) : pcCs (a ++ b) = pcCs a ++ pcCs b := by simp [pcCs]
theorem pcCs_get (qs : List Pc) (i k : Nat) (q : Pc) (h : qs[i]? = some q) (hk : k < 3) : (pcCs qs)[i * 3 + k]? = (pcC q)[k]? := by
  induction qs generalizing i with
  | nil => simp at h
  | cons a t ih =>
    have e : pcCs (a :: t) = pcC a ++ pcCs t := by simp [pcCs]
    rw [e]
    cases i with
    | zero => simp at h; subst h; rw [List.getElem?_append_left (by simp [pcC]; omega)]; simp
    | succ i =>
      rw [List.getElem?_append_right (by simp [pcC]; omega)]
      have := ih i (by simpa using h)
      rw [← this]
      congr 1
      simp [pcC]; omega

theorem Tryz.infoPC : (Tryz.prog.info? 143).map (fun i => (i.zero, i.size, i.bytes)) = some (some (.agg #[.int .i64 0, .int .i64 0, .int .i64 0]), 3, 24) := by kernel_rfl

/-- An owned row of pieces. -/
def OwP (w : World) (base : Nat) (v : Value) (qs : List Pc) : Prop := w.ownsRow base 143 3 v qs.length (pcCs qs)


def PcAt (w : World) (b o : Nat) (q : Pc) : Prop :=
  w.cell? ⟨b, o, none⟩ = some (.int .i64 q.off) ∧ w.cell? ⟨b, o + 1, none⟩ = some (.int .i64 q.len) ∧ w.cell? ⟨b, o + 2, none⟩ = some (.int .i64 q.brk)
/-- A slice value that reads as these pieces, in a block below B. -/
def RdP (B : Nat) (w : World) (v : Value) (qs : List Pc) : Prop :=
  (∃ ao cap, v = .slice ao 0 cap ∧ qs = []) ∨
  (∃ b off cap, v = .slice (some ⟨b, off, none⟩) qs.length cap ∧ (0 < qs.length ∧ qs.length ≤ cap ∧ cap ≤ maxLen) ∧ b < B ∧ ∀ i q, qs[i]? = some q → PcAt w b (off + i * 3) q)
theorem RdP.below {B B' : Nat} {w w' : World} {v : Value} {qs : List Pc} (h : RdP B w v qs) (hb : Below B' w w') (hB : B ≤ B') : RdP B w' v qs := by
  rcases h with h | ⟨b, off, cap, hv, hp, hl, hc⟩
  · exact .inl h
  · refine .inr ⟨b, off, cap, hv, hp, hl, fun i q hq => ?_⟩
    obtain ⟨a0, a1, a2⟩ := hc i q hq
    exact ⟨(hb.cell (p := ⟨b, off + i * 3, none⟩) (by show b < B'; omega)).trans a0, (hb.cell (p := ⟨b, off + i * 3 + 1, none⟩) (by show b < B'; omega)).trans a1, (hb.cell (p := ⟨b, off + i * 3 + 2, none⟩) (by show b < B'; omega)).trans a2⟩
theorem RdP.heap {B : Nat} {w w' : World} {v : Value} {qs : List Pc} (h : RdP B w v qs) (e : w'.heap = w.heap) : RdP B w' v qs := by
  rcases h with h | ⟨b, off, cap, hv, hp, hl, hc⟩
  · exact .inl h
  · refine .inr ⟨b, off, cap, hv, hp, hl, fun i q hq => ?_⟩
    obtain ⟨a0, a1, a2⟩ := hc i q hq
    refine ⟨?_, ?_, ?_⟩
    · rw [World.cell?_of_block (w := w) (by rw [e])]; exact a0
    · rw [World.cell?_of_block (w := w) (by rw [e])]; exact a1
    · rw [World.cell?_of_block (w := w) (by rw [e])]; exact a2
theorem RdP.mono {B B' : Nat} {w : World} {v : Value} {qs : List Pc} (h : RdP B w v qs) (hB : B ≤ B') : RdP B' w v qs := by
  rcases h with h | ⟨b, off, cap, hv, hp, hl, hc⟩
  · exact .inl h
  · exact .inr ⟨b, off, cap, hv, hp, by omega, hc⟩
theorem OwP.rd {w : World} {base : Nat} {v : Value} {qs : List Pc} (h : OwP w base v qs) : RdP w.heap.size w v qs := by
  unfold OwP at h
  rcases h.2 with ⟨rfl, h0⟩ | ⟨g, cap, cur, rfl, hb, _, hc, hm, _⟩
  · exact .inl ⟨_, _, rfl, List.eq_nil_of_length_eq_zero h0⟩
  · rcases Nat.eq_zero_or_pos qs.length with h0 | h0
    · exact .inl ⟨_, _, by rw [h0], List.eq_nil_of_length_eq_zero h0⟩
    · refine .inr ⟨g, 0, cap, rfl, ⟨h0, hc, hm⟩, (h.lt g rfl).2, fun i q hq => ?_⟩
      have hi : i < qs.length := (List.getElem?_eq_some_iff.1 hq).1
      refine ⟨?_, ?_, ?_⟩
      · have := h.cellAt (0 + i * 3) (by omega)
        rw [this, Nat.zero_add]; exact (pcCs_get qs i 0 q hq (by omega)).trans rfl
      · have := h.cellAt (0 + i * 3 + 1) (by omega)
        rw [this, Nat.zero_add]; exact (pcCs_get qs i 1 q hq (by omega)).trans rfl
      · have := h.cellAt (0 + i * 3 + 2) (by omega)
        rw [this, Nat.zero_add]; exact (pcCs_get qs i 2 q hq (by omega)).trans rfl
end Go.Proofs.YtbgngikejgihgagGreatDoor
