import Derived.Test.YtbgngikejgihgagGreatDoorMq13
import Derived.Laws.AppendOwnNone
import Derived.Test.YtbgngikejgihgagGreatDoorMq23
import Derived.Test.YtbgngikejgihgagGreatDoorMq15
import Derived.Test.YtbgngikejgihgagGreatDoorMq24
import Derived.Test.YtbgngikejgihgagGreatDoorMq17
namespace Go.Proofs.YtbgngikejgihgagGreatDoor
open Go Go.RowKit
set_option linter.unusedVariables false

/-- Values that lead to lines. -/
structure LnAt (w : World) (vals : List Value) (L : List (List Int)) : Prop where
  len : vals.length = L.length
  at_ : ∀ (i : Nat) v l, vals[i]? = some v → L[i]? = some l → Sl .i32 w v l
theorem LnAt.nil (w : World) : LnAt w [] [] := ⟨rfl, fun i v l h => by simp at h⟩
theorem LnAt.snoc {w : World} {vals : List Value} {L : List (List Int)} {v : Value} {l : List Int} (h : LnAt w vals L) (hs : Sl .i32 w v l) : LnAt w (vals ++ [v]) (L ++ [l]) := by
  refine ⟨by simp [h.len], fun i u m hu hm => ?_⟩
  rcases Nat.lt_trichotomy i vals.length with q | q | q
  · rw [List.getElem?_append_left q] at hu
    rw [List.getElem?_append_left (by rw [← h.len]; exact q)] at hm
    exact h.at_ i u m hu hm
  · subst q
    rw [List.getElem?_append_right (Nat.le_refl _)] at hu
    rw [h.len, List.getElem?_append_right (Nat.le_refl _)] at hm
    simp at hu hm
    subst hu hm
    exact hs
  · rw [List.getElem?_eq_none (by simp; omega)] at hu; cases hu
theorem LnAt.below {w w' : World} {vals : List Value} {L : List (List Int)} (h : LnAt w vals L) (hb : Below w.heap.size w w') : LnAt w' vals L := ⟨h.len, fun i v l hv hl => (h.at_ i v l hv hl).below hb⟩
theorem sl_take {w : World} {b o c : Nat} {zs : List Int} (hc : ∀ i, i < zs.length → w.cell? ⟨b, o + i, none⟩ = some (.int .i32 (zs.getD i 0))) (hb : b < w.heap.size) {k : Nat} (hk : k ≤ zs.length) : Sl .i32 w (.slice (some ⟨b, o, none⟩) k c) (zs.take k) := by
  refine .inr ⟨b, o, c, by rw [List.length_take, Nat.min_eq_left hk], hb, fun i hi => ?_⟩
  rw [List.length_take] at hi
  rw [hc i (by omega)]
  simp [List.getD_eq_getElem?_getD, show i < k by omega]
def lenV : Value → Nat
  | .slice _ n _ => n
  | _ => 0

set_option maxHeartbeats 2000000 in
set_option maxRecDepth 100000 in
theorem cutL (zs : List Int) (b o cap : Nat) (w : World) (hc : ∀ i, i < zs.length → w.cell? ⟨b, o + i, none⟩ = some (.int .i32 (zs.getD i 0))) (hb : b < w.heap.size) (hn : zs.length ≤ 1048576) (hcap : zs.length ≤ cap) (hm : cap ≤ maxLen) :
    Calls Tryz.prog 153 #[.slice (some ⟨b, o, none⟩) zs.length cap] w fun e w' => ∃ v vals, e = .returned v ∧ w'.ownsRow w.heap.size 36 1 v (lns zs).length vals ∧ LnAt w vals (lns zs) ∧ Below w.heap.size w w' := by
  obtain ⟨i0, hi, hz0, hz1, hz2⟩ := info_parts Tryz.infoS
  have HC := hide hc
  have LL := hide (lns_len zs)
  generalize hLZ : lns zs = LZ at *
  have HLZ := hide hLZ
  generalize hN : zs.length = N at *
  have HN := hide hN
  clear hc hLZ hN
  go_enter Tryz.func153, Tryz.ntmps153
  go_wp2_with fail
  go_loopw [0, 3] (fun tx ls wr => ∃ (L : List (List Int)) (rest : List Int) (o' c : Nat) (vals : List Value), LZ = L ++ lns rest ∧ tx = .slice (some ⟨b, o', none⟩) rest.length c ∧ rest.length ≤ c ∧ c ≤ maxLen ∧ rest.length ≤ N ∧
      (∀ i, i < rest.length → w.cell? ⟨b, o' + i, none⟩ = some (.int .i32 (rest.getD i 0))) ∧ wr.ownsRow w.heap.size 36 1 ls L.length vals ∧ LnAt w vals L ∧ Below w.heap.size w wr)
    (fun tx _ _ => lenV tx)
  case atStart => exact ⟨[], zs, o, cap, [], by simp [HLZ.out], by rw [HN.out], by rw [HN.out]; exact hcap, hm, by rw [HN.out]; exact Nat.le_refl _, fun i hi => HC.out i (by rw [← HN.out]; exact hi), World.ownsRow_nil _ _ _ _, LnAt.nil _, Below.refl _ _⟩
  case round =>
    obtain ⟨L, rest, o', c, vals, hL, rfl, hrc, hcm, hrN, hcl, hown, hat, hbw⟩ := hrel
    have CL := hide hcl
    have HO := hide hown
    have HAT := hide hat
    have HBW := hide hbw
    have HL := hide hL
    have IX := hide (indexL rest b o' c wr (fun i hi => (hbw.cell (p := ⟨b, o' + i, none⟩) hb).trans (hcl i hi)) (by omega) hrc hcm)
    have hsz := hbw.size
    have hll : L.length ≤ 1048577 := by have h1 := LL.out.2; have h2 := HL.out; rw [h2, List.length_append] at h1; omega
    have hVN := HO.out.1
    unfold ix at IX
    unfold maxLen at hcm
    by_cases hf : fb rest < rest.length
    · rw [if_pos hf] at IX
      have EL := hide (fb_lns hf)
      have ST := hide (sl_take (c := c) CL.out hb (Nat.le_of_lt hf))
      generalize hF : fb rest = F at *
      generalize hR : rest.length = R at *
      have HR := hide hR
      clear hcl hown hat hbw hL hR hVN
      go_wp2_with fail
      refine IX.out.mono ?_
      rintro e w1 ⟨rfl, hw⟩
      have hw2 := hw.symm
      subst hw2
      clear hw IX
      have hF0 : ¬ (F : Int) < 0 := by omega
      have hFc : (F : Int) ≤ c := by omega
      have hFc1 : (F : Int) + 1 ≤ c := by omega
      have hFc2 : (F : Int) + 1 ≤ R := by omega
      have NC := hide (newcells wr 36 [.slice (some ⟨b, o', none⟩) F c])
      by_cases hcF : c = F + 1
      · subst hcF
        go_wp2_with (at_builtin; refine wpList_append_own _ rfl _ _ 190 rfl w.heap.size 36 i0 (.slice none 0 0) 1 24 Tryz.underlying190 hi hz0 hz1 hz2 rfl (by decide) _ _ _ rfl (HO.out.alloc _) ⟨wr.heap.size, 0, none⟩ 1 1 [.slice (some ⟨b, o', none⟩) F (F + 1)] rfl rfl NC.out (by intro u hu; simp at hu; subst hu; rfl) (by unfold maxLen; omega) (by omega) (by simp; omega) ?_; intro v2 w2 ho2 hg2 _)
        have B2 := hide ((HBW.out.alloc (by omega) (.cells #[.slice (some ⟨b, o', none⟩) F (F + 1)] 36)).grown hg2 (by simp; omega) (fun q hq => (HO.out.lt q hq).1))
        have O2 := hide ho2
        clear ho2 hg2
        go_wp2
        go_roundw
        case rel =>
          have eR : rest.drop (F + 1) = [] := List.drop_of_length_le (by rw [HR.out]; omega)
          refine ⟨L ++ [rest.take F], [], o', 0, vals ++ [.slice (some ⟨b, o', none⟩) F (F + 1)], ?_, ?_, Nat.zero_le _, by unfold maxLen; omega, Nat.zero_le _, fun i hi => by simp at hi, ?_, HAT.out.snoc ST.out, B2.out⟩
          · rw [HL.out, EL.out, eR]; simp
          · simp
          · rw [List.length_append]; exact O2.out
        case measure => simp [lenV]; omega
      · have hcF' : ¬ ((c : Int) = F + 1) := by omega
        have hcl' : (F : Int) + 1 < c := by omega
        go_wp2_with (at_builtin; refine wpList_append_own _ rfl _ _ 190 rfl w.heap.size 36 i0 (.slice none 0 0) 1 24 Tryz.underlying190 hi hz0 hz1 hz2 rfl (by decide) _ _ _ rfl (HO.out.alloc _) ⟨wr.heap.size, 0, none⟩ 1 1 [.slice (some ⟨b, o', none⟩) F c] rfl rfl NC.out (by intro u hu; simp at hu; subst hu; rfl) (by unfold maxLen; omega) (by omega) (by simp; omega) ?_; intro v2 w2 ho2 hg2 _)
        have B2 := hide ((HBW.out.alloc (by omega) (.cells #[.slice (some ⟨b, o', none⟩) F c] 36)).grown hg2 (by simp; omega) (fun q hq => (HO.out.lt q hq).1))
        have O2 := hide ho2
        clear ho2 hg2
        go_wp2
        go_roundw
        case rel =>
          have eR : (rest.drop (F + 1)).length = R - (F + 1) := by rw [List.length_drop, HR.out]
          refine ⟨L ++ [rest.take F], rest.drop (F + 1), o' + (F + 1), c - (F + 1), vals ++ [.slice (some ⟨b, o', none⟩) F c], ?_, ?_, by rw [eR]; omega, by unfold maxLen; omega, by rw [eR]; omega, ?_, ?_, HAT.out.snoc ST.out, B2.out⟩
          · rw [HL.out, EL.out]; simp
          · rw [eR]
          · intro i hi
            rw [eR] at hi
            rw [Nat.add_assoc, CL.out (F + 1 + i) (by omega)]
            simp [List.getD_eq_getElem?_getD, List.getElem?_drop]
          · rw [List.length_append]; exact O2.out
        case measure => simp [lenV]; omega
    · rw [if_neg hf] at IX
      have hfe : fb rest = rest.length := by have := fb_le rest; omega
      have EL := hide (fb_lns0 hfe)
      have ST := hide (sl_take (c := c) CL.out hb (Nat.le_refl _))
      rw [List.take_of_length_le (Nat.le_refl _)] at ST
      generalize hR : rest.length = R at *
      clear hcl hown hat hbw hL hR hVN hfe hf
      go_wp2_with fail
      refine IX.out.mono ?_
      rintro e w1 ⟨rfl, hw⟩
      have hw2 := hw.symm
      subst hw2
      clear hw IX
      have NC := hide (newcells wr 36 [.slice (some ⟨b, o', none⟩) R c])
      go_wp2_with (at_builtin; refine wpList_append_own _ rfl _ _ 190 rfl w.heap.size 36 i0 (.slice none 0 0) 1 24 Tryz.underlying190 hi hz0 hz1 hz2 rfl (by decide) _ _ _ rfl (HO.out.alloc _) ⟨wr.heap.size, 0, none⟩ 1 1 [.slice (some ⟨b, o', none⟩) R c] rfl rfl NC.out (by intro u hu; simp at hu; subst hu; rfl) (by unfold maxLen; omega) (by omega) (by simp; omega) ?_; intro v2 w2 ho2 hg2 _)
      have B2 := hide ((HBW.out.alloc (by omega) (.cells #[.slice (some ⟨b, o', none⟩) R c] 36)).grown hg2 (by simp; omega) (fun q hq => (HO.out.lt q hq).1))
      have O2 := hide ho2
      clear ho2 hg2
      go_wp2
      go_ret
      refine ⟨_, vals ++ [.slice (some ⟨b, o', none⟩) R c], rfl, ?_, ?_, B2.out⟩
      · rw [HL.out, EL.out, List.length_append]; exact O2.out
      · rw [HL.out, EL.out]; exact HAT.out.snoc ST.out
end Go.Proofs.YtbgngikejgihgagGreatDoor

namespace Go.Proofs.YtbgngikejgihgagGreatDoor
open Go Go.RowKit
set_option linter.unusedVariables false

theorem Ln.col {L : List (List Int)} {off k : Nat} {l : List Int} (h : Ln L off k) (ho : off ≤ (jn L).length) (hl : L[k]? = some l) : off - sAt L k ≤ l.length ∧ sAt L k ≤ off := by
  have hk := h.1
  have h2 := h.2.1
  refine ⟨?_, h2⟩
  have h3 := sAt_succ hl
  by_cases hn : k + 1 < L.length
  · have := h.2.2 hn; omega
  · have h4 := jn_len (ls := L) (by intro e; rw [e] at hk; simp at hk)
    have h5 : smL (L.take (k + 1)) = smL L := by rw [List.take_of_length_le (by omega)]
    unfold sAt at *
    omega
theorem Kn.lt {L : List (List Int)} {s0 off m k : Nat} (h : Kn L s0 off m) (hl : Ln L off k) (hs : 1 ≤ s0) : k < m := by
  rcases Nat.lt_or_ge k m with q | q
  · exact q
  · have h1 := h.2.2.2 (by have := hl.1; omega)
    have h2 := sAt_le L (show m - 1 ≤ k by omega)
    have := hl.2.1
    omega

theorem text_kept {w w' : World} {ts : List Int} {b o m ct : Nat} {S : Nat → Prop} (T : ∀ i, i < ts.length → w.cell? ⟨b, o + i, none⟩ = some (.int .i32 (ts.getD i 0))) (hc : Chg w w' S) (hb : b < w.heap.size) (hS : ¬ S b) (hm : ts.length = m) : Sl .i32 w' (.slice (some ⟨b, o, none⟩) m ct) ts :=
  .inr ⟨b, o, ct, by rw [hm], Nat.lt_of_lt_of_le hb hc.size, fun i hi => (World.cell?_of_block (a := ⟨b, o + i, none⟩) (hc.block b hb hS)).trans (T i hi)⟩
theorem LCr.off {w : World} {lo hi c g cap n i b : Nat} {sv u : Value} {vs : List Value} {gs : List Gr} {a1 b1 : Nat} {rn : Int} {st : List Int} (h : LCr w lo hi c (.slice (some ⟨g, 0, none⟩) n cap) sv vs gs a1 b1 rn st) (hb : b < lo) (hu : vs[i]? = some u) : ¬ (b = g ∨ u.ownBlock = some b) := by
  have hil : i < (gs.map Gr.cells).length := by rw [← h.rows.nest.len]; exact (List.getElem?_eq_some_iff.1 hu).1
  have ho := h.rows.nest.own i u _ hu (List.getElem?_eq_getElem hil)
  have hgl := h.rows.row.lt g rfl
  rintro (s | s)
  · omega
  · have := (ho.lt b s).1; omega
theorem own_valT2 {w : World} {base e size : Nat} {v : Value} {n : Nat} {xs : List Value} (h : w.ownsRow base e size v n xs) : ∃ ao cap, v = .slice ao n cap := by
  rcases h.2 with ⟨rfl, h0⟩ | ⟨g, cap, cur, rfl, _⟩
  · exact ⟨none, 0, by rw [h0]⟩
  · exact ⟨_, _, rfl⟩

set_option maxHeartbeats 4000000 in
set_option maxRecDepth 100000 in
theorem insLC1 (lo hi c g cap n off : Nat) (sv : Value) (vs : List Value) (gs : List Gr) (rn : Int) (st : List Int) (ts : List Int) (b o m ct : Nat) (w : World) (h : LCr w lo hi c (.slice (some ⟨g, 0, none⟩) n cap) sv vs gs n n rn st) (hN : gs.length = n) (h2 : n ≤ 8193) (hh : hi ≤ w.heap.size) (hlc : lo ≤ c) (hch : c < hi) (hs1 : 1 ≤ st.length) (hst : st = (stL (gs.map grT)).take st.length) (hsn : st.length ≤ n) (hok : ∀ x ∈ gs, okG x) (hj : (jn (gs.map grT)).length + m ≤ 8192) (hof : off ≤ (jn (gs.map grT)).length)
    (hm : ts.length = m) (hts : 10 ∉ ts) (hbl : b < lo) (hct : m ≤ ct) (hcm : ct ≤ maxLen) (hrn : 0 ≤ rn ∧ rn ≤ 8192) (hT : ∀ i, i < ts.length → w.cell? ⟨b, o + i, none⟩ = some (.int .i32 (ts.getD i 0))) :
    Calls Tryz.prog 351 #[.pointer (some ⟨c, 0, none⟩), .int .i64 off, .slice (some ⟨b, o, none⟩) m ct] w fun e w' => e = .returned (.tuple #[]) ∧ ∃ (k : Nat) (x : Gr) (sv' : Value) (vs' : List Value), Ln (gs.map grT) off k ∧ gs[k]? = some x ∧ LCr w' lo w'.heap.size c (.slice (some ⟨g, 0, none⟩) n cap) sv' vs' (gs.set k (insG x (off - sAt (gs.map grT) k) ts)) n n (rn + m) ((stL (gs.map grT)).take (k + 1)) ∧ Below lo w w' := by
  have hlw : lo ≤ w.heap.size := by omega
  have LC := hide (lineColLN lo hi c g cap n off sv vs gs rn st w h hN h2 hh hlc hch hs1 hst hsn hok (by omega) (by omega))
  have HOK := hide hok
  have HS1 := hide hs1
  have HT := hide hT
  have HN := hide hN
  have HM := hide hm
  have hLL := hide (show (gs.map grT).length = n by rw [List.length_map, hN])
  have HOF := hide hof
  have HJ := hide hj
  have hcc : n ≤ cap := by
    have h9 := h.rows.row
    rw [hN] at h9
    rcases h9.2 with ⟨e, _⟩ | ⟨_, _, _, e, _, _, h3, _⟩
    · cases e
    · simp only [Value.slice.injEq] at e
      obtain ⟨_, _, rfl⟩ := e
      exact h3
  clear h hok hst hs1 hT hj hof hm
  generalize hLS : gs.map grT = LS at *
  go_enter Tryz.func351, Tryz.ntmps351
  go_wp2_with fail
  refine LC.out.mono ?_
  rintro e w1 ⟨k, mm, sv1, rfl, hLn, hKn, hL1, hb1⟩
  have hkn : k < n := by have := hLn.1; rw [hLL.out] at this; exact this
  obtain ⟨x, hx⟩ : ∃ x, gs[k]? = some x := ⟨gs[k]'(by rw [HN.out]; exact hkn), by simp [HN.out, hkn]⟩
  have hlx : LS[k]? = some (grT x) := by rw [← hLS, List.getElem?_map, hx]; rfl
  have hcol := hLn.col HOF.out hlx
  obtain ⟨cc, hcc0⟩ : ∃ cc, cc = off - sAt LS k := ⟨_, rfl⟩
  rw [← hcc0] at hcol
  have ecol : (off : Int) - (sAt LS k : Nat) = (cc : Nat) := by have := hcol.2; omega
  rw [ecol]
  have hvl := hL1.rows.len
  obtain ⟨u, hu⟩ : ∃ u, vs[k]? = some u := ⟨vs[k]'(by rw [hvl, HN.out]; exact hkn), by simp [hvl, HN.out, hkn]⟩
  have hkm := hKn.lt hLn HS1.out
  have hmn : mm ≤ n := by have := hKn.2.1; rw [hLL.out] at this; exact this
  have AT := hide (atN c g cap n k n n w1 ⟨hL1.cells.1, hL1.cells.2.1, hL1.cells.2.2.1⟩ hkn (Nat.le_refl _) hcc (by omega))
  have L1 := hide hL1
  have B1 := hide hb1
  have LNN := hide hLn
  have HX := hide hx
  have HU := hide hu
  have HCC := hide hcc0
  have HCL := hide hcol
  have KM := hide hkm
  have hccb : cc ≤ 8192 := by have := hcol.1; have := (grT_len (HOK.out x (List.mem_of_getElem? hx)).1).2.1; omega
  have T1 := hide (show ∀ i, i < ts.length → w1.cell? ⟨b, o + i, none⟩ = some (.int .i32 (ts.getD i 0)) from fun i hi => (hb1.cell (p := ⟨b, o + i, none⟩) hbl).trans (HT.out i hi))
  have s1 := hb1.size
  clear hL1 hb1 hLn hKn hx hu hcc0 hcol hkm ecol hlx hvl LC HT
  go_wp2_with fail
  refine AT.out.mono ?_
  rintro e wx ⟨rfl, hwx⟩
  have hw2 := hwx.symm
  subst hw2
  clear hwx AT
  have CU := hide (cutL ts b o ct w1 T1.out (by omega) (by rw [HM.out]; have := HJ.out; omega) (by rw [HM.out]; exact hct) hcm)
  rw [HM.out, lns_no hts] at CU
  go_wp2_with fail
  refine CU.out.mono ?_
  rintro e w2 ⟨v2, vals, rfl, ho2, hat2, hb2⟩
  have s2 := hb2.size
  obtain ⟨av, cv, hv2⟩ := own_valT2 ho2
  subst hv2
  have L2 := hide (L1.out.below hb2 (Nat.le_refl _) L1.out.lt)
  have B2 := hide (B1.out.trans (hb2.mono (by omega)))
  have T2 := hide (show ∀ i, i < ts.length → w2.cell? ⟨b, o + i, none⟩ = some (.int .i32 (ts.getD i 0)) from fun i hi => (hb2.cell (p := ⟨b, o + i, none⟩) (by show b < w1.heap.size; omega)).trans (T1.out i hi))
  clear ho2 hat2 hb2 CU T1 L1 B1
  have RI := hide (rowInsN (p := cc) (ts := ts) (ap := some ⟨b, o, none⟩) (m := m) (cp := ct) L2.out.rows HN.out HX.out HU.out s2 (HOK.out x (List.mem_of_getElem? HX.out)).1 HCL.out.1 HM.out.symm (by
      have h8 := smL_get (ls := LS) (i := k) (l := grT x) (by rw [← hLS, List.getElem?_map, HX.out]; rfl)
      have h9 := jn_len (ls := LS) (by intro e; have := hLL.out; rw [e] at this; simp at this; omega)
      have := HJ.out
      have h7 := hLL.out
      omega) (fun w' hc => text_kept T2.out hc (by omega) (L2.out.off hbl HU.out) HM.out))
  go_wp2_with fail
  refine RI.out.mono ?_
  rintro e w3 ⟨rfl, u3, hO3, hC3⟩
  obtain ⟨hL3, hb3⟩ := L2.out.rowed s2 HU.out hlc hO3 hC3
  have s3 := hC3.size
  have B3 := hide (B2.out.trans hb3)
  have L4 := hide (hL3.setN (rn + m))
  obtain ⟨q0, q1, q2, q3, q4⟩ := hL3.cells
  have f3 := hL3.fz 3
  have hmb : m ≤ 8192 := by have := HJ.out; omega
  obtain ⟨as_, cs, hsv⟩ := o64_val L4.out.starts
  have hstl : ((stL LS).take mm).length = mm := by rw [List.length_take, stL_len, hLL.out]; omega
  rw [hstl] at hsv
  subst hsv
  have FG := hide (forgetN k L4.out hstl KM.out (by omega) hlc)
  rw [List.take_take, Nat.min_eq_left (by have := KM.out; omega)] at FG
  clear hL3 hb3 hO3 hC3 RI L2 B2 T2 hstl
  go_wp2_with fail
  refine FG.out.mono ?_
  rintro e w5 ⟨rfl, hL5, hb5, hs5⟩
  have L5 := hide hL5
  have B5 := hide ((B3.out.setCell (p := ⟨c, 3, none⟩) hlc (.int .i64 (rn + m))).trans hb5)
  have hs5' : w3.heap.size ≤ w5.heap.size := by rw [hs5]; simp
  clear hL5 hb5 FG
  go_wp2
  go_end0
  exact ⟨rfl, k, x, _, _, LNN.out, HX.out, by rw [← HCC.out]; exact L5.out.mono (Nat.le_refl _) hs5', B5.out⟩
end Go.Proofs.YtbgngikejgihgagGreatDoor

namespace Go.Proofs.YtbgngikejgihgagGreatDoor
open Go Go.RowKit
set_option linter.unusedVariables false

section
variable {w : World} {lo hi g cap n i : Nat} {vs : List Value} {gs : List Gr} {x : Gr} {u : Value}
/-- The length of a row among rows. -/
theorem rowLenN (h : OwG 177 w lo hi (.slice (some ⟨g, 0, none⟩) n cap) vs gs) (hn : gs.length = n) (hx : gs[i]? = some x) (hu : vs[i]? = some u) (hk : gkP x.cells x.lo x.hi) :
    Calls Tryz.prog 162 #[.pointer (some ⟨g, i * 3, none⟩)] w fun e w' => e = .returned (.int .i64 ((grT x).length : Nat)) ∧ ∃ n, w' = w.drewN n := by
  obtain ⟨hv, el, eh⟩ := gkP_GV hk
  have hgt : (grT x).length = x.cells.length - (x.hi.toNat - x.lo.toNat) := gtext_length hv.a hv.b
  have h1 := hv.a; have h2 := hv.b; have h3 := hv.c
  obtain ⟨cur, hcur, hgb⟩ := h.gb hn hx hu
  have ho : o32 w lo u x.cells := h.nest.own i u x.cells hu (by rw [List.getElem?_map, hx]; rfl)
  obtain ⟨ao, c0, rfl⟩ := o32_val ho
  have h9 := lengthG g (i * 3) ao x.cells.length c0 x.lo x.hi w hgb.gc (by omega) (by omega) (by omega) (by omega)
  rw [show (x.cells.length : Int) - (x.hi - x.lo) = ((grT x).length : Nat) by rw [hgt]; omega] at h9
  exact h9
/-- A part of a row among rows, read. -/
theorem rowReadN {a b : Nat} (h : OwG 177 w lo hi (.slice (some ⟨g, 0, none⟩) n cap) vs gs) (hn : gs.length = n) (hx : gs[i]? = some x) (hu : vs[i]? = some u) (hk : gkP x.cells x.lo x.hi) (hab : a ≤ b) (hb : b ≤ (grT x).length) :
    Calls Tryz.prog 361 #[.pointer (some ⟨g, i * 3, none⟩), .int .i64 a, .int .i64 b] w fun e w' => ∃ v', e = .returned v' ∧ o32 w' w.heap.size v' (((grT x).drop a).take (b - a)) ∧ Below w.heap.size w w' := by
  obtain ⟨hv, el, eh⟩ := gkP_GV hk
  have hgt : (grT x).length = x.cells.length - (x.hi.toNat - x.lo.toNat) := gtext_length hv.a hv.b
  have h1 := hv.a; have h2 := hv.b; have h3 := hv.c
  obtain ⟨cur, hcur, hgb⟩ := h.gb hn hx hu
  have ho : o32 w lo u x.cells := h.nest.own i u x.cells hu (by rw [List.getElem?_map, hx]; rfl)
  have hl : (((grT x).drop a).take (b - a)).length = b - a := by simp only [List.length_take, List.length_drop]; omega
  rcases row_cases ho with ⟨rfl, e0⟩ | ⟨g0, c0, rfl⟩
  · have hl0 : x.lo.toNat = 0 ∧ x.hi.toNat = 0 := by rw [e0] at h2; simp at h2; omega
    have hg0 : grT x = [] := List.eq_nil_of_length_eq_zero (by rw [hgt, e0]; simp)
    have hb0 : b = 0 := by rw [hg0] at hb; simpa using hb
    have ha0 : a = 0 := by omega
    subst hb0 ha0
    have hgc := hgb.gc
    rw [el, eh, hl0.1, hl0.2] at hgc
    refine (readNil g (i * 3) w hgc).mono ?_
    rintro e w' ⟨v', rfl, h5, h6⟩
    refine ⟨v', rfl, ?_, h6⟩
    rw [hg0]; exact h5
  · obtain ⟨hb0, hc0, hm0, sp, hrw, hsp⟩ := Rw.of_owns ho
    have hgc := hgb.gc
    rw [el, eh] at hgc
    refine (readN g (i * 3) g0 c0 x.cells x.lo.toNat x.hi.toNat a b w hgc (row_cells hrw) (ho.lt g0 rfl).2 h1 h2 (by omega) hc0 hm0 hab (by omega)).mono ?_
    rintro e w' ⟨v', rfl, h5, h6⟩
    refine ⟨v', rfl, ?_, h6⟩
    unfold o32
    rw [hl]; exact h5
end
end Go.Proofs.YtbgngikejgihgagGreatDoor
