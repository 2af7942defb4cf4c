import Derived.Test.YtbgngikejgihgagGreatDoorMq44
import Derived.Test.YtbgngikejgihgagGreatDoorMq46
namespace Go.Proofs.YtbgngikejgihgagGreatDoor
open Go Go.RowKit
set_option linter.unusedVariables false

theorem AT.split_its (T : AT) (k : Nat) (h : k ≤ T.its) : (T.split k).1.its = k ∧ (T.split k).2.its = T.its - k := by
  have h1 := AT.split_flat T k h
  have a := congrArg List.length h1.1
  have b := congrArg List.length h1.2
  rw [AT.flat_length, List.length_take, AT.flat_length] at a
  rw [AT.flat_length, List.length_drop, AT.flat_length] at b
  exact ⟨by omega, b⟩

set_option maxHeartbeats 2000000 in
set_option maxRecDepth 100000 in
theorem splitS : ∀ (T : AT) (k : Nat) (v : Value) (base : Nat) (w : World), T.bal → T.its ≤ 8192 → k ≤ T.its → OwI w base v (T.told 0) →
    Calls Tryz.prog 146 #[v, .int .i64 (k : Int)] w fun e w' => ∃ x y, e = .returned (.tuple #[x, y]) ∧ OwI w' w.heap.size x ((T.split k).1.told 0) ∧ OwI w' w.heap.size y ((T.split k).2.told 0) ∧ Below w.heap.size w w' := by
  intro T
  induction T with
  | nil =>
    intro k v base w _ _ hk ho
    obtain ⟨ao, cx, rfl⟩ := (OwI.rd ho).val
    have BR := hide (Below.refl w.heap.size w)
    clear ho
    go_enter Tryz.func146, Tryz.ntmps146
    go_wp2
    refine bodyPost_ret (v := .tuple #[_, _]) (by simp [results, Tryz.results146, go_sem]) rfl ⟨_, _, rfl, ⟨rfl, .inl ⟨rfl, rfl⟩⟩, ⟨rfl, .inl ⟨rfl, rfl⟩⟩, BR.out⟩
  | node l p r ihl ihr =>
    intro k v base w hb hn hk ho
    have hla := AT.told_length (AT.node l p r) 0
    obtain ⟨hbl, hbr, hd, hd2⟩ := hb
    obtain ⟨b, ca, rfl, hcap, hcm⟩ : ∃ b ca, v = .slice (some ⟨b, 0, none⟩) (AT.node l p r).its ca ∧ (AT.node l p r).its ≤ ca ∧ ca ≤ maxLen := by
      rcases ho.2 with ⟨h1, h2⟩ | ⟨g, cp, cur, h1, _, _, h2, h3, _⟩
      · exact absurd h2 (by rw [hla]; simp only [AT.its]; omega)
      · rw [hla] at h1 h2; exact ⟨g, cp, h1, h2, h3⟩
    unfold maxLen at hcm
    have hni : l.its + 1 + r.its = (AT.node l p r).its := rfl
    have hXL : (AT.node l p r).told 0 = l.told 1 ++ ⟨p, 0⟩ :: r.told 1 := by simp [AT.told]
    have hX1 : (AT.node l p r).told 0 = l.told 1 ++ (⟨p, 0⟩ :: r.told 1) := hXL
    have hX2 : (AT.node l p r).told 0 = (l.told 1 ++ [⟨p, 0⟩]) ++ r.told 1 := by rw [hXL]; simp
    have hk2 : ((AT.node l p r).told 0)[l.its]? = some ⟨p, 0⟩ := by
      rw [hXL, List.getElem?_append_right (by rw [AT.told_length]; exact Nat.le_refl _), AT.told_length, Nat.sub_self]; rfl
    have LV := lv_told (AT.node l p r) (by omega)
    have LVL := hide (lv_part (A := []) (Z := l.told 1) (B := ⟨p, 0⟩ :: r.told 1) (by rw [hXL]; simp) LV)
    have LVR := hide (lv_part (A := l.told 1 ++ [⟨p, 0⟩]) (Z := r.told 1) (B := []) (by rw [hXL]; simp) LV)
    have CH := hide (childSub w.heap.size (.slice (some ⟨b, 0, none⟩) (AT.node l p r).its ca) ((AT.node l p r).told 0) w ho.rd (by omega) (A := []) (B := []) (l := l) (q := p) (r := r) (e := 0) (by simp) ⟨fun a h => by simp at h, fun a h => by simp at h⟩ 0 ((AT.node l p r).its : Int) rfl (by simp))
    rw [List.length_nil, Nat.zero_add] at CH
    have hbw := (ho.lt b rfl).2
    have OH := hide (fun W (hW : Below w.heap.size w W) => owns_below ho hW (Nat.le_refl _))
    have LL := hide (fun W (hW : Below w.heap.size w W) => liftS (-1) (l.told 1) (.slice (some ⟨b, 0, none⟩) l.its ca) W (.inr ⟨b, 0, ca, by rw [AT.told_length], Nat.lt_of_lt_of_le hbw hW.size, srcI_take (OH.out W hW) hla hX1⟩) (by rw [AT.told_length]; omega) (by omega) LVL.out)
    have LR := hide (fun W (u : Value) (hW : Below w.heap.size w W) (hs : SrcI W u (r.told 1)) => liftS (-1) (r.told 1) u W hs (by rw [AT.told_length]; omega) (by omega) LVR.out)
    have SRC := hide (fun W (hW : Below w.heap.size w W) => (show SrcI W (.slice (some ⟨b, (l.its + 1) * 4, none⟩) ((AT.node l p r).its - (l.its + 1)) (ca - (l.its + 1))) (r.told 1) from .inr ⟨b, (l.its + 1) * 4, ca - (l.its + 1), by rw [AT.told_length]; congr 1; omega, Nat.lt_of_lt_of_le hbw hW.size, by have h9 := srcI_drop (OH.out W hW) hla hX2; rw [List.length_append, AT.told_length] at h9; exact h9⟩))
    have SRN := hide (fun (W : World) (hW : Below w.heap.size w W) (h0 : r.its = 0) => (show SrcI W (.slice (some ⟨b, 0, none⟩) 0 0) (r.told 1) from (by
      have h9 : r.told 1 = [] := List.eq_nil_of_length_eq_zero (by rw [AT.told_length]; exact h0)
      rw [h9]
      exact .inr ⟨b, 0, 0, rfl, Nat.lt_of_lt_of_le hbw hW.size, by intro j u hj; simp [itVs] at hj⟩)))
    rw [lift_told, AT.told_length, show (1 : Int) + -1 = 0 by omega] at LL LR
    have C3 := hide (fun W (hW : Below w.heap.size w W) => OwI.c3 (by have h9 := OH.out W hW; rw [hla] at h9; exact h9) hk2)
    have IHL := hide (fun (W : World) (u : Value) (bs : Nat) (h : OwI W bs u (l.told 0)) (hk : k ≤ l.its) => ihl k u bs W hbl (by omega) hk h)
    have IHR := hide (fun (W : World) (u : Value) (bs : Nat) (h : OwI W bs u (r.told 0)) (hk : k - l.its - 1 ≤ r.its) => ihr (k - l.its - 1) u bs W hbr (by omega) hk h)
    have JL := hide (fun (hkl : k ≤ l.its) (W : World) (u u2 : Value) (bs bs2 : Nat) (h : OwI W bs u ((l.split k).2.told 0)) (h2 : OwI W bs2 u2 (r.told 0)) => joinS (l.split k).2 r p bs bs2 u u2 W (AT.split_bal l k hbl).2 hbr (by rw [(AT.split_its l k hkl).2]; omega) h h2)
    have JR := hide (fun (hkl : k - l.its - 1 ≤ r.its) (W : World) (u u2 : Value) (bs bs2 : Nat) (h : OwI W bs u (l.told 0)) (h2 : OwI W bs2 u2 ((r.split (k - l.its - 1)).1.told 0)) => joinS l (r.split (k - l.its - 1)).1 p bs bs2 u u2 W hbl (AT.split_bal r _ hbr).1 (by rw [(AT.split_its r _ hkl).1]; omega) h h2)
    unfold pcV at JL JR
    have SPL := hide (fun hkl : k ≤ l.its => (show (AT.node l p r).split k = ((l.split k).1, AT.spl (l.split k).2 p r) from (by simp only [AT.split, if_pos hkl])))
    have SPR := hide (fun hkl : ¬ k ≤ l.its => (show (AT.node l p r).split k = (AT.spl l p (r.split (k - l.its - 1)).1, (r.split (k - l.its - 1)).2) from (by simp only [AT.split, if_neg hkl])))
    clear ihl ihr hd hd2 hbl hbr hla hXL hX1 hX2 hk2 LV
    generalize (AT.node l p r).its = n at *
    generalize (AT.node l p r).split k = SP at *
    have B0 := hide (Below.refl w.heap.size w)
    have OL0 := hide (ho)
    clear ho
    have ql : (l.its : Int) ≤ (ca : Int) := by omega
    have ql2 : (l.its : Int) + 1 ≤ (ca : Int) := by omega
    have ql3 : (l.its : Int) < (n : Int) := by omega
    by_cases hkl : k ≤ l.its
    · have JJ := hide (JL.out hkl)
      rw [SPL.out hkl]
      have gk : (k : Int) ≤ (l.its : Int) := by omega
      generalize (l.split k).1 = S1 at *
      generalize (l.split k).2 = S2 at *
      go_enter Tryz.func146, Tryz.ntmps146
      go_wp2_with fail
      refine CH.out.mono ?_
      rintro e w1 ⟨rfl, q, hw1⟩
      have B1 := hide (show Below w.heap.size w w1 from (by rw [hw1]; exact ⟨rfl, rfl, rfl, Nat.le_refl _, fun _ _ => rfl⟩))
      have s1 := B1.out.size
      clear hw1 CH
      go_wp2_with fail
      refine (LL.out w1 B1.out).mono ?_
      rintro e w2 ⟨gl, cl, rfl, hol, hbl⟩
      have B2 := hide (B1.out.trans (hbl.mono s1))
      have s2 := hbl.size
      have OL := hide hol
      clear hol hbl LL
      by_cases hck : ca = l.its + 1
      · have h00 : r.its = 0 := by omega
        have hta : n = l.its + 1 := by omega
        have LF := hide (LR.out w2 _ B2.out (SRN.out w2 B2.out h00))
        rw [h00] at LF
        go_wp2_with fail
        refine LF.out.mono ?_
        rintro e w3 ⟨gr, cr, rfl, hor, hbr⟩
        have B3 := hide (B2.out.trans (hbr.mono (by omega)))
        have s3 := hbr.size
        have OR3 := hide hor
        have OL3 := hide (owns_below OL.out hbr (Nat.le_refl _))
        clear hor hbr LF hta
        have IH := hide (IHL.out w3 _ _ OL3.out hkl)
        go_wp2_with fail
        refine IH.out.mono ?_
        rintro e w4 ⟨x, y, rfl, hx, hy, hb4⟩
        have B4 := hide (B3.out.trans (hb4.mono (by omega)))
        have s4 := hb4.size
        have X4 := hide hx
        have JC := hide (JJ.out w4 y _ _ _ hy (owns_below OR3.out hb4 (Nat.le_refl _)))
        obtain ⟨c0, c1, c2⟩ := C3.out w4 B4.out
        clear hx hy hb4 IH
        go_wp2_with fail
        refine JC.out.mono ?_
        rintro e w5 ⟨z, rfl, hz, hb5⟩
        have B5 := hide (B4.out.trans (hb5.mono (by omega)))
        have X5 := hide (owns_base (owns_below X4.out hb5 (Nat.le_refl _)) (show w.heap.size ≤ w3.heap.size by omega))
        have Z5 := hide (owns_base hz (show w.heap.size ≤ w4.heap.size by omega))
        clear hz hb5 JC c0 c1 c2
        go_wp2
        refine bodyPost_ret (v := .tuple #[_, _]) (by simp [results, Tryz.results146, go_sem]) rfl ⟨_, _, rfl, X5.out, Z5.out, B5.out⟩
      · have LF := hide (LR.out w2 _ B2.out (SRC.out w2 B2.out))
        rw [show r.its = n - (l.its + 1) by omega] at LF
        go_wp2_with fail
        refine LF.out.mono ?_
        rintro e w3 ⟨gr, cr, rfl, hor, hbr⟩
        have B3 := hide (B2.out.trans (hbr.mono (by omega)))
        have s3 := hbr.size
        have OR3 := hide hor
        have OL3 := hide (owns_below OL.out hbr (Nat.le_refl _))
        clear hor hbr LF
        have IH := hide (IHL.out w3 _ _ OL3.out hkl)
        go_wp2_with fail
        refine IH.out.mono ?_
        rintro e w4 ⟨x, y, rfl, hx, hy, hb4⟩
        have B4 := hide (B3.out.trans (hb4.mono (by omega)))
        have s4 := hb4.size
        have X4 := hide hx
        have JC := hide (JJ.out w4 y _ _ _ hy (owns_below OR3.out hb4 (Nat.le_refl _)))
        obtain ⟨c0, c1, c2⟩ := C3.out w4 B4.out
        clear hx hy hb4 IH
        go_wp2_with fail
        refine JC.out.mono ?_
        rintro e w5 ⟨z, rfl, hz, hb5⟩
        have B5 := hide (B4.out.trans (hb5.mono (by omega)))
        have X5 := hide (owns_base (owns_below X4.out hb5 (Nat.le_refl _)) (show w.heap.size ≤ w3.heap.size by omega))
        have Z5 := hide (owns_base hz (show w.heap.size ≤ w4.heap.size by omega))
        clear hz hb5 JC c0 c1 c2
        go_wp2
        refine bodyPost_ret (v := .tuple #[_, _]) (by simp [results, Tryz.results146, go_sem]) rfl ⟨_, _, rfl, X5.out, Z5.out, B5.out⟩
    · have hkr : k - l.its - 1 ≤ r.its := by omega
      have JJ := hide (JR.out hkr)
      rw [SPR.out hkl]
      have gk : ¬ (k : Int) ≤ (l.its : Int) := by omega
      generalize (r.split (k - l.its - 1)).1 = S1 at *
      generalize (r.split (k - l.its - 1)).2 = S2 at *
      go_enter Tryz.func146, Tryz.ntmps146
      go_wp2_with fail
      refine CH.out.mono ?_
      rintro e w1 ⟨rfl, q, hw1⟩
      have B1 := hide (show Below w.heap.size w w1 from (by rw [hw1]; exact ⟨rfl, rfl, rfl, Nat.le_refl _, fun _ _ => rfl⟩))
      have s1 := B1.out.size
      clear hw1 CH
      go_wp2_with fail
      refine (LL.out w1 B1.out).mono ?_
      rintro e w2 ⟨gl, cl, rfl, hol, hbl⟩
      have B2 := hide (B1.out.trans (hbl.mono s1))
      have s2 := hbl.size
      have OL := hide hol
      clear hol hbl LL
      by_cases hck : ca = l.its + 1
      · have h00 : r.its = 0 := by omega
        have hta : n = l.its + 1 := by omega
        have LF := hide (LR.out w2 _ B2.out (SRN.out w2 B2.out h00))
        rw [h00] at LF
        go_wp2_with fail
        refine LF.out.mono ?_
        rintro e w3 ⟨gr, cr, rfl, hor, hbr⟩
        have B3 := hide (B2.out.trans (hbr.mono (by omega)))
        have s3 := hbr.size
        have OR3 := hide hor
        have OL3 := hide (owns_below OL.out hbr (Nat.le_refl _))
        clear hor hbr LF hta
        have IH := hide (IHR.out w3 _ _ OR3.out hkr)
        rw [show ((k - l.its - 1 : Nat) : Int) = (k : Int) - (l.its : Int) - 1 by omega] at IH
        go_wp2_with fail
        refine IH.out.mono ?_
        rintro e w4 ⟨x, y, rfl, hx, hy, hb4⟩
        have B4 := hide (B3.out.trans (hb4.mono (by omega)))
        have s4 := hb4.size
        have Y4 := hide hy
        have JC := hide (JJ.out w4 _ x _ _ (owns_below OL3.out hb4 (Nat.le_refl _)) hx)
        obtain ⟨c0, c1, c2⟩ := C3.out w4 B4.out
        clear hx hy hb4 IH
        go_wp2_with fail
        refine JC.out.mono ?_
        rintro e w5 ⟨z, rfl, hz, hb5⟩
        have B5 := hide (B4.out.trans (hb5.mono (by omega)))
        have Y5 := hide (owns_base (owns_below Y4.out hb5 (Nat.le_refl _)) (show w.heap.size ≤ w3.heap.size by omega))
        have Z5 := hide (owns_base hz (show w.heap.size ≤ w4.heap.size by omega))
        clear hz hb5 JC c0 c1 c2
        go_wp2
        refine bodyPost_ret (v := .tuple #[_, _]) (by simp [results, Tryz.results146, go_sem]) rfl ⟨_, _, rfl, Z5.out, Y5.out, B5.out⟩
      · have LF := hide (LR.out w2 _ B2.out (SRC.out w2 B2.out))
        rw [show r.its = n - (l.its + 1) by omega] at LF
        go_wp2_with fail
        refine LF.out.mono ?_
        rintro e w3 ⟨gr, cr, rfl, hor, hbr⟩
        have B3 := hide (B2.out.trans (hbr.mono (by omega)))
        have s3 := hbr.size
        have OR3 := hide hor
        have OL3 := hide (owns_below OL.out hbr (Nat.le_refl _))
        clear hor hbr LF
        have IH := hide (IHR.out w3 _ _ OR3.out hkr)
        rw [show ((k - l.its - 1 : Nat) : Int) = (k : Int) - (l.its : Int) - 1 by omega] at IH
        go_wp2_with fail
        refine IH.out.mono ?_
        rintro e w4 ⟨x, y, rfl, hx, hy, hb4⟩
        have B4 := hide (B3.out.trans (hb4.mono (by omega)))
        have s4 := hb4.size
        have Y4 := hide hy
        have JC := hide (JJ.out w4 _ x _ _ (owns_below OL3.out hb4 (Nat.le_refl _)) hx)
        obtain ⟨c0, c1, c2⟩ := C3.out w4 B4.out
        clear hx hy hb4 IH
        go_wp2_with fail
        refine JC.out.mono ?_
        rintro e w5 ⟨z, rfl, hz, hb5⟩
        have B5 := hide (B4.out.trans (hb5.mono (by omega)))
        have Y5 := hide (owns_base (owns_below Y4.out hb5 (Nat.le_refl _)) (show w.heap.size ≤ w3.heap.size by omega))
        have Z5 := hide (owns_base hz (show w.heap.size ≤ w4.heap.size by omega))
        clear hz hb5 JC c0 c1 c2
        go_wp2
        refine bodyPost_ret (v := .tuple #[_, _]) (by simp [results, Tryz.results146, go_sem]) rfl ⟨_, _, rfl, Z5.out, Y5.out, B5.out⟩
end Go.Proofs.YtbgngikejgihgagGreatDoor

namespace Go.Proofs.YtbgngikejgihgagGreatDoor
open Go Go.RowKit
set_option linter.unusedVariables false

theorem AT.rem_its0 (T : AT) (h : 0 < T.its) : (T.rem 0).its = T.its - 1 := by
  rw [← AT.flat_length, AT.rem_flat T 0 h]
  simp only [List.length_append, List.length_take, List.length_drop, AT.flat_length]
  omega

set_option maxHeartbeats 2000000 in
set_option maxRecDepth 100000 in
theorem bothS (TA TB : AT) (ba bb : Nat) (va vb : Value) (w : World) (hA : TA.bal) (hB : TB.bal) (hn : TA.its + TB.its ≤ 8192) (oa : OwI w ba va (TA.told 0)) (ob : OwI w bb vb (TB.told 0)) :
    Calls Tryz.prog 147 #[va, vb] w fun e w' => ∃ v', e = .returned v' ∧ OwI w' w.heap.size v' ((AT.join TA TB).told 0) ∧ Below w.heap.size w w' := by
  have hla := AT.told_length TA 0
  have hlb := AT.told_length TB 0
  obtain ⟨ao, ca, hva⟩ : ∃ ao ca, va = .slice ao TA.its ca := by
    obtain ⟨ao, cx, h⟩ := (OwI.rd oa).val
    exact ⟨ao, cx, by rw [h, hla]⟩
  subst hva
  cases TA with
  | nil =>
    obtain ⟨bo, cb, hvb⟩ : ∃ bo cb, vb = .slice bo TB.its cb := by
      obtain ⟨bo, cx, h⟩ := (OwI.rd ob).val
      exact ⟨bo, cx, by rw [h, hlb]⟩
    subst hvb
    have CP := hide (copyG (TB.told 0) _ w (SrcI.of ob) (by omega))
    have e9 : AT.join .nil TB = TB := rfl
    rw [e9]
    clear oa ob hla hlb hA hB e9
    go_enter Tryz.func147, Tryz.ntmps147
    go_wp2_with fail
    refine CP.out.mono ?_
    rintro e w1 ⟨g, cp, rfl, ho1, hb1⟩
    have O1 := hide ho1
    have B1 := hide hb1
    clear ho1 hb1
    go_wp2
    go_ret
    exact ⟨_, rfl, O1.out, B1.out⟩
  | node al ap ar =>
    have hnz : (AT.node al ap ar).its = al.its + 1 + ar.its := rfl
    have na0 : ¬ (((AT.node al ap ar).its : Int) = 0) := by omega
    have CPA := hide (copyG ((AT.node al ap ar).told 0) _ w (SrcI.of oa) (by omega))
    cases TB with
    | nil =>
      obtain ⟨bo, cb, hvb⟩ : ∃ bo cb, vb = .slice bo 0 cb := by
        obtain ⟨bo, cx, h⟩ := (OwI.rd ob).val
        exact ⟨bo, cx, by rw [h, hlb]; rfl⟩
      subst hvb
      have e9 : AT.join (.node al ap ar) .nil = .node al ap ar := rfl
      rw [e9]
      generalize AT.node al ap ar = TA at *
      clear oa ob hla hlb hA hB e9 hnz
      go_enter Tryz.func147, Tryz.ntmps147
      go_wp2_with fail
      refine CPA.out.mono ?_
      rintro e w1 ⟨g, cp, rfl, ho1, hb1⟩
      have O1 := hide ho1
      have B1 := hide hb1
      clear ho1 hb1
      go_wp2
      go_ret
      exact ⟨_, rfl, O1.out, B1.out⟩
    | node bl bp br =>
      have hnb : (AT.node bl bp br).its = bl.its + 1 + br.its := rfl
      have nb0 : ¬ (((AT.node bl bp br).its : Int) = 0) := by omega
      obtain ⟨b, cb, rfl, hcap, hcm⟩ : ∃ b cb, vb = .slice (some ⟨b, 0, none⟩) (AT.node bl bp br).its cb ∧ (AT.node bl bp br).its ≤ cb ∧ cb ≤ maxLen := by
        rcases ob.2 with ⟨h1, h2⟩ | ⟨g, cp, cur, h1, _, _, h2, h3, _⟩
        · exact absurd h2 (by rw [hlb]; omega)
        · rw [hlb] at h1 h2; exact ⟨g, cp, h1, h2, h3⟩
      have e9 : AT.join (.node al ap ar) (.node bl bp br) = AT.spl (.node al ap ar) (AT.first (.node bl bp br)) (AT.rem (.node bl bp br) 0) := rfl
      rw [e9]
      obtain ⟨s, Q, f, hf1, _⟩ := AT.first_at (AT.node bl bp br) 0 (by simp)
      have hy : ((AT.node bl bp br).told 0)[0]? = some ⟨AT.first (AT.node bl bp br), f⟩ := by rw [hf1]; rfl
      have hrb := AT.rem_bal (AT.node bl bp br) 0 hB (by omega)
      have hri := AT.rem_its0 (AT.node bl bp br) (by omega)
      generalize AT.node al ap ar = TA at *
      generalize AT.node bl bp br = TB at *
      have DL := hide (fun W (ho : OwI W bb (.slice (some ⟨b, 0, none⟩) TB.its cb) (TB.told 0)) => deleteS TB 0 bb b cb W hB (by omega) (by omega) ho)
      have JN := hide (fun W (u : Value) (b1 b2 : Nat) (h1 : OwI W b1 (.slice ao TA.its ca) (TA.told 0)) (h2 : OwI W b2 u ((TB.rem 0).told 0)) => joinS TA (TB.rem 0) (AT.first TB) b1 b2 _ u W hA hrb.1 (by omega) h1 h2)
      unfold pcV at JN
      obtain ⟨c0, c1, c2⟩ := OwI.c3 (by have h9 := ob; unfold OwI at h9; rw [hlb] at h9; exact h9) hy
      rw [Nat.zero_mul] at c0
      rw [Nat.zero_mul, Nat.zero_add] at c1
      rw [Nat.zero_mul, Nat.zero_add] at c2
      simp only at c0 c1 c2
      have hbw := (ob.lt b rfl).2
      have OA := hide oa
      have OB := hide ob
      generalize AT.first TB = q at *
      generalize TB.rem 0 = TR at *
      generalize AT.spl TA q TR = U at *
      have z0 : (0 : Int) < (TB.its : Int) := by omega
      clear oa ob hla hlb hA hB e9 hnz hnb hf1 hy hrb hri
      unfold maxLen at hcm
      go_enter Tryz.func147, Tryz.ntmps147
      go_upto_region 5 with fail
      go_cut [4] (fun s wc => OwI wc w.heap.size s (U.told 0) ∧ Below w.heap.size w wc)
      case first =>
        go_region_with (first
          | (go_at_call 148; refine (DL.out _ (by exact owns_of_block OB.out (fun _ _ => rfl))).mono ?_; rintro e y1 ⟨v7, rfl, ho7, hb7⟩; have b7 : Below w.heap.size w y1 := ⟨hb7.os, hb7.tape, hb7.output, hb7.size, hb7.block⟩; have BB1 := hide b7; have s7 := b7.size; have O7 := hide ho7; have OA7 := hide (owns_below OA.out b7 (Nat.le_refl _)); have d0 := (b7.cell (p := ⟨b, 0, none⟩) hbw).trans c0; have d1 := (b7.cell (p := ⟨b, 1, none⟩) hbw).trans c1; have d2 := (b7.cell (p := ⟨b, 2, none⟩) hbw).trans c2; clear hb7 ho7 b7)
          | (go_at_call 186; refine (JN.out _ _ _ _ (by exact owns_of_block OA7.out (fun _ _ => rfl)) (by exact owns_of_block O7.out (fun _ _ => rfl))).mono ?_; rintro e y2 ⟨v8, rfl, ho8, hb8⟩; have BB2 := hide (BB1.out.trans ((show Below y1.heap.size y1 y2 from ⟨hb8.os, hb8.tape, hb8.output, hb8.size, hb8.block⟩).mono s7)); have O8 := hide (owns_base ho8 (show w.heap.size ≤ y1.heap.size from s7)); clear hb8 ho8))
        all_goals (go_wp2_with fail; go_meet; exact ⟨O8.out, BB2.out⟩)
      case rest =>
      obtain ⟨ho, hb⟩ := hcut
      have HO := hide ho
      have HB := hide hb
      clear ho hb
      go_wp2
      go_ret
      exact ⟨_, rfl, HO.out, HB.out⟩
end Go.Proofs.YtbgngikejgihgagGreatDoor
