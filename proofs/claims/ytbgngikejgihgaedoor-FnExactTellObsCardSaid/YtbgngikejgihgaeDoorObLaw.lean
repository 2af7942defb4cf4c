import Derived.Test.YtbgngikejgihgaeDoorObI
import Derived.Test.YtbgngikejgihgaeDoorObT
import Derived.Test.YtbgngikejgihgaeDoorObE
import Derived.Test.YtbgngikejgihgaeDoorObQ
import Derived.Test.YtbgngikejgihgaeDoorEq8
import Derived.Test.YtbgngikejgihgaeDoorMark8
import Derived.Test.YtbgngikejgihgaeDoorHeld8
namespace Go.Proofs.YtbgngikejgihgaeDoor
open Go Go.RowKit
set_option linter.unusedVariables false

theorem eq8B (zs : List Int) (v u : Value) (w : World) (h1 : Rd .u8 w v zs) (h2 : Rd .u8 w u zs) (hn : zs.length ≤ 1099511627776) :
    Calls Tryd.prog 19 #[v, u] w fun e w' => e = .returned (.bool true) ∧ Below w.heap.size w w' :=
  (eq8 zs v u w h1 h2 hn).mono fun e w' ⟨h, n, hw⟩ => ⟨h, by subst hw; exact below_drewN0 _ _ _⟩

set_option maxHeartbeats 1000000 in
set_option maxRecDepth 100000 in
theorem lawLong (xs : List Ob) (v : Value) (w : World) (h : RdO w v xs) (hn : xs.length ≤ maxLen) (hs : 1048576 < szOs xs) :
    Calls Tryd.prog 5 #[v] w fun e w' => e = .returned (.bool true) ∧ Below w.heap.size w w' := by
  have HS := hide (szObsL xs v 1048576 w h hn (by omega))
  rw [if_pos (by omega)] at HS
  obtain ⟨ao, cap, hv⟩ := h.val
  subst hv
  clear h
  go_enter Tryd.func5, Tryd.ntmps5
  go_wp2_with fail
  refine HS.out.mono ?_
  rintro e w1 ⟨rfl, hb⟩
  have HB := hide hb
  clear hb
  go_wp2
  go_ret
  exact ⟨rfl, HB.out⟩

theorem OwO.hi {w : World} {lo hi : Nat} {v : Value} {vts vms : List Value} {xs : List Ob} (h : OwO w lo hi v vts vms xs) : vts.length = xs.length ∧ vms.length = xs.length := ⟨by rw [h.nt.len, List.length_map], by rw [h.nm.len, List.length_map]⟩

set_option maxHeartbeats 4000000 in
set_option maxRecDepth 100000 in
theorem law (xs : List Ob) (v : Value) (w0 : World) (h : RdO w0 v xs) (hok : ∀ x ∈ xs, OkO x) (hs : szOs xs ≤ 1048576) (htab : Tab w0.heap.size w0) :
    Calls Tryd.prog 5 #[v] w0 fun e w' => e = .returned (.bool true) ∧ Below w0.heap.size w0 w' := by
  have hnl : xs.length ≤ 1048576 := by unfold szOs at hs; omega
  have HS := hide (szObsL xs v 1048576 w0 h (by unfold maxLen; omega) (by omega))
  rw [if_neg (by omega)] at HS
  have hmx : ∀ x ∈ xs, x.t.length ≤ maxLen ∧ x.m.length ≤ maxLen := fun x hx => by
    obtain ⟨i, hi⟩ := List.getElem?_of_mem hx
    have h1 := szOs_take_succ hi
    have h2 := szOs_take xs (i + 1)
    unfold szO at h1
    unfold maxLen
    omega
  obtain ⟨ao, cap, hv⟩ := h.val
  subst hv
  have H0 := hide (fun (W : World) (hW : Below w0.heap.size w0 W) => toObsL xs _ W (h.below hW) hs)
  have TB := hide (fun (W : World) (hW : Below w0.heap.size w0 W) => (show Tab W.heap.size W from Lib.tabBelow_of_tabIs (htab W hW)))
  have SP := hide (fun v W (hr : RdO W v xs) => specTell xs v W hr hok hs)
  have IM := hide (fun v W (hr : RdO W v xs) ht => implTell xs v W hr hok hs ht)
  have EQX := hide (fun v u W (h1 : RdO W v xs) (h2 : RdO W u xs) => eqObsL xs v u W h1 h2 hs)
  have hla : (obsB xs).length ≤ 187695104 := by have := obsB_length xs hok; omega
  have EQY := hide (fun v u W h1 h2 => eq8B (obsB xs) v u W h1 h2 (by omega))
  have MKO := hide (fun lo g vts vms W (hM : MkO W lo g xs.length vts vms xs) h1 h2 => markObsL lo g xs.length vts vms xs W hM hs rfl h1 h2)
  have HMX := hide hmx
  have hnn : ¬ (1048576 - (szOs xs : Int)) < 0 := by omega
  have hsz0 : (szOs xs : Int) ≤ 1048576 := by omega
  generalize obsB xs = ys at *
  generalize hQ : (szOs xs : Int) = sq at *
  generalize hN : xs.length = n at *
  have HNN := hide hN
  clear h htab hok hN hmx hs hQ
  go_enter Tryd.func5, Tryd.ntmps5
  go_wp2_with fail
  refine HS.out.mono ?_
  rintro e y0 ⟨rfl, hb⟩
  have B0 := hide hb
  have s0 := hb.size
  clear hb HS
  go_wp2_with fail
  refine (H0.out _ B0.out).mono ?_
  rintro e y1 ⟨rfl, ⟨ta, ma, hoA⟩, hb⟩
  have OA := hide hoA
  have B1 := hide (B0.out.trans (hb.mono (by omega)))
  have s1 := hb.size
  clear hoA hb
  go_wp2_with fail
  refine (SP.out _ _ (OA.out.rd HMX.out)).mono ?_
  rintro e y2 ⟨vw, rfl, hoW, hb⟩
  have OW := hide hoW
  have B2 := hide (B1.out.trans (hb.mono (by omega)))
  have s2 := hb.size
  clear hoW hb OA
  go_wp2_with fail
  refine (H0.out _ B2.out).mono ?_
  rintro e y3 ⟨rfl, ⟨tx, mx, hoX⟩, hb⟩
  have OX := hide hoX
  have OW3 := hide (OW.out.below hb)
  have B3 := hide (B2.out.trans (hb.mono (by omega)))
  have s3 := hb.size
  clear hoX hb OW
  go_wp2_with fail
  refine (IM.out _ _ (OX.out.rd HMX.out) (TB.out _ B3.out)).mono ?_
  rintro e y4 ⟨vg, rfl, hoG, hb⟩
  have OG := hide hoG
  have LG := hide (fun q (hq : Value.ownBlock vg = some q) => hoG.lt q hq)
  have LW := hide (fun q (hq : Value.ownBlock vw = some q) => OW3.out.lt q hq)
  have OX4 := hide (OX.out.below hb (Nat.le_refl _))
  have OW4 := hide (OW3.out.below hb)
  have B4 := hide (B3.out.trans (hb.mono (by omega)))
  have s4 := hb.size
  clear hoG hb OX OW3
  go_wp2_with fail
  refine (EQY.out _ _ _ OG.out.rd OW4.out.rd).mono ?_
  rintro e y5 ⟨rfl, hb⟩
  have OX5 := hide (OX4.out.below hb s4)
  have OW5 := hide (OW4.out.below hb)
  have OG5 := hide (OG.out.below hb)
  have B5 := hide (B4.out.trans (hb.mono (by omega)))
  have s5 := hb.size
  clear hb OX4 OW4 OG
  go_wp2_with fail
  refine (H0.out _ B5.out).mono ?_
  rintro e y6 ⟨rfl, ⟨ty, my, hoY⟩, hb⟩
  have OY := hide hoY
  have OX6 := hide (OX5.out.below hb (by omega))
  have OW6 := hide (OW5.out.below hb)
  have OG6 := hide (OG5.out.below hb)
  have B6 := hide (B5.out.trans (hb.mono (by omega)))
  have s6 := hb.size
  clear hb hoY OX5 OW5 OG5
  go_wp2_with fail
  refine (EQX.out _ _ _ (OX6.out.rd HMX.out) (OY.out.rd HMX.out)).mono ?_
  rintro e y7 ⟨rfl, hb⟩
  have OX7 := hide (OX6.out.below hb (by omega))
  have OW7 := hide (OW6.out.below hb)
  have OG7 := hide (OG6.out.below hb)
  have B7 := hide (B6.out.trans (hb.mono (by omega)))
  have s7 := hb.size
  have XL := hide OX7.out.hi
  have MK7 := hide (show MkO y7 y2.heap.size y2.heap.size n tx mx xs from (by have h9 := OX7.out; rw [← HNN.out] at h9 ⊢; exact h9.mkO))
  have MM := hide (MKO.out y2.heap.size y2.heap.size tx mx y7 MK7.out (by rw [← HNN.out]; exact XL.out.1) (by rw [← HNN.out]; exact XL.out.2))
  clear hb OX6 OW6 OG6 OY OX7 XL
  go_wp2_with fail
  refine MM.out.mono ?_
  rintro e y8 ⟨⟨K, rfl, hK0, hK1⟩, hkb, hb⟩
  have OW8 := hide (show OwB y8 _ _ ys from KB.own OW7.out hkb)
  have OG8 := hide (show OwB y8 _ _ ys from KB.own OG7.out hkb)
  have B8 := hide (B7.out.trans (hb.mono (by omega)))
  have s8 := hb.size
  clear hkb hb OW7 OG7 MK7 MM
  have hk0 : ¬ K < 0 := by omega
  go_wp2_with fail
  refine (EQY.out _ _ _ OG8.out.rd OW8.out.rd).mono ?_
  rintro e y9 ⟨rfl, hb⟩
  have OW9 := hide (OW8.out.below hb)
  have OG9 := hide (OG8.out.below hb)
  have B9 := hide (B8.out.trans (hb.mono (by omega)))
  have s9 := hb.size
  generalize hM : ys.length = mm at *
  have HMM := hide hM
  clear hb OW8 OG8 hM
  go_wp2_with fail
  refine (mark8 ys _ _ mm 1 _ (by rw [← HMM.out]; exact OG9.out) (by omega) (by omega) (by omega)).mono ?_
  rintro e y10 ⟨rfl, ho, hgr⟩
  have OW10 := hide (show OwB y10 _ _ ys from owns_of_block OW9.out (fun q hq => hgr.block q (OW9.out.lt q hq).2 (fun eq => by have h9 := LW.out q hq; have h8 := LG.out q eq.symm; omega)))
  have OG10 := hide ho
  have B10 := hide (B9.out.grown hgr (by omega) (fun q hq => Nat.le_trans (by omega) (OG9.out.lt q hq).1))
  have s10 := hgr.size
  clear ho hgr OW9 OG9
  have hmq : ((1 + (mm : Int)) != (1 + (mm : Int))) = false := by simp
  have hmz : ¬ (1 + (mm : Int)) < 0 := by omega
  go_wp2_with fail
  refine (held8 _ mm 1 _ (Rd.of_owns OG10.out) (by omega) (by omega) (by omega)).mono ?_
  rintro e y11 ⟨rfl, hw9⟩
  have hw8 := hw9.symm
  subst hw8
  clear OG10
  go_wp2_with fail
  refine (H0.out _ B10.out).mono ?_
  rintro e y12 ⟨rfl, ⟨tz, mz, hoZ⟩, hb⟩
  have OZ := hide hoZ
  have OW12 := hide (OW10.out.below hb)
  have B12 := hide (B10.out.trans (hb.mono (by omega)))
  have s12 := hb.size
  clear hb hoZ OW10
  go_wp2_with fail
  refine (IM.out _ _ (OZ.out.rd HMX.out) (TB.out _ B12.out)).mono ?_
  rintro e y13 ⟨vh, rfl, hoH, hb⟩
  have OH := hide hoH
  have OW13 := hide (OW12.out.below hb)
  have B13 := hide (B12.out.trans (hb.mono (by omega)))
  have s13 := hb.size
  clear hb hoH OW12 OZ
  have hla2 : mm ≤ 187695104 := hla
  go_wp2_with fail
  refine (EQY.out _ _ _ OH.out.rd OW13.out.rd).mono ?_
  rintro e y14 ⟨rfl, hb⟩
  have B14 := hide (B13.out.trans (hb.mono (by omega)))
  clear hb
  go_wp2
  go_ret
  exact ⟨rfl, B14.out⟩
end Go.Proofs.YtbgngikejgihgaeDoor
