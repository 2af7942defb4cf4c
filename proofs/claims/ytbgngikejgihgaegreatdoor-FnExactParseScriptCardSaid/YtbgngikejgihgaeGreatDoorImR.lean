import Derived.Test.YtbgngikejgihgaeGreatDoorImT
namespace Go.Proofs.YtbgngikejgihgaeGreatDoor
open Go Go.RowKit Go.Sort
set_option linter.unusedVariables false

theorem ba_eq {s t : ByteArray} : (s.toList == t.toList) = decide (s.data.toList = t.data.toList) := by
  rw [ByteArray.toList_eq, ByteArray.toList_eq]
  by_cases h : s.data.toList = t.data.toList
  · rw [h]; simp
  · rw [decide_eq_false h, beq_eq_false_iff_ne]; exact h
theorem trim_minus (b : List UInt8) : Lib.trimPrefix b [45] = dropM b := by
  unfold Lib.trimPrefix Lib.hasPrefix dropM
  cases b with
  | nil => simp
  | cons c r =>
    by_cases h : c = 45
    · subst h; simp [List.isPrefixOf]
    · have h' : ¬ ((45 : UInt8) = c) := fun e => h e.symm
      simp [List.isPrefixOf, h, h']
theorem digits_lt {u k : Nat} (h : (Lib.decDigits u).length ≤ k) : u < 10 ^ k := by
  rw [Lib.decDigits_length] at h
  exact Nat.lt_of_lt_of_le (Lib.lt_pow_nDigits u) (Nat.pow_le_pow_right (by omega) h)
theorem num_bound {b : List UInt8} {most : Nat} {n : Int} (h : numU b most = some n) (hm : most ≤ 18) : -9223372036854775808 ≤ n ∧ n ≤ 9223372036854775807 := by
  have h1 := numU_some h
  have h2 := h1.2.2
  rw [← h1.1, dropM_itoa] at h2
  have h3 := digits_lt (k := 18) (by omega : (Lib.decDigits n.natAbs).length ≤ 18)
  have h4 : (10 : Nat) ^ 18 = 1000000000000000000 := by decide
  omega
/-- A fault as a value. -/
def fltV (c : Int) : Value := .iface 71 (.int .i64 c)
/-- What readNumber answers. -/
def numOut (b : List UInt8) (most : Nat) : Value := match numU b most with
  | some n => .tuple #[.int .i64 n, .nilIface]
  | none => .tuple #[.int .i64 0, fltV 17]

set_option maxHeartbeats 1000000 in
set_option maxRecDepth 100000 in
theorem readNumL (s : ByteArray) (most : Nat) (w : World) (hs : s.size ≤ 16384) (hm : most ≤ 18) (hG : GS w) :
    Calls Tryz.prog 40 #[.string s, .int .i64 most] w fun e w' => e = .returned (numOut s.data.toList most) ∧ Below w.heap.size w w' := by
  have AT := hide (atoiW s hs w hG)
  have GB := hide (fun (W : World) (hW : Below w.heap.size w W) => hG.below hW)
  clear hG
  go_enter Tryz.func40, Tryz.ntmps40
  go_wp2_with fail
  refine AT.out.mono ?_
  rintro e w1 ⟨hor, hb1⟩
  have B1 := hide hb1
  clear hb1
  rcases hor with ⟨v, hv, rfl⟩ | ⟨hno, k, t, p, rfl⟩
  · have hbd := Lib.atoiAll_bounds hv
    have HV := hide hv
    clear hv
    go_wp2_with fail
    refine (itoaW v hbd.1 hbd.2 w1 (GB.out w1 B1.out)).mono ?_
    rintro e w2 ⟨rfl, hb2⟩
    have B2 := hide (B1.out.trans (hb2.mono B1.out.size))
    clear hb2
    generalize hst : (⟨(Lib.itoa v).toArray⟩ : ByteArray) = st
    have hsl : st.data.toList = Lib.itoa v := by rw [← hst]
    by_cases he : Lib.itoa v = s.data.toList
    · have hq : (st.toList == s.toList) = true := by rw [ba_eq, hsl, he]; simp
      have hq2 : st = s := by
        have : st.data = s.data := by rw [← Array.toList_inj, hsl, he]
        cases st; cases s; simp_all
      have HE := hide he
      clear hst hsl he
      subst hq2
      generalize htt : (⟨(Lib.trimPrefix st.data.toList [45]).toArray⟩ : ByteArray) = tt
      have htl : tt.size = (dropM st.data.toList).length := by rw [← htt, trim_minus, Lib.size_eq]
      have TR := hide (trimW st ⟨#[45]⟩ w2)
      rw [show (⟨(Lib.trimPrefix st.data.toList (⟨#[45]⟩ : ByteArray).data.toList).toArray⟩ : ByteArray) = tt from htt] at TR
      have HO1 := hide (fun (h : (dropM st.data.toList).length ≤ most) => (show numOut st.data.toList most = .tuple #[.int .i64 v, .nilIface] by unfold numOut; rw [numU_of HE.out h]))
      have HO2 := hide (fun (h : ¬ (dropM st.data.toList).length ≤ most) => (show numOut st.data.toList most = .tuple #[.int .i64 0, fltV 17] by
        unfold numOut
        have : numU st.data.toList most = none := by unfold numU; rw [if_neg (fun hh => h hh.2.1)]
        rw [this]))
      rw [← htl] at HO1 HO2
      clear htt htl
      by_cases hlen : tt.size ≤ most
      · have hgt : ¬ (most : Int) < (tt.size : Int) := by omega
        have HO := hide (HO1.out hlen)
        clear HO1 HO2
        go_wp2_with fail
        refine TR.out.mono ?_
        rintro e w3 ⟨rfl, rfl⟩
        go_wp2
        go_ret2
        exact ⟨by rw [HO.out]; rfl, B2.out⟩
      · have hgt : (most : Int) < (tt.size : Int) := by omega
        have HO := hide (HO2.out hlen)
        clear HO1 HO2
        go_wp2_with fail
        refine TR.out.mono ?_
        rintro e w3 ⟨rfl, rfl⟩
        go_wp2
        go_ret2
        exact ⟨by rw [HO.out]; rfl, B2.out⟩
    · have hq : (st.toList == s.toList) = false := by rw [ba_eq, hsl]; exact decide_eq_false he
      have HO := hide (show numOut s.data.toList most = .tuple #[.int .i64 0, fltV 17] by
        unfold numOut
        have : numU s.data.toList most = none := by
          cases h : numU s.data.toList most with
          | none => rfl
          | some n =>
            exfalso
            have h1 := (numU_some h).1
            have h2 := num_bound h (by omega)
            have h3 := atoi_itoa n h2.1 h2.2
            rw [h1, HV.out] at h3
            simp only [Lib.NumEnd.ok.injEq] at h3
            exact he (by rw [h3]; exact h1)
        rw [this])
      clear hst hsl he
      go_wp2
      go_ret2
      exact ⟨by rw [HO.out]; rfl, B2.out⟩
  · have hnone : numU s.data.toList most = none := by
      cases h : numU s.data.toList most with
      | none => rfl
      | some n =>
        exfalso
        have h1 := (numU_some h).1
        have h2 := num_bound h (by omega)
        have h3 := atoi_itoa n h2.1 h2.2
        rw [h1] at h3
        exact hno n h3
    have HO := hide (show numOut s.data.toList most = .tuple #[.int .i64 0, fltV 17] by unfold numOut; rw [hnone])
    clear hnone hno
    go_wp2
    go_ret2
    exact ⟨by rw [HO.out]; rfl, B1.out⟩
end Go.Proofs.YtbgngikejgihgaeGreatDoor
