import Derived.Test.YtdjdkgidihhkfaaDoorMkSet2
import Derived.Test.YtdjdkgidihhkfaaDoorMkSet3
import Derived.Test.YtdjdkgidihhkfaaDoorMkRead
import Derived.Test.YtdjdkgidihhkfaaDoorMkCode
namespace Go.Proofs.YtdjdkgidihhkfaaDoor
open Go Go.RowKit Go.Sort
set_option linter.unusedVariables false

def setErr (xs : List Mk) (m : Mk) (len : Int) : Int :=
  if inI m = false then 12 else if hasId xs m.1 = true then 5 else if decide (0 ≤ m.2.1 ∧ m.2.1 ≤ len) = false then 2 else if decide (xs.length < 128) = false then 10 else 0

open Classical in
noncomputable def setAns (xs : List Mk) (m : Mk) (len : Int) : List Mk × Int :=
  if ¬ Vd xs then ([], 1) else if decide (0 ≤ len ∧ len ≤ 8192) = false then ([], 1) else if setErr xs m len = 0 then (srt (xs ++ [m]), 0) else ([], setErr xs m len)

theorem setErrL (tb : Nat) (xs : List Mk) (v : Value) (m : Mk) (len : Int) (w : World) (ht : Tb w tb v) (h : RdM w.heap.size w v xs) (hn : xs.length ≤ 1048576) (he : setErr xs m len ≠ 0) :
    Calls Tryd.prog 48 #[.pointer (some ⟨tb, 0, none⟩), mkA m, .int .i64 len] w fun e w' => e = .returned (refV setMsg (setErr xs m len)) ∧ Below w.heap.size w w' := by
  unfold setErr at he ⊢
  cases h1 : inI m with
  | false => rw [if_pos rfl]; exact set12 tb xs v m len w ht h hn h1
  | true =>
    rw [h1, if_neg (by simp)] at he
    rw [if_neg (by simp)]
    cases h2 : hasId xs m.1 with
    | true => rw [if_pos rfl]; exact set5 tb xs v m len w ht h hn h1 h2
    | false =>
      rw [h2, if_neg (by simp)] at he
      rw [if_neg (by simp)]
      cases h3 : decide (0 ≤ m.2.1 ∧ m.2.1 ≤ len) with
      | false => rw [if_pos rfl]; exact set2 tb xs v m len w ht h hn h1 h2 h3
      | true =>
        rw [h3, if_neg (by simp)] at he
        rw [if_neg (by simp)]
        cases h4 : decide (xs.length < 128) with
        | false => rw [if_pos rfl]; exact set10 tb xs v m len w ht h hn h1 h2 h3 h4
        | true => rw [h4, if_neg (by simp)] at he; exact absurd rfl he

theorem setOkL (tb : Nat) (xs : List Mk) (v : Value) (m : Mk) (len : Int) (w : World) (base : Nat) (ht : Tb w tb v) (ho : OwM w base v xs) (hv : Vd xs) (he : setErr xs m len = 0) :
    Calls Tryd.prog 48 #[.pointer (some ⟨tb, 0, none⟩), mkA m, .int .i64 len] w fun e w' => e = .returned .nilIface ∧ ∃ v', Tb w' tb v' ∧ OwM w' w.heap.size v' (srt (xs ++ [m])) ∧ ∀ B, B ≤ tb → B ≤ w.heap.size → Below B w w' := by
  have hn : xs.length ≤ 1048576 := by have := hv.1; omega
  unfold setErr at he
  cases h1 : inI m with
  | false => rw [h1, if_pos rfl] at he; cases he
  | true =>
    rw [h1, if_neg (by simp)] at he
    cases h2 : hasId xs m.1 with
    | true => rw [h2, if_pos rfl] at he; cases he
    | false =>
      rw [h2, if_neg (by simp)] at he
      cases h3 : decide (0 ≤ m.2.1 ∧ m.2.1 ≤ len) with
      | false => rw [h3, if_pos rfl] at he; cases he
      | true =>
        rw [h3, if_neg (by simp)] at he
        cases h4 : decide (xs.length < 128) with
        | false => rw [h4, if_pos rfl] at he; cases he
        | true =>
          rcases ho.shape with ⟨hvn, hx⟩ | hsh
          · exact setOk0 tb xs v m len w ht ho.rd hn h1 h2 h3 h4 hv base ho hx hvn
          · exact setOk tb xs v m len w ht ho.rd hn h1 h2 h3 h4 hv base ho hsh

set_option maxHeartbeats 2000000 in
set_option maxRecDepth 100000 in
theorem implSet (B : Nat) (xs : List Mk) (v : Value) (m : Mk) (len : Int) (w : World) (h : RdM B w v xs) (hB : B ≤ w.heap.size) (hn : xs.length ≤ 1048576) (hg : w.cell? ⟨0, 0, none⟩ = some (.iface 139 (.agg #[.pointer (some ⟨2, 64, none⟩)]))) :
    Calls Tryd.prog 29 #[v, mkA m, .int .i64 len] w fun e w' => ∃ v', e = .returned (.tuple #[v', .int .i64 (setAns xs m len).2]) ∧ OwM w' w.heap.size v' (setAns xs m len).1 ∧ Below w.heap.size w w' := by
  have hlt0 : 0 < w.heap.size := World.block_lt_of_cell? w _ hg
  have HB0 := hide ((Below.refl w.heap.size w).alloc (Nat.le_refl _) (.cells #[.int .i64 m.1, .int .i64 m.2.1, .int .i64 m.2.2] 57))
  have hk : (w.alloc (.cells #[.int .i64 m.1, .int .i64 m.2.1, .int .i64 m.2.2] 57)).heap[w.heap.size]? = some (.cells #[.int .i64 m.1, .int .i64 m.2.1, .int .i64 m.2.2] 57 (0, 0)) := heap_alloc_new _ _
  have hs0 : (w.alloc (.cells #[.int .i64 m.1, .int .i64 m.2.1, .int .i64 m.2.2] 57)).heap.size = w.heap.size + 1 := by simp
  have HRD := hide (readMarksL B xs v _ (h.below HB0.out hB) (by omega) hn)
  have HG := hide hg
  have HKB := hide (fun w => boundsI len 0 8192 1 w)
  obtain ⟨ao, cap, rfl⟩ := h.val
  clear h hg
  unfold setAns
  generalize hN : xs.length = n at *
  have HNN := hide hN
  clear hN
  by_cases hv : Vd xs
  · rw [if_neg (by simpa using hv)]
    have HV := hide hv
    cases hd : decide (0 ≤ len ∧ len ≤ 8192) with
    | false =>
      rw [if_pos rfl]
      rw [hd, errV_false] at HKB
      clear hd
      unfold mkA
      go_enter Tryd.func29, Tryd.ntmps29
      go_wp2_with fail
      generalize w.alloc (.cells #[.int .i64 m.1, .int .i64 m.2.1, .int .i64 m.2.2] 57) = w0 at *
      refine HRD.out.mono ?_
      rintro e w1 ⟨u, hor, hb1⟩
      rcases hor with ⟨_, rfl, ho1⟩ | ⟨hbad, _⟩
      · obtain ⟨au, cu, rfl⟩ := ho1.val
        have B1 := hide (HB0.out.trans (hb1.mono (by omega)))
        have s1 := hb1.size
        have B2 := hide (B1.out.alloc (by omega) (.cells #[.slice au xs.length cu] 76))
        have hk2 : (w1.alloc (.cells #[.slice au xs.length cu] 76)).heap[w1.heap.size]? = some (.cells #[.slice au xs.length cu] 76 (0, 0)) := heap_alloc_new _ _
        have s2 : (w1.alloc (.cells #[.slice au xs.length cu] 76)).heap.size = w1.heap.size + 1 := by simp
        clear hb1 ho1
        generalize xs.length = nn at *
        go_wp2_with fail
        generalize w1.alloc (.cells #[.slice au nn cu] 76) = w2 at *
        have c2 : w2.cell? ⟨w1.heap.size, 0, none⟩ = some (.slice au nn cu) := by rw [cell_of_row w2 _ 0 _ _ _ hk2]; rfl
        refine (HKB.out _).mono ?_
        rintro e w3 ⟨rfl, rfl⟩
        go_wp2_with fail
        refine (answerM_err (.iface 80 (.int .i64 1)) 1 au nn cu _ ((B2.out.cell (p := ⟨0, 0, none⟩) hlt0).trans HG.out) (.inr rfl)).mono ?_
        rintro e w4 ⟨rfl, hb4⟩
        have B4 := hide (B2.out.trans (hb4.mono B2.out.size))
        clear hb4
        go_wp2
        go_ret2
        exact ⟨_, rfl, World.ownsRow_nil _ _ _ _, B4.out⟩
      · exact absurd HV.out hbad
    | true =>
      rw [if_neg (by simp)]
      rw [hd, errV_true] at HKB
      clear hd
      by_cases he : setErr xs m len = 0
      · rw [if_pos he]
        have HE := hide he
        clear he hv
        unfold mkA
        go_enter Tryd.func29, Tryd.ntmps29
        go_wp2_with fail
        generalize w.alloc (.cells #[.int .i64 m.1, .int .i64 m.2.1, .int .i64 m.2.2] 57) = w0 at *
        refine HRD.out.mono ?_
        rintro e w1 ⟨u, hor, hb1⟩
        rcases hor with ⟨_, rfl, ho1⟩ | ⟨hbad, _⟩
        · have O1 := hide ho1
          obtain ⟨au, cu, rfl⟩ := ho1.val
          have B1 := hide (HB0.out.trans (hb1.mono (by omega)))
          have s1 := hb1.size
          have K1 := hide ((hb1.block w.heap.size (by omega)).trans hk)
          have A2 := hide ((Below.refl w1.heap.size w1).alloc (Nat.le_refl _) (.cells #[.slice au xs.length cu] 76))
          have B2 := hide (B1.out.alloc (by omega) (.cells #[.slice au xs.length cu] 76))
          have hk2 : (w1.alloc (.cells #[.slice au xs.length cu] 76)).heap[w1.heap.size]? = some (.cells #[.slice au xs.length cu] 76 (0, 0)) := heap_alloc_new _ _
          have s2 : (w1.alloc (.cells #[.slice au xs.length cu] 76)).heap.size = w1.heap.size + 1 := by simp
          have O2 := hide (O1.out.below A2.out (Nat.le_refl _))
          have K2 := hide ((A2.out.block w.heap.size (by omega)).trans K1.out)
          have HS := hide (setOkL w1.heap.size xs _ m len _ w0.heap.size (show Tb _ w1.heap.size _ from hk2) O2.out HV.out HE.out)
          clear hb1 ho1
          generalize xs.length = nn at *
          go_wp2_with fail
          generalize w1.alloc (.cells #[.slice au nn cu] 76) = w2 at *
          have d0 : w2.cell? ⟨w.heap.size, 0, none⟩ = some (.int .i64 m.1) := by rw [cell_of_row w2 _ 0 _ _ _ K2.out]; rfl
          have d1 : w2.cell? ⟨w.heap.size, 1, none⟩ = some (.int .i64 m.2.1) := by rw [cell_of_row w2 _ 1 _ _ _ K2.out]; rfl
          have d2 : w2.cell? ⟨w.heap.size, 2, none⟩ = some (.int .i64 m.2.2) := by rw [cell_of_row w2 _ 2 _ _ _ K2.out]; rfl
          refine (HKB.out _).mono ?_
          rintro e w3 ⟨rfl, rfl⟩
          unfold mkA at HS
          go_wp2_with fail
          refine HS.out.mono ?_
          rintro e w4 ⟨rfl, v4, ht4, ho4, hb4⟩
          have B4 := hide (B2.out.trans (hb4 w.heap.size (by omega) (by omega)))
          have O4 := hide ho4
          have c4 := ht4.c
          have s4 := (hb4 w.heap.size (by omega) (by omega)).size
          obtain ⟨a4, l4, p4, rfl⟩ := own_slM ho4
          clear hb4 ht4 ho4 d0 d1 d2
          go_wp2_with fail
          refine (answerM_ok a4 l4 p4 _).mono ?_
          rintro e w5 ⟨rfl, hb5⟩
          have B5 := hide (B4.out.trans (hb5.mono B4.out.size))
          have O5 := hide ((O4.out.below hb5 (Nat.le_refl _)).base (base' := w.heap.size) (by omega))
          clear hb5
          go_wp2
          go_ret2
          exact ⟨_, rfl, O5.out, B5.out⟩
        · exact absurd HV.out hbad
      · rw [if_neg he]
        have HE := hide he
        clear he hv
        unfold mkA
        go_enter Tryd.func29, Tryd.ntmps29
        go_wp2_with fail
        generalize w.alloc (.cells #[.int .i64 m.1, .int .i64 m.2.1, .int .i64 m.2.2] 57) = w0 at *
        refine HRD.out.mono ?_
        rintro e w1 ⟨u, hor, hb1⟩
        rcases hor with ⟨_, rfl, ho1⟩ | ⟨hbad, _⟩
        · have O1 := hide ho1
          obtain ⟨au, cu, rfl⟩ := ho1.val
          have B1 := hide (HB0.out.trans (hb1.mono (by omega)))
          have s1 := hb1.size
          have K1 := hide ((hb1.block w.heap.size (by omega)).trans hk)
          have A2 := hide ((Below.refl w1.heap.size w1).alloc (Nat.le_refl _) (.cells #[.slice au xs.length cu] 76))
          have B2 := hide (B1.out.alloc (by omega) (.cells #[.slice au xs.length cu] 76))
          have hk2 : (w1.alloc (.cells #[.slice au xs.length cu] 76)).heap[w1.heap.size]? = some (.cells #[.slice au xs.length cu] 76 (0, 0)) := heap_alloc_new _ _
          have s2 : (w1.alloc (.cells #[.slice au xs.length cu] 76)).heap.size = w1.heap.size + 1 := by simp
          have O2 := hide (O1.out.below A2.out (Nat.le_refl _))
          have K2 := hide ((A2.out.block w.heap.size (by omega)).trans K1.out)
          have HT2 := hide (show Tb _ w1.heap.size _ from hk2)
          have HS := hide (setErrL w1.heap.size xs _ m len _ HT2.out O2.out.rd (by rw [HNN.out]; exact hn) HE.out)
          clear hb1 ho1
          generalize xs.length = nn at *

          go_wp2_with fail
          generalize w1.alloc (.cells #[.slice au nn cu] 76) = w2 at *
          have d0 : w2.cell? ⟨w.heap.size, 0, none⟩ = some (.int .i64 m.1) := by rw [cell_of_row w2 _ 0 _ _ _ K2.out]; rfl
          have d1 : w2.cell? ⟨w.heap.size, 1, none⟩ = some (.int .i64 m.2.1) := by rw [cell_of_row w2 _ 1 _ _ _ K2.out]; rfl
          have d2 : w2.cell? ⟨w.heap.size, 2, none⟩ = some (.int .i64 m.2.2) := by rw [cell_of_row w2 _ 2 _ _ _ K2.out]; rfl
          refine (HKB.out _).mono ?_
          rintro e w3 ⟨rfl, rfl⟩
          unfold mkA refV at HS
          go_wp2_with fail
          refine HS.out.mono ?_
          rintro e w4 ⟨rfl, hb4⟩
          have B4 := hide (B2.out.trans (hb4.mono B2.out.size))
          have c4 := (HT2.out.below hb4 HT2.out.lt).c
          clear hb4 d0 d1 d2
          go_wp2_with fail
          refine (answerM_err (refV setMsg (setErr xs m len)) (setErr xs m len) au nn cu _ ((B4.out.cell (p := ⟨0, 0, none⟩) hlt0).trans HG.out) (.inl ⟨_, rfl⟩)).mono ?_
          rintro e w5 ⟨rfl, hb5⟩
          have B5 := hide (B4.out.trans (hb5.mono B4.out.size))
          clear hb5
          go_wp2
          go_ret2
          exact ⟨_, rfl, World.ownsRow_nil _ _ _ _, B5.out⟩
        · exact absurd HV.out hbad
  · rw [if_pos hv]
    have HV := hide hv
    clear hv
    unfold mkA
    go_enter Tryd.func29, Tryd.ntmps29
    go_wp2_with fail
    generalize w.alloc (.cells #[.int .i64 m.1, .int .i64 m.2.1, .int .i64 m.2.2] 57) = w0 at *
    refine HRD.out.mono ?_
    rintro e w1 ⟨u, hor, hb1⟩
    rcases hor with ⟨hgood, _⟩ | ⟨_, rfl, au, nn, cu, rfl⟩
    · exact absurd hgood HV.out
    · have B1 := hide (HB0.out.trans (hb1.mono (by omega)))
      have s1 := hb1.size
      have B2 := hide (B1.out.alloc (by omega) (.cells #[.slice au nn cu] 76))
      have hk2 : (w1.alloc (.cells #[.slice au nn cu] 76)).heap[w1.heap.size]? = some (.cells #[.slice au nn cu] 76 (0, 0)) := heap_alloc_new _ _
      clear hb1
      unfold refV
      go_wp2_with fail
      generalize w1.alloc (.cells #[.slice au nn cu] 76) = w2 at *
      have c2 : w2.cell? ⟨w1.heap.size, 0, none⟩ = some (.slice au nn cu) := by rw [cell_of_row w2 _ 0 _ _ _ hk2]; rfl
      refine (answerM_err (refV readMsg 1) 1 au nn cu _ ((B2.out.cell (p := ⟨0, 0, none⟩) hlt0).trans HG.out) (.inl ⟨_, rfl⟩)).mono ?_
      rintro e w4 ⟨rfl, hb4⟩
      have B4 := hide (B2.out.trans (hb4.mono B2.out.size))
      clear hb4
      go_wp2
      go_ret2
      exact ⟨_, rfl, World.ownsRow_nil _ _ _ _, B4.out⟩

end Go.Proofs.YtdjdkgidihhkfaaDoor
