import Derived.Test.YtdjdkgidihhkfabDoorMkMov
import Derived.Test.YtdjdkgidihhkfabDoorMkRead
import Derived.Test.YtdjdkgidihhkfabDoorMkCode
namespace Go.Proofs.YtdjdkgidihhkfabDoor
open Go Go.RowKit Go.Sort
set_option linter.unusedVariables false

def pushMsg : ByteArray := { data := #[112, 117, 115, 104, 105, 110, 103, 32, 109, 97, 114, 107, 115] }
def full (off n : Int) (xs : List Mk) : Bool := xs.any fun x => decide (8192 < pushF off n x)

set_option maxHeartbeats 1000000 in
set_option maxRecDepth 100000 in
theorem pushBad (tb : Nat) (off n : Int) (w : World) (h : decide (0 ≤ off ∧ off ≤ 8192) = false ∨ (decide (0 ≤ off ∧ off ≤ 8192) = true ∧ decide (0 ≤ n ∧ n ≤ 8192) = false)) :
    Calls Tryd.prog 46 #[.pointer (some ⟨tb, 0, none⟩), .int .i64 off, .int .i64 n] w fun e w' => e = .returned (refV pushMsg 2) ∧ w' = w := by
  have K1 := hide (fun w => boundsI off 0 8192 2 w)
  have K2 := hide (fun w => boundsI n 0 8192 2 w)
  unfold refV pushMsg
  rcases h with h | ⟨h, h'⟩
  · rw [h, errV_false] at K1
    clear h
    go_enter Tryd.func46, Tryd.ntmps46
    go_wp2_with fail
    refine (K1.out _).mono ?_
    rintro e w1 ⟨rfl, rfl⟩
    go_wp2
    go_ret
    exact ⟨rfl, rfl⟩
  · rw [h, errV_true] at K1
    rw [h', errV_false] at K2
    clear h h'
    go_enter Tryd.func46, Tryd.ntmps46
    go_wp2_with fail
    refine (K1.out _).mono ?_
    rintro e w1 ⟨rfl, rfl⟩
    go_wp2_with fail
    refine (K2.out _).mono ?_
    rintro e w1 ⟨rfl, rfl⟩
    go_wp2
    go_ret
    exact ⟨rfl, rfl⟩

theorem full_iff (off n : Int) (xs : List Mk) : full off n xs = true ↔ ∃ x ∈ xs, 8192 < pushF off n x := by simp [full]
theorem full_of {off n : Int} {xs : List Mk} {k : Nat} {x : Mk} (hx : xs[k]? = some x) (h : 8192 < pushF off n x) : full off n xs = true := (full_iff _ _ _).2 ⟨x, List.mem_of_getElem? hx, h⟩
theorem full_no {off n : Int} {xs : List Mk} (h : ∀ i y, i < xs.length → xs[i]? = some y → pushF off n y ≤ 8192) : full off n xs = false := by
  cases hf : full off n xs with
  | false => rfl
  | true =>
    obtain ⟨y, hy, hq⟩ := (full_iff _ _ _).1 hf
    obtain ⟨j, hj, rfl⟩ := List.getElem_of_mem hy
    have h9 := h j xs[j] hj (by simp)
    exact absurd hq (by omega)

set_option maxHeartbeats 1000000 in
set_option maxRecDepth 100000 in
theorem pushGood (tb : Nat) (off n : Int) (xs : List Mk) (v : Value) (w : World) (ht : Tb w tb v) (h : RdM w.heap.size w v xs) (hv : Vd xs) (h1 : decide (0 ≤ off ∧ off ≤ 8192) = true) (h2 : decide (0 ≤ n ∧ n ≤ 8192) = true) :
    Calls Tryd.prog 46 #[.pointer (some ⟨tb, 0, none⟩), .int .i64 off, .int .i64 n] w fun e w' => e = .returned (if full off n xs = true then refV pushMsg 10 else .nilIface) ∧ Below w.heap.size w w' := by
  have K1 := hide (fun w => boundsI off 0 8192 2 w)
  have K2 := hide (fun w => boundsI n 0 8192 2 w)
  rw [h1, errV_true] at K1
  rw [h2, errV_true] at K2
  have hn : 0 ≤ n ∧ n ≤ 8192 := by simpa using h2
  have hlen : xs.length ≤ 128 := hv.1
  have HPU := hide (fun x (hx : x ∈ xs) W => pushedL x off n W (by have := (hv.2.1 x hx).2; simpa [inO] using this) hn)
  have c := ht.c
  unfold refV pushMsg
  rcases h with ⟨ao, cap, rfl, rfl⟩ | ⟨b, o, cap, rfl, hp, hb, hc⟩
  · rw [if_neg (by simp [full])]
    clear ht h1 h2
    go_enter Tryd.func46, Tryd.ntmps46
    go_wp2_with fail
    refine (K1.out _).mono ?_
    rintro e w1 ⟨rfl, rfl⟩
    go_wp2_with fail
    refine (K2.out _).mono ?_
    rintro e w1 ⟨rfl, rfl⟩
    go_wp2_with fail
    refine wp_loop_rounds 1 ?_
    rw [rounds_succ]
    go_wp2
    go_ret
    exact ⟨rfl, Below.refl _ _⟩
  · have HC := hide hc
    generalize hR : (if full off n xs = true then (Value.iface 106 (.agg #[.string { data := #[112, 117, 115, 104, 105, 110, 103, 32, 109, 97, 114, 107, 115] }, .iface 104 (.int .i64 10)])) else .nilIface) = rr
    have HR := hide hR
    generalize hN : xs.length = nn at *
    have HNN := hide hN
    unfold maxLen at hp
    clear ht h1 h2 hc hR hN
    go_enter Tryd.func46, Tryd.ntmps46
    go_wp2_with fail
    refine (K1.out _).mono ?_
    rintro e w1 ⟨rfl, hw1⟩
    have hq1 := hw1.symm
    subst hq1
    go_wp2_with fail
    refine (K2.out _).mono ?_
    rintro e w2 ⟨rfl, hw2⟩
    have hq2 := hw2.symm
    subst hq2
    go_wp2_with fail
    go_loopw [26] (fun i wr => ∃ k : Nat, k ≤ nn ∧ i = .int .i64 k ∧ Below w.heap.size w wr ∧ ∀ i y, i < k → xs[i]? = some y → pushF off n y ≤ 8192) (fun i _ => nn - (intOf i).toNat)
    case atStart => exact ⟨0, Nat.zero_le _, rfl, Below.refl _ _, fun i y hi => by omega⟩
    case round =>
      obtain ⟨k, hk, rfl, hbw, hno⟩ := hrel
      have HBW := hide hbw
      have HNO := hide hno
      have hsw := hbw.size
      by_cases hlt : k < nn
      · obtain ⟨x, hx, a0, a1, a2⟩ := mkAt_of HC.out (show k < xs.length by rw [HNN.out]; omega)
        have e0 := (hbw.cell (p := ⟨b, o + k * 3, none⟩) hb).trans a0
        have e1 := (hbw.cell (p := ⟨b, o + k * 3 + 1, none⟩) hb).trans a1
        have e2 := (hbw.cell (p := ⟨b, o + k * 3 + 2, none⟩) hb).trans a2
        have hlt' : (k : Int) < nn := by omega
        have hbr : b < wr.heap.size := by omega
        have BA := hide ((Below.refl wr.heap.size wr).alloc (Nat.le_refl _) (.cells #[.int .i64 x.1, .int .i64 x.2.1, .int .i64 x.2.2] 41))
        have sA : wr.heap.size ≤ (wr.alloc (.cells #[.int .i64 x.1, .int .i64 x.2.1, .int .i64 x.2.2] 41)).heap.size := by simp
        have HPX := hide (HPU.out x (List.mem_of_getElem? hx))
        have HX := hide hx
        unfold mkA at HPX
        clear a0 a1 a2 hx hbw hno
        by_cases hf : 8192 < pushF off n x
        · have HF := hide (full_of HX.out hf)
          generalize pushF off n x = pf at *
          go_wp2_with fail
          generalize wr.alloc (.cells #[.int .i64 x.1, .int .i64 x.2.1, .int .i64 x.2.2] 41) = wa at *
          refine (HPX.out _).mono ?_
          rintro e w3 ⟨rfl, hb3⟩
          have B3 := hide (HBW.out.trans ((BA.out.trans (hb3.mono sA)).mono hsw))
          clear hb3
          go_wp2
          go_ret
          refine ⟨?_, B3.out⟩
          rw [← HR.out, if_pos HF.out]
          rfl
        · have HF := hide (show pushF off n x ≤ 8192 by omega)
          generalize hpf : pushF off n x = pf at *
          have HPF := hide hpf
          clear hpf
          go_wp2_with fail
          generalize wr.alloc (.cells #[.int .i64 x.1, .int .i64 x.2.1, .int .i64 x.2.2] 41) = wa at *
          refine (HPX.out _).mono ?_
          rintro e w3 ⟨rfl, hb3⟩
          have B3 := hide (HBW.out.trans ((BA.out.trans (hb3.mono sA)).mono hsw))
          clear hb3
          go_wp2
          go_roundw
          case rel =>
            refine ⟨k + 1, by omega, by go_num, B3.out, fun i y hi hy => ?_⟩
            by_cases e : i = k
            · subst e
              obtain rfl : y = x := by rw [HX.out] at hy; exact (Option.some.inj hy).symm
              rw [HPF.out]; exact HF.out
            · exact HNO.out i y (by omega) hy
          case measure => simp [intOf]; omega
      · obtain rfl : k = nn := by omega
        have hge : ¬ (k : Int) < (k : Int) := by omega
        clear hbw hno
        go_wp2
        go_ret
        refine ⟨?_, HBW.out⟩
        have h9 := full_no (off := off) (n := n) (xs := xs) (fun i y hi hy => HNO.out i y (by rw [HNN.out] at hi; exact hi) hy)
        rw [← HR.out, h9]
        rfl

open Classical in
noncomputable def insAns (xs : List Mk) (off n : Int) : List Mk × Int :=
  if ¬ Vd xs then ([], 1) else if decide (0 ≤ off ∧ off ≤ 8192) = true ∧ decide (0 ≤ n ∧ n ≤ 8192) = true then (if full off n xs = true then ([], 10) else (srt (xs.map (mov (pushF off n))), 0)) else ([], 2)

set_option maxHeartbeats 2000000 in
set_option maxRecDepth 100000 in
theorem implIns (B : Nat) (xs : List Mk) (v : Value) (off n : Int) (w : World) (h : RdM B w v xs) (hB : B ≤ w.heap.size) (hn : xs.length ≤ 1048576) (hg : w.cell? ⟨0, 0, none⟩ = some (.iface 182 (.agg #[.pointer (some ⟨5, 74, none⟩)]))) :
    Calls Tryd.prog 12 #[v, .int .i64 off, .int .i64 n] w fun e w' => ∃ v', e = .returned (.tuple #[v', .int .i64 (insAns xs off n).2]) ∧ OwM w' w.heap.size v' (insAns xs off n).1 ∧ Below w.heap.size w w' := by
  have hlt0 : 0 < w.heap.size := World.block_lt_of_cell? w _ hg
  have HRD := hide (readMarksL B xs v w h hB hn)
  have HG := hide hg
  obtain ⟨ao, cap, rfl⟩ := h.val
  clear h hg
  unfold insAns
  by_cases hv : Vd xs
  · rw [if_neg (by simpa using hv)]
    have HV := hide hv
    by_cases hb : decide (0 ≤ off ∧ off ≤ 8192) = true ∧ decide (0 ≤ n ∧ n ≤ 8192) = true
    · rw [if_pos hb]
      have HBD := hide hb
      have hnn : 0 ≤ n ∧ n ≤ 8192 := by simpa using hb.2
      clear hb hv
      cases hf : full off n xs with
      | true =>
        rw [if_pos rfl]
        have HF := hide hf
        clear hf
        go_enter Tryd.func12, Tryd.ntmps12
        go_wp2_with fail
        refine HRD.out.mono ?_
        rintro e w1 ⟨u, hor, hb1⟩
        rcases hor with ⟨_, rfl, ho1⟩ | ⟨hbad, _⟩
        · have O1 := hide ho1
          obtain ⟨au, cu, rfl⟩ := ho1.val
          have B1 := hide hb1
          have s1 := hb1.size
          have A2 := hide ((Below.refl w1.heap.size w1).alloc (Nat.le_refl _) (.cells #[.slice au xs.length cu] 72))
          have B2 := hide (B1.out.alloc (by omega) (.cells #[.slice au xs.length cu] 72))
          have hk2 : (w1.alloc (.cells #[.slice au xs.length cu] 72)).heap[w1.heap.size]? = some (.cells #[.slice au xs.length cu] 72 (0, 0)) := heap_alloc_new _ _
          have O2 := hide (O1.out.below A2.out (Nat.le_refl _))
          have HT2 := hide (show Tb _ w1.heap.size _ from hk2)
          have HS := hide (pushGood w1.heap.size off n xs _ _ HT2.out O2.out.rd HV.out HBD.out.1 HBD.out.2)
          rw [if_pos HF.out] at HS
          clear hb1 ho1
          generalize xs.length = nn at *
          unfold refV at HS
          go_wp2_with fail
          generalize w1.alloc (.cells #[.slice au nn cu] 72) = w2 at *
          refine HS.out.mono ?_
          rintro e w4 ⟨rfl, hb4⟩
          have B4 := hide (B2.out.trans (hb4.mono B2.out.size))
          have c4 := (HT2.out.below hb4 HT2.out.lt).c
          clear hb4
          go_wp2_with fail
          refine (answerM_err (refV pushMsg 10) 10 au nn cu _ ((B4.out.cell (p := ⟨0, 0, none⟩) hlt0).trans HG.out) (.inl ⟨_, rfl⟩)).mono ?_
          rintro e w5 ⟨rfl, hb5⟩
          have B5 := hide (B4.out.trans (hb5.mono B4.out.size))
          clear hb5
          go_wp2
          go_ret2
          exact ⟨_, rfl, World.ownsRow_nil _ _ _ _, B5.out⟩
        · exact absurd HV.out hbad
      | false =>
        rw [if_neg (by simp)]
        have HF := hide hf
        clear hf
        go_enter Tryd.func12, Tryd.ntmps12
        go_wp2_with fail
        refine HRD.out.mono ?_
        rintro e w1 ⟨u, hor, hb1⟩
        rcases hor with ⟨_, rfl, ho1⟩ | ⟨hbad, _⟩
        · have O1 := hide ho1
          obtain ⟨au, cu, rfl⟩ := ho1.val
          have B1 := hide hb1
          have s1 := hb1.size
          have A2 := hide ((Below.refl w1.heap.size w1).alloc (Nat.le_refl _) (.cells #[.slice au xs.length cu] 72))
          have B2 := hide (B1.out.alloc (by omega) (.cells #[.slice au xs.length cu] 72))
          have hk2 : (w1.alloc (.cells #[.slice au xs.length cu] 72)).heap[w1.heap.size]? = some (.cells #[.slice au xs.length cu] 72 (0, 0)) := heap_alloc_new _ _
          have s2 : (w1.alloc (.cells #[.slice au xs.length cu] 72)).heap.size = w1.heap.size + 1 := by simp
          have O2 := hide (O1.out.below A2.out (Nat.le_refl _))
          have HT2 := hide (show Tb _ w1.heap.size _ from hk2)
          have HS := hide (pushGood w1.heap.size off n xs _ _ HT2.out O2.out.rd HV.out HBD.out.1 HBD.out.2)
          rw [if_neg (by rw [HF.out]; simp)] at HS
          have HPM := hide (fun W ht ho => pushMarksL w1.heap.size off n xs (.slice au xs.length cu) w.heap.size W ht ho HV.out hnn)
          clear hb1 ho1
          generalize xs.length = nn at *
          go_wp2_with fail
          generalize w1.alloc (.cells #[.slice au nn cu] 72) = w2 at *
          refine HS.out.mono ?_
          rintro e w4 ⟨rfl, hb4⟩
          have B4 := hide (B2.out.trans (hb4.mono B2.out.size))
          have T4 := hide (HT2.out.below hb4 HT2.out.lt)
          have O4 := hide (O2.out.below hb4 (Nat.le_refl _))
          have s4 := hb4.size
          clear hb4
          go_wp2_with fail
          refine (HPM.out _ T4.out O4.out).mono ?_
          rintro e w5 ⟨rfl, v5, ht5, ho5, hb5⟩
          have B5 := hide (B4.out.trans (hb5 w.heap.size (by omega) (by omega)))
          have c5 := ht5.c
          have O5 := hide ho5
          obtain ⟨a5, l5, p5, rfl⟩ := own_slM ho5
          clear hb5 ht5 ho5
          go_wp2_with fail
          refine (answerM_ok a5 l5 p5 _).mono ?_
          rintro e w6 ⟨rfl, hb6⟩
          have B6 := hide (B5.out.trans (hb6.mono B5.out.size))
          have O6 := hide ((O5.out.below hb6 (Nat.le_refl _)).base (base' := w.heap.size) (by omega))
          clear hb6
          go_wp2
          go_ret2
          exact ⟨_, rfl, O6.out, B6.out⟩
        · exact absurd HV.out hbad
    · rw [if_neg hb]
      have HBD := hide (show decide (0 ≤ off ∧ off ≤ 8192) = false ∨ (decide (0 ≤ off ∧ off ≤ 8192) = true ∧ decide (0 ≤ n ∧ n ≤ 8192) = false) by
        cases h1 : decide (0 ≤ off ∧ off ≤ 8192) with
        | false => exact .inl rfl
        | true =>
          cases h2 : decide (0 ≤ n ∧ n ≤ 8192) with
          | false => exact .inr ⟨rfl, rfl⟩
          | true => exact absurd ⟨h1, h2⟩ hb)
      clear hb hv
      go_enter Tryd.func12, Tryd.ntmps12
      go_wp2_with fail
      refine HRD.out.mono ?_
      rintro e w1 ⟨u, hor, hb1⟩
      rcases hor with ⟨_, rfl, ho1⟩ | ⟨hbad, _⟩
      · obtain ⟨au, cu, rfl⟩ := ho1.val
        have B1 := hide hb1
        have s1 := hb1.size
        have B2 := hide (B1.out.alloc (by omega) (.cells #[.slice au xs.length cu] 72))
        have hk2 : (w1.alloc (.cells #[.slice au xs.length cu] 72)).heap[w1.heap.size]? = some (.cells #[.slice au xs.length cu] 72 (0, 0)) := heap_alloc_new _ _
        have HS := hide (fun W => pushBad w1.heap.size off n W HBD.out)
        clear hb1 ho1
        generalize xs.length = nn at *
        unfold refV at HS
        go_wp2_with fail
        generalize w1.alloc (.cells #[.slice au nn cu] 72) = w2 at *
        have c2 : w2.cell? ⟨w1.heap.size, 0, none⟩ = some (.slice au nn cu) := by rw [cell_of_row w2 _ 0 _ _ _ hk2]; rfl
        refine (HS.out _).mono ?_
        rintro e w4 ⟨rfl, rfl⟩
        go_wp2_with fail
        refine (answerM_err (refV pushMsg 2) 2 au nn cu _ ((B2.out.cell (p := ⟨0, 0, none⟩) hlt0).trans HG.out) (.inl ⟨_, rfl⟩)).mono ?_
        rintro e w5 ⟨rfl, hb5⟩
        have B5 := hide (B2.out.trans (hb5.mono B2.out.size))
        clear hb5
        go_wp2
        go_ret2
        exact ⟨_, rfl, World.ownsRow_nil _ _ _ _, B5.out⟩
      · exact absurd HV.out hbad
  · rw [if_pos hv]
    have HV := hide hv
    clear hv
    go_enter Tryd.func12, Tryd.ntmps12
    go_wp2_with fail
    refine HRD.out.mono ?_
    rintro e w1 ⟨u, hor, hb1⟩
    rcases hor with ⟨hgood, _⟩ | ⟨_, rfl, au, nn, cu, rfl⟩
    · exact absurd hgood HV.out
    · have B1 := hide hb1
      have s1 := hb1.size
      have B2 := hide (B1.out.alloc (by omega) (.cells #[.slice au nn cu] 72))
      have hk2 : (w1.alloc (.cells #[.slice au nn cu] 72)).heap[w1.heap.size]? = some (.cells #[.slice au nn cu] 72 (0, 0)) := heap_alloc_new _ _
      clear hb1
      unfold refV
      go_wp2_with fail
      generalize w1.alloc (.cells #[.slice au nn cu] 72) = w2 at *
      have c2 : w2.cell? ⟨w1.heap.size, 0, none⟩ = some (.slice au nn cu) := by rw [cell_of_row w2 _ 0 _ _ _ hk2]; rfl
      refine (answerM_err (refV readMsg 1) 1 au nn cu _ ((B2.out.cell (p := ⟨0, 0, none⟩) hlt0).trans HG.out) (.inl ⟨_, rfl⟩)).mono ?_
      rintro e w4 ⟨rfl, hb4⟩
      have B4 := hide (B2.out.trans (hb4.mono B2.out.size))
      clear hb4
      go_wp2
      go_ret2
      exact ⟨_, rfl, World.ownsRow_nil _ _ _ _, B4.out⟩

end Go.Proofs.YtdjdkgidihhkfabDoor
