import Derived.Test.YtdjdkgidihhkfabDoorMkMov
import Derived.Test.YtdjdkgidihhkfabDoorMkRead
import Derived.Test.YtdjdkgidihhkfabDoorMkCode
import Derived.Test.YtdjdkgidihhkfabDoorGRng
namespace Go.Proofs.YtdjdkgidihhkfabDoor
open Go Go.RowKit Go.Sort
set_option linter.unusedVariables false

set_option maxHeartbeats 400000 in
set_option maxRecDepth 100000 in
theorem pulledL (m : Mk) (off n : Int) (w : World) (h0 : 0 ≤ m.2.1 ∧ m.2.1 ≤ 8192) (h1 : 0 ≤ n ∧ n ≤ 8192) (h2 : 0 ≤ off ∧ off ≤ 8192) :
    Calls Tryd.prog 78 #[mkA m, .int .i64 off, .int .i64 n] w fun e w' => e = .returned (.int .i64 (pullF off n m)) ∧ Below w.heap.size w w' := by
  unfold pullF mkA
  by_cases a : m.2.1 > off
  · rw [if_pos a]
    have a' : off < m.2.1 := a
    generalize hmx : max off (m.2.1 - n) = mx
    have HMX := hide hmx
    have hw : IntKind.i64.wrap (m.2.1 - n) = m.2.1 - n := by rw [IntKind.wrap_i64]; omega
    by_cases b : off < m.2.1 - n
    · have e : mx = m.2.1 - n := by rw [← hmx]; omega
      clear hmx
      subst e
      go_enter Tryd.func78, Tryd.ntmps78
      go_wp2
      all_goals (go_ret; exact ⟨by first | rfl | (simp; omega), (Below.refl _ _).alloc (Nat.le_refl _) _⟩)
    · have e : mx = off := by rw [← hmx]; omega
      clear hmx
      subst e
      go_enter Tryd.func78, Tryd.ntmps78
      go_wp2
      all_goals (go_ret; exact ⟨by first | rfl | (simp; omega), (Below.refl _ _).alloc (Nat.le_refl _) _⟩)
  · rw [if_neg a]
    have a' : ¬ off < m.2.1 := a
    go_enter Tryd.func78, Tryd.ntmps78
    go_wp2
    go_ret
    exact ⟨rfl, (Below.refl _ _).alloc (Nat.le_refl _) _⟩

set_option maxHeartbeats 1000000 in
set_option maxRecDepth 100000 in
theorem pullClos (xs : List Mk) (off n : Int) (b1 b2 B : Nat) (w : World) (h1 : b1 < B) (h2 : b2 < B) (c1 : w.cell? ⟨b1, 0, none⟩ = some (.int .i64 off)) (c2 : w.cell? ⟨b2, 0, none⟩ = some (.int .i64 n)) (hB : B ≤ w.heap.size) (hx : ∀ x ∈ xs, 0 ≤ x.2.1 ∧ x.2.1 ≤ 8192) (hn : 0 ≤ n ∧ n ≤ 8192) (ho : 0 ≤ off ∧ off ≤ 8192) :
    Tells 77 #[.pointer (some ⟨b1, 0, none⟩), .pointer (some ⟨b2, 0, none⟩)] (pullF off n) xs B w := by
  intro W x hxm hb
  have HP := hide (fun W => pulledL x off n W (hx x hxm) hn ho)
  have hs := hb.size
  have BA := hide ((Below.refl W.heap.size W).alloc (Nat.le_refl _) (.cells #[.int .i64 x.1, .int .i64 x.2.1, .int .i64 x.2.2] 41))
  have e1 := (BA.out.cell (p := ⟨b1, 0, none⟩) (by show b1 < _; omega)).trans ((hb.cell (p := ⟨b1, 0, none⟩) h1).trans c1)
  have e2 := (BA.out.cell (p := ⟨b2, 0, none⟩) (by show b2 < _; omega)).trans ((hb.cell (p := ⟨b2, 0, none⟩) h2).trans c2)
  have sA : W.heap.size ≤ (W.alloc (.cells #[.int .i64 x.1, .int .i64 x.2.1, .int .i64 x.2.2] 41)).heap.size := by simp
  have n1 : ¬ b1 = W.heap.size := by omega
  have n2 : ¬ b2 = W.heap.size := by omega
  generalize pullF off n x = r at *
  clear hb c1 c2
  unfold mkA at *
  show Calls Tryd.prog 77 #[.agg #[.int .i64 x.1, .int .i64 x.2.1, .int .i64 x.2.2], .pointer (some ⟨b1, 0, none⟩), .pointer (some ⟨b2, 0, none⟩)] W _
  go_enter Tryd.func77, Tryd.ntmps77
  go_wp2_with fail
  generalize W.alloc (.cells #[.int .i64 x.1, .int .i64 x.2.1, .int .i64 x.2.2] 41) = w0 at *
  refine (HP.out _).mono ?_
  rintro e w1 ⟨rfl, hb1⟩
  have B1 := hide (BA.out.trans (hb1.mono sA))
  clear hb1
  go_wp2
  go_ret
  exact ⟨rfl, B1.out⟩

set_option maxHeartbeats 1000000 in
set_option maxRecDepth 100000 in
theorem pullMarksL (tb : Nat) (off n : Int) (xs : List Mk) (v : Value) (base : Nat) (w : World) (ht : Tb w tb v) (h : OwM w base v xs) (hv : Vd xs) (hn : 0 ≤ n ∧ n ≤ 8192) (hof : 0 ≤ off ∧ off ≤ 8192) :
    Calls Tryd.prog 52 #[.pointer (some ⟨tb, 0, none⟩), .int .i64 off, .int .i64 n] w fun e w' => e = .returned (.tuple #[]) ∧ ∃ v', Tb w' tb v' ∧ OwM w' w.heap.size v' (srt (xs.map (mov (pullF off n)))) ∧ ∀ B, B ≤ tb → B ≤ w.heap.size → Below B w w' := by
  have hlt := ht.lt
  have B0 := hide (((Below.refl w.heap.size w).alloc (Nat.le_refl _) (.cells #[.int .i64 off] 3)).alloc (by simp) (.cells #[.int .i64 n] 3))
  have c1 : ((w.alloc (.cells #[.int .i64 off] 3)).alloc (.cells #[.int .i64 n] 3)).cell? ⟨w.heap.size, 0, none⟩ = some (.int .i64 off) := by
    rw [World.cell?_alloc_lt _ _ ⟨w.heap.size, 0, none⟩ (by simp), World.cell?_alloc_at _ _ _ _ rfl]; rfl
  have c2 : ((w.alloc (.cells #[.int .i64 off] 3)).alloc (.cells #[.int .i64 n] 3)).cell? ⟨w.heap.size + 1, 0, none⟩ = some (.int .i64 n) := by
    rw [World.cell?_alloc_at _ _ _ _ (by simp)]; rfl
  have hs0 : ((w.alloc (.cells #[.int .i64 off] 3)).alloc (.cells #[.int .i64 n] 3)).heap.size = w.heap.size + 2 := by simp
  have HM := hide (moveMarksL tb 77 #[.pointer (some ⟨w.heap.size, 0, none⟩), .pointer (some ⟨w.heap.size + 1, 0, none⟩)] (pullF off n) xs v base _ (ht.below B0.out hlt) (h.below B0.out (Nat.le_refl _)) (by have := hv.1; omega) (hv.2.2.imp fun q => q.2) (Go.Proofs.enters_of Tryd.func77 (by kernel_rfl) rfl)
    (pullClos xs off n w.heap.size (w.heap.size + 1) _ _ (by omega) (by omega) c1 c2 (Nat.le_refl _) (fun x hx => by have := (hv.2.1 x hx).2; simpa [inO] using this) hn hof))
  clear h ht c1 c2
  go_enter Tryd.func52, Tryd.ntmps52
  go_wp2_with fail
  generalize (w.alloc (.cells #[.int .i64 off] 3)).alloc (.cells #[.int .i64 n] 3) = w0 at *
  refine HM.out.mono ?_
  rintro e w1 ⟨rfl, v1, ht1, ho1, hb1⟩
  have T1 := hide ht1
  have O1 := hide (ho1.base (base' := w.heap.size) (by omega))
  have HB1 := hide hb1
  clear ht1 ho1 hb1
  go_wp2
  go_end0
  exact ⟨rfl, v1, T1.out, O1.out, fun B h1 h2 => (B0.out.mono h2).trans (HB1.out B h1 (by omega))⟩

open Classical in
noncomputable def delAns (xs : List Mk) (lo hi : Int) : List Mk × Int :=
  if ¬ Vd xs then ([], 1) else if decide ((0 ≤ hi ∧ hi ≤ 8192) ∧ (0 ≤ lo ∧ lo ≤ hi)) = true then (srt (xs.map (mov (pullF lo (hi - lo)))), 0) else ([], 2)

set_option maxHeartbeats 2000000 in
set_option maxRecDepth 100000 in
theorem implDel (B : Nat) (xs : List Mk) (v : Value) (lo hi : Int) (w : World) (h : RdM B w v xs) (hB : B ≤ w.heap.size) (hn : xs.length ≤ 1048576) (hg : w.cell? ⟨0, 0, none⟩ = some (.iface 182 (.agg #[.pointer (some ⟨5, 74, none⟩)]))) :
    Calls Tryd.prog 17 #[v, .int .i64 lo, .int .i64 hi] w fun e w' => ∃ v', e = .returned (.tuple #[v', .int .i64 (delAns xs lo hi).2]) ∧ OwM w' w.heap.size v' (delAns xs lo hi).1 ∧ Below w.heap.size w w' := by
  have hlt0 : 0 < w.heap.size := World.block_lt_of_cell? w _ hg
  have HRD := hide (readMarksL B xs v w h hB hn)
  have HG := hide hg
  have HKR := hide (fun w => checkRangeN lo hi 8192 w)
  obtain ⟨ao, cap, rfl⟩ := h.val
  clear h hg
  unfold delAns
  by_cases hv : Vd xs
  · rw [if_neg (by simpa using hv)]
    have HV := hide hv
    cases hd : decide ((0 ≤ hi ∧ hi ≤ 8192) ∧ (0 ≤ lo ∧ lo ≤ hi)) with
    | true =>
      rw [if_pos rfl]
      have hr : (0 ≤ hi ∧ hi ≤ 8192) ∧ (0 ≤ lo ∧ lo ≤ hi) := by simpa using hd
      rw [hd, errV_true] at HKR
      clear hd hv
      go_enter Tryd.func17, Tryd.ntmps17
      go_wp2_with fail
      refine HRD.out.mono ?_
      rintro e w1 ⟨u, hor, hb1⟩
      rcases hor with ⟨_, rfl, ho1⟩ | ⟨hbad, _⟩
      · have O1 := hide ho1
        obtain ⟨au, cu, rfl⟩ := ho1.val
        have B1 := hide hb1
        have s1 := hb1.size
        have A2 := hide ((Below.refl w1.heap.size w1).alloc (Nat.le_refl _) (.cells #[.slice au xs.length cu] 72))
        have B2 := hide (B1.out.alloc (by omega) (.cells #[.slice au xs.length cu] 72))
        have hk2 : (w1.alloc (.cells #[.slice au xs.length cu] 72)).heap[w1.heap.size]? = some (.cells #[.slice au xs.length cu] 72 (0, 0)) := heap_alloc_new _ _
        have s2 : (w1.alloc (.cells #[.slice au xs.length cu] 72)).heap.size = w1.heap.size + 1 := by simp
        have O2 := hide (O1.out.below A2.out (Nat.le_refl _))
        have HT2 := hide (show Tb _ w1.heap.size _ from hk2)
        have HPM := hide (fun W ht ho => pullMarksL w1.heap.size lo (hi - lo) xs (.slice au xs.length cu) w.heap.size W ht ho HV.out (by omega) (by omega))
        clear hb1 ho1
        generalize xs.length = nn at *
        go_wp2_with fail
        generalize w1.alloc (.cells #[.slice au nn cu] 72) = w2 at *
        refine (HKR.out _).mono ?_
        rintro e w4 ⟨rfl, hw4⟩
        have hw5 := hw4.symm
        subst hw5
        go_wp2_with fail
        refine (HPM.out _ HT2.out O2.out).mono ?_
        rintro e w5 ⟨rfl, v5, ht5, ho5, hb5⟩
        have B5 := hide (B2.out.trans (hb5 w.heap.size (by omega) (by omega)))
        have c5 := ht5.c
        have O5 := hide ho5
        obtain ⟨a5, l5, p5, rfl⟩ := own_slM ho5
        clear hb5 ht5 ho5
        go_wp2_with fail
        refine (answerM_ok a5 l5 p5 _).mono ?_
        rintro e w6 ⟨rfl, hb6⟩
        have B6 := hide (B5.out.trans (hb6.mono B5.out.size))
        have O6 := hide ((O5.out.below hb6 (Nat.le_refl _)).base (base' := w.heap.size) (by omega))
        clear hb6
        go_wp2
        go_ret2
        exact ⟨_, rfl, O6.out, B6.out⟩
      · exact absurd HV.out hbad
    | false =>
      rw [if_neg (by simp)]
      rw [hd, errV_false] at HKR
      clear hd hv
      go_enter Tryd.func17, Tryd.ntmps17
      go_wp2_with fail
      refine HRD.out.mono ?_
      rintro e w1 ⟨u, hor, hb1⟩
      rcases hor with ⟨_, rfl, ho1⟩ | ⟨hbad, _⟩
      · obtain ⟨au, cu, rfl⟩ := ho1.val
        have B1 := hide hb1
        have s1 := hb1.size
        have B2 := hide (B1.out.alloc (by omega) (.cells #[.slice au xs.length cu] 72))
        have hk2 : (w1.alloc (.cells #[.slice au xs.length cu] 72)).heap[w1.heap.size]? = some (.cells #[.slice au xs.length cu] 72 (0, 0)) := heap_alloc_new _ _
        clear hb1 ho1
        generalize xs.length = nn at *
        go_wp2_with fail
        generalize w1.alloc (.cells #[.slice au nn cu] 72) = w2 at *
        have c2 : w2.cell? ⟨w1.heap.size, 0, none⟩ = some (.slice au nn cu) := by rw [cell_of_row w2 _ 0 _ _ _ hk2]; rfl
        refine (HKR.out _).mono ?_
        rintro e w4 ⟨rfl, rfl⟩
        go_wp2_with fail
        refine (answerM_err (.iface 104 (.int .i64 2)) 2 au nn cu _ ((B2.out.cell (p := ⟨0, 0, none⟩) hlt0).trans HG.out) (.inr rfl)).mono ?_
        rintro e w5 ⟨rfl, hb5⟩
        have B5 := hide (B2.out.trans (hb5.mono B2.out.size))
        clear hb5
        go_wp2
        go_ret2
        exact ⟨_, rfl, World.ownsRow_nil _ _ _ _, B5.out⟩
      · exact absurd HV.out hbad
  · rw [if_pos hv]
    have HV := hide hv
    clear hv
    go_enter Tryd.func17, Tryd.ntmps17
    go_wp2_with fail
    refine HRD.out.mono ?_
    rintro e w1 ⟨u, hor, hb1⟩
    rcases hor with ⟨hgood, _⟩ | ⟨_, rfl, au, nn, cu, rfl⟩
    · exact absurd hgood HV.out
    · have B1 := hide hb1
      have s1 := hb1.size
      have B2 := hide (B1.out.alloc (by omega) (.cells #[.slice au nn cu] 72))
      have hk2 : (w1.alloc (.cells #[.slice au nn cu] 72)).heap[w1.heap.size]? = some (.cells #[.slice au nn cu] 72 (0, 0)) := heap_alloc_new _ _
      clear hb1
      unfold refV
      go_wp2_with fail
      generalize w1.alloc (.cells #[.slice au nn cu] 72) = w2 at *
      have c2 : w2.cell? ⟨w1.heap.size, 0, none⟩ = some (.slice au nn cu) := by rw [cell_of_row w2 _ 0 _ _ _ hk2]; rfl
      refine (answerM_err (refV readMsg 1) 1 au nn cu _ ((B2.out.cell (p := ⟨0, 0, none⟩) hlt0).trans HG.out) (.inl ⟨_, rfl⟩)).mono ?_
      rintro e w4 ⟨rfl, hb4⟩
      have B4 := hide (B2.out.trans (hb4.mono B2.out.size))
      clear hb4
      go_wp2
      go_ret2
      exact ⟨_, rfl, World.ownsRow_nil _ _ _ _, B4.out⟩


end Go.Proofs.YtdjdkgidihhkfabDoor
