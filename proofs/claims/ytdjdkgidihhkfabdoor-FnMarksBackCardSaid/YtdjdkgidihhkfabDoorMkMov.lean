import Derived.Test.YtdjdkgidihhkfabDoorMkSort
import Derived.Test.YtdjdkgidihhkfabDoorMkIdx
import Derived.Laws.AppendOwnNone
import Derived.Lib.SliceRun
namespace Go.Proofs.YtdjdkgidihhkfabDoor
open Go Go.RowKit Go.Sort
set_option linter.unusedVariables false

def pushF (off n : Int) (m : Mk) : Int := if m.2.1 > off ∨ (m.2.1 = off ∧ m.2.2 = 1) then m.2.1 + n else m.2.1
def pullF (off n : Int) (m : Mk) : Int := if m.2.1 > off then max off (m.2.1 - n) else m.2.1
def mov (f : Mk → Int) (m : Mk) : Mk := (m.1, f m, m.2.2)

set_option maxHeartbeats 400000 in
set_option maxRecDepth 100000 in
theorem pushedL (m : Mk) (off n : Int) (w : World) (h0 : 0 ≤ m.2.1 ∧ m.2.1 ≤ 8192) (h1 : 0 ≤ n ∧ n ≤ 8192) :
    Calls Tryd.prog 73 #[mkA m, .int .i64 off, .int .i64 n] w fun e w' => e = .returned (.int .i64 (pushF off n m)) ∧ Below w.heap.size w w' := by
  unfold pushF mkA
  by_cases a : m.2.1 > off
  · rw [if_pos (.inl a)]
    have a' : off < m.2.1 := a
    go_enter Tryd.func73, Tryd.ntmps73
    go_wp2
    go_ret
    exact ⟨rfl, (Below.refl _ _).alloc (Nat.le_refl _) _⟩
  · have a' : ¬ off < m.2.1 := a
    by_cases b : m.2.1 = off
    · have b' : (m.2.1 == off) = true := by simpa using b
      by_cases c : m.2.2 = 1
      · have c' : (m.2.2 == 1) = true := by simpa using c
        rw [if_pos (.inr ⟨b, c⟩)]
        clear b c
        go_enter Tryd.func73, Tryd.ntmps73
        go_wp2
        go_ret
        exact ⟨rfl, (Below.refl _ _).alloc (Nat.le_refl _) _⟩
      · have c' : (m.2.2 == 1) = false := by simpa using c
        rw [if_neg (fun q => by rcases q with q | q; exact a q; exact c q.2)]
        clear b c
        go_enter Tryd.func73, Tryd.ntmps73
        go_wp2
        go_ret
        exact ⟨rfl, (Below.refl _ _).alloc (Nat.le_refl _) _⟩
    · have b' : (m.2.1 == off) = false := by simpa using b
      rw [if_neg (fun q => by rcases q with q | q; exact a q; exact b q.1)]
      clear b
      go_enter Tryd.func73, Tryd.ntmps73
      go_wp2
      go_ret
      exact ⟨rfl, (Below.refl _ _).alloc (Nat.le_refl _) _⟩

/-- What is asked of the function that tells the offsets. -/
def Tells (g : Nat) (cb : Array Value) (f : Mk → Int) (xs : List Mk) (B : Nat) (w : World) : Prop :=
  ∀ W x, x ∈ xs → Below B w W → Calls Tryd.prog g (#[mkA x] ++ cb) W fun e w' => e = .returned (.int .i64 (f x)) ∧ Below W.heap.size W w'

set_option maxHeartbeats 1000000 in
set_option maxRecDepth 100000 in
theorem pushClos (xs : List Mk) (off n : Int) (b1 b2 B : Nat) (w : World) (h1 : b1 < B) (h2 : b2 < B) (c1 : w.cell? ⟨b1, 0, none⟩ = some (.int .i64 off)) (c2 : w.cell? ⟨b2, 0, none⟩ = some (.int .i64 n)) (hB : B ≤ w.heap.size) (hx : ∀ x ∈ xs, 0 ≤ x.2.1 ∧ x.2.1 ≤ 8192) (hn : 0 ≤ n ∧ n ≤ 8192) :
    Tells 75 #[.pointer (some ⟨b1, 0, none⟩), .pointer (some ⟨b2, 0, none⟩)] (pushF off n) xs B w := by
  intro W x hxm hb
  have HP := hide (fun W => pushedL x off n W (hx x hxm) hn)
  have hs := hb.size
  have BA := hide ((Below.refl W.heap.size W).alloc (Nat.le_refl _) (.cells #[.int .i64 x.1, .int .i64 x.2.1, .int .i64 x.2.2] 41))
  have e1 := (BA.out.cell (p := ⟨b1, 0, none⟩) (by show b1 < _; omega)).trans ((hb.cell (p := ⟨b1, 0, none⟩) h1).trans c1)
  have e2 := (BA.out.cell (p := ⟨b2, 0, none⟩) (by show b2 < _; omega)).trans ((hb.cell (p := ⟨b2, 0, none⟩) h2).trans c2)
  have sA : W.heap.size ≤ (W.alloc (.cells #[.int .i64 x.1, .int .i64 x.2.1, .int .i64 x.2.2] 41)).heap.size := by simp
  have n1 : ¬ b1 = W.heap.size := by omega
  have n2 : ¬ b2 = W.heap.size := by omega
  generalize pushF off n x = r at *
  clear hb c1 c2
  unfold mkA at *
  show Calls Tryd.prog 75 #[.agg #[.int .i64 x.1, .int .i64 x.2.1, .int .i64 x.2.2], .pointer (some ⟨b1, 0, none⟩), .pointer (some ⟨b2, 0, none⟩)] W _
  go_enter Tryd.func75, Tryd.ntmps75
  go_wp2_with fail
  generalize W.alloc (.cells #[.int .i64 x.1, .int .i64 x.2.1, .int .i64 x.2.2] 41) = w0 at *
  refine (HP.out _).mono ?_
  rintro e w1 ⟨rfl, hb1⟩
  have B1 := hide (BA.out.trans (hb1.mono sA))
  clear hb1
  go_wp2
  go_ret
  exact ⟨rfl, B1.out⟩

set_option maxHeartbeats 1000000 in
set_option maxRecDepth 100000 in
theorem cloneML (base : Nat) (xs : List Mk) (v : Value) (w : World) (h : OwM w base v xs) (hn : xs.length ≤ 1048576) :
    Calls Tryd.prog 97 #[v] w fun e w' => ∃ v', e = .returned v' ∧ OwM w' w.heap.size v' xs ∧ Below w.heap.size w w' := by
  obtain ⟨i0, hi, hz0, hz1, hz2⟩ := info_parts Tryd.infoMK
  have HO := hide h
  rcases h.shape with ⟨rfl, rfl⟩ | ⟨g, cap, rfl, hcap, hcm, hbg, hgl⟩
  · clear h
    have hq := fun w : World => Lib.run_eql_slice_nil (P := Tryd.prog) w 24 41 none 0 0 0 0 Tryd.underlying24
    simp only [Option.isNone_none] at hq
    go_enter Tryd.func97, Tryd.ntmps97
    go_wp2
    go_ret
    exact ⟨_, rfl, World.ownsRow_nil _ _ _ _, Below.refl _ _⟩
  · have hk0 : (w.alloc (.cells #[] 41)).heap[w.heap.size]? = some (.cells #[] 41 (0, 0)) := heap_alloc_new _ _
    have hs0 : (w.alloc (.cells #[] 41)).heap.size = w.heap.size + 1 := by simp
    have B0 := hide ((Below.refl w.heap.size w).alloc (Nat.le_refl _) (.cells #[] 41))
    have O0 := hide (show (w.alloc (.cells #[] 41)).ownsRow w.heap.size 41 3 (.slice (some ⟨w.heap.size, 0, none⟩) 0 0) 0 [] from ⟨rfl, .inr ⟨_, 0, #[], rfl, Nat.le_refl _, hk0, Nat.le_refl _, by unfold maxLen; omega, rfl, rfl⟩⟩)
    have RC := hide (OwM.cells (show OwM (w.alloc (.cells #[] 41)) base (.slice (some ⟨g, 0, none⟩) xs.length cap) xs from (World.ownsRow.alloc HO.out _)))
    unfold maxLen at hcm
    have hq := fun w : World => Lib.run_eql_slice_nil (P := Tryd.prog) w 24 41 (some ⟨g, 0, none⟩) xs.length cap 0 0 Tryd.underlying24
    simp only [Option.isNone_some] at hq
    clear h hk0
    go_enter Tryd.func97, Tryd.ntmps97
    go_wp2_with (at_builtin; refine wpList_append_own _ rfl _ _ 24 rfl w.heap.size 41 i0 (.agg #[.int .i64 0, .int .i64 0, .int .i64 0]) 3 24 Tryd.underlying24 hi hz0 hz1 hz2 rfl (by decide) (.slice (some ⟨w.heap.size, 0, none⟩) 0 0) 0 [] rfl (by exact O0.out) ⟨g, 0, none⟩ xs.length cap (mkVs xs) rfl (mkVs_length xs) (by exact RC.out) (mkVs_one xs) (by unfold maxLen; omega) (by omega) (by simp) ?_; intro v4 w4 ho4 hg4 _; have O4 := hide (show OwM w4 w.heap.size v4 xs from (by have h9 := ho4; rw [Nat.zero_add, List.nil_append] at h9; exact h9)); have B4 := hide (B0.out.trans ((Below.refl w.heap.size _).grown hg4 (by omega) (own_rowM O0.out))); clear ho4 hg4)
    go_ret
    exact ⟨_, rfl, O4.out, B4.out⟩

theorem movs_set (f : Mk → Int) (xs : List Mk) (k : Nat) (x : Mk) (h : xs[k]? = some x) : (mkVs ((xs.take k).map (mov f) ++ xs.drop k)).set (k * 3 + 1) (.int .i64 (f x)) = mkVs ((xs.take (k + 1)).map (mov f) ++ xs.drop (k + 1)) := by
  have hk : k < xs.length := (List.getElem?_eq_some_iff.1 h).1
  have e : xs.drop k = x :: xs.drop (k + 1) := by
    rw [List.drop_eq_getElem_cons hk]
    have := List.getElem?_eq_some_iff.1 h
    rw [this.2]
  have hl : ((xs.take k).map (mov f)).length = k := by simp; omega
  have s := mkVs_set1 ((xs.take k).map (mov f)) x (f x) (xs.drop (k + 1))
  rw [hl] at s
  rw [e, s, List.take_add_one, h]
  simp [mov]

set_option maxHeartbeats 2000000 in
set_option maxRecDepth 100000 in
theorem moveMarksL (tb g : Nat) (cb : Array Value) (f : Mk → Int) (xs : List Mk) (v : Value) (base : Nat) (w : World) (ht : Tb w tb v) (h : OwM w base v xs) (hn : xs.length ≤ 4096) (hd : xs.Pairwise fun a b => a.1 ≠ b.1)
    (eg : ∀ args w, (callFunc g args).run Tryd.prog w = .ok (.enter g args) w) (hT : Tells g cb f xs w.heap.size w) :
    Calls Tryd.prog 74 #[.pointer (some ⟨tb, 0, none⟩), .func (.func g) #[] cb] w fun e w' => e = .returned (.tuple #[]) ∧ ∃ v', Tb w' tb v' ∧ OwM w' w.heap.size v' (srt (xs.map (mov f))) ∧ ∀ B, B ≤ tb → B ≤ w.heap.size → Below B w w' := by
  have hlt := ht.lt
  have c := ht.c
  have HC := hide (cloneML base xs v w h (by omega))
  have HTL := hide hT
  have hd2 : (xs.map (mov f)).Pairwise fun a b => a.1 ≠ b.1 := by rw [List.pairwise_map]; exact hd
  have HSO := hide (fun B v w h => sortFuncL B (xs.map (mov f)) v w h (by simpa using hn) hd2)
  obtain ⟨ao, cap, rfl⟩ := h.val
  have HT := hide ht
  generalize hN : xs.length = n at *
  have HNN := hide hN
  clear h ht hT hN hd hd2
  go_enter Tryd.func74, Tryd.ntmps74
  go_wp2_with fail
  refine HC.out.mono ?_
  rintro e w1 ⟨v1, rfl, ho1, hb1⟩
  have O1 := hide ho1
  have B1 := hide hb1
  have s1 := hb1.size
  have T1 := hide (HT.out.below hb1 hlt)
  rcases ho1.shape with ⟨rfl, hxe⟩ | ⟨gv, cv, rfl, hcv, hcm, hbg, hgl⟩
  · subst hxe
    have hn0 : n = 0 := by rw [← HNN.out]; rfl
    subst hn0
    have HS := hide (HSO.out _ _ _ (show OwM w1 w.heap.size (.slice none 0 0) (List.map (mov f) []) from World.ownsRow_nil _ _ _ _))
    have c1 := T1.out.c
    have f1 := T1.out.fz
    clear ho1 hb1
    go_wp2_with fail
    refine wp_loop_rounds 1 ?_
    rw [rounds_succ]
    go_wp2_with fail
    refine HS.out.mono ?_
    rintro e w2 ⟨rfl, ho2, hg2⟩
    have b2 : Below w1.heap.size w1 w2 := (Below.refl _ _).grown hg2 (Nat.le_refl _) (fun q hq => by cases hq)
    have T2 := hide (T1.out.below b2 T1.out.lt)
    have B2 := hide (B1.out.trans (b2.mono s1))
    have c2 := T2.out.c
    have f2 := T2.out.fz
    have O2 := hide ho2
    clear ho2 hg2 b2
    go_wp2
    go_end0
    refine ⟨rfl, _, Tb.set T2.out _, ?_, fun B h1 h2 => (B2.out.mono h2).setCell h1 _⟩
    exact World.ownsRow_nil _ _ _ _
  · rw [HNN.out] at hcv
    rw [HNN.out]
    unfold maxLen at hcm
    have htg : ¬ tb = gv := by omega
    clear ho1 hb1
    go_wp2_with fail
    go_loopw [14] (fun i wr => ∃ k : Nat, k ≤ n ∧ i = .int .i64 k ∧ wr.ownsRow w.heap.size 41 3 (.slice (some ⟨gv, 0, none⟩) n cv) n (mkVs ((xs.take k).map (mov f) ++ xs.drop k)) ∧ Below w.heap.size w wr) (fun i _ => n - (intOf i).toNat)
    case atStart => exact ⟨0, Nat.zero_le _, rfl, by have h9 := O1.out; unfold OwM at h9; rw [HNN.out] at h9; simpa using h9, B1.out⟩
    case round =>
      obtain ⟨k, hk, rfl, hown, hb⟩ := hrel
      have HB := hide hb
      have HOW := hide hown
      have hsz := hb.size
      have hgr : gv < wr.heap.size := (hown.lt gv rfl).2
      by_cases hlt2 : k < n
      · obtain ⟨x, hx⟩ : ∃ x, xs[k]? = some x := ⟨xs[k]'(by rw [HNN.out]; exact hlt2), by simp⟩
        have hgx : ((xs.take k).map (mov f) ++ xs.drop k)[k]? = some x := by
          rw [List.getElem?_append_right (by rw [List.length_map, List.length_take]; omega), List.length_map, List.length_take, HNN.out, Nat.min_eq_left hk, Nat.sub_self, List.getElem?_drop, Nat.add_zero, hx]
        have e0 : wr.cell? ⟨gv, k * 3, none⟩ = some (.int .i64 x.1) := by have h9 := hown.cellAt (k * 3) (by omega); rw [h9, ← Nat.add_zero (k * 3), mkVs_get _ k 0 x hgx (by omega)]; rfl
        have e1 : wr.cell? ⟨gv, k * 3 + 1, none⟩ = some (.int .i64 x.2.1) := by rw [hown.cellAt (k * 3 + 1) (by omega), mkVs_get _ k 1 x hgx (by omega)]; rfl
        have e2 : wr.cell? ⟨gv, k * 3 + 2, none⟩ = some (.int .i64 x.2.2) := by rw [hown.cellAt (k * 3 + 2) (by omega), mkVs_get _ k 2 x hgx (by omega)]; rfl
        have hlt3 : (k : Int) < n := by omega
        have BA := hide ((Below.refl wr.heap.size wr).alloc (Nat.le_refl _) (.cells #[.int .i64 x.1, .int .i64 x.2.1, .int .i64 x.2.2] 41))
        have sA : wr.heap.size ≤ (wr.alloc (.cells #[.int .i64 x.1, .int .i64 x.2.1, .int .i64 x.2.2] 41)).heap.size := by simp
        have HCL := hide (HTL.out _ x (List.mem_of_getElem? hx) (HB.out.trans (BA.out.mono hsz)))
        have HX := hide hx
        unfold mkA at HCL
        clear hb hown hgx hx
        go_wp2_with fail
        generalize wr.alloc (.cells #[.int .i64 x.1, .int .i64 x.2.1, .int .i64 x.2.2] 41) = wa at *
        refine HCL.out.mono ?_
        rintro e w2 ⟨rfl, hb2⟩
        have b2 : Below wr.heap.size wr w2 := BA.out.trans (hb2.mono sA)
        have hown2 := owns_below HOW.out b2 (Nat.le_refl _)
        have B2 := hide (HB.out.trans (b2.mono hsz))
        have s2 := b2.size
        obtain ⟨v1, k1⟩ := own_cell3 hown2 (k * 3 + 1) (by omega)
        have f1 : w2.frozen? ⟨gv, k * 3 + 1, none⟩ = false := hown2.frozenAt _
        have st := (hown2.stored (k * 3 + 1) (.int .i64 (f x))).1
        rw [movs_set f xs k x HX.out] at st
        have HS := hide st
        clear hb2 b2 hown2 st e0 e1 e2
        go_wp2
        go_roundw
        case rel => exact ⟨k + 1, by omega, by go_num, HS.out, B2.out.setCell (by show w.heap.size ≤ gv; omega) _⟩
        case measure => simp [intOf]; omega
      · obtain rfl : k = n := by omega
        have hge : ¬ (k : Int) < (k : Int) := by omega
        have O3 := hide (show OwM wr w.heap.size (.slice (some ⟨gv, 0, none⟩) k cv) (xs.map (mov f)) from (by
          have h9 := HOW.out
          rw [show xs.take k = xs by rw [← HNN.out]; exact List.take_length, List.drop_of_length_le (by rw [HNN.out]; omega), List.append_nil] at h9
          unfold OwM
          rw [List.length_map, HNN.out]
          exact h9))
        have T3 := hide (HT.out.below HB.out hlt)
        have HS := hide (HSO.out _ _ _ O3.out)
        clear hb hown
        go_wp2_with fail
        refine HS.out.mono ?_
        rintro e w4 ⟨rfl, ho4, hg4⟩
        have T4 := hide (show Tb w4 tb _ from (hg4.block tb T3.out.lt (fun q => by simp only [Value.ownBlock, Option.some.injEq] at q; omega)).trans T3.out)
        have B4 := hide (HB.out.grown hg4 hsz (fun q hq => by simp only [Value.ownBlock, Option.some.injEq] at hq; omega))
        have c4 := T4.out.c
        have f4 := T4.out.fz
        have O4 := hide ho4
        clear ho4 hg4
        go_wp2
        go_end0
        refine ⟨rfl, _, Tb.set T4.out _, ?_, fun B h1 h2 => (B4.out.mono h2).setCell h1 _⟩
        refine owns_of_block O4.out fun q hq => heap_setCell_other _ _ _ _ (fun e => ?_)
        have e' : q = tb := e
        subst e'
        exact own_offM O4.out T4.out (by decide) hq.symm

set_option maxHeartbeats 1000000 in
set_option maxRecDepth 100000 in
theorem pushMarksL (tb : Nat) (off n : Int) (xs : List Mk) (v : Value) (base : Nat) (w : World) (ht : Tb w tb v) (h : OwM w base v xs) (hv : Vd xs) (hn : 0 ≤ n ∧ n ≤ 8192) :
    Calls Tryd.prog 47 #[.pointer (some ⟨tb, 0, none⟩), .int .i64 off, .int .i64 n] w fun e w' => e = .returned (.tuple #[]) ∧ ∃ v', Tb w' tb v' ∧ OwM w' w.heap.size v' (srt (xs.map (mov (pushF off n)))) ∧ ∀ B, B ≤ tb → B ≤ w.heap.size → Below B w w' := by
  have hlt := ht.lt
  have B0 := hide (((Below.refl w.heap.size w).alloc (Nat.le_refl _) (.cells #[.int .i64 off] 3)).alloc (by simp) (.cells #[.int .i64 n] 3))
  have c1 : ((w.alloc (.cells #[.int .i64 off] 3)).alloc (.cells #[.int .i64 n] 3)).cell? ⟨w.heap.size, 0, none⟩ = some (.int .i64 off) := by
    rw [World.cell?_alloc_lt _ _ ⟨w.heap.size, 0, none⟩ (by simp), World.cell?_alloc_at _ _ _ _ rfl]; rfl
  have c2 : ((w.alloc (.cells #[.int .i64 off] 3)).alloc (.cells #[.int .i64 n] 3)).cell? ⟨w.heap.size + 1, 0, none⟩ = some (.int .i64 n) := by
    rw [World.cell?_alloc_at _ _ _ _ (by simp)]; rfl
  have hs0 : ((w.alloc (.cells #[.int .i64 off] 3)).alloc (.cells #[.int .i64 n] 3)).heap.size = w.heap.size + 2 := by simp
  have HM := hide (moveMarksL tb 75 #[.pointer (some ⟨w.heap.size, 0, none⟩), .pointer (some ⟨w.heap.size + 1, 0, none⟩)] (pushF off n) xs v base _ (ht.below B0.out hlt) (h.below B0.out (Nat.le_refl _)) (by have := hv.1; omega) (hv.2.2.imp fun q => q.2) (Go.Proofs.enters_of Tryd.func75 (by kernel_rfl) rfl)
    (pushClos xs off n w.heap.size (w.heap.size + 1) _ _ (by omega) (by omega) c1 c2 (Nat.le_refl _) (fun x hx => by have := (hv.2.1 x hx).2; simpa [inO] using this) hn))
  clear h ht c1 c2
  go_enter Tryd.func47, Tryd.ntmps47
  go_wp2_with fail
  generalize (w.alloc (.cells #[.int .i64 off] 3)).alloc (.cells #[.int .i64 n] 3) = w0 at *
  refine HM.out.mono ?_
  rintro e w1 ⟨rfl, v1, ht1, ho1, hb1⟩
  have T1 := hide ht1
  have O1 := hide (ho1.base (base' := w.heap.size) (by omega))
  have HB1 := hide hb1
  clear ht1 ho1 hb1
  go_wp2
  go_end0
  exact ⟨rfl, v1, T1.out, O1.out, fun B h1 h2 => (B0.out.mono h2).trans (HB1.out B h1 (by omega))⟩

end Go.Proofs.YtdjdkgidihhkfabDoor
