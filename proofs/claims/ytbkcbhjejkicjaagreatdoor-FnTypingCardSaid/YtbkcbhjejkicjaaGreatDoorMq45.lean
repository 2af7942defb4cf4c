import Derived.Test.YtbkcbhjejkicjaaGreatDoorMq44
namespace Go.Proofs.YtbkcbhjejkicjaaGreatDoor
open Go Go.RowKit Go.Sort
set_option linter.unusedVariables false
theorem FB.same {w w' : World} {f E : Nat} {big near run live moves last nr : Int} (h : FB w f E big near run live moves last nr) (e : w'.heap[f]? = w.heap[f]?) : FB w' f E big near run live moves last nr := e.trans h
theorem FB.set87 {w : World} {f E : Nat} {big near run live moves last nr : Int} (h : FB w f E big near run live moves last nr) (x y : Int) : FB ((w.setCell ⟨f, 8, none⟩ (.int .i64 x)).setCell ⟨f, 7, none⟩ (.int .i64 y)) f E big near run live moves y x := by
  have h1 := heap_setCell_same w f 8 _ _ (.int .i64 x) h
  exact heap_setCell_same _ f 7 _ _ (.int .i64 y) h1
def FollPost (w : World) (B f : Nat) (H : Nat → Prop) (big near run : Int) (cs : List Int) (k : Nat) (w' : World) : Prop := ∃ E' nr', FB w' f E' big near run (wasN big run k) (mvN big run k) (lastN k) nr' ∧ NrI run k nr' ∧ TE w' B H (wasN big run k) E' cs k ∧ ChgP w w' (fun q => q = f)
/-- The last two calls of followEdit. -/
structure FEd (w : World) (B f E : Nat) (H : Nat → Prop) (big near run : Int) (cs : List Int) (k : Nat) (nr : Int) : Prop where
  fb : FB w f E big near run (wasN big run k) (mvN big run k) (lastN k) nr
  te : TE w B H (wasN big run k) E cs (k + 1)
  nr : NrI run k nr
  hf : H f
  hb : ∀ q, H q → B ≤ q
  kl : k < cs.length
  n : cs.length ≤ 100
  run : 1 ≤ run
  near : 0 ≤ near
theorem FEd.mv {w w3 : World} {B f E k : Nat} {H : Nat → Prop} {big near run nr : Int} {cs : List Int} (h : FEd w B f E H big near run cs k nr) (hc : ChgP w w3 (fun q => q = f)) (hF : FB w3 f E big near run (wasN big run k) (mvN big run k) (lastN (k + 1)) (nrN k nr)) :
    Calls Tryz.prog 25 #[.pointer (some ⟨f, 0, none⟩), .int .i64 (lvN big run k)] w3 fun e w' => e = .returned (.tuple #[]) ∧ FollPost w B f H big near run cs (k + 1) w' := by
  have hT : TE w3 B H (wasN big run k) E cs (k + 1) := h.te.chg ((ChgP.reflS w H).transS hc (fun q hq => by rw [hq]; exact .inl h.hf)) h.hb
  have hnx := h.nr.next (big := big) h.run
  by_cases e : lvN big run k = wasN big run k
  · rw [if_pos e] at hnx
    rw [e]
    refine (moveSame w3 f E big near run _ _ _ _ hF).mono ?_
    rintro _ w' ⟨rfl, rfl⟩
    refine ⟨rfl, E, _, ?_, hnx, ?_, hc⟩
    · have : mvN big run (k + 1) = mvN big run k := by simp only [mvN]; rw [if_pos e]; omega
      rw [this, show wasN big run (k + 1) = wasN big run k from e]
      exact hF
    · rw [show wasN big run (k + 1) = wasN big run k from e]; exact hT
  · rw [if_neg e] at hnx
    refine (moveT w3 B f E (k + 1) H big near run _ _ _ _ (lvN big run k) cs hF hT h.hf h.hb (by omega) h.kl h.n (lvN_01 big run k) e (by have := mvN_bd big run k; have := h.kl; have := h.n; omega)).mono ?_
    rintro _ w' ⟨rfl, E', h1, h2, h3⟩
    refine ⟨rfl, E', 0, ?_, hnx, h2, hc.transS h3 (fun q hq => .inl hq)⟩
    have : mvN big run (k + 1) = mvN big run k + 1 := by simp only [mvN]; rw [if_neg e]
    rw [this]
    exact h1
theorem FEd.wt {w w3 : World} {B f E k : Nat} {H : Nat → Prop} {big near run nr : Int} {cs : List Int} (h : FEd w B f E H big near run cs k nr) (hF : FB w3 f E big near run (wasN big run k) (mvN big run k) (lastN (k + 1)) (nrN k nr)) (n1 : Nat) (hn1 : n1 = k + 1) :
    Calls Tryz.prog 28 #[.pointer (some ⟨f, 0, none⟩), .int .i64 (n1 : Nat)] w3 fun e w' => e = .returned (.int .i64 (lvN big run k)) ∧ ∃ q, w' = w3.drewN q := by
  subst hn1
  have h9 := wantT w3 f E ((k + 1 : Nat) : Int) big near run _ _ _ _ hF
  rw [show ((k + 1 : Nat) : Int) = (k : Int) + 1 by omega, want_lv h.nr h.run] at h9
  rw [show ((k + 1 : Nat) : Int) = (k : Int) + 1 by omega]
  exact h9
set_option maxHeartbeats 4000000 in
set_option maxRecDepth 100000 in
theorem follA (w : World) (B f E k : Nat) (H : Nat → Prop) (big near run nr : Int) (cs : List Int) (n1 u1 : Nat) (hn1 : n1 = k + 1) (h : FEd w B f E H big near run cs k nr) (hk0 : k = 0) :
    Calls Tryz.prog 27 #[.pointer (some ⟨f, 0, none⟩), .int .i64 0, .int .i64 (n1 : Nat), .agg #[.int .i64 0, .int .i64 1, .int .i64 0, .slice none 0 0, .slice none 0 0, .int .i64 (n1 : Nat), .int .i64 1, .int .i64 (u1 : Nat), .int .i64 0, .int .i64 0]] w fun e w' => e = .returned (.tuple #[]) ∧ FollPost w B f H big near run cs (k + 1) w' := by
  obtain rfl : k = 0 := hk0
  have HE := hide h
  have hla : lastN 0 = -1 := rfl
  have hF := h.fb
  rw [hla] at hF
  have hnr : nrN 0 nr = (0 : Int) := by unfold nrN; simp
  have hl1 : lastN (0 + 1) = (n1 : Nat) := by rw [hn1]; rfl
  have hfl := hF.lt
  have hnb := h.nr
  have hkl := h.kl
  have hcn := h.n
  have BA := hide (bA (Below.refl w.heap.size w) (.cells #[.int .i64 0, .int .i64 1, .int .i64 0, .slice none 0 0, .slice none 0 0, .int .i64 (n1 : Nat), .int .i64 1, .int .i64 (u1 : Nat), .int .i64 0, .int .i64 0] 52))
  have OB := hide (show (w.alloc (.cells #[.int .i64 0, .int .i64 1, .int .i64 0, .slice none 0 0, .slice none 0 0, .int .i64 (n1 : Nat), .int .i64 1, .int .i64 (u1 : Nat), .int .i64 0, .int .i64 0] 52)).heap[w.heap.size]? = some (.cells #[.int .i64 0, .int .i64 1, .int .i64 0, .slice none 0 0, .slice none 0 0, .int .i64 (n1 : Nat), .int .i64 1, .int .i64 (u1 : Nat), .int .i64 0, .int .i64 0] 52 (0, 0)) from heap_alloc_new _ _)
  have F1 := hide (hF.same (BA.out.block f hfl))
  have WT := hide (fun (W : World) (hW : FB W f E big near run (wasN big run 0) (mvN big run 0) (n1 : Nat) (0 : Int)) => h.wt (by rw [hnr, hl1]; exact hW) n1 hn1)
  have MV := hide (fun (W : World) (hC : ChgP w W (fun q => q = f)) (hW : FB W f E big near run (wasN big run 0) (mvN big run 0) (n1 : Nat) (0 : Int)) => h.mv hC (by rw [hnr, hl1]; exact hW))
  have hnr2 : 0 ≤ nr ∧ nr ≤ 100 := ⟨hnb.1, by have := hnb.2.1; omega⟩
  generalize wasN big run 0 = ls at *
  generalize mvN big run 0 = ms at *
  generalize lvN big run 0 = lw at *
  clear hF h hnb hla hnr hl1 hn1
  go_enter Tryz.func27, Tryz.ntmps27
  go_upto_region 1 with fail
  have hfw : ¬ f = w.heap.size := by omega
  have hwf : ¬ w.heap.size = f := by omega
  have zz : w.heap.size < (w.alloc (.cells #[.int .i64 0, .int .i64 1, .int .i64 0, .slice none 0 0, .slice none 0 0, .int .i64 (n1 : Nat), .int .i64 1, .int .i64 (u1 : Nat), .int .i64 0, .int .i64 0] 52)).heap.size := by simp
  generalize w.alloc (.cells #[.int .i64 0, .int .i64 1, .int .i64 0, .slice none 0 0, .slice none 0 0, .int .i64 (n1 : Nat), .int .i64 1, .int .i64 (u1 : Nat), .int .i64 0, .int .i64 0] 52) = w1 at *
  have o1 : w1.cell? ⟨w.heap.size, 1, none⟩ = some (.int .i64 1) := by rw [cell_of_row _ _ 1 _ _ _ OB.out]; rfl
  obtain ⟨_, _, _, d3, _, _, _, d7, d8⟩ := F1.out.c
  have g7 := F1.out.f 7
  have g8 := F1.out.f 8
  go_upto_region 2 with fail
  go_quiet (fail)
  go_upto_region 6 with fail
  have F3 := hide (FB.set87 (F1.out.same (w' := w1.drewN nq) rfl) (0 : Int) (n1 : Nat))
  have C3 := hide ((((ChgP.of_below (S := fun q => q = f) BA.out (Nat.le_refl _)).sameS (y := w1.drewN nq) rfl rfl rfl rfl).setS ⟨f, 8, none⟩ (.int .i64 (0 : Int)) (.inl rfl)).setS ⟨f, 7, none⟩ (.int .i64 (n1 : Nat)) (.inl rfl))
  have OB3 := hide (show (((w1.drewN nq).setCell ⟨f, 8, none⟩ (.int .i64 (0 : Int))).setCell ⟨f, 7, none⟩ (.int .i64 (n1 : Nat))).heap[w.heap.size]? = _ from (heap_setCell_other _ ⟨f, 7, none⟩ w.heap.size _ hwf).trans ((heap_setCell_other (w1.drewN nq) ⟨f, 8, none⟩ w.heap.size _ hwf).trans OB.out))
  generalize ((w1.drewN nq).setCell ⟨f, 8, none⟩ (.int .i64 (0 : Int))).setCell ⟨f, 7, none⟩ (.int .i64 (n1 : Nat)) = w3 at *
  have o5 : w3.cell? ⟨w.heap.size, 5, none⟩ = some (.int .i64 (n1 : Nat)) := by rw [cell_of_row _ _ 5 _ _ _ OB3.out]; rfl
  clear o1 d3 d7 d8 g7 g8 F1 OB OB3
  go_wp2_with fail
  refine (WT.out _ F3.out).mono ?_
  rintro e w4 ⟨rfl, nz, hw4⟩
  subst hw4
  go_wp2_with fail
  refine (MV.out _ (C3.out.sameS (y := w3.drewN nz) rfl rfl rfl rfl) (F3.out.same (w' := w3.drewN nz) rfl)).mono ?_
  rintro e w5 ⟨rfl, hP⟩
  have HP := hide hP
  clear hP
  go_wp2
  go_end0
  exact ⟨rfl, HP.out⟩
set_option maxHeartbeats 4000000 in
set_option maxRecDepth 100000 in
theorem follB (w : World) (B f E k : Nat) (H : Nat → Prop) (big near run nr : Int) (cs : List Int) (n1 u1 : Nat) (hn1 : n1 = k + 1) (h : FEd w B f E H big near run cs k nr) (hk0 : 0 < k) :
    Calls Tryz.prog 27 #[.pointer (some ⟨f, 0, none⟩), .int .i64 (k : Nat), .int .i64 (n1 : Nat), .agg #[.int .i64 0, .int .i64 1, .int .i64 0, .slice none 0 0, .slice none 0 0, .int .i64 (n1 : Nat), .int .i64 1, .int .i64 (u1 : Nat), .int .i64 0, .int .i64 0]] w fun e w' => e = .returned (.tuple #[]) ∧ FollPost w B f H big near run cs (k + 1) w' := by
  have HE := hide h
  have hla : lastN k = k := by unfold lastN; rw [if_neg (by omega)]
  have hF := h.fb
  rw [hla] at hF
  have hnear := decide_eq_true h.near
  have hm1 : (((k : Nat) : Int) != -1) = true := by simp
  have ez : IntKind.i64.wrap 0 = 0 := by rw [IntKind.wrap_i64]; omega
  have hnr : nrN k nr = (nr + 1) := by unfold nrN; rw [if_neg (by omega)]
  have hl1 : lastN (k + 1) = (n1 : Nat) := by rw [hn1]; rfl
  have hfl := hF.lt
  have hnb := h.nr
  have hkl := h.kl
  have hcn := h.n
  have BA := hide (bA (Below.refl w.heap.size w) (.cells #[.int .i64 0, .int .i64 1, .int .i64 0, .slice none 0 0, .slice none 0 0, .int .i64 (n1 : Nat), .int .i64 1, .int .i64 (u1 : Nat), .int .i64 0, .int .i64 0] 52))
  have OB := hide (show (w.alloc (.cells #[.int .i64 0, .int .i64 1, .int .i64 0, .slice none 0 0, .slice none 0 0, .int .i64 (n1 : Nat), .int .i64 1, .int .i64 (u1 : Nat), .int .i64 0, .int .i64 0] 52)).heap[w.heap.size]? = some (.cells #[.int .i64 0, .int .i64 1, .int .i64 0, .slice none 0 0, .slice none 0 0, .int .i64 (n1 : Nat), .int .i64 1, .int .i64 (u1 : Nat), .int .i64 0, .int .i64 0] 52 (0, 0)) from heap_alloc_new _ _)
  have F1 := hide (hF.same (BA.out.block f hfl))
  have WT := hide (fun (W : World) (hW : FB W f E big near run (wasN big run k) (mvN big run k) (n1 : Nat) (nr + 1)) => h.wt (by rw [hnr, hl1]; exact hW) n1 hn1)
  have MV := hide (fun (W : World) (hC : ChgP w W (fun q => q = f)) (hW : FB W f E big near run (wasN big run k) (mvN big run k) (n1 : Nat) (nr + 1)) => h.mv hC (by rw [hnr, hl1]; exact hW))
  have hnr2 : 0 ≤ nr ∧ nr ≤ 100 := ⟨hnb.1, by have := hnb.2.1; omega⟩
  generalize wasN big run k = ls at *
  generalize mvN big run k = ms at *
  generalize lvN big run k = lw at *
  clear hF h hnb hla hnr hl1 hn1
  go_enter Tryz.func27, Tryz.ntmps27
  go_upto_region 1 with fail
  have hfw : ¬ f = w.heap.size := by omega
  have hwf : ¬ w.heap.size = f := by omega
  have zz : w.heap.size < (w.alloc (.cells #[.int .i64 0, .int .i64 1, .int .i64 0, .slice none 0 0, .slice none 0 0, .int .i64 (n1 : Nat), .int .i64 1, .int .i64 (u1 : Nat), .int .i64 0, .int .i64 0] 52)).heap.size := by simp
  generalize w.alloc (.cells #[.int .i64 0, .int .i64 1, .int .i64 0, .slice none 0 0, .slice none 0 0, .int .i64 (n1 : Nat), .int .i64 1, .int .i64 (u1 : Nat), .int .i64 0, .int .i64 0] 52) = w1 at *
  have o1 : w1.cell? ⟨w.heap.size, 1, none⟩ = some (.int .i64 1) := by rw [cell_of_row _ _ 1 _ _ _ OB.out]; rfl
  obtain ⟨_, _, _, d3, _, _, _, d7, d8⟩ := F1.out.c
  have g7 := F1.out.f 7
  have g8 := F1.out.f 8
  go_upto_region 2 with fail
  go_quiet (fail)
  go_upto_region 6 with fail
  have F3 := hide (FB.set87 (F1.out.same (w' := w1.drewN nq) rfl) (nr + 1) (n1 : Nat))
  have C3 := hide ((((ChgP.of_below (S := fun q => q = f) BA.out (Nat.le_refl _)).sameS (y := w1.drewN nq) rfl rfl rfl rfl).setS ⟨f, 8, none⟩ (.int .i64 (nr + 1)) (.inl rfl)).setS ⟨f, 7, none⟩ (.int .i64 (n1 : Nat)) (.inl rfl))
  have OB3 := hide (show (((w1.drewN nq).setCell ⟨f, 8, none⟩ (.int .i64 (nr + 1))).setCell ⟨f, 7, none⟩ (.int .i64 (n1 : Nat))).heap[w.heap.size]? = _ from (heap_setCell_other _ ⟨f, 7, none⟩ w.heap.size _ hwf).trans ((heap_setCell_other (w1.drewN nq) ⟨f, 8, none⟩ w.heap.size _ hwf).trans OB.out))
  generalize ((w1.drewN nq).setCell ⟨f, 8, none⟩ (.int .i64 (nr + 1))).setCell ⟨f, 7, none⟩ (.int .i64 (n1 : Nat)) = w3 at *
  have o5 : w3.cell? ⟨w.heap.size, 5, none⟩ = some (.int .i64 (n1 : Nat)) := by rw [cell_of_row _ _ 5 _ _ _ OB3.out]; rfl
  clear o1 d3 d7 d8 g7 g8 F1 OB OB3
  go_wp2_with fail
  refine (WT.out _ F3.out).mono ?_
  rintro e w4 ⟨rfl, nz, hw4⟩
  subst hw4
  go_wp2_with fail
  refine (MV.out _ (C3.out.sameS (y := w3.drewN nz) rfl rfl rfl rfl) (F3.out.same (w' := w3.drewN nz) rfl)).mono ?_
  rintro e w5 ⟨rfl, hP⟩
  have HP := hide hP
  clear hP
  go_wp2
  go_end0
  exact ⟨rfl, HP.out⟩
end Go.Proofs.YtbkcbhjejkicjaaGreatDoor

namespace Go.Proofs.YtbkcbhjejkicjaaGreatDoor
open Go Go.RowKit Go.Sort
set_option linter.unusedVariables false
theorem follE (w : World) (B f E k : Nat) (H : Nat → Prop) (big near run nr : Int) (cs : List Int) (n1 u1 : Nat) (hn1 : n1 = k + 1) (h : FEd w B f E H big near run cs k nr) :
    Calls Tryz.prog 27 #[.pointer (some ⟨f, 0, none⟩), .int .i64 (k : Nat), .int .i64 (n1 : Nat), .agg #[.int .i64 0, .int .i64 1, .int .i64 0, .slice none 0 0, .slice none 0 0, .int .i64 (n1 : Nat), .int .i64 1, .int .i64 (u1 : Nat), .int .i64 0, .int .i64 0]] w fun e w' => e = .returned (.tuple #[]) ∧ FollPost w B f H big near run cs (k + 1) w' := by
  rcases Nat.eq_zero_or_pos k with h9 | h9
  · have := follA w B f E k H big near run nr cs n1 u1 hn1 h h9
    subst h9
    exact this
  · exact follB w B f E k H big near run nr cs n1 u1 hn1 h h9
theorem FEd.below {w w' : World} {B f E k : Nat} {H : Nat → Prop} {big near run nr : Int} {cs : List Int} (h : FEd w B f E H big near run cs k nr) (hb : Below w.heap.size w w') : FEd w' B f E H big near run cs k nr :=
  ⟨h.fb.same (hb.block f h.fb.lt), h.te.below hb, h.nr, h.hf, h.hb, h.kl, h.n, h.run, h.near⟩
set_option maxHeartbeats 4000000 in
set_option maxRecDepth 100000 in
theorem follT (w : World) (B f E k : Nat) (H : Nat → Prop) (big near run nr : Int) (cs : List Int) (n1 u1 : Nat) (ta : Option Addr) (tl tq : Nat) (hn1 : n1 = k + 1) (h : FEd w B f E H big near run cs k nr) :
    Calls Tryz.prog 16 #[.pointer (some ⟨f, 0, none⟩), .agg #[.int .i64 1, .int .i64 (k : Nat), .int .i64 0, .int .i64 0, .slice ta tl tq], .agg #[.int .i64 0, .int .i64 1, .int .i64 0, .slice none 0 0, .slice none 0 0, .int .i64 (n1 : Nat), .int .i64 1, .int .i64 (u1 : Nat), .int .i64 0, .int .i64 0]] w fun e w' => e = .returned (.tuple #[]) ∧ FollPost w B f H big near run cs (k + 1) w' := by
  have hkl := h.kl
  have hcn := h.n
  have BB := hide (bA (bA (Below.refl w.heap.size w) (.cells #[.int .i64 1, .int .i64 (k : Nat), .int .i64 0, .int .i64 0, .slice ta tl tq] 30)) (.cells #[.int .i64 0, .int .i64 1, .int .i64 0, .slice none 0 0, .slice none 0 0, .int .i64 (n1 : Nat), .int .i64 1, .int .i64 (u1 : Nat), .int .i64 0, .int .i64 0] 52))
  have OP := hide (heap1 w (.cells #[.int .i64 0, .int .i64 1, .int .i64 0, .slice none 0 0, .slice none 0 0, .int .i64 (n1 : Nat), .int .i64 1, .int .i64 (u1 : Nat), .int .i64 0, .int .i64 0] 52) #[.int .i64 1, .int .i64 (k : Nat), .int .i64 0, .int .i64 0, .slice ta tl tq] 30)
  have OB := hide (heap2 w (.cells #[.int .i64 1, .int .i64 (k : Nat), .int .i64 0, .int .i64 0, .slice ta tl tq] 30) #[.int .i64 0, .int .i64 1, .int .i64 0, .slice none 0 0, .slice none 0 0, .int .i64 (n1 : Nat), .int .i64 1, .int .i64 (u1 : Nat), .int .i64 0, .int .i64 0] 52)
  have FE := hide (fun (W : World) (hW : Below w.heap.size w W) => follE W B f E k H big near run nr cs n1 u1 hn1 (h.below hW))
  have hkn : ((k : Nat) : Int) + 1 = (n1 : Nat) := by omega
  clear h hn1
  go_enter Tryz.func16, Tryz.ntmps16
  go_upto_region 1 with fail
  generalize (w.alloc (.cells #[.int .i64 1, .int .i64 (k : Nat), .int .i64 0, .int .i64 0, .slice ta tl tq] 30)).alloc (.cells #[.int .i64 0, .int .i64 1, .int .i64 0, .slice none 0 0, .slice none 0 0, .int .i64 (n1 : Nat), .int .i64 1, .int .i64 (u1 : Nat), .int .i64 0, .int .i64 0] 52) = w1 at *
  have p0 : w1.cell? ⟨w.heap.size, 0, none⟩ = some (.int .i64 1) := by rw [cell_of_row _ _ 0 _ _ _ OP.out]; rfl
  have p1 : w1.cell? ⟨w.heap.size, 1, none⟩ = some (.int .i64 (k : Nat)) := by rw [cell_of_row _ _ 1 _ _ _ OP.out]; rfl
  have p2 : w1.cell? ⟨w.heap.size, 2, none⟩ = some (.int .i64 0) := by rw [cell_of_row _ _ 2 _ _ _ OP.out]; rfl
  have p3 : w1.cell? ⟨w.heap.size, 3, none⟩ = some (.int .i64 0) := by rw [cell_of_row _ _ 3 _ _ _ OP.out]; rfl
  have p4 : w1.cell? ⟨w.heap.size, 4, none⟩ = some (.slice ta tl tq) := by rw [cell_of_row _ _ 4 _ _ _ OP.out]; rfl
  have o0 : w1.cell? ⟨w.heap.size + 1, 0, none⟩ = some (.int .i64 0) := by rw [cell_of_row _ _ 0 _ _ _ OB.out]; rfl
  have o1 : w1.cell? ⟨w.heap.size + 1, 1, none⟩ = some (.int .i64 1) := by rw [cell_of_row _ _ 1 _ _ _ OB.out]; rfl
  have o2 : w1.cell? ⟨w.heap.size + 1, 2, none⟩ = some (.int .i64 0) := by rw [cell_of_row _ _ 2 _ _ _ OB.out]; rfl
  have o3 : w1.cell? ⟨w.heap.size + 1, 3, none⟩ = some (.slice none 0 0) := by rw [cell_of_row _ _ 3 _ _ _ OB.out]; rfl
  have o4 : w1.cell? ⟨w.heap.size + 1, 4, none⟩ = some (.slice none 0 0) := by rw [cell_of_row _ _ 4 _ _ _ OB.out]; rfl
  have o5 : w1.cell? ⟨w.heap.size + 1, 5, none⟩ = some (.int .i64 (n1 : Nat)) := by rw [cell_of_row _ _ 5 _ _ _ OB.out]; rfl
  have o6 : w1.cell? ⟨w.heap.size + 1, 6, none⟩ = some (.int .i64 1) := by rw [cell_of_row _ _ 6 _ _ _ OB.out]; rfl
  have o7 : w1.cell? ⟨w.heap.size + 1, 7, none⟩ = some (.int .i64 (u1 : Nat)) := by rw [cell_of_row _ _ 7 _ _ _ OB.out]; rfl
  have o8 : w1.cell? ⟨w.heap.size + 1, 8, none⟩ = some (.int .i64 0) := by rw [cell_of_row _ _ 8 _ _ _ OB.out]; rfl
  have o9 : w1.cell? ⟨w.heap.size + 1, 9, none⟩ = some (.int .i64 0) := by rw [cell_of_row _ _ 9 _ _ _ OB.out]; rfl
  have F1 := hide (FE.out w1 BB.out)
  clear FE
  go_wp2_with fail
  refine F1.out.mono ?_
  rintro e w2 ⟨rfl, E', nr', h1, h2, h3, h4⟩
  have HP := hide (show FollPost w B f H big near run cs (k + 1) w2 from ⟨E', nr', h1, h2, h3, (ChgP.of_below BB.out (Nat.le_refl _)).transS h4 (fun q hq => .inl hq)⟩)
  clear h1 h2 h3 h4 F1
  go_wp2
  go_end0
  exact ⟨rfl, HP.out⟩
end Go.Proofs.YtbkcbhjejkicjaaGreatDoor

namespace Go.Proofs.YtbkcbhjejkicjaaGreatDoor
open Go Go.RowKit Go.Sort
set_option linter.unusedVariables false
set_option maxHeartbeats 400000 in
set_option maxRecDepth 100000 in
theorem checkScr (a : Option Addr) (n cap : Nat) (w : World) (hn : n ≤ 10000) :
    Calls Tryz.prog 13 #[.slice a n cap] w fun e w' => e = .returned .nilIface ∧ w' = w := by
  have BI := hide (boundsI n 0 10000 14 w)
  rw [show decide ((0 : Int) ≤ n ∧ (n : Int) ≤ 10000) = true from decide_eq_true ⟨by omega, by omega⟩] at BI
  go_enter Tryz.func13, Tryz.ntmps13
  go_wp2_with fail
  refine BI.out.mono ?_
  rintro e w1 ⟨he, rfl⟩
  obtain rfl : e = .returned .nilIface := he
  go_wp2
  go_ret
  exact ⟨rfl, rfl⟩
theorem tyM0 (cs : List Int) : TyM (ens0 [] 9) cs 0 := ⟨rfl, rfl, rfl, rfl, rfl, rfl⟩
def NewPost (w : World) (big near run : Int) (cs : List Int) (e : Ending) (w' : World) : Prop := ∃ f E, e = .returned (.pointer (some ⟨f, 0, none⟩)) ∧ w.heap.size ≤ f ∧ FB w' f E big near run 0 0 (-1) 0 ∧ TE w' w.heap.size (fun q => q = f) 0 E cs 0 ∧ Below w.heap.size w w'
set_option maxHeartbeats 4000000 in
set_option maxRecDepth 100000 in
theorem newFE (big near run : Int) (cs : List Int) (w : World) (hT : Tab w) (h1 : 1 < w.heap.size) :
    Calls Tryz.prog 15 #[.int .i64 9, .agg #[.int .i64 big, .int .i64 near, .int .i64 run]] w fun e w' => NewPost w big near run cs e w' := by
  have HT := hide hT
  have NE := hide (fun ty p W => newEng ty p 9 W)
  clear hT
  go_enter Tryz.func15, Tryz.ntmps15
  go_upto_region 2 with fail
  have B1 := hide (bA (bA (Below.refl w.heap.size w) (.cells #[.int .i64 big, .int .i64 near, .int .i64 run] 27)) (.cells #[.pointer none, .nilFunc, .int .i64 big, .int .i64 near, .int .i64 run, .int .i64 0, .int .i64 0, .int .i64 (-1), .int .i64 0] 56))
  have R1 := hide (heap2 w (.cells #[.int .i64 big, .int .i64 near, .int .i64 run] 27) #[.pointer none, .nilFunc, .int .i64 big, .int .i64 near, .int .i64 run, .int .i64 0, .int .i64 0, .int .i64 (-1), .int .i64 0] 56)
  have z1 : w.heap.size + 1 < ((w.alloc (.cells #[.int .i64 big, .int .i64 near, .int .i64 run] 27)).alloc (.cells #[.pointer none, .nilFunc, .int .i64 big, .int .i64 near, .int .i64 run, .int .i64 0, .int .i64 0, .int .i64 (-1), .int .i64 0] 56)).heap.size := by simp
  generalize (w.alloc (.cells #[.int .i64 big, .int .i64 near, .int .i64 run] 27)).alloc (.cells #[.pointer none, .nilFunc, .int .i64 big, .int .i64 near, .int .i64 run, .int .i64 0, .int .i64 0, .int .i64 (-1), .int .i64 0] 56) = w1 at *
  have LC := hide (loadC0 w1 (fun _ => False) (fun q => q < w1.heap.size) (fun q hq => hq) 0 (by decide))
  go_wp2_with fail
  refine LC.out.mono ?_
  rintro e w2 ⟨c, rfl, hc1, hc2, hb2⟩
  have C2 := hide hc2
  have B2 := hide hb2
  have z2 := hb2.size
  clear hc2 hb2 LC
  go_wp2_with fail
  refine (NE.out _ _ w2).mono ?_
  rintro e w3 ⟨rfl, hr3, hs3, hb3⟩
  have EM3 := hide (EM.new (lim := 9) C2.out (by omega) (by omega) (fun q hq => hq.elim) (fun q hq => by omega) hb3 hs3 hr3)
  have B3 := hide (B2.out.trans (hb3.mono z2))
  have R3 := hide ((B3.out.block (w.heap.size + 1) z1).trans R1.out)
  have z3 := B3.out.size
  clear hr3 hs3 hb3 NE
  go_wp2_with fail
  refine (holdF w3 (w.heap.size + 1) w2.heap.size _ _ _ R3.out rfl rfl).mono ?_
  rintro e w4 ⟨rfl, rfl⟩
  have F4 := hide (show FB ((w3.setCell ⟨w.heap.size + 1, 0, none⟩ (.pointer (some ⟨w2.heap.size, 0, none⟩))).setCell ⟨w.heap.size + 1, 1, none⟩ (.func (.func 38) #[.pointer (some ⟨w2.heap.size, 0, none⟩)] #[])) (w.heap.size + 1) w2.heap.size big near run 0 0 (-1) 0 from heap_setCell_same _ _ 1 _ _ _ (heap_setCell_same w3 _ 0 _ _ _ R3.out))
  have T3 := hide (show TE w3 w.heap.size (fun q => q = w.heap.size + 1) 0 w2.heap.size cs 0 from ⟨KP, _, _, _, c, 0, _, _, _, _, _, _, .inl ⟨rfl, rfl⟩, EM3.out, tyM0 cs, fun q hq => by show q < w1.heap.size; omega, fun q hq => ⟨by show q < w1.heap.size; omega, fun h9 => h9⟩, HT.out.same ((B3.out.block 1 (by omega)).trans (B1.out.block 1 h1)), h1⟩)
  have T4 := hide (T3.out.chg (((ChgP.reflS w3 (fun q => q = w.heap.size + 1)).setS ⟨w.heap.size + 1, 0, none⟩ (.pointer (some ⟨w2.heap.size, 0, none⟩)) (.inl rfl)).setS ⟨w.heap.size + 1, 1, none⟩ (.func (.func 38) #[.pointer (some ⟨w2.heap.size, 0, none⟩)] #[]) (.inl rfl)) (fun q hq => by omega))
  have B4 := hide (((B1.out.trans (B3.out.mono B1.out.size)).setCell (p := ⟨w.heap.size + 1, 0, none⟩) (by show w.heap.size ≤ w.heap.size + 1; omega) (.pointer (some ⟨w2.heap.size, 0, none⟩))).setCell (p := ⟨w.heap.size + 1, 1, none⟩) (by show w.heap.size ≤ w.heap.size + 1; omega) (.func (.func 38) #[.pointer (some ⟨w2.heap.size, 0, none⟩)] #[]))
  generalize (w3.setCell ⟨w.heap.size + 1, 0, none⟩ (.pointer (some ⟨w2.heap.size, 0, none⟩))).setCell ⟨w.heap.size + 1, 1, none⟩ (.func (.func 38) #[.pointer (some ⟨w2.heap.size, 0, none⟩)] #[]) = w4 at *
  go_wp2
  go_ret
  exact ⟨w.heap.size + 1, w2.heap.size, rfl, by omega, F4.out, T4.out, B4.out⟩
end Go.Proofs.YtbkcbhjejkicjaaGreatDoor

namespace Go.Proofs.YtbkcbhjejkicjaaGreatDoor
open Go Go.RowKit Go.Sort
set_option linter.unusedVariables false
theorem wpListIn_make_full {F : Fence} {n : Nat} {P : Program} (w : World) {ops : Array Oper} {rest : List Oper} {o : Oper} {a : Act} {Q : Exit → Act → World → Prop}
    (hg : o.guard = none) (l c : Operand) (t : TypeId) (hop : o.op = Op.makeSlice t l c)
    (base : Nat) (e : TypeId) (i : TypeInfo) (z : Value) (size : Nat) (h1 : P.underlying t = some (.slice e)) (h2 : P.info? e = some i) (h3 : i.zero = some z) (h4 : i.size = size)
    (kl kc : IntKind) (L C : Int) (m : Nat) (hl : a.eval l = .int kl L) (hc : a.eval c = .int kc C) (hL : L = (m : Int)) (hC : C = (m : Int)) (b2 : i.bytes * m ≤ 281474976710656) (b3 : m ≤ maxLen) (b4 : base ≤ w.heap.size)
    (hK : ∀ w', w'.ownsRow base e size (.slice (some ⟨w.heap.size, 0, none⟩) m m) m (madeCells z.cells (m * size)).toList → w.grownBy w' none → wpListIn F n P ops Q rest (a.put o.dst (.slice (some ⟨w.heap.size, 0, none⟩) m m)) w') :
    wpListIn F n P ops Q (o :: rest) a w := by
  refine wpListIn_plain hg fun K hK' => ?_
  obtain ⟨w', hrun, r1, r2⟩ := run_make_full (P := P) w base t e i z size h1 h2 h3 h4 kl kc m b2 b3 b4
  subst hL
  subst hC
  unfold Oper.wpIn
  refine ⟨?_, ?_⟩
  · simp [Oper.about, hop]
  · rw [Oper.semAt_plain F _ _ (by rw [hop]; intro c hc'; cases hc')]
    simp [execOp, hop, hl, hc, hrun, Result.andThen]
    exact hK' _ _ (hK w' r1 r2)
theorem wpListIn_store_mid {F : Fence} {n : Nat} {P : Program} {ops : Array Oper} {rest : List Oper} {op : Oper} {a : Act} {w : World} {Q : Exit → Act → World → Prop} (hgd : op.guard = none) (ty : TypeId) (x y : Operand) (ho : op.op = .store ty x y)
    (b o : Nat) (cells : Array Value) (hx : a.eval x = .pointer (some ⟨b, o, none⟩)) (hy : a.eval y = .agg cells)
    (ht : w.there b o cells.size) (hi : (P.info? ty).map (·.size) = some cells.size) (h1 : cells.all (·.oneCell') = true)
    (h : wpListIn F n P ops Q rest (a.put op.dst undef) (w.setCells b o cells.toList)) : wpListIn F n P ops Q (op :: rest) a w := by
  refine wpListIn_plain hgd fun K hK' => ?_
  unfold Oper.wpIn
  refine ⟨?_, ?_⟩
  · simp [Oper.about, ho]
  · rw [Oper.semAt_plain F _ _ (by rw [ho]; intro c hc'; cases hc')]
    simp only [execOp, ho, hx, hy, Instr.storeAt, Instr.sureAddr, Sem.run_bind, Sem.run_pure, Result.andThen_ok, run_storeVar_mid w b o ty cells ht hi h1]
    exact hK' _ _ h
/-- One of three can come up. -/
theorem th {F : Fence} {n : Nat} {P : Program} {ops : Array Oper} {md : Region.Mode} {Q : Exit → Act → World → Prop} {C : World → Prop} {fuel : Nat} {oi oj ok : Oper} {listed : Array Bool} {a : Act} {w : World} (i j k : Nat) (hC : C w)
    (h1 : wpListIn F n P ops (Exit.then (wpAnyC C F n P md ops Q fuel (listed.setIfInBounds i true)) Q) [oi] a w) (h2 : wpListIn F n P ops (Exit.then (wpAnyC C F n P md ops Q fuel (listed.setIfInBounds j true)) Q) [oj] a w) (h3 : wpListIn F n P ops (Exit.then (wpAnyC C F n P md ops Q fuel (listed.setIfInBounds k true)) Q) [ok] a w)
    (hi : ops[i]? = some oi := by rfl) (hj : ops[j]? = some oj := by rfl) (hk : ops[k]? = some ok := by rfl) (hr : (Region.ready md ops listed == [i, j, k]) = true := by kernel_rfl) : wpAnyC C F n P md ops Q (fuel + 1) listed a w := by
  have hr' : Region.ready md ops listed = [i, j, k] := by simpa using hr
  have one : ∀ (x : Nat) (o : Oper), ops[x]? = some o → wpListIn F n P ops (Exit.then (wpAnyC C F n P md ops Q fuel (listed.setIfInBounds x true)) Q) [o] a w → wpOpIn F n P ops Q x (wpAnyC C F n P md ops Q fuel (listed.setIfInBounds x true)) a w := fun x o hx h => by
    unfold wpListIn at h
    unfold wpOpIn
    simp only [hx]
    split at h
    · rename_i hw; rw [if_pos hw]; exact Oper.wpIn_mono (fun a w h => h) (wpIn_thenY h)
    · rename_i hw; rw [if_neg hw]; exact h
  refine ⟨hC, fun h => (by rw [hr'] at h; cases h), fun x hx => ?_⟩
  rw [hr'] at hx
  simp only [List.mem_cons, List.not_mem_nil, or_false] at hx
  rcases hx with rfl | rfl | rfl
  · exact one _ _ hi h1
  · exact one _ _ hj h2
  · exact one _ _ hk h3
/-- Cells set one behind another. -/
def setL : List Value → Nat → List Value → List Value
  | xs, _, [] => xs
  | xs, o, v :: vs => setL (xs.set o v) (o + 1) vs
theorem setL_mid : ∀ (vs A Z : List Value), vs.length ≤ Z.length → setL (A ++ Z) A.length vs = A ++ vs ++ Z.drop vs.length
  | [], A, Z, _ => by simp [setL]
  | v :: vs, A, [], h => by simp at h
  | v :: vs, A, z :: Z, h => by
    simp only [setL]
    rw [List.set_append_right _ _ (Nat.le_refl _), Nat.sub_self, List.set_cons_zero]
    have := setL_mid vs (A ++ [v]) Z (by simpa using h)
    rw [List.length_append, List.length_singleton, List.append_assoc, List.singleton_append] at this
    rw [this]
    simp
theorem owns_setCells {base : Nat} {e : TypeId} {size g cap n : Nat} : ∀ (vs : List Value) (o : Nat) (xs : List Value) (w : World), w.ownsRow base e size (.slice (some ⟨g, 0, none⟩) n cap) n xs → (w.setCells g o vs).ownsRow base e size (.slice (some ⟨g, 0, none⟩) n cap) n (setL xs o vs) ∧ w.grownBy (w.setCells g o vs) (some g)
  | [], o, xs, w, h => ⟨h, grown_refl w _⟩
  | v :: vs, o, xs, w, h => by
    have h1 := h.stored o v
    have h2 := owns_setCells vs (o + 1) (xs.set o v) _ h1.1
    exact ⟨h2.1, grown_trans h1.2 h2.2⟩
end Go.Proofs.YtbkcbhjejkicjaaGreatDoor

