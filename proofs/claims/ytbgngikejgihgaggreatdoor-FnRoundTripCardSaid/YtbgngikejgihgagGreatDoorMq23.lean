import Derived.Test.YtbgngikejgihgagGreatDoorMq22
import Derived.Test.YtbgngikejgihgagGreatDoorMq04
import Derived.Deep.LoopGhost
import Derived.Test.YtbgngikejgihgagGreatDoorMq20
import Derived.Test.YtbgngikejgihgagGreatDoorMq05
import Derived.OrdersIn
import Derived.Test.YtbgngikejgihgagGreatDoorMq11
import Derived.ArgAppend
import Derived.Deep.AppendLies
import Derived.Deep.QuietTactic
import Derived.BigQuiet
import Derived.Deep.Cut
import Derived.Deep.DeepCutAuto
import Derived.Test.YtbgngikejgihgagGreatDoorMq03
namespace Go.Proofs.YtbgngikejgihgagGreatDoor
open Go Go.RowKit
set_option linter.unusedVariables false

/-- The record of the search, as it lies: the element, what stands before, inside, seen. -/
def Fnd (w : World) (b : Nat) (x y z i n k d s : Int) : Prop := w.heap[b]? = some (.cells #[.int .i64 x, .int .i64 y, .int .i64 z, .int .i64 i, .int .i64 n, .int .i64 k, .int .i64 d, .int .i64 s] 477 (0, 0))
theorem Fnd.c {w : World} {b : Nat} {x y z i n k d s : Int} (h : Fnd w b x y z i n k d s) : w.cell? ⟨b, 0, none⟩ = some (.int .i64 x) ∧ w.cell? ⟨b, 1, none⟩ = some (.int .i64 y) ∧ w.cell? ⟨b, 2, none⟩ = some (.int .i64 z) ∧ w.cell? ⟨b, 3, none⟩ = some (.int .i64 i) ∧ w.cell? ⟨b, 4, none⟩ = some (.int .i64 n) ∧ w.cell? ⟨b, 5, none⟩ = some (.int .i64 k) ∧ w.cell? ⟨b, 6, none⟩ = some (.int .i64 d) ∧ w.cell? ⟨b, 7, none⟩ = some (.int .i64 s) := by
  refine ⟨?_, ?_, ?_, ?_, ?_, ?_, ?_, ?_⟩ <;> rw [cell_of_row w b _ _ _ _ h] <;> rfl
theorem Fnd.fz {w : World} {b : Nat} {x y z i n k d s : Int} (h : Fnd w b x y z i n k d s) (j : Nat) : w.frozen? ⟨b, j, none⟩ = false := frozen_of_row w b j _ _ h
theorem Fnd.lt {w : World} {b : Nat} {x y z i n k d s : Int} (h : Fnd w b x y z i n k d s) : b < w.heap.size := by
  rcases Nat.lt_or_ge b w.heap.size with h' | h'
  · exact h'
  · unfold Fnd at h; rw [Array.getElem?_eq_none h'] at h; cases h
theorem Fnd.set7 {w : World} {b : Nat} {x y z i n k d s : Int} (h : Fnd w b x y z i n k d s) (u : Int) : Fnd (w.setCell ⟨b, 7, none⟩ (.int .i64 u)) b x y z i n k d u := by
  unfold Fnd at h ⊢; rw [heap_setCell_same w b 7 _ _ _ h]; rfl
theorem Fnd.set345 {w : World} {b : Nat} {x y z i n k d s : Int} (h : Fnd w b x y z i n k d s) (u v t : Int) : Fnd (((w.setCell ⟨b, 3, none⟩ (.int .i64 u)).setCell ⟨b, 4, none⟩ (.int .i64 v)).setCell ⟨b, 5, none⟩ (.int .i64 t)) b x y z u v t d s := by
  unfold Fnd at h ⊢
  have h1 := heap_setCell_same w b 3 _ _ (.int .i64 u) h
  have h2 := heap_setCell_same _ b 4 _ _ (.int .i64 v) h1
  have h3 := heap_setCell_same _ b 5 _ _ (.int .i64 t) h2
  rw [h3]; rfl
theorem Fnd.below {B : Nat} {w w' : World} {b : Nat} {x y z i n k d s : Int} (h : Fnd w b x y z i n k d s) (hb : Below B w w') (hB : b < B) : Fnd w' b x y z i n k d s := (hb.block b hB).trans h

def fndV (x y z : Int) (r : Nat × Int × Int × Int × Int) : Value := .agg #[.int .i64 x, .int .i64 y, .int .i64 z, .int .i64 r.1, .int .i64 r.2.1, .int .i64 r.2.2.1, .int .i64 r.2.2.2.1, .int .i64 r.2.2.2.2]

/-- What a search from here adds to what was met before. -/
def seekAdd (m : Pc → Int) (T : AT) (k : Int) (i : Nat) (n b s : Int) : Nat × Int × Int × Int × Int :=
  ((seekT m T k).1 + i, (seekT m T k).2.1 + n, (seekT m T k).2.2.1 + b, (seekT m T k).2.2.2.1, (seekT m T k).2.2.2.2 + s)

theorem seekAdd_zero (m : Pc → Int) (T : AT) (k : Int) : seekT m T k = seekAdd m T k 0 0 0 0 := by simp [seekAdd]
theorem seekAdd_nil (m : Pc → Int) (k : Int) (i : Nat) (n b s : Int) : seekAdd m .nil k i n b s = (i, n, b, k, s) := by simp [seekAdd, seekT]
theorem seekAdd_left (m : Pc → Int) (l : AT) (p : Pc) (r : AT) (k : Int) (i : Nat) (n b s : Int) (h : k < sumM m (l.told 0)) : seekAdd m (.node l p r) k i n b s = seekAdd m l k i n b (s + 1) := by
  simp only [seekAdd, seekT, if_pos h]; simp; omega
theorem seekAdd_here (m : Pc → Int) (l : AT) (p : Pc) (r : AT) (k : Int) (i : Nat) (n b s : Int) (h : ¬ k < sumM m (l.told 0)) (h2 : k - sumM m (l.told 0) < m p) : seekAdd m (.node l p r) k i n b s = (i + l.its, n + l.rns, b + l.bks, k - sumM m (l.told 0), s + 1) := by
  simp only [seekAdd, seekT, if_neg h, if_pos h2]; simp; omega
theorem seekAdd_right (m : Pc → Int) (l : AT) (p : Pc) (r : AT) (k : Int) (i : Nat) (n b s : Int) (h : ¬ k < sumM m (l.told 0)) (h2 : ¬ k - sumM m (l.told 0) < m p) : seekAdd m (.node l p r) k i n b s = seekAdd m r (k - sumM m (l.told 0) - m p) (i + l.its + 1) (n + l.rns + p.len) (b + l.bks + p.brk) (s + 1) := by
  simp only [seekAdd, seekT, if_neg h, if_neg h2]; simp; omega

/-- A round of the search, as it lies. -/
structure Rnd (w wx : World) (a : Nat) (i n b s li ln lb pl pb : Int) : Prop where
  f : Fnd wx (w.heap.size + 1) 0 0 0 i n b 0 s
  g : Fnd wx w.heap.size 0 0 0 0 0 0 0 0
  h : Below w.heap.size w wx
  l : wx.heap[a]? = some (.cells #[.int .i64 li, .int .i64 ln, .int .i64 lb] 332 (0, 0))
  o : wx.heap[a + 1]? = some (.cells #[.int .i64 1, .int .i64 pl, .int .i64 pb] 332 (0, 0))
  sz : a + 2 ≤ wx.heap.size
  lo : w.heap.size + 1 < a

theorem Rnd.below {w wx wy : World} {a : Nat} {i n b s li ln lb pl pb : Int} (r : Rnd w wx a i n b s li ln lb pl pb) (hb : Below wx.heap.size wx wy) : Rnd w wy a i n b s li ln lb pl pb := by
  have h1 := r.sz
  have h2 := r.lo
  exact ⟨r.f.below hb (by omega), r.g.below hb (by omega), r.h.trans (hb.mono (by omega)), (hb.block a (by omega)).trans r.l, (hb.block (a + 1) (by omega)).trans r.o, by have := hb.size; omega, h2⟩
theorem Rnd.set345 {w wx : World} {a : Nat} {i n b s li ln lb pl pb : Int} (r : Rnd w wx a i n b s li ln lb pl pb) (x y z : Int) :
    Rnd w (((wx.setCell ⟨w.heap.size + 1, 3, none⟩ (.int .i64 x)).setCell ⟨w.heap.size + 1, 4, none⟩ (.int .i64 y)).setCell ⟨w.heap.size + 1, 5, none⟩ (.int .i64 z)) a x y z s li ln lb pl pb := by
  have h1 := r.sz
  have h2 := r.lo
  have ho : ∀ k, k ≠ w.heap.size + 1 → (((wx.setCell ⟨w.heap.size + 1, 3, none⟩ (.int .i64 x)).setCell ⟨w.heap.size + 1, 4, none⟩ (.int .i64 y)).setCell ⟨w.heap.size + 1, 5, none⟩ (.int .i64 z)).heap[k]? = wx.heap[k]? := fun k hk => by
    rw [heap_setCell_other _ _ _ _ hk, heap_setCell_other _ _ _ _ hk, heap_setCell_other _ _ _ _ hk]
  exact ⟨r.f.set345 x y z, (ho _ (by omega)).trans r.g, ((r.h.setCell (by simp) _).setCell (by simp) _).setCell (by simp) _, (ho _ (by omega)).trans r.l, (ho _ (by omega)).trans r.o, by simpa using h1, h2⟩
theorem cc3 {w : World} {b : Nat} {x y z : Int} {t : TypeId} (h : w.heap[b]? = some (.cells #[.int .i64 x, .int .i64 y, .int .i64 z] t (0, 0))) : w.cell? ⟨b, 0, none⟩ = some (.int .i64 x) ∧ w.cell? ⟨b, 1, none⟩ = some (.int .i64 y) ∧ w.cell? ⟨b, 2, none⟩ = some (.int .i64 z) := by
  refine ⟨?_, ?_, ?_⟩ <;> rw [cell_of_row w b _ _ _ _ h] <;> rfl

end Go.Proofs.YtbgngikejgihgagGreatDoor

namespace Go.Proofs.YtbgngikejgihgagGreatDoor
open Go Go.RowKit
set_option linter.unusedVariables false

set_option maxHeartbeats 1000000 in
theorem measR (i n k : Int) (w : World) : Calls Tryz.prog 391 #[cnt i n k] w fun e w' => e = .returned (.int .i64 n) ∧ Below w.heap.size w w' := by
  unfold cnt
  go_enter Tryz.func391, Tryz.ntmps391
  go_wp2
  go_ret
  exact ⟨rfl, (Below.refl _ _).alloc (Nat.le_refl _) _⟩

theorem sumM_okR {T : AT} (h : T.ok) : sumM (fun p => p.len) (T.told 0) = T.rns := by
  rw [sumM_len, AT.rns_told]

set_option maxHeartbeats 4000000 in
set_option maxRecDepth 100000 in
theorem seekER (T : AT) (u : Option Addr) (bs : List Nat) (base : Nat) (k : Int) (w : World) (hT : Lies w base T u bs) (hok : T.ok) (hk : 0 ≤ k ∧ k ≤ 8192) :
    Calls Tryz.prog 390 #[.pointer u, .int .i64 k, .func (.func 391) #[] #[]] w fun e w' => e = .returned (fndV (seekP (fun p => p.len) T k).off (seekP (fun p => p.len) T k).len (seekP (fun p => p.len) T k).brk (seekT (fun p => p.len) T k)) ∧ Below w.heap.size w w' := by
  have HRES := hide (seekAdd_zero (fun p => p.len) T k)
  generalize seekT (fun p => p.len) T k = res at HRES ⊢
  generalize hpe : seekP (fun p => p.len) T k = pe
  have HPE := hide hpe.symm
  clear hpe
  have HT := hide hT
  have HOK := hide hok
  have bT := hok.bd
  have hhT : (T.ht : Int) ≤ 8192 := by have := ht_le_its T; omega
  have HB0 := hide (((Below.refl w.heap.size w).alloc (Nat.le_refl _) (.cells #[.int .i64 0, .int .i64 0, .int .i64 0, .int .i64 0, .int .i64 0, .int .i64 0, .int .i64 0, .int .i64 0] 477)).alloc (by simp) (.cells #[.int .i64 0, .int .i64 0, .int .i64 0, .int .i64 0, .int .i64 0, .int .i64 0, .int .i64 0, .int .i64 0] 477))
  have hF0 : Fnd ((w.alloc (.cells #[.int .i64 0, .int .i64 0, .int .i64 0, .int .i64 0, .int .i64 0, .int .i64 0, .int .i64 0, .int .i64 0] 477)).alloc (.cells #[.int .i64 0, .int .i64 0, .int .i64 0, .int .i64 0, .int .i64 0, .int .i64 0, .int .i64 0, .int .i64 0] 477)) (w.heap.size + 1) 0 0 0 0 0 0 0 0 := by
    have := heap_alloc_new (w.alloc (.cells #[.int .i64 0, .int .i64 0, .int .i64 0, .int .i64 0, .int .i64 0, .int .i64 0, .int .i64 0, .int .i64 0] 477)) (.cells #[.int .i64 0, .int .i64 0, .int .i64 0, .int .i64 0, .int .i64 0, .int .i64 0, .int .i64 0, .int .i64 0] 477)
    simpa [Fnd] using this
  have hG0 : Fnd ((w.alloc (.cells #[.int .i64 0, .int .i64 0, .int .i64 0, .int .i64 0, .int .i64 0, .int .i64 0, .int .i64 0, .int .i64 0] 477)).alloc (.cells #[.int .i64 0, .int .i64 0, .int .i64 0, .int .i64 0, .int .i64 0, .int .i64 0, .int .i64 0, .int .i64 0] 477)) w.heap.size 0 0 0 0 0 0 0 0 := by
    unfold Fnd; rw [Below.heap_alloc _ _ _ (by simp)]; exact heap_alloc_new _ _
  have HF0 := hide hF0
  have HG0 := hide hG0
  clear hT hok hF0 hG0
  go_enter Tryz.func390, Tryz.ntmps390
  go_wp2_with fail
  generalize (w.alloc (.cells #[.int .i64 0, .int .i64 0, .int .i64 0, .int .i64 0, .int .i64 0, .int .i64 0, .int .i64 0, .int .i64 0] 477)).alloc (.cells #[.int .i64 0, .int .i64 0, .int .i64 0, .int .i64 0, .int .i64 0, .int .i64 0, .int .i64 0, .int .i64 0] 477) = w0 at *
  go_loopg [0, 1] T.ht (fun g pv kv wr => ∃ (S : AT) (us : Option Addr) (cs : List Nat) (kk : Int) (i : Nat) (n b s : Int), pv = .pointer us ∧ kv = .int .i64 kk ∧ g = S.ht ∧ Lies w base S us cs ∧ S.ok ∧ (0 ≤ kk ∧ kk ≤ 8192) ∧
    ((i : Int) + S.its ≤ 8192 ∧ 0 ≤ n ∧ n + S.rns ≤ 8192 ∧ 0 ≤ b ∧ b + S.bks ≤ 8192 ∧ 0 ≤ s ∧ s + S.ht ≤ 8192) ∧ Fnd wr (w.heap.size + 1) 0 0 0 i n b 0 s ∧ Fnd wr w.heap.size 0 0 0 0 0 0 0 0 ∧ Below w.heap.size w wr ∧ res = seekAdd (fun p => p.len) S kk i n b s ∧ Hid (pe = seekP (fun p => p.len) S kk))
  case atStart => exact ⟨T, u, bs, k, 0, 0, 0, 0, rfl, rfl, rfl, HT.out, HOK.out, hk, by omega, HF0.out, HG0.out, HB0.out, HRES.out, HPE⟩
  case round =>
    obtain ⟨S, us, cs, kk, i, n, b, s, rfl, rfl, rfl, hS, hSok, hkk, hbd, hF, hG, hbw, heq, hpe⟩ := hrel
    clear HT HOK HRES HPE HB0 HF0 HG0 bT hhT
    have hFl := hF.lt
    have hGl := hG.lt
    cases S with
    | nil =>
      obtain ⟨rfl, rfl⟩ := hS
      rw [seekAdd_nil] at heq
      have HEQ := hide heq
      have HF := hide hF
      have HG := hide hG
      have HBW := hide hbw
      obtain ⟨p0, p1, p2, f0, f1, f2, f3, f4⟩ := hF.c
      obtain ⟨g0, g1, g2, g3, g4, g5, g6, g7⟩ := hG.c
      have ff3 := hF.fz 6
      have hz := fun j => hG.fz j
      have z0 := hz 0
      have z1 := hz 1
      have z2 := hz 2
      have z3 := hz 3
      have z4 := hz 4
      have z5 := hz 5
      have z6 := hz 6
      have z7 := hz 7
      clear heq hF hG hbw hbd hz
      go_wp2
      refine bodyPost_ret (v := fndV 0 0 0 (i, n, b, kk, s)) (by simp [results, Tryz.results390, go_sem, g0, g1, g2, g3, g4, g5, g6, g7]; rfl) rfl ⟨by rw [HEQ.out, hpe.out]; rfl, ?_⟩
      repeat (refine Below.setCell ?_ (by simp) _)
      exact HBW.out
    | node l p r =>
      obtain ⟨nb, ul, ur, bl, br, rfl, hbase, hnd, hl, hr, rfl⟩ := hS
      have bL := hSok.left.bd
      have bR := hSok.right.bd
      have bP := hSok.piece
      have hsl := sumM_okR hSok.left
      have hht : ((AT.node l p r).ht : Int) = 1 + max (l.ht : Int) r.ht := by simp only [AT.ht]; omega
      have hit : ((AT.node l p r).its : Int) = l.its + 1 + r.its := by simp only [AT.its]; omega
      have hrn : (AT.node l p r).rns = l.rns + p.len + r.rns := rfl
      have hbk : (AT.node l p r).bks = l.bks + p.brk + r.bks := rfl
      rw [hht, hit, hrn, hbk] at hbd
      have hms : 0 ≤ l.rns ∧ l.rns ≤ 8192 ∧ 0 ≤ p.len ∧ p.len ≤ 8192 := by omega
      have HTL : Hid (kk < sumM (fun p => p.len) (l.told 0) ↔ kk < l.rns) := by rw [hsl]; exact Iff.rfl
      have HSL := hide hsl
      have HEQ0 := hide heq
      have HL := hide hl
      have HR := hide hr
      have HND := hide hnd
      have HOK := hide hSok
      have hltb := hnd.lt
      have HF1 := hide (hF.set7 (s + 1))
      have HG1 := hide (show Fnd (wr.setCell ⟨w.heap.size + 1, 7, none⟩ (.int .i64 (s + 1))) w.heap.size 0 0 0 0 0 0 0 0 from by unfold Fnd; rw [heap_setCell_other _ _ _ _ (by simp)]; exact hG)
      have HB1 := hide (hbw.setCell (p := ⟨w.heap.size + 1, 7, none⟩) (by simp) (.int .i64 (s + 1)))
      obtain ⟨p0, p1, p2, f0, f1, f2, f3, f4⟩ := hF.c
      have ff4 := hF.fz 7
      have c3 := (hbw.cell (p := ⟨nb, 3, none⟩) hltb).trans hnd.c3
      have c3' : (wr.setCell ⟨w.heap.size + 1, 7, none⟩ (.int .i64 (s + 1))).cell? ⟨nb, 3, none⟩ = some (.pointer ul) := (HB1.out.cell (p := ⟨nb, 3, none⟩) hltb).trans hnd.c3
      clear heq hF hG hbw hl hr hnd hSok hsl hht hit hrn hbk
      go_wp2_with fail
      generalize wr.setCell ⟨w.heap.size + 1, 7, none⟩ (.int .i64 (s + 1)) = w1 at *
      have hlw1 := HF1.out.lt
      refine (allN l ul bl base w1 (HL.out.below HB1.out (Nat.le_refl _))).mono ?_
      rintro e w2 ⟨rfl, hb2⟩
      have HF2 := hide (HF1.out.below hb2 (by omega))
      have HG2 := hide (HG1.out.below hb2 (by omega))
      have HB2 := hide (HB1.out.trans (hb2.mono (by omega)))
      clear hb2 HF1 HG1 HB1 c3' c3 p0 p1 p2 f0 f1 f2 f3 f4 ff4
      have hlw2 := HF2.out.lt
      go_wp2_with fail
      refine (ownN p nb ul ur _ _ _ _ w2 ((HB2.out.block nb hltb).trans HND.out)).mono ?_
      rintro e w3 ⟨rfl, hb3⟩
      have hlw3 := hb3.size
      have HF3 := hide ((HF2.out.below hb3 (by omega)).below (((Below.refl w3.heap.size w3).alloc (Nat.le_refl _) (.cells #[.int .i64 l.its, .int .i64 l.rns, .int .i64 l.bks] 332)).alloc (by simp) (.cells #[.int .i64 1, .int .i64 p.len, .int .i64 p.brk] 332)) (by omega))
      have HG3 := hide ((HG2.out.below hb3 (by omega)).below (((Below.refl w3.heap.size w3).alloc (Nat.le_refl _) (.cells #[.int .i64 l.its, .int .i64 l.rns, .int .i64 l.bks] 332)).alloc (by simp) (.cells #[.int .i64 1, .int .i64 p.len, .int .i64 p.brk] 332)) (by omega))
      have HB3 := hide ((((HB2.out.trans (hb3.mono (by omega)))).alloc (by omega) (.cells #[.int .i64 l.its, .int .i64 l.rns, .int .i64 l.bks] 332)).alloc (by simp; omega) (.cells #[.int .i64 1, .int .i64 p.len, .int .i64 p.brk] 332))
      clear hb3 HF2 HG2 HB2
      have hA : ((w3.alloc (.cells #[.int .i64 l.its, .int .i64 l.rns, .int .i64 l.bks] 332)).alloc (.cells #[.int .i64 1, .int .i64 p.len, .int .i64 p.brk] 332)).heap[w3.heap.size]? = some (.cells #[.int .i64 l.its, .int .i64 l.rns, .int .i64 l.bks] 332 (0, 0)) := by
        rw [Below.heap_alloc _ _ _ (by simp)]; exact heap_alloc_new _ _
      have hO : ((w3.alloc (.cells #[.int .i64 l.its, .int .i64 l.rns, .int .i64 l.bks] 332)).alloc (.cells #[.int .i64 1, .int .i64 p.len, .int .i64 p.brk] 332)).heap[w3.heap.size + 1]? = some (.cells #[.int .i64 1, .int .i64 p.len, .int .i64 p.brk] 332 (0, 0)) := by
        have := heap_alloc_new (w3.alloc (.cells #[.int .i64 l.its, .int .i64 l.rns, .int .i64 l.bks] 332)) (.cells #[.int .i64 1, .int .i64 p.len, .int .i64 p.brk] 332)
        simpa using this
      have hs4 : ((w3.alloc (.cells #[.int .i64 l.its, .int .i64 l.rns, .int .i64 l.bks] 332)).alloc (.cells #[.int .i64 1, .int .i64 p.len, .int .i64 p.brk] 332)).heap.size = w3.heap.size + 2 := by simp
      have RN4 := hide (Rnd.mk HF3.out HG3.out HB3.out hA hO (by omega) (by omega))
      clear hA hO hs4 HF3 HG3 HB3
      unfold cnt
      go_wp2_with fail
      generalize (w3.alloc (.cells #[.int .i64 l.its, .int .i64 l.rns, .int .i64 l.bks] 332)).alloc (.cells #[.int .i64 1, .int .i64 p.len, .int .i64 p.brk] 332) = w4 at *
      generalize w3.heap.size = a at *
      have ha := RN4.out.lo
      refine (measR _ _ _ w4).mono ?_
      rintro e w5 ⟨rfl, hb5⟩
      have RN5 := hide (RN4.out.below hb5)
      clear hb5 RN4
      have c3 := (RN5.out.h.cell (p := ⟨nb, 3, none⟩) hltb).trans HND.out.c3
      have sz5 := RN5.out.sz
      by_cases hlt : kk < l.rns
      · have HEQ := hide (HEQ0.out.trans (seekAdd_left _ _ _ _ _ _ _ _ _ (HTL.out.2 hlt)))
        have HPL : Hid (pe = seekP (fun p => p.len) l kk) := hide (hpe.out.trans (by simp only [seekP]; rw [if_pos (HTL.out.2 hlt)]))
        clear HEQ0 HTL hpe
        go_wp2
        go_roundg l.ht
        case measure => simp only [AT.ht]; omega
        case rel => exact ⟨l, ul, bl, kk, i, n, b, s + 1, rfl, rfl, rfl, HL.out, HOK.out.left, hkk, by omega, RN5.out.f, RN5.out.g, RN5.out.h, HEQ.out, HPL⟩
      · have hnl := fun h => hlt (HTL.out.1 h)
        obtain ⟨l0, l1, l2⟩ := cc3 RN5.out.l
        go_wp2_with fail
        refine (measR _ _ _ w5).mono ?_
        rintro e w6 ⟨rfl, hb6⟩
        have RN6 := hide (RN5.out.below hb6)
        clear hb6 RN5 c3 l0 l1 l2
        obtain ⟨l0, l1, l2⟩ := cc3 RN6.out.l
        obtain ⟨p0, p1, p2, f0, f1, f2, f3, f4⟩ := RN6.out.f.c
        have sz6 := RN6.out.sz
        go_wp2_with fail
        refine (plusN _ _ _ _ _ _ w6 (by omega) (by omega) (by omega) (by omega) (by omega) (by omega)).mono ?_
        rintro e w7 ⟨rfl, hb7⟩
        have RN7 := hide (RN6.out.below hb7)
        clear hb7 RN6 l0 l1 l2 p0 p1 p2 f0 f1 f2 f3 f4
        obtain ⟨p0, p1, p2, f0, f1, f2, f3, f4⟩ := RN7.out.f.c
        have ff0 := RN7.out.f.fz 3
        have ff1 := RN7.out.f.fz 4
        have ff2 := RN7.out.f.fz 5
        have RN8 := hide (RN7.out.set345 (i + l.its) (n + l.rns) (b + l.bks))
        have sz7 := RN7.out.sz
        obtain ⟨o0, o1, o2⟩ := cc3 RN8.out.o
        unfold cnt
        go_wp2_with fail
        generalize ((w7.setCell ⟨w.heap.size + 1, 3, none⟩ (.int .i64 (i + l.its))).setCell ⟨w.heap.size + 1, 4, none⟩ (.int .i64 (n + l.rns))).setCell ⟨w.heap.size + 1, 5, none⟩ (.int .i64 (b + l.bks)) = w8 at *
        clear RN7 p0 p1 p2 f0 f1 f2 f3 f4 ff0 ff1 ff2
        refine (measR _ _ _ w8).mono ?_
        rintro e w9 ⟨rfl, hb9⟩
        have RN9 := hide (RN8.out.below hb9)
        clear hb9 RN8 o0 o1 o2
        have sz9 := RN9.out.sz
        by_cases hin : kk - l.rns < p.len
        · have HEQ := hide (HEQ0.out.trans (seekAdd_here _ _ _ _ _ _ _ _ _ hnl (by rw [HSL.out]; exact hin)))
          have HPH : Hid (pe = p) := hide (hpe.out.trans (by simp only [seekP]; rw [if_neg hnl, if_pos (by rw [HSL.out]; exact hin)]))
          rw [HSL.out] at HEQ
          clear HEQ0 HTL HSL hnl hpe
          obtain ⟨p0, p1, p2, f0, f1, f2, f3, f4⟩ := RN9.out.f.c
          obtain ⟨g0, g1, g2, g3, g4, g5, g6, g7⟩ := RN9.out.g.c
          have ff3 := RN9.out.f.fz 6
          have z0 := RN9.out.g.fz 0
          have z1 := RN9.out.g.fz 1
          have z2 := RN9.out.g.fz 2
          have z3 := RN9.out.g.fz 3
          have z4 := RN9.out.g.fz 4
          have z5 := RN9.out.g.fz 5
          have z6 := RN9.out.g.fz 6
          have z7 := RN9.out.g.fz 7
          have e0 := RN9.out.f.fz 0
          have e1 := RN9.out.f.fz 1
          have e2 := RN9.out.f.fz 2
          have d0 := (RN9.out.h.cell (p := ⟨nb, 0, none⟩) hltb).trans HND.out.c0
          have d1 := (RN9.out.h.cell (p := ⟨nb, 1, none⟩) hltb).trans HND.out.c1
          have d2 := (RN9.out.h.cell (p := ⟨nb, 2, none⟩) hltb).trans HND.out.c2
          have hnb1 : nb ≠ w.heap.size + 1 := by omega
          have hnb0 : nb ≠ w.heap.size := by omega
          go_wp2
          refine bodyPost_ret (v := fndV p.off p.len p.brk (i + l.its, n + l.rns, b + l.bks, kk - l.rns, s + 1)) (by simp [results, Tryz.results390, go_sem, g0, g1, g2, g3, g4, g5, g6, g7]; rfl) rfl ⟨by rw [HEQ.out, HPH.out], ?_⟩
          repeat (refine Below.setCell ?_ (by simp) _)
          exact RN9.out.h
        · have HEQ := hide (HEQ0.out.trans (seekAdd_right _ _ _ _ _ _ _ _ _ hnl (by rw [HSL.out]; exact hin)))
          have HPR : Hid (pe = seekP (fun p => p.len) r (kk - l.rns - p.len)) := hide (hpe.out.trans (by simp only [seekP]; rw [if_neg hnl, if_neg (by rw [HSL.out]; exact hin), HSL.out]))
          rw [HSL.out] at HEQ
          clear HEQ0 HTL HSL hnl hpe
          obtain ⟨o0, o1, o2⟩ := cc3 RN9.out.o
          go_wp2_with fail
          refine (measR _ _ _ w9).mono ?_
          rintro e w10 ⟨rfl, hb10⟩
          have RN10 := hide (RN9.out.below hb10)
          clear hb10 RN9 o0 o1 o2
          obtain ⟨o0, o1, o2⟩ := cc3 RN10.out.o
          obtain ⟨p0, p1, p2, f0, f1, f2, f3, f4⟩ := RN10.out.f.c
          have sz10 := RN10.out.sz
          go_wp2_with fail
          refine (plusN _ _ _ _ _ _ w10 (by omega) (by omega) (by omega) (by omega) (by omega) (by omega)).mono ?_
          rintro e w11 ⟨rfl, hb11⟩
          have RN11 := hide (RN10.out.below hb11)
          clear hb11 RN10 o0 o1 o2 p0 p1 p2 f0 f1 f2 f3 f4
          obtain ⟨p0, p1, p2, f0, f1, f2, f3, f4⟩ := RN11.out.f.c
          have ff0 := RN11.out.f.fz 3
          have ff1 := RN11.out.f.fz 4
          have ff2 := RN11.out.f.fz 5
          have RN12 := hide (RN11.out.set345 (i + l.its + 1) (n + l.rns + p.len) (b + l.bks + p.brk))
          have sz11 := RN11.out.sz
          have c4 := (RN12.out.h.cell (p := ⟨nb, 4, none⟩) hltb).trans HND.out.c4
          unfold cnt
          go_wp2
          go_roundg r.ht
          case measure => simp only [AT.ht]; omega
          case rel => exact ⟨r, ur, br, kk - l.rns - p.len, i + l.its + 1, n + l.rns + p.len, b + l.bks + p.brk, s + 1, rfl, rfl, rfl, HR.out, HOK.out.right, by omega, by omega, RN12.out.f, RN12.out.g, RN12.out.h, HEQ.out, HPR⟩
end Go.Proofs.YtbgngikejgihgagGreatDoor

namespace Go.Proofs.YtbgngikejgihgagGreatDoor
open Go Go.Sort Go.RowKit
set_option linter.unusedVariables false

section
variable {F : Fence} {n : Nat} {P : Program} {ops : Array Oper} {md : Region.Mode} {C : World → Prop}

/-- What has come up has all behind which it stands. -/
def Clo (md : Region.Mode) (ops : Array Oper) (listed : Array Bool) : Prop := ∀ (j : Nat) (o : Oper), ops[j]? = some o → listed.getD j false = true → ∀ e ∈ o.after, Region.binds md e = true → listed.getD e.on false = true
theorem Clo.set {listed : Array Bool} (h : Clo md ops listed) {j : Nat} (hj : j ∈ Region.ready md ops listed) : Clo md ops (listed.setIfInBounds j true) := by
  obtain ⟨_, oj, hoj, hall⟩ := mem_ready.1 hj
  intro k o ho hk e he hb
  by_cases hkj : j = k
  · subst hkj
    rw [hoj] at ho; cases ho
    exact getD_set_true (hall e he hb)
  · rw [getD_set_ne false hkj] at hk
    exact getD_set_true (h k o ho hk e he hb)

end

end Go.Proofs.YtbgngikejgihgagGreatDoor

namespace Go.Proofs.YtbgngikejgihgagGreatDoor
open Go Go.Sort Go.RowKit
set_option linter.unusedVariables false

section
variable {F : Fence} {n : Nat} {P : Program} {ops : Array Oper} {md : Region.Mode} {C : World → Prop}

/-- The first s have come up, and what has come up has all behind which it stands. -/
def CloS (md : Region.Mode) (ops : Array Oper) (s : Nat) (listed : Array Bool) : Prop := Clo md ops listed ∧ ∀ i, i < s → listed.getD i false = true
theorem CloS.set {s : Nat} {listed : Array Bool} (h : CloS md ops s listed) {j : Nat} (hj : j ∈ Region.ready md ops listed) : CloS md ops s (listed.setIfInBounds j true) := ⟨h.1.set hj, fun i hi => getD_set_true (h.2 i hi)⟩
end

end Go.Proofs.YtbgngikejgihgagGreatDoor

namespace Go.Proofs.YtbgngikejgihgagGreatDoor
open Go Go.RowKit Go.Shelf Go.Sort
set_option linter.unusedVariables false

/-- A core whose tree may be changed. -/
structure PM (w : World) (base c b o cap : Nat) (S : List Int) (T : AT) (u : Option Addr) (bs : List Nat) : Prop where
  k : PK w c b o S.length cap u
  t : Lies w base T u bs
  nd : bs.Nodup
  cb : c ∉ bs
  bb : b ∉ bs
  bc : b ≠ c
  rt : At32' w b o S
  lb : b < w.heap.size
  cap1 : S.length ≤ cap
  cap2 : cap ≤ maxLen
  n : S.length ≤ 220000

theorem PK.chg {w w' : World} {c b o n cap : Nat} {u : Option Addr} {bs : List Nat} (h : PK w c b o n cap u) (hc : Chg bs w w') (hn : c ∉ bs) : PK w' c b o n cap u := (hc.block c h.lt hn).trans h
theorem PK.fz {w : World} {c b o n cap : Nat} {u : Option Addr} (h : PK w c b o n cap u) (j : Nat) : w.frozen? ⟨c, j, none⟩ = false := frozen_of_row w c j _ _ h
theorem At32'.chg {w w' : World} {b o : Nat} {zs : List Int} {bs : List Nat} (h : At32' w b o zs) (hc : Chg bs w w') (hb : b < w.heap.size) (hn : b ∉ bs) : At32' w' b o zs := fun i hi => by
  have := h i hi
  unfold World.cell? at this ⊢
  rw [hc.block b hb hn]; exact this

end Go.Proofs.YtbgngikejgihgagGreatDoor

namespace Go.Proofs.YtbgngikejgihgagGreatDoor
open Go Go.RowKit
set_option linter.unusedVariables false

end Go.Proofs.YtbgngikejgihgagGreatDoor

namespace Go.Proofs.YtbgngikejgihgagGreatDoor
open Go Go.RowKit Go.Shelf Go.Sort
set_option linter.unusedVariables false

theorem PM.below {w w' : World} {base c b o cap : Nat} {S : List Int} {T : AT} {u : Option Addr} {bs : List Nat} (h : PM w base c b o cap S T u bs) (hb : Below w.heap.size w w') : PM w' base c b o cap S T u bs :=
  ⟨h.k.below hb h.k.lt, h.t.below hb (Nat.le_refl _), h.nd, h.cb, h.bb, h.bc, fun i hi => (hb.cell (p := ⟨b, o + i, none⟩) h.lb).trans (h.rt i hi), Nat.lt_of_lt_of_le h.lb hb.size, h.cap1, h.cap2, h.n⟩
end Go.Proofs.YtbgngikejgihgagGreatDoor

namespace Go.Proofs.YtbgngikejgihgagGreatDoor
open Go Go.RowKit Go.Shelf Go.Sort
set_option linter.unusedVariables false

end Go.Proofs.YtbgngikejgihgagGreatDoor

namespace Go.Proofs.YtbgngikejgihgagGreatDoor
open Go Go.RowKit Go.Shelf Go.Sort
set_option linter.unusedVariables false

end Go.Proofs.YtbgngikejgihgagGreatDoor

namespace Go.Proofs.YtbgngikejgihgagGreatDoor
open Go Go.RowKit Go.Shelf Go.Sort
set_option linter.unusedVariables false

end Go.Proofs.YtbgngikejgihgagGreatDoor
