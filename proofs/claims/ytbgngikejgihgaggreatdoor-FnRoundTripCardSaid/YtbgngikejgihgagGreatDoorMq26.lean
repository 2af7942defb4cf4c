import Derived.Test.YtbgngikejgihgagGreatDoorMq05
import Derived.Test.YtbgngikejgihgagGreatDoorMq07
import Derived.Test.YtbgngikejgihgagGreatDoorMq23
import Derived.Deep.LoopGhost
import Derived.Test.YtbgngikejgihgagGreatDoorMq24
import Derived.Lib.QuietBelow
import Derived.Deep.QuietTactic
import Derived.BigQuiet
namespace Go.Proofs.YtbgngikejgihgagGreatDoor
open Go Go.RowKit
set_option linter.unusedVariables false

set_option maxHeartbeats 1000000 in
set_option maxRecDepth 100000 in
/-- slices.Index of a break that is there. -/
theorem indexN (zs : List Int) (b o cap : Nat) (w : World) (hc : ∀ i, i < zs.length → w.cell? ⟨b, o + i, none⟩ = some (.int .i32 (zs.getD i 0))) (hn : zs.length ≤ 1048576) (hcap : zs.length ≤ cap) (hm : cap ≤ maxLen) (hb : 0 < bkn zs) :
    Calls Tryz.prog 190 #[.slice (some ⟨b, o, none⟩) zs.length cap, .int .i32 10] w fun e w' => e = .returned (.int .i64 ((bb zs 0 : Nat) - 1)) ∧ w' = w := by
  have HC := hide hc
  have HF := hide (fun k hk => bb_first zs k hb hk)
  have h0 := bb_pos zs 0 hb
  have hl := bb_le zs 0
  generalize hR : bb zs 0 = R at *
  generalize hN : zs.length = n at *
  unfold maxLen at hm
  clear hc hb
  go_enter Tryz.func190, Tryz.ntmps190
  go_wp2_with fail
  go_loop [8] (fun i => ∃ k : Nat, k < R ∧ i = .int .i64 k) (fun i => n - (intOf i).toNat)
  case atStart => exact ⟨0, h0, rfl⟩
  case round =>
    obtain ⟨k, hk, rfl⟩ := hrel
    obtain ⟨f1, f2, f3⟩ := HF.out k hk
    have hx := HC.out k f3
    generalize zs.getD k 0 = z at *
    have hkn : (k : Int) < n := by omega
    by_cases hz : z = 10
    · have e1 := f1 hz
      subst hz
      have HE := hide (show Ending.returned (.int .i64 ((R : Int) - 1)) = Ending.returned (.int .i64 (k : Int)) by rw [show (R : Int) - 1 = k by omega])
      clear f1 f2
      go_wp2
      go_ret
      exact ⟨by first | rfl | exact Eq.trans rfl HE.out.symm, rfl⟩
    · have e1 := f2 hz
      have hz' : ¬ 10 = z := fun h => hz h.symm
      clear f1 f2
      go_wp2
      go_round
      case rel => exact ⟨k + 1, e1, by go_num⟩
      case measure => simp [intOf]; omega

theorem at_drop {w : World} {b o : Nat} {zs : List Int} (hc : ∀ i, i < zs.length → w.cell? ⟨b, o + i, none⟩ = some (.int .i32 (zs.getD i 0))) (k : Nat) : ∀ i, i < (zs.drop k).length → w.cell? ⟨b, o + k + i, none⟩ = some (.int .i32 ((zs.drop k).getD i 0)) := by
  intro i hi
  rw [List.length_drop] at hi
  rw [Nat.add_assoc, hc (k + i) (by omega)]
  simp [List.getD_eq_getElem?_getD, List.getElem?_drop]

set_option maxHeartbeats 1000000 in
set_option maxRecDepth 100000 in
theorem behindN (zs : List Int) (b o cap j : Nat) (w : World) (hc : ∀ i, i < zs.length → w.cell? ⟨b, o + i, none⟩ = some (.int .i32 (zs.getD i 0))) (hn : zs.length ≤ 1048576) (hcap : zs.length ≤ cap) (hm : cap ≤ maxLen) (hj : j < bkn zs) :
    Calls Tryz.prog 401 #[.slice (some ⟨b, o, none⟩) zs.length cap, .int .i64 (j : Int)] w fun e w' => e = .returned (.int .i64 (bb zs j : Nat)) ∧ w' = w := by
  have HC := hide hc
  have HS := hide (fun t ht => bb_step zs t ht)
  have hbn := bkn_le zs
  have HLE := hide (fun t => ls_le zs t)
  have HSU := hide (fun t => ls_succ zs t)
  have HI := hide (fun (k : Nat) (h : 0 < bkn (zs.drop k)) (hk : k < zs.length) => indexN (zs.drop k) b (o + k) (cap - k) w (at_drop hc k) (by rw [List.length_drop]; omega) (by rw [List.length_drop]; omega) (by omega) h)
  have HBP := hide (fun (k : Nat) => bb_le (zs.drop k) 0)
  unfold maxLen at hm
  generalize hB : bkn zs = B at *
  clear hc
  go_enter Tryz.func401, Tryz.ntmps401
  go_wp2_with fail
  go_loop [1, 5] (fun x y => ∃ t : Nat, t ≤ j + 1 ∧ x = .int .i64 ((j : Int) - t) ∧ y = .int .i64 (ls zs t : Nat)) (fun x y => ((intOf x) + 1).toNat)
  case atStart => exact ⟨0, by omega, by simp, by simp [ls]⟩
  case round =>
    obtain ⟨t, ht, rfl, rfl⟩ := hrel
    by_cases htj : t = j + 1
    · subst htj
      have hneg : ¬ (0 : Int) ≤ (j : Int) - ((j + 1 : Nat) : Int) := by omega
      have HE := hide (HSU.out j)
      go_wp2
      go_ret
      exact ⟨by rw [← HE.out]; rfl, rfl⟩
    · obtain ⟨s1, s2, s3⟩ := HS.out t (by omega)
      have hge : (0 : Int) ≤ (j : Int) - (t : Int) := by omega
      have HIX := hide (HI.out (ls zs t) s2 s3)
      have hbl := HBP.out (ls zs t)
      have e2 := HSU.out t
      rw [s1] at e2
      have HE := hide e2
      rw [List.length_drop] at HIX hbl
      have hpos := bb_pos _ _ s2
      generalize bb (zs.drop (ls zs t)) 0 = r at *
      generalize ls zs t = at' at *
      generalize zs.length = n at *
      clear s1 s2 e2
      have g3 : ¬ cap = at' := by omega
      have g5 : (at' : Int) ≤ n := by omega
      go_wp2_with fail
      refine HIX.out.mono ?_
      rintro e w1 ⟨rfl, hw1⟩
      have hw2 := hw1.symm
      subst hw2
      go_wp2
      go_round
      case rel => exact ⟨t + 1, by omega, by go_num, by rw [HE.out]; go_num⟩
      case measure => simp [intOf]; omega
end Go.Proofs.YtbgngikejgihgagGreatDoor

namespace Go.Proofs.YtbgngikejgihgagGreatDoor
open Go Go.RowKit
set_option linter.unusedVariables false

set_option maxHeartbeats 1000000 in
theorem measB (i n k : Int) (w : World) : Calls Tryz.prog 400 #[cnt i n k] w fun e w' => e = .returned (.int .i64 k) ∧ Below w.heap.size w w' := by
  unfold cnt
  go_enter Tryz.func400, Tryz.ntmps400
  go_wp2
  go_ret
  exact ⟨rfl, (Below.refl _ _).alloc (Nat.le_refl _) _⟩

theorem sumM_okB {T : AT} (h : T.ok) : sumM (fun p => p.brk) (T.told 0) = T.bks := by
  rw [sumM_brk, AT.bks_told]

set_option maxHeartbeats 4000000 in
set_option maxRecDepth 100000 in
theorem seekEB (T : AT) (u : Option Addr) (bs : List Nat) (base : Nat) (k : Int) (w : World) (hT : Lies w base T u bs) (hok : T.ok) (hk : 0 ≤ k ∧ k ≤ 8192) :
    Calls Tryz.prog 390 #[.pointer u, .int .i64 k, .func (.func 400) #[] #[]] w fun e w' => e = .returned (fndV (seekP (fun p => p.brk) T k).off (seekP (fun p => p.brk) T k).len (seekP (fun p => p.brk) T k).brk (seekT (fun p => p.brk) T k)) ∧ Below w.heap.size w w' := by
  have HRES := hide (seekAdd_zero (fun p => p.brk) T k)
  generalize seekT (fun p => p.brk) T k = res at HRES ⊢
  generalize hpe : seekP (fun p => p.brk) T k = pe
  have HPE := hide hpe.symm
  clear hpe
  have HT := hide hT
  have HOK := hide hok
  have bT := hok.bd
  have hhT : (T.ht : Int) ≤ 8192 := by have := ht_le_its T; omega
  have HB0 := hide (((Below.refl w.heap.size w).alloc (Nat.le_refl _) (.cells #[.int .i64 0, .int .i64 0, .int .i64 0, .int .i64 0, .int .i64 0, .int .i64 0, .int .i64 0, .int .i64 0] 477)).alloc (by simp) (.cells #[.int .i64 0, .int .i64 0, .int .i64 0, .int .i64 0, .int .i64 0, .int .i64 0, .int .i64 0, .int .i64 0] 477))
  have hF0 : Fnd ((w.alloc (.cells #[.int .i64 0, .int .i64 0, .int .i64 0, .int .i64 0, .int .i64 0, .int .i64 0, .int .i64 0, .int .i64 0] 477)).alloc (.cells #[.int .i64 0, .int .i64 0, .int .i64 0, .int .i64 0, .int .i64 0, .int .i64 0, .int .i64 0, .int .i64 0] 477)) (w.heap.size + 1) 0 0 0 0 0 0 0 0 := by
    have := heap_alloc_new (w.alloc (.cells #[.int .i64 0, .int .i64 0, .int .i64 0, .int .i64 0, .int .i64 0, .int .i64 0, .int .i64 0, .int .i64 0] 477)) (.cells #[.int .i64 0, .int .i64 0, .int .i64 0, .int .i64 0, .int .i64 0, .int .i64 0, .int .i64 0, .int .i64 0] 477)
    simpa [Fnd] using this
  have hG0 : Fnd ((w.alloc (.cells #[.int .i64 0, .int .i64 0, .int .i64 0, .int .i64 0, .int .i64 0, .int .i64 0, .int .i64 0, .int .i64 0] 477)).alloc (.cells #[.int .i64 0, .int .i64 0, .int .i64 0, .int .i64 0, .int .i64 0, .int .i64 0, .int .i64 0, .int .i64 0] 477)) w.heap.size 0 0 0 0 0 0 0 0 := by
    unfold Fnd; rw [Below.heap_alloc _ _ _ (by simp)]; exact heap_alloc_new _ _
  have HF0 := hide hF0
  have HG0 := hide hG0
  clear hT hok hF0 hG0
  go_enter Tryz.func390, Tryz.ntmps390
  go_wp2_with fail
  generalize (w.alloc (.cells #[.int .i64 0, .int .i64 0, .int .i64 0, .int .i64 0, .int .i64 0, .int .i64 0, .int .i64 0, .int .i64 0] 477)).alloc (.cells #[.int .i64 0, .int .i64 0, .int .i64 0, .int .i64 0, .int .i64 0, .int .i64 0, .int .i64 0, .int .i64 0] 477) = w0 at *
  go_loopg [0, 1] T.ht (fun g pv kv wr => ∃ (S : AT) (us : Option Addr) (cs : List Nat) (kk : Int) (i : Nat) (n b s : Int), pv = .pointer us ∧ kv = .int .i64 kk ∧ g = S.ht ∧ Lies w base S us cs ∧ S.ok ∧ (0 ≤ kk ∧ kk ≤ 8192) ∧
    ((i : Int) + S.its ≤ 8192 ∧ 0 ≤ n ∧ n + S.rns ≤ 8192 ∧ 0 ≤ b ∧ b + S.bks ≤ 8192 ∧ 0 ≤ s ∧ s + S.ht ≤ 8192) ∧ Fnd wr (w.heap.size + 1) 0 0 0 i n b 0 s ∧ Fnd wr w.heap.size 0 0 0 0 0 0 0 0 ∧ Below w.heap.size w wr ∧ res = seekAdd (fun p => p.brk) S kk i n b s ∧ Hid (pe = seekP (fun p => p.brk) S kk))
  case atStart => exact ⟨T, u, bs, k, 0, 0, 0, 0, rfl, rfl, rfl, HT.out, HOK.out, hk, by omega, HF0.out, HG0.out, HB0.out, HRES.out, HPE⟩
  case round =>
    obtain ⟨S, us, cs, kk, i, n, b, s, rfl, rfl, rfl, hS, hSok, hkk, hbd, hF, hG, hbw, heq, hpe⟩ := hrel
    clear HT HOK HRES HPE HB0 HF0 HG0 bT hhT
    have hFl := hF.lt
    have hGl := hG.lt
    cases S with
    | nil =>
      obtain ⟨rfl, rfl⟩ := hS
      rw [seekAdd_nil] at heq
      have HEQ := hide heq
      have HF := hide hF
      have HG := hide hG
      have HBW := hide hbw
      obtain ⟨p0, p1, p2, f0, f1, f2, f3, f4⟩ := hF.c
      obtain ⟨g0, g1, g2, g3, g4, g5, g6, g7⟩ := hG.c
      have ff3 := hF.fz 6
      have hz := fun j => hG.fz j
      have z0 := hz 0
      have z1 := hz 1
      have z2 := hz 2
      have z3 := hz 3
      have z4 := hz 4
      have z5 := hz 5
      have z6 := hz 6
      have z7 := hz 7
      clear heq hF hG hbw hbd hz
      go_wp2
      refine bodyPost_ret (v := fndV 0 0 0 (i, n, b, kk, s)) (by simp [results, Tryz.results390, go_sem, g0, g1, g2, g3, g4, g5, g6, g7]; rfl) rfl ⟨by rw [HEQ.out, hpe.out]; rfl, ?_⟩
      repeat (refine Below.setCell ?_ (by simp) _)
      exact HBW.out
    | node l p r =>
      obtain ⟨nb, ul, ur, bl, br, rfl, hbase, hnd, hl, hr, rfl⟩ := hS
      have bL := hSok.left.bd
      have bR := hSok.right.bd
      have bP := hSok.piece
      have hsl := sumM_okB hSok.left
      have hht : ((AT.node l p r).ht : Int) = 1 + max (l.ht : Int) r.ht := by simp only [AT.ht]; omega
      have hit : ((AT.node l p r).its : Int) = l.its + 1 + r.its := by simp only [AT.its]; omega
      have hrn : (AT.node l p r).rns = l.rns + p.len + r.rns := rfl
      have hbk : (AT.node l p r).bks = l.bks + p.brk + r.bks := rfl
      rw [hht, hit, hrn, hbk] at hbd
      have hms : 0 ≤ l.bks ∧ l.bks ≤ 8192 ∧ 0 ≤ p.brk ∧ p.brk ≤ 8192 := by omega
      have HTL : Hid (kk < sumM (fun p => p.brk) (l.told 0) ↔ kk < l.bks) := by rw [hsl]; exact Iff.rfl
      have HSL := hide hsl
      have HEQ0 := hide heq
      have HL := hide hl
      have HR := hide hr
      have HND := hide hnd
      have HOK := hide hSok
      have hltb := hnd.lt
      have HF1 := hide (hF.set7 (s + 1))
      have HG1 := hide (show Fnd (wr.setCell ⟨w.heap.size + 1, 7, none⟩ (.int .i64 (s + 1))) w.heap.size 0 0 0 0 0 0 0 0 from by unfold Fnd; rw [heap_setCell_other _ _ _ _ (by simp)]; exact hG)
      have HB1 := hide (hbw.setCell (p := ⟨w.heap.size + 1, 7, none⟩) (by simp) (.int .i64 (s + 1)))
      obtain ⟨p0, p1, p2, f0, f1, f2, f3, f4⟩ := hF.c
      have ff4 := hF.fz 7
      have c3 := (hbw.cell (p := ⟨nb, 3, none⟩) hltb).trans hnd.c3
      have c3' : (wr.setCell ⟨w.heap.size + 1, 7, none⟩ (.int .i64 (s + 1))).cell? ⟨nb, 3, none⟩ = some (.pointer ul) := (HB1.out.cell (p := ⟨nb, 3, none⟩) hltb).trans hnd.c3
      clear heq hF hG hbw hl hr hnd hSok hsl hht hit hrn hbk
      go_wp2_with fail
      generalize wr.setCell ⟨w.heap.size + 1, 7, none⟩ (.int .i64 (s + 1)) = w1 at *
      have hlw1 := HF1.out.lt
      refine (allN l ul bl base w1 (HL.out.below HB1.out (Nat.le_refl _))).mono ?_
      rintro e w2 ⟨rfl, hb2⟩
      have HF2 := hide (HF1.out.below hb2 (by omega))
      have HG2 := hide (HG1.out.below hb2 (by omega))
      have HB2 := hide (HB1.out.trans (hb2.mono (by omega)))
      clear hb2 HF1 HG1 HB1 c3' c3 p0 p1 p2 f0 f1 f2 f3 f4 ff4
      have hlw2 := HF2.out.lt
      go_wp2_with fail
      refine (ownN p nb ul ur _ _ _ _ w2 ((HB2.out.block nb hltb).trans HND.out)).mono ?_
      rintro e w3 ⟨rfl, hb3⟩
      have hlw3 := hb3.size
      have HF3 := hide ((HF2.out.below hb3 (by omega)).below (((Below.refl w3.heap.size w3).alloc (Nat.le_refl _) (.cells #[.int .i64 l.its, .int .i64 l.rns, .int .i64 l.bks] 332)).alloc (by simp) (.cells #[.int .i64 1, .int .i64 p.len, .int .i64 p.brk] 332)) (by omega))
      have HG3 := hide ((HG2.out.below hb3 (by omega)).below (((Below.refl w3.heap.size w3).alloc (Nat.le_refl _) (.cells #[.int .i64 l.its, .int .i64 l.rns, .int .i64 l.bks] 332)).alloc (by simp) (.cells #[.int .i64 1, .int .i64 p.len, .int .i64 p.brk] 332)) (by omega))
      have HB3 := hide ((((HB2.out.trans (hb3.mono (by omega)))).alloc (by omega) (.cells #[.int .i64 l.its, .int .i64 l.rns, .int .i64 l.bks] 332)).alloc (by simp; omega) (.cells #[.int .i64 1, .int .i64 p.len, .int .i64 p.brk] 332))
      clear hb3 HF2 HG2 HB2
      have hA : ((w3.alloc (.cells #[.int .i64 l.its, .int .i64 l.rns, .int .i64 l.bks] 332)).alloc (.cells #[.int .i64 1, .int .i64 p.len, .int .i64 p.brk] 332)).heap[w3.heap.size]? = some (.cells #[.int .i64 l.its, .int .i64 l.rns, .int .i64 l.bks] 332 (0, 0)) := by
        rw [Below.heap_alloc _ _ _ (by simp)]; exact heap_alloc_new _ _
      have hO : ((w3.alloc (.cells #[.int .i64 l.its, .int .i64 l.rns, .int .i64 l.bks] 332)).alloc (.cells #[.int .i64 1, .int .i64 p.len, .int .i64 p.brk] 332)).heap[w3.heap.size + 1]? = some (.cells #[.int .i64 1, .int .i64 p.len, .int .i64 p.brk] 332 (0, 0)) := by
        have := heap_alloc_new (w3.alloc (.cells #[.int .i64 l.its, .int .i64 l.rns, .int .i64 l.bks] 332)) (.cells #[.int .i64 1, .int .i64 p.len, .int .i64 p.brk] 332)
        simpa using this
      have hs4 : ((w3.alloc (.cells #[.int .i64 l.its, .int .i64 l.rns, .int .i64 l.bks] 332)).alloc (.cells #[.int .i64 1, .int .i64 p.len, .int .i64 p.brk] 332)).heap.size = w3.heap.size + 2 := by simp
      have RN4 := hide (Rnd.mk HF3.out HG3.out HB3.out hA hO (by omega) (by omega))
      clear hA hO hs4 HF3 HG3 HB3
      unfold cnt
      go_wp2_with fail
      generalize (w3.alloc (.cells #[.int .i64 l.its, .int .i64 l.rns, .int .i64 l.bks] 332)).alloc (.cells #[.int .i64 1, .int .i64 p.len, .int .i64 p.brk] 332) = w4 at *
      generalize w3.heap.size = a at *
      have ha := RN4.out.lo
      refine (measB _ _ _ w4).mono ?_
      rintro e w5 ⟨rfl, hb5⟩
      have RN5 := hide (RN4.out.below hb5)
      clear hb5 RN4
      have c3 := (RN5.out.h.cell (p := ⟨nb, 3, none⟩) hltb).trans HND.out.c3
      have sz5 := RN5.out.sz
      by_cases hlt : kk < l.bks
      · have HEQ := hide (HEQ0.out.trans (seekAdd_left _ _ _ _ _ _ _ _ _ (HTL.out.2 hlt)))
        have HPL : Hid (pe = seekP (fun p => p.brk) l kk) := hide (hpe.out.trans (by simp only [seekP]; rw [if_pos (HTL.out.2 hlt)]))
        clear HEQ0 HTL hpe
        go_wp2
        go_roundg l.ht
        case measure => simp only [AT.ht]; omega
        case rel => exact ⟨l, ul, bl, kk, i, n, b, s + 1, rfl, rfl, rfl, HL.out, HOK.out.left, hkk, by omega, RN5.out.f, RN5.out.g, RN5.out.h, HEQ.out, HPL⟩
      · have hnl := fun h => hlt (HTL.out.1 h)
        obtain ⟨l0, l1, l2⟩ := cc3 RN5.out.l
        go_wp2_with fail
        refine (measB _ _ _ w5).mono ?_
        rintro e w6 ⟨rfl, hb6⟩
        have RN6 := hide (RN5.out.below hb6)
        clear hb6 RN5 c3 l0 l1 l2
        obtain ⟨l0, l1, l2⟩ := cc3 RN6.out.l
        obtain ⟨p0, p1, p2, f0, f1, f2, f3, f4⟩ := RN6.out.f.c
        have sz6 := RN6.out.sz
        go_wp2_with fail
        refine (plusN _ _ _ _ _ _ w6 (by omega) (by omega) (by omega) (by omega) (by omega) (by omega)).mono ?_
        rintro e w7 ⟨rfl, hb7⟩
        have RN7 := hide (RN6.out.below hb7)
        clear hb7 RN6 l0 l1 l2 p0 p1 p2 f0 f1 f2 f3 f4
        obtain ⟨p0, p1, p2, f0, f1, f2, f3, f4⟩ := RN7.out.f.c
        have ff0 := RN7.out.f.fz 3
        have ff1 := RN7.out.f.fz 4
        have ff2 := RN7.out.f.fz 5
        have RN8 := hide (RN7.out.set345 (i + l.its) (n + l.rns) (b + l.bks))
        have sz7 := RN7.out.sz
        obtain ⟨o0, o1, o2⟩ := cc3 RN8.out.o
        unfold cnt
        go_wp2_with fail
        generalize ((w7.setCell ⟨w.heap.size + 1, 3, none⟩ (.int .i64 (i + l.its))).setCell ⟨w.heap.size + 1, 4, none⟩ (.int .i64 (n + l.rns))).setCell ⟨w.heap.size + 1, 5, none⟩ (.int .i64 (b + l.bks)) = w8 at *
        clear RN7 p0 p1 p2 f0 f1 f2 f3 f4 ff0 ff1 ff2
        refine (measB _ _ _ w8).mono ?_
        rintro e w9 ⟨rfl, hb9⟩
        have RN9 := hide (RN8.out.below hb9)
        clear hb9 RN8 o0 o1 o2
        have sz9 := RN9.out.sz
        by_cases hin : kk - l.bks < p.brk
        · have HEQ := hide (HEQ0.out.trans (seekAdd_here _ _ _ _ _ _ _ _ _ hnl (by rw [HSL.out]; exact hin)))
          have HPH : Hid (pe = p) := hide (hpe.out.trans (by simp only [seekP]; rw [if_neg hnl, if_pos (by rw [HSL.out]; exact hin)]))
          rw [HSL.out] at HEQ
          clear HEQ0 HTL HSL hnl hpe
          obtain ⟨p0, p1, p2, f0, f1, f2, f3, f4⟩ := RN9.out.f.c
          obtain ⟨g0, g1, g2, g3, g4, g5, g6, g7⟩ := RN9.out.g.c
          have ff3 := RN9.out.f.fz 6
          have z0 := RN9.out.g.fz 0
          have z1 := RN9.out.g.fz 1
          have z2 := RN9.out.g.fz 2
          have z3 := RN9.out.g.fz 3
          have z4 := RN9.out.g.fz 4
          have z5 := RN9.out.g.fz 5
          have z6 := RN9.out.g.fz 6
          have z7 := RN9.out.g.fz 7
          have e0 := RN9.out.f.fz 0
          have e1 := RN9.out.f.fz 1
          have e2 := RN9.out.f.fz 2
          have d0 := (RN9.out.h.cell (p := ⟨nb, 0, none⟩) hltb).trans HND.out.c0
          have d1 := (RN9.out.h.cell (p := ⟨nb, 1, none⟩) hltb).trans HND.out.c1
          have d2 := (RN9.out.h.cell (p := ⟨nb, 2, none⟩) hltb).trans HND.out.c2
          have hnb1 : nb ≠ w.heap.size + 1 := by omega
          have hnb0 : nb ≠ w.heap.size := by omega
          go_wp2
          refine bodyPost_ret (v := fndV p.off p.len p.brk (i + l.its, n + l.rns, b + l.bks, kk - l.bks, s + 1)) (by simp [results, Tryz.results390, go_sem, g0, g1, g2, g3, g4, g5, g6, g7]; rfl) rfl ⟨by rw [HEQ.out, HPH.out], ?_⟩
          repeat (refine Below.setCell ?_ (by simp) _)
          exact RN9.out.h
        · have HEQ := hide (HEQ0.out.trans (seekAdd_right _ _ _ _ _ _ _ _ _ hnl (by rw [HSL.out]; exact hin)))
          have HPR : Hid (pe = seekP (fun p => p.brk) r (kk - l.bks - p.brk)) := hide (hpe.out.trans (by simp only [seekP]; rw [if_neg hnl, if_neg (by rw [HSL.out]; exact hin), HSL.out]))
          rw [HSL.out] at HEQ
          clear HEQ0 HTL HSL hnl hpe
          obtain ⟨o0, o1, o2⟩ := cc3 RN9.out.o
          go_wp2_with fail
          refine (measB _ _ _ w9).mono ?_
          rintro e w10 ⟨rfl, hb10⟩
          have RN10 := hide (RN9.out.below hb10)
          clear hb10 RN9 o0 o1 o2
          obtain ⟨o0, o1, o2⟩ := cc3 RN10.out.o
          obtain ⟨p0, p1, p2, f0, f1, f2, f3, f4⟩ := RN10.out.f.c
          have sz10 := RN10.out.sz
          go_wp2_with fail
          refine (plusN _ _ _ _ _ _ w10 (by omega) (by omega) (by omega) (by omega) (by omega) (by omega)).mono ?_
          rintro e w11 ⟨rfl, hb11⟩
          have RN11 := hide (RN10.out.below hb11)
          clear hb11 RN10 o0 o1 o2 p0 p1 p2 f0 f1 f2 f3 f4
          obtain ⟨p0, p1, p2, f0, f1, f2, f3, f4⟩ := RN11.out.f.c
          have ff0 := RN11.out.f.fz 3
          have ff1 := RN11.out.f.fz 4
          have ff2 := RN11.out.f.fz 5
          have RN12 := hide (RN11.out.set345 (i + l.its + 1) (n + l.rns + p.len) (b + l.bks + p.brk))
          have sz11 := RN11.out.sz
          have c4 := (RN12.out.h.cell (p := ⟨nb, 4, none⟩) hltb).trans HND.out.c4
          unfold cnt
          go_wp2
          go_roundg r.ht
          case measure => simp only [AT.ht]; omega
          case rel => exact ⟨r, ur, br, kk - l.bks - p.brk, i + l.its + 1, n + l.rns + p.len, b + l.bks + p.brk, s + 1, rfl, rfl, rfl, HR.out, HOK.out.right, by omega, by omega, RN12.out.f, RN12.out.g, RN12.out.h, HEQ.out, HPR⟩
end Go.Proofs.YtbgngikejgihgagGreatDoor

namespace Go.Proofs.YtbgngikejgihgagGreatDoor
open Go Go.RowKit Go.Sort
set_option linter.unusedVariables false

/-- A core that lies there: its store, its tree. -/
structure PCore (w : World) (base c b o cap : Nat) (zs : List Int) (T : AT) : Prop where
  k : ∃ u bs, PK w c b o zs.length cap u ∧ Lies w base T u bs
  a : At32 w b o zs
  b : b < w.heap.size
  ok : T.ok
  wp : T.wp zs
  n : zs.length ≤ 1048576 ∧ zs.length ≤ cap ∧ cap ≤ maxLen
theorem PCore.below {B base c b o cap : Nat} {w w' : World} {zs : List Int} {T : AT} (h : PCore w base c b o cap zs T) (hb : Below B w w') (hB : w.heap.size ≤ B) : PCore w' base c b o cap zs T := by
  obtain ⟨⟨u, bs, h1, h2⟩, h3, h4, h5, h6, h7⟩ := h
  have hs := hb.size
  have hl := h1.lt
  exact ⟨⟨u, bs, h1.below hb (by omega), h2.below hb hB⟩, h3.below hb (by omega), by have := (Below.mono hb hB).size; omega, h5, h6, h7⟩

set_option maxHeartbeats 1000000 in
set_option maxRecDepth 100000 in
theorem textN (c b o n cap q m : Nat) (pb : Int) (u : Option Addr) (w : World) (hk : PK w c b o n cap u) (h : q + m ≤ n) (h0 : 0 < m ∨ q = 0) (hcap : n ≤ cap) (hm : cap ≤ maxLen) :
    Calls Tryz.prog 392 #[.pointer (some ⟨c, 0, none⟩), .agg #[.int .i64 (q : Int), .int .i64 (m : Int), .int .i64 pb]] w fun e w' => e = .returned (.slice (some ⟨b, o + q, none⟩) m (cap - q)) ∧ Below w.heap.size w w' := by
  have HB0 := hide ((Below.refl w.heap.size w).alloc (Nat.le_refl _) (.cells #[.int .i64 (q : Int), .int .i64 (m : Int), .int .i64 pb] 143))
  have c0 := (HB0.out.cell (p := ⟨c, 0, none⟩) hk.lt).trans hk.c0
  have KA : (w.alloc (.cells #[.int .i64 (q : Int), .int .i64 (m : Int), .int .i64 pb] 143)).heap[w.heap.size]? = some (.cells #[.int .i64 (q : Int), .int .i64 (m : Int), .int .i64 pb] 143 (0, 0)) := heap_alloc_new _ _
  have d0 : (w.alloc (.cells #[.int .i64 (q : Int), .int .i64 (m : Int), .int .i64 pb] 143)).cell? ⟨w.heap.size, 0, none⟩ = some (.int .i64 (q : Int)) := by rw [cell_of_row _ _ 0 _ _ _ KA]; rfl
  have d1 : (w.alloc (.cells #[.int .i64 (q : Int), .int .i64 (m : Int), .int .i64 pb] 143)).cell? ⟨w.heap.size, 1, none⟩ = some (.int .i64 (m : Int)) := by rw [cell_of_row _ _ 1 _ _ _ KA]; rfl
  have hs0 : (w.alloc (.cells #[.int .i64 (q : Int), .int .i64 (m : Int), .int .i64 pb] 143)).heap.size = w.heap.size + 1 := by simp
  unfold maxLen at hm
  have g1 : (q : Int) ≤ (q : Int) + (m : Int) := by omega
  have g2 : (q : Int) + (m : Int) ≤ (cap : Int) := by omega
  have g4 : (0 : Int) ≤ (q : Int) + (m : Int) := by omega
  clear hk KA
  by_cases hco : cap = q
  · obtain rfl : q = 0 := by omega
    obtain rfl : m = 0 := by omega
    subst hco
    go_enter Tryz.func392, Tryz.ntmps392
    go_wp2_with fail
    generalize w.alloc (.cells #[.int .i64 ((0 : Nat) : Int), .int .i64 ((0 : Nat) : Int), .int .i64 pb] 143) = w0 at *
    go_quiet (fail)
    have HBN := hide (show Below w.heap.size w (w0.drewN nq) from HB0.out.trans (below_dn2 _ _ _))
    go_wp2
    go_ret
    exact ⟨rfl, HBN.out⟩
  · have HQM := hide (show Ending.returned (.slice (some ⟨b, o + q, none⟩) (q + m - q) (cap - q)) = Ending.returned (.slice (some ⟨b, o + q, none⟩) m (cap - q)) by rw [show q + m - q = m by omega])
    go_enter Tryz.func392, Tryz.ntmps392
    go_wp2_with fail
    generalize w.alloc (.cells #[.int .i64 (q : Int), .int .i64 (m : Int), .int .i64 pb] 143) = w0 at *
    go_quiet (fail)
    have HBN := hide (show Below w.heap.size w (w0.drewN nq) from HB0.out.trans (below_dn2 _ _ _))
    go_wp2
    go_ret
    exact ⟨Eq.trans rfl HQM.out, HBN.out⟩

set_option maxHeartbeats 1000000 in
theorem lengthN (T : AT) (base c b o cap : Nat) (zs : List Int) (w : World) (h : PCore w base c b o cap zs T) :
    Calls Tryz.prog 376 #[.pointer (some ⟨c, 0, none⟩)] w fun e w' => e = .returned (.int .i64 T.rns) ∧ Below w.heap.size w w' := by
  obtain ⟨⟨u, bs, h1, h2⟩, _⟩ := h
  have c1 := h1.c1
  have HA := hide (allN T u bs base w h2)
  clear h1 h2
  go_enter Tryz.func376, Tryz.ntmps376
  go_wp2_with fail
  refine HA.out.mono ?_
  rintro e w1 ⟨rfl, hb1⟩
  have HB1 := hide hb1
  have fl1 := Tryz.fld1
  unfold cnt
  clear hb1
  go_wp2
  go_ret
  exact ⟨rfl, HB1.out⟩

end Go.Proofs.YtbgngikejgihgagGreatDoor
