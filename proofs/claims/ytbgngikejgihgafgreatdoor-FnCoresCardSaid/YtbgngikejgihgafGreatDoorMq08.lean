import Derived.Test.YtbgngikejgihgafGreatDoorMq07
import Derived.RangeFuncNested
import Derived.RangeFuncBox
import Derived.RangeFuncBound
import Derived.RangeFuncLeaves
import Derived.Shelf.Abstract
import Derived.OwnWalkIn
import Derived.TacticsInMore
import Derived.LoopNIn
import Derived.LoopIn
namespace Go.Proofs.YtbgngikejgihgafGreatDoor
open Go Go.RowKit
set_option linter.unusedVariables false
set_option maxRecDepth 100000
set_option maxHeartbeats 8000000
theorem measR (i n k : Int) (w : World) : Calls Tryz.prog 173 #[cnt i n k] w fun e w' => e = .returned (.int .i64 n) ∧ Below w.heap.size w w' := by
 unfold cnt;go_enter Tryz.func173, Tryz.ntmps173;go_wp2;go_ret;exact ⟨rfl, (Below.refl _ _).alloc lR _⟩
theorem sumM_okR {T : AT} (h : T.ok) : sumM (fun p => p.len) (T.told 0) = T.rns := by
 rw [YC, AT.rns_told]
theorem seekER (T : AT) (u : Option Addr) (bs : List Nat) (base : Nat) (k : Int) (w : World) (hT : Lies w base T u bs) (hok : T.ok) (hk : 0 <= k ∧ k <= 8192) :
  Calls Tryz.prog 172 #[.pointer u, .int .i64 k, .func (.func 173) #[] #[]] w fun e w' => e = .returned (fndV (seekP (fun p => p.len) T k).off (seekP (fun p => p.len) T k).len (seekP (fun p => p.len) T k).brk (seekT (fun p => p.len) T k)) ∧ Below w.heap.size w w' := by
 have HRES := hide (jo (fun p => p.len) T k)
 generalize seekT (fun p => p.len) T k = res at HRES |-
 generalize hpe : seekP (fun p => p.len) T k = pe
 have HPE := hide hpe.symm;clear hpe;have HT := hide hT;have HOK := hide hok;have bT := hok.bd
 have hhT : (T.ht : Int) <= 8192 := by have := zW T; omega
 have HB0 := hide (((Below.refl w.heap.size w).alloc lR (.cells #[.int .i64 0, .int .i64 0, .int .i64 0, .int .i64 0, .int .i64 0, .int .i64 0, .int .i64 0, .int .i64 0] 250)).alloc (by simp) (.cells #[.int .i64 0, .int .i64 0, .int .i64 0, .int .i64 0, .int .i64 0, .int .i64 0, .int .i64 0, .int .i64 0] 250))
 have hF0 : Fnd ((w.alloc (.cells #[.int .i64 0, .int .i64 0, .int .i64 0, .int .i64 0, .int .i64 0, .int .i64 0, .int .i64 0, .int .i64 0] 250)).alloc (.cells #[.int .i64 0, .int .i64 0, .int .i64 0, .int .i64 0, .int .i64 0, .int .i64 0, .int .i64 0, .int .i64 0] 250)) (w.heap.size + 1) 0 0 0 0 0 0 0 0 := by
  have := heap_alloc_new (w.alloc (.cells #[.int .i64 0, .int .i64 0, .int .i64 0, .int .i64 0, .int .i64 0, .int .i64 0, .int .i64 0, .int .i64 0] 250)) (.cells #[.int .i64 0, .int .i64 0, .int .i64 0, .int .i64 0, .int .i64 0, .int .i64 0, .int .i64 0, .int .i64 0] 250);simpa [Fnd] using this
 have hG0 : Fnd ((w.alloc (.cells #[.int .i64 0, .int .i64 0, .int .i64 0, .int .i64 0, .int .i64 0, .int .i64 0, .int .i64 0, .int .i64 0] 250)).alloc (.cells #[.int .i64 0, .int .i64 0, .int .i64 0, .int .i64 0, .int .i64 0, .int .i64 0, .int .i64 0, .int .i64 0] 250)) w.heap.size 0 0 0 0 0 0 0 0 := by
  unfold Fnd; rw [Below.heap_alloc _ _ _ (by simp)]; exact heap_alloc_new _ _
 have HF0 := hide hF0;have HG0 := hide hG0;clear hT hok hF0 hG0;go_enter Tryz.func172, Tryz.ntmps172;go_wp2_with fail;generalize (w.alloc (.cells #[.int .i64 0, .int .i64 0, .int .i64 0, .int .i64 0, .int .i64 0, .int .i64 0, .int .i64 0, .int .i64 0] 250)).alloc (.cells #[.int .i64 0, .int .i64 0, .int .i64 0, .int .i64 0, .int .i64 0, .int .i64 0, .int .i64 0, .int .i64 0] 250) = w0 at *
 go_loopg [0, 1] T.ht (fun g pv kv wr => ∃ (S : AT) (us : Option Addr) (cs : List Nat) (kk : Int) (i : Nat) (n b s : Int), pv = .pointer us ∧ kv = .int .i64 kk ∧ g = S.ht ∧ Lies w base S us cs ∧ S.ok ∧ (0 <= kk ∧ kk <= 8192) ∧
  ((i : Int) + S.its <= 8192 ∧ 0 <= n ∧ n + S.rns <= 8192 ∧ 0 <= b ∧ b + S.bks <= 8192 ∧ 0 <= s ∧ s + S.ht <= 8192) ∧ Fnd wr (w.heap.size + 1) 0 0 0 i n b 0 s ∧ Fnd wr w.heap.size 0 0 0 0 0 0 0 0 ∧ Below w.heap.size w wr ∧ res = zq (fun p => p.len) S kk i n b s ∧ Hid (pe = seekP (fun p => p.len) S kk))
 case atStart => exact ⟨T, u, bs, k, 0, 0, 0, 0, rfl, rfl, rfl, HT.out, HOK.out, hk, by omega, HF0.out, HG0.out, HB0.out, HRES.out, HPE⟩
 case round =>
  obtain ⟨S, us, cs, kk, i, n, b, s, rfl, rfl, rfl, hS, hSok, hkk, hbd, hF, hG, hbw, heq, hpe⟩ := hrel;clear HT HOK HRES HPE HB0 HF0 HG0 bT hhT;have hFl := hF.lt;have hGl := hG.lt
  cases S with
  | nil =>
   obtain ⟨rfl, rfl⟩ := hS;rw [ZM] at heq;have HEQ := hide heq;have HF := hide hF;have HG := hide hG;have HBW := hide hbw;obtain ⟨p0, p1, p2, f0, f1, f2, f3, f4⟩ := hF.c;obtain ⟨g0, g1, g2, g3, g4, g5, g6, g7⟩ := hG.c;have ff3 := hF.fz 6
   have hz := fun j => hG.fz j
   have z0 := hz 0;have z1 := hz 1;have z2 := hz 2;have z3 := hz 3;have z4 := hz 4;have z5 := hz 5;have z6 := hz 6;have z7 := hz 7;clear heq hF hG hbw hbd hz;go_wp2
   refine bodyPost_ret (v := fndV 0 0 0 (i, n, b, kk, s)) (by simp [results, Tryz.results172, go_sem, g0, g1, g2, g3, g4, g5, g6, g7]; rfl) rfl ⟨by rw [HEQ.out, hpe.out]; rfl, ?_⟩
   repeat (refine Below.setCell ?_ (by simp) _)
   exact HBW.out
  | node l p r =>
   obtain ⟨nb, ul, ur, bl, br, rfl, hbase, hnd, hl, hr, rfl⟩ := hS;have bL := hSok.left.bd;have bR := hSok.right.bd;have bP := hSok.piece;have hsl := sumM_okR hSok.left
   have hht : ((AT.node l p r).ht : Int) = 1 + max (l.ht : Int) r.ht := by simp only [AT.ht]; omega
   have hit : ((AT.node l p r).its : Int) = l.its + 1 + r.its := by simp only [AT.its]; omega
   have hrn : (AT.node l p r).rns = l.rns + p.len + r.rns := rfl;have hbk : (AT.node l p r).bks = l.bks + p.brk + r.bks := rfl;rw [hht, hit, hrn, hbk] at hbd
   have hms : 0 <= l.rns ∧ l.rns <= 8192 ∧ 0 <= p.len ∧ p.len <= 8192 := by omega
   have HTL : Hid (kk < sumM (fun p => p.len) (l.told 0) ↔ kk < l.rns) := by rw [hsl]; exact Iff.rfl
   have HSL := hide hsl;have HEQ0 := hide heq;have HL := hide hl;have HR := hide hr;have HND := hide hnd;have HOK := hide hSok;have hltb := hnd.lt;have HF1 := hide (hF.set7 (s + 1))
   have HG1 := hide (show Fnd (wr.setCell ⟨w.heap.size + 1, 7, none⟩ (.int .i64 (s + 1))) w.heap.size 0 0 0 0 0 0 0 0 from by unfold Fnd; rw [heap_setCell_other _ _ _ _ (by simp)]; exact hG)
   have HB1 := hide (hbw.setCell (p := ⟨w.heap.size + 1, 7, none⟩) (by simp) (.int .i64 (s + 1)))
   obtain ⟨p0, p1, p2, f0, f1, f2, f3, f4⟩ := hF.c;have ff4 := hF.fz 7;have c3 := (hbw.cell (p := ⟨nb, 3, none⟩) hltb).trans hnd.c3;have c3' : (wr.setCell ⟨w.heap.size + 1, 7, none⟩ (.int .i64 (s + 1))).cell? ⟨nb, 3, none⟩ = some (.pointer ul) := (HB1.out.cell (p := ⟨nb, 3, none⟩) hltb).trans hnd.c3;clear heq hF hG hbw hl hr hnd hSok hsl hht hit hrn hbk;go_wp2_with fail;generalize wr.setCell ⟨w.heap.size + 1, 7, none⟩ (.int .i64 (s + 1)) = w1 at *;have hlw1 := HF1.out.lt;refine (allN l ul bl base w1 (HL.out.below HB1.out lR)).mono ?_;rintro e w2 ⟨rfl, hb2⟩
   have HF2 := hide (HF1.out.below hb2 (by omega))
   have HG2 := hide (HG1.out.below hb2 (by omega))
   have HB2 := hide (HB1.out.trans (hb2.mono (by omega)))
   clear hb2 HF1 HG1 HB1 c3' c3 p0 p1 p2 f0 f1 f2 f3 f4 ff4;have hlw2 := HF2.out.lt;go_wp2_with fail;refine (ownN p nb ul ur _ _ _ _ w2 ((HB2.out.block nb hltb).trans HND.out)).mono ?_;rintro e w3 ⟨rfl, hb3⟩;have hlw3 := hb3.size
   have HF3 := hide ((HF2.out.below hb3 (by omega)).below (((Below.refl w3.heap.size w3).alloc lR (.cells #[.int .i64 l.its, .int .i64 l.rns, .int .i64 l.bks] 159)).alloc (by simp) (.cells #[.int .i64 1, .int .i64 p.len, .int .i64 p.brk] 159)) (by omega))
   have HG3 := hide ((HG2.out.below hb3 (by omega)).below (((Below.refl w3.heap.size w3).alloc lR (.cells #[.int .i64 l.its, .int .i64 l.rns, .int .i64 l.bks] 159)).alloc (by simp) (.cells #[.int .i64 1, .int .i64 p.len, .int .i64 p.brk] 159)) (by omega))
   have HB3 := hide ((((HB2.out.trans (hb3.mono (by omega)))).alloc (by omega) (.cells #[.int .i64 l.its, .int .i64 l.rns, .int .i64 l.bks] 159)).alloc (by simp; omega) (.cells #[.int .i64 1, .int .i64 p.len, .int .i64 p.brk] 159))
   clear hb3 HF2 HG2 HB2
   have hA : ((w3.alloc (.cells #[.int .i64 l.its, .int .i64 l.rns, .int .i64 l.bks] 159)).alloc (.cells #[.int .i64 1, .int .i64 p.len, .int .i64 p.brk] 159)).heap[w3.heap.size]? = some (.cells #[.int .i64 l.its, .int .i64 l.rns, .int .i64 l.bks] 159 (0, 0)) := by
    rw [Below.heap_alloc _ _ _ (by simp)]; exact heap_alloc_new _ _
   have hO : ((w3.alloc (.cells #[.int .i64 l.its, .int .i64 l.rns, .int .i64 l.bks] 159)).alloc (.cells #[.int .i64 1, .int .i64 p.len, .int .i64 p.brk] 159)).heap[w3.heap.size + 1]? = some (.cells #[.int .i64 1, .int .i64 p.len, .int .i64 p.brk] 159 (0, 0)) := by
    have := heap_alloc_new (w3.alloc (.cells #[.int .i64 l.its, .int .i64 l.rns, .int .i64 l.bks] 159)) (.cells #[.int .i64 1, .int .i64 p.len, .int .i64 p.brk] 159);simpa using this
   have hs4 : ((w3.alloc (.cells #[.int .i64 l.its, .int .i64 l.rns, .int .i64 l.bks] 159)).alloc (.cells #[.int .i64 1, .int .i64 p.len, .int .i64 p.brk] 159)).heap.size = w3.heap.size + 2 := by simp
   have RN4 := hide (Rnd.mk HF3.out HG3.out HB3.out hA hO (by omega) (by omega))
   clear hA hO hs4 HF3 HG3 HB3;unfold cnt;go_wp2_with fail;generalize (w3.alloc (.cells #[.int .i64 l.its, .int .i64 l.rns, .int .i64 l.bks] 159)).alloc (.cells #[.int .i64 1, .int .i64 p.len, .int .i64 p.brk] 159) = w4 at *;generalize w3.heap.size = a at *;have ha := RN4.out.lo;refine (measR _ _ _ w4).mono ?_;rintro e w5 ⟨rfl, hb5⟩;have RN5 := hide (RN4.out.below hb5);clear hb5 RN4;have c3 := (RN5.out.h.cell (p := ⟨nb, 3, none⟩) hltb).trans HND.out.c3;have sz5 := RN5.out.sz
   by_cases hlt : kk < l.rns
   ·have HEQ := hide (HEQ0.out.trans (jp _ _ _ _ _ _ _ _ _ (HTL.out.2 hlt)))
    have HPL : Hid (pe = seekP (fun p => p.len) l kk) := hide (hpe.out.trans (by simp only [seekP]; rw [if_pos (HTL.out.2 hlt)]))
    clear HEQ0 HTL hpe;go_wp2;go_roundg l.ht
    case measure => simp only [AT.ht]; omega
    case rel => exact ⟨l, ul, bl, kk, i, n, b, s + 1, rfl, rfl, rfl, HL.out, HOK.out.left, hkk, by omega, RN5.out.f, RN5.out.g, RN5.out.h, HEQ.out, HPL⟩
   ·have hnl := fun h => hlt (HTL.out.1 h)
    obtain ⟨l0, l1, l2⟩ := cc3 RN5.out.l;go_wp2_with fail;refine (measR _ _ _ w5).mono ?_;rintro e w6 ⟨rfl, hb6⟩;have RN6 := hide (RN5.out.below hb6);clear hb6 RN5 c3 l0 l1 l2;obtain ⟨l0, l1, l2⟩ := cc3 RN6.out.l;obtain ⟨p0, p1, p2, f0, f1, f2, f3, f4⟩ := RN6.out.f.c;have sz6 := RN6.out.sz;go_wp2_with fail
    refine (plusN _ _ _ _ _ _ w6 (by omega) (by omega) (by omega) (by omega) (by omega) (by omega)).mono ?_
    rintro e w7 ⟨rfl, hb7⟩;have RN7 := hide (RN6.out.below hb7);clear hb7 RN6 l0 l1 l2 p0 p1 p2 f0 f1 f2 f3 f4;obtain ⟨p0, p1, p2, f0, f1, f2, f3, f4⟩ := RN7.out.f.c;have ff0 := RN7.out.f.fz 3;have ff1 := RN7.out.f.fz 4;have ff2 := RN7.out.f.fz 5;have RN8 := hide (RN7.out.set345 (i + l.its) (n + l.rns) (b + l.bks));have sz7 := RN7.out.sz;obtain ⟨o0, o1, o2⟩ := cc3 RN8.out.o;unfold cnt;go_wp2_with fail;generalize ((w7.setCell ⟨w.heap.size + 1, 3, none⟩ (.int .i64 (i + l.its))).setCell ⟨w.heap.size + 1, 4, none⟩ (.int .i64 (n + l.rns))).setCell ⟨w.heap.size + 1, 5, none⟩ (.int .i64 (b + l.bks)) = w8 at *;clear RN7 p0 p1 p2 f0 f1 f2 f3 f4 ff0 ff1 ff2;refine (measR _ _ _ w8).mono ?_;rintro e w9 ⟨rfl, hb9⟩;have RN9 := hide (RN8.out.below hb9);clear hb9 RN8 o0 o1 o2;have sz9 := RN9.out.sz
    by_cases hin : kk - l.rns < p.len
    ·have HEQ := hide (HEQ0.out.trans (jq _ _ _ _ _ _ _ _ _ hnl (by rw [HSL.out]; exact hin)))
     have HPH : Hid (pe = p) := hide (hpe.out.trans (by simp only [seekP]; rw [if_neg hnl, if_pos (by rw [HSL.out]; exact hin)]))
     rw [HSL.out] at HEQ;clear HEQ0 HTL HSL hnl hpe;obtain ⟨p0, p1, p2, f0, f1, f2, f3, f4⟩ := RN9.out.f.c;obtain ⟨g0, g1, g2, g3, g4, g5, g6, g7⟩ := RN9.out.g.c;have ff3 := RN9.out.f.fz 6;have z0 := RN9.out.g.fz 0;have z1 := RN9.out.g.fz 1;have z2 := RN9.out.g.fz 2;have z3 := RN9.out.g.fz 3;have z4 := RN9.out.g.fz 4;have z5 := RN9.out.g.fz 5;have z6 := RN9.out.g.fz 6;have z7 := RN9.out.g.fz 7;have e0 := RN9.out.f.fz 0;have e1 := RN9.out.f.fz 1;have e2 := RN9.out.f.fz 2;have d0 := (RN9.out.h.cell (p := ⟨nb, 0, none⟩) hltb).trans HND.out.c0;have d1 := (RN9.out.h.cell (p := ⟨nb, 1, none⟩) hltb).trans HND.out.c1;have d2 := (RN9.out.h.cell (p := ⟨nb, 2, none⟩) hltb).trans HND.out.c2
     have hnb1 : nb ≠ w.heap.size + 1 := by omega
     have hnb0 : nb ≠ w.heap.size := by omega
     go_wp2
     refine bodyPost_ret (v := fndV p.off p.len p.brk (i + l.its, n + l.rns, b + l.bks, kk - l.rns, s + 1)) (by simp [results, Tryz.results172, go_sem, g0, g1, g2, g3, g4, g5, g6, g7]; rfl) rfl ⟨by rw [HEQ.out, HPH.out], ?_⟩
     repeat (refine Below.setCell ?_ (by simp) _)
     exact RN9.out.h
    ·have HEQ := hide (HEQ0.out.trans (j5 _ _ _ _ _ _ _ _ _ hnl (by rw [HSL.out]; exact hin)))
     have HPR : Hid (pe = seekP (fun p => p.len) r (kk - l.rns - p.len)) := hide (hpe.out.trans (by simp only [seekP]; rw [if_neg hnl, if_neg (by rw [HSL.out]; exact hin), HSL.out]))
     rw [HSL.out] at HEQ;clear HEQ0 HTL HSL hnl hpe;obtain ⟨o0, o1, o2⟩ := cc3 RN9.out.o;go_wp2_with fail;refine (measR _ _ _ w9).mono ?_;rintro e w10 ⟨rfl, hb10⟩;have RN10 := hide (RN9.out.below hb10);clear hb10 RN9 o0 o1 o2;obtain ⟨o0, o1, o2⟩ := cc3 RN10.out.o;obtain ⟨p0, p1, p2, f0, f1, f2, f3, f4⟩ := RN10.out.f.c;have sz10 := RN10.out.sz;go_wp2_with fail
     refine (plusN _ _ _ _ _ _ w10 (by omega) (by omega) (by omega) (by omega) (by omega) (by omega)).mono ?_
     rintro e w11 ⟨rfl, hb11⟩;have RN11 := hide (RN10.out.below hb11);clear hb11 RN10 o0 o1 o2 p0 p1 p2 f0 f1 f2 f3 f4;obtain ⟨p0, p1, p2, f0, f1, f2, f3, f4⟩ := RN11.out.f.c;have ff0 := RN11.out.f.fz 3;have ff1 := RN11.out.f.fz 4;have ff2 := RN11.out.f.fz 5;have RN12 := hide (RN11.out.set345 (i + l.its + 1) (n + l.rns + p.len) (b + l.bks + p.brk));have sz11 := RN11.out.sz;have c4 := (RN12.out.h.cell (p := ⟨nb, 4, none⟩) hltb).trans HND.out.c4;unfold cnt;go_wp2;go_roundg r.ht
     case measure => simp only [AT.ht]; omega
     case rel => exact ⟨r, ur, br, kk - l.rns - p.len, i + l.its + 1, n + l.rns + p.len, b + l.bks + p.brk, s + 1, rfl, rfl, rfl, HR.out, HOK.out.right, by omega, by omega, RN12.out.f, RN12.out.g, RN12.out.h, HEQ.out, HPR⟩
end Go.Proofs.YtbgngikejgihgafGreatDoor
namespace Go.Proofs.YtbgngikejgihgafGreatDoor
open Go Go.RowKit Go.Shelf
set_option linter.unusedVariables false
set_option maxRecDepth 100000
set_option maxHeartbeats 8000000
attribute [local go_sem] Oper.semAt_some
theorem XS {F : Fence} (hd : F.depth = none) (k : Nat) : F.room k := fun d h => by rw [hd] at h; cases h
theorem KO {F : Fence} (hd : F.depth = none) {m m' : Nat} {P : Program} {l : Nat} {f : FuncId} {tmps : Array Value} {assign body : Code} {w : World} {R : Ending -> World -> Prop}
  (h : RoundIn F m P l f tmps assign body w R) : RoundIn F m' P l f tmps assign body w R := ⟨h.1, fun c cs _ => h.2 c cs (XS hd _)⟩
theorem ZN {F : Fence} (hd : F.depth = none) {m : Nat} (m' : Nat) {P : Program} {l : Nat} {args : Array Value} {W : World} {R : Ending -> World -> Prop} (h : YieldAt F m P l args W R) : YieldAt F m' P l args W R := by
 obtain ⟨fn, tmps, assign, body, hy, hR⟩ := h;exact ⟨fn, tmps, assign, body, hy, KO hd hR⟩
def IsT (n₀ : Nat) (W : World) (p : Option Addr) (T : AT) : Prop := ∃ base bs, Lies W base T p bs ∧ ∀ x ∈ bs, x < n₀
theorem IsT.below {n₀ : Nat} {A B : World} {p : Option Addr} {T : AT} (h : IsT n₀ A p T) (hb : Below n₀ A B) : IsT n₀ B p T := by
 obtain ⟨base, bs, h1, h2⟩ := h
 exact ⟨base, bs, h1.frame fun b hbs => hb.block b (h2 b hbs), h2⟩
theorem IsT.parts {n₀ : Nat} {W : World} {p : Option Addr} {l : AT} {q : Pc} {r : AT} (h : IsT n₀ W p (.node l q r)) : ∃ b pl pr, p = some ⟨b, 0, none⟩ ∧ b < n₀ ∧ W.cell? ⟨b, 0, none⟩ = some (.int .i64 q.off) ∧ W.cell? ⟨b, 1, none⟩ = some (.int .i64 q.len) ∧ W.cell? ⟨b, 2, none⟩ = some (.int .i64 q.brk) ∧
  W.cell? ⟨b, 3, none⟩ = some (.pointer pl) ∧ W.cell? ⟨b, 4, none⟩ = some (.pointer pr) ∧ IsT n₀ W pl l ∧ IsT n₀ W pr r := by
 obtain ⟨base, bs, ⟨b, ul, ur, bl, br, rfl, hb, hn, hl, hr, rfl⟩, h2⟩ := h
 exact ⟨b, ul, ur, rfl, h2 b (by simp), hn.c0, hn.c1, hn.c2, hn.c3, hn.c4, ⟨base, bl, hl, fun x hx => h2 x (by simp [hx])⟩, ⟨base, br, hr, fun x hx => h2 x (by simp [hx])⟩⟩
theorem walk_in (F : Fence) (hd : F.depth = none) (h6 : F.fn 132) (hro : F.round = none) (l n₀ N : Nat) (J Jx : List It -> World -> Prop)
  (hY : ∀ m pre (x : It) W, J pre W -> pre.length < N -> YieldAt F m Tryz.prog l #[.int .i64 x.lv, .agg #[.int .i64 x.pc.off, .int .i64 x.pc.len, .int .i64 x.pc.brk]] W fun e W' =>
   (e = .returned (.bool true) ∧ J (pre ++ [x]) W' ∧ Below n₀ W W') ∨ (e = .returned (.bool false) ∧ Jx (pre ++ [x]) W')) (T : AT) :
  ∀ (n : Nat) (p : Option Addr) (lv : Int) (pre : List It) (W : World), IsT n₀ W p T -> 0 <= lv -> lv + T.ht <= 1048576 -> J pre W -> pre.length + T.its <= N ->
   CallsIn F n Tryz.prog 132 #[.pointer p, .int .i64 lv, .func (.yield l) #[] #[]] W fun e W' =>
    (e = .returned (.bool true) ∧ J (pre ++ T.told lv) W' ∧ Below n₀ W W') ∨ (e = .returned (.bool false) ∧ ∃ q, q <+: T.told lv ∧ Jx (pre ++ q) W') := by
 induction T with
 | nil =>
  intro n p lv pre W ht h0 h1 hJ _;obtain ⟨base, bs, ⟨rfl, rfl⟩, _⟩ := ht;refine callsIn_of_wp Tryz.func132 rfl h6 ?_ hro;simp only [Tryz.ntmps132, List.size_toArray, List.length_cons, List.length_nil, Nat.reduceAdd, Nat.reduceSub, Array.replicate_succ, Array.replicate_zero, List.push_toArray, List.append_toArray, List.nil_append, List.cons_append];have hU : undef = Value.tuple #[] := rfl
  gi_wp2_with fail
  go_ret
  exact .inl ⟨rfl, by simpa [AT.told] using hJ, Below.refl _ _⟩
 | node tl v tr ihl ihr =>
  intro n p lv pre W ht h0 h1 hJ hN;obtain ⟨b, pl, pr, rfl, hb, c0, c1, c2, c3, c4, hl, hr⟩ := ht.parts
  have hdd : ∀ k : Nat, (F.depth.isSome = true -> 1 <= k) := fun k h => by rw [hd] at h; cases h
  have hht : ((AT.node tl v tr).ht : Int) = 1 + max (tl.ht : Int) tr.ht := by simp only [AT.ht]; omega
  have hll : (tl.told (lv + 1)).length = tl.its := AT.told_length _ _;rw [hht] at h1;simp only [AT.its] at hN;have hU : undef = Value.tuple #[] := rfl
  have HTD := hide (show (AT.node tl v tr).told lv = tl.told (lv + 1) ++ ⟨v, lv⟩ :: tr.told (lv + 1) from rfl)
  generalize (AT.node tl v tr).told lv = TD at HTD |-
  have hy2 : ∀ W1, J (pre ++ tl.told (lv + 1)) W1 -> Below n₀ W W1 -> YieldAt F (n - 1) Tryz.prog l #[.int .i64 lv, .agg #[.int .i64 v.off, .int .i64 v.len, .int .i64 v.brk]] W1 fun e W2 =>
    (e = .returned (.bool true) ∧ J (pre ++ tl.told (lv + 1) ++ [⟨v, lv⟩]) W2 ∧ Below n₀ W W2 ∧ W2.cell? ⟨b, 4, none⟩ = some (.pointer pr) ∧ IsT n₀ W2 pr tr) ∨ (e = .returned (.bool false) ∧ Jx (pre ++ tl.told (lv + 1) ++ [⟨v, lv⟩]) W2) := fun W1 hJ1 hb1 =>
   YieldAt.mono (hY (n - 1) _ ⟨v, lv⟩ W1 hJ1 (by simp [hll]; omega)) fun e W2 h => h.elim
    (fun ⟨he, hj, hb2⟩ => .inl ⟨he, hj, hb1.trans hb2, ((hb1.trans hb2).cell (p := ⟨b, 4, none⟩) hb).trans c4, hr.below (hb1.trans hb2)⟩) .inr
  have ih1 := (ihl (n - 1) pl (lv + 1) pre W hl (by omega) (by omega) hJ (by omega)).mono (R' := fun e W1 =>
    (e = .returned (.bool true) ∧ W1.cell? ⟨b, 0, none⟩ = some (.int .i64 v.off) ∧ W1.cell? ⟨b, 1, none⟩ = some (.int .i64 v.len) ∧ W1.cell? ⟨b, 2, none⟩ = some (.int .i64 v.brk) ∧ YieldAt F (n - 1) Tryz.prog l #[.int .i64 lv, .agg #[.int .i64 v.off, .int .i64 v.len, .int .i64 v.brk]] W1 fun e W2 =>
     (e = .returned (.bool true) ∧ J (pre ++ tl.told (lv + 1) ++ [⟨v, lv⟩]) W2 ∧ Below n₀ W W2 ∧ W2.cell? ⟨b, 4, none⟩ = some (.pointer pr) ∧ IsT n₀ W2 pr tr) ∨ (e = .returned (.bool false) ∧ Jx (pre ++ tl.told (lv + 1) ++ [⟨v, lv⟩]) W2)) ∨
    (e = .returned (.bool false) ∧ ∃ q, q <+: tl.told (lv + 1) ∧ Jx (pre ++ q) W1))
   (fun e W1 h => h.elim (fun ⟨he, hj, hb1⟩ => .inl ⟨he, (hb1.cell (p := ⟨b, 0, none⟩) hb).trans c0, (hb1.cell (p := ⟨b, 1, none⟩) hb).trans c1, (hb1.cell (p := ⟨b, 2, none⟩) hb).trans c2, hy2 W1 hj hb1⟩) .inr)
  clear hy2 ihl;refine callsIn_of_wp Tryz.func132 rfl h6 ?_ hro;simp only [Tryz.ntmps132, List.size_toArray, List.length_cons, List.length_nil, Nat.reduceAdd, Nat.reduceSub, Array.replicate_succ, Array.replicate_zero, List.push_toArray, List.append_toArray, List.nil_append, List.cons_append]
  gi_wp2_with (first
   | ((try refine ⟨hdd _, ?_⟩); gi_at_call 132; refine ih1.mono ?_; clear ih1; rintro e W1 (⟨rfl, c0', c1', c2', fn, tmps, assign, body, hy, hR⟩ | ⟨rfl, q, hq, hx1⟩))
   | ((try refine ⟨hdd _, ?_⟩); refine hR.mono ?_; clear hR; rintro e W2 (⟨rfl, hJ2, hb2, c4', hr2⟩ | ⟨rfl, hx2⟩))
   | ((try refine ⟨hdd _, ?_⟩); gi_at_call 132; refine (ihr (n - 1) pr (lv + 1) _ _ hr2 (by omega) (by omega) hJ2 (by simp [hll]; omega)).mono ?_; rintro e W3 (⟨rfl, hJ3, hb3⟩ | ⟨rfl, q, hq, hx3⟩)))
  ·go_ret
   exact .inl ⟨rfl, by rw [HTD.out]; simpa [List.append_assoc] using hJ3, hb2.trans hb3⟩
  ·go_ret
   obtain ⟨r, hr'⟩ := hq
   exact .inr ⟨rfl, tl.told (lv + 1) ++ ⟨v, lv⟩ :: q, ⟨r, by rw [HTD.out]; simp [<- hr']⟩, by simpa [List.append_assoc] using hx3⟩
  ·go_ret
   exact .inr ⟨rfl, tl.told (lv + 1) ++ [⟨v, lv⟩], ⟨tr.told (lv + 1), by rw [HTD.out]; simp⟩, by simpa [List.append_assoc] using hx2⟩
  ·go_ret
   exact .inr ⟨rfl, q, hq.trans (by rw [HTD.out]; simp), hx1⟩
theorem all1_in (F : Fence) (hd : F.depth = none) (n : Nat) (h5 : F.fn 131) (h6 : F.fn 132) (hro : F.round = none) (l Bt Bl n₀ : Nat) (p0 : Option Addr) (T : AT) (hht : (T.ht : Int) <= 1048576) (J Jx : List It -> World -> Prop)
  (hY : ∀ pre (x : It) W, J pre W -> pre.length < T.its -> YieldAt F (n - 1) Tryz.prog l #[.int .i64 x.lv, .agg #[.int .i64 x.pc.off, .int .i64 x.pc.len, .int .i64 x.pc.brk]] W fun e W' =>
   (e = .returned (.bool true) ∧ J (pre ++ [x]) W' ∧ Below n₀ W W') ∨ (e = .returned (.bool false) ∧ Jx (pre ++ [x]) W'))
  (W : World) (hBt : W.cell? ⟨Bt, 0, none⟩ = some (.pointer p0)) (hBl : W.cell? ⟨Bl, 0, none⟩ = some (.int .i64 0)) (hT : IsT n₀ W p0 T) (h0 : J [] W) :
  CallsIn F n Tryz.prog 131 #[.func (.yield l) #[] #[], .pointer (some ⟨Bt, 0, none⟩), .pointer (some ⟨Bl, 0, none⟩)] W fun e W' => (∃ v, e = .returned v) ∧
   ((∃ ys, ys = T.told 0 ∧ J ys W') ∨ (∃ pre, pre <+: T.told 0 ∧ Jx pre W')) := by
 have hdd : ∀ k : Nat, (F.depth.isSome = true -> 1 <= k) := fun k h => by rw [hd] at h; cases h
 have hp := walk_in F hd h6 hro l n₀ T.its J Jx (fun m pre x W hj hl => ZN hd m (hY pre x W hj hl)) T (n - 1) p0 0 [] W hT (by omega) (by omega) h0 (by simp)
 refine callsIn_of_wp Tryz.func131 rfl h5 ?_ hro;simp only [Tryz.ntmps131, List.size_toArray, List.length_cons, List.length_nil, Nat.reduceAdd, Nat.reduceSub, Array.replicate_succ, Array.replicate_zero, List.push_toArray, List.append_toArray, List.nil_append, List.cons_append]
 gi_wp2_with ((try refine ⟨hdd _, ?_⟩); gi_at_call 132; refine hp.mono ?_; clear hp; rintro e W1 (⟨rfl, hJ1, _⟩ | ⟨rfl, q, hq, hx⟩))
 ·go_end0
  exact ⟨⟨_, rfl⟩, .inl ⟨_, rfl, by simpa using hJ1⟩⟩
 ·go_end0
  exact ⟨⟨_, rfl⟩, .inr ⟨q, hq, by simpa using hx⟩⟩
theorem all_in (F : Fence) (n : Nat) (h4 : F.fn 109) (hro : F.round = none) (p0 : Option Addr) (w : World) :
  CallsIn F n Tryz.prog 109 #[.pointer p0, .int .i64 0] w fun e w' => e = .returned (.func (.func 131) #[] #[.pointer (some ⟨w.heap.size, 0, none⟩), .pointer (some ⟨w.heap.size + 1, 0, none⟩)]) ∧ w' = (w.alloc (.cells #[.pointer p0] 124)).alloc (.cells #[.int .i64 0] 3) := by
 refine callsIn_of_wp Tryz.func109 rfl h4 ?_ hro;simp only [Tryz.ntmps109, List.size_toArray, List.length_cons, List.length_nil, Nat.reduceAdd, Nat.reduceSub, Array.replicate_succ, Array.replicate_zero, List.push_toArray, List.append_toArray, List.nil_append, List.cons_append]
 gi_wp2
 go_ret;exact ⟨rfl, rfl⟩
theorem zCh (F : Fence) (hd : F.depth = none) (n : Nat) (h5 : F.fn 131) (h6 : F.fn 132) (hro : F.round = none) (Bt Bl n₀ : Nat) (p0 : Option Addr) (T : AT) (hht : (T.ht : Int) <= 1048576) (w : World) (hBt : Bt < w.heap.size) (hBl : Bl < w.heap.size) (hn₀ : n₀ <= w.heap.size)
  (hc : w.cell? ⟨Bt, 0, none⟩ = some (.pointer p0)) (hc2 : w.cell? ⟨Bl, 0, none⟩ = some (.int .i64 0)) (hT : IsT n₀ w p0 T) :
  SeqStopsK F n Tryz.prog 131 #[.pointer (some ⟨Bt, 0, none⟩), .pointer (some ⟨Bl, 0, none⟩)] (fun x : It => #[Value.int .i64 x.lv, .agg #[.int .i64 x.pc.off, .int .i64 x.pc.len, .int .i64 x.pc.brk]]) (Below n₀) (fun ys => ys = T.told 0) (fun pre => pre <+: T.told 0) T.its w := fun l J Jx W hW _ _ hY h0 =>
 all1_in F hd n h5 h6 hro l Bt Bl n₀ p0 T hht J Jx hY W ((hW.cell (p := ⟨Bt, 0, none⟩) hBt).trans hc) ((hW.cell (p := ⟨Bl, 0, none⟩) hBl).trans hc2) (hT.below (hW.mono hn₀)) h0
attribute [local go_sem] Oper.semAt_some
theorem walk_inQ (Q : It -> Prop) (F : Fence) (hd : F.depth = none) (h6 : F.fn 132) (hro : F.round = none) (l n₀ N : Nat) (J Jx : List It -> World -> Prop)
  (hY : ∀ m pre (x : It) W, J pre W -> pre.length < N -> Q x -> YieldAt F m Tryz.prog l #[.int .i64 x.lv, .agg #[.int .i64 x.pc.off, .int .i64 x.pc.len, .int .i64 x.pc.brk]] W fun e W' =>
   (e = .returned (.bool true) ∧ J (pre ++ [x]) W' ∧ Below n₀ W W') ∨ (e = .returned (.bool false) ∧ Jx (pre ++ [x]) W')) (T : AT) :
  ∀ (n : Nat) (p : Option Addr) (lv : Int) (pre : List It) (W : World), IsT n₀ W p T -> 0 <= lv -> lv + T.ht <= 1048576 -> J pre W -> pre.length + T.its <= N -> (∀ x ∈ T.told lv, Q x) ->
   CallsIn F n Tryz.prog 132 #[.pointer p, .int .i64 lv, .func (.yield l) #[] #[]] W fun e W' =>
    (e = .returned (.bool true) ∧ J (pre ++ T.told lv) W' ∧ Below n₀ W W') ∨ (e = .returned (.bool false) ∧ ∃ q, q <+: T.told lv ∧ Jx (pre ++ q) W') := by
 induction T with
 | nil =>
  intro n p lv pre W ht h0 h1 hJ _ _;obtain ⟨base, bs, ⟨rfl, rfl⟩, _⟩ := ht;refine callsIn_of_wp Tryz.func132 rfl h6 ?_ hro;simp only [Tryz.ntmps132, List.size_toArray, List.length_cons, List.length_nil, Nat.reduceAdd, Nat.reduceSub, Array.replicate_succ, Array.replicate_zero, List.push_toArray, List.append_toArray, List.nil_append, List.cons_append];have hU : undef = Value.tuple #[] := rfl
  gi_wp2_with fail
  go_ret
  exact .inl ⟨rfl, by simpa [AT.told] using hJ, Below.refl _ _⟩
 | node tl v tr ihl ihr =>
  intro n p lv pre W ht h0 h1 hJ hN hQ
  have hQl : ∀ x ∈ tl.told (lv + 1), Q x := fun x hx => hQ x (by simp [AT.told, hx])
  have hQr : ∀ x ∈ tr.told (lv + 1), Q x := fun x hx => hQ x (by simp [AT.told, hx])
  have hQv : Q ⟨v, lv⟩ := hQ _ (by simp [AT.told])
  clear hQ;obtain ⟨b, pl, pr, rfl, hb, c0, c1, c2, c3, c4, hl, hr⟩ := ht.parts
  have hdd : ∀ k : Nat, (F.depth.isSome = true -> 1 <= k) := fun k h => by rw [hd] at h; cases h
  have hht : ((AT.node tl v tr).ht : Int) = 1 + max (tl.ht : Int) tr.ht := by simp only [AT.ht]; omega
  have hll : (tl.told (lv + 1)).length = tl.its := AT.told_length _ _;rw [hht] at h1;simp only [AT.its] at hN;have hU : undef = Value.tuple #[] := rfl
  have HTD := hide (show (AT.node tl v tr).told lv = tl.told (lv + 1) ++ ⟨v, lv⟩ :: tr.told (lv + 1) from rfl)
  generalize (AT.node tl v tr).told lv = TD at HTD |-
  have hy2 : ∀ W1, J (pre ++ tl.told (lv + 1)) W1 -> Below n₀ W W1 -> YieldAt F (n - 1) Tryz.prog l #[.int .i64 lv, .agg #[.int .i64 v.off, .int .i64 v.len, .int .i64 v.brk]] W1 fun e W2 =>
    (e = .returned (.bool true) ∧ J (pre ++ tl.told (lv + 1) ++ [⟨v, lv⟩]) W2 ∧ Below n₀ W W2 ∧ W2.cell? ⟨b, 4, none⟩ = some (.pointer pr) ∧ IsT n₀ W2 pr tr) ∨ (e = .returned (.bool false) ∧ Jx (pre ++ tl.told (lv + 1) ++ [⟨v, lv⟩]) W2) := fun W1 hJ1 hb1 =>
   YieldAt.mono (hY (n - 1) _ ⟨v, lv⟩ W1 hJ1 (by simp [hll]; omega) hQv) fun e W2 h => h.elim
    (fun ⟨he, hj, hb2⟩ => .inl ⟨he, hj, hb1.trans hb2, ((hb1.trans hb2).cell (p := ⟨b, 4, none⟩) hb).trans c4, hr.below (hb1.trans hb2)⟩) .inr
  have ih1 := (ihl (n - 1) pl (lv + 1) pre W hl (by omega) (by omega) hJ (by omega) hQl).mono (R' := fun e W1 =>
    (e = .returned (.bool true) ∧ W1.cell? ⟨b, 0, none⟩ = some (.int .i64 v.off) ∧ W1.cell? ⟨b, 1, none⟩ = some (.int .i64 v.len) ∧ W1.cell? ⟨b, 2, none⟩ = some (.int .i64 v.brk) ∧ YieldAt F (n - 1) Tryz.prog l #[.int .i64 lv, .agg #[.int .i64 v.off, .int .i64 v.len, .int .i64 v.brk]] W1 fun e W2 =>
     (e = .returned (.bool true) ∧ J (pre ++ tl.told (lv + 1) ++ [⟨v, lv⟩]) W2 ∧ Below n₀ W W2 ∧ W2.cell? ⟨b, 4, none⟩ = some (.pointer pr) ∧ IsT n₀ W2 pr tr) ∨ (e = .returned (.bool false) ∧ Jx (pre ++ tl.told (lv + 1) ++ [⟨v, lv⟩]) W2)) ∨
    (e = .returned (.bool false) ∧ ∃ q, q <+: tl.told (lv + 1) ∧ Jx (pre ++ q) W1))
   (fun e W1 h => h.elim (fun ⟨he, hj, hb1⟩ => .inl ⟨he, (hb1.cell (p := ⟨b, 0, none⟩) hb).trans c0, (hb1.cell (p := ⟨b, 1, none⟩) hb).trans c1, (hb1.cell (p := ⟨b, 2, none⟩) hb).trans c2, hy2 W1 hj hb1⟩) .inr)
  clear hy2 ihl;refine callsIn_of_wp Tryz.func132 rfl h6 ?_ hro;simp only [Tryz.ntmps132, List.size_toArray, List.length_cons, List.length_nil, Nat.reduceAdd, Nat.reduceSub, Array.replicate_succ, Array.replicate_zero, List.push_toArray, List.append_toArray, List.nil_append, List.cons_append]
  gi_wp2_with (first
   | ((try refine ⟨hdd _, ?_⟩); gi_at_call 132; refine ih1.mono ?_; clear ih1; rintro e W1 (⟨rfl, c0', c1', c2', fn, tmps, assign, body, hy, hR⟩ | ⟨rfl, q, hq, hx1⟩))
   | ((try refine ⟨hdd _, ?_⟩); refine hR.mono ?_; clear hR; rintro e W2 (⟨rfl, hJ2, hb2, c4', hr2⟩ | ⟨rfl, hx2⟩))
   | ((try refine ⟨hdd _, ?_⟩); gi_at_call 132; refine (ihr (n - 1) pr (lv + 1) _ _ hr2 (by omega) (by omega) hJ2 (by simp [hll]; omega) hQr).mono ?_; rintro e W3 (⟨rfl, hJ3, hb3⟩ | ⟨rfl, q, hq, hx3⟩)))
  ·go_ret
   exact .inl ⟨rfl, by rw [HTD.out]; simpa [List.append_assoc] using hJ3, hb2.trans hb3⟩
  ·go_ret
   obtain ⟨r, hr'⟩ := hq
   exact .inr ⟨rfl, tl.told (lv + 1) ++ ⟨v, lv⟩ :: q, ⟨r, by rw [HTD.out]; simp [<- hr']⟩, by simpa [List.append_assoc] using hx3⟩
  ·go_ret
   exact .inr ⟨rfl, tl.told (lv + 1) ++ [⟨v, lv⟩], ⟨tr.told (lv + 1), by rw [HTD.out]; simp⟩, by simpa [List.append_assoc] using hx2⟩
  ·go_ret
   exact .inr ⟨rfl, q, hq.trans (by rw [HTD.out]; simp), hx1⟩
theorem all1_inQ (Q : It -> Prop) (F : Fence) (hd : F.depth = none) (n : Nat) (h5 : F.fn 131) (h6 : F.fn 132) (hro : F.round = none) (l Bt Bl n₀ : Nat) (p0 : Option Addr) (T : AT) (hht : (T.ht : Int) <= 1048576) (hQ : ∀ x ∈ T.told 0, Q x) (J Jx : List {x : It // Q x} -> World -> Prop)
  (hY : ∀ pre (x : {x : It // Q x}) W, J pre W -> pre.length < T.its -> YieldAt F (n - 1) Tryz.prog l #[.int .i64 x.1.lv, .agg #[.int .i64 x.1.pc.off, .int .i64 x.1.pc.len, .int .i64 x.1.pc.brk]] W fun e W' =>
   (e = .returned (.bool true) ∧ J (pre ++ [x]) W' ∧ Below n₀ W W') ∨ (e = .returned (.bool false) ∧ Jx (pre ++ [x]) W'))
  (W : World) (hBt : W.cell? ⟨Bt, 0, none⟩ = some (.pointer p0)) (hBl : W.cell? ⟨Bl, 0, none⟩ = some (.int .i64 0)) (hT : IsT n₀ W p0 T) (h0 : J [] W) :
  CallsIn F n Tryz.prog 131 #[.func (.yield l) #[] #[], .pointer (some ⟨Bt, 0, none⟩), .pointer (some ⟨Bl, 0, none⟩)] W fun e W' => (∃ v, e = .returned v) ∧
   ((∃ ys : List {x : It // Q x}, ys.map (·.1) = T.told 0 ∧ J ys W') ∨ (∃ pre : List {x : It // Q x}, pre.map (·.1) <+: T.told 0 ∧ Jx pre W')) := by
 have hdd : ∀ k : Nat, (F.depth.isSome = true -> 1 <= k) := fun k h => by rw [hd] at h; cases h
 have hp := walk_inQ Q F hd h6 hro l n₀ T.its (fun pre W => ∃ p : List {x : It // Q x}, p.map (·.1) = pre ∧ J p W) (fun pre W => ∃ p : List {x : It // Q x}, p.map (·.1) = pre ∧ Jx p W) (fun m pre x W hj hl hq => by
   obtain ⟨p, hp, hj⟩ := hj;subst hp
   refine ZN hd m (YieldAt.mono (hY p ⟨x, hq⟩ W hj (by simpa using hl)) fun e W' h => h.elim (fun ⟨he, h1, h2⟩ => .inl ⟨he, ⟨_, by simp, h1⟩, h2⟩) (fun ⟨he, h1⟩ => .inr ⟨he, ⟨_, by simp, h1⟩⟩))) T (n - 1) p0 0 [] W hT (by omega) (by omega) ⟨[], rfl, h0⟩ (by simp) hQ
 refine callsIn_of_wp Tryz.func131 rfl h5 ?_ hro;simp only [Tryz.ntmps131, List.size_toArray, List.length_cons, List.length_nil, Nat.reduceAdd, Nat.reduceSub, Array.replicate_succ, Array.replicate_zero, List.push_toArray, List.append_toArray, List.nil_append, List.cons_append]
 gi_wp2_with ((try refine ⟨hdd _, ?_⟩); gi_at_call 132; refine hp.mono ?_; clear hp; rintro e W1 (⟨rfl, ⟨ys, hys, hJ1⟩, _⟩ | ⟨rfl, q, hq, ys, hys, hx⟩))
 ·go_end0
  exact ⟨⟨_, rfl⟩, .inl ⟨ys, by simpa using hys, hJ1⟩⟩
 ·go_end0
  exact ⟨⟨_, rfl⟩, .inr ⟨ys, by rw [hys]; simpa using hq, hx⟩⟩
theorem zA8 (Q : It -> Prop) (F : Fence) (hd : F.depth = none) (n : Nat) (h5 : F.fn 131) (h6 : F.fn 132) (hro : F.round = none) (Bt Bl n₀ : Nat) (p0 : Option Addr) (T : AT) (hht : (T.ht : Int) <= 1048576) (hQ : ∀ x ∈ T.told 0, Q x) (w : World) (hBt : Bt < w.heap.size) (hBl : Bl < w.heap.size) (hn₀ : n₀ <= w.heap.size)
  (hc : w.cell? ⟨Bt, 0, none⟩ = some (.pointer p0)) (hc2 : w.cell? ⟨Bl, 0, none⟩ = some (.int .i64 0)) (hT : IsT n₀ w p0 T) :
  SeqStopsK F n Tryz.prog 131 #[.pointer (some ⟨Bt, 0, none⟩), .pointer (some ⟨Bl, 0, none⟩)] (fun x : {x : It // Q x} => #[Value.int .i64 x.1.lv, .agg #[.int .i64 x.1.pc.off, .int .i64 x.1.pc.len, .int .i64 x.1.pc.brk]]) (Below n₀) (fun ys => ys.map (·.1) = T.told 0) (fun pre => pre.map (·.1) <+: T.told 0) T.its w := fun l J Jx W hW _ _ hY h0 =>
 all1_inQ Q F hd n h5 h6 hro l Bt Bl n₀ p0 T hht hQ J Jx hY W ((hW.cell (p := ⟨Bt, 0, none⟩) hBt).trans hc) ((hW.cell (p := ⟨Bl, 0, none⟩) hBl).trans hc2) (hT.below (hW.mono hn₀)) h0
end Go.Proofs.YtbgngikejgihgafGreatDoor
