import Derived.Test.YtbgngikejgihgafGreatDoorMq40
import Derived.Test.YtbgngikejgihgafGreatDoorMq37
namespace Go.Proofs.YtbgngikejgihgafGreatDoor
open Go Go.RowKit
set_option linter.unusedVariables false
set_option maxRecDepth 100000
set_option maxHeartbeats 8000000
theorem makeR_C (B o g cap n0 : Nat) (cs : Array Value) (t : TypeId) (zs : List T3v) (lo hi n c0 L M R NH : Nat) (w : World) (h : GB w B o cs t (.slice (some ⟨g, 0, none⟩) n0 cap) lo hi) (hz : Cl3 w g zs) (hg : g < w.heap.size) (hcap : n0 <= cap) (hN : zs.length = n0) (hO : One3 zs)
  (h1 : lo <= hi) (h2 : hi <= n0) (h3 : n0 <= 65536) (hno : hi - lo < n) (eL : (n0 : Int) - ((hi : Int) - (lo : Int)) = L) (hM : M = L + n) (hMb : M <= 16384) (mx : max (n0 : Int) 16 = c0) (hD : Dbl M c0 R) (hNH : (R : Int) - ((n0 - hi : Nat) : Int) = NH) (hB : hi = n0) (hB2 : ¬ cap = n0) (hgB : g ≠ B) :
  Calls Tryz.prog 203 #[.pointer (some ⟨B, o, none⟩), .int .i64 n] w fun x w' => x = .returned (.tuple #[]) ∧ ∃ g', je w w' B o cs t lo NH R (splice (splice (List.replicate R z3) 0 (zs.take lo)) NH (zs.drop hi)) g' := by
 obtain rfl : n0 = hi := by omega
 obtain rfl : R = NH := by omega
 obtain ⟨i0, hi', hz0, hz1, hz2⟩ := info_parts Tryz.infoGB
 have HK := hide (gapRN B o (.slice (some ⟨g, 0, none⟩) n0 cap) lo n0 w h.rc (by omega) (by omega) (by omega))
 have HLN := hide (fun w h => Z0 B o (some ⟨g, 0, none⟩) n0 cap lo n0 w h (by omega) (by omega) (by omega) (by omega))
 have H := hide h;have HC := hide h.rc;have HN := hide hN;have HD := hide hD;have bR := jA hD
 have hlt : ((n0 : Int) - (lo : Int)) < (n : Int) := by omega
 have hR0 : n0 <= R := by omega
 have hRb : R <= 65536 := by omega
 have L1 := hide (show (zs.take lo).length = lo by rw [List.length_take]; omega)
 have L2 := hide (show (zs.drop n0).length = n0 - n0 by rw [List.length_drop, hN])
 obtain ⟨d0, d1, d2⟩ := h.rc;obtain ⟨f0, f1, f2⟩ := h.gf;have HZ := hide hz;have HO1 := hide (hO.take lo);have HO2 := hide (hO.drop n0)
 have i1 : lo <= cap := by omega
 have hNH0 := hNH;clear hz;clear hN hD h hNH0;go_enter Tryz.func203, Tryz.ntmps203;go_wp2_with fail;refine HK.out.mono ?_;rintro x w0 ⟨rfl, mm0, rfl⟩;go_wp2_with fail
 go_loopw [4] (fun s4 wr => ∃ c k : Nat, s4 = .int .i64 c ∧ Dbl M c R ∧ 16 <= c ∧ c <= 65536 ∧ wr = w.drewN k) (fun s4 _ => M - (intOf s4).toNat)
 case atStart => exact ⟨c0, mm0, rfl, HD.out, by omega, by omega, rfl⟩
 case round =>
  obtain ⟨c, k, rfl, hDc, hc16, hcb, rfl⟩ := hrel;have HDc := hide hDc;clear hDc;go_wp2_with fail;refine (HLN.out (w.drewN k) (HC.out.same rfl)).mono ?_;rintro x w1 ⟨rfl, m1, rfl⟩
  by_cases hcm : c < M
  ·have hlt2 : (c : Int) - (L : Int) < (n : Int) := by omega
   have HDn := hide (show Dbl M (c * 2) R from by
    cases HDc.out with
    | stop _ h => omega
    | more _ _ h k => exact k)
   have hc2 : c * 2 <= 65536 := by omega
   go_wp2;go_roundw
   case rel => exact ⟨c * 2, k + m1, by go_num, HDn.out, by omega, by omega, rfl⟩
   case measure => simp [intOf]; omega
  ·have hnl : ¬ (c : Int) - (L : Int) < (n : Int) := by omega
   obtain rfl : c = R := by
    cases HDc.out with
    | stop _ h => rfl
    | more _ _ h k => omega
   have HB1 := hide (show ChgP w ((w.drewN k).drewN m1) (fun _ => False) from ⟨rfl, rfl, rfl, lR, fun _ _ _ => rfl⟩)
   have H1 := hide (H.out.block (w' := (w.drewN k).drewN m1) rfl);have es1 : w.heap.size <= ((w.drewN k).drewN m1).heap.size := lR
   have HZ1 := hide (show Cl3 ((w.drewN k).drewN m1) g zs from HZ.out)
   clear d0 d1 d2 f0 f1 f2 HK HLN HD HDc;obtain ⟨d0, d1, d2⟩ := H1.out.rc;obtain ⟨f0, f1, f2⟩ := H1.out.gf;generalize (w.drewN k).drewN m1 = w1 at *
   go_upto_region 5 with (at_make; refine wpList_make_full _ rfl _ _ 131 rfl w1.heap.size 136 i0 (.agg #[.slice none 0 0, .int .i64 0, .int .i64 0]) 3 Tryz.underlying131 hi' hz0 hz1 .i64 .i64 _ _ c rfl rfl (by omega) (by omega) (by rw [hz2]; omega) (by unfold maxLen; omega) lR ?_; intro w2 hown hgrow)
   rw [Je] at hown;have R2 := hide (Jf hown)
   have C2 := hide (show ChgP w w2 (fun _ => False) from HB1.out.trans (show ChgP w1 w2 (fun _ => False) from ⟨hgrow.os, hgrow.tape, hgrow.output, hgrow.size, fun i hq _ => hgrow.block i hq (by simp)⟩) (fun _ _ s => s) (fun _ _ s => s))
   have es2 : w1.heap.size < w2.heap.size := (hown.lt _ rfl).2;have hBl := H1.out.lt
   have H2 := hide (H1.out.block (w' := w2) (hgrow.block B hBl (by simp)))
   have HZ2 := hide (show Cl3 w2 g zs from fun i u hu => (World.cell?_of_block (a := ⟨g, i, none⟩) (hgrow.block g (by omega) (by simp))).trans (HZ1.out i u hu))
   have hBg : B ≠ w1.heap.size := by omega
   clear hown hgrow d0 d1 d2 f0 f1 f2 H1 HB1;obtain ⟨d0, d1, d2⟩ := H2.out.rc;obtain ⟨f0, f1, f2⟩ := H2.out.gf;go_still_tail 10, mixed
   refine zQ rfl (.tmp 27) (.tmp 36) 131 131 rfl 136 Tryz.underlying131 zb (some ⟨w1.heap.size, 0, none⟩) (some ⟨g, 0, none⟩) c c lo cap rfl rfl w1.heap.size 0 (fl3 (List.replicate c z3) ++ []) 136 (by exact R2.out) lo (by show lo = min _ _; omega) (fl3 (zs.take lo)) (by rw [zF, L1.out]) (fun _ => ⟨rfl, _, rfl, by have := HZ2.out.app' 0 lo (by rw [HN.out]; omega); rw [List.drop_zero] at this; exact this⟩) (by rw [zF, L1.out, List.length_append, zF, List.length_replicate]; omega) (One3.fl (HO1.out)) ?_
   intro w3 rr3
   have R3 := hide (Row1.to (Row1.of_drew rr3.out) (zS (off := 0) (sp := []) (by rw [L1.out, List.length_replicate]; omega)))
   have H3 := hide (H2.out.block (w' := w3) (rr3.out.block B hBg))
   have C3 := hide (show ChgP w w3 (fun _ => False) from C2.out.trans (show ChgP w2 w3 (fun k => k = w1.heap.size) from ⟨rr3.out.os, rr3.out.tape, rr3.out.output, Nat.le_of_eq rr3.out.size.symm, fun k hk hn => rr3.out.block k hn⟩) (fun _ _ s => s) (fun i hq s => by omega))
   have es3 : w1.heap.size < w3.heap.size := by rw [rr3.out.size]; exact es2
   have HZ3 := hide (show Cl3 w3 g zs from fun i u hu => (World.cell?_of_block (a := ⟨g, i, none⟩) (rr3.out.block g (by omega))).trans (HZ2.out i u hu))
   clear rr3 d0 d1 d2 f0 f1 f2 H2 C2 R2;obtain ⟨d0, d1, d2⟩ := H3.out.rc;obtain ⟨f0, f1, f2⟩ := H3.out.gf;go_wp2_with fail;go_quiet (fail)
   have R4 := hide (show RwR (w3.drewN nq) w1.heap.size (splice (List.replicate c z3) 0 (zs.take lo)) [] from R3.out.row)
   have H4 := hide (H3.out.block (w' := w3.drewN nq) rfl)
   have C4 := hide (show ChgP w (w3.drewN nq) (fun _ => False) from C3.out.trans (show ChgP w3 (w3.drewN nq) (fun _ => False) from ⟨rfl, rfl, rfl, lR, fun _ _ _ => rfl⟩) (fun _ _ s => s) (fun _ _ s => s))
   have HZ4 := hide (show Cl3 (w3.drewN nq) g zs from HZ3.out)
   clear d0 d1 d2 f0 f1 f2 H3 C3 R3;obtain ⟨d0, d1, d2⟩ := H4.out.rc;obtain ⟨f0, f1, f2⟩ := H4.out.gf;generalize w3.drewN nq = w4 at *
   have HZ5 := hide (show Cl3 (w4.setCell ⟨B, o + 2, none⟩ (.int .i64 c)) g zs from fun i u hu => (World.cell?_of_block (a := ⟨g, i, none⟩) (zB (by show g ≠ B; exact hgB))).trans (HZ4.out i u hu))
   have R5a := hide (show RwR (w4.setCell ⟨B, o + 2, none⟩ (.int .i64 c)) w1.heap.size (splice (List.replicate c z3) 0 (zs.take lo)) [] from (zB (by show w1.heap.size ≠ B; exact hBg.symm)).trans R4.out)
   go_upto_region 8 with fail
   go_upto_region 9 with (refine zQ rfl (.tmp 59) (.tmp 60) 131 131 rfl 136 Tryz.underlying131 zb (some ⟨w1.heap.size, 0, none⟩) (some ⟨g, n0 * 3, none⟩) 0 0 0 (cap - n0) rfl rfl w1.heap.size (c * 3) (fl3 (splice (List.replicate c z3) 0 (zs.take lo)) ++ []) 136 (by exact R5a.out) 0 (by show 0 = min _ _; omega) (fl3 (zs.drop n0)) (by rw [zF, L2.out, Nat.sub_self]) (fun hpos => absurd hpos (by omega)) (by rw [zF, L2.out, List.length_append, zF, length_splice _ _ _ (by rw [L1.out, List.length_replicate]; omega), List.length_replicate]; omega) (One3.fl (HO2.out)) ?_; intro w5 rr5)
   have R5 := hide (Row1.to rr5.out (zS (sp := []) (by rw [L2.out, length_splice _ _ _ (by rw [L1.out, List.length_replicate]; omega), List.length_replicate]; omega)))
   have y0 : w5.cell? ⟨B, o, none⟩ = some (.slice (some ⟨g, 0, none⟩) n0 cap) := (World.cell?_of_block (a := ⟨B, o, none⟩) (rr5.out.block B hBg)).trans ((World.cell?_setCell_other w4 ⟨B, o + 2, none⟩ ⟨B, o, none⟩ (.int .i64 c) (by simp)).trans d0)
   have y1 : w5.frozen? ⟨B, o, none⟩ = false := (zK (p := ⟨B, o, none⟩) (rr5.out.block B hBg)).trans (by simpa using f0)
   clear rr5 d0 d1 d2 f0 f1 f2;go_wp2;go_end0;exact ⟨rfl, w1.heap.size, Yj H.out C4.out es1 R4.out R5.out lo c rfl rfl⟩
theorem One3.rep (n : Nat) : One3 (List.replicate n z3) := fun x hx => by rw [List.eq_of_mem_replicate hx]; exact ⟨rfl, rfl, rfl⟩
theorem One3.txt {zs : List T3v} (h : One3 zs) (lo hi : Nat) : One3 (zP zs lo hi) := (h.take lo).app (h.drop hi)
theorem One3.lay {xs : List T3v} (h : One3 xs) (p n : Nat) : One3 (glayA z3 xs p n) := (h.take p).app ((One3.rep _).app (h.drop p))
structure Yk (w w1 : World) (B o : Nat) (cs : Array Value) (t : TypeId) (tx : List T3v) (n N : Nat) (S : Nat -> Prop) (g2 cap2 : Nat) (zs2 : List T3v) (sp2 : List Value) (lo2 hi2 : Nat) : Prop where
 gb : GB w1 B o (set3 cs o (.slice (some ⟨g2, 0, none⟩) N cap2) (.int .i64 lo2) (.int .i64 hi2)) t (.slice (some ⟨g2, 0, none⟩) N cap2) lo2 hi2
 rw : RwR w1 g2 zs2 sp2
 len : zs2.length = N
 gv : GVA z3 zs2 lo2 hi2
 tx : zP zs2 lo2 hi2 = tx
 room : n <= hi2 - lo2
 cap : N <= cap2 ∧ cap2 <= maxLen ∧ sp2.length = cap2 * 3 - N * 3
 low : g2 < w.heap.size -> S g2
 ne : B ≠ g2
 chg : ChgP w w1 S
 one : One3 zs2
structure Jg (w w1 : World) (B o : Nat) (cs : Array Value) (t : TypeId) (zs : List T3v) (N : Nat) (S : Nat -> Prop) (lo hi : Nat) (g2 cap2 : Nat) (sp2 : List Value) : Prop where
 gb : GB w1 B o (set3 cs o (.slice (some ⟨g2, 0, none⟩) N cap2) (.int .i64 lo) (.int .i64 hi)) t (.slice (some ⟨g2, 0, none⟩) N cap2) lo hi
 rw : RwR w1 g2 zs sp2
 cap : N <= cap2 ∧ cap2 <= maxLen ∧ sp2.length = cap2 * 3 - N * 3
 low : g2 < w.heap.size -> S g2
 ne : B ≠ g2
 chg : ChgP w w1 S
 one : One3 zs
theorem zDl (B o g cap : Nat) (cs : Array Value) (t : TypeId) (zs : List T3v) (sp : List Value) (lo hi n N : Nat) (S : Nat -> Prop) (w : World) (h : GB w B o cs t (.slice (some ⟨g, 0, none⟩) zs.length cap) lo hi) (hr : RwR w g zs sp) (hO : One3 zs) (hBg : B ≠ g) (hg : g < w.heap.size)
  (hc : zs.length <= cap) (hcm : cap <= maxLen) (hsp : sp.length = cap * 3 - zs.length * 3) (hv : GVA z3 zs lo hi) (hb : (zP zs lo hi).length + n <= 16384) (hD : S g) (hDB : S B)
  (hN : (n <= hi - lo ∧ N = zs.length) ∨ (hi - lo < n ∧ Dbl ((zP zs lo hi).length + n) (max zs.length 16) N)) :
  Calls Tryz.prog 203 #[.pointer (some ⟨B, o, none⟩), .int .i64 n] w fun x w1 => x = .returned (.tuple #[]) ∧ ∃ g2 cap2 zs2 sp2 lo2 hi2, Yk w w1 B o cs t (zP zs lo hi) n N S g2 cap2 zs2 sp2 lo2 hi2 := by
 have h1 := hv.a;have h2 := hv.b;have h3 := hv.c;have hL : (zP zs lo hi).length = zs.length - (hi - lo) := yB h1 h2;have hBl := h.lt
 rcases hN with ⟨hno, rfl⟩ | ⟨hno, hd⟩
 ·refine (makeR_no B o _ zs.length cap lo hi n w h.rc h1 h2 (by omega) hno).mono fun x w1 ⟨hx, m, hw⟩ => ⟨hx, g, cap, zs, sp, lo, hi, ?_⟩
  subst hw
  exact ⟨by rw [h.self]; exact h.block rfl, hr, rfl, hv, rfl, hno, ⟨hc, hcm, hsp⟩, fun _ => hD, hBg, ⟨rfl, rfl, rfl, lR, fun _ _ _ => rfl⟩, hO⟩
 ·have bd := jA hd
  have hcl := zB9 hr
  have hR0 : zs.length <= N := by omega
  have fin : ∀ x w1, (x = Ending.returned (.tuple #[]) ∧ ∃ g', je w w1 B o cs t lo (N - (zs.length - hi)) N (splice (splice (List.replicate N z3) 0 (zs.take lo)) (N - (zs.length - hi)) (zs.drop hi)) g') -> (x = Ending.returned (.tuple #[]) ∧ ∃ g2 cap2 zs2 sp2 lo2 hi2, Yk w w1 B o cs t (zP zs lo hi) n N S g2 cap2 zs2 sp2 lo2 hi2) := by
   rintro x w1 ⟨hx, g', hp⟩;rw [ggrowA (z := z3) h1 h2 hR0] at hp
   have eh : N - (zs.length - hi) = lo + (N - (zP zs lo hi).length) := by omega
   rw [eh] at hp
   refine ⟨hx, g', N, glayA z3 (zP zs lo hi) lo N, [], lo, lo + (N - (zP zs lo hi).length), hp.gb, hp.rw, zI (z := z3) (by omega) (by omega), Kk (z := z3) (by omega) (by omega) (by omega) (by omega), zAo (z := z3) (by omega) (by omega), by omega, ⟨lR, by unfold maxLen; omega, by simp⟩, fun h => absurd h (by have := hp.ge; omega), by have := hp.ge; omega, ?_, One3.lay (One3.txt hO _ _) _ _⟩
   exact ⟨hp.chg.os, hp.chg.tape, hp.chg.output, hp.chg.size, fun k hk hn => hp.chg.block k hk (fun e => hn (e ▸ hDB))⟩
  by_cases hA : hi < zs.length
  ·exact (makeR_A B o g cap zs.length cs t zs lo hi n (max zs.length 16) (zP zs lo hi).length ((zP zs lo hi).length + n) N (N - (zs.length - hi)) w h hcl hg hc rfl hO h1 h2 h3 hno (by omega) rfl hb (by omega) hd (by omega) hA hBg.symm).mono fin
  ·by_cases hB2 : cap = zs.length
   ·exact (makeR_B B o g cap zs.length cs t zs lo hi n (max zs.length 16) (zP zs lo hi).length ((zP zs lo hi).length + n) N (N - (zs.length - hi)) w h hcl hg hc rfl hO h1 h2 h3 hno (by omega) rfl hb (by omega) hd (by omega) (by omega) hB2 hBg.symm).mono fin
   ·exact (makeR_C B o g cap zs.length cs t zs lo hi n (max zs.length 16) (zP zs lo hi).length ((zP zs lo hi).length + n) N (N - (zs.length - hi)) w h hcl hg hc rfl hO h1 h2 h3 hno (by omega) rfl hb (by omega) hd (by omega) (by omega) hB2 hBg.symm).mono fin
theorem insT_set {w w1 : World} {B o g : Nat} {cs : Array Value} {t : TypeId} {v : Value} {lo hi : Int} {zs : List T3v} {sp : List Value} (h : GB w B o cs t v lo hi) (hBg : B ≠ g) (hr : Row1 w w1 g (fl3 zs ++ sp) 136) (a : Int) :
  GPostR w (w1.setCell ⟨B, o + 1, none⟩ (.int .i64 a)) B o g cs t v a hi zs sp := by
 have h0 : w1.heap[B]? = some (.cells cs t (0, 0)) := (hr.block B hBg).trans h.blk;have h2 := heap_setCell_same w1 B (o + 1) _ _ (.int .i64 a) h0;have hs := h.sz;refine ⟨GB.of_set3 ?_ h.sz, ?_, ?_⟩
 ·rw [h2]
  congr 2
  apply zy (by simp) h.sz
  ·rw [Array.getElem?_setIfInBounds, if_neg (by omega)]; exact h.c0
  ·rw [Array.getElem?_setIfInBounds, if_pos rfl, if_pos (by omega)]
  ·rw [Array.getElem?_setIfInBounds, if_neg (by omega)]; exact h.c2
  ·intro j e0 e1 e2
   rw [Array.getElem?_setIfInBounds, if_neg (by omega)]
 ·show _ = _
  rw [zB (by show g ≠ B; exact hBg.symm)]
  exact hr.row
 ·refine ⟨hr.os, hr.tape, hr.output, by simp [hr.size], fun k hk hn => ?_⟩
  rw [zB (by show k ≠ B; exact fun e => hn (.inl e))]
  exact hr.block k (fun e => hn (.inr e))
theorem Kz (B o : Nat) (cs : Array Value) (t : TypeId) (tx ts : List T3v) (ap : Option Addr) (n cp : Nat) (N p : Nat) (S : Nat -> Prop) (w : World) (hs : o + 3 <= cs.size) (hn : n = ts.length) (hp : p <= tx.length) (hOX : One3 tx) (hroom : tx.length + n <= N) (hDB : S B)
  (hT : ∀ w', ChgP w w' S -> 0 < n -> ∃ ad, ap = some ad ∧ ∀ j u, (fl3 ts)[j]? = some u -> w'.cell? (ad.add j) = some u) (hOT : One3 ts)
  (HR : Hid (Calls Tryz.prog 203 #[.pointer (some ⟨B, o, none⟩), .int .i64 n] w fun x w1 => x = .returned (.tuple #[]) ∧ ∃ g2 cap2 zs2 sp2 lo2 hi2, Yk w w1 B o cs t tx n N S g2 cap2 zs2 sp2 lo2 hi2)) :
  Calls Tryz.prog 197 #[.pointer (some ⟨B, o, none⟩), .int .i64 p, .slice ap n cp] w fun x w' => x = .returned (.tuple #[]) ∧ ∃ g2 cap2 sp2, Jg w w' B o cs t (glayA z3 (tx.take p ++ (ts ++ tx.drop p)) (p + n) N) N S (p + n) (p + (N - tx.length)) g2 cap2 sp2 := by
 have HT := hide hT;have HOT := hide hOT;have HNN := hide hn
 have gl : (glayA z3 tx p N).length = N := zI (z := z3) hp (by omega)
 have HPT := hide (zCz (z := z3) (xs := tx) (ts := ts) (p := p) (n := N) hp (by omega))
 rw [<- hn] at HPT;have GLL := hide gl
 have MVT := hide (fun g2 cap2 cs' zs2 sp2 lo2 hi2 w1 h hr hO hBg hc hv hp' => moveRG B o g2 cap2 cs' t zs2 sp2 lo2 hi2 p w1 h hr hO hBg hc hv hp')
 obtain ⟨gz, hgz⟩ : ∃ gz, gz = glayA z3 tx p N := ⟨_, rfl⟩;have HGZ := hide hgz;rw [<- hgz] at HPT GLL;clear hgz gl;have HRO := hide (One3.lay ((hOX.take p).app (hOT.app (hOX.drop p))) (p + n) N);generalize glayA z3 (tx.take p ++ (ts ++ tx.drop p)) (p + n) N = res at *;obtain ⟨E, hE⟩ : ∃ E, E = p + (N - tx.length) := ⟨_, rfl⟩;rw [<- hE];have HEE := hide hE;clear hT hn hE;go_enter Tryz.func197, Tryz.ntmps197;go_wp2_with fail;refine HR.out.mono ?_;rintro x w1 ⟨rfl, g2, cap2, zs2, sp2, lo2, hi2, hp1⟩;have hc1 := hp1.cap;have hg1 := hp1.gv
 have hL : tx.length = N - (hi2 - lo2) := by rw [<- hp1.tx, yB hg1.a hg1.b, hp1.len]
 have b1 := hg1.a;have b2 := hg1.b;have b3 := hg1.c;rw [hp1.len] at b2 b3;have rm := hp1.room
 have MV := hide (MVT.out g2 cap2 _ zs2 sp2 lo2 hi2 w1 (by rw [hp1.len]; exact hp1.gb) hp1.rw hp1.one hp1.ne (by rw [hp1.len]; exact hc1.1) hg1 (by rw [hp1.len]; omega))
 rw [hp1.tx, hp1.len, <- HGZ.out] at MV
 have ehi : p + (hi2 - lo2) = E := by rw [HEE.out]; omega
 rw [ehi] at MV;have P1 := hide hp1;have hne := hp1.ne;have hlow := hp1.low
 have e1 : p + n <= E := by omega
 have e2 : E <= N := by omega
 have e3 : N <= 65536 := by omega
 have e4 : N <= cap2 := hc1.1;have HC1 := hide hc1;clear hp1 ehi hL b1 b2 b3 rm hg1 HR hc1 MVT;go_wp2_with fail;refine MV.out.mono ?_;rintro x w2 ⟨rfl, hp2⟩;have P2 := hide hp2
 have C2 := hide (P1.out.chg.trans hp2.chg (U := S) (fun _ _ s => s) (fun i hi s => by rcases s with rfl | rfl; exact hDB; exact hlow hi))
 have TS := hide (HT.out w2 C2.out);obtain ⟨d0, d1, d2⟩ := hp2.gb.rc;obtain ⟨f0, f1, f2⟩ := hp2.gb.gf;clear hp2 MV HT
 have hnE : (fl3 ts).length = n * 3 := by rw [zF, <- HNN.out]
 have HNE := hide hnE;clear hnE
 have i1 : p <= E := by omega
 have i2 : E <= cap2 := by omega
 have addn : (p : Int) + (n : Int) = ((p + n : Nat) : Int) := by omega
 have fin : ∀ w3, Row1 w2 w3 g2 (splice (fl3 gz ++ sp2) (p * 3) (fl3 ts)) 136 -> ∃ g2' cap2' sp2', Jg w (w3.setCell ⟨B, o + 1, none⟩ (.int .i64 ((p + n : Nat) : Int))) B o cs t res N S (p + n) E g2' cap2' sp2' := by
  intro w3 hr3
  have hr3' := Row1.to hr3 (zS (by rw [GLL.out, <- HNN.out]; omega))
  rw [HPT.out] at hr3'
  have q := P2.out.trans (by rw [zZ]; exact hs) (insT_set P2.out.gb hne hr3' ((p + n : Nat) : Int))
  have e := Zf cs o (.slice (some ⟨g2, 0, none⟩) N cap2) (.int .i64 lo2) (.int .i64 hi2) (.slice (some ⟨g2, 0, none⟩) N cap2) (.int .i64 ((p + n : Nat) : Int)) (.int .i64 E) hs;have qg := q.gb;rw [e] at qg
  exact ⟨g2, cap2, sp2, qg, q.rw, HC1.out, hlow, hne, P1.out.chg.trans q.chg (fun _ _ s => s) (fun i hi s => by rcases s with rfl | rfl; exact hDB; exact hlow hi), HRO.out⟩
 have FIN := hide fin
 have wr : IntKind.i64.wrap ((p : Int) + (n : Int)) = ((p + n : Nat) : Int) := by rw [i64wS _ (by omega) (by omega)]; omega
 clear fin addn
 by_cases hco : cap2 = p
 ·have en : n = 0 := by omega
  subst en
  obtain rfl : cap2 = N := by omega
  obtain rfl : cap2 = E := by omega
  subst hco
  have wr0 : IntKind.i64.wrap (cap2 : Int) = (cap2 : Int) := i64wS _ (by omega) (by omega)
  have FIN0 := hide (show ∀ w3, Row1 w2 w3 g2 (splice (fl3 gz ++ sp2) (cap2 * 3) (fl3 ts)) 136 -> ∃ g2' cap2' sp2', Jg w (w3.setCell ⟨B, o + 1, none⟩ (.int .i64 (cap2 : Int))) B o cs t res cap2 S (cap2 + 0) cap2 g2' cap2' sp2' from fun w3 h3 => by simpa using FIN.out w3 h3)
  clear FIN
  go_upto_region 2 with fail
  go_region_law (refine ZY rfl (.tmp 29) (.tmp 30) 131 131 rfl 136 Tryz.underlying131 zb (some ⟨g2, 0, none⟩) ap 0 0 0 cp rfl rfl g2 (cap2 * 3) (fl3 gz ++ sp2) 136 (by exact P2.out.rw) 0 (by show 0 = min _ _; omega) (fl3 ts) (by rw [HNE.out]) (fun hpos => absurd hpos (by omega)) (by rw [HNE.out, List.length_append, zF, GLL.out]; omega) (One3.fl HOT.out) ?_; intro w3 hr3; have R3 := hide (Row1.of_drew hr3.out); have k1 := (World.cell?_of_block (w := w2) (a := ⟨B, o + 1, none⟩) (R3.out.block B hne)).trans d1; have z1 := (zK (w := w2) (p := ⟨B, o + 1, none⟩) (R3.out.block B hne)).trans f1; have k0 := (World.cell?_of_block (w := w2) (a := ⟨B, o, none⟩) (R3.out.block B hne)).trans d0; have k2 := (World.cell?_of_block (w := w2) (a := ⟨B, o + 2, none⟩) (R3.out.block B hne)).trans d2; clear hr3)
  all_goals (
   go_wp2;go_end0
   exact ⟨rfl, FIN0.out _ R3.out⟩)
 ·go_upto_region 2 with fail
  go_region_law (refine ZY rfl (.tmp 29) (.tmp 30) 131 131 rfl 136 Tryz.underlying131 zb (some ⟨g2, p * 3, none⟩) ap (E - p) (cap2 - p) n cp rfl rfl g2 (p * 3) (fl3 gz ++ sp2) 136 (by exact P2.out.rw) n (by show n = min _ _; omega) (fl3 ts) (by rw [HNE.out]) (fun hpos => ⟨rfl, TS.out hpos⟩) (by rw [HNE.out, List.length_append, zF, GLL.out]; omega) (One3.fl HOT.out) ?_; intro w3 hr3; have R3 := hide (Row1.of_drew hr3.out); have k1 := (World.cell?_of_block (w := w2) (a := ⟨B, o + 1, none⟩) (R3.out.block B hne)).trans d1; have z1 := (zK (w := w2) (p := ⟨B, o + 1, none⟩) (R3.out.block B hne)).trans f1; have k0 := (World.cell?_of_block (w := w2) (a := ⟨B, o, none⟩) (R3.out.block B hne)).trans d0; have k2 := (World.cell?_of_block (w := w2) (a := ⟨B, o + 2, none⟩) (R3.out.block B hne)).trans d2; clear hr3)
  all_goals (
   go_wp2;go_end0
   exact ⟨rfl, FIN.out _ R3.out⟩)
theorem Nest.keep {w w1 : World} {lo hi : Nat} {A : List Value} {la : List (List Int)} {S : Nat -> Prop} (h : Nest w lo hi A la) (hc : ChgP w w1 S) (hS : ∀ (i : Nat) v l q, A[i]? = some v -> la[i]? = some l -> o32 w lo v l -> v.ownBlock = some q -> ¬ S q) : Nest w1 lo hi A la :=
 ⟨h.len, fun i v l hv hl => zC (h.own i v l hv hl) (fun q hq => hc.block q ((h.own i v l hv hl).lt q hq).2 (hS i v l q hv hl (h.own i v l hv hl) hq)), h.bl, h.ne⟩
theorem LCr.gb {w : World} {lo hi c : Nat} {rv sv : Value} {vs : List Value} {gs : List Gr} {a b : Nat} {rn : Int} {st : List Int} (h : LCr w lo hi c rv sv vs gs a b rn st) : GB w c 0 #[rv, .int .i64 a, .int .i64 b, .int .i64 rn, sv] 141 rv a b :=
 ⟨h.blk, by simp, rfl, rfl, rfl⟩
def Sc (c g : Nat) : Nat -> Prop := fun k => k = c ∨ k = g
theorem LCr.other {w w1 : World} {lo hi c g cap n : Nat} {sv : Value} {vs vs' : List Value} {gs G : List Gr} {a b a' b' : Nat} {rn : Int} {st : List Int} {v' : Value} (h : LCr w lo hi c (.slice (some ⟨g, 0, none⟩) n cap) sv vs gs a b rn st) (hh : hi <= w.heap.size)
  (hb : w1.heap[c]? = some (.cells #[v', .int .i64 a', .int .i64 b', .int .i64 rn, sv] 141 (0, 0))) (hc : ChgP w w1 (Sc c g)) (hr : OwG 136 w1 lo w1.heap.size v' vs' G) : LCr w1 lo w1.heap.size c v' sv vs' G a' b' rn st := by
 refine ⟨hb, hr, ?_, yh h.sbl (by have := hc.size; omega)⟩
 refine zC h.starts (fun q hq => hc.block q (h.starts.lt q hq).2 (fun s => ?_))
 rcases s with s | s
 ·exact zO h.starts (yT h.blk) (by decide) hq (by simp [Value.ownBlock, s])
 ·exact zO h.starts h.rows.row (by decide) hq (by simp [Value.ownBlock, s])
theorem LCr.apart {w : World} {lo lo2 hi c g cap n : Nat} {sv : Value} {vs : List Value} {gs : List Gr} {a b : Nat} {rn : Int} {st : List Int} (h : LCr w lo hi c (.slice (some ⟨g, 0, none⟩) n cap) sv vs gs a b rn st) {v : Value} {l : List Int} {q : Nat} (ho : o32 w lo2 v l) (hq : v.ownBlock = some q) : ¬ Sc c g q := by
 rintro (s | s)
 ·exact zO ho (yT h.blk) (by decide) hq (by simp [Value.ownBlock, s])
 ·exact zO ho h.rows.row (by decide) hq (by simp [Value.ownBlock, s])
theorem XD {w w1 : World} {lo c g : Nat} (h : ChgP w w1 (Sc c g)) (h1 : lo <= c) (h2 : lo <= g) (h3 : c < w.heap.size) : Below lo w w1 :=
 ⟨h.os, h.tape, h.output, h.size, fun k hk => h.block k (by omega) (fun s => by rcases s with s | s <;> omega)⟩
theorem rowsInsN {w : World} {lo hi c g cap n p k gn ck lo2 hi2 : Nat} {sv : Value} {vs us : List Value} {gs hs : List Gr} {rn : Int} {st : List Int} (h : LCr w lo hi c (.slice (some ⟨g, 0, none⟩) n cap) sv vs gs n n rn st) (hn : gs.length = n) (hh : hi <= w.heap.size) (hlc : lo <= c)
  (h2 : OwG 136 w lo2 hi2 (.slice (some ⟨gn, 0, none⟩) k ck) us hs) (hk : hs.length = k) (hk1 : 1 <= k) (h12 : hi <= lo2) (hh2 : hi2 <= w.heap.size) (hp : p <= n) (hb : n + k <= 16384) (hlo2 : lo <= lo2) :
  Calls Tryz.prog 197 #[.pointer (some ⟨c, 0, none⟩), .int .i64 p, .slice (some ⟨gn, 0, none⟩) k ck] w fun e w' => e = .returned (.tuple #[]) ∧ ∃ g2 cap2 N vs', LCr w' lo w'.heap.size c (.slice (some ⟨g2, 0, none⟩) N cap2) sv vs' (glayA nilG (gs.take p ++ (hs ++ gs.drop p)) (p + k) N) (p + k) (p + (N - n)) rn st ∧ n + k <= N ∧ N <= 65536 ∧ Below lo w w' := by
 have hvl := h.rows.len;have hul := h2.len;have hcl := h.lt;have hrow := h.rows.row;rw [hn, jd] at hrow
 have htl : (trs vs gs).length = n := by rw [ZB hvl, hn]
 have hul2 : (trs us hs).length = k := by rw [ZB hul, hk]
 have hgl := (hrow.lt g rfl);obtain ⟨_, hc0, hm0, sp, hrw, hsp⟩ := RwR.of_owns hrow;have hO : One3 (trs vs gs) := JI h.rows.nest.one;have hO2 : One3 (trs us hs) := JI h2.nest.one
 have hne : c ≠ g := fun e => zO (yT h.blk) h.rows.row (by decide) (q := c) rfl (by simp [Value.ownBlock, e])
 have hgt : zP (trs vs gs) n n = trs vs gs := by unfold zP; rw [List.take_append_drop]
 obtain ⟨N, hD⟩ := dbl_ex (n + k) (n + k) (max n 16) (by omega) (by omega)
 have bd := jA hD
 have hv : GVA z3 (trs vs gs) n n := ⟨lR, by omega, fun i a b => by omega, by omega, by omega⟩
 have HR := hide (zDl c 0 g cap #[.slice (some ⟨g, 0, none⟩) n cap, .int .i64 n, .int .i64 n, .int .i64 rn, sv] 141 (trs vs gs) sp n n k N (Sc c g) w (by rw [htl]; exact h.gb) hrw hO hne hgl.2 (by omega) hm0 (by rw [htl]; exact hsp) hv (by rw [hgt]; omega) (.inr rfl) (.inl rfl) (.inr ⟨by omega, by rw [hgt, htl]; exact hD⟩))
 rw [hgt] at HR;have h2row := h2.row;rw [hk, jd] at h2row
 have hT : ∀ w', ChgP w w' (Sc c g) -> 0 < k -> ∃ ad, (some ⟨gn, 0, none⟩ : Option Addr) = some ad ∧ ∀ j u, (fl3 (trs us hs))[j]? = some u -> w'.cell? (ad.add j) = some u := by
  intro w' hc _
  refine ⟨_, rfl, fun j u hj => ?_⟩
  have hgn := h2row.lt gn rfl
  have e1 : w'.heap[gn]? = w.heap[gn]? := hc.block gn hgn.2 (fun s => by
   rcases s with s | s
   ·exact zO h2.row (yT h.blk) (by decide) (q := gn) rfl (by simp [Value.ownBlock, s])
   ·have := h.rows.bl g rfl; omega)
  exact (World.cell?_of_block (a := (⟨gn, 0, none⟩ : Addr).add j) (by rw [jJ]; exact e1)).trans (h2row.cells rfl j u hj)
 have h8 := Kz c 0 #[.slice (some ⟨g, 0, none⟩) n cap, .int .i64 n, .int .i64 n, .int .i64 rn, sv] 141 (trs vs gs) (trs us hs) (some ⟨gn, 0, none⟩) k ck N p (Sc c g) w (by simp) hul2.symm (by omega) hO (by omega) (.inl rfl) hT hO2 HR
 refine h8.mono ?_;rintro e w' ⟨rfl, g2, cap2, sp2, hP⟩;have hsz := hP.chg.size
 have elay : (trs vs gs).take p ++ (trs us hs ++ (trs vs gs).drop p) = trs (vs.take p ++ (us ++ vs.drop p)) (gs.take p ++ (hs ++ gs.drop p)) := by
  rw [YU, YV, Zi (by simp [hvl]), Zi hul]
 have hxl : (vs.take p ++ (us ++ vs.drop p)).length = (gs.take p ++ (hs ++ gs.drop p)).length := by simp [hvl, hul]
 have hXL : (gs.take p ++ (hs ++ gs.drop p)).length = n + k := by simp only [List.length_append, List.length_take, List.length_drop]; omega
 have hb2 : lo <= g2 := by
  by_cases q : g2 < w.heap.size
  ·rcases hP.low q with e | e
   ·exact absurd e.symm hP.ne
   ·rw [e]; exact hgl.1
  ·omega
 have hlay : glayA z3 ((trs vs gs).take p ++ (trs us hs ++ (trs vs gs).drop p)) (p + k) N = trs (glayA (.slice none 0 0) (vs.take p ++ (us ++ vs.drop p)) (p + k) N) (glayA nilG (gs.take p ++ (hs ++ gs.drop p)) (p + k) N) := by
  rw [elay]; exact zC6 (p + k) N hxl
 have hgl2 : (glayA nilG (gs.take p ++ (hs ++ gs.drop p)) (p + k) N).length = N := zI (by omega) (by omega)
 have hvl2 : (glayA (Value.slice none 0 0) (vs.take p ++ (us ++ vs.drop p)) (p + k) N).length = N := zI (by omega) (by omega)
 have hrw2 := hP.rw;rw [hlay] at hrw2
 have hrow2 := Yw (base := lo) hrw2 (by rw [ZB (by rw [hgl2, hvl2]), hgl2]) hb2 hP.cap.1 hP.cap.2.1 hP.cap.2.2
 rw [<- jd] at hrow2
 have nA : Nest w' lo w'.heap.size vs (gs.map Gr.cells) := (h.rows.nest.keep hP.chg (fun i v l q _ _ ho hq => h.apart ho hq)).mono lR (by omega)
 have nB : Nest w' lo w'.heap.size us (hs.map Gr.cells) := (h2.nest.keep hP.chg (fun i v l q _ _ ho hq => h.apart ho hq)).mono hlo2 (by omega)
 have dAB : ∀ u ∈ vs, ∀ v ∈ us, ∀ q, u.ownBlock = some q -> v.ownBlock ≠ some q := by
  intro u hu v hv q hq hq';have h1 := h.rows.nest.bl u hu q hq;obtain ⟨i, hi⟩ := List.getElem?_of_mem hv
  have hil : i < (hs.map Gr.cells).length := by rw [<- h2.nest.len]; exact (List.getElem?_eq_some_iff.1 hi).1
  have h3 := ((h2.nest.own i v _ hi (List.getElem?_eq_getElem hil)).lt q hq').1;omega
 have dNil : ∀ (A : List Value) (m : Nat), ∀ u ∈ A, ∀ v ∈ List.replicate m (Value.slice none 0 0), ∀ q, u.ownBlock = some q -> v.ownBlock ≠ some q := by
  intro A m u _ v hv q _ hq';rw [List.eq_of_mem_replicate hv] at hq';simp [Value.ownBlock] at hq'
 have dNil2 : ∀ (A : List Value) (m : Nat), ∀ u ∈ List.replicate m (Value.slice none 0 0), ∀ v ∈ A, ∀ q, u.ownBlock = some q -> v.ownBlock ≠ some q := by
  intro A m u hu v _ q hq;rw [List.eq_of_mem_replicate hu] at hq;simp [Value.ownBlock] at hq
 have eV : glayA (Value.slice none 0 0) (vs.take p ++ (us ++ vs.drop p)) (p + k) N = (vs.take p ++ us) ++ (List.replicate (N - (n + k)) (.slice none 0 0) ++ vs.drop p) := by
  have e1 : (vs.take p).length = p := by simp; omega
  have e2 : us.length = k := by omega
  unfold glayA
  rw [hxl, hXL, show vs.take p ++ (us ++ vs.drop p) = (vs.take p ++ us) ++ vs.drop p from (List.append_assoc _ _ _).symm, List.take_left' (by simp only [List.length_append, e1, e2]), List.drop_left' (by simp only [List.length_append, e1, e2])]
 have eG : glayA nilG (gs.take p ++ (hs ++ gs.drop p)) (p + k) N = (gs.take p ++ hs) ++ (List.replicate (N - (n + k)) nilG ++ gs.drop p) := by
  have e1 : (gs.take p).length = p := by simp; omega
  unfold glayA
  rw [hXL, show gs.take p ++ (hs ++ gs.drop p) = (gs.take p ++ hs) ++ gs.drop p from (List.append_assoc _ _ _).symm, List.take_left' (by simp only [List.length_append, e1, hk]), List.drop_left' (by simp only [List.length_append, e1, hk])]
 have nest : Nest w' lo w'.heap.size (glayA (.slice none 0 0) (vs.take p ++ (us ++ vs.drop p)) (p + k) N) ((glayA nilG (gs.take p ++ (hs ++ gs.drop p)) (p + k) N).map Gr.cells) := by
  rw [eV, eG];simp only [List.map_append, List.map_take, List.map_drop]
  refine Nest.app (Nest.app (nA.take p) nB (fun u hu v hv => dAB u (List.mem_of_mem_take hu) v hv)) (Nest.app (Nest.nils w' lo w'.heap.size _) (nA.drop p) (dNil2 _ _)) ?_
  intro u hu v hv q hq hq'
  rcases List.mem_append.1 hv with r | r
  ·exact dNil [u] _ u (by simp) v r q hq hq'
  ·rcases List.mem_append.1 hu with s | s
   ·exact nA.parts p p lR u s v r q hq hq'
   ·exact dAB v (List.mem_of_mem_drop r) u s q hq' hq
 have hbl2 : bel w'.heap.size (.slice (some ⟨g2, 0, none⟩) N cap2) := fun q hq => (hrow2.lt q hq).2
 have hOw : OwG 136 w' lo w'.heap.size (.slice (some ⟨g2, 0, none⟩) N cap2) (glayA (.slice none 0 0) (vs.take p ++ (us ++ vs.drop p)) (p + k) N) (glayA nilG (gs.take p ++ (hs ++ gs.drop p)) (p + k) N) := ⟨by rw [hgl2]; exact hrow2, hbl2, nest⟩
 have hblk := hP.gb.blk;rw [htl] at hblk
 exact ⟨rfl, g2, cap2, N, _, h.other hh (by first | exact hblk | simpa [set3] using hblk) hP.chg hOw, by omega, by omega, XD hP.chg hlc hgl.1 hcl⟩
theorem rowsDelN {w : World} {lo hi c g cap n a b : Nat} {sv : Value} {vs : List Value} {gs : List Gr} {rn : Int} {st : List Int} (h : LCr w lo hi c (.slice (some ⟨g, 0, none⟩) n cap) sv vs gs n n rn st) (hn : gs.length = n) (hh : hi <= w.heap.size) (hlc : lo <= c) (hab : a <= b) (hb : b <= n) (hn2 : n <= 16384) :
  Calls Tryz.prog 200 #[.pointer (some ⟨c, 0, none⟩), .int .i64 a, .int .i64 b] w fun e w' => e = .returned (.tuple #[]) ∧ ∃ vs', LCr w' lo w'.heap.size c (.slice (some ⟨g, 0, none⟩) n cap) sv vs' (glayA nilG (gs.take a ++ gs.drop b) a n) a b rn st ∧ Below lo w w' := by
 have hvl := h.rows.len;have hcl := h.lt;have hrow := h.rows.row;rw [hn, jd] at hrow
 have htl : (trs vs gs).length = n := by rw [ZB hvl, hn]
 have hgl := (hrow.lt g rfl);obtain ⟨_, hc0, hm0, sp, hrw, hsp⟩ := RwR.of_owns hrow;have hO : One3 (trs vs gs) := JI h.rows.nest.one
 have hne : c ≠ g := fun e => zO (yT h.blk) h.rows.row (by decide) (q := c) rfl (by simp [Value.ownBlock, e])
 have hgt : zP (trs vs gs) n n = trs vs gs := by unfold zP; rw [List.take_append_drop]
 have hv : GVA z3 (trs vs gs) n n := ⟨lR, by omega, fun i a b => by omega, by omega, by omega⟩
 have h8 := removeR c 0 g cap #[.slice (some ⟨g, 0, none⟩) n cap, .int .i64 n, .int .i64 n, .int .i64 rn, sv] 141 (trs vs gs) sp n n a b w (by rw [htl]; exact h.gb) hrw hO hne (by omega) hv hab (by omega)
 rw [hgt, htl, Nat.sub_self, Nat.add_zero] at h8;refine h8.mono ?_;rintro e w' ⟨rfl, hP⟩;have hsz := hP.chg.size;have hcg : ChgP w w' (Sc c g) := hP.chg
 have elay : (trs vs gs).take a ++ (trs vs gs).drop b = trs (vs.take a ++ vs.drop b) (gs.take a ++ gs.drop b) := by
  rw [YU, YV, Zi (by simp [hvl])]
 have hxl : (vs.take a ++ vs.drop b).length = (gs.take a ++ gs.drop b).length := by simp [hvl]
 have hXL : (gs.take a ++ gs.drop b).length = n - (b - a) := by simp only [List.length_append, List.length_take, List.length_drop]; omega
 have hlay : glayA z3 ((trs vs gs).take a ++ (trs vs gs).drop b) a n = trs (glayA (.slice none 0 0) (vs.take a ++ vs.drop b) a n) (glayA nilG (gs.take a ++ gs.drop b) a n) := by
  rw [elay]; exact zC6 a n hxl
 have hgl2 : (glayA nilG (gs.take a ++ gs.drop b) a n).length = n := zI (by omega) (by omega)
 have hvl2 : (glayA (Value.slice none 0 0) (vs.take a ++ vs.drop b) a n).length = n := zI (by omega) (by omega)
 have hrw2 := hP.rw;rw [hlay] at hrw2
 have hrow2 := Yw (base := lo) hrw2 (by rw [ZB (by rw [hgl2, hvl2]), hgl2]) hgl.1 hc0 hm0 hsp
 rw [<- jd] at hrow2
 have nA : Nest w' lo w'.heap.size vs (gs.map Gr.cells) := (h.rows.nest.keep hcg (fun i v l q _ _ ho hq => h.apart ho hq)).mono lR (by omega)
 have eV : glayA (Value.slice none 0 0) (vs.take a ++ vs.drop b) a n = vs.take a ++ (List.replicate (b - a) (.slice none 0 0) ++ vs.drop b) := by
  have e1 : (vs.take a).length = a := by simp; omega
  unfold glayA
  rw [hxl, hXL, List.take_left' e1, List.drop_left' e1, show n - (n - (b - a)) = b - a by omega]
 have eG : glayA nilG (gs.take a ++ gs.drop b) a n = gs.take a ++ (List.replicate (b - a) nilG ++ gs.drop b) := by
  have e1 : (gs.take a).length = a := by simp; omega
  unfold glayA
  rw [hXL, List.take_left' e1, List.drop_left' e1, show n - (n - (b - a)) = b - a by omega]
 have nest : Nest w' lo w'.heap.size (glayA (.slice none 0 0) (vs.take a ++ vs.drop b) a n) ((glayA nilG (gs.take a ++ gs.drop b) a n).map Gr.cells) := by
  rw [eV, eG];simp only [List.map_append, List.map_take, List.map_drop];refine Nest.app (nA.take a) (Nest.app (Nest.nils w' lo w'.heap.size _) (nA.drop b) ?_) ?_
  ·intro u hu v _ q hq
   rw [List.eq_of_mem_replicate hu] at hq;simp [Value.ownBlock] at hq
  ·intro u hu v hv q hq hq'
   rcases List.mem_append.1 hv with r | r
   ·rw [List.eq_of_mem_replicate r] at hq'
    simp [Value.ownBlock] at hq'
   ·exact nA.parts a b hab u hu v r q hq hq'
 have hbl2 : bel w'.heap.size (.slice (some ⟨g, 0, none⟩) n cap) := fun q hq => (hrow2.lt q hq).2
 have hOw : OwG 136 w' lo w'.heap.size (.slice (some ⟨g, 0, none⟩) n cap) (glayA (.slice none 0 0) (vs.take a ++ vs.drop b) a n) (glayA nilG (gs.take a ++ gs.drop b) a n) := ⟨by rw [hgl2]; exact hrow2, hbl2, nest⟩
 have hblk := hP.gb.blk
 exact ⟨rfl, _, h.other hh (by first | exact hblk | simpa [set3] using hblk) hcg hOw, XD hcg hlc hgl.1 hcl⟩
end Go.Proofs.YtbgngikejgihgafGreatDoor
