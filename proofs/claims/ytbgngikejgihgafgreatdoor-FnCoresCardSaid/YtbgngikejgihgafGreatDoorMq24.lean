import Derived.Test.YtbgngikejgihgafGreatDoorMq23
namespace Go.Proofs.YtbgngikejgihgafGreatDoor
open Go Go.RowKit
set_option linter.unusedVariables false
set_option maxRecDepth 100000
set_option maxHeartbeats 8000000
theorem measureI (zs : List Int) (c b o cap : Nat) (k l : Int) (w : World) (hc : ∀ i, i < zs.length -> w.cell? ⟨b, o + i, none⟩ = some (.int .i32 (zs.getD i 0))) (hs : w.cell? ⟨c, 0, none⟩ = some (.slice (some ⟨b, o, none⟩) zs.length cap)) (hb : b < w.heap.size) (hcw : c < w.heap.size) (hk : 0 <= k) (hkl : k + l <= zs.length) (h0 : 0 < l) (hcap : zs.length <= cap) (hm : cap <= maxLen) (hn : zs.length <= 1048576) :
  Calls Tryz.prog 74 #[.pointer (some ⟨c, 0, none⟩), .int .i64 k, .int .i64 l] w fun e w' => e = .returned (.agg #[.int .i64 k, .int .i64 l, .int .i64 (brk ((zs.drop k.toNat).take l.toNat))]) ∧ Below w.heap.size w w' := by
 obtain ⟨k', rfl⟩ := Int.eq_ofNat_of_zero_le hk
 obtain ⟨l', rfl⟩ := Int.eq_ofNat_of_zero_le (show 0 <= l by omega)
 exact ZO zs c b o cap k' l' w hc hs hb hcw (by omega) (by omega) hcap hm hn
theorem loadN (base : Nat) (zs : List Int) (b cap : Nat) (w : World) (h : own32 w base (.slice (some ⟨b, 0, none⟩) zs.length cap) zs) (hcap : zs.length <= cap ∧ cap <= maxLen) (hn : zs.length <= 8192) (hok : (ldT zs).ok) :
  Calls Tryz.prog 36 #[.slice (some ⟨b, 0, none⟩) zs.length cap] w fun e w' => ∃ c u bs, e = .returned (.pointer (some ⟨c, 0, none⟩)) ∧ w.heap.size <= c ∧ c < w'.heap.size ∧ w'.heap[c]? = some (.cells #[.slice (some ⟨b, 0, none⟩) zs.length zs.length, .pointer u] 126 (0, 0)) ∧ Lies w' w.heap.size (ldT zs) u bs ∧ Below w.heap.size w w' := by
 obtain ⟨j0, hjP, hy0, hy1, hy2⟩ := info_parts Tryz.infoPC;have hbl := (h.lt b rfl).2
 have CL := hide (fun W => zBn (some ⟨b, 0, none⟩) zs.length cap W hcap.1 hcap.2)
 have SC := hide (Yo h);obtain ⟨n, hN⟩ : ∃ n, n = zs.length := ⟨_, rfl⟩;have HNN := hide hN;rw [<- hN] at hn hcap CL;rw [<- hN];simp only [<- hN] at SC;clear hN;go_enter Tryz.func36, Tryz.ntmps36;go_wp2_with fail;refine (CL.out w).mono ?_;rintro e x ⟨rfl, hxw⟩;subst hxw;have A0 := hide ((Below.refl x.heap.size x).alloc lR (.cells #[.slice (some ⟨b, 0, none⟩) n n, .pointer none] 126))
 have HK0 := hide (show (x.alloc (.cells #[.slice (some ⟨b, 0, none⟩) n n, .pointer none] 126)).heap[x.heap.size]? = some (.cells #[.slice (some ⟨b, 0, none⟩) n n, .pointer none] 126 (0, 0)) from heap_alloc_new _ _)
 have hs0 : (x.alloc (.cells #[.slice (some ⟨b, 0, none⟩) n n, .pointer none] 126)).heap.size = x.heap.size + 1 := by simp
 go_wp2_with fail;generalize x.alloc (.cells #[.slice (some ⟨b, 0, none⟩) n n, .pointer none] 126) = w2 at *
 have SC2 := hide (fun i hi => (A0.out.cell (p := ⟨b, 0 + i, none⟩) hbl).trans (SC.out i hi))
 have HS2 := hide (show w2.cell? ⟨x.heap.size, 0, none⟩ = some (.slice (some ⟨b, 0, none⟩) n n) from (by rw [cell_of_row w2 _ 0 _ _ _ HK0.out]; rfl))
 have E3 := hide (show OwP w2 w2.heap.size (.slice none 0 0) (chs zs 0) from ⟨rfl, .inl ⟨rfl, rfl⟩⟩)
 have SPI := hide (fun k l W hc hs hb hcw hk hkl h0 => measureI zs x.heap.size b 0 n k l W hc (by rw [<- HNN.out]; exact hs) hb hcw hk hkl h0 (by rw [<- HNN.out]; exact lR) (by unfold maxLen; omega) (by rw [<- HNN.out]; omega))
 simp only [<- HNN.out] at SPI;have hnc : n <= cap := hcap.1;clear CL SC hcap h
 go_loopw [4, 5] (fun pv ov wr => ∃ j : Nat, ov = .int .i64 (16 * (j : Int)) ∧ 16 * j < n + 16 ∧ OwP wr w2.heap.size pv (chs zs j) ∧ Below w2.heap.size w2 wr) (fun _ ov _ => n + 16 - (intOf ov).toNat)
 case atStart => exact ⟨0, by first | rfl | go_num, by omega, E3.out, Below.refl _ _⟩
 case round =>
  obtain ⟨j, rfl, hjn, hop, hbw⟩ := hrel;have HOP := hide hop;have HBW := hide hbw;have hsw := hbw.size;clear hop
  by_cases hj : 16 * j < n
  ·have hj' : 16 * (j : Int) < (n : Int) := by omega
   have SCr := hide (fun i hi => (hbw.cell (p := ⟨b, 0 + i, none⟩) (by show b < w2.heap.size; omega)).trans (SC2.out i hi))
   have HSr := hide ((hbw.cell (p := ⟨x.heap.size, 0, none⟩) (by show x.heap.size < w2.heap.size; omega)).trans HS2.out)
   clear hbw
   have hlc : (if (n : Int) - 16 * (j : Int) < 16 then (n : Int) - 16 * (j : Int) else 16) = ((cln n j : Nat) : Int) := by unfold cln; split <;> omega
   have SP := hide (SPI.out (16 * (j : Int)) (if (n : Int) - 16 * (j : Int) < 16 then (n : Int) - 16 * (j : Int) else 16) wr SCr.out HSr.out (by omega) (by omega) (by omega) (by split <;> omega) (by split <;> omega))
   have CE := hide (zCr zs j (if (n : Int) - 16 * (j : Int) < 16 then (n : Int) - 16 * (j : Int) else 16) (by rw [<- HNN.out]; exact hlc))
   clear hlc SCr;generalize brk _ = br at SP CE
   have hj2 : j <= 8192 := by omega
   go_wp2_with (first | (go_at_call 74; refine SP.out.mono ?_; rintro e x1 ⟨rfl, hb1⟩; have B1 := hide (HBW.out.trans (hb1.mono hsw)); have z1 := B1.out.size; have O1 := hide (zD HOP.out hb1 lR); have OA := hide (fun o => show (x1.alloc o).ownsRow w2.heap.size 87 3 _ j (pcCs (chs zs j)) from (by have h9 := O1.out; rw [yU] at h9; exact World.ownsRow.alloc h9 _)); have NC := hide (fun ns => zo x1 87 ns); clear hb1) | (at_builtin; refine wpList_append_own _ rfl _ _ 127 rfl w2.heap.size 87 j0 (.agg #[.int .i64 0, .int .i64 0, .int .i64 0]) 3 24 Tryz.underlying127 hjP hy0 hy1 hy2 rfl (by decide) _ j (pcCs (chs zs j)) rfl (by exact OA.out _) ⟨x1.heap.size, 0, none⟩ 1 1 (pcCs [chP zs j]) rfl (by rw [CE.out]; rfl) (by rw [CE.out]; exact NC.out _) (by rw [CE.out]; intro u hu; simp at hu; rcases hu with rfl | rfl | rfl <;> rfl) (by unfold maxLen; omega) (by omega) (by simp; omega) ?_; intro v4 x2 hoN hgN hnil; refine Hid.out ?_))
   all_goals
    refine Lib.hid ?_
    have O4 := hide (show OwP x2 w2.heap.size v4 (chs zs (j + 1)) from (by rw [YL]; exact zCq (yU zs j) rfl hoN))
    have B4 := hide ((B1.out.alloc z1 _).grown hgN (by simp; omega) (fun q hq => (O1.out.lt q hq).1))
    clear hoN hgN hnil;go_wp2;go_roundw
    case rel => exact ⟨j + 1, by first | rfl | go_num | (congr 1; omega), by omega, O4.out, B4.out⟩
    case measure => simp [intOf]; omega
  ·have hj' : ¬ 16 * (j : Int) < (n : Int) := by omega
   have hjj : j = (n + 15) / 16 := by omega
   have HT := hide (show ldT zs = midT 8192 (chs zs j) from (by unfold ldT; rw [<- HNN.out, <- hjj]))
   have M5 := hide (middledN 8192 (chs zs j) _ _ wr (by rw [yU]; omega) (OwP.rd HOP.out) lR (by rw [yU]; omega) (by rw [<- HT.out]; exact hok))
   clear hjj hbw hok;generalize midT 8192 (chs zs j) = TT at *;go_wp2_with fail;refine M5.out.mono ?_;rintro e x5 ⟨u5, bs5, rfl, hl5, hb5⟩;have BX := hide (HBW.out.trans (hb5.mono hsw))
   have K5 := hide ((BX.out.block x.heap.size (by omega)).trans HK0.out)
   have L5 := hide hl5;have z5 := hb5.size;have f5 := frozen_of_row x5 x.heap.size 1 _ _ K5.out
   have c5 : x5.cell? ⟨x.heap.size, 1, none⟩ = some (.pointer none) := by rw [cell_of_row x5 _ 1 _ _ _ K5.out]; rfl
   clear hl5 hb5;go_wp2
   refine bodyPost_ret (v := .pointer (some ⟨x.heap.size, 0, none⟩)) (by simp [results, Tryz.results36, go_sem]) rfl ⟨x.heap.size, u5, bs5, rfl, lR, by simp; omega, ?_, ?_, ?_⟩
   ·have h9 := heap_setCell_same x5 x.heap.size 1 _ _ (.pointer u5) K5.out
    simpa using h9
   ·rw [HT.out]
    exact (Lies.base (by omega) L5.out).frame (fun q hq => heap_setCell_other _ _ _ _ (by have := (L5.out.lt q hq).1; show q ≠ x.heap.size; omega))
   ·exact (A0.out.trans (BX.out.mono (by omega))).setCell (by simp) _
theorem tellPN (zs : List Int) (T : AT) (u : Option Addr) (bs : List Nat) (base c b : Nat) (w : World) (hc : ∀ i, i < zs.length -> w.cell? ⟨b, 0 + i, none⟩ = some (.int .i32 (zs.getD i 0))) (hb : b < w.heap.size) (hn : zs.length <= 1048576) (hT : Lies w base T u bs) (hok : T.ok) (hk : w.heap[c]? = some (.cells #[.slice (some ⟨b, 0, none⟩) zs.length zs.length, .pointer u] 126 (0, 0))) :
  Calls Tryz.prog 37 #[.pointer (some ⟨c, 0, none⟩)] w fun e w' => ∃ vs vi, e = .returned (.agg #[vs, vi]) ∧ own32 w' w.heap.size vs zs ∧ OwI w' w.heap.size vi (T.told 0) ∧ Below w.heap.size w w' ∧ vs ≠ .slice none 0 0 := by
 have hcl : c < w.heap.size := (Array.getElem?_eq_some_iff.1 hk).1;have B0 := hide ((Below.refl w.heap.size w).alloc lR (.cells #[.slice none 0 0, .slice none 0 0] 33))
 have HK0 := hide (show (w.alloc (.cells #[.slice none 0 0, .slice none 0 0] 33)).heap[w.heap.size]? = some (.cells #[.slice none 0 0, .slice none 0 0] 33 (0, 0)) from heap_alloc_new _ _)
 have hs0 : w.heap.size < (w.alloc (.cells #[.slice none 0 0, .slice none 0 0] 33)).heap.size := by simp
 have hk0 := (B0.out.block c hcl).trans hk
 have c0 : (w.alloc (.cells #[.slice none 0 0, .slice none 0 0] 33)).cell? ⟨c, 0, none⟩ = some (.slice (some ⟨b, 0, none⟩) zs.length zs.length) := by rw [cell_of_row _ _ 0 _ _ _ hk0]; rfl
 have c1 : (w.alloc (.cells #[.slice none 0 0, .slice none 0 0] 33)).cell? ⟨c, 1, none⟩ = some (.pointer u) := by rw [cell_of_row _ _ 1 _ _ _ hk0]; rfl
 have CL := hide (fun W (hc : ∀ i, i < zs.length -> W.cell? ⟨b, 0 + i, none⟩ = some (.int .i32 (zs.getD i 0))) (hb : b < W.heap.size) => cloneN zs b 0 zs.length W hc hb hn)
 have SC := hide (fun i hi => (B0.out.cell (p := ⟨b, 0 + i, none⟩) hb).trans (hc i hi))
 have hbl : b < (w.alloc (.cells #[.slice none 0 0, .slice none 0 0] 33)).heap.size := by omega
 have hcl0 : c < (w.alloc (.cells #[.slice none 0 0, .slice none 0 0] 33)).heap.size := by omega
 have L0 := hide (hT.below B0.out lR)
 have TL := hide (fun W (h : Lies W base T u bs) => tellN T u bs base W h hok)
 have FR := hide (fun (W W' : World) (h : Lies W base T u bs) (e : W'.heap = W.heap) => h.frame (w' := W') (fun q hq => by rw [e]))
 clear hk hk0 hT hok hc;go_enter Tryz.func37, Tryz.ntmps37
 go_upto_region 1 with fail
 generalize w.alloc (.cells #[.slice none 0 0, .slice none 0 0] 33) = w0 at *
 have e00 : w0.cell? ⟨w.heap.size, 0, none⟩ = some (.slice none 0 0) := by rw [cell_of_row w0 _ 0 _ _ _ HK0.out]; rfl
 go_region_with (first
  | (go_at_call 76; refine (CL.out _ (by exact SC.out) (by exact hbl)).mono ?_; rintro e w1 ⟨vs, rfl, ho1, hb1, hn1⟩; obtain ⟨as1, cs1, rfl⟩ := zj ho1; have NN := hide hn1; clear hn1; have C1 : Below w0.heap.size w0 w1 := ⟨hb1.os, hb1.tape, hb1.output, hb1.size, hb1.block⟩; have BB1 := hide C1; have O1 := hide (show own32 w1 w0.heap.size (.slice as1 zs.length cs1) zs from ho1); have L1 := hide (L0.out.below C1 lR); have d1 : w1.cell? ⟨c, 1, none⟩ = some (.pointer u) := (C1.cell (p := ⟨c, 1, none⟩) hcl0).trans c1; clear ho1 hb1 C1)
  | (go_at_call 77; refine (TL.out _ (by exact FR.out _ _ L1.out rfl)).mono ?_; rintro e w2 ⟨vi, rfl, ho2, hb2⟩; obtain ⟨ai1, ci1, rfl⟩ := yO ho2; have C2 : Below w1.heap.size w1 w2 := ⟨hb2.os, hb2.tape, hb2.output, hb2.size, hb2.block⟩; have BB2 := hide (BB1.out.trans (C2.mono BB1.out.size)); have O1' := hide (zD O1.out C2 lR); have O2 := hide (show OwI w2 w1.heap.size (.slice ai1 (T.told 0).length ci1) (T.told 0) from ho2); have s12 := C2.size; have s01 := BB1.out.size; have K2 := (BB2.out.block w.heap.size hs0).trans HK0.out; have g0 : w2.cell? ⟨w.heap.size, 0, none⟩ = some (.slice none 0 0) := (by rw [cell_of_row w2 _ 0 _ _ _ K2]; rfl); have g1 : w2.cell? ⟨w.heap.size, 1, none⟩ = some (.slice none 0 0) := (by rw [cell_of_row w2 _ 1 _ _ _ K2]; rfl); have f0 := frozen_of_row w2 w.heap.size 0 _ _ K2; have f1 := frozen_of_row w2 w.heap.size 1 _ _ K2; clear ho2 hb2 C2 K2))
 all_goals
  go_wp2
  refine bodyPost_ret (v := .agg #[.slice as1 zs.length cs1, .slice ai1 (T.told 0).length ci1]) (by simp [results, Tryz.results37, go_sem, g0, g1]) rfl ⟨_, _, rfl, ?_, ?_, ?_, NN.out⟩
  ·exact zC (zE O1'.out (by omega)) (fun k hk => by have h1 := O1'.out.lt k hk; rw [Below.heap_setCell _ _ _ _ (by simp; omega), Below.heap_setCell _ _ _ _ (by simp; omega)]; try rfl)
  ·exact zC (zE O2.out (by omega)) (fun k hk => by have h1 := O2.out.lt k hk; rw [Below.heap_setCell _ _ _ _ (by simp; omega), Below.heap_setCell _ _ _ _ (by simp; omega)]; try rfl)
  ·exact ((⟨(B0.out.trans (BB2.out.mono (by omega))).os, (B0.out.trans (BB2.out.mono (by omega))).tape, (B0.out.trans (BB2.out.mono (by omega))).output, (B0.out.trans (BB2.out.mono (by omega))).size, (B0.out.trans (BB2.out.mono (by omega))).block⟩ : Below w.heap.size w _).setCell lR _).setCell lR _
theorem zBx (zs : List Int) : ∀ j, 16 * j < zs.length + 16 -> ((chs zs j).map (fun p => p.len)).sum = ((min (16 * j) zs.length : Nat) : Int)
 | 0, _ => by simp [chs]
 | j + 1, h => by
  rw [YL, List.map_append, List.sum_append, zBx zs j (by omega)]
  simp only [List.map_cons, List.map_nil, List.sum_cons, List.sum_nil, chP, cln];omega
theorem chP_ok (zs : List Int) (i : Nat) (hi : 16 * i < zs.length) (hn : zs.length <= 8192) : pcOk (chP zs i) = true := by
 have hb := Zr ((zs.drop (16 * i)).take (cln zs.length i));have hl : ((zs.drop (16 * i)).take (cln zs.length i)).length <= cln zs.length i := List.length_take_le _ _
 have hc : cln zs.length i <= 16 ∧ 1 <= cln zs.length i ∧ 16 * i + cln zs.length i <= zs.length := by unfold cln; omega
 unfold pcOk;refine decide_eq_true ?_
 show 1 <= ((cln zs.length i : Nat) : Int) ∧ ((cln zs.length i : Nat) : Int) <= 8192 ∧ (0 : Int) <= ((16 * i : Nat) : Int) ∧ ((16 * i : Nat) : Int) + ((cln zs.length i : Nat) : Int) <= 220000 ∧ 0 <= brk ((zs.drop (16 * i)).take (cln zs.length i)) ∧ brk ((zs.drop (16 * i)).take (cln zs.length i)) <= ((cln zs.length i : Nat) : Int)
 omega
theorem ldT_ok (zs : List Int) (hn : zs.length <= 8192) : (ldT zs).ok := by
 have hj : (chs zs ((zs.length + 15) / 16)).length <= 8192 := by rw [yU]; omega
 refine midT_ok hj ?_ ?_
 ·intro p hp
  obtain ⟨i, hi, rfl⟩ := List.mem_map.1 hp
  exact chP_ok zs i (by have := List.mem_range.1 hi; omega) hn
 ·rw [AT.rns_of_flat, jI 8192 _ hj, zBx zs _ (by omega)]
  omega
theorem zAl (h m : Int) (w : World) (h0 : 0 <= h) (h1 : h <= 1048576) :
  Calls Tryz.prog 71 #[.int .i64 h, .int .i64 m, .int .i64 8192] w fun e w' => e = .returned (errV (decide (h <= 8192 ∧ m <= 8192 - h)) 10) ∧ w' = w := by
 by_cases a : h <= 8192
 ·by_cases b : m <= 8192 - h
  ·rw [show decide (h <= 8192 ∧ m <= 8192 - h) = true by rw [decide_eq_true_eq]; exact ⟨a, b⟩]
   have a' : ¬ (8192 : Int) < h := by omega
   have b' : ¬ (8192 : Int) - h < m := by omega
   go_enter Tryz.func71, Tryz.ntmps71;go_wp2;go_ret;exact ⟨rfl, rfl⟩
  ·rw [show decide (h <= 8192 ∧ m <= 8192 - h) = false by rw [decide_eq_false_iff_not]; exact fun x => b x.2]
   have a' : ¬ (8192 : Int) < h := by omega
   have b' : (8192 : Int) - h < m := by omega
   go_enter Tryz.func71, Tryz.ntmps71;go_wp2;go_ret;exact ⟨rfl, rfl⟩
 ·rw [show decide (h <= 8192 ∧ m <= 8192 - h) = false by rw [decide_eq_false_iff_not]; exact fun x => a x.1]
  have a' : (8192 : Int) < h := by omega
  go_enter Tryz.func71, Tryz.ntmps71;go_wp2;go_ret;exact ⟨rfl, rfl⟩
def msgLd : ByteArray := ⟨#[108, 111, 97, 100, 105, 110, 103, 32, 97, 32, 116, 101, 120, 116]⟩
theorem JW (ao : Option Addr) (n cap : Nat) (w : World) :
  Calls Tryz.prog 34 #[.slice ao n cap] w fun e w' => e = .returned (if n <= 8192 then .nilIface else .iface 120 (.agg #[.string msgLd, .iface 121 (.int .i64 10)])) ∧ w' = w := by
 have HK := hide (zAl 0 n w (by omega) (by omega))
 by_cases h : n <= 8192
 ·rw [if_pos h]
  rw [show decide ((0 : Int) <= 8192 ∧ (n : Int) <= 8192 - 0) = true by rw [decide_eq_true_eq]; omega] at HK
  simp only [errV, if_true] at HK;go_enter Tryz.func34, Tryz.ntmps34;go_wp2_with fail;refine HK.out.mono ?_;rintro e w1 ⟨rfl, rfl⟩;go_wp2;go_ret;exact ⟨rfl, rfl⟩
 ·rw [if_neg h]
  rw [show decide ((0 : Int) <= 8192 ∧ (n : Int) <= 8192 - 0) = false by rw [decide_eq_false_iff_not]; omega] at HK
  simp only [errV, Bool.false_eq_true, if_false] at HK;go_enter Tryz.func34, Tryz.ntmps34;go_wp2_with fail;refine HK.out.mono ?_;rintro e w1 ⟨rfl, rfl⟩;go_wp2;go_ret;exact ⟨rfl, rfl⟩
def ldS (zs : List Int) : List Int := if zs.length <= 8192 then zs else []
def ldI (zs : List Int) : List It := if zs.length <= 8192 then (ldT zs).told 0 else []
def ldC (zs : List Int) : Int := if zs.length <= 8192 then 0 else 10
def LdPost (w : World) (zs : List Int) (e : Ending) (w' : World) : Prop := ∃ vs vi, e = .returned (.tuple #[.agg #[vs, vi], .int .i64 (ldC zs)]) ∧ own32 w' w.heap.size vs (ldS zs) ∧ OwI w' w.heap.size vi (ldI zs) ∧ Below w.heap.size w w' ∧ (ldC zs = 0 -> vs ≠ .slice none 0 0)
theorem implLd (base : Nat) (zs : List Int) (b cap : Nat) (w : World) (h : own32 w base (.slice (some ⟨b, 0, none⟩) zs.length cap) zs) (hn : zs.length <= 1048576) (hcap : zs.length <= cap ∧ cap <= maxLen) (hg : w.cell? ⟨0, 0, none⟩ = some (.iface 207 (.agg #[.pointer (some ⟨1, 68, none⟩)]))) (hOK : zs.length <= 8192) :
  Calls Tryz.prog 9 #[.slice (some ⟨b, 0, none⟩) zs.length cap] w (LdPost w zs) := by
 have hlt0 : 0 < w.heap.size := World.block_lt_of_cell? w _ hg;have hbl := (h.lt b rfl).2;have A0 := hide ((Below.refl w.heap.size w).alloc lR (.cells #[.slice none 0 0, .slice none 0 0] 33))
 have K0 := hide (show (w.alloc (.cells #[.slice none 0 0, .slice none 0 0] 33)).heap[w.heap.size]? = some (.cells #[.slice none 0 0, .slice none 0 0] 33 (0, 0)) from heap_alloc_new _ _)
 have hs0 : w.heap.size < (w.alloc (.cells #[.slice none 0 0, .slice none 0 0] 33)).heap.size := by simp
 have O0 := hide (show own32 _ base _ zs from zD h A0.out lR)
 have G0 := hide ((A0.out.cell (p := ⟨0, 0, none⟩) hlt0).trans hg)
 have CT := hide (fun w => JW (some ⟨b, 0, none⟩) zs.length cap w)
 by_cases h8 : zs.length <= 8192
 ·rw [if_pos h8] at CT
  have LD := hide (fun w h => loadN base zs b cap w h hcap h8 (ldT_ok zs h8))
  have HOK := hide (ldT_ok zs h8)
  have HE := hide (show (ldC zs = 0 ∧ ldS zs = zs ∧ ldI zs = (ldT zs).told 0) from ⟨by rw [ldC, if_pos h8], by rw [ldS, if_pos h8], by rw [ldI, if_pos h8]⟩)
  have TL := hide (fun u bs bb c w hc hb hT hk => tellPN zs (ldT zs) u bs bb c b w hc hb hn hT HOK.out hk)
  generalize ldT zs = T at *;generalize hN : zs.length = n at *;have HN := hide hN;clear h hg hN;go_enter Tryz.func9, Tryz.ntmps9;go_wp2_with fail;generalize w.alloc (.cells #[.slice none 0 0, .slice none 0 0] 33) = w0 at *;refine (CT.out _).mono ?_;rintro e w1 ⟨rfl, hw1⟩;have hw2 := hw1.symm;subst hw2;go_wp2_with fail;refine (LD.out w0 O0.out).mono ?_;rintro e w2 ⟨c, u, bs, rfl, hc1, hc2, hk2, hl2, hb2⟩
  have B2 := hide (A0.out.trans (hb2.mono (by omega)))
  have K2 := hide ((hb2.block w.heap.size hs0).trans K0.out)
  have O2 := hide (show own32 w2 base _ zs from zD O0.out hb2 lR)
  have KC := hide hk2;have L2 := hide hl2;have s2 := hb2.size;clear hk2 hl2 hb2 CT LD K0 O0;go_wp2_with fail
  refine (TL.out u bs _ c w2 (by have h9 := O2.out; rw [<- HN.out] at h9; have h10 := Yo h9; rw [HN.out] at h10; exact h10) (by omega) L2.out KC.out).mono ?_
  rintro e w3 ⟨vs, vi, rfl, ho3, hi3, hb3, hn3⟩;obtain ⟨as1, cs1, rfl⟩ := zj ho3;have NN := hide hn3;clear hn3;obtain ⟨ai1, ci1, rfl⟩ := yO hi3
  have B3 := hide (B2.out.trans (hb3.mono (by omega)))
  have K3 := (hb3.block w.heap.size (by omega)).trans K2.out
  have O3 := hide ho3;have I3 := hide hi3;have s3 := hb3.size
  have e0 : w3.cell? ⟨w.heap.size, 0, none⟩ = some (.slice none 0 0) := by rw [cell_of_row w3 _ 0 _ _ _ K3]; rfl
  have e1 : w3.cell? ⟨w.heap.size, 1, none⟩ = some (.slice none 0 0) := by rw [cell_of_row w3 _ 1 _ _ _ K3]; rfl
  have f0 := frozen_of_row w3 w.heap.size 0 _ _ K3;have f1 := frozen_of_row w3 w.heap.size 1 _ _ K3;clear ho3 hi3 hb3 K3 K2 O2 L2 KC TL;go_wp2
  refine bodyPost_ret (v := .tuple #[.agg #[.slice as1 zs.length cs1, .slice ai1 (T.told 0).length ci1], .int .i64 0]) (by simp [results, Tryz.results9, go_sem, e0, e1]) rfl ⟨_, _, by rw [HE.out.1], ?_, ?_, ?_, fun _ => NN.out⟩
  ·rw [HE.out.2.1]
   exact zC (zE O3.out (by omega)) (fun k hk => by have h1 := O3.out.lt k hk; rw [Below.heap_setCell _ _ _ _ (by simp; omega), Below.heap_setCell _ _ _ _ (by simp; omega)])
  ·rw [HE.out.2.2]
   exact zC (zE I3.out (by omega)) (fun k hk => by have h1 := I3.out.lt k hk; rw [Below.heap_setCell _ _ _ _ (by simp; omega), Below.heap_setCell _ _ _ _ (by simp; omega)])
  ·exact (B3.out.setCell lR _).setCell lR _
 ·exact absurd hOK h8
structure LnAt (w : World) (vals : List Value) (L : List (List Int)) : Prop where
 len : vals.length = L.length
 at_ : ∀ (i : Nat) v l, vals[i]? = some v -> L[i]? = some l -> Sl .i32 w v l
theorem LnAt.nil (w : World) : LnAt w [] [] := ⟨rfl, fun i v l h => by simp at h⟩
theorem LnAt.snoc {w : World} {vals : List Value} {L : List (List Int)} {v : Value} {l : List Int} (h : LnAt w vals L) (hs : Sl .i32 w v l) : LnAt w (vals ++ [v]) (L ++ [l]) := by
 refine ⟨by simp [h.len], fun i u m hu hm => ?_⟩
 rcases Nat.lt_trichotomy i vals.length with q | q | q
 ·rw [List.getElem?_append_left q] at hu
  rw [List.getElem?_append_left (by rw [<- h.len]; exact q)] at hm
  exact h.at_ i u m hu hm
 ·subst q
  rw [List.getElem?_append_right lR] at hu;rw [h.len, List.getElem?_append_right lR] at hm;simp at hu hm;subst hu hm;exact hs
 ·rw [List.getElem?_eq_none (by simp; omega)] at hu; cases hu
theorem LnAt.below {w w' : World} {vals : List Value} {L : List (List Int)} (h : LnAt w vals L) (hb : Below w.heap.size w w') : LnAt w' vals L := ⟨h.len, fun i v l hv hl => (h.at_ i v l hv hl).below hb⟩
theorem zBy {w : World} {b o c : Nat} {zs : List Int} (hc : ∀ i, i < zs.length -> w.cell? ⟨b, o + i, none⟩ = some (.int .i32 (zs.getD i 0))) (hb : b < w.heap.size) {k : Nat} (hk : k <= zs.length) : Sl .i32 w (.slice (some ⟨b, o, none⟩) k c) (zs.take k) := by
 refine .inr ⟨b, o, c, by rw [List.length_take, Nat.min_eq_left hk], hb, fun i hi => ?_⟩
 rw [List.length_take] at hi
 rw [hc i (by omega)]
 simp [List.getD_eq_getElem?_getD, show i < k by omega]
def lenV : Value -> Nat
 | .slice _ n _ => n
 | _ => 0
theorem cutL (zs : List Int) (b o cap : Nat) (w : World) (hc : ∀ i, i < zs.length -> w.cell? ⟨b, o + i, none⟩ = some (.int .i32 (zs.getD i 0))) (hb : b < w.heap.size) (hn : zs.length <= 1048576) (hcap : zs.length <= cap) (hm : cap <= maxLen) :
  Calls Tryz.prog 80 #[.slice (some ⟨b, o, none⟩) zs.length cap] w fun e w' => ∃ v vals, e = .returned v ∧ w'.ownsRow w.heap.size 25 1 v (lns zs).length vals ∧ LnAt w vals (lns zs) ∧ Below w.heap.size w w' := by
 obtain ⟨i0, hi, hz0, hz1, hz2⟩ := info_parts Tryz.infoS;have HC := hide hc;have LL := hide (yg zs);generalize hLZ : lns zs = LZ at *;have HLZ := hide hLZ;generalize hN : zs.length = N at *;have HN := hide hN;clear hc hLZ hN;go_enter Tryz.func80, Tryz.ntmps80;go_wp2_with fail
 go_loopw [0, 3] (fun tx ls wr => ∃ (L : List (List Int)) (rest : List Int) (o' c : Nat) (vals : List Value), LZ = L ++ lns rest ∧ tx = .slice (some ⟨b, o', none⟩) rest.length c ∧ rest.length <= c ∧ c <= maxLen ∧ rest.length <= N ∧
   (∀ i, i < rest.length -> w.cell? ⟨b, o' + i, none⟩ = some (.int .i32 (rest.getD i 0))) ∧ wr.ownsRow w.heap.size 25 1 ls L.length vals ∧ LnAt w vals L ∧ Below w.heap.size w wr)
  (fun tx _ _ => lenV tx)
 case atStart => exact ⟨[], zs, o, cap, [], by simp [HLZ.out], by rw [HN.out], by rw [HN.out]; exact hcap, hm, by rw [HN.out]; exact lR, fun i hi => HC.out i (by rw [<- HN.out]; exact hi), World.ownsRow_nil _ _ _ _, LnAt.nil _, Below.refl _ _⟩
 case round =>
  obtain ⟨L, rest, o', c, vals, hL, rfl, hrc, hcm, hrN, hcl, hown, hat, hbw⟩ := hrel;have CL := hide hcl;have HO := hide hown;have HAT := hide hat;have HBW := hide hbw;have HL := hide hL
  have IX := hide (zAf rest b o' c wr (fun i hi => (hbw.cell (p := ⟨b, o' + i, none⟩) hb).trans (hcl i hi)) (by omega) hrc hcm)
  have hsz := hbw.size
  have hll : L.length <= 1048577 := by have h1 := LL.out.2; have h2 := HL.out; rw [h2, List.length_append] at h1; omega
  have hVN := HO.out.1;unfold ix at IX;unfold maxLen at hcm
  by_cases hf : fb rest < rest.length
  ·rw [if_pos hf] at IX
   have EL := hide (fb_lns hf);have ST := hide (zBy (c := c) CL.out hb (Nat.le_of_lt hf));generalize hF : fb rest = F at *;generalize hR : rest.length = R at *;have HR := hide hR;clear hcl hown hat hbw hL hR hVN;go_wp2_with fail;refine IX.out.mono ?_;rintro e w1 ⟨rfl, hw⟩;have hw2 := hw.symm;subst hw2;clear hw IX
   have hF0 : ¬ (F : Int) < 0 := by omega
   have hFc : (F : Int) <= c := by omega
   have hFc1 : (F : Int) + 1 <= c := by omega
   have hFc2 : (F : Int) + 1 <= R := by omega
   have NC := hide (zo wr 25 [.slice (some ⟨b, o', none⟩) F c])
   by_cases hcF : c = F + 1
   ·subst hcF
    go_wp2_with (at_builtin; refine wpList_append_own _ rfl _ _ 138 rfl w.heap.size 25 i0 (.slice none 0 0) 1 24 Tryz.underlying138 hi hz0 hz1 hz2 rfl (by decide) _ _ _ rfl (HO.out.alloc _) ⟨wr.heap.size, 0, none⟩ 1 1 [.slice (some ⟨b, o', none⟩) F (F + 1)] rfl rfl NC.out (by intro u hu; simp at hu; subst hu; rfl) (by unfold maxLen; omega) (by omega) (by simp; omega) ?_; intro v2 w2 ho2 hg2 _)
    have B2 := hide ((HBW.out.alloc (by omega) (.cells #[.slice (some ⟨b, o', none⟩) F (F + 1)] 25)).grown hg2 (by simp; omega) (fun q hq => (HO.out.lt q hq).1))
    have O2 := hide ho2;clear ho2 hg2;go_wp2;go_roundw
    case rel =>
     have eR : rest.drop (F + 1) = [] := List.drop_of_length_le (by rw [HR.out]; omega)
     refine ⟨L ++ [rest.take F], [], o', 0, vals ++ [.slice (some ⟨b, o', none⟩) F (F + 1)], ?_, ?_, Nat.zero_le _, by unfold maxLen; omega, Nat.zero_le _, fun i hi => by simp at hi, ?_, HAT.out.snoc ST.out, B2.out⟩
     ·rw [HL.out, EL.out, eR]; simp
     ·simp
     ·rw [List.length_append]; exact O2.out
    case measure => simp [lenV]; omega
   ·have hcF' : ¬ ((c : Int) = F + 1) := by omega
    have hcl' : (F : Int) + 1 < c := by omega
    go_wp2_with (at_builtin; refine wpList_append_own _ rfl _ _ 138 rfl w.heap.size 25 i0 (.slice none 0 0) 1 24 Tryz.underlying138 hi hz0 hz1 hz2 rfl (by decide) _ _ _ rfl (HO.out.alloc _) ⟨wr.heap.size, 0, none⟩ 1 1 [.slice (some ⟨b, o', none⟩) F c] rfl rfl NC.out (by intro u hu; simp at hu; subst hu; rfl) (by unfold maxLen; omega) (by omega) (by simp; omega) ?_; intro v2 w2 ho2 hg2 _)
    have B2 := hide ((HBW.out.alloc (by omega) (.cells #[.slice (some ⟨b, o', none⟩) F c] 25)).grown hg2 (by simp; omega) (fun q hq => (HO.out.lt q hq).1))
    have O2 := hide ho2;clear ho2 hg2;go_wp2;go_roundw
    case rel =>
     have eR : (rest.drop (F + 1)).length = R - (F + 1) := by rw [List.length_drop, HR.out]
     refine ⟨L ++ [rest.take F], rest.drop (F + 1), o' + (F + 1), c - (F + 1), vals ++ [.slice (some ⟨b, o', none⟩) F c], ?_, ?_, by rw [eR]; omega, by unfold maxLen; omega, by rw [eR]; omega, ?_, ?_, HAT.out.snoc ST.out, B2.out⟩
     ·rw [HL.out, EL.out]; simp
     ·rw [eR]
     ·intro i hi
      rw [eR] at hi
      rw [Nat.add_assoc, CL.out (F + 1 + i) (by omega)]
      simp [List.getD_eq_getElem?_getD, List.getElem?_drop]
     ·rw [List.length_append]; exact O2.out
    case measure => simp [lenV]; omega
  ·rw [if_neg hf] at IX
   have hfe : fb rest = rest.length := by have := fb_le rest; omega
   have EL := hide (zBt hfe);have ST := hide (zBy (c := c) CL.out hb lR);rw [List.take_of_length_le lR] at ST;generalize hR : rest.length = R at *;clear hcl hown hat hbw hL hR hVN hfe hf;go_wp2_with fail;refine IX.out.mono ?_;rintro e w1 ⟨rfl, hw⟩;have hw2 := hw.symm;subst hw2;clear hw IX;have NC := hide (zo wr 25 [.slice (some ⟨b, o', none⟩) R c])
   go_wp2_with (at_builtin; refine wpList_append_own _ rfl _ _ 138 rfl w.heap.size 25 i0 (.slice none 0 0) 1 24 Tryz.underlying138 hi hz0 hz1 hz2 rfl (by decide) _ _ _ rfl (HO.out.alloc _) ⟨wr.heap.size, 0, none⟩ 1 1 [.slice (some ⟨b, o', none⟩) R c] rfl rfl NC.out (by intro u hu; simp at hu; subst hu; rfl) (by unfold maxLen; omega) (by omega) (by simp; omega) ?_; intro v2 w2 ho2 hg2 _)
   have B2 := hide ((HBW.out.alloc (by omega) (.cells #[.slice (some ⟨b, o', none⟩) R c] 25)).grown hg2 (by simp; omega) (fun q hq => (HO.out.lt q hq).1))
   have O2 := hide ho2;clear ho2 hg2;go_wp2;go_ret;refine ⟨_, vals ++ [.slice (some ⟨b, o', none⟩) R c], rfl, ?_, ?_, B2.out⟩
   ·rw [HL.out, EL.out, List.length_append]; exact O2.out
   ·rw [HL.out, EL.out]; exact HAT.out.snoc ST.out
structure GC (w : World) (B o : Nat) (v : Value) (lo hi : Int) : Prop where
 c0 : w.cell? ⟨B, o, none⟩ = some v
 c1 : w.cell? ⟨B, o + 1, none⟩ = some (.int .i64 lo)
 c2 : w.cell? ⟨B, o + 2, none⟩ = some (.int .i64 hi)
theorem GC.same {w w' : World} {B o : Nat} {v : Value} {lo hi : Int} (h : GC w B o v lo hi) (hh : w'.heap = w.heap) : GC w' B o v lo hi :=
 ⟨(World.cell?_of_block (w := w) (by rw [hh])).trans h.c0, (World.cell?_of_block (w := w) (by rw [hh])).trans h.c1, (World.cell?_of_block (w := w) (by rw [hh])).trans h.c2⟩
theorem GC.drew {w : World} {B o : Nat} {v : Value} {lo hi : Int} (h : GC w B o v lo hi) (n : Nat) : GC (w.drewN n) B o v lo hi :=
 ⟨by simpa using h.c0, by simpa using h.c1, by simpa using h.c2⟩
theorem gapN (B o : Nat) (v : Value) (lo hi : Int) (w : World) (h : GC w B o v lo hi) (h0 : 0 <= lo) (h1 : lo <= hi) (h2 : hi <= 1099511627776) :
  Calls Tryz.prog 139 #[.pointer (some ⟨B, o, none⟩)] w fun e w' => e = .returned (.int .i64 (hi - lo)) ∧ ∃ n, w' = w.drewN n := by
 obtain ⟨c0, c1, c2⟩ := h;go_enter Tryz.func139, Tryz.ntmps139;go_wp2;go_quiet (fail);go_wp2;go_ret;exact ⟨rfl, _, rfl⟩
theorem jw (B o : Nat) (ao : Option Addr) (n cap : Nat) (lo hi : Int) (w : World) (h : GC w B o (.slice ao n cap) lo hi) (h0 : 0 <= lo) (h1 : lo <= hi) (h2 : hi <= n) (hn : n <= 1099511627776) :
  Calls Tryz.prog 119 #[.pointer (some ⟨B, o, none⟩)] w fun e w' => e = .returned (.int .i64 (n - (hi - lo))) ∧ ∃ n, w' = w.drewN n := by
 have HK := hide (fun w h => gapN B o (.slice ao n cap) lo hi w h h0 h1 (by omega))
 have H := hide h;obtain ⟨c0, c1, c2⟩ := h;go_enter Tryz.func119, Tryz.ntmps119;go_wp2;go_quiet ((go_at_call 139; exact Calls.quiet_of (HK.out _ (H.out.drew _))));go_wp2;go_ret;exact ⟨rfl, _, rfl⟩
theorem Jw {xs ys : List Int} {k : Nat} (h : xs.take k = ys.take k) (hx : k < xs.length) (hy : k < ys.length) (e : xs.getD k 0 = ys.getD k 0) : xs.take (k + 1) = ys.take (k + 1) := by
 rw [List.take_add_one, List.take_add_one, h];simp only [List.getD_eq_getElem?_getD, List.getElem?_eq_getElem hx, List.getElem?_eq_getElem hy, Option.getD_some] at e;rw [List.getElem?_eq_getElem hx, List.getElem?_eq_getElem hy, e]
theorem equalN (xs ys : List Int) (v u : Value) (b : Bool) (w : World) (h1 : Rd .i64 w v xs) (h2 : Rd .i64 w u ys) (hn : xs.length <= 1048576) (hm : ys.length <= 1048576) (hb : b = true ↔ xs = ys) :
  Calls Tryz.prog 89 #[v, u] w fun e w' => e = .returned (.bool b) ∧ ∃ n, w' = w.drewN n := by
 have S1 : ∃ ao cap, v = .slice ao xs.length cap := by
  rcases h1 with ⟨ao, cap, rfl, rfl⟩ | ⟨b, off, cap, rfl, _⟩
  ·exact ⟨ao, cap, rfl⟩
  ·exact ⟨_, _, rfl⟩
 have S2 : ∃ ao cap, u = .slice ao ys.length cap := by
  rcases h2 with ⟨ao, cap, rfl, rfl⟩ | ⟨b, off, cap, rfl, _⟩
  ·exact ⟨ao, cap, rfl⟩
  ·exact ⟨_, _, rfl⟩
 by_cases hl : xs.length = ys.length
 ·by_cases h0 : xs.length = 0
  ·have e1 : xs = [] := List.eq_nil_of_length_eq_zero h0
   have e2 : ys = [] := List.eq_nil_of_length_eq_zero (by omega)
   subst e1 e2;obtain rfl : b = true := hb.2 rfl;obtain ⟨ao, cap, rfl⟩ := S1;obtain ⟨ao', cap', rfl⟩ := S2;clear h1 h2 hb;go_enter Tryz.func89, Tryz.ntmps89;go_wp2;refine wp_loop_rounds 1 ?_;rw [rounds_succ];go_wp2;go_ret;exact ⟨rfl, 0, rfl⟩
  ·obtain ⟨b1, o1, c1, rfl, hc⟩ : ∃ b off cap, v = .slice (some ⟨b, off, none⟩) xs.length cap ∧ ∀ i, i < xs.length -> w.cell? ⟨b, off + i, none⟩ = some (.int .i64 (xs.getD i 0)) := by
    rcases h1 with ⟨ao, cap, _, e⟩ | ⟨b, off, cap, e, hp, hc⟩
    ·subst e; simp at h0
    ·exact ⟨b, off, cap, e, hc⟩
   obtain ⟨b2, o2, c2, rfl, hc'⟩ : ∃ b off cap, u = .slice (some ⟨b, off, none⟩) ys.length cap ∧ ∀ i, i < ys.length -> w.cell? ⟨b, off + i, none⟩ = some (.int .i64 (ys.getD i 0)) := by
    rcases h2 with ⟨ao, cap, _, e⟩ | ⟨b, off, cap, e, hp, hc⟩
    ·subst e; simp at hl; simp [hl] at h0
    ·exact ⟨b, off, cap, e, hc⟩
   clear h1 h2 S1 S2
   have TS := hide (fun (k : Nat) (h : xs.take k = ys.take k) (hx : k < xs.length) e => Jw h hx (by rw [<- hl]; exact hx) e)
   have HB := hide hb;have HC := hide hc;have HC' := hide hc'
   have YES := hide (fun (h : xs.take xs.length = ys.take xs.length) => (show xs = ys by rw [List.take_length] at h; rw [h, List.take_of_length_le (by rw [hl]; exact lR)]))
   rw [<- hl] at HC' |-;generalize hN : xs.length = n at *
   have hne : ((n : Int) != (n : Int)) = false := by simp
   clear hc hc' hb hl hm;go_enter Tryz.func89, Tryz.ntmps89;go_wp2
   go_loopw [13] (fun i wr => ∃ k nq : Nat, k <= n ∧ i = .int .i64 k ∧ xs.take k = ys.take k ∧ wr = w.drewN nq) (fun i _ => n - (intOf i).toNat)
   case atStart => exact ⟨0, 0, Nat.zero_le _, rfl, by simp, rfl⟩
   case round =>
    obtain ⟨k, nq, hk, rfl, ht, rfl⟩ := hrel;have HT := hide ht;clear ht
    by_cases hlt : k < n
    ·have hx := HC.out k hlt
     have hy := HC'.out k hlt
     have hlt' : (k : Int) < n := by omega
     by_cases he : xs.getD k 0 = ys.getD k 0
     ·have NX := hide (TS.out k HT.out hlt he)
      rw [<- he] at hy;generalize xs.getD k 0 = z at hx hy
      have hz : (z != z) = false := by simp
      clear he;go_wp2;go_quiet (fail);go_wp2;go_roundw
      case rel => exact ⟨k + 1, _, by omega, by go_num, NX.out, rfl⟩
      case measure => simp [intOf]; omega
     ·obtain rfl : b = false := by
       cases b
       ·rfl
       ·exact absurd (by rw [HB.out.1 rfl]) he
      generalize xs.getD k 0 = z at *;generalize ys.getD k 0 = z' at *
      have hz : (z != z') = true := by simpa using he
      go_wp2;go_quiet (fail);go_wp2;go_ret
      first | exact ⟨rfl, _, rfl⟩ | (refine ⟨rfl, ?_⟩; rw [World.drewN_drewN]; exact ⟨_, rfl⟩)
    ·obtain rfl : k = n := by omega
     obtain rfl : b = true := HB.out.2 (YES.out HT.out)
     have hlt' : ¬ (k : Int) < k := by omega
     go_wp2;go_ret;exact ⟨rfl, _, rfl⟩
 ·obtain rfl : b = false := by
   cases b
   ·rfl
   ·exact absurd (by rw [hb.1 rfl]) hl
  obtain ⟨ao, cap, rfl⟩ := S1;obtain ⟨ao', cap', rfl⟩ := S2
  have hne : ((xs.length : Int) != (ys.length : Int)) = true := by simp; omega
  clear h1 h2 hb;go_enter Tryz.func89, Tryz.ntmps89;go_wp2;go_ret;exact ⟨rfl, 0, rfl⟩
end Go.Proofs.YtbgngikejgihgafGreatDoor
