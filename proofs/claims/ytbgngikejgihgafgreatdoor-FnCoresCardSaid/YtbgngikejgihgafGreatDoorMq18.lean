import Derived.Test.YtbgngikejgihgafGreatDoorMq17
namespace Go.Proofs.YtbgngikejgihgafGreatDoor
open Go Go.RowKit
set_option linter.unusedVariables false
set_option maxRecDepth 100000
set_option maxHeartbeats 8000000
theorem Tryz.infoS : (Tryz.prog.info? 25).map (fun i => (i.zero, i.size, i.bytes)) = some (some (.slice none 0 0), 1, 24) := by kernel_rfl
def ix (zs : List Int) : Int := if fb zs < zs.length then fb zs else -1
theorem zAf (zs : List Int) (b o cap : Nat) (w : World) (hc : ∀ i, i < zs.length -> w.cell? ⟨b, o + i, none⟩ = some (.int .i32 (zs.getD i 0))) (hn : zs.length <= 1048576) (hcap : zs.length <= cap) (hm : cap <= maxLen) :
  Calls Tryz.prog 112 #[.slice (some ⟨b, o, none⟩) zs.length cap, .int .i32 10] w fun e w' => e = .returned (.int .i64 (ix zs)) ∧ w' = w := by
 have HC := hide hc
 have HL := hide (fun k (hk : k < fb zs) => fb_no hk)
 have HA := hide (fun (h : fb zs < zs.length) => fb_at h)
 have hl := fb_le zs;unfold ix;generalize hR : fb zs = R at *;generalize hN : zs.length = n at *;unfold maxLen at hm
 obtain ⟨X, hX⟩ : ∃ X : Int, X = if R < n then (R : Int) else -1 := ⟨_, rfl⟩
 rw [<- hX];have HX := hide hX;clear hc hX;go_enter Tryz.func112, Tryz.ntmps112;go_wp2_with fail
 go_loop [8] (fun i => ∃ k : Nat, k <= R ∧ i = .int .i64 k) (fun i => n - (intOf i).toNat)
 case atStart => exact ⟨0, Nat.zero_le _, rfl⟩
 case round =>
  obtain ⟨k, hk, rfl⟩ := hrel
  by_cases hkn : k < n
  ·have hx := HC.out k hkn
   by_cases hkR : k = R
   ·subst hkR
    have e1 := HA.out hkn;rw [e1] at hx;have HK := hide hkn
    have hkn' : (k : Int) < n := by omega
    clear hkn;go_wp2;go_ret
    exact ⟨by have h9 := HX.out; rw [if_pos HK.out] at h9; rw [h9]; rfl, rfl⟩
   ·have hne := HL.out k (by omega)
    generalize zs.getD k 0 = z at *
    have hz' : ¬ 10 = z := fun h => hne h.symm
    have hkn' : (k : Int) < n := by omega
    go_wp2;go_round
    case rel => exact ⟨k + 1, by omega, by go_num⟩
    case measure => simp [intOf]; omega
  ·have hkn' : ¬ (k : Int) < n := by omega
   have HK := hide (show ¬ R < n by omega)
   go_wp2;go_ret
   exact ⟨by have h9 := HX.out; rw [if_neg HK.out] at h9; rw [h9]; rfl, rfl⟩
theorem indexNil (w : World) : Calls Tryz.prog 112 #[.slice none 0 0, .int .i32 10] w fun e w' => e = .returned (.int .i64 (-1)) ∧ w' = w := by
 go_enter Tryz.func112, Tryz.ntmps112;go_wp2_with fail;refine wp_loop_rounds 1 ?_;rw [rounds_succ];go_wp2;go_ret;exact ⟨rfl, rfl⟩
theorem zBv (ao : Option Addr) (n cap : Nat) (w : World) :
  Calls Tryz.prog 78 #[.slice ao n cap] w fun e w' => e = .returned (.agg #[.slice ao n cap, .int .i64 n, .int .i64 n]) ∧ Below w.heap.size w w' := by
 have HB := hide ((Below.refl w.heap.size w).alloc lR (.cells #[.slice ao n cap, .int .i64 n, .int .i64 n] 133));go_enter Tryz.func78, Tryz.ntmps78;go_wp2
 refine bodyPost_ret (v := .agg #[.slice ao n cap, .int .i64 n, .int .i64 n]) (by simp [results, Tryz.results78, go_sem]) rfl ⟨rfl, HB.out⟩
theorem nanSN (x : Int) (w : World) : Calls Tryz.prog 207 #[.int .i64 x] w fun e w' => e = .returned (.bool false) ∧ w' = w := by
 go_enter Tryz.func207, Tryz.ntmps207;go_wp2;go_ret
 exact ⟨by simp, rfl⟩
theorem nanCN (x : Int) (w : World) : Calls Tryz.prog 208 #[.int .i64 x] w fun e w' => e = .returned (.bool false) ∧ w' = w := by
 go_enter Tryz.func208, Tryz.ntmps208;go_wp2;go_ret
 exact ⟨by simp, rfl⟩
theorem lessIN (x y : Int) (w : World) : Calls Tryz.prog 206 #[.int .i64 x, .int .i64 y] w fun e w' => e = .returned (.bool (decide (x < y))) ∧ w' = w := by
 go_enter Tryz.func206, Tryz.ntmps206;go_wp2_with (refine (nanCN _ _).mono ?_; rintro e w1 ⟨rfl, rfl⟩);go_ret
 exact ⟨by simp, rfl⟩
theorem searchIN (g cap n : Nat) (x : Int) (f : Nat -> Int) (w : World) (hc : ∀ j, j < n -> w.cell? ⟨g, j, none⟩ = some (.int .i64 (f j))) (hn : n <= cap) (hcap : n <= 1048576) (hmono : ∀ i j, i < j -> j < n -> f i < f j) :
  Calls Tryz.prog 205 #[.slice (some ⟨g, 0, none⟩) n cap, .int .i64 x] w fun e w' => ∃ k : Nat, e = .returned (.tuple #[.int .i64 k, .bool (decide (k < n ∧ f k = x))]) ∧ k <= n ∧ (∀ j, j < k -> f j < x) ∧ (∀ j, k <= j -> j < n -> x <= f j) ∧ w' = w := by
 have HC := hide hc;have HM := hide hmono;clear hc hmono;go_enter Tryz.func205, Tryz.ntmps205;go_wp2_with fail
 go_loopw [7, 8] (fun i j wr => ∃ lo hi : Nat, i = .int .i64 lo ∧ j = .int .i64 hi ∧ lo <= hi ∧ hi <= n ∧ wr = w ∧ (∀ q, q < lo -> f q < x) ∧ (∀ q, hi <= q -> q < n -> x <= f q))
  (fun i j _ => (intOf j).toNat - (intOf i).toNat)
 case atStart => exact ⟨0, n, rfl, rfl, Nat.zero_le _, lR, rfl, fun q hq => by omega, fun q hq hx => by omega⟩
 case round =>
  obtain ⟨lo, hi, rfl, rfl, hlh, hin, rfl, h1, h2⟩ := hrel;have H1 := hide h1;have H2 := hide h2;clear h1 h2
  by_cases hlt : lo < hi
  ·have a0 := HC.out ((lo + hi) / 2) (by omega)
   have hlt' : (lo : Int) < (hi : Int) := by omega
   have hmid : ((lo : Int) + (hi : Int)) / 2 < (n : Int) := by omega
   have hm0 : (0 : Int) <= ((lo : Int) + (hi : Int)) / 2 := by omega
   have hmt : (((lo : Int) + (hi : Int)) / 2).toNat = (lo + hi) / 2 := by omega
   have HY := hide (show ∃ y, f ((lo + hi) / 2) = y from ⟨_, rfl⟩)
   obtain ⟨y, hy⟩ := HY.out;rw [hy] at a0;have HYE := hide hy;clear hy HY
   by_cases hneg : y < x
   ·go_wp2_with (refine (lessIN _ _ _).mono ?_; rintro e w1 ⟨rfl, rfl⟩)
    go_roundw
    case rel =>
     refine ⟨(lo + hi) / 2 + 1, hi, by rw [show ((lo : Int) + (hi : Int)) / 2 + 1 = (((lo + hi) / 2 + 1 : Nat) : Int) by omega], rfl, by omega, hin, trivial, fun q hq => ?_, H2.out⟩
     by_cases e : q = (lo + hi) / 2
     ·rw [e, HYE.out]; exact hneg
     ·have := HM.out q ((lo + hi) / 2) (by omega) (by omega); rw [HYE.out] at this; omega
    case measure => simp [intOf]; omega
   ·go_wp2_with (refine (lessIN _ _ _).mono ?_; rintro e w1 ⟨rfl, rfl⟩)
    go_roundw
    case rel =>
     refine ⟨lo, (lo + hi) / 2, rfl, by rw [show ((lo : Int) + (hi : Int)) / 2 = (((lo + hi) / 2 : Nat) : Int) by omega], by omega, by omega, trivial, H1.out, fun q hq hqn => ?_⟩
     by_cases e : q = (lo + hi) / 2
     ·rw [e, HYE.out]; omega
     ·have := HM.out ((lo + hi) / 2) q (by omega) hqn; rw [HYE.out] at this; omega
    case measure => simp [intOf]; omega
  ·obtain rfl : lo = hi := by omega
   have hge : ¬ (lo : Int) < (lo : Int) := by omega
   by_cases hln : lo < n
   ·have a0 := HC.out lo hln
    have hlt' : (lo : Int) < (n : Int) := by omega
    obtain ⟨y, hy⟩ : ∃ y, f lo = y := ⟨_, rfl⟩;rw [hy] at a0;have HYE := hide hy;clear hy
    by_cases hyx : y = x
    ·subst hyx
     go_wp2_with (refine (nanSN _ _).mono ?_; rintro e w1 ⟨rfl, rfl⟩);go_ret2
     exact ⟨lo, by simp [hln, HYE.out], hin, H1.out, H2.out, rfl⟩
    ·have hyb : (y == x) = false := by simpa using hyx
     go_wp2_with (refine (nanSN _ _).mono ?_; rintro e w1 ⟨rfl, rfl⟩);go_ret2
     exact ⟨lo, by simp [hyx, HYE.out], hin, H1.out, H2.out, rfl⟩
   ·obtain rfl : lo = n := by omega
    go_wp2_with fail;go_ret2
    exact ⟨lo, by simp, hin, H1.out, H2.out, rfl⟩
theorem faceI (q : Option Addr) (n cap : Nat) (ao : Option Addr) (m cap' : Nat) (off : Int) (tx : Option Addr) (tl ct : Nat) (RS : List Int) (RI : List It) (K : Int) (NX : Nat -> World -> Prop) (NY : Nat -> Value -> World -> Prop) (w : World)
  (HRP : Hid (Calls Tryz.prog 40 #[.agg #[.slice q n cap, .slice ao m cap']] ((w.alloc (.cells #[.slice q n cap, .slice ao m cap'] 33)).alloc (.cells #[.slice none 0 0, .slice none 0 0] 33)) fun e w1 => ∃ c, e = .returned (.tuple #[.pointer (some ⟨c, 0, none⟩), .nilIface]) ∧ NX c w1))
  (HNX : Hid (∀ c w1, NX c w1 -> Calls Tryz.prog 41 #[.iface 71 (.pointer (some ⟨c, 0, none⟩)), .int .i64 off, .slice tx tl ct] w1 fun e w2 => ∃ ev, e = .returned ev ∧ NY c ev w2))
  (HNY : Hid (∀ c ev w2, NY c ev w2 -> Below (w.heap.size + 2) ((w.alloc (.cells #[.slice q n cap, .slice ao m cap'] 33)).alloc (.cells #[.slice none 0 0, .slice none 0 0] 33)) w2 ∧ Calls Tryz.prog 42 #[.pointer (some ⟨c, 0, none⟩), ev] w2 (jO w2 RS RI K))) :
  Calls Tryz.prog 12 #[.agg #[.slice q n cap, .slice ao m cap'], .int .i64 off, .slice tx tl ct] w (jO w RS RI K) := by
 have B0 := hide (((Below.refl w.heap.size w).alloc lR (.cells #[.slice q n cap, .slice ao m cap'] 33)).alloc (by simp) (.cells #[.slice none 0 0, .slice none 0 0] 33))
 have K0 := hide (show ((w.alloc (.cells #[.slice q n cap, .slice ao m cap'] 33)).alloc (.cells #[.slice none 0 0, .slice none 0 0] 33)).heap[w.heap.size + 1]? = some (.cells #[.slice none 0 0, .slice none 0 0] 33 (0, 0)) by
  have := heap_alloc_new (w.alloc (.cells #[.slice q n cap, .slice ao m cap'] 33)) (.cells #[.slice none 0 0, .slice none 0 0] 33)
  rw [show (w.alloc (.cells #[.slice q n cap, .slice ao m cap'] 33)).heap.size = w.heap.size + 1 by simp] at this; exact this)
 go_enter Tryz.func12, Tryz.ntmps12;go_wp2_with fail;generalize (w.alloc (.cells #[.slice q n cap, .slice ao m cap'] 33)).alloc (.cells #[.slice none 0 0, .slice none 0 0] 33) = w0 at *;refine HRP.out.mono ?_;rintro e w1 ⟨c, rfl, hx⟩;have HX := hide (HNX.out c w1 hx);clear HRP HNX hx;go_wp2_with fail;refine HX.out.mono ?_;rintro e w2 ⟨ev, rfl, hy⟩;have HY := hide (HNY.out c ev w2 hy);clear HX HNY hy;go_wp2_with fail;refine HY.out.2.mono ?_;rintro e w3 ⟨vs, vi, rfl, ho, hi, hb3, hnn⟩;have NN := hide hnn;clear hnn;obtain ⟨as1, cs1, rfl⟩ := zj ho;obtain ⟨ai1, ci1, rfl⟩ := yO hi;have O1 := hide ho;have I1 := hide hi;have hs2 := HY.out.1.size;have l0 : w.heap.size + 1 < w0.heap.size := (Array.getElem?_eq_some_iff.1 K0.out).1
 have hb03 := HY.out.1.trans (hb3.mono (by omega))
 have k1 := (hb03.block (w.heap.size + 1) (by omega)).trans K0.out
 have c0 : w3.cell? ⟨w.heap.size + 1, 0, none⟩ = some (.slice none 0 0) := by rw [cell_of_row w3 _ 0 _ _ _ k1]; rfl
 have c1 : w3.cell? ⟨w.heap.size + 1, 1, none⟩ = some (.slice none 0 0) := by rw [cell_of_row w3 _ 1 _ _ _ k1]; rfl
 have f0 := frozen_of_row w3 (w.heap.size + 1) 0 _ _ k1;have f1 := frozen_of_row w3 (w.heap.size + 1) 1 _ _ k1
 have B1 := hide (B0.out.trans (hb03.mono (by omega)))
 clear HY hb3 k1 ho hi hb03;generalize RS.length = zl at *;generalize RI.length = tl' at *;go_wp2
 refine bodyPost_ret (v := .tuple #[.agg #[.slice as1 zl cs1, .slice ai1 tl' ci1], .int .i64 K]) (by simp [results, Tryz.results12, go_sem, c0, c1]) rfl ⟨_, _, rfl, ?_, ?_, ?_, NN.out⟩
 ·exact zC (zE O1.out (by omega)) (fun k hk => by have h1 := O1.out.lt k hk; rw [Below.heap_setCell _ _ _ _ (by simp; omega), Below.heap_setCell _ _ _ _ (by simp; omega)]; try rfl)
 ·exact zC (zE I1.out (by omega)) (fun k hk => by have h1 := I1.out.lt k hk; rw [Below.heap_setCell _ _ _ _ (by simp; omega), Below.heap_setCell _ _ _ _ (by simp; omega)]; try rfl)
 ·exact (B1.out.setCell (by simp) _).setCell (by simp) _
theorem Xf {w : World} {b o : Nat} {ts : List Int} (h : At32 w b o ts) : ∀ j v, (ints .i32 ts)[j]? = some v -> w.cell? ((⟨b, o, none⟩ : Addr).add j) = some v := by
 intro j v hv;unfold ints at hv;rw [List.getElem?_map] at hv
 cases hj : ts[j]? with
 | none => rw [hj] at hv; cases hv
 | some z =>
  rw [hj] at hv;have hjl := (List.getElem?_eq_some_iff.1 hj).1;have := h j hjl;rw [List.getD_eq_getElem?_getD, hj] at this;simp only [Option.map_some, Option.some.injEq] at hv;subst hv;rw [jJ];exact this
theorem implPI (B : Nat) (zs ts : List Int) (b o cap : Nat) (v : Value) (xs : List It) (off : Int) (bt ot ct : Nat) (w : World) (hc : At32 w b o zs) (hb : b < w.heap.size) (hz : zs.length <= 1048576) (hcap : zs.length <= cap) (hm : cap <= maxLen) (hr : RdI B w v xs) (hB : B <= w.heap.size) (hn : xs.length <= 1048576) (ht : At32 w bt ot ts) (hbt : bt < w.heap.size) (htl : ts.length <= 1048576) (hg : w.cell? ⟨0, 0, none⟩ = some (.iface 207 (.agg #[.pointer (some ⟨1, 68, none⟩)]))) (hOK : piC zs xs off ts = 0) (h0t : 0 < ts.length) :
  Calls Tryz.prog 12 #[.agg #[.slice (some ⟨b, o, none⟩) zs.length cap, v], .int .i64 off, .slice (some ⟨bt, ot, none⟩) ts.length ct] w (jO w (piS zs xs off ts) (piI zs xs off ts) (piC zs xs off ts)) := by
 obtain ⟨ao, cap', rfl⟩ := hr.val;have hlt0 : 0 < w.heap.size := World.block_lt_of_cell? w _ hg
 have B0 := ((Below.refl w.heap.size w).alloc lR (.cells #[.slice (some ⟨b, o, none⟩) zs.length cap, .slice ao xs.length cap'] 33)).alloc (by simp) (.cells #[.slice none 0 0, .slice none 0 0] 33)
 have s0 : ((w.alloc (.cells #[.slice (some ⟨b, o, none⟩) zs.length cap, .slice ao xs.length cap'] 33)).alloc (.cells #[.slice none 0 0, .slice none 0 0] 33)).heap.size = w.heap.size + 2 := by simp
 have HRP := jY B zs b o cap _ xs _ (hc.below B0 hb) (by omega) hz hcap hm (hr.below B0 hB) (by omega) hn
 have G0 := (B0.cell (p := ⟨0, 0, none⟩) hlt0).trans hg;have C0 := hc.below B0 hb;have T0 := ht.below B0 hbt
 cases hT : pRead zs xs with
 | none =>
  rw [hT] at HRP
  have e1 : piT zs xs off ts = none := by unfold piT; rw [hT]
  have e2 : piC zs xs off ts = 1 := by unfold piC; rw [hT]
  exact absurd (e2.symm.trans hOK) (by decide)
 | some T =>
  rw [hT] at HRP;obtain ⟨hp1, hp2, hp3, hp4⟩ := jr hT;have hbal := (yk hp1).2.1
  have PMk : ∀ c u bs w1, ((w.alloc (.cells #[.slice (some ⟨b, o, none⟩) zs.length cap, .slice ao xs.length cap'] 33)).alloc (.cells #[.slice none 0 0, .slice none 0 0] 33)).heap.size <= c -> PK w1 c b o zs.length zs.length u -> Lies w1 ((w.alloc (.cells #[.slice (some ⟨b, o, none⟩) zs.length cap, .slice ao xs.length cap'] 33)).alloc (.cells #[.slice none 0 0, .slice none 0 0] 33)).heap.size T u bs -> bs.Nodup -> c ∉ bs -> Below ((w.alloc (.cells #[.slice (some ⟨b, o, none⟩) zs.length cap, .slice ao xs.length cap'] 33)).alloc (.cells #[.slice none 0 0, .slice none 0 0] 33)).heap.size ((w.alloc (.cells #[.slice (some ⟨b, o, none⟩) zs.length cap, .slice ao xs.length cap'] 33)).alloc (.cells #[.slice none 0 0, .slice none 0 0] 33)) w1 -> PM w1 (w.heap.size + 2) c b o zs.length zs T u bs := by
   intro c u bs w1 h1 h2 h3 h4 h5 h6;rw [s0] at h1 h3 h6;have h7 := h6.size
   exact ⟨h2, h3, h4, h5, fun hx => by have := (h3.lt _ hx).1; omega, by omega, C0.below h6 (by omega), by omega, lR, by unfold maxLen; omega, hp2⟩
  generalize hw0 : (w.alloc (.cells #[.slice (some ⟨b, o, none⟩) zs.length cap, .slice ao xs.length cap'] 33)).alloc (.cells #[.slice none 0 0, .slice none 0 0] 33) = w0 at *
  by_cases hoff : 0 <= off ∧ off <= T.rns
  ·by_cases hroom : T.rns + ts.length <= 8192 ∧ zs.length + ts.length <= 220000
   ·have e1 : piT zs xs off ts = some (if ts.length = 0 then T else insP (zs ++ ts) zs.length T off) := by unfold piT; rw [hT]; exact if_pos ⟨hoff, hroom⟩
    have e2 : piC zs xs off ts = 0 := by unfold piC; rw [hT]; exact (if_pos hoff).trans (if_pos hroom)
    rw [show piS zs xs off ts = zs ++ ts by unfold piS; rw [e1]; rfl, show piI zs xs off ts = (if ts.length = 0 then T else insP (zs ++ ts) zs.length T off).told 0 by unfold piI; rw [e1], e2]
    by_cases hzero : ts.length = 0
    ·exact absurd hzero (by omega)
    ·rw [if_neg hzero]
     have hwp : T.wp (zs ++ ts) := hp3.app ts
     refine faceI _ _ _ _ _ _ _ _ _ _ _ _ _ (fun c w1 => ∃ u bs, PM w1 (w.heap.size + 2) c b o zs.length zs T u bs ∧ T.ok ∧ Below (w.heap.size + 2) w0 w1 ∧ w.heap.size + 2 <= c) (fun c ev w2 => ev = .nilIface ∧ ∃ g u bs cp, PM w2 (w.heap.size + 2) c g 0 cp (zs ++ ts) (insP (zs ++ ts) zs.length T off) u bs ∧ (insP (zs ++ ts) zs.length T off).ok ∧ Below (w.heap.size + 2) w0 w2) w (hide ?_) (hide ?_) (hide ?_)
     ·rw [hw0]
      refine HRP.mono ?_;rintro e w1 ⟨c, u, bs, rfl, h1, h2, h3, h4, h5, h6, h7⟩;exact ⟨c, rfl, u, bs, PMk c u bs w1 h1 h2 h3 h4 h5 h7, h6, s0 ▸ h7, s0 ▸ h1⟩
     ·rintro c w1 ⟨u, bs, h1, h2, h3, h4⟩
      have h5 := h3.size
      refine (insTextI zs ts T u bs _ c b o ct off ⟨bt, ot, none⟩ w1 h1 h2 hbal hp3 hoff (by omega) (by omega) hroom.1 hroom.2 (by show bt < _; omega) (Xf (T0.below h3 (by omega)))).mono ?_
      rintro e w2 ⟨rfl, u', bs', g, cp, h6, h7, h8⟩;have h9 := h1.t
      refine ⟨_, rfl, rfl, g, u', bs', cp, h6, zBi h2 hwp hoff.1 hoff.2 (by rw [List.length_append]; omega) (by rw [List.length_append]; omega) (by rw [List.length_append]; omega), h3.trans (h8.below (by omega) (fun k hk => ?_))⟩
      rcases List.mem_cons.1 hk with rfl | hk
      ·exact h4
      ·exact (h9.lt k hk).1
     ·rintro c ev w2 ⟨rfl, g, u, bs, cp, h1, h2, h3⟩
      rw [hw0];exact ⟨h3, ansOk _ _ u bs _ c g 0 cp w2 h1 h2⟩
   ·have e1 : piT zs xs off ts = none := by unfold piT; rw [hT]; exact if_neg (fun h => hroom h.2)
    have e2 : piC zs xs off ts = 10 := by unfold piC; rw [hT]; exact (if_pos hoff).trans (if_neg hroom)
    exact absurd (e2.symm.trans hOK) (by decide)
  ·have e1 : piT zs xs off ts = none := by unfold piT; rw [hT]; exact if_neg (fun h => hoff h.1)
   have e2 : piC zs xs off ts = 2 := by unfold piC; rw [hT]; exact if_neg hoff
   exact absurd (e2.symm.trans hOK) (by decide)
end Go.Proofs.YtbgngikejgihgafGreatDoor
namespace Go.Proofs.YtbgngikejgihgafGreatDoor
open Go Go.RowKit Go.Shelf Go.Sort
set_option linter.unusedVariables false
set_option maxRecDepth 100000
set_option maxHeartbeats 8000000
def JV (w : World) (base c b o cap : Nat) (S : List Int) (T : AT) (bs : List Nat) (w' : World) : Prop :=
 ∃ u' bs', PM w' base c b o cap S T u' bs' ∧ (∀ x ∈ bs', x ∈ bs ∨ w.heap.size <= x) ∧ Chg (c :: bs) w w'
theorem healN (S : List Int) (T : AT) (u : Option Addr) (bs : List Nat) (base c b o cap R : Nat) (w : World) (h : PM w base c b o cap S T u bs) (hok : T.ok) (hbal : T.bal) (hw : T.wp S) (hR : R <= 8192) :
  Calls Tryz.prog 177 #[.pointer (some ⟨c, 0, none⟩), .int .i64 (R : Int)] w fun e w' => e = .returned (.tuple #[]) ∧ JV w base c b o cap S (healP S T R) bs w' := by
 have c1 := h.k.c1;have bT := hok.bd;have HA := hide (allN T u bs base w h.t)
 have HWI := hide (fun w => yP (R : Int) 1 ((T.its : Int) - 1) w)
 have HP := hide h;have HOK := hide hok;have HBAL := hide hbal;have HW := hide hw;have hclt := h.k.lt
 have wi : IntKind.i64.wrap ((T.its : Int) - 1) = (T.its : Int) - 1 := i64w _ (by omega) (by omega)
 have wr : IntKind.i64.wrap ((R : Int) - 1) = (R : Int) - 1 := i64w _ (by omega) (by omega)
 have HSH := hide (KI (R := R) hok hw h.n)
 have HRES := hide (show healP S T R = if healB T R = true then (T.put (R - 1) (pcAt S (ahead T R).off ((ahead T R).len + (atP T R).len))).rem R else T from rfl)
 generalize healP S T R = RES at *
 by_cases hin : 0 < R ∧ R < T.its
 ·rw [show decide ((1 : Int) <= (R : Int) ∧ (R : Int) <= (T.its : Int) - 1) = true by rw [decide_eq_true_eq]; omega] at HWI
  have ha := zu (T := T) (R := R) hin.1 (by omega)
  have hq := Y3 (T := T) (R := R) hin.2;have hpk := hok.1 _ (List.mem_of_getElem? ha);have hqk := hok.1 _ (List.mem_of_getElem? hq);simp only [pcOk, decide_eq_true_eq] at hpk hqk
  have ec : (((R - 1 : Nat)) : Int) = (R : Int) - 1 := by omega
  have HPP := hide (fun W (hW : Below w.heap.size w W) => XW T u bs base c b o S.length cap (R - 1) (ahead T R) W (h.k.below hW h.k.lt) (h.t.below hW lR) hok ha)
  have HPQ := hide (fun W (hW : Below w.heap.size w W) => XW T u bs base c b o S.length cap R (atP T R) W (h.k.below hW h.k.lt) (h.t.below hW lR) hok hq)
  rw [ec] at HPP
  have HME := hide (fun W => meetsN (ahead T R) (atP T R) W (by omega))
  have HHB := hide (show healB T R = decide ((ahead T R).off + (ahead T R).len = (atP T R).off) by simp only [healB]; congr 1; simp only [hin, true_and])
  have HWT := hide (fun W => withN (ahead T R) (atP T R) W (by omega) (by omega))
  have hwp := (zR S T).1 hw _ (List.mem_of_getElem? ha);have hwq := (zR S T).1 hw _ (List.mem_of_getElem? hq)
  have HNW := hide (fun (hm : (ahead T R).off + (ahead T R).len = (atP T R).off) => show (⟨(ahead T R).off, (ahead T R).len + (atP T R).len, (ahead T R).brk + (atP T R).brk⟩ : Pc) = pcAt S (ahead T R).off ((ahead T R).len + (atP T R).len) by
   rw [<- Jm hwp hm (by omega)]
   rw [show (atP T R).brk = brk ((S.drop (atP T R).off.toNat).take (atP T R).len.toNat) from hwq.2.2.2])
  have HPO := hide (fun hb => zBk (S := S) (R := R) hok hw h.n hb (by omega))
  have HRPL := hide (fun (W : World) (e : Pc) (hok' : (T.put (R - 1) e).okw) (hl : Lies W base T u bs) => Jq T (R - 1) e u bs base W hok.w hok' (by omega) hl h.nd)
  rw [ec] at HRPL
  have HRM := hide (fun (W : World) (e : Pc) (hok' : (T.put (R - 1) e).okw) (hl : Lies W base (T.put (R - 1) e) u bs) => KJ (T.put (R - 1) e) R u bs base W (AT.put_bal _ _ _ hbal) hok' (by rw [AT.put_its]; exact hin.2) hl h.nd)
  have HPR := hide (fun e => show (T.put (R - 1) e).rns = T.rns - (ahead T R).len + e.len by
   rw [AT.rns_lsum, AT.rns_lsum, yL T (R - 1) e _ ha, zL, zH];have e9 := (zX ha).1
   have : lsum T.flat = lsum (T.flat.take (R - 1)) + ((ahead T R).len + lsum (T.flat.drop (R - 1 + 1))) := by
    conv => lhs; rw [e9]
    rw [zL, zH]
   omega)
  generalize healB T R = hb at *;generalize ahead T R = p at *;generalize atP T R = q at *
  have HOKW := hide (fun (hb' : hb = true) (hm : p.off + p.len = q.off) => show (T.put (R - 1) ⟨p.off, p.len + q.len, p.brk + q.brk⟩).okw from ⟨by rw [HNW.out hm]; exact HPO.out hb', by rw [HPR.out]; simp only; omega⟩)
  clear h hok hbal hw ha hq ec hwp hwq HPO HPR;generalize hits : T.its = ti at *;clear hits;go_enter Tryz.func177, Tryz.ntmps177;go_wp2_with fail;refine HA.out.mono ?_;rintro e w1 ⟨rfl, hb1⟩;have B1 := hide hb1;have s1 := hb1.size;have fl0 := Tryz.fld0;unfold cnt;clear hb1 c1;go_wp2_with fail;refine (HWI.out _).mono ?_;rintro e wx ⟨rfl, hwx⟩;have hw2 := hwx.symm;subst hw2;clear HWI;go_wp2_with fail;refine (HPP.out _ B1.out).mono ?_;rintro e w2 ⟨rfl, hb2⟩;have B2 := hide (B1.out.trans (hb2.mono s1));have s2 := hb2.size;clear hb2 HPP;go_wp2_with fail;refine (HPQ.out _ B2.out).mono ?_;rintro e w3 ⟨rfl, hb3⟩;have B3 := hide (B2.out.trans (hb3.mono B2.out.size));have s3 := hb3.size;clear hb3 HPQ
  have B4 := hide ((B3.out.alloc B3.out.size (.cells #[.int .i64 p.off, .int .i64 p.len, .int .i64 p.brk] 87)).alloc (by have := B3.out.size; simp; omega) (.cells #[.int .i64 q.off, .int .i64 q.len, .int .i64 q.brk] 87))
  have KP := hide (show ((w3.alloc (.cells #[.int .i64 p.off, .int .i64 p.len, .int .i64 p.brk] 87)).alloc (.cells #[.int .i64 q.off, .int .i64 q.len, .int .i64 q.brk] 87)).heap[w3.heap.size]? = some (.cells #[.int .i64 p.off, .int .i64 p.len, .int .i64 p.brk] 87 (0, 0)) by
   rw [Below.heap_alloc _ _ _ (by simp)]; exact heap_alloc_new _ _)
  have KQ := hide (show ((w3.alloc (.cells #[.int .i64 p.off, .int .i64 p.len, .int .i64 p.brk] 87)).alloc (.cells #[.int .i64 q.off, .int .i64 q.len, .int .i64 q.brk] 87)).heap[w3.heap.size + 1]? = some (.cells #[.int .i64 q.off, .int .i64 q.len, .int .i64 q.brk] 87 (0, 0)) by
   have := heap_alloc_new (w3.alloc (.cells #[.int .i64 p.off, .int .i64 p.len, .int .i64 p.brk] 87)) (.cells #[.int .i64 q.off, .int .i64 q.len, .int .i64 q.brk] 87)
   rw [show (w3.alloc (.cells #[.int .i64 p.off, .int .i64 p.len, .int .i64 p.brk] 87)).heap.size = w3.heap.size + 1 by simp] at this; exact this)
  have s4 : w3.heap.size + 2 <= ((w3.alloc (.cells #[.int .i64 p.off, .int .i64 p.len, .int .i64 p.brk] 87)).alloc (.cells #[.int .i64 q.off, .int .i64 q.len, .int .i64 q.brk] 87)).heap.size := by simp
  go_upto_region 2 with fail
  generalize (w3.alloc (.cells #[.int .i64 p.off, .int .i64 p.len, .int .i64 p.brk] 87)).alloc (.cells #[.int .i64 q.off, .int .i64 q.len, .int .i64 q.brk] 87) = w4 at *;generalize w3.heap.size = fb at *
  have e0 : w4.cell? ⟨fb, 0, none⟩ = some (.int .i64 p.off) := by rw [cell_of_row w4 _ 0 _ _ _ KP.out]; rfl
  have e1 : w4.cell? ⟨fb, 1, none⟩ = some (.int .i64 p.len) := by rw [cell_of_row w4 _ 1 _ _ _ KP.out]; rfl
  have e2 : w4.cell? ⟨fb, 2, none⟩ = some (.int .i64 p.brk) := by rw [cell_of_row w4 _ 2 _ _ _ KP.out]; rfl
  have g0 : w4.cell? ⟨fb + 1, 0, none⟩ = some (.int .i64 q.off) := by rw [cell_of_row w4 _ 0 _ _ _ KQ.out]; rfl
  have g1 : w4.cell? ⟨fb + 1, 1, none⟩ = some (.int .i64 q.len) := by rw [cell_of_row w4 _ 1 _ _ _ KQ.out]; rfl
  have g2 : w4.cell? ⟨fb + 1, 2, none⟩ = some (.int .i64 q.brk) := by rw [cell_of_row w4 _ 2 _ _ _ KQ.out]; rfl
  clear B1 B2 B3;go_wp2_with fail;refine (HME.out _).mono ?_;rintro e w5 ⟨rfl, hb5⟩;have s5 := hb5.size;have B5 := hide (B4.out.trans (hb5.mono B4.out.size));have P5 := hide (HP.out.below B5.out);have e3 := P5.out.k.c1
  have d0 := (hb5.cell (p := ⟨fb, 0, none⟩) (by show fb < _; omega)).trans e0
  have d1 := (hb5.cell (p := ⟨fb, 1, none⟩) (by show fb < _; omega)).trans e1
  have d2 := (hb5.cell (p := ⟨fb, 2, none⟩) (by show fb < _; omega)).trans e2
  have d3 := (hb5.cell (p := ⟨fb + 1, 0, none⟩) (by show fb + 1 < _; omega)).trans g0
  have d4 := (hb5.cell (p := ⟨fb + 1, 1, none⟩) (by show fb + 1 < _; omega)).trans g1
  have d5 := (hb5.cell (p := ⟨fb + 1, 2, none⟩) (by show fb + 1 < _; omega)).trans g2
  have q0 := fun d os => cell_regrown d0 d os
  have q1 := fun d os => cell_regrown d1 d os
  have q2 := fun d os => cell_regrown d2 d os
  have q3 := fun d os => cell_regrown d3 d os
  have q4 := fun d os => cell_regrown d4 d os
  have q5 := fun d os => cell_regrown d5 d os
  have q6 := fun d os => cell_regrown e3 d os
  clear hb5 e0 e1 e2 g0 g1 g2 d0 d1 d2 d3 d4 d5 e3 KP KQ B4 HME;rw [<- HHB.out]
  cases hbc : hb with
  | true =>
   have hm : p.off + p.len = q.off := by have h9 := HHB.out; rw [hbc] at h9; simpa using h9.symm
   have HOKP := hide (HOKW.out hbc hm)
   have HE := hide (show RES = (T.put (R - 1) ⟨p.off, p.len + q.len, p.brk + q.brk⟩).rem R by rw [HRES.out, if_pos hbc, HNW.out hm])
   have HR1 := hide (fun W hl => HRPL.out W ⟨p.off, p.len + q.len, p.brk + q.brk⟩ HOKP.out hl)
   have HR2 := hide (fun W hl => HRM.out W ⟨p.off, p.len + q.len, p.brk + q.brk⟩ HOKP.out hl)
   rw [<- HE.out] at HR2
   have HWQ := hide (fun d os => CallsIn.regrown_of (F := Fence.wide) (r := 5) (w := w5) (d := d) (os := os) (callsIn_wide.2 (HWT.out (grow (redrawn w5 d) os))))
   simp only at HR1;generalize T.put (R - 1) ⟨p.off, p.len + q.len, p.brk + q.brk⟩ = T1 at *;clear hm hbc HOKW HNW HRPL HRM HHB HRES
   go_upto_region 3 with fail
   refine (wpIn_wide (n := 6)).1 ?_
   refine yC 9 (by kernel_rfl) (by kernel_rfl) ?_
   simp only [List.take_succ_cons, List.take_zero, List.drop_succ_cons, List.drop_zero]
   repeat (refine wpQuietIn_step (fun _ _ _ _ => trivial) (fun K hK => ?_); go_simp; first | (refine hK _ ?_; clear hK K) | (apply Exists.intro; refine ⟨fun _ => ?_, hK _ ?_⟩; (first | exact ⟨trivial, HWQ.out _ _⟩ | exact HWQ.out _ _); clear hK K))
   refine wpQuietIn_nil ?_;intro _ hw';obtain ⟨⟨dq, osq⟩, hw''⟩ := hw';subst hw'';have B7 := hide (below_regrown w5 dq osq);clear q0 q1 q2 q3 q4 q5 q6 HWQ;generalize grow (redrawn w5 dq) osq = w7 at *;have P7 := hide (P5.out.below B7.out);have A7 := hide (B5.out.trans (B7.out.mono B5.out.size));have s7 := A7.out.size;clear P5
   gi_wp2_with fail
   refine ⟨trivial, (callsIn_wide.2 (HR1.out _ P7.out.t)).mono ?_⟩;rintro e w8 ⟨rfl, hl8, hc8⟩;have K8 := hide (P7.out.k.chg hc8 P7.out.cb);have R8 := hide (P7.out.rt.chg hc8 P7.out.lb P7.out.bb)
   have C8 := hide (show Chg (c :: bs) w w8 from (Chg.of_below (bs := c :: bs) A7.out).trans hc8 (fun _ h9 _ => h9) (fun _ h9 _ => List.mem_cons_of_mem _ h9))
   have s8 := hc8.size;have c18 := K8.out.c1;have X8 := hide (HR2.out _ hl8);clear hl8 hc8 HR1 HR2
   gi_wp2_with fail
   go_wp2_with fail;refine X8.out.mono ?_;rintro e w9 ⟨u9, bs9, rfl, hl9, nd9, sb9, hc9⟩;have s9 := hc9.size;have hP7c := HP.out.k.lt;have hP7b := HP.out.lb
   have SB9 := hide (show ∀ x ∈ bs9, x ∈ bs ∨ w.heap.size <= x from fun x hx => (sb9 x hx).imp id (fun h9 => by omega))
   have ncb : c ∉ bs9 := fun h9 => by
    rcases SB9.out c h9 with h8 | h8
    ·exact HP.out.cb h8
    ·omega
   have nbb : b ∉ bs9 := fun h9 => by
    rcases SB9.out b h9 with h8 | h8
    ·exact HP.out.bb h8
    ·omega
   have K9 := hide (K8.out.chg hc9 HP.out.cb)
   have R9 := hide (R8.out.chg hc9 (by omega) HP.out.bb)
   have C9 := hide (show Chg (c :: bs) w w9 from C8.out.trans hc9 (fun _ h9 _ => h9) (fun _ h9 _ => List.mem_cons_of_mem _ h9))
   have L9 := hide hl9;have ND9 := hide nd9;have d1 := K9.out.c1;have z1 := K9.out.fz 1;clear hl9 nd9 sb9 hc9 X8 c18;go_wp2
   refine bodyPost_end (v := .tuple #[]) (by simp [results, Tryz.results177]) rfl ⟨rfl, u9, bs9, ⟨K9.out.set1 u9, L9.out.other ⟨c, 1, none⟩ (.pointer u9) ncb, ND9.out, ncb, nbb, HP.out.bc, fun i hi => by rw [<- R9.out i hi]; unfold World.cell?; rw [heap_setCell_other w9 ⟨c, 1, none⟩ b _ HP.out.bc], Nat.lt_of_lt_of_le (show b < w9.heap.size by omega) (Nat.le_of_eq (by simp)), HP.out.cap1, HP.out.cap2, HP.out.n⟩, SB9.out, C9.out.setCell ⟨c, 1, none⟩ (.pointer u9) (.inl (by simp))⟩
  | false =>
   have HE := hide (show RES = T by rw [HRES.out, if_neg (by rw [hbc]; simp)])
   clear hbc HOKW HNW HRPL HRM HHB HRES HWT q0 q1 q2 q3 q4 q5 q6;go_wp2
   refine bodyPost_end (v := .tuple #[]) (by simp [results, Tryz.results177]) rfl ⟨rfl, u, bs, ?_, fun x hx => .inl hx, Chg.of_below B5.out⟩
   rw [HE.out];exact P5.out
 ·have HE := hide (show RES = T by
   rw [HRES.out, if_neg];simp only [healB, decide_eq_true_eq]
   exact fun h9 => hin h9.1)
  rw [show decide ((1 : Int) <= (R : Int) ∧ (R : Int) <= (T.its : Int) - 1) = false by rw [decide_eq_false_iff_not]; omega] at HWI
  clear h hok hbal hw hin;generalize hits : T.its = ti at *;clear hits;go_enter Tryz.func177, Tryz.ntmps177;go_wp2_with fail;refine HA.out.mono ?_;rintro e w1 ⟨rfl, hb1⟩;have B1 := hide hb1;have fl0 := Tryz.fld0;unfold cnt;clear hb1 c1;go_wp2_with fail;refine (HWI.out _).mono ?_;rintro e wx ⟨rfl, hwx⟩;have hw2 := hwx.symm;subst hw2;go_wp2
  refine bodyPost_ret (v := .tuple #[]) (by simp [results, Tryz.results177]) rfl ⟨rfl, u, bs, ?_, fun x hx => .inl hx, Chg.of_below B1.out⟩
  rw [HE.out];exact HP.out.below B1.out
end Go.Proofs.YtbgngikejgihgafGreatDoor
