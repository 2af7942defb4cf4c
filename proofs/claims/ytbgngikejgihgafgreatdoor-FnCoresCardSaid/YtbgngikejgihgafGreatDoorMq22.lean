import Derived.Test.YtbgngikejgihgafGreatDoorMq21
namespace Go.Proofs.YtbgngikejgihgafGreatDoor
open Go Go.RowKit Go.Shelf Go.Sort
set_option linter.unusedVariables false
set_option maxRecDepth 100000
set_option maxHeartbeats 8000000
theorem Tryz.mSliceI (c : Option Addr) (w : World) : (Go.method 381 71 (.pointer c) "loop.example/s01685/impl.slice").run Tryz.prog w = .ok (53, .pointer c) w := by kernel_rfl
theorem Tryz.mRemoveI (c : Option Addr) (w : World) : (Go.method 381 71 (.pointer c) "loop.example/s01685/impl.remove").run Tryz.prog w = .ok (164, .pointer c) w := by kernel_rfl
theorem Tryz.nRemoveI (c : Addr) (w : World) : (Go.nilAhead 381 71 (.pointer (some c)) "loop.example/s01685/impl.remove").run Tryz.prog w = .ok (some false) w := by kernel_rfl
theorem delText0 (T : AT) (u : Option Addr) (bs : List Nat) (base c b o n cap : Nat) (lo : Int) (w : World) (hk : PK w c b o n cap u) (ht : Lies w base T u bs) (hr : 0 <= lo ∧ lo <= T.rns) :
  Calls Tryz.prog 45 #[.iface 71 (.pointer (some ⟨c, 0, none⟩)), .int .i64 lo, .int .i64 lo] w fun e w' => e = .returned .nilIface ∧ Below w.heap.size w w' := by
 have mL := Tryz.mLengthI;have HL := hide (JD T u bs base c b o n cap w hk ht)
 have HKB := hide (fun w => yy lo lo T.rns w)
 rw [show decide ((0 <= lo ∧ lo <= T.rns) ∧ (0 <= lo ∧ lo <= lo)) = true by rw [decide_eq_true_eq]; omega] at HKB
 simp only [errV, if_true] at HKB;clear hk ht hr;generalize T.rns = r at *;go_enter Tryz.func45, Tryz.ntmps45;go_wp2_with fail;refine HL.out.mono ?_;rintro e w1 ⟨rfl, h1⟩;have B1 := hide h1;clear h1;go_wp2_with fail;refine (HKB.out _).mono ?_;rintro e wx ⟨rfl, hwx⟩;have hw2 := hwx.symm;subst hw2;go_wp2;go_ret;exact ⟨rfl, B1.out⟩
theorem delTextI (zs : List Int) (T : AT) (u : Option Addr) (bs : List Nat) (base c b o cap : Nat) (lo hi : Int) (w : World) (h : PM w base c b o cap zs T u bs) (hok : T.ok) (hbal : T.bal) (hw : T.wp zs) (hr : 0 <= lo ∧ lo < hi ∧ hi <= T.rns) (hbase : base <= w.heap.size) :
  Calls Tryz.prog 45 #[.iface 71 (.pointer (some ⟨c, 0, none⟩)), .int .i64 lo, .int .i64 hi] w fun e w' => e = .returned .nilIface ∧ JV w base c b o cap zs (delP zs T lo hi) bs w' := by
 have mL := Tryz.mLengthI;have mS := Tryz.mSliceI;have mR := Tryz.mRemoveI;have nR := Tryz.nRemoveI;have bT := hok.bd;have HL := hide (JD T u bs base c b o zs.length cap w h.k h.t)
 have HKB := hide (fun w => yy lo hi T.rns w)
 rw [show decide ((0 <= hi ∧ hi <= T.rns) ∧ (0 <= lo ∧ lo <= hi)) = true by rw [decide_eq_true_eq]; omega] at HKB
 simp only [errV, if_true] at HKB
 have HCO : ∀ W, Below w.heap.size w W -> PCore W base c b o cap zs T := fun W hW => ⟨⟨u, bs, (h.below hW).k, (h.below hW).t⟩, (h.below hW).rt, (h.below hW).lb, hok, hw, ⟨by have := h.n; omega, h.cap1, h.cap2⟩⟩
 have HSL := hide (fun W (hW : Below w.heap.size w W) => sliceN T base c b o cap zs lo hi W (HCO W hW) ⟨by omega, by omega, by omega⟩)
 have hcl : (cutT (T.tx zs) lo hi).length = (hi - lo).toNat := by
  have h9 := AT.tx_len hw;unfold cutT;rw [List.length_take, List.length_drop]; omega
 obtain ⟨m, hm⟩ : ∃ m : Nat, (hi - lo).toNat = m := ⟨_, rfl⟩;rw [hm] at hcl
 have HSV := hide (fun W base' v (ho : own32 W base' v (cutT (T.tx zs) lo hi)) => show ∃ ao ct, v = .slice ao m ct from (by
  obtain ⟨a1, c1, e1⟩ := zj ho
  exact ⟨a1, c1, by rw [e1, hcl]⟩))
 have hhi : lo + (m : Int) = hi := by omega
 have HRM := hide (fun W ao ct (hW : Below w.heap.size w W) => removeC zs T u bs base c b o cap m ct ao lo W (h.below hW) hok hbal hw hr.1 (by omega) (by have := hW.size; omega))
 rw [hhi] at HRM
 have HFI := hide (fun W W' (hW : Below w.heap.size w W) (hi' : JV W base c b o cap zs (delP zs T lo hi) bs W') => show JV w base c b o cap zs (delP zs T lo hi) bs W' from (by
  obtain ⟨u', bs', hp, hs, hc⟩ := hi'
  exact ⟨u', bs', hp, fun x hx => (hs x hx).imp id (fun h9 => Nat.le_trans hW.size h9), (Chg.of_below (bs := []) hW).trans hc (fun _ h9 _ => by cases h9) (fun _ h9 _ => h9)⟩))
 have hlt : lo < hi := hr.2.1;clear HCO hcl hhi hm h hok hbal hw hr bT;generalize delP zs T lo hi = RES at *;generalize cutT (T.tx zs) lo hi = tx at *;generalize T.rns = r at *;go_enter Tryz.func45, Tryz.ntmps45;go_wp2_with fail;refine HL.out.mono ?_;rintro e w1 ⟨rfl, h1⟩;have B1 := hide h1;clear h1;go_wp2_with fail;refine (HKB.out _).mono ?_;rintro e wx ⟨rfl, hwx⟩;have hw2 := hwx.symm;subst hw2
 go_upto_region 5 with fail
 refine (wpIn_wide (n := 6)).1 ?_
 refine wpIn_region_any (by kernel_rfl) ?_
 refine wpAnyIn_take (i := 0) (fuel := 9) (v := .iface 71 (.pointer (some ⟨c, 0, none⟩))) rfl rfl (by kernel_rfl) (by kernel_rfl) (by kernel_rfl) (fun _ _ _ h => h) ⟨Or.inl ⟨by rfl, ?_⟩, fun w => by rfl⟩ ?_
 ·intro w; go_simp
 refine wpAnyIn_take (i := 1) (fuel := 8) (v := .int .i64 lo) rfl rfl (by kernel_rfl) (by kernel_rfl) (by kernel_rfl) (fun _ _ _ h => h) ⟨Or.inl ⟨by rfl, ?_⟩, fun w => by rfl⟩ ?_
 ·intro w; go_simp
 refine wpAnyIn_take (i := 2) (fuel := 7) (v := .iface 71 (.pointer (some ⟨c, 0, none⟩))) rfl rfl (by kernel_rfl) (by kernel_rfl) (by kernel_rfl) (fun _ _ _ h => h) ⟨Or.inl ⟨by rfl, ?_⟩, fun w => by rfl⟩ ?_
 ·intro w; go_simp
 refine wpAnyIn_take (i := 3) (fuel := 6) (v := .int .i64 lo) rfl rfl (by kernel_rfl) (by kernel_rfl) (by kernel_rfl) (fun _ _ _ h => h) ⟨Or.inl ⟨by rfl, ?_⟩, fun w => by rfl⟩ ?_
 ·intro w; go_simp
 refine wpAnyIn_take (i := 4) (fuel := 5) (v := .int .i64 hi) rfl rfl (by kernel_rfl) (by kernel_rfl) (by kernel_rfl) (fun _ _ _ h => h) ⟨Or.inl ⟨by rfl, ?_⟩, fun w => by rfl⟩ ?_
 ·intro w; go_simp
 refine wpAnyIn_take (i := 6) (fuel := 4) (v := .func (.method "loop.example/s01685/impl.remove") #[.iface 71 (.pointer (some ⟨c, 0, none⟩))] #[]) rfl rfl (by kernel_rfl) (by kernel_rfl) (by kernel_rfl) (fun _ _ _ h => h) ⟨Or.inl ⟨by rfl, ?_⟩, fun w => by rfl⟩ ?_
 ·intro w; go_simp
 refine wpAnyIn_take (i := 7) (fuel := 3) (v := .func (.method "loop.example/s01685/impl.remove") #[.iface 71 (.pointer (some ⟨c, 0, none⟩))] #[]) rfl rfl (by kernel_rfl) (by kernel_rfl) (by kernel_rfl) (fun _ _ _ h => h) ⟨Or.inl ⟨by rfl, ?_⟩, fun w => by rfl⟩ ?_
 ·intro w; go_simp
 refine wpAnyIn_take (i := 8) (fuel := 2) (v := .iface 71 (.pointer (some ⟨c, 0, none⟩))) rfl rfl (by kernel_rfl) (by kernel_rfl) (by kernel_rfl) (fun _ _ _ h => h) ⟨Or.inl ⟨by rfl, ?_⟩, fun w => by rfl⟩ ?_
 ·intro w; go_simp
 refine ZW (i := 5) (j := 9) rfl rfl (by kernel_rfl) ?_
 have B2 := hide (show RowKit.Below w.heap.size w { w1 with drawn := w1.drawn + 1 } from ⟨B1.out.os, B1.out.tape, B1.out.output, B1.out.size, B1.out.block⟩)
 generalize ({ w1 with drawn := w1.drawn + 1 } : World) = w2 at *
 clear B1 HKB HL
 gi_wp2_with fail
 refine ⟨trivial, (callsIn_wide.2 (HSL.out _ B2.out)).mono ?_⟩;rintro e w3 ⟨v3, rfl, ho3, hb3⟩;obtain ⟨a3, c3, rfl⟩ := HSV.out _ _ _ ho3;have B3 := hide (B2.out.trans (hb3.mono B2.out.size));clear hb3 ho3 HSL HSV
 gi_wp2_with fail
 refine ⟨trivial, (callsIn_wide.2 (HRM.out _ _ _ B3.out)).mono ?_⟩;rintro e w4 ⟨rfl, hc4⟩;have C4 := hide (HFI.out _ _ B3.out hc4);clear hc4 HRM
 gi_wp2_with fail
 go_wp2;go_ret;exact ⟨rfl, C4.out⟩
end Go.Proofs.YtbgngikejgihgafGreatDoor
namespace Go.Proofs.YtbgngikejgihgafGreatDoor
open Go Go.RowKit
set_option linter.unusedVariables false
set_option maxRecDepth 100000
set_option maxHeartbeats 8000000
def pdT (zs : List Int) (xs : List It) (lo hi : Int) : Option AT :=
 match pRead zs xs with
 | none => none
 | some T => if 0 <= lo ∧ lo <= hi ∧ hi <= T.rns then some (if lo = hi then T else delP zs T lo hi) else none
def pdC (zs : List Int) (xs : List It) (lo hi : Int) : Int :=
 match pRead zs xs with
 | none => 1
 | some T => if 0 <= lo ∧ lo <= hi ∧ hi <= T.rns then 0 else 2
def pdS (zs : List Int) (xs : List It) (lo hi : Int) : List Int := if (pdT zs xs lo hi).isSome then zs else []
def pdI (zs : List Int) (xs : List It) (lo hi : Int) : List It := match pdT zs xs lo hi with | none => [] | some T => T.told 0
theorem faceID (q : Option Addr) (n cap : Nat) (ao : Option Addr) (m cap' : Nat) (lo hi : Int) (RS : List Int) (RI : List It) (K : Int) (NX : Nat -> World -> Prop) (NY : Nat -> Value -> World -> Prop) (w : World)
  (HRP : Hid (Calls Tryz.prog 40 #[.agg #[.slice q n cap, .slice ao m cap']] ((w.alloc (.cells #[.slice q n cap, .slice ao m cap'] 33)).alloc (.cells #[.slice none 0 0, .slice none 0 0] 33)) fun e w1 => ∃ c, e = .returned (.tuple #[.pointer (some ⟨c, 0, none⟩), .nilIface]) ∧ NX c w1))
  (HNX : Hid (∀ c w1, NX c w1 -> Calls Tryz.prog 45 #[.iface 71 (.pointer (some ⟨c, 0, none⟩)), .int .i64 lo, .int .i64 hi] w1 fun e w2 => ∃ ev, e = .returned ev ∧ NY c ev w2))
  (HNY : Hid (∀ c ev w2, NY c ev w2 -> Below (w.heap.size + 2) ((w.alloc (.cells #[.slice q n cap, .slice ao m cap'] 33)).alloc (.cells #[.slice none 0 0, .slice none 0 0] 33)) w2 ∧ Calls Tryz.prog 42 #[.pointer (some ⟨c, 0, none⟩), ev] w2 (jO w2 RS RI K))) :
  Calls Tryz.prog 14 #[.agg #[.slice q n cap, .slice ao m cap'], .int .i64 lo, .int .i64 hi] w (jO w RS RI K) := by
 have B0 := hide (((Below.refl w.heap.size w).alloc lR (.cells #[.slice q n cap, .slice ao m cap'] 33)).alloc (by simp) (.cells #[.slice none 0 0, .slice none 0 0] 33))
 have K0 := hide (show ((w.alloc (.cells #[.slice q n cap, .slice ao m cap'] 33)).alloc (.cells #[.slice none 0 0, .slice none 0 0] 33)).heap[w.heap.size + 1]? = some (.cells #[.slice none 0 0, .slice none 0 0] 33 (0, 0)) by
  have := heap_alloc_new (w.alloc (.cells #[.slice q n cap, .slice ao m cap'] 33)) (.cells #[.slice none 0 0, .slice none 0 0] 33)
  rw [show (w.alloc (.cells #[.slice q n cap, .slice ao m cap'] 33)).heap.size = w.heap.size + 1 by simp] at this; exact this)
 go_enter Tryz.func14, Tryz.ntmps14;go_wp2_with fail;generalize (w.alloc (.cells #[.slice q n cap, .slice ao m cap'] 33)).alloc (.cells #[.slice none 0 0, .slice none 0 0] 33) = w0 at *;refine HRP.out.mono ?_;rintro e w1 ⟨c, rfl, hx⟩;have HX := hide (HNX.out c w1 hx);clear HRP HNX hx;go_wp2_with fail;refine HX.out.mono ?_;rintro e w2 ⟨ev, rfl, hy⟩;have HY := hide (HNY.out c ev w2 hy);clear HX HNY hy;go_wp2_with fail;refine HY.out.2.mono ?_;rintro e w3 ⟨vs, vi, rfl, ho, hi, hb3, hnn⟩;have NN := hide hnn;clear hnn;obtain ⟨as1, cs1, rfl⟩ := zj ho;obtain ⟨ai1, ci1, rfl⟩ := yO hi;have O1 := hide ho;have I1 := hide hi;have hs2 := HY.out.1.size;have l0 : w.heap.size + 1 < w0.heap.size := (Array.getElem?_eq_some_iff.1 K0.out).1
 have hb03 := HY.out.1.trans (hb3.mono (by omega))
 have k1 := (hb03.block (w.heap.size + 1) (by omega)).trans K0.out
 have c0 : w3.cell? ⟨w.heap.size + 1, 0, none⟩ = some (.slice none 0 0) := by rw [cell_of_row w3 _ 0 _ _ _ k1]; rfl
 have c1 : w3.cell? ⟨w.heap.size + 1, 1, none⟩ = some (.slice none 0 0) := by rw [cell_of_row w3 _ 1 _ _ _ k1]; rfl
 have f0 := frozen_of_row w3 (w.heap.size + 1) 0 _ _ k1;have f1 := frozen_of_row w3 (w.heap.size + 1) 1 _ _ k1
 have B1 := hide (B0.out.trans (hb03.mono (by omega)))
 clear HY hb3 k1 ho hi hb03;generalize RS.length = zl at *;generalize RI.length = tl' at *;go_wp2
 refine bodyPost_ret (v := .tuple #[.agg #[.slice as1 zl cs1, .slice ai1 tl' ci1], .int .i64 K]) (by simp [results, Tryz.results14, go_sem, c0, c1]) rfl ⟨_, _, rfl, ?_, ?_, ?_, NN.out⟩
 ·exact zC (zE O1.out (by omega)) (fun k hk => by have h1 := O1.out.lt k hk; rw [Below.heap_setCell _ _ _ _ (by simp; omega), Below.heap_setCell _ _ _ _ (by simp; omega)]; try rfl)
 ·exact zC (zE I1.out (by omega)) (fun k hk => by have h1 := I1.out.lt k hk; rw [Below.heap_setCell _ _ _ _ (by simp; omega), Below.heap_setCell _ _ _ _ (by simp; omega)]; try rfl)
 ·exact (B1.out.setCell (by simp) _).setCell (by simp) _
theorem implPD (B : Nat) (zs : List Int) (b o cap : Nat) (v : Value) (xs : List It) (lo hi : Int) (w : World) (hc : At32 w b o zs) (hb : b < w.heap.size) (hz : zs.length <= 1048576) (hcap : zs.length <= cap) (hm : cap <= maxLen) (hr : RdI B w v xs) (hB : B <= w.heap.size) (hn : xs.length <= 1048576) (hg : w.cell? ⟨0, 0, none⟩ = some (.iface 207 (.agg #[.pointer (some ⟨1, 68, none⟩)]))) (hOK : pdC zs xs lo hi = 0) :
  Calls Tryz.prog 14 #[.agg #[.slice (some ⟨b, o, none⟩) zs.length cap, v], .int .i64 lo, .int .i64 hi] w (jO w (pdS zs xs lo hi) (pdI zs xs lo hi) (pdC zs xs lo hi)) := by
 obtain ⟨ao, cap', rfl⟩ := hr.val;have hlt0 : 0 < w.heap.size := World.block_lt_of_cell? w _ hg
 have B0 := ((Below.refl w.heap.size w).alloc lR (.cells #[.slice (some ⟨b, o, none⟩) zs.length cap, .slice ao xs.length cap'] 33)).alloc (by simp) (.cells #[.slice none 0 0, .slice none 0 0] 33)
 have s0 : ((w.alloc (.cells #[.slice (some ⟨b, o, none⟩) zs.length cap, .slice ao xs.length cap'] 33)).alloc (.cells #[.slice none 0 0, .slice none 0 0] 33)).heap.size = w.heap.size + 2 := by simp
 have HRP := jY B zs b o cap _ xs _ (hc.below B0 hb) (by omega) hz hcap hm (hr.below B0 hB) (by omega) hn
 have G0 := (B0.cell (p := ⟨0, 0, none⟩) hlt0).trans hg;have C0 := hc.below B0 hb
 cases hT : pRead zs xs with
 | none =>
  rw [hT] at HRP
  have e1 : pdT zs xs lo hi = none := by unfold pdT; rw [hT]
  have e2 : pdC zs xs lo hi = 1 := by unfold pdC; rw [hT]
  exact absurd (e2.symm.trans hOK) (by decide)
 | some T =>
  rw [hT] at HRP;obtain ⟨hp1, hp2, hp3, hp4⟩ := jr hT;have hbal := (yk hp1).2.1
  have PMk : ∀ c u bs w1, ((w.alloc (.cells #[.slice (some ⟨b, o, none⟩) zs.length cap, .slice ao xs.length cap'] 33)).alloc (.cells #[.slice none 0 0, .slice none 0 0] 33)).heap.size <= c -> PK w1 c b o zs.length zs.length u -> Lies w1 ((w.alloc (.cells #[.slice (some ⟨b, o, none⟩) zs.length cap, .slice ao xs.length cap'] 33)).alloc (.cells #[.slice none 0 0, .slice none 0 0] 33)).heap.size T u bs -> bs.Nodup -> c ∉ bs -> Below ((w.alloc (.cells #[.slice (some ⟨b, o, none⟩) zs.length cap, .slice ao xs.length cap'] 33)).alloc (.cells #[.slice none 0 0, .slice none 0 0] 33)).heap.size ((w.alloc (.cells #[.slice (some ⟨b, o, none⟩) zs.length cap, .slice ao xs.length cap'] 33)).alloc (.cells #[.slice none 0 0, .slice none 0 0] 33)) w1 -> PM w1 (w.heap.size + 2) c b o zs.length zs T u bs := by
   intro c u bs w1 h1 h2 h3 h4 h5 h6;rw [s0] at h1 h3 h6;have h7 := h6.size
   exact ⟨h2, h3, h4, h5, fun hx => by have := (h3.lt _ hx).1; omega, by omega, C0.below h6 (by omega), by omega, lR, by unfold maxLen; omega, hp2⟩
  generalize hw0 : (w.alloc (.cells #[.slice (some ⟨b, o, none⟩) zs.length cap, .slice ao xs.length cap'] 33)).alloc (.cells #[.slice none 0 0, .slice none 0 0] 33) = w0 at *
  by_cases hoff : 0 <= lo ∧ lo <= hi ∧ hi <= T.rns
  ·have e1 : pdT zs xs lo hi = some (if lo = hi then T else delP zs T lo hi) := by unfold pdT; rw [hT]; exact if_pos hoff
   have e2 : pdC zs xs lo hi = 0 := by unfold pdC; rw [hT]; exact if_pos hoff
   rw [show pdS zs xs lo hi = zs by unfold pdS; rw [e1]; rfl, show pdI zs xs lo hi = (if lo = hi then T else delP zs T lo hi).told 0 by unfold pdI; rw [e1], e2]
   by_cases hzero : lo = hi
   ·subst hzero
    rw [if_pos rfl]
    refine faceID _ _ _ _ _ _ _ _ _ _ _ (fun c w1 => ∃ u bs, PM w1 (w.heap.size + 2) c b o zs.length zs T u bs ∧ T.ok ∧ Below (w.heap.size + 2) w0 w1) (fun c ev w2 => ev = .nilIface ∧ ∃ u bs, PM w2 (w.heap.size + 2) c b o zs.length zs T u bs ∧ T.ok ∧ Below (w.heap.size + 2) w0 w2) w (hide ?_) (hide ?_) (hide ?_)
    ·rw [hw0]
     refine HRP.mono ?_;rintro e w1 ⟨c, u, bs, rfl, h1, h2, h3, h4, h5, h6, h7⟩;exact ⟨c, rfl, u, bs, PMk c u bs w1 h1 h2 h3 h4 h5 h7, h6, s0 ▸ h7⟩
    ·rintro c w1 ⟨u, bs, h1, h2, h3⟩
     refine (delText0 T u bs _ c b o zs.length zs.length lo w1 h1.k h1.t ⟨hoff.1, hoff.2.2⟩).mono ?_;rintro e w2 ⟨rfl, hb2⟩;have := h3.size
     exact ⟨_, rfl, rfl, u, bs, h1.below hb2, h2, h3.trans (hb2.mono (by omega))⟩
    ·rintro c ev w2 ⟨rfl, u, bs, h1, h2, h3⟩
     rw [hw0];exact ⟨h3, ansOk zs T u bs _ c b o zs.length w2 h1 h2⟩
   ·rw [if_neg hzero]
    refine faceID _ _ _ _ _ _ _ _ _ _ _ (fun c w1 => ∃ u bs, PM w1 (w.heap.size + 2) c b o zs.length zs T u bs ∧ T.ok ∧ Below (w.heap.size + 2) w0 w1 ∧ w.heap.size + 2 <= c) (fun c ev w2 => ev = .nilIface ∧ ∃ u bs, PM w2 (w.heap.size + 2) c b o zs.length zs (delP zs T lo hi) u bs ∧ (delP zs T lo hi).ok ∧ Below (w.heap.size + 2) w0 w2) w (hide ?_) (hide ?_) (hide ?_)
    ·rw [hw0]
     refine HRP.mono ?_;rintro e w1 ⟨c, u, bs, rfl, h1, h2, h3, h4, h5, h6, h7⟩;exact ⟨c, rfl, u, bs, PMk c u bs w1 h1 h2 h3 h4 h5 h7, h6, s0 ▸ h7, s0 ▸ h1⟩
    ·rintro c w1 ⟨u, bs, h1, h2, h3, h4⟩
     have h5 := h3.size
     refine (delTextI zs T u bs _ c b o zs.length lo hi w1 h1 h2 hbal hp3 ⟨hoff.1, by omega, hoff.2.2⟩ (by omega)).mono ?_
     rintro e w2 ⟨rfl, u', bs', h6, h7, h8⟩;have h9 := h1.t
     refine ⟨_, rfl, rfl, u', bs', h6, (delF h2 hbal hp3 hp2 hoff.1 hoff.2.1 hoff.2.2).okR, h3.trans (h8.below (by omega) (fun k hk => ?_))⟩
     rcases List.mem_cons.1 hk with rfl | hk
     ·exact h4
     ·exact (h9.lt k hk).1
    ·rintro c ev w2 ⟨rfl, u, bs, h1, h2, h3⟩
     rw [hw0];exact ⟨h3, ansOk _ _ u bs _ c b o zs.length w2 h1 h2⟩
  ·have e1 : pdT zs xs lo hi = none := by unfold pdT; rw [hT]; exact if_neg hoff
   have e2 : pdC zs xs lo hi = 2 := by unfold pdC; rw [hT]; exact if_neg hoff
   exact absurd (e2.symm.trans hOK) (by decide)
theorem indexN (zs : List Int) (b o cap : Nat) (w : World) (hc : ∀ i, i < zs.length -> w.cell? ⟨b, o + i, none⟩ = some (.int .i32 (zs.getD i 0))) (hn : zs.length <= 1048576) (hcap : zs.length <= cap) (hm : cap <= maxLen) (hb : 0 < bkn zs) :
  Calls Tryz.prog 112 #[.slice (some ⟨b, o, none⟩) zs.length cap, .int .i32 10] w fun e w' => e = .returned (.int .i64 ((bb zs 0 : Nat) - 1)) ∧ w' = w := by
 have HC := hide hc
 have HF := hide (fun k hk => bb_first zs k hb hk)
 have h0 := zAe zs 0 hb;have hl := bb_le zs 0;generalize hR : bb zs 0 = R at *;generalize hN : zs.length = n at *;unfold maxLen at hm;clear hc hb;go_enter Tryz.func112, Tryz.ntmps112;go_wp2_with fail
 go_loop [8] (fun i => ∃ k : Nat, k < R ∧ i = .int .i64 k) (fun i => n - (intOf i).toNat)
 case atStart => exact ⟨0, h0, rfl⟩
 case round =>
  obtain ⟨k, hk, rfl⟩ := hrel;obtain ⟨f1, f2, f3⟩ := HF.out k hk;have hx := HC.out k f3;generalize zs.getD k 0 = z at *
  have hkn : (k : Int) < n := by omega
  by_cases hz : z = 10
  ·have e1 := f1 hz
   subst hz
   have HE := hide (show Ending.returned (.int .i64 ((R : Int) - 1)) = Ending.returned (.int .i64 (k : Int)) by rw [show (R : Int) - 1 = k by omega])
   clear f1 f2;go_wp2;go_ret
   exact ⟨by first | rfl | exact Eq.trans rfl HE.out.symm, rfl⟩
  ·have e1 := f2 hz
   have hz' : ¬ 10 = z := fun h => hz h.symm
   clear f1 f2;go_wp2;go_round
   case rel => exact ⟨k + 1, e1, by go_num⟩
   case measure => simp [intOf]; omega
theorem at_drop {w : World} {b o : Nat} {zs : List Int} (hc : ∀ i, i < zs.length -> w.cell? ⟨b, o + i, none⟩ = some (.int .i32 (zs.getD i 0))) (k : Nat) : ∀ i, i < (zs.drop k).length -> w.cell? ⟨b, o + k + i, none⟩ = some (.int .i32 ((zs.drop k).getD i 0)) := by
 intro i hi;rw [List.length_drop] at hi
 rw [Nat.add_assoc, hc (k + i) (by omega)]
 simp [List.getD_eq_getElem?_getD, List.getElem?_drop]
theorem behindN (zs : List Int) (b o cap j : Nat) (w : World) (hc : ∀ i, i < zs.length -> w.cell? ⟨b, o + i, none⟩ = some (.int .i32 (zs.getD i 0))) (hn : zs.length <= 1048576) (hcap : zs.length <= cap) (hm : cap <= maxLen) (hj : j < bkn zs) :
  Calls Tryz.prog 181 #[.slice (some ⟨b, o, none⟩) zs.length cap, .int .i64 (j : Int)] w fun e w' => e = .returned (.int .i64 (bb zs j : Nat)) ∧ w' = w := by
 have HC := hide hc
 have HS := hide (fun t ht => bb_step zs t ht)
 have hbn := XI zs
 have HLE := hide (fun t => ls_le zs t)
 have HSU := hide (fun t => Xe zs t)
 have HI := hide (fun (k : Nat) (h : 0 < bkn (zs.drop k)) (hk : k < zs.length) => indexN (zs.drop k) b (o + k) (cap - k) w (at_drop hc k) (by rw [List.length_drop]; omega) (by rw [List.length_drop]; omega) (by omega) h)
 have HBP := hide (fun (k : Nat) => bb_le (zs.drop k) 0)
 unfold maxLen at hm;generalize hB : bkn zs = B at *;clear hc;go_enter Tryz.func181, Tryz.ntmps181;go_wp2_with fail
 go_loop [1, 5] (fun x y => ∃ t : Nat, t <= j + 1 ∧ x = .int .i64 ((j : Int) - t) ∧ y = .int .i64 (ls zs t : Nat)) (fun x y => ((intOf x) + 1).toNat)
 case atStart => exact ⟨0, by omega, by simp, by simp [ls]⟩
 case round =>
  obtain ⟨t, ht, rfl, rfl⟩ := hrel
  by_cases htj : t = j + 1
  ·subst htj
   have hneg : ¬ (0 : Int) <= (j : Int) - ((j + 1 : Nat) : Int) := by omega
   have HE := hide (HSU.out j);go_wp2;go_ret
   exact ⟨by rw [<- HE.out]; rfl, rfl⟩
  ·obtain ⟨s1, s2, s3⟩ := HS.out t (by omega)
   have hge : (0 : Int) <= (j : Int) - (t : Int) := by omega
   have HIX := hide (HI.out (ls zs t) s2 s3);have hbl := HBP.out (ls zs t);have e2 := HSU.out t;rw [s1] at e2;have HE := hide e2;rw [List.length_drop] at HIX hbl;have hpos := zAe _ _ s2;generalize bb (zs.drop (ls zs t)) 0 = r at *;generalize ls zs t = at' at *;generalize zs.length = n at *;clear s1 s2 e2
   have g3 : ¬ cap = at' := by omega
   have g5 : (at' : Int) <= n := by omega
   go_wp2_with fail;refine HIX.out.mono ?_;rintro e w1 ⟨rfl, hw1⟩;have hw2 := hw1.symm;subst hw2;go_wp2;go_round
   case rel => exact ⟨t + 1, by omega, by go_num, by rw [HE.out]; go_num⟩
   case measure => simp [intOf]; omega
theorem measB (i n k : Int) (w : World) : Calls Tryz.prog 180 #[cnt i n k] w fun e w' => e = .returned (.int .i64 k) ∧ Below w.heap.size w w' := by
 unfold cnt;go_enter Tryz.func180, Tryz.ntmps180;go_wp2;go_ret;exact ⟨rfl, (Below.refl _ _).alloc lR _⟩
theorem sumM_okB {T : AT} (h : T.ok) : sumM (fun p => p.brk) (T.told 0) = T.bks := by
 rw [Xz, AT.bks_told]
theorem seekEB (T : AT) (u : Option Addr) (bs : List Nat) (base : Nat) (k : Int) (w : World) (hT : Lies w base T u bs) (hok : T.ok) (hk : 0 <= k ∧ k <= 8192) :
  Calls Tryz.prog 172 #[.pointer u, .int .i64 k, .func (.func 180) #[] #[]] w fun e w' => e = .returned (fndV (seekP (fun p => p.brk) T k).off (seekP (fun p => p.brk) T k).len (seekP (fun p => p.brk) T k).brk (seekT (fun p => p.brk) T k)) ∧ Below w.heap.size w w' := by
 have HRES := hide (jo (fun p => p.brk) T k)
 generalize seekT (fun p => p.brk) T k = res at HRES |-
 generalize hpe : seekP (fun p => p.brk) T k = pe
 have HPE := hide hpe.symm;clear hpe;have HT := hide hT;have HOK := hide hok;have bT := hok.bd
 have hhT : (T.ht : Int) <= 8192 := by have := zW T; omega
 have HB0 := hide (((Below.refl w.heap.size w).alloc lR (.cells #[.int .i64 0, .int .i64 0, .int .i64 0, .int .i64 0, .int .i64 0, .int .i64 0, .int .i64 0, .int .i64 0] 250)).alloc (by simp) (.cells #[.int .i64 0, .int .i64 0, .int .i64 0, .int .i64 0, .int .i64 0, .int .i64 0, .int .i64 0, .int .i64 0] 250))
 have hF0 : Fnd ((w.alloc (.cells #[.int .i64 0, .int .i64 0, .int .i64 0, .int .i64 0, .int .i64 0, .int .i64 0, .int .i64 0, .int .i64 0] 250)).alloc (.cells #[.int .i64 0, .int .i64 0, .int .i64 0, .int .i64 0, .int .i64 0, .int .i64 0, .int .i64 0, .int .i64 0] 250)) (w.heap.size + 1) 0 0 0 0 0 0 0 0 := by
  have := heap_alloc_new (w.alloc (.cells #[.int .i64 0, .int .i64 0, .int .i64 0, .int .i64 0, .int .i64 0, .int .i64 0, .int .i64 0, .int .i64 0] 250)) (.cells #[.int .i64 0, .int .i64 0, .int .i64 0, .int .i64 0, .int .i64 0, .int .i64 0, .int .i64 0, .int .i64 0] 250);simpa [Fnd] using this
 have hG0 : Fnd ((w.alloc (.cells #[.int .i64 0, .int .i64 0, .int .i64 0, .int .i64 0, .int .i64 0, .int .i64 0, .int .i64 0, .int .i64 0] 250)).alloc (.cells #[.int .i64 0, .int .i64 0, .int .i64 0, .int .i64 0, .int .i64 0, .int .i64 0, .int .i64 0, .int .i64 0] 250)) w.heap.size 0 0 0 0 0 0 0 0 := by
  unfold Fnd; rw [Below.heap_alloc _ _ _ (by simp)]; exact heap_alloc_new _ _
 have HF0 := hide hF0;have HG0 := hide hG0;clear hT hok hF0 hG0;go_enter Tryz.func172, Tryz.ntmps172;go_wp2_with fail;generalize (w.alloc (.cells #[.int .i64 0, .int .i64 0, .int .i64 0, .int .i64 0, .int .i64 0, .int .i64 0, .int .i64 0, .int .i64 0] 250)).alloc (.cells #[.int .i64 0, .int .i64 0, .int .i64 0, .int .i64 0, .int .i64 0, .int .i64 0, .int .i64 0, .int .i64 0] 250) = w0 at *
 go_loopg [0, 1] T.ht (fun g pv kv wr => ∃ (S : AT) (us : Option Addr) (cs : List Nat) (kk : Int) (i : Nat) (n b s : Int), pv = .pointer us ∧ kv = .int .i64 kk ∧ g = S.ht ∧ Lies w base S us cs ∧ S.ok ∧ (0 <= kk ∧ kk <= 8192) ∧
  ((i : Int) + S.its <= 8192 ∧ 0 <= n ∧ n + S.rns <= 8192 ∧ 0 <= b ∧ b + S.bks <= 8192 ∧ 0 <= s ∧ s + S.ht <= 8192) ∧ Fnd wr (w.heap.size + 1) 0 0 0 i n b 0 s ∧ Fnd wr w.heap.size 0 0 0 0 0 0 0 0 ∧ Below w.heap.size w wr ∧ res = zq (fun p => p.brk) S kk i n b s ∧ Hid (pe = seekP (fun p => p.brk) S kk))
 case atStart => exact ⟨T, u, bs, k, 0, 0, 0, 0, rfl, rfl, rfl, HT.out, HOK.out, hk, by omega, HF0.out, HG0.out, HB0.out, HRES.out, HPE⟩
 case round =>
  obtain ⟨S, us, cs, kk, i, n, b, s, rfl, rfl, rfl, hS, hSok, hkk, hbd, hF, hG, hbw, heq, hpe⟩ := hrel;clear HT HOK HRES HPE HB0 HF0 HG0 bT hhT;have hFl := hF.lt;have hGl := hG.lt
  cases S with
  | nil =>
   obtain ⟨rfl, rfl⟩ := hS;rw [ZM] at heq;have HEQ := hide heq;have HF := hide hF;have HG := hide hG;have HBW := hide hbw;obtain ⟨p0, p1, p2, f0, f1, f2, f3, f4⟩ := hF.c;obtain ⟨g0, g1, g2, g3, g4, g5, g6, g7⟩ := hG.c;have ff3 := hF.fz 6
   have hz := fun j => hG.fz j
   have z0 := hz 0;have z1 := hz 1;have z2 := hz 2;have z3 := hz 3;have z4 := hz 4;have z5 := hz 5;have z6 := hz 6;have z7 := hz 7;clear heq hF hG hbw hbd hz;go_wp2
   refine bodyPost_ret (v := fndV 0 0 0 (i, n, b, kk, s)) (by simp [results, Tryz.results172, go_sem, g0, g1, g2, g3, g4, g5, g6, g7]; rfl) rfl ⟨by rw [HEQ.out, hpe.out]; rfl, ?_⟩
   repeat (refine Below.setCell ?_ (by simp) _)
   exact HBW.out
  | node l p r =>
   obtain ⟨nb, ul, ur, bl, br, rfl, hbase, hnd, hl, hr, rfl⟩ := hS;have bL := hSok.left.bd;have bR := hSok.right.bd;have bP := hSok.piece;have hsl := sumM_okB hSok.left
   have hht : ((AT.node l p r).ht : Int) = 1 + max (l.ht : Int) r.ht := by simp only [AT.ht]; omega
   have hit : ((AT.node l p r).its : Int) = l.its + 1 + r.its := by simp only [AT.its]; omega
   have hrn : (AT.node l p r).rns = l.rns + p.len + r.rns := rfl;have hbk : (AT.node l p r).bks = l.bks + p.brk + r.bks := rfl;rw [hht, hit, hrn, hbk] at hbd
   have hms : 0 <= l.bks ∧ l.bks <= 8192 ∧ 0 <= p.brk ∧ p.brk <= 8192 := by omega
   have HTL : Hid (kk < sumM (fun p => p.brk) (l.told 0) ↔ kk < l.bks) := by rw [hsl]; exact Iff.rfl
   have HSL := hide hsl;have HEQ0 := hide heq;have HL := hide hl;have HR := hide hr;have HND := hide hnd;have HOK := hide hSok;have hltb := hnd.lt;have HF1 := hide (hF.set7 (s + 1))
   have HG1 := hide (show Fnd (wr.setCell ⟨w.heap.size + 1, 7, none⟩ (.int .i64 (s + 1))) w.heap.size 0 0 0 0 0 0 0 0 from by unfold Fnd; rw [heap_setCell_other _ _ _ _ (by simp)]; exact hG)
   have HB1 := hide (hbw.setCell (p := ⟨w.heap.size + 1, 7, none⟩) (by simp) (.int .i64 (s + 1)))
   obtain ⟨p0, p1, p2, f0, f1, f2, f3, f4⟩ := hF.c;have ff4 := hF.fz 7;have c3 := (hbw.cell (p := ⟨nb, 3, none⟩) hltb).trans hnd.c3;have c3' : (wr.setCell ⟨w.heap.size + 1, 7, none⟩ (.int .i64 (s + 1))).cell? ⟨nb, 3, none⟩ = some (.pointer ul) := (HB1.out.cell (p := ⟨nb, 3, none⟩) hltb).trans hnd.c3;clear heq hF hG hbw hl hr hnd hSok hsl hht hit hrn hbk;go_wp2_with fail;generalize wr.setCell ⟨w.heap.size + 1, 7, none⟩ (.int .i64 (s + 1)) = w1 at *;have hlw1 := HF1.out.lt;refine (allN l ul bl base w1 (HL.out.below HB1.out lR)).mono ?_;rintro e w2 ⟨rfl, hb2⟩
   have HF2 := hide (HF1.out.below hb2 (by omega))
   have HG2 := hide (HG1.out.below hb2 (by omega))
   have HB2 := hide (HB1.out.trans (hb2.mono (by omega)))
   clear hb2 HF1 HG1 HB1 c3' c3 p0 p1 p2 f0 f1 f2 f3 f4 ff4;have hlw2 := HF2.out.lt;go_wp2_with fail;refine (ownN p nb ul ur _ _ _ _ w2 ((HB2.out.block nb hltb).trans HND.out)).mono ?_;rintro e w3 ⟨rfl, hb3⟩;have hlw3 := hb3.size
   have HF3 := hide ((HF2.out.below hb3 (by omega)).below (((Below.refl w3.heap.size w3).alloc lR (.cells #[.int .i64 l.its, .int .i64 l.rns, .int .i64 l.bks] 159)).alloc (by simp) (.cells #[.int .i64 1, .int .i64 p.len, .int .i64 p.brk] 159)) (by omega))
   have HG3 := hide ((HG2.out.below hb3 (by omega)).below (((Below.refl w3.heap.size w3).alloc lR (.cells #[.int .i64 l.its, .int .i64 l.rns, .int .i64 l.bks] 159)).alloc (by simp) (.cells #[.int .i64 1, .int .i64 p.len, .int .i64 p.brk] 159)) (by omega))
   have HB3 := hide ((((HB2.out.trans (hb3.mono (by omega)))).alloc (by omega) (.cells #[.int .i64 l.its, .int .i64 l.rns, .int .i64 l.bks] 159)).alloc (by simp; omega) (.cells #[.int .i64 1, .int .i64 p.len, .int .i64 p.brk] 159))
   clear hb3 HF2 HG2 HB2
   have hA : ((w3.alloc (.cells #[.int .i64 l.its, .int .i64 l.rns, .int .i64 l.bks] 159)).alloc (.cells #[.int .i64 1, .int .i64 p.len, .int .i64 p.brk] 159)).heap[w3.heap.size]? = some (.cells #[.int .i64 l.its, .int .i64 l.rns, .int .i64 l.bks] 159 (0, 0)) := by
    rw [Below.heap_alloc _ _ _ (by simp)]; exact heap_alloc_new _ _
   have hO : ((w3.alloc (.cells #[.int .i64 l.its, .int .i64 l.rns, .int .i64 l.bks] 159)).alloc (.cells #[.int .i64 1, .int .i64 p.len, .int .i64 p.brk] 159)).heap[w3.heap.size + 1]? = some (.cells #[.int .i64 1, .int .i64 p.len, .int .i64 p.brk] 159 (0, 0)) := by
    have := heap_alloc_new (w3.alloc (.cells #[.int .i64 l.its, .int .i64 l.rns, .int .i64 l.bks] 159)) (.cells #[.int .i64 1, .int .i64 p.len, .int .i64 p.brk] 159);simpa using this
   have hs4 : ((w3.alloc (.cells #[.int .i64 l.its, .int .i64 l.rns, .int .i64 l.bks] 159)).alloc (.cells #[.int .i64 1, .int .i64 p.len, .int .i64 p.brk] 159)).heap.size = w3.heap.size + 2 := by simp
   have RN4 := hide (Rnd.mk HF3.out HG3.out HB3.out hA hO (by omega) (by omega))
   clear hA hO hs4 HF3 HG3 HB3;unfold cnt;go_wp2_with fail;generalize (w3.alloc (.cells #[.int .i64 l.its, .int .i64 l.rns, .int .i64 l.bks] 159)).alloc (.cells #[.int .i64 1, .int .i64 p.len, .int .i64 p.brk] 159) = w4 at *;generalize w3.heap.size = a at *;have ha := RN4.out.lo;refine (measB _ _ _ w4).mono ?_;rintro e w5 ⟨rfl, hb5⟩;have RN5 := hide (RN4.out.below hb5);clear hb5 RN4;have c3 := (RN5.out.h.cell (p := ⟨nb, 3, none⟩) hltb).trans HND.out.c3;have sz5 := RN5.out.sz
   by_cases hlt : kk < l.bks
   ·have HEQ := hide (HEQ0.out.trans (jp _ _ _ _ _ _ _ _ _ (HTL.out.2 hlt)))
    have HPL : Hid (pe = seekP (fun p => p.brk) l kk) := hide (hpe.out.trans (by simp only [seekP]; rw [if_pos (HTL.out.2 hlt)]))
    clear HEQ0 HTL hpe;go_wp2;go_roundg l.ht
    case measure => simp only [AT.ht]; omega
    case rel => exact ⟨l, ul, bl, kk, i, n, b, s + 1, rfl, rfl, rfl, HL.out, HOK.out.left, hkk, by omega, RN5.out.f, RN5.out.g, RN5.out.h, HEQ.out, HPL⟩
   ·have hnl := fun h => hlt (HTL.out.1 h)
    obtain ⟨l0, l1, l2⟩ := cc3 RN5.out.l;go_wp2_with fail;refine (measB _ _ _ w5).mono ?_;rintro e w6 ⟨rfl, hb6⟩;have RN6 := hide (RN5.out.below hb6);clear hb6 RN5 c3 l0 l1 l2;obtain ⟨l0, l1, l2⟩ := cc3 RN6.out.l;obtain ⟨p0, p1, p2, f0, f1, f2, f3, f4⟩ := RN6.out.f.c;have sz6 := RN6.out.sz;go_wp2_with fail
    refine (plusN _ _ _ _ _ _ w6 (by omega) (by omega) (by omega) (by omega) (by omega) (by omega)).mono ?_
    rintro e w7 ⟨rfl, hb7⟩;have RN7 := hide (RN6.out.below hb7);clear hb7 RN6 l0 l1 l2 p0 p1 p2 f0 f1 f2 f3 f4;obtain ⟨p0, p1, p2, f0, f1, f2, f3, f4⟩ := RN7.out.f.c;have ff0 := RN7.out.f.fz 3;have ff1 := RN7.out.f.fz 4;have ff2 := RN7.out.f.fz 5;have RN8 := hide (RN7.out.set345 (i + l.its) (n + l.rns) (b + l.bks));have sz7 := RN7.out.sz;obtain ⟨o0, o1, o2⟩ := cc3 RN8.out.o;unfold cnt;go_wp2_with fail;generalize ((w7.setCell ⟨w.heap.size + 1, 3, none⟩ (.int .i64 (i + l.its))).setCell ⟨w.heap.size + 1, 4, none⟩ (.int .i64 (n + l.rns))).setCell ⟨w.heap.size + 1, 5, none⟩ (.int .i64 (b + l.bks)) = w8 at *;clear RN7 p0 p1 p2 f0 f1 f2 f3 f4 ff0 ff1 ff2;refine (measB _ _ _ w8).mono ?_;rintro e w9 ⟨rfl, hb9⟩;have RN9 := hide (RN8.out.below hb9);clear hb9 RN8 o0 o1 o2;have sz9 := RN9.out.sz
    by_cases hin : kk - l.bks < p.brk
    ·have HEQ := hide (HEQ0.out.trans (jq _ _ _ _ _ _ _ _ _ hnl (by rw [HSL.out]; exact hin)))
     have HPH : Hid (pe = p) := hide (hpe.out.trans (by simp only [seekP]; rw [if_neg hnl, if_pos (by rw [HSL.out]; exact hin)]))
     rw [HSL.out] at HEQ;clear HEQ0 HTL HSL hnl hpe;obtain ⟨p0, p1, p2, f0, f1, f2, f3, f4⟩ := RN9.out.f.c;obtain ⟨g0, g1, g2, g3, g4, g5, g6, g7⟩ := RN9.out.g.c;have ff3 := RN9.out.f.fz 6;have z0 := RN9.out.g.fz 0;have z1 := RN9.out.g.fz 1;have z2 := RN9.out.g.fz 2;have z3 := RN9.out.g.fz 3;have z4 := RN9.out.g.fz 4;have z5 := RN9.out.g.fz 5;have z6 := RN9.out.g.fz 6;have z7 := RN9.out.g.fz 7;have e0 := RN9.out.f.fz 0;have e1 := RN9.out.f.fz 1;have e2 := RN9.out.f.fz 2;have d0 := (RN9.out.h.cell (p := ⟨nb, 0, none⟩) hltb).trans HND.out.c0;have d1 := (RN9.out.h.cell (p := ⟨nb, 1, none⟩) hltb).trans HND.out.c1;have d2 := (RN9.out.h.cell (p := ⟨nb, 2, none⟩) hltb).trans HND.out.c2
     have hnb1 : nb ≠ w.heap.size + 1 := by omega
     have hnb0 : nb ≠ w.heap.size := by omega
     go_wp2
     refine bodyPost_ret (v := fndV p.off p.len p.brk (i + l.its, n + l.rns, b + l.bks, kk - l.bks, s + 1)) (by simp [results, Tryz.results172, go_sem, g0, g1, g2, g3, g4, g5, g6, g7]; rfl) rfl ⟨by rw [HEQ.out, HPH.out], ?_⟩
     repeat (refine Below.setCell ?_ (by simp) _)
     exact RN9.out.h
    ·have HEQ := hide (HEQ0.out.trans (j5 _ _ _ _ _ _ _ _ _ hnl (by rw [HSL.out]; exact hin)))
     have HPR : Hid (pe = seekP (fun p => p.brk) r (kk - l.bks - p.brk)) := hide (hpe.out.trans (by simp only [seekP]; rw [if_neg hnl, if_neg (by rw [HSL.out]; exact hin), HSL.out]))
     rw [HSL.out] at HEQ;clear HEQ0 HTL HSL hnl hpe;obtain ⟨o0, o1, o2⟩ := cc3 RN9.out.o;go_wp2_with fail;refine (measB _ _ _ w9).mono ?_;rintro e w10 ⟨rfl, hb10⟩;have RN10 := hide (RN9.out.below hb10);clear hb10 RN9 o0 o1 o2;obtain ⟨o0, o1, o2⟩ := cc3 RN10.out.o;obtain ⟨p0, p1, p2, f0, f1, f2, f3, f4⟩ := RN10.out.f.c;have sz10 := RN10.out.sz;go_wp2_with fail
     refine (plusN _ _ _ _ _ _ w10 (by omega) (by omega) (by omega) (by omega) (by omega) (by omega)).mono ?_
     rintro e w11 ⟨rfl, hb11⟩;have RN11 := hide (RN10.out.below hb11);clear hb11 RN10 o0 o1 o2 p0 p1 p2 f0 f1 f2 f3 f4;obtain ⟨p0, p1, p2, f0, f1, f2, f3, f4⟩ := RN11.out.f.c;have ff0 := RN11.out.f.fz 3;have ff1 := RN11.out.f.fz 4;have ff2 := RN11.out.f.fz 5;have RN12 := hide (RN11.out.set345 (i + l.its + 1) (n + l.rns + p.len) (b + l.bks + p.brk));have sz11 := RN11.out.sz;have c4 := (RN12.out.h.cell (p := ⟨nb, 4, none⟩) hltb).trans HND.out.c4;unfold cnt;go_wp2;go_roundg r.ht
     case measure => simp only [AT.ht]; omega
     case rel => exact ⟨r, ur, br, kk - l.bks - p.brk, i + l.its + 1, n + l.rns + p.len, b + l.bks + p.brk, s + 1, rfl, rfl, rfl, HR.out, HOK.out.right, by omega, by omega, RN12.out.f, RN12.out.g, RN12.out.h, HEQ.out, HPR⟩
end Go.Proofs.YtbgngikejgihgafGreatDoor
