import Derived.Test.YtbgngikejgihgahGreatDoorMq37
import Derived.Test.YtbgngikejgihgahGreatDoorMq39
import Derived.Test.YtbgngikejgihgahGreatDoorMq33
import Derived.Test.YtbgngikejgihgahGreatDoorMq34
namespace Go.Proofs.YtbgngikejgihgahGreatDoor
open Go Go.RowKit Go.Shelf Go.Sort
set_option linter.unusedVariables false

theorem Tryz.mSliceI (c : Option Addr) (w : World) : (Go.method 679 102 (.pointer c) "loop.example/s01685/impl.slice").run Tryz.prog w = .ok (117, .pointer c) w := by kernel_rfl
theorem Tryz.mRemoveI (c : Option Addr) (w : World) : (Go.method 679 102 (.pointer c) "loop.example/s01685/impl.remove").run Tryz.prog w = .ok (432, .pointer c) w := by kernel_rfl

theorem Tryz.nRemoveI (c : Addr) (w : World) : (Go.nilAhead 679 102 (.pointer (some c)) "loop.example/s01685/impl.remove").run Tryz.prog w = .ok (some false) w := by kernel_rfl

set_option maxHeartbeats 1000000 in
set_option maxRecDepth 100000 in
/-- deleteText that refuses the range. -/
theorem delTextR (T : AT) (u : Option Addr) (bs : List Nat) (base c b o n cap : Nat) (lo hi : Int) (w : World) (hk : PK w c b o n cap u) (ht : Lies w base T u bs) (hr : ¬ (0 ≤ lo ∧ lo ≤ hi ∧ hi ≤ T.rns)) :
    Calls Tryz.prog 62 #[.iface 102 (.pointer (some ⟨c, 0, none⟩)), .int .i64 lo, .int .i64 hi] w fun e w' => (∃ msg, e = .returned (.iface 189 (.agg #[.string msg, .iface 187 (.int .i64 2)]))) ∧ Below w.heap.size w w' := by
  have mL := Tryz.mLengthI
  have HL := hide (lengthM T u bs base c b o n cap w hk ht)
  have HKB := hide (fun w => checkRangeN lo hi T.rns w)
  rw [show decide ((0 ≤ hi ∧ hi ≤ T.rns) ∧ (0 ≤ lo ∧ lo ≤ hi)) = false by rw [decide_eq_false_iff_not]; omega] at HKB
  simp only [errV, Bool.false_eq_true, if_false] at HKB
  clear hk ht hr
  generalize T.rns = r at *
  go_enter Tryz.func62, Tryz.ntmps62
  go_wp2_with fail
  refine HL.out.mono ?_
  rintro e w1 ⟨rfl, h1⟩
  have B1 := hide h1
  clear h1
  go_wp2_with fail
  refine (HKB.out _).mono ?_
  rintro e wx ⟨rfl, hwx⟩
  have hw2 := hwx.symm
  subst hw2
  go_wp2
  go_ret
  exact ⟨⟨_, rfl⟩, B1.out⟩

set_option maxHeartbeats 1000000 in
set_option maxRecDepth 100000 in
/-- deleteText of nothing. -/
theorem delText0 (T : AT) (u : Option Addr) (bs : List Nat) (base c b o n cap : Nat) (lo : Int) (w : World) (hk : PK w c b o n cap u) (ht : Lies w base T u bs) (hr : 0 ≤ lo ∧ lo ≤ T.rns) :
    Calls Tryz.prog 62 #[.iface 102 (.pointer (some ⟨c, 0, none⟩)), .int .i64 lo, .int .i64 lo] w fun e w' => e = .returned .nilIface ∧ Below w.heap.size w w' := by
  have mL := Tryz.mLengthI
  have HL := hide (lengthM T u bs base c b o n cap w hk ht)
  have HKB := hide (fun w => checkRangeN lo lo T.rns w)
  rw [show decide ((0 ≤ lo ∧ lo ≤ T.rns) ∧ (0 ≤ lo ∧ lo ≤ lo)) = true by rw [decide_eq_true_eq]; omega] at HKB
  simp only [errV, if_true] at HKB
  clear hk ht hr
  generalize T.rns = r at *
  go_enter Tryz.func62, Tryz.ntmps62
  go_wp2_with fail
  refine HL.out.mono ?_
  rintro e w1 ⟨rfl, h1⟩
  have B1 := hide h1
  clear h1
  go_wp2_with fail
  refine (HKB.out _).mono ?_
  rintro e wx ⟨rfl, hwx⟩
  have hw2 := hwx.symm
  subst hw2
  go_wp2
  go_ret
  exact ⟨rfl, B1.out⟩

set_option maxHeartbeats 2000000 in
set_option maxRecDepth 100000 in
/-- deleteText of a range. -/
theorem delTextI (zs : List Int) (T : AT) (u : Option Addr) (bs : List Nat) (base c b o cap : Nat) (lo hi : Int) (w : World) (h : PM w base c b o cap zs T u bs) (hok : T.ok) (hbal : T.bal) (hw : T.wp zs) (hr : 0 ≤ lo ∧ lo < hi ∧ hi ≤ T.rns) (hbase : base ≤ w.heap.size) :
    Calls Tryz.prog 62 #[.iface 102 (.pointer (some ⟨c, 0, none⟩)), .int .i64 lo, .int .i64 hi] w fun e w' => e = .returned .nilIface ∧ CorePM w base c b o cap zs (delP zs T lo hi) bs w' := by
  have mL := Tryz.mLengthI
  have mS := Tryz.mSliceI
  have mR := Tryz.mRemoveI
  have nR := Tryz.nRemoveI
  have bT := hok.bd
  have HL := hide (lengthM T u bs base c b o zs.length cap w h.k h.t)
  have HKB := hide (fun w => checkRangeN lo hi T.rns w)
  rw [show decide ((0 ≤ hi ∧ hi ≤ T.rns) ∧ (0 ≤ lo ∧ lo ≤ hi)) = true by rw [decide_eq_true_eq]; omega] at HKB
  simp only [errV, if_true] at HKB
  have HCO : ∀ W, Below w.heap.size w W → PCore W base c b o cap zs T := fun W hW => ⟨⟨u, bs, (h.below hW).k, (h.below hW).t⟩, (h.below hW).rt, (h.below hW).lb, hok, hw, ⟨by have := h.n; omega, h.cap1, h.cap2⟩⟩
  have HSL := hide (fun W (hW : Below w.heap.size w W) => sliceN T base c b o cap zs lo hi W (HCO W hW) ⟨by omega, by omega, by omega⟩)
  have hcl : (cutT (T.tx zs) lo hi).length = (hi - lo).toNat := by
    have h9 := AT.tx_len hw
    unfold cutT
    rw [List.length_take, List.length_drop]; omega
  obtain ⟨m, hm⟩ : ∃ m : Nat, (hi - lo).toNat = m := ⟨_, rfl⟩
  rw [hm] at hcl
  have HSV := hide (fun W base' v (ho : own32 W base' v (cutT (T.tx zs) lo hi)) => show ∃ ao ct, v = .slice ao m ct from (by
    obtain ⟨a1, c1, e1⟩ := own32_val ho
    exact ⟨a1, c1, by rw [e1, hcl]⟩))
  have hhi : lo + (m : Int) = hi := by omega
  have HRM := hide (fun W ao ct (hW : Below w.heap.size w W) => removeC zs T u bs base c b o cap m ct ao lo W (h.below hW) hok hbal hw hr.1 (by omega) (by have := hW.size; omega))
  rw [hhi] at HRM
  have HFI := hide (fun W W' (hW : Below w.heap.size w W) (hi' : CorePM W base c b o cap zs (delP zs T lo hi) bs W') => show CorePM w base c b o cap zs (delP zs T lo hi) bs W' from (by
    obtain ⟨u', bs', hp, hs, hc⟩ := hi'
    exact ⟨u', bs', hp, fun x hx => (hs x hx).imp id (fun h9 => Nat.le_trans hW.size h9), (Chg.of_below (bs := []) hW).trans hc (fun _ h9 _ => by cases h9) (fun _ h9 _ => h9)⟩))
  have hlt : lo < hi := hr.2.1
  clear HCO hcl hhi hm h hok hbal hw hr bT
  generalize delP zs T lo hi = RES at *
  generalize cutT (T.tx zs) lo hi = tx at *
  generalize T.rns = r at *
  go_enter Tryz.func62, Tryz.ntmps62
  go_wp2_with fail
  refine HL.out.mono ?_
  rintro e w1 ⟨rfl, h1⟩
  have B1 := hide h1
  clear h1
  go_wp2_with fail
  refine (HKB.out _).mono ?_
  rintro e wx ⟨rfl, hwx⟩
  have hw2 := hwx.symm
  subst hw2
  go_upto_region 5 with fail
  refine (wpIn_wide (n := 6)).1 ?_
  refine wpIn_region_any (by kernel_rfl) ?_
  refine wpAnyIn_take (i := 0) (fuel := 9) (v := .iface 102 (.pointer (some ⟨c, 0, none⟩))) rfl rfl (by kernel_rfl) (by kernel_rfl) (by kernel_rfl) (fun _ _ _ h => h) ⟨Or.inl ⟨by rfl, ?_⟩, fun w => by rfl⟩ ?_
  · intro w; go_simp
  refine wpAnyIn_take (i := 1) (fuel := 8) (v := .int .i64 lo) rfl rfl (by kernel_rfl) (by kernel_rfl) (by kernel_rfl) (fun _ _ _ h => h) ⟨Or.inl ⟨by rfl, ?_⟩, fun w => by rfl⟩ ?_
  · intro w; go_simp
  refine wpAnyIn_take (i := 2) (fuel := 7) (v := .iface 102 (.pointer (some ⟨c, 0, none⟩))) rfl rfl (by kernel_rfl) (by kernel_rfl) (by kernel_rfl) (fun _ _ _ h => h) ⟨Or.inl ⟨by rfl, ?_⟩, fun w => by rfl⟩ ?_
  · intro w; go_simp
  refine wpAnyIn_take (i := 3) (fuel := 6) (v := .int .i64 lo) rfl rfl (by kernel_rfl) (by kernel_rfl) (by kernel_rfl) (fun _ _ _ h => h) ⟨Or.inl ⟨by rfl, ?_⟩, fun w => by rfl⟩ ?_
  · intro w; go_simp
  refine wpAnyIn_take (i := 4) (fuel := 5) (v := .int .i64 hi) rfl rfl (by kernel_rfl) (by kernel_rfl) (by kernel_rfl) (fun _ _ _ h => h) ⟨Or.inl ⟨by rfl, ?_⟩, fun w => by rfl⟩ ?_
  · intro w; go_simp
  refine wpAnyIn_take (i := 6) (fuel := 4) (v := .func (.method "loop.example/s01685/impl.remove") #[.iface 102 (.pointer (some ⟨c, 0, none⟩))] #[]) rfl rfl (by kernel_rfl) (by kernel_rfl) (by kernel_rfl) (fun _ _ _ h => h) ⟨Or.inl ⟨by rfl, ?_⟩, fun w => by rfl⟩ ?_
  · intro w; go_simp
  refine wpAnyIn_take (i := 7) (fuel := 3) (v := .func (.method "loop.example/s01685/impl.remove") #[.iface 102 (.pointer (some ⟨c, 0, none⟩))] #[]) rfl rfl (by kernel_rfl) (by kernel_rfl) (by kernel_rfl) (fun _ _ _ h => h) ⟨Or.inl ⟨by rfl, ?_⟩, fun w => by rfl⟩ ?_
  · intro w; go_simp
  refine wpAnyIn_take (i := 8) (fuel := 2) (v := .iface 102 (.pointer (some ⟨c, 0, none⟩))) rfl rfl (by kernel_rfl) (by kernel_rfl) (by kernel_rfl) (fun _ _ _ h => h) ⟨Or.inl ⟨by rfl, ?_⟩, fun w => by rfl⟩ ?_
  · intro w; go_simp
  refine wpAnyIn_of_two (i := 5) (j := 9) rfl rfl (by kernel_rfl) ?_
  have B2 := hide (show RowKit.Below w.heap.size w { w1 with drawn := w1.drawn + 1 } from ⟨B1.out.os, B1.out.tape, B1.out.output, B1.out.size, B1.out.block⟩)
  generalize ({ w1 with drawn := w1.drawn + 1 } : World) = w2 at *
  clear B1 HKB HL
  gi_wp2_with fail
  refine ⟨trivial, (callsIn_wide.2 (HSL.out _ B2.out)).mono ?_⟩
  rintro e w3 ⟨v3, rfl, ho3, hb3⟩
  obtain ⟨a3, c3, rfl⟩ := HSV.out _ _ _ ho3
  have B3 := hide (B2.out.trans (hb3.mono B2.out.size))
  clear hb3 ho3 HSL HSV
  gi_wp2_with fail
  refine ⟨trivial, (callsIn_wide.2 (HRM.out _ _ _ B3.out)).mono ?_⟩
  rintro e w4 ⟨rfl, hc4⟩
  have C4 := hide (HFI.out _ _ B3.out hc4)
  clear hc4 HRM
  gi_wp2_with fail
  go_wp2
  go_ret
  exact ⟨rfl, C4.out⟩
end Go.Proofs.YtbgngikejgihgahGreatDoor

namespace Go.Proofs.YtbgngikejgihgahGreatDoor
open Go Go.RowKit
set_option linter.unusedVariables false

/-- What PieceDelete answers. -/
def pdT (zs : List Int) (xs : List It) (lo hi : Int) : Option AT :=
  match pRead zs xs with
  | none => none
  | some T => if 0 ≤ lo ∧ lo ≤ hi ∧ hi ≤ T.rns then some (if lo = hi then T else delP zs T lo hi) else none
def pdC (zs : List Int) (xs : List It) (lo hi : Int) : Int :=
  match pRead zs xs with
  | none => 1
  | some T => if 0 ≤ lo ∧ lo ≤ hi ∧ hi ≤ T.rns then 0 else 2
def pdS (zs : List Int) (xs : List It) (lo hi : Int) : List Int := if (pdT zs xs lo hi).isSome then zs else []
def pdI (zs : List Int) (xs : List It) (lo hi : Int) : List It := match pdT zs xs lo hi with | none => [] | some T => T.told 0

set_option maxHeartbeats 1000000 in
set_option maxRecDepth 100000 in
theorem faceID (q : Option Addr) (n cap : Nat) (ao : Option Addr) (m cap' : Nat) (lo hi : Int) (RS : List Int) (RI : List It) (K : Int) (NX : Nat → World → Prop) (NY : Nat → Value → World → Prop) (w : World)
    (HRP : Hid (Calls Tryz.prog 61 #[.agg #[.slice q n cap, .slice ao m cap']] ((w.alloc (.cells #[.slice q n cap, .slice ao m cap'] 33)).alloc (.cells #[.slice none 0 0, .slice none 0 0] 33)) fun e w1 => ∃ c, e = .returned (.tuple #[.pointer (some ⟨c, 0, none⟩), .nilIface]) ∧ NX c w1))
    (HNX : Hid (∀ c w1, NX c w1 → Calls Tryz.prog 62 #[.iface 102 (.pointer (some ⟨c, 0, none⟩)), .int .i64 lo, .int .i64 hi] w1 fun e w2 => ∃ ev, e = .returned ev ∧ NY c ev w2))
    (HNY : Hid (∀ c ev w2, NY c ev w2 → Below (w.heap.size + 2) ((w.alloc (.cells #[.slice q n cap, .slice ao m cap'] 33)).alloc (.cells #[.slice none 0 0, .slice none 0 0] 33)) w2 ∧ Calls Tryz.prog 63 #[.pointer (some ⟨c, 0, none⟩), ev] w2 (TellPost w2 RS RI K))) :
    Calls Tryz.prog 12 #[.agg #[.slice q n cap, .slice ao m cap'], .int .i64 lo, .int .i64 hi] w (TellPost w RS RI K) := by
  have B0 := hide (((Below.refl w.heap.size w).alloc (Nat.le_refl _) (.cells #[.slice q n cap, .slice ao m cap'] 33)).alloc (by simp) (.cells #[.slice none 0 0, .slice none 0 0] 33))
  have K0 := hide (show ((w.alloc (.cells #[.slice q n cap, .slice ao m cap'] 33)).alloc (.cells #[.slice none 0 0, .slice none 0 0] 33)).heap[w.heap.size + 1]? = some (.cells #[.slice none 0 0, .slice none 0 0] 33 (0, 0)) by
    have := heap_alloc_new (w.alloc (.cells #[.slice q n cap, .slice ao m cap'] 33)) (.cells #[.slice none 0 0, .slice none 0 0] 33)
    rw [show (w.alloc (.cells #[.slice q n cap, .slice ao m cap'] 33)).heap.size = w.heap.size + 1 by simp] at this; exact this)
  go_enter Tryz.func12, Tryz.ntmps12
  go_wp2_with fail
  generalize (w.alloc (.cells #[.slice q n cap, .slice ao m cap'] 33)).alloc (.cells #[.slice none 0 0, .slice none 0 0] 33) = w0 at *
  refine HRP.out.mono ?_
  rintro e w1 ⟨c, rfl, hx⟩
  have HX := hide (HNX.out c w1 hx)
  clear HRP HNX hx
  go_wp2_with fail
  refine HX.out.mono ?_
  rintro e w2 ⟨ev, rfl, hy⟩
  have HY := hide (HNY.out c ev w2 hy)
  clear HX HNY hy
  go_wp2_with fail
  refine HY.out.2.mono ?_
  rintro e w3 ⟨vs, vi, rfl, ho, hi, hb3⟩
  obtain ⟨as1, cs1, rfl⟩ := own32_val ho
  obtain ⟨ai1, ci1, rfl⟩ := ownI_val hi
  have O1 := hide ho
  have I1 := hide hi
  have hs2 := HY.out.1.size
  have l0 : w.heap.size + 1 < w0.heap.size := (Array.getElem?_eq_some_iff.1 K0.out).1
  have hb03 := HY.out.1.trans (hb3.mono (by omega))
  have k1 := (hb03.block (w.heap.size + 1) (by omega)).trans K0.out
  have c0 : w3.cell? ⟨w.heap.size + 1, 0, none⟩ = some (.slice none 0 0) := by rw [cell_of_row w3 _ 0 _ _ _ k1]; rfl
  have c1 : w3.cell? ⟨w.heap.size + 1, 1, none⟩ = some (.slice none 0 0) := by rw [cell_of_row w3 _ 1 _ _ _ k1]; rfl
  have f0 := frozen_of_row w3 (w.heap.size + 1) 0 _ _ k1
  have f1 := frozen_of_row w3 (w.heap.size + 1) 1 _ _ k1
  have B1 := hide (B0.out.trans (hb03.mono (by omega)))
  clear HY hb3 k1 ho hi hb03
  generalize RS.length = zl at *
  generalize RI.length = tl' at *
  go_wp2
  refine bodyPost_ret (v := .tuple #[.agg #[.slice as1 zl cs1, .slice ai1 tl' ci1], .int .i64 K]) (by simp [results, Tryz.results12, go_sem, c0, c1]) rfl ⟨_, _, rfl, ?_, ?_, ?_⟩
  · exact owns_of_block (owns_base O1.out (by omega)) (fun k hk => by have h1 := O1.out.lt k hk; rw [Below.heap_setCell _ _ _ _ (by simp; omega), Below.heap_setCell _ _ _ _ (by simp; omega)]; try rfl)
  · exact owns_of_block (owns_base I1.out (by omega)) (fun k hk => by have h1 := I1.out.lt k hk; rw [Below.heap_setCell _ _ _ _ (by simp; omega), Below.heap_setCell _ _ _ _ (by simp; omega)]; try rfl)
  · exact (B1.out.setCell (by simp) _).setCell (by simp) _

set_option maxHeartbeats 1000000 in
set_option maxRecDepth 100000 in
theorem faceED (q : Option Addr) (n cap : Nat) (ao : Option Addr) (m cap' : Nat) (lo hi : Int) (w : World) (hg : w.cell? ⟨0, 0, none⟩ = some (.iface 370 (.agg #[.pointer (some ⟨11, 104, none⟩)])))
    (HRP : Hid (Calls Tryz.prog 61 #[.agg #[.slice q n cap, .slice ao m cap']] ((w.alloc (.cells #[.slice q n cap, .slice ao m cap'] 33)).alloc (.cells #[.slice none 0 0, .slice none 0 0] 33)) fun e w1 => (∃ msg, e = .returned (.tuple #[.pointer none, .iface 189 (.agg #[.string msg, .iface 187 (.int .i64 1)])])) ∧ Below (w.heap.size + 2) ((w.alloc (.cells #[.slice q n cap, .slice ao m cap'] 33)).alloc (.cells #[.slice none 0 0, .slice none 0 0] 33)) w1)) :
    Calls Tryz.prog 12 #[.agg #[.slice q n cap, .slice ao m cap'], .int .i64 lo, .int .i64 hi] w (TellPost w [] [] 1) := by
  have hlt0 : 0 < w.heap.size := World.block_lt_of_cell? w _ hg
  have B0 := hide (((Below.refl w.heap.size w).alloc (Nat.le_refl _) (.cells #[.slice q n cap, .slice ao m cap'] 33)).alloc (by simp) (.cells #[.slice none 0 0, .slice none 0 0] 33))
  have K0 := hide (show ((w.alloc (.cells #[.slice q n cap, .slice ao m cap'] 33)).alloc (.cells #[.slice none 0 0, .slice none 0 0] 33)).heap[w.heap.size + 1]? = some (.cells #[.slice none 0 0, .slice none 0 0] 33 (0, 0)) by
    have := heap_alloc_new (w.alloc (.cells #[.slice q n cap, .slice ao m cap'] 33)) (.cells #[.slice none 0 0, .slice none 0 0] 33)
    rw [show (w.alloc (.cells #[.slice q n cap, .slice ao m cap'] 33)).heap.size = w.heap.size + 1 by simp] at this; exact this)
  have HG := hide hg
  clear hg
  go_enter Tryz.func12, Tryz.ntmps12
  go_wp2_with fail
  generalize (w.alloc (.cells #[.slice q n cap, .slice ao m cap'] 33)).alloc (.cells #[.slice none 0 0, .slice none 0 0] 33) = w0 at *
  refine HRP.out.mono ?_
  rintro e w1 ⟨⟨msg, rfl⟩, hx⟩
  have l0 : w.heap.size + 1 < w0.heap.size := (Array.getElem?_eq_some_iff.1 K0.out).1
  have B1 := hide hx
  have hs1 := hx.size
  have HY := hide (ansErr none msg 1 w1 ((hx.cell (p := ⟨0, 0, none⟩) (by show 0 < _; omega)).trans ((B0.out.cell (p := ⟨0, 0, none⟩) hlt0).trans HG.out)))
  clear HRP hx HG
  go_wp2_with fail
  refine HY.out.mono ?_
  rintro e w3 ⟨vs, vi, rfl, ho, hi, hb3⟩
  obtain ⟨as1, cs1, rfl⟩ := own32_val ho
  obtain ⟨ai1, ci1, rfl⟩ := ownI_val hi
  have O1 := hide ho
  have I1 := hide hi
  have hb03 := B1.out.trans (hb3.mono (by omega))
  have k1 := (hb03.block (w.heap.size + 1) (by omega)).trans K0.out
  have c0 : w3.cell? ⟨w.heap.size + 1, 0, none⟩ = some (.slice none 0 0) := by rw [cell_of_row w3 _ 0 _ _ _ k1]; rfl
  have c1 : w3.cell? ⟨w.heap.size + 1, 1, none⟩ = some (.slice none 0 0) := by rw [cell_of_row w3 _ 1 _ _ _ k1]; rfl
  have f0 := frozen_of_row w3 (w.heap.size + 1) 0 _ _ k1
  have f1 := frozen_of_row w3 (w.heap.size + 1) 1 _ _ k1
  have B2 := hide (B0.out.trans (hb03.mono (by omega)))
  clear HY hb3 k1 ho hi hb03
  generalize ([] : List Int).length = zl at *
  go_wp2
  refine bodyPost_ret (v := .tuple #[.agg #[.slice as1 zl cs1, .slice ai1 zl ci1], .int .i64 1]) (by simp [results, Tryz.results12, go_sem, c0, c1]) rfl ⟨_, _, rfl, ?_, ?_, ?_⟩
  · exact owns_of_block (owns_base O1.out (by omega)) (fun k hk => by have h1 := O1.out.lt k hk; rw [Below.heap_setCell _ _ _ _ (by simp; omega), Below.heap_setCell _ _ _ _ (by simp; omega)]; try rfl)
  · exact owns_of_block (owns_base I1.out (by omega)) (fun k hk => by have h1 := I1.out.lt k hk; rw [Below.heap_setCell _ _ _ _ (by simp; omega), Below.heap_setCell _ _ _ _ (by simp; omega)]; try rfl)
  · exact (B2.out.setCell (by simp) _).setCell (by simp) _

set_option maxHeartbeats 1000000 in
/-- impl.PieceDelete. -/
theorem implPD (B : Nat) (zs : List Int) (b o cap : Nat) (v : Value) (xs : List It) (lo hi : Int) (w : World) (hc : At32 w b o zs) (hb : b < w.heap.size) (hz : zs.length ≤ 1048576) (hcap : zs.length ≤ cap) (hm : cap ≤ maxLen) (hr : RdI B w v xs) (hB : B ≤ w.heap.size) (hn : xs.length ≤ 1048576) (hg : w.cell? ⟨0, 0, none⟩ = some (.iface 370 (.agg #[.pointer (some ⟨11, 104, none⟩)]))) :
    Calls Tryz.prog 12 #[.agg #[.slice (some ⟨b, o, none⟩) zs.length cap, v], .int .i64 lo, .int .i64 hi] w (TellPost w (pdS zs xs lo hi) (pdI zs xs lo hi) (pdC zs xs lo hi)) := by
  obtain ⟨ao, cap', rfl⟩ := hr.val
  have hlt0 : 0 < w.heap.size := World.block_lt_of_cell? w _ hg
  have B0 := ((Below.refl w.heap.size w).alloc (Nat.le_refl _) (.cells #[.slice (some ⟨b, o, none⟩) zs.length cap, .slice ao xs.length cap'] 33)).alloc (by simp) (.cells #[.slice none 0 0, .slice none 0 0] 33)
  have s0 : ((w.alloc (.cells #[.slice (some ⟨b, o, none⟩) zs.length cap, .slice ao xs.length cap'] 33)).alloc (.cells #[.slice none 0 0, .slice none 0 0] 33)).heap.size = w.heap.size + 2 := by simp
  have HRP := readPiecesN B zs b o cap _ xs _ (hc.below B0 hb) (by omega) hz hcap hm (hr.below B0 hB) (by omega) hn
  have G0 := (B0.cell (p := ⟨0, 0, none⟩) hlt0).trans hg
  have C0 := hc.below B0 hb
  cases hT : pRead zs xs with
  | none =>
    rw [hT] at HRP
    have e1 : pdT zs xs lo hi = none := by unfold pdT; rw [hT]
    have e2 : pdC zs xs lo hi = 1 := by unfold pdC; rw [hT]
    rw [show pdS zs xs lo hi = [] by unfold pdS; rw [e1]; rfl, show pdI zs xs lo hi = [] by unfold pdI; rw [e1], e2]
    refine faceED _ _ _ _ _ _ _ _ w hg (hide (HRP.mono ?_))
    rintro e w1 ⟨h1, h2⟩
    exact ⟨h1, s0 ▸ h2⟩
  | some T =>
    rw [hT] at HRP
    obtain ⟨hp1, hp2, hp3, hp4⟩ := pRead_some hT
    have hbal := (readT_some hp1).2.1
    have PMk : ∀ c u bs w1, ((w.alloc (.cells #[.slice (some ⟨b, o, none⟩) zs.length cap, .slice ao xs.length cap'] 33)).alloc (.cells #[.slice none 0 0, .slice none 0 0] 33)).heap.size ≤ c → PK w1 c b o zs.length zs.length u → Lies w1 ((w.alloc (.cells #[.slice (some ⟨b, o, none⟩) zs.length cap, .slice ao xs.length cap'] 33)).alloc (.cells #[.slice none 0 0, .slice none 0 0] 33)).heap.size T u bs → bs.Nodup → c ∉ bs → Below ((w.alloc (.cells #[.slice (some ⟨b, o, none⟩) zs.length cap, .slice ao xs.length cap'] 33)).alloc (.cells #[.slice none 0 0, .slice none 0 0] 33)).heap.size ((w.alloc (.cells #[.slice (some ⟨b, o, none⟩) zs.length cap, .slice ao xs.length cap'] 33)).alloc (.cells #[.slice none 0 0, .slice none 0 0] 33)) w1 → PM w1 (w.heap.size + 2) c b o zs.length zs T u bs := by
      intro c u bs w1 h1 h2 h3 h4 h5 h6
      rw [s0] at h1 h3 h6
      have h7 := h6.size
      exact ⟨h2, h3, h4, h5, fun hx => by have := (h3.lt _ hx).1; omega, by omega, C0.below h6 (by omega), by omega, Nat.le_refl _, by unfold maxLen; omega, hp2⟩
    generalize hw0 : (w.alloc (.cells #[.slice (some ⟨b, o, none⟩) zs.length cap, .slice ao xs.length cap'] 33)).alloc (.cells #[.slice none 0 0, .slice none 0 0] 33) = w0 at *
    by_cases hoff : 0 ≤ lo ∧ lo ≤ hi ∧ hi ≤ T.rns
    · have e1 : pdT zs xs lo hi = some (if lo = hi then T else delP zs T lo hi) := by unfold pdT; rw [hT]; exact if_pos hoff
      have e2 : pdC zs xs lo hi = 0 := by unfold pdC; rw [hT]; exact if_pos hoff
      rw [show pdS zs xs lo hi = zs by unfold pdS; rw [e1]; rfl, show pdI zs xs lo hi = (if lo = hi then T else delP zs T lo hi).told 0 by unfold pdI; rw [e1], e2]
      by_cases hzero : lo = hi
      · subst hzero
        rw [if_pos rfl]
        refine faceID _ _ _ _ _ _ _ _ _ _ _ (fun c w1 => ∃ u bs, PM w1 (w.heap.size + 2) c b o zs.length zs T u bs ∧ T.ok ∧ Below (w.heap.size + 2) w0 w1) (fun c ev w2 => ev = .nilIface ∧ ∃ u bs, PM w2 (w.heap.size + 2) c b o zs.length zs T u bs ∧ T.ok ∧ Below (w.heap.size + 2) w0 w2) w (hide ?_) (hide ?_) (hide ?_)
        · rw [hw0]
          refine HRP.mono ?_
          rintro e w1 ⟨c, u, bs, rfl, h1, h2, h3, h4, h5, h6, h7⟩
          exact ⟨c, rfl, u, bs, PMk c u bs w1 h1 h2 h3 h4 h5 h7, h6, s0 ▸ h7⟩
        · rintro c w1 ⟨u, bs, h1, h2, h3⟩
          refine (delText0 T u bs _ c b o zs.length zs.length lo w1 h1.k h1.t ⟨hoff.1, hoff.2.2⟩).mono ?_
          rintro e w2 ⟨rfl, hb2⟩
          have := h3.size
          exact ⟨_, rfl, rfl, u, bs, h1.below hb2, h2, h3.trans (hb2.mono (by omega))⟩
        · rintro c ev w2 ⟨rfl, u, bs, h1, h2, h3⟩
          rw [hw0]
          exact ⟨h3, ansOk zs T u bs _ c b o zs.length w2 h1 h2⟩
      · rw [if_neg hzero]
        refine faceID _ _ _ _ _ _ _ _ _ _ _ (fun c w1 => ∃ u bs, PM w1 (w.heap.size + 2) c b o zs.length zs T u bs ∧ T.ok ∧ Below (w.heap.size + 2) w0 w1 ∧ w.heap.size + 2 ≤ c) (fun c ev w2 => ev = .nilIface ∧ ∃ u bs, PM w2 (w.heap.size + 2) c b o zs.length zs (delP zs T lo hi) u bs ∧ (delP zs T lo hi).ok ∧ Below (w.heap.size + 2) w0 w2) w (hide ?_) (hide ?_) (hide ?_)
        · rw [hw0]
          refine HRP.mono ?_
          rintro e w1 ⟨c, u, bs, rfl, h1, h2, h3, h4, h5, h6, h7⟩
          exact ⟨c, rfl, u, bs, PMk c u bs w1 h1 h2 h3 h4 h5 h7, h6, s0 ▸ h7, s0 ▸ h1⟩
        · rintro c w1 ⟨u, bs, h1, h2, h3, h4⟩
          have h5 := h3.size
          refine (delTextI zs T u bs _ c b o zs.length lo hi w1 h1 h2 hbal hp3 ⟨hoff.1, by omega, hoff.2.2⟩ (by omega)).mono ?_
          rintro e w2 ⟨rfl, u', bs', h6, h7, h8⟩
          have h9 := h1.t
          refine ⟨_, rfl, rfl, u', bs', h6, (delF h2 hbal hp3 hp2 hoff.1 hoff.2.1 hoff.2.2).okR, h3.trans (h8.below (by omega) (fun k hk => ?_))⟩
          rcases List.mem_cons.1 hk with rfl | hk
          · exact h4
          · exact (h9.lt k hk).1
        · rintro c ev w2 ⟨rfl, u, bs, h1, h2, h3⟩
          rw [hw0]
          exact ⟨h3, ansOk _ _ u bs _ c b o zs.length w2 h1 h2⟩
    · have e1 : pdT zs xs lo hi = none := by unfold pdT; rw [hT]; exact if_neg hoff
      have e2 : pdC zs xs lo hi = 2 := by unfold pdC; rw [hT]; exact if_neg hoff
      rw [show pdS zs xs lo hi = [] by unfold pdS; rw [e1]; rfl, show pdI zs xs lo hi = [] by unfold pdI; rw [e1], e2]
      refine faceID _ _ _ _ _ _ _ _ _ _ _ (fun c w1 => ∃ u bs, PM w1 (w.heap.size + 2) c b o zs.length zs T u bs ∧ T.ok ∧ Below (w.heap.size + 2) w0 w1) (fun c ev w2 => (∃ msg, ev = .iface 189 (.agg #[.string msg, .iface 187 (.int .i64 2)])) ∧ Below (w.heap.size + 2) w0 w2) w (hide ?_) (hide ?_) (hide ?_)
      · rw [hw0]
        refine HRP.mono ?_
        rintro e w1 ⟨c, u, bs, rfl, h1, h2, h3, h4, h5, h6, h7⟩
        exact ⟨c, rfl, u, bs, PMk c u bs w1 h1 h2 h3 h4 h5 h7, h6, s0 ▸ h7⟩
      · rintro c w1 ⟨u, bs, h1, h2, h3⟩
        refine (delTextR T u bs _ c b o zs.length zs.length lo hi w1 h1.k h1.t hoff).mono ?_
        rintro e w2 ⟨⟨msg, rfl⟩, hb2⟩
        have := h3.size
        exact ⟨_, rfl, ⟨msg, rfl⟩, h3.trans (hb2.mono (by omega))⟩
      · rintro c ev w2 ⟨⟨msg, rfl⟩, h3⟩
        rw [hw0]
        exact ⟨h3, ansErr _ msg 2 w2 ((h3.cell (p := ⟨0, 0, none⟩) (by show 0 < _; omega)).trans G0)⟩
end Go.Proofs.YtbgngikejgihgahGreatDoor
