import Derived.Test.YtbgngikejgihgafGreatDoorMq09
import Derived.Deep.QuietTactic
import Derived.BigQuiet
namespace Go.Proofs.YtbgngikejgihgafGreatDoor
open Go Go.RowKit
set_option linter.unusedVariables false
set_option maxRecDepth 100000
set_option maxHeartbeats 8000000
def seg (xs : List It) (lo hi : Nat) : List It := (xs.drop lo).take (hi - lo)
theorem jX (xs : List It) (lo hi i : Nat) (h : i < hi - lo) : (seg xs lo hi)[i]? = xs[lo + i]? := by
 rw [seg, List.getElem?_take, if_pos h, List.getElem?_drop]
theorem KV (xs : List It) (lo hi i : Nat) (h : hi - lo <= i) : (seg xs lo hi)[i]? = none := by
 rw [seg, List.getElem?_take, if_neg (by omega)]
theorem YK (xs : List It) (lo hi : Nat) (h : hi <= lo) : seg xs lo hi = [] := by
 rw [seg, show hi - lo = 0 by omega]; rfl
theorem seg_full (xs : List It) : seg xs 0 xs.length = xs := by simp [seg]
theorem Zw (xs : List It) (lo hi : Nat) (h : hi <= xs.length) : (seg xs lo hi).length = hi - lo := by
 rw [seg, List.length_take, List.length_drop]; omega
theorem Js (xs : List It) (lo a hi : Nat) (y : It) (h1 : lo <= a) (h2 : a < hi) (h : xs[a]? = some y) : seg xs lo hi = seg xs lo a ++ y :: seg xs (a + 1) hi := by
 apply List.ext_getElem?;intro i
 have ha : a < xs.length := by
  rcases Nat.lt_or_ge a xs.length with g | g
  ·exact g
  ·rw [List.getElem?_eq_none g] at h; cases h
 have hlen : (seg xs lo a).length = a - lo := Zw xs lo a (by omega)
 rcases Nat.lt_trichotomy i (a - lo) with g | g | g
 ·rw [List.getElem?_append_left (by omega), jX _ _ _ _ (by omega), jX _ _ _ _ (by omega)]
 ·rw [List.getElem?_append_right (by omega), hlen, jX _ _ _ _ (by omega), g]
  simp only [Nat.sub_self, List.getElem?_cons_zero]
  rw [show lo + (a - lo) = a by omega, h]
 ·rw [List.getElem?_append_right (by omega), hlen]
  obtain ⟨j, hj⟩ : ∃ j, i - (a - lo) = j + 1 := ⟨i - (a - lo) - 1, by omega⟩
  rw [hj, List.getElem?_cons_succ]
  by_cases g2 : i < hi - lo
  ·rw [jX _ _ _ _ g2, jX _ _ _ _ (by omega), show a + 1 + j = lo + i by omega]
  ·rw [KV _ _ _ _ (by omega), KV _ _ _ _ (by omega)]
theorem KX (xs : List It) (lo k : Nat) (x : It) (h1 : lo <= k) (h : xs[k]? = some x) : seg xs lo (k + 1) = seg xs lo k ++ [x] := by
 rw [Js xs lo k (k + 1) x h1 (by omega) h, YK xs (k + 1) (k + 1) (by omega)]
def Scan (xs : List It) (lv : Int) (lo k : Nat) (at_ : Int) : Prop :=
 (at_ = -1 ∧ ∀ z ∈ seg xs lo k, lv < z.lv) ∨ (∃ (a : Nat) (y : It), at_ = a ∧ lo <= a ∧ a < k ∧ xs[a]? = some y ∧ y.lv = lv ∧ (∀ z ∈ seg xs lo a, lv < z.lv) ∧ (∀ z ∈ seg xs (a + 1) k, lv < z.lv))
theorem Scan.bd {xs : List It} {lv : Int} {lo k : Nat} {a : Int} (h : Scan xs lv lo k a) : -1 <= a ∧ (a : Int) < k ∨ a = -1 := by
 rcases h with ⟨rfl, _⟩ | ⟨a, y, rfl, _, h, _⟩
 ·right; rfl
 ·left; omega
theorem zCi (xs : List It) (lv : Int) (lo hi k : Nat) (x : It) (h1 : lo <= k) (h2 : k < hi) (h : xs[k]? = some x) (hx : x.lv < lv) : cutAt lv (seg xs lo hi) = none := by
 apply Zo;rintro ⟨a, y, b, e, hy, ha, hb⟩
 have hm : x ∈ seg xs lo hi := List.mem_iff_getElem?.2 ⟨k - lo, by rw [jX _ _ _ _ (by omega), show lo + (k - lo) = k by omega]; exact h⟩
 rw [e] at hm
 rcases List.mem_append.1 hm with hm | hm
 ·have := ha x hm; omega
 ·rcases List.mem_cons.1 hm with rfl | hm
  ·omega
  ·have := hb x hm; omega
theorem zBp {A B : List It} {y z : It} {lv : Int} (ha : ∀ z ∈ A, lv < z.lv) (hb : ∀ z ∈ B, lv < z.lv) {i : Nat} (h : (A ++ y :: B)[i]? = some z) (hz : z.lv = lv) : i = A.length := by
 rcases Nat.lt_trichotomy i A.length with g | g | g
 ·rw [List.getElem?_append_left g] at h
  have := ha z (List.mem_iff_getElem?.2 ⟨i, h⟩); omega
 ·exact g
 ·rw [List.getElem?_append_right (by omega)] at h
  obtain ⟨j, hj⟩ : ∃ j, i - A.length = j + 1 := ⟨i - A.length - 1, by omega⟩
  rw [hj, List.getElem?_cons_succ] at h;have := hb z (List.mem_iff_getElem?.2 ⟨j, h⟩); omega
theorem zAa (xs : List It) (lv : Int) (lo hi a k : Nat) (x y : It) (h0 : lo <= a) (h1 : a < k) (h2 : k < hi) (hy : xs[a]? = some y) (h : xs[k]? = some x) (hyl : y.lv = lv) (hx : x.lv = lv) : cutAt lv (seg xs lo hi) = none := by
 apply Zo;rintro ⟨A, u, B, e, hu, ha, hb⟩
 have e1 : (A ++ u :: B)[k - lo]? = some x := by rw [<- e, jX _ _ _ _ (by omega), show lo + (k - lo) = k by omega]; exact h
 have e2 : (A ++ u :: B)[a - lo]? = some y := by rw [<- e, jX _ _ _ _ (by omega), show lo + (a - lo) = a by omega]; exact hy
 have := zBp ha hb e1 hx;have := zBp ha hb e2 hyl;omega
theorem zCj (xs : List It) (lv : Int) (lo hi : Nat) (h : ∀ z ∈ seg xs lo hi, lv < z.lv) : cutAt lv (seg xs lo hi) = none := by
 apply Zo;rintro ⟨A, u, B, e, hu, ha, hb⟩
 have := h u (by rw [e]; simp)
 omega
theorem XX : ∀ (f : Nat) (lv : Int) (xs : List It), -1 <= shp f lv xs ∧ shp f lv xs <= f
 | 0, lv, xs => by simp only [shp]; split <;> omega
 | f + 1, lv, xs => by
  simp only [shp]
  split
  ·omega
  ·split
   ·omega
   ·rename_i a y b _
    have h1 := XX f (lv + 1) a;have h2 := XX f (lv + 1) b
    split
    ·omega
    ·split <;> omega
theorem shp_cut (f : Nat) (lv : Int) (xs : List It) (lo a hi : Nat) (y : It) (h1 : lo <= a) (h2 : a < hi) (h : xs[a]? = some y) (hy : y.lv = lv) (ha : ∀ z ∈ seg xs lo a, lv < z.lv) (hb : ∀ z ∈ seg xs (a + 1) hi, lv < z.lv) :
  shp (f + 1) lv (seg xs lo hi) = (if shp f (lv + 1) (seg xs lo a) < 0 then -1 else if shp f (lv + 1) (seg xs (a + 1) hi) < 0 ∨ shp f (lv + 1) (seg xs lo a) - shp f (lv + 1) (seg xs (a + 1) hi) > 1 ∨ shp f (lv + 1) (seg xs (a + 1) hi) - shp f (lv + 1) (seg xs lo a) > 1 then -1 else max (shp f (lv + 1) (seg xs lo a)) (shp f (lv + 1) (seg xs (a + 1) hi)) + 1) := by
 rw [Js xs lo a hi y h1 h2 h, shp, if_neg (by simp), jK lv _ _ _ hy ha hb]
theorem zCk (f : Nat) (lv : Int) (xs : List It) (lo hi : Nat) (h1 : lo < hi) (h2 : hi <= xs.length) (h : cutAt lv (seg xs lo hi) = none) : shp (f + 1) lv (seg xs lo hi) = -1 := by
 rw [shp, if_neg (by intro e; have := Zw xs lo hi h2; rw [e] at this; simp at this; omega), h]
theorem shapeN (B : Nat) (v : Value) (xs : List It) (w : World) (hr : RdI B w v xs) (hlen : xs.length <= 1048576) : ∀ (f : Nat) (lv : Int) (lo hi : Nat), lv + f = 41 -> 0 <= lv -> lo <= hi -> hi <= xs.length ->
  Calls Tryz.prog 92 #[v, .int .i64 lo, .int .i64 hi, .int .i64 lv] w fun e w' => e = .returned (.int .i64 (shp f lv (seg xs lo hi))) ∧ w' = w := by
 intro f
 induction f with
 | zero =>
  intro lv lo hi h1 h2 h3 h4
  obtain rfl : lv = 41 := by omega
  obtain ⟨ao, cap, rfl⟩ := hr.val;clear hr
  by_cases hlt : hi <= lo
  ·rw [YK _ _ _ hlt]
   have hlt' : (lo : Int) >= hi := by omega
   go_enter Tryz.func92, Tryz.ntmps92;go_wp2_with fail;go_ret;exact ⟨rfl, rfl⟩
  ·have e : shp 0 41 (seg xs lo hi) = -1 := by rw [shp, if_neg (by intro e; have := Zw xs lo hi h4; rw [e] at this; simp at this; omega)]
   rw [e]
   have hlt' : ¬ (lo : Int) >= hi := by omega
   go_enter Tryz.func92, Tryz.ntmps92;go_wp2_with fail;go_ret;exact ⟨rfl, rfl⟩
 | succ f ih =>
  intro lv lo hi h1 h2 h3 h4
  by_cases hlt : hi <= lo
  ·rw [YK _ _ _ hlt]
   obtain ⟨ao, cap, rfl⟩ := hr.val;clear hr ih
   have hlt' : (lo : Int) >= hi := by omega
   go_enter Tryz.func92, Tryz.ntmps92;go_wp2_with fail;go_ret
   exact ⟨by simp [shp], rfl⟩
  ·obtain ⟨b, off, cap, rfl, ⟨hp0, hpc, hpm⟩, hb, hc⟩ := hr.at (by intro e; subst e; simp at h4; omega)
   have IH := hide ih;have HC := hide hc
   have HX := hide (show ∀ a y, lo <= a -> a < hi -> xs[a]? = some y -> y.lv = lv -> (∀ z ∈ seg xs lo a, lv < z.lv) -> (∀ z ∈ seg xs (a + 1) hi, lv < z.lv) -> _ from fun a y => shp_cut f lv xs lo a hi y)
   have HY := hide (zCk f lv xs lo hi (by omega) h4)
   generalize shp (f + 1) lv (seg xs lo hi) = res at HX HY |-;unfold maxLen at hpm
   have hlt' : ¬ (lo : Int) >= hi := by omega
   have hlv : ¬ lv > 40 := by omega
   clear ih hc hr;generalize hN : xs.length = n at *;go_enter Tryz.func92, Tryz.ntmps92;go_wp2_with fail
   go_loopw [9, 10] (fun a i wr => ∃ (at_ : Int) (k : Nat), lo <= k ∧ k <= hi ∧ a = .int .i64 at_ ∧ i = .int .i64 k ∧ Scan xs lv lo k at_ ∧ wr = w) (fun _ i _ => hi - (intOf i).toNat)
   case atStart => exact ⟨-1, lo, lR, h3, rfl, rfl, .inl ⟨rfl, by rw [YK _ _ _ lR]; simp⟩, rfl⟩
   case round =>
    obtain ⟨at_, k, hk1, hk2, rfl, rfl, hsc, rfl⟩ := hrel;have HSC := hide hsc;have hbd := hsc.bd;clear hsc
    by_cases hkh : k < hi
    ·obtain ⟨x, hx, a0, a1, a2, a3⟩ := YI (B := B) (cap := cap) HC.out (show k < xs.length by omega)
     have HXK := hide hx;have hltb : b < wr.heap.size := World.block_lt_of_cell? wr _ a0
     have hkh' : (k : Int) < hi := by omega
     clear hx
     by_cases hxl : x.lv < lv
     ·have HR := hide (HY.out (zCi xs lv lo hi k x hk1 hkh HXK.out hxl))
      clear HX HY;go_wp2;go_ret
      exact ⟨by first | rfl | (rw [HR.out]; rfl), rfl⟩
     ·by_cases hxe : x.lv = lv
      ·by_cases hat : 0 <= at_
       ·have HR := hide (HY.out (by
         rcases HSC.out with ⟨h, _⟩ | ⟨a, y, rfl, g1, g2, g3, g4, _, _⟩
         ·omega
         ·exact zAa xs lv lo hi a k x y g1 g2 hkh g3 HXK.out g4 hxe))
        clear HX HY;go_wp2;go_ret
        exact ⟨by first | rfl | (rw [HR.out]; rfl), rfl⟩
       ·have HS2 := hide (show Scan xs lv lo (k + 1) k from by
         rcases HSC.out with ⟨h, g⟩ | ⟨a, y, rfl, _⟩
         ·exact .inr ⟨k, x, rfl, hk1, by omega, HXK.out, hxe, g, by rw [YK _ _ _ lR]; simp⟩
         ·omega)
        clear HX HY;go_wp2;go_roundw
        case rel => exact ⟨k, k + 1, by omega, by omega, rfl, by go_num, HS2.out, by first | rfl | trivial⟩
        case measure => simp [intOf]; omega
      ·have HS2 := hide (show Scan xs lv lo (k + 1) at_ from by
        rcases HSC.out with ⟨h, g⟩ | ⟨a, y, rfl, g1, g2, g3, g4, g5, g6⟩
        ·refine .inl ⟨h, fun z hz => ?_⟩
         rw [KX xs lo k x hk1 HXK.out] at hz
         rcases List.mem_append.1 hz with hz | hz
         ·exact g z hz
         ·simp at hz; subst hz; omega
        ·refine .inr ⟨a, y, rfl, g1, by omega, g3, g4, g5, fun z hz => ?_⟩
         rw [KX xs (a + 1) k x (by omega) HXK.out] at hz
         rcases List.mem_append.1 hz with hz | hz
         ·exact g6 z hz
         ·simp at hz; subst hz; omega)
       clear HX HY;go_wp2;go_roundw
       case rel => exact ⟨at_, k + 1, by omega, by omega, rfl, by go_num, HS2.out, by first | rfl | trivial⟩
       case measure => simp [intOf]; omega
    ·obtain rfl : k = hi := by omega
     have hge : ¬ (k : Int) < (k : Int) := by omega
     rcases HSC.out with ⟨rfl, g⟩ | ⟨a, y, rfl, g1, g2, g3, g4, g5, g6⟩
     ·have HR := hide (HY.out (zCj xs lv lo k g))
      clear HX HY g HSC;go_wp2;go_ret
      exact ⟨by first | rfl | (rw [HR.out]; rfl), rfl⟩
     ·have HR := hide (HX.out a y g1 g2 g3 g4 g5 g6)
      have I1 := hide (IH.out (lv + 1) lo a (by omega) (by omega) (by omega) (by omega))
      have I2 := hide (IH.out (lv + 1) (a + 1) k (by omega) (by omega) (by omega) (by omega))
      have b1 := XX f (lv + 1) (seg xs lo a);have b2 := XX f (lv + 1) (seg xs (a + 1) k);generalize shp f (lv + 1) (seg xs lo a) = s1 at *;generalize shp f (lv + 1) (seg xs (a + 1) k) = s2 at *
      have hf : (f : Int) <= 41 := by omega
      clear HX HY g3 g4 g5 g6 HSC IH hbd;go_wp2_with fail;refine I1.out.mono ?_;rintro e w1 ⟨rfl, rfl⟩
      by_cases hs1 : s1 < 0
      ·rw [if_pos hs1] at HR
       go_wp2_with fail;go_ret
       exact ⟨by first | rfl | (rw [HR.out]; rfl), rfl⟩
      ·rw [if_neg hs1] at HR
       simp only [Int.natCast_add, Int.cast_ofNat_Int] at I2;go_wp2_with fail;refine I2.out.mono ?_;rintro e w2 ⟨rfl, rfl⟩
       by_cases hs2 : s2 < 0 ∨ s1 - s2 > 1 ∨ s2 - s1 > 1
       ·rw [if_pos hs2] at HR
        rcases Int.lt_or_le s2 0 with g7 | g7
        ·clear hs2
         go_wp2_with fail;go_ret
         exact ⟨by first | rfl | (rw [HR.out]; rfl), rfl⟩
        ·rcases Int.lt_or_le 1 (s1 - s2) with g8 | g8
         ·clear hs2
          go_wp2_with fail;go_ret
          exact ⟨by first | rfl | (rw [HR.out]; rfl), rfl⟩
         ·have g9 : 1 < s2 - s1 := by omega
          clear hs2;go_wp2_with fail;go_ret
          exact ⟨by first | rfl | (rw [HR.out]; rfl), rfl⟩
       ·rw [if_neg hs2] at HR
        have g7 : 0 <= s2 := by omega
        have g8 : s1 - s2 <= 1 := by omega
        have g9 : s2 - s1 <= 1 := by omega
        clear hs2
        by_cases hmx : s2 > s1
        ·have HE := hide (show res = s2 + 1 by rw [HR.out]; omega)
         go_wp2_with fail;go_ret
         exact ⟨by first | rfl | (rw [HE.out]; rfl), rfl⟩
        ·have HE := hide (show res = s1 + 1 by rw [HR.out]; omega)
         go_wp2_with fail;go_ret
         exact ⟨by first | rfl | (rw [HE.out]; rfl), rfl⟩
theorem pieceOkS (p : Pc) (w : World) : Calls Tryz.prog 90 #[pcV p] w fun e w' => e = .returned (.bool (pcOk p)) ∧ Below w.heap.size w w' := by
 obtain ⟨po, pl, pb⟩ := p
 have HX := hide (show pcOk ⟨po, pl, pb⟩ = decide (1 <= pl ∧ pl <= 8192 ∧ 0 <= po ∧ po + pl <= 220000 ∧ 0 <= pb ∧ pb <= pl) from rfl)
 generalize pcOk ⟨po, pl, pb⟩ = res at HX |-;unfold pcV;simp only
 by_cases h1 : pl < 1
 ·go_enter Tryz.func90, Tryz.ntmps90
  go_wp2;go_ret
  exact ⟨by rw [HX.out, decide_eq_false (by omega)]; rfl, (Below.refl _ _).alloc lR _⟩
 ·by_cases h2 : pl > 8192
  ·go_enter Tryz.func90, Tryz.ntmps90
   go_wp2;go_ret
   exact ⟨by rw [HX.out, decide_eq_false (by omega)]; rfl, (Below.refl _ _).alloc lR _⟩
  ·by_cases h3 : po < 0
   ·go_enter Tryz.func90, Tryz.ntmps90
    go_wp2;go_ret
    exact ⟨by rw [HX.out, decide_eq_false (by omega)]; rfl, (Below.refl _ _).alloc lR _⟩
   ·by_cases h4 : po > 220000
    ·go_enter Tryz.func90, Tryz.ntmps90
     go_wp2;go_ret
     exact ⟨by rw [HX.out, decide_eq_false (by omega)]; rfl, (Below.refl _ _).alloc lR _⟩
    ·by_cases h5 : po + pl <= 220000
     ·by_cases h6 : pb >= 0
      ·by_cases h7 : pb <= pl
       ·go_enter Tryz.func90, Tryz.ntmps90
        go_wp2;go_ret
        exact ⟨by rw [HX.out, decide_eq_true (by omega)]; rfl, (Below.refl _ _).alloc lR _⟩
       ·go_enter Tryz.func90, Tryz.ntmps90
        go_wp2;go_ret
        exact ⟨by rw [HX.out, decide_eq_false (by omega)]; rfl, (Below.refl _ _).alloc lR _⟩
      ·go_enter Tryz.func90, Tryz.ntmps90
       go_wp2;go_ret
       exact ⟨by rw [HX.out, decide_eq_false (by omega)]; rfl, (Below.refl _ _).alloc lR _⟩
     ·go_enter Tryz.func90, Tryz.ntmps90
      go_wp2;go_ret
      exact ⟨by rw [HX.out, decide_eq_false (by omega)]; rfl, (Below.refl _ _).alloc lR _⟩
def Pcs (xs : List It) : Prop := ∀ x ∈ xs, pcOk x.pc = true
theorem Pcs.total {xs : List It} (h : Pcs xs) (j : Nat) : 0 <= total (xs.take j) ∧ total (xs.take j) <= 8192 * (xs.take j).length := by
 have h' : ∀ x ∈ xs.take j, pcOk x.pc = true := fun x hx => h x (List.mem_of_mem_take hx)
 generalize xs.take j = ys at h' |-;clear h
 induction ys with
 | nil => simp [Go.Proofs.YtbgngikejgihgafGreatDoor.total]
 | cons y ys ih =>
  have h1 := h' y (by simp)
  simp only [pcOk, decide_eq_true_eq] at h1
  have h2 := ih (fun x hx => h' x (by simp [hx]))
  simp only [Go.Proofs.YtbgngikejgihgafGreatDoor.total, List.length_cons]; omega
theorem totalS (B : Nat) (v : Value) (xs : List It) (w : World) (hr : RdI B w v xs) (hB : B <= w.heap.size) (hn : xs.length <= 1048576) (hp : Pcs xs) :
  Calls Tryz.prog 91 #[v] w fun e w' => e = .returned (.int .i64 (total xs)) ∧ Below w.heap.size w w' := by
 rcases hr with ⟨ao, cap, rfl, rfl⟩ | ⟨b, off, cap, rfl, ⟨hp0, hpc, hpm⟩, hb, hc⟩
 ·go_enter Tryz.func91, Tryz.ntmps91
  go_wp2_with fail
  go_loopw [3, 8] (fun s i wr => i = .int .i64 0 ∧ s = .int .i64 0 ∧ wr = w) (fun _ _ _ => 0)
  case atStart => exact ⟨rfl, rfl, rfl⟩
  case round =>
   obtain ⟨rfl, rfl, rfl⟩ := hrel;go_wp2;go_ret;exact ⟨rfl, Below.refl _ _⟩
 ·have hbl : b < w.heap.size := by omega
  have HC := hide hc;have HP := hide hp;generalize hres : total xs = res;have HRES := hide hres;generalize hN : xs.length = n at *;unfold maxLen at hpm;clear hc hp hres;go_enter Tryz.func91, Tryz.ntmps91;go_wp2_with fail
  go_loopw [3, 8] (fun s i wr => ∃ j : Nat, j <= n ∧ i = .int .i64 j ∧ s = .int .i64 (total (xs.take j)) ∧ Below w.heap.size w wr) (fun _ i _ => n - (intOf i).toNat)
  case atStart => exact ⟨0, Nat.zero_le _, rfl, by simp [total], Below.refl _ _⟩
  case round =>
   obtain ⟨j, hj, rfl, rfl, hbw⟩ := hrel;have HBW := hide hbw;have hsw := hbw.size;have hT := HP.out.total j
   have hjl : (xs.take j).length <= 1048576 := by rw [List.length_take]; omega
   generalize hTT : total (xs.take j) = tt at *;have HTT := hide hTT;clear hbw hTT
   by_cases hjn : j < n
   ·obtain ⟨x, hx, a0, a1, a2, a3⟩ := YI (B := B) (cap := cap) HC.out (hN ▸ hjn)
    have hjn' : (j : Int) < n := by omega
    have hxp := HP.out x (List.mem_iff_getElem?.2 ⟨j, hx⟩);simp only [pcOk, decide_eq_true_eq] at hxp;have hx' := hide hx;have e0 := (HBW.out.cell (p := ⟨b, off + j * 4, none⟩) hbl).trans a0;have e1 := (HBW.out.cell (p := ⟨b, off + j * 4 + 1, none⟩) hbl).trans a1;have e2 := (HBW.out.cell (p := ⟨b, off + j * 4 + 2, none⟩) hbl).trans a2;have e3 := (HBW.out.cell (p := ⟨b, off + j * 4 + 3, none⟩) hbl).trans a3
    have hbr : b < wr.heap.size := by omega
    have HS := hide (show total (xs.take (j + 1)) = tt + x.pc.len by rw [yM hx, zp, HTT.out]; simp [total])
    have hT2 : 0 <= tt ∧ tt <= 8589934592 := by omega
    clear a0 a1 a2 a3 hx hT hjl;go_wp2;go_roundw
    case rel => exact ⟨j + 1, by omega, by go_num, by rw [HS.out], HBW.out.alloc hsw _⟩
    case measure => simp [intOf]; omega
   ·have hjn2 : j = n := by omega
    subst hjn2
    have hge : ¬ (j : Int) < (j : Int) := by omega
    have HE := hide (show res = tt by rw [<- HTT.out, List.take_of_length_le (by omega)]; exact HRES.out.symm)
    clear hT hjl;go_wp2;go_ret
    exact ⟨by first | rfl | (rw [HE.out]; rfl), HBW.out⟩
theorem okT_def (xs : List It) : okT xs = (decide (xs.length <= 8192) && xs.all (fun x => pcOk x.pc) && decide (total xs <= 8192) && decide (0 <= shp 41 0 xs)) := rfl
theorem validS (B : Nat) (v : Value) (xs : List It) (w : World) (hr : RdI B w v xs) (hB : B <= w.heap.size) (hn : xs.length <= 1048576) :
  Calls Tryz.prog 46 #[.agg #[v]] w fun e w' => e = .returned (.bool (okT xs)) ∧ Below w.heap.size w w' := by
 obtain ⟨ao, cap, rfl⟩ := hr.val;have HX := hide (okT_def xs);generalize okT xs = res at HX |-;have HB0 := hide ((Below.refl w.heap.size w).alloc lR (.cells #[.slice ao xs.length cap] 31));have HR0 := hide (hr.below HB0.out hB)
 have hs0 : (w.alloc (.cells #[.slice ao xs.length cap] 31)).heap.size = w.heap.size + 1 := by simp
 have hk0 : (w.alloc (.cells #[.slice ao xs.length cap] 31)).heap[w.heap.size]? = some (.cells #[.slice ao xs.length cap] 31 (0, 0)) := heap_alloc_new _ _
 have hnn : (xs.length : Int) <= 1048576 := by omega
 by_cases hbig : xs.length > 8192
 ·have hbig' : (xs.length : Int) > 8192 := by omega
  clear hr;go_enter Tryz.func46, Tryz.ntmps46;go_wp2;go_ret
  exact ⟨by rw [HX.out, decide_eq_false (by omega)]; rfl, HB0.out⟩
 ·have hbig' : ¬ (xs.length : Int) > 8192 := by omega
  have hcell : ∀ j, j < xs.length -> ∃ b off x, ao = some ⟨b, off, none⟩ ∧ b < B ∧ xs[j]? = some x ∧ ItAt w b (off + j * 4) x := by
   intro j hj
   obtain ⟨b, off, cap', e, _, hb, hc⟩ := hr.at (by intro e; subst e; simp at hj)
   cases e;obtain ⟨x, h1, h2⟩ := YI (B := B) (cap := cap) hc hj;exact ⟨b, off, x, rfl, hb, h1, h2⟩
  have HC := hide hcell
  have hcap : xs.length <= cap ∧ cap <= maxLen ∨ xs.length = 0 := by
   rcases hr with ⟨_, _, e, rfl⟩ | ⟨_, _, _, e, hp, _⟩
   ·right; rfl
   ·cases e; left; exact ⟨hp.2.1, hp.2.2⟩
  unfold maxLen at hcap;generalize hN : xs.length = n at *;clear hr hcell;go_enter Tryz.func46, Tryz.ntmps46;go_wp2_with fail;generalize w.alloc (.cells #[.slice ao n cap] 31) = w0 at *
  go_loopw [12] (fun i wr => ∃ j : Nat, j <= n ∧ i = .int .i64 j ∧ Pcs (xs.take j) ∧ Below w0.heap.size w0 wr) (fun i _ => n - (intOf i).toNat)
  case atStart => exact ⟨0, Nat.zero_le _, rfl, by intro x hx; simp at hx, Below.refl _ _⟩
  case round =>
   obtain ⟨j, hj, rfl, hpj, hbw⟩ := hrel;have HPJ := hide hpj;have HBW := hide hbw;have hsw := hbw.size;clear hbw hpj
   by_cases hjn : j < n
   ·obtain ⟨b, off, x, rfl, hb, hx, a0, a1, a2, a3⟩ := HC.out j hjn
    have hbl : b < w0.heap.size := by omega
    have hjn' : (j : Int) < n := by omega
    have hx' := hide hx
    have hBw := (HB0.out.trans (HBW.out.mono (by omega)))
    have hbw2 : b < w.heap.size := by omega
    have e0 := (hBw.cell (p := ⟨b, off + j * 4, none⟩) hbw2).trans a0;have e1 := (hBw.cell (p := ⟨b, off + j * 4 + 1, none⟩) hbw2).trans a1;have e2 := (hBw.cell (p := ⟨b, off + j * 4 + 2, none⟩) hbw2).trans a2;have e3 := (hBw.cell (p := ⟨b, off + j * 4 + 3, none⟩) hbw2).trans a3
    have hbr : b < wr.heap.size := by omega
    have HBA := hide (HBW.out.alloc hsw (.cells #[.int .i64 x.pc.off, .int .i64 x.pc.len, .int .i64 x.pc.brk, .int .i64 x.lv] 89));have HKP := hide (pieceOkS x.pc (wr.alloc (.cells #[.int .i64 x.pc.off, .int .i64 x.pc.len, .int .i64 x.pc.brk, .int .i64 x.lv] 89)))
    have hsa : (wr.alloc (.cells #[.int .i64 x.pc.off, .int .i64 x.pc.len, .int .i64 x.pc.brk, .int .i64 x.lv] 89)).heap.size = wr.heap.size + 1 := by simp
    clear a0 a1 a2 a3 hx hBw;go_wp2_with fail;generalize wr.alloc (.cells #[.int .i64 x.pc.off, .int .i64 x.pc.len, .int .i64 x.pc.brk, .int .i64 x.lv] 89) = wa at *;refine HKP.out.mono ?_;rintro e w1 ⟨rfl, hb1⟩
    have HB1 := hide (HBA.out.trans (hb1.mono (by omega)))
    clear hb1 HKP HBA e0 e1 e2 e3
    cases hpk : pcOk x.pc with
    | false =>
     have HE := hide (show res = false by
      rw [HX.out]
      have : xs.all (fun x => pcOk x.pc) = false := by
       cases hh : xs.all (fun x => pcOk x.pc) with
       | false => rfl
       | true => have := List.all_eq_true.1 hh x (List.mem_iff_getElem?.2 ⟨j, hx'.out⟩); rw [hpk] at this; cases this
      rw [this]; simp)
     clear hpk;go_wp2;go_ret
     exact ⟨by first | rfl | (rw [HE.out]; rfl), HB0.out.trans (HB1.out.mono (by omega))⟩
    | true =>
     have HP2 := hide (show Pcs (xs.take (j + 1)) from by
      intro z hz;rw [yM hx'.out] at hz
      rcases List.mem_append.1 hz with hz | hz
      ·exact HPJ.out z hz
      ·simp at hz; subst hz; exact hpk)
     clear hpk;go_wp2;go_roundw
     case rel => exact ⟨j + 1, by omega, by go_num, HP2.out, HB1.out⟩
     case measure => simp [intOf]; omega
   ·have hjn2 : j = n := by omega
    subst hjn2
    have hge : ¬ (j : Int) < (j : Int) := by omega
    have HP := hide (show Pcs xs from by have := HPJ.out; rw [List.take_of_length_le (by omega)] at this; exact this)
    have hall : xs.all (fun x => pcOk x.pc) = true := List.all_eq_true.2 HP.out
    rw [hall, decide_eq_true (show j <= 8192 by omega)] at HX
    simp only [Bool.true_and, Bool.and_true] at HX
    have hk1 := (HBW.out.block w.heap.size (by omega)).trans hk0
    have c0 : wr.cell? ⟨w.heap.size, 0, none⟩ = some (.slice ao j cap) := by rw [cell_of_row wr _ 0 _ _ _ hk1]; rfl
    have HRr := hide (HR0.out.below HBW.out (by omega))
    have hlw : w.heap.size < wr.heap.size := by omega
    clear hall hk1;go_wp2_with fail
    refine (totalS B _ xs wr HRr.out (by omega) (by omega) HP.out).mono ?_
    rintro e w1 ⟨rfl, hb1⟩;have hs1 := hb1.size
    have HB1 := hide (HB0.out.trans ((HBW.out.trans (hb1.mono (by omega))).mono (by omega)))
    have c1 : w1.cell? ⟨w.heap.size, 0, none⟩ = some (.slice ao j cap) := (hb1.cell (p := ⟨w.heap.size, 0, none⟩) hlw).trans c0
    have hR1 := HRr.out.below hb1 (by omega)
    have HS := hide (shapeN B _ xs w1 hR1 (by omega) 41 0 0 j (by omega) (by omega) (by omega) (by omega))
    have hseg : seg xs 0 j = xs := by rw [<- hN]; exact seg_full xs
    rw [hseg] at HS
    have hlw1 : w.heap.size < w1.heap.size := by omega
    clear hb1 hR1 hseg c0;generalize total xs = tt at *;generalize shp 41 0 xs = sh at *
    by_cases htt : tt <= 8192
    ·rw [decide_eq_true htt] at HX
     simp only [Bool.true_and] at HX;go_wp2_with fail;refine HS.out.mono ?_;rintro e w2 ⟨rfl, rfl⟩;go_wp2;go_ret
     exact ⟨by rw [HX.out]; rfl, HB1.out⟩
    ·rw [decide_eq_false htt] at HX
     simp only [Bool.false_and] at HX;go_wp2;go_ret
     exact ⟨by rw [HX.out]; rfl, HB1.out⟩
theorem okT_pcs {xs : List It} (h : okT xs = true) : Pcs xs ∧ xs.length <= 8192 ∧ total xs <= 8192 ∧ ∀ x ∈ xs, 0 <= x.lv ∧ x.lv <= 8192 := by
 obtain ⟨T, hT⟩ := Xy h;obtain ⟨h1, h2, h3, h4⟩ := yk hT;simp only [okT, Bool.and_eq_true, decide_eq_true_eq] at h
 refine ⟨List.all_eq_true.1 h.1.1.2, h.1.1.1, h.1.2, fun x hx => ?_⟩
 have g := AT.told_lv T 0 x (h3 ▸ hx);have g2 := AT.ht_its T
 have g3 : T.its = xs.length := by rw [h3, AT.told_length]
 omega
def At32 (w : World) (b o : Nat) (zs : List Int) : Prop := ∀ i, i < zs.length -> w.cell? ⟨b, o + i, none⟩ = some (.int .i32 (zs.getD i 0))
theorem At32.below {B : Nat} {w w' : World} {b o : Nat} {zs : List Int} (h : At32 w b o zs) (hb : Below B w w') (hB : b < B) : At32 w' b o zs := fun i hi => (hb.cell (p := ⟨b, o + i, none⟩) hB).trans (h i hi)
theorem wps_at {zs : List Int} {xs : List It} {j : Nat} {x : It} (hx : xs[j]? = some x) (h : wpB zs x.pc = false) : wps zs xs = false := by
 cases hh : wps zs xs with
 | false => rfl
 | true => have := List.all_eq_true.1 hh x (List.mem_iff_getElem?.2 ⟨j, hx⟩); rw [h] at this; cases this
theorem pvalidS (B : Nat) (zs : List Int) (b o cap : Nat) (v : Value) (xs : List It) (w : World) (hc : At32 w b o zs) (hb : b < w.heap.size) (hz : zs.length <= 1048576) (hcap : zs.length <= cap) (hm : cap <= maxLen) (hr : RdI B w v xs) (hB : B <= w.heap.size) (hn : xs.length <= 1048576) :
  Calls Tryz.prog 16 #[.agg #[.slice (some ⟨b, o, none⟩) zs.length cap, v]] w fun e w' => e = .returned (.bool (pRead zs xs).isSome) ∧ Below w.heap.size w w' := by
 obtain ⟨ao, cap', rfl⟩ := hr.val;have HX := hide (XT zs xs);generalize (pRead zs xs).isSome = res at HX |-;have HB0 := hide ((Below.refl w.heap.size w).alloc lR (.cells #[.slice (some ⟨b, o, none⟩) zs.length cap, .slice ao xs.length cap'] 33));have HR0 := hide (hr.below HB0.out hB);have HC0 := hide (hc.below HB0.out hb)
 have hs0 : (w.alloc (.cells #[.slice (some ⟨b, o, none⟩) zs.length cap, .slice ao xs.length cap'] 33)).heap.size = w.heap.size + 1 := by simp
 have hk0 : (w.alloc (.cells #[.slice (some ⟨b, o, none⟩) zs.length cap, .slice ao xs.length cap'] 33)).heap[w.heap.size]? = some (.cells #[.slice (some ⟨b, o, none⟩) zs.length cap, .slice ao xs.length cap'] 33 (0, 0)) := heap_alloc_new _ _
 have HV := hide (validS B _ xs _ HR0.out (by omega) hn)
 have hZ : (zs.length : Int) <= 1048576 := by omega
 clear hc
 by_cases hbig : zs.length > 220000
 ·have hbig' : (zs.length : Int) > 220000 := by omega
  clear hr;go_enter Tryz.func16, Tryz.ntmps16;go_wp2;go_ret
  exact ⟨by rw [HX.out, decide_eq_false (by omega)]; rfl, HB0.out⟩
 have hbig' : ¬ (zs.length : Int) > 220000 := by omega
 rw [decide_eq_true (show zs.length <= 220000 by omega), Bool.true_and] at HX
 have hcell : ∀ j, j < xs.length -> ∃ b off x, ao = some ⟨b, off, none⟩ ∧ b < B ∧ xs[j]? = some x ∧ ItAt w b (off + j * 4) x := by
  intro j hj
  obtain ⟨b, off, cap', e, _, hb, hc⟩ := hr.at (by intro e; subst e; simp at hj)
  cases e;obtain ⟨x, h1, h2⟩ := YI (B := B) (cap := cap) hc hj;exact ⟨b, off, x, rfl, hb, h1, h2⟩
 have HC := hide hcell
 have hcapx : xs.length <= cap' ∧ cap' <= maxLen ∨ xs.length = 0 := by
  rcases hr with ⟨_, _, e, rfl⟩ | ⟨_, _, _, e, hp, _⟩
  ·right; rfl
  ·cases e; left; exact ⟨hp.2.1, hp.2.2⟩
 unfold maxLen at hcapx hm
 have HPCS : Hid (okT xs = true -> Pcs xs) := hide fun h => (okT_pcs h).1
 generalize hN : xs.length = n at *;generalize hNZ : zs.length = nz at *;clear hr hcell
 cases hok : okT xs with
 | false =>
  rw [hok] at HV HX;clear hok;go_enter Tryz.func16, Tryz.ntmps16;go_wp2_with fail;generalize w.alloc (.cells #[.slice (some ⟨b, o, none⟩) nz cap, .slice ao n cap'] 33) = w0 at *;refine HV.out.mono ?_;rintro e w1 ⟨rfl, hb1⟩
  have HB1 := hide (HB0.out.trans (hb1.mono (by omega)))
  clear hb1;go_wp2;go_ret
  exact ⟨by rw [HX.out]; rfl, HB1.out⟩
 | true =>
  have HP := hide (HPCS.out hok);rw [hok] at HV HX;rw [Bool.true_and] at HX;clear hok HPCS;go_enter Tryz.func16, Tryz.ntmps16;go_wp2_with fail;generalize w.alloc (.cells #[.slice (some ⟨b, o, none⟩) nz cap, .slice ao n cap'] 33) = w0 at *;refine HV.out.mono ?_;rintro e w1 ⟨rfl, hb1⟩
  have HB1 := hide (HB0.out.trans (hb1.mono (by omega)))
  have hs1 := hb1.size
  have hk1 := (hb1.block w.heap.size (by omega)).trans hk0
  have HC1 := hide (HC0.out.below hb1 (by omega))
  have c0 : w1.cell? ⟨w.heap.size, 0, none⟩ = some (.slice (some ⟨b, o, none⟩) nz cap) := by rw [cell_of_row w1 _ 0 _ _ _ hk1]; rfl
  have c1 : w1.cell? ⟨w.heap.size, 1, none⟩ = some (.slice ao n cap') := by rw [cell_of_row w1 _ 1 _ _ _ hk1]; rfl
  have HK1 := hide hk1;clear hb1 hk1 hk0 HC0 HR0 HV;go_wp2_with fail
  go_loopw [19] (fun i wr => ∃ j : Nat, j <= n ∧ i = .int .i64 j ∧ wps zs (xs.take j) = true ∧ Below w1.heap.size w1 wr) (fun i _ => n - (intOf i).toNat)
  case atStart => exact ⟨0, Nat.zero_le _, rfl, rfl, Below.refl _ _⟩
  case round =>
   obtain ⟨j, hj, rfl, hpj, hbw⟩ := hrel;have HPJ := hide hpj;have HBW := hide hbw;have hsw := hbw.size;clear hbw hpj c0 c1
   by_cases hjn : j < n
   ·obtain ⟨b', off, x, rfl, hb', hx, a0, a1, a2, a3⟩ := HC.out j hjn
    have hjn' : (j : Int) < n := by omega
    have hx' := hide hx;have hpx := HP.out x (List.mem_iff_getElem?.2 ⟨j, hx⟩);simp only [pcOk, decide_eq_true_eq] at hpx
    have hBw := (HB1.out.trans (HBW.out.mono (by omega)))
    have hbw2 : b' < w.heap.size := by omega
    have e0 := (hBw.cell (p := ⟨b', off + j * 4, none⟩) hbw2).trans a0;have e1 := (hBw.cell (p := ⟨b', off + j * 4 + 1, none⟩) hbw2).trans a1;have e2 := (hBw.cell (p := ⟨b', off + j * 4 + 2, none⟩) hbw2).trans a2;have e3 := (hBw.cell (p := ⟨b', off + j * 4 + 3, none⟩) hbw2).trans a3
    have hbr : b' < wr.heap.size := by omega
    have HBA := hide (HBW.out.alloc hsw (.cells #[.int .i64 x.pc.off, .int .i64 x.pc.len, .int .i64 x.pc.brk, .int .i64 x.lv] 89));have KA : (wr.alloc (.cells #[.int .i64 x.pc.off, .int .i64 x.pc.len, .int .i64 x.pc.brk, .int .i64 x.lv] 89)).heap[wr.heap.size]? = some (.cells #[.int .i64 x.pc.off, .int .i64 x.pc.len, .int .i64 x.pc.brk, .int .i64 x.lv] 89 (0, 0)) := heap_alloc_new _ _
    have d0 : (wr.alloc (.cells #[.int .i64 x.pc.off, .int .i64 x.pc.len, .int .i64 x.pc.brk, .int .i64 x.lv] 89)).cell? ⟨wr.heap.size, 0, none⟩ = some (.int .i64 x.pc.off) := by rw [cell_of_row _ _ 0 _ _ _ KA]; rfl
    have d1 : (wr.alloc (.cells #[.int .i64 x.pc.off, .int .i64 x.pc.len, .int .i64 x.pc.brk, .int .i64 x.lv] 89)).cell? ⟨wr.heap.size, 1, none⟩ = some (.int .i64 x.pc.len) := by rw [cell_of_row _ _ 1 _ _ _ KA]; rfl
    have d2 : (wr.alloc (.cells #[.int .i64 x.pc.off, .int .i64 x.pc.len, .int .i64 x.pc.brk, .int .i64 x.lv] 89)).cell? ⟨wr.heap.size, 2, none⟩ = some (.int .i64 x.pc.brk) := by rw [cell_of_row _ _ 2 _ _ _ KA]; rfl
    have c0 : (wr.alloc (.cells #[.int .i64 x.pc.off, .int .i64 x.pc.len, .int .i64 x.pc.brk, .int .i64 x.lv] 89)).cell? ⟨w.heap.size, 0, none⟩ = some (.slice (some ⟨b, o, none⟩) nz cap) := by rw [HBA.out.cell (p := ⟨w.heap.size, 0, none⟩) (by show w.heap.size < w1.heap.size; omega), cell_of_row w1 _ 0 _ _ _ HK1.out]; rfl
    have HCA := hide (HC1.out.below HBA.out (by omega))
    have hsa : (wr.alloc (.cells #[.int .i64 x.pc.off, .int .i64 x.pc.len, .int .i64 x.pc.brk, .int .i64 x.lv] 89)).heap.size = wr.heap.size + 1 := by simp
    have hlw : w.heap.size < wr.heap.size := by omega
    clear a0 a1 a2 a3 hx hBw KA;obtain ⟨⟨po, pl, pb⟩, lv⟩ := x;simp only at *
    by_cases hfit : po + pl > (nz : Int)
    ·have HE := hide (show res = false by rw [HX.out]; exact wps_at hx'.out (by simp only [wpB, Bool.and_eq_false_iff, decide_eq_false_iff_not, hNZ]; left; omega))
     go_wp2;go_ret
     exact ⟨by rw [HE.out]; rfl, HB1.out.trans (HBA.out.mono (by omega))⟩
    ·have g1 : po <= po + pl := by omega
     have g2 : po + pl <= (cap : Int) := by omega
     have g3 : ¬ cap = po.toNat := by omega
     have g4 : (0 : Int) <= po + pl := by omega
     obtain ⟨q, rfl⟩ : ∃ q : Nat, po = q := ⟨po.toNat, by omega⟩
     obtain ⟨l, rfl⟩ : ∃ l : Nat, pl = l := ⟨pl.toNat, by omega⟩
     simp only [Int.toNat_natCast] at g3
     have HBR : Hid (∀ m : Nat, Calls Tryz.prog 47 #[.slice (some ⟨b, o + q, none⟩) l (cap - q)] ((wr.alloc (.cells #[.int .i64 (q : Int), .int .i64 (l : Int), .int .i64 pb, .int .i64 lv] 89)).drewN m) fun e w' => e = .returned (.int .i64 (brk ((zs.drop q).take l))) ∧ w' = (wr.alloc (.cells #[.int .i64 (q : Int), .int .i64 (l : Int), .int .i64 pb, .int .i64 lv] 89)).drewN m) := hide fun m =>
      JM _ _ _ (rd_cut (zs := zs) (fun i hi => (World.cell?_of_block (w := wr.alloc (.cells #[.int .i64 (q : Int), .int .i64 (l : Int), .int .i64 pb, .int .i64 lv] 89)) (by simp)).trans (HCA.out i hi)) q l (by omega) (by omega) (by omega) (by unfold maxLen; omega)) (by rw [List.length_take, List.length_drop]; omega)
     have HW : Hid (wpB zs ⟨(q : Int), (l : Int), pb⟩ = decide (pb = brk ((zs.drop q).take l))) := hide (by
      unfold wpB ptx
      rw [decide_eq_true (by rw [hNZ]; exact Int.not_lt.1 hfit), Bool.true_and]
      rfl)
     generalize brk ((zs.drop q).take l) = br at *;go_wp2_with fail;generalize wr.alloc (.cells #[.int .i64 (q : Int), .int .i64 (l : Int), .int .i64 pb, .int .i64 lv] 89) = wa at *;go_quiet ((go_at_call 47; exact Calls.quiet_of_same (HBR.out _)))
     have HBN := hide (show Below w1.heap.size w1 (wa.drewN nq) from HBA.out.trans (Y5 _ _ _))
     by_cases hq : pb = br
     ·have HPS := hide (show wps zs (xs.take (j + 1)) = true by rw [yM hx'.out, KS, HPJ.out, HW.out, decide_eq_true hq]; rfl)
      subst hq;go_wp2;go_roundw
      case rel => exact ⟨j + 1, by omega, by go_num, HPS.out, HBN.out⟩
      case measure => simp [intOf]; omega
     ·have HE := hide (show res = false by rw [HX.out]; exact wps_at hx'.out (by rw [HW.out]; exact decide_eq_false hq))
      go_wp2;go_ret
      exact ⟨by rw [HE.out]; rfl, HB1.out.trans (HBN.out.mono (by omega))⟩
   ·have hjn2 : j = n := by omega
    subst hjn2
    have hge : ¬ (j : Int) < (j : Int) := by omega
    have HE := hide (show res = true by rw [HX.out]; have := HPJ.out; rw [List.take_of_length_le (by omega)] at this; exact this)
    go_wp2;go_ret
    exact ⟨by rw [HE.out]; rfl, HB1.out.trans (HBW.out.mono (by omega))⟩
end Go.Proofs.YtbgngikejgihgafGreatDoor
