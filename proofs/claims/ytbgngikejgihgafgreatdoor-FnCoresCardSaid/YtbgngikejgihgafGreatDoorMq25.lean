import Derived.Test.YtbgngikejgihgafGreatDoorMq24
import Derived.Deep.RegionLaw
namespace Go.Proofs.YtbgngikejgihgafGreatDoor
open Go Go.RowKit
set_option linter.unusedVariables false
set_option maxRecDepth 100000
set_option maxHeartbeats 8000000
theorem clone32 (xs : List Int) (v : Value) (w : World) (h : Sl .i32 w v xs) (hx : xs.length <= 1048576) :
  Calls Tryz.prog 76 #[v] w fun e w' => ∃ v', e = .returned v' ∧ w'.ownsRow w.heap.size 21 1 v' xs.length (ints .i32 xs) ∧ Below w.heap.size w w' := by
 obtain ⟨i0, hi, hz0, hz1, hz2⟩ := info_parts Tryz.infoG;have HS := hide h
 rcases h with ⟨rfl, rfl⟩ | ⟨b, off, cap, rfl, _, _⟩
 ·have hq := fun w : World => Lib.run_eql_slice_nil (P := Tryz.prog) w 25 21 none 0 0 0 0 Tryz.underlying25
  simp only [Option.isNone_none] at hq;go_enter Tryz.func76, Tryz.ntmps76;go_wp2;go_ret;exact ⟨_, rfl, World.ownsRow_nil _ _ _ _, Below.refl _ _⟩
 ·have hown0 : (w.alloc (.cells #[] 21)).ownsRow w.heap.size 21 1 (.slice (some ⟨w.heap.size, 0, none⟩) 0 0) 0 [] := by
   have := World.ownsRow_made (base := w.heap.size) (e := 21) (size := 1) w #[] 0 (by simp) (Nat.zero_le _) rfl
   simpa using this
  have H0 := hide hown0;have HB1 := hide ((Below.refl w.heap.size w).alloc lR (.cells #[] 21));have HC := hide ((HS.out.below HB1.out).rd rfl)
  have hq := fun w : World => Lib.run_eql_slice_nil (P := Tryz.prog) w 25 21 (some ⟨b, off, none⟩) xs.length cap 0 0 Tryz.underlying25
  simp only [Option.isNone_some] at hq;clear hown0;go_enter Tryz.func76, Tryz.ntmps76
  go_wp2_with (at_builtin; refine wpList_append_own _ rfl _ _ 25 rfl w.heap.size 21 i0 (.int .i32 0) 1 4 Tryz.underlying25 hi hz0 hz1 hz2 rfl (by decide) _ 0 [] rfl H0.out ⟨b, off, none⟩ xs.length cap (ints .i32 xs) rfl (by rw [zA, Nat.mul_one]) HC.out (zG _ _) (by unfold maxLen; omega) (by omega) HB1.out.size ?_; intro v3 w3 ho3 hg3 _)
  rw [Nat.zero_add, List.nil_append] at ho3;have HO3 := hide ho3
  have HB3 := hide (HB1.out.grown hg3 HB1.out.size (fun q hq => by cases hq; exact lR))
  clear ho3 hg3;go_wp2;go_ret;exact ⟨_, rfl, HO3.out, HB3.out⟩
def Cl (w : World) (g : Nat) (zs : List Int) : Prop := ∀ i, i < zs.length -> w.cell? ⟨g, i, none⟩ = some (.int .i32 (zs.getD i 0))
theorem Cl.below {w w' : World} {g D : Nat} {zs : List Int} (h : Cl w g zs) (hb : Below D w w') (hg : g < D) : Cl w' g zs := fun i hi => (hb.cell (p := ⟨g, i, none⟩) hg).trans (h i hi)
theorem Cl.cut {w : World} {g p l c : Nat} {zs : List Int} (h : Cl w g zs) (hg : g < w.heap.size) (hp : p + l <= zs.length) : Sl .i32 w (.slice (some ⟨g, p, none⟩) l c) ((zs.drop p).take l) := by
 have e : ((zs.drop p).take l).length = l := by simp only [List.length_take, List.length_drop]; omega
 refine .inr ⟨g, p, c, by rw [e], hg, fun i hi => ?_⟩
 rw [e] at hi
 rw [h (p + i) (by omega), yu, if_pos hi, yv]
theorem Sl.empty {w : World} {g c : Nat} {xs : List Int} (hg : g < w.heap.size) (hl : xs.length = 0) : Sl .i32 w (.slice (some ⟨g, 0, none⟩) 0 c) xs := by
 obtain rfl := List.eq_nil_of_length_eq_zero hl
 exact .inr ⟨g, 0, c, by simp, hg, fun i hi => by simp at hi⟩
def Gs (w : World) (v : Value) (zs : List Int) : Prop :=
 (v = .slice none 0 0 ∧ zs = []) ∨ ∃ g cap, v = .slice (some ⟨g, 0, none⟩) zs.length cap ∧ g < w.heap.size ∧ zs.length <= cap ∧ cap <= maxLen ∧ Cl w g zs
theorem Gs.below {w w' : World} {D : Nat} {v : Value} {zs : List Int} (h : Gs w v zs) (hb : Below D w w') (hD : w.heap.size <= D) : Gs w' v zs := by
 rcases h with h | ⟨g, cap, hv, hg, h1, h2, h3⟩
 ·exact .inl h
 ·exact .inr ⟨g, cap, hv, Nat.lt_of_lt_of_le hg hb.size, h1, h2, h3.below hb (Nat.lt_of_lt_of_le hg hD)⟩
theorem Gs.of_owns {w : World} {base : Nat} {v : Value} {n : Nat} {zs : List Int} (h : w.ownsRow base 21 1 v n (ints .i32 zs)) : Gs w v zs := by
 have hl : zs.length = n := by have := h.1; simpa [ints] using this
 rcases h.2 with ⟨hv, hn⟩ | ⟨g, cap, cur, hv, hrest⟩
 ·left; exact ⟨hv, by apply List.eq_nil_of_length_eq_zero; omega⟩
 ·obtain ⟨_, _, hcap, hcm, _⟩ := hrest
  subst hv
  exact .inr ⟨g, cap, by rw [hl], (h.lt g rfl).2, by omega, hcm, fun i hi => yJ h i (by omega)⟩
theorem Gs.val {w : World} {v : Value} {zs : List Int} (h : Gs w v zs) : ∃ ao cap, v = .slice ao zs.length cap := by
 rcases h with ⟨h, rfl⟩ | ⟨g, cap, hv, _⟩
 ·exact ⟨_, _, h⟩
 ·exact ⟨_, _, hv⟩
theorem Gs.sl {w : World} {v : Value} {zs : List Int} (h : Gs w v zs) : Sl .i32 w v zs := by
 rcases h with h | ⟨g, cap, hv, hg, h1, h2, h3⟩
 ·exact .inl h
 ·exact .inr ⟨g, 0, cap, hv, hg, fun i hi => by rw [Nat.zero_add]; exact h3 i hi⟩
def gbd (n : Nat) (lo hi : Int) : Prop := (n : Int) <= 65536 ∧ (0 <= hi ∧ hi <= n) ∧ (0 <= lo ∧ lo <= hi) ∧ n - (hi - lo) <= 8192
def gok (zs : List Int) (lo hi : Int) : Prop := gbd zs.length lo hi ∧ ∀ i : Nat, lo <= i -> (i : Int) < hi -> zs.getD i 0 = 0
theorem gok_gv {zs : List Int} {lo hi : Nat} : gok zs lo hi ↔ GV zs lo hi := by
 constructor
 ·rintro ⟨⟨h1, ⟨h2, h3⟩, ⟨h4, h5⟩, h6⟩, hz⟩
  exact ⟨by omega, by omega, fun i a b => hz i (by omega) (by omega), by omega, by omega⟩
 ·rintro ⟨h1, h2, hz, h3, h4⟩
  exact ⟨⟨by omega, ⟨by omega, by omega⟩, ⟨by omega, by omega⟩, by omega⟩, fun i a b => hz i (by omega) (by omega)⟩
theorem zBz {zs : List Int} {lo hi : Int} (h : gok zs lo hi) : ∃ l k : Nat, lo = l ∧ hi = k ∧ GV zs l k := by
 obtain ⟨l, rfl⟩ := Int.eq_ofNat_of_zero_le h.1.2.2.1.1;obtain ⟨k, rfl⟩ := Int.eq_ofNat_of_zero_le h.1.2.1.1;exact ⟨l, k, rfl, rfl, gok_gv.1 h⟩
theorem Xj (ao : Option Addr) (n cap : Nat) (lo hi : Int) (w : World) (h : ¬ gbd n lo hi) (hn : n <= 1048576) :
  Calls Tryz.prog 138 #[.agg #[.slice ao n cap, .int .i64 lo, .int .i64 hi]] w fun e w' => e = .returned (.iface 121 (.int .i64 1)) ∧ Below w.heap.size w w' := by
 unfold gbd at h;have HB := hide ((Below.refl w.heap.size w).alloc lR (.cells #[.slice ao n cap, .int .i64 lo, .int .i64 hi] 92))
 by_cases h1 : (65536 : Int) < n
 ·clear h
  go_enter Tryz.func138, Tryz.ntmps138;go_wp2;go_ret;exact ⟨rfl, HB.out⟩
 by_cases h2 : (0 <= hi ∧ hi <= n)
 ·by_cases h3 : (0 <= lo ∧ lo <= hi)
  ·have h4 : (8192 : Int) < n - (hi - lo) := by omega
   have K2 := hide (fun w => yP hi 0 n w)
   have K3 := hide (fun w => yP lo 0 hi w)
   rw [show decide (0 <= hi ∧ hi <= n) = true by simpa using h2] at K2
   rw [show decide (0 <= lo ∧ lo <= hi) = true by simpa using h3] at K3
   obtain ⟨a1, a2⟩ := h2;obtain ⟨a3, a4⟩ := h3;clear h;go_enter Tryz.func138, Tryz.ntmps138;go_wp2_with fail;refine (K2.out _).mono ?_;rintro e w1 ⟨rfl, rfl⟩;go_wp2_with fail;refine (K3.out _).mono ?_;rintro e w1 ⟨rfl, rfl⟩;go_wp2;go_ret;exact ⟨rfl, HB.out⟩
  ·have K2 := hide (fun w => yP hi 0 n w)
   have K3 := hide (fun w => yP lo 0 hi w)
   rw [show decide (0 <= hi ∧ hi <= n) = true by simpa using h2] at K2
   rw [show decide (0 <= lo ∧ lo <= hi) = false by simpa using h3] at K3
   clear h h2 h3;go_enter Tryz.func138, Tryz.ntmps138;go_wp2_with fail;refine (K2.out _).mono ?_;rintro e w1 ⟨rfl, rfl⟩;go_wp2_with fail;refine (K3.out _).mono ?_;rintro e w1 ⟨rfl, rfl⟩;go_wp2;go_ret;exact ⟨rfl, HB.out⟩
 ·have K2 := hide (fun w => yP hi 0 n w)
  rw [show decide (0 <= hi ∧ hi <= n) = false by simpa using h2] at K2
  clear h h2;go_enter Tryz.func138, Tryz.ntmps138;go_wp2_with fail;refine (K2.out _).mono ?_;rintro e w1 ⟨rfl, rfl⟩;go_wp2;go_ret;exact ⟨rfl, HB.out⟩
theorem Xk (w : World) :
  Calls Tryz.prog 138 #[.agg #[.slice none 0 0, .int .i64 0, .int .i64 0]] w fun e w' => e = .returned .nilIface ∧ Below w.heap.size w w' := by
 have HB := hide ((Below.refl w.heap.size w).alloc lR (.cells #[.slice none 0 0, .int .i64 0, .int .i64 0] 92))
 have K2 := hide (fun w => yP 0 0 0 w)
 rw [show decide ((0 : Int) <= 0 ∧ (0 : Int) <= 0) = true by decide] at K2
 go_enter Tryz.func138, Tryz.ntmps138;go_wp2_with fail;refine (K2.out _).mono ?_;rintro e w1 ⟨rfl, rfl⟩;go_wp2_with fail;refine (K2.out _).mono ?_;rintro e w1 ⟨rfl, rfl⟩;go_wp2;refine wp_loop_rounds 1 ?_;rw [rounds_succ];go_wp2;go_ret;exact ⟨rfl, HB.out⟩
theorem Xl (g cap n : Nat) (zs : List Int) (lo hi : Nat) (b : Bool) (w : World) (hz : Cl w g zs) (hg : g < w.heap.size) (hN : zs.length = n) (hc : n <= cap) (hcm : cap <= maxLen) (h1 : lo <= hi) (h2 : hi <= n) (h3 : n <= 65536) (h4 : n - (hi - lo) <= 8192) (hb : b = true ↔ ∀ i, lo <= i -> i < hi -> zs.getD i 0 = 0) :
  Calls Tryz.prog 138 #[.agg #[.slice (some ⟨g, 0, none⟩) n cap, .int .i64 lo, .int .i64 hi]] w fun e w' => e = .returned (errV b 1) ∧ Below w.heap.size w w' := by
 have HB := hide ((Below.refl w.heap.size w).alloc lR (.cells #[.slice (some ⟨g, 0, none⟩) n cap, .int .i64 lo, .int .i64 hi] 92))
 have K2 := hide (fun w => yP hi 0 n w)
 have K3 := hide (fun w => yP lo 0 hi w)
 rw [show decide ((0 : Int) <= hi ∧ (hi : Int) <= n) = true by simpa using h2] at K2
 rw [show decide ((0 : Int) <= lo ∧ (lo : Int) <= hi) = true by simpa using h1] at K3
 have HZ := hide (hz.below HB.out hg);have HBB := hide hb;have HN := hide hN
 have i4 : ¬ (8192 : Int) < (n : Int) - ((hi : Int) - (lo : Int)) := by omega
 clear hz hb hN
 by_cases hco : cap = lo
 ·obtain rfl : hi = lo := by omega
  have hbt : b = true := HBB.out.2 (fun i a c => by omega)
  subst hbt;subst hco;go_enter Tryz.func138, Tryz.ntmps138;go_wp2_with fail;refine (K2.out _).mono ?_;rintro e w1 ⟨rfl, rfl⟩;go_wp2_with fail;refine (K3.out _).mono ?_;rintro e w1 ⟨rfl, rfl⟩;go_wp2;refine wp_loop_rounds 1 ?_;rw [rounds_succ];go_wp2;go_ret;exact ⟨rfl, HB.out⟩
 ·go_enter Tryz.func138, Tryz.ntmps138
  go_wp2_with fail;refine (K2.out _).mono ?_;rintro e w1 ⟨rfl, rfl⟩;go_wp2_with fail;refine (K3.out _).mono ?_;rintro e w1 ⟨rfl, rfl⟩;go_wp2;generalize w.alloc (.cells #[.slice (some ⟨g, 0, none⟩) n cap, .int .i64 lo, .int .i64 hi] 92) = w2 at *
  go_loop [45] (fun i => ∃ k : Nat, k <= hi - lo ∧ i = .int .i64 k ∧ ∀ j, lo <= j -> j < lo + k -> zs.getD j 0 = 0) (fun i => (hi - lo) - (intOf i).toNat)
  case atStart => exact ⟨0, Nat.zero_le _, rfl, fun j a c => by omega⟩
  case round =>
   obtain ⟨k, hk, rfl, hall⟩ := hrel;have HA := hide hall;clear hall
   by_cases hlt : k < hi - lo
   ·have hx := HZ.out (lo + k) (by rw [HN.out]; omega)
    obtain ⟨z, hzz⟩ : ∃ z, z = zs.getD (lo + k) 0 := ⟨_, rfl⟩;rw [<- hzz] at hx;have HZZ := hide hzz;clear hzz
    by_cases h0 : z = 0
    ·subst h0
     go_wp2;go_round
     case rel => exact ⟨k + 1, by omega, by go_num, fun j a c => by
      by_cases e : j = lo + k
      ·rw [e]; exact HZZ.out.symm
      ·exact HA.out j a (by omega)⟩
     case measure => simp [intOf]; omega
    ·have hne : (z != 0) = true := by simpa using h0
     obtain rfl : b = false := by
      cases hbb : b with
      | false => rfl
      | true => exact absurd (HZZ.out.trans (HBB.out.1 hbb (lo + k) (by omega) (by omega))) h0
     go_wp2;go_ret;exact ⟨rfl, HB.out⟩
   ·obtain rfl : b = true := HBB.out.2 (fun i a c => HA.out i a (by omega))
    go_wp2;go_ret;exact ⟨rfl, HB.out⟩
open Classical in
theorem Jy (zs : List Int) (v : Value) (lo hi : Int) (w : World) (h : Gs w v zs) (hn : zs.length <= 1048576) :
  Calls Tryz.prog 138 #[.agg #[v, .int .i64 lo, .int .i64 hi]] w fun e w' => e = .returned (errV (decide (gok zs lo hi)) 1) ∧ Below w.heap.size w w' := by
 by_cases hb : gbd zs.length lo hi
 ·obtain ⟨l, rfl⟩ := Int.eq_ofNat_of_zero_le hb.2.2.1.1
  obtain ⟨k, rfl⟩ := Int.eq_ofNat_of_zero_le hb.2.1.1;have b1 := hb.1;have b2 := hb.2.1.2;have b3 := hb.2.2.1.2;have b4 := hb.2.2.2
  rcases h with ⟨rfl, rfl⟩ | ⟨g, cap, rfl, hg, h1, h2, h3⟩
  ·obtain rfl : k = 0 := by simpa using b2
   obtain rfl : l = 0 := by omega
   have hd : decide (gok [] ((0 : Nat) : Int) ((0 : Nat) : Int)) = true := by
    simp only [decide_eq_true_eq]
    exact ⟨hb, fun i a c => by omega⟩
   rw [hd];exact Xk w
  ·refine Xl g cap zs.length zs l k _ w h3 hg rfl h1 h2 (by omega) (by omega) (by omega) (by omega) ?_
   simp only [decide_eq_true_eq];constructor
   ·intro hh i a c; exact hh.2 i (by omega) (by omega)
   ·intro hh; exact ⟨hb, fun i a c => hh i (by omega) (by omega)⟩
 ·obtain ⟨ao, cap, rfl⟩ := h.val
  have hd : decide (gok zs lo hi) = false := by
   simp only [decide_eq_false_iff_not]
   exact fun hh => hb hh.1
  rw [hd];exact Xj ao zs.length cap lo hi w hb hn
end Go.Proofs.YtbgngikejgihgafGreatDoor
namespace Go.Proofs.YtbgngikejgihgafGreatDoor
open Go Go.RowKit
set_option linter.unusedVariables false
set_option maxRecDepth 100000
set_option maxHeartbeats 8000000
def T3 (w : World) (b : Nat) (x y z : Value) (t : TypeId) : Prop := w.heap[b]? = some (.cells #[x, y, z] t (0, 0))
theorem T3.c {w : World} {b : Nat} {x y z : Value} {t : TypeId} (h : T3 w b x y z t) : w.cell? ⟨b, 0, none⟩ = some x ∧ w.cell? ⟨b, 1, none⟩ = some y ∧ w.cell? ⟨b, 2, none⟩ = some z := by
 refine ⟨?_, ?_, ?_⟩ <;> rw [cell_of_row w b _ _ _ _ h] <;> rfl
theorem T3.fz {w : World} {b : Nat} {x y z : Value} {t : TypeId} (h : T3 w b x y z t) (j : Nat) : w.frozen? ⟨b, j, none⟩ = false := frozen_of_row w b j _ _ h
theorem T3.below {B : Nat} {w w' : World} {b : Nat} {x y z : Value} {t : TypeId} (h : T3 w b x y z t) (hb : Below B w w') (hB : b < B) : T3 w' b x y z t := (hb.block b hB).trans h
theorem T3.new (w : World) (x y z : Value) (t : TypeId) : T3 (w.alloc (.cells #[x, y, z] t)) w.heap.size x y z t := heap_alloc_new w (.cells #[x, y, z] t)
theorem zCx {w : World} {base b : Nat} {e : TypeId} {size : Nat} {v : Value} {n : Nat} {xs : List Value} (h : w.ownsRow base e size v n xs) (hb : b < base) (x y z : Value) : (((w.setCell ⟨b, 0, none⟩ x).setCell ⟨b, 1, none⟩ y).setCell ⟨b, 2, none⟩ z).ownsRow base e size v n xs := by
 have hne : ∀ j, v.ownBlock ≠ some (⟨b, j, none⟩ : Addr).block := by
  intro j hk;have := (h.lt b hk).1;omega
 exact ownsRow_setCell_other (ownsRow_setCell_other (ownsRow_setCell_other h (hne 0) x) (hne 1) y) (hne 2) z
def zeroG : Value := .agg #[.slice none 0 0, .int .i64 0, .int .i64 0]
def JX : ByteArray := ⟨#[114, 101, 97, 100, 105, 110, 103, 32, 97, 32, 103, 97, 112, 32, 98, 117, 102, 102, 101, 114]⟩
theorem Kh (zs : List Int) (v : Value) (lo hi : Int) (w : World) (h : Gs w v zs) (hn : zs.length <= 1048576) (hk : ¬ gok zs lo hi) :
  Calls Tryz.prog 117 #[.agg #[v, .int .i64 lo, .int .i64 hi]] w fun e w' => e = .returned (.tuple #[zeroG, .iface 120 (.agg #[.string JX, .iface 121 (.int .i64 1)])]) ∧ Below w.heap.size w w' := by
 obtain ⟨ao, cap, rfl⟩ := h.val
 have HB0 := hide (((Below.refl w.heap.size w).alloc lR (.cells #[.slice ao zs.length cap, .int .i64 lo, .int .i64 hi] 92)).alloc (by simp) (.cells #[.slice none 0 0, .int .i64 0, .int .i64 0] 136))
 have HT0 := hide (T3.new (w.alloc (.cells #[.slice ao zs.length cap, .int .i64 lo, .int .i64 hi] 92)) (.slice none 0 0) (.int .i64 0) (.int .i64 0) 136);have HI := hide (Jy zs _ lo hi _ (h.below HB0.out lR) hn)
 rw [show (@decide (gok zs lo hi) (Classical.propDecidable _)) = false by simpa using hk] at HI
 simp only [errV, Bool.false_eq_true, if_false] at HI
 have hs0 : ((w.alloc (.cells #[.slice ao zs.length cap, .int .i64 lo, .int .i64 hi] 92)).alloc (.cells #[.slice none 0 0, .int .i64 0, .int .i64 0] 136)).heap.size = w.heap.size + 2 := by simp
 have hs1 : (w.alloc (.cells #[.slice ao zs.length cap, .int .i64 lo, .int .i64 hi] 92)).heap.size = w.heap.size + 1 := by simp
 rw [hs1] at HT0;generalize hN : zs.length = n at *;clear h hk hs1 hN;go_enter Tryz.func117, Tryz.ntmps117;go_wp2_with fail;generalize (w.alloc (.cells #[.slice ao n cap, .int .i64 lo, .int .i64 hi] 92)).alloc (.cells #[.slice none 0 0, .int .i64 0, .int .i64 0] 136) = w0 at *;refine HI.out.mono ?_;rintro e w1 ⟨rfl, hb1⟩
 have HT1 := hide (HT0.out.below hb1 (by omega))
 have HB1 := hide (HB0.out.trans (hb1.mono (by omega)))
 obtain ⟨g0, g1, g2⟩ := HT1.out.c;have z0 := HT1.out.fz 0;have z1 := HT1.out.fz 1;have z2 := HT1.out.fz 2;clear hb1 HI HT0 HB0;go_wp2
 refine bodyPost_ret (v := .tuple #[zeroG, .iface 120 (.agg #[.string JX, .iface 121 (.int .i64 1)])]) (by simp [results, Tryz.results117, go_sem, g0, g1, g2]; exact ⟨rfl, rfl⟩) rfl ?_
 exact ⟨rfl, ((HB1.out.setCell (by simp) _).setCell (by simp) _).setCell (by simp) _⟩
theorem zAm (zs : List Int) (v : Value) (lo hi : Int) (w : World) (h : Gs w v zs) (hn : zs.length <= 1048576) (hk : gok zs lo hi) :
  Calls Tryz.prog 117 #[.agg #[v, .int .i64 lo, .int .i64 hi]] w fun e w' => ∃ v', e = .returned (.tuple #[.agg #[v', .int .i64 lo, .int .i64 hi], .nilIface]) ∧ w'.ownsRow w.heap.size 21 1 v' zs.length (ints .i32 zs) ∧ Below w.heap.size w w' := by
 obtain ⟨ao, cap, rfl⟩ := h.val
 have HB0 := hide (((Below.refl w.heap.size w).alloc lR (.cells #[.slice ao zs.length cap, .int .i64 lo, .int .i64 hi] 92)).alloc (by simp) (.cells #[.slice none 0 0, .int .i64 0, .int .i64 0] 136))
 have HT0 := hide (T3.new (w.alloc (.cells #[.slice ao zs.length cap, .int .i64 lo, .int .i64 hi] 92)) (.slice none 0 0) (.int .i64 0) (.int .i64 0) 136)
 have HP0 := hide ((T3.new w (.slice ao zs.length cap) (.int .i64 lo) (.int .i64 hi) 92).below ((Below.refl _ _).alloc lR (.cells #[.slice none 0 0, .int .i64 0, .int .i64 0] 136)) (by simp))
 have HS := hide (h.below HB0.out lR);have HI := hide (Jy zs _ lo hi _ HS.out hn)
 rw [show (@decide (gok zs lo hi) (Classical.propDecidable _)) = true by simpa using hk] at HI
 simp only [errV, if_true] at HI
 have hs0 : ((w.alloc (.cells #[.slice ao zs.length cap, .int .i64 lo, .int .i64 hi] 92)).alloc (.cells #[.slice none 0 0, .int .i64 0, .int .i64 0] 136)).heap.size = w.heap.size + 2 := by simp
 have hs1 : (w.alloc (.cells #[.slice ao zs.length cap, .int .i64 lo, .int .i64 hi] 92)).heap.size = w.heap.size + 1 := by simp
 rw [hs1] at HT0;generalize hN : zs.length = n at *;have HN := hide hN;clear h hk hs1 hN;go_enter Tryz.func117, Tryz.ntmps117;go_wp2_with fail;generalize (w.alloc (.cells #[.slice ao n cap, .int .i64 lo, .int .i64 hi] 92)).alloc (.cells #[.slice none 0 0, .int .i64 0, .int .i64 0] 136) = w0 at *;refine HI.out.mono ?_;rintro e w1 ⟨rfl, hb1⟩
 have HT1 := hide (HT0.out.below hb1 (by omega))
 have HP1 := hide (HP0.out.below hb1 (by omega))
 have HS1 := hide (HS.out.below hb1 (by omega))
 have HB1 := hide (HB0.out.trans (hb1.mono (by omega)))
 have s1 := hb1.size;obtain ⟨g0, g1, g2⟩ := HT1.out.c;have z0 := HT1.out.fz 0;have z1 := HT1.out.fz 1;have z2 := HT1.out.fz 2;obtain ⟨p0, p1, p2⟩ := HP1.out.c;clear hb1 HI HT0 HB0 HP0 HS
 have lt0 : w.heap.size < w1.heap.size := by omega
 go_wp2_with fail
 go_region_with (go_at_call 76; refine (clone32 zs _ _ (by exact (HS1.out.sl).below ⟨rfl, rfl, rfl, lR, fun _ _ => rfl⟩) (by rw [HN.out]; exact hn)).mono ?_; rintro e w2 ⟨v2, rfl, ho2, hb2⟩; obtain ⟨ao2, cap2, hv2⟩ := (Gs.of_owns ho2).val; rw [HN.out] at hv2; subst hv2; have B2 := hide (show Below w1.heap.size w1 w2 from ⟨hb2.os, hb2.tape, hb2.output, hb2.size, hb2.block⟩); have O2 := hide (show w2.ownsRow w1.heap.size 21 1 (.slice ao2 n cap2) zs.length (ints .i32 zs) from ho2); have HT2 := hide (HT1.out.below B2.out (by omega)); have HP2 := hide (HP1.out.below B2.out (by omega)); have q0 := HT2.out.c.1; have q1 := HT2.out.c.2.1; have q2 := HT2.out.c.2.2; have y0 := HT2.out.fz 0; have y1 := HT2.out.fz 1; have y2 := HT2.out.fz 2; have r0 := HP2.out.c.1; have r1 := HP2.out.c.2.1; have r2 := HP2.out.c.2.2; have OS := hide (zE (base' := w.heap.size) (zCx (b := w.heap.size + 1) O2.out (by omega) (.slice ao2 n cap2) (.int .i64 lo) (.int .i64 hi)) (by omega)); have BS := hide ((((HB1.out.trans (B2.out.mono (by omega))).setCell (show w.heap.size <= (⟨w.heap.size + 1, 0, none⟩ : Addr).block by simp) (.slice ao2 n cap2)).setCell (show w.heap.size <= (⟨w.heap.size + 1, 1, none⟩ : Addr).block by simp) (.int .i64 lo)).setCell (show w.heap.size <= (⟨w.heap.size + 1, 2, none⟩ : Addr).block by simp) (.int .i64 hi)); rw [HN.out] at OS; clear ho2 hb2 O2 B2 HT2 HP2)
 all_goals (
  go_wp2
  refine bodyPost_ret (v := .tuple #[.agg #[.slice ao2 n cap2, .int .i64 lo, .int .i64 hi], .nilIface]) (by simp [results, Tryz.results117, go_sem, q0, q1, q2]) rfl ?_
  exact ⟨.slice ao2 n cap2, rfl, OS.out, BS.out⟩)
structure Row1 (w w' : World) (g : Nat) (L : List Value) (t : TypeId) : Prop where
 row : w'.heap[g]? = some (.cells L.toArray t (0, 0))
 os : w'.os = w.os
 tape : w'.tape = w.tape
 output : w'.output = w.output
 size : w'.heap.size = w.heap.size
 block : ∀ k, k ≠ g -> w'.heap[k]? = w.heap[k]?
theorem Row1.of_set {w : World} {g : Nat} {old : Array Value} {t : TypeId} (L : List Value) (hg : w.heap[g]? = some (.cells old t (0, 0))) : Row1 w (w.setRow g L.toArray) g L t :=
 ⟨setRow_heap w g old _ t _ hg, rfl, rfl, rfl, by simp, fun k hk => setRow_other w g k _ hk⟩
theorem Row1.refl {w : World} {g : Nat} {L : List Value} {t : TypeId} (hg : w.heap[g]? = some (.cells L.toArray t (0, 0))) : Row1 w w g L t := ⟨hg, rfl, rfl, rfl, rfl, fun _ _ => rfl⟩
section
variable {P : Program}
theorem Zk {ops : Array Oper} {o : Oper} {a : Act} {w : World} {K : Act -> World -> Prop} {Q : Exit -> Act -> World -> Prop} {E : Prop} (hgd : o.guard = none) (d s : Operand) (dT sT : TypeId)
  (ho : o.op = .call { callee := .builtin .copy, args := #[d, s], argTypes := #[dT, sT] }) (elem : TypeId) (hu : P.underlying dT = some (.slice elem)) (hsz : (P.info? elem).map (·.size) = some 1)
  (dp sp : Option Addr) (dLen dCap sLen sCap : Nat) (hd : a.eval d = .slice dp dLen dCap) (hs : a.eval s = .slice sp sLen sCap)
  (g off : Nat) (cur : List Value) (t : TypeId) (hg : w.heap[g]? = some (.cells cur.toArray t (0, 0))) (cs : List Value) (hn : cs.length = Nat.min sLen dLen)
  (hpos : 0 < cs.length -> dp = some ⟨g, off, none⟩ ∧ ∃ ad, sp = some ad ∧ ∀ j v, cs[j]? = some v -> w.cell? (ad.add j) = some v)
  (hfit : off + cs.length <= cur.length) (h1 : ∀ v ∈ cs, v.oneCell' = true)
  (h : ∀ w', Hid (Row1 w w' g (splice cur off cs) t) -> K (a.put o.dst (goInt cs.length)) w') :
  if Region.wanted o (yielded ops a.tmps) = true then Oper.wp P o a w K Q else E := by
 have hw : Region.wanted o (yielded ops a.tmps) = true := by simp [Region.wanted, hgd]
 rw [if_pos hw]
 by_cases h0 : cs.length = 0
 ·obtain rfl : cs = [] := List.eq_nil_of_length_eq_zero h0
  have hrun := run_copy_none (P := P) w dT sT o.type elem dp sp dLen dCap sLen sCap hu hsz (by simpa using hn.symm)
  unfold Oper.wp;simp [execOp, ho, resolve, invoke, builtin, hd, hs, hrun, Result.andThen]
  exact h w (hide (by simpa [splice] using Row1.refl hg))
 ·obtain ⟨rfl, ad, rfl, hsrc⟩ := hpos (by omega)
  have hrun := run_copy_row (P := P) w dT sT o.type elem g off dLen dCap ad sLen sCap cur.toArray t cs hu hsz hg hn hsrc (by simpa using hfit) h1
  unfold Oper.wp;simp [execOp, ho, resolve, invoke, builtin, hd, hs, hrun, Result.andThen]
  exact h _ (hide (by simpa [splice] using Row1.of_set (splice cur off cs) hg))
theorem zN {w : World} {ops : Array Oper} {rest : List Oper} {o : Oper} {a : Act} {Q : Exit -> Act -> World -> Prop} (hgd : o.guard = none) (d s : Operand) (dT sT : TypeId)
  (ho : o.op = .call { callee := .builtin .copy, args := #[d, s], argTypes := #[dT, sT] }) (elem : TypeId) (hu : P.underlying dT = some (.slice elem)) (hsz : (P.info? elem).map (·.size) = some 1)
  (dp sp : Option Addr) (dLen dCap sLen sCap : Nat) (hd : a.eval d = .slice dp dLen dCap) (hs : a.eval s = .slice sp sLen sCap)
  (g off : Nat) (cur : List Value) (t : TypeId) (hg : w.heap[g]? = some (.cells cur.toArray t (0, 0))) (cs : List Value) (hn : cs.length = Nat.min sLen dLen)
  (hpos : 0 < cs.length -> dp = some ⟨g, off, none⟩ ∧ ∃ ad, sp = some ad ∧ ∀ j v, cs[j]? = some v -> w.cell? (ad.add j) = some v)
  (hfit : off + cs.length <= cur.length) (h1 : ∀ v ∈ cs, v.oneCell' = true)
  (h : ∀ w', Hid (Row1 w w' g (splice cur off cs) t) -> wpList P ops Q rest (a.put o.dst (goInt cs.length)) w') :
  wpList P ops Q (o :: rest) a w := by
 by_cases h0 : cs.length = 0
 ·obtain rfl : cs = [] := List.eq_nil_of_length_eq_zero h0
  refine wpList_copy_nothing hgd d s dT sT ho elem hu hsz dp sp dLen dCap sLen sCap hd hs (by simpa using hn.symm) ?_
  exact h w (hide (by simpa [splice] using Row1.refl hg))
 ·obtain ⟨rfl, ad, rfl, hsrc⟩ := hpos (by omega)
  refine wpList_copy_own hgd d s dT sT ho elem hu hsz g off dLen dCap ad sLen sCap hd hs cur.toArray t hg cs hn hsrc (by simpa using hfit) h1 ?_
  exact h _ (hide (by simpa [splice] using Row1.of_set (splice cur off cs) hg))
theorem Zl (w : World) (t e ty : TypeId) (z : Value) (ht : P.underlying t = some (.slice e)) (hv : ∀ w, (zeroValue e).run P w = .ok z w) (hz : z.cells = #[z]) (h1 : z.oneCell' = true) (g o n c : Nat) (hn : 0 < n)
  (cur : List Value) (et : TypeId) (hg : w.heap[g]? = some (.cells cur.toArray et (0, 0))) (hfit : o + n <= cur.length) :
  (Builtin.clear_ #[t] ty #[.slice (some ⟨g, o, none⟩) n c]).run P w = .ok (.tuple #[]) (w.setRow g (splice cur o (List.replicate n z)).toArray) := by
 have hzc : (Builtin.zeroCells z.cells n).toList = List.replicate n z := by
  rw [hz];simp [Builtin.zeroCells];apply List.ext_getElem
  ·simp
  ·intro i h1 h2
   simp [Nat.mod_one]
 have hst := run_storeCells_at P g o et (List.replicate n z) 0 cur.toArray w hg (by simpa using hfit) (by intro v hv'; rw [List.eq_of_mem_replicate hv']; exact h1)
 simp only [Nat.add_zero] at hst
 obtain ⟨m, rfl⟩ : ∃ m, n = m + 1 := ⟨n - 1, by omega⟩
 simp [Builtin.clear_, run_underlying ht, hv, hzc, hst, splice]
theorem yj (w : World) (t e ty : TypeId) (ht : P.underlying t = some (.slice e)) (a : Option Addr) (c : Nat) : (Builtin.clear_ #[t] ty #[.slice a 0 c]).run P w = .ok (.tuple #[]) w := by
 cases a <;> simp [Builtin.clear_, run_underlying ht]
theorem step_clear_row {ops : Array Oper} {o : Oper} {a : Act} {w : World} {K : Act -> World -> Prop} {Q : Exit -> Act -> World -> Prop} {E : Prop} (hgd : o.guard = none) (d : Operand) (dT : TypeId)
  (ho : o.op = .call { callee := .builtin .clear, args := #[d], argTypes := #[dT] }) (e : TypeId) (hu : P.underlying dT = some (.slice e)) (z : Value) (hv : ∀ w, (zeroValue e).run P w = .ok z w) (hz : z.cells = #[z]) (h1 : z.oneCell' = true)
  (dp : Option Addr) (dLen dCap : Nat) (hd : a.eval d = .slice dp dLen dCap) (g off : Nat) (cur : List Value) (t : TypeId) (hg : w.heap[g]? = some (.cells cur.toArray t (0, 0)))
  (hpos : 0 < dLen -> dp = some ⟨g, off, none⟩) (hfit : off + dLen <= cur.length)
  (h : ∀ w', Hid (Row1 w w' g (splice cur off (List.replicate dLen z)) t) -> K (a.put o.dst (.tuple #[])) w') :
  if Region.wanted o (yielded ops a.tmps) = true then Oper.wp P o a w K Q else E := by
 have hw : Region.wanted o (yielded ops a.tmps) = true := by simp [Region.wanted, hgd]
 rw [if_pos hw]
 by_cases h0 : dLen = 0
 ·subst h0
  have hrun := yj (P := P) w dT e o.type hu dp dCap;unfold Oper.wp;simp [execOp, ho, resolve, invoke, builtin, hd, hrun, Result.andThen]
  exact h w (hide (by simpa [splice] using Row1.refl hg))
 ·obtain rfl := hpos (by omega)
  have hrun := Zl (P := P) w dT e o.type z hu hv hz h1 g off dLen dCap (by omega) cur t hg hfit
  unfold Oper.wp;simp [execOp, ho, resolve, invoke, builtin, hd, hrun, Result.andThen];exact h _ (hide (Row1.of_set _ hg))
theorem za {w : World} {ops : Array Oper} {rest : List Oper} {o : Oper} {a : Act} {Q : Exit -> Act -> World -> Prop} (hgd : o.guard = none) (d : Operand) (dT : TypeId)
  (ho : o.op = .call { callee := .builtin .clear, args := #[d], argTypes := #[dT] }) (e : TypeId) (hu : P.underlying dT = some (.slice e)) (z : Value) (hv : ∀ w, (zeroValue e).run P w = .ok z w) (hz : z.cells = #[z]) (h1 : z.oneCell' = true)
  (dp : Option Addr) (dLen dCap : Nat) (hd : a.eval d = .slice dp dLen dCap) (g off : Nat) (cur : List Value) (t : TypeId) (hg : w.heap[g]? = some (.cells cur.toArray t (0, 0)))
  (hpos : 0 < dLen -> dp = some ⟨g, off, none⟩) (hfit : off + dLen <= cur.length)
  (h : ∀ w', Hid (Row1 w w' g (splice cur off (List.replicate dLen z)) t) -> wpList P ops Q rest (a.put o.dst (.tuple #[])) w') :
  wpList P ops Q (o :: rest) a w := by
 refine wpList_plain hgd fun K hK => ?_
 by_cases h0 : dLen = 0
 ·subst h0
  have hrun := yj (P := P) w dT e o.type hu dp dCap;unfold Oper.wp;simp [execOp, ho, resolve, invoke, builtin, hd, hrun, Result.andThen]
  exact hK _ _ (h w (hide (by simpa [splice] using Row1.refl hg)))
 ·obtain rfl := hpos (by omega)
  have hrun := Zl (P := P) w dT e o.type z hu hv hz h1 g off dLen dCap (by omega) cur t hg hfit
  unfold Oper.wp;simp [execOp, ho, resolve, invoke, builtin, hd, hrun, Result.andThen];exact hK _ _ (h _ (hide (Row1.of_set _ hg)))
end
noncomputable def growN (M c : Nat) : Nat := open Classical in if h : ∃ r, Dbl M c r then Classical.choose h else 0
theorem zAn {M c : Nat} (hc : 1 <= c) : Dbl M c (growN M c) := by
 have h := dbl_ex M (M - c) c hc lR;unfold growN;rw [dif_pos h];exact Classical.choose_spec h
noncomputable def zf (zs : List Int) (lo hi n : Nat) : Nat := if n <= hi - lo then zs.length else growN ((gtext zs lo hi).length + n) (max zs.length 16)
theorem Yg (zs : List Int) (lo hi n : Nat) : (n <= hi - lo ∧ zf zs lo hi n = zs.length) ∨ (hi - lo < n ∧ Dbl ((gtext zs lo hi).length + n) (max zs.length 16) (zf zs lo hi n)) := by
 unfold zf
 by_cases h : n <= hi - lo
 ·exact .inl ⟨h, by rw [if_pos h]⟩
 ·exact .inr ⟨by omega, by rw [if_neg h]; exact zAn (by omega)⟩
theorem Jz {zs : List Int} {lo hi n : Nat} (hv : GV zs lo hi) (hb : (gtext zs lo hi).length + n <= 8192) : (gtext zs lo hi).length + n <= zf zs lo hi n ∧ zf zs lo hi n <= 65536 := by
 have h1 := hv.a;have h2 := hv.b;have h3 := hv.c;have hL := zM h1 h2
 rcases Yg zs lo hi n with ⟨h, e⟩ | ⟨h, d⟩
 ·omega
 ·have := jA d; omega
end Go.Proofs.YtbgngikejgihgafGreatDoor
