import Derived.WalkKit
import Derived.Test.YtbgngikejgihgagGreatDoorMq08
import Derived.Test.YtbgngikejgihgagGreatDoorMq03
import Derived.Test.YtbgngikejgihgagGreatDoorMq02
import Derived.Test.YtbgngikejgihgagGreatDoorMq05
import Derived.WalkLawsBesides
import Derived.Laws.AppendOwnNone
import Derived.Lib.AppendZeros
import Derived.Lib.Walk
import Derived.Lib.SliceRun
namespace Go.Proofs.YtbgngikejgihgagGreatDoor
set_option linter.unusedVariables false

structure Pc where
  off : Int
  len : Int
  brk : Int
  deriving DecidableEq, Inhabited

structure It where
  pc : Pc
  lv : Int
  deriving DecidableEq, Inhabited

inductive AT where
  | nil
  | node (l : AT) (p : Pc) (r : AT)
  deriving Inhabited

namespace AT
def ht : AT → Nat
  | nil => 0
  | node l _ r => 1 + max l.ht r.ht
def its : AT → Nat
  | nil => 0
  | node l _ r => l.its + 1 + r.its
def told : AT → Int → List It
  | nil, _ => []
  | node l p r, d => l.told (d + 1) ++ ⟨p, d⟩ :: r.told (d + 1)

end AT

end Go.Proofs.YtbgngikejgihgagGreatDoor

namespace Go.Proofs.YtbgngikejgihgagGreatDoor
set_option linter.unusedVariables false
end Go.Proofs.YtbgngikejgihgagGreatDoor

namespace Go.Proofs.YtbgngikejgihgagGreatDoor
open Go Go.RowKit
set_option linter.unusedVariables false

/-- How many breaks, as a natural number. -/
def bkn (zs : List Int) : Nat := (zs.filter fun z => z == 10).length
/-- How many stand up to break number n and with it. -/
def bb : List Int → Nat → Nat
  | [], _ => 0
  | z :: zs, n => if z = 10 then (if n = 0 then 1 else 1 + bb zs (n - 1)) else 1 + bb zs n

/-- Where a line starts. -/
def ls (zs : List Int) (l : Nat) : Nat := if l = 0 then 0 else bb zs (l - 1)
/-- Where a line ends. -/
def le (zs : List Int) (l : Nat) : Nat := if l < bkn zs then bb zs l - 1 else zs.length

/-- The text of a piece. -/
def ptx (S : List Int) (p : Pc) : List Int := (S.drop p.off.toNat).take p.len.toNat
def txt (S : List Int) : List It → List Int
  | [] => []
  | x :: xs => ptx S x.pc ++ txt S xs
/-- A piece of the store. -/
def WP (S : List Int) (p : Pc) : Prop := 0 ≤ p.off ∧ 0 ≤ p.len ∧ p.off + p.len ≤ S.length ∧ p.brk = brk (ptx S p)
theorem WP.nil (S : List Int) : WP S ⟨0, 0, 0⟩ := ⟨by simp, by simp, by simp, by simp [ptx, brk]⟩
def AT.tx (S : List Int) : AT → List Int
  | .nil => []
  | .node l p r => l.tx S ++ (ptx S p ++ r.tx S)
def AT.wp (S : List Int) : AT → Prop
  | .nil => True
  | .node l p r => l.wp S ∧ WP S p ∧ r.wp S
end Go.Proofs.YtbgngikejgihgagGreatDoor

namespace Go.Proofs.YtbgngikejgihgagGreatDoor
open Go Go.RowKit
set_option linter.unusedVariables false

end Go.Proofs.YtbgngikejgihgagGreatDoor

namespace Go.Proofs.YtbgngikejgihgagGreatDoor
open Go Go.RowKit
set_option linter.unusedVariables false

end Go.Proofs.YtbgngikejgihgagGreatDoor

namespace Go.Proofs.YtbgngikejgihgagGreatDoor
open Go Go.RowKit
set_option linter.unusedVariables false

theorem Tryz.infoS : (Tryz.prog.info? 36).map (fun i => (i.zero, i.size, i.bytes)) = some (some (.slice none 0 0), 1, 24) := by kernel_rfl

/-- Where the first break is, or -1. -/
def ix (zs : List Int) : Int := if fb zs < zs.length then fb zs else -1
set_option maxHeartbeats 1000000 in
set_option maxRecDepth 100000 in
theorem indexL (zs : List Int) (b o cap : Nat) (w : World) (hc : ∀ i, i < zs.length → w.cell? ⟨b, o + i, none⟩ = some (.int .i32 (zs.getD i 0))) (hn : zs.length ≤ 1048576) (hcap : zs.length ≤ cap) (hm : cap ≤ maxLen) :
    Calls Tryz.prog 190 #[.slice (some ⟨b, o, none⟩) zs.length cap, .int .i32 10] w fun e w' => e = .returned (.int .i64 (ix zs)) ∧ w' = w := by
  have HC := hide hc
  have HL := hide (fun k (hk : k < fb zs) => fb_no hk)
  have HA := hide (fun (h : fb zs < zs.length) => fb_at h)
  have hl := fb_le zs
  unfold ix
  generalize hR : fb zs = R at *
  generalize hN : zs.length = n at *
  unfold maxLen at hm
  obtain ⟨X, hX⟩ : ∃ X : Int, X = if R < n then (R : Int) else -1 := ⟨_, rfl⟩
  rw [← hX]
  have HX := hide hX
  clear hc hX
  go_enter Tryz.func190, Tryz.ntmps190
  go_wp2_with fail
  go_loop [8] (fun i => ∃ k : Nat, k ≤ R ∧ i = .int .i64 k) (fun i => n - (intOf i).toNat)
  case atStart => exact ⟨0, Nat.zero_le _, rfl⟩
  case round =>
    obtain ⟨k, hk, rfl⟩ := hrel
    by_cases hkn : k < n
    · have hx := HC.out k hkn
      by_cases hkR : k = R
      · subst hkR
        have e1 := HA.out hkn
        rw [e1] at hx
        have HK := hide hkn
        have hkn' : (k : Int) < n := by omega
        clear hkn
        go_wp2
        go_ret
        exact ⟨by have h9 := HX.out; rw [if_pos HK.out] at h9; rw [h9]; rfl, rfl⟩
      · have hne := HL.out k (by omega)
        generalize zs.getD k 0 = z at *
        have hz' : ¬ 10 = z := fun h => hne h.symm
        have hkn' : (k : Int) < n := by omega
        go_wp2
        go_round
        case rel => exact ⟨k + 1, by omega, by go_num⟩
        case measure => simp [intOf]; omega
    · have hkn' : ¬ (k : Int) < n := by omega
      have HK := hide (show ¬ R < n by omega)
      go_wp2
      go_ret
      exact ⟨by have h9 := HX.out; rw [if_neg HK.out] at h9; rw [h9]; rfl, rfl⟩
set_option maxHeartbeats 1000000 in
theorem indexNil (w : World) : Calls Tryz.prog 190 #[.slice none 0 0, .int .i32 10] w fun e w' => e = .returned (.int .i64 (-1)) ∧ w' = w := by
  go_enter Tryz.func190, Tryz.ntmps190
  go_wp2_with fail
  refine wp_loop_rounds 1 ?_
  rw [rounds_succ]
  go_wp2
  go_ret
  exact ⟨rfl, rfl⟩

end Go.Proofs.YtbgngikejgihgagGreatDoor

namespace Go.Proofs.YtbgngikejgihgagGreatDoor
open Go Go.RowKit
set_option linter.unusedVariables false

set_option maxHeartbeats 400000 in
theorem plainRN (ao : Option Addr) (n cap : Nat) (w : World) :
    Calls Tryz.prog 109 #[.slice ao n cap] w fun e w' => e = .returned (.agg #[.slice ao n cap, .int .i64 n, .int .i64 n]) ∧ Below w.heap.size w w' := by
  have HB := hide ((Below.refl w.heap.size w).alloc (Nat.le_refl _) (.cells #[.slice ao n cap, .int .i64 n, .int .i64 n] 174))
  go_enter Tryz.func109, Tryz.ntmps109
  go_wp2
  refine bodyPost_ret (v := .agg #[.slice ao n cap, .int .i64 n, .int .i64 n]) (by simp [results, Tryz.results109, go_sem]) rfl ⟨rfl, HB.out⟩

end Go.Proofs.YtbgngikejgihgagGreatDoor

namespace Go.Proofs.YtbgngikejgihgagGreatDoor
open Go Go.RowKit
set_option linter.unusedVariables false

theorem Tryz.infoGB : (Tryz.prog.info? 177).map (fun i => (i.zero, i.size, i.bytes)) = some (some (.agg #[.slice none 0 0, .int .i64 0, .int .i64 0]), 3, 40) := by kernel_rfl

set_option maxHeartbeats 1000000 in
set_option maxRecDepth 100000 in
theorem growNilR (n : Nat) (w : World) (hn : n ≤ 1099511627776) :
    Calls Tryz.prog 218 #[.slice none 0 0, .int .i64 n] w fun e w' => ∃ v', e = .returned v' ∧ w'.ownsRow w.heap.size 177 3 v' 0 [] ∧ Below w.heap.size w w' := by
  obtain ⟨i0, hi, hz0, hz1, hz2⟩ := info_parts Tryz.infoGB
  by_cases h0 : n = 0
  · subst h0
    go_enter Tryz.func218, Tryz.ntmps218
    go_wp2
    go_ret
    exact ⟨_, rfl, World.ownsRow_nil _ _ _ _, Below.refl _ _⟩
  · have hrz := fun ty => Lib.run_append_nil_zeros (P := Tryz.prog) w 168 3 ty 177 i0 (.agg #[.slice none 0 0, .int .i64 0, .int .i64 0]) .i64 .i64 Tryz.underlying168 Tryz.underlying3 hi hz0 n (by omega) (by omega) (by omega) (by rw [hz2]; omega)
    have hG1 : n ≤ grownCap w n 0 177 := grownCap_ge w _ _ _
    have hG2 : grownCap w n 0 177 ≤ maxLen := grownCap_le_maxLen w n 0 177 (by unfold maxLen; omega)
    have hsz : (Builtin.zeroCells (Value.agg #[.slice none 0 0, .int .i64 0, .int .i64 0]).cells n ++ Builtin.zeroCells (Value.agg #[.slice none 0 0, .int .i64 0, .int .i64 0]).cells (grownCap w n 0 177 - n)).size = grownCap w n 0 177 * 3 := by
      have e : (Value.agg #[.slice none 0 0, .int .i64 0, .int .i64 0]).cells = #[Value.slice none 0 0, .int .i64 0, .int .i64 0] := rfl
      rw [e]
      simp [Builtin.zeroCells]
      omega
    generalize grownCap w n 0 177 = G at *
    generalize Builtin.zeroCells (Value.agg #[.slice none 0 0, .int .i64 0, .int .i64 0]).cells n ++ Builtin.zeroCells (Value.agg #[.slice none 0 0, .int .i64 0, .int .i64 0]).cells (G - n) = cs at *
    have HSZ := hide hsz
    have HG2 := hide hG2
    unfold maxLen at hG2
    have hp : (0 : Int) < (n : Int) := by omega
    clear hsz
    go_enter Tryz.func218, Tryz.ntmps218
    go_wp2_with (at_builtin; refine Lib.wpList_append_run _ rfl _ _ _ _ rfl _ _ rfl rfl _ _ (hrz _) ?_)
    go_ret
    refine ⟨_, rfl, ?_, ?_⟩
    · refine ⟨by simp, .inr ⟨w.heap.size, G, cs, rfl, Nat.le_refl _, ?_, Nat.zero_le _, HG2.out, by rw [HSZ.out], by simp⟩⟩
      exact heap_alloc_new _ _
    · exact ((Below.refl w.heap.size w).drew).alloc (Nat.le_refl _) _

/-- A slice value that is nil or leads to elements of some cells each. -/
structure SlV (sz : Nat) (w : World) (v : Value) (n : Nat) (xs : List Value) : Prop where
  len : xs.length = n * sz
  one : ∀ u ∈ xs, u.oneCell' = true
  p : (v = .slice none 0 0 ∧ n = 0 ∧ xs = []) ∨ ∃ b off cap, v = .slice (some ⟨b, off, none⟩) n cap ∧ b < w.heap.size ∧ ∀ j u, xs[j]? = some u → w.cell? ⟨b, off + j, none⟩ = some u
theorem SlV.below {sz : Nat} {w w' : World} {v : Value} {n : Nat} {xs : List Value} (h : SlV sz w v n xs) (hb : Below w.heap.size w w') : SlV sz w' v n xs := by
  refine ⟨h.len, h.one, ?_⟩
  rcases h.p with q | ⟨b, off, cap, hv, hB, hc⟩
  · exact .inl q
  · exact .inr ⟨b, off, cap, hv, Nat.lt_of_lt_of_le hB hb.size, fun j u hj => (hb.cell (p := ⟨b, off + j, none⟩) hB).trans (hc j u hj)⟩
theorem SlV.rd {sz : Nat} {w w' : World} {v : Value} {n : Nat} {xs : List Value} (h : SlV sz w v n xs) (hb : Below w.heap.size w w') : ∀ b off cap, v = .slice (some ⟨b, off, none⟩) n cap → ∀ j u, xs[j]? = some u → w'.cell? ((⟨b, off, none⟩ : Addr).add j) = some u := by
  intro b off cap hv j u hj
  rcases (h.below hb).p with ⟨q, _⟩ | ⟨b', off', cap', hv', hB, hc⟩
  · rw [q] at hv; cases hv
  · rw [hv] at hv'
    simp only [Value.slice.injEq, Option.some.injEq, Addr.mk.injEq, and_true, true_and] at hv'
    obtain ⟨⟨rfl, rfl⟩, _⟩ := hv'
    rw [addr_add]
    exact hc j u hj
theorem SlV.empty (sz : Nat) (w : World) (b off cap : Nat) (hb : b < w.heap.size) : SlV sz w (.slice (some ⟨b, off, none⟩) 0 cap) 0 [] :=
  ⟨by simp, fun u hu => by simp at hu, .inr ⟨b, off, cap, rfl, hb, fun j u h => by simp at h⟩⟩
theorem SlV.nil (sz : Nat) (w : World) : SlV sz w (.slice none 0 0) 0 [] := ⟨by simp, fun u hu => by simp at hu, .inl ⟨rfl, rfl, rfl⟩⟩

set_option maxHeartbeats 2000000 in
set_option maxRecDepth 100000 in
theorem concatR2 (xs ys : List Value) (n0 n1 : Nat) (v0a v1a : Value) (B : Nat) (w : World) (h0 : SlV 3 w v0a n0 xs) (h1 : SlV 3 w v1a n1 ys) (hB : B < w.heap.size) (k0 : w.cell? ⟨B, 0, none⟩ = some v0a) (k1 : w.cell? ⟨B, 1, none⟩ = some v1a) (l0 : n0 ≤ 1048576) (l1 : n1 ≤ 1048576) :
    Calls Tryz.prog 192 #[.slice (some ⟨B, 0, none⟩) 2 2] w fun e w' => ∃ v', e = .returned v' ∧ w'.ownsRow w.heap.size 177 3 v' (n0 + n1) (xs ++ ys) ∧ Below w.heap.size w w' := by
  obtain ⟨i0, hi, hz0, hz1, hz2⟩ := info_parts Tryz.infoGB
  have HX0 := hide (fun w' (hb : Below w.heap.size w w') => h0.rd hb)
  have HLn0 := hide h0.len
  have HOne0 := hide h0.one
  have HX1 := hide (fun w' (hb : Below w.heap.size w w') => h1.rd hb)
  have HLn1 := hide h1.len
  have HOne1 := hide h1.one
  rcases h0.p with ⟨rfl, rfl, rfl⟩ | ⟨b0, o0, c0, rfl, _⟩
  · skip
    rcases h1.p with ⟨rfl, rfl, rfl⟩ | ⟨b1, o1, c1, rfl, _⟩
    · skip
      skip
      go_enter Tryz.func192, Tryz.ntmps192
      go_wp2
      refine wp_loop_rounds 3 ?_
      rw [rounds_succ]
      go_wp2
      rw [rounds_succ]
      go_wp2
      rw [rounds_succ]
      go_wp2_with fail
      refine (growNilR (0) _ (by omega)).mono ?_
      rintro e w1 ⟨v1, rfl, ho, hb⟩
      have HO := hide ho
      have HBq := hide hb
      have hs1 := hb.size
      have e0 := (hb.cell (p := ⟨B, 0, none⟩) hB).trans k0
      have e1 := (hb.cell (p := ⟨B, 1, none⟩) hB).trans k1
      clear ho hb
      go_wp2_with fail
      refine wp_loop_rounds 3 ?_
      rw [rounds_succ]
      go_wp2_with (at_builtin; refine wpList_append_own_none rfl _ _ 168 rfl w.heap.size 177 i0 3 Tryz.underlying168 hi _ _ _ rfl HO.out rfl ?_)
      rw [rounds_succ]
      go_wp2_with (at_builtin; refine wpList_append_own_none rfl _ _ 168 rfl w.heap.size 177 i0 3 Tryz.underlying168 hi _ _ _ rfl HO.out rfl ?_)
      rw [rounds_succ]
      go_wp2
      go_ret
      exact ⟨_, rfl, by simpa [Nat.add_assoc] using HO.out, HBq.out⟩
    · skip
      skip
      go_enter Tryz.func192, Tryz.ntmps192
      go_wp2
      refine wp_loop_rounds 3 ?_
      rw [rounds_succ]
      go_wp2
      rw [rounds_succ]
      go_wp2
      rw [rounds_succ]
      go_wp2_with fail
      refine (growNilR (n1) _ (by omega)).mono ?_
      rintro e w1 ⟨v1, rfl, ho, hb⟩
      have HO := hide ho
      have HBq := hide hb
      have hs1 := hb.size
      have e0 := (hb.cell (p := ⟨B, 0, none⟩) hB).trans k0
      have e1 := (hb.cell (p := ⟨B, 1, none⟩) hB).trans k1
      clear ho hb
      go_wp2_with fail
      refine wp_loop_rounds 3 ?_
      rw [rounds_succ]
      go_wp2_with (at_builtin; refine wpList_append_own_none rfl _ _ 168 rfl w.heap.size 177 i0 3 Tryz.underlying168 hi _ _ _ rfl HO.out rfl ?_)
      rw [rounds_succ]
      have HC1 := hide (HX1.out _ HBq.out _ _ _ rfl)
      go_wp2_with (at_builtin; refine wpList_append_own _ rfl _ _ 168 rfl w.heap.size 177 i0 (.agg #[.slice none 0 0, .int .i64 0, .int .i64 0]) 3 40 Tryz.underlying168 hi hz0 hz1 hz2 rfl (by decide) _ _ _ rfl HO.out ⟨b1, o1, none⟩ n1 c1 ys rfl HLn1.out HC1.out HOne1.out (by unfold maxLen; omega) (by omega) hs1 ?_; intro u1 x1 ho1 hg1 _)
      have HO1 := hide ho1
      have HB1 := hide (HBq.out.grown hg1 hs1 (fun q hq => (HO.out.lt q hq).1))
      have hs1 := HB1.out.size
      have e0 := (HB1.out.cell (p := ⟨B, 0, none⟩) hB).trans k0
      have e1 := (HB1.out.cell (p := ⟨B, 1, none⟩) hB).trans k1
      clear ho1 hg1
      go_wp2
      rw [rounds_succ]
      go_wp2
      go_ret
      exact ⟨_, rfl, by simpa [Nat.add_assoc] using HO1.out, HB1.out⟩
  · skip
    rcases h1.p with ⟨rfl, rfl, rfl⟩ | ⟨b1, o1, c1, rfl, _⟩
    · skip
      skip
      go_enter Tryz.func192, Tryz.ntmps192
      go_wp2
      refine wp_loop_rounds 3 ?_
      rw [rounds_succ]
      go_wp2
      rw [rounds_succ]
      go_wp2
      rw [rounds_succ]
      go_wp2_with fail
      refine (growNilR (n0) _ (by omega)).mono ?_
      rintro e w1 ⟨v1, rfl, ho, hb⟩
      have HO := hide ho
      have HBq := hide hb
      have hs1 := hb.size
      have e0 := (hb.cell (p := ⟨B, 0, none⟩) hB).trans k0
      have e1 := (hb.cell (p := ⟨B, 1, none⟩) hB).trans k1
      clear ho hb
      go_wp2_with fail
      refine wp_loop_rounds 3 ?_
      rw [rounds_succ]
      have HC0 := hide (HX0.out _ HBq.out _ _ _ rfl)
      go_wp2_with (at_builtin; refine wpList_append_own _ rfl _ _ 168 rfl w.heap.size 177 i0 (.agg #[.slice none 0 0, .int .i64 0, .int .i64 0]) 3 40 Tryz.underlying168 hi hz0 hz1 hz2 rfl (by decide) _ _ _ rfl HO.out ⟨b0, o0, none⟩ n0 c0 xs rfl HLn0.out HC0.out HOne0.out (by unfold maxLen; omega) (by omega) hs1 ?_; intro u0 x0 ho0 hg0 _)
      have HO0 := hide ho0
      have HB0 := hide (HBq.out.grown hg0 hs1 (fun q hq => (HO.out.lt q hq).1))
      have hs1 := HB0.out.size
      have e0 := (HB0.out.cell (p := ⟨B, 0, none⟩) hB).trans k0
      have e1 := (HB0.out.cell (p := ⟨B, 1, none⟩) hB).trans k1
      clear ho0 hg0
      go_wp2
      rw [rounds_succ]
      go_wp2_with (at_builtin; refine wpList_append_own_none rfl _ _ 168 rfl w.heap.size 177 i0 3 Tryz.underlying168 hi _ _ _ rfl HO0.out rfl ?_)
      rw [rounds_succ]
      go_wp2
      go_ret
      exact ⟨_, rfl, by simpa [Nat.add_assoc] using HO0.out, HB0.out⟩
    · skip
      skip
      go_enter Tryz.func192, Tryz.ntmps192
      go_wp2
      refine wp_loop_rounds 3 ?_
      rw [rounds_succ]
      go_wp2
      rw [rounds_succ]
      go_wp2
      rw [rounds_succ]
      go_wp2_with fail
      refine (growNilR (n0 + n1) _ (by omega)).mono ?_
      rintro e w1 ⟨v1, rfl, ho, hb⟩
      have HO := hide ho
      have HBq := hide hb
      have hs1 := hb.size
      have e0 := (hb.cell (p := ⟨B, 0, none⟩) hB).trans k0
      have e1 := (hb.cell (p := ⟨B, 1, none⟩) hB).trans k1
      clear ho hb
      go_wp2_with fail
      refine wp_loop_rounds 3 ?_
      rw [rounds_succ]
      have HC0 := hide (HX0.out _ HBq.out _ _ _ rfl)
      go_wp2_with (at_builtin; refine wpList_append_own _ rfl _ _ 168 rfl w.heap.size 177 i0 (.agg #[.slice none 0 0, .int .i64 0, .int .i64 0]) 3 40 Tryz.underlying168 hi hz0 hz1 hz2 rfl (by decide) _ _ _ rfl HO.out ⟨b0, o0, none⟩ n0 c0 xs rfl HLn0.out HC0.out HOne0.out (by unfold maxLen; omega) (by omega) hs1 ?_; intro u0 x0 ho0 hg0 _)
      have HO0 := hide ho0
      have HB0 := hide (HBq.out.grown hg0 hs1 (fun q hq => (HO.out.lt q hq).1))
      have hs1 := HB0.out.size
      have e0 := (HB0.out.cell (p := ⟨B, 0, none⟩) hB).trans k0
      have e1 := (HB0.out.cell (p := ⟨B, 1, none⟩) hB).trans k1
      clear ho0 hg0
      go_wp2
      rw [rounds_succ]
      have HC1 := hide (HX1.out _ HB0.out _ _ _ rfl)
      go_wp2_with (at_builtin; refine wpList_append_own _ rfl _ _ 168 rfl w.heap.size 177 i0 (.agg #[.slice none 0 0, .int .i64 0, .int .i64 0]) 3 40 Tryz.underlying168 hi hz0 hz1 hz2 rfl (by decide) _ _ _ rfl HO0.out ⟨b1, o1, none⟩ n1 c1 ys rfl HLn1.out HC1.out HOne1.out (by unfold maxLen; omega) (by omega) hs1 ?_; intro u1 x1 ho1 hg1 _)
      have HO1 := hide ho1
      have HB1 := hide (HB0.out.grown hg1 hs1 (fun q hq => (HO0.out.lt q hq).1))
      have hs1 := HB1.out.size
      have e0 := (HB1.out.cell (p := ⟨B, 0, none⟩) hB).trans k0
      have e1 := (HB1.out.cell (p := ⟨B, 1, none⟩) hB).trans k1
      clear ho1 hg1
      go_wp2
      rw [rounds_succ]
      go_wp2
      go_ret
      exact ⟨_, rfl, by simpa [Nat.add_assoc] using HO1.out, HB1.out⟩

end Go.Proofs.YtbgngikejgihgagGreatDoor
