import Derived.RangeFuncNested
import Derived.RangeFuncBox
import Derived.RangeFuncBound
import Derived.RangeFuncLeaves
import Derived.OwnWalkIn
import Derived.TacticsInMore
import Derived.LoopNIn
import Derived.LoopIn
import Derived.Test.YtbkcbhjejkicjaaGreatDoorMq14
namespace Go.Proofs.YtbkcbhjejkicjaaGreatDoor
open Go Go.RowKit Go.Shelf
set_option linter.unusedVariables false
attribute [local go_sem] Oper.semAt_some

theorem room_of_none {F : Fence} (hd : F.depth = none) (k : Nat) : F.room k := fun d h => by rw [hd] at h; cases h
theorem roundIn_any {F : Fence} (hd : F.depth = none) {m m' : Nat} {P : Program} {l : Nat} {f : FuncId} {tmps : Array Value} {assign body : Code} {w : World} {R : Ending → World → Prop}
    (h : RoundIn F m P l f tmps assign body w R) : RoundIn F m' P l f tmps assign body w R := ⟨h.1, fun c cs _ => h.2 c cs (room_of_none hd _)⟩
theorem yieldAt_any {F : Fence} (hd : F.depth = none) {m : Nat} (m' : Nat) {P : Program} {l : Nat} {args : Array Value} {W : World} {R : Ending → World → Prop} (h : YieldAt F m P l args W R) : YieldAt F m' P l args W R := by
  obtain ⟨fn, tmps, assign, body, hy, hR⟩ := h
  exact ⟨fn, tmps, assign, body, hy, roundIn_any hd hR⟩

/-- The tree lies in blocks below n₀. -/
def IsT (n₀ : Nat) (W : World) (p : Option Addr) (T : AT) : Prop := ∃ base bs, Lies W base T p bs ∧ ∀ x ∈ bs, x < n₀
theorem IsT.below {n₀ : Nat} {A B : World} {p : Option Addr} {T : AT} (h : IsT n₀ A p T) (hb : Below n₀ A B) : IsT n₀ B p T := by
  obtain ⟨base, bs, h1, h2⟩ := h
  exact ⟨base, bs, h1.frame fun b hbs => hb.block b (h2 b hbs), h2⟩
end Go.Proofs.YtbkcbhjejkicjaaGreatDoor

namespace Go.Proofs.YtbkcbhjejkicjaaGreatDoor
open Go Go.RowKit

set_option maxHeartbeats 400000 in
theorem specBreaks (zs : List Int) (v : Value) (w : World) (h : Rd .i32 w v zs) (hn : zs.length ≤ 1099511627776) :
    Calls Tryz.prog 47 #[v] w fun e w' => e = .returned (.int .i64 (brk zs)) ∧ w' = w := by
  rcases h with ⟨ao, cap, rfl, rfl⟩ | ⟨b, off, cap, rfl, hp, hc⟩
  · go_enter Tryz.func47, Tryz.ntmps47
    go_wp2
    refine wp_loop_rounds 1 ?_
    rw [rounds_succ]
    go_wp2
    go_ret
    exact ⟨rfl, rfl⟩
  · have HC := hide hc
    clear hc hp
    go_enter Tryz.func47, Tryz.ntmps47
    go_wp2
    go_loop [3, 8] (fun n i => ∃ k : Nat, k ≤ zs.length ∧ i = .int .i64 k ∧ n = .int .i64 (brk (zs.take k))) (fun _ i => zs.length - (intOf i).toNat)
    case atStart => exact ⟨0, Nat.zero_le _, rfl, rfl⟩
    case round =>
      obtain ⟨k, hk, rfl, rfl⟩ := hrel
      have hbd := brk_bd (zs.take k)
      have hle : (zs.take k).length ≤ k := List.length_take_le _ _
      by_cases hlt : k < zs.length
      · have hx := HC.out k hlt
        have hsn := brk_snoc zs k hlt
        generalize zs.getD k 0 = z at hx hsn
        by_cases hz : z = 10
        · rw [if_pos hz] at hsn
          subst hz
          have HS := hide hsn
          clear hsn
          go_wp2
          go_round
          case rel => exact ⟨k + 1, by omega, by go_num, by rw [HS.out]⟩
          case measure => simp [intOf]; omega
        · rw [if_neg hz] at hsn
          have hz' : (z == 10) = false := by simp [hz]
          have HS := hide hsn
          clear hsn hz
          go_wp2
          go_round
          case rel => exact ⟨k + 1, by omega, by go_num, by rw [HS.out, Int.add_zero]⟩
          case measure => simp [intOf]; omega
      · obtain rfl : k = zs.length := by omega
        go_wp2
        go_ret
        exact ⟨rfl, rfl⟩

set_option maxHeartbeats 400000 in
theorem implBreaks (zs : List Int) (v : Value) (w : World) (h : Rd .i32 w v zs) (hn : zs.length ≤ 1099511627776) :
    Calls Tryz.prog 73 #[v] w fun e w' => e = .returned (.int .i64 (brk zs)) ∧ w' = w := by
  rcases h with ⟨ao, cap, rfl, rfl⟩ | ⟨b, off, cap, rfl, hp, hc⟩
  · go_enter Tryz.func73, Tryz.ntmps73
    go_wp2
    refine wp_loop_rounds 1 ?_
    rw [rounds_succ]
    go_wp2
    go_ret
    exact ⟨rfl, rfl⟩
  · have HC := hide hc
    clear hc hp
    go_enter Tryz.func73, Tryz.ntmps73
    go_wp2
    go_loop [3, 8] (fun n i => ∃ k : Nat, k ≤ zs.length ∧ i = .int .i64 k ∧ n = .int .i64 (brk (zs.take k))) (fun _ i => zs.length - (intOf i).toNat)
    case atStart => exact ⟨0, Nat.zero_le _, rfl, rfl⟩
    case round =>
      obtain ⟨k, hk, rfl, rfl⟩ := hrel
      have hbd := brk_bd (zs.take k)
      have hle : (zs.take k).length ≤ k := List.length_take_le _ _
      by_cases hlt : k < zs.length
      · have hx := HC.out k hlt
        have hsn := brk_snoc zs k hlt
        generalize zs.getD k 0 = z at hx hsn
        by_cases hz : z = 10
        · rw [if_pos hz] at hsn
          subst hz
          have HS := hide hsn
          clear hsn
          go_wp2
          go_round
          case rel => exact ⟨k + 1, by omega, by go_num, by rw [HS.out]⟩
          case measure => simp [intOf]; omega
        · rw [if_neg hz] at hsn
          have hz' : (z == 10) = false := by simp [hz]
          have HS := hide hsn
          clear hsn hz
          go_wp2
          go_round
          case rel => exact ⟨k + 1, by omega, by go_num, by rw [HS.out, Int.add_zero]⟩
          case measure => simp [intOf]; omega
      · obtain rfl : k = zs.length := by omega
        go_wp2
        go_ret
        exact ⟨rfl, rfl⟩

end Go.Proofs.YtbkcbhjejkicjaaGreatDoor

namespace Go.Proofs.YtbkcbhjejkicjaaGreatDoor
open Go Go.RowKit
set_option linter.unusedVariables false

theorem below_dn2 (B : Nat) (w : World) (n : Nat) : Below B w (w.drewN n) := by
  induction n generalizing w with
  | zero => exact Below.refl _ _
  | succ n ih => exact ⟨(ih w.drew).os, (ih w.drew).tape, (ih w.drew).output, (ih w.drew).size, (ih w.drew).block⟩
/-- A stretch of a row. -/
theorem rd_cut {w : World} {b o cap : Nat} {zs : List Int} (hc : ∀ i, i < zs.length → w.cell? ⟨b, o + i, none⟩ = some (.int .i32 (zs.getD i 0))) (k l : Nat) (hkl : k + l ≤ zs.length) (h0 : 0 < l) (hcap : zs.length ≤ cap) (hm : cap ≤ maxLen) :
    Rd .i32 w (.slice (some ⟨b, o + k, none⟩) l (cap - k)) ((zs.drop k).take l) := by
  have hl : ((zs.drop k).take l).length = l := by rw [List.length_take, List.length_drop]; omega
  refine .inr ⟨b, o + k, cap - k, by rw [hl], ⟨by omega, by omega, by omega⟩, fun i hi => ?_⟩
  rw [hl] at hi
  rw [show o + k + i = o + (k + i) by omega, hc (k + i) (by omega)]
  congr 2
  simp only [List.getD_eq_getElem?_getD, List.getElem?_take, List.getElem?_drop]
  rw [if_pos hi]

/-- slices.Clip: no room behind the end. -/
theorem clip32N (ao : Option Addr) (n cap : Nat) (w : World) (hn : n ≤ cap) (hm : cap ≤ maxLen) :
    Calls Tryz.prog 55 #[.slice ao n cap] w fun e w' => e = .returned (.slice ao n n) ∧ w' = w := by
  have g1 : (n : Int) ≤ (cap : Int) := by omega
  go_enter Tryz.func55, Tryz.ntmps55
  go_wp2
  go_ret
  exact ⟨rfl, rfl⟩

set_option maxHeartbeats 1000000 in
set_option maxRecDepth 100000 in
theorem measureN (zs : List Int) (c b o cap k l : Nat) (w : World) (hc : ∀ i, i < zs.length → w.cell? ⟨b, o + i, none⟩ = some (.int .i32 (zs.getD i 0))) (hs : w.cell? ⟨c, 0, none⟩ = some (.slice (some ⟨b, o, none⟩) zs.length cap)) (hb : b < w.heap.size) (hcw : c < w.heap.size) (hkl : k + l ≤ zs.length) (h0 : 0 < l) (hcap : zs.length ≤ cap) (hm : cap ≤ maxLen) (hn : zs.length ≤ 1048576) :
    Calls Tryz.prog 56 #[.pointer (some ⟨c, 0, none⟩), .int .i64 (k : Int), .int .i64 (l : Int)] w fun e w' => e = .returned (.agg #[.int .i64 (k : Int), .int .i64 (l : Int), .int .i64 (brk ((zs.drop k).take l))]) ∧ Below w.heap.size w w' := by
  have B0 := hide ((Below.refl w.heap.size w).alloc (Nat.le_refl _) (.cells #[.int .i64 0, .int .i64 0, .int .i64 0] 155))
  have HB := hide (implBreaks ((zs.drop k).take l) _ (w.alloc (.cells #[.int .i64 0, .int .i64 0, .int .i64 0] 155)) (rd_cut (fun i hi => (B0.out.cell (p := ⟨b, o + i, none⟩) hb).trans (hc i hi)) k l hkl h0 hcap hm) (by rw [List.length_take, List.length_drop]; omega))
  have hs0 := (B0.out.cell (p := ⟨c, 0, none⟩) hcw).trans hs
  have K0 : (w.alloc (.cells #[.int .i64 0, .int .i64 0, .int .i64 0] 155)).heap[w.heap.size]? = some (.cells #[.int .i64 0, .int .i64 0, .int .i64 0] 155 (0, 0)) := heap_alloc_new _ _
  have HK := hide K0
  generalize brk ((zs.drop k).take l) = br at *
  generalize zs.length = n at *
  unfold maxLen at hm
  have g1 : (k : Int) ≤ (k : Int) + (l : Int) := by omega
  have g2 : (k : Int) + (l : Int) ≤ (cap : Int) := by omega
  have g4 : (0 : Int) ≤ (k : Int) + (l : Int) := by omega
  have g3 : ¬ cap = k := by omega
  clear hc K0
  go_enter Tryz.func56, Tryz.ntmps56
  go_wp2_with fail
  generalize w.alloc (.cells #[.int .i64 0, .int .i64 0, .int .i64 0] 155) = w0 at *
  refine HB.out.mono ?_
  rintro e w1 ⟨rfl, hw1⟩
  have hw2 := hw1.symm
  subst hw2
  have c0 : w0.cell? ⟨w.heap.size, 0, none⟩ = some (.int .i64 0) := by rw [cell_of_row w0 _ 0 _ _ _ HK.out]; rfl
  have c1 : w0.cell? ⟨w.heap.size, 1, none⟩ = some (.int .i64 0) := by rw [cell_of_row w0 _ 1 _ _ _ HK.out]; rfl
  have c2 : w0.cell? ⟨w.heap.size, 2, none⟩ = some (.int .i64 0) := by rw [cell_of_row w0 _ 2 _ _ _ HK.out]; rfl
  have f0 := frozen_of_row w0 w.heap.size 0 _ _ HK.out
  have f1 := frozen_of_row w0 w.heap.size 1 _ _ HK.out
  have f2 := frozen_of_row w0 w.heap.size 2 _ _ HK.out
  go_wp2
  refine bodyPost_ret (v := .agg #[.int .i64 (k : Int), .int .i64 (l : Int), .int .i64 br]) (by simp [results, Tryz.results56, go_sem, c0, c1, c2]) rfl ⟨rfl, ?_⟩
  exact ((B0.out.setCell (by simp) _).setCell (by simp) _).setCell (by simp) _
end Go.Proofs.YtbkcbhjejkicjaaGreatDoor

namespace Go.Proofs.YtbkcbhjejkicjaaGreatDoor
open Go Go.RowKit Go.Shelf Go.Sort
set_option linter.unusedVariables false
attribute [local go_sem] Oper.semAt_some

/-- A core as it lies: a store and a root. -/
def PK (w : World) (c b o n cap : Nat) (u : Option Addr) : Prop := w.heap[c]? = some (.cells #[.slice (some ⟨b, o, none⟩) n cap, .pointer u] 152 (0, 0))
theorem PK.below {B : Nat} {w w' : World} {c b o n cap : Nat} {u : Option Addr} (h : PK w c b o n cap u) (hb : Below B w w') (hB : c < B) : PK w' c b o n cap u := (hb.block c hB).trans h
theorem PK.lt {w : World} {c b o n cap : Nat} {u : Option Addr} (h : PK w c b o n cap u) : c < w.heap.size := (Array.getElem?_eq_some_iff.1 h).1
theorem PK.c0 {w : World} {c b o n cap : Nat} {u : Option Addr} (h : PK w c b o n cap u) : w.cell? ⟨c, 0, none⟩ = some (.slice (some ⟨b, o, none⟩) n cap) := by rw [cell_of_row w _ 0 _ _ _ h]; rfl
theorem PK.c1 {w : World} {c b o n cap : Nat} {u : Option Addr} (h : PK w c b o n cap u) : w.cell? ⟨c, 1, none⟩ = some (.pointer u) := by rw [cell_of_row w _ 1 _ _ _ h]; rfl

def At32' (w : World) (b o : Nat) (zs : List Int) : Prop := ∀ i, i < zs.length → w.cell? ⟨b, o + i, none⟩ = some (.int .i32 (zs.getD i 0))
theorem KeepsOthers.of_below {W W' : World} (hb : Below W.heap.size W W') : KeepsOthers W W' := ⟨hb.size, fun k o hk _ => (hb.block k (Array.getElem?_eq_some_iff.1 hk).1).trans hk⟩
end Go.Proofs.YtbkcbhjejkicjaaGreatDoor

namespace Go.Proofs.YtbkcbhjejkicjaaGreatDoor
open Go Go.RowKit Go.Shelf Go.Sort
set_option linter.unusedVariables false

/-- A core whose tree may be changed. -/
structure PM (w : World) (base c b o cap : Nat) (S : List Int) (T : AT) (u : Option Addr) (bs : List Nat) : Prop where
  k : PK w c b o S.length cap u
  t : Lies w base T u bs
  nd : bs.Nodup
  cb : c ∉ bs
  bb : b ∉ bs
  bc : b ≠ c
  rt : At32' w b o S
  lb : b < w.heap.size
  cap1 : S.length ≤ cap
  cap2 : cap ≤ maxLen
  n : S.length ≤ 220000

theorem PK.chg {w w' : World} {c b o n cap : Nat} {u : Option Addr} {bs : List Nat} (h : PK w c b o n cap u) (hc : Chg bs w w') (hn : c ∉ bs) : PK w' c b o n cap u := (hc.block c h.lt hn).trans h
theorem PK.set1 {w : World} {c b o n cap : Nat} {u : Option Addr} (h : PK w c b o n cap u) (u' : Option Addr) : PK (w.setCell ⟨c, 1, none⟩ (.pointer u')) c b o n cap u' := by
  unfold PK at h ⊢; rw [heap_setCell_same w c 1 _ _ _ h]; rfl
theorem PK.fz {w : World} {c b o n cap : Nat} {u : Option Addr} (h : PK w c b o n cap u) (j : Nat) : w.frozen? ⟨c, j, none⟩ = false := frozen_of_row w c j _ _ h
theorem At32'.chg {w w' : World} {b o : Nat} {zs : List Int} {bs : List Nat} (h : At32' w b o zs) (hc : Chg bs w w') (hb : b < w.heap.size) (hn : b ∉ bs) : At32' w' b o zs := fun i hi => by
  have := h i hi
  unfold World.cell? at this ⊢
  rw [hc.block b hb hn]; exact this

def CutPost (w : World) (base c b o n cap : Nat) (T : AT) (bs : List Nat) (w' : World) : Prop :=
  ∃ u' bs', PK w' c b o n cap u' ∧ Lies w' base T u' bs' ∧ bs'.Nodup ∧ (∀ x ∈ bs', x ∈ bs ∨ w.heap.size ≤ x) ∧ Chg (c :: bs) w w'

set_option maxHeartbeats 2000000 in
set_option maxRecDepth 100000 in
theorem cutA (c b o n cap q m j r1 base : Nat) (off pb r2 r3 r5 : Int) (u : Option Addr) (T1 T2 : AT) (bs : List Nat) (e1 e2 : Pc) (w : World) (hk : PK w c b o n cap u) (hcb : c ∉ bs) (hbs : ∀ x ∈ bs, x < w.heap.size) (hoff : 0 ≤ off ∧ off ≤ 8192) (hj : 0 < j) (hjm : j < m) (hm : m ≤ 8192) (hq : q ≤ 220000) (hr1 : r1 ≤ 8192) (hbase : base ≤ w.heap.size)
    (HSK : Hid (Calls Tryz.prog 253 #[.pointer u, .int .i64 off, .func (.func 254) #[] #[]] w fun e w' => e = .returned (fndV (q : Int) (m : Int) pb (r1, r2, r3, (j : Int), r5)) ∧ Below w.heap.size w w'))
    (HM1 : Hid (∀ W, Below w.heap.size w W → Calls Tryz.prog 56 #[.pointer (some ⟨c, 0, none⟩), .int .i64 (q : Int), .int .i64 (j : Int)] W fun e w' => e = .returned (.agg #[.int .i64 e1.off, .int .i64 e1.len, .int .i64 e1.brk]) ∧ Below W.heap.size W w'))
    (HRP : Hid (∀ W, Below w.heap.size w W → Calls Tryz.prog 250 #[.pointer u, .int .i64 (r1 : Int), .agg #[.int .i64 e1.off, .int .i64 e1.len, .int .i64 e1.brk]] W fun e w' => e = .returned (.tuple #[]) ∧ Lies w' base T1 u bs ∧ Chg bs W w'))
    (HM2 : Hid (∀ W, Chg bs w W → Calls Tryz.prog 56 #[.pointer (some ⟨c, 0, none⟩), .int .i64 ((q : Int) + (j : Int)), .int .i64 ((m : Int) - (j : Int))] W fun e w' => e = .returned (.agg #[.int .i64 e2.off, .int .i64 e2.len, .int .i64 e2.brk]) ∧ Below W.heap.size W w'))
    (HIN : Hid (∀ W, Lies W base T1 u bs → base ≤ W.heap.size → Calls Tryz.prog 252 #[.pointer u, .int .i64 ((r1 : Int) + 1), .agg #[.int .i64 e2.off, .int .i64 e2.len, .int .i64 e2.brk]] W (MutPost base T2 bs W))) :
    Calls Tryz.prog 247 #[.pointer (some ⟨c, 0, none⟩), .int .i64 off] w fun e w' => e = .returned (.int .i64 ((r1 : Int) + 1)) ∧ CutPost w base c b o n cap T2 bs w' := by
  have c1 := hk.c1
  have hclt := hk.lt
  have HK := hide hk
  clear hk
  go_enter Tryz.func247, Tryz.ntmps247
  go_wp2_with fail
  refine HSK.out.mono ?_
  rintro e wa ⟨rfl, hba⟩
  have HBB := hide (hba.alloc hba.size (.cells #[.int .i64 (q : Int), .int .i64 (m : Int), .int .i64 pb, .int .i64 (r1 : Int), .int .i64 r2, .int .i64 r3, .int .i64 (j : Int), .int .i64 r5] 323))
  have KF : (wa.alloc (.cells #[.int .i64 (q : Int), .int .i64 (m : Int), .int .i64 pb, .int .i64 (r1 : Int), .int .i64 r2, .int .i64 r3, .int .i64 (j : Int), .int .i64 r5] 323)).heap[wa.heap.size]? = some (.cells #[.int .i64 (q : Int), .int .i64 (m : Int), .int .i64 pb, .int .i64 (r1 : Int), .int .i64 r2, .int .i64 r3, .int .i64 (j : Int), .int .i64 r5] 323 (0, 0)) := heap_alloc_new _ _
  have HKF := hide KF
  have hsb : w.heap.size ≤ (wa.alloc (.cells #[.int .i64 (q : Int), .int .i64 (m : Int), .int .i64 pb, .int .i64 (r1 : Int), .int .i64 r2, .int .i64 r3, .int .i64 (j : Int), .int .i64 r5] 323)).heap.size := HBB.out.size
  have hfa := hba.size
  clear hba HSK c1 KF
  unfold fndV
  simp only
  go_upto_region 2 with fail
  generalize wa.alloc (.cells #[.int .i64 (q : Int), .int .i64 (m : Int), .int .i64 pb, .int .i64 (r1 : Int), .int .i64 r2, .int .i64 r3, .int .i64 (j : Int), .int .i64 r5] 323) = wb at *
  generalize wa.heap.size = fb at *
  have hfl : fb < wb.heap.size := (Array.getElem?_eq_some_iff.1 HKF.out).1
  have c1 := (HBB.out.cell (p := ⟨c, 1, none⟩) hclt).trans HK.out.c1
  have f0 : wb.cell? ⟨fb, 0, none⟩ = some (.int .i64 (q : Int)) := by rw [cell_of_row wb _ 0 _ _ _ HKF.out]; rfl
  have f3 : wb.cell? ⟨fb, 3, none⟩ = some (.int .i64 (r1 : Int)) := by rw [cell_of_row wb _ 3 _ _ _ HKF.out]; rfl
  have f6 : wb.cell? ⟨fb, 6, none⟩ = some (.int .i64 (j : Int)) := by rw [cell_of_row wb _ 6 _ _ _ HKF.out]; rfl
  have hj0 : ¬ (j : Int) = 0 := by omega
  have hj1 : ¬ j = 0 := by omega
  go_upto_region 5 with fail
  have q1 := fun d os => cell_regrown c1 d os
  have q0 := fun d os => cell_regrown f0 d os
  have q6 := fun d os => cell_regrown f6 d os
  have HMQ := hide (fun d os => CallsIn.regrown_of (F := Fence.wide) (r := 5) (w := wb) (d := d) (os := os) (callsIn_wide.2 (HM1.out _ (HBB.out.trans ((below_regrown wb d os).mono hsb)))))
  refine wpIn_wide.1 (wpIn_region_tailW (n := 6) 12 (by kernel_rfl) (by kernel_rfl) ?_)
  simp only [List.take_succ_cons, List.take_zero, List.drop_succ_cons, List.drop_zero]
  repeat (refine wpQuietIn_step (fun _ _ _ _ => trivial) (fun K hK => ?_); go_simp; first | (refine hK _ ?_; clear hK K) | (apply Exists.intro; refine ⟨fun _ => ?_, hK _ ?_⟩; (first | exact ⟨trivial, HMQ.out _ _⟩ | exact HMQ.out _ _); clear hK K))
  refine wpQuietIn_nil ?_
  intro _ hw'
  obtain ⟨⟨dq, osq⟩, hw''⟩ := hw'
  subst hw''
  have HBC := hide (HBB.out.trans ((below_regrown wb dq osq).mono hsb))
  have HKG := hide (((below_regrown wb dq osq).block fb hfl).trans HKF.out)
  have hfl2 := Nat.lt_of_lt_of_le hfl (below_regrown wb dq osq).size
  clear q0 q1 q6 HMQ f0 f3 f6 c1 HKF hfl
  generalize grow (redrawn wb dq) osq = wc at *
  have hsc := HBC.out.size
  gi_wp2_with fail
  refine ⟨trivial, (callsIn_wide.2 (HRP.out _ HBC.out)).mono ?_⟩
  rintro e wd ⟨rfl, hl4, hc4⟩
  have HL4 := hide hl4
  have HC4 := hide ((Chg.of_below (bs := bs) HBC.out).trans hc4 (fun _ h _ => h) (fun _ h _ => h) (ds := bs))
  have nfb : fb ∉ bs := fun h => by have := hbs fb h; omega
  have HKD := hide (HK.out.chg HC4.out hcb)
  have kf := (hc4.block fb hfl2 nfb).trans HKG.out
  have hfl4 : fb < wd.heap.size := Nat.lt_of_lt_of_le hfl2 hc4.size
  have f0 : wd.cell? ⟨fb, 0, none⟩ = some (.int .i64 (q : Int)) := by rw [cell_of_row wd _ 0 _ _ _ kf]; rfl
  have f1 : wd.cell? ⟨fb, 1, none⟩ = some (.int .i64 (m : Int)) := by rw [cell_of_row wd _ 1 _ _ _ kf]; rfl
  have f6 : wd.cell? ⟨fb, 6, none⟩ = some (.int .i64 (j : Int)) := by rw [cell_of_row wd _ 6 _ _ _ kf]; rfl
  have c1 := HKD.out.c1
  have hs4 := HC4.out.size
  clear hl4 hc4 kf HKG HBC HRP HM1 HBB
  gi_wp2_with fail
  go_upto_region 6 with fail
  have q1 := fun d os => cell_regrown c1 d os
  have q0 := fun d os => cell_regrown f0 d os
  have qm := fun d os => cell_regrown f1 d os
  have q6 := fun d os => cell_regrown f6 d os
  have w1 : IntKind.i64.wrap ((r1 : Int) + 1) = (r1 : Int) + 1 := i64w _ (by omega) (by omega)
  have w2 : IntKind.i64.wrap ((q : Int) + (j : Int)) = (q : Int) + (j : Int) := i64w _ (by omega) (by omega)
  have w3 : IntKind.i64.wrap ((m : Int) - (j : Int)) = (m : Int) - (j : Int) := i64w _ (by omega) (by omega)
  have HMQ := hide (fun d os => CallsIn.regrown_of (F := Fence.wide) (r := 5) (w := wd) (d := d) (os := os) (callsIn_wide.2 (HM2.out _ (HC4.out.trans (Chg.of_below (bs := []) (below_regrown wd d os)) (fun _ h _ => h) (fun _ h _ => by cases h)))))
  refine (wpIn_wide (n := 6)).1 ?_
  refine wpIn_region_tailM 20 (.pointer (some ⟨c, 0, none⟩)) (by kernel_rfl) (by kernel_rfl) (fun _ _ _ h => h) ⟨Or.inl ⟨by rfl, ?_⟩, fun w => by rfl⟩ ?_
  · intro w; go_simp
  simp only [List.take_succ_cons, List.take_zero, List.drop_succ_cons, List.drop_zero]
  repeat (refine wpQuietIn_step (fun _ _ _ _ => trivial) (fun K hK => ?_); go_simp; first | (refine hK _ ?_; clear hK K) | (apply Exists.intro; refine ⟨fun _ => ?_, hK _ ?_⟩; (first | exact ⟨trivial, HMQ.out _ _⟩ | exact HMQ.out _ _); clear hK K))
  refine wpQuietIn_nil ?_
  intro _ hw'
  obtain ⟨⟨dr, osr⟩, hw''⟩ := hw'
  subst hw''
  have HBR := hide (below_regrown wd dr osr)
  clear q0 q1 qm q6 HMQ f0 f1 f6 c1 w2 w3 HM2
  generalize grow (redrawn wd dr) osr = we at *
  have HLE := hide (HL4.out.below HBR.out (Nat.le_refl _))
  have HCE := hide (HC4.out.trans (Chg.of_below (bs := []) HBR.out) (fun _ h _ => h) (fun _ h _ => by cases h) (ds := bs))
  have hse := HCE.out.size
  have HKE := hide (HK.out.chg HCE.out hcb)
  clear HL4 HC4 HBR HKD
  gi_wp2_with fail
  refine ⟨trivial, (callsIn_wide.2 (HIN.out _ HLE.out (by omega))).mono ?_⟩
  rintro e wf ⟨u', bs', rfl, hT', nd', sub', ch'⟩
  have HKF := hide (HKE.out.chg ch' hcb)
  have HTF := hide hT'
  have ncb : c ∉ bs' := fun h => by
    rcases sub' c h with h | h
    · exact hcb h
    · omega
  have HSU := hide (show ∀ x ∈ bs', x ∈ bs ∨ w.heap.size ≤ x from fun x hx => (sub' x hx).imp id (fun h => by omega))
  have HCF := hide (HCE.out.trans ch' (fun _ h _ => h) (fun _ h _ => h) (ds := bs))
  have HND := hide nd'
  have d1 := HKF.out.c1
  have z1 := HKF.out.fz 1
  clear hT' nd' sub' ch' HCE HLE HKE HIN
  gi_wp2_with fail
  go_wp2
  go_ret
  exact ⟨rfl, u', bs', HKF.out.set1 u', HTF.out.other ⟨c, 1, none⟩ (.pointer u') ncb, HND.out, HSU.out, (HCF.out.trans (Chg.refl [] _) (fun x h _ => by simp [h]) (fun x h _ => by cases h) (ds := c :: bs)).setCell ⟨c, 1, none⟩ (.pointer u') (.inl (by simp))⟩
end Go.Proofs.YtbkcbhjejkicjaaGreatDoor

namespace Go.Proofs.YtbkcbhjejkicjaaGreatDoor
open Go Go.RowKit
set_option linter.unusedVariables false

theorem lsum_nn {F : List Pc} (h : ∀ p ∈ F, 1 ≤ p.len) : 0 ≤ lsum F := by
  induction F with
  | nil => simp [lsum]
  | cons p F ih => rw [lsum_cons]; have := h p (by simp); have := ih (fun q hq => h q (by simp [hq])); omega
theorem len_le_lsum {F : List Pc} {r : Nat} {p : Pc} (h : ∀ p ∈ F, 1 ≤ p.len) (hr : F[r]? = some p) : p.len ≤ lsum F := by
  have e := (split_at hr).1
  have h1 := lsum_nn (F := F.take r) (fun q hq => h q (List.mem_of_mem_take hq))
  have h2 := lsum_nn (F := F.drop (r + 1)) (fun q hq => h q (List.mem_of_mem_drop hq))
  have : lsum F = lsum (F.take r) + (p.len + lsum (F.drop (r + 1))) := by
    conv => lhs; rw [e]
    rw [lsum_app, lsum_cons]
  omega
/-- The element of a rank, by the search. -/
theorem seekP_one : ∀ (T : AT) (k : Nat) (p : Pc), T.flat[k]? = some p → seekP (fun _ => 1) T (k : Int) = p
  | .nil, k, p, h => by simp [AT.flat] at h
  | .node l q r, k, p, h => by
    have e0 : sumM (fun _ => 1) (l.told 0) = (l.its : Int) := by
      have : ∀ xs : List It, sumM (fun _ => 1) xs = (xs.length : Int) := by
        intro xs
        induction xs with
        | nil => rfl
        | cons x xs ih => simp only [sumM, ih, List.length_cons]; omega
      rw [this, AT.told_length]
    have hl := AT.flat_its l
    simp only [AT.flat] at h
    simp only [seekP, e0]
    by_cases c1 : (k : Int) < l.its
    · rw [if_pos c1]
      rw [List.getElem?_append_left (by omega)] at h
      exact seekP_one l k p h
    · rw [if_neg c1]
      rw [List.getElem?_append_right (by omega)] at h
      by_cases c2 : (k : Int) - l.its < 1
      · rw [if_pos c2]
        rw [show k - l.flat.length = 0 by omega, List.getElem?_cons_zero] at h
        exact Option.some.inj h
      · rw [if_neg c2]
        rw [show k - l.flat.length = (k - l.its - 1) + 1 by omega, List.getElem?_cons_succ] at h
        rw [show (k : Int) - (l.its : Int) - 1 = ((k - l.its - 1 : Nat) : Int) by omega]
        exact seekP_one r _ p h

/-- The piece ahead of a rank. -/
def ahead (T : AT) (R : Nat) : Pc := T.flat.getD (R - 1) ⟨0, 0, 0⟩
theorem ahead_at {T : AT} {R : Nat} (h0 : 0 < R) (h : R ≤ T.its) : T.flat[R - 1]? = some (ahead T R) := by
  have := AT.flat_its T
  rw [ahead, List.getD_eq_getElem?_getD, List.getElem?_eq_getElem (by omega)]
  rfl
def meetB (n : Nat) (T : AT) (R : Nat) : Bool := decide (0 < R ∧ (ahead T R).off + (ahead T R).len = (n : Int))
/-- A new piece put into a cut tree: a longer one, or one more. -/
def addP (S : List Int) (n : Nat) (T : AT) (R : Nat) : AT :=
  if meetB n T R = true then T.put (R - 1) (pcAt S (ahead T R).off ((ahead T R).len + ((S.length : Int) - n))) else T.ins R (pcAt S n ((S.length : Int) - n))
def insP (S : List Int) (n : Nat) (T : AT) (off : Int) : AT := addP S n (cutP S T off) (cutN T off)

theorem addP_ok {S : List Int} {n : Nat} {T : AT} {R : Nat} (h : T.ok) (hw : T.wp S) (hR : R ≤ T.its) (hn : n < S.length) (hS : S.length ≤ 220000) (hr : T.rns + ((S.length : Int) - n) ≤ 8192) : (addP S n T R).ok := by
  have hp := flat_pos h
  have hnn := lsum_nn hp
  rw [AT.rns_lsum] at hr
  unfold addP
  split
  · rename_i hm
    simp only [meetB, decide_eq_true_eq] at hm
    have ha := ahead_at hm.1 hR
    have hlen := len_le_lsum hp ha
    have hk := h.1 _ (List.mem_of_getElem? ha)
    simp only [pcOk, decide_eq_true_eq] at hk
    have hf := put_flat' T (R - 1) (pcAt S (ahead T R).off ((ahead T R).len + ((S.length : Int) - n))) _ ha
    refine ⟨fun q hq => ?_, ?_⟩
    · rw [hf] at hq
      simp only [List.mem_append, List.mem_cons] at hq
      rcases hq with hq | rfl | hq
      · exact h.1 q (List.mem_of_mem_take hq)
      · exact pcAt_ok (by omega) (by omega) (by omega) (by omega) hS
      · exact h.1 q (List.mem_of_mem_drop hq)
    · rw [AT.rns_lsum, hf, lsum_app, lsum_cons]
      have e := (split_at ha).1
      have : lsum T.flat = lsum (T.flat.take (R - 1)) + ((ahead T R).len + lsum (T.flat.drop (R - 1 + 1))) := by
        conv => lhs; rw [e]
        rw [lsum_app, lsum_cons]
      simp only [pcAt]
      omega
  · refine ⟨fun q hq => ?_, ?_⟩
    · rw [AT.ins_flat _ _ _ hR] at hq
      simp only [List.mem_append, List.mem_cons] at hq
      rcases hq with hq | rfl | hq
      · exact h.1 q (List.mem_of_mem_take hq)
      · exact pcAt_ok (by omega) (by omega) (by omega) (by omega) hS
      · exact h.1 q (List.mem_of_mem_drop hq)
    · rw [AT.rns_lsum, AT.ins_flat _ _ _ hR, lsum_app, lsum_cons]
      have : lsum T.flat = lsum (T.flat.take R) + lsum (T.flat.drop R) := by rw [← lsum_app, List.take_append_drop]
      simp only [pcAt]
      omega
theorem addP_bal {S : List Int} {n : Nat} {T : AT} {R : Nat} (hb : T.bal) : (addP S n T R).bal := by
  unfold addP
  split
  · exact AT.put_bal _ _ _ hb
  · exact (AT.ins_bal _ _ _ hb).1
theorem insP_ok {S : List Int} {n : Nat} {T : AT} {off : Int} (h : T.ok) (hw : T.wp S) (h0 : 0 ≤ off) (h1 : off ≤ T.rns) (hn : n < S.length) (hS : S.length ≤ 220000) (hr : T.rns + ((S.length : Int) - n) ≤ 8192) : (insP S n T off).ok :=
  addP_ok (cutP_ok h hw hS h0 h1) (cutP_wp h hw h0 h1) (cutN_at h h0 h1).1 hn hS (by rw [AT.rns_lsum, cutP_len h h0 h1, ← AT.rns_lsum]; exact hr)
theorem insP_bal {S : List Int} {n : Nat} {T : AT} {off : Int} (hb : T.bal) : (insP S n T off).bal := addP_bal (cutP_bal hb)
end Go.Proofs.YtbkcbhjejkicjaaGreatDoor

