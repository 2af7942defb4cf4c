import Derived.Test.YtbgngikejgihgagGreatDoorMq01
import Derived.WalkKit
import Derived.Test.YtbgngikejgihgagGreatDoorProg
import Derived.WalkLawsBesides
import Derived.Test.YtbgngikejgihgagGreatDoorMq03
import Derived.Test.YtbgngikejgihgagGreatDoorMq02
import Derived.Deep.RegionWith
import Derived.Deep.Cut
import Derived.Deep.CutRange
import Derived.Deep.CutBlock
import Derived.Deep.DeepCutAuto
namespace Go.Proofs.YtbgngikejgihgagGreatDoor
open Go Go.RowKit
set_option linter.unusedVariables false

/-- What a source stands on lies below. -/
def Low (bs : List Int) (vb : Value) (p base : Nat) : Prop :=
  p < base ∧ ∀ b off cap, vb = .slice (some ⟨b, off, none⟩) bs.length cap → 0 < bs.length → b < base

theorem Src.low {bs : List Int} {vb : Value} {p : Nat} {w : World} (h : Src bs vb p w) : Low bs vb p w.heap.size := by
  refine ⟨h.lt, fun b off cap hv hl => ?_⟩
  obtain ⟨_, _, _, h3⟩ := h
  rcases h3 with ⟨ao, cap', rfl, rfl⟩ | ⟨b', off', cap', hv', _, hl', hc⟩
  · simp at hl
  · rw [hv] at hv'
    simp only [Value.slice.injEq, Option.some.injEq, Addr.mk.injEq, and_true, true_and] at hv'
    obtain ⟨⟨rfl, rfl⟩, _⟩ := hv'
    exact World.block_lt_of_cell? w _ (hc 0 hl)

theorem Low.mono {bs : List Int} {vb : Value} {p base base' : Nat} (h : Low bs vb p base) (hb : base ≤ base') : Low bs vb p base' :=
  ⟨Nat.lt_of_lt_of_le h.1 hb, fun b off cap hv hl => Nat.lt_of_lt_of_le (h.2 b off cap hv hl) hb⟩

theorem Src.up {bs : List Int} {vb : Value} {p base : Nat} {w w' : World} {row : Option Nat} (h : Src bs vb p w) (hl : Low bs vb p base) (hg : w.grownBy w' row) (hr : ∀ q, row = some q → base ≤ q) : Src bs vb p w' := by
  have hlt := h.lt
  obtain ⟨⟨i, x, h5, h6, h7, h8⟩, h1, h2, h3⟩ := h
  have h9 := hl.1
  refine ⟨⟨i, x, h5, h6, h7, (hg.block p hlt (fun e => by have := hr p e.symm; omega)).trans h8⟩, h1, h2, ?_⟩
  rcases h3 with h3 | ⟨b, off, cap, hv, hne, hl', hc⟩
  · exact .inl h3
  · refine .inr ⟨b, off, cap, hv, hne, hl', fun i hi => ?_⟩
    have h4 := hc i hi
    have h10 := hl.2 b off cap hv hl'.1
    rw [World.cell?_of_block (w := w) (hg.block b (World.block_lt_of_cell? w _ h4) (fun e => by have := hr b e.symm; omega))]
    exact h4

theorem grown_alloc (w : World) (o : Obj) : w.grownBy (w.alloc o) none :=
  ⟨rfl, rfl, rfl, by simp, fun k hk _ => heap_alloc_old w o hk⟩

theorem grown_setCell (w : World) (g j : Nat) (v : Value) : w.grownBy (w.setCell ⟨g, j, none⟩ v) (some g) :=
  ⟨rfl, rfl, rfl, by simp, fun k hk hne => heap_setCell_other _ _ _ _ (fun e => hne (by subst e; rfl))⟩

theorem grown_join {w0 w1 w2 : World} {p : Option Nat} {row : Option Nat} (h : w0.grownBy w1 p) (k : w1.grownBy w2 row) (hr : ∀ q, row = some q → w0.heap.size ≤ q) : w0.grownBy w2 p :=
  ⟨k.os.trans h.os, k.tape.trans h.tape, k.output.trans h.output, Nat.le_trans h.size k.size, fun i hi hne =>
    (k.block i (Nat.lt_of_lt_of_le hi h.size) (fun e => by have := hr i e.symm; omega)).trans (h.block i hi hne)⟩

/-- A drawing loop's state: the source, and what it has made. -/
structure DS (k : IntKind) (e : TypeId) (bs : List Int) (vb : Value) (p : Nat) (w0 : World) (out : Value) (xs : List Int) (w : World) : Prop where
  src : Src bs vb p w
  own : w.ownsRow w0.heap.size e 1 out xs.length (ints k xs)
  grown : w0.grownBy w (some p)
  low : Low bs vb p w0.heap.size

section
variable {k : IntKind} {e : TypeId} {bs : List Int} {vb : Value} {p : Nat} {w0 w w' : World} {out out' : Value} {xs ys : List Int}

theorem DS.draw (h : DS k e bs vb p w0 out xs w) (hs : Src bs vb p w') (hg : w.grownBy w' (some p)) : DS k e bs vb p w0 out xs w' :=
  ⟨hs, h.own.kept hg (by
    cases hb : out.ownBlock with
    | none => exact .inl rfl
    | some q => right; have h1 := (h.own.lt q hb).1; have h2 := h.low.1; intro e; cases e; omega), grown_trans h.grown hg, h.low⟩

theorem DS.other {row : Option Nat} (h : DS k e bs vb p w0 out xs w) (hg : w.grownBy w' row) (hr : ∀ q, row = some q → w0.heap.size ≤ q) (ho : ∀ q, out.ownBlock = some q → row ≠ some q) : DS k e bs vb p w0 out xs w' :=
  ⟨h.src.up h.low hg hr, h.own.kept hg (by
    cases hb : out.ownBlock with
    | none => exact .inl rfl
    | some q => right; exact fun e => ho q hb e.symm), grown_join h.grown hg hr, h.low⟩

theorem DS.alloc (h : DS k e bs vb p w0 out xs w) (o : Obj) : DS k e bs vb p w0 out xs (w.alloc o) :=
  h.other (grown_alloc w o) (fun q hq => by cases hq) (fun q hq => by simp)

theorem DS.app (h : DS k e bs vb p w0 out xs w) (hg : w.grownBy w' out.ownBlock) (ho : w'.ownsRow w0.heap.size e 1 out' (xs ++ ys).length (ints k (xs ++ ys))) : DS k e bs vb p w0 out' (xs ++ ys) w' :=
  ⟨h.src.up h.low hg (fun q hq => (h.own.lt q hq).1), ho, grown_join h.grown hg (fun q hq => (h.own.lt q hq).1), h.low⟩

theorem DS.size (h : DS k e bs vb p w0 out xs w) : w0.heap.size ≤ w.heap.size := h.grown.size
end

theorem DS.start (k : IntKind) (e : TypeId) {bs : List Int} {vb : Value} {p : Nat} {w : World} (h : Src bs vb p w) : DS k e bs vb p w (.slice (some ⟨w.heap.size, 0, none⟩) 0 0) [] (w.alloc (.cells #[] e)) :=
  ⟨h.up h.low (grown_alloc w _) (fun q hq => by cases hq), by simpa [ints] using World.ownsRow_made w #[] 0 (Nat.le_refl _) (Nat.zero_le _) rfl, by
    have := grown_alloc w (.cells #[] e)
    exact ⟨this.os, this.tape, this.output, this.size, fun i hi _ => this.block i hi (by simp)⟩, h.low⟩

theorem Tryz.infoT : (Tryz.prog.info? 21).map (fun i => (i.zero, i.size, i.bytes)) = some (some (.int .i32 0), 1, 4) := by kernel_rfl

set_option maxHeartbeats 1000000 in
set_option maxRecDepth 100000 in
theorem drawText1 (bs : List Int) (vb : Value) (p : Nat) (n : Nat) (w : World) (hS : Src bs vb p w) (hn : n ≤ 1048576) :
    Calls Tryz.prog 89 #[.pointer (some ⟨p, 0, none⟩), .int .i64 n] w fun e w' => ∃ v' xs, e = .returned v' ∧ xs.length = n ∧ DS .i32 21 bs vb p w v' xs w' := by
  obtain ⟨i0, hi, hz0, hz1, hz2⟩ := info_parts Tryz.infoT
  have HD0 := hide (DS.start .i32 21 hS)
  clear hS
  go_enter Tryz.func89, Tryz.ntmps89
  go_wp2
  go_loopw [5, 6] (fun out i wr => ∃ (k : Nat) (xs : List Int), k ≤ n ∧ i = .int .i64 k ∧ xs.length = k ∧ DS .i32 21 bs vb p w out xs wr) (fun _ i _ => n - (intOf i).toNat)
  case atStart => exact ⟨0, [], Nat.zero_le _, rfl, rfl, HD0.out⟩
  case round =>
    obtain ⟨k, xs, hk, rfl, hxk, hd⟩ := hrel
    have HD := hide hd
    clear hd
    by_cases hlt : k < n
    · go_wp2_with fail
      refine (drawOne bs vb p 25 wr HD.out.src (by omega) (by omega)).mono ?_
      rintro e w1 ⟨b, rfl, hs1, hg1⟩
      have HD1 := hide (HD.out.draw hs1 hg1)
      clear hs1 hg1
      cases b with
      | true =>
        go_wp2_with fail
        refine (drawWild bs vb p w1 HD1.out.src).mono ?_
        rintro e w2 ⟨r, rfl, hs2, hg2⟩
        have HD2 := hide (HD1.out.draw hs2 hg2)
        have hsz := HD2.out.size
        clear hs2 hg2
        go_wp2_with (at_builtin; refine wpList_append_own _ rfl _ _ 36 rfl w.heap.size 21 i0 (.int .i32 0) 1 4 Tryz.underlying36 hi hz0 hz1 hz2 rfl (by decide) _ _ _ rfl (HD2.out.own.alloc _) ⟨w2.heap.size, 0, none⟩ 1 1 [.int .i32 (wrap32 r)] rfl rfl (newcells w2 21 [.int .i32 (wrap32 r)]) (ints_one .i32 [wrap32 r]) (by unfold maxLen; omega) (by omega) (by simp; omega) ?_; intro v3 w3 ho3 hg3 _)
        have HD3 := hide ((HD2.out.alloc _).app (ys := [wrap32 r]) hg3 (by rw [List.length_append, ints_append]; exact ho3))
        clear ho3 hg3
        go_wp2
        go_roundw
        case rel => exact ⟨k + 1, xs ++ [wrap32 r], by omega, by go_num, by simp [hxk], HD3.out⟩
        case measure => simp [intOf]; omega
      | false =>
        go_wp2_with fail
        refine (drawChar bs vb p w1 HD1.out.src).mono ?_
        rintro e w2 ⟨r, rfl, hr, hs2, hg2⟩
        have HD2 := hide (HD1.out.draw hs2 hg2)
        have hsz := HD2.out.size
        clear hs2 hg2
        go_wp2_with (at_builtin; refine wpList_append_own _ rfl _ _ 36 rfl w.heap.size 21 i0 (.int .i32 0) 1 4 Tryz.underlying36 hi hz0 hz1 hz2 rfl (by decide) _ _ _ rfl (HD2.out.own.alloc _) ⟨w2.heap.size, 0, none⟩ 1 1 [.int .i32 r] rfl rfl (newcells w2 21 [.int .i32 r]) (ints_one .i32 [r]) (by unfold maxLen; omega) (by omega) (by simp; omega) ?_; intro v3 w3 ho3 hg3 _)
        have HD3 := hide ((HD2.out.alloc _).app (ys := [r]) hg3 (by rw [List.length_append, ints_append]; exact ho3))
        clear ho3 hg3
        go_wp2
        go_roundw
        case rel => exact ⟨k + 1, xs ++ [r], by omega, by go_num, by simp [hxk], HD3.out⟩
        case measure => simp [intOf]; omega
    · obtain rfl : k = n := by omega
      go_wp2
      go_ret
      exact ⟨_, xs, rfl, hxk, HD.out⟩
end Go.Proofs.YtbgngikejgihgagGreatDoor

namespace Go.Proofs.YtbgngikejgihgagGreatDoor
open Go Go.RowKit

/-- How many breaks. -/
def brk (zs : List Int) : Int := ((zs.filter fun z => z == 10).length : Nat)
theorem brk_bd (zs : List Int) : 0 ≤ brk zs ∧ brk zs ≤ zs.length := by
  unfold brk
  exact ⟨by omega, by have := List.length_filter_le (fun z : Int => z == 10) zs; omega⟩
theorem brk_snoc (zs : List Int) (k : Nat) (h : k < zs.length) : brk (zs.take (k + 1)) = brk (zs.take k) + if zs.getD k 0 = 10 then 1 else 0 := by
  have e : zs.getD k 0 = zs[k] := by simp [List.getD_eq_getElem?_getD, h]
  rw [e, List.take_succ_eq_append_getElem h]
  unfold brk
  rw [List.filter_append]
  by_cases hz : zs[k] = 10
  · rw [if_pos hz]; simp [hz]
  · rw [if_neg hz]; simp [hz]

end Go.Proofs.YtbgngikejgihgagGreatDoor

namespace Go.Proofs.YtbgngikejgihgagGreatDoor
open Go Go.RowKit

set_option maxHeartbeats 400000 in
theorem specBreaks (zs : List Int) (v : Value) (w : World) (h : Rd .i32 w v zs) (hn : zs.length ≤ 1099511627776) :
    Calls Tryz.prog 92 #[v] w fun e w' => e = .returned (.int .i64 (brk zs)) ∧ w' = w := by
  rcases h with ⟨ao, cap, rfl, rfl⟩ | ⟨b, off, cap, rfl, hp, hc⟩
  · go_enter Tryz.func92, Tryz.ntmps92
    go_wp2
    refine wp_loop_rounds 1 ?_
    rw [rounds_succ]
    go_wp2
    go_ret
    exact ⟨rfl, rfl⟩
  · have HC := hide hc
    clear hc hp
    go_enter Tryz.func92, Tryz.ntmps92
    go_wp2
    go_loop [3, 8] (fun n i => ∃ k : Nat, k ≤ zs.length ∧ i = .int .i64 k ∧ n = .int .i64 (brk (zs.take k))) (fun _ i => zs.length - (intOf i).toNat)
    case atStart => exact ⟨0, Nat.zero_le _, rfl, rfl⟩
    case round =>
      obtain ⟨k, hk, rfl, rfl⟩ := hrel
      have hbd := brk_bd (zs.take k)
      have hle : (zs.take k).length ≤ k := List.length_take_le _ _
      by_cases hlt : k < zs.length
      · have hx := HC.out k hlt
        have hsn := brk_snoc zs k hlt
        generalize zs.getD k 0 = z at hx hsn
        by_cases hz : z = 10
        · rw [if_pos hz] at hsn
          subst hz
          have HS := hide hsn
          clear hsn
          go_wp2
          go_round
          case rel => exact ⟨k + 1, by omega, by go_num, by rw [HS.out]⟩
          case measure => simp [intOf]; omega
        · rw [if_neg hz] at hsn
          have hz' : (z == 10) = false := by simp [hz]
          have HS := hide hsn
          clear hsn hz
          go_wp2
          go_round
          case rel => exact ⟨k + 1, by omega, by go_num, by rw [HS.out, Int.add_zero]⟩
          case measure => simp [intOf]; omega
      · obtain rfl : k = zs.length := by omega
        go_wp2
        go_ret
        exact ⟨rfl, rfl⟩

set_option maxHeartbeats 400000 in
theorem implBreaks (zs : List Int) (v : Value) (w : World) (h : Rd .i32 w v zs) (hn : zs.length ≤ 1099511627776) :
    Calls Tryz.prog 214 #[v] w fun e w' => e = .returned (.int .i64 (brk zs)) ∧ w' = w := by
  rcases h with ⟨ao, cap, rfl, rfl⟩ | ⟨b, off, cap, rfl, hp, hc⟩
  · go_enter Tryz.func214, Tryz.ntmps214
    go_wp2
    refine wp_loop_rounds 1 ?_
    rw [rounds_succ]
    go_wp2
    go_ret
    exact ⟨rfl, rfl⟩
  · have HC := hide hc
    clear hc hp
    go_enter Tryz.func214, Tryz.ntmps214
    go_wp2
    go_loop [3, 8] (fun n i => ∃ k : Nat, k ≤ zs.length ∧ i = .int .i64 k ∧ n = .int .i64 (brk (zs.take k))) (fun _ i => zs.length - (intOf i).toNat)
    case atStart => exact ⟨0, Nat.zero_le _, rfl, rfl⟩
    case round =>
      obtain ⟨k, hk, rfl, rfl⟩ := hrel
      have hbd := brk_bd (zs.take k)
      have hle : (zs.take k).length ≤ k := List.length_take_le _ _
      by_cases hlt : k < zs.length
      · have hx := HC.out k hlt
        have hsn := brk_snoc zs k hlt
        generalize zs.getD k 0 = z at hx hsn
        by_cases hz : z = 10
        · rw [if_pos hz] at hsn
          subst hz
          have HS := hide hsn
          clear hsn
          go_wp2
          go_round
          case rel => exact ⟨k + 1, by omega, by go_num, by rw [HS.out]⟩
          case measure => simp [intOf]; omega
        · rw [if_neg hz] at hsn
          have hz' : (z == 10) = false := by simp [hz]
          have HS := hide hsn
          clear hsn hz
          go_wp2
          go_round
          case rel => exact ⟨k + 1, by omega, by go_num, by rw [HS.out, Int.add_zero]⟩
          case measure => simp [intOf]; omega
      · obtain rfl : k = zs.length := by omega
        go_wp2
        go_ret
        exact ⟨rfl, rfl⟩

end Go.Proofs.YtbgngikejgihgagGreatDoor

namespace Go.Proofs.YtbgngikejgihgagGreatDoor
open Go Go.RowKit
set_option linter.unusedVariables false

theorem below_dn2 (B : Nat) (w : World) (n : Nat) : Below B w (w.drewN n) := by
  induction n generalizing w with
  | zero => exact Below.refl _ _
  | succ n ih => exact ⟨(ih w.drew).os, (ih w.drew).tape, (ih w.drew).output, (ih w.drew).size, (ih w.drew).block⟩
theorem told_pcs : ∀ (T : AT) (d : Int), (T.told d).map It.pc = T.flat
  | .nil, _ => rfl
  | .node l p r, d => by simp only [AT.told, List.map_append, List.map_cons, AT.flat, told_pcs l, told_pcs r]
/-- A stretch of a row. -/
theorem rd_cut {w : World} {b o cap : Nat} {zs : List Int} (hc : ∀ i, i < zs.length → w.cell? ⟨b, o + i, none⟩ = some (.int .i32 (zs.getD i 0))) (k l : Nat) (hkl : k + l ≤ zs.length) (h0 : 0 < l) (hcap : zs.length ≤ cap) (hm : cap ≤ maxLen) :
    Rd .i32 w (.slice (some ⟨b, o + k, none⟩) l (cap - k)) ((zs.drop k).take l) := by
  have hl : ((zs.drop k).take l).length = l := by rw [List.length_take, List.length_drop]; omega
  refine .inr ⟨b, o + k, cap - k, by rw [hl], ⟨by omega, by omega, by omega⟩, fun i hi => ?_⟩
  rw [hl] at hi
  rw [show o + k + i = o + (k + i) by omega, hc (k + i) (by omega)]
  congr 2
  simp only [List.getD_eq_getElem?_getD, List.getElem?_take, List.getElem?_drop]
  rw [if_pos hi]

/-- slices.Clip: no room behind the end. -/
theorem clip32N (ao : Option Addr) (n cap : Nat) (w : World) (hn : n ≤ cap) (hm : cap ≤ maxLen) :
    Calls Tryz.prog 136 #[.slice ao n cap] w fun e w' => e = .returned (.slice ao n n) ∧ w' = w := by
  have g1 : (n : Int) ≤ (cap : Int) := by omega
  go_enter Tryz.func136, Tryz.ntmps136
  go_wp2
  go_ret
  exact ⟨rfl, rfl⟩

set_option maxHeartbeats 1000000 in
set_option maxRecDepth 100000 in
theorem measureN (zs : List Int) (c b o cap k l : Nat) (w : World) (hc : ∀ i, i < zs.length → w.cell? ⟨b, o + i, none⟩ = some (.int .i32 (zs.getD i 0))) (hs : w.cell? ⟨c, 0, none⟩ = some (.slice (some ⟨b, o, none⟩) zs.length cap)) (hb : b < w.heap.size) (hcw : c < w.heap.size) (hkl : k + l ≤ zs.length) (h0 : 0 < l) (hcap : zs.length ≤ cap) (hm : cap ≤ maxLen) (hn : zs.length ≤ 1048576) :
    Calls Tryz.prog 180 #[.pointer (some ⟨c, 0, none⟩), .int .i64 (k : Int), .int .i64 (l : Int)] w fun e w' => e = .returned (.agg #[.int .i64 (k : Int), .int .i64 (l : Int), .int .i64 (brk ((zs.drop k).take l))]) ∧ Below w.heap.size w w' := by
  have B0 := hide ((Below.refl w.heap.size w).alloc (Nat.le_refl _) (.cells #[.int .i64 0, .int .i64 0, .int .i64 0] 143))
  have HB := hide (implBreaks ((zs.drop k).take l) _ (w.alloc (.cells #[.int .i64 0, .int .i64 0, .int .i64 0] 143)) (rd_cut (fun i hi => (B0.out.cell (p := ⟨b, o + i, none⟩) hb).trans (hc i hi)) k l hkl h0 hcap hm) (by rw [List.length_take, List.length_drop]; omega))
  have hs0 := (B0.out.cell (p := ⟨c, 0, none⟩) hcw).trans hs
  have K0 : (w.alloc (.cells #[.int .i64 0, .int .i64 0, .int .i64 0] 143)).heap[w.heap.size]? = some (.cells #[.int .i64 0, .int .i64 0, .int .i64 0] 143 (0, 0)) := heap_alloc_new _ _
  have HK := hide K0
  generalize brk ((zs.drop k).take l) = br at *
  generalize zs.length = n at *
  unfold maxLen at hm
  have g1 : (k : Int) ≤ (k : Int) + (l : Int) := by omega
  have g2 : (k : Int) + (l : Int) ≤ (cap : Int) := by omega
  have g4 : (0 : Int) ≤ (k : Int) + (l : Int) := by omega
  have g3 : ¬ cap = k := by omega
  clear hc K0
  go_enter Tryz.func180, Tryz.ntmps180
  go_wp2_with fail
  generalize w.alloc (.cells #[.int .i64 0, .int .i64 0, .int .i64 0] 143) = w0 at *
  refine HB.out.mono ?_
  rintro e w1 ⟨rfl, hw1⟩
  have hw2 := hw1.symm
  subst hw2
  have c0 : w0.cell? ⟨w.heap.size, 0, none⟩ = some (.int .i64 0) := by rw [cell_of_row w0 _ 0 _ _ _ HK.out]; rfl
  have c1 : w0.cell? ⟨w.heap.size, 1, none⟩ = some (.int .i64 0) := by rw [cell_of_row w0 _ 1 _ _ _ HK.out]; rfl
  have c2 : w0.cell? ⟨w.heap.size, 2, none⟩ = some (.int .i64 0) := by rw [cell_of_row w0 _ 2 _ _ _ HK.out]; rfl
  have f0 := frozen_of_row w0 w.heap.size 0 _ _ HK.out
  have f1 := frozen_of_row w0 w.heap.size 1 _ _ HK.out
  have f2 := frozen_of_row w0 w.heap.size 2 _ _ HK.out
  go_wp2
  refine bodyPost_ret (v := .agg #[.int .i64 (k : Int), .int .i64 (l : Int), .int .i64 br]) (by simp [results, Tryz.results180, go_sem, c0, c1, c2]) rfl ⟨rfl, ?_⟩
  exact ((B0.out.setCell (by simp) _).setCell (by simp) _).setCell (by simp) _
end Go.Proofs.YtbgngikejgihgagGreatDoor

namespace Go.Proofs.YtbgngikejgihgagGreatDoor
open Go Go.RowKit
set_option linter.unusedVariables false

set_option maxHeartbeats 1000000 in
set_option maxRecDepth 100000 in
theorem specPiece (zs : List Int) (b o cap k l : Nat) (w : World) (hc : ∀ i, i < zs.length → w.cell? ⟨b, o + i, none⟩ = some (.int .i32 (zs.getD i 0))) (hb : b < w.heap.size) (hkl : k + l ≤ zs.length) (h0 : 0 < l) (hcap : zs.length ≤ cap) (hm : cap ≤ maxLen) (hn : zs.length ≤ 1048576) :
    Calls Tryz.prog 131 #[.slice (some ⟨b, o, none⟩) zs.length cap, .int .i64 (k : Int), .int .i64 (l : Int)] w fun e w' => e = .returned (.agg #[.int .i64 (k : Int), .int .i64 (l : Int), .int .i64 (brk ((zs.drop k).take l))]) ∧ Below w.heap.size w w' := by
  have B0 := hide ((Below.refl w.heap.size w).alloc (Nat.le_refl _) (.cells #[.int .i64 0, .int .i64 0, .int .i64 0] 143))
  have HB := hide (specBreaks ((zs.drop k).take l) _ (w.alloc (.cells #[.int .i64 0, .int .i64 0, .int .i64 0] 143)) (rd_cut (fun i hi => (B0.out.cell (p := ⟨b, o + i, none⟩) hb).trans (hc i hi)) k l hkl h0 hcap hm) (by rw [List.length_take, List.length_drop]; omega))
  have K0 : (w.alloc (.cells #[.int .i64 0, .int .i64 0, .int .i64 0] 143)).heap[w.heap.size]? = some (.cells #[.int .i64 0, .int .i64 0, .int .i64 0] 143 (0, 0)) := heap_alloc_new _ _
  have HK := hide K0
  generalize brk ((zs.drop k).take l) = br at *
  generalize zs.length = n at *
  unfold maxLen at hm
  have g1 : (k : Int) ≤ (k : Int) + (l : Int) := by omega
  have g2 : (k : Int) + (l : Int) ≤ (n : Int) := by omega
  have g3 : ¬ cap = k := by omega
  clear hc K0
  go_enter Tryz.func131, Tryz.ntmps131
  go_wp2_with fail
  generalize w.alloc (.cells #[.int .i64 0, .int .i64 0, .int .i64 0] 143) = w0 at *
  refine HB.out.mono ?_
  rintro e w1 ⟨rfl, hw1⟩
  have hw2 := hw1.symm
  subst hw2
  have c0 : w0.cell? ⟨w.heap.size, 0, none⟩ = some (.int .i64 0) := by rw [cell_of_row w0 _ 0 _ _ _ HK.out]; rfl
  have c1 : w0.cell? ⟨w.heap.size, 1, none⟩ = some (.int .i64 0) := by rw [cell_of_row w0 _ 1 _ _ _ HK.out]; rfl
  have c2 : w0.cell? ⟨w.heap.size, 2, none⟩ = some (.int .i64 0) := by rw [cell_of_row w0 _ 2 _ _ _ HK.out]; rfl
  have f0 := frozen_of_row w0 w.heap.size 0 _ _ HK.out
  have f1 := frozen_of_row w0 w.heap.size 1 _ _ HK.out
  have f2 := frozen_of_row w0 w.heap.size 2 _ _ HK.out
  go_wp2
  refine bodyPost_ret (v := .agg #[.int .i64 (k : Int), .int .i64 (l : Int), .int .i64 br]) (by simp [results, Tryz.results131, go_sem, c0, c1, c2]) rfl ⟨rfl, ?_⟩
  exact ((B0.out.setCell (by simp) _).setCell (by simp) _).setCell (by simp) _
theorem specPieceI (zs : List Int) (b o cap : Nat) (k l : Int) (w : World) (hc : ∀ i, i < zs.length → w.cell? ⟨b, o + i, none⟩ = some (.int .i32 (zs.getD i 0))) (hb : b < w.heap.size) (hk : 0 ≤ k) (hkl : k + l ≤ zs.length) (h0 : 0 < l) (hcap : zs.length ≤ cap) (hm : cap ≤ maxLen) (hn : zs.length ≤ 1048576) :
    Calls Tryz.prog 131 #[.slice (some ⟨b, o, none⟩) zs.length cap, .int .i64 k, .int .i64 l] w fun e w' => e = .returned (.agg #[.int .i64 k, .int .i64 l, .int .i64 (brk ((zs.drop k.toNat).take l.toNat))]) ∧ Below w.heap.size w w' := by
  obtain ⟨k', rfl⟩ := Int.eq_ofNat_of_zero_le hk
  obtain ⟨l', rfl⟩ := Int.eq_ofNat_of_zero_le (show 0 ≤ l by omega)
  exact specPiece zs b o cap k' l' w hc hb (by omega) (by omega) hcap hm hn
end Go.Proofs.YtbgngikejgihgagGreatDoor

namespace Go.Proofs.YtbgngikejgihgagGreatDoor
open Go Go.RowKit
set_option linter.unusedVariables false

set_option maxHeartbeats 1000000 in
theorem withinI (v lo hi : Int) (w : World) : Calls Tryz.prog 163 #[.int .i64 v, .int .i64 lo, .int .i64 hi] w fun e w' => e = .returned (.bool (decide (lo ≤ v ∧ v ≤ hi))) ∧ w' = w := by
  by_cases h0 : lo ≤ v
  · by_cases h1 : v ≤ hi
    · have hd : decide (lo ≤ v ∧ v ≤ hi) = true := by simp [h0, h1]
      rw [hd]; clear hd
      go_enter Tryz.func163, Tryz.ntmps163
      go_wp2
      go_ret
      exact ⟨rfl, rfl⟩
    · have hd : decide (lo ≤ v ∧ v ≤ hi) = false := by simp [h0, h1]
      rw [hd]; clear hd
      go_enter Tryz.func163, Tryz.ntmps163
      go_wp2
      go_ret
      exact ⟨rfl, rfl⟩
  · have hd : decide (lo ≤ v ∧ v ≤ hi) = false := by simp [h0]
    rw [hd]; clear hd
    go_enter Tryz.func163, Tryz.ntmps163
    go_wp2
    go_ret
    exact ⟨rfl, rfl⟩

/-- An error that is nothing, or a code. -/
def errV (ok : Bool) (c : Int) : Value := if ok then .nilIface else .iface 181 (.int .i64 c)

end Go.Proofs.YtbgngikejgihgagGreatDoor

namespace Go.Proofs.YtbgngikejgihgagGreatDoor
open Go Go.RowKit
set_option linter.unusedVariables false

set_option maxHeartbeats 1000000 in
theorem boundsI (v lo hi c : Int) (w : World) : Calls Tryz.prog 110 #[.int .i64 v, .int .i64 lo, .int .i64 hi, .int .i64 c] w fun e w' => e = .returned (errV (decide (lo ≤ v ∧ v ≤ hi)) c) ∧ w' = w := by
  have HK := hide (withinI v lo hi w)
  cases hd : decide (lo ≤ v ∧ v ≤ hi) with
  | true =>
    rw [hd] at HK
    clear hd
    go_enter Tryz.func110, Tryz.ntmps110
    go_wp2_with fail
    refine HK.out.mono ?_
    rintro e w1 ⟨rfl, rfl⟩
    go_wp2
    go_ret
    exact ⟨rfl, rfl⟩
  | false =>
    rw [hd] at HK
    clear hd
    go_enter Tryz.func110, Tryz.ntmps110
    go_wp2_with fail
    refine HK.out.mono ?_
    rintro e w1 ⟨rfl, rfl⟩
    go_wp2
    go_ret
    exact ⟨rfl, rfl⟩

end Go.Proofs.YtbgngikejgihgagGreatDoor

namespace Go.Proofs.YtbgngikejgihgagGreatDoor
open Go Go.RowKit
set_option linter.unusedVariables false

def bnd (p : Pc) : Pc := ⟨min (max p.off 0) (220000 - min (max p.len 1) 8192), min (max p.len 1) 8192, min (max p.brk 0) (min (max p.len 1) 8192)⟩

theorem bnd_eq (p : Pc) : (bnd p = p) = (pcOk p = true) := by
  apply propext
  obtain ⟨a, b, c⟩ := p
  simp only [bnd, pcOk, decide_eq_true_eq, Pc.mk.injEq]
  omega

theorem pc3 {a b c a' b' c' : Int} (h1 : a = a') (h2 : b = b') (h3 : c = c') : Ending.returned (.agg #[.int .i64 a, .int .i64 b, .int .i64 c]) = Ending.returned (.agg #[.int .i64 a', .int .i64 b', .int .i64 c']) := by
  subst h1 h2 h3; rfl
set_option maxHeartbeats 1000000 in
theorem boundedI (p : Pc) (w : World) : Calls Tryz.prog 231 #[pcV p] w fun e w' => e = .returned (pcV (bnd p)) ∧ Below w.heap.size w w' := by
  obtain ⟨po, pl, pb⟩ := p
  unfold pcV
  simp only
  go_enter Tryz.func231, Tryz.ntmps231
  go_wp2
  all_goals (refine bodyPost_ret (v := cnt _ _ _) (by simp [results, Tryz.results231, go_sem]; rfl) rfl ?_; exact ⟨pc3 (by simp only [bnd]; omega) (by simp only [bnd]; omega) (by simp only [bnd]; omega), ((Below.refl _ _).alloc (Nat.le_refl _) _).alloc (by simp) _⟩)

set_option maxHeartbeats 1000000 in
set_option maxRecDepth 100000 in
theorem pieceW (p q : Pc) (b : Bool) (w : World) (hK : ∀ w, Calls Tryz.prog 231 #[pcV p] w fun e w' => e = .returned (pcV q) ∧ Below w.heap.size w w')
    (hq : (b = true ∧ p.off = q.off ∧ p.len = q.len ∧ p.brk = q.brk) ∨ (b = false ∧ ¬ p.off = q.off) ∨ (b = false ∧ p.off = q.off ∧ ¬ p.len = q.len) ∨ (b = false ∧ p.off = q.off ∧ p.len = q.len ∧ ¬ p.brk = q.brk)) :
    Calls Tryz.prog 208 #[pcV p] w fun e w' => e = .returned (errV b 1) ∧ Below w.heap.size w w' := by
  have HB0 := hide ((Below.refl w.heap.size w).alloc (Nat.le_refl _) (.cells #[.int .i64 p.off, .int .i64 p.len, .int .i64 p.brk] 143))
  have k0 : (w.alloc (.cells #[.int .i64 p.off, .int .i64 p.len, .int .i64 p.brk] 143)).cell? ⟨w.heap.size, 0, none⟩ = some (.int .i64 p.off) := by simp
  have k1 : (w.alloc (.cells #[.int .i64 p.off, .int .i64 p.len, .int .i64 p.brk] 143)).cell? ⟨w.heap.size, 1, none⟩ = some (.int .i64 p.len) := by simp
  have k2 : (w.alloc (.cells #[.int .i64 p.off, .int .i64 p.len, .int .i64 p.brk] 143)).cell? ⟨w.heap.size, 2, none⟩ = some (.int .i64 p.brk) := by simp
  have hl0 : w.heap.size < (w.alloc (.cells #[.int .i64 p.off, .int .i64 p.len, .int .i64 p.brk] 143)).heap.size := by simp
  have HK := hide hK
  clear hK
  obtain ⟨po, pl, pb⟩ := p
  obtain ⟨qo, ql, qb⟩ := q
  simp only at k0 k1 k2 hl0 HB0 hq
  unfold pcV
  go_enter Tryz.func208, Tryz.ntmps208
  go_upto_region 1 with fail
  generalize w.alloc (.cells #[.int .i64 po, .int .i64 pl, .int .i64 pb] 143) = w0 at *
  go_cut [6] (fun s6 wc => s6 = .bool (!b) ∧ Below w0.heap.size w0 wc)
  case first =>
    rcases hq with ⟨rfl, rfl, rfl, rfl⟩ | ⟨rfl, g0⟩ | ⟨rfl, rfl, g0⟩ | ⟨rfl, rfl, rfl, g0⟩
    all_goals (go_region_with (go_at_call 231; refine (HK.out _).mono ?_; rintro e w1 ⟨rfl, hb1⟩; have B1 := hide (show Below w0.heap.size w0 w1 from ⟨hb1.os, hb1.tape, hb1.output, hb1.size, hb1.block⟩); have d0 := (B1.out.cell (p := ⟨w.heap.size, 0, none⟩) hl0).trans k0; have d1 := (B1.out.cell (p := ⟨w.heap.size, 1, none⟩) hl0).trans k1; have d2 := (B1.out.cell (p := ⟨w.heap.size, 2, none⟩) hl0).trans k2; simp only [pcV]; clear hb1))
    all_goals (go_wp2_with fail; go_meet; exact ⟨rfl, B1.out⟩)
  case rest =>
    obtain ⟨rfl, hbc⟩ := hcut
    have HBC := hide hbc
    clear hbc k0 k1 k2 hq
    cases b with
    | true =>
      go_wp2
      go_ret
      exact ⟨rfl, HB0.out.trans (HBC.out.mono (Nat.le_of_lt hl0))⟩
    | false =>
      go_wp2
      go_ret
      exact ⟨rfl, HB0.out.trans (HBC.out.mono (Nat.le_of_lt hl0))⟩

theorem pieceI (p : Pc) (w : World) : Calls Tryz.prog 208 #[pcV p] w fun e w' => e = .returned (errV (pcOk p) 1) ∧ Below w.heap.size w w' := by
  refine pieceW p (bnd p) (pcOk p) w (boundedI p) ?_
  have h := bnd_eq p
  cases hp : pcOk p with
  | true =>
    have e : bnd p = p := by rw [h]; exact hp
    left; rw [e]; simp
  | false =>
    right
    have e : ¬ bnd p = p := by rw [h, hp]; simp
    have e2 : ¬ (p.off = (bnd p).off ∧ p.len = (bnd p).len ∧ p.brk = (bnd p).brk) := by
      intro hh; apply e
      generalize bnd p = q at hh
      obtain ⟨a, b, c⟩ := p; obtain ⟨a', b', c'⟩ := q; simp at hh ⊢; omega
    by_cases g0 : p.off = (bnd p).off
    · by_cases g1 : p.len = (bnd p).len
      · exact .inr (.inr ⟨rfl, g0, g1, fun g2 => e2 ⟨g0, g1, g2⟩⟩)
      · exact .inr (.inl ⟨rfl, g0, g1⟩)
    · exact .inl ⟨rfl, g0⟩
end Go.Proofs.YtbgngikejgihgagGreatDoor
