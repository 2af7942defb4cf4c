import Derived.Test.YtbgngikejgihgahGreatDoorMq06
import Derived.Test.YtbgngikejgihgahGreatDoorMq04
import Derived.Test.YtbgngikejgihgahGreatDoorProg
import Derived.Test.YtbgngikejgihgahGreatDoorMq01
import Derived.Test.YtbgngikejgihgahGreatDoorMq03
import Derived.WalkKit
import Derived.WalkLawsBesides
import Derived.Test.YtbgngikejgihgahGreatDoorMq02
namespace Go.Proofs.YtbgngikejgihgahGreatDoor
open Go Go.RowKit
set_option linter.unusedVariables false

theorem rankL_step {xs : List It} {j : Nat} {x : It} {off : Int} (hx : xs[j]? = some x) (h : ¬ off - total (xs.take j) ≤ 0) : rankL (xs.drop j) (off - total (xs.take j)) = 1 + rankL (xs.drop (j + 1)) (off - total (xs.take (j + 1))) := by
  have hj : j < xs.length := by
    rcases Nat.lt_or_ge j xs.length with q | q
    · exact q
    · rw [List.getElem?_eq_none q] at hx; cases hx
  have e1 : xs.drop j = x :: xs.drop (j + 1) := by
    rw [List.drop_eq_getElem_cons hj]
    congr 1
    rw [List.getElem?_eq_getElem hj] at hx
    exact Option.some.inj hx
  rw [e1, rankL, if_neg h, take_succ_of hx, total_append]
  congr 2
  simp only [total]
  omega

set_option maxHeartbeats 1000000 in
set_option maxRecDepth 100000 in
theorem rankS (B : Nat) (v : Value) (xs : List It) (off : Int) (w : World) (hr : RdI B w v xs) (hn : xs.length ≤ 8192) (hp : Pcs xs) :
    Calls Tryz.prog 123 #[v, .int .i64 off] w fun e w' => e = .returned (.int .i64 (rankL xs off : Nat)) ∧ w' = w := by
  obtain ⟨ao, cap, rfl⟩ := hr.val
  have hcell : ∀ j, j < xs.length → ∃ b off x, ao = some ⟨b, off, none⟩ ∧ xs[j]? = some x ∧ ItAt w b (off + j * 4) x := by
    intro j hj
    obtain ⟨b, off, cap', e, _, hb, hc⟩ := hr.at (by intro e; subst e; simp at hj)
    cases e
    obtain ⟨x, h1, h2⟩ := itAt_of (B := B) (cap := cap) hc hj
    exact ⟨b, off, x, rfl, h1, h2⟩
  have HC := hide hcell
  have HP := hide hp
  have HT := hide (fun j => hp.total j)
  have HST := hide (fun (j : Nat) (x : It) hx h => rankL_step (xs := xs) (j := j) (x := x) (off := off) hx h)
  have HLO := hide (fun (j : Nat) h => rankL_low (xs.drop j) (off - total (xs.take j)) h)
  have HTS := hide (fun (j : Nat) (x : It) (hx : xs[j]? = some x) => show total (xs.take (j + 1)) = total (xs.take j) + x.pc.len by rw [take_succ_of hx, total_append]; simp [total])
  have HEN := hide (show rankL (xs.drop xs.length) (off - total (xs.take xs.length)) = 0 by rw [List.drop_length]; rfl)
  have HTK := hide (fun j => show (xs.take j).length ≤ j by rw [List.length_take]; omega)
  generalize hN : xs.length = n at *
  clear hr hcell hp
  generalize hR : rankL xs off = R
  have HR := hide (show R = 0 + rankL (xs.drop 0) (off - total (xs.take 0)) by rw [← hR]; simp [total])
  clear hR
  go_enter Tryz.func123, Tryz.ntmps123
  go_wp2_with fail
  go_loop [5, 9] (fun x i => ∃ j : Nat, j ≤ n ∧ i = .int .i64 j ∧ x = .int .i64 (total (xs.take j)) ∧ R = j + rankL (xs.drop j) (off - total (xs.take j))) (fun x i => n - (intOf i).toNat)
  case atStart => exact ⟨0, Nat.zero_le _, rfl, by simp [total], HR.out⟩
  case round =>
    obtain ⟨j, hj, rfl, rfl, hRj⟩ := hrel
    have HRJ := hide hRj
    have ht := HT.out j
    have htk := HTK.out j
    clear hRj
    by_cases hjn : j < n
    · obtain ⟨b, o, x, rfl, hx, a0, a1, a2, a3⟩ := HC.out j hjn
      have hjn' : (j : Int) < n := by omega
      have hpx := HP.out x (List.mem_iff_getElem?.2 ⟨j, hx⟩)
      simp only [pcOk, decide_eq_true_eq] at hpx
      have HTX := hide (HTS.out j x hx)
      have HSX := hide (HST.out j x hx)
      have HLX := hide (HLO.out j)
      generalize total (xs.take j) = t at *
      by_cases hge : t ≥ off
      · have HE := hide (show R = j by rw [HRJ.out, HLX.out (by omega)]; omega)
        clear hx
        go_wp2
        go_ret
        exact ⟨by rw [HE.out]; rfl, rfl⟩
      · have HE := hide (show R = (j + 1 : Nat) + rankL (xs.drop (j + 1)) (off - total (xs.take (j + 1))) by rw [HRJ.out, HSX.out (by omega)]; omega)
        clear hx
        go_wp2
        go_round
        case rel => exact ⟨j + 1, by omega, by go_num, by rw [HTX.out], HE.out⟩
        case measure => simp [intOf]; omega
    · obtain rfl : j = n := by omega
      have hge : ¬ (j : Int) < (j : Int) := by omega
      have HE := hide (show R = j by rw [HRJ.out, HEN.out]; omega)
      clear ht htk
      go_wp2
      go_ret
      exact ⟨by rw [HE.out]; rfl, rfl⟩
end Go.Proofs.YtbgngikejgihgahGreatDoor

namespace Go.Proofs.YtbgngikejgihgahGreatDoor
open Go Go.RowKit

set_option maxHeartbeats 400000 in
theorem specBreaks (zs : List Int) (v : Value) (w : World) (h : Rd .i32 w v zs) (hn : zs.length ≤ 1099511627776) :
    Calls Tryz.prog 97 #[v] w fun e w' => e = .returned (.int .i64 (brk zs)) ∧ w' = w := by
  rcases h with ⟨ao, cap, rfl, rfl⟩ | ⟨b, off, cap, rfl, hp, hc⟩
  · go_enter Tryz.func97, Tryz.ntmps97
    go_wp2
    refine wp_loop_rounds 1 ?_
    rw [rounds_succ]
    go_wp2
    go_ret
    exact ⟨rfl, rfl⟩
  · have HC := hide hc
    clear hc hp
    go_enter Tryz.func97, Tryz.ntmps97
    go_wp2
    go_loop [3, 8] (fun n i => ∃ k : Nat, k ≤ zs.length ∧ i = .int .i64 k ∧ n = .int .i64 (brk (zs.take k))) (fun _ i => zs.length - (intOf i).toNat)
    case atStart => exact ⟨0, Nat.zero_le _, rfl, rfl⟩
    case round =>
      obtain ⟨k, hk, rfl, rfl⟩ := hrel
      have hbd := brk_bd (zs.take k)
      have hle : (zs.take k).length ≤ k := List.length_take_le _ _
      by_cases hlt : k < zs.length
      · have hx := HC.out k hlt
        have hsn := brk_snoc zs k hlt
        generalize zs.getD k 0 = z at hx hsn
        by_cases hz : z = 10
        · rw [if_pos hz] at hsn
          subst hz
          have HS := hide hsn
          clear hsn
          go_wp2
          go_round
          case rel => exact ⟨k + 1, by omega, by go_num, by rw [HS.out]⟩
          case measure => simp [intOf]; omega
        · rw [if_neg hz] at hsn
          have hz' : (z == 10) = false := by simp [hz]
          have HS := hide hsn
          clear hsn hz
          go_wp2
          go_round
          case rel => exact ⟨k + 1, by omega, by go_num, by rw [HS.out, Int.add_zero]⟩
          case measure => simp [intOf]; omega
      · obtain rfl : k = zs.length := by omega
        go_wp2
        go_ret
        exact ⟨rfl, rfl⟩

set_option maxHeartbeats 400000 in
theorem implBreaks (zs : List Int) (v : Value) (w : World) (h : Rd .i32 w v zs) (hn : zs.length ≤ 1099511627776) :
    Calls Tryz.prog 231 #[v] w fun e w' => e = .returned (.int .i64 (brk zs)) ∧ w' = w := by
  rcases h with ⟨ao, cap, rfl, rfl⟩ | ⟨b, off, cap, rfl, hp, hc⟩
  · go_enter Tryz.func231, Tryz.ntmps231
    go_wp2
    refine wp_loop_rounds 1 ?_
    rw [rounds_succ]
    go_wp2
    go_ret
    exact ⟨rfl, rfl⟩
  · have HC := hide hc
    clear hc hp
    go_enter Tryz.func231, Tryz.ntmps231
    go_wp2
    go_loop [3, 8] (fun n i => ∃ k : Nat, k ≤ zs.length ∧ i = .int .i64 k ∧ n = .int .i64 (brk (zs.take k))) (fun _ i => zs.length - (intOf i).toNat)
    case atStart => exact ⟨0, Nat.zero_le _, rfl, rfl⟩
    case round =>
      obtain ⟨k, hk, rfl, rfl⟩ := hrel
      have hbd := brk_bd (zs.take k)
      have hle : (zs.take k).length ≤ k := List.length_take_le _ _
      by_cases hlt : k < zs.length
      · have hx := HC.out k hlt
        have hsn := brk_snoc zs k hlt
        generalize zs.getD k 0 = z at hx hsn
        by_cases hz : z = 10
        · rw [if_pos hz] at hsn
          subst hz
          have HS := hide hsn
          clear hsn
          go_wp2
          go_round
          case rel => exact ⟨k + 1, by omega, by go_num, by rw [HS.out]⟩
          case measure => simp [intOf]; omega
        · rw [if_neg hz] at hsn
          have hz' : (z == 10) = false := by simp [hz]
          have HS := hide hsn
          clear hsn hz
          go_wp2
          go_round
          case rel => exact ⟨k + 1, by omega, by go_num, by rw [HS.out, Int.add_zero]⟩
          case measure => simp [intOf]; omega
      · obtain rfl : k = zs.length := by omega
        go_wp2
        go_ret
        exact ⟨rfl, rfl⟩

end Go.Proofs.YtbgngikejgihgahGreatDoor

namespace Go.Proofs.YtbgngikejgihgahGreatDoor
open Go Go.RowKit
set_option linter.unusedVariables false

theorem below_dn2 (B : Nat) (w : World) (n : Nat) : Below B w (w.drewN n) := by
  induction n generalizing w with
  | zero => exact Below.refl _ _
  | succ n ih => exact ⟨(ih w.drew).os, (ih w.drew).tape, (ih w.drew).output, (ih w.drew).size, (ih w.drew).block⟩
theorem told_pcs : ∀ (T : AT) (d : Int), (T.told d).map It.pc = T.flat
  | .nil, _ => rfl
  | .node l p r, d => by simp only [AT.told, List.map_append, List.map_cons, AT.flat, told_pcs l, told_pcs r]
/-- A stretch of a row. -/
theorem rd_cut {w : World} {b o cap : Nat} {zs : List Int} (hc : ∀ i, i < zs.length → w.cell? ⟨b, o + i, none⟩ = some (.int .i32 (zs.getD i 0))) (k l : Nat) (hkl : k + l ≤ zs.length) (h0 : 0 < l) (hcap : zs.length ≤ cap) (hm : cap ≤ maxLen) :
    Rd .i32 w (.slice (some ⟨b, o + k, none⟩) l (cap - k)) ((zs.drop k).take l) := by
  have hl : ((zs.drop k).take l).length = l := by rw [List.length_take, List.length_drop]; omega
  refine .inr ⟨b, o + k, cap - k, by rw [hl], ⟨by omega, by omega, by omega⟩, fun i hi => ?_⟩
  rw [hl] at hi
  rw [show o + k + i = o + (k + i) by omega, hc (k + i) (by omega)]
  congr 2
  simp only [List.getD_eq_getElem?_getD, List.getElem?_take, List.getElem?_drop]
  rw [if_pos hi]

/-- slices.Clip: no room behind the end. -/
theorem clip32N (ao : Option Addr) (n cap : Nat) (w : World) (hn : n ≤ cap) (hm : cap ≤ maxLen) :
    Calls Tryz.prog 131 #[.slice ao n cap] w fun e w' => e = .returned (.slice ao n n) ∧ w' = w := by
  have g1 : (n : Int) ≤ (cap : Int) := by omega
  go_enter Tryz.func131, Tryz.ntmps131
  go_wp2
  go_ret
  exact ⟨rfl, rfl⟩

set_option maxHeartbeats 1000000 in
set_option maxRecDepth 100000 in
theorem measureN (zs : List Int) (c b o cap k l : Nat) (w : World) (hc : ∀ i, i < zs.length → w.cell? ⟨b, o + i, none⟩ = some (.int .i32 (zs.getD i 0))) (hs : w.cell? ⟨c, 0, none⟩ = some (.slice (some ⟨b, o, none⟩) zs.length cap)) (hb : b < w.heap.size) (hcw : c < w.heap.size) (hkl : k + l ≤ zs.length) (h0 : 0 < l) (hcap : zs.length ≤ cap) (hm : cap ≤ maxLen) (hn : zs.length ≤ 1048576) :
    Calls Tryz.prog 171 #[.pointer (some ⟨c, 0, none⟩), .int .i64 (k : Int), .int .i64 (l : Int)] w fun e w' => e = .returned (.agg #[.int .i64 (k : Int), .int .i64 (l : Int), .int .i64 (brk ((zs.drop k).take l))]) ∧ Below w.heap.size w w' := by
  have B0 := hide ((Below.refl w.heap.size w).alloc (Nat.le_refl _) (.cells #[.int .i64 0, .int .i64 0, .int .i64 0] 130))
  have HB := hide (implBreaks ((zs.drop k).take l) _ (w.alloc (.cells #[.int .i64 0, .int .i64 0, .int .i64 0] 130)) (rd_cut (fun i hi => (B0.out.cell (p := ⟨b, o + i, none⟩) hb).trans (hc i hi)) k l hkl h0 hcap hm) (by rw [List.length_take, List.length_drop]; omega))
  have hs0 := (B0.out.cell (p := ⟨c, 0, none⟩) hcw).trans hs
  have K0 : (w.alloc (.cells #[.int .i64 0, .int .i64 0, .int .i64 0] 130)).heap[w.heap.size]? = some (.cells #[.int .i64 0, .int .i64 0, .int .i64 0] 130 (0, 0)) := heap_alloc_new _ _
  have HK := hide K0
  generalize brk ((zs.drop k).take l) = br at *
  generalize zs.length = n at *
  unfold maxLen at hm
  have g1 : (k : Int) ≤ (k : Int) + (l : Int) := by omega
  have g2 : (k : Int) + (l : Int) ≤ (cap : Int) := by omega
  have g4 : (0 : Int) ≤ (k : Int) + (l : Int) := by omega
  have g3 : ¬ cap = k := by omega
  clear hc K0
  go_enter Tryz.func171, Tryz.ntmps171
  go_wp2_with fail
  generalize w.alloc (.cells #[.int .i64 0, .int .i64 0, .int .i64 0] 130) = w0 at *
  refine HB.out.mono ?_
  rintro e w1 ⟨rfl, hw1⟩
  have hw2 := hw1.symm
  subst hw2
  have c0 : w0.cell? ⟨w.heap.size, 0, none⟩ = some (.int .i64 0) := by rw [cell_of_row w0 _ 0 _ _ _ HK.out]; rfl
  have c1 : w0.cell? ⟨w.heap.size, 1, none⟩ = some (.int .i64 0) := by rw [cell_of_row w0 _ 1 _ _ _ HK.out]; rfl
  have c2 : w0.cell? ⟨w.heap.size, 2, none⟩ = some (.int .i64 0) := by rw [cell_of_row w0 _ 2 _ _ _ HK.out]; rfl
  have f0 := frozen_of_row w0 w.heap.size 0 _ _ HK.out
  have f1 := frozen_of_row w0 w.heap.size 1 _ _ HK.out
  have f2 := frozen_of_row w0 w.heap.size 2 _ _ HK.out
  go_wp2
  refine bodyPost_ret (v := .agg #[.int .i64 (k : Int), .int .i64 (l : Int), .int .i64 br]) (by simp [results, Tryz.results171, go_sem, c0, c1, c2]) rfl ⟨rfl, ?_⟩
  exact ((B0.out.setCell (by simp) _).setCell (by simp) _).setCell (by simp) _
end Go.Proofs.YtbgngikejgihgahGreatDoor

namespace Go.Proofs.YtbgngikejgihgahGreatDoor
open Go Go.RowKit
set_option linter.unusedVariables false

set_option maxHeartbeats 1000000 in
set_option maxRecDepth 100000 in
theorem specPiece (zs : List Int) (b o cap k l : Nat) (w : World) (hc : ∀ i, i < zs.length → w.cell? ⟨b, o + i, none⟩ = some (.int .i32 (zs.getD i 0))) (hb : b < w.heap.size) (hkl : k + l ≤ zs.length) (h0 : 0 < l) (hcap : zs.length ≤ cap) (hm : cap ≤ maxLen) (hn : zs.length ≤ 1048576) :
    Calls Tryz.prog 126 #[.slice (some ⟨b, o, none⟩) zs.length cap, .int .i64 (k : Int), .int .i64 (l : Int)] w fun e w' => e = .returned (.agg #[.int .i64 (k : Int), .int .i64 (l : Int), .int .i64 (brk ((zs.drop k).take l))]) ∧ Below w.heap.size w w' := by
  have B0 := hide ((Below.refl w.heap.size w).alloc (Nat.le_refl _) (.cells #[.int .i64 0, .int .i64 0, .int .i64 0] 130))
  have HB := hide (specBreaks ((zs.drop k).take l) _ (w.alloc (.cells #[.int .i64 0, .int .i64 0, .int .i64 0] 130)) (rd_cut (fun i hi => (B0.out.cell (p := ⟨b, o + i, none⟩) hb).trans (hc i hi)) k l hkl h0 hcap hm) (by rw [List.length_take, List.length_drop]; omega))
  have K0 : (w.alloc (.cells #[.int .i64 0, .int .i64 0, .int .i64 0] 130)).heap[w.heap.size]? = some (.cells #[.int .i64 0, .int .i64 0, .int .i64 0] 130 (0, 0)) := heap_alloc_new _ _
  have HK := hide K0
  generalize brk ((zs.drop k).take l) = br at *
  generalize zs.length = n at *
  unfold maxLen at hm
  have g1 : (k : Int) ≤ (k : Int) + (l : Int) := by omega
  have g2 : (k : Int) + (l : Int) ≤ (n : Int) := by omega
  have g3 : ¬ cap = k := by omega
  clear hc K0
  go_enter Tryz.func126, Tryz.ntmps126
  go_wp2_with fail
  generalize w.alloc (.cells #[.int .i64 0, .int .i64 0, .int .i64 0] 130) = w0 at *
  refine HB.out.mono ?_
  rintro e w1 ⟨rfl, hw1⟩
  have hw2 := hw1.symm
  subst hw2
  have c0 : w0.cell? ⟨w.heap.size, 0, none⟩ = some (.int .i64 0) := by rw [cell_of_row w0 _ 0 _ _ _ HK.out]; rfl
  have c1 : w0.cell? ⟨w.heap.size, 1, none⟩ = some (.int .i64 0) := by rw [cell_of_row w0 _ 1 _ _ _ HK.out]; rfl
  have c2 : w0.cell? ⟨w.heap.size, 2, none⟩ = some (.int .i64 0) := by rw [cell_of_row w0 _ 2 _ _ _ HK.out]; rfl
  have f0 := frozen_of_row w0 w.heap.size 0 _ _ HK.out
  have f1 := frozen_of_row w0 w.heap.size 1 _ _ HK.out
  have f2 := frozen_of_row w0 w.heap.size 2 _ _ HK.out
  go_wp2
  refine bodyPost_ret (v := .agg #[.int .i64 (k : Int), .int .i64 (l : Int), .int .i64 br]) (by simp [results, Tryz.results126, go_sem, c0, c1, c2]) rfl ⟨rfl, ?_⟩
  exact ((B0.out.setCell (by simp) _).setCell (by simp) _).setCell (by simp) _
theorem specPieceI (zs : List Int) (b o cap : Nat) (k l : Int) (w : World) (hc : ∀ i, i < zs.length → w.cell? ⟨b, o + i, none⟩ = some (.int .i32 (zs.getD i 0))) (hb : b < w.heap.size) (hk : 0 ≤ k) (hkl : k + l ≤ zs.length) (h0 : 0 < l) (hcap : zs.length ≤ cap) (hm : cap ≤ maxLen) (hn : zs.length ≤ 1048576) :
    Calls Tryz.prog 126 #[.slice (some ⟨b, o, none⟩) zs.length cap, .int .i64 k, .int .i64 l] w fun e w' => e = .returned (.agg #[.int .i64 k, .int .i64 l, .int .i64 (brk ((zs.drop k.toNat).take l.toNat))]) ∧ Below w.heap.size w w' := by
  obtain ⟨k', rfl⟩ := Int.eq_ofNat_of_zero_le hk
  obtain ⟨l', rfl⟩ := Int.eq_ofNat_of_zero_le (show 0 ≤ l by omega)
  exact specPiece zs b o cap k' l' w hc hb (by omega) (by omega) hcap hm hn
end Go.Proofs.YtbgngikejgihgahGreatDoor

namespace Go.Proofs.YtbgngikejgihgahGreatDoor
set_option linter.unusedVariables false
namespace AT
/-- Level and lean of every node, in order. -/
def dif : AT → Int → List (Int × Int)
  | nil, _ => []
  | node l _ r, d => l.dif (d + 1) ++ (d, (l.ht : Int) - r.ht) :: r.dif (d + 1)
/-- How deep the deepest node out of balance lies, from 1 on; 0: there is none. -/
def wd : AT → Nat
  | nil => 0
  | node l _ r => if l.wd = 0 ∧ r.wd = 0 then (if l.ht + 2 ≤ r.ht ∨ r.ht + 2 ≤ l.ht then 1 else 0) else 1 + max l.wd r.wd
/-- Its rank: the first of the deepest. -/
def wi : AT → Nat
  | nil => 0
  | node l _ r => if l.wd = 0 ∧ r.wd = 0 then l.its else if r.wd ≤ l.wd then l.wi else l.its + 1 + r.wi
def rot (l : AT) (p : Pc) (r : AT) : AT :=
  if r.ht < l.ht then (if l.lean < 0 then turnR (node l.turnL p r) else turnR (node l p r))
  else (if 0 < r.lean then turnL (node l p r.turnR) else turnL (node l p r))
def step : AT → AT
  | nil => nil
  | node l p r => if l.wd = 0 ∧ r.wd = 0 then rot l p r else if r.wd ≤ l.wd then node l.step p r else node l p r.step

theorem dif_length : ∀ (T : AT) (d : Int), (T.dif d).length = T.its
  | nil, d => rfl
  | node l p r, d => by simp [dif, its, dif_length l, dif_length r]; omega

theorem wd_bal : ∀ T : AT, T.wd = 0 ↔ T.bal
  | nil => by simp [wd, bal]
  | node l p r => by
    have hl := wd_bal l; have hr := wd_bal r
    simp only [wd, bal]
    constructor
    · intro h
      split at h
      · rename_i h1
        split at h
        · omega
        · exact ⟨hl.1 h1.1, hr.1 h1.2, by omega, by omega⟩
      · omega
    · intro ⟨h1, h2, h3, h4⟩
      rw [if_pos ⟨hl.2 h1, hr.2 h2⟩, if_neg (by omega)]

/-- What the search for the deepest one keeps. -/
def bst (b : Option (Nat × Int)) (k : Nat) (lv : Int) : Option (Nat × Int) :=
  match b with
  | none => some (k, lv)
  | some (j, m) => if m < lv then some (k, lv) else some (j, m)
def scan : List (Int × Int) → Nat → Option (Nat × Int) → Option (Nat × Int)
  | [], _, b => b
  | (lv, d) :: xs, k, b => scan xs (k + 1) (if 2 ≤ d ∨ d ≤ -2 then bst b k lv else b)
theorem scan_append : ∀ (xs ys : List (Int × Int)) (k : Nat) (b : Option (Nat × Int)), scan (xs ++ ys) k b = scan ys (k + xs.length) (scan xs k b)
  | [], ys, k, b => by simp [scan]
  | (lv, d) :: xs, ys, k, b => by
    simp only [List.cons_append, scan, List.length_cons]
    rw [scan_append xs ys]
    congr 1; omega
theorem bst_less {b : Option (Nat × Int)} {k k' : Nat} {lv lv' : Int} (h : lv < lv') : bst (bst b k lv) k' lv' = bst b k' lv' := by
  unfold bst
  cases b with
  | none => simp [h]
  | some q =>
    obtain ⟨j, m⟩ := q
    simp only
    by_cases h1 : m < lv
    · rw [if_pos h1, if_pos (by omega)]; simp [h]
    · rw [if_neg h1]
theorem bst_keep {b : Option (Nat × Int)} {k k' : Nat} {lv lv' : Int} (h : lv' ≤ lv) : bst (bst b k lv) k' lv' = bst b k lv := by
  unfold bst
  cases b with
  | none => simp; omega
  | some q =>
    obtain ⟨j, m⟩ := q
    simp only
    by_cases h1 : m < lv
    · rw [if_pos h1]; simp; omega
    · rw [if_neg h1]; simp; omega

theorem scan_tree : ∀ (T : AT) (d : Int) (k : Nat) (b : Option (Nat × Int)), scan (T.dif d) k b = if T.wd = 0 then b else bst b (k + T.wi) (d + T.wd - 1)
  | nil, d, k, b => by simp [dif, scan, wd]
  | node l p r, d, k, b => by
    simp only [dif]
    rw [scan_append, scan_tree l, dif_length]
    simp only [scan]
    rw [scan_tree r]
    simp only [wd, wi]
    by_cases hl : l.wd = 0
    · by_cases hr : r.wd = 0
      · simp only [hl, hr, if_true, and_self]
        by_cases hu : l.ht + 2 ≤ r.ht ∨ r.ht + 2 ≤ l.ht
        · have hu2 : 2 ≤ (l.ht : Int) - r.ht ∨ (l.ht : Int) - r.ht ≤ -2 := by omega
          rw [if_pos hu2]; simp only [if_pos hu]
          rw [if_neg (by omega)]
          congr 1; omega
        · have hu2 : ¬ (2 ≤ (l.ht : Int) - r.ht ∨ (l.ht : Int) - r.ht ≤ -2) := by omega
          rw [if_neg hu2]; simp only [if_neg hu]
          simp
      · simp only [hl, hr, if_true, and_false, if_false]
        have h9 : ¬ (1 + max 0 r.wd = 0) := by omega
        have h8 : ¬ (r.wd ≤ 0) := by omega
        rw [if_neg h9, if_neg h8]
        have e : bst b (k + (l.its + 1 + r.wi)) (d + ((1 + max 0 r.wd : Nat) : Int) - 1) = bst b (k + l.its + 1 + r.wi) (d + 1 + (r.wd : Int) - 1) := by
          congr 1 <;> omega
        rw [e]
        split
        · rw [bst_less (by omega)]
        · rfl
    · simp only [hl, if_false, false_and]
      rw [if_neg (show ¬ (1 + max l.wd r.wd = 0) by omega)]
      have hb : (if 2 ≤ (l.ht : Int) - r.ht ∨ (l.ht : Int) - r.ht ≤ -2 then bst (bst b (k + l.wi) (d + 1 + (l.wd : Int) - 1)) (k + l.its) d else bst b (k + l.wi) (d + 1 + (l.wd : Int) - 1)) = bst b (k + l.wi) (d + 1 + (l.wd : Int) - 1) := by
        split
        · rw [bst_keep (by omega)]
        · rfl
      rw [hb]
      by_cases hr : r.wd = 0
      · rw [if_pos hr, hr, if_pos (by omega)]
        congr 1; omega
      · rw [if_neg hr]
        by_cases hlr : r.wd ≤ l.wd
        · rw [if_pos hlr, bst_keep (by omega)]
          congr 1; omega
        · rw [if_neg hlr, bst_less (by omega)]
          congr 1 <;> omega

/-- A stretch A ++ .. ++ B whose middle is a subtree with its root at level e. -/
def Fit (A B : List It) (e : Int) : Prop := (∀ a, A.getLast? = some a → a.lv < e) ∧ (∀ b, B.head? = some b → b.lv < e)
theorem Fit.right {A B : List It} {e d : Int} {p : Pc} {X : List It} (h : Fit A B e) (hd : d < e) : Fit A (B ++ ⟨p, d⟩ :: X) e := by
  refine ⟨h.1, fun b hb => ?_⟩
  cases B with
  | nil => simp at hb; subst hb; exact hd
  | cons y ys => exact h.2 b (by simpa using hb)
theorem Fit.left {A B : List It} {e d : Int} {p : Pc} {X : List It} (h : Fit A B e) (hd : d < e) : Fit (X ++ ⟨p, d⟩ :: A) B e := by
  refine ⟨fun a ha => ?_, h.2⟩
  cases hA : A.getLast? with
  | none =>
    have : A = [] := by simpa using hA
    subst this
    simp at ha; subst ha; exact hd
  | some y =>
    have : (X ++ ⟨p, d⟩ :: A).getLast? = some y := by
      have hne : A ≠ [] := by intro e; subst e; simp at hA
      rw [List.getLast?_append, List.getLast?_cons_of_ne_nil hne, hA]; rfl
    rw [this] at ha
    exact h.1 a (by rw [hA]; exact ha)

/-- The subtree of an item. -/
theorem at_idx : ∀ (T : AT) (d : Int) (k : Nat), k < T.its → ∃ A l p r B e, T.told d = A ++ (node l p r).told e ++ B ∧ A.length + l.its = k ∧ (T.dif d)[k]? = some (e, (l.ht : Int) - r.ht) ∧ d ≤ e ∧ Fit A B e
  | nil, d, k, h => by simp [its] at h
  | node l p r, d, k, h => by
    simp only [its] at h
    rcases Nat.lt_trichotomy k l.its with hk | hk | hk
    · obtain ⟨A, l', p', r', B, e, h1, h2, h3, h4, h5⟩ := at_idx l (d + 1) k hk
      refine ⟨A, l', p', r', B ++ ⟨p, d⟩ :: r.told (d + 1), e, by simp only [told] at h1 ⊢; rw [h1]; simp, h2, ?_, by omega, h5.right (by omega)⟩
      simp only [dif]
      rw [List.getElem?_append_left (by rw [dif_length]; exact hk)]; exact h3
    · subst hk
      refine ⟨[], l, p, r, [], d, by simp, by simp, ?_, Int.le_refl _, ⟨by simp, by simp⟩⟩
      simp only [dif]
      rw [List.getElem?_append_right (by rw [dif_length]; omega), dif_length]
      simp
    · obtain ⟨A, l', p', r', B, e, h1, h2, h3, h4, h5⟩ := at_idx r (d + 1) (k - l.its - 1) (by omega)
      refine ⟨l.told (d + 1) ++ ⟨p, d⟩ :: A, l', p', r', B, e, by simp only [told] at h1 ⊢; rw [h1]; simp, ?_, ?_, by omega, h5.left (by omega)⟩
      · simp [told_length]; omega
      · simp only [dif]
        rw [List.getElem?_append_right (by rw [dif_length]; omega), dif_length]
        have e1 : k - l.its = (k - l.its - 1) + 1 := by omega
        rw [e1, List.getElem?_cons_succ]; exact h3

/-- The step at the deepest one. -/
theorem step_at : ∀ (T : AT) (d : Int), T.wd ≠ 0 → ∃ A l p r B e, T.told d = A ++ (node l p r).told e ++ B ∧ A.length + l.its = T.wi ∧ l.bal ∧ r.bal ∧ (l.ht + 2 ≤ r.ht ∨ r.ht + 2 ≤ l.ht) ∧ T.step.told d = A ++ (rot l p r).told e ++ B ∧ d ≤ e ∧ Fit A B e
  | nil, d, h => by simp [wd] at h
  | node l p r, d, h => by
    simp only [wd] at h
    simp only [wi, step]
    by_cases h0 : l.wd = 0 ∧ r.wd = 0
    · rw [if_pos h0] at h
      rw [if_pos h0, if_pos h0]
      refine ⟨[], l, p, r, [], d, by simp, by simp, (wd_bal l).1 h0.1, (wd_bal r).1 h0.2, ?_, by simp, Int.le_refl _, ⟨by simp, by simp⟩⟩
      split at h
      · assumption
      · exact absurd rfl h
    · rw [if_neg h0, if_neg h0]
      by_cases hlr : r.wd ≤ l.wd
      · rw [if_pos hlr, if_pos hlr]
        obtain ⟨A, l', p', r', B, e, h1, h2, b1, b2, h3, h4, h5, h6⟩ := step_at l (d + 1) (by omega)
        refine ⟨A, l', p', r', B ++ ⟨p, d⟩ :: r.told (d + 1), e, by simp only [told] at h1 ⊢; rw [h1]; simp, h2, b1, b2, h3, ?_, by omega, h6.right (by omega)⟩
        rw [told, h4]; simp
      · rw [if_neg hlr, if_neg hlr]
        obtain ⟨A, l', p', r', B, e, h1, h2, b1, b2, h3, h4, h5, h6⟩ := step_at r (d + 1) (by omega)
        refine ⟨l.told (d + 1) ++ ⟨p, d⟩ :: A, l', p', r', B, e, by simp only [told] at h1 ⊢; rw [h1]; simp, by simp [told_length]; omega, b1, b2, h3, ?_, by omega, h6.left (by omega)⟩
        rw [told, h4]; simp

/-- T becomes U in n steps. -/
inductive Fx : AT → Nat → AT → Prop
  | stop {T : AT} : T.wd = 0 → Fx T 0 T
  | go {T U : AT} {n : Nat} : T.wd ≠ 0 → Fx T.step n U → Fx T (n + 1) U
theorem Fx.bal {T U : AT} {n : Nat} (h : Fx T n U) : U.bal := by
  induction h with
  | stop h => exact (wd_bal _).1 h
  | go _ _ ih => exact ih

theorem rep_rot {l r : AT} {p : Pc} (h : l.ht + 2 ≤ r.ht ∨ r.ht + 2 ≤ l.ht) (h1 : l.ht ≤ r.ht + 2) (h2 : r.ht ≤ l.ht + 2) : rot l p r = rep l p r := by
  unfold rot rep
  rcases h with h | h
  · have g1 : ¬ r.ht < l.ht := by omega
    have g2 : ¬ ((l.ht : Int) - r.ht = 2) := by omega
    have g3 : (l.ht : Int) - r.ht = -2 := by omega
    rw [if_neg g1, if_neg g2, if_pos g3]
  · have g1 : r.ht < l.ht := by omega
    have g2 : (l.ht : Int) - r.ht = 2 := by omega
    rw [if_pos g1, if_pos g2]
theorem rep_same {l r : AT} {p : Pc} (h : ¬ (l.ht + 2 ≤ r.ht ∨ r.ht + 2 ≤ l.ht)) : rep l p r = node l p r := by
  unfold rep
  have g2 : ¬ ((l.ht : Int) - r.ht = 2) := by omega
  have g3 : ¬ ((l.ht : Int) - r.ht = -2) := by omega
  rw [if_neg g2, if_neg g3]

/-- Both sides are in balance. -/
theorem Fx.root {l r : AT} {p : Pc} (hl : l.bal) (hr : r.bal) (h1 : l.ht ≤ r.ht + 2) (h2 : r.ht ≤ l.ht + 2) : ∃ n, n ≤ 1 ∧ Fx (node l p r) n (rep l p r) := by
  have el := (wd_bal l).2 hl
  have er := (wd_bal r).2 hr
  by_cases h : l.ht + 2 ≤ r.ht ∨ r.ht + 2 ≤ l.ht
  · refine ⟨1, Nat.le_refl _, Fx.go ?_ ?_⟩
    · simp only [wd, el, er]; simp [h]
    · have e : (node l p r).step = rep l p r := by simp only [step, el, er]; simp [rep_rot h h1 h2]
      rw [e]
      exact Fx.stop ((wd_bal _).2 (rep_bal l p r hl hr h1 h2).1)
  · refine ⟨0, Nat.zero_le _, ?_⟩
    rw [rep_same h]
    exact Fx.stop (by simp only [wd, el, er]; simp [h])
theorem Fx.left {l l' r : AT} {p : Pc} {n : Nat} (h : Fx l n l') (hr : r.bal) (h1 : l'.ht ≤ r.ht + 2) (h2 : r.ht ≤ l'.ht + 2) : ∃ m, m ≤ n + 1 ∧ Fx (node l p r) m (rep l' p r) := by
  have er := (wd_bal r).2 hr
  induction h with
  | stop h0 => exact Fx.root ((wd_bal _).1 h0) hr h1 h2
  | @go T U n h0 _ ih =>
    obtain ⟨m, hm, hf⟩ := ih h1 h2
    refine ⟨m + 1, by omega, Fx.go ?_ ?_⟩
    · simp only [wd]; rw [if_neg (by omega)]; omega
    · have e : (node T p r).step = node T.step p r := by simp only [step]; rw [if_neg (by omega), if_pos (by omega)]
      rw [e]; exact hf
theorem Fx.right {l r r' : AT} {p : Pc} {n : Nat} (h : Fx r n r') (hl : l.bal) (h1 : l.ht ≤ r'.ht + 2) (h2 : r'.ht ≤ l.ht + 2) : ∃ m, m ≤ n + 1 ∧ Fx (node l p r) m (rep l p r') := by
  have el := (wd_bal l).2 hl
  induction h with
  | stop h0 => exact Fx.root hl ((wd_bal _).1 h0) h1 h2
  | @go T U n h0 _ ih =>
    obtain ⟨m, hm, hf⟩ := ih h1 h2
    refine ⟨m + 1, by omega, Fx.go ?_ ?_⟩
    · simp only [wd]; rw [if_neg (by omega)]; omega
    · have e : (node l p T).step = node l p T.step := by simp only [step]; rw [if_neg (by omega), if_neg (by omega)]
      rw [e]; exact hf
end AT
end Go.Proofs.YtbgngikejgihgahGreatDoor
