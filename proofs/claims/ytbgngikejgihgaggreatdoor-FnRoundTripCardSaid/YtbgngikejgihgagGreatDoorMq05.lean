import Derived.Test.YtbgngikejgihgagGreatDoorProg
import Derived.Test.YtbgngikejgihgagGreatDoorMq01
import Derived.Test.YtbgngikejgihgagGreatDoorMq04
import Derived.WalkKit
import Derived.WalkLawsBesides
import Derived.Test.YtbgngikejgihgagGreatDoorMq03
import Derived.Deep.QuietTactic
import Derived.BigQuiet
import Derived.Laws.AppendOwnNone
namespace Go.Proofs.YtbgngikejgihgagGreatDoor
open Go Go.RowKit

set_option maxHeartbeats 400000 in
theorem specBreaks (zs : List Int) (v : Value) (w : World) (h : Rd .i32 w v zs) (hn : zs.length ≤ 1099511627776) :
    Calls Tryz.prog 92 #[v] w fun e w' => e = .returned (.int .i64 (brk zs)) ∧ w' = w := by
  rcases h with ⟨ao, cap, rfl, rfl⟩ | ⟨b, off, cap, rfl, hp, hc⟩
  · go_enter Tryz.func92, Tryz.ntmps92
    go_wp2
    refine wp_loop_rounds 1 ?_
    rw [rounds_succ]
    go_wp2
    go_ret
    exact ⟨rfl, rfl⟩
  · have HC := hide hc
    clear hc hp
    go_enter Tryz.func92, Tryz.ntmps92
    go_wp2
    go_loop [3, 8] (fun n i => ∃ k : Nat, k ≤ zs.length ∧ i = .int .i64 k ∧ n = .int .i64 (brk (zs.take k))) (fun _ i => zs.length - (intOf i).toNat)
    case atStart => exact ⟨0, Nat.zero_le _, rfl, rfl⟩
    case round =>
      obtain ⟨k, hk, rfl, rfl⟩ := hrel
      have hbd := brk_bd (zs.take k)
      have hle : (zs.take k).length ≤ k := List.length_take_le _ _
      by_cases hlt : k < zs.length
      · have hx := HC.out k hlt
        have hsn := brk_snoc zs k hlt
        generalize zs.getD k 0 = z at hx hsn
        by_cases hz : z = 10
        · rw [if_pos hz] at hsn
          subst hz
          have HS := hide hsn
          clear hsn
          go_wp2
          go_round
          case rel => exact ⟨k + 1, by omega, by go_num, by rw [HS.out]⟩
          case measure => simp [intOf]; omega
        · rw [if_neg hz] at hsn
          have hz' : (z == 10) = false := by simp [hz]
          have HS := hide hsn
          clear hsn hz
          go_wp2
          go_round
          case rel => exact ⟨k + 1, by omega, by go_num, by rw [HS.out, Int.add_zero]⟩
          case measure => simp [intOf]; omega
      · obtain rfl : k = zs.length := by omega
        go_wp2
        go_ret
        exact ⟨rfl, rfl⟩

set_option maxHeartbeats 400000 in
theorem implBreaks (zs : List Int) (v : Value) (w : World) (h : Rd .i32 w v zs) (hn : zs.length ≤ 1099511627776) :
    Calls Tryz.prog 214 #[v] w fun e w' => e = .returned (.int .i64 (brk zs)) ∧ w' = w := by
  rcases h with ⟨ao, cap, rfl, rfl⟩ | ⟨b, off, cap, rfl, hp, hc⟩
  · go_enter Tryz.func214, Tryz.ntmps214
    go_wp2
    refine wp_loop_rounds 1 ?_
    rw [rounds_succ]
    go_wp2
    go_ret
    exact ⟨rfl, rfl⟩
  · have HC := hide hc
    clear hc hp
    go_enter Tryz.func214, Tryz.ntmps214
    go_wp2
    go_loop [3, 8] (fun n i => ∃ k : Nat, k ≤ zs.length ∧ i = .int .i64 k ∧ n = .int .i64 (brk (zs.take k))) (fun _ i => zs.length - (intOf i).toNat)
    case atStart => exact ⟨0, Nat.zero_le _, rfl, rfl⟩
    case round =>
      obtain ⟨k, hk, rfl, rfl⟩ := hrel
      have hbd := brk_bd (zs.take k)
      have hle : (zs.take k).length ≤ k := List.length_take_le _ _
      by_cases hlt : k < zs.length
      · have hx := HC.out k hlt
        have hsn := brk_snoc zs k hlt
        generalize zs.getD k 0 = z at hx hsn
        by_cases hz : z = 10
        · rw [if_pos hz] at hsn
          subst hz
          have HS := hide hsn
          clear hsn
          go_wp2
          go_round
          case rel => exact ⟨k + 1, by omega, by go_num, by rw [HS.out]⟩
          case measure => simp [intOf]; omega
        · rw [if_neg hz] at hsn
          have hz' : (z == 10) = false := by simp [hz]
          have HS := hide hsn
          clear hsn hz
          go_wp2
          go_round
          case rel => exact ⟨k + 1, by omega, by go_num, by rw [HS.out, Int.add_zero]⟩
          case measure => simp [intOf]; omega
      · obtain rfl : k = zs.length := by omega
        go_wp2
        go_ret
        exact ⟨rfl, rfl⟩

end Go.Proofs.YtbgngikejgihgagGreatDoor

namespace Go.Proofs.YtbgngikejgihgagGreatDoor
open Go Go.RowKit
set_option linter.unusedVariables false

theorem below_dn2 (B : Nat) (w : World) (n : Nat) : Below B w (w.drewN n) := by
  induction n generalizing w with
  | zero => exact Below.refl _ _
  | succ n ih => exact ⟨(ih w.drew).os, (ih w.drew).tape, (ih w.drew).output, (ih w.drew).size, (ih w.drew).block⟩
theorem told_pcs : ∀ (T : AT) (d : Int), (T.told d).map It.pc = T.flat
  | .nil, _ => rfl
  | .node l p r, d => by simp only [AT.told, List.map_append, List.map_cons, AT.flat, told_pcs l, told_pcs r]
/-- A stretch of a row. -/
theorem rd_cut {w : World} {b o cap : Nat} {zs : List Int} (hc : ∀ i, i < zs.length → w.cell? ⟨b, o + i, none⟩ = some (.int .i32 (zs.getD i 0))) (k l : Nat) (hkl : k + l ≤ zs.length) (h0 : 0 < l) (hcap : zs.length ≤ cap) (hm : cap ≤ maxLen) :
    Rd .i32 w (.slice (some ⟨b, o + k, none⟩) l (cap - k)) ((zs.drop k).take l) := by
  have hl : ((zs.drop k).take l).length = l := by rw [List.length_take, List.length_drop]; omega
  refine .inr ⟨b, o + k, cap - k, by rw [hl], ⟨by omega, by omega, by omega⟩, fun i hi => ?_⟩
  rw [hl] at hi
  rw [show o + k + i = o + (k + i) by omega, hc (k + i) (by omega)]
  congr 2
  simp only [List.getD_eq_getElem?_getD, List.getElem?_take, List.getElem?_drop]
  rw [if_pos hi]

/-- slices.Clip: no room behind the end. -/
theorem clip32N (ao : Option Addr) (n cap : Nat) (w : World) (hn : n ≤ cap) (hm : cap ≤ maxLen) :
    Calls Tryz.prog 136 #[.slice ao n cap] w fun e w' => e = .returned (.slice ao n n) ∧ w' = w := by
  have g1 : (n : Int) ≤ (cap : Int) := by omega
  go_enter Tryz.func136, Tryz.ntmps136
  go_wp2
  go_ret
  exact ⟨rfl, rfl⟩

set_option maxHeartbeats 1000000 in
set_option maxRecDepth 100000 in
theorem measureN (zs : List Int) (c b o cap k l : Nat) (w : World) (hc : ∀ i, i < zs.length → w.cell? ⟨b, o + i, none⟩ = some (.int .i32 (zs.getD i 0))) (hs : w.cell? ⟨c, 0, none⟩ = some (.slice (some ⟨b, o, none⟩) zs.length cap)) (hb : b < w.heap.size) (hcw : c < w.heap.size) (hkl : k + l ≤ zs.length) (h0 : 0 < l) (hcap : zs.length ≤ cap) (hm : cap ≤ maxLen) (hn : zs.length ≤ 1048576) :
    Calls Tryz.prog 180 #[.pointer (some ⟨c, 0, none⟩), .int .i64 (k : Int), .int .i64 (l : Int)] w fun e w' => e = .returned (.agg #[.int .i64 (k : Int), .int .i64 (l : Int), .int .i64 (brk ((zs.drop k).take l))]) ∧ Below w.heap.size w w' := by
  have B0 := hide ((Below.refl w.heap.size w).alloc (Nat.le_refl _) (.cells #[.int .i64 0, .int .i64 0, .int .i64 0] 143))
  have HB := hide (implBreaks ((zs.drop k).take l) _ (w.alloc (.cells #[.int .i64 0, .int .i64 0, .int .i64 0] 143)) (rd_cut (fun i hi => (B0.out.cell (p := ⟨b, o + i, none⟩) hb).trans (hc i hi)) k l hkl h0 hcap hm) (by rw [List.length_take, List.length_drop]; omega))
  have hs0 := (B0.out.cell (p := ⟨c, 0, none⟩) hcw).trans hs
  have K0 : (w.alloc (.cells #[.int .i64 0, .int .i64 0, .int .i64 0] 143)).heap[w.heap.size]? = some (.cells #[.int .i64 0, .int .i64 0, .int .i64 0] 143 (0, 0)) := heap_alloc_new _ _
  have HK := hide K0
  generalize brk ((zs.drop k).take l) = br at *
  generalize zs.length = n at *
  unfold maxLen at hm
  have g1 : (k : Int) ≤ (k : Int) + (l : Int) := by omega
  have g2 : (k : Int) + (l : Int) ≤ (cap : Int) := by omega
  have g4 : (0 : Int) ≤ (k : Int) + (l : Int) := by omega
  have g3 : ¬ cap = k := by omega
  clear hc K0
  go_enter Tryz.func180, Tryz.ntmps180
  go_wp2_with fail
  generalize w.alloc (.cells #[.int .i64 0, .int .i64 0, .int .i64 0] 143) = w0 at *
  refine HB.out.mono ?_
  rintro e w1 ⟨rfl, hw1⟩
  have hw2 := hw1.symm
  subst hw2
  have c0 : w0.cell? ⟨w.heap.size, 0, none⟩ = some (.int .i64 0) := by rw [cell_of_row w0 _ 0 _ _ _ HK.out]; rfl
  have c1 : w0.cell? ⟨w.heap.size, 1, none⟩ = some (.int .i64 0) := by rw [cell_of_row w0 _ 1 _ _ _ HK.out]; rfl
  have c2 : w0.cell? ⟨w.heap.size, 2, none⟩ = some (.int .i64 0) := by rw [cell_of_row w0 _ 2 _ _ _ HK.out]; rfl
  have f0 := frozen_of_row w0 w.heap.size 0 _ _ HK.out
  have f1 := frozen_of_row w0 w.heap.size 1 _ _ HK.out
  have f2 := frozen_of_row w0 w.heap.size 2 _ _ HK.out
  go_wp2
  refine bodyPost_ret (v := .agg #[.int .i64 (k : Int), .int .i64 (l : Int), .int .i64 br]) (by simp [results, Tryz.results180, go_sem, c0, c1, c2]) rfl ⟨rfl, ?_⟩
  exact ((B0.out.setCell (by simp) _).setCell (by simp) _).setCell (by simp) _
end Go.Proofs.YtbgngikejgihgagGreatDoor

namespace Go.Proofs.YtbgngikejgihgagGreatDoor
open Go Go.RowKit
set_option linter.unusedVariables false

/-- How many breaks, as a natural number. -/
def bkn (zs : List Int) : Nat := (zs.filter fun z => z == 10).length
theorem brk_bkn (zs : List Int) : brk zs = (bkn zs : Nat) := rfl
theorem bkn_append (a b : List Int) : bkn (a ++ b) = bkn a + bkn b := by simp [bkn]
theorem brk_append (a b : List Int) : brk (a ++ b) = brk a + brk b := by
  rw [brk_bkn, brk_bkn, brk_bkn, bkn_append]; omega
theorem bkn_cons (z : Int) (zs : List Int) : bkn (z :: zs) = (if z = 10 then 1 else 0) + bkn zs := by
  by_cases h : z = 10
  · simp [bkn, h]; omega
  · simp [bkn, h]
theorem bkn_le (zs : List Int) : bkn zs ≤ zs.length := List.length_filter_le _ _
theorem bkn_take (zs : List Int) (k : Nat) : bkn (zs.take k) ≤ bkn zs := by
  have := bkn_append (zs.take k) (zs.drop k)
  rw [List.take_append_drop] at this
  omega

/-- How many stand up to break number n and with it. -/
def bb : List Int → Nat → Nat
  | [], _ => 0
  | z :: zs, n => if z = 10 then (if n = 0 then 1 else 1 + bb zs (n - 1)) else 1 + bb zs n

theorem bb_left : ∀ (a b : List Int) (n : Nat), n < bkn a → bb (a ++ b) n = bb a n
  | [], b, n, h => by simp [bkn] at h
  | z :: a, b, n, h => by
    rw [bkn_cons] at h
    simp only [List.cons_append, bb]
    by_cases hz : z = 10
    · simp only [if_pos hz] at h ⊢
      by_cases hn : n = 0
      · rw [if_pos hn, if_pos hn]
      · rw [if_neg hn, if_neg hn, bb_left a b (n - 1) (by omega)]
    · simp only [if_neg hz] at h ⊢
      rw [bb_left a b n (by omega)]
theorem bb_right : ∀ (a b : List Int) (n : Nat), bkn a ≤ n → n < bkn a + bkn b → bb (a ++ b) n = a.length + bb b (n - bkn a)
  | [], b, n, h, _ => by simp [bkn]
  | z :: a, b, n, h, h2 => by
    rw [bkn_cons] at h h2 ⊢
    simp only [List.cons_append, bb]
    by_cases hz : z = 10
    · simp only [if_pos hz] at h h2 ⊢
      rw [if_neg (by omega), bb_right a b (n - 1) (by omega) (by omega)]
      rw [show n - 1 - bkn a = n - (1 + bkn a) by omega]
      simp; omega
    · simp only [if_neg hz] at h h2 ⊢
      rw [bb_right a b n (by omega) (by omega)]
      rw [show n - (0 + bkn a) = n - bkn a by omega]
      simp; omega
theorem bb_key : ∀ (zs : List Int) (k n : Nat), n < bkn zs → (bkn (zs.take k) ≤ n ↔ k < bb zs n)
  | [], k, n, h => by simp [bkn] at h
  | z :: zs, 0, n, h => by
    simp only [List.take_zero, bb]
    refine ⟨fun _ => ?_, fun _ => by simp [bkn]⟩
    split
    · split <;> omega
    · omega
  | z :: zs, k + 1, n, h => by
    rw [bkn_cons] at h
    rw [List.take_succ_cons, bkn_cons]
    simp only [bb]
    by_cases hz : z = 10
    · simp only [if_pos hz] at h ⊢
      by_cases hn : n = 0
      · rw [if_pos hn]; omega
      · rw [if_neg hn]
        have := bb_key zs k (n - 1) (by omega)
        omega
    · simp only [if_neg hz] at h ⊢
      have := bb_key zs k n (by omega)
      omega
theorem bb_le : ∀ (zs : List Int) (n : Nat), bb zs n ≤ zs.length
  | [], _ => by simp [bb]
  | z :: zs, n => by
    have := bb_le zs n
    have := bb_le zs (n - 1)
    simp only [bb, List.length_cons]
    split
    · split <;> omega
    · omega

/-- Where a line starts. -/
def ls (zs : List Int) (l : Nat) : Nat := if l = 0 then 0 else bb zs (l - 1)
theorem ls_le (zs : List Int) (l : Nat) : ls zs l ≤ zs.length := by
  unfold ls; split
  · omega
  · exact bb_le _ _
theorem ls_low (zs : List Int) (k : Nat) (hk : k ≤ zs.length) : ls zs (bkn (zs.take k)) ≤ k := by
  unfold ls
  split
  · omega
  · rename_i h
    have h2 := bkn_take zs k
    have := bb_key zs k (bkn (zs.take k) - 1) (by omega)
    omega
theorem bkn_take_succ (zs : List Int) (k : Nat) (h : k < zs.length) : bkn (zs.take (k + 1)) = bkn (zs.take k) + if zs.getD k 0 = 10 then 1 else 0 := by
  have := brk_snoc zs k h
  rw [brk_bkn, brk_bkn] at this
  split at this
  · rename_i h1; rw [if_pos h1]; omega
  · rename_i h1; rw [if_neg h1]; omega
theorem ls_step (zs : List Int) (k : Nat) (h : k < zs.length) (hz : zs.getD k 0 = 10) : ls zs (bkn (zs.take (k + 1))) = k + 1 := by
  have e := bkn_take_succ zs k h
  rw [if_pos hz] at e
  have h2 := bkn_take zs (k + 1)
  have hl := ls_low zs (k + 1) (by omega)
  rw [e] at hl ⊢
  have := bb_key zs k (bkn (zs.take k)) (by omega)
  unfold ls at hl ⊢
  rw [if_neg (by omega)] at hl ⊢
  rw [Nat.add_sub_cancel] at hl ⊢
  omega

/-- Where a line ends. -/
def le (zs : List Int) (l : Nat) : Nat := if l < bkn zs then bb zs l - 1 else zs.length

/-- At most one place has a line and a column. -/
theorem lc_there (zs : List Int) (l c : Nat) (hl : l ≤ bkn zs) (hc : ls zs l + c ≤ le zs l) : ls zs l + c ≤ zs.length ∧ bkn (zs.take (ls zs l + c)) = l := by
  have hlen : ls zs l + c ≤ zs.length := by
    unfold le at hc
    split at hc
    · have := bb_le zs l; omega
    · exact hc
  refine ⟨hlen, Nat.le_antisymm ?_ ?_⟩
  · unfold le at hc
    split at hc
    · rename_i h
      refine (bb_key zs _ l h).2 ?_
      have : 0 < bb zs l := ((bb_key zs 0 l h).1 (by simp [bkn]))
      omega
    · have := bkn_take zs (ls zs l + c); omega
  · by_cases h0 : l = 0
    · omega
    · have := bb_key zs (ls zs l + c) (l - 1) (by omega)
      have e : ls zs l = bb zs (l - 1) := by unfold ls; rw [if_neg h0]
      omega
theorem lc_only (zs : List Int) (k : Nat) (hk : k ≤ zs.length) : k ≤ le zs (bkn (zs.take k)) := by
  unfold le
  split
  · rename_i h
    have := (bb_key zs k _ h).1 (Nat.le_refl _)
    omega
  · exact hk

/-- The text of a piece. -/
def ptx (S : List Int) (p : Pc) : List Int := (S.drop p.off.toNat).take p.len.toNat
def txt (S : List Int) : List It → List Int
  | [] => []
  | x :: xs => ptx S x.pc ++ txt S xs
theorem txt_append (S : List Int) (a b : List It) : txt S (a ++ b) = txt S a ++ txt S b := by
  induction a with
  | nil => rfl
  | cons x a ih => simp [txt, ih]
/-- A piece of the store. -/
def WP (S : List Int) (p : Pc) : Prop := 0 ≤ p.off ∧ 0 ≤ p.len ∧ p.off + p.len ≤ S.length ∧ p.brk = brk (ptx S p)
theorem WP.nil (S : List Int) : WP S ⟨0, 0, 0⟩ := ⟨by simp, by simp, by simp, by simp [ptx, brk]⟩
theorem ptx_len {S : List Int} {p : Pc} (h : WP S p) : ((ptx S p).length : Int) = p.len := by
  obtain ⟨h1, h2, h3, _⟩ := h
  simp only [ptx, List.length_take, List.length_drop]
  omega
theorem txt_len {S : List Int} : ∀ {xs : List It}, (∀ x ∈ xs, WP S x.pc) → ((txt S xs).length : Int) = total xs
  | [], _ => rfl
  | x :: xs, h => by
    have h1 := ptx_len (h x (by simp))
    have h2 := txt_len (S := S) (xs := xs) (fun y hy => h y (by simp [hy]))
    simp only [txt, total, List.length_append]
    omega
theorem txt_brk {S : List Int} : ∀ {xs : List It}, (∀ x ∈ xs, WP S x.pc) → brk (txt S xs) = brks xs
  | [], _ => rfl
  | x :: xs, h => by
    have h1 := (h x (by simp)).2.2.2
    have h2 := txt_brk (S := S) (xs := xs) (fun y hy => h y (by simp [hy]))
    simp only [txt, brks, brk_append]
    omega
def AT.tx (S : List Int) : AT → List Int
  | .nil => []
  | .node l p r => l.tx S ++ (ptx S p ++ r.tx S)
def AT.wp (S : List Int) : AT → Prop
  | .nil => True
  | .node l p r => l.wp S ∧ WP S p ∧ r.wp S
theorem txt_told (S : List Int) : ∀ (T : AT) (d : Int), txt S (T.told d) = T.tx S
  | .nil, _ => rfl
  | .node l p r, d => by simp only [AT.told, txt_append, txt, AT.tx, txt_told S l, txt_told S r]
theorem wp_told (S : List Int) : ∀ (T : AT) (d : Int), (∀ x ∈ T.told d, WP S x.pc) ↔ T.wp S
  | .nil, _ => by simp [AT.told, AT.wp]
  | .node l p r, d => by
    have h1 := wp_told S l (d + 1)
    have h2 := wp_told S r (d + 1)
    simp only [AT.told, AT.wp, List.mem_append, List.mem_cons]
    constructor
    · intro h
      exact ⟨h1.1 fun x hx => h x (.inl hx), h _ (.inr (.inl rfl)), h2.1 fun x hx => h x (.inr (.inr hx))⟩
    · rintro ⟨a, b, c⟩ x (hx | rfl | hx)
      · exact h1.2 a x hx
      · exact b
      · exact h2.2 c x hx
theorem AT.tx_len {S : List Int} {T : AT} (h : T.wp S) : ((T.tx S).length : Int) = T.rns := by
  rw [← txt_told S T 0, txt_len ((wp_told S T 0).2 h), AT.rns_told]
theorem AT.tx_brk {S : List Int} {T : AT} (h : T.wp S) : brk (T.tx S) = T.bks := by
  rw [← txt_told S T 0, txt_brk ((wp_told S T 0).2 h), AT.bks_told]

/-- The element that a search finds. -/
def seekP (m : Pc → Int) : AT → Int → Pc
  | .nil, _ => ⟨0, 0, 0⟩
  | .node l p r, k =>
    if k < sumM m (l.told 0) then seekP m l k
    else if k - sumM m (l.told 0) < m p then p
    else seekP m r (k - sumM m (l.told 0) - m p)

theorem seek_runes (S : List Int) : ∀ (T : AT) (k : Int), T.wp S → 0 ≤ k → k ≤ T.rns →
    WP S (seekP (fun p => p.len) T k) ∧ 0 ≤ (seekT (fun p => p.len) T k).2.2.2.1 ∧ (seekT (fun p => p.len) T k).2.2.2.1 ≤ (seekP (fun p => p.len) T k).len ∧
    brk ((T.tx S).take k.toNat) = (seekT (fun p => p.len) T k).2.2.1 + brk ((ptx S (seekP (fun p => p.len) T k)).take (seekT (fun p => p.len) T k).2.2.2.1.toNat)
  | .nil, k, _, h0, h1 => by
    simp only [AT.rns] at h1
    obtain rfl : k = 0 := by omega
    exact ⟨WP.nil S, by simp [seekT], by simp [seekT, seekP], by simp [seekT, seekP, AT.tx, brk, ptx]⟩
  | .node l p r, k, hw, h0, h1 => by
    obtain ⟨hl, hp, hr⟩ := hw
    have e0 : sumM (fun p => p.len) (l.told 0) = l.rns := by rw [sumM_len, AT.rns_told]
    have el := AT.tx_len hl
    have ep := ptx_len hp
    have bl := AT.tx_brk hl
    have bp := hp.2.2.2
    have hp2 := hp.2.1
    simp only [AT.rns] at h1
    simp only [seekT, seekP, AT.tx, e0]
    by_cases c1 : k < l.rns
    · simp only [if_pos c1]
      obtain ⟨a, b, c, d⟩ := seek_runes S l k hl h0 (by omega)
      refine ⟨a, b, c, ?_⟩
      rw [List.take_append_of_le_length (by omega), d]
    · simp only [if_neg c1]
      by_cases c2 : k - l.rns < p.len
      · simp only [if_pos c2]
        refine ⟨hp, by omega, by omega, ?_⟩
        rw [List.take_append, List.take_of_length_le (by omega), List.take_append_of_le_length (by omega), brk_append, bl, show k.toNat - (l.tx S).length = (k - l.rns).toNat by omega]
      · simp only [if_neg c2]
        obtain ⟨a, b, c, d⟩ := seek_runes S r (k - l.rns - p.len) hr (by omega) (by omega)
        refine ⟨a, b, c, ?_⟩
        rw [List.take_append, List.take_of_length_le (by omega), List.take_append, List.take_of_length_le (l := ptx S p) (by omega), brk_append, brk_append, bl, ← bp, show k.toNat - (l.tx S).length - (ptx S p).length = (k - l.rns - p.len).toNat by omega, d]
        omega

theorem seek_breaks (S : List Int) : ∀ (T : AT) (j : Int), T.wp S → 0 ≤ j → j < T.bks →
    WP S (seekP (fun p => p.brk) T j) ∧ 0 ≤ (seekT (fun p => p.brk) T j).2.2.2.1 ∧ (seekT (fun p => p.brk) T j).2.2.2.1 < brk (ptx S (seekP (fun p => p.brk) T j)) ∧
    ((bb (T.tx S) j.toNat : Nat) : Int) = (seekT (fun p => p.brk) T j).2.1 + (bb (ptx S (seekP (fun p => p.brk) T j)) (seekT (fun p => p.brk) T j).2.2.2.1.toNat : Nat)
  | .nil, j, _, h0, h1 => by simp only [AT.bks] at h1; omega
  | .node l p r, j, hw, h0, h1 => by
    obtain ⟨hl, hp, hr⟩ := hw
    have e0 : sumM (fun p => p.brk) (l.told 0) = l.bks := by rw [sumM_brk, AT.bks_told]
    have el := AT.tx_len hl
    have ep := ptx_len hp
    have bl := AT.tx_brk hl
    have br := AT.tx_brk hr
    have bp := hp.2.2.2
    rw [brk_bkn] at bl bp br
    simp only [AT.bks] at h1
    simp only [seekT, seekP, AT.tx, e0]
    by_cases c1 : j < l.bks
    · simp only [if_pos c1]
      obtain ⟨a, b, c, d⟩ := seek_breaks S l j hl h0 (by omega)
      refine ⟨a, b, c, ?_⟩
      rw [bb_left _ _ _ (by omega), d]
    · simp only [if_neg c1]
      by_cases c2 : j - l.bks < p.brk
      · simp only [if_pos c2]
        refine ⟨hp, by omega, by rw [brk_bkn]; omega, ?_⟩
        rw [bb_right _ _ _ (by omega) (by rw [bkn_append]; omega), bb_left _ _ _ (by omega), show j.toNat - bkn (l.tx S) = (j - l.bks).toNat by omega]
        omega
      · simp only [if_neg c2]
        obtain ⟨a, b, c, d⟩ := seek_breaks S r (j - l.bks - p.brk) hr (by omega) (by omega)
        refine ⟨a, b, c, ?_⟩
        rw [bb_right _ _ _ (by omega) (by rw [bkn_append]; omega), bb_right _ _ _ (by omega) (by omega), show j.toNat - bkn (l.tx S) - bkn (ptx S p) = (j - l.bks - p.brk).toNat by omega]
        omega
end Go.Proofs.YtbgngikejgihgagGreatDoor

namespace Go.Proofs.YtbgngikejgihgagGreatDoor
open Go Go.RowKit
set_option linter.unusedVariables false

/-- Whether a piece is one of the store. -/
def wpB (zs : List Int) (p : Pc) : Bool := decide (p.off + p.len ≤ zs.length) && decide (p.brk = brk (ptx zs p))
theorem wpB_iff {zs : List Int} {p : Pc} (h : pcOk p = true) : wpB zs p = true ↔ WP zs p := by
  simp only [pcOk, decide_eq_true_eq] at h
  simp only [wpB, Bool.and_eq_true, decide_eq_true_eq, WP]
  constructor
  · rintro ⟨a, b⟩; exact ⟨by omega, by omega, a, b⟩
  · rintro ⟨_, _, a, b⟩; exact ⟨a, b⟩
def wps (zs : List Int) (xs : List It) : Bool := xs.all fun x => wpB zs x.pc
theorem wps_snoc (zs : List Int) (xs : List It) (x : It) : wps zs (xs ++ [x]) = (wps zs xs && wpB zs x.pc) := by simp [wps]
theorem wps_prefix {zs : List Int} {p xs : List It} (h : p <+: xs) (hp : wps zs p = false) : wps zs xs = false := by
  obtain ⟨r, rfl⟩ := h
  simp only [wps, List.all_append, Bool.and_eq_false_iff]
  exact .inl hp
/-- The tree of a valid piece buffer. -/
def pRead (zs : List Int) (xs : List It) : Option AT :=
  match readT xs with
  | none => none
  | some T => if zs.length ≤ 220000 ∧ wps zs xs = true then some T else none
theorem pRead_some {zs : List Int} {xs : List It} {T : AT} (h : pRead zs xs = some T) : readT xs = some T ∧ zs.length ≤ 220000 ∧ T.wp zs ∧ xs = T.told 0 := by
  unfold pRead at h
  cases hr : readT xs with
  | none => rw [hr] at h; cases h
  | some U =>
    rw [hr] at h
    simp only at h
    split at h
    · rename_i hc
      cases h
      obtain ⟨h1, _, h3, _⟩ := readT_some hr
      refine ⟨rfl, hc.1, (wp_told zs T 0).1 fun x hx => ?_, h3⟩
      have hp : pcOk x.pc = true := by
        simp only [okT, Bool.and_eq_true, List.all_eq_true] at h1
        exact h1.1.1.2 x (h3 ▸ hx)
      exact (wpB_iff hp).1 (List.all_eq_true.1 hc.2 x (h3 ▸ hx))
    · cases h
end Go.Proofs.YtbgngikejgihgagGreatDoor

namespace Go.Proofs.YtbgngikejgihgagGreatDoor
open Go Go.RowKit
set_option linter.unusedVariables false

/-- A row of runes that lies in a block. -/
def At32 (w : World) (b o : Nat) (zs : List Int) : Prop := ∀ i, i < zs.length → w.cell? ⟨b, o + i, none⟩ = some (.int .i32 (zs.getD i 0))
theorem At32.below {B : Nat} {w w' : World} {b o : Nat} {zs : List Int} (h : At32 w b o zs) (hb : Below B w w') (hB : b < B) : At32 w' b o zs := fun i hi => (hb.cell (p := ⟨b, o + i, none⟩) hB).trans (h i hi)
theorem At32.heap {w w' : World} {b o : Nat} {zs : List Int} (h : At32 w b o zs) (hb : w'.heap = w.heap) : At32 w' b o zs := fun i hi => by rw [World.cell?_of_block (w := w) (by rw [hb])]; exact h i hi
end Go.Proofs.YtbgngikejgihgagGreatDoor

namespace Go.Proofs.YtbgngikejgihgagGreatDoor
open Go Go.RowKit
set_option linter.unusedVariables false

def own32 (w : World) (base : Nat) (v : Value) (zs : List Int) : Prop := w.ownsRow base 21 1 v zs.length (ints .i32 zs)
theorem Tryz.info32T : (Tryz.prog.info? 21).map (fun i => (i.zero, i.size, i.bytes)) = some (some (.int .i32 0), 1, 4) := by kernel_rfl
theorem own32_new (w : World) : own32 (w.alloc (.cells #[] 21)) w.heap.size (.slice (some ⟨w.heap.size, 0, none⟩) 0 0) [] := by
  have := World.ownsRow_made (base := w.heap.size) (e := 21) (size := 1) w #[] 0 (by simp) (Nat.zero_le _) rfl
  simpa [own32, ints] using this
theorem own32_app {W : World} {base : Nat} {v : Value} {E F : List Int} {n m : Nat} (hn : E.length = n) (hm : F.length = m) (h : W.ownsRow base 21 1 v (n + m) (ints .i32 E ++ ints .i32 F)) : own32 W base v (E ++ F) := by
  unfold own32
  rw [List.length_append, hn, hm, ints_append]
  exact h
theorem own32_val {w : World} {base : Nat} {v : Value} {zs : List Int} (h : own32 w base v zs) : ∃ ao cap, v = .slice ao zs.length cap := by
  rcases h.2 with ⟨rfl, h0⟩ | ⟨g, cap, cur, rfl, _⟩
  · exact ⟨none, 0, by rw [h0]⟩
  · exact ⟨_, _, rfl⟩
theorem At32.app {w : World} {b o : Nat} {zs : List Int} (h : At32 w b o zs) (p l : Nat) (hp : p + l ≤ zs.length) : ∀ j u, (ints .i32 ((zs.drop p).take l))[j]? = some u → w.cell? ((⟨b, o + p, none⟩ : Addr).add j) = some u := by
  intro j u hj
  have hjl : j < l := by
    rcases Nat.lt_or_ge j l with q | q
    · exact q
    · rw [List.getElem?_eq_none (by simp [ints]; omega)] at hj; cases hj
  have e : ((zs.drop p).take l)[j]? = some (zs.getD (p + j) 0) := by
    rw [List.getElem?_take, if_pos hjl, List.getElem?_drop]
    simp [List.getD_eq_getElem?_getD, List.getElem?_eq_getElem (show p + j < zs.length by omega)]
  simp only [ints, List.getElem?_map, e, Option.map_some, Option.some.injEq] at hj
  subst hj
  have h9 := h (p + j) (by omega)
  rw [← Nat.add_assoc] at h9
  rw [addr_add]
  exact h9

theorem own32_at {w : World} {base g cap : Nat} {zs : List Int} (h : own32 w base (.slice (some ⟨g, 0, none⟩) zs.length cap) zs) : At32 w g 0 zs := by
  intro i hi
  have := h.cellAt i (by omega)
  rw [Nat.zero_add, this]
  simp [ints, List.getElem?_eq_getElem hi]
theorem own32_lt {w : World} {base g cap : Nat} {zs : List Int} (h : own32 w base (.slice (some ⟨g, 0, none⟩) zs.length cap) zs) : g < w.heap.size := (h.lt g rfl).2
end Go.Proofs.YtbgngikejgihgagGreatDoor
