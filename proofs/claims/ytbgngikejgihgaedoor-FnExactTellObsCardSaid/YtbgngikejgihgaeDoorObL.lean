import Derived.Test.YtbgngikejgihgaeDoorObN
import Derived.Test.YtbgngikejgihgaeDoorTo32
import Derived.Test.YtbgngikejgihgaeDoorMkH
namespace Go.Proofs.YtbgngikejgihgaeDoor
open Go Go.RowKit
set_option linter.unusedVariables false

set_option maxHeartbeats 1000000 in
theorem sz32L (ao : Option Addr) (len cap : Nat) (k : Int) (w : World) (hn : len ≤ maxLen) (hk : 0 ≤ k ∧ k ≤ 1048576) :
    Calls Tryd.prog 34 #[.slice ao len cap, .int .i64 k] w fun e w' => e = .returned (.int .i64 (if k - len < 0 then -1 else k - len)) ∧ w' = w := by
  unfold maxLen at hn
  by_cases h : k - (len : Int) < 0
  · rw [if_pos h]
    go_enter Tryd.func34, Tryd.ntmps34
    go_wp2
    go_ret
    exact ⟨rfl, rfl⟩
  · rw [if_neg h]
    go_enter Tryd.func34, Tryd.ntmps34
    go_wp2
    go_ret
    exact ⟨rfl, rfl⟩

/-- A block of known cells. -/
def DX (w : World) (b : Nat) (vs : List Value) (t : TypeId) : Prop := w.heap[b]? = some (.cells vs.toArray t (0, 0))
section
variable {w w' : World} {b i : Nat} {vs : List Value} {v : Value} {t : TypeId}
theorem DX.lt (h : DX w b vs t) : b < w.heap.size := (Array.getElem?_eq_some_iff.1 h).1
theorem DX.cell (h : DX w b vs t) (hi : vs[i]? = some v) : w.cell? ⟨b, i, none⟩ = some v := by
  rw [cell_of_row w b i _ _ _ h]; simpa using hi
theorem DX.fz (h : DX w b vs t) (i : Nat) : w.frozen? ⟨b, i, none⟩ = false := frozen_of_row w b i _ _ h
theorem DX.below (h : DX w b vs t) (hb : Below w.heap.size w w') : DX w' b vs t := (hb.block b h.lt).trans h
theorem DX.set (h : DX w b vs t) (i : Nat) (v : Value) : DX (w.setCell ⟨b, i, none⟩ v) b (vs.set i v) t := by
  unfold DX
  rw [heap_setCell_same w b i _ _ _ h]
  simp
theorem DX.other {p : Addr} {u : Value} (h : DX w b vs t) (hne : b ≠ p.block) : DX (w.setCell p u) b vs t := (heap_setCell_other _ _ _ _ hne).trans h
theorem DX.new (w : World) (vs : List Value) (t : TypeId) : DX (w.alloc (.cells vs.toArray t)) w.heap.size vs t := heap_alloc_new _ _
theorem DX.old (h : DX w b vs t) (o : Obj) : DX (w.alloc o) b vs t := alloc_old h
end
abbrev ObKl (x : Ob) (vt vm : Value) : Obj := .cells #[.int .i64 x.c, .int .i64 x.x, .int .i64 x.y, vt, vm, .int .i64 x.l, .int .i64 x.n, .int .i64 x.u, .int .i64 x.r, .int .i64 x.o] 86

set_option maxHeartbeats 2000000 in
theorem szObL (x : Ob) (ta ma : Option Addr) (tc mc : Nat) (l : Int) (w : World) (h1 : x.t.length ≤ maxLen) (h2 : x.m.length ≤ maxLen) (hl : 0 ≤ l ∧ l ≤ 1048576) :
    Calls Tryd.prog 45 #[.agg #[.int .i64 x.c, .int .i64 x.x, .int .i64 x.y, .slice ta x.t.length tc, .slice ma x.m.length mc, .int .i64 x.l, .int .i64 x.n, .int .i64 x.u, .int .i64 x.r, .int .i64 x.o], .int .i64 l] w fun e w' => e = .returned (.int .i64 (if l - (szO x : Nat) < 0 then -1 else l - (szO x : Nat))) ∧ Below w.heap.size w w' := by
  have B0 := hide ((Below.refl w.heap.size w).alloc (Nat.le_refl _) (ObKl x (.slice ta x.t.length tc) (.slice ma x.m.length mc)))
  have S1 := hide (fun W => sz32L ta x.t.length tc l W h1 hl)
  have S2 := hide (fun k W (hk : 0 ≤ k ∧ k ≤ 1048576) => szMarksL ma x.m.length mc k W h2 hk)
  unfold szO
  generalize x.t.length = tn at *
  generalize x.m.length = mn at *
  obtain ⟨xc, xx, xy, xt, xm, xl, xn, xu, xr, xo⟩ := x
  simp only at *
  unfold ObKl at *
  by_cases ha : l - (tn : Int) < 0
  · simp only [if_pos ha] at S1
    rw [if_pos (by omega)]
    go_enter Tryd.func45, Tryd.ntmps45
    go_wp2_with fail
    refine (S1.out _).mono ?_
    rintro e w1 ⟨rfl, rfl⟩
    go_wp2
    go_ret
    exact ⟨rfl, B0.out⟩
  · simp only [if_neg ha] at S1
    have S3 := hide (fun W => S2.out (l - tn) W (by omega))
    by_cases hb : l - (tn : Int) - (mn : Int) < 0
    · simp only [if_pos hb] at S3
      rw [if_pos (by omega)]
      go_enter Tryd.func45, Tryd.ntmps45
      go_wp2_with fail
      refine (S1.out _).mono ?_
      rintro e w1 ⟨rfl, rfl⟩
      go_wp2_with fail
      refine (S3.out _).mono ?_
      rintro e w2 ⟨rfl, rfl⟩
      go_wp2
      go_ret
      exact ⟨rfl, B0.out⟩
    · simp only [if_neg hb] at S3
      have E := hide (show l - ((tn + mn : Nat) : Int) = l - (tn : Int) - (mn : Int) by omega)
      rw [if_neg (by omega), E.out]
      go_enter Tryd.func45, Tryd.ntmps45
      go_wp2_with fail
      refine (S1.out _).mono ?_
      rintro e w1 ⟨rfl, rfl⟩
      go_wp2_with fail
      refine (S3.out _).mono ?_
      rintro e w2 ⟨rfl, rfl⟩
      go_wp2
      go_ret
      exact ⟨rfl, B0.out⟩

set_option maxHeartbeats 2000000 in
set_option maxRecDepth 100000 in
theorem szObsL (xs : List Ob) (v : Value) (l : Int) (w : World) (h : RdO w v xs) (hn : xs.length ≤ maxLen) (hl : 0 ≤ l ∧ l ≤ 1048576) :
    Calls Tryd.prog 15 #[v, .int .i64 l] w fun e w' => e = .returned (.int .i64 (if l - (szOs xs : Nat) < 0 then -1 else l - (szOs xs : Nat))) ∧ Below w.heap.size w w' := by
  obtain ⟨ao, cap, hv⟩ := h.val
  subst hv
  have AT := hide (fun k x (hk : xs[k]? = some x) => h.at hk)
  have GET := hide (show ∀ k, k < xs.length → ∃ y, xs[k]? = some y from fun k hk => ⟨_, List.getElem?_eq_getElem hk⟩)
  have SG := hide (show szOs xs = xs.length + (xs.map szO).sum from rfl)
  have TK := hide (show ∀ k, ((xs.take k).map szO).sum ≤ (xs.map szO).sum from fun k => by
    conv => rhs; rw [← List.take_append_drop k xs, List.map_append, List.sum_append]
    omega)
  have TS := hide (show ∀ k x, xs[k]? = some x → ((xs.take (k + 1)).map szO).sum = ((xs.take k).map szO).sum + szO x from fun k x hx => by rw [take_snoc hx]; simp)
  have TN := hide (show xs.take xs.length = xs from List.take_length)
  rw [SG.out]
  have hnm : xs.length ≤ 9223372036854775807 := by unfold maxLen at hn; omega
  generalize hN : xs.length = nn at *
  have HNN := hide hN
  clear h hN hn
  by_cases h0 : l - (nn : Int) < 0
  · rw [if_pos (by omega)]
    go_enter Tryd.func15, Tryd.ntmps15
    go_wp2
    go_ret
    exact ⟨rfl, Below.refl _ _⟩
  · obtain ⟨X, hX⟩ : ∃ X : Int, X = if l - ((nn + (xs.map szO).sum : Nat) : Int) < 0 then -1 else l - ((nn + (xs.map szO).sum : Nat) : Int) := ⟨_, rfl⟩
    rw [← hX]
    have HX := hide hX
    clear hX
    go_enter Tryd.func15, Tryd.ntmps15
    go_wp2_with fail
    go_loopw [1, 5] (fun a i wr => ∃ k : Nat, k ≤ nn ∧ i = .int .i64 k ∧ a = .int .i64 (l - nn - (((xs.take k).map szO).sum : Nat)) ∧ 0 ≤ l - (nn : Int) - (((xs.take k).map szO).sum : Nat) ∧ Below w.heap.size w wr) (fun _ i _ => nn - (intOf i).toNat)
    case atStart => exact ⟨0, Nat.zero_le _, rfl, by simp, by simp; omega, Below.refl _ _⟩
    case round =>
      obtain ⟨k, hk, rfl, rfl, hge, hb⟩ := hrel
      have HB := hide hb
      have hsz := hb.size
      by_cases hlt : k < nn
      · obtain ⟨x, hx⟩ := GET.out k hlt
        obtain ⟨b, off, cap2, hva, hcp, hat⟩ := AT.out k x hx
        obtain ⟨rfl, rfl⟩ : ao = some ⟨b, off, none⟩ ∧ cap = cap2 := by
          simp only [Value.slice.injEq] at hva; exact ⟨hva.1, hva.2.2⟩
        have hbl := hat.lt
        obtain ⟨vt, vm, ⟨a0, a1, a2, a3, a4, a5, a6, a7, a8, a9⟩, ⟨ta, tc, hvt⟩, ⟨ma, mc, hvm⟩, _, _, h1, h2⟩ := hat.cells
        subst hvt hvm
        have kc := fun o => hb.cell (p := ⟨b, o, none⟩) hbl
        have e0 := (kc _).trans a0
        have e1 := (kc _).trans a1
        have e2 := (kc _).trans a2
        have e3 := (kc _).trans a3
        have e4 := (kc _).trans a4
        have e5 := (kc _).trans a5
        have e6 := (kc _).trans a6
        have e7 := (kc _).trans a7
        have e8 := (kc _).trans a8
        have e9 := (kc _).trans a9
        have hb2 : b < wr.heap.size := by omega
        have hcp2 : nn ≤ cap ∧ cap ≤ 9223372036854775807 := by have h9 := hcp; unfold maxLen at h9; omega
        have ts := TS.out k x hx
        have tk := TK.out (k + 1)
        generalize hS : ((xs.take k).map szO).sum = S at *
        generalize hS1 : ((xs.take (k + 1)).map szO).sum = S1 at *
        have HS1 := hide hS1
        have SZ := hide (fun W => szObL x ta ma tc mc (l - nn - (S : Nat)) W h1 h2 (by omega))
        generalize hq : szO x = q at *
        have hlt' : (k : Int) < nn := by omega
        generalize x.t.length = tn at *
        generalize x.m.length = mn at *
        clear hva hcp a0 a1 a2 a3 a4 a5 a6 a7 a8 a9 kc hx hb hS hS1 hq h1 h2
        by_cases hng : l - (nn : Int) - (S : Nat) - (q : Nat) < 0
        · simp only [if_pos hng] at SZ
          have E := hide (show X = -1 by rw [HX.out, if_pos (by omega)])
          clear hng ts tk
          go_wp2_with fail
          refine (SZ.out _).mono ?_
          rintro e w1 ⟨rfl, hb1⟩
          have B1 := hide (HB.out.trans (hb1.mono hsz))
          clear hb1
          go_wp2
          go_ret
          exact ⟨by rw [E.out]; rfl, B1.out⟩
        · simp only [if_neg hng] at SZ
          have e9 : l - (nn : Int) - (S : Nat) - (q : Nat) = l - (nn : Int) - (S1 : Nat) := by omega
          rw [e9] at SZ hng
          clear e9 ts tk
          go_wp2_with fail
          refine (SZ.out _).mono ?_
          rintro e w1 ⟨rfl, hb1⟩
          have B1 := hide (HB.out.trans (hb1.mono hsz))
          clear hb1
          go_wp2
          go_roundw
          case rel => exact ⟨k + 1, by omega, by go_num, by rw [HS1.out], by rw [HS1.out]; omega, B1.out⟩
          case measure => simp [intOf]; omega
      · obtain rfl : k = nn := by omega
        rw [TN.out] at hge
        have E := hide (show X = l - (k : Int) - ((xs.map szO).sum : Nat) by rw [HX.out, if_neg (by omega)]; omega)
        have hlt' : ¬ (k : Int) < k := by omega
        rw [TN.out]
        clear hb
        go_wp2
        go_ret
        exact ⟨by rw [E.out]; rfl, HB.out⟩
end Go.Proofs.YtbgngikejgihgaeDoor
