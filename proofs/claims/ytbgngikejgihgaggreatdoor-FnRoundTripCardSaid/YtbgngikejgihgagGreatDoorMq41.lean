import Derived.Laws.AppendOwnNone
import Derived.Test.YtbgngikejgihgagGreatDoorMq40
namespace Go.Proofs.YtbgngikejgihgagGreatDoor
open Go Go.RowKit
set_option linter.unusedVariables false

/-- The levels of a drawn tree. -/
inductive Lv : Nat → Int → List Int → Prop
  | nil (l : Int) : Lv 0 l []
  | node (h a b : Nat) (l : Int) (A B : List Int) (ha : a ≤ h) (hb : b ≤ h) (h1 : a = h ∨ b = h) (h2 : h ≤ a + 1) (h3 : h ≤ b + 1) (hA : Lv a (l + 1) A) (hB : Lv b (l + 1) B) : Lv (h + 1) l (A ++ l :: B)

theorem Lv.length {h : Nat} {l : Int} {ls : List Int} (k : Lv h l ls) : ls.length + 1 ≤ 2 ^ h := by
  induction k with
  | nil => simp
  | node h a b l A B ha hb h1 h2 h3 _ _ iA iB =>
    have e1 : 2 ^ a ≤ 2 ^ h := Nat.pow_le_pow_right (by omega) ha
    have e2 : 2 ^ b ≤ 2 ^ h := Nat.pow_le_pow_right (by omega) hb
    rw [Nat.pow_succ]
    simp only [List.length_append, List.length_cons]
    omega

theorem len7 {h : Nat} {l : Int} {ls : List Int} (k : Lv h l ls) (hh : h ≤ 7) : ls.length ≤ 127 := by
  have h1 := k.length
  have h2 : 2 ^ h ≤ 2 ^ 7 := Nat.pow_le_pow_right (by omega) hh
  omega

theorem Lv.tree {h : Nat} {l : Int} {ls : List Int} (k : Lv h l ls) : ∀ qs : List Pc, qs.length = ls.length → ∃ T : AT, T.bal ∧ T.ht = h ∧ T.flat = qs ∧ T.told l = (qs.zip ls).map (fun x => ⟨x.1, x.2⟩) := by
  induction k with
  | nil =>
    intro qs hq
    obtain rfl : qs = [] := List.eq_nil_of_length_eq_zero hq
    exact ⟨.nil, trivial, rfl, rfl, rfl⟩
  | node h a b l A B ha hb h1 h2 h3 _ _ iA iB =>
    intro qs hq
    simp only [List.length_append, List.length_cons] at hq
    obtain ⟨q, hq2⟩ : ∃ q, qs = qs.take A.length ++ q :: qs.drop (A.length + 1) := by
      refine ⟨qs[A.length]'(by omega), ?_⟩
      rw [← List.drop_eq_getElem_cons (by omega), List.take_append_drop]
    obtain ⟨TA, bA, tA, fA, oA⟩ := iA (qs.take A.length) (by simp; omega)
    obtain ⟨TB, bB, tB, fB, oB⟩ := iB (qs.drop (A.length + 1)) (by simp; omega)
    refine ⟨.node TA q TB, ⟨bA, bB, by omega, by omega⟩, by simp only [AT.ht]; omega, by simp only [AT.flat, fA, fB]; exact hq2.symm, ?_⟩
    simp only [AT.told, oA, oB]
    conv => rhs; rw [hq2]
    rw [List.zip_append (by simp; omega)]
    simp

theorem Tryz.infoI : (Tryz.prog.info? 3).map (fun i => (i.zero, i.size, i.bytes)) = some (some (.int .i64 0), 1, 8) := by kernel_rfl

theorem Below.grown {B : Nat} {w w' : World} {row : Option Nat} (hg : w.grownBy w' row) (hr : ∀ q, row = some q → B ≤ q) (hB : B ≤ w.heap.size) : Below B w w' :=
  ⟨hg.os, hg.tape, hg.output, hg.size, fun k hk => hg.block k (by omega) (fun e => by have := hr k e.symm; omega)⟩
theorem own_row {w : World} {base : Nat} {e : TypeId} {size : Nat} {v : Value} {n : Nat} {xs : List Value} (h : w.ownsRow base e size v n xs) : ∀ q, v.ownBlock = some q → base ≤ q := fun q hq => (h.lt q hq).1

theorem Chg.belowR {bs : List Nat} {a b c : World} (h : Chg bs a b) (k : Below a.heap.size b c) : Chg bs a c :=
  ⟨k.os.trans h.os, k.tape.trans h.tape, k.output.trans h.output, Nat.le_trans h.size k.size, fun i hi hn => (k.block i hi).trans (h.block i hi hn)⟩
theorem owns_chg {w w' : World} {base p : Nat} {e : TypeId} {size : Nat} {v : Value} {n : Nat} {xs : List Value} (h : w.ownsRow base e size v n xs) (hc : Chg [p] w w') (hp : p < base) : w'.ownsRow base e size v n xs :=
  owns_of_block h fun k hk => hc.block k (h.lt k hk).2 (by have := (h.lt k hk).1; simp; omega)
theorem owns_cells {w : World} {base : Nat} {e : TypeId} {g cap n : Nat} {xs : List Value} (h : w.ownsRow base e 1 (.slice (some ⟨g, 0, none⟩) n cap) n xs) : ∀ j u, xs[j]? = some u → w.cell? ((⟨g, 0, none⟩ : Addr).add j) = some u := by
  intro j u hj
  have hl := h.1
  have h1 := h.cellAt j (by have := (List.getElem?_eq_some_iff.1 hj).1; omega)
  rw [Addr.add_lit, Nat.zero_add, h1, hj]

set_option maxHeartbeats 4000000 in
set_option maxRecDepth 100000 in
theorem levelsN (bs : List Int) (vb : Value) (p : Nat) : ∀ (m : Nat) (h level lean : Int) (w : World), h.toNat = m → (h ≤ 7 ∧ -1 ≤ h) → (0 ≤ level ∧ level + h ≤ 1000) → (0 ≤ lean ∧ lean ≤ 100) → SrcB bs vb p w →
    Calls Tryz.prog 142 #[.pointer (some ⟨p, 0, none⟩), .int .i64 h, .int .i64 level, .int .i64 lean] w fun e w' => ∃ v ls, e = .returned v ∧ Lv m level ls ∧ w'.ownsRow w.heap.size 3 1 v ls.length (ints .i64 ls) ∧ SrcB bs vb p w' ∧ Chg [p] w w' := by
  intro m
  induction m using Nat.strongRecOn with
  | ind m ih =>
  intro h level lean w hm hh hlv hln hS
  have hlt := hS.1.lt
  obtain ⟨i0, hi, hz0, hz1, hz2⟩ := info_parts Tryz.infoI
  have HS := hide hS
  have IH := hide ih
  clear hS ih
  by_cases h0 : h ≤ 0
  · go_enter Tryz.func142, Tryz.ntmps142
    go_wp2
    go_ret
    obtain rfl : m = 0 := by omega
    exact ⟨_, [], rfl, .nil _, World.ownsRow_nil w _ _ _, HS.out, Chg.refl _ _⟩
  · go_enter Tryz.func142, Tryz.ntmps142
    go_wp2_with fail
    refine (drawNB bs vb p 4 w HS.out (by omega) (by omega)).mono ?_
    rintro e w1 ⟨r, rfl, hr, hs1, hc1⟩
    have H1 := hide hs1
    have C1 := hide hc1
    clear hs1 hc1 HS
    by_cases hrl : r < lean
    · go_wp2_with fail
      refine (drawOneB bs vb p 2 w1 H1.out (by omega) (by omega)).mono ?_
      rintro e w2 ⟨b1, rfl, hs2, hc2⟩
      have H2 := hide hs2
      have C2 := hide (C1.out.trans hc2 (fun _ h _ => h) (fun _ h _ => h))
      clear hs2 hc2 H1 C1
      cases b1
      · go_wp2_with fail
        refine (IH.out (h - 1).toNat (by omega) (h - 1) _ _ w2 rfl (by omega) (by omega) (by omega) H2.out).mono ?_
        rintro e w3 ⟨v3, A, rfl, hA, ho3, hs3, hc3⟩
        have hA7 := len7 hA (by omega)
        have z2 := C2.out.size
        have z3 := hc3.size
        have O3 := hide (owns_base ho3 z2)
        have H3 := hide hs3
        have C3 := hide (C2.out.trans hc3 (fun _ h _ => h) (fun _ h _ => h))
        have LA := hide hA
        clear hA ho3 hs3 hc3 H2 C2
        go_wp2_with (at_builtin; refine wpList_append_own _ rfl _ _ 23 rfl w.heap.size 3 i0 (.int .i64 0) 1 8 Tryz.underlying23 hi hz0 hz1 hz2 rfl (by decide) _ _ _ rfl (O3.out.alloc _) ⟨w3.heap.size, 0, none⟩ 1 1 [.int .i64 level] rfl rfl (newcells w3 3 [.int .i64 level]) (ints_one .i64 [level]) (by unfold maxLen; omega) (by omega) (by simp; omega) ?_; intro v4 w4 ho4 hg4 _)
        have B4 : Below w.heap.size w3 w4 := ((Below.refl w.heap.size w3).alloc (by omega) _).trans (Below.grown hg4 (own_row O3.out) (by simp; omega))
        have z4 := B4.size
        have H4 := hide (H3.out.below B4 hlt (by omega))
        have C4 := hide (C3.out.belowR B4)
        have O4 := hide ho4
        clear ho4 hg4 B4 H3 C3 O3
        refine (IH.out (h - 1 - 1).toNat (by omega) (h - 1 - 1) _ _ w4 rfl (by omega) (by omega) (by omega) H4.out).mono ?_
        rintro e w5 ⟨v5, B, rfl, hB, ho5, hs5, hc5⟩
        have hB7 := len7 hB (by omega)
        have z5 := hc5.size
        have O5 := hide (owns_chg O4.out hc5 hlt)
        have H5 := hide hs5
        have C5 := hide (C4.out.trans hc5 (fun _ h _ => h) (fun _ h _ => h))
        have LB := hide hB
        have P5 := hide ho5
        clear hB hs5 hc5 O4 C4 H4
        have LL : Hid (Lv m level (A ++ level :: B)) := hide (by
          obtain ⟨m', rfl⟩ : ∃ m', m = m' + 1 := ⟨m - 1, by omega⟩
          exact .node m' _ _ level A B (by omega) (by omega) (by omega) (by omega) (by omega) LA.out LB.out)
        rcases ho5.2 with ⟨rfl, hb0⟩ | ⟨g, cap, cur, rfl, _⟩
        · clear ho5
          go_wp2_with (at_builtin; refine wpList_append_own_none rfl _ _ 23 rfl w.heap.size 3 i0 1 Tryz.underlying23 hi _ _ _ rfl (by exact O5.out) rfl ?_)
          go_ret
          obtain rfl : B = [] := List.eq_nil_of_length_eq_zero hb0
          refine ⟨_, _, rfl, LL.out, ?_, H5.out, C5.out⟩
          have h9 := O5.out
          simpa [ints] using h9
        · clear ho5
          go_wp2_with (at_builtin; refine wpList_append_own _ rfl _ _ 23 rfl w.heap.size 3 i0 (.int .i64 0) 1 8 Tryz.underlying23 hi hz0 hz1 hz2 rfl (by decide) _ _ _ rfl (by exact O5.out) ⟨g, 0, none⟩ B.length cap (ints .i64 B) rfl (by rw [ints_length]; omega) (by exact owns_cells P5.out) (ints_one .i64 B) (by unfold maxLen; omega) (by omega) (by omega) ?_; intro v6 w6 ho6 hg6 _)
          go_ret
          have B6 : Below w.heap.size w5 w6 := Below.grown hg6 (own_row O5.out) (by omega)
          refine ⟨_, _, rfl, LL.out, ?_, H5.out.below B6 hlt (by omega), C5.out.belowR B6⟩
          have e9 : (A ++ level :: B).length = A.length + 1 + B.length := by simp; omega
          rw [e9]
          simpa [ints] using ho6
      · go_wp2_with fail
        refine (IH.out (h - 1 - 1).toNat (by omega) (h - 1 - 1) _ _ w2 rfl (by omega) (by omega) (by omega) H2.out).mono ?_
        rintro e w3 ⟨v3, A, rfl, hA, ho3, hs3, hc3⟩
        have hA7 := len7 hA (by omega)
        have z2 := C2.out.size
        have z3 := hc3.size
        have O3 := hide (owns_base ho3 z2)
        have H3 := hide hs3
        have C3 := hide (C2.out.trans hc3 (fun _ h _ => h) (fun _ h _ => h))
        have LA := hide hA
        clear hA ho3 hs3 hc3 H2 C2
        go_wp2_with (at_builtin; refine wpList_append_own _ rfl _ _ 23 rfl w.heap.size 3 i0 (.int .i64 0) 1 8 Tryz.underlying23 hi hz0 hz1 hz2 rfl (by decide) _ _ _ rfl (O3.out.alloc _) ⟨w3.heap.size, 0, none⟩ 1 1 [.int .i64 level] rfl rfl (newcells w3 3 [.int .i64 level]) (ints_one .i64 [level]) (by unfold maxLen; omega) (by omega) (by simp; omega) ?_; intro v4 w4 ho4 hg4 _)
        have B4 : Below w.heap.size w3 w4 := ((Below.refl w.heap.size w3).alloc (by omega) _).trans (Below.grown hg4 (own_row O3.out) (by simp; omega))
        have z4 := B4.size
        have H4 := hide (H3.out.below B4 hlt (by omega))
        have C4 := hide (C3.out.belowR B4)
        have O4 := hide ho4
        clear ho4 hg4 B4 H3 C3 O3
        refine (IH.out (h - 1).toNat (by omega) (h - 1) _ _ w4 rfl (by omega) (by omega) (by omega) H4.out).mono ?_
        rintro e w5 ⟨v5, B, rfl, hB, ho5, hs5, hc5⟩
        have hB7 := len7 hB (by omega)
        have z5 := hc5.size
        have O5 := hide (owns_chg O4.out hc5 hlt)
        have H5 := hide hs5
        have C5 := hide (C4.out.trans hc5 (fun _ h _ => h) (fun _ h _ => h))
        have LB := hide hB
        have P5 := hide ho5
        clear hB hs5 hc5 O4 C4 H4
        have LL : Hid (Lv m level (A ++ level :: B)) := hide (by
          obtain ⟨m', rfl⟩ : ∃ m', m = m' + 1 := ⟨m - 1, by omega⟩
          exact .node m' _ _ level A B (by omega) (by omega) (by omega) (by omega) (by omega) LA.out LB.out)
        rcases ho5.2 with ⟨rfl, hb0⟩ | ⟨g, cap, cur, rfl, _⟩
        · clear ho5
          go_wp2_with (at_builtin; refine wpList_append_own_none rfl _ _ 23 rfl w.heap.size 3 i0 1 Tryz.underlying23 hi _ _ _ rfl (by exact O5.out) rfl ?_)
          go_ret
          obtain rfl : B = [] := List.eq_nil_of_length_eq_zero hb0
          refine ⟨_, _, rfl, LL.out, ?_, H5.out, C5.out⟩
          have h9 := O5.out
          simpa [ints] using h9
        · clear ho5
          go_wp2_with (at_builtin; refine wpList_append_own _ rfl _ _ 23 rfl w.heap.size 3 i0 (.int .i64 0) 1 8 Tryz.underlying23 hi hz0 hz1 hz2 rfl (by decide) _ _ _ rfl (by exact O5.out) ⟨g, 0, none⟩ B.length cap (ints .i64 B) rfl (by rw [ints_length]; omega) (by exact owns_cells P5.out) (ints_one .i64 B) (by unfold maxLen; omega) (by omega) (by omega) ?_; intro v6 w6 ho6 hg6 _)
          go_ret
          have B6 : Below w.heap.size w5 w6 := Below.grown hg6 (own_row O5.out) (by omega)
          refine ⟨_, _, rfl, LL.out, ?_, H5.out.below B6 hlt (by omega), C5.out.belowR B6⟩
          have e9 : (A ++ level :: B).length = A.length + 1 + B.length := by simp; omega
          rw [e9]
          simpa [ints] using ho6
    · go_wp2_with fail
      refine (IH.out (h - 1).toNat (by omega) (h - 1) _ _ w1 rfl (by omega) (by omega) (by omega) H1.out).mono ?_
      rintro e w3 ⟨v3, A, rfl, hA, ho3, hs3, hc3⟩
      have hA7 := len7 hA (by omega)
      have z2 := C1.out.size
      have z3 := hc3.size
      have O3 := hide (owns_base ho3 z2)
      have H3 := hide hs3
      have C3 := hide (C1.out.trans hc3 (fun _ h _ => h) (fun _ h _ => h))
      have LA := hide hA
      clear hA ho3 hs3 hc3 H1 C1
      go_wp2_with (at_builtin; refine wpList_append_own _ rfl _ _ 23 rfl w.heap.size 3 i0 (.int .i64 0) 1 8 Tryz.underlying23 hi hz0 hz1 hz2 rfl (by decide) _ _ _ rfl (O3.out.alloc _) ⟨w3.heap.size, 0, none⟩ 1 1 [.int .i64 level] rfl rfl (newcells w3 3 [.int .i64 level]) (ints_one .i64 [level]) (by unfold maxLen; omega) (by omega) (by simp; omega) ?_; intro v4 w4 ho4 hg4 _)
      have B4 : Below w.heap.size w3 w4 := ((Below.refl w.heap.size w3).alloc (by omega) _).trans (Below.grown hg4 (own_row O3.out) (by simp; omega))
      have z4 := B4.size
      have H4 := hide (H3.out.below B4 hlt (by omega))
      have C4 := hide (C3.out.belowR B4)
      have O4 := hide ho4
      clear ho4 hg4 B4 H3 C3 O3
      refine (IH.out (h - 1).toNat (by omega) (h - 1) _ _ w4 rfl (by omega) (by omega) (by omega) H4.out).mono ?_
      rintro e w5 ⟨v5, B, rfl, hB, ho5, hs5, hc5⟩
      have hB7 := len7 hB (by omega)
      have z5 := hc5.size
      have O5 := hide (owns_chg O4.out hc5 hlt)
      have H5 := hide hs5
      have C5 := hide (C4.out.trans hc5 (fun _ h _ => h) (fun _ h _ => h))
      have LB := hide hB
      have P5 := hide ho5
      clear hB hs5 hc5 O4 C4 H4
      have LL : Hid (Lv m level (A ++ level :: B)) := hide (by
        obtain ⟨m', rfl⟩ : ∃ m', m = m' + 1 := ⟨m - 1, by omega⟩
        exact .node m' _ _ level A B (by omega) (by omega) (by omega) (by omega) (by omega) LA.out LB.out)
      rcases ho5.2 with ⟨rfl, hb0⟩ | ⟨g, cap, cur, rfl, _⟩
      · clear ho5
        go_wp2_with (at_builtin; refine wpList_append_own_none rfl _ _ 23 rfl w.heap.size 3 i0 1 Tryz.underlying23 hi _ _ _ rfl (by exact O5.out) rfl ?_)
        go_ret
        obtain rfl : B = [] := List.eq_nil_of_length_eq_zero hb0
        refine ⟨_, _, rfl, LL.out, ?_, H5.out, C5.out⟩
        have h9 := O5.out
        simpa [ints] using h9
      · clear ho5
        go_wp2_with (at_builtin; refine wpList_append_own _ rfl _ _ 23 rfl w.heap.size 3 i0 (.int .i64 0) 1 8 Tryz.underlying23 hi hz0 hz1 hz2 rfl (by decide) _ _ _ rfl (by exact O5.out) ⟨g, 0, none⟩ B.length cap (ints .i64 B) rfl (by rw [ints_length]; omega) (by exact owns_cells P5.out) (ints_one .i64 B) (by unfold maxLen; omega) (by omega) (by omega) ?_; intro v6 w6 ho6 hg6 _)
        go_ret
        have B6 : Below w.heap.size w5 w6 := Below.grown hg6 (own_row O5.out) (by omega)
        refine ⟨_, _, rfl, LL.out, ?_, H5.out.below B6 hlt (by omega), C5.out.belowR B6⟩
        have e9 : (A ++ level :: B).length = A.length + 1 + B.length := by simp; omega
        rw [e9]
        simpa [ints] using ho6
end Go.Proofs.YtbgngikejgihgagGreatDoor

namespace Go.Proofs.YtbgngikejgihgagGreatDoor
open Go Go.RowKit
set_option linter.unusedVariables false

/-- What a source stands on lies below. -/
def Low (bs : List Int) (vb : Value) (p base : Nat) : Prop :=
  p < base ∧ ∀ b off cap, vb = .slice (some ⟨b, off, none⟩) bs.length cap → 0 < bs.length → b < base

theorem Src.low {bs : List Int} {vb : Value} {p : Nat} {w : World} (h : Src bs vb p w) : Low bs vb p w.heap.size := by
  refine ⟨h.lt, fun b off cap hv hl => ?_⟩
  obtain ⟨_, _, _, h3⟩ := h
  rcases h3 with ⟨ao, cap', rfl, rfl⟩ | ⟨b', off', cap', hv', _, hl', hc⟩
  · simp at hl
  · rw [hv] at hv'
    simp only [Value.slice.injEq, Option.some.injEq, Addr.mk.injEq, and_true, true_and] at hv'
    obtain ⟨⟨rfl, rfl⟩, _⟩ := hv'
    exact World.block_lt_of_cell? w _ (hc 0 hl)

theorem Low.mono {bs : List Int} {vb : Value} {p base base' : Nat} (h : Low bs vb p base) (hb : base ≤ base') : Low bs vb p base' :=
  ⟨Nat.lt_of_lt_of_le h.1 hb, fun b off cap hv hl => Nat.lt_of_lt_of_le (h.2 b off cap hv hl) hb⟩

theorem Src.up {bs : List Int} {vb : Value} {p base : Nat} {w w' : World} {row : Option Nat} (h : Src bs vb p w) (hl : Low bs vb p base) (hg : w.grownBy w' row) (hr : ∀ q, row = some q → base ≤ q) : Src bs vb p w' := by
  have hlt := h.lt
  obtain ⟨⟨i, x, h5, h6, h7, h8⟩, h1, h2, h3⟩ := h
  have h9 := hl.1
  refine ⟨⟨i, x, h5, h6, h7, (hg.block p hlt (fun e => by have := hr p e.symm; omega)).trans h8⟩, h1, h2, ?_⟩
  rcases h3 with h3 | ⟨b, off, cap, hv, hne, hl', hc⟩
  · exact .inl h3
  · refine .inr ⟨b, off, cap, hv, hne, hl', fun i hi => ?_⟩
    have h4 := hc i hi
    have h10 := hl.2 b off cap hv hl'.1
    rw [World.cell?_of_block (w := w) (hg.block b (World.block_lt_of_cell? w _ h4) (fun e => by have := hr b e.symm; omega))]
    exact h4

theorem grown_alloc (w : World) (o : Obj) : w.grownBy (w.alloc o) none :=
  ⟨rfl, rfl, rfl, by simp, fun k hk _ => heap_alloc_old w o hk⟩

theorem grown_join {w0 w1 w2 : World} {p : Option Nat} {row : Option Nat} (h : w0.grownBy w1 p) (k : w1.grownBy w2 row) (hr : ∀ q, row = some q → w0.heap.size ≤ q) : w0.grownBy w2 p :=
  ⟨k.os.trans h.os, k.tape.trans h.tape, k.output.trans h.output, Nat.le_trans h.size k.size, fun i hi hne =>
    (k.block i (Nat.lt_of_lt_of_le hi h.size) (fun e => by have := hr i e.symm; omega)).trans (h.block i hi hne)⟩

/-- A drawing loop's state: the source, and what it has made. -/
structure DS (k : IntKind) (e : TypeId) (bs : List Int) (vb : Value) (p : Nat) (w0 : World) (out : Value) (xs : List Int) (w : World) : Prop where
  src : Src bs vb p w
  own : w.ownsRow w0.heap.size e 1 out xs.length (ints k xs)
  grown : w0.grownBy w (some p)
  low : Low bs vb p w0.heap.size

section
variable {k : IntKind} {e : TypeId} {bs : List Int} {vb : Value} {p : Nat} {w0 w w' : World} {out out' : Value} {xs ys : List Int}

theorem DS.draw (h : DS k e bs vb p w0 out xs w) (hs : Src bs vb p w') (hg : w.grownBy w' (some p)) : DS k e bs vb p w0 out xs w' :=
  ⟨hs, h.own.kept hg (by
    cases hb : out.ownBlock with
    | none => exact .inl rfl
    | some q => right; have h1 := (h.own.lt q hb).1; have h2 := h.low.1; intro e; cases e; omega), grown_trans h.grown hg, h.low⟩

theorem DS.other {row : Option Nat} (h : DS k e bs vb p w0 out xs w) (hg : w.grownBy w' row) (hr : ∀ q, row = some q → w0.heap.size ≤ q) (ho : ∀ q, out.ownBlock = some q → row ≠ some q) : DS k e bs vb p w0 out xs w' :=
  ⟨h.src.up h.low hg hr, h.own.kept hg (by
    cases hb : out.ownBlock with
    | none => exact .inl rfl
    | some q => right; exact fun e => ho q hb e.symm), grown_join h.grown hg hr, h.low⟩

theorem DS.alloc (h : DS k e bs vb p w0 out xs w) (o : Obj) : DS k e bs vb p w0 out xs (w.alloc o) :=
  h.other (grown_alloc w o) (fun q hq => by cases hq) (fun q hq => by simp)

theorem DS.app (h : DS k e bs vb p w0 out xs w) (hg : w.grownBy w' out.ownBlock) (ho : w'.ownsRow w0.heap.size e 1 out' (xs ++ ys).length (ints k (xs ++ ys))) : DS k e bs vb p w0 out' (xs ++ ys) w' :=
  ⟨h.src.up h.low hg (fun q hq => (h.own.lt q hq).1), ho, grown_join h.grown hg (fun q hq => (h.own.lt q hq).1), h.low⟩

theorem DS.size (h : DS k e bs vb p w0 out xs w) : w0.heap.size ≤ w.heap.size := h.grown.size
end

theorem DS.start (k : IntKind) (e : TypeId) {bs : List Int} {vb : Value} {p : Nat} {w : World} (h : Src bs vb p w) : DS k e bs vb p w (.slice (some ⟨w.heap.size, 0, none⟩) 0 0) [] (w.alloc (.cells #[] e)) :=
  ⟨h.up h.low (grown_alloc w _) (fun q hq => by cases hq), by simpa [ints] using World.ownsRow_made w #[] 0 (Nat.le_refl _) (Nat.zero_le _) rfl, by
    have := grown_alloc w (.cells #[] e)
    exact ⟨this.os, this.tape, this.output, this.size, fun i hi _ => this.block i hi (by simp)⟩, h.low⟩

theorem Tryz.infoT : (Tryz.prog.info? 21).map (fun i => (i.zero, i.size, i.bytes)) = some (some (.int .i32 0), 1, 4) := by kernel_rfl

set_option maxHeartbeats 1000000 in
set_option maxRecDepth 100000 in
theorem drawText1 (bs : List Int) (vb : Value) (p : Nat) (n : Nat) (w : World) (hS : Src bs vb p w) (hn : n ≤ 1048576) :
    Calls Tryz.prog 89 #[.pointer (some ⟨p, 0, none⟩), .int .i64 n] w fun e w' => ∃ v' xs, e = .returned v' ∧ xs.length = n ∧ DS .i32 21 bs vb p w v' xs w' := by
  obtain ⟨i0, hi, hz0, hz1, hz2⟩ := info_parts Tryz.infoT
  have HD0 := hide (DS.start .i32 21 hS)
  clear hS
  go_enter Tryz.func89, Tryz.ntmps89
  go_wp2
  go_loopw [5, 6] (fun out i wr => ∃ (k : Nat) (xs : List Int), k ≤ n ∧ i = .int .i64 k ∧ xs.length = k ∧ DS .i32 21 bs vb p w out xs wr) (fun _ i _ => n - (intOf i).toNat)
  case atStart => exact ⟨0, [], Nat.zero_le _, rfl, rfl, HD0.out⟩
  case round =>
    obtain ⟨k, xs, hk, rfl, hxk, hd⟩ := hrel
    have HD := hide hd
    clear hd
    by_cases hlt : k < n
    · go_wp2_with fail
      refine (drawOne bs vb p 25 wr HD.out.src (by omega) (by omega)).mono ?_
      rintro e w1 ⟨b, rfl, hs1, hg1⟩
      have HD1 := hide (HD.out.draw hs1 hg1)
      clear hs1 hg1
      cases b with
      | true =>
        go_wp2_with fail
        refine (drawWild bs vb p w1 HD1.out.src).mono ?_
        rintro e w2 ⟨r, rfl, hs2, hg2⟩
        have HD2 := hide (HD1.out.draw hs2 hg2)
        have hsz := HD2.out.size
        clear hs2 hg2
        go_wp2_with (at_builtin; refine wpList_append_own _ rfl _ _ 36 rfl w.heap.size 21 i0 (.int .i32 0) 1 4 Tryz.underlying36 hi hz0 hz1 hz2 rfl (by decide) _ _ _ rfl (HD2.out.own.alloc _) ⟨w2.heap.size, 0, none⟩ 1 1 [.int .i32 (wrap32 r)] rfl rfl (newcells w2 21 [.int .i32 (wrap32 r)]) (ints_one .i32 [wrap32 r]) (by unfold maxLen; omega) (by omega) (by simp; omega) ?_; intro v3 w3 ho3 hg3 _)
        have HD3 := hide ((HD2.out.alloc _).app (ys := [wrap32 r]) hg3 (by rw [List.length_append, ints_append]; exact ho3))
        clear ho3 hg3
        go_wp2
        go_roundw
        case rel => exact ⟨k + 1, xs ++ [wrap32 r], by omega, by go_num, by simp [hxk], HD3.out⟩
        case measure => simp [intOf]; omega
      | false =>
        go_wp2_with fail
        refine (drawChar bs vb p w1 HD1.out.src).mono ?_
        rintro e w2 ⟨r, rfl, hr, hs2, hg2⟩
        have HD2 := hide (HD1.out.draw hs2 hg2)
        have hsz := HD2.out.size
        clear hs2 hg2
        go_wp2_with (at_builtin; refine wpList_append_own _ rfl _ _ 36 rfl w.heap.size 21 i0 (.int .i32 0) 1 4 Tryz.underlying36 hi hz0 hz1 hz2 rfl (by decide) _ _ _ rfl (HD2.out.own.alloc _) ⟨w2.heap.size, 0, none⟩ 1 1 [.int .i32 r] rfl rfl (newcells w2 21 [.int .i32 r]) (ints_one .i32 [r]) (by unfold maxLen; omega) (by omega) (by simp; omega) ?_; intro v3 w3 ho3 hg3 _)
        have HD3 := hide ((HD2.out.alloc _).app (ys := [r]) hg3 (by rw [List.length_append, ints_append]; exact ho3))
        clear ho3 hg3
        go_wp2
        go_roundw
        case rel => exact ⟨k + 1, xs ++ [r], by omega, by go_num, by simp [hxk], HD3.out⟩
        case measure => simp [intOf]; omega
    · obtain rfl : k = n := by omega
      go_wp2
      go_ret
      exact ⟨_, xs, rfl, hxk, HD.out⟩
end Go.Proofs.YtbgngikejgihgagGreatDoor
