import Derived.Test.YtlcgdfompbkphacDoorChar2
namespace Go.Proofs.YtlcgdfompbkphacDoor
open Go Go.RowKit
set_option linter.unusedVariables false

/-- What a source stands on lies below. -/
def Low (bs : List Int) (vb : Value) (p base : Nat) : Prop :=
  p < base ∧ ∀ b off cap, vb = .slice (some ⟨b, off, none⟩) bs.length cap → 0 < bs.length → b < base

theorem Src.low {bs : List Int} {vb : Value} {p : Nat} {w : World} (h : Src bs vb p w) : Low bs vb p w.heap.size := by
  refine ⟨h.lt, fun b off cap hv hl => ?_⟩
  obtain ⟨_, _, _, h3⟩ := h
  rcases h3 with ⟨ao, cap', rfl, rfl⟩ | ⟨b', off', cap', hv', _, hl', hc⟩
  · simp at hl
  · rw [hv] at hv'
    simp only [Value.slice.injEq, Option.some.injEq, Addr.mk.injEq, and_true, true_and] at hv'
    obtain ⟨⟨rfl, rfl⟩, _⟩ := hv'
    exact World.block_lt_of_cell? w _ (hc 0 hl)

theorem Low.mono {bs : List Int} {vb : Value} {p base base' : Nat} (h : Low bs vb p base) (hb : base ≤ base') : Low bs vb p base' :=
  ⟨Nat.lt_of_lt_of_le h.1 hb, fun b off cap hv hl => Nat.lt_of_lt_of_le (h.2 b off cap hv hl) hb⟩

theorem Src.up {bs : List Int} {vb : Value} {p base : Nat} {w w' : World} {row : Option Nat} (h : Src bs vb p w) (hl : Low bs vb p base) (hg : w.grownBy w' row) (hr : ∀ q, row = some q → base ≤ q) : Src bs vb p w' := by
  have hlt := h.lt
  obtain ⟨⟨i, x, h5, h6, h7, h8⟩, h1, h2, h3⟩ := h
  have h9 := hl.1
  refine ⟨⟨i, x, h5, h6, h7, (hg.block p hlt (fun e => by have := hr p e.symm; omega)).trans h8⟩, h1, h2, ?_⟩
  rcases h3 with h3 | ⟨b, off, cap, hv, hne, hl', hc⟩
  · exact .inl h3
  · refine .inr ⟨b, off, cap, hv, hne, hl', fun i hi => ?_⟩
    have h4 := hc i hi
    have h10 := hl.2 b off cap hv hl'.1
    rw [World.cell?_of_block (w := w) (hg.block b (World.block_lt_of_cell? w _ h4) (fun e => by have := hr b e.symm; omega))]
    exact h4

theorem grown_alloc (w : World) (o : Obj) : w.grownBy (w.alloc o) none :=
  ⟨rfl, rfl, rfl, by simp, fun k hk _ => heap_alloc_old w o hk⟩

theorem grown_setCell (w : World) (g j : Nat) (v : Value) : w.grownBy (w.setCell ⟨g, j, none⟩ v) (some g) :=
  ⟨rfl, rfl, rfl, by simp, fun k hk hne => heap_setCell_other _ _ _ _ (fun e => hne (by subst e; rfl))⟩

theorem grown_join {w0 w1 w2 : World} {p : Option Nat} {row : Option Nat} (h : w0.grownBy w1 p) (k : w1.grownBy w2 row) (hr : ∀ q, row = some q → w0.heap.size ≤ q) : w0.grownBy w2 p :=
  ⟨k.os.trans h.os, k.tape.trans h.tape, k.output.trans h.output, Nat.le_trans h.size k.size, fun i hi hne =>
    (k.block i (Nat.lt_of_lt_of_le hi h.size) (fun e => by have := hr i e.symm; omega)).trans (h.block i hi hne)⟩

/-- A drawing loop's state: the source, and what it has made. -/
structure DS (k : IntKind) (e : TypeId) (bs : List Int) (vb : Value) (p : Nat) (w0 : World) (out : Value) (xs : List Int) (w : World) : Prop where
  src : Src bs vb p w
  own : w.ownsRow w0.heap.size e 1 out xs.length (ints k xs)
  grown : w0.grownBy w (some p)
  low : Low bs vb p w0.heap.size

section
variable {k : IntKind} {e : TypeId} {bs : List Int} {vb : Value} {p : Nat} {w0 w w' : World} {out out' : Value} {xs ys : List Int}

theorem DS.draw (h : DS k e bs vb p w0 out xs w) (hs : Src bs vb p w') (hg : w.grownBy w' (some p)) : DS k e bs vb p w0 out xs w' :=
  ⟨hs, h.own.kept hg (by
    cases hb : out.ownBlock with
    | none => exact .inl rfl
    | some q => right; have h1 := (h.own.lt q hb).1; have h2 := h.low.1; intro e; cases e; omega), grown_trans h.grown hg, h.low⟩

theorem DS.other {row : Option Nat} (h : DS k e bs vb p w0 out xs w) (hg : w.grownBy w' row) (hr : ∀ q, row = some q → w0.heap.size ≤ q) (ho : ∀ q, out.ownBlock = some q → row ≠ some q) : DS k e bs vb p w0 out xs w' :=
  ⟨h.src.up h.low hg hr, h.own.kept hg (by
    cases hb : out.ownBlock with
    | none => exact .inl rfl
    | some q => right; exact fun e => ho q hb e.symm), grown_join h.grown hg hr, h.low⟩

theorem DS.alloc (h : DS k e bs vb p w0 out xs w) (o : Obj) : DS k e bs vb p w0 out xs (w.alloc o) :=
  h.other (grown_alloc w o) (fun q hq => by cases hq) (fun q hq => by simp)

theorem DS.app (h : DS k e bs vb p w0 out xs w) (hg : w.grownBy w' out.ownBlock) (ho : w'.ownsRow w0.heap.size e 1 out' (xs ++ ys).length (ints k (xs ++ ys))) : DS k e bs vb p w0 out' (xs ++ ys) w' :=
  ⟨h.src.up h.low hg (fun q hq => (h.own.lt q hq).1), ho, grown_join h.grown hg (fun q hq => (h.own.lt q hq).1), h.low⟩

theorem DS.size (h : DS k e bs vb p w0 out xs w) : w0.heap.size ≤ w.heap.size := h.grown.size
end

theorem DS.start (k : IntKind) (e : TypeId) {bs : List Int} {vb : Value} {p : Nat} {w : World} (h : Src bs vb p w) : DS k e bs vb p w (.slice (some ⟨w.heap.size, 0, none⟩) 0 0) [] (w.alloc (.cells #[] e)) :=
  ⟨h.up h.low (grown_alloc w _) (fun q hq => by cases hq), by simpa [ints] using World.ownsRow_made w #[] 0 (Nat.le_refl _) (Nat.zero_le _) rfl, by
    have := grown_alloc w (.cells #[] e)
    exact ⟨this.os, this.tape, this.output, this.size, fun i hi _ => this.block i hi (by simp)⟩, h.low⟩

theorem Tryd.infoT : (Tryd.prog.info? 21).map (fun i => (i.zero, i.size, i.bytes)) = some (some (.int .i32 0), 1, 4) := by kernel_rfl

set_option maxHeartbeats 1000000 in
set_option maxRecDepth 100000 in
theorem drawText1 (bs : List Int) (vb : Value) (p : Nat) (n : Nat) (w : World) (hS : Src bs vb p w) (hn : n ≤ 1048576) :
    Calls Tryd.prog 67 #[.pointer (some ⟨p, 0, none⟩), .int .i64 n] w fun e w' => ∃ v' xs, e = .returned v' ∧ xs.length = n ∧ DS .i32 21 bs vb p w v' xs w' := by
  obtain ⟨i0, hi, hz0, hz1, hz2⟩ := info_parts Tryd.infoT
  have HD0 := hide (DS.start .i32 21 hS)
  clear hS
  go_enter Tryd.func67, Tryd.ntmps67
  go_wp2
  go_loopw [5, 6] (fun out i wr => ∃ (k : Nat) (xs : List Int), k ≤ n ∧ i = .int .i64 k ∧ xs.length = k ∧ DS .i32 21 bs vb p w out xs wr) (fun _ i _ => n - (intOf i).toNat)
  case atStart => exact ⟨0, [], Nat.zero_le _, rfl, rfl, HD0.out⟩
  case round =>
    obtain ⟨k, xs, hk, rfl, hxk, hd⟩ := hrel
    have HD := hide hd
    clear hd
    by_cases hlt : k < n
    · go_wp2_with fail
      refine (drawOne bs vb p 25 wr HD.out.src (by omega) (by omega)).mono ?_
      rintro e w1 ⟨b, rfl, hs1, hg1⟩
      have HD1 := hide (HD.out.draw hs1 hg1)
      clear hs1 hg1
      cases b with
      | true =>
        go_wp2_with fail
        refine (drawWild bs vb p w1 HD1.out.src).mono ?_
        rintro e w2 ⟨r, rfl, hs2, hg2⟩
        have HD2 := hide (HD1.out.draw hs2 hg2)
        have hsz := HD2.out.size
        clear hs2 hg2
        go_wp2_with (at_builtin; refine wpList_append_own _ rfl _ _ 34 rfl w.heap.size 21 i0 (.int .i32 0) 1 4 Tryd.underlying34 hi hz0 hz1 hz2 rfl (by decide) _ _ _ rfl (HD2.out.own.alloc _) ⟨w2.heap.size, 0, none⟩ 1 1 [.int .i32 (wrap32 r)] rfl rfl (newcells w2 21 [.int .i32 (wrap32 r)]) (ints_one .i32 [wrap32 r]) (by unfold maxLen; omega) (by omega) (by simp; omega) ?_; intro v3 w3 ho3 hg3 _)
        have HD3 := hide ((HD2.out.alloc _).app (ys := [wrap32 r]) hg3 (by rw [List.length_append, ints_append]; exact ho3))
        clear ho3 hg3
        go_wp2
        go_roundw
        case rel => exact ⟨k + 1, xs ++ [wrap32 r], by omega, by go_num, by simp [hxk], HD3.out⟩
        case measure => simp [intOf]; omega
      | false =>
        go_wp2_with fail
        refine (drawChar bs vb p w1 HD1.out.src).mono ?_
        rintro e w2 ⟨r, rfl, hr, hs2, hg2⟩
        have HD2 := hide (HD1.out.draw hs2 hg2)
        have hsz := HD2.out.size
        clear hs2 hg2
        go_wp2_with (at_builtin; refine wpList_append_own _ rfl _ _ 34 rfl w.heap.size 21 i0 (.int .i32 0) 1 4 Tryd.underlying34 hi hz0 hz1 hz2 rfl (by decide) _ _ _ rfl (HD2.out.own.alloc _) ⟨w2.heap.size, 0, none⟩ 1 1 [.int .i32 r] rfl rfl (newcells w2 21 [.int .i32 r]) (ints_one .i32 [r]) (by unfold maxLen; omega) (by omega) (by simp; omega) ?_; intro v3 w3 ho3 hg3 _)
        have HD3 := hide ((HD2.out.alloc _).app (ys := [r]) hg3 (by rw [List.length_append, ints_append]; exact ho3))
        clear ho3 hg3
        go_wp2
        go_roundw
        case rel => exact ⟨k + 1, xs ++ [r], by omega, by go_num, by simp [hxk], HD3.out⟩
        case measure => simp [intOf]; omega
    · obtain rfl : k = n := by omega
      go_wp2
      go_ret
      exact ⟨_, xs, rfl, hxk, HD.out⟩
end Go.Proofs.YtlcgdfompbkphacDoor
