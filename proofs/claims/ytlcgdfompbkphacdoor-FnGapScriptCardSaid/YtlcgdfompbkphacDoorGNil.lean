import Derived.Test.YtlcgdfompbkphacDoorGRem
import Derived.WalkKit
import Derived.WalkLawsBesides
import Derived.StillTailTactics
namespace Go.Proofs.YtlcgdfompbkphacDoor
open Go Go.RowKit
set_option linter.unusedVariables false

theorem wpList_clear_none {P : Program} {w : World} {ops : Array Oper} {rest : List Oper} {o : Oper} {a : Act} {Q : Exit → Act → World → Prop} (hgd : o.guard = none) (d : Operand) (dT : TypeId)
    (ho : o.op = .call { callee := .builtin .clear, args := #[d], argTypes := #[dT] }) (e : TypeId) (hu : P.underlying dT = some (.slice e)) (dp : Option Addr) (dCap : Nat) (hd : a.eval d = .slice dp 0 dCap)
    (h : wpList P ops Q rest (a.put o.dst (.tuple #[])) w) : wpList P ops Q (o :: rest) a w := by
  refine wpList_plain hgd fun K hK => ?_
  have hrun := run_clear_none (P := P) w dT e o.type hu dp dCap
  unfold Oper.wp
  simp [execOp, ho, resolve, invoke, builtin, hd, hrun, Result.andThen]
  exact hK _ _ h

/-- Two worlds with one memory. -/
structure Alk (w w' : World) : Prop where
  heap : w'.heap = w.heap
  os : w'.os = w.os
  tape : w'.tape = w.tape
  output : w'.output = w.output
theorem Alk.trans {w w1 w2 : World} (h : Alk w w1) (k : Alk w1 w2) : Alk w w2 := ⟨k.heap.trans h.heap, k.os.trans h.os, k.tape.trans h.tape, k.output.trans h.output⟩

theorem wpList_copy_alk {P : Program} {w : World} {ops : Array Oper} {rest : List Oper} {o : Oper} {a : Act} {Q : Exit → Act → World → Prop} (hgd : o.guard = none) (d s : Operand) (dT sT : TypeId)
    (ho : o.op = .call { callee := .builtin .copy, args := #[d, s], argTypes := #[dT, sT] }) (elem : TypeId) (hu : P.underlying dT = some (.slice elem)) (hsz : (P.info? elem).map (·.size) = some 1)
    (dp sp : Option Addr) (dLen dCap sLen sCap : Nat) (hd : a.eval d = .slice dp dLen dCap) (hs : a.eval s = .slice sp sLen sCap) (hn : Nat.min sLen dLen = 0) (w0 : World) (hw : Alk w0 w)
    (h : ∀ w', Hid (Alk w0 w') → wpList P ops Q rest (a.put o.dst (goInt 0)) w') : wpList P ops Q (o :: rest) a w :=
  wpList_copy_nothing hgd d s dT sT ho elem hu hsz dp sp dLen dCap sLen sCap hd hs hn (h w (hide hw))

/-- What is left where there are no cells. -/
structure GNilPost (w w' : World) (B o : Nat) (cs : Array Value) (t : TypeId) : Prop where
  gb : GB w' B o cs t (.slice none 0 0) 0 0
  chg : Chg w w' (fun k => k = B)

theorem gnil_set {w w1 : World} {B o : Nat} {cs : Array Value} {t : TypeId} (h : GB w B o cs t (.slice none 0 0) 0 0) (hh : w1.heap = w.heap) (ho : w1.os = w.os) (ht : w1.tape = w.tape) (hp : w1.output = w.output) :
    GNilPost w ((w1.setCell ⟨B, o + 1, none⟩ (.int .i64 0)).setCell ⟨B, o + 2, none⟩ (.int .i64 0)) B o cs t := by
  have h0 : w1.heap[B]? = some (.cells cs t (0, 0)) := by rw [hh]; exact h.blk
  have h1 := heap_setCell_same w1 B (o + 1) _ _ (.int .i64 0) h0
  have h2 := heap_setCell_same _ B (o + 2) _ _ (.int .i64 0) h1
  have hs := h.sz
  have e : (cs.setIfInBounds (o + 1) (.int .i64 0)).setIfInBounds (o + 2) (.int .i64 0) = cs := by
    rw [← h.self]
    apply set3_ext (by simp [set3_size]) h.sz
    · rw [Array.getElem?_setIfInBounds, Array.getElem?_setIfInBounds, if_neg (by omega), if_neg (by omega), set3_get _ _ _ _ _ _ hs]; simp
    · rw [Array.getElem?_setIfInBounds, Array.getElem?_setIfInBounds, if_neg (by omega), if_pos rfl, if_pos (by rw [set3_size]; omega)]
    · rw [Array.getElem?_setIfInBounds, if_pos rfl, if_pos (by simp [set3_size]; omega)]
    · intro j e0 e1 e2
      rw [Array.getElem?_setIfInBounds, Array.getElem?_setIfInBounds, if_neg (by omega), if_neg (by omega), set3_get _ _ _ _ _ _ hs]
      simp [e0, e1, e2]
  rw [e] at h2
  refine ⟨⟨h2, h.sz, h.c0, h.c1, h.c2⟩, ho, ht, hp, by simp [hh], fun k hk hn => ?_⟩
  rw [setCell_block_other (by show k ≠ B; exact hn), setCell_block_other (by show k ≠ B; exact hn), hh]

theorem gnil_set1 {w w1 : World} {B o : Nat} {cs : Array Value} {t : TypeId} (h : GB w B o cs t (.slice none 0 0) 0 0) (hh : w1.heap = w.heap) (ho : w1.os = w.os) (ht : w1.tape = w.tape) (hp : w1.output = w.output) :
    GNilPost w (w1.setCell ⟨B, o + 2, none⟩ (.int .i64 0)) B o cs t := by
  have h0 : w1.heap[B]? = some (.cells cs t (0, 0)) := by rw [hh]; exact h.blk
  have h2 := heap_setCell_same w1 B (o + 2) _ _ (.int .i64 0) h0
  have hs := h.sz
  have e : cs.setIfInBounds (o + 2) (.int .i64 0) = cs := by
    rw [← h.self]
    apply set3_ext (by simp [set3_size]) h.sz
    · rw [Array.getElem?_setIfInBounds, if_neg (by omega), set3_get _ _ _ _ _ _ hs]; simp
    · rw [Array.getElem?_setIfInBounds, if_neg (by omega), set3_get _ _ _ _ _ _ hs]; simp
    · rw [Array.getElem?_setIfInBounds, if_pos rfl, if_pos (by rw [set3_size]; omega)]
    · intro j e0 e1 e2
      rw [Array.getElem?_setIfInBounds, if_neg (by omega), set3_get _ _ _ _ _ _ hs]
      simp [e0, e1, e2]
  rw [e] at h2
  refine ⟨⟨h2, h.sz, h.c0, h.c1, h.c2⟩, ho, ht, hp, by simp [hh], fun k hk hn => ?_⟩
  rw [setCell_block_other (by show k ≠ B; exact hn), hh]

theorem GNilPost.trans {w w1 w2 : World} {B o : Nat} {cs : Array Value} {t : TypeId} (h : GNilPost w w1 B o cs t) (k : GNilPost w1 w2 B o cs t) : GNilPost w w2 B o cs t :=
  ⟨k.gb, h.chg.trans k.chg (fun _ _ s => s) (fun _ _ s => s)⟩

set_option maxHeartbeats 1000000 in
set_option maxRecDepth 100000 in
theorem moveToNil (B o : Nat) (cs : Array Value) (t : TypeId) (w : World) (h : GB w B o cs t (.slice none 0 0) 0 0) :
    Calls Tryd.prog 110 #[.pointer (some ⟨B, o, none⟩), .int .i64 0] w fun x w' => x = .returned (.tuple #[]) ∧ GNilPost w w' B o cs t := by
  have HK := hide (gapN B o (.slice none 0 0) 0 0 w h.gc (by omega) (by omega) (by omega))
  have HF := hide h.gf
  have H := hide h
  obtain ⟨c0, c1, c2⟩ := h.gc
  clear h
  go_enter Tryd.func110, Tryd.ntmps110
  go_wp2_with fail
  refine HK.out.mono ?_
  rintro x w0 ⟨rfl, mm0, rfl⟩
  have hh0 := hide (show (w.drewN mm0).heap = w.heap from rfl)
  have ho0 := hide (show (w.drewN mm0).os = w.os from rfl)
  have ht0 := hide (show (w.drewN mm0).tape = w.tape from rfl)
  have hp0 := hide (show (w.drewN mm0).output = w.output from rfl)
  obtain ⟨d0, d1, d2⟩ := H.out.gc.same (w' := w.drewN mm0) rfl
  obtain ⟨f0, f1, f2⟩ := HF.out.same (w' := w.drewN mm0) rfl
  have HF2 := hide HF.out
  clear c0 c1 c2 HK HF
  generalize w.drewN mm0 = w0 at *
  go_wp2_with fail
  go_still_tail 20, mixed
  refine wpList_copy_alk rfl (.tmp 57) (.tmp 67) 34 34 rfl 21 Tryd.underlying34 info_size1 none none 0 0 0 0 rfl rfl rfl w0 ⟨rfl, rfl, rfl, rfl⟩ ?_
  intro w2 hk2
  obtain ⟨d0, d1, d2⟩ := H.out.gc.same (w' := w2) (hk2.out.heap.trans hh0.out)
  obtain ⟨f0, f1, f2⟩ := HF2.out.same (w' := w2) (by rw [hk2.out.heap.trans hh0.out])
  go_wp2_with fail
  go_still_tail 12, mixed
  refine wpList_clear_none rfl (.tmp 80) 34 rfl 21 Tryd.underlying34 none 0 rfl ?_
  go_wp2
  go_end0
  exact ⟨rfl, gnil_set (w1 := w2.drew) H.out (hk2.out.heap.trans hh0.out) (hk2.out.os.trans ho0.out) (hk2.out.tape.trans ht0.out) (hk2.out.output.trans hp0.out)⟩

set_option maxHeartbeats 1000000 in
set_option maxRecDepth 100000 in
theorem removeNil (B o : Nat) (cs : Array Value) (t : TypeId) (w : World) (h : GB w B o cs t (.slice none 0 0) 0 0) :
    Calls Tryd.prog 85 #[.pointer (some ⟨B, o, none⟩), .int .i64 0, .int .i64 0] w fun x w' => x = .returned (.tuple #[]) ∧ GNilPost w w' B o cs t := by
  have HM := hide (moveToNil B o cs t w h)
  clear h
  go_enter Tryd.func85, Tryd.ntmps85
  go_wp2_with fail
  refine HM.out.mono ?_
  rintro x w1 ⟨rfl, hp1⟩
  have P1 := hide hp1
  obtain ⟨d0, d1, d2⟩ := hp1.gb.gc
  obtain ⟨f0, f1, f2⟩ := hp1.gb.gf
  clear hp1 HM
  go_wp2_with fail
  go_still_tail 10, mixed
  refine wpList_clear_none rfl (.tmp 27) 34 rfl 21 Tryd.underlying34 none 0 rfl ?_
  go_wp2
  go_end0
  exact ⟨rfl, P1.out.trans (gnil_set1 (w1 := w1.drew) P1.out.gb rfl rfl rfl rfl)⟩

/-- A row that is owned, with what lies behind it. -/
theorem Rw.of_owns {w : World} {base g n cap : Nat} {zs : List Int} (h : w.ownsRow base 21 1 (.slice (some ⟨g, 0, none⟩) n cap) n (ints .i32 zs)) : base ≤ g ∧ n ≤ cap ∧ cap ≤ maxLen ∧ ∃ sp, Rw w g zs sp ∧ sp.length = cap - n := by
  have hl : zs.length = n := by have := h.1; simpa [ints] using this
  rcases h.2 with ⟨hv, hn⟩ | ⟨g', cap', cur, hv, hb, hh, hc, hm, hsz, htk⟩
  · cases hv
  · simp only [Value.slice.injEq, Option.some.injEq, Addr.mk.injEq, and_true, true_and] at hv
    obtain ⟨rfl, rfl⟩ := hv
    refine ⟨hb, hc, hm, cur.toList.drop n, ?_, by simp [hsz]⟩
    show _ = _
    rw [hh]
    congr 2
    have : cur.toList = ints .i32 zs ++ cur.toList.drop n := by
      rw [← htk, Nat.mul_one, List.take_append_drop]
    exact Array.toList_inj.1 (by simpa using this)

theorem owns_of_rw {w : World} {base g n cap : Nat} {zs : List Int} {sp : List Value} (h : Rw w g zs sp) (hN : zs.length = n) (hb : base ≤ g) (hc : n ≤ cap) (hm : cap ≤ maxLen) (hs : sp.length = cap - n) : w.ownsRow base 21 1 (.slice (some ⟨g, 0, none⟩) n cap) n (ints .i32 zs) := by
  refine ⟨by simp [ints, hN], .inr ⟨g, cap, (ints .i32 zs ++ sp).toArray, rfl, hb, h, hc, hm, by simp [ints, hN, hs]; omega, ?_⟩⟩
  rw [Nat.mul_one, ← hN, ← ints_length .i32 zs]
  simp
end Go.Proofs.YtlcgdfompbkphacDoor
