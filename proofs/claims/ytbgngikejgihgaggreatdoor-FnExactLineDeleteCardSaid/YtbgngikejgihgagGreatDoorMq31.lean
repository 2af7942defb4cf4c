import Derived.Test.YtbgngikejgihgagGreatDoorMq30
import Derived.Test.YtbgngikejgihgagGreatDoorMq18
import Derived.WalkKit
import Derived.WalkLawsBesides
import Derived.StillTailTactics
namespace Go.Proofs.YtbgngikejgihgagGreatDoor
open Go Go.RowKit
set_option linter.unusedVariables false

set_option maxHeartbeats 1000000 in
theorem answerL_cut (lo hi c g cap n a b : Nat) (sv : Value) (vs : List Value) (gs : List Gr) (rn : Int) (st : List Int) (w : World) (h : LCr w lo hi c (.slice (some ⟨g, 0, none⟩) n cap) sv vs gs a b rn st) (hN : gs.length = n) (h1 : 1 ≤ n) (h2 : n ≤ 1048576) (hab : a ≤ b) (hbn : b ≤ n) (hm : 1 ≤ a + (n - b)) (hh : hi ≤ w.heap.size) (hl : lo ≤ hi) (hch : c < hi) :
    Calls Tryz.prog 56 #[.pointer (some ⟨c, 0, none⟩), .nilIface] w fun e w' => ∃ vr vt, e = .returned (.tuple #[.agg #[vr, vt], .int .i64 0]) ∧ OwL w' lo w'.heap.size vr vt (cutG a b gs) st ∧ Below w.heap.size w w' := by
  have A0 := hide ((Below.refl w.heap.size w).alloc (Nat.le_refl _) (.cells #[.slice none 0 0, .slice none 0 0] 29))
  have K0 := hide (D2.new w (.slice none 0 0) (.slice none 0 0) 29)
  have hs0 : (w.alloc (.cells #[.slice none 0 0, .slice none 0 0] 29)).heap.size = w.heap.size + 1 := by simp
  have TL := hide (tellL lo hi c g cap n a b sv vs gs rn st _ (h.below A0.out hh (by omega)) hN h1 h2 hab hbn (by omega) hl hm)
  generalize cutG a b gs = G at *
  clear h hN
  go_enter Tryz.func56, Tryz.ntmps56
  go_wp2_with fail
  generalize w.alloc (.cells #[.slice none 0 0, .slice none 0 0] 29) = w0 at *
  refine TL.out.mono ?_
  rintro e w3 ⟨vr, rfl, ho3, hb3⟩
  obtain ⟨a1, c1', a2, c2', rfl, hvt⟩ := ho3.val
  subst hvt
  have s3 := hb3.size
  have K3 := hide (K0.out.below hb3 (by omega))
  have B3 := hide (A0.out.trans (hb3.mono (by omega)))
  have O3 := hide ho3
  have e0 := K3.out.c.1
  have e1 := K3.out.c.2
  have f0 := K3.out.fz 0
  have f1 := K3.out.fz 1
  obtain ⟨vs3, G3⟩ := ho3.rows
  have hne : ∀ q, (Value.slice a1 G.length c1').ownBlock = some q ∨ (Value.slice a2 st.length c2').ownBlock = some q → True := fun _ _ => trivial
  have FR := hide (show ∀ w', (∀ q, q ≠ w.heap.size → w'.heap[q]? = w3.heap[q]?) → OwL w' lo w3.heap.size (.slice a1 G.length c1') (.slice a2 st.length c2') G st from fun w' hw' => by
    have hr2 := blk_row2 K3.out
    refine ⟨⟨vs3, ⟨?_, G3.bl, ?_⟩⟩, ?_, ho3.bl⟩
    · exact owns_of_block G3.row (fun q hq => hw' q (fun e => own_apart G3.row hr2 (by decide) hq (by simp [Value.ownBlock, e])))
    · exact ⟨G3.nest.len, fun i u l hu hl => owns_of_block (G3.nest.own i u l hu hl) (fun q hq => hw' q (fun e => own_apart (G3.nest.own i u l hu hl) hr2 (by decide) hq (by simp [Value.ownBlock, e]))), G3.nest.bl, G3.nest.ne⟩
    · exact owns_of_block ho3.starts (fun q hq => hw' q (fun e => own_apart ho3.starts hr2 (by decide) hq (by simp [Value.ownBlock, e]))))
  clear ho3 hb3 TL G3 hne
  go_wp2
  refine bodyPost_ret (v := .tuple #[.agg #[.slice a1 G.length c1', .slice a2 st.length c2'], .int .i64 0]) (by simp [results, Tryz.results56, go_sem, e0, e1]) rfl ⟨_, _, rfl, ?_, ?_⟩
  · refine (FR.out _ (fun q hq => ?_)).mono (Nat.le_refl _) (by simp)
    rw [heap_setCell_other _ _ _ _ (by show q ≠ w.heap.size; exact hq), heap_setCell_other _ _ _ _ (by show q ≠ w.heap.size; exact hq)]
  · exact (B3.out.setCell (Nat.le_refl _) _).setCell (Nat.le_refl _) _

set_option maxHeartbeats 1000000 in
theorem answerL_bad (pc : Option Addr) (er : Value) (hbe : BadL er) (w : World) (hg : w.cell? ⟨0, 0, none⟩ = some (.iface 307 (.agg #[.pointer (some ⟨2, 100, none⟩)]))) :
    Calls Tryz.prog 56 #[.pointer pc, er] w fun e w' => e = .returned (.tuple #[.agg #[.slice none 0 0, .slice none 0 0], .int .i64 1]) ∧ Below w.heap.size w w' := by
  have hlt0 : 0 < w.heap.size := World.block_lt_of_cell? w _ hg
  have A0 := hide ((Below.refl w.heap.size w).alloc (Nat.le_refl _) (.cells #[.slice none 0 0, .slice none 0 0] 29))
  have K0 := hide (D2.new w (.slice none 0 0) (.slice none 0 0) 29)
  have hs0 : (w.alloc (.cells #[.slice none 0 0, .slice none 0 0] 29)).heap.size = w.heap.size + 1 := by simp
  have G0 := hide ((A0.out.cell (p := ⟨0, 0, none⟩) hlt0).trans hg)
  have CO := hide (fun w hg => codeBadL er hbe w hg)
  clear hg
  rcases hbe with ⟨msg, rfl⟩ | ⟨msg, msg', rfl⟩
  all_goals
    go_enter Tryz.func56, Tryz.ntmps56
    go_wp2_with fail
    generalize w.alloc (.cells #[.slice none 0 0, .slice none 0 0] 29) = w0 at *
    refine (CO.out _ G0.out).mono ?_
    rintro e w2 ⟨rfl, hb2⟩
    have B2 := hide (A0.out.trans (hb2.mono (by omega)))
    have K2 := hide (K0.out.below hb2 (by omega))
    have e0 := K2.out.c.1
    have e1 := K2.out.c.2
    have f0 := K2.out.fz 0
    have f1 := K2.out.fz 1
    clear hb2
    go_wp2
    refine bodyPost_ret (v := .tuple #[.agg #[.slice none 0 0, .slice none 0 0], .int .i64 1]) (by simp [results, Tryz.results56, go_sem, e0, e1]) rfl ⟨rfl, ?_⟩
    repeat (first | exact B2.out | refine Below.setCell ?_ (by simp) _)

end Go.Proofs.YtbgngikejgihgagGreatDoor

namespace Go.Proofs.YtbgngikejgihgagGreatDoor
open Go Go.RowKit
set_option linter.unusedVariables false

theorem GPost.trans {w w1 w2 : World} {B o g : Nat} {cs : Array Value} {t : TypeId} {v v' : Value} {lo hi lo' hi' : Int} {zs zs' : List Int} {sp sp' : List Value} (h : GPost w w1 B o g cs t v lo hi zs sp) (hs : o + 3 ≤ cs.size) (k : GPost w1 w2 B o g (set3 cs o v (.int .i64 lo) (.int .i64 hi)) t v' lo' hi' zs' sp') : GPost w w2 B o g cs t v' lo' hi' zs' sp' := by
  have e := set3_set3 cs o v (.int .i64 lo) (.int .i64 hi) v' (.int .i64 lo') (.int .i64 hi') hs
  have kg := k.gb
  rw [e] at kg
  exact ⟨kg, k.rw, h.chg.trans k.chg (fun _ _ s => s) (fun _ _ s => s)⟩

theorem gpost_set1 {w w1 : World} {B o g : Nat} {cs : Array Value} {t : TypeId} {v : Value} {lo hi : Int} {zs : List Int} {sp : List Value} (h : GB w B o cs t v lo hi) (hBg : B ≠ g) (hr : Row1 w w1 g (ints .i32 zs ++ sp) 21) (b : Int) :
    GPost w (w1.setCell ⟨B, o + 2, none⟩ (.int .i64 b)) B o g cs t v lo b zs sp := by
  have h0 : w1.heap[B]? = some (.cells cs t (0, 0)) := (hr.block B hBg).trans h.blk
  have h2 := heap_setCell_same w1 B (o + 2) _ _ (.int .i64 b) h0
  have hs := h.sz
  refine ⟨GB.of_set3 ?_ h.sz, ?_, ?_⟩
  · rw [h2]
    congr 2
    apply set3_ext (by simp) h.sz
    · rw [Array.getElem?_setIfInBounds, if_neg (by omega)]; exact h.c0
    · rw [Array.getElem?_setIfInBounds, if_neg (by omega)]; exact h.c1
    · rw [Array.getElem?_setIfInBounds, if_pos rfl, if_pos (by omega)]
    · intro j e0 e1 e2
      rw [Array.getElem?_setIfInBounds, if_neg (by omega)]
  · show _ = _
    rw [setCell_block_other (by show g ≠ B; exact hBg.symm)]
    exact hr.row
  · refine ⟨hr.os, hr.tape, hr.output, by simp [hr.size], fun k hk hn => ?_⟩
    rw [setCell_block_other (by show k ≠ B; exact fun e => hn (.inl e))]
    exact hr.block k (fun e => hn (.inr e))

set_option maxHeartbeats 2000000 in
set_option maxRecDepth 100000 in
theorem removeG (B o g cap : Nat) (cs : Array Value) (t : TypeId) (zs : List Int) (sp : List Value) (lo hi a b : Nat) (w : World) (h : GB w B o cs t (.slice (some ⟨g, 0, none⟩) zs.length cap) lo hi) (hr : Rw w g zs sp) (hBg : B ≠ g)
    (hc : zs.length ≤ cap) (hv : GV zs lo hi) (hab : a ≤ b) (hb : b + (hi - lo) ≤ zs.length) :
    Calls Tryz.prog 362 #[.pointer (some ⟨B, o, none⟩), .int .i64 a, .int .i64 b] w fun x w' => x = .returned (.tuple #[]) ∧ GPost w w' B o g cs t (.slice (some ⟨g, 0, none⟩) zs.length cap) a ((b + (hi - lo) : Nat) : Int) (glay ((gtext zs lo hi).take a ++ (gtext zs lo hi).drop b) a zs.length) sp := by
  have h1 := hv.a
  have h2 := hv.b
  have h3 := hv.c
  have hL : (gtext zs lo hi).length = zs.length - (hi - lo) := gtext_length h1 h2
  have hs := h.sz
  have HM := hide (moveToG B o g cap cs t zs sp lo hi a w h hr hBg hc hv (by omega))
  have HC := hide (glay_cut (xs := gtext zs lo hi) (p := a) (q := b) (n := zs.length) hab (by omega) (by omega))
  have hLg : (glay (gtext zs lo hi) a zs.length).length = zs.length := glay_length (by omega) (by omega)
  have eE : a + (zs.length - (gtext zs lo hi).length) = a + (hi - lo) := by omega
  rw [eE] at HC
  generalize gtext zs lo hi = tx at *
  generalize glay tx a zs.length = gl at *
  have HCC := hide (show splice gl (a + (hi - lo)) (List.replicate (b - a) 0) = glay (tx.take a ++ tx.drop b) a zs.length from HC.out)
  generalize glay (tx.take a ++ tx.drop b) a zs.length = res at *
  generalize hN : zs.length = n at *
  obtain ⟨E, hE⟩ : ∃ E, E = a + (hi - lo) := ⟨_, rfl⟩
  obtain ⟨F, hF⟩ : ∃ F, F = b + (hi - lo) := ⟨_, rfl⟩
  rw [← hE] at HM HCC
  rw [← hF]
  have hEF : F = E + (b - a) := by omega
  have hFn : F ≤ n := by omega
  have eF : (E : Int) + (b : Int) - (a : Int) = F := by omega
  have HLg := hide hLg
  have LS := hide (show (List.replicate (b - a) (0 : Int)).length = b - a by simp)
  have i3 : b ≤ n := by omega
  have i4 : b ≤ 65536 := by omega
  have i5 : E ≤ 65536 := by omega
  clear hL eE HC hF hE hb hN hr hLg
  have i1 : E ≤ F := by omega
  have i2 : F ≤ cap := by omega
  have HEF := hide hEF
  clear hEF
  by_cases hco : cap = E
  · obtain rfl : E = F := by omega
    obtain rfl : a = b := by have := HEF.out; omega
    subst hco
    go_enter Tryz.func362, Tryz.ntmps362
    go_wp2_with fail
    refine HM.out.mono ?_
    rintro x w1 ⟨rfl, hp1⟩
    have P1 := hide hp1
    obtain ⟨d0, d1, d2⟩ := hp1.gb.gc
    clear hp1 HM
    go_wp2_with fail
    go_still_tail 10, mixed
    refine wpList_clear_row rfl (.tmp 27) 36 rfl 21 Tryz.underlying36 (.int .i32 0) zero32 rfl rfl (some ⟨g, 0, none⟩) 0 0 rfl g cap _ 21 (by exact P1.out.rw) (fun hpos => absurd hpos (by omega)) (by rw [List.length_append, ints_length, HLg.out]; omega) ?_
    intro w3 rr3
    rw [ints_rep] at rr3
    have R3 := hide (Row1.to (Row1.of_drew rr3.out) (splice_ints (by rw [List.length_replicate, HLg.out]; omega)))
    obtain ⟨d0, d1, d2⟩ := (P1.out.gb.block (w' := w3) (rr3.out.block B hBg)).gc
    obtain ⟨f0, f1, f2⟩ := (P1.out.gb.block (w' := w3) (rr3.out.block B hBg)).gf
    clear rr3
    go_wp2
    go_end0
    refine ⟨rfl, P1.out.trans hs ?_⟩
    have hq := HCC.out
    rw [Nat.sub_self] at hq
    rw [← hq]
    exact gpost_set1 P1.out.gb hBg R3.out _
  · go_enter Tryz.func362, Tryz.ntmps362
    go_wp2_with fail
    refine HM.out.mono ?_
    rintro x w1 ⟨rfl, hp1⟩
    have P1 := hide hp1
    obtain ⟨d0, d1, d2⟩ := hp1.gb.gc
    clear hp1 HM
    go_wp2_with fail
    go_still_tail 10, mixed
    refine wpList_clear_row rfl (.tmp 27) 36 rfl 21 Tryz.underlying36 (.int .i32 0) zero32 rfl rfl (some ⟨g, E, none⟩) (F - E) (cap - E) rfl g E _ 21 (by exact P1.out.rw) (fun _ => rfl) (by rw [List.length_append, ints_length, HLg.out]; omega) ?_
    intro w3 rr3
    rw [ints_rep] at rr3
    have R3 := hide (Row1.to (Row1.of_drew rr3.out) (splice_ints (by rw [List.length_replicate, HLg.out]; omega)))
    obtain ⟨d0, d1, d2⟩ := (P1.out.gb.block (w' := w3) (rr3.out.block B hBg)).gc
    obtain ⟨f0, f1, f2⟩ := (P1.out.gb.block (w' := w3) (rr3.out.block B hBg)).gf
    clear rr3
    go_wp2
    go_end0
    refine ⟨rfl, P1.out.trans hs ?_⟩
    have hq := HCC.out
    rw [show b - a = F - E by have := HEF.out; omega] at hq
    rw [← hq]
    exact gpost_set1 P1.out.gb hBg R3.out _
end Go.Proofs.YtbgngikejgihgagGreatDoor

namespace Go.Proofs.YtbgngikejgihgagGreatDoor
open Go Go.RowKit
set_option linter.unusedVariables false

theorem wpList_clear_none {P : Program} {w : World} {ops : Array Oper} {rest : List Oper} {o : Oper} {a : Act} {Q : Exit → Act → World → Prop} (hgd : o.guard = none) (d : Operand) (dT : TypeId)
    (ho : o.op = .call { callee := .builtin .clear, args := #[d], argTypes := #[dT] }) (e : TypeId) (hu : P.underlying dT = some (.slice e)) (dp : Option Addr) (dCap : Nat) (hd : a.eval d = .slice dp 0 dCap)
    (h : wpList P ops Q rest (a.put o.dst (.tuple #[])) w) : wpList P ops Q (o :: rest) a w := by
  refine wpList_plain hgd fun K hK => ?_
  have hrun := run_clear_none (P := P) w dT e o.type hu dp dCap
  unfold Oper.wp
  simp [execOp, ho, resolve, invoke, builtin, hd, hrun, Result.andThen]
  exact hK _ _ h

/-- Two worlds with one memory. -/
structure Alk (w w' : World) : Prop where
  heap : w'.heap = w.heap
  os : w'.os = w.os
  tape : w'.tape = w.tape
  output : w'.output = w.output
theorem Alk.trans {w w1 w2 : World} (h : Alk w w1) (k : Alk w1 w2) : Alk w w2 := ⟨k.heap.trans h.heap, k.os.trans h.os, k.tape.trans h.tape, k.output.trans h.output⟩

theorem wpList_copy_alk {P : Program} {w : World} {ops : Array Oper} {rest : List Oper} {o : Oper} {a : Act} {Q : Exit → Act → World → Prop} (hgd : o.guard = none) (d s : Operand) (dT sT : TypeId)
    (ho : o.op = .call { callee := .builtin .copy, args := #[d, s], argTypes := #[dT, sT] }) (elem : TypeId) (hu : P.underlying dT = some (.slice elem)) (hsz : (P.info? elem).map (·.size) = some 1)
    (dp sp : Option Addr) (dLen dCap sLen sCap : Nat) (hd : a.eval d = .slice dp dLen dCap) (hs : a.eval s = .slice sp sLen sCap) (hn : Nat.min sLen dLen = 0) (w0 : World) (hw : Alk w0 w)
    (h : ∀ w', Hid (Alk w0 w') → wpList P ops Q rest (a.put o.dst (goInt 0)) w') : wpList P ops Q (o :: rest) a w :=
  wpList_copy_nothing hgd d s dT sT ho elem hu hsz dp sp dLen dCap sLen sCap hd hs hn (h w (hide hw))

/-- What is left where there are no cells. -/
structure GNilPost (w w' : World) (B o : Nat) (cs : Array Value) (t : TypeId) : Prop where
  gb : GB w' B o cs t (.slice none 0 0) 0 0
  chg : Chg w w' (fun k => k = B)

theorem gnil_set {w w1 : World} {B o : Nat} {cs : Array Value} {t : TypeId} (h : GB w B o cs t (.slice none 0 0) 0 0) (hh : w1.heap = w.heap) (ho : w1.os = w.os) (ht : w1.tape = w.tape) (hp : w1.output = w.output) :
    GNilPost w ((w1.setCell ⟨B, o + 1, none⟩ (.int .i64 0)).setCell ⟨B, o + 2, none⟩ (.int .i64 0)) B o cs t := by
  have h0 : w1.heap[B]? = some (.cells cs t (0, 0)) := by rw [hh]; exact h.blk
  have h1 := heap_setCell_same w1 B (o + 1) _ _ (.int .i64 0) h0
  have h2 := heap_setCell_same _ B (o + 2) _ _ (.int .i64 0) h1
  have hs := h.sz
  have e : (cs.setIfInBounds (o + 1) (.int .i64 0)).setIfInBounds (o + 2) (.int .i64 0) = cs := by
    rw [← h.self]
    apply set3_ext (by simp [set3_size]) h.sz
    · rw [Array.getElem?_setIfInBounds, Array.getElem?_setIfInBounds, if_neg (by omega), if_neg (by omega), set3_get _ _ _ _ _ _ hs]; simp
    · rw [Array.getElem?_setIfInBounds, Array.getElem?_setIfInBounds, if_neg (by omega), if_pos rfl, if_pos (by rw [set3_size]; omega)]
    · rw [Array.getElem?_setIfInBounds, if_pos rfl, if_pos (by simp [set3_size]; omega)]
    · intro j e0 e1 e2
      rw [Array.getElem?_setIfInBounds, Array.getElem?_setIfInBounds, if_neg (by omega), if_neg (by omega), set3_get _ _ _ _ _ _ hs]
      simp [e0, e1, e2]
  rw [e] at h2
  refine ⟨⟨h2, h.sz, h.c0, h.c1, h.c2⟩, ho, ht, hp, by simp [hh], fun k hk hn => ?_⟩
  rw [setCell_block_other (by show k ≠ B; exact hn), setCell_block_other (by show k ≠ B; exact hn), hh]

theorem gnil_set1 {w w1 : World} {B o : Nat} {cs : Array Value} {t : TypeId} (h : GB w B o cs t (.slice none 0 0) 0 0) (hh : w1.heap = w.heap) (ho : w1.os = w.os) (ht : w1.tape = w.tape) (hp : w1.output = w.output) :
    GNilPost w (w1.setCell ⟨B, o + 2, none⟩ (.int .i64 0)) B o cs t := by
  have h0 : w1.heap[B]? = some (.cells cs t (0, 0)) := by rw [hh]; exact h.blk
  have h2 := heap_setCell_same w1 B (o + 2) _ _ (.int .i64 0) h0
  have hs := h.sz
  have e : cs.setIfInBounds (o + 2) (.int .i64 0) = cs := by
    rw [← h.self]
    apply set3_ext (by simp [set3_size]) h.sz
    · rw [Array.getElem?_setIfInBounds, if_neg (by omega), set3_get _ _ _ _ _ _ hs]; simp
    · rw [Array.getElem?_setIfInBounds, if_neg (by omega), set3_get _ _ _ _ _ _ hs]; simp
    · rw [Array.getElem?_setIfInBounds, if_pos rfl, if_pos (by rw [set3_size]; omega)]
    · intro j e0 e1 e2
      rw [Array.getElem?_setIfInBounds, if_neg (by omega), set3_get _ _ _ _ _ _ hs]
      simp [e0, e1, e2]
  rw [e] at h2
  refine ⟨⟨h2, h.sz, h.c0, h.c1, h.c2⟩, ho, ht, hp, by simp [hh], fun k hk hn => ?_⟩
  rw [setCell_block_other (by show k ≠ B; exact hn), hh]

theorem GNilPost.trans {w w1 w2 : World} {B o : Nat} {cs : Array Value} {t : TypeId} (h : GNilPost w w1 B o cs t) (k : GNilPost w1 w2 B o cs t) : GNilPost w w2 B o cs t :=
  ⟨k.gb, h.chg.trans k.chg (fun _ _ s => s) (fun _ _ s => s)⟩

set_option maxHeartbeats 1000000 in
set_option maxRecDepth 100000 in
theorem moveToNil (B o : Nat) (cs : Array Value) (t : TypeId) (w : World) (h : GB w B o cs t (.slice none 0 0) 0 0) :
    Calls Tryz.prog 368 #[.pointer (some ⟨B, o, none⟩), .int .i64 0] w fun x w' => x = .returned (.tuple #[]) ∧ GNilPost w w' B o cs t := by
  have HK := hide (gapN B o (.slice none 0 0) 0 0 w h.gc (by omega) (by omega) (by omega))
  have HF := hide h.gf
  have H := hide h
  obtain ⟨c0, c1, c2⟩ := h.gc
  clear h
  go_enter Tryz.func368, Tryz.ntmps368
  go_wp2_with fail
  refine HK.out.mono ?_
  rintro x w0 ⟨rfl, mm0, rfl⟩
  have hh0 := hide (show (w.drewN mm0).heap = w.heap from rfl)
  have ho0 := hide (show (w.drewN mm0).os = w.os from rfl)
  have ht0 := hide (show (w.drewN mm0).tape = w.tape from rfl)
  have hp0 := hide (show (w.drewN mm0).output = w.output from rfl)
  obtain ⟨d0, d1, d2⟩ := H.out.gc.same (w' := w.drewN mm0) rfl
  obtain ⟨f0, f1, f2⟩ := HF.out.same (w' := w.drewN mm0) rfl
  have HF2 := hide HF.out
  clear c0 c1 c2 HK HF
  generalize w.drewN mm0 = w0 at *
  go_wp2_with fail
  go_still_tail 20, mixed
  refine wpList_copy_alk rfl (.tmp 57) (.tmp 67) 36 36 rfl 21 Tryz.underlying36 info_size1 none none 0 0 0 0 rfl rfl rfl w0 ⟨rfl, rfl, rfl, rfl⟩ ?_
  intro w2 hk2
  obtain ⟨d0, d1, d2⟩ := H.out.gc.same (w' := w2) (hk2.out.heap.trans hh0.out)
  obtain ⟨f0, f1, f2⟩ := HF2.out.same (w' := w2) (by rw [hk2.out.heap.trans hh0.out])
  go_wp2_with fail
  go_still_tail 12, mixed
  refine wpList_clear_none rfl (.tmp 80) 36 rfl 21 Tryz.underlying36 none 0 rfl ?_
  go_wp2
  go_end0
  exact ⟨rfl, gnil_set (w1 := w2.drew) H.out (hk2.out.heap.trans hh0.out) (hk2.out.os.trans ho0.out) (hk2.out.tape.trans ht0.out) (hk2.out.output.trans hp0.out)⟩

set_option maxHeartbeats 1000000 in
set_option maxRecDepth 100000 in
theorem removeNil (B o : Nat) (cs : Array Value) (t : TypeId) (w : World) (h : GB w B o cs t (.slice none 0 0) 0 0) :
    Calls Tryz.prog 362 #[.pointer (some ⟨B, o, none⟩), .int .i64 0, .int .i64 0] w fun x w' => x = .returned (.tuple #[]) ∧ GNilPost w w' B o cs t := by
  have HM := hide (moveToNil B o cs t w h)
  clear h
  go_enter Tryz.func362, Tryz.ntmps362
  go_wp2_with fail
  refine HM.out.mono ?_
  rintro x w1 ⟨rfl, hp1⟩
  have P1 := hide hp1
  obtain ⟨d0, d1, d2⟩ := hp1.gb.gc
  obtain ⟨f0, f1, f2⟩ := hp1.gb.gf
  clear hp1 HM
  go_wp2_with fail
  go_still_tail 10, mixed
  refine wpList_clear_none rfl (.tmp 27) 36 rfl 21 Tryz.underlying36 none 0 rfl ?_
  go_wp2
  go_end0
  exact ⟨rfl, P1.out.trans (gnil_set1 (w1 := w1.drew) P1.out.gb rfl rfl rfl rfl)⟩

/-- A row that is owned, with what lies behind it. -/
theorem Rw.of_owns {w : World} {base g n cap : Nat} {zs : List Int} (h : w.ownsRow base 21 1 (.slice (some ⟨g, 0, none⟩) n cap) n (ints .i32 zs)) : base ≤ g ∧ n ≤ cap ∧ cap ≤ maxLen ∧ ∃ sp, Rw w g zs sp ∧ sp.length = cap - n := by
  have hl : zs.length = n := by have := h.1; simpa [ints] using this
  rcases h.2 with ⟨hv, hn⟩ | ⟨g', cap', cur, hv, hb, hh, hc, hm, hsz, htk⟩
  · cases hv
  · simp only [Value.slice.injEq, Option.some.injEq, Addr.mk.injEq, and_true, true_and] at hv
    obtain ⟨rfl, rfl⟩ := hv
    refine ⟨hb, hc, hm, cur.toList.drop n, ?_, by simp [hsz]⟩
    show _ = _
    rw [hh]
    congr 2
    have : cur.toList = ints .i32 zs ++ cur.toList.drop n := by
      rw [← htk, Nat.mul_one, List.take_append_drop]
    exact Array.toList_inj.1 (by simpa using this)

theorem owns_of_rw {w : World} {base g n cap : Nat} {zs : List Int} {sp : List Value} (h : Rw w g zs sp) (hN : zs.length = n) (hb : base ≤ g) (hc : n ≤ cap) (hm : cap ≤ maxLen) (hs : sp.length = cap - n) : w.ownsRow base 21 1 (.slice (some ⟨g, 0, none⟩) n cap) n (ints .i32 zs) := by
  refine ⟨by simp [ints, hN], .inr ⟨g, cap, (ints .i32 zs ++ sp).toArray, rfl, hb, h, hc, hm, by simp [ints, hN, hs]; omega, ?_⟩⟩
  rw [Nat.mul_one, ← hN, ← ints_length .i32 zs]
  simp
end Go.Proofs.YtbgngikejgihgagGreatDoor
