import Derived.Test.YtbgngikejgihgagGreatDoorMq36
import Derived.Test.YtbgngikejgihgagGreatDoorMq18
import Derived.WalkKit
import Derived.WalkLawsBesides
import Derived.StillTailTactics
import Derived.Test.YtbgngikejgihgagGreatDoorMq10
import Derived.Deep.QuietTactic
import Derived.BigQuiet
import Derived.Deep.RegionWith
import Derived.Deep.Cut
import Derived.Deep.CutRange
import Derived.Deep.CutBlock
import Derived.Deep.DeepCutAuto
import Derived.Deep.RegionLaw
import Derived.Test.YtbgngikejgihgagGreatDoorMq34
import Derived.Test.YtbgngikejgihgagGreatDoorMq11
import Derived.Test.YtbgngikejgihgagGreatDoorMq14
namespace Go.Proofs.YtbgngikejgihgagGreatDoor
open Go Go.RowKit
set_option linter.unusedVariables false

/-- The cells of a row of rows. -/
def Cl3 (w : World) (g : Nat) (zs : List T3v) : Prop := ∀ j u, (fl3 zs)[j]? = some u → w.cell? ⟨g, j, none⟩ = some u
theorem Cl3.app' {w : World} {g : Nat} {zs : List T3v} (h : Cl3 w g zs) (p l : Nat) (hp : p + l ≤ zs.length) : ∀ j u, (fl3 ((zs.drop p).take l))[j]? = some u → w.cell? ((⟨g, p * 3, none⟩ : Addr).add j) = some u := by
  intro j u hj
  have hjl : j < l * 3 := by
    have h9 := (List.getElem?_eq_some_iff.1 hj).1
    rw [fl3_len, List.length_take] at h9
    omega
  rw [show (⟨g, p * 3, none⟩ : Addr).add j = ⟨g, p * 3 + j, none⟩ from addr_add _ _ _]
  rw [← fl3_take, ← fl3_drop] at hj
  rw [List.getElem?_take, if_pos hjl, List.getElem?_drop] at hj
  exact h _ _ hj
theorem GB.rc {w : World} {B o : Nat} {cs : Array Value} {t : TypeId} {v : Value} {lo hi : Int} (h : GB w B o cs t v lo hi) : RC w B o v lo hi := ⟨h.gc.c0, h.gc.c1, h.gc.c2⟩

/-- A row of runes with room behind it. -/
def RwR (w : World) (g : Nat) (zs : List T3v) (sp : List Value) : Prop := w.heap[g]? = some (.cells (fl3 zs ++ sp).toArray 177 (0, 0))

/-- What moveTo and its like leave: the gap buffer's cells and its row. -/
structure GPostR (w w' : World) (B o g : Nat) (cs : Array Value) (t : TypeId) (v : Value) (lo hi : Int) (zs : List T3v) (sp : List Value) : Prop where
  gb : GB w' B o (set3 cs o v (.int .i64 lo) (.int .i64 hi)) t v lo hi
  rw : RwR w' g zs sp
  chg : Chg w w' (fun k => k = B ∨ k = g)

theorem gpostR_set2 {w w1 : World} {B o g : Nat} {cs : Array Value} {t : TypeId} {v : Value} {lo hi : Int} {zs : List T3v} {sp : List Value} (h : GB w B o cs t v lo hi) (hBg : B ≠ g) (hr : Row1 w w1 g (fl3 zs ++ sp) 177) (a b : Int) :
    GPostR w ((w1.setCell ⟨B, o + 1, none⟩ (.int .i64 a)).setCell ⟨B, o + 2, none⟩ (.int .i64 b)) B o g cs t v a b zs sp := by
  refine ⟨GB.of_set3 (set2_blk h hBg hr a b) h.sz, ?_, ?_⟩
  · show _ = _
    rw [setCell_block_other (by show g ≠ B; exact hBg.symm), setCell_block_other (by show g ≠ B; exact hBg.symm)]
    exact hr.row
  · refine ⟨hr.os, hr.tape, hr.output, by simp [hr.size], fun k hk hn => ?_⟩
    rw [setCell_block_other (by show k ≠ B; exact fun e => hn (.inl e)), setCell_block_other (by show k ≠ B; exact fun e => hn (.inl e))]
    exact hr.block k (fun e => hn (.inr e))

/-- The gap moved. -/
theorem moveRG (B o g cap : Nat) (cs : Array Value) (t : TypeId) (zs : List T3v) (sp : List Value) (lo hi p : Nat) (w : World) (h : GB w B o cs t (.slice (some ⟨g, 0, none⟩) zs.length cap) lo hi) (hr : RwR w g zs sp) (hO : One3 zs) (hBg : B ≠ g)
    (hc : zs.length ≤ cap) (hv : GVA z3 zs lo hi) (hp : p + (hi - lo) ≤ zs.length) :
    Calls Tryz.prog 370 #[.pointer (some ⟨B, o, none⟩), .int .i64 p] w fun x w' => x = .returned (.tuple #[]) ∧ GPostR w w' B o g cs t (.slice (some ⟨g, 0, none⟩) zs.length cap) p ((p + (hi - lo) : Nat) : Int) (glayA z3 (gtextA zs lo hi) p zs.length) sp :=
  (moveRN B o g cap zs sp lo hi p w h.rc h.gf hr hO hBg hc hv hp).mono fun x w' ⟨hx, w1, hr1, hw⟩ => ⟨hx, by rw [hw]; exact gpostR_set2 h hBg hr1 _ _⟩
theorem GPostR.trans {w w1 w2 : World} {B o g : Nat} {cs : Array Value} {t : TypeId} {v v' : Value} {lo hi lo' hi' : Int} {zs zs' : List T3v} {sp sp' : List Value} (h : GPostR w w1 B o g cs t v lo hi zs sp) (hs : o + 3 ≤ cs.size) (k : GPostR w1 w2 B o g (set3 cs o v (.int .i64 lo) (.int .i64 hi)) t v' lo' hi' zs' sp') : GPostR w w2 B o g cs t v' lo' hi' zs' sp' := by
  have e := set3_set3 cs o v (.int .i64 lo) (.int .i64 hi) v' (.int .i64 lo') (.int .i64 hi') hs
  have kg := k.gb
  rw [e] at kg
  exact ⟨kg, k.rw, h.chg.trans k.chg (fun _ _ s => s) (fun _ _ s => s)⟩

theorem gpostR_set1 {w w1 : World} {B o g : Nat} {cs : Array Value} {t : TypeId} {v : Value} {lo hi : Int} {zs : List T3v} {sp : List Value} (h : GB w B o cs t v lo hi) (hBg : B ≠ g) (hr : Row1 w w1 g (fl3 zs ++ sp) 177) (b : Int) :
    GPostR w (w1.setCell ⟨B, o + 2, none⟩ (.int .i64 b)) B o g cs t v lo b zs sp := by
  have h0 : w1.heap[B]? = some (.cells cs t (0, 0)) := (hr.block B hBg).trans h.blk
  have h2 := heap_setCell_same w1 B (o + 2) _ _ (.int .i64 b) h0
  have hs := h.sz
  refine ⟨GB.of_set3 ?_ h.sz, ?_, ?_⟩
  · rw [h2]
    congr 2
    apply set3_ext (by simp) h.sz
    · rw [Array.getElem?_setIfInBounds, if_neg (by omega)]; exact h.c0
    · rw [Array.getElem?_setIfInBounds, if_neg (by omega)]; exact h.c1
    · rw [Array.getElem?_setIfInBounds, if_pos rfl, if_pos (by omega)]
    · intro j e0 e1 e2
      rw [Array.getElem?_setIfInBounds, if_neg (by omega)]
  · show _ = _
    rw [setCell_block_other (by show g ≠ B; exact hBg.symm)]
    exact hr.row
  · refine ⟨hr.os, hr.tape, hr.output, by simp [hr.size], fun k hk hn => ?_⟩
    rw [setCell_block_other (by show k ≠ B; exact fun e => hn (.inl e))]
    exact hr.block k (fun e => hn (.inr e))

set_option maxHeartbeats 2000000 in
set_option maxRecDepth 100000 in
theorem removeR (B o g cap : Nat) (cs : Array Value) (t : TypeId) (zs : List T3v) (sp : List Value) (lo hi a b : Nat) (w : World) (h : GB w B o cs t (.slice (some ⟨g, 0, none⟩) zs.length cap) lo hi) (hr : RwR w g zs sp) (hO : One3 zs) (hBg : B ≠ g)
    (hc : zs.length ≤ cap) (hv : GVA z3 zs lo hi) (hab : a ≤ b) (hb : b + (hi - lo) ≤ zs.length) :
    Calls Tryz.prog 366 #[.pointer (some ⟨B, o, none⟩), .int .i64 a, .int .i64 b] w fun x w' => x = .returned (.tuple #[]) ∧ GPostR w w' B o g cs t (.slice (some ⟨g, 0, none⟩) zs.length cap) a ((b + (hi - lo) : Nat) : Int) (glayA z3 ((gtextA zs lo hi).take a ++ (gtextA zs lo hi).drop b) a zs.length) sp := by
  have h1 := hv.a
  have h2 := hv.b
  have h3 := hv.c
  have hL : (gtextA zs lo hi).length = zs.length - (hi - lo) := gtext_lengthA h1 h2
  have hs := h.sz
  have HM := hide (moveRG B o g cap cs t zs sp lo hi a w h hr hO hBg hc hv (by omega))
  have HC := hide (glay_cutA (z := z3) (xs := gtextA zs lo hi) (p := a) (q := b) (n := zs.length) hab (by omega) (by omega))
  have hLg : (glayA z3 (gtextA zs lo hi) a zs.length).length = zs.length := glay_lengthA (z := z3) (by omega) (by omega)
  have eE : a + (zs.length - (gtextA zs lo hi).length) = a + (hi - lo) := by omega
  rw [eE] at HC
  generalize gtextA zs lo hi = tx at *
  generalize glayA z3 tx a zs.length = gl at *
  have HCC := hide (show splice gl (a + (hi - lo)) (List.replicate (b - a) z3) = glayA z3 (tx.take a ++ tx.drop b) a zs.length from HC.out)
  generalize glayA z3 (tx.take a ++ tx.drop b) a zs.length = res at *
  generalize hN : zs.length = n at *
  obtain ⟨E, hE⟩ : ∃ E, E = a + (hi - lo) := ⟨_, rfl⟩
  obtain ⟨F, hF⟩ : ∃ F, F = b + (hi - lo) := ⟨_, rfl⟩
  rw [← hE] at HM HCC
  rw [← hF]
  have hEF : F = E + (b - a) := by omega
  have hFn : F ≤ n := by omega
  have eF : (E : Int) + (b : Int) - (a : Int) = F := by omega
  have HLg := hide hLg
  have LS := hide (show (List.replicate (b - a) z3).length = b - a by simp)
  have i3 : b ≤ n := by omega
  have i4 : b ≤ 65536 := by omega
  have i5 : E ≤ 65536 := by omega
  clear hL eE HC hF hE hb hN hr hLg
  have i1 : E ≤ F := by omega
  have i2 : F ≤ cap := by omega
  have HEF := hide hEF
  clear hEF
  by_cases hco : cap = E
  · obtain rfl : E = F := by omega
    obtain rfl : a = b := by have := HEF.out; omega
    subst hco
    go_enter Tryz.func366, Tryz.ntmps366
    go_wp2_with fail
    refine HM.out.mono ?_
    rintro x w1 ⟨rfl, hp1⟩
    have P1 := hide hp1
    obtain ⟨d0, d1, d2⟩ := hp1.gb.rc
    clear hp1 HM
    go_wp2_with fail
    go_still_tail 10, mixed
    refine wpList_clear_row3 rfl (.tmp 27) 168 rfl 177 Tryz.underlying168 (.agg #[.slice none 0 0, .int .i64 0, .int .i64 0]) (.slice none 0 0) (.int .i64 0) (.int .i64 0) zero3R rfl ⟨rfl, rfl, rfl⟩ (some ⟨g, 0, none⟩) 0 0 rfl g (cap * 3) _ 177 (by exact P1.out.rw) (fun hpos => absurd hpos (by omega)) (by rw [List.length_append, fl3_len, HLg.out]; omega) ?_
    intro w3 rr3
    have R3 := hide (Row1.to (Row1.of_drew rr3.out) (splice_fl3 (by rw [List.length_replicate, HLg.out]; omega)))
    obtain ⟨d0, d1, d2⟩ := (P1.out.gb.block (w' := w3) (rr3.out.block B hBg)).rc
    obtain ⟨f0, f1, f2⟩ := (P1.out.gb.block (w' := w3) (rr3.out.block B hBg)).gf
    clear rr3
    go_wp2
    go_end0
    refine ⟨rfl, P1.out.trans hs ?_⟩
    have hq := HCC.out
    rw [Nat.sub_self] at hq
    rw [← hq]
    exact gpostR_set1 P1.out.gb hBg R3.out _
  · go_enter Tryz.func366, Tryz.ntmps366
    go_wp2_with fail
    refine HM.out.mono ?_
    rintro x w1 ⟨rfl, hp1⟩
    have P1 := hide hp1
    obtain ⟨d0, d1, d2⟩ := hp1.gb.rc
    clear hp1 HM
    go_wp2_with fail
    go_still_tail 10, mixed
    refine wpList_clear_row3 rfl (.tmp 27) 168 rfl 177 Tryz.underlying168 (.agg #[.slice none 0 0, .int .i64 0, .int .i64 0]) (.slice none 0 0) (.int .i64 0) (.int .i64 0) zero3R rfl ⟨rfl, rfl, rfl⟩ (some ⟨g, E * 3, none⟩) (F - E) (cap - E) rfl g (E * 3) _ 177 (by exact P1.out.rw) (fun _ => rfl) (by rw [List.length_append, fl3_len, HLg.out]; omega) ?_
    intro w3 rr3
    have R3 := hide (Row1.to (Row1.of_drew rr3.out) (splice_fl3 (by rw [List.length_replicate, HLg.out]; omega)))
    obtain ⟨d0, d1, d2⟩ := (P1.out.gb.block (w' := w3) (rr3.out.block B hBg)).rc
    obtain ⟨f0, f1, f2⟩ := (P1.out.gb.block (w' := w3) (rr3.out.block B hBg)).gf
    clear rr3
    go_wp2
    go_end0
    refine ⟨rfl, P1.out.trans hs ?_⟩
    have hq := HCC.out
    rw [show b - a = F - E by have := HEF.out; omega] at hq
    rw [← hq]
    exact gpostR_set1 P1.out.gb hBg R3.out _
/-- A row that is owned, with what lies behind it. -/
theorem RwR.of_owns {w : World} {base g n cap : Nat} {zs : List T3v} (h : w.ownsRow base 177 3 (.slice (some ⟨g, 0, none⟩) n cap) n (fl3 zs)) : base ≤ g ∧ n ≤ cap ∧ cap ≤ maxLen ∧ ∃ sp, RwR w g zs sp ∧ sp.length = cap * 3 - n * 3 := by
  have hl : zs.length = n := by have := h.1; rw [fl3_len] at this; omega
  rcases h.2 with ⟨hv, hn⟩ | ⟨g', cap', cur, hv, hb, hh, hc, hm, hsz, htk⟩
  · cases hv
  · simp only [Value.slice.injEq, Option.some.injEq, Addr.mk.injEq, and_true, true_and] at hv
    obtain ⟨rfl, rfl⟩ := hv
    refine ⟨hb, hc, hm, cur.toList.drop (n * 3), ?_, by simp [hsz]⟩
    show _ = _
    rw [hh]
    congr 2
    have : cur.toList = fl3 zs ++ cur.toList.drop (n * 3) := by
      rw [← htk, List.take_append_drop]
    exact Array.toList_inj.1 (by simpa using this)

theorem ownsR_of_rw {w : World} {base g n cap : Nat} {zs : List T3v} {sp : List Value} (h : RwR w g zs sp) (hN : zs.length = n) (hb : base ≤ g) (hc : n ≤ cap) (hm : cap ≤ maxLen) (hs : sp.length = cap * 3 - n * 3) : w.ownsRow base 177 3 (.slice (some ⟨g, 0, none⟩) n cap) n (fl3 zs) := by
  refine ⟨by rw [fl3_len, hN], .inr ⟨g, cap, (fl3 zs ++ sp).toArray, rfl, hb, h, hc, hm, by have := fl3_len zs; simp [hs]; omega, ?_⟩⟩
  have e := fl3_len zs
  rw [hN] at e
  rw [← e]
  simp
end Go.Proofs.YtbgngikejgihgagGreatDoor

namespace Go.Proofs.YtbgngikejgihgagGreatDoor
open Go Go.RowKit
set_option linter.unusedVariables false

theorem RwR.row1 {w : World} {g : Nat} {zs : List T3v} {sp : List Value} (h : RwR w g zs sp) : Row1 w w g (fl3 zs ++ sp) 177 := Row1.refl h

/-- What makeRoom leaves where it grows. -/
structure GrowPostR (w w' : World) (B o : Nat) (cs : Array Value) (t : TypeId) (lo hi R : Nat) (zs : List T3v) (g : Nat) : Prop where
  ge : w.heap.size ≤ g
  gb : GB w' B o (set3 cs o (.slice (some ⟨g, 0, none⟩) R R) (.int .i64 lo) (.int .i64 hi)) t (.slice (some ⟨g, 0, none⟩) R R) lo hi
  rw : RwR w' g zs []
  chg : Chg w w' (fun k => k = B)

end Go.Proofs.YtbgngikejgihgagGreatDoor

namespace Go.Proofs.YtbgngikejgihgagGreatDoor
open Go Go.RowKit
set_option linter.unusedVariables false

end Go.Proofs.YtbgngikejgihgagGreatDoor

namespace Go.Proofs.YtbgngikejgihgagGreatDoor
open Go Go.RowKit
set_option linter.unusedVariables false

end Go.Proofs.YtbgngikejgihgagGreatDoor

namespace Go.Proofs.YtbgngikejgihgagGreatDoor
open Go Go.RowKit
set_option linter.unusedVariables false

end Go.Proofs.YtbgngikejgihgagGreatDoor

namespace Go.Proofs.YtbgngikejgihgagGreatDoor
open Go Go.RowKit
set_option linter.unusedVariables false

/-- What makeRoom leaves, grown or not. -/
structure RoomPostT (w w1 : World) (B o : Nat) (cs : Array Value) (t : TypeId) (tx : List T3v) (n N : Nat) (S : Nat → Prop) (g2 cap2 : Nat) (zs2 : List T3v) (sp2 : List Value) (lo2 hi2 : Nat) : Prop where
  gb : GB w1 B o (set3 cs o (.slice (some ⟨g2, 0, none⟩) N cap2) (.int .i64 lo2) (.int .i64 hi2)) t (.slice (some ⟨g2, 0, none⟩) N cap2) lo2 hi2
  rw : RwR w1 g2 zs2 sp2
  len : zs2.length = N
  gv : GVA z3 zs2 lo2 hi2
  tx : gtextA zs2 lo2 hi2 = tx
  room : n ≤ hi2 - lo2
  cap : N ≤ cap2 ∧ cap2 ≤ maxLen ∧ sp2.length = cap2 * 3 - N * 3
  low : g2 < w.heap.size → S g2
  ne : B ≠ g2
  chg : Chg w w1 S
  one : One3 zs2

/-- What insert leaves. -/
structure InsPostT (w w1 : World) (B o : Nat) (cs : Array Value) (t : TypeId) (zs : List T3v) (N : Nat) (S : Nat → Prop) (lo hi : Nat) (g2 cap2 : Nat) (sp2 : List Value) : Prop where
  gb : GB w1 B o (set3 cs o (.slice (some ⟨g2, 0, none⟩) N cap2) (.int .i64 lo) (.int .i64 hi)) t (.slice (some ⟨g2, 0, none⟩) N cap2) lo hi
  rw : RwR w1 g2 zs sp2
  cap : N ≤ cap2 ∧ cap2 ≤ maxLen ∧ sp2.length = cap2 * 3 - N * 3
  low : g2 < w.heap.size → S g2
  ne : B ≠ g2
  chg : Chg w w1 S
  one : One3 zs

end Go.Proofs.YtbgngikejgihgagGreatDoor

namespace Go.Proofs.YtbgngikejgihgagGreatDoor
open Go Go.RowKit
set_option linter.unusedVariables false

end Go.Proofs.YtbgngikejgihgagGreatDoor

namespace Go.Proofs.YtbgngikejgihgagGreatDoor
open Go Go.RowKit
set_option linter.unusedVariables false

theorem Nest.keep {w w1 : World} {lo hi : Nat} {A : List Value} {la : List (List Int)} {S : Nat → Prop} (h : Nest w lo hi A la) (hc : Chg w w1 S) (hS : ∀ (i : Nat) v l q, A[i]? = some v → la[i]? = some l → o32 w lo v l → v.ownBlock = some q → ¬ S q) : Nest w1 lo hi A la :=
  ⟨h.len, fun i v l hv hl => owns_of_block (h.own i v l hv hl) (fun q hq => hc.block q ((h.own i v l hv hl).lt q hq).2 (hS i v l q hv hl (h.own i v l hv hl) hq)), h.bl, h.ne⟩
theorem LCr.gb {w : World} {lo hi c : Nat} {rv sv : Value} {vs : List Value} {gs : List Gr} {a b : Nat} {rn : Int} {st : List Int} (h : LCr w lo hi c rv sv vs gs a b rn st) : GB w c 0 #[rv, .int .i64 a, .int .i64 b, .int .i64 rn, sv] 179 rv a b :=
  ⟨h.blk, by simp, rfl, rfl, rfl⟩
/-- What the core's gap buffer may change. -/
def Sc (c g : Nat) : Nat → Prop := fun k => k = c ∨ k = g
/-- The core with other rows. -/
theorem LCr.other {w w1 : World} {lo hi c g cap n : Nat} {sv : Value} {vs vs' : List Value} {gs G : List Gr} {a b a' b' : Nat} {rn : Int} {st : List Int} {v' : Value} (h : LCr w lo hi c (.slice (some ⟨g, 0, none⟩) n cap) sv vs gs a b rn st) (hh : hi ≤ w.heap.size)
    (hb : w1.heap[c]? = some (.cells #[v', .int .i64 a', .int .i64 b', .int .i64 rn, sv] 179 (0, 0))) (hc : Chg w w1 (Sc c g)) (hr : OwG 177 w1 lo w1.heap.size v' vs' G) : LCr w1 lo w1.heap.size c v' sv vs' G a' b' rn st := by
  refine ⟨hb, hr, ?_, bel_mono h.sbl (by have := hc.size; omega)⟩
  refine owns_of_block h.starts (fun q hq => hc.block q (h.starts.lt q hq).2 (fun s => ?_))
  rcases s with s | s
  · exact own_apart h.starts (blk_row h.blk) (by decide) hq (by simp [Value.ownBlock, s])
  · exact own_apart h.starts h.rows.row (by decide) hq (by simp [Value.ownBlock, s])
theorem LCr.apart {w : World} {lo lo2 hi c g cap n : Nat} {sv : Value} {vs : List Value} {gs : List Gr} {a b : Nat} {rn : Int} {st : List Int} (h : LCr w lo hi c (.slice (some ⟨g, 0, none⟩) n cap) sv vs gs a b rn st) {v : Value} {l : List Int} {q : Nat} (ho : o32 w lo2 v l) (hq : v.ownBlock = some q) : ¬ Sc c g q := by
  rintro (s | s)
  · exact own_apart ho (blk_row h.blk) (by decide) hq (by simp [Value.ownBlock, s])
  · exact own_apart ho h.rows.row (by decide) hq (by simp [Value.ownBlock, s])
theorem chg_below {w w1 : World} {lo c g : Nat} (h : Chg w w1 (Sc c g)) (h1 : lo ≤ c) (h2 : lo ≤ g) (h3 : c < w.heap.size) : Below lo w w1 :=
  ⟨h.os, h.tape, h.output, h.size, fun k hk => h.block k (by omega) (fun s => by rcases s with s | s <;> omega)⟩

/-- Rows taken out. -/
theorem rowsDelN {w : World} {lo hi c g cap n a b : Nat} {sv : Value} {vs : List Value} {gs : List Gr} {rn : Int} {st : List Int} (h : LCr w lo hi c (.slice (some ⟨g, 0, none⟩) n cap) sv vs gs n n rn st) (hn : gs.length = n) (hh : hi ≤ w.heap.size) (hlc : lo ≤ c) (hab : a ≤ b) (hb : b ≤ n) (hn2 : n ≤ 16384) :
    Calls Tryz.prog 366 #[.pointer (some ⟨c, 0, none⟩), .int .i64 a, .int .i64 b] w fun e w' => e = .returned (.tuple #[]) ∧ ∃ vs', LCr w' lo w'.heap.size c (.slice (some ⟨g, 0, none⟩) n cap) sv vs' (glayA nilG (gs.take a ++ gs.drop b) a n) a b rn st ∧ Below lo w w' := by
  have hvl := h.rows.len
  have hcl := h.lt
  have hrow := h.rows.row
  rw [hn, grVs_fl3] at hrow
  have htl : (trs vs gs).length = n := by rw [trs_len hvl, hn]
  have hgl := (hrow.lt g rfl)
  obtain ⟨_, hc0, hm0, sp, hrw, hsp⟩ := RwR.of_owns hrow
  have hO : One3 (trs vs gs) := trs_one h.rows.nest.one
  have hne : c ≠ g := fun e => own_apart (blk_row h.blk) h.rows.row (by decide) (q := c) rfl (by simp [Value.ownBlock, e])
  have hgt : gtextA (trs vs gs) n n = trs vs gs := by unfold gtextA; rw [List.take_append_drop]
  have hv : GVA z3 (trs vs gs) n n := ⟨Nat.le_refl _, by omega, fun i a b => by omega, by omega, by omega⟩
  have h8 := removeR c 0 g cap #[.slice (some ⟨g, 0, none⟩) n cap, .int .i64 n, .int .i64 n, .int .i64 rn, sv] 179 (trs vs gs) sp n n a b w (by rw [htl]; exact h.gb) hrw hO hne (by omega) hv hab (by omega)
  rw [hgt, htl, Nat.sub_self, Nat.add_zero] at h8
  refine h8.mono ?_
  rintro e w' ⟨rfl, hP⟩
  have hsz := hP.chg.size
  have hcg : Chg w w' (Sc c g) := hP.chg
  have elay : (trs vs gs).take a ++ (trs vs gs).drop b = trs (vs.take a ++ vs.drop b) (gs.take a ++ gs.drop b) := by
    rw [trs_take, trs_drop, trs_app (by simp [hvl])]
  have hxl : (vs.take a ++ vs.drop b).length = (gs.take a ++ gs.drop b).length := by simp [hvl]
  have hXL : (gs.take a ++ gs.drop b).length = n - (b - a) := by simp only [List.length_append, List.length_take, List.length_drop]; omega
  have hlay : glayA z3 ((trs vs gs).take a ++ (trs vs gs).drop b) a n = trs (glayA (.slice none 0 0) (vs.take a ++ vs.drop b) a n) (glayA nilG (gs.take a ++ gs.drop b) a n) := by
    rw [elay]; exact trs_lay a n hxl
  have hgl2 : (glayA nilG (gs.take a ++ gs.drop b) a n).length = n := glay_lengthA (by omega) (by omega)
  have hvl2 : (glayA (Value.slice none 0 0) (vs.take a ++ vs.drop b) a n).length = n := glay_lengthA (by omega) (by omega)
  have hrw2 := hP.rw
  rw [hlay] at hrw2
  have hrow2 := ownsR_of_rw (base := lo) hrw2 (by rw [trs_len (by rw [hgl2, hvl2]), hgl2]) hgl.1 hc0 hm0 hsp
  rw [← grVs_fl3] at hrow2
  have nA : Nest w' lo w'.heap.size vs (gs.map Gr.cells) := (h.rows.nest.keep hcg (fun i v l q _ _ ho hq => h.apart ho hq)).mono (Nat.le_refl _) (by omega)
  have eV : glayA (Value.slice none 0 0) (vs.take a ++ vs.drop b) a n = vs.take a ++ (List.replicate (b - a) (.slice none 0 0) ++ vs.drop b) := by
    have e1 : (vs.take a).length = a := by simp; omega
    unfold glayA
    rw [hxl, hXL, List.take_left' e1, List.drop_left' e1, show n - (n - (b - a)) = b - a by omega]
  have eG : glayA nilG (gs.take a ++ gs.drop b) a n = gs.take a ++ (List.replicate (b - a) nilG ++ gs.drop b) := by
    have e1 : (gs.take a).length = a := by simp; omega
    unfold glayA
    rw [hXL, List.take_left' e1, List.drop_left' e1, show n - (n - (b - a)) = b - a by omega]
  have nest : Nest w' lo w'.heap.size (glayA (.slice none 0 0) (vs.take a ++ vs.drop b) a n) ((glayA nilG (gs.take a ++ gs.drop b) a n).map Gr.cells) := by
    rw [eV, eG]
    simp only [List.map_append, List.map_take, List.map_drop]
    refine Nest.app (nA.take a) (Nest.app (Nest.nils w' lo w'.heap.size _) (nA.drop b) ?_) ?_
    · intro u hu v _ q hq
      rw [List.eq_of_mem_replicate hu] at hq
      simp [Value.ownBlock] at hq
    · intro u hu v hv q hq hq'
      rcases List.mem_append.1 hv with r | r
      · rw [List.eq_of_mem_replicate r] at hq'
        simp [Value.ownBlock] at hq'
      · exact nA.parts a b hab u hu v r q hq hq'
  have hbl2 : bel w'.heap.size (.slice (some ⟨g, 0, none⟩) n cap) := fun q hq => (hrow2.lt q hq).2
  have hOw : OwG 177 w' lo w'.heap.size (.slice (some ⟨g, 0, none⟩) n cap) (glayA (.slice none 0 0) (vs.take a ++ vs.drop b) a n) (glayA nilG (gs.take a ++ gs.drop b) a n) := ⟨by rw [hgl2]; exact hrow2, hbl2, nest⟩
  have hblk := hP.gb.blk
  exact ⟨rfl, _, h.other hh (by first | exact hblk | simpa [set3] using hblk) hcg hOw, chg_below hcg hlc hgl.1 hcl⟩
end Go.Proofs.YtbgngikejgihgagGreatDoor
