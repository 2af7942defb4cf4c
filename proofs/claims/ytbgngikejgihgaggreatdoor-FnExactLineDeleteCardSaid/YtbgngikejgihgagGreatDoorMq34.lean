import Derived.Test.YtbgngikejgihgagGreatDoorMq33
import Derived.WalkKit
import Derived.WalkLawsBesides
import Derived.Deep.RegionLaw
import Derived.Deep.Cut
import Derived.Deep.CutRange
import Derived.Deep.CutBlock
import Derived.Deep.DeepCutAuto
import Derived.Test.YtbgngikejgihgagGreatDoorMq32
import Derived.Test.YtbgngikejgihgagGreatDoorMq19
import Derived.Test.YtbgngikejgihgagGreatDoorMq31
namespace Go.Proofs.YtbgngikejgihgagGreatDoor
open Go Go.RowKit
set_option linter.unusedVariables false

theorem i64wS (x : Int) (h : -9223372036854775808 ≤ x) (h2 : x < 9223372036854775808) : IntKind.i64.wrap x = x := by rw [IntKind.wrap_i64]; omega

/-- Behind the copy: the first place moves on. -/
theorem insS_set {w w1 : World} {B o g : Nat} {cs : Array Value} {t : TypeId} {v : Value} {lo hi : Int} {zs : List Int} {sp : List Value} (h : GB w B o cs t v lo hi) (hBg : B ≠ g) (hr : Row1 w w1 g (ints .i32 zs ++ sp) 21) (a : Int) :
    GPost w (w1.setCell ⟨B, o + 1, none⟩ (.int .i64 a)) B o g cs t v a hi zs sp := by
  have h0 : w1.heap[B]? = some (.cells cs t (0, 0)) := (hr.block B hBg).trans h.blk
  have h2 := heap_setCell_same w1 B (o + 1) _ _ (.int .i64 a) h0
  have hs := h.sz
  refine ⟨GB.of_set3 ?_ h.sz, ?_, ?_⟩
  · rw [h2]
    congr 2
    apply set3_ext (by simp) h.sz
    · rw [Array.getElem?_setIfInBounds, if_neg (by omega)]; exact h.c0
    · rw [Array.getElem?_setIfInBounds, if_pos rfl, if_pos (by omega)]
    · rw [Array.getElem?_setIfInBounds, if_neg (by omega)]; exact h.c2
    · intro j e0 e1 e2
      rw [Array.getElem?_setIfInBounds, if_neg (by omega)]
  · show _ = _
    rw [setCell_block_other (by show g ≠ B; exact hBg.symm)]
    exact hr.row
  · refine ⟨hr.os, hr.tape, hr.output, by simp [hr.size], fun k hk hn => ?_⟩
    rw [setCell_block_other (by show k ≠ B; exact fun e => hn (.inl e))]
    exact hr.block k (fun e => hn (.inr e))

set_option maxHeartbeats 4000000 in
set_option maxRecDepth 100000 in
theorem insertCoreS (B o : Nat) (cs : Array Value) (t : TypeId) (tx ts : List Int) (ap : Option Addr) (n cp : Nat) (N p : Nat) (S : Nat → Prop) (w : World) (hs : o + 3 ≤ cs.size) (hn : n = ts.length) (hp : p ≤ tx.length) (hroom : tx.length + n ≤ N) (hDB : S B)
    (hT : ∀ w', Chg w w' S → Sl .i32 w' (.slice ap n cp) ts)
    (HR : Hid (Calls Tryz.prog 367 #[.pointer (some ⟨B, o, none⟩), .int .i64 n] w fun x w1 => x = .returned (.tuple #[]) ∧ ∃ g2 cap2 zs2 sp2 lo2 hi2, RoomPostS w w1 B o cs t tx n N S g2 cap2 zs2 sp2 lo2 hi2)) :
    Calls Tryz.prog 360 #[.pointer (some ⟨B, o, none⟩), .int .i64 p, .slice ap n cp] w fun x w' => x = .returned (.tuple #[]) ∧ ∃ g2 cap2 sp2, InsPostS w w' B o cs t (glay (tx.take p ++ (ts ++ tx.drop p)) (p + n) N) N S (p + n) (p + (N - tx.length)) g2 cap2 sp2 := by
  have HT := hide hT
  have HNN := hide hn
  have gl : (glay tx p N).length = N := glay_length hp (by omega)
  have HPT := hide (glay_put (xs := tx) (ts := ts) (p := p) (n := N) hp (by omega))
  rw [← hn] at HPT
  have GLL := hide gl
  have MVT := hide (fun g2 cap2 cs' zs2 sp2 lo2 hi2 w1 h hr hBg hc hv hp' => moveToG B o g2 cap2 cs' t zs2 sp2 lo2 hi2 p w1 h hr hBg hc hv hp')
  obtain ⟨gz, hgz⟩ : ∃ gz, gz = glay tx p N := ⟨_, rfl⟩
  have HGZ := hide hgz
  rw [← hgz] at HPT GLL
  clear hgz gl
  generalize glay (tx.take p ++ (ts ++ tx.drop p)) (p + n) N = res at *
  obtain ⟨E, hE⟩ : ∃ E, E = p + (N - tx.length) := ⟨_, rfl⟩
  rw [← hE]
  have HEE := hide hE
  clear hT hn hE
  go_enter Tryz.func360, Tryz.ntmps360
  go_wp2_with fail
  refine HR.out.mono ?_
  rintro x w1 ⟨rfl, g2, cap2, zs2, sp2, lo2, hi2, hp1⟩
  have hc1 := hp1.cap
  have hg1 := hp1.gv
  have hL : tx.length = N - (hi2 - lo2) := by rw [← hp1.tx, gtext_length hg1.a hg1.b, hp1.len]
  have b1 := hg1.a
  have b2 := hg1.b
  have b3 := hg1.c
  rw [hp1.len] at b2 b3
  have rm := hp1.room
  have MV := hide (MVT.out g2 cap2 _ zs2 sp2 lo2 hi2 w1 (by rw [hp1.len]; exact hp1.gb) hp1.rw hp1.ne (by rw [hp1.len]; exact hc1.1) hg1 (by rw [hp1.len]; omega))
  rw [hp1.tx, hp1.len, ← HGZ.out] at MV
  have ehi : p + (hi2 - lo2) = E := by rw [HEE.out]; omega
  rw [ehi] at MV
  have P1 := hide hp1
  have hne := hp1.ne
  have hlow := hp1.low
  have e1 : p + n ≤ E := by omega
  have e2 : E ≤ N := by omega
  have e3 : N ≤ 65536 := by omega
  have e4 : N ≤ cap2 := hc1.1
  have HC1 := hide hc1
  clear hp1 ehi hL b1 b2 b3 rm hg1 HR hc1 MVT
  go_wp2_with fail
  refine MV.out.mono ?_
  rintro x w2 ⟨rfl, hp2⟩
  have P2 := hide hp2
  have C2 := hide (P1.out.chg.trans hp2.chg (U := S) (fun _ _ s => s) (fun i hi s => by rcases s with rfl | rfl; exact hDB; exact hlow hi))
  have TS := hide (HT.out w2 C2.out)
  obtain ⟨d0, d1, d2⟩ := hp2.gb.gc
  obtain ⟨f0, f1, f2⟩ := hp2.gb.gf
  clear hp2 MV HT
  have hnE : (ints .i32 ts).length = n := by rw [ints_length, ← HNN.out]
  have HNE := hide hnE
  clear hnE
  have i1 : p ≤ E := by omega
  have i2 : E ≤ cap2 := by omega
  have addn : (p : Int) + (n : Int) = ((p + n : Nat) : Int) := by omega
  have fin : ∀ w3, Row1 w2 w3 g2 (splice (ints .i32 gz ++ sp2) p (ints .i32 ts)) 21 → ∃ g2' cap2' sp2', InsPostS w (w3.setCell ⟨B, o + 1, none⟩ (.int .i64 ((p + n : Nat) : Int))) B o cs t res N S (p + n) E g2' cap2' sp2' := by
    intro w3 hr3
    have hr3' := Row1.to hr3 (splice_ints (by rw [GLL.out, ← HNN.out]; omega))
    rw [HPT.out] at hr3'
    have q := P2.out.trans (by rw [set3_size]; exact hs) (insS_set P2.out.gb hne hr3' ((p + n : Nat) : Int))
    have e := set3_set3 cs o (.slice (some ⟨g2, 0, none⟩) N cap2) (.int .i64 lo2) (.int .i64 hi2) (.slice (some ⟨g2, 0, none⟩) N cap2) (.int .i64 ((p + n : Nat) : Int)) (.int .i64 E) hs
    have qg := q.gb
    rw [e] at qg
    exact ⟨g2, cap2, sp2, qg, q.rw, HC1.out, hlow, hne, P1.out.chg.trans q.chg (fun _ _ s => s) (fun i hi s => by rcases s with rfl | rfl; exact hDB; exact hlow hi)⟩
  have FIN := hide fin
  have wr : IntKind.i64.wrap ((p : Int) + (n : Int)) = ((p + n : Nat) : Int) := by rw [i64wS _ (by omega) (by omega)]; omega
  clear fin addn
  by_cases hco : cap2 = p
  · have en : n = 0 := by omega
    subst en
    obtain rfl : cap2 = N := by omega
    obtain rfl : cap2 = E := by omega
    subst hco
    have wr0 : IntKind.i64.wrap (cap2 : Int) = (cap2 : Int) := i64wS _ (by omega) (by omega)
    have FIN0 := hide (show ∀ w3, Row1 w2 w3 g2 (splice (ints .i32 gz ++ sp2) cap2 (ints .i32 ts)) 21 → ∃ g2' cap2' sp2', InsPostS w (w3.setCell ⟨B, o + 1, none⟩ (.int .i64 (cap2 : Int))) B o cs t res cap2 S (cap2 + 0) cap2 g2' cap2' sp2' from fun w3 h3 => by simpa using FIN.out w3 h3)
    clear FIN
    go_upto_region 2 with fail
    go_region_law (refine step_copy_row rfl (.tmp 29) (.tmp 30) 36 36 rfl 21 Tryz.underlying36 info_size1 (some ⟨g2, 0, none⟩) ap 0 0 0 cp rfl rfl g2 cap2 (ints .i32 gz ++ sp2) 21 (by exact P2.out.rw) (ints .i32 ts) (by rw [HNE.out]; rfl) (fun hpos => absurd hpos (by rw [HNE.out]; omega)) (by rw [HNE.out, List.length_append, ints_length, GLL.out]; omega) (ints_one _ _) ?_; intro w3 hr3; rw [HNE.out]; have R3 := hide (Row1.of_drew hr3.out); have k1 := (World.cell?_of_block (w := w2) (a := ⟨B, o + 1, none⟩) (R3.out.block B hne)).trans d1; have z1 := (frozen_of_block (w := w2) (p := ⟨B, o + 1, none⟩) (R3.out.block B hne)).trans f1; have k0 := (World.cell?_of_block (w := w2) (a := ⟨B, o, none⟩) (R3.out.block B hne)).trans d0; have k2 := (World.cell?_of_block (w := w2) (a := ⟨B, o + 2, none⟩) (R3.out.block B hne)).trans d2; clear hr3)
    all_goals (
      go_wp2
      go_end0
      exact ⟨rfl, FIN0.out _ R3.out⟩)
  · go_upto_region 2 with fail
    go_region_law (refine step_copy_row rfl (.tmp 29) (.tmp 30) 36 36 rfl 21 Tryz.underlying36 info_size1 (some ⟨g2, p, none⟩) ap (E - p) (cap2 - p) n cp rfl rfl g2 p (ints .i32 gz ++ sp2) 21 (by exact P2.out.rw) (ints .i32 ts) (by rw [HNE.out]; show n = min n (E - p); omega) (fun hpos => by
      rcases TS.out with ⟨h, e⟩ | ⟨b, off, c, h, _, hc⟩
      · subst e; simp [ints] at hpos
      · simp only [Value.slice.injEq] at h
        obtain ⟨rfl, rfl, rfl⟩ := h
        refine ⟨rfl, _, rfl, ?_⟩
        have := cut_cells (k := .i32) (o := 0) (l := ts.length) hc
        simpa using this) (by rw [HNE.out, List.length_append, ints_length, GLL.out]; omega) (ints_one _ _) ?_; intro w3 hr3; rw [HNE.out]; have R3 := hide (Row1.of_drew hr3.out); have k1 := (World.cell?_of_block (w := w2) (a := ⟨B, o + 1, none⟩) (R3.out.block B hne)).trans d1; have z1 := (frozen_of_block (w := w2) (p := ⟨B, o + 1, none⟩) (R3.out.block B hne)).trans f1; have k0 := (World.cell?_of_block (w := w2) (a := ⟨B, o, none⟩) (R3.out.block B hne)).trans d0; have k2 := (World.cell?_of_block (w := w2) (a := ⟨B, o + 2, none⟩) (R3.out.block B hne)).trans d2; clear hr3)
    all_goals (
      go_wp2
      go_end0
      exact ⟨rfl, FIN.out _ R3.out⟩)
end Go.Proofs.YtbgngikejgihgagGreatDoor

namespace Go.Proofs.YtbgngikejgihgagGreatDoor
open Go Go.RowKit
set_option linter.unusedVariables false

theorem step_copy_none {P : Program} {ops : Array Oper} {o : Oper} {a : Act} {w : World} {K : Act → World → Prop} {Q : Exit → Act → World → Prop} {E : Prop} (hgd : o.guard = none) (d s : Operand) (dT sT : TypeId)
    (ho : o.op = .call { callee := .builtin .copy, args := #[d, s], argTypes := #[dT, sT] }) (elem : TypeId) (hu : P.underlying dT = some (.slice elem)) (hsz : (P.info? elem).map (·.size) = some 1)
    (dp sp : Option Addr) (dLen dCap sLen sCap : Nat) (hd : a.eval d = .slice dp dLen dCap) (hs : a.eval s = .slice sp sLen sCap) (hn : Nat.min sLen dLen = 0)
    (h : K (a.put o.dst (goInt 0)) w) :
    if Region.wanted o (yielded ops a.tmps) = true then Oper.wp P o a w K Q else E := by
  have hw : Region.wanted o (yielded ops a.tmps) = true := by simp [Region.wanted, hgd]
  rw [if_pos hw]
  have hrun := run_copy_none (P := P) w dT sT o.type elem dp sp dLen dCap sLen sCap hu hsz hn
  unfold Oper.wp
  simp [execOp, ho, resolve, invoke, builtin, hd, hs, hrun, Result.andThen]
  exact h

theorem gnil_setLo {w w1 : World} {B o : Nat} {cs : Array Value} {t : TypeId} (h : GB w B o cs t (.slice none 0 0) 0 0) (hh : w1.heap = w.heap) (ho : w1.os = w.os) (ht : w1.tape = w.tape) (hp : w1.output = w.output) :
    GNilPost w (w1.setCell ⟨B, o + 1, none⟩ (.int .i64 0)) B o cs t := by
  have h0 : w1.heap[B]? = some (.cells cs t (0, 0)) := by rw [hh]; exact h.blk
  have h2 := heap_setCell_same w1 B (o + 1) _ _ (.int .i64 0) h0
  have hs := h.sz
  have e : cs.setIfInBounds (o + 1) (.int .i64 0) = cs := by
    rw [← h.self]
    apply set3_ext (by simp [set3_size]) h.sz
    · rw [Array.getElem?_setIfInBounds, if_neg (by omega), set3_get _ _ _ _ _ _ hs]; simp
    · rw [Array.getElem?_setIfInBounds, if_pos rfl, if_pos (by rw [set3_size]; omega)]
    · rw [Array.getElem?_setIfInBounds, if_neg (by omega), set3_get _ _ _ _ _ _ hs]; simp
    · intro j e0 e1 e2
      rw [Array.getElem?_setIfInBounds, if_neg (by omega), set3_get _ _ _ _ _ _ hs]
      simp [e0, e1, e2]
  rw [e] at h2
  refine ⟨⟨h2, h.sz, h.c0, h.c1, h.c2⟩, ho, ht, hp, by simp [hh], fun k hk hn => ?_⟩
  rw [setCell_block_other (by show k ≠ B; exact hn), hh]

set_option maxHeartbeats 4000000 in
set_option maxRecDepth 100000 in
theorem insertNil (B o : Nat) (cs : Array Value) (t : TypeId) (ap : Option Addr) (cp : Nat) (w : World) (h : GB w B o cs t (.slice none 0 0) 0 0) :
    Calls Tryz.prog 360 #[.pointer (some ⟨B, o, none⟩), .int .i64 0, .slice ap 0 cp] w fun x w' => x = .returned (.tuple #[]) ∧ GNilPost w w' B o cs t := by
  have HM := hide (makeRoom_no B o none 0 0 0 0 0 w (by simpa using h.gc) (by omega) (by omega) (by omega) (by omega))
  have H := hide h
  have wr0 : IntKind.i64.wrap 0 = 0 := by rw [IntKind.wrap_i64]; rfl
  clear h
  go_enter Tryz.func360, Tryz.ntmps360
  go_wp2_with fail
  refine HM.out.mono ?_
  rintro x w1 ⟨rfl, m, rfl⟩
  have H1 := hide (H.out.block (w' := w.drewN m) rfl)
  have A1 := hide (show Alk w (w.drewN m) from ⟨rfl, rfl, rfl, rfl⟩)
  clear HM
  generalize w.drewN m = w1 at *
  go_wp2_with fail
  refine (moveToNil B o cs t w1 H1.out).mono ?_
  rintro x w2 ⟨rfl, hp2⟩
  have P2 := hide hp2
  obtain ⟨d0, d1, d2⟩ := hp2.gb.gc
  obtain ⟨f0, f1, f2⟩ := hp2.gb.gf
  clear hp2
  go_upto_region 2 with fail
  go_region_law (refine step_copy_none rfl (.tmp 29) (.tmp 30) 36 36 rfl 21 Tryz.underlying36 info_size1 none ap 0 0 0 cp rfl rfl rfl ?_)
  all_goals (
    go_wp2
    go_end0
    refine ⟨rfl, ?_⟩
    have q := P2.out.trans (gnil_setLo (w1 := w2.drew) P2.out.gb rfl rfl rfl rfl)
    exact ⟨q.gb, ⟨q.chg.os.trans A1.out.os, q.chg.tape.trans A1.out.tape, q.chg.output.trans A1.out.output, by have := q.chg.size; rw [A1.out.heap] at this; exact this, fun k hk hn => (q.chg.block k (by rw [A1.out.heap]; exact hk) hn).trans (by rw [A1.out.heap])⟩⟩)
end Go.Proofs.YtbgngikejgihgagGreatDoor

namespace Go.Proofs.YtbgngikejgihgagGreatDoor
open Go Go.RowKit
set_option linter.unusedVariables false

theorem ChgP.weak {w w' : World} {S T : Nat → Prop} (h : Chg w w' S) (hS : ∀ k, S k → T k) : Chg w w' T := ⟨h.os, h.tape, h.output, h.size, fun k hk hn => h.block k hk (fun s => hn (hS k s))⟩
theorem row_cases {w : World} {lo : Nat} {u : Value} {zs : List Int} (h : o32 w lo u zs) : (u = .slice none 0 0 ∧ zs = []) ∨ ∃ g0 c0, u = .slice (some ⟨g0, 0, none⟩) zs.length c0 := by
  rcases h.2 with ⟨e, e0⟩ | ⟨g0, c0, cur, e, _⟩
  · exact .inl ⟨e, List.eq_nil_of_length_eq_zero e0⟩
  · exact .inr ⟨g0, c0, e⟩

theorem rowDelN {w : World} {lo hi g cap n i a b : Nat} {vs : List Value} {gs : List Gr} {x : Gr} {u : Value} (h : OwG 177 w lo hi (.slice (some ⟨g, 0, none⟩) n cap) vs gs) (hn : gs.length = n) (hx : gs[i]? = some x) (hu : vs[i]? = some u) (hh : hi ≤ w.heap.size) (hk : gkP x.cells x.lo x.hi) (hab : a ≤ b) (hb : b ≤ (grT x).length) :
    Calls Tryz.prog 362 #[.pointer (some ⟨g, i * 3, none⟩), .int .i64 a, .int .i64 b] w fun e w' => e = .returned (.tuple #[]) ∧ ∃ u', OwG 177 w' lo w'.heap.size (.slice (some ⟨g, 0, none⟩) n cap) (vs.set i u') (gs.set i (delG x a b)) ∧ u'.ownBlock = u.ownBlock ∧ Chg w w' (fun k => k = g ∨ u.ownBlock = some k) := by
  obtain ⟨hv, el, eh⟩ := gkP_GV hk
  have hgt : (grT x).length = x.cells.length - (x.hi.toNat - x.lo.toNat) := gtext_length hv.a hv.b
  obtain ⟨cur, hcur, hgb⟩ := h.gb hn hx hu
  have ho : o32 w lo u x.cells := h.nest.own i u x.cells hu (by rw [List.getElem?_map, hx]; rfl)
  have hba := hv.b
  have haa := hv.a
  rcases row_cases ho with ⟨rfl, e0⟩ | ⟨g0, c0, rfl⟩
  · have hl0 : x.lo.toNat = 0 ∧ x.hi.toNat = 0 := by rw [e0] at hba; simp at hba; omega
    have hb0 : b = 0 := by have : (grT x).length = 0 := (by rw [hgt, e0]; simp); omega
    have ha0 : a = 0 := by omega
    subst hb0 ha0
    rw [el, eh, hl0.1, hl0.2] at hgb
    refine (removeNil g (i * 3) cur 177 w hgb).mono ?_
    rintro e w' ⟨rfl, hp⟩
    have eD : delG x 0 0 = ⟨[], 0, 0⟩ := by
      unfold delG
      rw [hl0.1, hl0.2, e0]
      have : grT x = [] := List.eq_nil_of_length_eq_zero (by rw [hgt, e0]; simp)
      simp [glay, this]
    have hC := ChgP.weak hp.chg (T := fun k => k = g ∨ (Value.slice none 0 0).ownBlock = some k) (fun k hk => .inl hk)
    refine ⟨rfl, .slice none 0 0, ?_, rfl, hC⟩
    rw [eD]
    refine h.edit hn hx hu hh hcur ?_ ⟨rfl, .inl ⟨rfl, rfl⟩⟩ (bel_nil _) (fun q hq => by simp [Value.ownBlock] at hq) hC
    rw [hp.gb.self]; exact hp.gb.blk
  · obtain ⟨hb0, hc0, hm0, sp, hrw, hsp⟩ := Rw.of_owns ho
    have hne : g ≠ g0 := fun e => own_apart ho h.row (by decide) (q := g0) rfl (by simp [Value.ownBlock, e])
    rw [el, eh] at hgb
    refine (removeG g (i * 3) g0 c0 cur 177 x.cells sp x.lo.toNat x.hi.toNat a b w hgb hrw hne hc0 hv hab (by omega)).mono ?_
    rintro e w' ⟨rfl, hp⟩
    have hC := ChgP.weak hp.chg (T := fun k => k = g ∨ (Value.slice (some ⟨g0, 0, none⟩) x.cells.length c0).ownBlock = some k) (fun k hk => by rcases hk with e | e; exact .inl e; exact .inr (by simp [Value.ownBlock, e]))
    have hgl : (glay ((gtext x.cells x.lo.toNat x.hi.toNat).take a ++ (gtext x.cells x.lo.toNat x.hi.toNat).drop b) a x.cells.length).length = x.cells.length := by
      have e1 : (gtext x.cells x.lo.toNat x.hi.toNat).length = x.cells.length - (x.hi.toNat - x.lo.toNat) := hgt
      have hb' : b ≤ (gtext x.cells x.lo.toNat x.hi.toNat).length := hb
      exact glay_length (by simp only [List.length_append, List.length_take, List.length_drop]; omega) (by simp only [List.length_append, List.length_take, List.length_drop]; omega)
    have ho' : o32 w' lo (.slice (some ⟨g0, 0, none⟩) x.cells.length c0) (delG x a b).cells := by
      have h9 := owns_of_rw (base := lo) hp.rw hgl hb0 hc0 hm0 hsp
      unfold o32 delG
      show w'.ownsRow lo 21 1 _ (glay _ _ _).length _
      rw [show (glay ((grT x).take a ++ (grT x).drop b) a x.cells.length).length = x.cells.length from hgl]
      exact h9
    refine ⟨rfl, _, h.edit hn hx hu hh hcur hp.gb.blk ho' (fun q hq => (ho'.lt q hq).2) (fun q hq _ => hq) hC, rfl, hC⟩

theorem rowInsN {w : World} {lo hi g cap n i p : Nat} {vs : List Value} {gs : List Gr} {x : Gr} {u : Value} {ts : List Int} {ap : Option Addr} {m cp : Nat} (h : OwG 177 w lo hi (.slice (some ⟨g, 0, none⟩) n cap) vs gs) (hn : gs.length = n) (hx : gs[i]? = some x) (hu : vs[i]? = some u) (hh : hi ≤ w.heap.size) (hk : gkP x.cells x.lo x.hi) (hp : p ≤ (grT x).length) (hm : m = ts.length) (hr : (grT x).length + m ≤ 8192)
    (hT : ∀ w', Chg w w' (fun k => k = g ∨ u.ownBlock = some k) → Sl .i32 w' (.slice ap m cp) ts) :
    Calls Tryz.prog 360 #[.pointer (some ⟨g, i * 3, none⟩), .int .i64 p, .slice ap m cp] w fun e w' => e = .returned (.tuple #[]) ∧ ∃ u', OwG 177 w' lo w'.heap.size (.slice (some ⟨g, 0, none⟩) n cap) (vs.set i u') (gs.set i (insG x p ts)) ∧ Chg w w' (fun k => k = g ∨ u.ownBlock = some k) := by
  obtain ⟨hv, el, eh⟩ := gkP_GV hk
  have hgt : (grT x).length = x.cells.length - (x.hi.toNat - x.lo.toNat) := gtext_length hv.a hv.b
  obtain ⟨cur, hcur, hgb⟩ := h.gb hn hx hu
  have ho : o32 w lo u x.cells := h.nest.own i u x.cells hu (by rw [List.getElem?_map, hx]; rfl)
  have hba := hv.b
  have haa := hv.a
  have hsz := hgb.sz
  have hgl := hgb.lt
  have hlo : lo ≤ g := (h.row.lt g rfl).1
  have bd := cellsN_bd hv (n := ts.length) (by rw [← hm]; exact hr)
  have hgtx : (gtext x.cells x.lo.toNat x.hi.toNat).length = (grT x).length := rfl
  have fin : ∀ (e : Ending) (w' : World), (e = .returned (.tuple #[]) ∧ ∃ g2 cap2 sp2, InsPostS w w' g (i * 3) cur 177 (glay ((grT x).take p ++ (ts ++ (grT x).drop p)) (p + m) (cellsN x.cells x.lo.toNat x.hi.toNat ts.length)) (cellsN x.cells x.lo.toNat x.hi.toNat ts.length) (fun k => k = g ∨ u.ownBlock = some k) (p + m) (p + (cellsN x.cells x.lo.toNat x.hi.toNat ts.length - (grT x).length)) g2 cap2 sp2) → e = .returned (.tuple #[]) ∧ ∃ u', OwG 177 w' lo w'.heap.size (.slice (some ⟨g, 0, none⟩) n cap) (vs.set i u') (gs.set i (insG x p ts)) ∧ Chg w w' (fun k => k = g ∨ u.ownBlock = some k) := by
    rintro e w' ⟨rfl, g2, cap2, sp2, hP⟩
    have hlen : (glay ((grT x).take p ++ (ts ++ (grT x).drop p)) (p + m) (cellsN x.cells x.lo.toNat x.hi.toNat ts.length)).length = cellsN x.cells x.lo.toNat x.hi.toNat ts.length := by
      refine glay_length ?_ ?_ <;> simp only [List.length_append, List.length_take, List.length_drop] <;> omega
    have hb2 : lo ≤ g2 := by
      by_cases q : g2 < w.heap.size
      · rcases hP.low q with e | e
        · exact absurd e.symm hP.ne
        · exact (ho.lt g2 e).1
      · omega
    have h9 := owns_of_rw (base := lo) hP.rw hlen hb2 hP.cap.1 hP.cap.2.1 hP.cap.2.2
    have eG : insG x p ts = ⟨glay ((grT x).take p ++ (ts ++ (grT x).drop p)) (p + m) (cellsN x.cells x.lo.toNat x.hi.toNat ts.length), ((p + m : Nat) : Int), ((p + (cellsN x.cells x.lo.toNat x.hi.toNat ts.length - (grT x).length) : Nat) : Int)⟩ := by unfold insG; rw [hm]
    have ho' : o32 w' lo (.slice (some ⟨g2, 0, none⟩) (cellsN x.cells x.lo.toNat x.hi.toNat ts.length) cap2) (glay ((grT x).take p ++ (ts ++ (grT x).drop p)) (p + m) (cellsN x.cells x.lo.toNat x.hi.toNat ts.length)) := by
      unfold o32
      rw [hlen]; exact h9
    refine ⟨rfl, .slice (some ⟨g2, 0, none⟩) (cellsN x.cells x.lo.toNat x.hi.toNat ts.length) cap2, ?_, hP.chg⟩
    rw [eG]
    refine h.edit hn hx hu hh hcur hP.gb.blk ho' (fun q hq => (ho'.lt q hq).2) (fun q hq hql => ?_) hP.chg
    simp only [Value.ownBlock, Option.some.injEq] at hq
    subst hq
    rcases hP.low hql with e | e
    · exact absurd e.symm hP.ne
    · exact e
  rcases row_cases ho with ⟨rfl, e0⟩ | ⟨g0, c0, rfl⟩
  · have hl0 : x.lo.toNat = 0 ∧ x.hi.toNat = 0 := by rw [e0] at hba; simp at hba; omega
    have hg0 : grT x = [] := List.eq_nil_of_length_eq_zero (by rw [hgt, e0]; simp)
    have hp0 : p = 0 := by rw [hg0] at hp; simpa using hp
    subst hp0
    rw [el, eh, hl0.1, hl0.2] at hgb
    by_cases h0 : m = 0
    · have ht0 : ts = [] := List.eq_nil_of_length_eq_zero (by omega)
      subst h0 ht0
      refine (insertNil g (i * 3) cur 177 ap cp w hgb).mono ?_
      rintro e w' ⟨rfl, hP⟩
      have eD : insG x 0 [] = ⟨[], 0, 0⟩ := by
        unfold insG
        rw [hl0.1, hl0.2, e0, hg0]
        simp [glay, cellsN]
      have hC := ChgP.weak hP.chg (T := fun k => k = g ∨ (Value.slice none 0 0).ownBlock = some k) (fun k hk => .inl hk)
      refine ⟨rfl, .slice none 0 0, ?_, hC⟩
      rw [eD]
      refine h.edit hn hx hu hh hcur ?_ ⟨rfl, .inl ⟨rfl, rfl⟩⟩ (bel_nil _) (fun q hq => by simp [Value.ownBlock] at hq) hC
      rw [hP.gb.self]; exact hP.gb.blk
    · have hd : Dbl m 16 (cellsN x.cells x.lo.toNat x.hi.toNat ts.length) := by
        rcases cellsN_or x.cells x.lo.toNat x.hi.toNat ts.length with ⟨q, _⟩ | ⟨_, q⟩
        · rw [hl0.1, hl0.2] at q; omega
        · rw [hgtx, hg0, ← hm, e0] at q
          rw [← hm, e0]
          simpa using q
      have HR := hide (makeRoomNilS g (i * 3) cur 177 m _ (fun k => k = g ∨ (Value.slice none 0 0).ownBlock = some k) w hgb (by omega) (by omega) (.inl rfl) hd)
      have h8 := insertCoreS g (i * 3) cur 177 [] ts ap m cp _ 0 _ w hsz hm (by simp) (by have := bd.1; simp only [List.length_nil]; omega) (.inl rfl) hT HR
      refine h8.mono (fun e w' q => fin e w' ?_)
      rw [hg0]
      exact q
  · obtain ⟨hb0, hc0, hm0, sp, hrw, hsp⟩ := Rw.of_owns ho
    have hne : g ≠ g0 := fun e => own_apart ho h.row (by decide) (q := g0) rfl (by simp [Value.ownBlock, e])
    rw [el, eh] at hgb
    have HR := hide (makeRoomS g (i * 3) g0 c0 cur 177 x.cells sp x.lo.toNat x.hi.toNat m _ (fun k => k = g ∨ (Value.slice (some ⟨g0, 0, none⟩) x.cells.length c0).ownBlock = some k) w hgb hrw hne (ho.lt g0 rfl).2 hc0 hm0 hsp hv hr (.inr rfl) (.inl rfl) (by rw [hm]; exact cellsN_or _ _ _ _))
    have h8 := insertCoreS g (i * 3) cur 177 (gtext x.cells x.lo.toNat x.hi.toNat) ts ap m cp _ p _ w hsz hm hp (by rw [hm]; exact bd.1) (.inl rfl) hT HR
    exact h8.mono (fun e w' q => fin e w' q)
end Go.Proofs.YtbgngikejgihgagGreatDoor
