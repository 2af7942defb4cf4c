import Derived.Test.YtbkcbhjejkicjaaGreatDoorMq39
namespace Go.Proofs.YtbkcbhjejkicjaaGreatDoor
open Go Go.RowKit
set_option linter.unusedVariables false

theorem i64wS (x : Int) (h : -9223372036854775808 ≤ x) (h2 : x < 9223372036854775808) : IntKind.i64.wrap x = x := by rw [IntKind.wrap_i64]; omega

/-- Behind the copy: the first place moves on. -/
theorem insS_set {w w1 : World} {B o g : Nat} {cs : Array Value} {t : TypeId} {v : Value} {lo hi : Int} {zs : List Int} {sp : List Value} (h : GB w B o cs t v lo hi) (hBg : B ≠ g) (hr : Row1 w w1 g (ints .i32 zs ++ sp) 21) (a : Int) :
    GPost w (w1.setCell ⟨B, o + 1, none⟩ (.int .i64 a)) B o g cs t v a hi zs sp := by
  have h0 : w1.heap[B]? = some (.cells cs t (0, 0)) := (hr.block B hBg).trans h.blk
  have h2 := heap_setCell_same w1 B (o + 1) _ _ (.int .i64 a) h0
  have hs := h.sz
  refine ⟨GB.of_set3 ?_ h.sz, ?_, ?_⟩
  · rw [h2]
    congr 2
    apply set3_ext (by simp) h.sz
    · rw [Array.getElem?_setIfInBounds, if_neg (by omega)]; exact h.c0
    · rw [Array.getElem?_setIfInBounds, if_pos rfl, if_pos (by omega)]
    · rw [Array.getElem?_setIfInBounds, if_neg (by omega)]; exact h.c2
    · intro j e0 e1 e2
      rw [Array.getElem?_setIfInBounds, if_neg (by omega)]
  · show _ = _
    rw [setCell_block_other (by show g ≠ B; exact hBg.symm)]
    exact hr.row
  · refine ⟨hr.os, hr.tape, hr.output, by simp [hr.size], fun k hk hn => ?_⟩
    rw [setCell_block_other (by show k ≠ B; exact fun e => hn (.inl e))]
    exact hr.block k (fun e => hn (.inr e))

set_option maxHeartbeats 4000000 in
set_option maxRecDepth 100000 in
theorem insertCoreS (B o : Nat) (cs : Array Value) (t : TypeId) (tx ts : List Int) (ap : Option Addr) (n cp : Nat) (N p : Nat) (S : Nat → Prop) (w : World) (hs : o + 3 ≤ cs.size) (hn : n = ts.length) (hp : p ≤ tx.length) (hroom : tx.length + n ≤ N) (hDB : S B)
    (hT : ∀ w', ChgP w w' S → Sl .i32 w' (.slice ap n cp) ts)
    (HR : Hid (Calls Tryz.prog 229 #[.pointer (some ⟨B, o, none⟩), .int .i64 n] w fun x w1 => x = .returned (.tuple #[]) ∧ ∃ g2 cap2 zs2 sp2 lo2 hi2, RoomPostS w w1 B o cs t tx n N S g2 cap2 zs2 sp2 lo2 hi2)) :
    Calls Tryz.prog 219 #[.pointer (some ⟨B, o, none⟩), .int .i64 p, .slice ap n cp] w fun x w' => x = .returned (.tuple #[]) ∧ ∃ g2 cap2 sp2, InsPostS w w' B o cs t (glay (tx.take p ++ (ts ++ tx.drop p)) (p + n) N) N S (p + n) (p + (N - tx.length)) g2 cap2 sp2 := by
  have HT := hide hT
  have HNN := hide hn
  have gl : (glay tx p N).length = N := glay_length hp (by omega)
  have HPT := hide (glay_put (xs := tx) (ts := ts) (p := p) (n := N) hp (by omega))
  rw [← hn] at HPT
  have GLL := hide gl
  have MVT := hide (fun g2 cap2 cs' zs2 sp2 lo2 hi2 w1 h hr hBg hc hv hp' => moveToG B o g2 cap2 cs' t zs2 sp2 lo2 hi2 p w1 h hr hBg hc hv hp')
  obtain ⟨gz, hgz⟩ : ∃ gz, gz = glay tx p N := ⟨_, rfl⟩
  have HGZ := hide hgz
  rw [← hgz] at HPT GLL
  clear hgz gl
  generalize glay (tx.take p ++ (ts ++ tx.drop p)) (p + n) N = res at *
  obtain ⟨E, hE⟩ : ∃ E, E = p + (N - tx.length) := ⟨_, rfl⟩
  rw [← hE]
  have HEE := hide hE
  clear hT hn hE
  go_enter Tryz.func219, Tryz.ntmps219
  go_wp2_with fail
  refine HR.out.mono ?_
  rintro x w1 ⟨rfl, g2, cap2, zs2, sp2, lo2, hi2, hp1⟩
  have hc1 := hp1.cap
  have hg1 := hp1.gv
  have hL : tx.length = N - (hi2 - lo2) := by rw [← hp1.tx, gtext_length hg1.a hg1.b, hp1.len]
  have b1 := hg1.a
  have b2 := hg1.b
  have b3 := hg1.c
  rw [hp1.len] at b2 b3
  have rm := hp1.room
  have MV := hide (MVT.out g2 cap2 _ zs2 sp2 lo2 hi2 w1 (by rw [hp1.len]; exact hp1.gb) hp1.rw hp1.ne (by rw [hp1.len]; exact hc1.1) hg1 (by rw [hp1.len]; omega))
  rw [hp1.tx, hp1.len, ← HGZ.out] at MV
  have ehi : p + (hi2 - lo2) = E := by rw [HEE.out]; omega
  rw [ehi] at MV
  have P1 := hide hp1
  have hne := hp1.ne
  have hlow := hp1.low
  have e1 : p + n ≤ E := by omega
  have e2 : E ≤ N := by omega
  have e3 : N ≤ 65536 := by omega
  have e4 : N ≤ cap2 := hc1.1
  have HC1 := hide hc1
  clear hp1 ehi hL b1 b2 b3 rm hg1 HR hc1 MVT
  go_wp2_with fail
  refine MV.out.mono ?_
  rintro x w2 ⟨rfl, hp2⟩
  have P2 := hide hp2
  have C2 := hide (P1.out.chg.trans hp2.chg (U := S) (fun _ _ s => s) (fun i hi s => by rcases s with rfl | rfl; exact hDB; exact hlow hi))
  have TS := hide (HT.out w2 C2.out)
  obtain ⟨d0, d1, d2⟩ := hp2.gb.gc
  obtain ⟨f0, f1, f2⟩ := hp2.gb.gf
  clear hp2 MV HT
  have hnE : (ints .i32 ts).length = n := by rw [ints_length, ← HNN.out]
  have HNE := hide hnE
  clear hnE
  have i1 : p ≤ E := by omega
  have i2 : E ≤ cap2 := by omega
  have addn : (p : Int) + (n : Int) = ((p + n : Nat) : Int) := by omega
  have fin : ∀ w3, Row1 w2 w3 g2 (splice (ints .i32 gz ++ sp2) p (ints .i32 ts)) 21 → ∃ g2' cap2' sp2', InsPostS w (w3.setCell ⟨B, o + 1, none⟩ (.int .i64 ((p + n : Nat) : Int))) B o cs t res N S (p + n) E g2' cap2' sp2' := by
    intro w3 hr3
    have hr3' := Row1.to hr3 (splice_ints (by rw [GLL.out, ← HNN.out]; omega))
    rw [HPT.out] at hr3'
    have q := P2.out.trans (by rw [set3_size]; exact hs) (insS_set P2.out.gb hne hr3' ((p + n : Nat) : Int))
    have e := set3_set3 cs o (.slice (some ⟨g2, 0, none⟩) N cap2) (.int .i64 lo2) (.int .i64 hi2) (.slice (some ⟨g2, 0, none⟩) N cap2) (.int .i64 ((p + n : Nat) : Int)) (.int .i64 E) hs
    have qg := q.gb
    rw [e] at qg
    exact ⟨g2, cap2, sp2, qg, q.rw, HC1.out, hlow, hne, P1.out.chg.trans q.chg (fun _ _ s => s) (fun i hi s => by rcases s with rfl | rfl; exact hDB; exact hlow hi)⟩
  have FIN := hide fin
  have wr : IntKind.i64.wrap ((p : Int) + (n : Int)) = ((p + n : Nat) : Int) := by rw [i64wS _ (by omega) (by omega)]; omega
  clear fin addn
  by_cases hco : cap2 = p
  · have en : n = 0 := by omega
    subst en
    obtain rfl : cap2 = N := by omega
    obtain rfl : cap2 = E := by omega
    subst hco
    have wr0 : IntKind.i64.wrap (cap2 : Int) = (cap2 : Int) := i64wS _ (by omega) (by omega)
    have FIN0 := hide (show ∀ w3, Row1 w2 w3 g2 (splice (ints .i32 gz ++ sp2) cap2 (ints .i32 ts)) 21 → ∃ g2' cap2' sp2', InsPostS w (w3.setCell ⟨B, o + 1, none⟩ (.int .i64 (cap2 : Int))) B o cs t res cap2 S (cap2 + 0) cap2 g2' cap2' sp2' from fun w3 h3 => by simpa using FIN.out w3 h3)
    clear FIN
    go_upto_region 2 with fail
    go_region_law (refine step_copy_row rfl (.tmp 29) (.tmp 30) 49 49 rfl 21 Tryz.underlying49 info_size1 (some ⟨g2, 0, none⟩) ap 0 0 0 cp rfl rfl g2 cap2 (ints .i32 gz ++ sp2) 21 (by exact P2.out.rw) (ints .i32 ts) (by rw [HNE.out]; rfl) (fun hpos => absurd hpos (by rw [HNE.out]; omega)) (by rw [HNE.out, List.length_append, ints_length, GLL.out]; omega) (ints_one _ _) ?_; intro w3 hr3; rw [HNE.out]; have R3 := hide (Row1.of_drew hr3.out); have k1 := (World.cell?_of_block (w := w2) (a := ⟨B, o + 1, none⟩) (R3.out.block B hne)).trans d1; have z1 := (frozen_of_block (w := w2) (p := ⟨B, o + 1, none⟩) (R3.out.block B hne)).trans f1; have k0 := (World.cell?_of_block (w := w2) (a := ⟨B, o, none⟩) (R3.out.block B hne)).trans d0; have k2 := (World.cell?_of_block (w := w2) (a := ⟨B, o + 2, none⟩) (R3.out.block B hne)).trans d2; clear hr3)
    all_goals (
      go_wp2
      go_end0
      exact ⟨rfl, FIN0.out _ R3.out⟩)
  · go_upto_region 2 with fail
    go_region_law (refine step_copy_row rfl (.tmp 29) (.tmp 30) 49 49 rfl 21 Tryz.underlying49 info_size1 (some ⟨g2, p, none⟩) ap (E - p) (cap2 - p) n cp rfl rfl g2 p (ints .i32 gz ++ sp2) 21 (by exact P2.out.rw) (ints .i32 ts) (by rw [HNE.out]; show n = min n (E - p); omega) (fun hpos => by
      rcases TS.out with ⟨h, e⟩ | ⟨b, off, c, h, _, hc⟩
      · subst e; simp [ints] at hpos
      · simp only [Value.slice.injEq] at h
        obtain ⟨rfl, rfl, rfl⟩ := h
        refine ⟨rfl, _, rfl, ?_⟩
        have := cut_cells (k := .i32) (o := 0) (l := ts.length) hc
        simpa using this) (by rw [HNE.out, List.length_append, ints_length, GLL.out]; omega) (ints_one _ _) ?_; intro w3 hr3; rw [HNE.out]; have R3 := hide (Row1.of_drew hr3.out); have k1 := (World.cell?_of_block (w := w2) (a := ⟨B, o + 1, none⟩) (R3.out.block B hne)).trans d1; have z1 := (frozen_of_block (w := w2) (p := ⟨B, o + 1, none⟩) (R3.out.block B hne)).trans f1; have k0 := (World.cell?_of_block (w := w2) (a := ⟨B, o, none⟩) (R3.out.block B hne)).trans d0; have k2 := (World.cell?_of_block (w := w2) (a := ⟨B, o + 2, none⟩) (R3.out.block B hne)).trans d2; clear hr3)
    all_goals (
      go_wp2
      go_end0
      exact ⟨rfl, FIN.out _ R3.out⟩)
end Go.Proofs.YtbkcbhjejkicjaaGreatDoor

namespace Go.Proofs.YtbkcbhjejkicjaaGreatDoor
open Go Go.RowKit
set_option linter.unusedVariables false

theorem step_copy_none {P : Program} {ops : Array Oper} {o : Oper} {a : Act} {w : World} {K : Act → World → Prop} {Q : Exit → Act → World → Prop} {E : Prop} (hgd : o.guard = none) (d s : Operand) (dT sT : TypeId)
    (ho : o.op = .call { callee := .builtin .copy, args := #[d, s], argTypes := #[dT, sT] }) (elem : TypeId) (hu : P.underlying dT = some (.slice elem)) (hsz : (P.info? elem).map (·.size) = some 1)
    (dp sp : Option Addr) (dLen dCap sLen sCap : Nat) (hd : a.eval d = .slice dp dLen dCap) (hs : a.eval s = .slice sp sLen sCap) (hn : Nat.min sLen dLen = 0)
    (h : K (a.put o.dst (goInt 0)) w) :
    if Region.wanted o (yielded ops a.tmps) = true then Oper.wp P o a w K Q else E := by
  have hw : Region.wanted o (yielded ops a.tmps) = true := by simp [Region.wanted, hgd]
  rw [if_pos hw]
  have hrun := run_copy_none (P := P) w dT sT o.type elem dp sp dLen dCap sLen sCap hu hsz hn
  unfold Oper.wp
  simp [execOp, ho, resolve, invoke, builtin, hd, hs, hrun, Result.andThen]
  exact h

theorem gnil_setLo {w w1 : World} {B o : Nat} {cs : Array Value} {t : TypeId} (h : GB w B o cs t (.slice none 0 0) 0 0) (hh : w1.heap = w.heap) (ho : w1.os = w.os) (ht : w1.tape = w.tape) (hp : w1.output = w.output) :
    GNilPost w (w1.setCell ⟨B, o + 1, none⟩ (.int .i64 0)) B o cs t := by
  have h0 : w1.heap[B]? = some (.cells cs t (0, 0)) := by rw [hh]; exact h.blk
  have h2 := heap_setCell_same w1 B (o + 1) _ _ (.int .i64 0) h0
  have hs := h.sz
  have e : cs.setIfInBounds (o + 1) (.int .i64 0) = cs := by
    rw [← h.self]
    apply set3_ext (by simp [set3_size]) h.sz
    · rw [Array.getElem?_setIfInBounds, if_neg (by omega), set3_get _ _ _ _ _ _ hs]; simp
    · rw [Array.getElem?_setIfInBounds, if_pos rfl, if_pos (by rw [set3_size]; omega)]
    · rw [Array.getElem?_setIfInBounds, if_neg (by omega), set3_get _ _ _ _ _ _ hs]; simp
    · intro j e0 e1 e2
      rw [Array.getElem?_setIfInBounds, if_neg (by omega), set3_get _ _ _ _ _ _ hs]
      simp [e0, e1, e2]
  rw [e] at h2
  refine ⟨⟨h2, h.sz, h.c0, h.c1, h.c2⟩, ho, ht, hp, by simp [hh], fun k hk hn => ?_⟩
  rw [setCell_block_other (by show k ≠ B; exact hn), hh]

set_option maxHeartbeats 4000000 in
set_option maxRecDepth 100000 in
theorem insertNil (B o : Nat) (cs : Array Value) (t : TypeId) (ap : Option Addr) (cp : Nat) (w : World) (h : GB w B o cs t (.slice none 0 0) 0 0) :
    Calls Tryz.prog 219 #[.pointer (some ⟨B, o, none⟩), .int .i64 0, .slice ap 0 cp] w fun x w' => x = .returned (.tuple #[]) ∧ GNilPost w w' B o cs t := by
  have HM := hide (makeRoom_no B o none 0 0 0 0 0 w (by simpa using h.gc) (by omega) (by omega) (by omega) (by omega))
  have H := hide h
  have wr0 : IntKind.i64.wrap 0 = 0 := by rw [IntKind.wrap_i64]; rfl
  clear h
  go_enter Tryz.func219, Tryz.ntmps219
  go_wp2_with fail
  refine HM.out.mono ?_
  rintro x w1 ⟨rfl, m, rfl⟩
  have H1 := hide (H.out.block (w' := w.drewN m) rfl)
  have A1 := hide (show Alk w (w.drewN m) from ⟨rfl, rfl, rfl, rfl⟩)
  clear HM
  generalize w.drewN m = w1 at *
  go_wp2_with fail
  refine (moveToNil B o cs t w1 H1.out).mono ?_
  rintro x w2 ⟨rfl, hp2⟩
  have P2 := hide hp2
  obtain ⟨d0, d1, d2⟩ := hp2.gb.gc
  obtain ⟨f0, f1, f2⟩ := hp2.gb.gf
  clear hp2
  go_upto_region 2 with fail
  go_region_law (refine step_copy_none rfl (.tmp 29) (.tmp 30) 49 49 rfl 21 Tryz.underlying49 info_size1 none ap 0 0 0 cp rfl rfl rfl ?_)
  all_goals (
    go_wp2
    go_end0
    refine ⟨rfl, ?_⟩
    have q := P2.out.trans (gnil_setLo (w1 := w2.drew) P2.out.gb rfl rfl rfl rfl)
    exact ⟨q.gb, ⟨q.chg.os.trans A1.out.os, q.chg.tape.trans A1.out.tape, q.chg.output.trans A1.out.output, by have := q.chg.size; rw [A1.out.heap] at this; exact this, fun k hk hn => (q.chg.block k (by rw [A1.out.heap]; exact hk) hn).trans (by rw [A1.out.heap])⟩⟩)
end Go.Proofs.YtbkcbhjejkicjaaGreatDoor

namespace Go.Proofs.YtbkcbhjejkicjaaGreatDoor
open Go Go.RowKit
set_option linter.unusedVariables false

theorem ChgP.weak {w w' : World} {S T : Nat → Prop} (h : ChgP w w' S) (hS : ∀ k, S k → T k) : ChgP w w' T := ⟨h.os, h.tape, h.output, h.size, fun k hk hn => h.block k hk (fun s => hn (hS k s))⟩
theorem row_cases {w : World} {lo : Nat} {u : Value} {zs : List Int} (h : o32 w lo u zs) : (u = .slice none 0 0 ∧ zs = []) ∨ ∃ g0 c0, u = .slice (some ⟨g0, 0, none⟩) zs.length c0 := by
  rcases h.2 with ⟨e, e0⟩ | ⟨g0, c0, cur, e, _⟩
  · exact .inl ⟨e, List.eq_nil_of_length_eq_zero e0⟩
  · exact .inr ⟨g0, c0, e⟩

theorem rowInsN {w : World} {lo hi g cap n i p : Nat} {vs : List Value} {gs : List Gr} {x : Gr} {u : Value} {ts : List Int} {ap : Option Addr} {m cp : Nat} (h : OwG 143 w lo hi (.slice (some ⟨g, 0, none⟩) n cap) vs gs) (hn : gs.length = n) (hx : gs[i]? = some x) (hu : vs[i]? = some u) (hh : hi ≤ w.heap.size) (hk : gkP x.cells x.lo x.hi) (hp : p ≤ (grT x).length) (hm : m = ts.length) (hr : (grT x).length + m ≤ 8192)
    (hT : ∀ w', ChgP w w' (fun k => k = g ∨ u.ownBlock = some k) → Sl .i32 w' (.slice ap m cp) ts) :
    Calls Tryz.prog 219 #[.pointer (some ⟨g, i * 3, none⟩), .int .i64 p, .slice ap m cp] w fun e w' => e = .returned (.tuple #[]) ∧ ∃ u', OwG 143 w' lo w'.heap.size (.slice (some ⟨g, 0, none⟩) n cap) (vs.set i u') (gs.set i (insG x p ts)) ∧ ChgP w w' (fun k => k = g ∨ u.ownBlock = some k) ∧ ∀ q, u'.ownBlock = some q → u.ownBlock = some q ∨ w.heap.size ≤ q := by
  obtain ⟨hv, el, eh⟩ := gkP_GV hk
  have hgt : (grT x).length = x.cells.length - (x.hi.toNat - x.lo.toNat) := gtext_length hv.a hv.b
  obtain ⟨cur, hcur, hgb⟩ := h.gb hn hx hu
  have ho : o32 w lo u x.cells := h.nest.own i u x.cells hu (by rw [List.getElem?_map, hx]; rfl)
  have hba := hv.b
  have haa := hv.a
  have hsz := hgb.sz
  have hgl := hgb.lt
  have hlo : lo ≤ g := (h.row.lt g rfl).1
  have bd := cellsN_bd hv (n := ts.length) (by rw [← hm]; exact hr)
  have hgtx : (gtext x.cells x.lo.toNat x.hi.toNat).length = (grT x).length := rfl
  have fin : ∀ (e : Ending) (w' : World), (e = .returned (.tuple #[]) ∧ ∃ g2 cap2 sp2, InsPostS w w' g (i * 3) cur 143 (glay ((grT x).take p ++ (ts ++ (grT x).drop p)) (p + m) (cellsN x.cells x.lo.toNat x.hi.toNat ts.length)) (cellsN x.cells x.lo.toNat x.hi.toNat ts.length) (fun k => k = g ∨ u.ownBlock = some k) (p + m) (p + (cellsN x.cells x.lo.toNat x.hi.toNat ts.length - (grT x).length)) g2 cap2 sp2) → e = .returned (.tuple #[]) ∧ ∃ u', OwG 143 w' lo w'.heap.size (.slice (some ⟨g, 0, none⟩) n cap) (vs.set i u') (gs.set i (insG x p ts)) ∧ ChgP w w' (fun k => k = g ∨ u.ownBlock = some k) ∧ ∀ q, u'.ownBlock = some q → u.ownBlock = some q ∨ w.heap.size ≤ q := by
    rintro e w' ⟨rfl, g2, cap2, sp2, hP⟩
    have hlen : (glay ((grT x).take p ++ (ts ++ (grT x).drop p)) (p + m) (cellsN x.cells x.lo.toNat x.hi.toNat ts.length)).length = cellsN x.cells x.lo.toNat x.hi.toNat ts.length := by
      refine glay_length ?_ ?_ <;> simp only [List.length_append, List.length_take, List.length_drop] <;> omega
    have hb2 : lo ≤ g2 := by
      by_cases q : g2 < w.heap.size
      · rcases hP.low q with e | e
        · exact absurd e.symm hP.ne
        · exact (ho.lt g2 e).1
      · omega
    have h9 := owns_of_rw (base := lo) hP.rw hlen hb2 hP.cap.1 hP.cap.2.1 hP.cap.2.2
    have eG : insG x p ts = ⟨glay ((grT x).take p ++ (ts ++ (grT x).drop p)) (p + m) (cellsN x.cells x.lo.toNat x.hi.toNat ts.length), ((p + m : Nat) : Int), ((p + (cellsN x.cells x.lo.toNat x.hi.toNat ts.length - (grT x).length) : Nat) : Int)⟩ := by unfold insG; rw [hm]
    have ho' : o32 w' lo (.slice (some ⟨g2, 0, none⟩) (cellsN x.cells x.lo.toNat x.hi.toNat ts.length) cap2) (glay ((grT x).take p ++ (ts ++ (grT x).drop p)) (p + m) (cellsN x.cells x.lo.toNat x.hi.toNat ts.length)) := by
      unfold o32
      rw [hlen]; exact h9
    have hlow : ∀ q, (Value.slice (some ⟨g2, 0, none⟩) (cellsN x.cells x.lo.toNat x.hi.toNat ts.length) cap2).ownBlock = some q → u.ownBlock = some q ∨ w.heap.size ≤ q := fun q hq => by
      simp only [Value.ownBlock, Option.some.injEq] at hq
      subst hq
      rcases Nat.lt_or_ge g2 w.heap.size with hql | hql
      · rcases hP.low hql with e | e
        · exact absurd e.symm hP.ne
        · exact .inl e
      · exact .inr hql
    refine ⟨rfl, .slice (some ⟨g2, 0, none⟩) (cellsN x.cells x.lo.toNat x.hi.toNat ts.length) cap2, ?_, hP.chg, hlow⟩
    rw [eG]
    refine h.edit hn hx hu hh hcur hP.gb.blk ho' (fun q hq => (ho'.lt q hq).2) (fun q hq hql => ?_) hP.chg
    simp only [Value.ownBlock, Option.some.injEq] at hq
    subst hq
    rcases hP.low hql with e | e
    · exact absurd e.symm hP.ne
    · exact e
  rcases row_cases ho with ⟨rfl, e0⟩ | ⟨g0, c0, rfl⟩
  · have hl0 : x.lo.toNat = 0 ∧ x.hi.toNat = 0 := by rw [e0] at hba; simp at hba; omega
    have hg0 : grT x = [] := List.eq_nil_of_length_eq_zero (by rw [hgt, e0]; simp)
    have hp0 : p = 0 := by rw [hg0] at hp; simpa using hp
    subst hp0
    rw [el, eh, hl0.1, hl0.2] at hgb
    by_cases h0 : m = 0
    · have ht0 : ts = [] := List.eq_nil_of_length_eq_zero (by omega)
      subst h0 ht0
      refine (insertNil g (i * 3) cur 143 ap cp w hgb).mono ?_
      rintro e w' ⟨rfl, hP⟩
      have eD : insG x 0 [] = ⟨[], 0, 0⟩ := by
        unfold insG
        rw [hl0.1, hl0.2, e0, hg0]
        simp [glay, cellsN]
      have hC := ChgP.weak hP.chg (T := fun k => k = g ∨ (Value.slice none 0 0).ownBlock = some k) (fun k hk => .inl hk)
      refine ⟨rfl, .slice none 0 0, ?_, hC, fun q hq => by simp [Value.ownBlock] at hq⟩
      rw [eD]
      refine h.edit hn hx hu hh hcur ?_ ⟨rfl, .inl ⟨rfl, rfl⟩⟩ (bel_nil _) (fun q hq => by simp [Value.ownBlock] at hq) hC
      rw [hP.gb.self]; exact hP.gb.blk
    · have hd : Dbl m 16 (cellsN x.cells x.lo.toNat x.hi.toNat ts.length) := by
        rcases cellsN_or x.cells x.lo.toNat x.hi.toNat ts.length with ⟨q, _⟩ | ⟨_, q⟩
        · rw [hl0.1, hl0.2] at q; omega
        · rw [hgtx, hg0, ← hm, e0] at q
          rw [← hm, e0]
          simpa using q
      have HR := hide (makeRoomNilS g (i * 3) cur 143 m _ (fun k => k = g ∨ (Value.slice none 0 0).ownBlock = some k) w hgb (by omega) (by omega) (.inl rfl) hd)
      have h8 := insertCoreS g (i * 3) cur 143 [] ts ap m cp _ 0 _ w hsz hm (by simp) (by have := bd.1; simp only [List.length_nil]; omega) (.inl rfl) hT HR
      refine h8.mono (fun e w' q => fin e w' ?_)
      rw [hg0]
      exact q
  · obtain ⟨hb0, hc0, hm0, sp, hrw, hsp⟩ := Rw.of_owns ho
    have hne : g ≠ g0 := fun e => own_apart ho h.row (by decide) (q := g0) rfl (by simp [Value.ownBlock, e])
    rw [el, eh] at hgb
    have HR := hide (makeRoomS g (i * 3) g0 c0 cur 143 x.cells sp x.lo.toNat x.hi.toNat m _ (fun k => k = g ∨ (Value.slice (some ⟨g0, 0, none⟩) x.cells.length c0).ownBlock = some k) w hgb hrw hne (ho.lt g0 rfl).2 hc0 hm0 hsp hv hr (.inr rfl) (.inl rfl) (by rw [hm]; exact cellsN_or _ _ _ _))
    have h8 := insertCoreS g (i * 3) cur 143 (gtext x.cells x.lo.toNat x.hi.toNat) ts ap m cp _ p _ w hsz hm hp (by rw [hm]; exact bd.1) (.inl rfl) hT HR
    exact h8.mono (fun e w' q => fin e w' q)
end Go.Proofs.YtbkcbhjejkicjaaGreatDoor

namespace Go.Proofs.YtbkcbhjejkicjaaGreatDoor
open Go Go.RowKit
set_option linter.unusedVariables false

/-- The core behind an edit of one row. -/
theorem LCr.rowed {w w1 : World} {lo hi c g cap n i : Nat} {sv u : Value} {vs vs' : List Value} {gs G : List Gr} {a b : Nat} {rn : Int} {st : List Int} (h : LCr w lo hi c (.slice (some ⟨g, 0, none⟩) n cap) sv vs gs a b rn st) (hh : hi ≤ w.heap.size) (hu : vs[i]? = some u) (hlc : lo ≤ c)
    (hr : OwG 143 w1 lo w1.heap.size (.slice (some ⟨g, 0, none⟩) n cap) vs' G) (hc : ChgP w w1 (fun k => k = g ∨ u.ownBlock = some k)) :
    LCr w1 lo w1.heap.size c (.slice (some ⟨g, 0, none⟩) n cap) sv vs' G a b rn st ∧ Below lo w w1 := by
  have hil : i < (gs.map Gr.cells).length := by rw [← h.rows.nest.len]; exact (List.getElem?_eq_some_iff.1 hu).1
  have ho := h.rows.nest.own i u _ hu (List.getElem?_eq_getElem hil)
  have hcl := h.lt
  have hgl := h.rows.row.lt g rfl
  refine ⟨⟨(hc.block c hcl (fun s => ?_)).trans h.blk, hr, ?_, bel_mono h.sbl (by have := hc.size; omega)⟩, hc.os, hc.tape, hc.output, hc.size, fun k hk => hc.block k (by omega) (fun s => ?_)⟩
  · rcases s with s | s
    · exact own_apart (blk_row h.blk) h.rows.row (by decide) (q := c) rfl (by simp [Value.ownBlock, s])
    · exact own_apart (blk_row h.blk) ho (by decide) (q := c) rfl s
  · refine owns_of_block h.starts (fun q hq => hc.block q (h.starts.lt q hq).2 (fun s => ?_))
    rcases s with s | s
    · exact own_apart h.starts h.rows.row (by decide) hq (by simp [Value.ownBlock, s])
    · exact own_apart h.starts ho (by decide) hq s
  · rcases s with s | s
    · omega
    · have := (ho.lt k s).1; omega
/-- The number of runes written anew. -/
theorem LCr.setN {w : World} {lo hi c : Nat} {rv sv : Value} {vs : List Value} {gs : List Gr} {a b : Nat} {rn : Int} {st : List Int} (h : LCr w lo hi c rv sv vs gs a b rn st) (r : Int) : LCr (w.setCell ⟨c, 3, none⟩ (.int .i64 r)) lo hi c rv sv vs gs a b r st := by
  have hr := blk_row h.blk
  have hg : w.grownBy (w.setCell ⟨c, 3, none⟩ (.int .i64 r)) (Value.slice (some ⟨c, 0, none⟩) 1 1).ownBlock := ⟨rfl, rfl, rfl, by simp, fun k _ hk => heap_setCell_other w ⟨c, 3, none⟩ k _ (fun e => hk (by simp [Value.ownBlock, e]))⟩
  exact ⟨heap_setCell_same w c 3 _ _ _ h.blk, h.rows.kept hr (by decide) (by decide) hg, own_kept h.starts hr (by decide) hg, h.sbl⟩
theorem own64_take {w : World} {lo : Nat} {ao : Option Addr} {n cap k : Nat} {st : List Int} (h : o64 w lo (.slice ao n cap) st) (hk1 : 1 ≤ k) (hk : k ≤ st.length) : o64 w lo (.slice ao k cap) (st.take k) := by
  unfold o64 at *
  rcases h.2 with ⟨e, e0⟩ | ⟨g, cap', cur, e, h1, h2, h3, h4, h5, h6⟩
  · omega
  · simp only [Value.slice.injEq] at e
    obtain ⟨rfl, e2, rfl⟩ := e
    have hl : (st.take k).length = k := by rw [List.length_take]; omega
    refine ⟨by rw [ints_length, hl, Nat.mul_one], .inr ⟨g, cap, cur, by rw [hl], h1, h2, by omega, h4, h5, ?_⟩⟩
    rw [hl]
    have e3 : List.take (k * 1) cur.toList = (List.take (st.length * 1) cur.toList).take (k * 1) := by rw [List.take_take, Nat.min_eq_left (by omega)]
    rw [e3, h6]
    simp [ints, List.map_take]

end Go.Proofs.YtbkcbhjejkicjaaGreatDoor

namespace Go.Proofs.YtbkcbhjejkicjaaGreatDoor
open Go Go.RowKit
set_option linter.unusedVariables false

/-- The blocks of a line core. -/
def CoS (c g : Nat) (sv : Value) (vs : List Value) (k : Nat) : Prop := k = c ∨ k = g ∨ sv.ownBlock = some k ∨ ∃ u ∈ vs, u.ownBlock = some k
theorem Ln.colF {L : List (List Int)} {off k : Nat} {l : List Int} (h : Ln L off k) (ho : off ≤ (jn L).length) (hl : L[k]? = some l) : off - sAt L k ≤ l.length ∧ sAt L k ≤ off := by
  have hk := h.1
  have h2 := h.2.1
  refine ⟨?_, h2⟩
  have h3 := sAt_succ hl
  by_cases hn : k + 1 < L.length
  · have := h.2.2 hn; omega
  · have h4 := jn_len (ls := L) (by intro e; rw [e] at hk; simp at hk)
    have h5 : smL (L.take (k + 1)) = smL L := by rw [List.take_of_length_le (by omega)]
    unfold sAt at *
    omega
theorem Kn.ltF {L : List (List Int)} {s0 off m k : Nat} (h : Kn L s0 off m) (hl : Ln L off k) (hs : 1 ≤ s0) : k < m := by
  rcases Nat.lt_or_ge k m with q | q
  · exact q
  · have h1 := h.2.2.2 (by have := hl.1; omega)
    have h2 := sAt_le L (show m - 1 ≤ k by omega)
    have := hl.2.1
    omega
theorem text_keptF {w w' : World} {ts : List Int} {b o m ct : Nat} {S : Nat → Prop} (T : ∀ i, i < ts.length → w.cell? ⟨b, o + i, none⟩ = some (.int .i32 (ts.getD i 0))) (hc : ChgP w w' S) (hb : b < w.heap.size) (hS : ¬ S b) (hm : ts.length = m) : Sl .i32 w' (.slice (some ⟨b, o, none⟩) m ct) ts :=
  .inr ⟨b, o, ct, by rw [hm], Nat.lt_of_lt_of_le hb hc.size, fun i hi => (World.cell?_of_block (a := ⟨b, o + i, none⟩) (hc.block b hb hS)).trans (T i hi)⟩
theorem own_valF {w : World} {base e size : Nat} {v : Value} {n : Nat} {xs : List Value} (h : w.ownsRow base e size v n xs) : ∃ ao cap, v = .slice ao n cap := by
  rcases h.2 with ⟨rfl, h0⟩ | ⟨g, cap, cur, rfl, _⟩
  · exact ⟨none, 0, by rw [h0]⟩
  · exact ⟨_, _, rfl⟩

set_option maxHeartbeats 1000000 in
set_option maxRecDepth 100000 in
theorem forgetF {w : World} {lo hi c : Nat} {rv : Value} {as_ : Option Addr} {m cs : Nat} {vs : List Value} {gs : List Gr} {a b : Nat} {rn : Int} {st : List Int} (k : Nat) (h : LCr w lo hi c rv (.slice as_ m cs) vs gs a b rn st) (hm : st.length = m) (hk : k < m) (hmb : m ≤ 1048576) :
    Calls Tryz.prog 224 #[.pointer (some ⟨c, 0, none⟩), .int .i64 k] w fun e w' => e = .returned (.tuple #[]) ∧ LCr w' lo hi c rv (.slice as_ (k + 1) cs) vs gs a b rn (st.take (k + 1)) ∧ w' = w.setCell ⟨c, 4, none⟩ (.slice as_ (k + 1) cs) := by
  have S2 := hide (own64_take h.starts (k := k + 1) (by omega) (by omega))
  have H := hide h
  have hcs : m ≤ cs := by
    have h9 := h.starts
    unfold o64 at h9
    rw [hm] at h9
    rcases h9.2 with ⟨e, e0⟩ | ⟨g, cap', cur, e, _, _, h3, _⟩
    · omega
    · simp only [Value.slice.injEq] at e
      obtain ⟨_, _, rfl⟩ := e
      exact h3
  obtain ⟨q0, q1, q2, q3, q4⟩ := h.cells
  have f4 := h.fz 4
  have i1 : (k : Int) + 1 ≤ (cs : Int) := by omega
  have hbl := hide (show bel hi (.slice as_ (k + 1) cs) from fun q hq => by
    cases as_ with
    | none => simp [Value.ownBlock] at hq
    | some a0 => exact h.sbl q hq)
  clear h
  go_enter Tryz.func224, Tryz.ntmps224
  go_wp2
  go_end0
  exact ⟨rfl, H.out.setS S2.out hbl.out, rfl⟩

set_option maxHeartbeats 4000000 in
set_option maxRecDepth 100000 in
theorem insF1 (c g cap n nl a b off : Nat) (sv : Value) (vs : List Value) (gs : List Gr) (LS : List (List Int)) (rn : Int) (st : List Int) (ts : List Int) (bT o m ct : Nat) (w : World) (h : LCr w 0 w.heap.size c (.slice (some ⟨g, 0, none⟩) n cap) sv vs gs a b rn st) (hN : gs.length = n) (hab : a ≤ b ∧ b ≤ n) (hn : n ≤ 1048576) (hnl : nl + (b - a) = n) (hLn : LS.length = nl) (h2 : nl ≤ 8193) (hSB : ∀ k, k < nl → ∃ x u, gs[phi a b k]? = some x ∧ vs[phi a b k]? = some u ∧ LS[k]? = some (grT x) ∧ okG x) (hs1 : 1 ≤ st.length) (hst : st = (stL LS).take st.length) (hsn : st.length ≤ nl) (hj : (jn LS).length + m ≤ 8192) (hof : off ≤ (jn LS).length)
    (hm : ts.length = m) (hts : 10 ∉ ts) (hbl : bT < w.heap.size) (hnS : ¬ CoS c g sv vs bT) (hct : m ≤ ct) (hcm : ct ≤ maxLen) (hrn : 0 ≤ rn ∧ rn ≤ 8192) (hT : ∀ i, i < ts.length → w.cell? ⟨bT, o + i, none⟩ = some (.int .i32 (ts.getD i 0))) :
    Calls Tryz.prog 208 #[.pointer (some ⟨c, 0, none⟩), .int .i64 off, .slice (some ⟨bT, o, none⟩) m ct] w fun e w' => e = .returned (.tuple #[]) ∧ ∃ (k : Nat) (x : Gr) (sv' : Value) (vs' : List Value), Ln LS off k ∧ gs[phi a b k]? = some x ∧ LCr w' 0 w'.heap.size c (.slice (some ⟨g, 0, none⟩) n cap) sv' vs' (gs.set (phi a b k) (insG x (off - sAt LS k) ts)) a b (rn + m) ((stL LS).take (k + 1)) ∧ ChgP w w' (CoS c g sv vs) ∧ ∀ q, CoS c g sv' vs' q → CoS c g sv vs q ∨ w.heap.size ≤ q := by
  have LC := hide (lineColF c g cap n nl a b off sv vs gs LS rn st w h hN hab hn hnl hLn h2 hSB hs1 hst hsn (by omega) (by omega))
  have SB := hide hSB
  have HS1 := hide hs1
  have HT := hide hT
  have HN := hide hN
  have HM := hide hm
  have hLL := hide hLn
  have HOF := hide hof
  have HJ := hide hj
  have hcc : n ≤ cap := by
    have h9 := h.rows.row
    rw [hN] at h9
    rcases h9.2 with ⟨e, _⟩ | ⟨_, _, _, e, _, _, h3, _⟩
    · cases e
    · simp only [Value.slice.injEq] at e
      obtain ⟨_, _, rfl⟩ := e
      exact h3
  have CC := hide (show CoS c g sv vs c from .inl rfl)
  have CG := hide (show CoS c g sv vs g from .inr (.inl rfl))
  have CV := hide (fun q (hq : sv.ownBlock = some q) => (show CoS c g sv vs q from .inr (.inr (.inl hq))))
  have CU := hide (fun u q (hu : u ∈ vs) (hq : u.ownBlock = some q) => (show CoS c g sv vs q from .inr (.inr (.inr ⟨u, hu, hq⟩))))
  generalize hSS : CoS c g sv vs = S at *
  clear h hSB hst hs1 hT hj hof hm hSS hN hLn
  go_enter Tryz.func208, Tryz.ntmps208
  go_wp2_with fail
  refine LC.out.mono ?_
  rintro e w1 ⟨k, mm, sv1, rfl, hLn, hKn, hL1, hb1, hso1⟩
  have hkn : k < nl := by have := hLn.1; rw [hLL.out] at this; exact this
  obtain ⟨x, u, hx, hu, hlx, okx⟩ := SB.out k hkn
  have hpi : phi a b k < n := by rw [← HN.out]; exact (List.getElem?_eq_some_iff.1 hx).1
  have hcol := hLn.colF HOF.out hlx
  obtain ⟨cc, hcc0⟩ : ∃ cc, cc = off - sAt LS k := ⟨_, rfl⟩
  rw [← hcc0] at hcol
  have ecol : (off : Int) - (sAt LS k : Nat) = (cc : Nat) := by have := hcol.2; omega
  rw [ecol]
  have hkm := hKn.ltF hLn HS1.out
  have hmn : mm ≤ nl := by have := hKn.2.1; rw [hLL.out] at this; exact this
  have AT := hide (atF c g cap n k a b w1 ⟨hL1.cells.1, hL1.cells.2.1, hL1.cells.2.2.1⟩ hab hpi hcc (by omega))
  have s1 := hb1.size
  have B1 := hide (show ChgP w w1 S from (ChgP.reflS w S).transS hb1 (fun q hq => by
    rcases hq with rfl | hq
    · exact .inl CC.out
    · exact .inl (CV.out q hq)))
  have SO1 := hide (show ∀ q, sv1.ownBlock = some q → S q ∨ w.heap.size ≤ q from fun q hq => by
    rcases hso1 q hq with (rfl | h9) | h9
    · exact .inl CC.out
    · exact .inl (CV.out q h9)
    · exact .inr h9)
  have L1 := hide hL1
  have LNN := hide hLn
  have HX := hide hx
  have HU := hide hu
  have HLX := hide hlx
  have OKX := hide okx
  have HCC := hide hcc0
  have HCL := hide hcol
  have KM := hide hkm
  have hccb : cc ≤ 8192 := by have := hcol.1; have := (grT_len okx.1).2.1; omega
  have T1 := hide (show ∀ i, i < ts.length → w1.cell? ⟨bT, o + i, none⟩ = some (.int .i32 (ts.getD i 0)) from fun i hi => (World.cell?_of_block (a := ⟨bT, o + i, none⟩) (B1.out.block bT hbl hnS)).trans (HT.out i hi))
  clear hL1 hb1 hso1 hLn hKn hx hu hcc0 hcol hkm ecol hlx okx LC HT SB
  go_wp2_with fail
  refine AT.out.mono ?_
  rintro e wx ⟨rfl, nq, hwx⟩
  have X1 : wx.heap = w1.heap := by rw [hwx]; rfl
  have B1 := hide (show ChgP w wx S from by rw [hwx]; exact ⟨B1.out.os, B1.out.tape, B1.out.output, B1.out.size, B1.out.block⟩)
  have L1 := hide (show LCr wx 0 wx.heap.size c (.slice (some ⟨g, 0, none⟩) n cap) sv1 vs gs a b rn ((stL LS).take mm) from (L1.out.same X1).mono (Nat.le_refl _) (by rw [X1]; exact Nat.le_refl _))
  have T1 := hide (show ∀ i, i < ts.length → wx.cell? ⟨bT, o + i, none⟩ = some (.int .i32 (ts.getD i 0)) from fun i hi => (World.cell?_of_block (a := ⟨bT, o + i, none⟩) (by rw [X1])).trans (T1.out i hi))
  have s1 := B1.out.size
  clear hwx AT X1
  have CUT := hide (cutL ts bT o ct wx T1.out (by omega) (by rw [HM.out]; have := HJ.out; omega) (by rw [HM.out]; exact hct) hcm)
  rw [HM.out, lns_no hts] at CUT
  go_wp2_with fail
  refine CUT.out.mono ?_
  rintro e w2 ⟨v2, vals, rfl, ho2, hat2, hb2⟩
  have s2 := hb2.size
  obtain ⟨av, cv, hv2⟩ := own_valF ho2
  subst hv2
  have L2 := hide (L1.out.below hb2 (Nat.le_refl _) L1.out.lt)
  have B2 := hide (B1.out.belowS hb2 (by omega))
  have T2 := hide (show ∀ i, i < ts.length → w2.cell? ⟨bT, o + i, none⟩ = some (.int .i32 (ts.getD i 0)) from fun i hi => (hb2.cell (p := ⟨bT, o + i, none⟩) (by show bT < wx.heap.size; omega)).trans (T1.out i hi))
  clear ho2 hat2 hb2 CUT T1 L1 B1
  have hnS2 : ¬ (bT = g ∨ u.ownBlock = some bT) := fun h9 => by
    rcases h9 with h9 | h9
    · rw [h9] at hnS; exact hnS CG.out
    · exact hnS (CU.out u bT (List.mem_of_getElem? HU.out) h9)
  have RI := hide (rowInsN (p := cc) (ts := ts) (ap := some ⟨bT, o, none⟩) (m := m) (cp := ct) L2.out.rows HN.out HX.out HU.out s2 OKX.out.1 HCL.out.1 HM.out.symm (by
      have h8 := smL_get (ls := LS) (i := k) (l := grT x) HLX.out
      have h9 := jn_len (ls := LS) (by intro e; have := hLL.out; rw [e] at this; simp at this; omega)
      have := HJ.out
      have h7 := hLL.out
      omega) (fun w' hc => text_keptF T2.out hc (by omega) hnS2 HM.out))
  go_wp2_with fail
  refine RI.out.mono ?_
  rintro e w3 ⟨rfl, u3, hO3, hC3, hlow⟩
  obtain ⟨hL3, _⟩ := L2.out.rowed s2 HU.out (Nat.zero_le _) hO3 hC3
  have s3 := hC3.size
  have B3 := hide (B2.out.transS hC3 (fun q hq => by
    rcases hq with rfl | hq
    · exact .inl CG.out
    · exact .inl (CU.out u q (List.mem_of_getElem? HU.out) hq)))
  have LOW := hide (show ∀ q, u3.ownBlock = some q → S q ∨ w.heap.size ≤ q from fun q hq => by
    rcases hlow q hq with h9 | h9
    · exact .inl (CU.out u q (List.mem_of_getElem? HU.out) h9)
    · exact .inr (by omega))
  have L4 := hide (hL3.setN (rn + m))
  obtain ⟨q0, q1, q2, q3, q4⟩ := hL3.cells
  have f3 := hL3.fz 3
  have hmb : m ≤ 8192 := by have := HJ.out; omega
  obtain ⟨as_, cs, hsv⟩ := o64_val L4.out.starts
  have hstl : ((stL LS).take mm).length = mm := by rw [List.length_take, stL_len, hLL.out]; omega
  rw [hstl] at hsv
  subst hsv
  have FG := hide (forgetF k L4.out hstl KM.out (by omega))
  rw [List.take_take, Nat.min_eq_left (by have := KM.out; omega)] at FG
  clear hL3 hO3 hC3 RI L2 B2 T2 hstl hlow
  go_wp2_with fail
  refine FG.out.mono ?_
  rintro e w5 ⟨rfl, hL5, hw5⟩
  have L5 := hide hL5
  have B5 := hide (show ChgP w w5 S from by rw [hw5]; exact (B3.out.setS ⟨c, 3, none⟩ _ (.inl CC.out)).setS ⟨c, 4, none⟩ _ (.inl CC.out))
  have hs5' : w3.heap.size ≤ w5.heap.size := by rw [hw5]; simp
  clear hL5 hw5 FG
  go_wp2
  go_end0
  refine ⟨rfl, k, x, _, _, LNN.out, HX.out, by rw [← HCC.out]; exact L5.out.mono (Nat.le_refl _) hs5', B5.out, fun q hq => ?_⟩
  rcases hq with rfl | rfl | hq | ⟨y, hy, hq⟩
  · exact .inl CC.out
  · exact .inl CG.out
  · refine SO1.out q ?_
    cases as_ with
    | none => simp [Value.ownBlock] at hq
    | some a0 => exact hq
  · rcases List.mem_or_eq_of_mem_set hy with h9 | rfl
    · exact .inl (CU.out y q h9 hq)
    · exact LOW.out q hq
end Go.Proofs.YtbkcbhjejkicjaaGreatDoor

