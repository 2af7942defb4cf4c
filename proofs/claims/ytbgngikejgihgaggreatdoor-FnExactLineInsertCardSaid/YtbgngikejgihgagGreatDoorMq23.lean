import Derived.Test.YtbgngikejgihgagGreatDoorMq20
import Derived.WalkKit
import Derived.WalkLawsBesides
import Derived.Deep.RegionLaw
import Derived.Deep.Cut
import Derived.Deep.CutRange
import Derived.Deep.CutBlock
import Derived.Deep.DeepCutAuto
import Derived.Test.YtbgngikejgihgagGreatDoorMq19
import Derived.Test.YtbgngikejgihgagGreatDoorMq22
import Derived.Test.YtbgngikejgihgagGreatDoorMq14
namespace Go.Proofs.YtbgngikejgihgagGreatDoor
open Go Go.RowKit
set_option linter.unusedVariables false

theorem step_copy_none {P : Program} {ops : Array Oper} {o : Oper} {a : Act} {w : World} {K : Act → World → Prop} {Q : Exit → Act → World → Prop} {E : Prop} (hgd : o.guard = none) (d s : Operand) (dT sT : TypeId)
    (ho : o.op = .call { callee := .builtin .copy, args := #[d, s], argTypes := #[dT, sT] }) (elem : TypeId) (hu : P.underlying dT = some (.slice elem)) (hsz : (P.info? elem).map (·.size) = some 1)
    (dp sp : Option Addr) (dLen dCap sLen sCap : Nat) (hd : a.eval d = .slice dp dLen dCap) (hs : a.eval s = .slice sp sLen sCap) (hn : Nat.min sLen dLen = 0)
    (h : K (a.put o.dst (goInt 0)) w) :
    if Region.wanted o (yielded ops a.tmps) = true then Oper.wp P o a w K Q else E := by
  have hw : Region.wanted o (yielded ops a.tmps) = true := by simp [Region.wanted, hgd]
  rw [if_pos hw]
  have hrun := run_copy_none (P := P) w dT sT o.type elem dp sp dLen dCap sLen sCap hu hsz hn
  unfold Oper.wp
  simp [execOp, ho, resolve, invoke, builtin, hd, hs, hrun, Result.andThen]
  exact h

theorem gnil_setLo {w w1 : World} {B o : Nat} {cs : Array Value} {t : TypeId} (h : GB w B o cs t (.slice none 0 0) 0 0) (hh : w1.heap = w.heap) (ho : w1.os = w.os) (ht : w1.tape = w.tape) (hp : w1.output = w.output) :
    GNilPost w (w1.setCell ⟨B, o + 1, none⟩ (.int .i64 0)) B o cs t := by
  have h0 : w1.heap[B]? = some (.cells cs t (0, 0)) := by rw [hh]; exact h.blk
  have h2 := heap_setCell_same w1 B (o + 1) _ _ (.int .i64 0) h0
  have hs := h.sz
  have e : cs.setIfInBounds (o + 1) (.int .i64 0) = cs := by
    rw [← h.self]
    apply set3_ext (by simp [set3_size]) h.sz
    · rw [Array.getElem?_setIfInBounds, if_neg (by omega), set3_get _ _ _ _ _ _ hs]; simp
    · rw [Array.getElem?_setIfInBounds, if_pos rfl, if_pos (by rw [set3_size]; omega)]
    · rw [Array.getElem?_setIfInBounds, if_neg (by omega), set3_get _ _ _ _ _ _ hs]; simp
    · intro j e0 e1 e2
      rw [Array.getElem?_setIfInBounds, if_neg (by omega), set3_get _ _ _ _ _ _ hs]
      simp [e0, e1, e2]
  rw [e] at h2
  refine ⟨⟨h2, h.sz, h.c0, h.c1, h.c2⟩, ho, ht, hp, by simp [hh], fun k hk hn => ?_⟩
  rw [setCell_block_other (by show k ≠ B; exact hn), hh]

set_option maxHeartbeats 4000000 in
set_option maxRecDepth 100000 in
theorem insertNil (B o : Nat) (cs : Array Value) (t : TypeId) (ap : Option Addr) (cp : Nat) (w : World) (h : GB w B o cs t (.slice none 0 0) 0 0) :
    Calls Tryz.prog 360 #[.pointer (some ⟨B, o, none⟩), .int .i64 0, .slice ap 0 cp] w fun x w' => x = .returned (.tuple #[]) ∧ GNilPost w w' B o cs t := by
  have HM := hide (makeRoom_no B o none 0 0 0 0 0 w (by simpa using h.gc) (by omega) (by omega) (by omega) (by omega))
  have H := hide h
  have wr0 : IntKind.i64.wrap 0 = 0 := by rw [IntKind.wrap_i64]; rfl
  clear h
  go_enter Tryz.func360, Tryz.ntmps360
  go_wp2_with fail
  refine HM.out.mono ?_
  rintro x w1 ⟨rfl, m, rfl⟩
  have H1 := hide (H.out.block (w' := w.drewN m) rfl)
  have A1 := hide (show Alk w (w.drewN m) from ⟨rfl, rfl, rfl, rfl⟩)
  clear HM
  generalize w.drewN m = w1 at *
  go_wp2_with fail
  refine (moveToNil B o cs t w1 H1.out).mono ?_
  rintro x w2 ⟨rfl, hp2⟩
  have P2 := hide hp2
  obtain ⟨d0, d1, d2⟩ := hp2.gb.gc
  obtain ⟨f0, f1, f2⟩ := hp2.gb.gf
  clear hp2
  go_upto_region 2 with fail
  go_region_law (refine step_copy_none rfl (.tmp 29) (.tmp 30) 36 36 rfl 21 Tryz.underlying36 info_size1 none ap 0 0 0 cp rfl rfl rfl ?_)
  all_goals (
    go_wp2
    go_end0
    refine ⟨rfl, ?_⟩
    have q := P2.out.trans (gnil_setLo (w1 := w2.drew) P2.out.gb rfl rfl rfl rfl)
    exact ⟨q.gb, ⟨q.chg.os.trans A1.out.os, q.chg.tape.trans A1.out.tape, q.chg.output.trans A1.out.output, by have := q.chg.size; rw [A1.out.heap] at this; exact this, fun k hk hn => (q.chg.block k (by rw [A1.out.heap]; exact hk) hn).trans (by rw [A1.out.heap])⟩⟩)
end Go.Proofs.YtbgngikejgihgagGreatDoor

namespace Go.Proofs.YtbgngikejgihgagGreatDoor
open Go Go.RowKit
set_option linter.unusedVariables false

theorem ChgP.weak {w w' : World} {S T : Nat → Prop} (h : Chg w w' S) (hS : ∀ k, S k → T k) : Chg w w' T := ⟨h.os, h.tape, h.output, h.size, fun k hk hn => h.block k hk (fun s => hn (hS k s))⟩
theorem row_cases {w : World} {lo : Nat} {u : Value} {zs : List Int} (h : o32 w lo u zs) : (u = .slice none 0 0 ∧ zs = []) ∨ ∃ g0 c0, u = .slice (some ⟨g0, 0, none⟩) zs.length c0 := by
  rcases h.2 with ⟨e, e0⟩ | ⟨g0, c0, cur, e, _⟩
  · exact .inl ⟨e, List.eq_nil_of_length_eq_zero e0⟩
  · exact .inr ⟨g0, c0, e⟩

theorem rowDelN {w : World} {lo hi g cap n i a b : Nat} {vs : List Value} {gs : List Gr} {x : Gr} {u : Value} (h : OwG 177 w lo hi (.slice (some ⟨g, 0, none⟩) n cap) vs gs) (hn : gs.length = n) (hx : gs[i]? = some x) (hu : vs[i]? = some u) (hh : hi ≤ w.heap.size) (hk : gkP x.cells x.lo x.hi) (hab : a ≤ b) (hb : b ≤ (grT x).length) :
    Calls Tryz.prog 362 #[.pointer (some ⟨g, i * 3, none⟩), .int .i64 a, .int .i64 b] w fun e w' => e = .returned (.tuple #[]) ∧ ∃ u', OwG 177 w' lo w'.heap.size (.slice (some ⟨g, 0, none⟩) n cap) (vs.set i u') (gs.set i (delG x a b)) ∧ u'.ownBlock = u.ownBlock ∧ Chg w w' (fun k => k = g ∨ u.ownBlock = some k) := by
  obtain ⟨hv, el, eh⟩ := gkP_GV hk
  have hgt : (grT x).length = x.cells.length - (x.hi.toNat - x.lo.toNat) := gtext_length hv.a hv.b
  obtain ⟨cur, hcur, hgb⟩ := h.gb hn hx hu
  have ho : o32 w lo u x.cells := h.nest.own i u x.cells hu (by rw [List.getElem?_map, hx]; rfl)
  have hba := hv.b
  have haa := hv.a
  rcases row_cases ho with ⟨rfl, e0⟩ | ⟨g0, c0, rfl⟩
  · have hl0 : x.lo.toNat = 0 ∧ x.hi.toNat = 0 := by rw [e0] at hba; simp at hba; omega
    have hb0 : b = 0 := by have : (grT x).length = 0 := (by rw [hgt, e0]; simp); omega
    have ha0 : a = 0 := by omega
    subst hb0 ha0
    rw [el, eh, hl0.1, hl0.2] at hgb
    refine (removeNil g (i * 3) cur 177 w hgb).mono ?_
    rintro e w' ⟨rfl, hp⟩
    have eD : delG x 0 0 = ⟨[], 0, 0⟩ := by
      unfold delG
      rw [hl0.1, hl0.2, e0]
      have : grT x = [] := List.eq_nil_of_length_eq_zero (by rw [hgt, e0]; simp)
      simp [glay, this]
    have hC := ChgP.weak hp.chg (T := fun k => k = g ∨ (Value.slice none 0 0).ownBlock = some k) (fun k hk => .inl hk)
    refine ⟨rfl, .slice none 0 0, ?_, rfl, hC⟩
    rw [eD]
    refine h.edit hn hx hu hh hcur ?_ ⟨rfl, .inl ⟨rfl, rfl⟩⟩ (bel_nil _) (fun q hq => by simp [Value.ownBlock] at hq) hC
    rw [hp.gb.self]; exact hp.gb.blk
  · obtain ⟨hb0, hc0, hm0, sp, hrw, hsp⟩ := Rw.of_owns ho
    have hne : g ≠ g0 := fun e => own_apart ho h.row (by decide) (q := g0) rfl (by simp [Value.ownBlock, e])
    rw [el, eh] at hgb
    refine (removeG g (i * 3) g0 c0 cur 177 x.cells sp x.lo.toNat x.hi.toNat a b w hgb hrw hne hc0 hv hab (by omega)).mono ?_
    rintro e w' ⟨rfl, hp⟩
    have hC := ChgP.weak hp.chg (T := fun k => k = g ∨ (Value.slice (some ⟨g0, 0, none⟩) x.cells.length c0).ownBlock = some k) (fun k hk => by rcases hk with e | e; exact .inl e; exact .inr (by simp [Value.ownBlock, e]))
    have hgl : (glay ((gtext x.cells x.lo.toNat x.hi.toNat).take a ++ (gtext x.cells x.lo.toNat x.hi.toNat).drop b) a x.cells.length).length = x.cells.length := by
      have e1 : (gtext x.cells x.lo.toNat x.hi.toNat).length = x.cells.length - (x.hi.toNat - x.lo.toNat) := hgt
      have hb' : b ≤ (gtext x.cells x.lo.toNat x.hi.toNat).length := hb
      exact glay_length (by simp only [List.length_append, List.length_take, List.length_drop]; omega) (by simp only [List.length_append, List.length_take, List.length_drop]; omega)
    have ho' : o32 w' lo (.slice (some ⟨g0, 0, none⟩) x.cells.length c0) (delG x a b).cells := by
      have h9 := owns_of_rw (base := lo) hp.rw hgl hb0 hc0 hm0 hsp
      unfold o32 delG
      show w'.ownsRow lo 21 1 _ (glay _ _ _).length _
      rw [show (glay ((grT x).take a ++ (grT x).drop b) a x.cells.length).length = x.cells.length from hgl]
      exact h9
    refine ⟨rfl, _, h.edit hn hx hu hh hcur hp.gb.blk ho' (fun q hq => (ho'.lt q hq).2) (fun q hq _ => hq) hC, rfl, hC⟩

theorem rowInsN {w : World} {lo hi g cap n i p : Nat} {vs : List Value} {gs : List Gr} {x : Gr} {u : Value} {ts : List Int} {ap : Option Addr} {m cp : Nat} (h : OwG 177 w lo hi (.slice (some ⟨g, 0, none⟩) n cap) vs gs) (hn : gs.length = n) (hx : gs[i]? = some x) (hu : vs[i]? = some u) (hh : hi ≤ w.heap.size) (hk : gkP x.cells x.lo x.hi) (hp : p ≤ (grT x).length) (hm : m = ts.length) (hr : (grT x).length + m ≤ 8192)
    (hT : ∀ w', Chg w w' (fun k => k = g ∨ u.ownBlock = some k) → Sl .i32 w' (.slice ap m cp) ts) :
    Calls Tryz.prog 360 #[.pointer (some ⟨g, i * 3, none⟩), .int .i64 p, .slice ap m cp] w fun e w' => e = .returned (.tuple #[]) ∧ ∃ u', OwG 177 w' lo w'.heap.size (.slice (some ⟨g, 0, none⟩) n cap) (vs.set i u') (gs.set i (insG x p ts)) ∧ Chg w w' (fun k => k = g ∨ u.ownBlock = some k) := by
  obtain ⟨hv, el, eh⟩ := gkP_GV hk
  have hgt : (grT x).length = x.cells.length - (x.hi.toNat - x.lo.toNat) := gtext_length hv.a hv.b
  obtain ⟨cur, hcur, hgb⟩ := h.gb hn hx hu
  have ho : o32 w lo u x.cells := h.nest.own i u x.cells hu (by rw [List.getElem?_map, hx]; rfl)
  have hba := hv.b
  have haa := hv.a
  have hsz := hgb.sz
  have hgl := hgb.lt
  have hlo : lo ≤ g := (h.row.lt g rfl).1
  have bd := cellsN_bd hv (n := ts.length) (by rw [← hm]; exact hr)
  have hgtx : (gtext x.cells x.lo.toNat x.hi.toNat).length = (grT x).length := rfl
  have fin : ∀ (e : Ending) (w' : World), (e = .returned (.tuple #[]) ∧ ∃ g2 cap2 sp2, InsPostS w w' g (i * 3) cur 177 (glay ((grT x).take p ++ (ts ++ (grT x).drop p)) (p + m) (cellsN x.cells x.lo.toNat x.hi.toNat ts.length)) (cellsN x.cells x.lo.toNat x.hi.toNat ts.length) (fun k => k = g ∨ u.ownBlock = some k) (p + m) (p + (cellsN x.cells x.lo.toNat x.hi.toNat ts.length - (grT x).length)) g2 cap2 sp2) → e = .returned (.tuple #[]) ∧ ∃ u', OwG 177 w' lo w'.heap.size (.slice (some ⟨g, 0, none⟩) n cap) (vs.set i u') (gs.set i (insG x p ts)) ∧ Chg w w' (fun k => k = g ∨ u.ownBlock = some k) := by
    rintro e w' ⟨rfl, g2, cap2, sp2, hP⟩
    have hlen : (glay ((grT x).take p ++ (ts ++ (grT x).drop p)) (p + m) (cellsN x.cells x.lo.toNat x.hi.toNat ts.length)).length = cellsN x.cells x.lo.toNat x.hi.toNat ts.length := by
      refine glay_length ?_ ?_ <;> simp only [List.length_append, List.length_take, List.length_drop] <;> omega
    have hb2 : lo ≤ g2 := by
      by_cases q : g2 < w.heap.size
      · rcases hP.low q with e | e
        · exact absurd e.symm hP.ne
        · exact (ho.lt g2 e).1
      · omega
    have h9 := owns_of_rw (base := lo) hP.rw hlen hb2 hP.cap.1 hP.cap.2.1 hP.cap.2.2
    have eG : insG x p ts = ⟨glay ((grT x).take p ++ (ts ++ (grT x).drop p)) (p + m) (cellsN x.cells x.lo.toNat x.hi.toNat ts.length), ((p + m : Nat) : Int), ((p + (cellsN x.cells x.lo.toNat x.hi.toNat ts.length - (grT x).length) : Nat) : Int)⟩ := by unfold insG; rw [hm]
    have ho' : o32 w' lo (.slice (some ⟨g2, 0, none⟩) (cellsN x.cells x.lo.toNat x.hi.toNat ts.length) cap2) (glay ((grT x).take p ++ (ts ++ (grT x).drop p)) (p + m) (cellsN x.cells x.lo.toNat x.hi.toNat ts.length)) := by
      unfold o32
      rw [hlen]; exact h9
    refine ⟨rfl, .slice (some ⟨g2, 0, none⟩) (cellsN x.cells x.lo.toNat x.hi.toNat ts.length) cap2, ?_, hP.chg⟩
    rw [eG]
    refine h.edit hn hx hu hh hcur hP.gb.blk ho' (fun q hq => (ho'.lt q hq).2) (fun q hq hql => ?_) hP.chg
    simp only [Value.ownBlock, Option.some.injEq] at hq
    subst hq
    rcases hP.low hql with e | e
    · exact absurd e.symm hP.ne
    · exact e
  rcases row_cases ho with ⟨rfl, e0⟩ | ⟨g0, c0, rfl⟩
  · have hl0 : x.lo.toNat = 0 ∧ x.hi.toNat = 0 := by rw [e0] at hba; simp at hba; omega
    have hg0 : grT x = [] := List.eq_nil_of_length_eq_zero (by rw [hgt, e0]; simp)
    have hp0 : p = 0 := by rw [hg0] at hp; simpa using hp
    subst hp0
    rw [el, eh, hl0.1, hl0.2] at hgb
    by_cases h0 : m = 0
    · have ht0 : ts = [] := List.eq_nil_of_length_eq_zero (by omega)
      subst h0 ht0
      refine (insertNil g (i * 3) cur 177 ap cp w hgb).mono ?_
      rintro e w' ⟨rfl, hP⟩
      have eD : insG x 0 [] = ⟨[], 0, 0⟩ := by
        unfold insG
        rw [hl0.1, hl0.2, e0, hg0]
        simp [glay, cellsN]
      have hC := ChgP.weak hP.chg (T := fun k => k = g ∨ (Value.slice none 0 0).ownBlock = some k) (fun k hk => .inl hk)
      refine ⟨rfl, .slice none 0 0, ?_, hC⟩
      rw [eD]
      refine h.edit hn hx hu hh hcur ?_ ⟨rfl, .inl ⟨rfl, rfl⟩⟩ (bel_nil _) (fun q hq => by simp [Value.ownBlock] at hq) hC
      rw [hP.gb.self]; exact hP.gb.blk
    · have hd : Dbl m 16 (cellsN x.cells x.lo.toNat x.hi.toNat ts.length) := by
        rcases cellsN_or x.cells x.lo.toNat x.hi.toNat ts.length with ⟨q, _⟩ | ⟨_, q⟩
        · rw [hl0.1, hl0.2] at q; omega
        · rw [hgtx, hg0, ← hm, e0] at q
          rw [← hm, e0]
          simpa using q
      have HR := hide (makeRoomNilS g (i * 3) cur 177 m _ (fun k => k = g ∨ (Value.slice none 0 0).ownBlock = some k) w hgb (by omega) (by omega) (.inl rfl) hd)
      have h8 := insertCoreS g (i * 3) cur 177 [] ts ap m cp _ 0 _ w hsz hm (by simp) (by have := bd.1; simp only [List.length_nil]; omega) (.inl rfl) hT HR
      refine h8.mono (fun e w' q => fin e w' ?_)
      rw [hg0]
      exact q
  · obtain ⟨hb0, hc0, hm0, sp, hrw, hsp⟩ := Rw.of_owns ho
    have hne : g ≠ g0 := fun e => own_apart ho h.row (by decide) (q := g0) rfl (by simp [Value.ownBlock, e])
    rw [el, eh] at hgb
    have HR := hide (makeRoomS g (i * 3) g0 c0 cur 177 x.cells sp x.lo.toNat x.hi.toNat m _ (fun k => k = g ∨ (Value.slice (some ⟨g0, 0, none⟩) x.cells.length c0).ownBlock = some k) w hgb hrw hne (ho.lt g0 rfl).2 hc0 hm0 hsp hv hr (.inr rfl) (.inl rfl) (by rw [hm]; exact cellsN_or _ _ _ _))
    have h8 := insertCoreS g (i * 3) cur 177 (gtext x.cells x.lo.toNat x.hi.toNat) ts ap m cp _ p _ w hsz hm hp (by rw [hm]; exact bd.1) (.inl rfl) hT HR
    exact h8.mono (fun e w' q => fin e w' q)
end Go.Proofs.YtbgngikejgihgagGreatDoor

namespace Go.Proofs.YtbgngikejgihgagGreatDoor
open Go Go.RowKit
set_option linter.unusedVariables false

/-- The core behind an edit of one row. -/
theorem LCr.rowed {w w1 : World} {lo hi c g cap n i : Nat} {sv u : Value} {vs vs' : List Value} {gs G : List Gr} {a b : Nat} {rn : Int} {st : List Int} (h : LCr w lo hi c (.slice (some ⟨g, 0, none⟩) n cap) sv vs gs a b rn st) (hh : hi ≤ w.heap.size) (hu : vs[i]? = some u) (hlc : lo ≤ c)
    (hr : OwG 177 w1 lo w1.heap.size (.slice (some ⟨g, 0, none⟩) n cap) vs' G) (hc : Chg w w1 (fun k => k = g ∨ u.ownBlock = some k)) :
    LCr w1 lo w1.heap.size c (.slice (some ⟨g, 0, none⟩) n cap) sv vs' G a b rn st ∧ Below lo w w1 := by
  have hil : i < (gs.map Gr.cells).length := by rw [← h.rows.nest.len]; exact (List.getElem?_eq_some_iff.1 hu).1
  have ho := h.rows.nest.own i u _ hu (List.getElem?_eq_getElem hil)
  have hcl := h.lt
  have hgl := h.rows.row.lt g rfl
  refine ⟨⟨(hc.block c hcl (fun s => ?_)).trans h.blk, hr, ?_, bel_mono h.sbl (by have := hc.size; omega)⟩, hc.os, hc.tape, hc.output, hc.size, fun k hk => hc.block k (by omega) (fun s => ?_)⟩
  · rcases s with s | s
    · exact own_apart (blk_row h.blk) h.rows.row (by decide) (q := c) rfl (by simp [Value.ownBlock, s])
    · exact own_apart (blk_row h.blk) ho (by decide) (q := c) rfl s
  · refine owns_of_block h.starts (fun q hq => hc.block q (h.starts.lt q hq).2 (fun s => ?_))
    rcases s with s | s
    · exact own_apart h.starts h.rows.row (by decide) hq (by simp [Value.ownBlock, s])
    · exact own_apart h.starts ho (by decide) hq s
  · rcases s with s | s
    · omega
    · have := (ho.lt k s).1; omega
/-- The number of runes written anew. -/
theorem LCr.setN {w : World} {lo hi c : Nat} {rv sv : Value} {vs : List Value} {gs : List Gr} {a b : Nat} {rn : Int} {st : List Int} (h : LCr w lo hi c rv sv vs gs a b rn st) (r : Int) : LCr (w.setCell ⟨c, 3, none⟩ (.int .i64 r)) lo hi c rv sv vs gs a b r st := by
  have hr := blk_row h.blk
  have hg : w.grownBy (w.setCell ⟨c, 3, none⟩ (.int .i64 r)) (Value.slice (some ⟨c, 0, none⟩) 1 1).ownBlock := ⟨rfl, rfl, rfl, by simp, fun k _ hk => heap_setCell_other w ⟨c, 3, none⟩ k _ (fun e => hk (by simp [Value.ownBlock, e]))⟩
  exact ⟨heap_setCell_same w c 3 _ _ _ h.blk, h.rows.kept hr (by decide) (by decide) hg, own_kept h.starts hr (by decide) hg, h.sbl⟩
theorem own64_take {w : World} {lo : Nat} {ao : Option Addr} {n cap k : Nat} {st : List Int} (h : o64 w lo (.slice ao n cap) st) (hk1 : 1 ≤ k) (hk : k ≤ st.length) : o64 w lo (.slice ao k cap) (st.take k) := by
  unfold o64 at *
  rcases h.2 with ⟨e, e0⟩ | ⟨g, cap', cur, e, h1, h2, h3, h4, h5, h6⟩
  · omega
  · simp only [Value.slice.injEq] at e
    obtain ⟨rfl, e2, rfl⟩ := e
    have hl : (st.take k).length = k := by rw [List.length_take]; omega
    refine ⟨by rw [ints_length, hl, Nat.mul_one], .inr ⟨g, cap, cur, by rw [hl], h1, h2, by omega, h4, h5, ?_⟩⟩
    rw [hl]
    have e3 : List.take (k * 1) cur.toList = (List.take (st.length * 1) cur.toList).take (k * 1) := by rw [List.take_take, Nat.min_eq_left (by omega)]
    rw [e3, h6]
    simp [ints, List.map_take]

set_option maxHeartbeats 1000000 in
set_option maxRecDepth 100000 in
theorem forgetN {w : World} {lo hi c : Nat} {rv : Value} {as_ : Option Addr} {m cs : Nat} {vs : List Value} {gs : List Gr} {a b : Nat} {rn : Int} {st : List Int} (k : Nat) (h : LCr w lo hi c rv (.slice as_ m cs) vs gs a b rn st) (hm : st.length = m) (hk : k < m) (hmb : m ≤ 1048576) (hlc : lo ≤ c) :
    Calls Tryz.prog 364 #[.pointer (some ⟨c, 0, none⟩), .int .i64 k] w fun e w' => e = .returned (.tuple #[]) ∧ LCr w' lo hi c rv (.slice as_ (k + 1) cs) vs gs a b rn (st.take (k + 1)) ∧ Below lo w w' ∧ w'.heap.size = w.heap.size := by
  have S2 := hide (own64_take h.starts (k := k + 1) (by omega) (by omega))
  have H := hide h
  have hcs : m ≤ cs := by
    have h9 := h.starts
    unfold o64 at h9
    rw [hm] at h9
    rcases h9.2 with ⟨e, e0⟩ | ⟨g, cap', cur, e, _, _, h3, _⟩
    · omega
    · simp only [Value.slice.injEq] at e
      obtain ⟨_, _, rfl⟩ := e
      exact h3
  obtain ⟨q0, q1, q2, q3, q4⟩ := h.cells
  have f4 := h.fz 4
  have i1 : (k : Int) + 1 ≤ (cs : Int) := by omega
  have hbl := hide (show bel hi (.slice as_ (k + 1) cs) from fun q hq => by
    cases as_ with
    | none => simp [Value.ownBlock] at hq
    | some a0 => exact h.sbl q hq)
  clear h
  go_enter Tryz.func364, Tryz.ntmps364
  go_wp2
  go_end0
  exact ⟨rfl, H.out.setS S2.out hbl.out, (Below.refl lo w).setCell hlc _, by simp⟩
end Go.Proofs.YtbgngikejgihgagGreatDoor
