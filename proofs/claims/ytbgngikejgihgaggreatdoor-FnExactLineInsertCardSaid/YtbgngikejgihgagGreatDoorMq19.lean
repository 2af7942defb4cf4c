import Derived.Test.YtbgngikejgihgagGreatDoorMq18
import Derived.Test.YtbgngikejgihgagGreatDoorMq10
import Derived.Test.YtbgngikejgihgagGreatDoorMq03
import Derived.WalkKit
import Derived.WalkLawsBesides
import Derived.StillTailTactics
namespace Go.Proofs.YtbgngikejgihgagGreatDoor
open Go Go.RowKit
set_option linter.unusedVariables false

/-- A row with a text put in. -/
noncomputable def insG (x : Gr) (p : Nat) (ts : List Int) : Gr :=
  ⟨glay ((grT x).take p ++ (ts ++ (grT x).drop p)) (p + ts.length) (cellsN x.cells x.lo.toNat x.hi.toNat ts.length), ((p + ts.length : Nat) : Int), ((p + (cellsN x.cells x.lo.toNat x.hi.toNat ts.length - (grT x).length) : Nat) : Int)⟩
/-- A row with a range taken out. -/
def delG (x : Gr) (a b : Nat) : Gr := ⟨glay ((grT x).take a ++ (grT x).drop b) a x.cells.length, (a : Int), ((b + (x.hi.toNat - x.lo.toNat) : Nat) : Int)⟩

theorem grVs_set3 {vs : List Value} {gs : List Gr} {i : Nat} (u : Value) (x : Gr) (h : vs.length = gs.length) (hi : i < gs.length) : grVs (vs.set i u) (gs.set i x) = (((grVs vs gs).set (i * 3) u).set (i * 3 + 1) (.int .i64 x.lo)).set (i * 3 + 2) (.int .i64 x.hi) := by
  induction i generalizing vs gs with
  | zero =>
    cases vs with
    | nil => simp at h; rw [h] at hi; simp at hi
    | cons v vs =>
      cases gs with
      | nil => simp at hi
      | cons g gs => simp [grVs]
  | succ i ih =>
    cases vs with
    | nil => simp at h; rw [← h] at hi; simp at hi
    | cons v vs =>
      cases gs with
      | nil => simp at hi
      | cons g gs =>
        simp only [List.length_cons] at h hi
        rw [show (i + 1) * 3 = i * 3 + 1 + 1 + 1 by omega, show i * 3 + 1 + 1 + 1 + 1 = (i * 3 + 1) + 1 + 1 + 1 by omega, show i * 3 + 1 + 1 + 1 + 2 = (i * 3 + 2) + 1 + 1 + 1 by omega]
        simp only [List.set_cons_succ, grVs]
        rw [ih (by omega) (by omega)]
theorem set3_take {cur : Array Value} {o m : Nat} {a b c : Value} : (set3 cur o a b c).toList.take m = (((cur.toList.take m).set o a).set (o + 1) b).set (o + 2) c := by
  unfold set3
  simp only [Array.toList_setIfInBounds, List.take_set]
theorem get_set {α : Type} {xs : List α} {i j : Nat} {a b : α} (h : (xs.set i a)[j]? = some b) : (j = i ∧ b = a) ∨ (j ≠ i ∧ xs[j]? = some b) := by
  by_cases e : j = i
  · subst e
    rw [List.getElem?_set_self'] at h
    cases hx : xs[j]? with
    | none => rw [hx] at h; simp at h
    | some y => rw [hx] at h; simp at h; exact .inl ⟨rfl, h.symm⟩
  · rw [List.getElem?_set_ne (fun q => e q.symm)] at h
    exact .inr ⟨e, h⟩

/-- One row of a row of rows written anew. -/
theorem OwG.edit {w w1 : World} {lo hi g cap n i : Nat} {vs : List Value} {gs : List Gr} {x : Gr} {u u' : Value} {cur : Array Value} {zs : List Int} {lo' hi' : Int}
    (h : OwG 177 w lo hi (.slice (some ⟨g, 0, none⟩) n cap) vs gs) (hn : gs.length = n) (hx : gs[i]? = some x) (hu : vs[i]? = some u) (hh : hi ≤ w.heap.size)
    (hcur : w.heap[g]? = some (.cells cur 177 (0, 0))) (hb : w1.heap[g]? = some (.cells (set3 cur (i * 3) u' (.int .i64 lo') (.int .i64 hi')) 177 (0, 0)))
    (ho : o32 w1 lo u' zs) (hbl : bel w1.heap.size u') (hne : ∀ q, u'.ownBlock = some q → q < w.heap.size → u.ownBlock = some q)
    (hc : Chg w w1 (fun k => k = g ∨ u.ownBlock = some k)) :
    OwG 177 w1 lo w1.heap.size (.slice (some ⟨g, 0, none⟩) n cap) (vs.set i u') (gs.set i ⟨zs, lo', hi'⟩) := by
  have hil : i < gs.length := (List.getElem?_eq_some_iff.1 hx).1
  have hsz := hc.size
  have hgl : g < hi := h.bl g rfl
  have keep : ∀ (j : Nat) v l, j ≠ i → vs[j]? = some v → o32 w lo v l → o32 w1 lo v l := by
    intro j v l hji hv hol
    refine owns_of_block hol (fun q hq => hc.block q (hol.lt q hq).2 (fun s => ?_))
    rcases s with s | s
    · exact own_apart hol h.row (by decide) hq (by simp [Value.ownBlock, s])
    · exact h.nest.ne i j u v q (fun e => hji e.symm) hu hv s hq
  refine ⟨?_, fun q hq => ?_, ⟨?_, ?_, ?_, ?_⟩⟩
  · have hr := h.row
    rw [hn] at hr
    rcases hr.2 with ⟨e, _⟩ | ⟨g', cap', cur', e, h1, h2, h3, h4, h5, h6⟩
    · cases e
    · simp only [Value.slice.injEq, Option.some.injEq, Addr.mk.injEq, and_true, true_and] at e
      obtain ⟨rfl, rfl⟩ := e
      rw [hcur] at h2
      simp only [Option.some.injEq, Obj.cells.injEq, and_true] at h2
      subst h2
      rw [List.length_set, hn]
      refine ⟨by rw [grVs_length (by simp [h.len]), List.length_set, hn], .inr ⟨g, cap, _, rfl, h1, hb, h3, h4, by rw [set3_size]; exact h5, ?_⟩⟩
      rw [set3_take, h6, grVs_set3 u' ⟨zs, lo', hi'⟩ h.len hil]
  · simp only [Value.ownBlock, Option.some.injEq] at hq
    omega
  · rw [List.length_set, List.length_map, List.length_set]; exact h.len
  · intro j v l hv hl
    rw [List.map_set] at hl
    rcases get_set hv with ⟨rfl, rfl⟩ | ⟨e, hv'⟩
    · rcases get_set hl with ⟨_, rfl⟩ | ⟨e, _⟩
      · exact ho
      · exact absurd rfl e
    · rcases get_set hl with ⟨e', _⟩ | ⟨_, hl'⟩
      · exact absurd e' e
      · exact keep j v l e hv' (h.nest.own j v l hv' hl')
  · intro v hv
    obtain ⟨j, hj⟩ := List.getElem?_of_mem hv
    rcases get_set hj with ⟨_, rfl⟩ | ⟨_, hj'⟩
    · exact hbl
    · exact bel_mono (h.nest.bl v (List.mem_of_getElem? hj')) (by omega)
  · intro a b y v q hab hy hv hq hq'
    rcases get_set hy with ⟨rfl, rfl⟩ | ⟨ea, hy'⟩
    · rcases get_set hv with ⟨rfl, _⟩ | ⟨eb, hv'⟩
      · exact absurd rfl hab
      · have h1 := h.nest.bl v (List.mem_of_getElem? hv') q hq'
        have h2 := hne q hq (by omega)
        exact h.nest.ne a b u v q hab hu hv' h2 hq'
    · rcases get_set hv with ⟨rfl, rfl⟩ | ⟨eb, hv'⟩
      · have h1 := h.nest.bl y (List.mem_of_getElem? hy') q hq
        have h2 := hne q hq' (by omega)
        exact h.nest.ne a b y u q hab hy' hu hq h2
      · exact h.nest.ne a b y v q hab hy' hv' hq hq'
/-- The cells of the outer row. -/
theorem OwG.gb {w : World} {lo hi g cap n i : Nat} {vs : List Value} {gs : List Gr} {x : Gr} {u : Value} (h : OwG 177 w lo hi (.slice (some ⟨g, 0, none⟩) n cap) vs gs) (hn : gs.length = n) (hx : gs[i]? = some x) (hu : vs[i]? = some u) :
    ∃ cur, w.heap[g]? = some (.cells cur 177 (0, 0)) ∧ GB w g (i * 3) cur 177 u x.lo x.hi := by
  have hil : i < gs.length := (List.getElem?_eq_some_iff.1 hx).1
  have hr := h.row
  rw [hn] at hr
  rcases hr.2 with ⟨e, _⟩ | ⟨g', cap', cur, e, h1, h2, h3, h4, h5, h6⟩
  · cases e
  · simp only [Value.slice.injEq, Option.some.injEq, Addr.mk.injEq, and_true, true_and] at e
    obtain ⟨rfl, rfl⟩ := e
    have get : ∀ k, k < 3 → cur[i * 3 + k]? = [u, .int .i64 x.lo, .int .i64 x.hi][k]? := by
      intro k hk
      have h7 := grVs_get hu hx hk
      rw [← h6, List.getElem?_take, if_pos (by omega)] at h7
      rw [← h7]; simp
    exact ⟨cur, h2, h2, by omega, get 0 (by omega), get 1 (by omega), get 2 (by omega)⟩
end Go.Proofs.YtbgngikejgihgagGreatDoor

namespace Go.Proofs.YtbgngikejgihgagGreatDoor
open Go Go.RowKit
set_option linter.unusedVariables false

theorem gkP_GV {x : Gr} (h : gkP x.cells x.lo x.hi) : GV x.cells x.lo.toNat x.hi.toNat ∧ x.lo = (x.lo.toNat : Int) ∧ x.hi = (x.hi.toNat : Int) := by
  obtain ⟨⟨h1, ⟨h2, h3⟩, ⟨h4, h5⟩, h6⟩, h7⟩ := h
  refine ⟨⟨by omega, by omega, fun i a b => h7 i (by omega) (by omega), by omega, by omega⟩, by omega, by omega⟩
theorem GV_gkP {x : Gr} {lo hi : Nat} (h : GV x.cells lo hi) (h1 : x.lo = lo) (h2 : x.hi = hi) : gkP x.cells x.lo x.hi := by
  have a := h.a; have b := h.b; have c := h.c; have t := h.t
  rw [h1, h2]
  refine ⟨⟨by omega, ⟨by omega, by omega⟩, ⟨by omega, by omega⟩, by omega⟩, fun i i1 i2 => h.z i (by omega) (by omega)⟩
theorem delG_facts {x : Gr} {a b : Nat} (hk : gkP x.cells x.lo x.hi) (hab : a ≤ b) (hb : b ≤ (grT x).length) : gkP (delG x a b).cells (delG x a b).lo (delG x a b).hi ∧ grT (delG x a b) = (grT x).take a ++ (grT x).drop b := by
  obtain ⟨hv, el, eh⟩ := gkP_GV hk
  have hgt : (grT x).length = x.cells.length - (x.hi.toNat - x.lo.toNat) := gtext_length hv.a hv.b
  have h1 := hv.a; have h2 := hv.b; have h3 := hv.c; have h4 := hv.t
  have hL : ((grT x).take a ++ (grT x).drop b).length = (grT x).length - (b - a) := by simp only [List.length_append, List.length_take, List.length_drop]; omega
  have e : b + (x.hi.toNat - x.lo.toNat) = a + (x.cells.length - ((grT x).take a ++ (grT x).drop b).length) := by omega
  have gv : GV (delG x a b).cells a (b + (x.hi.toNat - x.lo.toNat)) := by
    show GV (glay ((grT x).take a ++ (grT x).drop b) a x.cells.length) a (b + (x.hi.toNat - x.lo.toNat))
    rw [e]; exact glay_valid (by omega) (by omega) h3 (by omega)
  refine ⟨GV_gkP gv rfl rfl, ?_⟩
  show gtext (glay ((grT x).take a ++ (grT x).drop b) a x.cells.length) (Int.toNat (a : Int)) (Int.toNat ((b + (x.hi.toNat - x.lo.toNat) : Nat) : Int)) = _
  rw [Int.toNat_natCast, Int.toNat_natCast, e]
  exact glay_text (by omega) (by omega)
end Go.Proofs.YtbgngikejgihgagGreatDoor

namespace Go.Proofs.YtbgngikejgihgagGreatDoor
open Go Go.RowKit
set_option linter.unusedVariables false

theorem GPost.trans {w w1 w2 : World} {B o g : Nat} {cs : Array Value} {t : TypeId} {v v' : Value} {lo hi lo' hi' : Int} {zs zs' : List Int} {sp sp' : List Value} (h : GPost w w1 B o g cs t v lo hi zs sp) (hs : o + 3 ≤ cs.size) (k : GPost w1 w2 B o g (set3 cs o v (.int .i64 lo) (.int .i64 hi)) t v' lo' hi' zs' sp') : GPost w w2 B o g cs t v' lo' hi' zs' sp' := by
  have e := set3_set3 cs o v (.int .i64 lo) (.int .i64 hi) v' (.int .i64 lo') (.int .i64 hi') hs
  have kg := k.gb
  rw [e] at kg
  exact ⟨kg, k.rw, h.chg.trans k.chg (fun _ _ s => s) (fun _ _ s => s)⟩

theorem gpost_set1 {w w1 : World} {B o g : Nat} {cs : Array Value} {t : TypeId} {v : Value} {lo hi : Int} {zs : List Int} {sp : List Value} (h : GB w B o cs t v lo hi) (hBg : B ≠ g) (hr : Row1 w w1 g (ints .i32 zs ++ sp) 21) (b : Int) :
    GPost w (w1.setCell ⟨B, o + 2, none⟩ (.int .i64 b)) B o g cs t v lo b zs sp := by
  have h0 : w1.heap[B]? = some (.cells cs t (0, 0)) := (hr.block B hBg).trans h.blk
  have h2 := heap_setCell_same w1 B (o + 2) _ _ (.int .i64 b) h0
  have hs := h.sz
  refine ⟨GB.of_set3 ?_ h.sz, ?_, ?_⟩
  · rw [h2]
    congr 2
    apply set3_ext (by simp) h.sz
    · rw [Array.getElem?_setIfInBounds, if_neg (by omega)]; exact h.c0
    · rw [Array.getElem?_setIfInBounds, if_neg (by omega)]; exact h.c1
    · rw [Array.getElem?_setIfInBounds, if_pos rfl, if_pos (by omega)]
    · intro j e0 e1 e2
      rw [Array.getElem?_setIfInBounds, if_neg (by omega)]
  · show _ = _
    rw [setCell_block_other (by show g ≠ B; exact hBg.symm)]
    exact hr.row
  · refine ⟨hr.os, hr.tape, hr.output, by simp [hr.size], fun k hk hn => ?_⟩
    rw [setCell_block_other (by show k ≠ B; exact fun e => hn (.inl e))]
    exact hr.block k (fun e => hn (.inr e))

set_option maxHeartbeats 2000000 in
set_option maxRecDepth 100000 in
theorem removeG (B o g cap : Nat) (cs : Array Value) (t : TypeId) (zs : List Int) (sp : List Value) (lo hi a b : Nat) (w : World) (h : GB w B o cs t (.slice (some ⟨g, 0, none⟩) zs.length cap) lo hi) (hr : Rw w g zs sp) (hBg : B ≠ g)
    (hc : zs.length ≤ cap) (hv : GV zs lo hi) (hab : a ≤ b) (hb : b + (hi - lo) ≤ zs.length) :
    Calls Tryz.prog 362 #[.pointer (some ⟨B, o, none⟩), .int .i64 a, .int .i64 b] w fun x w' => x = .returned (.tuple #[]) ∧ GPost w w' B o g cs t (.slice (some ⟨g, 0, none⟩) zs.length cap) a ((b + (hi - lo) : Nat) : Int) (glay ((gtext zs lo hi).take a ++ (gtext zs lo hi).drop b) a zs.length) sp := by
  have h1 := hv.a
  have h2 := hv.b
  have h3 := hv.c
  have hL : (gtext zs lo hi).length = zs.length - (hi - lo) := gtext_length h1 h2
  have hs := h.sz
  have HM := hide (moveToG B o g cap cs t zs sp lo hi a w h hr hBg hc hv (by omega))
  have HC := hide (glay_cut (xs := gtext zs lo hi) (p := a) (q := b) (n := zs.length) hab (by omega) (by omega))
  have hLg : (glay (gtext zs lo hi) a zs.length).length = zs.length := glay_length (by omega) (by omega)
  have eE : a + (zs.length - (gtext zs lo hi).length) = a + (hi - lo) := by omega
  rw [eE] at HC
  generalize gtext zs lo hi = tx at *
  generalize glay tx a zs.length = gl at *
  have HCC := hide (show splice gl (a + (hi - lo)) (List.replicate (b - a) 0) = glay (tx.take a ++ tx.drop b) a zs.length from HC.out)
  generalize glay (tx.take a ++ tx.drop b) a zs.length = res at *
  generalize hN : zs.length = n at *
  obtain ⟨E, hE⟩ : ∃ E, E = a + (hi - lo) := ⟨_, rfl⟩
  obtain ⟨F, hF⟩ : ∃ F, F = b + (hi - lo) := ⟨_, rfl⟩
  rw [← hE] at HM HCC
  rw [← hF]
  have hEF : F = E + (b - a) := by omega
  have hFn : F ≤ n := by omega
  have eF : (E : Int) + (b : Int) - (a : Int) = F := by omega
  have HLg := hide hLg
  have LS := hide (show (List.replicate (b - a) (0 : Int)).length = b - a by simp)
  have i3 : b ≤ n := by omega
  have i4 : b ≤ 65536 := by omega
  have i5 : E ≤ 65536 := by omega
  clear hL eE HC hF hE hb hN hr hLg
  have i1 : E ≤ F := by omega
  have i2 : F ≤ cap := by omega
  have HEF := hide hEF
  clear hEF
  by_cases hco : cap = E
  · obtain rfl : E = F := by omega
    obtain rfl : a = b := by have := HEF.out; omega
    subst hco
    go_enter Tryz.func362, Tryz.ntmps362
    go_wp2_with fail
    refine HM.out.mono ?_
    rintro x w1 ⟨rfl, hp1⟩
    have P1 := hide hp1
    obtain ⟨d0, d1, d2⟩ := hp1.gb.gc
    clear hp1 HM
    go_wp2_with fail
    go_still_tail 10, mixed
    refine wpList_clear_row rfl (.tmp 27) 36 rfl 21 Tryz.underlying36 (.int .i32 0) zero32 rfl rfl (some ⟨g, 0, none⟩) 0 0 rfl g cap _ 21 (by exact P1.out.rw) (fun hpos => absurd hpos (by omega)) (by rw [List.length_append, ints_length, HLg.out]; omega) ?_
    intro w3 rr3
    rw [ints_rep] at rr3
    have R3 := hide (Row1.to (Row1.of_drew rr3.out) (splice_ints (by rw [List.length_replicate, HLg.out]; omega)))
    obtain ⟨d0, d1, d2⟩ := (P1.out.gb.block (w' := w3) (rr3.out.block B hBg)).gc
    obtain ⟨f0, f1, f2⟩ := (P1.out.gb.block (w' := w3) (rr3.out.block B hBg)).gf
    clear rr3
    go_wp2
    go_end0
    refine ⟨rfl, P1.out.trans hs ?_⟩
    have hq := HCC.out
    rw [Nat.sub_self] at hq
    rw [← hq]
    exact gpost_set1 P1.out.gb hBg R3.out _
  · go_enter Tryz.func362, Tryz.ntmps362
    go_wp2_with fail
    refine HM.out.mono ?_
    rintro x w1 ⟨rfl, hp1⟩
    have P1 := hide hp1
    obtain ⟨d0, d1, d2⟩ := hp1.gb.gc
    clear hp1 HM
    go_wp2_with fail
    go_still_tail 10, mixed
    refine wpList_clear_row rfl (.tmp 27) 36 rfl 21 Tryz.underlying36 (.int .i32 0) zero32 rfl rfl (some ⟨g, E, none⟩) (F - E) (cap - E) rfl g E _ 21 (by exact P1.out.rw) (fun _ => rfl) (by rw [List.length_append, ints_length, HLg.out]; omega) ?_
    intro w3 rr3
    rw [ints_rep] at rr3
    have R3 := hide (Row1.to (Row1.of_drew rr3.out) (splice_ints (by rw [List.length_replicate, HLg.out]; omega)))
    obtain ⟨d0, d1, d2⟩ := (P1.out.gb.block (w' := w3) (rr3.out.block B hBg)).gc
    obtain ⟨f0, f1, f2⟩ := (P1.out.gb.block (w' := w3) (rr3.out.block B hBg)).gf
    clear rr3
    go_wp2
    go_end0
    refine ⟨rfl, P1.out.trans hs ?_⟩
    have hq := HCC.out
    rw [show b - a = F - E by have := HEF.out; omega] at hq
    rw [← hq]
    exact gpost_set1 P1.out.gb hBg R3.out _
end Go.Proofs.YtbgngikejgihgagGreatDoor
