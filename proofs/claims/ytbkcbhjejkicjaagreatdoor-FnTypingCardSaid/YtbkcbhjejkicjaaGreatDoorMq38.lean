import Derived.Test.YtbkcbhjejkicjaaGreatDoorMq37
namespace Go.Proofs.YtbkcbhjejkicjaaGreatDoor
open Go Go.RowKit
set_option linter.unusedVariables false

/-- A row with a text put in. -/
noncomputable def insG (x : Gr) (p : Nat) (ts : List Int) : Gr :=
  ⟨glay ((grT x).take p ++ (ts ++ (grT x).drop p)) (p + ts.length) (cellsN x.cells x.lo.toNat x.hi.toNat ts.length), ((p + ts.length : Nat) : Int), ((p + (cellsN x.cells x.lo.toNat x.hi.toNat ts.length - (grT x).length) : Nat) : Int)⟩
theorem grVs_set3 {vs : List Value} {gs : List Gr} {i : Nat} (u : Value) (x : Gr) (h : vs.length = gs.length) (hi : i < gs.length) : grVs (vs.set i u) (gs.set i x) = (((grVs vs gs).set (i * 3) u).set (i * 3 + 1) (.int .i64 x.lo)).set (i * 3 + 2) (.int .i64 x.hi) := by
  induction i generalizing vs gs with
  | zero =>
    cases vs with
    | nil => simp at h; rw [h] at hi; simp at hi
    | cons v vs =>
      cases gs with
      | nil => simp at hi
      | cons g gs => simp [grVs]
  | succ i ih =>
    cases vs with
    | nil => simp at h; rw [← h] at hi; simp at hi
    | cons v vs =>
      cases gs with
      | nil => simp at hi
      | cons g gs =>
        simp only [List.length_cons] at h hi
        rw [show (i + 1) * 3 = i * 3 + 1 + 1 + 1 by omega, show i * 3 + 1 + 1 + 1 + 1 = (i * 3 + 1) + 1 + 1 + 1 by omega, show i * 3 + 1 + 1 + 1 + 2 = (i * 3 + 2) + 1 + 1 + 1 by omega]
        simp only [List.set_cons_succ, grVs]
        rw [ih (by omega) (by omega)]
theorem set3_take {cur : Array Value} {o m : Nat} {a b c : Value} : (set3 cur o a b c).toList.take m = (((cur.toList.take m).set o a).set (o + 1) b).set (o + 2) c := by
  unfold set3
  simp only [Array.toList_setIfInBounds, List.take_set]
theorem get_set {α : Type} {xs : List α} {i j : Nat} {a b : α} (h : (xs.set i a)[j]? = some b) : (j = i ∧ b = a) ∨ (j ≠ i ∧ xs[j]? = some b) := by
  by_cases e : j = i
  · subst e
    rw [List.getElem?_set_self'] at h
    cases hx : xs[j]? with
    | none => rw [hx] at h; simp at h
    | some y => rw [hx] at h; simp at h; exact .inl ⟨rfl, h.symm⟩
  · rw [List.getElem?_set_ne (fun q => e q.symm)] at h
    exact .inr ⟨e, h⟩

/-- One row of a row of rows written anew. -/
theorem OwG.edit {w w1 : World} {lo hi g cap n i : Nat} {vs : List Value} {gs : List Gr} {x : Gr} {u u' : Value} {cur : Array Value} {zs : List Int} {lo' hi' : Int}
    (h : OwG 143 w lo hi (.slice (some ⟨g, 0, none⟩) n cap) vs gs) (hn : gs.length = n) (hx : gs[i]? = some x) (hu : vs[i]? = some u) (hh : hi ≤ w.heap.size)
    (hcur : w.heap[g]? = some (.cells cur 143 (0, 0))) (hb : w1.heap[g]? = some (.cells (set3 cur (i * 3) u' (.int .i64 lo') (.int .i64 hi')) 143 (0, 0)))
    (ho : o32 w1 lo u' zs) (hbl : bel w1.heap.size u') (hne : ∀ q, u'.ownBlock = some q → q < w.heap.size → u.ownBlock = some q)
    (hc : ChgP w w1 (fun k => k = g ∨ u.ownBlock = some k)) :
    OwG 143 w1 lo w1.heap.size (.slice (some ⟨g, 0, none⟩) n cap) (vs.set i u') (gs.set i ⟨zs, lo', hi'⟩) := by
  have hil : i < gs.length := (List.getElem?_eq_some_iff.1 hx).1
  have hsz := hc.size
  have hgl : g < hi := h.bl g rfl
  have keep : ∀ (j : Nat) v l, j ≠ i → vs[j]? = some v → o32 w lo v l → o32 w1 lo v l := by
    intro j v l hji hv hol
    refine owns_of_block hol (fun q hq => hc.block q (hol.lt q hq).2 (fun s => ?_))
    rcases s with s | s
    · exact own_apart hol h.row (by decide) hq (by simp [Value.ownBlock, s])
    · exact h.nest.ne i j u v q (fun e => hji e.symm) hu hv s hq
  refine ⟨?_, fun q hq => ?_, ⟨?_, ?_, ?_, ?_⟩⟩
  · have hr := h.row
    rw [hn] at hr
    rcases hr.2 with ⟨e, _⟩ | ⟨g', cap', cur', e, h1, h2, h3, h4, h5, h6⟩
    · cases e
    · simp only [Value.slice.injEq, Option.some.injEq, Addr.mk.injEq, and_true, true_and] at e
      obtain ⟨rfl, rfl⟩ := e
      rw [hcur] at h2
      simp only [Option.some.injEq, Obj.cells.injEq, and_true] at h2
      subst h2
      rw [List.length_set, hn]
      refine ⟨by rw [grVs_length (by simp [h.len]), List.length_set, hn], .inr ⟨g, cap, _, rfl, h1, hb, h3, h4, by rw [set3_size]; exact h5, ?_⟩⟩
      rw [set3_take, h6, grVs_set3 u' ⟨zs, lo', hi'⟩ h.len hil]
  · simp only [Value.ownBlock, Option.some.injEq] at hq
    omega
  · rw [List.length_set, List.length_map, List.length_set]; exact h.len
  · intro j v l hv hl
    rw [List.map_set] at hl
    rcases get_set hv with ⟨rfl, rfl⟩ | ⟨e, hv'⟩
    · rcases get_set hl with ⟨_, rfl⟩ | ⟨e, _⟩
      · exact ho
      · exact absurd rfl e
    · rcases get_set hl with ⟨e', _⟩ | ⟨_, hl'⟩
      · exact absurd e' e
      · exact keep j v l e hv' (h.nest.own j v l hv' hl')
  · intro v hv
    obtain ⟨j, hj⟩ := List.getElem?_of_mem hv
    rcases get_set hj with ⟨_, rfl⟩ | ⟨_, hj'⟩
    · exact hbl
    · exact bel_mono (h.nest.bl v (List.mem_of_getElem? hj')) (by omega)
  · intro a b y v q hab hy hv hq hq'
    rcases get_set hy with ⟨rfl, rfl⟩ | ⟨ea, hy'⟩
    · rcases get_set hv with ⟨rfl, _⟩ | ⟨eb, hv'⟩
      · exact absurd rfl hab
      · have h1 := h.nest.bl v (List.mem_of_getElem? hv') q hq'
        have h2 := hne q hq (by omega)
        exact h.nest.ne a b u v q hab hu hv' h2 hq'
    · rcases get_set hv with ⟨rfl, rfl⟩ | ⟨eb, hv'⟩
      · have h1 := h.nest.bl y (List.mem_of_getElem? hy') q hq
        have h2 := hne q hq' (by omega)
        exact h.nest.ne a b y u q hab hy' hu hq h2
      · exact h.nest.ne a b y v q hab hy' hv' hq hq'
/-- The cells of the outer row. -/
theorem OwG.gb {w : World} {lo hi g cap n i : Nat} {vs : List Value} {gs : List Gr} {x : Gr} {u : Value} (h : OwG 143 w lo hi (.slice (some ⟨g, 0, none⟩) n cap) vs gs) (hn : gs.length = n) (hx : gs[i]? = some x) (hu : vs[i]? = some u) :
    ∃ cur, w.heap[g]? = some (.cells cur 143 (0, 0)) ∧ GB w g (i * 3) cur 143 u x.lo x.hi := by
  have hil : i < gs.length := (List.getElem?_eq_some_iff.1 hx).1
  have hr := h.row
  rw [hn] at hr
  rcases hr.2 with ⟨e, _⟩ | ⟨g', cap', cur, e, h1, h2, h3, h4, h5, h6⟩
  · cases e
  · simp only [Value.slice.injEq, Option.some.injEq, Addr.mk.injEq, and_true, true_and] at e
    obtain ⟨rfl, rfl⟩ := e
    have get : ∀ k, k < 3 → cur[i * 3 + k]? = [u, .int .i64 x.lo, .int .i64 x.hi][k]? := by
      intro k hk
      have h7 := grVs_get hu hx hk
      rw [← h6, List.getElem?_take, if_pos (by omega)] at h7
      rw [← h7]; simp
    exact ⟨cur, h2, h2, by omega, get 0 (by omega), get 1 (by omega), get 2 (by omega)⟩
end Go.Proofs.YtbkcbhjejkicjaaGreatDoor

namespace Go.Proofs.YtbkcbhjejkicjaaGreatDoor
open Go Go.RowKit
set_option linter.unusedVariables false

theorem gkP_GV {x : Gr} (h : gkP x.cells x.lo x.hi) : GV x.cells x.lo.toNat x.hi.toNat ∧ x.lo = (x.lo.toNat : Int) ∧ x.hi = (x.hi.toNat : Int) := by
  obtain ⟨⟨h1, ⟨h2, h3⟩, ⟨h4, h5⟩, h6⟩, h7⟩ := h
  refine ⟨⟨by omega, by omega, fun i a b => h7 i (by omega) (by omega), by omega, by omega⟩, by omega, by omega⟩
theorem GV_gkP {x : Gr} {lo hi : Nat} (h : GV x.cells lo hi) (h1 : x.lo = lo) (h2 : x.hi = hi) : gkP x.cells x.lo x.hi := by
  have a := h.a; have b := h.b; have c := h.c; have t := h.t
  rw [h1, h2]
  refine ⟨⟨by omega, ⟨by omega, by omega⟩, ⟨by omega, by omega⟩, by omega⟩, fun i i1 i2 => h.z i (by omega) (by omega)⟩
theorem insG_facts {x : Gr} {p : Nat} {ts : List Int} (hk : gkP x.cells x.lo x.hi) (hp : p ≤ (grT x).length) (hr : (grT x).length + ts.length ≤ 8192) : gkP (insG x p ts).cells (insG x p ts).lo (insG x p ts).hi ∧ grT (insG x p ts) = (grT x).take p ++ (ts ++ (grT x).drop p) := by
  obtain ⟨hv, el, eh⟩ := gkP_GV hk
  have bd := cellsN_bd hv (n := ts.length) hr
  have hg : (gtext x.cells x.lo.toNat x.hi.toNat).length = (grT x).length := rfl
  rw [hg] at bd
  have hL : ((grT x).take p ++ (ts ++ (grT x).drop p)).length = (grT x).length + ts.length := by simp only [List.length_append, List.length_take, List.length_drop]; omega
  have e : p + (cellsN x.cells x.lo.toNat x.hi.toNat ts.length - (grT x).length) = (p + ts.length) + (cellsN x.cells x.lo.toNat x.hi.toNat ts.length - ((grT x).take p ++ (ts ++ (grT x).drop p)).length) := by omega
  have gv : GV (insG x p ts).cells (p + ts.length) (p + (cellsN x.cells x.lo.toNat x.hi.toNat ts.length - (grT x).length)) := by
    show GV (glay ((grT x).take p ++ (ts ++ (grT x).drop p)) (p + ts.length) (cellsN x.cells x.lo.toNat x.hi.toNat ts.length)) _ _
    rw [e]; exact glay_valid (by omega) (by omega) (by omega) (by omega)
  refine ⟨GV_gkP gv rfl rfl, ?_⟩
  show gtext (glay ((grT x).take p ++ (ts ++ (grT x).drop p)) (p + ts.length) (cellsN x.cells x.lo.toNat x.hi.toNat ts.length)) (Int.toNat ((p + ts.length : Nat) : Int)) (Int.toNat ((p + (cellsN x.cells x.lo.toNat x.hi.toNat ts.length - (grT x).length) : Nat) : Int)) = _
  rw [Int.toNat_natCast, Int.toNat_natCast, e]
  exact glay_text (by omega) (by omega)

end Go.Proofs.YtbkcbhjejkicjaaGreatDoor

namespace Go.Proofs.YtbkcbhjejkicjaaGreatDoor
open Go Go.RowKit
set_option linter.unusedVariables false

theorem GPost.trans {w w1 w2 : World} {B o g : Nat} {cs : Array Value} {t : TypeId} {v v' : Value} {lo hi lo' hi' : Int} {zs zs' : List Int} {sp sp' : List Value} (h : GPost w w1 B o g cs t v lo hi zs sp) (hs : o + 3 ≤ cs.size) (k : GPost w1 w2 B o g (set3 cs o v (.int .i64 lo) (.int .i64 hi)) t v' lo' hi' zs' sp') : GPost w w2 B o g cs t v' lo' hi' zs' sp' := by
  have e := set3_set3 cs o v (.int .i64 lo) (.int .i64 hi) v' (.int .i64 lo') (.int .i64 hi') hs
  have kg := k.gb
  rw [e] at kg
  exact ⟨kg, k.rw, h.chg.trans k.chg (fun _ _ s => s) (fun _ _ s => s)⟩

end Go.Proofs.YtbkcbhjejkicjaaGreatDoor

namespace Go.Proofs.YtbkcbhjejkicjaaGreatDoor
open Go Go.RowKit
set_option linter.unusedVariables false

theorem wpList_clear_none {P : Program} {w : World} {ops : Array Oper} {rest : List Oper} {o : Oper} {a : Act} {Q : Exit → Act → World → Prop} (hgd : o.guard = none) (d : Operand) (dT : TypeId)
    (ho : o.op = .call { callee := .builtin .clear, args := #[d], argTypes := #[dT] }) (e : TypeId) (hu : P.underlying dT = some (.slice e)) (dp : Option Addr) (dCap : Nat) (hd : a.eval d = .slice dp 0 dCap)
    (h : wpList P ops Q rest (a.put o.dst (.tuple #[])) w) : wpList P ops Q (o :: rest) a w := by
  refine wpList_plain hgd fun K hK => ?_
  have hrun := run_clear_none (P := P) w dT e o.type hu dp dCap
  unfold Oper.wp
  simp [execOp, ho, resolve, invoke, builtin, hd, hrun, Result.andThen]
  exact hK _ _ h

/-- Two worlds with one memory. -/
structure Alk (w w' : World) : Prop where
  heap : w'.heap = w.heap
  os : w'.os = w.os
  tape : w'.tape = w.tape
  output : w'.output = w.output
theorem wpList_copy_alk {P : Program} {w : World} {ops : Array Oper} {rest : List Oper} {o : Oper} {a : Act} {Q : Exit → Act → World → Prop} (hgd : o.guard = none) (d s : Operand) (dT sT : TypeId)
    (ho : o.op = .call { callee := .builtin .copy, args := #[d, s], argTypes := #[dT, sT] }) (elem : TypeId) (hu : P.underlying dT = some (.slice elem)) (hsz : (P.info? elem).map (·.size) = some 1)
    (dp sp : Option Addr) (dLen dCap sLen sCap : Nat) (hd : a.eval d = .slice dp dLen dCap) (hs : a.eval s = .slice sp sLen sCap) (hn : Nat.min sLen dLen = 0) (w0 : World) (hw : Alk w0 w)
    (h : ∀ w', Hid (Alk w0 w') → wpList P ops Q rest (a.put o.dst (goInt 0)) w') : wpList P ops Q (o :: rest) a w :=
  wpList_copy_nothing hgd d s dT sT ho elem hu hsz dp sp dLen dCap sLen sCap hd hs hn (h w (hide hw))

/-- What is left where there are no cells. -/
structure GNilPost (w w' : World) (B o : Nat) (cs : Array Value) (t : TypeId) : Prop where
  gb : GB w' B o cs t (.slice none 0 0) 0 0
  chg : ChgP w w' (fun k => k = B)

theorem gnil_set {w w1 : World} {B o : Nat} {cs : Array Value} {t : TypeId} (h : GB w B o cs t (.slice none 0 0) 0 0) (hh : w1.heap = w.heap) (ho : w1.os = w.os) (ht : w1.tape = w.tape) (hp : w1.output = w.output) :
    GNilPost w ((w1.setCell ⟨B, o + 1, none⟩ (.int .i64 0)).setCell ⟨B, o + 2, none⟩ (.int .i64 0)) B o cs t := by
  have h0 : w1.heap[B]? = some (.cells cs t (0, 0)) := by rw [hh]; exact h.blk
  have h1 := heap_setCell_same w1 B (o + 1) _ _ (.int .i64 0) h0
  have h2 := heap_setCell_same _ B (o + 2) _ _ (.int .i64 0) h1
  have hs := h.sz
  have e : (cs.setIfInBounds (o + 1) (.int .i64 0)).setIfInBounds (o + 2) (.int .i64 0) = cs := by
    rw [← h.self]
    apply set3_ext (by simp [set3_size]) h.sz
    · rw [Array.getElem?_setIfInBounds, Array.getElem?_setIfInBounds, if_neg (by omega), if_neg (by omega), set3_get _ _ _ _ _ _ hs]; simp
    · rw [Array.getElem?_setIfInBounds, Array.getElem?_setIfInBounds, if_neg (by omega), if_pos rfl, if_pos (by rw [set3_size]; omega)]
    · rw [Array.getElem?_setIfInBounds, if_pos rfl, if_pos (by simp [set3_size]; omega)]
    · intro j e0 e1 e2
      rw [Array.getElem?_setIfInBounds, Array.getElem?_setIfInBounds, if_neg (by omega), if_neg (by omega), set3_get _ _ _ _ _ _ hs]
      simp [e0, e1, e2]
  rw [e] at h2
  refine ⟨⟨h2, h.sz, h.c0, h.c1, h.c2⟩, ho, ht, hp, by simp [hh], fun k hk hn => ?_⟩
  rw [setCell_block_other (by show k ≠ B; exact hn), setCell_block_other (by show k ≠ B; exact hn), hh]

theorem GNilPost.trans {w w1 w2 : World} {B o : Nat} {cs : Array Value} {t : TypeId} (h : GNilPost w w1 B o cs t) (k : GNilPost w1 w2 B o cs t) : GNilPost w w2 B o cs t :=
  ⟨k.gb, h.chg.trans k.chg (fun _ _ s => s) (fun _ _ s => s)⟩

set_option maxHeartbeats 1000000 in
set_option maxRecDepth 100000 in
theorem moveToNil (B o : Nat) (cs : Array Value) (t : TypeId) (w : World) (h : GB w B o cs t (.slice none 0 0) 0 0) :
    Calls Tryz.prog 230 #[.pointer (some ⟨B, o, none⟩), .int .i64 0] w fun x w' => x = .returned (.tuple #[]) ∧ GNilPost w w' B o cs t := by
  have HK := hide (gapN B o (.slice none 0 0) 0 0 w h.gc (by omega) (by omega) (by omega))
  have HF := hide h.gf
  have H := hide h
  obtain ⟨c0, c1, c2⟩ := h.gc
  clear h
  go_enter Tryz.func230, Tryz.ntmps230
  go_wp2_with fail
  refine HK.out.mono ?_
  rintro x w0 ⟨rfl, mm0, rfl⟩
  have hh0 := hide (show (w.drewN mm0).heap = w.heap from rfl)
  have ho0 := hide (show (w.drewN mm0).os = w.os from rfl)
  have ht0 := hide (show (w.drewN mm0).tape = w.tape from rfl)
  have hp0 := hide (show (w.drewN mm0).output = w.output from rfl)
  obtain ⟨d0, d1, d2⟩ := H.out.gc.same (w' := w.drewN mm0) rfl
  obtain ⟨f0, f1, f2⟩ := HF.out.same (w' := w.drewN mm0) rfl
  have HF2 := hide HF.out
  clear c0 c1 c2 HK HF
  generalize w.drewN mm0 = w0 at *
  go_wp2_with fail
  go_still_tail 20, mixed
  refine wpList_copy_alk rfl (.tmp 57) (.tmp 67) 49 49 rfl 21 Tryz.underlying49 info_size1 none none 0 0 0 0 rfl rfl rfl w0 ⟨rfl, rfl, rfl, rfl⟩ ?_
  intro w2 hk2
  obtain ⟨d0, d1, d2⟩ := H.out.gc.same (w' := w2) (hk2.out.heap.trans hh0.out)
  obtain ⟨f0, f1, f2⟩ := HF2.out.same (w' := w2) (by rw [hk2.out.heap.trans hh0.out])
  go_wp2_with fail
  go_still_tail 12, mixed
  refine wpList_clear_none rfl (.tmp 80) 49 rfl 21 Tryz.underlying49 none 0 rfl ?_
  go_wp2
  go_end0
  exact ⟨rfl, gnil_set (w1 := w2.drew) H.out (hk2.out.heap.trans hh0.out) (hk2.out.os.trans ho0.out) (hk2.out.tape.trans ht0.out) (hk2.out.output.trans hp0.out)⟩

/-- A row that is owned, with what lies behind it. -/
theorem Rw.of_owns {w : World} {base g n cap : Nat} {zs : List Int} (h : w.ownsRow base 21 1 (.slice (some ⟨g, 0, none⟩) n cap) n (ints .i32 zs)) : base ≤ g ∧ n ≤ cap ∧ cap ≤ maxLen ∧ ∃ sp, Rw w g zs sp ∧ sp.length = cap - n := by
  have hl : zs.length = n := by have := h.1; simpa [ints] using this
  rcases h.2 with ⟨hv, hn⟩ | ⟨g', cap', cur, hv, hb, hh, hc, hm, hsz, htk⟩
  · cases hv
  · simp only [Value.slice.injEq, Option.some.injEq, Addr.mk.injEq, and_true, true_and] at hv
    obtain ⟨rfl, rfl⟩ := hv
    refine ⟨hb, hc, hm, cur.toList.drop n, ?_, by simp [hsz]⟩
    show _ = _
    rw [hh]
    congr 2
    have : cur.toList = ints .i32 zs ++ cur.toList.drop n := by
      rw [← htk, Nat.mul_one, List.take_append_drop]
    exact Array.toList_inj.1 (by simpa using this)

theorem owns_of_rw {w : World} {base g n cap : Nat} {zs : List Int} {sp : List Value} (h : Rw w g zs sp) (hN : zs.length = n) (hb : base ≤ g) (hc : n ≤ cap) (hm : cap ≤ maxLen) (hs : sp.length = cap - n) : w.ownsRow base 21 1 (.slice (some ⟨g, 0, none⟩) n cap) n (ints .i32 zs) := by
  refine ⟨by simp [ints, hN], .inr ⟨g, cap, (ints .i32 zs ++ sp).toArray, rfl, hb, h, hc, hm, by simp [ints, hN, hs]; omega, ?_⟩⟩
  rw [Nat.mul_one, ← hN, ← ints_length .i32 zs]
  simp
end Go.Proofs.YtbkcbhjejkicjaaGreatDoor

namespace Go.Proofs.YtbkcbhjejkicjaaGreatDoor
open Go Go.RowKit
set_option linter.unusedVariables false

set_option maxHeartbeats 1000000 in
theorem makeRoom_no (B o : Nat) (ao : Option Addr) (n0 cap : Nat) (lo hi n : Nat) (w : World) (h : GC w B o (.slice ao n0 cap) lo hi) (h1 : lo ≤ hi) (h2 : hi ≤ n0) (hn : n0 ≤ 1048576) (hg : n ≤ hi - lo) :
    Calls Tryz.prog 229 #[.pointer (some ⟨B, o, none⟩), .int .i64 n] w fun x w' => x = .returned (.tuple #[]) ∧ ∃ m, w' = w.drewN m := by
  have HK := hide (gapN B o (.slice ao n0 cap) lo hi w h (by omega) (by omega) (by omega))
  have hge : (n : Int) ≤ (hi : Int) - (lo : Int) := by omega
  clear h
  go_enter Tryz.func229, Tryz.ntmps229
  go_wp2_with fail
  refine HK.out.mono ?_
  rintro x w0 ⟨rfl, mm0, rfl⟩
  go_wp2
  refine bodyPost_ret (v := .tuple #[]) (by simp [results, Tryz.results229, go_sem]) rfl ⟨rfl, mm0, rfl⟩

/-- A new row of zeros: what make gives. -/
theorem rw_made {w : World} {g n : Nat} {base : Nat} (h : w.ownsRow base 21 1 (.slice (some ⟨g, 0, none⟩) n n) n (ints .i32 (List.replicate n 0))) : Rw w g (List.replicate n 0) [] := by
  obtain ⟨_, _, _, sp, hr, hs⟩ := Rw.of_owns h
  have : sp = [] := List.eq_nil_of_length_eq_zero (by omega)
  subst this
  exact hr

/-- What makeRoom leaves where it grows. -/
structure GrowPost (w w' : World) (B o : Nat) (cs : Array Value) (t : TypeId) (lo hi R : Nat) (zs : List Int) (g : Nat) : Prop where
  ge : w.heap.size ≤ g
  gb : GB w' B o (set3 cs o (.slice (some ⟨g, 0, none⟩) R R) (.int .i64 lo) (.int .i64 hi)) t (.slice (some ⟨g, 0, none⟩) R R) lo hi
  rw : Rw w' g zs []
  chg : ChgP w w' (fun k => k = B)

theorem grow_set {w w1 w2 : World} {B o g : Nat} {cs : Array Value} {t : TypeId} {v : Value} {lo hi nh : Int} {zs zs' : List Int} {R : Nat} (h : GB w B o cs t v lo hi) (hc : ChgP w w1 (fun _ => False)) (hg : w.heap.size ≤ g) (hr1 : Rw w1 g zs []) (hr : Row1 (w1.setCell ⟨B, o + 2, none⟩ (.int .i64 nh)) w2 g (ints .i32 zs' ++ []) 21) (lo' hi' : Nat) (e1 : lo = lo') (e2 : nh = hi') :
    GrowPost w (w2.setCell ⟨B, o, none⟩ (.slice (some ⟨g, 0, none⟩) R R)) B o cs t lo' hi' R zs' g := by
  subst e1
  subst e2
  have hBl := h.lt
  have hBg : B ≠ g := by omega
  have hs := h.sz
  have h0 : w1.heap[B]? = some (.cells cs t (0, 0)) := (hc.block B hBl (fun x => x)).trans h.blk
  have h1 := heap_setCell_same w1 B (o + 2) _ _ (.int .i64 (hi' : Int)) h0
  have h2 : w2.heap[B]? = _ := (hr.block B hBg).trans h1
  have h3 := heap_setCell_same w2 B o _ _ (.slice (some ⟨g, 0, none⟩) R R) h2
  refine ⟨hg, GB.of_set3 ?_ h.sz, ?_, ?_⟩
  · rw [h3]
    congr 2
    apply set3_ext (by simp) h.sz
    · rw [Array.getElem?_setIfInBounds, if_pos rfl, if_pos (by simp; omega)]
    · rw [Array.getElem?_setIfInBounds, Array.getElem?_setIfInBounds, if_neg (by omega), if_neg (by omega)]; exact h.c1
    · rw [Array.getElem?_setIfInBounds, Array.getElem?_setIfInBounds, if_neg (by omega), if_pos rfl, if_pos (by omega)]
    · intro j e0 e1 e2
      rw [Array.getElem?_setIfInBounds, Array.getElem?_setIfInBounds, if_neg (by omega), if_neg (by omega)]
  · show _ = _
    rw [setCell_block_other (by show g ≠ B; exact hBg.symm)]
    exact hr.row
  · refine ⟨by simpa [World.setCell] using hr.os.trans hc.os, by simpa [World.setCell] using hr.tape.trans hc.tape, by simpa [World.setCell] using hr.output.trans hc.output, ?_, fun k hk hn => ?_⟩
    · simp only [World.size_setCell, hr.size]
      exact hc.size
    · rw [setCell_block_other (by show k ≠ B; exact hn), hr.block k (by omega), setCell_block_other (by show k ≠ B; exact hn)]
      exact hc.block k hk (fun x => x)

end Go.Proofs.YtbkcbhjejkicjaaGreatDoor

namespace Go.Proofs.YtbkcbhjejkicjaaGreatDoor
open Go Go.RowKit
set_option linter.unusedVariables false

set_option maxHeartbeats 2000000 in
set_option maxRecDepth 100000 in
theorem makeRoom_A (B o g cap n0 : Nat) (cs : Array Value) (t : TypeId) (zs : List Int) (lo hi n c0 L M R NH : Nat) (w : World) (h : GB w B o cs t (.slice (some ⟨g, 0, none⟩) n0 cap) lo hi) (hz : Cl w g zs) (hg : g < w.heap.size) (hcap : n0 ≤ cap) (hN : zs.length = n0)
    (h1 : lo ≤ hi) (h2 : hi ≤ n0) (h3 : n0 ≤ 65536) (hno : hi - lo < n) (eL : (n0 : Int) - ((hi : Int) - (lo : Int)) = L) (hM : M = L + n) (hMb : M ≤ 8192) (mx : max (n0 : Int) 16 = c0) (hD : Dbl M c0 R) (hNH : (R : Int) - ((n0 - hi : Nat) : Int) = NH) (hA : hi < n0) (hgB : g ≠ B) :
    Calls Tryz.prog 229 #[.pointer (some ⟨B, o, none⟩), .int .i64 n] w fun x w' => x = .returned (.tuple #[]) ∧ ∃ g', GrowPost w w' B o cs t lo NH R (splice (splice (List.replicate R 0) 0 (zs.take lo)) NH (zs.drop hi)) g' := by
  obtain ⟨i0, hi', hz0, hz1, hz2⟩ := info_parts Tryz.infoG
  have HK := hide (gapN B o (.slice (some ⟨g, 0, none⟩) n0 cap) lo hi w h.gc (by omega) (by omega) (by omega))
  have HLN := hide (fun w h => lengthG B o (some ⟨g, 0, none⟩) n0 cap lo hi w h (by omega) (by omega) (by omega) (by omega))
  have H := hide h
  have HC := hide h.gc
  have HN := hide hN
  have HD := hide hD
  have bR := dbl_bd hD
  have hlt : ((hi : Int) - (lo : Int)) < (n : Int) := by omega
  have hR0 : n0 ≤ R := by omega
  have hRb : R ≤ 65536 := by omega
  have L1 := hide (show (zs.take lo).length = lo by rw [List.length_take]; omega)
  have L2 := hide (show (zs.drop hi).length = n0 - hi by rw [List.length_drop, hN])
  obtain ⟨d0, d1, d2⟩ := h.gc
  obtain ⟨f0, f1, f2⟩ := h.gf
  have HZ := hide hz
  have q1 : ¬ cap = hi := by omega
  have q2 : ¬ R = NH := by omega
  have q3 : NH ≤ R := by omega
  have i1 : lo ≤ cap := by omega
  have hNH0 := hNH
  clear hz
  clear hN hD h hNH0
  go_enter Tryz.func229, Tryz.ntmps229
  go_wp2_with fail
  refine HK.out.mono ?_
  rintro x w0 ⟨rfl, mm0, rfl⟩
  go_wp2_with fail
  go_loopw [4] (fun s4 wr => ∃ c k : Nat, s4 = .int .i64 c ∧ Dbl M c R ∧ 16 ≤ c ∧ c ≤ 65536 ∧ wr = w.drewN k) (fun s4 _ => M - (intOf s4).toNat)
  case atStart => exact ⟨c0, mm0, rfl, HD.out, by omega, by omega, rfl⟩
  case round =>
    obtain ⟨c, k, rfl, hDc, hc16, hcb, rfl⟩ := hrel
    have HDc := hide hDc
    clear hDc
    go_wp2_with fail
    refine (HLN.out (w.drewN k) (HC.out.same rfl)).mono ?_
    rintro x w1 ⟨rfl, m1, rfl⟩
    by_cases hcm : c < M
    · have hlt2 : (c : Int) - (L : Int) < (n : Int) := by omega
      have HDn := hide (show Dbl M (c * 2) R from by
        cases HDc.out with
        | stop _ h => omega
        | more _ _ h k => exact k)
      have hc2 : c * 2 ≤ 65536 := by omega
      go_wp2
      go_roundw
      case rel => exact ⟨c * 2, k + m1, by go_num, HDn.out, by omega, by omega, rfl⟩
      case measure => simp [intOf]; omega
    · have hnl : ¬ (c : Int) - (L : Int) < (n : Int) := by omega
      obtain rfl : c = R := by
        cases HDc.out with
        | stop _ h => rfl
        | more _ _ h k => omega
      have HB1 := hide (show ChgP w ((w.drewN k).drewN m1) (fun _ => False) from ⟨rfl, rfl, rfl, Nat.le_refl _, fun _ _ _ => rfl⟩)
      have H1 := hide (H.out.block (w' := (w.drewN k).drewN m1) rfl)
      have es1 : w.heap.size ≤ ((w.drewN k).drewN m1).heap.size := Nat.le_refl _
      have HZ1 := hide (show Cl ((w.drewN k).drewN m1) g zs from HZ.out)
      clear d0 d1 d2 f0 f1 f2 HK HLN HD HDc
      obtain ⟨d0, d1, d2⟩ := H1.out.gc
      obtain ⟨f0, f1, f2⟩ := H1.out.gf
      generalize (w.drewN k).drewN m1 = w1 at *
      go_upto_region 5 with (at_make; refine wpList_make_full _ rfl _ _ 49 rfl w1.heap.size 21 i0 (.int .i32 0) 1 Tryz.underlying49 hi' hz0 hz1 .i64 .i64 _ _ c rfl rfl (by omega) (by omega) (by rw [hz2]; omega) (by unfold maxLen; omega) (Nat.le_refl _) ?_; intro w2 hown hgrow)
      rw [made_ints] at hown
      have R2 := hide (rw_made hown)
      have C2 := hide (show ChgP w w2 (fun _ => False) from HB1.out.trans (show ChgP w1 w2 (fun _ => False) from ⟨hgrow.os, hgrow.tape, hgrow.output, hgrow.size, fun i hq _ => hgrow.block i hq (by simp)⟩) (fun _ _ s => s) (fun _ _ s => s))
      have es2 : w1.heap.size < w2.heap.size := (hown.lt _ rfl).2
      have hBl := H1.out.lt
      have H2 := hide (H1.out.block (w' := w2) (hgrow.block B hBl (by simp)))
      have HZ2 := hide (show Cl w2 g zs from fun i hi => (World.cell?_of_block (a := ⟨g, i, none⟩) (hgrow.block g (by omega) (by simp))).trans (HZ1.out i hi))
      have hBg : B ≠ w1.heap.size := by omega
      clear hown hgrow d0 d1 d2 f0 f1 f2 H1 HB1
      obtain ⟨d0, d1, d2⟩ := H2.out.gc
      obtain ⟨f0, f1, f2⟩ := H2.out.gf
      go_still_tail 10, mixed
      refine wpList_copy_row rfl (.tmp 27) (.tmp 36) 49 49 rfl 21 Tryz.underlying49 info_size1 (some ⟨w1.heap.size, 0, none⟩) (some ⟨g, 0, none⟩) c c lo cap rfl rfl w1.heap.size 0 (ints .i32 (List.replicate c 0) ++ []) 21 (by exact R2.out) (ints .i32 (zs.take lo)) (by rw [ints_length, L1.out]; show lo = min lo c; omega) (fun _ => ⟨rfl, _, rfl, by have := HZ2.out.app' 0 lo (by rw [HN.out]; omega); rw [List.drop_zero] at this; exact this⟩) (by rw [ints_length, L1.out, List.length_append, ints_length, List.length_replicate]; omega) (ints_one _ _) ?_
      intro w3 rr3
      have R3 := hide (Row1.to (Row1.of_drew rr3.out) (splice_ints (sp := []) (by rw [L1.out, List.length_replicate]; omega)))
      have H3 := hide (H2.out.block (w' := w3) (rr3.out.block B hBg))
      have C3 := hide (show ChgP w w3 (fun _ => False) from C2.out.trans (show ChgP w2 w3 (fun k => k = w1.heap.size) from ⟨rr3.out.os, rr3.out.tape, rr3.out.output, Nat.le_of_eq rr3.out.size.symm, fun k hk hn => rr3.out.block k hn⟩) (fun _ _ s => s) (fun i hq s => by omega))
      have es3 : w1.heap.size < w3.heap.size := by rw [rr3.out.size]; exact es2
      have HZ3 := hide (show Cl w3 g zs from fun i hi => (World.cell?_of_block (a := ⟨g, i, none⟩) (rr3.out.block g (by omega))).trans (HZ2.out i hi))
      clear rr3 d0 d1 d2 f0 f1 f2 H2 C2 R2
      obtain ⟨d0, d1, d2⟩ := H3.out.gc
      obtain ⟨f0, f1, f2⟩ := H3.out.gf
      go_wp2_with fail
      go_quiet (fail)
      have R4 := hide (show Rw (w3.drewN nq) w1.heap.size (splice (List.replicate c 0) 0 (zs.take lo)) [] from R3.out.row)
      have H4 := hide (H3.out.block (w' := w3.drewN nq) rfl)
      have C4 := hide (show ChgP w (w3.drewN nq) (fun _ => False) from C3.out.trans (show ChgP w3 (w3.drewN nq) (fun _ => False) from ⟨rfl, rfl, rfl, Nat.le_refl _, fun _ _ _ => rfl⟩) (fun _ _ s => s) (fun _ _ s => s))
      have HZ4 := hide (show Cl (w3.drewN nq) g zs from HZ3.out)
      clear d0 d1 d2 f0 f1 f2 H3 C3 R3
      obtain ⟨d0, d1, d2⟩ := H4.out.gc
      obtain ⟨f0, f1, f2⟩ := H4.out.gf
      generalize w3.drewN nq = w4 at *
      have HZ5 := hide (show Cl (w4.setCell ⟨B, o + 2, none⟩ (.int .i64 NH)) g zs from fun i hi => (World.cell?_of_block (a := ⟨g, i, none⟩) (setCell_block_other (by show g ≠ B; exact hgB))).trans (HZ4.out i hi))
      have R5a := hide (show Rw (w4.setCell ⟨B, o + 2, none⟩ (.int .i64 NH)) w1.heap.size (splice (List.replicate c 0) 0 (zs.take lo)) [] from (setCell_block_other (by show w1.heap.size ≠ B; exact hBg.symm)).trans R4.out)
      go_upto_region 8 with fail
      go_upto_region 9 with (refine wpList_copy_row rfl (.tmp 59) (.tmp 60) 49 49 rfl 21 Tryz.underlying49 info_size1 (some ⟨w1.heap.size, NH, none⟩) (some ⟨g, hi, none⟩) (c - NH) (c - NH) (n0 - hi) (cap - hi) rfl rfl w1.heap.size NH (ints .i32 (splice (List.replicate c 0) 0 (zs.take lo)) ++ []) 21 (by exact R5a.out) (ints .i32 (zs.drop hi)) (by rw [ints_length, L2.out]; show n0 - hi = min (n0 - hi) (c - NH); omega) (fun _ => ⟨rfl, _, rfl, by have := HZ5.out.app' hi (n0 - hi) (by rw [HN.out]; omega); rw [List.take_of_length_le (by rw [L2.out]; exact Nat.le_refl _)] at this; exact this⟩) (by rw [ints_length, L2.out, List.length_append, ints_length, length_splice _ _ _ (by rw [L1.out, List.length_replicate]; omega), List.length_replicate]; omega) (ints_one _ _) ?_; intro w5 rr5)
      have R5 := hide (Row1.to rr5.out (splice_ints (sp := []) (by rw [L2.out, length_splice _ _ _ (by rw [L1.out, List.length_replicate]; omega), List.length_replicate]; omega)))
      have y0 : w5.cell? ⟨B, o, none⟩ = some (.slice (some ⟨g, 0, none⟩) n0 cap) := (World.cell?_of_block (a := ⟨B, o, none⟩) (rr5.out.block B hBg)).trans ((World.cell?_setCell_other w4 ⟨B, o + 2, none⟩ ⟨B, o, none⟩ (.int .i64 NH) (by simp)).trans d0)
      have y1 : w5.frozen? ⟨B, o, none⟩ = false := (frozen_of_block (p := ⟨B, o, none⟩) (rr5.out.block B hBg)).trans (by simpa using f0)
      clear rr5 d0 d1 d2 f0 f1 f2
      go_wp2
      go_end0
      exact ⟨rfl, w1.heap.size, grow_set H.out C4.out es1 R4.out R5.out lo NH rfl rfl⟩
end Go.Proofs.YtbkcbhjejkicjaaGreatDoor

