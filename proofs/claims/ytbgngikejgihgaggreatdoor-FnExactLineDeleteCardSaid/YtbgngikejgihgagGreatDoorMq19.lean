import Derived.Test.YtbgngikejgihgagGreatDoorMq18
import Derived.Test.YtbgngikejgihgagGreatDoorMq10
import Derived.Test.YtbgngikejgihgagGreatDoorMq03
import Derived.Test.YtbgngikejgihgagGreatDoorMq06
import Derived.WalkKit
import Derived.WalkLawsBesides
import Derived.Deep.RegionWith
import Derived.Deep.Cut
import Derived.Deep.CutRange
import Derived.Deep.CutBlock
import Derived.Deep.DeepCutAuto
namespace Go.Proofs.YtbgngikejgihgagGreatDoor
open Go Go.RowKit
set_option linter.unusedVariables false

/-- A row with a text put in. -/
noncomputable def insG (x : Gr) (p : Nat) (ts : List Int) : Gr :=
  ⟨glay ((grT x).take p ++ (ts ++ (grT x).drop p)) (p + ts.length) (cellsN x.cells x.lo.toNat x.hi.toNat ts.length), ((p + ts.length : Nat) : Int), ((p + (cellsN x.cells x.lo.toNat x.hi.toNat ts.length - (grT x).length) : Nat) : Int)⟩
/-- A row with a range taken out. -/
def delG (x : Gr) (a b : Nat) : Gr := ⟨glay ((grT x).take a ++ (grT x).drop b) a x.cells.length, (a : Int), ((b + (x.hi.toNat - x.lo.toNat) : Nat) : Int)⟩

theorem grVs_set3 {vs : List Value} {gs : List Gr} {i : Nat} (u : Value) (x : Gr) (h : vs.length = gs.length) (hi : i < gs.length) : grVs (vs.set i u) (gs.set i x) = (((grVs vs gs).set (i * 3) u).set (i * 3 + 1) (.int .i64 x.lo)).set (i * 3 + 2) (.int .i64 x.hi) := by
  induction i generalizing vs gs with
  | zero =>
    cases vs with
    | nil => simp at h; rw [h] at hi; simp at hi
    | cons v vs =>
      cases gs with
      | nil => simp at hi
      | cons g gs => simp [grVs]
  | succ i ih =>
    cases vs with
    | nil => simp at h; rw [← h] at hi; simp at hi
    | cons v vs =>
      cases gs with
      | nil => simp at hi
      | cons g gs =>
        simp only [List.length_cons] at h hi
        rw [show (i + 1) * 3 = i * 3 + 1 + 1 + 1 by omega, show i * 3 + 1 + 1 + 1 + 1 = (i * 3 + 1) + 1 + 1 + 1 by omega, show i * 3 + 1 + 1 + 1 + 2 = (i * 3 + 2) + 1 + 1 + 1 by omega]
        simp only [List.set_cons_succ, grVs]
        rw [ih (by omega) (by omega)]
theorem set3_take {cur : Array Value} {o m : Nat} {a b c : Value} : (set3 cur o a b c).toList.take m = (((cur.toList.take m).set o a).set (o + 1) b).set (o + 2) c := by
  unfold set3
  simp only [Array.toList_setIfInBounds, List.take_set]
theorem get_set {α : Type} {xs : List α} {i j : Nat} {a b : α} (h : (xs.set i a)[j]? = some b) : (j = i ∧ b = a) ∨ (j ≠ i ∧ xs[j]? = some b) := by
  by_cases e : j = i
  · subst e
    rw [List.getElem?_set_self'] at h
    cases hx : xs[j]? with
    | none => rw [hx] at h; simp at h
    | some y => rw [hx] at h; simp at h; exact .inl ⟨rfl, h.symm⟩
  · rw [List.getElem?_set_ne (fun q => e q.symm)] at h
    exact .inr ⟨e, h⟩

/-- One row of a row of rows written anew. -/
theorem OwG.edit {w w1 : World} {lo hi g cap n i : Nat} {vs : List Value} {gs : List Gr} {x : Gr} {u u' : Value} {cur : Array Value} {zs : List Int} {lo' hi' : Int}
    (h : OwG 177 w lo hi (.slice (some ⟨g, 0, none⟩) n cap) vs gs) (hn : gs.length = n) (hx : gs[i]? = some x) (hu : vs[i]? = some u) (hh : hi ≤ w.heap.size)
    (hcur : w.heap[g]? = some (.cells cur 177 (0, 0))) (hb : w1.heap[g]? = some (.cells (set3 cur (i * 3) u' (.int .i64 lo') (.int .i64 hi')) 177 (0, 0)))
    (ho : o32 w1 lo u' zs) (hbl : bel w1.heap.size u') (hne : ∀ q, u'.ownBlock = some q → q < w.heap.size → u.ownBlock = some q)
    (hc : Chg w w1 (fun k => k = g ∨ u.ownBlock = some k)) :
    OwG 177 w1 lo w1.heap.size (.slice (some ⟨g, 0, none⟩) n cap) (vs.set i u') (gs.set i ⟨zs, lo', hi'⟩) := by
  have hil : i < gs.length := (List.getElem?_eq_some_iff.1 hx).1
  have hsz := hc.size
  have hgl : g < hi := h.bl g rfl
  have keep : ∀ (j : Nat) v l, j ≠ i → vs[j]? = some v → o32 w lo v l → o32 w1 lo v l := by
    intro j v l hji hv hol
    refine owns_of_block hol (fun q hq => hc.block q (hol.lt q hq).2 (fun s => ?_))
    rcases s with s | s
    · exact own_apart hol h.row (by decide) hq (by simp [Value.ownBlock, s])
    · exact h.nest.ne i j u v q (fun e => hji e.symm) hu hv s hq
  refine ⟨?_, fun q hq => ?_, ⟨?_, ?_, ?_, ?_⟩⟩
  · have hr := h.row
    rw [hn] at hr
    rcases hr.2 with ⟨e, _⟩ | ⟨g', cap', cur', e, h1, h2, h3, h4, h5, h6⟩
    · cases e
    · simp only [Value.slice.injEq, Option.some.injEq, Addr.mk.injEq, and_true, true_and] at e
      obtain ⟨rfl, rfl⟩ := e
      rw [hcur] at h2
      simp only [Option.some.injEq, Obj.cells.injEq, and_true] at h2
      subst h2
      rw [List.length_set, hn]
      refine ⟨by rw [grVs_length (by simp [h.len]), List.length_set, hn], .inr ⟨g, cap, _, rfl, h1, hb, h3, h4, by rw [set3_size]; exact h5, ?_⟩⟩
      rw [set3_take, h6, grVs_set3 u' ⟨zs, lo', hi'⟩ h.len hil]
  · simp only [Value.ownBlock, Option.some.injEq] at hq
    omega
  · rw [List.length_set, List.length_map, List.length_set]; exact h.len
  · intro j v l hv hl
    rw [List.map_set] at hl
    rcases get_set hv with ⟨rfl, rfl⟩ | ⟨e, hv'⟩
    · rcases get_set hl with ⟨_, rfl⟩ | ⟨e, _⟩
      · exact ho
      · exact absurd rfl e
    · rcases get_set hl with ⟨e', _⟩ | ⟨_, hl'⟩
      · exact absurd e' e
      · exact keep j v l e hv' (h.nest.own j v l hv' hl')
  · intro v hv
    obtain ⟨j, hj⟩ := List.getElem?_of_mem hv
    rcases get_set hj with ⟨_, rfl⟩ | ⟨_, hj'⟩
    · exact hbl
    · exact bel_mono (h.nest.bl v (List.mem_of_getElem? hj')) (by omega)
  · intro a b y v q hab hy hv hq hq'
    rcases get_set hy with ⟨rfl, rfl⟩ | ⟨ea, hy'⟩
    · rcases get_set hv with ⟨rfl, _⟩ | ⟨eb, hv'⟩
      · exact absurd rfl hab
      · have h1 := h.nest.bl v (List.mem_of_getElem? hv') q hq'
        have h2 := hne q hq (by omega)
        exact h.nest.ne a b u v q hab hu hv' h2 hq'
    · rcases get_set hv with ⟨rfl, rfl⟩ | ⟨eb, hv'⟩
      · have h1 := h.nest.bl y (List.mem_of_getElem? hy') q hq
        have h2 := hne q hq' (by omega)
        exact h.nest.ne a b y u q hab hy' hu hq h2
      · exact h.nest.ne a b y v q hab hy' hv' hq hq'
/-- The cells of the outer row. -/
theorem OwG.gb {w : World} {lo hi g cap n i : Nat} {vs : List Value} {gs : List Gr} {x : Gr} {u : Value} (h : OwG 177 w lo hi (.slice (some ⟨g, 0, none⟩) n cap) vs gs) (hn : gs.length = n) (hx : gs[i]? = some x) (hu : vs[i]? = some u) :
    ∃ cur, w.heap[g]? = some (.cells cur 177 (0, 0)) ∧ GB w g (i * 3) cur 177 u x.lo x.hi := by
  have hil : i < gs.length := (List.getElem?_eq_some_iff.1 hx).1
  have hr := h.row
  rw [hn] at hr
  rcases hr.2 with ⟨e, _⟩ | ⟨g', cap', cur, e, h1, h2, h3, h4, h5, h6⟩
  · cases e
  · simp only [Value.slice.injEq, Option.some.injEq, Addr.mk.injEq, and_true, true_and] at e
    obtain ⟨rfl, rfl⟩ := e
    have get : ∀ k, k < 3 → cur[i * 3 + k]? = [u, .int .i64 x.lo, .int .i64 x.hi][k]? := by
      intro k hk
      have h7 := grVs_get hu hx hk
      rw [← h6, List.getElem?_take, if_pos (by omega)] at h7
      rw [← h7]; simp
    exact ⟨cur, h2, h2, by omega, get 0 (by omega), get 1 (by omega), get 2 (by omega)⟩
end Go.Proofs.YtbgngikejgihgagGreatDoor

namespace Go.Proofs.YtbgngikejgihgagGreatDoor
open Go Go.RowKit
set_option linter.unusedVariables false

theorem gkP_GV {x : Gr} (h : gkP x.cells x.lo x.hi) : GV x.cells x.lo.toNat x.hi.toNat ∧ x.lo = (x.lo.toNat : Int) ∧ x.hi = (x.hi.toNat : Int) := by
  obtain ⟨⟨h1, ⟨h2, h3⟩, ⟨h4, h5⟩, h6⟩, h7⟩ := h
  refine ⟨⟨by omega, by omega, fun i a b => h7 i (by omega) (by omega), by omega, by omega⟩, by omega, by omega⟩
theorem GV_gkP {x : Gr} {lo hi : Nat} (h : GV x.cells lo hi) (h1 : x.lo = lo) (h2 : x.hi = hi) : gkP x.cells x.lo x.hi := by
  have a := h.a; have b := h.b; have c := h.c; have t := h.t
  rw [h1, h2]
  refine ⟨⟨by omega, ⟨by omega, by omega⟩, ⟨by omega, by omega⟩, by omega⟩, fun i i1 i2 => h.z i (by omega) (by omega)⟩
theorem delG_facts {x : Gr} {a b : Nat} (hk : gkP x.cells x.lo x.hi) (hab : a ≤ b) (hb : b ≤ (grT x).length) : gkP (delG x a b).cells (delG x a b).lo (delG x a b).hi ∧ grT (delG x a b) = (grT x).take a ++ (grT x).drop b := by
  obtain ⟨hv, el, eh⟩ := gkP_GV hk
  have hgt : (grT x).length = x.cells.length - (x.hi.toNat - x.lo.toNat) := gtext_length hv.a hv.b
  have h1 := hv.a; have h2 := hv.b; have h3 := hv.c; have h4 := hv.t
  have hL : ((grT x).take a ++ (grT x).drop b).length = (grT x).length - (b - a) := by simp only [List.length_append, List.length_take, List.length_drop]; omega
  have e : b + (x.hi.toNat - x.lo.toNat) = a + (x.cells.length - ((grT x).take a ++ (grT x).drop b).length) := by omega
  have gv : GV (delG x a b).cells a (b + (x.hi.toNat - x.lo.toNat)) := by
    show GV (glay ((grT x).take a ++ (grT x).drop b) a x.cells.length) a (b + (x.hi.toNat - x.lo.toNat))
    rw [e]; exact glay_valid (by omega) (by omega) h3 (by omega)
  refine ⟨GV_gkP gv rfl rfl, ?_⟩
  show gtext (glay ((grT x).take a ++ (grT x).drop b) a x.cells.length) (Int.toNat (a : Int)) (Int.toNat ((b + (x.hi.toNat - x.lo.toNat) : Nat) : Int)) = _
  rw [Int.toNat_natCast, Int.toNat_natCast, e]
  exact glay_text (by omega) (by omega)
end Go.Proofs.YtbgngikejgihgagGreatDoor

namespace Go.Proofs.YtbgngikejgihgagGreatDoor
open Go Go.RowKit
set_option linter.unusedVariables false

theorem owns_set3 {w : World} {base b : Nat} {e : TypeId} {size : Nat} {v : Value} {n : Nat} {xs : List Value} (h : w.ownsRow base e size v n xs) (hb : b < base) (x y z : Value) : (((w.setCell ⟨b, 0, none⟩ x).setCell ⟨b, 1, none⟩ y).setCell ⟨b, 2, none⟩ z).ownsRow base e size v n xs := by
  have hne : ∀ j, v.ownBlock ≠ some (⟨b, j, none⟩ : Addr).block := by
    intro j hk
    have := (h.lt b hk).1
    omega
  exact ownsRow_setCell_other (ownsRow_setCell_other (ownsRow_setCell_other h (hne 0) x) (hne 1) y) (hne 2) z

def zeroG : Value := .agg #[.slice none 0 0, .int .i64 0, .int .i64 0]
def msgGap : ByteArray := ⟨#[114, 101, 97, 100, 105, 110, 103, 32, 97, 32, 103, 97, 112, 32, 98, 117, 102, 102, 101, 114]⟩

set_option maxHeartbeats 800000 in
set_option maxRecDepth 100000 in
theorem readGap_bad (zs : List Int) (v : Value) (lo hi : Int) (w : World) (h : Gs w v zs) (hn : zs.length ≤ 1048576) (hk : ¬ gok zs lo hi) :
    Calls Tryz.prog 160 #[.agg #[v, .int .i64 lo, .int .i64 hi]] w fun e w' => e = .returned (.tuple #[zeroG, .iface 172 (.agg #[.string msgGap, .iface 181 (.int .i64 1)])]) ∧ Below w.heap.size w w' := by
  obtain ⟨ao, cap, rfl⟩ := h.val
  have HB0 := hide (((Below.refl w.heap.size w).alloc (Nat.le_refl _) (.cells #[.slice ao zs.length cap, .int .i64 lo, .int .i64 hi] 152)).alloc (by simp) (.cells #[.slice none 0 0, .int .i64 0, .int .i64 0] 177))
  have HT0 := hide (T3.new (w.alloc (.cells #[.slice ao zs.length cap, .int .i64 lo, .int .i64 hi] 152)) (.slice none 0 0) (.int .i64 0) (.int .i64 0) 177)
  have HI := hide (checkGapN zs _ lo hi _ (h.below HB0.out (Nat.le_refl _)) hn)
  rw [show (@decide (gok zs lo hi) (Classical.propDecidable _)) = false by simpa using hk] at HI
  simp only [errV, Bool.false_eq_true, if_false] at HI
  have hs0 : ((w.alloc (.cells #[.slice ao zs.length cap, .int .i64 lo, .int .i64 hi] 152)).alloc (.cells #[.slice none 0 0, .int .i64 0, .int .i64 0] 177)).heap.size = w.heap.size + 2 := by simp
  have hs1 : (w.alloc (.cells #[.slice ao zs.length cap, .int .i64 lo, .int .i64 hi] 152)).heap.size = w.heap.size + 1 := by simp
  rw [hs1] at HT0
  generalize hN : zs.length = n at *
  clear h hk hs1 hN
  go_enter Tryz.func160, Tryz.ntmps160
  go_wp2_with fail
  generalize (w.alloc (.cells #[.slice ao n cap, .int .i64 lo, .int .i64 hi] 152)).alloc (.cells #[.slice none 0 0, .int .i64 0, .int .i64 0] 177) = w0 at *
  refine HI.out.mono ?_
  rintro e w1 ⟨rfl, hb1⟩
  have HT1 := hide (HT0.out.below hb1 (by omega))
  have HB1 := hide (HB0.out.trans (hb1.mono (by omega)))
  obtain ⟨g0, g1, g2⟩ := HT1.out.c
  have z0 := HT1.out.fz 0
  have z1 := HT1.out.fz 1
  have z2 := HT1.out.fz 2
  clear hb1 HI HT0 HB0
  go_wp2
  refine bodyPost_ret (v := .tuple #[zeroG, .iface 172 (.agg #[.string msgGap, .iface 181 (.int .i64 1)])]) (by simp [results, Tryz.results160, go_sem, g0, g1, g2]; exact ⟨rfl, rfl⟩) rfl ?_
  exact ⟨rfl, ((HB1.out.setCell (by simp) _).setCell (by simp) _).setCell (by simp) _⟩

set_option maxHeartbeats 800000 in
set_option maxRecDepth 100000 in
theorem readGap_ok (zs : List Int) (v : Value) (lo hi : Int) (w : World) (h : Gs w v zs) (hn : zs.length ≤ 1048576) (hk : gok zs lo hi) :
    Calls Tryz.prog 160 #[.agg #[v, .int .i64 lo, .int .i64 hi]] w fun e w' => ∃ v', e = .returned (.tuple #[.agg #[v', .int .i64 lo, .int .i64 hi], .nilIface]) ∧ w'.ownsRow w.heap.size 21 1 v' zs.length (ints .i32 zs) ∧ Below w.heap.size w w' := by
  obtain ⟨ao, cap, rfl⟩ := h.val
  have HB0 := hide (((Below.refl w.heap.size w).alloc (Nat.le_refl _) (.cells #[.slice ao zs.length cap, .int .i64 lo, .int .i64 hi] 152)).alloc (by simp) (.cells #[.slice none 0 0, .int .i64 0, .int .i64 0] 177))
  have HT0 := hide (T3.new (w.alloc (.cells #[.slice ao zs.length cap, .int .i64 lo, .int .i64 hi] 152)) (.slice none 0 0) (.int .i64 0) (.int .i64 0) 177)
  have HP0 := hide ((T3.new w (.slice ao zs.length cap) (.int .i64 lo) (.int .i64 hi) 152).below ((Below.refl _ _).alloc (Nat.le_refl _) (.cells #[.slice none 0 0, .int .i64 0, .int .i64 0] 177)) (by simp))
  have HS := hide (h.below HB0.out (Nat.le_refl _))
  have HI := hide (checkGapN zs _ lo hi _ HS.out hn)
  rw [show (@decide (gok zs lo hi) (Classical.propDecidable _)) = true by simpa using hk] at HI
  simp only [errV, if_true] at HI
  have hs0 : ((w.alloc (.cells #[.slice ao zs.length cap, .int .i64 lo, .int .i64 hi] 152)).alloc (.cells #[.slice none 0 0, .int .i64 0, .int .i64 0] 177)).heap.size = w.heap.size + 2 := by simp
  have hs1 : (w.alloc (.cells #[.slice ao zs.length cap, .int .i64 lo, .int .i64 hi] 152)).heap.size = w.heap.size + 1 := by simp
  rw [hs1] at HT0
  generalize hN : zs.length = n at *
  have HN := hide hN
  clear h hk hs1 hN
  go_enter Tryz.func160, Tryz.ntmps160
  go_wp2_with fail
  generalize (w.alloc (.cells #[.slice ao n cap, .int .i64 lo, .int .i64 hi] 152)).alloc (.cells #[.slice none 0 0, .int .i64 0, .int .i64 0] 177) = w0 at *
  refine HI.out.mono ?_
  rintro e w1 ⟨rfl, hb1⟩
  have HT1 := hide (HT0.out.below hb1 (by omega))
  have HP1 := hide (HP0.out.below hb1 (by omega))
  have HS1 := hide (HS.out.below hb1 (by omega))
  have HB1 := hide (HB0.out.trans (hb1.mono (by omega)))
  have s1 := hb1.size
  obtain ⟨g0, g1, g2⟩ := HT1.out.c
  have z0 := HT1.out.fz 0
  have z1 := HT1.out.fz 1
  have z2 := HT1.out.fz 2
  obtain ⟨p0, p1, p2⟩ := HP1.out.c
  clear hb1 HI HT0 HB0 HP0 HS
  have lt0 : w.heap.size < w1.heap.size := by omega
  go_wp2_with fail
  go_region_with (go_at_call 181; refine (clone32 zs _ _ (by exact (HS1.out.sl).below ⟨rfl, rfl, rfl, Nat.le_refl _, fun _ _ => rfl⟩) (by rw [HN.out]; exact hn)).mono ?_; rintro e w2 ⟨v2, rfl, ho2, hb2⟩; obtain ⟨ao2, cap2, hv2⟩ := (Gs.of_owns ho2).val; rw [HN.out] at hv2; subst hv2; have B2 := hide (show Below w1.heap.size w1 w2 from ⟨hb2.os, hb2.tape, hb2.output, hb2.size, hb2.block⟩); have O2 := hide (show w2.ownsRow w1.heap.size 21 1 (.slice ao2 n cap2) zs.length (ints .i32 zs) from ho2); have HT2 := hide (HT1.out.below B2.out (by omega)); have HP2 := hide (HP1.out.below B2.out (by omega)); have q0 := HT2.out.c.1; have q1 := HT2.out.c.2.1; have q2 := HT2.out.c.2.2; have y0 := HT2.out.fz 0; have y1 := HT2.out.fz 1; have y2 := HT2.out.fz 2; have r0 := HP2.out.c.1; have r1 := HP2.out.c.2.1; have r2 := HP2.out.c.2.2; have OS := hide (owns_base (base' := w.heap.size) (owns_set3 (b := w.heap.size + 1) O2.out (by omega) (.slice ao2 n cap2) (.int .i64 lo) (.int .i64 hi)) (by omega)); have BS := hide ((((HB1.out.trans (B2.out.mono (by omega))).setCell (show w.heap.size ≤ (⟨w.heap.size + 1, 0, none⟩ : Addr).block by simp) (.slice ao2 n cap2)).setCell (show w.heap.size ≤ (⟨w.heap.size + 1, 1, none⟩ : Addr).block by simp) (.int .i64 lo)).setCell (show w.heap.size ≤ (⟨w.heap.size + 1, 2, none⟩ : Addr).block by simp) (.int .i64 hi)); rw [HN.out] at OS; clear ho2 hb2 O2 B2 HT2 HP2)
  all_goals (
    go_wp2
    refine bodyPost_ret (v := .tuple #[.agg #[.slice ao2 n cap2, .int .i64 lo, .int .i64 hi], .nilIface]) (by simp [results, Tryz.results160, go_sem, q0, q1, q2]) rfl ?_
    exact ⟨.slice ao2 n cap2, rfl, OS.out, BS.out⟩)
end Go.Proofs.YtbgngikejgihgagGreatDoor
