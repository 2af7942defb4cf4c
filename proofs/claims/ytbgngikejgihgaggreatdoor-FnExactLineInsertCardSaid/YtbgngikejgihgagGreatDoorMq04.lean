import Derived.Test.YtbgngikejgihgagGreatDoorMq02
import Derived.Test.YtbgngikejgihgagGreatDoorMq03
import Derived.WalkKit
import Derived.WalkLawsBesides
import Derived.Deep.RegionWith
import Derived.Deep.Cut
import Derived.Deep.CutRange
import Derived.Deep.QuietTactic
import Derived.BigQuiet
namespace Go.Proofs.YtbgngikejgihgagGreatDoor
open Go Go.RowKit
set_option linter.unusedVariables false

/-- A block of three cells. -/
def Q3 (w : World) (b : Nat) (x y z : Value) (t : TypeId) : Prop := w.heap[b]? = some (.cells #[x, y, z] t (0, 0))
theorem Q3.c {w : World} {b : Nat} {x y z : Value} {t : TypeId} (h : Q3 w b x y z t) : w.cell? ⟨b, 0, none⟩ = some x ∧ w.cell? ⟨b, 1, none⟩ = some y ∧ w.cell? ⟨b, 2, none⟩ = some z := by
  refine ⟨?_, ?_, ?_⟩ <;> rw [cell_of_row w b _ _ _ _ h] <;> rfl
theorem Q3.lt {w : World} {b : Nat} {x y z : Value} {t : TypeId} (h : Q3 w b x y z t) : b < w.heap.size := (Array.getElem?_eq_some_iff.1 h).1
theorem Q3.fz {w : World} {b : Nat} {x y z : Value} {t : TypeId} (h : Q3 w b x y z t) (j : Nat) : w.frozen? ⟨b, j, none⟩ = false := frozen_of_row w b j _ _ h
theorem Q3.below {B : Nat} {w w' : World} {b : Nat} {x y z : Value} {t : TypeId} (h : Q3 w b x y z t) (hb : Below B w w') (hB : b < B) : Q3 w' b x y z t := (hb.block b hB).trans h
theorem Q3.new (w : World) (x y z : Value) (t : TypeId) : Q3 (w.alloc (.cells #[x, y, z] t)) w.heap.size x y z t := heap_alloc_new w (.cells #[x, y, z] t)
theorem Rd.vl {k : IntKind} {w : World} {v : Value} {zs : List Int} (h : Rd k w v zs) : ∃ ao cap, v = .slice ao zs.length cap := by
  rcases h with ⟨ao, cap, rfl, rfl⟩ | ⟨b, off, cap, rfl, _⟩
  · exact ⟨_, _, rfl⟩
  · exact ⟨_, _, rfl⟩
theorem eq32l (xs : List Int) (v u : Value) (w : World) (h1 : Rd .i32 w v xs) (h2 : Rd .i32 w u xs) (hn : xs.length ≤ 1099511627776) :
    Calls Tryz.prog 19 #[v, u] w fun e w' => e = .returned (.bool true) ∧ Below w.heap.size w w' :=
  (eq32 xs v u w h1 h2 hn).mono fun e w' ⟨he, n, hw⟩ => ⟨he, by subst hw; exact ⟨rfl, rfl, rfl, Nat.le_refl _, fun _ _ => rfl⟩⟩

set_option maxHeartbeats 1000000 in
theorem eqGpN (xs : List Int) (v u : Value) (lo hi : Int) (w : World) (h1 : Rd .i32 w v xs) (h2 : Rd .i32 w u xs) (hn : xs.length ≤ 1048576) :
    Calls Tryz.prog 114 #[.agg #[v, .int .i64 lo, .int .i64 hi], .agg #[u, .int .i64 lo, .int .i64 hi]] w fun e w' => e = .returned (.bool true) ∧ Below w.heap.size w w' := by
  obtain ⟨ao, cap, rfl⟩ := h1.vl
  obtain ⟨ao', cap', rfl⟩ := h2.vl
  have HB0 := hide (((Below.refl w.heap.size w).alloc (Nat.le_refl _) (.cells #[.slice ao xs.length cap, .int .i64 lo, .int .i64 hi] 152)).alloc (by simp) (.cells #[.slice ao' xs.length cap', .int .i64 lo, .int .i64 hi] 152))
  have HI := hide (eq32l xs _ _ _ (h1.below HB0.out) (h2.below HB0.out) (by omega))
  have HA0 := hide ((Q3.new w (.slice ao xs.length cap) (.int .i64 lo) (.int .i64 hi) 152).below ((Below.refl _ _).alloc (Nat.le_refl _) (.cells #[.slice ao' xs.length cap', .int .i64 lo, .int .i64 hi] 152)) (by simp))
  have HC0 := hide (Q3.new (w.alloc (.cells #[.slice ao xs.length cap, .int .i64 lo, .int .i64 hi] 152)) (.slice ao' xs.length cap') (.int .i64 lo) (.int .i64 hi) 152)
  have es : (w.alloc (.cells #[.slice ao xs.length cap, .int .i64 lo, .int .i64 hi] 152)).heap.size = w.heap.size + 1 := by simp
  have hs0 : ((w.alloc (.cells #[.slice ao xs.length cap, .int .i64 lo, .int .i64 hi] 152)).alloc (.cells #[.slice ao' xs.length cap', .int .i64 lo, .int .i64 hi] 152)).heap.size = w.heap.size + 2 := by simp
  rw [es] at HC0
  generalize xs.length = n at *
  have q1 : (lo != lo) = false := by simp
  have q2 : (hi != hi) = false := by simp
  clear es h1 h2
  go_enter Tryz.func114, Tryz.ntmps114
  go_wp2_with fail
  generalize (w.alloc (.cells #[.slice ao n cap, .int .i64 lo, .int .i64 hi] 152)).alloc (.cells #[.slice ao' n cap', .int .i64 lo, .int .i64 hi] 152) = w0 at *
  refine HI.out.mono ?_
  rintro e w1 ⟨rfl, hb1⟩
  have HA1 := hide (HA0.out.below hb1 (by omega))
  have HC1 := hide (HC0.out.below hb1 (by omega))
  have HB1 := hide (HB0.out.trans (hb1.mono (by omega)))
  obtain ⟨g0, g1, g2⟩ := HA1.out.c
  obtain ⟨p0, p1, p2⟩ := HC1.out.c
  clear hb1 HI HA0 HB0 HC0
  go_wp2
  go_ret
  exact ⟨rfl, HB1.out⟩

set_option maxHeartbeats 1000000 in
theorem eqGapSN (gs : List Gr) (vs us : List Value) (v u : Value) (lo hi lo' hi' : Nat) (w : World) (h1 : OwG 152 w lo hi v vs gs) (h2 : OwG 152 w lo' hi' u us gs) (hh : hi ≤ w.heap.size) (hh' : hi' ≤ w.heap.size) (hn : gs.length ≤ 1048576) (hs : ∀ x ∈ gs, x.cells.length ≤ 1048576) :
    Calls Tryz.prog 57 #[v, u] w fun e w' => e = .returned (.bool true) ∧ Below w.heap.size w w' := by
  have GET := hide (fun (i : Nat) (hi : i < gs.length) => h1.get hi)
  have GET' := hide (fun (i : Nat) (hi : i < gs.length) => h2.get hi)
  have F1 := hide (fun (w' : World) (hb : Below w.heap.size w w') => h1.frame (w' := w') (fun q _ hq => hb.block q (by omega)))
  have F2 := hide (fun (w' : World) (hb : Below w.heap.size w w') => h2.frame (w' := w') (fun q _ hq => hb.block q (by omega)))
  have HS := hide hs
  by_cases h0 : gs.length = 0
  · obtain ⟨ao, cap, rfl⟩ := h1.val
    obtain ⟨ao', cap', rfl⟩ := h2.val
    rw [h0]
    clear h1 h2 hs
    go_enter Tryz.func57, Tryz.ntmps57
    go_wp2
    refine wp_loop_rounds 1 ?_
    rw [rounds_succ]
    go_wp2
    go_ret
    exact ⟨rfl, Below.refl _ _⟩
  · rcases h1.row.2 with ⟨_, q⟩ | ⟨g, cap, cur, rfl, _, _, c1, c2, _⟩
    · exact absurd q h0
    rcases h2.row.2 with ⟨_, q⟩ | ⟨g', cap', cur', rfl, _, _, c1', c2', _⟩
    · exact absurd q h0
    generalize hN : gs.length = n at *
    have HN := hide hN
    unfold maxLen at c2 c2'
    clear h1 h2 hs hN
    have hne : ((n : Int) != (n : Int)) = false := by simp
    go_enter Tryz.func57, Tryz.ntmps57
    go_wp2
    go_loopw [5] (fun i wr => ∃ j : Nat, j ≤ n ∧ i = .int .i64 j ∧ Below w.heap.size w wr) (fun i _ => n - (intOf i).toNat)
    case atStart => exact ⟨0, Nat.zero_le _, rfl, Below.refl _ _⟩
    case round =>
      obtain ⟨j, hj, rfl, hb⟩ := hrel
      have HB := hide hb
      by_cases hlt : j < n
      · obtain ⟨x, xv, hx, hxv⟩ := GET.out j hlt
        obtain ⟨x', xu, hx', hxu⟩ := GET'.out j hlt
        rw [hx] at hx'
        cases hx'
        obtain ⟨a0, a1, a2⟩ := (F1.out wr hb).cells HN.out hx hxv
        obtain ⟨b0, b1, b2⟩ := (F2.out wr hb).cells HN.out hx hxu
        have E := hide (fun (W : World) (hW : W.heap = wr.heap) => eqGpN x.cells xv xu x.lo x.hi W ((Rd.of_owns ((F1.out wr hb).inner hx hxv)).cells hW) ((Rd.of_owns ((F2.out wr hb).inner hx hxu)).cells hW) (HS.out x (List.mem_of_getElem? hx)))
        obtain ⟨ai, ci, hxv'⟩ := o32_val ((F1.out wr hb).inner hx hxv)
        obtain ⟨au, cu, hxu'⟩ := o32_val ((F2.out wr hb).inner hx hxu)
        generalize x.lo = xl at *
        generalize x.hi = xh at *
        generalize x.cells.length = xn at *
        subst hxv' hxu'
        clear hx hxv hxu hb
        go_upto_region 6 with fail
        go_cut [26] from 11 to 26 (fun s26 wc => s26 = .bool false ∧ Below wr.heap.size wr wc)
        case first =>
          go_region_with (go_at_call 114; refine (E.out _ (by exact rfl)).mono ?_; rintro e w2 ⟨rfl, hb2⟩; have B2 := hide (show Below wr.heap.size wr w2 from ⟨hb2.os, hb2.tape, hb2.output, hb2.size, hb2.block⟩); clear hb2)
          all_goals (go_wp2_with fail; go_meet; exact ⟨rfl, B2.out⟩)
        case rest =>
          obtain ⟨rfl, hbc⟩ := hcut
          have HBC := hide (HB.out.trans (hbc.mono HB.out.size))
          clear hbc
          go_wp2
          go_roundw
          case rel => exact ⟨j + 1, by omega, by go_num, HBC.out⟩
          case measure => simp [intOf]; omega
      · clear hb
        go_wp2
        go_ret
        exact ⟨rfl, HB.out⟩
end Go.Proofs.YtbgngikejgihgagGreatDoor

namespace Go.Proofs.YtbgngikejgihgagGreatDoor
open Go Go.RowKit
set_option linter.unusedVariables false

/-- What lies outside of a stretch of blocks stays. -/
structure Kp (lo hi : Nat) (w w' : World) : Prop where
  os : w'.os = w.os
  tape : w'.tape = w.tape
  output : w'.output = w.output
  size : w.heap.size ≤ w'.heap.size
  block : ∀ q, q < w.heap.size → (q < lo ∨ hi ≤ q) → w'.heap[q]? = w.heap[q]?
theorem Kp.refl (lo hi : Nat) (w : World) : Kp lo hi w w := ⟨rfl, rfl, rfl, Nat.le_refl _, fun _ _ _ => rfl⟩
theorem Kp.trans {lo hi : Nat} {w w' w'' : World} (h : Kp lo hi w w') (k : Kp lo hi w' w'') : Kp lo hi w w'' :=
  ⟨k.os.trans h.os, k.tape.trans h.tape, k.output.trans h.output, Nat.le_trans h.size k.size, fun q hq hr => (k.block q (Nat.lt_of_lt_of_le hq h.size) hr).trans (h.block q hq hr)⟩
theorem Kp.of_grown {lo hi : Nat} {w w' : World} {r : Option Nat} (h : w.grownBy w' r) (hr : ∀ q, r = some q → lo ≤ q ∧ q < hi) : Kp lo hi w w' :=
  ⟨h.os, h.tape, h.output, h.size, fun q hq ho => h.block q hq (fun e => by have := hr q e.symm; omega)⟩
theorem Kp.below {lo hi : Nat} {w w' : World} (h : Kp lo hi w w') (hl : lo ≤ w.heap.size) : Below lo w w' := ⟨h.os, h.tape, h.output, h.size, fun q hq => h.block q (by omega) (.inl hq)⟩
theorem Kp.of_below {lo hi : Nat} {w w' : World} (h : Below w.heap.size w w') : Kp lo hi w w' := ⟨h.os, h.tape, h.output, h.size, fun q hq _ => h.block q hq⟩

/-- Rows of different kinds lie apart. -/
theorem own_apart {w : World} {B B' e e' size size' n n' q : Nat} {v v' : Value} {xs xs' : List Value} (h : w.ownsRow B e size v n xs) (h' : w.ownsRow B' e' size' v' n' xs') (hne : e ≠ e') (hq : v.ownBlock = some q) : v'.ownBlock ≠ some q := by
  intro hq'
  rcases h.2 with ⟨rfl, _⟩ | ⟨g, cap, cur, rfl, _, hgb, _⟩
  · simp [Value.ownBlock] at hq
  · simp only [Value.ownBlock, Option.some.injEq] at hq
    subst hq
    rcases h'.2 with ⟨rfl, _⟩ | ⟨g', cap', cur', rfl, _, hgb', _⟩
    · simp [Value.ownBlock] at hq'
    · simp only [Value.ownBlock, Option.some.injEq] at hq'
      subst hq'
      rw [hgb] at hgb'
      simp only [Option.some.injEq] at hgb'
      injection hgb' with _ h2 _
      exact hne h2
theorem own_kept {w w' : World} {B B' e e' size size' n n' : Nat} {v v' : Value} {xs xs' : List Value} (h : w.ownsRow B e size v n xs) (h' : w.ownsRow B' e' size' v' n' xs') (hne : e ≠ e') (hg : w.grownBy w' v'.ownBlock) : w'.ownsRow B e size v n xs :=
  owns_of_block h (fun q hq => hg.block q (h.lt q hq).2 (fun eq => own_apart h h' hne hq eq.symm))

/-- A row's cells written anew. -/
theorem OwG.put {t : TypeId} {w w1 : World} {lo hi : Nat} {v : Value} {vs us : List Value} {u : Value} {a b : List Gr} {x : Gr} {l : List Int} (h : OwG t w lo hi v (vs ++ u :: us) (a ++ x :: b)) (e : vs.length = a.length) (ho : o32 w1 lo u l) (hg : w.grownBy w1 u.ownBlock) (hne : t ≠ 21) :
    OwG t w1 lo hi v (vs ++ u :: us) (a ++ ⟨l, x.lo, x.hi⟩ :: b) := by
  have h0 : o32 w lo u x.cells := h.inner (i := a.length) (by simp) (by rw [← e]; simp)
  have hn := h.nest
  simp only [List.map_append, List.map_cons] at hn
  refine ⟨?_, h.bl, ?_⟩
  · have h1 := own_kept h.row h0 hne hg
    rw [grVs_app e] at h1 ⊢
    simp only [grVs, List.length_append, List.length_cons] at h1 ⊢
    exact h1
  · simp only [List.map_append, List.map_cons]
    exact hn.put (by simpa using e) ho hg
/-- A row's gap written anew. -/
theorem OwG.gap {t : TypeId} {w : World} {lo hi g cap n : Nat} {vs us : List Value} {u : Value} {a b : List Gr} {x : Gr} (l r : Int) (h : OwG t w lo hi (.slice (some ⟨g, 0, none⟩) n cap) (vs ++ u :: us) (a ++ x :: b)) (hn : (a ++ x :: b).length = n) (e : vs.length = a.length) (hne : t ≠ 21) :
    OwG t ((w.setCell ⟨g, a.length * 3 + 1, none⟩ (.int .i64 l)).setCell ⟨g, a.length * 3 + 2, none⟩ (.int .i64 r)) lo hi (.slice (some ⟨g, 0, none⟩) n cap) (vs ++ u :: us) (a ++ ⟨x.cells, l, r⟩ :: b) ∧
    w.grownBy ((w.setCell ⟨g, a.length * 3 + 1, none⟩ (.int .i64 l)).setCell ⟨g, a.length * 3 + 2, none⟩ (.int .i64 r)) (some g) := by
  have hr := h.row
  rw [hn] at hr
  have s1 := hr.stored (a.length * 3 + 1) (.int .i64 l)
  have s2 := s1.1.stored (a.length * 3 + 2) (.int .i64 r)
  have hg := grown_trans s1.2 s2.2
  refine ⟨⟨?_, h.bl, ?_⟩, hg⟩
  · have h3 := s2.1
    have hn' : (a ++ (⟨x.cells, l, r⟩ : Gr) :: b).length = n := by simpa using hn
    rw [hn']
    rw [show ((grVs (vs ++ u :: us) (a ++ x :: b)).set (a.length * 3 + 1) (.int .i64 l)).set (a.length * 3 + 2) (.int .i64 r) = grVs (vs ++ u :: us) (a ++ ⟨x.cells, l, r⟩ :: b) from grVs_set2 (g' := ⟨x.cells, l, r⟩) e] at h3
    exact h3
  · rw [show (a ++ (⟨x.cells, l, r⟩ : Gr) :: b).map Gr.cells = (a ++ x :: b).map Gr.cells by simp]
    refine ⟨h.nest.len, fun i y m hy hm => ?_, h.nest.bl, h.nest.ne⟩
    have ho := h.nest.own i y m hy hm
    exact owns_of_block ho (fun q hq => hg.block q (ho.lt q hq).2 (fun eq => own_apart ho hr (fun e => hne e.symm) hq eq.symm))

/-- Rows of other kinds stay. -/
def Kk (t : TypeId) (w w' : World) : Prop := ∀ (B e size : Nat) (v : Value) (n : Nat) (xs : List Value), e ≠ t → e ≠ 21 → w.ownsRow B e size v n xs → w'.ownsRow B e size v n xs
theorem Kk.refl (t : TypeId) (w : World) : Kk t w w := fun _ _ _ _ _ _ _ _ h => h
theorem Kk.trans {t : TypeId} {w w' w'' : World} (h : Kk t w w') (k : Kk t w' w'') : Kk t w w'' := fun B e s v n xs h1 h2 h3 => k B e s v n xs h1 h2 (h B e s v n xs h1 h2 h3)
theorem Kk.of_row {t : TypeId} {w w' : World} {B size n : Nat} {v : Value} {xs : List Value} (h : w.ownsRow B t size v n xs) (hg : w.grownBy w' v.ownBlock) : Kk t w w' := fun _ _ _ _ _ _ h1 _ h3 => own_kept h3 h h1 hg
theorem Kk.of_32 {t : TypeId} {w w' : World} {B size n : Nat} {v : Value} {xs : List Value} (h : w.ownsRow B 21 size v n xs) (hg : w.grownBy w' v.ownBlock) : Kk t w w' := fun _ _ _ _ _ _ _ h2 h3 => own_kept h3 h h2 hg
theorem OwG.kept {t : TypeId} {w w' : World} {lo hi B' e' size' n' : Nat} {v v' : Value} {vs : List Value} {gs : List Gr} {xs' : List Value} (h : OwG t w lo hi v vs gs) (h' : w.ownsRow B' e' size' v' n' xs') (h1 : t ≠ e') (h2 : 21 ≠ e') (hg : w.grownBy w' v'.ownBlock) : OwG t w' lo hi v vs gs :=
  ⟨own_kept h.row h' h1 hg, h.bl, ⟨h.nest.len, fun i u l hu hl => own_kept (h.nest.own i u l hu hl) h' h2 hg, h.nest.bl, h.nest.ne⟩⟩

/-- The rows that the laws write. -/
def mkG (k0 : Int) : List Gr → List Gr
  | [] => []
  | g :: gs => ⟨marks .i32 k0 g.cells.length, k0 + g.cells.length, k0 + g.cells.length + 1⟩ :: mkG (k0 + g.cells.length + 1 + 1) gs
def totG : List Gr → Nat
  | [] => 0
  | g :: gs => g.cells.length + 2 + totG gs
theorem totG_app (a b : List Gr) : totG (a ++ b) = totG a + totG b := by
  induction a with
  | nil => simp [totG]
  | cons x a ih => simp only [List.cons_append, totG, ih]; omega
theorem mkG_len (k0 : Int) (gs : List Gr) : (mkG k0 gs).length = gs.length := by
  induction gs generalizing k0 with
  | nil => rfl
  | cons g gs ih => simp only [mkG, List.length_cons, ih]
theorem mkG_app (k0 : Int) (a b : List Gr) : mkG k0 (a ++ b) = mkG k0 a ++ mkG (k0 + totG a) b := by
  induction a generalizing k0 with
  | nil => simp [mkG, totG]
  | cons x a ih =>
    simp only [List.cons_append, mkG, totG, ih]
    rw [show k0 + ↑x.cells.length + 1 + 1 + ↑(totG a) = k0 + ↑(x.cells.length + 2 + totG a) by omega]
theorem mkG_get {k0 : Int} {gs : List Gr} {i : Nat} {g : Gr} (h : gs[i]? = some g) : (mkG k0 gs)[i]? = some ⟨marks .i32 (k0 + totG (gs.take i)) g.cells.length, k0 + totG (gs.take i) + g.cells.length, k0 + totG (gs.take i) + g.cells.length + 1⟩ := by
  induction gs generalizing k0 i with
  | nil => simp at h
  | cons x gs ih =>
    cases i with
    | zero => simp at h; subst h; simp [mkG, totG]
    | succ i =>
      simp at h
      simp only [mkG, List.getElem?_cons_succ, ih h, List.take_succ_cons, totG]
      rw [show k0 + ↑x.cells.length + 1 + 1 + ↑(totG (gs.take i)) = k0 + ↑(x.cells.length + 2 + totG (gs.take i)) by omega]
theorem totG_take_succ {gs : List Gr} {i : Nat} {g : Gr} (h : gs[i]? = some g) : totG (gs.take (i + 1)) = totG (gs.take i) + g.cells.length + 2 := by
  rw [List.take_add_one, h, totG_app]
  simp [totG]
  omega
theorem totG_take_le (gs : List Gr) (i : Nat) : totG (gs.take i) ≤ totG gs := by
  have := totG_app (gs.take i) (gs.drop i)
  rw [List.take_append_drop] at this
  omega
theorem totG_get {gs : List Gr} {i : Nat} {g : Gr} (h : gs[i]? = some g) : g.cells.length + totG (gs.take i) ≤ totG gs := by
  have h1 := totG_take_succ h
  have h2 := totG_take_le gs (i + 1)
  omega
theorem totG_len (gs : List Gr) : 2 * gs.length ≤ totG gs := by
  induction gs with
  | nil => simp [totG]
  | cons g gs ih => simp only [totG, List.length_cons]; omega
/-- A list split at a place. -/
theorem split_atL {α : Type} {xs : List α} {i : Nat} {x : α} (h : xs[i]? = some x) : xs = xs.take i ++ x :: xs.drop (i + 1) := by
  have hi := (List.getElem?_eq_some_iff.1 h).1
  have e : xs[i] = x := (List.getElem?_eq_some_iff.1 h).2
  rw [← e, ← List.drop_eq_getElem_cons hi, List.take_append_drop]
theorem get_midL {α : Type} {a b : List α} {x : α} {j : Nat} (h : a.length = j) : (a ++ x :: b)[j]? = some x := by
  subst h; simp
end Go.Proofs.YtbgngikejgihgagGreatDoor

namespace Go.Proofs.YtbgngikejgihgagGreatDoor
open Go Go.RowKit
set_option linter.unusedVariables false

set_option maxHeartbeats 1000000 in
set_option maxRecDepth 100000 in
theorem markGapSN (gs : List Gr) (vs : List Value) (v : Value) (lo hi : Nat) (k0 : Int) (w : World) (h : OwG 152 w lo hi v vs gs) (hn : totG gs ≤ 1073741824) (h0 : 0 ≤ k0) (h1 : k0 ≤ 1073741824) :
    Calls Tryz.prog 59 #[v, .int .i64 k0] w fun e w' => e = .returned (.int .i64 (k0 + totG gs)) ∧ OwG 152 w' lo hi v vs (mkG k0 gs) ∧ Kp lo hi w w' ∧ Kk 152 w w' := by
  have hlt := totG_len gs
  rcases h.row.2 with ⟨rfl, q0⟩ | ⟨g, cap, cur, rfl, gb, _, c1, c2, _⟩
  · have e : gs = [] := List.eq_nil_of_length_eq_zero q0
    subst e
    have H := hide h
    clear h
    go_enter Tryz.func59, Tryz.ntmps59
    go_wp2
    refine wp_loop_rounds 1 ?_
    rw [rounds_succ]
    go_wp2
    go_ret
    exact ⟨by simp [totG], H.out, Kp.refl _ _ _, Kk.refl _ _⟩
  · have gl := h.bl g rfl
    have H := hide h
    have GET := hide (fun (i : Nat) (hi : i < gs.length) => h.get hi)
    have LEN := hide h.len
    have TL := hide (fun (i : Nat) => totG_take_le gs i)
    unfold maxLen at c2
    obtain ⟨n, hN⟩ : ∃ n, n = gs.length := ⟨_, rfl⟩
    rw [← hN] at c1 hlt ⊢
    have HN := hide hN
    clear h hN
    go_enter Tryz.func59, Tryz.ntmps59
    go_wp2
    go_loopw [1, 5] (fun kk i wr => ∃ j : Nat, j ≤ n ∧ kk = .int .i64 (k0 + totG (gs.take j)) ∧ i = .int .i64 j ∧
        OwG 152 wr lo hi (.slice (some ⟨g, 0, none⟩) n cap) vs (mkG k0 (gs.take j) ++ gs.drop j) ∧ Kp lo hi w wr ∧ Kk 152 w wr)
      (fun _ i _ => n - (intOf i).toNat)
    case atStart => exact ⟨0, Nat.zero_le _, by simp [totG], rfl, by have := H.out; rw [← HN.out] at this; simpa [mkG] using this, Kp.refl _ _ _, Kk.refl _ _⟩
    case round =>
      obtain ⟨j, hj, rfl, rfl, hown, hk, hkk⟩ := hrel
      have tl := TL.out j
      by_cases hlt : j < n
      · obtain ⟨x, u, hx, hu⟩ := GET.out j (by rw [← HN.out]; exact hlt)
        have hjl : (mkG k0 (gs.take j)).length = j := by rw [mkG_len, List.length_take]; have := HN.out; omega
        have hvl : (vs.take j).length = (mkG k0 (gs.take j)).length := by rw [hjl, List.length_take, LEN.out]; have := HN.out; omega
        have hd : gs.drop j = x :: gs.drop (j + 1) := by
          have := (List.getElem?_eq_some_iff.1 hx)
          obtain ⟨a, b⟩ := this
          rw [← b, ← List.drop_eq_getElem_cons a]
        have hvs := split_atL hu
        rw [hd, hvs] at hown
        have ts := totG_get hx
        have tn := totG_take_succ hx
        have hl3 : (mkG k0 (gs.take j) ++ x :: gs.drop (j + 1)).length = n := by rw [← hd, List.length_append, hjl, List.length_drop]; have := HN.out; omega
        have ho := hown.inner (i := j) (x := x) (u := u) (get_midL hjl) (get_midL (hvl.trans hjl))
        have hc0 := (hown.cells hl3 (i := j) (x := x) (u := u) (get_midL hjl) (get_midL (hvl.trans hjl))).1
        obtain ⟨ai, ci, hu'⟩ := o32_val ho
        have M := hide (mark32 x.cells u lo x.cells.length (k0 + totG (gs.take j)) wr ho (by omega) (by omega) (by omega))
        have ST := hide (fun (w1 : World) ho1 hg1 => hown.put (w1 := w1) (l := marks .i32 (k0 + totG (gs.take j)) x.cells.length) hvl ho1 hg1 (by decide))
        have UB := hide (fun q (hq : u.ownBlock = some q) => (⟨(ho.lt q hq).1, hown.nest.bl u (by simp) q hq⟩ : lo ≤ q ∧ q < hi))
        have JL := hide hjl
        have VL := hide hvl
        have L3 := hide hl3
        have KP := hide hk
        have KK := hide hkk
        have HO := hide ho
        have HVS := hide hvs
        have HD := hide hx
        have GLEN := hide (show (mkG k0 (gs.take (j + 1))) = mkG k0 (gs.take j) ++ [⟨marks .i32 (k0 + totG (gs.take j)) x.cells.length, k0 + totG (gs.take j) + x.cells.length, k0 + totG (gs.take j) + x.cells.length + 1⟩] by
          rw [List.take_add_one, hx, Option.toList_some, mkG_app]
          simp [mkG])
        generalize hT : totG (gs.take j) = T at *
        generalize hX : x.cells.length = xn at *
        have tn' : ((totG (gs.take (j + 1)) : Nat) : Int) = (T : Int) + xn + 2 := by omega
        have hlt' : (j : Int) < n := by omega
        subst hu'
        clear hvs hd hown ho hvl hl3 hk hkk hx hu hjl
        go_wp2_with fail
        refine M.out.mono ?_
        rintro e w1 ⟨rfl, ho1, hg1⟩
        have S1 := ST.out w1 (by show World.ownsRow _ _ _ _ _ _ _; rw [marks_length]; exact ho1) hg1
        have K1 := hide (KP.out.trans (Kp.of_grown hg1 UB.out))
        have KK1 := hide (KK.out.trans (Kk.of_32 HO.out hg1))
        have s2 := S1.gap (k0 + T + xn) (k0 + T + xn + 1) (by have := L3.out; simpa using this) VL.out (by decide)
        have c := S1.cells (by have := L3.out; simpa using this) (i := j) (get_midL JL.out) (get_midL (VL.out.trans JL.out))
        rw [JL.out] at s2
        obtain ⟨_, p1, p2⟩ := c
        have z1 : w1.frozen? ⟨g, j * 3 + 1, none⟩ = false := (by have hr := S1.row; rw [show (mkG k0 (gs.take j) ++ (⟨marks .i32 (k0 + T) xn, x.lo, x.hi⟩ : Gr) :: gs.drop (j + 1)).length = n by have := L3.out; simpa using this] at hr; exact hr.frozenAt _)
        have z2 : w1.frozen? ⟨g, j * 3 + 2, none⟩ = false := (by have hr := S1.row; rw [show (mkG k0 (gs.take j) ++ (⟨marks .i32 (k0 + T) xn, x.lo, x.hi⟩ : Gr) :: gs.drop (j + 1)).length = n by have := L3.out; simpa using this] at hr; exact hr.frozenAt _)
        have S2 := hide s2.1
        have KK2 := hide (KK1.out.trans (Kk.of_row S1.row s2.2))
        have K2 := hide (K1.out.trans (Kp.of_grown s2.2 (fun q hq => by cases hq; exact ⟨gb, gl⟩)))
        clear ho1 hg1 S1 s2 K1 KP ST KK KK1 HO
        go_wp2
        go_roundw
        case rel =>
          refine ⟨j + 1, by omega, by rw [tn']; go_num, by go_num, ?_, K2.out, KK2.out⟩
          rw [GLEN.out, List.append_assoc]
          have := S2.out
          rw [← HVS.out] at this
          exact this
        case measure => simp [intOf]; omega
      · obtain rfl : j = n := by omega
        have e1 : gs.take j = gs := List.take_of_length_le (by have := HN.out; omega)
        have e2 : gs.drop j = [] := List.drop_of_length_le (by have := HN.out; omega)
        rw [e1, e2, List.append_nil] at hown
        rw [e1]
        have HS := hide hown
        have HK := hide hk
        have HKK := hide hkk
        clear hown hk hkk e1 e2
        go_wp2
        go_ret
        exact ⟨rfl, HS.out, HK.out, HKK.out⟩
end Go.Proofs.YtbgngikejgihgagGreatDoor
