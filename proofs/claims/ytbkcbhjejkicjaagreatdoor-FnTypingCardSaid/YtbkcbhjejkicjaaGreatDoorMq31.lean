import Derived.Test.YtbkcbhjejkicjaaGreatDoorMq30
import Derived.Shelf.SlicesE.Delete
import Derived.Lib.OwnBridge
import Derived.Deep.AppendLies
namespace Go.Proofs.YtbkcbhjejkicjaaGreatDoor
open Go Go.RowKit Go.Sort
set_option linter.unusedVariables false

/-- A table of marks at the head of a block. -/
def TbE (r : List Value) (tt : TypeId) (w : World) (tb : Nat) (v : Value) : Prop := w.heap[tb]? = some (.cells (v :: r).toArray tt (0, 0))
theorem TbE.c {r : List Value} {tt : TypeId} {w : World} {rb : Nat} {v : Value} (h : TbE r tt w rb v) : w.cell? ⟨rb, 0, none⟩ = some v := by rw [cell_of_row w rb 0 _ _ _ h]; rfl
theorem TbE.fz {r : List Value} {tt : TypeId} {w : World} {rb : Nat} {v : Value} (h : TbE r tt w rb v) : w.frozen? ⟨rb, 0, none⟩ = false := frozen_of_row w rb 0 _ _ h
theorem TbE.lt {r : List Value} {tt : TypeId} {w : World} {rb : Nat} {v : Value} (h : TbE r tt w rb v) : rb < w.heap.size := (Array.getElem?_eq_some_iff.1 h).1
theorem TbE.set {r : List Value} {tt : TypeId} {w : World} {rb : Nat} {v : Value} (h : TbE r tt w rb v) (v' : Value) : TbE r tt (w.setCell ⟨rb, 0, none⟩ v') rb v' := by
  unfold TbE at h ⊢; rw [heap_setCell_same w rb 0 _ _ _ h]; simp
theorem TbE.below {r : List Value} {tt : TypeId} {B : Nat} {w w' : World} {rb : Nat} {v : Value} (h : TbE r tt w rb v) (hb : Below B w w') (hB : rb < B) : TbE r tt w' rb v := (hb.block rb hB).trans h
theorem TbE.off {r : List Value} {tt : TypeId} {w : World} {rb base : Nat} {v u : Value} {xs : List Mk} (h : TbE r tt w rb v) (htt : tt ≠ 120) (ho : OwM w base u xs) (hq : u.ownBlock = some rb) : False := by
  rcases ho.2 with ⟨rfl, _⟩ | ⟨g, cap, cur, rfl, _, h2, _⟩
  · simp [Value.ownBlock] at hq
  · simp only [Value.ownBlock, Option.some.injEq] at hq
    subst hq
    unfold TbE at h
    rw [h2] at h
    simp only [Option.some.injEq, Obj.cells.injEq] at h
    exact htt h.2.1.symm

set_option maxHeartbeats 2000000 in
set_option maxRecDepth 100000 in
theorem moveMarksE (r : List Value) (tt : TypeId) (htt : tt ≠ 120) (tb g : Nat) (cb : Array Value) (f : Mk → Int) (xs : List Mk) (v : Value) (base : Nat) (w : World) (ht : TbE r tt w tb v) (h : OwM w base v xs) (hn : xs.length ≤ 4096) (hd : xs.Pairwise fun a b => a.1 ≠ b.1)
    (eg : ∀ args w, (callFunc g args).run Tryz.prog w = .ok (.enter g args) w) (hT : Tells g cb f xs w.heap.size w) :
    Calls Tryz.prog 143 #[.pointer (some ⟨tb, 0, none⟩), .func (.func g) #[] cb] w fun e w' => e = .returned (.tuple #[]) ∧ ∃ v' x, Below w.heap.size w x ∧ w' = x.setCell ⟨tb, 0, none⟩ v' ∧ TbE r tt w' tb v' ∧ OwM w' w.heap.size v' (srt (xs.map (mov f))) := by
  have hlt := ht.lt
  have c := ht.c
  have HC := hide (cloneML base xs v w h (by omega))
  have HTL := hide hT
  have hd2 : (xs.map (mov f)).Pairwise fun a b => a.1 ≠ b.1 := by rw [List.pairwise_map]; exact hd
  have HSO := hide (fun B v w h => sortFuncL B (xs.map (mov f)) v w h (by simpa using hn) hd2)
  obtain ⟨ao, cap, rfl⟩ := h.val
  have HT := hide ht
  generalize hN : xs.length = n at *
  have HNN := hide hN
  clear h ht hT hN hd hd2
  go_enter Tryz.func143, Tryz.ntmps143
  go_wp2_with fail
  refine HC.out.mono ?_
  rintro e w1 ⟨v1, rfl, ho1, hb1⟩
  have O1 := hide ho1
  have B1 := hide hb1
  have s1 := hb1.size
  have T1 := hide (HT.out.below hb1 hlt)
  rcases ho1.shape with ⟨rfl, hxe⟩ | ⟨gv, cv, rfl, hcv, hcm, hbg, hgl⟩
  · subst hxe
    have hn0 : n = 0 := by rw [← HNN.out]; rfl
    subst hn0
    have HS := hide (HSO.out _ _ _ (show OwM w1 w.heap.size (.slice none 0 0) (List.map (mov f) []) from World.ownsRow_nil _ _ _ _))
    have c1 := T1.out.c
    have f1 := T1.out.fz
    clear ho1 hb1
    go_wp2_with fail
    refine wp_loop_rounds 1 ?_
    rw [rounds_succ]
    go_wp2_with fail
    refine HS.out.mono ?_
    rintro e w2 ⟨rfl, ho2, hg2⟩
    have b2 : Below w1.heap.size w1 w2 := (Below.refl _ _).grown hg2 (Nat.le_refl _) (fun q hq => by cases hq)
    have T2 := hide (T1.out.below b2 T1.out.lt)
    have B2 := hide (B1.out.trans (b2.mono s1))
    have c2 := T2.out.c
    have f2 := T2.out.fz
    have O2 := hide ho2
    clear ho2 hg2 b2
    go_wp2
    go_end0
    refine ⟨rfl, _, _, B2.out, rfl, TbE.set T2.out _, ?_⟩
    exact World.ownsRow_nil _ _ _ _
  · rw [HNN.out] at hcv
    rw [HNN.out]
    unfold maxLen at hcm
    have htg : ¬ tb = gv := by omega
    clear ho1 hb1
    go_wp2_with fail
    go_loopw [14] (fun i wr => ∃ k : Nat, k ≤ n ∧ i = .int .i64 k ∧ wr.ownsRow w.heap.size 120 3 (.slice (some ⟨gv, 0, none⟩) n cv) n (mkVs ((xs.take k).map (mov f) ++ xs.drop k)) ∧ Below w.heap.size w wr) (fun i _ => n - (intOf i).toNat)
    case atStart => exact ⟨0, Nat.zero_le _, rfl, by have h9 := O1.out; unfold OwM at h9; rw [HNN.out] at h9; simpa using h9, B1.out⟩
    case round =>
      obtain ⟨k, hk, rfl, hown, hb⟩ := hrel
      have HB := hide hb
      have HOW := hide hown
      have hsz := hb.size
      have hgr : gv < wr.heap.size := (hown.lt gv rfl).2
      by_cases hlt2 : k < n
      · obtain ⟨x, hx⟩ : ∃ x, xs[k]? = some x := ⟨xs[k]'(by rw [HNN.out]; exact hlt2), by simp⟩
        have hgx : ((xs.take k).map (mov f) ++ xs.drop k)[k]? = some x := by
          rw [List.getElem?_append_right (by rw [List.length_map, List.length_take]; omega), List.length_map, List.length_take, HNN.out, Nat.min_eq_left hk, Nat.sub_self, List.getElem?_drop, Nat.add_zero, hx]
        have e0 : wr.cell? ⟨gv, k * 3, none⟩ = some (.int .i64 x.1) := by have h9 := hown.cellAt (k * 3) (by omega); rw [h9, ← Nat.add_zero (k * 3), mkVs_get _ k 0 x hgx (by omega)]; rfl
        have e1 : wr.cell? ⟨gv, k * 3 + 1, none⟩ = some (.int .i64 x.2.1) := by rw [hown.cellAt (k * 3 + 1) (by omega), mkVs_get _ k 1 x hgx (by omega)]; rfl
        have e2 : wr.cell? ⟨gv, k * 3 + 2, none⟩ = some (.int .i64 x.2.2) := by rw [hown.cellAt (k * 3 + 2) (by omega), mkVs_get _ k 2 x hgx (by omega)]; rfl
        have hlt3 : (k : Int) < n := by omega
        have BA := hide ((Below.refl wr.heap.size wr).alloc (Nat.le_refl _) (.cells #[.int .i64 x.1, .int .i64 x.2.1, .int .i64 x.2.2] 120))
        have sA : wr.heap.size ≤ (wr.alloc (.cells #[.int .i64 x.1, .int .i64 x.2.1, .int .i64 x.2.2] 120)).heap.size := by simp
        have HCL := hide (HTL.out _ x (List.mem_of_getElem? hx) (HB.out.trans (BA.out.mono hsz)))
        have HX := hide hx
        unfold mkA at HCL
        clear hb hown hgx hx
        go_wp2_with fail
        generalize wr.alloc (.cells #[.int .i64 x.1, .int .i64 x.2.1, .int .i64 x.2.2] 120) = wa at *
        refine HCL.out.mono ?_
        rintro e w2 ⟨rfl, hb2⟩
        have b2 : Below wr.heap.size wr w2 := BA.out.trans (hb2.mono sA)
        have hown2 := owns_below HOW.out b2 (Nat.le_refl _)
        have B2 := hide (HB.out.trans (b2.mono hsz))
        have s2 := b2.size
        obtain ⟨v1, k1⟩ := own_cell3 hown2 (k * 3 + 1) (by omega)
        have f1 : w2.frozen? ⟨gv, k * 3 + 1, none⟩ = false := hown2.frozenAt _
        have st := (hown2.stored (k * 3 + 1) (.int .i64 (f x))).1
        rw [movs_set f xs k x HX.out] at st
        have HS := hide st
        clear hb2 b2 hown2 st e0 e1 e2
        go_wp2
        go_roundw
        case rel => exact ⟨k + 1, by omega, by go_num, HS.out, B2.out.setCell (by show w.heap.size ≤ gv; omega) _⟩
        case measure => simp [intOf]; omega
      · obtain rfl : k = n := by omega
        have hge : ¬ (k : Int) < (k : Int) := by omega
        have O3 := hide (show OwM wr w.heap.size (.slice (some ⟨gv, 0, none⟩) k cv) (xs.map (mov f)) from (by
          have h9 := HOW.out
          rw [show xs.take k = xs by rw [← HNN.out]; exact List.take_length, List.drop_of_length_le (by rw [HNN.out]; omega), List.append_nil] at h9
          unfold OwM
          rw [List.length_map, HNN.out]
          exact h9))
        have T3 := hide (HT.out.below HB.out hlt)
        have HS := hide (HSO.out _ _ _ O3.out)
        clear hb hown
        go_wp2_with fail
        refine HS.out.mono ?_
        rintro e w4 ⟨rfl, ho4, hg4⟩
        have T4 := hide (show TbE r tt w4 tb _ from (hg4.block tb T3.out.lt (fun q => by simp only [Value.ownBlock, Option.some.injEq] at q; omega)).trans T3.out)
        have B4 := hide (HB.out.grown hg4 hsz (fun q hq => by simp only [Value.ownBlock, Option.some.injEq] at hq; omega))
        have c4 := T4.out.c
        have f4 := T4.out.fz
        have O4 := hide ho4
        clear ho4 hg4
        go_wp2
        go_end0
        refine ⟨rfl, _, _, B4.out, rfl, TbE.set T4.out _, ?_⟩
        refine owns_of_block O4.out fun q hq => heap_setCell_other _ _ _ _ (fun e => ?_)
        have e' : q = tb := e
        subst e'
        exact TbE.off T4.out htt O4.out hq

set_option maxHeartbeats 1000000 in
set_option maxRecDepth 100000 in
theorem pushMarksE (r : List Value) (tt : TypeId) (htt : tt ≠ 120) (tb : Nat) (off n : Int) (xs : List Mk) (v : Value) (base : Nat) (w : World) (ht : TbE r tt w tb v) (h : OwM w base v xs) (hv : Vd xs) (hn : 0 ≤ n ∧ n ≤ 8192) :
    Calls Tryz.prog 141 #[.pointer (some ⟨tb, 0, none⟩), .int .i64 off, .int .i64 n] w fun e w' => e = .returned (.tuple #[]) ∧ ∃ v' x, Below w.heap.size w x ∧ w' = x.setCell ⟨tb, 0, none⟩ v' ∧ TbE r tt w' tb v' ∧ OwM w' w.heap.size v' (srt (xs.map (mov (pushF off n)))) := by
  have hlt := ht.lt
  have B0 := hide (((Below.refl w.heap.size w).alloc (Nat.le_refl _) (.cells #[.int .i64 off] 3)).alloc (by simp) (.cells #[.int .i64 n] 3))
  have c1 : ((w.alloc (.cells #[.int .i64 off] 3)).alloc (.cells #[.int .i64 n] 3)).cell? ⟨w.heap.size, 0, none⟩ = some (.int .i64 off) := by
    rw [World.cell?_alloc_lt _ _ ⟨w.heap.size, 0, none⟩ (by simp), World.cell?_alloc_at _ _ _ _ rfl]; rfl
  have c2 : ((w.alloc (.cells #[.int .i64 off] 3)).alloc (.cells #[.int .i64 n] 3)).cell? ⟨w.heap.size + 1, 0, none⟩ = some (.int .i64 n) := by
    rw [World.cell?_alloc_at _ _ _ _ (by simp)]; rfl
  have hs0 : ((w.alloc (.cells #[.int .i64 off] 3)).alloc (.cells #[.int .i64 n] 3)).heap.size = w.heap.size + 2 := by simp
  have HM := hide (moveMarksE r tt htt tb 156 #[.pointer (some ⟨w.heap.size, 0, none⟩), .pointer (some ⟨w.heap.size + 1, 0, none⟩)] (pushF off n) xs v base _ (ht.below B0.out hlt) (h.below B0.out (Nat.le_refl _)) (by have := hv.1; omega) (hv.2.2.imp fun q => q.2) (Go.Proofs.enters_of Tryz.func156 (by kernel_rfl) rfl)
    (pushClos xs off n w.heap.size (w.heap.size + 1) _ _ (by omega) (by omega) c1 c2 (Nat.le_refl _) (fun x hx => by have := (hv.2.1 x hx).2; simpa [inO] using this) hn))
  clear h ht c1 c2
  go_enter Tryz.func141, Tryz.ntmps141
  go_wp2_with fail
  generalize (w.alloc (.cells #[.int .i64 off] 3)).alloc (.cells #[.int .i64 n] 3) = w0 at *
  refine HM.out.mono ?_
  rintro e w1 ⟨rfl, v1, x1, hb1, hw1, ht1, ho1⟩
  have T1 := hide ht1
  have O1 := hide (ho1.base (base' := w.heap.size) (by omega))
  have HB1 := hide hb1
  have HW1 := hide hw1
  clear ht1 ho1 hb1 hw1
  go_wp2
  go_end0
  exact ⟨rfl, v1, x1, B0.out.trans (HB1.out.mono (by omega)), HW1.out, T1.out, O1.out⟩

end Go.Proofs.YtbkcbhjejkicjaaGreatDoor

namespace Go.Proofs.YtbkcbhjejkicjaaGreatDoor
open Go Go.RowKit
set_option linter.unusedVariables false

/-- An edit that was made. -/
structure Rc where
  put : Bool
  off : Nat
  tx : List Int
  bef : List Mk
  aft : List Mk
/-- What a slot keeps. -/
structure Kpt where
  tx : List Int
  ms : List Mk
  dn : List (List Rc)
  ud : List (List Rc)
/-- An engine. -/
structure Ens where
  tx : List Int
  ms : List Mk
  dn : List (List Rc)
  ud : List (List Rc)
  lim : Nat
  opn : Bool
  cur : List Rc
  sl : List (Option Kpt)
  sp : Nat

section
variable {w w' : World} {Z Z' : Nat → Prop}
/-- Marks among what is never written. -/
def HM (w : World) (Z : Nat → Prop) (v : Value) (ms : List Mk) : Prop := OwM w 0 v ms ∧ ∀ q, v.ownBlock = some q → Z q
theorem HM.kept {v : Value} {ms : List Mk} (h : HM w Z v ms) (hk : Kz Z w w') (hz : ∀ q, Z q → Z' q) : HM w' Z' v ms :=
  ⟨owns_of_block h.1 (fun q hq => hk q (h.2 q hq)), fun q hq => hz q (h.2 q hq)⟩
theorem HM.nil : HM w Z (.slice none 0 0) [] := ⟨World.ownsRow_nil _ _ _ _, fun q hq => by simp [Value.ownBlock] at hq⟩
theorem HM.val {v : Value} {ms : List Mk} (h : HM w Z v ms) : ∃ ao cap, v = .slice ao ms.length cap := h.1.val
/-- A record's cells. -/
def HR (w : World) (Z : Nat → Prop) (xs : List Value) (r : Rc) : Prop := ∃ tv bv av, xs = [.int .i64 (if r.put then 1 else 2), .int .i64 r.off, tv, bv, av] ∧ HT w Z tv r.tx ∧ HM w Z bv r.bef ∧ HM w Z av r.aft
theorem HR.kept {xs : List Value} {r : Rc} (h : HR w Z xs r) (hk : Kz Z w w') (hs : w.heap.size ≤ w'.heap.size) (hz : ∀ q, Z q → Z' q) : HR w' Z' xs r := by
  obtain ⟨tv, bv, av, e, h1, h2, h3⟩ := h
  exact ⟨tv, bv, av, e, h1.kept hk hs hz, h2.kept hk hz, h3.kept hk hz⟩
def RR (w : World) (Z : Nat → Prop) : List Value → List Rc → Prop
  | xs, [] => xs = []
  | xs, r :: g => ∃ a b, xs = a ++ b ∧ HR w Z a r ∧ RR w Z b g
theorem RR.kept (hk : Kz Z w w') (hs : w.heap.size ≤ w'.heap.size) (hz : ∀ q, Z q → Z' q) : ∀ {xs : List Value} {g : List Rc}, RR w Z xs g → RR w' Z' xs g
  | _, [], h => h
  | _, _ :: _, ⟨a, b, e, h1, h2⟩ => ⟨a, b, e, h1.kept hk hs hz, RR.kept hk hs hz h2⟩
/-- A group on a stack. -/
def HG (w : World) (Z : Nat → Prop) (v : Value) (g : List Rc) : Prop := ∃ xs, w.ownsRow 0 218 5 v g.length xs ∧ RR w Z xs g ∧ ∀ q, v.ownBlock = some q → Z q
theorem HG.kept {v : Value} {g : List Rc} (h : HG w Z v g) (hk : Kz Z w w') (hs : w.heap.size ≤ w'.heap.size) (hz : ∀ q, Z q → Z' q) : HG w' Z' v g := by
  obtain ⟨xs, h1, h2, h3⟩ := h
  exact ⟨xs, owns_of_block h1 (fun q hq => hk q (h3 q hq)), h2.kept hk hs hz, fun q hq => hz q (h3 q hq)⟩
def GG (w : World) (Z : Nat → Prop) : List Value → List (List Rc) → Prop
  | [], [] => True
  | v :: vs, g :: gs => HG w Z v g ∧ GG w Z vs gs
  | _, _ => False
theorem GG.kept (hk : Kz Z w w') (hs : w.heap.size ≤ w'.heap.size) (hz : ∀ q, Z q → Z' q) : ∀ {vs : List Value} {gs : List (List Rc)}, GG w Z vs gs → GG w' Z' vs gs
  | [], [], _ => trivial
  | _ :: _, _ :: _, h => ⟨h.1.kept hk hs hz, GG.kept hk hs hz h.2⟩
  | [], _ :: _, h => h
  | _ :: _, [], h => h
theorem GG.len : ∀ {vs : List Value} {gs : List (List Rc)}, GG w Z vs gs → vs.length = gs.length
  | [], [], _ => rfl
  | _ :: _, _ :: _, h => by simp [GG.len h.2]
theorem GG.app : ∀ {vs us : List Value} {gs ks : List (List Rc)}, GG w Z vs gs → GG w Z us ks → GG w Z (vs ++ us) (gs ++ ks)
  | [], _, [], _, _, h => h
  | _ :: _, _, _ :: _, _, h, h2 => ⟨h.1, GG.app h.2 h2⟩
/-- A stack. -/
def SG (w : World) (Z : Nat → Prop) (v : Value) (gs : List (List Rc)) : Prop := ∃ vs, w.ownsRow 0 106 1 v gs.length vs ∧ GG w Z vs gs
theorem SG.kept {v : Value} {gs : List (List Rc)} (h : SG w Z v gs) (hb : ∀ q, v.ownBlock = some q → w'.heap[q]? = w.heap[q]?) (hk : Kz Z w w') (hs : w.heap.size ≤ w'.heap.size) (hz : ∀ q, Z q → Z' q) : SG w' Z' v gs := by
  obtain ⟨vs, h1, h2⟩ := h
  exact ⟨vs, owns_of_block h1 hb, h2.kept hk hs hz⟩
theorem SG.nil : SG w Z (.slice none 0 0) [] := ⟨[], World.ownsRow_nil _ _ _ _, trivial⟩
theorem SG.lt {v : Value} {gs : List (List Rc)} (h : SG w Z v gs) {q : Nat} (hq : v.ownBlock = some q) : q < w.heap.size := by
  obtain ⟨vs, h1, _⟩ := h
  exact (h1.lt q hq).2
/-- What a slot holds. -/
def HS (w : World) (Z : Nat → Prop) (v : Value) : Option Kpt → Prop
  | none => v = .pointer none
  | some k => ∃ p tv mv dv uv, v = .pointer (some ⟨p, 0, none⟩) ∧ Z p ∧ w.heap[p]? = some (.cells #[tv, mv, dv, uv] 233 (0, 0)) ∧ HT w Z tv k.tx ∧ HM w Z mv k.ms ∧ (SG w Z dv k.dn ∧ ∀ q, dv.ownBlock = some q → Z q) ∧ (SG w Z uv k.ud ∧ ∀ q, uv.ownBlock = some q → Z q)
theorem HS.kept {v : Value} : ∀ {k : Option Kpt}, HS w Z v k → Kz Z w w' → w.heap.size ≤ w'.heap.size → (∀ q, Z q → Z' q) → HS w' Z' v k
  | none, h, _, _, _ => h
  | some k, ⟨p, tv, mv, dv, uv, e, h1, h2, h3, h4, h5, h6⟩, hk, hs, hz => ⟨p, tv, mv, dv, uv, e, hz p h1, (hk p h1).trans h2, h3.kept hk hs hz, h4.kept hk hz, ⟨h5.1.kept (fun q hq => hk q (h5.2 q hq)) hk hs hz, fun q hq => hz q (h5.2 q hq)⟩, ⟨h6.1.kept (fun q hq => hk q (h6.2 q hq)) hk hs hz, fun q hq => hz q (h6.2 q hq)⟩⟩
end
/-- An engine's block. -/
def EBk (w : World) (E : Nat) (mv dv uv : Value) (lim : Int) (op : Bool) (cv tv : Value) (ss : List Value) (sp : Int) : Prop :=
  ∃ s0 s1 s2 s3 s4 s5 s6 s7, ss = [s0, s1, s2, s3, s4, s5, s6, s7] ∧ w.heap[E]? = some (.cells #[mv, dv, uv, .int .i64 lim, .bool op, cv, tv, s0, s1, s2, s3, s4, s5, s6, s7, .int .i64 sp] 112 (0, 0))
/-- The memory of an engine over a core: F is what it never writes, Z what nobody writes any more. -/
structure EM (K : Core) (w : World) (Z F : Nat → Prop) (E c n : Nat) (mv dv uv cv : Value) (ss : List Value) (FC : Nat → Prop) (M : Ens) : Prop where
  blk : EBk w E mv dv uv M.lim M.opn cv (.iface K.ty (.pointer (some ⟨c, 0, none⟩))) ss M.sp
  ms : HM w Z mv M.ms
  dn : SG w Z dv M.dn
  ud : SG w Z uv M.ud
  cu : M.opn = true → ∃ xs, w.ownsRow 0 218 5 cv M.cur.length xs ∧ RR w Z xs M.cur ∧ ∀ q, cv.ownBlock = some q → ¬ F q
  cvs : ∃ a l k, cv = .slice a l k
  sl : ss.length = 8 ∧ M.sl.length = 8 ∧ ∀ (i : Nat) v k, ss[i]? = some v → M.sl[i]? = some k → HS w Z v k
  cr : K.Cr w Z FC c n M.tx
  n : n ≤ 8192 + M.sp
  sp : M.sp ≤ 200000
  lm : 1 ≤ M.lim ∧ M.lim ≤ 1000
  ln : M.dn.length ≤ 1000 ∧ M.ud.length ≤ 1000
  vd : Vd M.ms ∧ ∀ x ∈ M.ms, x.2.1 ≤ M.tx.length
  zf : ∀ q, Z q → F q
  ff : ∀ q, F q → FC q
  fl : ∀ q, FC q → q < w.heap.size
  fe : FC E ∧ ¬ F E
  fd : ∀ q, dv.ownBlock = some q → FC q ∧ ¬ F q
  fu : ∀ q, uv.ownBlock = some q → FC q ∧ ¬ F q ∧ dv.ownBlock ≠ some q
  fc : M.opn = true → ∀ q, cv.ownBlock = some q → FC q ∧ ¬ F q
end Go.Proofs.YtbkcbhjejkicjaaGreatDoor

namespace Go.Proofs.YtbkcbhjejkicjaaGreatDoor
open Go Go.RowKit
set_option linter.unusedVariables false

set_option maxHeartbeats 1000000 in
theorem roomG (h m l : Int) (w : World) (h0 : 0 ≤ h) (h1 : h ≤ 1048576) (hl : 0 ≤ l ∧ l ≤ 1048576) :
    Calls Tryz.prog 131 #[.int .i64 h, .int .i64 m, .int .i64 l] w fun e w' => e = .returned (errV (decide (h ≤ l ∧ m ≤ l - h)) 10) ∧ w' = w := by
  by_cases a : h ≤ l
  · by_cases b : m ≤ l - h
    · rw [show decide (h ≤ l ∧ m ≤ l - h) = true by rw [decide_eq_true_eq]; exact ⟨a, b⟩]
      have a' : ¬ l < h := by omega
      have b' : ¬ l - h < m := by omega
      go_enter Tryz.func131, Tryz.ntmps131
      go_wp2
      go_ret
      exact ⟨rfl, rfl⟩
    · rw [show decide (h ≤ l ∧ m ≤ l - h) = false by rw [decide_eq_false_iff_not]; exact fun x => b x.2]
      have a' : ¬ l < h := by omega
      have b' : l - h < m := by omega
      go_enter Tryz.func131, Tryz.ntmps131
      go_wp2
      go_ret
      exact ⟨rfl, rfl⟩
  · rw [show decide (h ≤ l ∧ m ≤ l - h) = false by rw [decide_eq_false_iff_not]; exact fun x => a x.1]
    have a' : l < h := by omega
    go_enter Tryz.func131, Tryz.ntmps131
    go_wp2
    go_ret
    exact ⟨rfl, rfl⟩
set_option maxHeartbeats 1000000 in
theorem checkPutG (a n l : Int) (w : World) (h0 : 0 ≤ l) (h1 : l ≤ 1048576) :
    Calls Tryz.prog 103 #[.int .i64 a, .int .i64 n, .int .i64 l] w fun e w' => e = .returned (if 0 ≤ a ∧ a ≤ l then errV (decide (l ≤ 8192 ∧ n ≤ 8192 - l)) 10 else errV false 2) ∧ w' = w := by
  have HB := hide (boundsI a 0 l 2 w)
  have HR := hide (roomG l n 8192 w h0 h1 (by omega))
  generalize decide (l ≤ 8192 ∧ n ≤ 8192 - l) = rr at *
  by_cases h : 0 ≤ a ∧ a ≤ l
  · rw [if_pos h]
    rw [show decide (0 ≤ a ∧ a ≤ l) = true by rw [decide_eq_true_eq]; exact h] at HB
    have e1 : errV true 2 = .nilIface := rfl
    rw [e1] at HB
    generalize errV rr 10 = ev at *
    clear h
    go_enter Tryz.func103, Tryz.ntmps103
    go_wp2_with fail
    refine HB.out.mono ?_
    rintro e w1 ⟨rfl, rfl⟩
    go_wp2_with fail
    refine HR.out.mono ?_
    rintro e w2 ⟨rfl, rfl⟩
    go_wp2
    go_ret
    exact ⟨rfl, rfl⟩
  · rw [if_neg h]
    rw [show decide (0 ≤ a ∧ a ≤ l) = false by rw [decide_eq_false_iff_not]; exact h] at HB
    clear h HR
    unfold errV at HB ⊢
    go_enter Tryz.func103, Tryz.ntmps103
    go_wp2_with fail
    refine HB.out.mono ?_
    rintro e w1 ⟨rfl, rfl⟩
    go_wp2
    go_ret
    exact ⟨rfl, rfl⟩
set_option maxHeartbeats 1000000 in
theorem spendG (E : Nat) (sp n : Int) (w : World) (h : w.cell? ⟨E, 15, none⟩ = some (.int .i64 sp)) (hf : w.frozen? ⟨E, 15, none⟩ = false) (h0 : 0 ≤ sp ∧ sp ≤ 200000) (hn : 0 ≤ n ∧ n ≤ 200000 - sp) :
    Calls Tryz.prog 104 #[.pointer (some ⟨E, 0, none⟩), .int .i64 n] w fun e w' => e = .returned .nilIface ∧ w' = w.setCell ⟨E, 15, none⟩ (.int .i64 (sp + n)) := by
  have HR := hide (roomG sp n 200000 w h0.1 (by omega) (by omega))
  rw [show decide (sp ≤ 200000 ∧ n ≤ 200000 - sp) = true by rw [decide_eq_true_eq]; omega, show errV true 10 = .nilIface from rfl] at HR
  go_enter Tryz.func104, Tryz.ntmps104
  go_wp2_with fail
  refine HR.out.mono ?_
  rintro e w1 ⟨rfl, rfl⟩
  go_wp2
  go_ret
  exact ⟨rfl, rfl⟩
theorem bA {w x : World} (h : Below w.heap.size w x) (o : Obj) : Below w.heap.size w (x.alloc o) := h.alloc h.size o
def mIns : Value := .func (.methodOf 73 "loop.example/s01685/impl.insert") #[] #[]
def mRem : Value := .func (.methodOf 73 "loop.example/s01685/impl.remove") #[] #[]
def fPush : Value := .func (.func 141) #[] #[]
def fPull : Value := .func (.func 142) #[] #[]
theorem Tryz.stF (ad : Addr) (m : Mode) (fn : Fn) (x y : Array Value) (W : World) : (store ad (.func fn x y) m).run Tryz.prog W = stored Tryz.prog W ad (.func fn x y) m := run_store Tryz.prog W ad (.func fn x y) m rfl
theorem Tryz.stN (ad : Addr) (m : Mode) (W : World) : (store ad .nilFunc m).run Tryz.prog W = stored Tryz.prog W ad .nilFunc m := run_store Tryz.prog W ad .nilFunc m rfl
set_option maxHeartbeats 2000000 in
set_option maxRecDepth 100000 in
theorem course1 (off : Int) (a1 a2 a3 : Option Addr) (l1 l2 l3 k1 k2 k3 : Nat) (w : World) :
    Calls Tryz.prog 116 #[.agg #[.int .i64 1, .int .i64 off, .slice a1 l1 k1, .slice a2 l2 k2, .slice a3 l3 k3]] w fun e w' => e = .returned (.agg #[mIns, fPush, mRem, fPull]) ∧ Below w.heap.size w w' := by
  have hsf := Tryz.stF
  have hsn := Tryz.stN
  unfold mIns mRem fPush fPull
  go_enter Tryz.func116, Tryz.ntmps116
  go_wp2
  refine bodyPost_ret (v := .agg #[mIns, fPush, mRem, fPull]) (by simp [results, Tryz.results116, go_sem, mIns, fPush, mRem, fPull]) rfl ⟨rfl, ?_⟩
  exact bA (bA (bA (bA (bA (Below.refl _ _) _) _) _) _) _
end Go.Proofs.YtbkcbhjejkicjaaGreatDoor

namespace Go.Proofs.YtbkcbhjejkicjaaGreatDoor
open Go Go.RowKit Go.Shelf Go.Sort Go.Lib
set_option linter.unusedVariables false

abbrev SV := Option Addr × Nat × Nat
def encS (x : SV) : Value := .slice x.1 x.2.1 x.2.2
theorem enc_of : ∀ {vs : List Value}, (∀ v ∈ vs, ∃ a l k, v = .slice a l k) → ∃ zs : List SV, zs.map encS = vs
  | [], _ => ⟨[], rfl⟩
  | v :: vs, h => by
    obtain ⟨a, l, k, rfl⟩ := h v (by simp)
    obtain ⟨zs, rfl⟩ := enc_of (vs := vs) (fun u hu => h u (by simp [hu]))
    exact ⟨(a, l, k) :: zs, rfl⟩
theorem Tryz.infoGRP : (Tryz.prog.info? 106).map (fun i => (i.zero, i.size, i.bytes)) = some (some (.slice none 0 0), 1, 24) := by kernel_rfl
set_option maxHeartbeats 1000000 in
theorem delN (base g n cap : Nat) (vs : List Value) (w : World) (h : w.ownsRow base 106 1 (.slice (some ⟨g, 0, none⟩) n cap) n vs) (hs : ∀ v ∈ vs, ∃ a l k, v = .slice a l k) (hn : 1 ≤ n) :
    Calls Tryz.prog 161 #[.slice (some ⟨g, 0, none⟩) n cap, .int .i64 0, .int .i64 1] w fun e w' => e = .returned (.slice (some ⟨g, 0, none⟩) (n - 1) cap) ∧ w'.ownsRow base 106 1 (.slice (some ⟨g, 0, none⟩) (n - 1) cap) (n - 1) (vs.drop 1) ∧ ChgP w w' (fun q => q = g) := by
  obtain ⟨zs, rfl⟩ := enc_of hs
  obtain ⟨g', cap', e, h1, h2, h3, h4, h5, hH⟩ := holds_of_ownsRow h (by intro e; cases e)
  simp only [Value.slice.injEq, Option.some.injEq, Addr.mk.injEq, and_true, true_and] at e
  obtain ⟨rfl, rfl⟩ := e
  obtain ⟨i0, hi0, hz0, hz1, hz2⟩ := info_parts Tryz.infoGRP
  have hc := AnyE.slices_Delete Tryz.delG encS (fun x => rfl) (none, 0, 0) (fun w => by kernel_rfl) i0 hi0 hz1 g 0 cap 0 1 zs.toArray w hH (by simp; omega) (by unfold maxLen at h4; exact h4) (by omega) (by simp; omega)
  simp only [List.size_toArray, h5] at hc
  refine hc.mono ?_
  rintro e w' ⟨rfl, q, rfl⟩
  refine ⟨rfl, ?_, rfl, rfl, rfl, ?_, fun k hk hn => ?_⟩
  · have h9 := ownsRow_putRow (q := q) (k := n - 1) (ys := zs.drop 1 ++ [((none, 0, 0) : SV)]) h (by simp; omega) (by omega)
    rw [List.take_append_of_le_length (by simp; omega), List.take_of_length_le (by simp; omega)] at h9
    simp only [List.map_drop] at h9
    simpa using h9
  · simp [putRow, mapBlock, Sort.ahead]
  · simp [putRow, mapBlock, Sort.ahead, Array.getElem?_modify, show g ≠ k from fun e => hn e.symm]
end Go.Proofs.YtbkcbhjejkicjaaGreatDoor

namespace Go.Proofs.YtbkcbhjejkicjaaGreatDoor
open Go Go.RowKit
set_option linter.unusedVariables false

/-- An engine's block, cell by cell. -/
def EB16 (w : World) (E : Nat) (mv dv uv : Value) (lim : Int) (op : Bool) (cv tv s0 s1 s2 s3 s4 s5 s6 s7 : Value) (sp : Int) : Prop :=
  w.heap[E]? = some (.cells #[mv, dv, uv, .int .i64 lim, .bool op, cv, tv, s0, s1, s2, s3, s4, s5, s6, s7, .int .i64 sp] 112 (0, 0))
section
variable {w w' : World} {E : Nat} {mv dv uv : Value} {lim : Int} {op : Bool} {cv tv s0 s1 s2 s3 s4 s5 s6 s7 : Value} {sp : Int}
theorem EB16.c (h : EB16 w E mv dv uv lim op cv tv s0 s1 s2 s3 s4 s5 s6 s7 sp) : w.cell? ⟨E, 0, none⟩ = some mv ∧ w.cell? ⟨E, 1, none⟩ = some dv ∧ w.cell? ⟨E, 2, none⟩ = some uv ∧ w.cell? ⟨E, 3, none⟩ = some (.int .i64 lim) ∧ w.cell? ⟨E, 4, none⟩ = some (.bool op) ∧ w.cell? ⟨E, 5, none⟩ = some cv ∧ w.cell? ⟨E, 6, none⟩ = some tv ∧ w.cell? ⟨E, 15, none⟩ = some (.int .i64 sp) := by
  refine ⟨?_, ?_, ?_, ?_, ?_, ?_, ?_, ?_⟩ <;> rw [cell_of_row _ _ _ _ _ _ h] <;> rfl
theorem EB16.f (h : EB16 w E mv dv uv lim op cv tv s0 s1 s2 s3 s4 s5 s6 s7 sp) (j : Nat) : w.frozen? ⟨E, j, none⟩ = false := frozen_of_row w E j _ _ h
theorem EB16.lt (h : EB16 w E mv dv uv lim op cv tv s0 s1 s2 s3 s4 s5 s6 s7 sp) : E < w.heap.size := (Array.getElem?_eq_some_iff.1 h).1
theorem EB16.same (h : EB16 w E mv dv uv lim op cv tv s0 s1 s2 s3 s4 s5 s6 s7 sp) (e : w'.heap[E]? = w.heap[E]?) : EB16 w' E mv dv uv lim op cv tv s0 s1 s2 s3 s4 s5 s6 s7 sp := e.trans h
theorem EB16.set1 (h : EB16 w E mv dv uv lim op cv tv s0 s1 s2 s3 s4 s5 s6 s7 sp) (v : Value) : EB16 (w.setCell ⟨E, 1, none⟩ v) E mv v uv lim op cv tv s0 s1 s2 s3 s4 s5 s6 s7 sp := by unfold EB16; rw [heap_setCell_same w E 1 _ _ _ h]; rfl
theorem EB16.set2 (h : EB16 w E mv dv uv lim op cv tv s0 s1 s2 s3 s4 s5 s6 s7 sp) (v : Value) : EB16 (w.setCell ⟨E, 2, none⟩ v) E mv dv v lim op cv tv s0 s1 s2 s3 s4 s5 s6 s7 sp := by unfold EB16; rw [heap_setCell_same w E 2 _ _ _ h]; rfl
theorem EB16.set15 (h : EB16 w E mv dv uv lim op cv tv s0 s1 s2 s3 s4 s5 s6 s7 sp) (v : Int) : EB16 (w.setCell ⟨E, 15, none⟩ (.int .i64 v)) E mv dv uv lim op cv tv s0 s1 s2 s3 s4 s5 s6 s7 v := by unfold EB16; rw [heap_setCell_same w E 15 _ _ _ h]; rfl
/-- A row of another type lies elsewhere. -/
theorem EB16.off {base : Nat} {t : TypeId} {size n : Nat} {v : Value} {xs : List Value} (h : EB16 w E mv dv uv lim op cv tv s0 s1 s2 s3 s4 s5 s6 s7 sp) (ho : w.ownsRow base t size v n xs) (ht : t ≠ 112) {q : Nat} (hq : v.ownBlock = some q) : q ≠ E := by
  rintro rfl
  rcases ho.2 with ⟨rfl, _⟩ | ⟨g, cap, cur, rfl, _, h2, _⟩
  · simp [Value.ownBlock] at hq
  · simp only [Value.ownBlock, Option.some.injEq] at hq
    subst hq
    unfold EB16 at h
    rw [h2] at h
    simp only [Option.some.injEq, Obj.cells.injEq] at h
    exact ht h.2.1
end
/-- A stack's groups behind one more. -/
def pushV (lim : Nat) (vs : List Value) (g : Value) : List Value := if lim < vs.length + 1 then (vs ++ [g]).drop 1 else vs ++ [g]
def PushPost (w : World) (E : Nat) (mv dv uv : Value) (lim : Int) (op : Bool) (cv tv s0 s1 s2 s3 s4 s5 s6 s7 : Value) (sp : Int) (vs' : List Value) (w' : World) : Prop :=
  ∃ dv', w'.ownsRow 0 106 1 dv' vs'.length vs' ∧ EB16 w' E mv dv' uv lim op cv tv s0 s1 s2 s3 s4 s5 s6 s7 sp ∧ ChgP w w' (fun q => q = E ∨ dv.ownBlock = some q) ∧ ∀ q, dv'.ownBlock = some q → dv.ownBlock = some q ∨ w.heap.size ≤ q
set_option maxHeartbeats 4000000 in
set_option maxRecDepth 100000 in
theorem pushG (E lim : Nat) (mv dv uv : Value) (op : Bool) (cv tv s0 s1 s2 s3 s4 s5 s6 s7 : Value) (sp : Int) (vs : List Value) (ga : Option Addr) (gl gk : Nat) (w : World) (h : EB16 w E mv dv uv lim op cv tv s0 s1 s2 s3 s4 s5 s6 s7 sp) (hd : w.ownsRow 0 106 1 dv vs.length vs) (hs : ∀ v ∈ vs, ∃ a l k, v = .slice a l k) (hn : vs.length ≤ 1000) (hl : lim ≤ 1000) :
    Calls Tryz.prog 145 #[.pointer (some ⟨E, 1, none⟩), .slice ga gl gk] w fun e w' => e = .returned (.tuple #[]) ∧ PushPost w E mv dv uv lim op cv tv s0 s1 s2 s3 s4 s5 s6 s7 sp (pushV lim vs (.slice ga gl gk)) w' := by
  obtain ⟨i0, hi0, hz0, hz1, hz2⟩ := info_parts Tryz.infoGRP
  have H := hide h
  have HD := hide hd
  have HS := hide (show ∀ v ∈ vs ++ [Value.slice ga gl gk], ∃ a l k, v = .slice a l k from fun v hv => by
    rcases List.mem_append.1 hv with h9 | h9
    · exact hs v h9
    · simp at h9; exact ⟨_, _, _, h9⟩)
  obtain ⟨da, dk, rfl⟩ : ∃ a k, dv = .slice a vs.length k := by
    rcases hd.2 with ⟨e, e0⟩ | ⟨g, cap, cur, e, _⟩
    · exact ⟨none, 0, by rw [e, e0]⟩
    · exact ⟨_, _, e⟩
  obtain ⟨c0, c1, c2, c3, _⟩ := h.c
  have f1 := h.f 1
  have hE := h.lt
  have HP := hide (show (if lim < vs.length + 1 then (vs ++ [Value.slice ga gl gk]).drop 1 else vs ++ [Value.slice ga gl gk]) = pushV lim vs (.slice ga gl gk) from rfl)
  have HL := hide (show (vs ++ [Value.slice ga gl gk]).length = vs.length + 1 by simp)
  have OFF := hide (fun q hq => h.off hd (by decide) (q := q) hq)
  generalize hN : vs.length = n at *
  have NC := hide (newcells w 106 [.slice ga gl gk])
  have BA := hide ((Below.refl w.heap.size w).alloc (Nat.le_refl _) (.cells #[.slice ga gl gk] 106))
  generalize hV : pushV lim vs (.slice ga gl gk) = V at *
  clear h hd hs hN hV
  have hgE : ∀ q, (Value.slice da n dk).ownBlock = some q → E ≠ q := fun q hq e => OFF.out q hq e.symm
  have sA : w.heap.size + 1 = (w.alloc (.cells #[.slice ga gl gk] 106)).heap.size := by simp
  go_enter Tryz.func145, Tryz.ntmps145
  go_wp2_with (at_builtin; refine wpList_append_lies _ rfl _ _ 102 rfl 0 106 i0 (.slice none 0 0) 1 24 Tryz.underlying102 hi0 hz0 hz1 hz2 rfl (by decide) (.slice da n dk) n vs rfl (HD.out.alloc _) ⟨w.heap.size, 0, none⟩ 1 1 [.slice ga gl gk] rfl rfl NC.out (by simp [Value.oneCell']) (by omega) (by unfold maxLen; omega) (by omega) (Nat.zero_le _) _ rfl ?_; intro g cp w1 hown hgr hgq hgl; have E1 := hide (show EB16 w1 E mv (.slice da n dk) uv lim op cv tv s0 s1 s2 s3 s4 s5 s6 s7 sp from (hgr.block E (by omega) (fun e => hgE E e.symm rfl)).trans ((BA.out.block E hE).trans H.out)); have d1 := E1.out.c.2.1; have z1 := E1.out.f 1)
  have G1 := hide hgr
  have O1 := hide hown
  have C1 := hide (show ChgP w w1 (fun q => q = E ∨ (Value.slice da n dk).ownBlock = some q) from ((ChgP.reflS w _).allocS _).grownS hgr (fun q hq => .inl (.inr hq)))
  have Q1 := hide (show (Value.slice da n dk).ownBlock = some g ∨ w.heap.size ≤ g from hgq.imp id (fun e => by omega))
  have hgne : g ≠ E := by
    rcases Q1.out with h9 | h9
    · exact fun e => hgE g h9 e.symm
    · omega
  have E2 := hide (E1.out.set1 (.slice (some ⟨g, 0, none⟩) (n + 1) cp))
  have C2 := hide (C1.out.setS ⟨E, 1, none⟩ (.slice (some ⟨g, 0, none⟩) (n + 1) cp) (.inl (.inl rfl)))
  have O2 := hide (show (w1.setCell ⟨E, 1, none⟩ (.slice (some ⟨g, 0, none⟩) (n + 1) cp)).ownsRow 0 106 1 (.slice (some ⟨g, 0, none⟩) (n + 1) cp) (n + 1) (vs ++ [.slice ga gl gk]) from owns_of_block hown (fun q hq => heap_setCell_other w1 ⟨E, 1, none⟩ q _ (by simp only [Value.ownBlock, Option.some.injEq] at hq; subst hq; exact hgne)))
  obtain ⟨e0, e1, e2, e3, _⟩ := E2.out.c
  have y1 := E2.out.f 1
  clear hown hgr hgq G1 O1 E1 C1 H HD NC BA OFF c0 c1 c2 c3 f1 sA d1 z1
  generalize w1.setCell ⟨E, 1, none⟩ (.slice (some ⟨g, 0, none⟩) (n + 1) cp) = w2 at *
  by_cases hlt : lim < n + 1
  · have hlt' : (lim : Int) < (n : Int) + 1 := by omega
    have hVV : (vs ++ [Value.slice ga gl gk]).drop 1 = V := by have h9 := HP.out; rw [if_pos hlt] at h9; exact h9
    have HV := hide hVV
    have DL := hide (fun (W : World) (hW : W.heap = w2.heap) => delN 0 g (n + 1) cp (vs ++ [.slice ga gl gk]) W (owns_of_block O2.out (fun q _ => by rw [hW])) HS.out (by omega))
    clear hVV
    go_quiet (fail)
    go_wp2_with fail
    refine (DL.out _ (by exact rfl)).mono ?_
    rintro e w3 ⟨rfl, ho3, hc3⟩
    have C3 := hide (show ChgP w w3 (fun q => q = E ∨ (Value.slice da n dk).ownBlock = some q) from (C2.out.sameS (y := w2.drewN nq) rfl rfl rfl rfl).transS hc3 (fun q hq => by
      subst hq
      rcases Q1.out with h9 | h9
      · exact .inl (.inr h9)
      · exact .inr h9))
    have E3 := hide (show EB16 w3 E mv (.slice (some ⟨g, 0, none⟩) (n + 1) cp) uv lim op cv tv s0 s1 s2 s3 s4 s5 s6 s7 sp from (hc3.block E E2.out.lt (fun e => hgne e.symm)).trans E2.out)
    have O3 := hide ho3
    have k1 := E3.out.c.2.1
    have x1 := E3.out.f 1
    clear ho3 hc3
    go_wp2
    go_end0
    have hll : V.length = n + 1 - 1 := by rw [← HV.out, List.length_drop, HL.out]
    refine ⟨rfl, .slice (some ⟨g, 0, none⟩) (n + 1 - 1) cp, ?_, E3.out.set1 _, C3.out.setS ⟨E, 1, none⟩ _ (.inl (.inl rfl)), fun q hq => ?_⟩
    · rw [hll, ← HV.out]
      exact owns_of_block O3.out (fun q hq => heap_setCell_other w3 ⟨E, 1, none⟩ q _ (by simp only [Value.ownBlock, Option.some.injEq] at hq; subst hq; exact hgne))
    · simp only [Value.ownBlock, Option.some.injEq] at hq; subst hq; exact Q1.out
  · have hlt' : ¬ (lim : Int) < (n : Int) + 1 := by omega
    have hVV : vs ++ [Value.slice ga gl gk] = V := by have h9 := HP.out; rw [if_neg hlt] at h9; exact h9
    have HV := hide hVV
    clear hVV
    go_quiet (fail)
    go_wp2
    go_end0
    refine ⟨rfl, .slice (some ⟨g, 0, none⟩) (n + 1) cp, ?_, E2.out, C2.out.sameS (y := w2.drewN nq) rfl rfl rfl rfl, fun q hq => ?_⟩
    · rw [← HV.out, HL.out]
      exact O2.out
    · simp only [Value.ownBlock, Option.some.injEq] at hq; subst hq; exact Q1.out
end Go.Proofs.YtbkcbhjejkicjaaGreatDoor

