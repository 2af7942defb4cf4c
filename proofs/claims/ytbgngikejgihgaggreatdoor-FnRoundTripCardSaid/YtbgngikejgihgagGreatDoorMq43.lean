import Derived.Test.YtbgngikejgihgagGreatDoorMq42
import Derived.Test.YtbgngikejgihgagGreatDoorMq03
import Derived.Laws.AppendOwnNone
import Derived.Lib.Hide
import Derived.Test.YtbgngikejgihgagGreatDoorMq05
import Derived.Test.YtbgngikejgihgagGreatDoorMq12
import Derived.Test.YtbgngikejgihgagGreatDoorMq11
namespace Go.Proofs.YtbgngikejgihgagGreatDoor
open Go Go.RowKit
set_option linter.unusedVariables false

/-- The tree over a stretch of pieces, halved again and again. -/
def midT : Nat → List Pc → AT
  | 0, _ => .nil
  | f + 1, ps => match ps[ps.length / 2]? with
    | none => .nil
    | some p => .node (midT f (ps.take (ps.length / 2))) p (midT f (ps.drop (ps.length / 2 + 1)))
theorem midT_nil (f : Nat) : midT f [] = .nil := by cases f <;> simp [midT]
theorem midT_some {f : Nat} {ps : List Pc} {p : Pc} (h : ps[ps.length / 2]? = some p) : midT (f + 1) ps = .node (midT f (ps.take (ps.length / 2))) p (midT f (ps.drop (ps.length / 2 + 1))) := by
  simp only [midT, h]
theorem midT_flat : ∀ (f : Nat) (ps : List Pc), ps.length ≤ f → (midT f ps).flat = ps
  | 0, ps, h => by
    obtain rfl : ps = [] := List.eq_nil_of_length_eq_zero (by omega)
    rfl
  | f + 1, ps, h => by
    rcases Nat.eq_zero_or_pos ps.length with h0 | h0
    · obtain rfl : ps = [] := List.eq_nil_of_length_eq_zero h0
      rw [midT_nil]; rfl
    · have hl : ps.length / 2 < ps.length := by omega
      have hp : ps[ps.length / 2]? = some ps[ps.length / 2] := List.getElem?_eq_getElem hl
      rw [midT_some hp]
      show (midT f _).flat ++ _ :: (midT f _).flat = ps
      rw [midT_flat f _ (by rw [List.length_take]; omega), midT_flat f _ (by rw [List.length_drop]; omega)]
      rw [← List.drop_eq_getElem_cons hl, List.take_append_drop]

theorem RdP.cutL {B b o cap : Nat} {w : World} {ps : List Pc} (h : RdP B w (.slice (some ⟨b, o, none⟩) ps.length cap) ps) (m : Nat) (hm : m ≤ ps.length) : RdP B w (.slice (some ⟨b, o, none⟩) m cap) (ps.take m) := by
  have hl : (ps.take m).length = m := by rw [List.length_take]; omega
  rcases Nat.eq_zero_or_pos m with h0 | h0
  · subst h0; exact .inl ⟨_, _, rfl, by simp⟩
  · rcases h with ⟨_, _, e1, e2⟩ | ⟨b', o', c', e1, hp, hb, hc⟩
    · rw [e2] at hm; simp at hm; omega
    · simp only [Value.slice.injEq, Option.some.injEq, Addr.mk.injEq, and_true] at e1
      obtain ⟨⟨rfl, rfl⟩, _, rfl⟩ := e1
      refine .inr ⟨b, o, cap, by rw [hl], ⟨by omega, by omega, hp.2.2⟩, hb, fun i q hq => hc i q ?_⟩
      rw [List.getElem?_take] at hq
      split at hq
      · exact hq
      · cases hq
theorem RdP.cutR {B b o cap : Nat} {w : World} {ps : List Pc} {ao : Option Addr} (h : RdP B w (.slice (some ⟨b, o, none⟩) ps.length cap) ps) (m : Nat) (hm : m ≤ ps.length) (ha : m < ps.length → ao = some ⟨b, o + m * 3, none⟩) : RdP B w (.slice ao (ps.length - m) (cap - m)) (ps.drop m) := by
  have hl : (ps.drop m).length = ps.length - m := by rw [List.length_drop]
  rcases Nat.eq_or_lt_of_le hm with h0 | h0
  · refine .inl ⟨ao, cap - m, by rw [h0, Nat.sub_self], List.drop_eq_nil_of_le (by omega)⟩
  · rcases h with ⟨_, _, e1, e2⟩ | ⟨b', o', c', e1, hp, hb, hc⟩
    · rw [e2] at h0; simp at h0
    · simp only [Value.slice.injEq, Option.some.injEq, Addr.mk.injEq, and_true] at e1
      obtain ⟨⟨rfl, rfl⟩, _, rfl⟩ := e1
      refine .inr ⟨b, o + m * 3, cap - m, by rw [hl, ha h0], ⟨by omega, by omega, by omega⟩, hb, fun i q hq => ?_⟩
      rw [List.getElem?_drop] at hq
      have := hc (m + i) q hq
      rw [show o + m * 3 + i * 3 = o + (m + i) * 3 by omega]
      exact this
end Go.Proofs.YtbgngikejgihgagGreatDoor

namespace Go.Proofs.YtbgngikejgihgagGreatDoor
open Go Go.RowKit
set_option linter.unusedVariables false

theorem ownI_app {W : World} {base : Nat} {v : Value} {E F : List It} {n m : Nat} (hn : E.length = n) (hm : F.length = m) (h : W.ownsRow base 145 4 v (n + m) (itVs E ++ itVs F)) : OwI W base v (E ++ F) := by
  subst hn hm; unfold OwI; rw [List.length_append, itVs_append]; exact h
theorem midT_len (f : Nat) (ps : List Pc) (h : ps.length ≤ f) (d : Int) : ((midT f ps).told d).length = ps.length := by
  rw [AT.told_length, ← AT.flat_length, midT_flat f ps h]

set_option maxHeartbeats 4000000 in
set_option maxRecDepth 100000 in
theorem middleL : ∀ (f : Nat) (ps : List Pc) (B : Nat) (v : Value) (lv : Int) (w : World), ps.length ≤ f → RdP B w v ps → B ≤ w.heap.size → ps.length ≤ 8192 → (0 ≤ lv ∧ lv + f ≤ 100000) →
    Calls Tryz.prog 143 #[v, .int .i64 lv] w fun e w' => ∃ v', e = .returned v' ∧ OwI w' w.heap.size v' ((midT f ps).told lv) ∧ Below w.heap.size w w' := by
  intro f
  induction f with
  | zero =>
    intro ps B v lv w hf hr hB hn hlv
    obtain rfl : ps = [] := List.eq_nil_of_length_eq_zero (by omega)
    obtain ⟨ao, cap, rfl⟩ : ∃ ao cap, v = .slice ao 0 cap := by
      rcases hr with ⟨ao, cap, rfl, _⟩ | ⟨_, _, _, _, hp, _⟩
      · exact ⟨_, _, rfl⟩
      · simp at hp
    go_enter Tryz.func143, Tryz.ntmps143
    go_wp2
    go_ret
    exact ⟨_, rfl, World.ownsRow_nil _ _ _ _, Below.refl _ _⟩
  | succ f ih =>
    intro ps B v lv w hf hr hB hn hlv
    have IH := hide ih
    clear ih
    obtain ⟨i0, hi, hz0, hz1, hz2⟩ := info_parts Tryz.infoIT
    rcases hr with ⟨ao, cap, rfl, rfl⟩ | ⟨b, o, cap, rfl, hp, hb, hc⟩
    · rw [midT_nil]
      go_enter Tryz.func143, Tryz.ntmps143
      go_wp2
      go_ret
      exact ⟨_, rfl, World.ownsRow_nil _ _ _ _, Below.refl _ _⟩
    · have HR := hide (show RdP B w (.slice (some ⟨b, o, none⟩) ps.length cap) ps from .inr ⟨b, o, cap, rfl, hp, hb, hc⟩)
      have hml : ps.length / 2 < ps.length := by omega
      obtain ⟨p, hpp⟩ : ∃ p, ps[ps.length / 2]? = some p := ⟨_, List.getElem?_eq_getElem hml⟩
      obtain ⟨a0, a1, a2⟩ := hc _ p hpp
      have HT := hide (midT_some (f := f) hpp)
      generalize midT (f + 1) ps = TT at HT ⊢
      unfold maxLen at hp
      obtain ⟨m, hm⟩ : ∃ m, m = ps.length / 2 := ⟨_, rfl⟩
      rw [← hm] at hml a0 a1 a2 HT
      obtain ⟨n, hN⟩ : ∃ n, n = ps.length := ⟨_, rfl⟩
      have hdiv : (n : Int) / 2 = (m : Int) := by rw [hm, hN]; omega
      have hn0 : ((n : Int) == 0) = false := by simp; omega
      rw [← hN] at hp hml hn hf
      rw [← hN]
      have HNN := hide hN
      have L1 := hide (HR.out.cutL m (by rw [← hN]; omega))
      obtain ⟨aR, haR⟩ : ∃ aR, aR = (if cap = m + 1 then some (⟨b, o, none⟩ : Addr) else some ⟨b, o + (m + 1) * 3, none⟩) := ⟨_, rfl⟩
      have R1 := hide (show RdP B w (.slice aR (n - (m + 1)) (cap - (m + 1))) (ps.drop (m + 1)) from (by
        have h9 := HR.out.cutR (m + 1) (ao := aR) (by rw [← hN]; omega) (fun h8 => by rw [← hN] at h8; rw [haR, if_neg (by omega)])
        rw [← hN] at h9; exact h9))
      have lL : (ps.take m).length = m := by rw [List.length_take, ← hN]; omega
      have lR : (ps.drop (m + 1)).length = n - (m + 1) := by rw [List.length_drop, ← hN]
      have LL := hide (midT_len f (ps.take m) (by omega) (lv + 1))
      have LR := hide (midT_len f (ps.drop (m + 1)) (by omega) (lv + 1))
      rw [lL] at LL
      rw [lR] at LR
      have HTD := hide (show TT.told lv = (midT f (ps.take m)).told (lv + 1) ++ ⟨p, lv⟩ :: (midT f (ps.drop (m + 1))).told (lv + 1) from (by rw [HT.out]; rfl))
      generalize TT.told lv = res at HTD ⊢
      have I1 := hide (IH.out (ps.take m) B (.slice (some ⟨b, o, none⟩) m cap) (lv + 1) w (by omega) L1.out hB (by omega) (by omega))
      by_cases hck : cap = m + 1
      case' pos =>
        have hnm : n = m + 1 := by omega
        have hdrop : ps.drop (m + 1) = [] := List.drop_eq_nil_of_le (by omega)
        have I2 := hide (fun W (hb2 : Below w.heap.size w W) (hW : B ≤ W.heap.size) => IH.out (ps.drop (m + 1)) B (.slice (some ⟨b, o, none⟩) 0 0) (lv + 1) W (by omega) (.inl ⟨_, _, rfl, hdrop⟩) hW (by omega) (by omega))
        have hdiv2 : ((m : Int) + 1) / 2 = (m : Int) := by omega
        clear hdrop R1 haR HR L1 hm hN lL lR hdiv
        subst hnm
        subst hck
      case' neg =>
        rw [if_neg hck] at haR
        subst haR
        have I2 := hide (fun W (hb2 : Below w.heap.size w W) (hW : B ≤ W.heap.size) => IH.out (ps.drop (m + 1)) B (.slice (some ⟨b, o + (m + 1) * 3, none⟩) (n - (m + 1)) (cap - (m + 1))) (lv + 1) W (by omega) (R1.out.below hb2 hB) hW (by omega) (by omega))
        clear R1 HR L1 hm hN lL lR
      all_goals
        generalize (midT f (ps.take m)).told (lv + 1) = tl at *
        generalize (midT f (ps.drop (m + 1))).told (lv + 1) = tr at *
        clear HT hc hpp
        go_enter Tryz.func143, Tryz.ntmps143
        go_wp2_with fail
        refine I1.out.mono ?_
        rintro e w1 ⟨v1, rfl, ho1, hb1⟩
        have B1 := hide hb1
        have z1 := hb1.size
        have e0 := (hb1.cell (p := ⟨b, o + m * 3, none⟩) (by show b < w.heap.size; omega)).trans a0
        have e1 := (hb1.cell (p := ⟨b, o + m * 3 + 1, none⟩) (by show b < w.heap.size; omega)).trans a1
        have e2 := (hb1.cell (p := ⟨b, o + m * 3 + 2, none⟩) (by show b < w.heap.size; omega)).trans a2
        have O1 := hide ho1
        have OA1 := hide (show (w1.alloc (.cells #[.int .i64 p.off, .int .i64 p.len, .int .i64 p.brk, .int .i64 lv] 145)).ownsRow w.heap.size 145 4 v1 m (itVs tl) from (by have h9 := O1.out; unfold OwI at h9; rw [LL.out] at h9; exact World.ownsRow.alloc h9 _))
        have NC := hide (newcells w1 145 [.int .i64 p.off, .int .i64 p.len, .int .i64 p.brk, .int .i64 lv])
        clear ho1 hb1 I1
        go_wp2_with (at_builtin; refine wpList_append_own _ rfl _ _ 65 rfl w.heap.size 145 i0 (.agg #[.int .i64 0, .int .i64 0, .int .i64 0, .int .i64 0]) 4 32 Tryz.underlying65 hi hz0 hz1 hz2 rfl (by decide) v1 m (itVs tl) rfl (by exact OA1.out) ⟨w1.heap.size, 0, none⟩ 1 1 [.int .i64 p.off, .int .i64 p.len, .int .i64 p.brk, .int .i64 lv] rfl rfl (by exact NC.out) (by intro u hu; simp at hu; rcases hu with rfl | rfl | rfl | rfl <;> rfl) (by unfold maxLen; omega) (by omega) (by first | omega | (simp; omega)) ?_; intro v2 w2 hoN hgN hnil; refine Hid.out ?_)
        refine Lib.hid ?_
        have O2 := hide (show OwI w2 w.heap.size v2 (tl ++ [⟨p, lv⟩]) from ownI_app (F := [⟨p, lv⟩]) LL.out rfl hoN)
        have B2 := hide ((B1.out.alloc z1 (.cells #[.int .i64 p.off, .int .i64 p.len, .int .i64 p.brk, .int .i64 lv] 145)).grown hgN (by simp; omega) (fun q hq => (O1.out.lt q hq).1))
        have z2 := B2.out.size
        have l2 : (tl ++ [(⟨p, lv⟩ : It)]).length = m + 1 := by rw [List.length_append, LL.out]; rfl
        have HL2 := hide l2
        clear hoN hgN hnil NC OA1 O1 B1 e0 e1 e2 l2
        go_wp2_with fail
        refine (I2.out w2 (B2.out) (by omega)).mono ?_
        rintro e w3 ⟨v3, rfl, ho3, hb3⟩
        have O3 := hide (show OwI w3 _ v3 tr from ho3)
        have P3 := hide (owns_below O2.out hb3 (Nat.le_refl _))
        have B3 := hide (B2.out.trans (hb3.mono z2))
        have z3 := B3.out.size
        have PA3 := hide (show w3.ownsRow w.heap.size 145 4 v2 (m + 1) (itVs (tl ++ [⟨p, lv⟩])) from (by have h9 := P3.out; rw [HL2.out] at h9; exact h9))
        clear hb3 O2 B2
        rcases OwI.shape ho3 with ⟨rfl, rfl⟩ | ⟨g3, c3, rfl, hc3, hm3, hg3, hl3⟩
        · clear ho3
          go_wp2_with (at_builtin; refine wpList_append_own_none rfl _ _ 65 rfl w.heap.size 145 i0 4 Tryz.underlying65 hi _ _ _ rfl (by exact PA3.out) rfl ?_)
          go_ret
          refine ⟨v2, rfl, ?_, B3.out⟩
          rw [HTD.out]
          exact P3.out
        · have LR3 := hide LR.out
          have SC := hide (OwI.cells O3.out)
          have hlr : tr.length ≤ 8192 := by rw [LR3.out]; omega
          clear ho3
          generalize hq3 : tr.length = q3 at *
          have HQ3 := hide hq3
          clear hq3
          go_wp2_with (at_builtin; refine wpList_append_own _ rfl _ _ 65 rfl w.heap.size 145 i0 (.agg #[.int .i64 0, .int .i64 0, .int .i64 0, .int .i64 0]) 4 32 Tryz.underlying65 hi hz0 hz1 hz2 rfl (by decide) v2 (m + 1) (itVs (tl ++ [⟨p, lv⟩])) rfl (by exact PA3.out) ⟨g3, 0, none⟩ q3 c3 (itVs tr) rfl (by rw [itVs_length, HQ3.out]) (by exact SC.out) (itVs_one tr) (by unfold maxLen; omega) (by omega) (by first | omega | (simp; omega)) ?_; intro v4 w4 hoN hgN hnil; refine Hid.out ?_)
          refine Lib.hid ?_
          have O4 := hide (show OwI w4 w.heap.size v4 (tl ++ [⟨p, lv⟩] ++ tr) from ownI_app HL2.out HQ3.out hoN)
          have B4 := hide (B3.out.grown hgN (by omega) (fun q hq => (P3.out.lt q hq).1))
          clear hoN hgN hnil
          go_wp2
          go_ret
          refine ⟨v4, rfl, ?_, B4.out⟩
          rw [HTD.out, show tl ++ ⟨p, lv⟩ :: tr = tl ++ [⟨p, lv⟩] ++ tr by simp]
          exact O4.out
end Go.Proofs.YtbgngikejgihgagGreatDoor

namespace Go.Proofs.YtbgngikejgihgagGreatDoor
open Go Go.RowKit
set_option linter.unusedVariables false

/-- How long chunk i is. -/
def cln (n i : Nat) : Nat := min 16 (n - 16 * i)
/-- Chunk i of a text. -/
def chP (zs : List Int) (i : Nat) : Pc := ⟨((16 * i : Nat) : Int), ((cln zs.length i : Nat) : Int), brk ((zs.drop (16 * i)).take (cln zs.length i))⟩
def chs (zs : List Int) (j : Nat) : List Pc := (List.range j).map (chP zs)
theorem chs_length (zs : List Int) (j : Nat) : (chs zs j).length = j := by simp [chs]
theorem chs_succ (zs : List Int) (j : Nat) : chs zs (j + 1) = chs zs j ++ [chP zs j] := by simp [chs, List.range_succ]
theorem Tryz.info32P : (Tryz.prog.info? 21).map (fun i => (i.zero, i.size, i.bytes)) = some (some (.int .i32 0), 1, 4) := by kernel_rfl
end Go.Proofs.YtbgngikejgihgagGreatDoor

namespace Go.Proofs.YtbgngikejgihgagGreatDoor
open Go Go.RowKit
set_option linter.unusedVariables false

/-- The tree of a loaded text. -/
def ldT (zs : List Int) : AT := midT 8192 (chs zs ((zs.length + 15) / 16))
theorem own32_cells {w : World} {base g cap : Nat} {zs : List Int} (h : own32 w base (.slice (some ⟨g, 0, none⟩) zs.length cap) zs) : ∀ i, i < zs.length → w.cell? ⟨g, 0 + i, none⟩ = some (.int .i32 (zs.getD i 0)) := by
  intro i hi
  have h1 := h.cellAt i (by omega)
  rw [Nat.zero_add, h1]
  simp [ints, List.getD_eq_getElem?_getD, hi]

theorem ownP_app3 {W : World} {base : Nat} {v : Value} {E F : List Pc} {n m : Nat} (hn : E.length = n) (hm : F.length = m) (h : W.ownsRow base 143 3 v (n + m) (pcCs E ++ pcCs F)) : OwP W base v (E ++ F) := by
  subst hn hm; unfold OwP; rw [List.length_append, pcCs_append]; exact h

theorem own_emptyQ (W : World) : OwP (W.alloc (.cells #[] 143)) W.heap.size (.slice (some ⟨W.heap.size, 0, none⟩) 0 0) [] :=
  ⟨rfl, .inr ⟨_, 0, #[], rfl, Nat.le_refl _, heap_alloc_new _ _, Nat.le_refl _, by unfold maxLen; omega, rfl, rfl⟩⟩
theorem chP_cells (zs : List Int) (j : Nat) (l : Int) (hl : l = (cln zs.length j : Nat)) : pcCs [chP zs j] = [.int .i64 (16 * (j : Int)), .int .i64 l, .int .i64 (brk ((zs.drop (16 * (j : Int)).toNat).take l.toNat))] := by
  have h1 : (16 * (j : Int)).toNat = 16 * j := by omega
  have h2 : l.toNat = cln zs.length j := by omega
  rw [h1, h2, hl]
  simp [pcCs, pcC, chP]

set_option maxHeartbeats 4000000 in
set_option maxRecDepth 100000 in
theorem specLoad (base : Nat) (zs : List Int) (b cap : Nat) (w : World) (h : own32 w base (.slice (some ⟨b, 0, none⟩) zs.length cap) zs) (hn : zs.length ≤ 8192) :
    Calls Tryz.prog 88 #[.slice (some ⟨b, 0, none⟩) zs.length cap] w fun e w' => ∃ vs vi, e = .returned (.tuple #[.agg #[vs, vi], .int .i64 0]) ∧ own32 w' w.heap.size vs zs ∧ OwI w' w.heap.size vi ((ldT zs).told 0) ∧ Below w.heap.size w w' ∧ ∃ g n c, vs = .slice (some ⟨g, 0, none⟩) n c := by
  obtain ⟨i0, hi, hz0, hz1, hz2⟩ := info_parts Tryz.info32P
  obtain ⟨j0, hjP, hy0, hy1, hy2⟩ := info_parts Tryz.infoPC
  have hbl := (h.lt b rfl).2
  have A0 := hide (((Below.refl w.heap.size w).alloc (Nat.le_refl _) (.cells #[.slice none 0 0, .slice none 0 0] 69)).alloc (by simp) (.cells #[] 21))
  have K0 : ((w.alloc (.cells #[.slice none 0 0, .slice none 0 0] 69)).alloc (.cells #[] 21)).heap[w.heap.size]? = some (.cells #[.slice none 0 0, .slice none 0 0] 69 (0, 0)) := by
    rw [Below.heap_alloc _ _ _ (by simp)]; exact heap_alloc_new _ _
  have E0 : ((w.alloc (.cells #[.slice none 0 0, .slice none 0 0] 69)).alloc (.cells #[] 21)).ownsRow (w.heap.size + 1) 21 1 (.slice (some ⟨w.heap.size + 1, 0, none⟩) 0 0) 0 [] := by
    refine ⟨rfl, .inr ⟨_, 0, #[], rfl, Nat.le_refl _, ?_, Nat.le_refl _, by unfold maxLen; omega, rfl, rfl⟩⟩
    have := heap_alloc_new (w.alloc (.cells #[.slice none 0 0, .slice none 0 0] 69)) (.cells #[] 21)
    simpa using this
  have HE0 := hide E0
  have HK0 := hide K0
  have S0 := hide (owns_below h A0.out (Nat.le_refl _))
  have C0 := hide (fun (j : Nat) (u : Value) (hj : (ints .i32 zs)[j]? = some u) => S0.out.cells (g := b) rfl j u hj)
  have hs0 : w.heap.size + 1 < ((w.alloc (.cells #[.slice none 0 0, .slice none 0 0] 69)).alloc (.cells #[] 21)).heap.size := by simp
  have hgt : ¬ (8192 : Int) < (zs.length : Int) := by omega
  obtain ⟨n, hN⟩ : ∃ n, n = zs.length := ⟨_, rfl⟩
  have HNN := hide hN
  rw [← hN] at hn hgt
  rw [← hN]
  clear h E0 K0 hN
  go_enter Tryz.func88, Tryz.ntmps88
  go_upto_region 3 with fail
  go_wp2_with (at_builtin; refine wpList_append_own _ rfl _ _ 36 rfl (w.heap.size + 1) 21 i0 (.int .i32 0) 1 4 Tryz.underlying36 hi hz0 hz1 hz2 rfl (by decide) (.slice (some ⟨w.heap.size + 1, 0, none⟩) 0 0) 0 [] rfl (by exact HE0.out) ⟨b, 0, none⟩ n cap (ints .i32 zs) rfl (by rw [ints_length, ← HNN.out]; omega) (by exact C0.out) (ints_one .i32 zs) (by unfold maxLen; omega) (by omega) (by simp) ?_; intro v2 w2 hoN hgN hnil; refine Hid.out ?_)
  refine Lib.hid ?_
  have O2 := hide (show own32 w2 (w.heap.size + 1) v2 zs from (by have h9 := hoN; unfold own32; rw [← HNN.out]; rw [Nat.zero_add, List.nil_append] at h9; exact h9))
  have B2' := hide ((Below.refl (w.heap.size + 1) _).grown hgN (by omega) (fun q hq => (HE0.out.lt q hq).1))
  have B2 := hide (A0.out.trans (B2'.out.mono (by omega)))
  have K2 := hide ((B2'.out.block w.heap.size (by omega)).trans HK0.out)
  have z2 : w.heap.size + 1 < w2.heap.size := by have := B2'.out.size; omega
  have NN2 := hide (show ¬ v2 = .slice none 0 0 from fun e => absurd (hnil.1 e).1 (by simp))
  clear hoN hgN hnil HE0 HK0 S0 C0 A0 B2'
  obtain ⟨g, c, rfl, hgc, hgm⟩ : ∃ g c, v2 = .slice (some ⟨g, 0, none⟩) n c ∧ n ≤ c ∧ c ≤ maxLen := by
    rcases O2.out.2 with ⟨hbad, _⟩ | ⟨g, c, cur, h1, _, _, h4, h5, _⟩
    · exact absurd hbad NN2.out
    · rw [← HNN.out] at h1 h4; exact ⟨g, c, h1, h4, h5⟩
  have hgl : g < w2.heap.size := (O2.out.lt g rfl).2
  have SC := hide (show ∀ i, i < n → w2.cell? ⟨g, 0 + i, none⟩ = some (.int .i32 (zs.getD i 0)) from fun i hi => own32_cells (base := w.heap.size + 1) (cap := c) (by rw [← HNN.out]; exact O2.out) i (by rw [← HNN.out]; exact hi))
  have E3 := hide (own_emptyQ w2)
  have D3 := hide ((Below.refl w2.heap.size w2).alloc (Nat.le_refl _) (.cells #[] 143))
  clear NN2
  go_wp2_with fail
  generalize w2.alloc (.cells #[] 143) = w3 at *
  generalize (Value.slice (some ⟨w2.heap.size, 0, none⟩) 0 0) = v3 at *
  have SPI := hide (fun k l W hc hb hk hkl h0 => specPieceI zs g 0 c k l W hc hb hk hkl h0 (by rw [← HNN.out]; exact hgc) hgm (by rw [← HNN.out]; omega))
  simp only [← HNN.out] at SPI
  unfold maxLen at hgm
  go_loopw [5, 6] (fun pv ov wr => ∃ j : Nat, ov = .int .i64 (16 * (j : Int)) ∧ 16 * j < n + 16 ∧ OwP wr w2.heap.size pv (chs zs j) ∧ Below w2.heap.size w2 wr) (fun _ ov _ => n + 16 - (intOf ov).toNat)
  case atStart => exact ⟨0, by first | rfl | go_num, by omega, E3.out, D3.out⟩
  case round =>
    obtain ⟨j, rfl, hjn, hop, hbw⟩ := hrel
    have HOP := hide hop
    have HBW := hide hbw
    have hsw := hbw.size
    clear hop
    by_cases hj : 16 * j < n
    · have hj' : 16 * (j : Int) < (n : Int) := by omega
      have SCr := hide (fun i hi => (hbw.cell (p := ⟨g, 0 + i, none⟩) hgl).trans (SC.out i hi))
      clear hbw
      by_cases hbig : (16 : Int) < (n : Int) - 16 * (j : Int)
      case' pos =>
        obtain ⟨l, hl⟩ : ∃ l : Int, l = 16 := ⟨_, rfl⟩
        have hlc : l = ((cln n j : Nat) : Int) := by unfold cln; omega
        have SP := hide (SPI.out (16 * (j : Int)) 16 wr SCr.out (by omega) (by omega) (by omega) (by omega))
      case' neg =>
        obtain ⟨l, hl⟩ : ∃ l : Int, l = (n : Int) - 16 * (j : Int) := ⟨_, rfl⟩
        have hlc : l = ((cln n j : Nat) : Int) := by unfold cln; omega
        have SP := hide (SPI.out (16 * (j : Int)) ((n : Int) - 16 * (j : Int)) wr SCr.out (by omega) (by omega) (by omega) (by omega))
      all_goals
        have CE := hide (chP_cells zs j l (by rw [← HNN.out]; exact hlc))
        rw [hl] at CE
        clear hl hlc SCr
        generalize brk _ = br at SP CE
        go_wp2_with fail
        refine SP.out.mono ?_
        rintro e x1 ⟨rfl, hb1⟩
        have B1 := hide (HBW.out.trans (hb1.mono hsw))
        have z1 := B1.out.size
        have O1 := hide (owns_below HOP.out hb1 (Nat.le_refl _))
        have OA := hide (fun o => show (x1.alloc o).ownsRow w2.heap.size 143 3 _ j (pcCs (chs zs j)) from (by have h9 := O1.out; rw [chs_length] at h9; exact World.ownsRow.alloc h9 _))
        have NC := hide (fun ns => newcells x1 143 ns)
        have hj2 : j ≤ 8192 := by omega
        clear hb1
        go_wp2_with (at_builtin; refine wpList_append_own _ rfl _ _ 221 rfl w2.heap.size 143 j0 (.agg #[.int .i64 0, .int .i64 0, .int .i64 0]) 3 24 Tryz.underlying221 hjP hy0 hy1 hy2 rfl (by decide) _ j (pcCs (chs zs j)) rfl (by exact OA.out _) ⟨x1.heap.size, 0, none⟩ 1 1 (pcCs [chP zs j]) rfl (by rw [CE.out]; rfl) (by rw [CE.out]; exact NC.out _) (by rw [CE.out]; intro u hu; simp at hu; rcases hu with rfl | rfl | rfl <;> rfl) (by unfold maxLen; omega) (by omega) (by simp; omega) ?_; intro v4 x2 hoN hgN hnil; refine Hid.out ?_)
        refine Lib.hid ?_
        have O4 := hide (show OwP x2 w2.heap.size v4 (chs zs (j + 1)) from (by rw [chs_succ]; exact ownP_app3 (chs_length zs j) rfl hoN))
        have B4 := hide ((B1.out.alloc z1 _).grown hgN (by simp; omega) (fun q hq => (O1.out.lt q hq).1))
        clear hoN hgN hnil
        go_wp2
        go_roundw
        case rel => exact ⟨j + 1, by first | rfl | go_num | (congr 1; omega), by omega, O4.out, B4.out⟩
        case measure => simp [intOf]; omega
    · have hj' : ¬ 16 * (j : Int) < (n : Int) := by omega
      have hjj : j = (n + 15) / 16 := by omega
      have HJ := hide hjj
      have O2r := hide (owns_below O2.out hbw (Nat.le_refl _))
      have Kr := hide ((hbw.block w.heap.size (by omega)).trans K2.out)
      have Br := hide (B2.out.trans (hbw.mono (by omega)))
      have M5 := hide (middleL 8192 (chs zs j) _ _ 0 _ (by rw [chs_length]; omega) (OwP.rd HOP.out) (Nat.le_refl _) (by rw [chs_length]; omega) (by omega))
      clear hjj hbw
      go_wp2_with fail
      refine M5.out.mono ?_
      rintro e x5 ⟨v5, rfl, ho5, hb5⟩
      obtain ⟨a5, n5, c5, rfl⟩ := own_sl ho5
      have O5 := hide ho5
      have S5 := hide (owns_below O2r.out hb5 (Nat.le_refl _))
      have K5 := hide ((hb5.block w.heap.size (by omega)).trans Kr.out)
      have B5 := hide (Br.out.trans (hb5.mono (by omega)))
      have c0 : x5.cell? ⟨w.heap.size, 0, none⟩ = some (.slice none 0 0) := by rw [cell_of_row x5 _ 0 _ _ _ K5.out]; rfl
      have c1 : x5.cell? ⟨w.heap.size, 1, none⟩ = some (.slice none 0 0) := by rw [cell_of_row x5 _ 1 _ _ _ K5.out]; rfl
      have f0 := frozen_of_row x5 w.heap.size 0 _ _ K5.out
      have f1 := frozen_of_row x5 w.heap.size 1 _ _ K5.out
      have hw5 : w.heap.size < x5.heap.size := by have := hb5.size; omega
      clear ho5 hb5 M5
      go_wp2
      refine bodyPost_ret (v := .tuple #[.agg #[.slice (some ⟨g, 0, none⟩) n c, .slice a5 n5 c5], .int .i64 0]) (by simp [results, Tryz.results88, go_sem, c0, c1]) rfl ⟨_, _, rfl, ?_, ?_, ?_, ⟨_, _, _, rfl⟩⟩
      · refine owns_of_block (owns_base S5.out (by omega)) (fun q hq => ?_)
        have hne : q ≠ w.heap.size := fun e => own_off2 S5.out K5.out (by decide) (by rw [hq, e])
        rw [heap_setCell_other _ _ _ _ hne, heap_setCell_other _ _ _ _ hne]
      · have hE : (ldT zs).told 0 = (midT 8192 (chs zs j)).told 0 := by unfold ldT; rw [← HNN.out, HJ.out]
        rw [hE]
        refine owns_of_block (owns_base O5.out (by omega)) (fun q hq => ?_)
        have hne : q ≠ w.heap.size := fun e => own_off2 O5.out K5.out (by decide) (by rw [hq, e])
        rw [heap_setCell_other _ _ _ _ hne, heap_setCell_other _ _ _ _ hne]
      · exact (B5.out.setCell (by simp) _).setCell (by simp) _
end Go.Proofs.YtbgngikejgihgagGreatDoor

namespace Go.Proofs.YtbgngikejgihgagGreatDoor
open Go Go.RowKit
set_option linter.unusedVariables false

theorem midT_ht : ∀ (f : Nat) (ps : List Pc), ps.length ≤ f → (midT f ps).bal ∧ ps.length < 2 ^ (midT f ps).ht ∧ ((midT f ps).ht = 0 ∨ 2 ^ ((midT f ps).ht - 1) ≤ ps.length)
  | 0, ps, h => by
    obtain rfl : ps = [] := List.eq_nil_of_length_eq_zero (by omega)
    exact ⟨trivial, by simp [midT, AT.ht], .inl rfl⟩
  | f + 1, ps, h => by
    rcases Nat.eq_zero_or_pos ps.length with h0 | h0
    · obtain rfl : ps = [] := List.eq_nil_of_length_eq_zero h0
      rw [midT_nil]
      exact ⟨trivial, by simp [AT.ht], .inl rfl⟩
    · have hl : ps.length / 2 < ps.length := by omega
      have hp : ps[ps.length / 2]? = some ps[ps.length / 2] := List.getElem?_eq_getElem hl
      have l1 : (ps.take (ps.length / 2)).length = ps.length / 2 := by rw [List.length_take]; omega
      have l2 : (ps.drop (ps.length / 2 + 1)).length = ps.length - (ps.length / 2 + 1) := by rw [List.length_drop]
      obtain ⟨a1, a2, a3⟩ := midT_ht f (ps.take (ps.length / 2)) (by omega)
      obtain ⟨b1, b2, b3⟩ := midT_ht f (ps.drop (ps.length / 2 + 1)) (by omega)
      rw [midT_some hp]
      rw [l1] at a2 a3
      rw [l2] at b2 b3
      generalize (midT f (ps.take (ps.length / 2))) = A at *
      generalize (midT f (ps.drop (ps.length / 2 + 1))) = B at *
      have c1 : B.ht ≤ A.ht := by
        rcases b3 with b3 | b3
        · omega
        · rcases Nat.lt_or_ge A.ht B.ht with q | q
          · have := Nat.pow_le_pow_right (show 0 < 2 by omega) (show A.ht ≤ B.ht - 1 by omega)
            omega
          · exact q
      have c2 : A.ht ≤ B.ht + 1 := by
        rcases a3 with a3 | a3
        · omega
        · rcases Nat.lt_or_ge (B.ht + 1) A.ht with q | q
          · have e1 := Nat.pow_le_pow_right (show 0 < 2 by omega) (show B.ht + 1 ≤ A.ht - 1 by omega)
            have e2 : 2 ^ (B.ht + 1) = 2 ^ B.ht * 2 := Nat.pow_succ ..
            omega
          · exact q
      have hpw := Nat.pow_le_pow_right (show 0 < 2 by omega) c1
      refine ⟨⟨a1, b1, by omega, by omega⟩, ?_, .inr ?_⟩
      · simp only [AT.ht]
        have e : max A.ht B.ht = A.ht := by omega
        rw [e]
        have e2 : 2 ^ (A.ht + 1) = 2 ^ A.ht * 2 := Nat.pow_succ ..
        rw [show 1 + A.ht = A.ht + 1 by omega] <;> omega
      · simp only [AT.ht]
        have e : max A.ht B.ht = A.ht := by omega
        rw [e]
        rcases a3 with a3 | a3
        · rw [a3]; simp; omega
        · have e2 : 2 ^ A.ht = 2 ^ (A.ht - 1) * 2 := by
            rcases Nat.eq_zero_or_pos A.ht with q | q
            · rw [q] at a3 a2; simp at a3 a2; omega
            · rw [← Nat.pow_succ, Nat.succ_eq_add_one, Nat.sub_add_cancel q]
          have e3 : 1 + A.ht - 1 = A.ht := by omega
          first | (rw [e3, e2]; omega) | (simp only [Nat.add_sub_cancel]; rw [e2]; omega)

theorem chs_sumD (zs : List Int) : ∀ j, 16 * j < zs.length + 16 → lsum (chs zs j) = ((min (16 * j) zs.length : Nat) : Int)
  | 0, _ => by simp [chs, lsum]
  | j + 1, h => by
    rw [chs_succ, lsum_app, chs_sumD zs j (by omega), lsum_cons, lsum_nil]
    simp only [chP, cln]
    omega
theorem chP_wp (zs : List Int) (i : Nat) (hi : 16 * i < zs.length) : WP zs (chP zs i) ∧ 1 ≤ (chP zs i).len ∧ (chP zs i).len ≤ 16 := by
  have hc : cln zs.length i ≤ 16 ∧ 1 ≤ cln zs.length i ∧ 16 * i + cln zs.length i ≤ zs.length := by unfold cln; omega
  refine ⟨⟨?_, ?_, ?_, ?_⟩, ?_, ?_⟩
  · simp only [chP]; omega
  · simp only [chP]; omega
  · simp only [chP]; omega
  · simp only [chP, ptx, Int.toNat_natCast]
  · simp only [chP]; omega
  · simp only [chP]; omega
/-- The tree of a loaded text. -/
theorem ldT_all (zs : List Int) (hn : zs.length ≤ 8192) : (ldT zs).ok ∧ (ldT zs).bal ∧ (ldT zs).wp zs ∧ (ldT zs).rns = zs.length := by
  have hj : (chs zs ((zs.length + 15) / 16)).length ≤ 8192 := by rw [chs_length]; omega
  have hf : (ldT zs).flat = chs zs ((zs.length + 15) / 16) := midT_flat 8192 _ hj
  have hr : (ldT zs).rns = zs.length := by rw [AT.rns_lsum, hf, chs_sumD zs _ (by omega)]; omega
  have hq : ∀ p ∈ (ldT zs).flat, WP zs p ∧ 1 ≤ p.len ∧ p.len ≤ 16 := by
    intro p hp
    rw [hf] at hp
    obtain ⟨i, hi, rfl⟩ := List.mem_map.1 hp
    exact chP_wp zs i (by have := List.mem_range.1 hi; omega)
  refine ⟨⟨fun p hp => ?_, by rw [hr]; omega⟩, (midT_ht 8192 _ hj).1, (wp_flat zs _).2 fun p hp => (hq p hp).1, hr⟩
  obtain ⟨⟨a1, a2, a3, a4⟩, a5, a6⟩ := hq p hp
  have hb := brk_bdl (ptx zs p)
  have hl : ((ptx zs p).length : Int) = p.len := ptx_len ⟨a1, a2, a3, a4⟩
  simp only [pcOk, decide_eq_true_eq]
  omega
end Go.Proofs.YtbgngikejgihgagGreatDoor
