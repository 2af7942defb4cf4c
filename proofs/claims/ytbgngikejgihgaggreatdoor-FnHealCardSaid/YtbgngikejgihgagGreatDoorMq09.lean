import Derived.WalkKit
import Derived.Test.YtbgngikejgihgagGreatDoorMq03
import Derived.Test.YtbgngikejgihgagGreatDoorMq08
import Derived.RangeFuncNested
import Derived.RangeFuncBox
import Derived.RangeFuncBound
import Derived.RangeFuncLeaves
import Derived.Shelf.Abstract
import Derived.OwnWalkIn
import Derived.TacticsInMore
import Derived.LoopNIn
import Derived.LoopIn
namespace Go.Proofs.YtbgngikejgihgagGreatDoor
open Go Go.RowKit
set_option linter.unusedVariables false

def lsum (F : List Pc) : Int := (F.map (fun p => p.len)).sum
theorem lsum_nil : lsum [] = 0 := rfl
theorem lsum_cons (p : Pc) (F : List Pc) : lsum (p :: F) = p.len + lsum F := by simp [lsum]
theorem lsum_app (F G : List Pc) : lsum (F ++ G) = lsum F + lsum G := by simp [lsum]
theorem AT.rns_lsum (T : AT) : T.rns = lsum T.flat := AT.rns_of_flat T
theorem AT.flat_its : ∀ T : AT, T.flat.length = T.its
  | .nil => rfl
  | .node l p r => by simp only [AT.flat, List.length_append, List.length_cons, AT.flat_its l, AT.flat_its r, AT.its]; omega
theorem AT.flat_of : ∀ (T : AT) (d : Int), (T.told d).map It.pc = T.flat
  | .nil, _ => rfl
  | .node l p r, d => by simp only [AT.told, List.map_append, List.map_cons, AT.flat, AT.flat_of l, AT.flat_of r]
theorem total_lsum : ∀ xs : List It, total xs = lsum (xs.map It.pc)
  | [] => rfl
  | x :: xs => by rw [List.map_cons, lsum_cons, total, total_lsum xs]
theorem total_take (T : AT) (k : Nat) : total ((T.told 0).take k) = lsum (T.flat.take k) := by rw [total_lsum, List.map_take, AT.flat_of]
theorem wp_flat (S : List Int) : ∀ T : AT, T.wp S ↔ ∀ p ∈ T.flat, WP S p
  | .nil => by simp [AT.wp, AT.flat]
  | .node l p r => by
    have h1 := wp_flat S l
    have h2 := wp_flat S r
    simp only [AT.wp, AT.flat, List.mem_append, List.mem_cons]
    constructor
    · rintro ⟨a, b, c⟩ q (h | rfl | h)
      · exact h1.1 a q h
      · exact b
      · exact h2.1 c q h
    · intro h
      exact ⟨h1.2 fun q hq => h q (.inl hq), h p (.inr (.inl rfl)), h2.2 fun q hq => h q (.inr (.inr hq))⟩
theorem WP.app {zs : List Int} {p : Pc} (h : WP zs p) (ts : List Int) : WP (zs ++ ts) p := by
  obtain ⟨h1, h2, h3, h4⟩ := h
  refine ⟨h1, h2, by rw [List.length_append]; omega, ?_⟩
  rw [h4]
  unfold ptx
  rw [List.drop_append_of_le_length (by omega), List.take_append_of_le_length (by rw [List.length_drop]; omega)]
theorem AT.wp.app {zs : List Int} {T : AT} (h : T.wp zs) (ts : List Int) : T.wp (zs ++ ts) := (wp_flat _ T).2 fun p hp => ((wp_flat _ T).1 h p hp).app ts

/-- Where a search by runes comes out. -/
theorem seek_at : ∀ (T : AT) (off : Int), (∀ p ∈ T.flat, 1 ≤ p.len) → 0 ≤ off → off ≤ T.rns →
    (seekT (fun p => p.len) T off).1 ≤ T.its ∧ lsum (T.flat.take (seekT (fun p => p.len) T off).1) = off - (seekT (fun p => p.len) T off).2.2.2.1 ∧
    ((seekT (fun p => p.len) T off).2.2.2.1 = 0 ∨ (0 < (seekT (fun p => p.len) T off).2.2.2.1 ∧ (seekT (fun p => p.len) T off).2.2.2.1 < (seekP (fun p => p.len) T off).len ∧ T.flat[(seekT (fun p => p.len) T off).1]? = some (seekP (fun p => p.len) T off)))
  | .nil, off, _, h0, h1 => by
    have : off = 0 := by simp only [AT.rns] at h1; omega
    subst this
    simp [seekT, AT.its, AT.flat, lsum]
  | .node l p r, off, hp, h0, h1 => by
    have e0 : sumM (fun p => p.len) (l.told 0) = l.rns := by rw [sumM_len, AT.rns_told]
    have hl := AT.flat_its l
    have hpl : ∀ q ∈ l.flat, 1 ≤ q.len := fun q hq => hp q (by simp [AT.flat, hq])
    have hpr : ∀ q ∈ r.flat, 1 ≤ q.len := fun q hq => hp q (by simp [AT.flat, hq])
    have ern : (AT.node l p r).rns = l.rns + p.len + r.rns := rfl
    have hpp := hp p (by simp [AT.flat])
    simp only [seekT, seekP, e0]
    by_cases c1 : off < l.rns
    · obtain ⟨a, b, c⟩ := seek_at l off hpl h0 (by omega)
      simp only [if_pos c1, AT.flat, AT.its]
      refine ⟨by omega, by rw [List.take_append_of_le_length (by omega)]; exact b, ?_⟩
      rcases c with c | ⟨c2, c3, c4⟩
      · exact .inl c
      · refine .inr ⟨c2, c3, ?_⟩
        rw [List.getElem?_append_left]
        · exact c4
        · rcases Nat.lt_or_ge (seekT (fun p => p.len) l off).1 l.flat.length with q | q
          · exact q
          · rw [List.getElem?_eq_none q] at c4; cases c4
    · by_cases c2 : off - l.rns < p.len
      · simp only [if_neg c1, if_pos c2, AT.flat, AT.its]
        refine ⟨by omega, ?_, ?_⟩
        · rw [List.take_append_of_le_length (by omega), List.take_of_length_le (by omega), ← AT.rns_lsum]; omega
        · rcases Int.lt_or_le 0 (off - l.rns) with q | q
          · refine .inr ⟨q, c2, ?_⟩
            rw [List.getElem?_append_right (by omega), hl, Nat.sub_self, List.getElem?_cons_zero]
          · exact .inl (by omega)
      · obtain ⟨a, b, c⟩ := seek_at r (off - l.rns - p.len) hpr (by omega) (by omega)
        simp only [if_neg c1, if_neg c2, AT.flat, AT.its]
        obtain ⟨j, hj⟩ : ∃ j, (seekT (fun p => p.len) r (off - l.rns - p.len)).1 = j := ⟨_, rfl⟩
        rw [hj] at a b c ⊢
        refine ⟨by omega, ?_, ?_⟩
        · rw [show j + (l.its + 1) = l.flat.length + (j + 1) by omega, List.take_length_add_append, List.take_succ_cons, lsum_app, lsum_cons, b, ← AT.rns_lsum]; omega
        · rcases c with c | ⟨c3, c4, c5⟩
          · exact .inl c
          · refine .inr ⟨c3, c4, ?_⟩
            rw [List.getElem?_append_right (by omega), show j + (l.its + 1) - l.flat.length = j + 1 by omega, List.getElem?_cons_succ]
            exact c5

theorem rankL_char : ∀ (xs : List It) (R : Nat) (off : Int), (∀ x ∈ xs, 1 ≤ x.pc.len) → R ≤ xs.length → total (xs.take R) = off → rankL xs off = R
  | xs, 0, off, _, _, h => by
    rw [List.take_zero] at h
    exact rankL_low xs off (by simp [total] at h; omega)
  | [], R + 1, off, _, h, _ => by simp at h
  | x :: xs, R + 1, off, hp, hR, h => by
    have hx := hp x (by simp)
    rw [List.take_succ_cons] at h
    simp only [total] at h
    have hn : 0 ≤ total (xs.take R) := by
      rw [total_lsum]
      have : ∀ y ∈ xs.take R, 1 ≤ y.pc.len := fun y hy => hp y (by simp [List.mem_of_mem_take hy])
      generalize xs.take R = ys at this
      induction ys with
      | nil => simp [lsum]
      | cons y ys ih => rw [List.map_cons, lsum_cons]; have := this y (by simp); have := ih (fun z hz => by rename_i h9; exact h9 z (by simp [hz])); omega
    rw [rankL, if_neg (by omega), rankL_char xs R (off - x.pc.len) (fun y hy => hp y (by simp [hy])) (by simpa using hR) (by omega)]
    omega

theorem brk_bdl (l : List Int) : 0 ≤ brk l ∧ brk l ≤ l.length := by
  unfold brk
  have := List.length_filter_le (fun z => z == (10 : Int)) l
  omega
theorem take_mid (A B : List Pc) (x : Pc) (n : Nat) (h : A.length = n) : (A ++ x :: B).take (n + 1) = A ++ [x] := by
  subst h
  rw [List.take_length_add_append]; rfl
/-- The piece of a span of a store. -/
def pcAt (S : List Int) (o n : Int) : Pc := ⟨o, n, brk ((S.drop o.toNat).take n.toNat)⟩
theorem pcAt_of {S : List Int} {p : Pc} (h : WP S p) : pcAt S p.off p.len = p := by
  obtain ⟨h1, h2, h3, h4⟩ := h
  obtain ⟨a, b, c⟩ := p
  simp only [pcAt, ptx] at *
  rw [h4]
theorem pcAt_wp {S : List Int} {o n : Int} (h0 : 0 ≤ o) (h1 : 0 ≤ n) (h : o + n ≤ S.length) : WP S (pcAt S o n) := ⟨h0, h1, h, rfl⟩
theorem pcAt_ok {S : List Int} {o n : Int} (h0 : 0 ≤ o) (h1 : 1 ≤ n) (h2 : n ≤ 8192) (h : o + n ≤ S.length) (hS : S.length ≤ 220000) : pcOk (pcAt S o n) = true := by
  have hb := brk_bdl ((S.drop o.toNat).take n.toNat)
  have hl : ((S.drop o.toNat).take n.toNat).length ≤ n.toNat := by rw [List.length_take]; omega
  have hk : pcOk (pcAt S o n) = decide (1 ≤ n ∧ n ≤ 8192 ∧ 0 ≤ o ∧ o + n ≤ 220000 ∧ 0 ≤ brk ((S.drop o.toNat).take n.toNat) ∧ brk ((S.drop o.toNat).take n.toNat) ≤ n) := rfl
  rw [hk, decide_eq_true_eq]
  omega
/-- A piece made longer by its neighbour in the store. -/
theorem pcAt_with {S : List Int} {p : Pc} (h : WP S p) {o m : Int} (hm : p.off + p.len = o) (h0 : 0 ≤ m) : (⟨p.off, p.len + m, p.brk + brk ((S.drop o.toNat).take m.toNat)⟩ : Pc) = pcAt S p.off (p.len + m) := by
  obtain ⟨h1, h2, h3, h4⟩ := h
  subst hm
  unfold pcAt
  congr 1
  rw [h4, show (p.len + m).toNat = p.len.toNat + m.toNat by omega, List.take_add, brk_append, List.drop_drop, show (p.off + p.len).toNat = p.off.toNat + p.len.toNat by omega]
  rfl

def skR (T : AT) (off : Int) : Nat := (seekT (fun p => p.len) T off).1
def skI (T : AT) (off : Int) : Int := (seekT (fun p => p.len) T off).2.2.2.1
def skP (T : AT) (off : Int) : Pc := seekP (fun p => p.len) T off
/-- A tree none of whose pieces goes on over an offset. -/
def cutP (S : List Int) (T : AT) (off : Int) : AT := if skI T off = 0 then T else (T.put (skR T off) (pcAt S (skP T off).off (skI T off))).ins (skR T off + 1) (pcAt S ((skP T off).off + skI T off) ((skP T off).len - skI T off))
def cutN (T : AT) (off : Int) : Nat := skR T off + (if skI T off = 0 then 0 else 1)

theorem flat_pos {T : AT} (h : T.ok) : ∀ p ∈ T.flat, 1 ≤ p.len := fun p hp => by
  have := h.1 p hp
  simp only [pcOk, decide_eq_true_eq] at this
  omega
theorem told_pos {T : AT} (h : T.ok) : ∀ x ∈ T.told 0, 1 ≤ x.pc.len := fun x hx => flat_pos h _ (by rw [← AT.flat_of T 0]; exact List.mem_map.2 ⟨x, hx, rfl⟩)
theorem cutN_rank {T : AT} {off : Int} (h : T.ok) (h0 : 0 ≤ off) (h1 : off ≤ T.rns) : cutN T off = rankL (T.told 0) off := (rank_seek T off (told_pos h) h0 h1).symm
theorem sk_at {T : AT} {off : Int} (h : T.ok) (h0 : 0 ≤ off) (h1 : off ≤ T.rns) :
    skR T off ≤ T.its ∧ lsum (T.flat.take (skR T off)) = off - skI T off ∧ (skI T off = 0 ∨ (0 < skI T off ∧ skI T off < (skP T off).len ∧ T.flat[skR T off]? = some (skP T off))) := seek_at T off (flat_pos h) h0 h1
theorem split_at {F : List Pc} {r : Nat} {p : Pc} (h : F[r]? = some p) : F = F.take r ++ p :: F.drop (r + 1) ∧ r < F.length := by
  have hr : r < F.length := by
    rcases Nat.lt_or_ge r F.length with q | q
    · exact q
    · rw [List.getElem?_eq_none q] at h; cases h
  refine ⟨?_, hr⟩
  have e : F[r] = p := by rw [List.getElem?_eq_getElem hr] at h; exact Option.some.inj h
  rw [← e]
  exact (List.take_append_drop r F).symm.trans (by rw [List.drop_eq_getElem_cons hr])
theorem put_flat' (T : AT) (r : Nat) (e p : Pc) (h : T.flat[r]? = some p) : (T.put r e).flat = T.flat.take r ++ e :: T.flat.drop (r + 1) := by
  obtain ⟨h1, h2⟩ := split_at h
  rw [AT.put_flat T r e (by rw [← AT.flat_its]; exact h2), List.set_eq_take_append_cons_drop, if_pos h2]
theorem cutP_flat {S : List Int} {T : AT} {off : Int} (h : T.ok) (h0 : 0 ≤ off) (h1 : off ≤ T.rns) (hi : skI T off ≠ 0) :
    (cutP S T off).flat = T.flat.take (skR T off) ++ pcAt S (skP T off).off (skI T off) :: pcAt S ((skP T off).off + skI T off) ((skP T off).len - skI T off) :: T.flat.drop (skR T off + 1) := by
  obtain ⟨a, b, c⟩ := sk_at h h0 h1
  obtain ⟨c1, c2, c3⟩ := c.resolve_left hi
  have hr := (split_at c3).2
  have hpf := put_flat' T (skR T off) (pcAt S (skP T off).off (skI T off)) _ c3
  have hlt : (T.flat.take (skR T off)).length = skR T off := by rw [List.length_take]; omega
  rw [cutP, if_neg hi, AT.ins_flat _ _ _ (by rw [AT.put_its, ← AT.flat_its]; omega), hpf]
  have e1 : (T.flat.take (skR T off) ++ pcAt S (skP T off).off (skI T off) :: T.flat.drop (skR T off + 1)).take (skR T off + 1) = T.flat.take (skR T off) ++ [pcAt S (skP T off).off (skI T off)] := take_mid _ _ _ _ hlt
  have e2 : (T.flat.take (skR T off) ++ pcAt S (skP T off).off (skI T off) :: T.flat.drop (skR T off + 1)).drop (skR T off + 1) = T.flat.drop (skR T off + 1) := by
    have : ∀ (A B : List Pc) (x : Pc) (n : Nat), A.length = n → (A ++ x :: B).drop (n + 1) = B := by
      intro A B x n hn
      subst hn
      rw [List.drop_length_add_append]; rfl
    exact this _ _ _ _ hlt
  rw [e1, e2, List.append_assoc]
  rfl
theorem cutP_len {S : List Int} {T : AT} {off : Int} (h : T.ok) (h0 : 0 ≤ off) (h1 : off ≤ T.rns) : lsum (cutP S T off).flat = lsum T.flat := by
  by_cases hi : skI T off = 0
  · rw [cutP, if_pos hi]
  · obtain ⟨a, b, c⟩ := sk_at h h0 h1
    obtain ⟨c1, c2, c3⟩ := c.resolve_left hi
    rw [cutP_flat h h0 h1 hi, lsum_app, lsum_cons, lsum_cons]
    conv => rhs; rw [(split_at c3).1]
    rw [lsum_app, lsum_cons]
    simp only [pcAt]
    omega
theorem cutP_wp {S : List Int} {T : AT} {off : Int} (h : T.ok) (hw : T.wp S) (h0 : 0 ≤ off) (h1 : off ≤ T.rns) : (cutP S T off).wp S := by
  by_cases hi : skI T off = 0
  · rw [cutP, if_pos hi]; exact hw
  · obtain ⟨a, b, c⟩ := sk_at h h0 h1
    obtain ⟨c1, c2, c3⟩ := c.resolve_left hi
    have hF := (wp_flat S T).1 hw
    have hp := hF _ (List.mem_of_getElem? c3)
    refine (wp_flat S _).2 fun q hq => ?_
    rw [cutP_flat h h0 h1 hi] at hq
    simp only [List.mem_append, List.mem_cons] at hq
    rcases hq with hq | rfl | rfl | hq
    · exact hF q (List.mem_of_mem_take hq)
    · exact pcAt_wp hp.1 (by omega) (by have := hp.2.2.1; omega)
    · exact pcAt_wp (by have := hp.1; omega) (by omega) (by have := hp.2.2.1; omega)
    · exact hF q (List.mem_of_mem_drop hq)
theorem cutP_ok {S : List Int} {T : AT} {off : Int} (h : T.ok) (hw : T.wp S) (hS : S.length ≤ 220000) (h0 : 0 ≤ off) (h1 : off ≤ T.rns) : (cutP S T off).ok := by
  refine ⟨fun q hq => ?_, by rw [AT.rns_lsum, cutP_len h h0 h1, ← AT.rns_lsum]; exact h.2⟩
  by_cases hi : skI T off = 0
  · rw [cutP, if_pos hi] at hq; exact h.1 q hq
  · obtain ⟨a, b, c⟩ := sk_at h h0 h1
    obtain ⟨c1, c2, c3⟩ := c.resolve_left hi
    have hp := (wp_flat S T).1 hw _ (List.mem_of_getElem? c3)
    have hk := h.1 _ (List.mem_of_getElem? c3)
    simp only [pcOk, decide_eq_true_eq] at hk
    have hp3 := hp.2.2.1
    rw [cutP_flat h h0 h1 hi] at hq
    simp only [List.mem_append, List.mem_cons] at hq
    rcases hq with hq | rfl | rfl | hq
    · exact h.1 q (List.mem_of_mem_take hq)
    · exact pcAt_ok (by omega) (by omega) (by omega) (by omega) hS
    · exact pcAt_ok (by omega) (by omega) (by omega) (by omega) hS
    · exact h.1 q (List.mem_of_mem_drop hq)
theorem cutP_bal {S : List Int} {T : AT} {off : Int} (hb : T.bal) : (cutP S T off).bal := by
  unfold cutP
  split
  · exact hb
  · exact (AT.ins_bal _ _ _ (AT.put_bal _ _ _ hb)).1
theorem cutN_at {S : List Int} {T : AT} {off : Int} (h : T.ok) (h0 : 0 ≤ off) (h1 : off ≤ T.rns) : cutN T off ≤ (cutP S T off).its ∧ lsum ((cutP S T off).flat.take (cutN T off)) = off := by
  obtain ⟨a, b, c⟩ := sk_at h h0 h1
  by_cases hi : skI T off = 0
  · rw [cutP, if_pos hi, cutN, if_pos hi]
    exact ⟨a, by rw [Nat.add_zero, b]; omega⟩
  · obtain ⟨c1, c2, c3⟩ := c.resolve_left hi
    have hr := (split_at c3).2
    have hlt : (T.flat.take (skR T off)).length = skR T off := by rw [List.length_take]; omega
    rw [← AT.flat_its, cutP_flat h h0 h1 hi, cutN, if_neg hi]
    constructor
    · simp only [List.length_append, List.length_cons]; omega
    · rw [take_mid _ _ _ _ hlt, lsum_app, lsum_cons, lsum_nil, b]
      simp only [pcAt]; omega
/-- The rank in the cut tree is the same. -/
theorem cut_rank {S : List Int} {T : AT} {off : Int} (h : T.ok) (hw : T.wp S) (hS : S.length ≤ 220000) (h0 : 0 ≤ off) (h1 : off ≤ T.rns) : rankL ((cutP S T off).told 0) off = cutN T off := by
  obtain ⟨a, b⟩ := cutN_at (S := S) h h0 h1
  exact rankL_char _ _ _ (told_pos (cutP_ok h hw hS h0 h1)) (by rw [AT.told_length]; exact a) (by rw [total_take]; exact b)
end Go.Proofs.YtbgngikejgihgagGreatDoor

namespace Go.Proofs.YtbgngikejgihgagGreatDoor
open Go Go.RowKit Go.Shelf
set_option linter.unusedVariables false
attribute [local go_sem] Oper.semAt_some

theorem room_of_none {F : Fence} (hd : F.depth = none) (k : Nat) : F.room k := fun d h => by rw [hd] at h; cases h
theorem roundIn_any {F : Fence} (hd : F.depth = none) {m m' : Nat} {P : Program} {l : Nat} {f : FuncId} {tmps : Array Value} {assign body : Code} {w : World} {R : Ending → World → Prop}
    (h : RoundIn F m P l f tmps assign body w R) : RoundIn F m' P l f tmps assign body w R := ⟨h.1, fun c cs _ => h.2 c cs (room_of_none hd _)⟩
theorem yieldAt_any {F : Fence} (hd : F.depth = none) {m : Nat} (m' : Nat) {P : Program} {l : Nat} {args : Array Value} {W : World} {R : Ending → World → Prop} (h : YieldAt F m P l args W R) : YieldAt F m' P l args W R := by
  obtain ⟨fn, tmps, assign, body, hy, hR⟩ := h
  exact ⟨fn, tmps, assign, body, hy, roundIn_any hd hR⟩

/-- The tree lies in blocks below n₀. -/
def IsT (n₀ : Nat) (W : World) (p : Option Addr) (T : AT) : Prop := ∃ base bs, Lies W base T p bs ∧ ∀ x ∈ bs, x < n₀
theorem IsT.below {n₀ : Nat} {A B : World} {p : Option Addr} {T : AT} (h : IsT n₀ A p T) (hb : Below n₀ A B) : IsT n₀ B p T := by
  obtain ⟨base, bs, h1, h2⟩ := h
  exact ⟨base, bs, h1.frame fun b hbs => hb.block b (h2 b hbs), h2⟩
theorem IsT.parts {n₀ : Nat} {W : World} {p : Option Addr} {l : AT} {q : Pc} {r : AT} (h : IsT n₀ W p (.node l q r)) : ∃ b pl pr, p = some ⟨b, 0, none⟩ ∧ b < n₀ ∧ W.cell? ⟨b, 0, none⟩ = some (.int .i64 q.off) ∧ W.cell? ⟨b, 1, none⟩ = some (.int .i64 q.len) ∧ W.cell? ⟨b, 2, none⟩ = some (.int .i64 q.brk) ∧
    W.cell? ⟨b, 3, none⟩ = some (.pointer pl) ∧ W.cell? ⟨b, 4, none⟩ = some (.pointer pr) ∧ IsT n₀ W pl l ∧ IsT n₀ W pr r := by
  obtain ⟨base, bs, ⟨b, ul, ur, bl, br, rfl, hb, hn, hl, hr, rfl⟩, h2⟩ := h
  exact ⟨b, ul, ur, rfl, h2 b (by simp), hn.c0, hn.c1, hn.c2, hn.c3, hn.c4, ⟨base, bl, hl, fun x hx => h2 x (by simp [hx])⟩, ⟨base, br, hr, fun x hx => h2 x (by simp [hx])⟩⟩

set_option maxRecDepth 100000 in
set_option maxHeartbeats 4000000 in
theorem walk_in (F : Fence) (hd : F.depth = none) (h6 : F.fn 213) (hro : F.round = none) (l n₀ N : Nat) (J Jx : List It → World → Prop)
    (hY : ∀ m pre (x : It) W, J pre W → pre.length < N → YieldAt F m Tryz.prog l #[.int .i64 x.lv, .agg #[.int .i64 x.pc.off, .int .i64 x.pc.len, .int .i64 x.pc.brk]] W fun e W' =>
      (e = .returned (.bool true) ∧ J (pre ++ [x]) W' ∧ Below n₀ W W') ∨ (e = .returned (.bool false) ∧ Jx (pre ++ [x]) W')) (T : AT) :
    ∀ (n : Nat) (p : Option Addr) (lv : Int) (pre : List It) (W : World), IsT n₀ W p T → 0 ≤ lv → lv + T.ht ≤ 1048576 → J pre W → pre.length + T.its ≤ N →
      CallsIn F n Tryz.prog 213 #[.pointer p, .int .i64 lv, .func (.yield l) #[] #[]] W fun e W' =>
        (e = .returned (.bool true) ∧ J (pre ++ T.told lv) W' ∧ Below n₀ W W') ∨ (e = .returned (.bool false) ∧ ∃ q, q <+: T.told lv ∧ Jx (pre ++ q) W') := by
  induction T with
  | nil =>
    intro n p lv pre W ht h0 h1 hJ _
    obtain ⟨base, bs, ⟨rfl, rfl⟩, _⟩ := ht
    refine callsIn_of_wp Tryz.func213 rfl h6 ?_ hro
    simp only [Tryz.ntmps213, List.size_toArray, List.length_cons, List.length_nil, Nat.reduceAdd, Nat.reduceSub, Array.replicate_succ, Array.replicate_zero, List.push_toArray, List.append_toArray, List.nil_append, List.cons_append]
    have hU : undef = Value.tuple #[] := rfl
    gi_wp2_with fail
    go_ret
    exact .inl ⟨rfl, by simpa [AT.told] using hJ, Below.refl _ _⟩
  | node tl v tr ihl ihr =>
    intro n p lv pre W ht h0 h1 hJ hN
    obtain ⟨b, pl, pr, rfl, hb, c0, c1, c2, c3, c4, hl, hr⟩ := ht.parts
    have hdd : ∀ k : Nat, (F.depth.isSome = true → 1 ≤ k) := fun k h => by rw [hd] at h; cases h
    have hht : ((AT.node tl v tr).ht : Int) = 1 + max (tl.ht : Int) tr.ht := by simp only [AT.ht]; omega
    have hll : (tl.told (lv + 1)).length = tl.its := AT.told_length _ _
    rw [hht] at h1
    simp only [AT.its] at hN
    have hU : undef = Value.tuple #[] := rfl
    have HTD := hide (show (AT.node tl v tr).told lv = tl.told (lv + 1) ++ ⟨v, lv⟩ :: tr.told (lv + 1) from rfl)
    generalize (AT.node tl v tr).told lv = TD at HTD ⊢
    have hy2 : ∀ W1, J (pre ++ tl.told (lv + 1)) W1 → Below n₀ W W1 → YieldAt F (n - 1) Tryz.prog l #[.int .i64 lv, .agg #[.int .i64 v.off, .int .i64 v.len, .int .i64 v.brk]] W1 fun e W2 =>
        (e = .returned (.bool true) ∧ J (pre ++ tl.told (lv + 1) ++ [⟨v, lv⟩]) W2 ∧ Below n₀ W W2 ∧ W2.cell? ⟨b, 4, none⟩ = some (.pointer pr) ∧ IsT n₀ W2 pr tr) ∨ (e = .returned (.bool false) ∧ Jx (pre ++ tl.told (lv + 1) ++ [⟨v, lv⟩]) W2) := fun W1 hJ1 hb1 =>
      YieldAt.mono (hY (n - 1) _ ⟨v, lv⟩ W1 hJ1 (by simp [hll]; omega)) fun e W2 h => h.elim
        (fun ⟨he, hj, hb2⟩ => .inl ⟨he, hj, hb1.trans hb2, ((hb1.trans hb2).cell (p := ⟨b, 4, none⟩) hb).trans c4, hr.below (hb1.trans hb2)⟩) .inr
    have ih1 := (ihl (n - 1) pl (lv + 1) pre W hl (by omega) (by omega) hJ (by omega)).mono (R' := fun e W1 =>
        (e = .returned (.bool true) ∧ W1.cell? ⟨b, 0, none⟩ = some (.int .i64 v.off) ∧ W1.cell? ⟨b, 1, none⟩ = some (.int .i64 v.len) ∧ W1.cell? ⟨b, 2, none⟩ = some (.int .i64 v.brk) ∧ YieldAt F (n - 1) Tryz.prog l #[.int .i64 lv, .agg #[.int .i64 v.off, .int .i64 v.len, .int .i64 v.brk]] W1 fun e W2 =>
          (e = .returned (.bool true) ∧ J (pre ++ tl.told (lv + 1) ++ [⟨v, lv⟩]) W2 ∧ Below n₀ W W2 ∧ W2.cell? ⟨b, 4, none⟩ = some (.pointer pr) ∧ IsT n₀ W2 pr tr) ∨ (e = .returned (.bool false) ∧ Jx (pre ++ tl.told (lv + 1) ++ [⟨v, lv⟩]) W2)) ∨
        (e = .returned (.bool false) ∧ ∃ q, q <+: tl.told (lv + 1) ∧ Jx (pre ++ q) W1))
      (fun e W1 h => h.elim (fun ⟨he, hj, hb1⟩ => .inl ⟨he, (hb1.cell (p := ⟨b, 0, none⟩) hb).trans c0, (hb1.cell (p := ⟨b, 1, none⟩) hb).trans c1, (hb1.cell (p := ⟨b, 2, none⟩) hb).trans c2, hy2 W1 hj hb1⟩) .inr)
    clear hy2 ihl
    refine callsIn_of_wp Tryz.func213 rfl h6 ?_ hro
    simp only [Tryz.ntmps213, List.size_toArray, List.length_cons, List.length_nil, Nat.reduceAdd, Nat.reduceSub, Array.replicate_succ, Array.replicate_zero, List.push_toArray, List.append_toArray, List.nil_append, List.cons_append]
    gi_wp2_with (first
      | ((try refine ⟨hdd _, ?_⟩); gi_at_call 213; refine ih1.mono ?_; clear ih1; rintro e W1 (⟨rfl, c0', c1', c2', fn, tmps, assign, body, hy, hR⟩ | ⟨rfl, q, hq, hx1⟩))
      | ((try refine ⟨hdd _, ?_⟩); refine hR.mono ?_; clear hR; rintro e W2 (⟨rfl, hJ2, hb2, c4', hr2⟩ | ⟨rfl, hx2⟩))
      | ((try refine ⟨hdd _, ?_⟩); gi_at_call 213; refine (ihr (n - 1) pr (lv + 1) _ _ hr2 (by omega) (by omega) hJ2 (by simp [hll]; omega)).mono ?_; rintro e W3 (⟨rfl, hJ3, hb3⟩ | ⟨rfl, q, hq, hx3⟩)))
    · go_ret
      exact .inl ⟨rfl, by rw [HTD.out]; simpa [List.append_assoc] using hJ3, hb2.trans hb3⟩
    · go_ret
      obtain ⟨r, hr'⟩ := hq
      exact .inr ⟨rfl, tl.told (lv + 1) ++ ⟨v, lv⟩ :: q, ⟨r, by rw [HTD.out]; simp [← hr']⟩, by simpa [List.append_assoc] using hx3⟩
    · go_ret
      exact .inr ⟨rfl, tl.told (lv + 1) ++ [⟨v, lv⟩], ⟨tr.told (lv + 1), by rw [HTD.out]; simp⟩, by simpa [List.append_assoc] using hx2⟩
    · go_ret
      exact .inr ⟨rfl, q, hq.trans (by rw [HTD.out]; simp), hx1⟩

set_option maxHeartbeats 1000000 in
theorem all1_in (F : Fence) (hd : F.depth = none) (n : Nat) (h5 : F.fn 212) (h6 : F.fn 213) (hro : F.round = none) (l Bt Bl n₀ : Nat) (p0 : Option Addr) (T : AT) (hht : (T.ht : Int) ≤ 1048576) (J Jx : List It → World → Prop)
    (hY : ∀ pre (x : It) W, J pre W → pre.length < T.its → YieldAt F (n - 1) Tryz.prog l #[.int .i64 x.lv, .agg #[.int .i64 x.pc.off, .int .i64 x.pc.len, .int .i64 x.pc.brk]] W fun e W' =>
      (e = .returned (.bool true) ∧ J (pre ++ [x]) W' ∧ Below n₀ W W') ∨ (e = .returned (.bool false) ∧ Jx (pre ++ [x]) W'))
    (W : World) (hBt : W.cell? ⟨Bt, 0, none⟩ = some (.pointer p0)) (hBl : W.cell? ⟨Bl, 0, none⟩ = some (.int .i64 0)) (hT : IsT n₀ W p0 T) (h0 : J [] W) :
    CallsIn F n Tryz.prog 212 #[.func (.yield l) #[] #[], .pointer (some ⟨Bt, 0, none⟩), .pointer (some ⟨Bl, 0, none⟩)] W fun e W' => (∃ v, e = .returned v) ∧
      ((∃ ys, ys = T.told 0 ∧ J ys W') ∨ (∃ pre, pre <+: T.told 0 ∧ Jx pre W')) := by
  have hdd : ∀ k : Nat, (F.depth.isSome = true → 1 ≤ k) := fun k h => by rw [hd] at h; cases h
  have hp := walk_in F hd h6 hro l n₀ T.its J Jx (fun m pre x W hj hl => yieldAt_any hd m (hY pre x W hj hl)) T (n - 1) p0 0 [] W hT (by omega) (by omega) h0 (by simp)
  refine callsIn_of_wp Tryz.func212 rfl h5 ?_ hro
  simp only [Tryz.ntmps212, List.size_toArray, List.length_cons, List.length_nil, Nat.reduceAdd, Nat.reduceSub, Array.replicate_succ, Array.replicate_zero, List.push_toArray, List.append_toArray, List.nil_append, List.cons_append]
  gi_wp2_with ((try refine ⟨hdd _, ?_⟩); gi_at_call 213; refine hp.mono ?_; clear hp; rintro e W1 (⟨rfl, hJ1, _⟩ | ⟨rfl, q, hq, hx⟩))
  · go_end0
    exact ⟨⟨_, rfl⟩, .inl ⟨_, rfl, by simpa using hJ1⟩⟩
  · go_end0
    exact ⟨⟨_, rfl⟩, .inr ⟨q, hq, by simpa using hx⟩⟩

set_option maxHeartbeats 1000000 in
theorem all_in (F : Fence) (n : Nat) (h4 : F.fn 179) (hro : F.round = none) (p0 : Option Addr) (w : World) :
    CallsIn F n Tryz.prog 179 #[.pointer p0, .int .i64 0] w fun e w' => e = .returned (.func (.func 212) #[] #[.pointer (some ⟨w.heap.size, 0, none⟩), .pointer (some ⟨w.heap.size + 1, 0, none⟩)]) ∧ w' = (w.alloc (.cells #[.pointer p0] 212)).alloc (.cells #[.int .i64 0] 3) := by
  refine callsIn_of_wp Tryz.func179 rfl h4 ?_ hro
  simp only [Tryz.ntmps179, List.size_toArray, List.length_cons, List.length_nil, Nat.reduceAdd, Nat.reduceSub, Array.replicate_succ, Array.replicate_zero, List.push_toArray, List.append_toArray, List.nil_append, List.cons_append]
  gi_wp2
  go_ret
  exact ⟨rfl, rfl⟩

theorem all_stops (F : Fence) (hd : F.depth = none) (n : Nat) (h5 : F.fn 212) (h6 : F.fn 213) (hro : F.round = none) (Bt Bl n₀ : Nat) (p0 : Option Addr) (T : AT) (hht : (T.ht : Int) ≤ 1048576) (w : World) (hBt : Bt < w.heap.size) (hBl : Bl < w.heap.size) (hn₀ : n₀ ≤ w.heap.size)
    (hc : w.cell? ⟨Bt, 0, none⟩ = some (.pointer p0)) (hc2 : w.cell? ⟨Bl, 0, none⟩ = some (.int .i64 0)) (hT : IsT n₀ w p0 T) :
    SeqStopsK F n Tryz.prog 212 #[.pointer (some ⟨Bt, 0, none⟩), .pointer (some ⟨Bl, 0, none⟩)] (fun x : It => #[Value.int .i64 x.lv, .agg #[.int .i64 x.pc.off, .int .i64 x.pc.len, .int .i64 x.pc.brk]]) (Below n₀) (fun ys => ys = T.told 0) (fun pre => pre <+: T.told 0) T.its w := fun l J Jx W hW _ _ hY h0 =>
  all1_in F hd n h5 h6 hro l Bt Bl n₀ p0 T hht J Jx hY W ((hW.cell (p := ⟨Bt, 0, none⟩) hBt).trans hc) ((hW.cell (p := ⟨Bl, 0, none⟩) hBl).trans hc2) (hT.below (hW.mono hn₀)) h0
end Go.Proofs.YtbgngikejgihgagGreatDoor
