import Derived.WalkKit
import Derived.Test.YtbgngikejgihgagGreatDoorMq03
import Derived.Test.YtbgngikejgihgagGreatDoorMq10
import Derived.Deep.LoopGhost
namespace Go.Proofs.YtbgngikejgihgagGreatDoor
open Go Go.RowKit
set_option linter.unusedVariables false

def lsum (F : List Pc) : Int := (F.map (fun p => p.len)).sum
theorem lsum_nil : lsum [] = 0 := rfl
theorem lsum_cons (p : Pc) (F : List Pc) : lsum (p :: F) = p.len + lsum F := by simp [lsum]
theorem lsum_app (F G : List Pc) : lsum (F ++ G) = lsum F + lsum G := by simp [lsum]
theorem AT.rns_lsum (T : AT) : T.rns = lsum T.flat := AT.rns_of_flat T
theorem AT.flat_its : ∀ T : AT, T.flat.length = T.its
  | .nil => rfl
  | .node l p r => by simp only [AT.flat, List.length_append, List.length_cons, AT.flat_its l, AT.flat_its r, AT.its]; omega
theorem AT.flat_of : ∀ (T : AT) (d : Int), (T.told d).map It.pc = T.flat
  | .nil, _ => rfl
  | .node l p r, d => by simp only [AT.told, List.map_append, List.map_cons, AT.flat, AT.flat_of l, AT.flat_of r]
theorem total_lsum : ∀ xs : List It, total xs = lsum (xs.map It.pc)
  | [] => rfl
  | x :: xs => by rw [List.map_cons, lsum_cons, total, total_lsum xs]
theorem total_take (T : AT) (k : Nat) : total ((T.told 0).take k) = lsum (T.flat.take k) := by rw [total_lsum, List.map_take, AT.flat_of]
theorem wp_flat (S : List Int) : ∀ T : AT, T.wp S ↔ ∀ p ∈ T.flat, WP S p
  | .nil => by simp [AT.wp, AT.flat]
  | .node l p r => by
    have h1 := wp_flat S l
    have h2 := wp_flat S r
    simp only [AT.wp, AT.flat, List.mem_append, List.mem_cons]
    constructor
    · rintro ⟨a, b, c⟩ q (h | rfl | h)
      · exact h1.1 a q h
      · exact b
      · exact h2.1 c q h
    · intro h
      exact ⟨h1.2 fun q hq => h q (.inl hq), h p (.inr (.inl rfl)), h2.2 fun q hq => h q (.inr (.inr hq))⟩
theorem WP.app {zs : List Int} {p : Pc} (h : WP zs p) (ts : List Int) : WP (zs ++ ts) p := by
  obtain ⟨h1, h2, h3, h4⟩ := h
  refine ⟨h1, h2, by rw [List.length_append]; omega, ?_⟩
  rw [h4]
  unfold ptx
  rw [List.drop_append_of_le_length (by omega), List.take_append_of_le_length (by rw [List.length_drop]; omega)]
theorem AT.wp.app {zs : List Int} {T : AT} (h : T.wp zs) (ts : List Int) : T.wp (zs ++ ts) := (wp_flat _ T).2 fun p hp => ((wp_flat _ T).1 h p hp).app ts

/-- Where a search by runes comes out. -/
theorem seek_at : ∀ (T : AT) (off : Int), (∀ p ∈ T.flat, 1 ≤ p.len) → 0 ≤ off → off ≤ T.rns →
    (seekT (fun p => p.len) T off).1 ≤ T.its ∧ lsum (T.flat.take (seekT (fun p => p.len) T off).1) = off - (seekT (fun p => p.len) T off).2.2.2.1 ∧
    ((seekT (fun p => p.len) T off).2.2.2.1 = 0 ∨ (0 < (seekT (fun p => p.len) T off).2.2.2.1 ∧ (seekT (fun p => p.len) T off).2.2.2.1 < (seekP (fun p => p.len) T off).len ∧ T.flat[(seekT (fun p => p.len) T off).1]? = some (seekP (fun p => p.len) T off)))
  | .nil, off, _, h0, h1 => by
    have : off = 0 := by simp only [AT.rns] at h1; omega
    subst this
    simp [seekT, AT.its, AT.flat, lsum]
  | .node l p r, off, hp, h0, h1 => by
    have e0 : sumM (fun p => p.len) (l.told 0) = l.rns := by rw [sumM_len, AT.rns_told]
    have hl := AT.flat_its l
    have hpl : ∀ q ∈ l.flat, 1 ≤ q.len := fun q hq => hp q (by simp [AT.flat, hq])
    have hpr : ∀ q ∈ r.flat, 1 ≤ q.len := fun q hq => hp q (by simp [AT.flat, hq])
    have ern : (AT.node l p r).rns = l.rns + p.len + r.rns := rfl
    have hpp := hp p (by simp [AT.flat])
    simp only [seekT, seekP, e0]
    by_cases c1 : off < l.rns
    · obtain ⟨a, b, c⟩ := seek_at l off hpl h0 (by omega)
      simp only [if_pos c1, AT.flat, AT.its]
      refine ⟨by omega, by rw [List.take_append_of_le_length (by omega)]; exact b, ?_⟩
      rcases c with c | ⟨c2, c3, c4⟩
      · exact .inl c
      · refine .inr ⟨c2, c3, ?_⟩
        rw [List.getElem?_append_left]
        · exact c4
        · rcases Nat.lt_or_ge (seekT (fun p => p.len) l off).1 l.flat.length with q | q
          · exact q
          · rw [List.getElem?_eq_none q] at c4; cases c4
    · by_cases c2 : off - l.rns < p.len
      · simp only [if_neg c1, if_pos c2, AT.flat, AT.its]
        refine ⟨by omega, ?_, ?_⟩
        · rw [List.take_append_of_le_length (by omega), List.take_of_length_le (by omega), ← AT.rns_lsum]; omega
        · rcases Int.lt_or_le 0 (off - l.rns) with q | q
          · refine .inr ⟨q, c2, ?_⟩
            rw [List.getElem?_append_right (by omega), hl, Nat.sub_self, List.getElem?_cons_zero]
          · exact .inl (by omega)
      · obtain ⟨a, b, c⟩ := seek_at r (off - l.rns - p.len) hpr (by omega) (by omega)
        simp only [if_neg c1, if_neg c2, AT.flat, AT.its]
        obtain ⟨j, hj⟩ : ∃ j, (seekT (fun p => p.len) r (off - l.rns - p.len)).1 = j := ⟨_, rfl⟩
        rw [hj] at a b c ⊢
        refine ⟨by omega, ?_, ?_⟩
        · rw [show j + (l.its + 1) = l.flat.length + (j + 1) by omega, List.take_length_add_append, List.take_succ_cons, lsum_app, lsum_cons, b, ← AT.rns_lsum]; omega
        · rcases c with c | ⟨c3, c4, c5⟩
          · exact .inl c
          · refine .inr ⟨c3, c4, ?_⟩
            rw [List.getElem?_append_right (by omega), show j + (l.its + 1) - l.flat.length = j + 1 by omega, List.getElem?_cons_succ]
            exact c5

theorem rankL_char : ∀ (xs : List It) (R : Nat) (off : Int), (∀ x ∈ xs, 1 ≤ x.pc.len) → R ≤ xs.length → total (xs.take R) = off → rankL xs off = R
  | xs, 0, off, _, _, h => by
    rw [List.take_zero] at h
    exact rankL_low xs off (by simp [total] at h; omega)
  | [], R + 1, off, _, h, _ => by simp at h
  | x :: xs, R + 1, off, hp, hR, h => by
    have hx := hp x (by simp)
    rw [List.take_succ_cons] at h
    simp only [total] at h
    have hn : 0 ≤ total (xs.take R) := by
      rw [total_lsum]
      have : ∀ y ∈ xs.take R, 1 ≤ y.pc.len := fun y hy => hp y (by simp [List.mem_of_mem_take hy])
      generalize xs.take R = ys at this
      induction ys with
      | nil => simp [lsum]
      | cons y ys ih => rw [List.map_cons, lsum_cons]; have := this y (by simp); have := ih (fun z hz => by rename_i h9; exact h9 z (by simp [hz])); omega
    rw [rankL, if_neg (by omega), rankL_char xs R (off - x.pc.len) (fun y hy => hp y (by simp [hy])) (by simpa using hR) (by omega)]
    omega

theorem brk_bdl (l : List Int) : 0 ≤ brk l ∧ brk l ≤ l.length := by
  unfold brk
  have := List.length_filter_le (fun z => z == (10 : Int)) l
  omega
theorem take_mid (A B : List Pc) (x : Pc) (n : Nat) (h : A.length = n) : (A ++ x :: B).take (n + 1) = A ++ [x] := by
  subst h
  rw [List.take_length_add_append]; rfl
/-- The piece of a span of a store. -/
def pcAt (S : List Int) (o n : Int) : Pc := ⟨o, n, brk ((S.drop o.toNat).take n.toNat)⟩
theorem pcAt_wp {S : List Int} {o n : Int} (h0 : 0 ≤ o) (h1 : 0 ≤ n) (h : o + n ≤ S.length) : WP S (pcAt S o n) := ⟨h0, h1, h, rfl⟩
theorem pcAt_ok {S : List Int} {o n : Int} (h0 : 0 ≤ o) (h1 : 1 ≤ n) (h2 : n ≤ 8192) (h : o + n ≤ S.length) (hS : S.length ≤ 220000) : pcOk (pcAt S o n) = true := by
  have hb := brk_bdl ((S.drop o.toNat).take n.toNat)
  have hl : ((S.drop o.toNat).take n.toNat).length ≤ n.toNat := by rw [List.length_take]; omega
  have hk : pcOk (pcAt S o n) = decide (1 ≤ n ∧ n ≤ 8192 ∧ 0 ≤ o ∧ o + n ≤ 220000 ∧ 0 ≤ brk ((S.drop o.toNat).take n.toNat) ∧ brk ((S.drop o.toNat).take n.toNat) ≤ n) := rfl
  rw [hk, decide_eq_true_eq]
  omega
def skR (T : AT) (off : Int) : Nat := (seekT (fun p => p.len) T off).1
def skI (T : AT) (off : Int) : Int := (seekT (fun p => p.len) T off).2.2.2.1
def skP (T : AT) (off : Int) : Pc := seekP (fun p => p.len) T off
/-- A tree none of whose pieces goes on over an offset. -/
def cutP (S : List Int) (T : AT) (off : Int) : AT := if skI T off = 0 then T else (T.put (skR T off) (pcAt S (skP T off).off (skI T off))).ins (skR T off + 1) (pcAt S ((skP T off).off + skI T off) ((skP T off).len - skI T off))
def cutN (T : AT) (off : Int) : Nat := skR T off + (if skI T off = 0 then 0 else 1)

theorem flat_pos {T : AT} (h : T.ok) : ∀ p ∈ T.flat, 1 ≤ p.len := fun p hp => by
  have := h.1 p hp
  simp only [pcOk, decide_eq_true_eq] at this
  omega
theorem told_pos {T : AT} (h : T.ok) : ∀ x ∈ T.told 0, 1 ≤ x.pc.len := fun x hx => flat_pos h _ (by rw [← AT.flat_of T 0]; exact List.mem_map.2 ⟨x, hx, rfl⟩)
theorem cutN_rank {T : AT} {off : Int} (h : T.ok) (h0 : 0 ≤ off) (h1 : off ≤ T.rns) : cutN T off = rankL (T.told 0) off := (rank_seek T off (told_pos h) h0 h1).symm
theorem sk_at {T : AT} {off : Int} (h : T.ok) (h0 : 0 ≤ off) (h1 : off ≤ T.rns) :
    skR T off ≤ T.its ∧ lsum (T.flat.take (skR T off)) = off - skI T off ∧ (skI T off = 0 ∨ (0 < skI T off ∧ skI T off < (skP T off).len ∧ T.flat[skR T off]? = some (skP T off))) := seek_at T off (flat_pos h) h0 h1
theorem split_at {F : List Pc} {r : Nat} {p : Pc} (h : F[r]? = some p) : F = F.take r ++ p :: F.drop (r + 1) ∧ r < F.length := by
  have hr : r < F.length := by
    rcases Nat.lt_or_ge r F.length with q | q
    · exact q
    · rw [List.getElem?_eq_none q] at h; cases h
  refine ⟨?_, hr⟩
  have e : F[r] = p := by rw [List.getElem?_eq_getElem hr] at h; exact Option.some.inj h
  rw [← e]
  exact (List.take_append_drop r F).symm.trans (by rw [List.drop_eq_getElem_cons hr])
theorem put_flat' (T : AT) (r : Nat) (e p : Pc) (h : T.flat[r]? = some p) : (T.put r e).flat = T.flat.take r ++ e :: T.flat.drop (r + 1) := by
  obtain ⟨h1, h2⟩ := split_at h
  rw [AT.put_flat T r e (by rw [← AT.flat_its]; exact h2), List.set_eq_take_append_cons_drop, if_pos h2]
theorem cutP_flat {S : List Int} {T : AT} {off : Int} (h : T.ok) (h0 : 0 ≤ off) (h1 : off ≤ T.rns) (hi : skI T off ≠ 0) :
    (cutP S T off).flat = T.flat.take (skR T off) ++ pcAt S (skP T off).off (skI T off) :: pcAt S ((skP T off).off + skI T off) ((skP T off).len - skI T off) :: T.flat.drop (skR T off + 1) := by
  obtain ⟨a, b, c⟩ := sk_at h h0 h1
  obtain ⟨c1, c2, c3⟩ := c.resolve_left hi
  have hr := (split_at c3).2
  have hpf := put_flat' T (skR T off) (pcAt S (skP T off).off (skI T off)) _ c3
  have hlt : (T.flat.take (skR T off)).length = skR T off := by rw [List.length_take]; omega
  rw [cutP, if_neg hi, AT.ins_flat _ _ _ (by rw [AT.put_its, ← AT.flat_its]; omega), hpf]
  have e1 : (T.flat.take (skR T off) ++ pcAt S (skP T off).off (skI T off) :: T.flat.drop (skR T off + 1)).take (skR T off + 1) = T.flat.take (skR T off) ++ [pcAt S (skP T off).off (skI T off)] := take_mid _ _ _ _ hlt
  have e2 : (T.flat.take (skR T off) ++ pcAt S (skP T off).off (skI T off) :: T.flat.drop (skR T off + 1)).drop (skR T off + 1) = T.flat.drop (skR T off + 1) := by
    have : ∀ (A B : List Pc) (x : Pc) (n : Nat), A.length = n → (A ++ x :: B).drop (n + 1) = B := by
      intro A B x n hn
      subst hn
      rw [List.drop_length_add_append]; rfl
    exact this _ _ _ _ hlt
  rw [e1, e2, List.append_assoc]
  rfl
theorem cutP_len {S : List Int} {T : AT} {off : Int} (h : T.ok) (h0 : 0 ≤ off) (h1 : off ≤ T.rns) : lsum (cutP S T off).flat = lsum T.flat := by
  by_cases hi : skI T off = 0
  · rw [cutP, if_pos hi]
  · obtain ⟨a, b, c⟩ := sk_at h h0 h1
    obtain ⟨c1, c2, c3⟩ := c.resolve_left hi
    rw [cutP_flat h h0 h1 hi, lsum_app, lsum_cons, lsum_cons]
    conv => rhs; rw [(split_at c3).1]
    rw [lsum_app, lsum_cons]
    simp only [pcAt]
    omega
theorem cutP_wp {S : List Int} {T : AT} {off : Int} (h : T.ok) (hw : T.wp S) (h0 : 0 ≤ off) (h1 : off ≤ T.rns) : (cutP S T off).wp S := by
  by_cases hi : skI T off = 0
  · rw [cutP, if_pos hi]; exact hw
  · obtain ⟨a, b, c⟩ := sk_at h h0 h1
    obtain ⟨c1, c2, c3⟩ := c.resolve_left hi
    have hF := (wp_flat S T).1 hw
    have hp := hF _ (List.mem_of_getElem? c3)
    refine (wp_flat S _).2 fun q hq => ?_
    rw [cutP_flat h h0 h1 hi] at hq
    simp only [List.mem_append, List.mem_cons] at hq
    rcases hq with hq | rfl | rfl | hq
    · exact hF q (List.mem_of_mem_take hq)
    · exact pcAt_wp hp.1 (by omega) (by have := hp.2.2.1; omega)
    · exact pcAt_wp (by have := hp.1; omega) (by omega) (by have := hp.2.2.1; omega)
    · exact hF q (List.mem_of_mem_drop hq)
theorem cutP_ok {S : List Int} {T : AT} {off : Int} (h : T.ok) (hw : T.wp S) (hS : S.length ≤ 220000) (h0 : 0 ≤ off) (h1 : off ≤ T.rns) : (cutP S T off).ok := by
  refine ⟨fun q hq => ?_, by rw [AT.rns_lsum, cutP_len h h0 h1, ← AT.rns_lsum]; exact h.2⟩
  by_cases hi : skI T off = 0
  · rw [cutP, if_pos hi] at hq; exact h.1 q hq
  · obtain ⟨a, b, c⟩ := sk_at h h0 h1
    obtain ⟨c1, c2, c3⟩ := c.resolve_left hi
    have hp := (wp_flat S T).1 hw _ (List.mem_of_getElem? c3)
    have hk := h.1 _ (List.mem_of_getElem? c3)
    simp only [pcOk, decide_eq_true_eq] at hk
    have hp3 := hp.2.2.1
    rw [cutP_flat h h0 h1 hi] at hq
    simp only [List.mem_append, List.mem_cons] at hq
    rcases hq with hq | rfl | rfl | hq
    · exact h.1 q (List.mem_of_mem_take hq)
    · exact pcAt_ok (by omega) (by omega) (by omega) (by omega) hS
    · exact pcAt_ok (by omega) (by omega) (by omega) (by omega) hS
    · exact h.1 q (List.mem_of_mem_drop hq)
theorem cutP_bal {S : List Int} {T : AT} {off : Int} (hb : T.bal) : (cutP S T off).bal := by
  unfold cutP
  split
  · exact hb
  · exact (AT.ins_bal _ _ _ (AT.put_bal _ _ _ hb)).1
theorem cutN_at {S : List Int} {T : AT} {off : Int} (h : T.ok) (h0 : 0 ≤ off) (h1 : off ≤ T.rns) : cutN T off ≤ (cutP S T off).its ∧ lsum ((cutP S T off).flat.take (cutN T off)) = off := by
  obtain ⟨a, b, c⟩ := sk_at h h0 h1
  by_cases hi : skI T off = 0
  · rw [cutP, if_pos hi, cutN, if_pos hi]
    exact ⟨a, by rw [Nat.add_zero, b]; omega⟩
  · obtain ⟨c1, c2, c3⟩ := c.resolve_left hi
    have hr := (split_at c3).2
    have hlt : (T.flat.take (skR T off)).length = skR T off := by rw [List.length_take]; omega
    rw [← AT.flat_its, cutP_flat h h0 h1 hi, cutN, if_neg hi]
    constructor
    · simp only [List.length_append, List.length_cons]; omega
    · rw [take_mid _ _ _ _ hlt, lsum_app, lsum_cons, lsum_nil, b]
      simp only [pcAt]; omega
/-- The rank in the cut tree is the same. -/
theorem cut_rank {S : List Int} {T : AT} {off : Int} (h : T.ok) (hw : T.wp S) (hS : S.length ≤ 220000) (h0 : 0 ≤ off) (h1 : off ≤ T.rns) : rankL ((cutP S T off).told 0) off = cutN T off := by
  obtain ⟨a, b⟩ := cutN_at (S := S) h h0 h1
  exact rankL_char _ _ _ (told_pos (cutP_ok h hw hS h0 h1)) (by rw [AT.told_length]; exact a) (by rw [total_take]; exact b)
end Go.Proofs.YtbgngikejgihgagGreatDoor

namespace Go.Proofs.YtbgngikejgihgagGreatDoor
open Go Go.RowKit
set_option linter.unusedVariables false

theorem lsum_nn {F : List Pc} (h : ∀ p ∈ F, 1 ≤ p.len) : 0 ≤ lsum F := by
  induction F with
  | nil => simp [lsum]
  | cons p F ih => rw [lsum_cons]; have := h p (by simp); have := ih (fun q hq => h q (by simp [hq])); omega
theorem len_le_lsum {F : List Pc} {r : Nat} {p : Pc} (h : ∀ p ∈ F, 1 ≤ p.len) (hr : F[r]? = some p) : p.len ≤ lsum F := by
  have e := (split_at hr).1
  have h1 := lsum_nn (F := F.take r) (fun q hq => h q (List.mem_of_mem_take hq))
  have h2 := lsum_nn (F := F.drop (r + 1)) (fun q hq => h q (List.mem_of_mem_drop hq))
  have : lsum F = lsum (F.take r) + (p.len + lsum (F.drop (r + 1))) := by
    conv => lhs; rw [e]
    rw [lsum_app, lsum_cons]
  omega
/-- The piece ahead of a rank. -/
def ahead (T : AT) (R : Nat) : Pc := T.flat.getD (R - 1) ⟨0, 0, 0⟩
theorem ahead_at {T : AT} {R : Nat} (h0 : 0 < R) (h : R ≤ T.its) : T.flat[R - 1]? = some (ahead T R) := by
  have := AT.flat_its T
  rw [ahead, List.getD_eq_getElem?_getD, List.getElem?_eq_getElem (by omega)]
  rfl
def meetB (n : Nat) (T : AT) (R : Nat) : Bool := decide (0 < R ∧ (ahead T R).off + (ahead T R).len = (n : Int))
/-- A new piece put into a cut tree: a longer one, or one more. -/
def addP (S : List Int) (n : Nat) (T : AT) (R : Nat) : AT :=
  if meetB n T R = true then T.put (R - 1) (pcAt S (ahead T R).off ((ahead T R).len + ((S.length : Int) - n))) else T.ins R (pcAt S n ((S.length : Int) - n))
def insP (S : List Int) (n : Nat) (T : AT) (off : Int) : AT := addP S n (cutP S T off) (cutN T off)

theorem addP_ok {S : List Int} {n : Nat} {T : AT} {R : Nat} (h : T.ok) (hw : T.wp S) (hR : R ≤ T.its) (hn : n < S.length) (hS : S.length ≤ 220000) (hr : T.rns + ((S.length : Int) - n) ≤ 8192) : (addP S n T R).ok := by
  have hp := flat_pos h
  have hnn := lsum_nn hp
  rw [AT.rns_lsum] at hr
  unfold addP
  split
  · rename_i hm
    simp only [meetB, decide_eq_true_eq] at hm
    have ha := ahead_at hm.1 hR
    have hlen := len_le_lsum hp ha
    have hk := h.1 _ (List.mem_of_getElem? ha)
    simp only [pcOk, decide_eq_true_eq] at hk
    have hf := put_flat' T (R - 1) (pcAt S (ahead T R).off ((ahead T R).len + ((S.length : Int) - n))) _ ha
    refine ⟨fun q hq => ?_, ?_⟩
    · rw [hf] at hq
      simp only [List.mem_append, List.mem_cons] at hq
      rcases hq with hq | rfl | hq
      · exact h.1 q (List.mem_of_mem_take hq)
      · exact pcAt_ok (by omega) (by omega) (by omega) (by omega) hS
      · exact h.1 q (List.mem_of_mem_drop hq)
    · rw [AT.rns_lsum, hf, lsum_app, lsum_cons]
      have e := (split_at ha).1
      have : lsum T.flat = lsum (T.flat.take (R - 1)) + ((ahead T R).len + lsum (T.flat.drop (R - 1 + 1))) := by
        conv => lhs; rw [e]
        rw [lsum_app, lsum_cons]
      simp only [pcAt]
      omega
  · refine ⟨fun q hq => ?_, ?_⟩
    · rw [AT.ins_flat _ _ _ hR] at hq
      simp only [List.mem_append, List.mem_cons] at hq
      rcases hq with hq | rfl | hq
      · exact h.1 q (List.mem_of_mem_take hq)
      · exact pcAt_ok (by omega) (by omega) (by omega) (by omega) hS
      · exact h.1 q (List.mem_of_mem_drop hq)
    · rw [AT.rns_lsum, AT.ins_flat _ _ _ hR, lsum_app, lsum_cons]
      have : lsum T.flat = lsum (T.flat.take R) + lsum (T.flat.drop R) := by rw [← lsum_app, List.take_append_drop]
      simp only [pcAt]
      omega
theorem addP_bal {S : List Int} {n : Nat} {T : AT} {R : Nat} (hb : T.bal) : (addP S n T R).bal := by
  unfold addP
  split
  · exact AT.put_bal _ _ _ hb
  · exact (AT.ins_bal _ _ _ hb).1
theorem insP_ok {S : List Int} {n : Nat} {T : AT} {off : Int} (h : T.ok) (hw : T.wp S) (h0 : 0 ≤ off) (h1 : off ≤ T.rns) (hn : n < S.length) (hS : S.length ≤ 220000) (hr : T.rns + ((S.length : Int) - n) ≤ 8192) : (insP S n T off).ok :=
  addP_ok (cutP_ok h hw hS h0 h1) (cutP_wp h hw h0 h1) (cutN_at h h0 h1).1 hn hS (by rw [AT.rns_lsum, cutP_len h h0 h1, ← AT.rns_lsum]; exact hr)
theorem insP_bal {S : List Int} {n : Nat} {T : AT} {off : Int} (hb : T.bal) : (insP S n T off).bal := addP_bal (cutP_bal hb)
end Go.Proofs.YtbgngikejgihgagGreatDoor

namespace Go.Proofs.YtbgngikejgihgagGreatDoor
open Go Go.RowKit
set_option linter.unusedVariables false

theorem Nd.other {w : World} {b : Nat} {p : Pc} {l r : Option Addr} {h i n k : Int} (hn : Nd w b p l r h i n k) (a : Addr) (v : Value) (hne : b ≠ a.block) : Nd (w.setCell a v) b p l r h i n k := by
  unfold Nd at hn ⊢; rw [heap_setCell_other _ _ _ _ hne]; exact hn
theorem Lies.other {w : World} {base : Nat} {T : AT} {u : Option Addr} {bs : List Nat} (h : Lies w base T u bs) (a : Addr) (v : Value) (hne : a.block ∉ bs) : Lies (w.setCell a v) base T u bs :=
  h.frame fun b hb => heap_setCell_other _ _ _ _ (fun e => hne (e ▸ hb))

/-- A node that counts what it holds. -/
def NdT (w : World) (b : Nat) (L : AT) (p : Pc) (R : AT) (l r : Option Addr) : Prop := Nd w b p l r (1 + max (L.ht : Int) R.ht) (L.its + 1 + R.its) (L.rns + p.len + R.rns) (L.bks + p.brk + R.bks)
theorem Lies.mk {w : World} {base b : Nat} {L : AT} {p : Pc} {R : AT} {ul ur : Option Addr} {bl br : List Nat} (hb : base ≤ b) (h : NdT w b L p R ul ur) (hL : Lies w base L ul bl) (hR : Lies w base R ur br) : Lies w base (.node L p R) (some ⟨b, 0, none⟩) (b :: (bl ++ br)) :=
  ⟨b, ul, ur, bl, br, rfl, hb, h, hL, hR, rfl⟩

end Go.Proofs.YtbgngikejgihgagGreatDoor

namespace Go.Proofs.YtbgngikejgihgagGreatDoor
open Go Go.RowKit
set_option linter.unusedVariables false

/-- What repair answers. -/
def RepPost (base : Nat) (T : AT) (bs : List Nat) (w : World) (e : Ending) (w' : World) : Prop :=
  ∃ u' bs', e = .returned (.pointer u') ∧ Lies w' base T u' bs' ∧ bs'.Perm bs ∧ Chg bs w w'

theorem RepPost.mk {base : Nat} {T : AT} {bs : List Nat} {w w' : World} (u' : Option Addr) (bs' : List Nat) (h1 : Lies w' base T u' bs') (h2 : bs'.Perm bs) (h3 : Chg bs w w') : RepPost base T bs w (.returned (.pointer u')) w' := ⟨u', bs', rfl, h1, h2, h3⟩

end Go.Proofs.YtbgngikejgihgagGreatDoor

namespace Go.Proofs.YtbgngikejgihgagGreatDoor
open Go Go.RowKit
set_option linter.unusedVariables false

/-- What a call that changes a tree answers. -/
def MutPost (base : Nat) (T : AT) (bs : List Nat) (w : World) (e : Ending) (w' : World) : Prop :=
  ∃ u' bs', e = .returned (.pointer u') ∧ Lies w' base T u' bs' ∧ bs'.Nodup ∧ (∀ x ∈ bs', x ∈ bs ∨ w.heap.size ≤ x) ∧ Chg bs w w'

theorem sum_sub {a b : List Pc} (h : a.Sublist b) (hp : ∀ p ∈ b, pcOk p = true) : (a.map (fun p => p.len)).sum ≤ (b.map (fun p => p.len)).sum := by
  induction h with
  | slnil => simp
  | cons x h ih =>
    have := ih (fun p hq => hp p (by simp [hq]))
    have hx := hp x (by simp)
    simp only [pcOk, decide_eq_true_eq] at hx
    simp only [List.map_cons, List.sum_cons]; omega
  | cons_cons x h ih =>
    have := ih (fun p hq => hp p (by simp [hq]))
    simp only [List.map_cons, List.sum_cons]; omega
theorem AT.ok.sub {S T : AT} (h : T.ok) (hs : S.flat.Sublist T.flat) : S.ok :=
  ⟨fun p hp => h.1 p (hs.subset hp), by have h1 := sum_sub hs h.1; have h2 := h.2; rw [AT.rns_of_flat] at h2 ⊢; omega⟩

end Go.Proofs.YtbgngikejgihgagGreatDoor
