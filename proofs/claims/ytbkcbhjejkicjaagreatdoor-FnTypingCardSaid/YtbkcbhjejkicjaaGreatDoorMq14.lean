import Derived.Test.YtbkcbhjejkicjaaGreatDoorMq13
namespace Go.Proofs.YtbkcbhjejkicjaaGreatDoor
open Go Go.RowKit
set_option linter.unusedVariables false

def lsum (F : List Pc) : Int := (F.map (fun p => p.len)).sum
theorem lsum_nil : lsum [] = 0 := rfl
theorem lsum_cons (p : Pc) (F : List Pc) : lsum (p :: F) = p.len + lsum F := by simp [lsum]
theorem lsum_app (F G : List Pc) : lsum (F ++ G) = lsum F + lsum G := by simp [lsum]
theorem AT.rns_lsum (T : AT) : T.rns = lsum T.flat := AT.rns_of_flat T
theorem AT.flat_its : ∀ T : AT, T.flat.length = T.its
  | .nil => rfl
  | .node l p r => by simp only [AT.flat, List.length_append, List.length_cons, AT.flat_its l, AT.flat_its r, AT.its]; omega
theorem AT.flat_of : ∀ (T : AT) (d : Int), (T.told d).map It.pc = T.flat
  | .nil, _ => rfl
  | .node l p r, d => by simp only [AT.told, List.map_append, List.map_cons, AT.flat, AT.flat_of l, AT.flat_of r]
theorem total_lsum : ∀ xs : List It, total xs = lsum (xs.map It.pc)
  | [] => rfl
  | x :: xs => by rw [List.map_cons, lsum_cons, total, total_lsum xs]
theorem total_take (T : AT) (k : Nat) : total ((T.told 0).take k) = lsum (T.flat.take k) := by rw [total_lsum, List.map_take, AT.flat_of]
theorem wp_flat (S : List Int) : ∀ T : AT, T.wp S ↔ ∀ p ∈ T.flat, WP S p
  | .nil => by simp [AT.wp, AT.flat]
  | .node l p r => by
    have h1 := wp_flat S l
    have h2 := wp_flat S r
    simp only [AT.wp, AT.flat, List.mem_append, List.mem_cons]
    constructor
    · rintro ⟨a, b, c⟩ q (h | rfl | h)
      · exact h1.1 a q h
      · exact b
      · exact h2.1 c q h
    · intro h
      exact ⟨h1.2 fun q hq => h q (.inl hq), h p (.inr (.inl rfl)), h2.2 fun q hq => h q (.inr (.inr hq))⟩
theorem WP.app {zs : List Int} {p : Pc} (h : WP zs p) (ts : List Int) : WP (zs ++ ts) p := by
  obtain ⟨h1, h2, h3, h4⟩ := h
  refine ⟨h1, h2, by rw [List.length_append]; omega, ?_⟩
  rw [h4]
  unfold ptx
  rw [List.drop_append_of_le_length (by omega), List.take_append_of_le_length (by rw [List.length_drop]; omega)]
theorem AT.wp.app {zs : List Int} {T : AT} (h : T.wp zs) (ts : List Int) : T.wp (zs ++ ts) := (wp_flat _ T).2 fun p hp => ((wp_flat _ T).1 h p hp).app ts

/-- Where a search by runes comes out. -/
theorem seek_at : ∀ (T : AT) (off : Int), (∀ p ∈ T.flat, 1 ≤ p.len) → 0 ≤ off → off ≤ T.rns →
    (seekT (fun p => p.len) T off).1 ≤ T.its ∧ lsum (T.flat.take (seekT (fun p => p.len) T off).1) = off - (seekT (fun p => p.len) T off).2.2.2.1 ∧
    ((seekT (fun p => p.len) T off).2.2.2.1 = 0 ∨ (0 < (seekT (fun p => p.len) T off).2.2.2.1 ∧ (seekT (fun p => p.len) T off).2.2.2.1 < (seekP (fun p => p.len) T off).len ∧ T.flat[(seekT (fun p => p.len) T off).1]? = some (seekP (fun p => p.len) T off)))
  | .nil, off, _, h0, h1 => by
    have : off = 0 := by simp only [AT.rns] at h1; omega
    subst this
    simp [seekT, AT.its, AT.flat, lsum]
  | .node l p r, off, hp, h0, h1 => by
    have e0 : sumM (fun p => p.len) (l.told 0) = l.rns := by rw [sumM_len, AT.rns_told]
    have hl := AT.flat_its l
    have hpl : ∀ q ∈ l.flat, 1 ≤ q.len := fun q hq => hp q (by simp [AT.flat, hq])
    have hpr : ∀ q ∈ r.flat, 1 ≤ q.len := fun q hq => hp q (by simp [AT.flat, hq])
    have ern : (AT.node l p r).rns = l.rns + p.len + r.rns := rfl
    have hpp := hp p (by simp [AT.flat])
    simp only [seekT, seekP, e0]
    by_cases c1 : off < l.rns
    · obtain ⟨a, b, c⟩ := seek_at l off hpl h0 (by omega)
      simp only [if_pos c1, AT.flat, AT.its]
      refine ⟨by omega, by rw [List.take_append_of_le_length (by omega)]; exact b, ?_⟩
      rcases c with c | ⟨c2, c3, c4⟩
      · exact .inl c
      · refine .inr ⟨c2, c3, ?_⟩
        rw [List.getElem?_append_left]
        · exact c4
        · rcases Nat.lt_or_ge (seekT (fun p => p.len) l off).1 l.flat.length with q | q
          · exact q
          · rw [List.getElem?_eq_none q] at c4; cases c4
    · by_cases c2 : off - l.rns < p.len
      · simp only [if_neg c1, if_pos c2, AT.flat, AT.its]
        refine ⟨by omega, ?_, ?_⟩
        · rw [List.take_append_of_le_length (by omega), List.take_of_length_le (by omega), ← AT.rns_lsum]; omega
        · rcases Int.lt_or_le 0 (off - l.rns) with q | q
          · refine .inr ⟨q, c2, ?_⟩
            rw [List.getElem?_append_right (by omega), hl, Nat.sub_self, List.getElem?_cons_zero]
          · exact .inl (by omega)
      · obtain ⟨a, b, c⟩ := seek_at r (off - l.rns - p.len) hpr (by omega) (by omega)
        simp only [if_neg c1, if_neg c2, AT.flat, AT.its]
        obtain ⟨j, hj⟩ : ∃ j, (seekT (fun p => p.len) r (off - l.rns - p.len)).1 = j := ⟨_, rfl⟩
        rw [hj] at a b c ⊢
        refine ⟨by omega, ?_, ?_⟩
        · rw [show j + (l.its + 1) = l.flat.length + (j + 1) by omega, List.take_length_add_append, List.take_succ_cons, lsum_app, lsum_cons, b, ← AT.rns_lsum]; omega
        · rcases c with c | ⟨c3, c4, c5⟩
          · exact .inl c
          · refine .inr ⟨c3, c4, ?_⟩
            rw [List.getElem?_append_right (by omega), show j + (l.its + 1) - l.flat.length = j + 1 by omega, List.getElem?_cons_succ]
            exact c5

theorem brk_bdl (l : List Int) : 0 ≤ brk l ∧ brk l ≤ l.length := by
  unfold brk
  have := List.length_filter_le (fun z => z == (10 : Int)) l
  omega
theorem take_mid (A B : List Pc) (x : Pc) (n : Nat) (h : A.length = n) : (A ++ x :: B).take (n + 1) = A ++ [x] := by
  subst h
  rw [List.take_length_add_append]; rfl
/-- The piece of a span of a store. -/
def pcAt (S : List Int) (o n : Int) : Pc := ⟨o, n, brk ((S.drop o.toNat).take n.toNat)⟩
theorem pcAt_of {S : List Int} {p : Pc} (h : WP S p) : pcAt S p.off p.len = p := by
  obtain ⟨h1, h2, h3, h4⟩ := h
  obtain ⟨a, b, c⟩ := p
  simp only [pcAt, ptx] at *
  rw [h4]
theorem pcAt_wp {S : List Int} {o n : Int} (h0 : 0 ≤ o) (h1 : 0 ≤ n) (h : o + n ≤ S.length) : WP S (pcAt S o n) := ⟨h0, h1, h, rfl⟩
theorem pcAt_ok {S : List Int} {o n : Int} (h0 : 0 ≤ o) (h1 : 1 ≤ n) (h2 : n ≤ 8192) (h : o + n ≤ S.length) (hS : S.length ≤ 220000) : pcOk (pcAt S o n) = true := by
  have hb := brk_bdl ((S.drop o.toNat).take n.toNat)
  have hl : ((S.drop o.toNat).take n.toNat).length ≤ n.toNat := by rw [List.length_take]; omega
  have hk : pcOk (pcAt S o n) = decide (1 ≤ n ∧ n ≤ 8192 ∧ 0 ≤ o ∧ o + n ≤ 220000 ∧ 0 ≤ brk ((S.drop o.toNat).take n.toNat) ∧ brk ((S.drop o.toNat).take n.toNat) ≤ n) := rfl
  rw [hk, decide_eq_true_eq]
  omega
/-- A piece made longer by its neighbour in the store. -/
theorem pcAt_with {S : List Int} {p : Pc} (h : WP S p) {o m : Int} (hm : p.off + p.len = o) (h0 : 0 ≤ m) : (⟨p.off, p.len + m, p.brk + brk ((S.drop o.toNat).take m.toNat)⟩ : Pc) = pcAt S p.off (p.len + m) := by
  obtain ⟨h1, h2, h3, h4⟩ := h
  subst hm
  unfold pcAt
  congr 1
  rw [h4, show (p.len + m).toNat = p.len.toNat + m.toNat by omega, List.take_add, brk_append, List.drop_drop, show (p.off + p.len).toNat = p.off.toNat + p.len.toNat by omega]
  rfl

def skR (T : AT) (off : Int) : Nat := (seekT (fun p => p.len) T off).1
def skI (T : AT) (off : Int) : Int := (seekT (fun p => p.len) T off).2.2.2.1
def skP (T : AT) (off : Int) : Pc := seekP (fun p => p.len) T off
/-- A tree none of whose pieces goes on over an offset. -/
def cutP (S : List Int) (T : AT) (off : Int) : AT := if skI T off = 0 then T else (T.put (skR T off) (pcAt S (skP T off).off (skI T off))).ins (skR T off + 1) (pcAt S ((skP T off).off + skI T off) ((skP T off).len - skI T off))
def cutN (T : AT) (off : Int) : Nat := skR T off + (if skI T off = 0 then 0 else 1)

theorem flat_pos {T : AT} (h : T.ok) : ∀ p ∈ T.flat, 1 ≤ p.len := fun p hp => by
  have := h.1 p hp
  simp only [pcOk, decide_eq_true_eq] at this
  omega
theorem sk_at {T : AT} {off : Int} (h : T.ok) (h0 : 0 ≤ off) (h1 : off ≤ T.rns) :
    skR T off ≤ T.its ∧ lsum (T.flat.take (skR T off)) = off - skI T off ∧ (skI T off = 0 ∨ (0 < skI T off ∧ skI T off < (skP T off).len ∧ T.flat[skR T off]? = some (skP T off))) := seek_at T off (flat_pos h) h0 h1
theorem split_at {F : List Pc} {r : Nat} {p : Pc} (h : F[r]? = some p) : F = F.take r ++ p :: F.drop (r + 1) ∧ r < F.length := by
  have hr : r < F.length := by
    rcases Nat.lt_or_ge r F.length with q | q
    · exact q
    · rw [List.getElem?_eq_none q] at h; cases h
  refine ⟨?_, hr⟩
  have e : F[r] = p := by rw [List.getElem?_eq_getElem hr] at h; exact Option.some.inj h
  rw [← e]
  exact (List.take_append_drop r F).symm.trans (by rw [List.drop_eq_getElem_cons hr])
theorem put_flat' (T : AT) (r : Nat) (e p : Pc) (h : T.flat[r]? = some p) : (T.put r e).flat = T.flat.take r ++ e :: T.flat.drop (r + 1) := by
  obtain ⟨h1, h2⟩ := split_at h
  rw [AT.put_flat T r e (by rw [← AT.flat_its]; exact h2), List.set_eq_take_append_cons_drop, if_pos h2]
theorem cutP_flat {S : List Int} {T : AT} {off : Int} (h : T.ok) (h0 : 0 ≤ off) (h1 : off ≤ T.rns) (hi : skI T off ≠ 0) :
    (cutP S T off).flat = T.flat.take (skR T off) ++ pcAt S (skP T off).off (skI T off) :: pcAt S ((skP T off).off + skI T off) ((skP T off).len - skI T off) :: T.flat.drop (skR T off + 1) := by
  obtain ⟨a, b, c⟩ := sk_at h h0 h1
  obtain ⟨c1, c2, c3⟩ := c.resolve_left hi
  have hr := (split_at c3).2
  have hpf := put_flat' T (skR T off) (pcAt S (skP T off).off (skI T off)) _ c3
  have hlt : (T.flat.take (skR T off)).length = skR T off := by rw [List.length_take]; omega
  rw [cutP, if_neg hi, AT.ins_flat _ _ _ (by rw [AT.put_its, ← AT.flat_its]; omega), hpf]
  have e1 : (T.flat.take (skR T off) ++ pcAt S (skP T off).off (skI T off) :: T.flat.drop (skR T off + 1)).take (skR T off + 1) = T.flat.take (skR T off) ++ [pcAt S (skP T off).off (skI T off)] := take_mid _ _ _ _ hlt
  have e2 : (T.flat.take (skR T off) ++ pcAt S (skP T off).off (skI T off) :: T.flat.drop (skR T off + 1)).drop (skR T off + 1) = T.flat.drop (skR T off + 1) := by
    have : ∀ (A B : List Pc) (x : Pc) (n : Nat), A.length = n → (A ++ x :: B).drop (n + 1) = B := by
      intro A B x n hn
      subst hn
      rw [List.drop_length_add_append]; rfl
    exact this _ _ _ _ hlt
  rw [e1, e2, List.append_assoc]
  rfl
theorem cutP_len {S : List Int} {T : AT} {off : Int} (h : T.ok) (h0 : 0 ≤ off) (h1 : off ≤ T.rns) : lsum (cutP S T off).flat = lsum T.flat := by
  by_cases hi : skI T off = 0
  · rw [cutP, if_pos hi]
  · obtain ⟨a, b, c⟩ := sk_at h h0 h1
    obtain ⟨c1, c2, c3⟩ := c.resolve_left hi
    rw [cutP_flat h h0 h1 hi, lsum_app, lsum_cons, lsum_cons]
    conv => rhs; rw [(split_at c3).1]
    rw [lsum_app, lsum_cons]
    simp only [pcAt]
    omega
theorem cutP_wp {S : List Int} {T : AT} {off : Int} (h : T.ok) (hw : T.wp S) (h0 : 0 ≤ off) (h1 : off ≤ T.rns) : (cutP S T off).wp S := by
  by_cases hi : skI T off = 0
  · rw [cutP, if_pos hi]; exact hw
  · obtain ⟨a, b, c⟩ := sk_at h h0 h1
    obtain ⟨c1, c2, c3⟩ := c.resolve_left hi
    have hF := (wp_flat S T).1 hw
    have hp := hF _ (List.mem_of_getElem? c3)
    refine (wp_flat S _).2 fun q hq => ?_
    rw [cutP_flat h h0 h1 hi] at hq
    simp only [List.mem_append, List.mem_cons] at hq
    rcases hq with hq | rfl | rfl | hq
    · exact hF q (List.mem_of_mem_take hq)
    · exact pcAt_wp hp.1 (by omega) (by have := hp.2.2.1; omega)
    · exact pcAt_wp (by have := hp.1; omega) (by omega) (by have := hp.2.2.1; omega)
    · exact hF q (List.mem_of_mem_drop hq)
theorem cutP_ok {S : List Int} {T : AT} {off : Int} (h : T.ok) (hw : T.wp S) (hS : S.length ≤ 220000) (h0 : 0 ≤ off) (h1 : off ≤ T.rns) : (cutP S T off).ok := by
  refine ⟨fun q hq => ?_, by rw [AT.rns_lsum, cutP_len h h0 h1, ← AT.rns_lsum]; exact h.2⟩
  by_cases hi : skI T off = 0
  · rw [cutP, if_pos hi] at hq; exact h.1 q hq
  · obtain ⟨a, b, c⟩ := sk_at h h0 h1
    obtain ⟨c1, c2, c3⟩ := c.resolve_left hi
    have hp := (wp_flat S T).1 hw _ (List.mem_of_getElem? c3)
    have hk := h.1 _ (List.mem_of_getElem? c3)
    simp only [pcOk, decide_eq_true_eq] at hk
    have hp3 := hp.2.2.1
    rw [cutP_flat h h0 h1 hi] at hq
    simp only [List.mem_append, List.mem_cons] at hq
    rcases hq with hq | rfl | rfl | hq
    · exact h.1 q (List.mem_of_mem_take hq)
    · exact pcAt_ok (by omega) (by omega) (by omega) (by omega) hS
    · exact pcAt_ok (by omega) (by omega) (by omega) (by omega) hS
    · exact h.1 q (List.mem_of_mem_drop hq)
theorem cutP_bal {S : List Int} {T : AT} {off : Int} (hb : T.bal) : (cutP S T off).bal := by
  unfold cutP
  split
  · exact hb
  · exact (AT.ins_bal _ _ _ (AT.put_bal _ _ _ hb)).1
theorem cutN_at {S : List Int} {T : AT} {off : Int} (h : T.ok) (h0 : 0 ≤ off) (h1 : off ≤ T.rns) : cutN T off ≤ (cutP S T off).its ∧ lsum ((cutP S T off).flat.take (cutN T off)) = off := by
  obtain ⟨a, b, c⟩ := sk_at h h0 h1
  by_cases hi : skI T off = 0
  · rw [cutP, if_pos hi, cutN, if_pos hi]
    exact ⟨a, by rw [Nat.add_zero, b]; omega⟩
  · obtain ⟨c1, c2, c3⟩ := c.resolve_left hi
    have hr := (split_at c3).2
    have hlt : (T.flat.take (skR T off)).length = skR T off := by rw [List.length_take]; omega
    rw [← AT.flat_its, cutP_flat h h0 h1 hi, cutN, if_neg hi]
    constructor
    · simp only [List.length_append, List.length_cons]; omega
    · rw [take_mid _ _ _ _ hlt, lsum_app, lsum_cons, lsum_nil, b]
      simp only [pcAt]; omega
end Go.Proofs.YtbkcbhjejkicjaaGreatDoor

namespace Go.Proofs.YtbkcbhjejkicjaaGreatDoor
open Go Go.RowKit
set_option linter.unusedVariables false

/-- The record of the search, as it lies: the element, what stands before, inside, seen. -/
def Fnd (w : World) (b : Nat) (x y z i n k d s : Int) : Prop := w.heap[b]? = some (.cells #[.int .i64 x, .int .i64 y, .int .i64 z, .int .i64 i, .int .i64 n, .int .i64 k, .int .i64 d, .int .i64 s] 323 (0, 0))
theorem Fnd.c {w : World} {b : Nat} {x y z i n k d s : Int} (h : Fnd w b x y z i n k d s) : w.cell? ⟨b, 0, none⟩ = some (.int .i64 x) ∧ w.cell? ⟨b, 1, none⟩ = some (.int .i64 y) ∧ w.cell? ⟨b, 2, none⟩ = some (.int .i64 z) ∧ w.cell? ⟨b, 3, none⟩ = some (.int .i64 i) ∧ w.cell? ⟨b, 4, none⟩ = some (.int .i64 n) ∧ w.cell? ⟨b, 5, none⟩ = some (.int .i64 k) ∧ w.cell? ⟨b, 6, none⟩ = some (.int .i64 d) ∧ w.cell? ⟨b, 7, none⟩ = some (.int .i64 s) := by
  refine ⟨?_, ?_, ?_, ?_, ?_, ?_, ?_, ?_⟩ <;> rw [cell_of_row w b _ _ _ _ h] <;> rfl
theorem Fnd.fz {w : World} {b : Nat} {x y z i n k d s : Int} (h : Fnd w b x y z i n k d s) (j : Nat) : w.frozen? ⟨b, j, none⟩ = false := frozen_of_row w b j _ _ h
theorem Fnd.lt {w : World} {b : Nat} {x y z i n k d s : Int} (h : Fnd w b x y z i n k d s) : b < w.heap.size := by
  rcases Nat.lt_or_ge b w.heap.size with h' | h'
  · exact h'
  · unfold Fnd at h; rw [Array.getElem?_eq_none h'] at h; cases h
theorem Fnd.set7 {w : World} {b : Nat} {x y z i n k d s : Int} (h : Fnd w b x y z i n k d s) (u : Int) : Fnd (w.setCell ⟨b, 7, none⟩ (.int .i64 u)) b x y z i n k d u := by
  unfold Fnd at h ⊢; rw [heap_setCell_same w b 7 _ _ _ h]; rfl
theorem Fnd.set345 {w : World} {b : Nat} {x y z i n k d s : Int} (h : Fnd w b x y z i n k d s) (u v t : Int) : Fnd (((w.setCell ⟨b, 3, none⟩ (.int .i64 u)).setCell ⟨b, 4, none⟩ (.int .i64 v)).setCell ⟨b, 5, none⟩ (.int .i64 t)) b x y z u v t d s := by
  unfold Fnd at h ⊢
  have h1 := heap_setCell_same w b 3 _ _ (.int .i64 u) h
  have h2 := heap_setCell_same _ b 4 _ _ (.int .i64 v) h1
  have h3 := heap_setCell_same _ b 5 _ _ (.int .i64 t) h2
  rw [h3]; rfl
theorem Fnd.below {B : Nat} {w w' : World} {b : Nat} {x y z i n k d s : Int} (h : Fnd w b x y z i n k d s) (hb : Below B w w') (hB : b < B) : Fnd w' b x y z i n k d s := (hb.block b hB).trans h

def fndV (x y z : Int) (r : Nat × Int × Int × Int × Int) : Value := .agg #[.int .i64 x, .int .i64 y, .int .i64 z, .int .i64 r.1, .int .i64 r.2.1, .int .i64 r.2.2.1, .int .i64 r.2.2.2.1, .int .i64 r.2.2.2.2]

/-- What a search from here adds to what was met before. -/
def seekAdd (m : Pc → Int) (T : AT) (k : Int) (i : Nat) (n b s : Int) : Nat × Int × Int × Int × Int :=
  ((seekT m T k).1 + i, (seekT m T k).2.1 + n, (seekT m T k).2.2.1 + b, (seekT m T k).2.2.2.1, (seekT m T k).2.2.2.2 + s)

theorem seekAdd_zero (m : Pc → Int) (T : AT) (k : Int) : seekT m T k = seekAdd m T k 0 0 0 0 := by simp [seekAdd]
theorem seekAdd_nil (m : Pc → Int) (k : Int) (i : Nat) (n b s : Int) : seekAdd m .nil k i n b s = (i, n, b, k, s) := by simp [seekAdd, seekT]
theorem seekAdd_left (m : Pc → Int) (l : AT) (p : Pc) (r : AT) (k : Int) (i : Nat) (n b s : Int) (h : k < sumM m (l.told 0)) : seekAdd m (.node l p r) k i n b s = seekAdd m l k i n b (s + 1) := by
  simp only [seekAdd, seekT, if_pos h]; simp; omega
theorem seekAdd_here (m : Pc → Int) (l : AT) (p : Pc) (r : AT) (k : Int) (i : Nat) (n b s : Int) (h : ¬ k < sumM m (l.told 0)) (h2 : k - sumM m (l.told 0) < m p) : seekAdd m (.node l p r) k i n b s = (i + l.its, n + l.rns, b + l.bks, k - sumM m (l.told 0), s + 1) := by
  simp only [seekAdd, seekT, if_neg h, if_pos h2]; simp; omega
theorem seekAdd_right (m : Pc → Int) (l : AT) (p : Pc) (r : AT) (k : Int) (i : Nat) (n b s : Int) (h : ¬ k < sumM m (l.told 0)) (h2 : ¬ k - sumM m (l.told 0) < m p) : seekAdd m (.node l p r) k i n b s = seekAdd m r (k - sumM m (l.told 0) - m p) (i + l.its + 1) (n + l.rns + p.len) (b + l.bks + p.brk) (s + 1) := by
  simp only [seekAdd, seekT, if_neg h, if_neg h2]; simp; omega

/-- A round of the search, as it lies. -/
structure Rnd (w wx : World) (a : Nat) (i n b s li ln lb pl pb : Int) : Prop where
  f : Fnd wx (w.heap.size + 1) 0 0 0 i n b 0 s
  g : Fnd wx w.heap.size 0 0 0 0 0 0 0 0
  h : Below w.heap.size w wx
  l : wx.heap[a]? = some (.cells #[.int .i64 li, .int .i64 ln, .int .i64 lb] 196 (0, 0))
  o : wx.heap[a + 1]? = some (.cells #[.int .i64 1, .int .i64 pl, .int .i64 pb] 196 (0, 0))
  sz : a + 2 ≤ wx.heap.size
  lo : w.heap.size + 1 < a

theorem Rnd.below {w wx wy : World} {a : Nat} {i n b s li ln lb pl pb : Int} (r : Rnd w wx a i n b s li ln lb pl pb) (hb : Below wx.heap.size wx wy) : Rnd w wy a i n b s li ln lb pl pb := by
  have h1 := r.sz
  have h2 := r.lo
  exact ⟨r.f.below hb (by omega), r.g.below hb (by omega), r.h.trans (hb.mono (by omega)), (hb.block a (by omega)).trans r.l, (hb.block (a + 1) (by omega)).trans r.o, by have := hb.size; omega, h2⟩
theorem Rnd.set345 {w wx : World} {a : Nat} {i n b s li ln lb pl pb : Int} (r : Rnd w wx a i n b s li ln lb pl pb) (x y z : Int) :
    Rnd w (((wx.setCell ⟨w.heap.size + 1, 3, none⟩ (.int .i64 x)).setCell ⟨w.heap.size + 1, 4, none⟩ (.int .i64 y)).setCell ⟨w.heap.size + 1, 5, none⟩ (.int .i64 z)) a x y z s li ln lb pl pb := by
  have h1 := r.sz
  have h2 := r.lo
  have ho : ∀ k, k ≠ w.heap.size + 1 → (((wx.setCell ⟨w.heap.size + 1, 3, none⟩ (.int .i64 x)).setCell ⟨w.heap.size + 1, 4, none⟩ (.int .i64 y)).setCell ⟨w.heap.size + 1, 5, none⟩ (.int .i64 z)).heap[k]? = wx.heap[k]? := fun k hk => by
    rw [heap_setCell_other _ _ _ _ hk, heap_setCell_other _ _ _ _ hk, heap_setCell_other _ _ _ _ hk]
  exact ⟨r.f.set345 x y z, (ho _ (by omega)).trans r.g, ((r.h.setCell (by simp) _).setCell (by simp) _).setCell (by simp) _, (ho _ (by omega)).trans r.l, (ho _ (by omega)).trans r.o, by simpa using h1, h2⟩
theorem cc3 {w : World} {b : Nat} {x y z : Int} {t : TypeId} (h : w.heap[b]? = some (.cells #[.int .i64 x, .int .i64 y, .int .i64 z] t (0, 0))) : w.cell? ⟨b, 0, none⟩ = some (.int .i64 x) ∧ w.cell? ⟨b, 1, none⟩ = some (.int .i64 y) ∧ w.cell? ⟨b, 2, none⟩ = some (.int .i64 z) := by
  refine ⟨?_, ?_, ?_⟩ <;> rw [cell_of_row w b _ _ _ _ h] <;> rfl

end Go.Proofs.YtbkcbhjejkicjaaGreatDoor

namespace Go.Proofs.YtbkcbhjejkicjaaGreatDoor
open Go Go.RowKit
set_option linter.unusedVariables false

set_option maxHeartbeats 1000000 in
theorem measR (i n k : Int) (w : World) : Calls Tryz.prog 254 #[cnt i n k] w fun e w' => e = .returned (.int .i64 n) ∧ Below w.heap.size w w' := by
  unfold cnt
  go_enter Tryz.func254, Tryz.ntmps254
  go_wp2
  go_ret
  exact ⟨rfl, (Below.refl _ _).alloc (Nat.le_refl _) _⟩

theorem sumM_okR {T : AT} (h : T.ok) : sumM (fun p => p.len) (T.told 0) = T.rns := by
  rw [sumM_len, AT.rns_told]

set_option maxHeartbeats 4000000 in
set_option maxRecDepth 100000 in
theorem seekER (T : AT) (u : Option Addr) (bs : List Nat) (base : Nat) (k : Int) (w : World) (hT : Lies w base T u bs) (hok : T.ok) (hk : 0 ≤ k ∧ k ≤ 8192) :
    Calls Tryz.prog 253 #[.pointer u, .int .i64 k, .func (.func 254) #[] #[]] w fun e w' => e = .returned (fndV (seekP (fun p => p.len) T k).off (seekP (fun p => p.len) T k).len (seekP (fun p => p.len) T k).brk (seekT (fun p => p.len) T k)) ∧ Below w.heap.size w w' := by
  have HRES := hide (seekAdd_zero (fun p => p.len) T k)
  generalize seekT (fun p => p.len) T k = res at HRES ⊢
  generalize hpe : seekP (fun p => p.len) T k = pe
  have HPE := hide hpe.symm
  clear hpe
  have HT := hide hT
  have HOK := hide hok
  have bT := hok.bd
  have hhT : (T.ht : Int) ≤ 8192 := by have := ht_le_its T; omega
  have HB0 := hide (((Below.refl w.heap.size w).alloc (Nat.le_refl _) (.cells #[.int .i64 0, .int .i64 0, .int .i64 0, .int .i64 0, .int .i64 0, .int .i64 0, .int .i64 0, .int .i64 0] 323)).alloc (by simp) (.cells #[.int .i64 0, .int .i64 0, .int .i64 0, .int .i64 0, .int .i64 0, .int .i64 0, .int .i64 0, .int .i64 0] 323))
  have hF0 : Fnd ((w.alloc (.cells #[.int .i64 0, .int .i64 0, .int .i64 0, .int .i64 0, .int .i64 0, .int .i64 0, .int .i64 0, .int .i64 0] 323)).alloc (.cells #[.int .i64 0, .int .i64 0, .int .i64 0, .int .i64 0, .int .i64 0, .int .i64 0, .int .i64 0, .int .i64 0] 323)) (w.heap.size + 1) 0 0 0 0 0 0 0 0 := by
    have := heap_alloc_new (w.alloc (.cells #[.int .i64 0, .int .i64 0, .int .i64 0, .int .i64 0, .int .i64 0, .int .i64 0, .int .i64 0, .int .i64 0] 323)) (.cells #[.int .i64 0, .int .i64 0, .int .i64 0, .int .i64 0, .int .i64 0, .int .i64 0, .int .i64 0, .int .i64 0] 323)
    simpa [Fnd] using this
  have hG0 : Fnd ((w.alloc (.cells #[.int .i64 0, .int .i64 0, .int .i64 0, .int .i64 0, .int .i64 0, .int .i64 0, .int .i64 0, .int .i64 0] 323)).alloc (.cells #[.int .i64 0, .int .i64 0, .int .i64 0, .int .i64 0, .int .i64 0, .int .i64 0, .int .i64 0, .int .i64 0] 323)) w.heap.size 0 0 0 0 0 0 0 0 := by
    unfold Fnd; rw [Below.heap_alloc _ _ _ (by simp)]; exact heap_alloc_new _ _
  have HF0 := hide hF0
  have HG0 := hide hG0
  clear hT hok hF0 hG0
  go_enter Tryz.func253, Tryz.ntmps253
  go_wp2_with fail
  generalize (w.alloc (.cells #[.int .i64 0, .int .i64 0, .int .i64 0, .int .i64 0, .int .i64 0, .int .i64 0, .int .i64 0, .int .i64 0] 323)).alloc (.cells #[.int .i64 0, .int .i64 0, .int .i64 0, .int .i64 0, .int .i64 0, .int .i64 0, .int .i64 0, .int .i64 0] 323) = w0 at *
  go_loopg [0, 1] T.ht (fun g pv kv wr => ∃ (S : AT) (us : Option Addr) (cs : List Nat) (kk : Int) (i : Nat) (n b s : Int), pv = .pointer us ∧ kv = .int .i64 kk ∧ g = S.ht ∧ Lies w base S us cs ∧ S.ok ∧ (0 ≤ kk ∧ kk ≤ 8192) ∧
    ((i : Int) + S.its ≤ 8192 ∧ 0 ≤ n ∧ n + S.rns ≤ 8192 ∧ 0 ≤ b ∧ b + S.bks ≤ 8192 ∧ 0 ≤ s ∧ s + S.ht ≤ 8192) ∧ Fnd wr (w.heap.size + 1) 0 0 0 i n b 0 s ∧ Fnd wr w.heap.size 0 0 0 0 0 0 0 0 ∧ Below w.heap.size w wr ∧ res = seekAdd (fun p => p.len) S kk i n b s ∧ Hid (pe = seekP (fun p => p.len) S kk))
  case atStart => exact ⟨T, u, bs, k, 0, 0, 0, 0, rfl, rfl, rfl, HT.out, HOK.out, hk, by omega, HF0.out, HG0.out, HB0.out, HRES.out, HPE⟩
  case round =>
    obtain ⟨S, us, cs, kk, i, n, b, s, rfl, rfl, rfl, hS, hSok, hkk, hbd, hF, hG, hbw, heq, hpe⟩ := hrel
    clear HT HOK HRES HPE HB0 HF0 HG0 bT hhT
    have hFl := hF.lt
    have hGl := hG.lt
    cases S with
    | nil =>
      obtain ⟨rfl, rfl⟩ := hS
      rw [seekAdd_nil] at heq
      have HEQ := hide heq
      have HF := hide hF
      have HG := hide hG
      have HBW := hide hbw
      obtain ⟨p0, p1, p2, f0, f1, f2, f3, f4⟩ := hF.c
      obtain ⟨g0, g1, g2, g3, g4, g5, g6, g7⟩ := hG.c
      have ff3 := hF.fz 6
      have hz := fun j => hG.fz j
      have z0 := hz 0
      have z1 := hz 1
      have z2 := hz 2
      have z3 := hz 3
      have z4 := hz 4
      have z5 := hz 5
      have z6 := hz 6
      have z7 := hz 7
      clear heq hF hG hbw hbd hz
      go_wp2
      refine bodyPost_ret (v := fndV 0 0 0 (i, n, b, kk, s)) (by simp [results, Tryz.results253, go_sem, g0, g1, g2, g3, g4, g5, g6, g7]; rfl) rfl ⟨by rw [HEQ.out, hpe.out]; rfl, ?_⟩
      repeat (refine Below.setCell ?_ (by simp) _)
      exact HBW.out
    | node l p r =>
      obtain ⟨nb, ul, ur, bl, br, rfl, hbase, hnd, hl, hr, rfl⟩ := hS
      have bL := hSok.left.bd
      have bR := hSok.right.bd
      have bP := hSok.piece
      have hsl := sumM_okR hSok.left
      have hht : ((AT.node l p r).ht : Int) = 1 + max (l.ht : Int) r.ht := by simp only [AT.ht]; omega
      have hit : ((AT.node l p r).its : Int) = l.its + 1 + r.its := by simp only [AT.its]; omega
      have hrn : (AT.node l p r).rns = l.rns + p.len + r.rns := rfl
      have hbk : (AT.node l p r).bks = l.bks + p.brk + r.bks := rfl
      rw [hht, hit, hrn, hbk] at hbd
      have hms : 0 ≤ l.rns ∧ l.rns ≤ 8192 ∧ 0 ≤ p.len ∧ p.len ≤ 8192 := by omega
      have HTL : Hid (kk < sumM (fun p => p.len) (l.told 0) ↔ kk < l.rns) := by rw [hsl]; exact Iff.rfl
      have HSL := hide hsl
      have HEQ0 := hide heq
      have HL := hide hl
      have HR := hide hr
      have HND := hide hnd
      have HOK := hide hSok
      have hltb := hnd.lt
      have HF1 := hide (hF.set7 (s + 1))
      have HG1 := hide (show Fnd (wr.setCell ⟨w.heap.size + 1, 7, none⟩ (.int .i64 (s + 1))) w.heap.size 0 0 0 0 0 0 0 0 from by unfold Fnd; rw [heap_setCell_other _ _ _ _ (by simp)]; exact hG)
      have HB1 := hide (hbw.setCell (p := ⟨w.heap.size + 1, 7, none⟩) (by simp) (.int .i64 (s + 1)))
      obtain ⟨p0, p1, p2, f0, f1, f2, f3, f4⟩ := hF.c
      have ff4 := hF.fz 7
      have c3 := (hbw.cell (p := ⟨nb, 3, none⟩) hltb).trans hnd.c3
      have c3' : (wr.setCell ⟨w.heap.size + 1, 7, none⟩ (.int .i64 (s + 1))).cell? ⟨nb, 3, none⟩ = some (.pointer ul) := (HB1.out.cell (p := ⟨nb, 3, none⟩) hltb).trans hnd.c3
      clear heq hF hG hbw hl hr hnd hSok hsl hht hit hrn hbk
      go_wp2_with fail
      generalize wr.setCell ⟨w.heap.size + 1, 7, none⟩ (.int .i64 (s + 1)) = w1 at *
      have hlw1 := HF1.out.lt
      refine (allN l ul bl base w1 (HL.out.below HB1.out (Nat.le_refl _))).mono ?_
      rintro e w2 ⟨rfl, hb2⟩
      have HF2 := hide (HF1.out.below hb2 (by omega))
      have HG2 := hide (HG1.out.below hb2 (by omega))
      have HB2 := hide (HB1.out.trans (hb2.mono (by omega)))
      clear hb2 HF1 HG1 HB1 c3' c3 p0 p1 p2 f0 f1 f2 f3 f4 ff4
      have hlw2 := HF2.out.lt
      go_wp2_with fail
      refine (ownN p nb ul ur _ _ _ _ w2 ((HB2.out.block nb hltb).trans HND.out)).mono ?_
      rintro e w3 ⟨rfl, hb3⟩
      have hlw3 := hb3.size
      have HF3 := hide ((HF2.out.below hb3 (by omega)).below (((Below.refl w3.heap.size w3).alloc (Nat.le_refl _) (.cells #[.int .i64 l.its, .int .i64 l.rns, .int .i64 l.bks] 196)).alloc (by simp) (.cells #[.int .i64 1, .int .i64 p.len, .int .i64 p.brk] 196)) (by omega))
      have HG3 := hide ((HG2.out.below hb3 (by omega)).below (((Below.refl w3.heap.size w3).alloc (Nat.le_refl _) (.cells #[.int .i64 l.its, .int .i64 l.rns, .int .i64 l.bks] 196)).alloc (by simp) (.cells #[.int .i64 1, .int .i64 p.len, .int .i64 p.brk] 196)) (by omega))
      have HB3 := hide ((((HB2.out.trans (hb3.mono (by omega)))).alloc (by omega) (.cells #[.int .i64 l.its, .int .i64 l.rns, .int .i64 l.bks] 196)).alloc (by simp; omega) (.cells #[.int .i64 1, .int .i64 p.len, .int .i64 p.brk] 196))
      clear hb3 HF2 HG2 HB2
      have hA : ((w3.alloc (.cells #[.int .i64 l.its, .int .i64 l.rns, .int .i64 l.bks] 196)).alloc (.cells #[.int .i64 1, .int .i64 p.len, .int .i64 p.brk] 196)).heap[w3.heap.size]? = some (.cells #[.int .i64 l.its, .int .i64 l.rns, .int .i64 l.bks] 196 (0, 0)) := by
        rw [Below.heap_alloc _ _ _ (by simp)]; exact heap_alloc_new _ _
      have hO : ((w3.alloc (.cells #[.int .i64 l.its, .int .i64 l.rns, .int .i64 l.bks] 196)).alloc (.cells #[.int .i64 1, .int .i64 p.len, .int .i64 p.brk] 196)).heap[w3.heap.size + 1]? = some (.cells #[.int .i64 1, .int .i64 p.len, .int .i64 p.brk] 196 (0, 0)) := by
        have := heap_alloc_new (w3.alloc (.cells #[.int .i64 l.its, .int .i64 l.rns, .int .i64 l.bks] 196)) (.cells #[.int .i64 1, .int .i64 p.len, .int .i64 p.brk] 196)
        simpa using this
      have hs4 : ((w3.alloc (.cells #[.int .i64 l.its, .int .i64 l.rns, .int .i64 l.bks] 196)).alloc (.cells #[.int .i64 1, .int .i64 p.len, .int .i64 p.brk] 196)).heap.size = w3.heap.size + 2 := by simp
      have RN4 := hide (Rnd.mk HF3.out HG3.out HB3.out hA hO (by omega) (by omega))
      clear hA hO hs4 HF3 HG3 HB3
      unfold cnt
      go_wp2_with fail
      generalize (w3.alloc (.cells #[.int .i64 l.its, .int .i64 l.rns, .int .i64 l.bks] 196)).alloc (.cells #[.int .i64 1, .int .i64 p.len, .int .i64 p.brk] 196) = w4 at *
      generalize w3.heap.size = a at *
      have ha := RN4.out.lo
      refine (measR _ _ _ w4).mono ?_
      rintro e w5 ⟨rfl, hb5⟩
      have RN5 := hide (RN4.out.below hb5)
      clear hb5 RN4
      have c3 := (RN5.out.h.cell (p := ⟨nb, 3, none⟩) hltb).trans HND.out.c3
      have sz5 := RN5.out.sz
      by_cases hlt : kk < l.rns
      · have HEQ := hide (HEQ0.out.trans (seekAdd_left _ _ _ _ _ _ _ _ _ (HTL.out.2 hlt)))
        have HPL : Hid (pe = seekP (fun p => p.len) l kk) := hide (hpe.out.trans (by simp only [seekP]; rw [if_pos (HTL.out.2 hlt)]))
        clear HEQ0 HTL hpe
        go_wp2
        go_roundg l.ht
        case measure => simp only [AT.ht]; omega
        case rel => exact ⟨l, ul, bl, kk, i, n, b, s + 1, rfl, rfl, rfl, HL.out, HOK.out.left, hkk, by omega, RN5.out.f, RN5.out.g, RN5.out.h, HEQ.out, HPL⟩
      · have hnl := fun h => hlt (HTL.out.1 h)
        obtain ⟨l0, l1, l2⟩ := cc3 RN5.out.l
        go_wp2_with fail
        refine (measR _ _ _ w5).mono ?_
        rintro e w6 ⟨rfl, hb6⟩
        have RN6 := hide (RN5.out.below hb6)
        clear hb6 RN5 c3 l0 l1 l2
        obtain ⟨l0, l1, l2⟩ := cc3 RN6.out.l
        obtain ⟨p0, p1, p2, f0, f1, f2, f3, f4⟩ := RN6.out.f.c
        have sz6 := RN6.out.sz
        go_wp2_with fail
        refine (plusN _ _ _ _ _ _ w6 (by omega) (by omega) (by omega) (by omega) (by omega) (by omega)).mono ?_
        rintro e w7 ⟨rfl, hb7⟩
        have RN7 := hide (RN6.out.below hb7)
        clear hb7 RN6 l0 l1 l2 p0 p1 p2 f0 f1 f2 f3 f4
        obtain ⟨p0, p1, p2, f0, f1, f2, f3, f4⟩ := RN7.out.f.c
        have ff0 := RN7.out.f.fz 3
        have ff1 := RN7.out.f.fz 4
        have ff2 := RN7.out.f.fz 5
        have RN8 := hide (RN7.out.set345 (i + l.its) (n + l.rns) (b + l.bks))
        have sz7 := RN7.out.sz
        obtain ⟨o0, o1, o2⟩ := cc3 RN8.out.o
        unfold cnt
        go_wp2_with fail
        generalize ((w7.setCell ⟨w.heap.size + 1, 3, none⟩ (.int .i64 (i + l.its))).setCell ⟨w.heap.size + 1, 4, none⟩ (.int .i64 (n + l.rns))).setCell ⟨w.heap.size + 1, 5, none⟩ (.int .i64 (b + l.bks)) = w8 at *
        clear RN7 p0 p1 p2 f0 f1 f2 f3 f4 ff0 ff1 ff2
        refine (measR _ _ _ w8).mono ?_
        rintro e w9 ⟨rfl, hb9⟩
        have RN9 := hide (RN8.out.below hb9)
        clear hb9 RN8 o0 o1 o2
        have sz9 := RN9.out.sz
        by_cases hin : kk - l.rns < p.len
        · have HEQ := hide (HEQ0.out.trans (seekAdd_here _ _ _ _ _ _ _ _ _ hnl (by rw [HSL.out]; exact hin)))
          have HPH : Hid (pe = p) := hide (hpe.out.trans (by simp only [seekP]; rw [if_neg hnl, if_pos (by rw [HSL.out]; exact hin)]))
          rw [HSL.out] at HEQ
          clear HEQ0 HTL HSL hnl hpe
          obtain ⟨p0, p1, p2, f0, f1, f2, f3, f4⟩ := RN9.out.f.c
          obtain ⟨g0, g1, g2, g3, g4, g5, g6, g7⟩ := RN9.out.g.c
          have ff3 := RN9.out.f.fz 6
          have z0 := RN9.out.g.fz 0
          have z1 := RN9.out.g.fz 1
          have z2 := RN9.out.g.fz 2
          have z3 := RN9.out.g.fz 3
          have z4 := RN9.out.g.fz 4
          have z5 := RN9.out.g.fz 5
          have z6 := RN9.out.g.fz 6
          have z7 := RN9.out.g.fz 7
          have e0 := RN9.out.f.fz 0
          have e1 := RN9.out.f.fz 1
          have e2 := RN9.out.f.fz 2
          have d0 := (RN9.out.h.cell (p := ⟨nb, 0, none⟩) hltb).trans HND.out.c0
          have d1 := (RN9.out.h.cell (p := ⟨nb, 1, none⟩) hltb).trans HND.out.c1
          have d2 := (RN9.out.h.cell (p := ⟨nb, 2, none⟩) hltb).trans HND.out.c2
          have hnb1 : nb ≠ w.heap.size + 1 := by omega
          have hnb0 : nb ≠ w.heap.size := by omega
          go_wp2
          refine bodyPost_ret (v := fndV p.off p.len p.brk (i + l.its, n + l.rns, b + l.bks, kk - l.rns, s + 1)) (by simp [results, Tryz.results253, go_sem, g0, g1, g2, g3, g4, g5, g6, g7]; rfl) rfl ⟨by rw [HEQ.out, HPH.out], ?_⟩
          repeat (refine Below.setCell ?_ (by simp) _)
          exact RN9.out.h
        · have HEQ := hide (HEQ0.out.trans (seekAdd_right _ _ _ _ _ _ _ _ _ hnl (by rw [HSL.out]; exact hin)))
          have HPR : Hid (pe = seekP (fun p => p.len) r (kk - l.rns - p.len)) := hide (hpe.out.trans (by simp only [seekP]; rw [if_neg hnl, if_neg (by rw [HSL.out]; exact hin), HSL.out]))
          rw [HSL.out] at HEQ
          clear HEQ0 HTL HSL hnl hpe
          obtain ⟨o0, o1, o2⟩ := cc3 RN9.out.o
          go_wp2_with fail
          refine (measR _ _ _ w9).mono ?_
          rintro e w10 ⟨rfl, hb10⟩
          have RN10 := hide (RN9.out.below hb10)
          clear hb10 RN9 o0 o1 o2
          obtain ⟨o0, o1, o2⟩ := cc3 RN10.out.o
          obtain ⟨p0, p1, p2, f0, f1, f2, f3, f4⟩ := RN10.out.f.c
          have sz10 := RN10.out.sz
          go_wp2_with fail
          refine (plusN _ _ _ _ _ _ w10 (by omega) (by omega) (by omega) (by omega) (by omega) (by omega)).mono ?_
          rintro e w11 ⟨rfl, hb11⟩
          have RN11 := hide (RN10.out.below hb11)
          clear hb11 RN10 o0 o1 o2 p0 p1 p2 f0 f1 f2 f3 f4
          obtain ⟨p0, p1, p2, f0, f1, f2, f3, f4⟩ := RN11.out.f.c
          have ff0 := RN11.out.f.fz 3
          have ff1 := RN11.out.f.fz 4
          have ff2 := RN11.out.f.fz 5
          have RN12 := hide (RN11.out.set345 (i + l.its + 1) (n + l.rns + p.len) (b + l.bks + p.brk))
          have sz11 := RN11.out.sz
          have c4 := (RN12.out.h.cell (p := ⟨nb, 4, none⟩) hltb).trans HND.out.c4
          unfold cnt
          go_wp2
          go_roundg r.ht
          case measure => simp only [AT.ht]; omega
          case rel => exact ⟨r, ur, br, kk - l.rns - p.len, i + l.its + 1, n + l.rns + p.len, b + l.bks + p.brk, s + 1, rfl, rfl, rfl, HR.out, HOK.out.right, by omega, by omega, RN12.out.f, RN12.out.g, RN12.out.h, HEQ.out, HPR⟩
end Go.Proofs.YtbkcbhjejkicjaaGreatDoor

