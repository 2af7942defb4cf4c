import Derived.WalkKit
import Derived.Test.YtbgngikejgihgahGreatDoorMq02
import Derived.Test.YtbgngikejgihgahGreatDoorMq03
namespace Go.Proofs.YtbgngikejgihgahGreatDoor
open Go Go.RowKit
set_option linter.unusedVariables false

/-- Another element at a rank. -/
def AT.put : AT → Nat → Pc → AT
  | .nil, _, _ => .nil
  | .node l p r, k, e => if k < l.its then .node (l.put k e) p r else if l.its < k then .node l p (r.put (k - l.its - 1) e) else .node l e r

theorem AT.put_its : ∀ (T : AT) (k : Nat) (e : Pc), (T.put k e).its = T.its
  | .nil, _, _ => rfl
  | .node l p r, k, e => by
    have h1 := AT.put_its l k e
    have h2 := AT.put_its r (k - l.its - 1) e
    unfold AT.put
    split
    · simp only [AT.its, h1]
    · split <;> simp only [AT.its, h2]
theorem AT.put_ht : ∀ (T : AT) (k : Nat) (e : Pc), (T.put k e).ht = T.ht
  | .nil, _, _ => rfl
  | .node l p r, k, e => by
    have h1 := AT.put_ht l k e
    have h2 := AT.put_ht r (k - l.its - 1) e
    unfold AT.put
    split
    · simp only [AT.ht, h1]
    · split <;> simp only [AT.ht, h2]
theorem AT.put_bal : ∀ (T : AT) (k : Nat) (e : Pc), T.bal → (T.put k e).bal
  | .nil, _, _, _ => trivial
  | .node l p r, k, e, h => by
    have e1 := AT.put_ht l k e
    have e2 := AT.put_ht r (k - l.its - 1) e
    unfold AT.put
    split
    · have h1 := AT.put_bal l k e
      simp only [AT.bal, e1] at h ⊢
      exact ⟨h1 h.1, h.2⟩
    · split
      · have h2 := AT.put_bal r (k - l.its - 1) e
        simp only [AT.bal, e2] at h ⊢
        exact ⟨h.1, h2 h.2.1, h.2.2⟩
      · simpa only [AT.bal] using h
theorem AT.put_told : ∀ (T : AT) (k : Nat) (e : Pc) (d : Int) (y : It), (T.told d)[k]? = some y → (T.put k e).told d = (T.told d).set k ⟨e, y.lv⟩
  | .nil, k, e, d, y, h => by simp [AT.told] at h
  | .node l p r, k, e, d, y, h => by
    have hl := AT.told_length l (d + 1)
    unfold AT.put
    split
    · rename_i hk
      simp only [AT.told] at h ⊢
      rw [List.getElem?_append_left (by omega)] at h
      rw [AT.put_told l k e (d + 1) y h, List.set_append_left _ _ (by omega)]
    · rename_i hk
      split
      · rename_i hk2
        simp only [AT.told] at h ⊢
        rw [List.getElem?_append_right (by omega), hl, show k - l.its = (k - l.its - 1) + 1 by omega, List.getElem?_cons_succ] at h
        obtain ⟨j, hj⟩ : ∃ j, k = l.its + 1 + j := ⟨k - l.its - 1, by omega⟩
        subst hj
        rw [show l.its + 1 + j - l.its - 1 = j by omega] at h ⊢
        rw [AT.put_told r j e (d + 1) y h, List.set_append_right _ _ (by omega), hl, show l.its + 1 + j - l.its = j + 1 by omega, List.set_cons_succ]
      · rename_i hk2
        obtain rfl : k = l.its := by omega
        simp only [AT.told] at h ⊢
        rw [List.getElem?_append_right (by omega), hl, Nat.sub_self, List.getElem?_cons_zero] at h
        cases h
        rw [List.set_append_right _ _ (by omega), hl, Nat.sub_self, List.set_cons_zero]
theorem AT.put_flat (T : AT) (k : Nat) (e : Pc) (h : k < T.its) : (T.put k e).flat = T.flat.set k e := by
  have tp : ∀ (T : AT) (d : Int), (T.told d).map It.pc = T.flat := by
    intro T
    induction T with
    | nil => intro d; rfl
    | node l p r h1 h2 => intro d; simp only [AT.told, List.map_append, List.map_cons, AT.flat, h1, h2]
  have hl := AT.told_length T 0
  obtain ⟨y, hy⟩ : ∃ y, (T.told 0)[k]? = some y := ⟨(T.told 0)[k]'(by omega), List.getElem?_eq_getElem (by omega)⟩
  rw [← tp (T.put k e) 0, AT.put_told T k e 0 y hy, ← tp T 0, List.map_set]

/-- The rank of the first piece that starts at an offset or behind it. -/
def rankL : List It → Int → Nat
  | [], _ => 0
  | x :: xs, off => if off ≤ 0 then 0 else 1 + rankL xs (off - x.pc.len)
theorem rankL_low (xs : List It) (off : Int) (h : off ≤ 0) : rankL xs off = 0 := by
  cases xs with
  | nil => rfl
  | cons x xs => simp [rankL, h]
theorem rankL_find : ∀ (xs : List It) (k : Int) (r : Nat) (i l b : Int), (∀ x ∈ xs, 1 ≤ x.pc.len) → 0 ≤ k → findL (fun p => p.len) xs k = some (r, i, l, b) → rankL xs k = r + (if i = 0 then 0 else 1) ∧ 0 ≤ i
  | [], k, r, i, l, b, _, _, h => by simp [findL] at h
  | x :: xs, k, r, i, l, b, hp, h0, h => by
    have hx := hp x (by simp)
    unfold findL at h
    split at h
    · rename_i hk
      simp only [Option.some.injEq, Prod.mk.injEq] at h
      obtain ⟨rfl, rfl, _, _⟩ := h
      refine ⟨?_, h0⟩
      unfold rankL
      split
      · rename_i hc
        rw [if_pos (by omega)]
      · rename_i hc
        rw [rankL_low xs _ (by omega), if_neg (by omega)]
    · rename_i hk
      split at h
      · cases h
      · rename_i r' i' l' b' hf
        simp only [Option.some.injEq, Prod.mk.injEq] at h
        obtain ⟨rfl, rfl, rfl, rfl⟩ := h
        obtain ⟨h1, h2⟩ := rankL_find xs (k - x.pc.len) r' i' l' b' (fun y hy => hp y (by simp [hy])) (by omega) hf
        refine ⟨?_, h2⟩
        unfold rankL
        rw [if_neg (by omega), h1]
        omega
theorem rankL_all : ∀ (xs : List It), (∀ x ∈ xs, 1 ≤ x.pc.len) → rankL xs (total xs) = xs.length
  | [], _ => rfl
  | x :: xs, hp => by
    have hx := hp x (by simp)
    have h0 : 0 ≤ total xs := by
      have hp' : ∀ y ∈ xs, 1 ≤ y.pc.len := fun y hy => hp y (by simp [hy])
      clear hp
      induction xs with
      | nil => simp [total]
      | cons y xs ih => simp only [total]; have := hp' y (by simp); have := ih (fun z hz => hp' z (by simp [hz])); omega
    have ih := rankL_all xs (fun y hy => hp y (by simp [hy]))
    have et : total (x :: xs) = x.pc.len + total xs := rfl
    rw [et]
    unfold rankL
    rw [if_neg (by omega), show x.pc.len + total xs - x.pc.len = total xs by omega, ih, List.length_cons]
    omega
/-- The search by runes at the end. -/
theorem seek_end : ∀ (T : AT), (∀ x ∈ T.told 0, 0 ≤ x.pc.len) → (seekT (fun p => p.len) T T.rns).1 = T.its ∧ (seekT (fun p => p.len) T T.rns).2.2.2.1 = 0 := by
  have gen : ∀ (T : AT) (d : Int), (∀ x ∈ T.told d, 0 ≤ x.pc.len) → (seekT (fun p => p.len) T T.rns).1 = T.its ∧ (seekT (fun p => p.len) T T.rns).2.2.2.1 = 0 := by
    intro T
    induction T with
    | nil => intro d _; exact ⟨rfl, rfl⟩
    | node l p r ihl ihr =>
      intro d h
      have e0 : sumM (fun p => p.len) (l.told 0) = l.rns := by rw [sumM_len, AT.rns_told]
      have hp : 0 ≤ p.len := h ⟨p, d⟩ (by simp [AT.told])
      have hr := ihr (d + 1) (fun x hx => h x (by simp [AT.told, hx]))
      have nn : ∀ xs : List It, (∀ x ∈ xs, 0 ≤ x.pc.len) → 0 ≤ total xs := by
        intro xs
        induction xs with
        | nil => intro _; simp [total]
        | cons y ys ih => intro hy; simp only [total]; have := hy y (by simp); have := ih (fun z hz => hy z (by simp [hz])); omega
      have n2 : 0 ≤ r.rns := by rw [← AT.rns_told r (d + 1)]; exact nn _ (fun x hx => h x (by simp [AT.told, hx]))
      have ern : (AT.node l p r).rns = l.rns + p.len + r.rns := rfl
      simp only [seekT, e0]
      rw [if_neg (by omega), if_neg (by omega), show (AT.node l p r).rns - l.rns - p.len = r.rns by omega]
      simp only [AT.its]
      exact ⟨by rw [hr.1]; omega, hr.2⟩
  exact fun T h => gen T 0 h
/-- The rank by counting is the search's. -/
theorem rank_seek (T : AT) (off : Int) (hp : ∀ x ∈ T.told 0, 1 ≤ x.pc.len) (h0 : 0 ≤ off) (h1 : off ≤ T.rns) :
    rankL (T.told 0) off = (seekT (fun p => p.len) T off).1 + (if (seekT (fun p => p.len) T off).2.2.2.1 = 0 then 0 else 1) := by
  by_cases he : off = T.rns
  · subst he
    obtain ⟨e1, e2⟩ := seek_end T (fun x hx => by have := hp x hx; omega)
    rw [e1, e2, if_pos rfl, ← AT.rns_told T 0, rankL_all _ hp, AT.told_length]
    rfl
  · have hs : sumM (fun p => p.len) (T.told 0) = T.rns := by rw [sumM_len, AT.rns_told]
    have hf := seek_find (fun p => p.len) T 0 off h0 (by omega) (fun x hx => by have := hp x hx; omega)
    exact (rankL_find _ _ _ _ _ _ hp h0 hf).1
end Go.Proofs.YtbgngikejgihgahGreatDoor

namespace Go.Proofs.YtbgngikejgihgahGreatDoor
open Go Go.RowKit
set_option linter.unusedVariables false

def lsum (F : List Pc) : Int := (F.map (fun p => p.len)).sum
theorem lsum_nil : lsum [] = 0 := rfl
theorem lsum_cons (p : Pc) (F : List Pc) : lsum (p :: F) = p.len + lsum F := by simp [lsum]
theorem lsum_app (F G : List Pc) : lsum (F ++ G) = lsum F + lsum G := by simp [lsum]
theorem AT.rns_lsum (T : AT) : T.rns = lsum T.flat := AT.rns_of_flat T
theorem AT.flat_its : ∀ T : AT, T.flat.length = T.its
  | .nil => rfl
  | .node l p r => by simp only [AT.flat, List.length_append, List.length_cons, AT.flat_its l, AT.flat_its r, AT.its]; omega
theorem AT.flat_of : ∀ (T : AT) (d : Int), (T.told d).map It.pc = T.flat
  | .nil, _ => rfl
  | .node l p r, d => by simp only [AT.told, List.map_append, List.map_cons, AT.flat, AT.flat_of l, AT.flat_of r]
theorem total_lsum : ∀ xs : List It, total xs = lsum (xs.map It.pc)
  | [] => rfl
  | x :: xs => by rw [List.map_cons, lsum_cons, total, total_lsum xs]
theorem total_take (T : AT) (k : Nat) : total ((T.told 0).take k) = lsum (T.flat.take k) := by rw [total_lsum, List.map_take, AT.flat_of]
theorem wp_flat (S : List Int) : ∀ T : AT, T.wp S ↔ ∀ p ∈ T.flat, WP S p
  | .nil => by simp [AT.wp, AT.flat]
  | .node l p r => by
    have h1 := wp_flat S l
    have h2 := wp_flat S r
    simp only [AT.wp, AT.flat, List.mem_append, List.mem_cons]
    constructor
    · rintro ⟨a, b, c⟩ q (h | rfl | h)
      · exact h1.1 a q h
      · exact b
      · exact h2.1 c q h
    · intro h
      exact ⟨h1.2 fun q hq => h q (.inl hq), h p (.inr (.inl rfl)), h2.2 fun q hq => h q (.inr (.inr hq))⟩
theorem WP.app {zs : List Int} {p : Pc} (h : WP zs p) (ts : List Int) : WP (zs ++ ts) p := by
  obtain ⟨h1, h2, h3, h4⟩ := h
  refine ⟨h1, h2, by rw [List.length_append]; omega, ?_⟩
  rw [h4]
  unfold ptx
  rw [List.drop_append_of_le_length (by omega), List.take_append_of_le_length (by rw [List.length_drop]; omega)]
theorem AT.wp.app {zs : List Int} {T : AT} (h : T.wp zs) (ts : List Int) : T.wp (zs ++ ts) := (wp_flat _ T).2 fun p hp => ((wp_flat _ T).1 h p hp).app ts

/-- Where a search by runes comes out. -/
theorem seek_at : ∀ (T : AT) (off : Int), (∀ p ∈ T.flat, 1 ≤ p.len) → 0 ≤ off → off ≤ T.rns →
    (seekT (fun p => p.len) T off).1 ≤ T.its ∧ lsum (T.flat.take (seekT (fun p => p.len) T off).1) = off - (seekT (fun p => p.len) T off).2.2.2.1 ∧
    ((seekT (fun p => p.len) T off).2.2.2.1 = 0 ∨ (0 < (seekT (fun p => p.len) T off).2.2.2.1 ∧ (seekT (fun p => p.len) T off).2.2.2.1 < (seekP (fun p => p.len) T off).len ∧ T.flat[(seekT (fun p => p.len) T off).1]? = some (seekP (fun p => p.len) T off)))
  | .nil, off, _, h0, h1 => by
    have : off = 0 := by simp only [AT.rns] at h1; omega
    subst this
    simp [seekT, AT.its, AT.flat, lsum]
  | .node l p r, off, hp, h0, h1 => by
    have e0 : sumM (fun p => p.len) (l.told 0) = l.rns := by rw [sumM_len, AT.rns_told]
    have hl := AT.flat_its l
    have hpl : ∀ q ∈ l.flat, 1 ≤ q.len := fun q hq => hp q (by simp [AT.flat, hq])
    have hpr : ∀ q ∈ r.flat, 1 ≤ q.len := fun q hq => hp q (by simp [AT.flat, hq])
    have ern : (AT.node l p r).rns = l.rns + p.len + r.rns := rfl
    have hpp := hp p (by simp [AT.flat])
    simp only [seekT, seekP, e0]
    by_cases c1 : off < l.rns
    · obtain ⟨a, b, c⟩ := seek_at l off hpl h0 (by omega)
      simp only [if_pos c1, AT.flat, AT.its]
      refine ⟨by omega, by rw [List.take_append_of_le_length (by omega)]; exact b, ?_⟩
      rcases c with c | ⟨c2, c3, c4⟩
      · exact .inl c
      · refine .inr ⟨c2, c3, ?_⟩
        rw [List.getElem?_append_left]
        · exact c4
        · rcases Nat.lt_or_ge (seekT (fun p => p.len) l off).1 l.flat.length with q | q
          · exact q
          · rw [List.getElem?_eq_none q] at c4; cases c4
    · by_cases c2 : off - l.rns < p.len
      · simp only [if_neg c1, if_pos c2, AT.flat, AT.its]
        refine ⟨by omega, ?_, ?_⟩
        · rw [List.take_append_of_le_length (by omega), List.take_of_length_le (by omega), ← AT.rns_lsum]; omega
        · rcases Int.lt_or_le 0 (off - l.rns) with q | q
          · refine .inr ⟨q, c2, ?_⟩
            rw [List.getElem?_append_right (by omega), hl, Nat.sub_self, List.getElem?_cons_zero]
          · exact .inl (by omega)
      · obtain ⟨a, b, c⟩ := seek_at r (off - l.rns - p.len) hpr (by omega) (by omega)
        simp only [if_neg c1, if_neg c2, AT.flat, AT.its]
        obtain ⟨j, hj⟩ : ∃ j, (seekT (fun p => p.len) r (off - l.rns - p.len)).1 = j := ⟨_, rfl⟩
        rw [hj] at a b c ⊢
        refine ⟨by omega, ?_, ?_⟩
        · rw [show j + (l.its + 1) = l.flat.length + (j + 1) by omega, List.take_length_add_append, List.take_succ_cons, lsum_app, lsum_cons, b, ← AT.rns_lsum]; omega
        · rcases c with c | ⟨c3, c4, c5⟩
          · exact .inl c
          · refine .inr ⟨c3, c4, ?_⟩
            rw [List.getElem?_append_right (by omega), show j + (l.its + 1) - l.flat.length = j + 1 by omega, List.getElem?_cons_succ]
            exact c5

theorem rankL_char : ∀ (xs : List It) (R : Nat) (off : Int), (∀ x ∈ xs, 1 ≤ x.pc.len) → R ≤ xs.length → total (xs.take R) = off → rankL xs off = R
  | xs, 0, off, _, _, h => by
    rw [List.take_zero] at h
    exact rankL_low xs off (by simp [total] at h; omega)
  | [], R + 1, off, _, h, _ => by simp at h
  | x :: xs, R + 1, off, hp, hR, h => by
    have hx := hp x (by simp)
    rw [List.take_succ_cons] at h
    simp only [total] at h
    have hn : 0 ≤ total (xs.take R) := by
      rw [total_lsum]
      have : ∀ y ∈ xs.take R, 1 ≤ y.pc.len := fun y hy => hp y (by simp [List.mem_of_mem_take hy])
      generalize xs.take R = ys at this
      induction ys with
      | nil => simp [lsum]
      | cons y ys ih => rw [List.map_cons, lsum_cons]; have := this y (by simp); have := ih (fun z hz => by rename_i h9; exact h9 z (by simp [hz])); omega
    rw [rankL, if_neg (by omega), rankL_char xs R (off - x.pc.len) (fun y hy => hp y (by simp [hy])) (by simpa using hR) (by omega)]
    omega

theorem brk_bdl (l : List Int) : 0 ≤ brk l ∧ brk l ≤ l.length := by
  unfold brk
  have := List.length_filter_le (fun z => z == (10 : Int)) l
  omega
theorem take_mid (A B : List Pc) (x : Pc) (n : Nat) (h : A.length = n) : (A ++ x :: B).take (n + 1) = A ++ [x] := by
  subst h
  rw [List.take_length_add_append]; rfl
/-- The piece of a span of a store. -/
def pcAt (S : List Int) (o n : Int) : Pc := ⟨o, n, brk ((S.drop o.toNat).take n.toNat)⟩
theorem pcAt_of {S : List Int} {p : Pc} (h : WP S p) : pcAt S p.off p.len = p := by
  obtain ⟨h1, h2, h3, h4⟩ := h
  obtain ⟨a, b, c⟩ := p
  simp only [pcAt, ptx] at *
  rw [h4]
theorem pcAt_wp {S : List Int} {o n : Int} (h0 : 0 ≤ o) (h1 : 0 ≤ n) (h : o + n ≤ S.length) : WP S (pcAt S o n) := ⟨h0, h1, h, rfl⟩
theorem pcAt_ok {S : List Int} {o n : Int} (h0 : 0 ≤ o) (h1 : 1 ≤ n) (h2 : n ≤ 8192) (h : o + n ≤ S.length) (hS : S.length ≤ 220000) : pcOk (pcAt S o n) = true := by
  have hb := brk_bdl ((S.drop o.toNat).take n.toNat)
  have hl : ((S.drop o.toNat).take n.toNat).length ≤ n.toNat := by rw [List.length_take]; omega
  have hk : pcOk (pcAt S o n) = decide (1 ≤ n ∧ n ≤ 8192 ∧ 0 ≤ o ∧ o + n ≤ 220000 ∧ 0 ≤ brk ((S.drop o.toNat).take n.toNat) ∧ brk ((S.drop o.toNat).take n.toNat) ≤ n) := rfl
  rw [hk, decide_eq_true_eq]
  omega
/-- A piece made longer by its neighbour in the store. -/
theorem pcAt_with {S : List Int} {p : Pc} (h : WP S p) {o m : Int} (hm : p.off + p.len = o) (h0 : 0 ≤ m) : (⟨p.off, p.len + m, p.brk + brk ((S.drop o.toNat).take m.toNat)⟩ : Pc) = pcAt S p.off (p.len + m) := by
  obtain ⟨h1, h2, h3, h4⟩ := h
  subst hm
  unfold pcAt
  congr 1
  rw [h4, show (p.len + m).toNat = p.len.toNat + m.toNat by omega, List.take_add, brk_append, List.drop_drop, show (p.off + p.len).toNat = p.off.toNat + p.len.toNat by omega]
  rfl

def skR (T : AT) (off : Int) : Nat := (seekT (fun p => p.len) T off).1
def skI (T : AT) (off : Int) : Int := (seekT (fun p => p.len) T off).2.2.2.1
def skP (T : AT) (off : Int) : Pc := seekP (fun p => p.len) T off
/-- A tree none of whose pieces goes on over an offset. -/
def cutP (S : List Int) (T : AT) (off : Int) : AT := if skI T off = 0 then T else (T.put (skR T off) (pcAt S (skP T off).off (skI T off))).ins (skR T off + 1) (pcAt S ((skP T off).off + skI T off) ((skP T off).len - skI T off))
def cutN (T : AT) (off : Int) : Nat := skR T off + (if skI T off = 0 then 0 else 1)

theorem flat_pos {T : AT} (h : T.ok) : ∀ p ∈ T.flat, 1 ≤ p.len := fun p hp => by
  have := h.1 p hp
  simp only [pcOk, decide_eq_true_eq] at this
  omega
theorem told_pos {T : AT} (h : T.ok) : ∀ x ∈ T.told 0, 1 ≤ x.pc.len := fun x hx => flat_pos h _ (by rw [← AT.flat_of T 0]; exact List.mem_map.2 ⟨x, hx, rfl⟩)
theorem cutN_rank {T : AT} {off : Int} (h : T.ok) (h0 : 0 ≤ off) (h1 : off ≤ T.rns) : cutN T off = rankL (T.told 0) off := (rank_seek T off (told_pos h) h0 h1).symm
theorem sk_at {T : AT} {off : Int} (h : T.ok) (h0 : 0 ≤ off) (h1 : off ≤ T.rns) :
    skR T off ≤ T.its ∧ lsum (T.flat.take (skR T off)) = off - skI T off ∧ (skI T off = 0 ∨ (0 < skI T off ∧ skI T off < (skP T off).len ∧ T.flat[skR T off]? = some (skP T off))) := seek_at T off (flat_pos h) h0 h1
theorem split_at {F : List Pc} {r : Nat} {p : Pc} (h : F[r]? = some p) : F = F.take r ++ p :: F.drop (r + 1) ∧ r < F.length := by
  have hr : r < F.length := by
    rcases Nat.lt_or_ge r F.length with q | q
    · exact q
    · rw [List.getElem?_eq_none q] at h; cases h
  refine ⟨?_, hr⟩
  have e : F[r] = p := by rw [List.getElem?_eq_getElem hr] at h; exact Option.some.inj h
  rw [← e]
  exact (List.take_append_drop r F).symm.trans (by rw [List.drop_eq_getElem_cons hr])
theorem put_flat' (T : AT) (r : Nat) (e p : Pc) (h : T.flat[r]? = some p) : (T.put r e).flat = T.flat.take r ++ e :: T.flat.drop (r + 1) := by
  obtain ⟨h1, h2⟩ := split_at h
  rw [AT.put_flat T r e (by rw [← AT.flat_its]; exact h2), List.set_eq_take_append_cons_drop, if_pos h2]
theorem cutP_flat {S : List Int} {T : AT} {off : Int} (h : T.ok) (h0 : 0 ≤ off) (h1 : off ≤ T.rns) (hi : skI T off ≠ 0) :
    (cutP S T off).flat = T.flat.take (skR T off) ++ pcAt S (skP T off).off (skI T off) :: pcAt S ((skP T off).off + skI T off) ((skP T off).len - skI T off) :: T.flat.drop (skR T off + 1) := by
  obtain ⟨a, b, c⟩ := sk_at h h0 h1
  obtain ⟨c1, c2, c3⟩ := c.resolve_left hi
  have hr := (split_at c3).2
  have hpf := put_flat' T (skR T off) (pcAt S (skP T off).off (skI T off)) _ c3
  have hlt : (T.flat.take (skR T off)).length = skR T off := by rw [List.length_take]; omega
  rw [cutP, if_neg hi, AT.ins_flat _ _ _ (by rw [AT.put_its, ← AT.flat_its]; omega), hpf]
  have e1 : (T.flat.take (skR T off) ++ pcAt S (skP T off).off (skI T off) :: T.flat.drop (skR T off + 1)).take (skR T off + 1) = T.flat.take (skR T off) ++ [pcAt S (skP T off).off (skI T off)] := take_mid _ _ _ _ hlt
  have e2 : (T.flat.take (skR T off) ++ pcAt S (skP T off).off (skI T off) :: T.flat.drop (skR T off + 1)).drop (skR T off + 1) = T.flat.drop (skR T off + 1) := by
    have : ∀ (A B : List Pc) (x : Pc) (n : Nat), A.length = n → (A ++ x :: B).drop (n + 1) = B := by
      intro A B x n hn
      subst hn
      rw [List.drop_length_add_append]; rfl
    exact this _ _ _ _ hlt
  rw [e1, e2, List.append_assoc]
  rfl
theorem cutP_len {S : List Int} {T : AT} {off : Int} (h : T.ok) (h0 : 0 ≤ off) (h1 : off ≤ T.rns) : lsum (cutP S T off).flat = lsum T.flat := by
  by_cases hi : skI T off = 0
  · rw [cutP, if_pos hi]
  · obtain ⟨a, b, c⟩ := sk_at h h0 h1
    obtain ⟨c1, c2, c3⟩ := c.resolve_left hi
    rw [cutP_flat h h0 h1 hi, lsum_app, lsum_cons, lsum_cons]
    conv => rhs; rw [(split_at c3).1]
    rw [lsum_app, lsum_cons]
    simp only [pcAt]
    omega
theorem cutP_wp {S : List Int} {T : AT} {off : Int} (h : T.ok) (hw : T.wp S) (h0 : 0 ≤ off) (h1 : off ≤ T.rns) : (cutP S T off).wp S := by
  by_cases hi : skI T off = 0
  · rw [cutP, if_pos hi]; exact hw
  · obtain ⟨a, b, c⟩ := sk_at h h0 h1
    obtain ⟨c1, c2, c3⟩ := c.resolve_left hi
    have hF := (wp_flat S T).1 hw
    have hp := hF _ (List.mem_of_getElem? c3)
    refine (wp_flat S _).2 fun q hq => ?_
    rw [cutP_flat h h0 h1 hi] at hq
    simp only [List.mem_append, List.mem_cons] at hq
    rcases hq with hq | rfl | rfl | hq
    · exact hF q (List.mem_of_mem_take hq)
    · exact pcAt_wp hp.1 (by omega) (by have := hp.2.2.1; omega)
    · exact pcAt_wp (by have := hp.1; omega) (by omega) (by have := hp.2.2.1; omega)
    · exact hF q (List.mem_of_mem_drop hq)
theorem cutP_ok {S : List Int} {T : AT} {off : Int} (h : T.ok) (hw : T.wp S) (hS : S.length ≤ 220000) (h0 : 0 ≤ off) (h1 : off ≤ T.rns) : (cutP S T off).ok := by
  refine ⟨fun q hq => ?_, by rw [AT.rns_lsum, cutP_len h h0 h1, ← AT.rns_lsum]; exact h.2⟩
  by_cases hi : skI T off = 0
  · rw [cutP, if_pos hi] at hq; exact h.1 q hq
  · obtain ⟨a, b, c⟩ := sk_at h h0 h1
    obtain ⟨c1, c2, c3⟩ := c.resolve_left hi
    have hp := (wp_flat S T).1 hw _ (List.mem_of_getElem? c3)
    have hk := h.1 _ (List.mem_of_getElem? c3)
    simp only [pcOk, decide_eq_true_eq] at hk
    have hp3 := hp.2.2.1
    rw [cutP_flat h h0 h1 hi] at hq
    simp only [List.mem_append, List.mem_cons] at hq
    rcases hq with hq | rfl | rfl | hq
    · exact h.1 q (List.mem_of_mem_take hq)
    · exact pcAt_ok (by omega) (by omega) (by omega) (by omega) hS
    · exact pcAt_ok (by omega) (by omega) (by omega) (by omega) hS
    · exact h.1 q (List.mem_of_mem_drop hq)
theorem cutP_bal {S : List Int} {T : AT} {off : Int} (hb : T.bal) : (cutP S T off).bal := by
  unfold cutP
  split
  · exact hb
  · exact (AT.ins_bal _ _ _ (AT.put_bal _ _ _ hb)).1
theorem cutN_at {S : List Int} {T : AT} {off : Int} (h : T.ok) (h0 : 0 ≤ off) (h1 : off ≤ T.rns) : cutN T off ≤ (cutP S T off).its ∧ lsum ((cutP S T off).flat.take (cutN T off)) = off := by
  obtain ⟨a, b, c⟩ := sk_at h h0 h1
  by_cases hi : skI T off = 0
  · rw [cutP, if_pos hi, cutN, if_pos hi]
    exact ⟨a, by rw [Nat.add_zero, b]; omega⟩
  · obtain ⟨c1, c2, c3⟩ := c.resolve_left hi
    have hr := (split_at c3).2
    have hlt : (T.flat.take (skR T off)).length = skR T off := by rw [List.length_take]; omega
    rw [← AT.flat_its, cutP_flat h h0 h1 hi, cutN, if_neg hi]
    constructor
    · simp only [List.length_append, List.length_cons]; omega
    · rw [take_mid _ _ _ _ hlt, lsum_app, lsum_cons, lsum_nil, b]
      simp only [pcAt]; omega
/-- The rank in the cut tree is the same. -/
theorem cut_rank {S : List Int} {T : AT} {off : Int} (h : T.ok) (hw : T.wp S) (hS : S.length ≤ 220000) (h0 : 0 ≤ off) (h1 : off ≤ T.rns) : rankL ((cutP S T off).told 0) off = cutN T off := by
  obtain ⟨a, b⟩ := cutN_at (S := S) h h0 h1
  exact rankL_char _ _ _ (told_pos (cutP_ok h hw hS h0 h1)) (by rw [AT.told_length]; exact a) (by rw [total_take]; exact b)
end Go.Proofs.YtbgngikejgihgahGreatDoor

namespace Go.Proofs.YtbgngikejgihgahGreatDoor
open Go Go.RowKit
set_option linter.unusedVariables false

set_option maxHeartbeats 1000000 in
set_option maxRecDepth 100000 in
theorem plantN (L : AT) (p : Pc) (R : AT) (ul ur : Option Addr) (bl br : List Nat) (base : Nat) (w : World) (hL : Lies w base L ul bl) (hR : Lies w base R ur br) (hok : (AT.node L p R).ok) (hbase : base ≤ w.heap.size) :
    Calls Tryz.prog 232 #[.pointer ul, pcV p, .pointer ur] w fun e w' => ∃ b, e = .returned (.pointer (some ⟨b, 0, none⟩)) ∧ w.heap.size ≤ b ∧ Lies w' base (.node L p R) (some ⟨b, 0, none⟩) (b :: (bl ++ br)) ∧ Below w.heap.size w w' := by
  have hbl := fun x hx => (hL.lt x hx).2
  have hbr := fun x hx => (hR.lt x hx).2
  have HB := hide (((Below.refl w.heap.size w).alloc (Nat.le_refl _) (.cells #[.int .i64 p.off, .int .i64 p.len, .int .i64 p.brk] 130)).alloc (by simp) (.cells (ndC p ul ur 0 0 0 0) 344))
  have hN : Nd ((w.alloc (.cells #[.int .i64 p.off, .int .i64 p.len, .int .i64 p.brk] 130)).alloc (.cells (ndC p ul ur 0 0 0 0) 344)) (w.heap.size + 1) p ul ur 0 0 0 0 := by
    have := heap_alloc_new (w.alloc (.cells #[.int .i64 p.off, .int .i64 p.len, .int .i64 p.brk] 130)) (.cells (ndC p ul ur 0 0 0 0) 344)
    simpa [Nd] using this
  have HK := hide (recountN L p R (w.heap.size + 1) ul ur bl br base 0 0 0 0 _ hN (hL.below HB.out (Nat.le_refl _)) (hR.below HB.out (Nat.le_refl _)) (fun h => by have := hbl _ h; omega) (fun h => by have := hbr _ h; omega) hok)
  have HL := hide (hL.below HB.out (Nat.le_refl _))
  have HR := hide (hR.below HB.out (Nat.le_refl _))
  have HX := hide (And.intro hbl hbr)
  clear hL hR hok hbl hbr hN
  unfold pcV
  go_enter Tryz.func232, Tryz.ntmps232
  go_wp2_with fail
  refine HK.out.mono ?_
  rintro e w1 ⟨rfl, hn, hc⟩
  have HN := hide hn
  have HC := hide hc
  clear hn hc HK
  go_wp2
  go_ret
  have h1 : ∀ x ∈ bl, x ∉ [w.heap.size + 1] := fun x hx e => by have := HX.out.1 x hx; simp at e; omega
  have h2 : ∀ x ∈ br, x ∉ [w.heap.size + 1] := fun x hx e => by have := HX.out.2 x hx; simp at e; omega
  exact ⟨w.heap.size + 1, rfl, by omega, ⟨_, ul, ur, bl, br, rfl, by omega, HN.out, HL.out.chg HC.out h1, HR.out.chg HC.out h2, rfl⟩, HB.out.trans (HC.out.below (by simp; omega) (by simp))⟩

set_option maxHeartbeats 1000000 in
set_option maxRecDepth 100000 in
theorem leanN (L : AT) (p : Pc) (R : AT) (b : Nat) (ul ur : Option Addr) (bl br : List Nat) (base : Nat) (h i n k : Int) (w : World) (hn : Nd w b p ul ur h i n k)
    (hL : Lies w base L ul bl) (hR : Lies w base R ur br) (h1 : (L.ht : Int) ≤ 8192) (h2 : (R.ht : Int) ≤ 8192) :
    Calls Tryz.prog 243 #[.pointer (some ⟨b, 0, none⟩)] w fun e w' => e = .returned (.int .i64 ((L.ht : Int) - R.ht)) ∧ Chg [] w w' := by
  have c3 := hn.c3
  have c4 := hn.c4
  have hlt := hn.lt
  have HL := hide hL
  have HR := hide hR
  clear hn hL hR
  have hw : IntKind.i64.wrap ((L.ht : Int) - R.ht) = (L.ht : Int) - R.ht := i64w _ (by omega) (by omega)
  go_enter Tryz.func243, Tryz.ntmps243
  go_upto_region 1 with fail
  go_region_with (first
      | (go_at_call_of 274 (Value.pointer ul); refine (heightN L ul bl base _ (by exact HL.out.frame (fun _ _ => rfl))).mono ?_; rintro e w1 ⟨rfl, rfl⟩)
      | (go_at_call_of 274 (Value.pointer ur); refine (heightN R ur br base _ (by exact HR.out.frame (fun _ _ => rfl))).mono ?_; rintro e w2 ⟨rfl, rfl⟩))
  all_goals (go_wp2; go_ret; exact ⟨by first | rfl | simp [hw], (Chg.refl _ _).drawn rfl rfl rfl rfl⟩)
end Go.Proofs.YtbgngikejgihgahGreatDoor
