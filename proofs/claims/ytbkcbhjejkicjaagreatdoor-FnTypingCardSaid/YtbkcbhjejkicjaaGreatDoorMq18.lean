import Derived.Test.YtbkcbhjejkicjaaGreatDoorMq17
import Derived.Lib.Hide
namespace Go.Proofs.YtbkcbhjejkicjaaGreatDoor
open Go Go.RowKit
set_option linter.unusedVariables false

def pcC (q : Pc) : List Value := [.int .i64 q.off, .int .i64 q.len, .int .i64 q.brk]
def pcCs (qs : List Pc) : List Value := qs.flatMap pcC
theorem pcCs_append (a b : List Pc) : pcCs (a ++ b) = pcCs a ++ pcCs b := by simp [pcCs]
theorem pcCs_get (qs : List Pc) (i k : Nat) (q : Pc) (h : qs[i]? = some q) (hk : k < 3) : (pcCs qs)[i * 3 + k]? = (pcC q)[k]? := by
  induction qs generalizing i with
  | nil => simp at h
  | cons a t ih =>
    have e : pcCs (a :: t) = pcC a ++ pcCs t := by simp [pcCs]
    rw [e]
    cases i with
    | zero => simp at h; subst h; rw [List.getElem?_append_left (by simp [pcC]; omega)]; simp
    | succ i =>
      rw [List.getElem?_append_right (by simp [pcC]; omega)]
      have := ih i (by simpa using h)
      rw [← this]
      congr 1
      simp [pcC]; omega

theorem Tryz.infoPC : (Tryz.prog.info? 155).map (fun i => (i.zero, i.size, i.bytes)) = some (some (.agg #[.int .i64 0, .int .i64 0, .int .i64 0]), 3, 24) := by kernel_rfl

/-- An owned row of pieces. -/
def OwP (w : World) (base : Nat) (v : Value) (qs : List Pc) : Prop := w.ownsRow base 155 3 v qs.length (pcCs qs)


def PcAt (w : World) (b o : Nat) (q : Pc) : Prop :=
  w.cell? ⟨b, o, none⟩ = some (.int .i64 q.off) ∧ w.cell? ⟨b, o + 1, none⟩ = some (.int .i64 q.len) ∧ w.cell? ⟨b, o + 2, none⟩ = some (.int .i64 q.brk)
/-- A slice value that reads as these pieces, in a block below B. -/
def RdP (B : Nat) (w : World) (v : Value) (qs : List Pc) : Prop :=
  (∃ ao cap, v = .slice ao 0 cap ∧ qs = []) ∨
  (∃ b off cap, v = .slice (some ⟨b, off, none⟩) qs.length cap ∧ (0 < qs.length ∧ qs.length ≤ cap ∧ cap ≤ maxLen) ∧ b < B ∧ ∀ i q, qs[i]? = some q → PcAt w b (off + i * 3) q)
theorem RdP.below {B B' : Nat} {w w' : World} {v : Value} {qs : List Pc} (h : RdP B w v qs) (hb : Below B' w w') (hB : B ≤ B') : RdP B w' v qs := by
  rcases h with h | ⟨b, off, cap, hv, hp, hl, hc⟩
  · exact .inl h
  · refine .inr ⟨b, off, cap, hv, hp, hl, fun i q hq => ?_⟩
    obtain ⟨a0, a1, a2⟩ := hc i q hq
    exact ⟨(hb.cell (p := ⟨b, off + i * 3, none⟩) (by show b < B'; omega)).trans a0, (hb.cell (p := ⟨b, off + i * 3 + 1, none⟩) (by show b < B'; omega)).trans a1, (hb.cell (p := ⟨b, off + i * 3 + 2, none⟩) (by show b < B'; omega)).trans a2⟩
theorem OwP.rd {w : World} {base : Nat} {v : Value} {qs : List Pc} (h : OwP w base v qs) : RdP w.heap.size w v qs := by
  unfold OwP at h
  rcases h.2 with ⟨rfl, h0⟩ | ⟨g, cap, cur, rfl, hb, _, hc, hm, _⟩
  · exact .inl ⟨_, _, rfl, List.eq_nil_of_length_eq_zero h0⟩
  · rcases Nat.eq_zero_or_pos qs.length with h0 | h0
    · exact .inl ⟨_, _, by rw [h0], List.eq_nil_of_length_eq_zero h0⟩
    · refine .inr ⟨g, 0, cap, rfl, ⟨h0, hc, hm⟩, (h.lt g rfl).2, fun i q hq => ?_⟩
      have hi : i < qs.length := (List.getElem?_eq_some_iff.1 hq).1
      refine ⟨?_, ?_, ?_⟩
      · have := h.cellAt (0 + i * 3) (by omega)
        rw [this, Nat.zero_add]; exact (pcCs_get qs i 0 q hq (by omega)).trans rfl
      · have := h.cellAt (0 + i * 3 + 1) (by omega)
        rw [this, Nat.zero_add]; exact (pcCs_get qs i 1 q hq (by omega)).trans rfl
      · have := h.cellAt (0 + i * 3 + 2) (by omega)
        rw [this, Nat.zero_add]; exact (pcCs_get qs i 2 q hq (by omega)).trans rfl
end Go.Proofs.YtbkcbhjejkicjaaGreatDoor

namespace Go.Proofs.YtbkcbhjejkicjaaGreatDoor
open Go Go.RowKit
set_option linter.unusedVariables false

/-- The tree over a stretch of pieces, halved again and again. -/
def midT : Nat → List Pc → AT
  | 0, _ => .nil
  | f + 1, ps => match ps[ps.length / 2]? with
    | none => .nil
    | some p => .node (midT f (ps.take (ps.length / 2))) p (midT f (ps.drop (ps.length / 2 + 1)))
theorem midT_nil (f : Nat) : midT f [] = .nil := by cases f <;> simp [midT]
theorem midT_some {f : Nat} {ps : List Pc} {p : Pc} (h : ps[ps.length / 2]? = some p) : midT (f + 1) ps = .node (midT f (ps.take (ps.length / 2))) p (midT f (ps.drop (ps.length / 2 + 1))) := by
  simp only [midT, h]
theorem midT_flat : ∀ (f : Nat) (ps : List Pc), ps.length ≤ f → (midT f ps).flat = ps
  | 0, ps, h => by
    obtain rfl : ps = [] := List.eq_nil_of_length_eq_zero (by omega)
    rfl
  | f + 1, ps, h => by
    rcases Nat.eq_zero_or_pos ps.length with h0 | h0
    · obtain rfl : ps = [] := List.eq_nil_of_length_eq_zero h0
      rw [midT_nil]; rfl
    · have hl : ps.length / 2 < ps.length := by omega
      have hp : ps[ps.length / 2]? = some ps[ps.length / 2] := List.getElem?_eq_getElem hl
      rw [midT_some hp]
      show (midT f _).flat ++ _ :: (midT f _).flat = ps
      rw [midT_flat f _ (by rw [List.length_take]; omega), midT_flat f _ (by rw [List.length_drop]; omega)]
      rw [← List.drop_eq_getElem_cons hl, List.take_append_drop]

theorem RdP.cutL {B b o cap : Nat} {w : World} {ps : List Pc} (h : RdP B w (.slice (some ⟨b, o, none⟩) ps.length cap) ps) (m : Nat) (hm : m ≤ ps.length) : RdP B w (.slice (some ⟨b, o, none⟩) m cap) (ps.take m) := by
  have hl : (ps.take m).length = m := by rw [List.length_take]; omega
  rcases Nat.eq_zero_or_pos m with h0 | h0
  · subst h0; exact .inl ⟨_, _, rfl, by simp⟩
  · rcases h with ⟨_, _, e1, e2⟩ | ⟨b', o', c', e1, hp, hb, hc⟩
    · rw [e2] at hm; simp at hm; omega
    · simp only [Value.slice.injEq, Option.some.injEq, Addr.mk.injEq, and_true] at e1
      obtain ⟨⟨rfl, rfl⟩, _, rfl⟩ := e1
      refine .inr ⟨b, o, cap, by rw [hl], ⟨by omega, by omega, hp.2.2⟩, hb, fun i q hq => hc i q ?_⟩
      rw [List.getElem?_take] at hq
      split at hq
      · exact hq
      · cases hq
theorem RdP.cutR {B b o cap : Nat} {w : World} {ps : List Pc} {ao : Option Addr} (h : RdP B w (.slice (some ⟨b, o, none⟩) ps.length cap) ps) (m : Nat) (hm : m ≤ ps.length) (ha : m < ps.length → ao = some ⟨b, o + m * 3, none⟩) : RdP B w (.slice ao (ps.length - m) (cap - m)) (ps.drop m) := by
  have hl : (ps.drop m).length = ps.length - m := by rw [List.length_drop]
  rcases Nat.eq_or_lt_of_le hm with h0 | h0
  · refine .inl ⟨ao, cap - m, by rw [h0, Nat.sub_self], List.drop_eq_nil_of_le (by omega)⟩
  · rcases h with ⟨_, _, e1, e2⟩ | ⟨b', o', c', e1, hp, hb, hc⟩
    · rw [e2] at h0; simp at h0
    · simp only [Value.slice.injEq, Option.some.injEq, Addr.mk.injEq, and_true] at e1
      obtain ⟨⟨rfl, rfl⟩, _, rfl⟩ := e1
      refine .inr ⟨b, o + m * 3, cap - m, by rw [hl, ha h0], ⟨by omega, by omega, by omega⟩, hb, fun i q hq => ?_⟩
      rw [List.getElem?_drop] at hq
      have := hc (m + i) q hq
      rw [show o + m * 3 + i * 3 = o + (m + i) * 3 by omega]
      exact this
end Go.Proofs.YtbkcbhjejkicjaaGreatDoor

namespace Go.Proofs.YtbkcbhjejkicjaaGreatDoor
open Go Go.RowKit
set_option linter.unusedVariables false

/-- How long chunk i is. -/
def cln (n i : Nat) : Nat := min 16 (n - 16 * i)
/-- Chunk i of a text. -/
def chP (zs : List Int) (i : Nat) : Pc := ⟨((16 * i : Nat) : Int), ((cln zs.length i : Nat) : Int), brk ((zs.drop (16 * i)).take (cln zs.length i))⟩
def chs (zs : List Int) (j : Nat) : List Pc := (List.range j).map (chP zs)
theorem chs_length (zs : List Int) (j : Nat) : (chs zs j).length = j := by simp [chs]
theorem chs_succ (zs : List Int) (j : Nat) : chs zs (j + 1) = chs zs j ++ [chP zs j] := by simp [chs, List.range_succ]
end Go.Proofs.YtbkcbhjejkicjaaGreatDoor

namespace Go.Proofs.YtbkcbhjejkicjaaGreatDoor
open Go Go.RowKit
set_option linter.unusedVariables false

/-- The tree of a loaded text. -/
def ldT (zs : List Int) : AT := midT 8192 (chs zs ((zs.length + 15) / 16))
theorem own32_cells {w : World} {base g cap : Nat} {zs : List Int} (h : own32 w base (.slice (some ⟨g, 0, none⟩) zs.length cap) zs) : ∀ i, i < zs.length → w.cell? ⟨g, 0 + i, none⟩ = some (.int .i32 (zs.getD i 0)) := by
  intro i hi
  have h1 := h.cellAt i (by omega)
  rw [Nat.zero_add, h1]
  simp [ints, List.getD_eq_getElem?_getD, hi]

theorem ownP_app3 {W : World} {base : Nat} {v : Value} {E F : List Pc} {n m : Nat} (hn : E.length = n) (hm : F.length = m) (h : W.ownsRow base 155 3 v (n + m) (pcCs E ++ pcCs F)) : OwP W base v (E ++ F) := by
  subst hn hm; unfold OwP; rw [List.length_append, pcCs_append]; exact h

theorem chP_cells (zs : List Int) (j : Nat) (l : Int) (hl : l = (cln zs.length j : Nat)) : pcCs [chP zs j] = [.int .i64 (16 * (j : Int)), .int .i64 l, .int .i64 (brk ((zs.drop (16 * (j : Int)).toNat).take l.toNat))] := by
  have h1 : (16 * (j : Int)).toNat = 16 * j := by omega
  have h2 : l.toNat = cln zs.length j := by omega
  rw [h1, h2, hl]
  simp [pcCs, pcC, chP]

end Go.Proofs.YtbkcbhjejkicjaaGreatDoor

namespace Go.Proofs.YtbkcbhjejkicjaaGreatDoor
open Go Go.RowKit
set_option linter.unusedVariables false

theorem midT_ht : ∀ (f : Nat) (ps : List Pc), ps.length ≤ f → (midT f ps).bal ∧ ps.length < 2 ^ (midT f ps).ht ∧ ((midT f ps).ht = 0 ∨ 2 ^ ((midT f ps).ht - 1) ≤ ps.length)
  | 0, ps, h => by
    obtain rfl : ps = [] := List.eq_nil_of_length_eq_zero (by omega)
    exact ⟨trivial, by simp [midT, AT.ht], .inl rfl⟩
  | f + 1, ps, h => by
    rcases Nat.eq_zero_or_pos ps.length with h0 | h0
    · obtain rfl : ps = [] := List.eq_nil_of_length_eq_zero h0
      rw [midT_nil]
      exact ⟨trivial, by simp [AT.ht], .inl rfl⟩
    · have hl : ps.length / 2 < ps.length := by omega
      have hp : ps[ps.length / 2]? = some ps[ps.length / 2] := List.getElem?_eq_getElem hl
      have l1 : (ps.take (ps.length / 2)).length = ps.length / 2 := by rw [List.length_take]; omega
      have l2 : (ps.drop (ps.length / 2 + 1)).length = ps.length - (ps.length / 2 + 1) := by rw [List.length_drop]
      obtain ⟨a1, a2, a3⟩ := midT_ht f (ps.take (ps.length / 2)) (by omega)
      obtain ⟨b1, b2, b3⟩ := midT_ht f (ps.drop (ps.length / 2 + 1)) (by omega)
      rw [midT_some hp]
      rw [l1] at a2 a3
      rw [l2] at b2 b3
      generalize (midT f (ps.take (ps.length / 2))) = A at *
      generalize (midT f (ps.drop (ps.length / 2 + 1))) = B at *
      have c1 : B.ht ≤ A.ht := by
        rcases b3 with b3 | b3
        · omega
        · rcases Nat.lt_or_ge A.ht B.ht with q | q
          · have := Nat.pow_le_pow_right (show 0 < 2 by omega) (show A.ht ≤ B.ht - 1 by omega)
            omega
          · exact q
      have c2 : A.ht ≤ B.ht + 1 := by
        rcases a3 with a3 | a3
        · omega
        · rcases Nat.lt_or_ge (B.ht + 1) A.ht with q | q
          · have e1 := Nat.pow_le_pow_right (show 0 < 2 by omega) (show B.ht + 1 ≤ A.ht - 1 by omega)
            have e2 : 2 ^ (B.ht + 1) = 2 ^ B.ht * 2 := Nat.pow_succ ..
            omega
          · exact q
      have hpw := Nat.pow_le_pow_right (show 0 < 2 by omega) c1
      refine ⟨⟨a1, b1, by omega, by omega⟩, ?_, .inr ?_⟩
      · simp only [AT.ht]
        have e : max A.ht B.ht = A.ht := by omega
        rw [e]
        have e2 : 2 ^ (A.ht + 1) = 2 ^ A.ht * 2 := Nat.pow_succ ..
        rw [show 1 + A.ht = A.ht + 1 by omega] <;> omega
      · simp only [AT.ht]
        have e : max A.ht B.ht = A.ht := by omega
        rw [e]
        rcases a3 with a3 | a3
        · rw [a3]; simp; omega
        · have e2 : 2 ^ A.ht = 2 ^ (A.ht - 1) * 2 := by
            rcases Nat.eq_zero_or_pos A.ht with q | q
            · rw [q] at a3 a2; simp at a3 a2; omega
            · rw [← Nat.pow_succ, Nat.succ_eq_add_one, Nat.sub_add_cancel q]
          have e3 : 1 + A.ht - 1 = A.ht := by omega
          first | (rw [e3, e2]; omega) | (simp only [Nat.add_sub_cancel]; rw [e2]; omega)

theorem chs_sumD (zs : List Int) : ∀ j, 16 * j < zs.length + 16 → lsum (chs zs j) = ((min (16 * j) zs.length : Nat) : Int)
  | 0, _ => by simp [chs, lsum]
  | j + 1, h => by
    rw [chs_succ, lsum_app, chs_sumD zs j (by omega), lsum_cons, lsum_nil]
    simp only [chP, cln]
    omega
theorem chP_wp (zs : List Int) (i : Nat) (hi : 16 * i < zs.length) : WP zs (chP zs i) ∧ 1 ≤ (chP zs i).len ∧ (chP zs i).len ≤ 16 := by
  have hc : cln zs.length i ≤ 16 ∧ 1 ≤ cln zs.length i ∧ 16 * i + cln zs.length i ≤ zs.length := by unfold cln; omega
  refine ⟨⟨?_, ?_, ?_, ?_⟩, ?_, ?_⟩
  · simp only [chP]; omega
  · simp only [chP]; omega
  · simp only [chP]; omega
  · simp only [chP, ptx, Int.toNat_natCast]
  · simp only [chP]; omega
  · simp only [chP]; omega
/-- The tree of a loaded text. -/
theorem ldT_all (zs : List Int) (hn : zs.length ≤ 8192) : (ldT zs).ok ∧ (ldT zs).bal ∧ (ldT zs).wp zs ∧ (ldT zs).rns = zs.length := by
  have hj : (chs zs ((zs.length + 15) / 16)).length ≤ 8192 := by rw [chs_length]; omega
  have hf : (ldT zs).flat = chs zs ((zs.length + 15) / 16) := midT_flat 8192 _ hj
  have hr : (ldT zs).rns = zs.length := by rw [AT.rns_lsum, hf, chs_sumD zs _ (by omega)]; omega
  have hq : ∀ p ∈ (ldT zs).flat, WP zs p ∧ 1 ≤ p.len ∧ p.len ≤ 16 := by
    intro p hp
    rw [hf] at hp
    obtain ⟨i, hi, rfl⟩ := List.mem_map.1 hp
    exact chP_wp zs i (by have := List.mem_range.1 hi; omega)
  refine ⟨⟨fun p hp => ?_, by rw [hr]; omega⟩, (midT_ht 8192 _ hj).1, (wp_flat zs _).2 fun p hp => (hq p hp).1, hr⟩
  obtain ⟨⟨a1, a2, a3, a4⟩, a5, a6⟩ := hq p hp
  have hb := brk_bdl (ptx zs p)
  have hl : ((ptx zs p).length : Int) = p.len := ptx_len ⟨a1, a2, a3, a4⟩
  simp only [pcOk, decide_eq_true_eq]
  omega
end Go.Proofs.YtbkcbhjejkicjaaGreatDoor

namespace Go.Proofs.YtbkcbhjejkicjaaGreatDoor
open Go Go.RowKit
set_option linter.unusedVariables false

/-- The text of a row of pieces. -/
def fx (S : List Int) (F : List Pc) : List Int := F.flatMap (ptx S)
theorem fx_nil (S : List Int) : fx S [] = [] := rfl
theorem fx_cons (S : List Int) (p : Pc) (F : List Pc) : fx S (p :: F) = ptx S p ++ fx S F := List.flatMap_cons
theorem fx_app (S : List Int) (F G : List Pc) : fx S (F ++ G) = fx S F ++ fx S G := by simp [fx]
theorem fx_len {S : List Int} : ∀ {F : List Pc}, (∀ p ∈ F, WP S p) → ((fx S F).length : Int) = lsum F
  | [], _ => rfl
  | p :: F, h => by
    rw [fx_cons, lsum_cons, List.length_append]
    have h1 := ptx_len (h p (by simp))
    have h2 := fx_len (F := F) (fun q hq => h q (by simp [hq]))
    omega
theorem fx_at {S : List Int} {F : List Pc} {a n : Nat} (h : ∀ p ∈ F, WP S p) (hl : lsum (F.take a) = (n : Int)) : fx S (F.take a) = (fx S F).take n ∧ fx S (F.drop a) = (fx S F).drop n := by
  have h1 := fx_len (S := S) (F := F.take a) (fun p hp => h p (List.mem_of_mem_take hp))
  have h2 : (fx S (F.take a)).length = n := by omega
  have h3 : fx S F = fx S (F.take a) ++ fx S (F.drop a) := by rw [← fx_app, List.take_append_drop]
  rw [h3]
  exact ⟨(List.take_left' h2).symm, (List.drop_left' h2).symm⟩
theorem cutP_fx {S : List Int} {T : AT} {off : Int} (h : T.ok) (hw : T.wp S) (h0 : 0 ≤ off) (h1 : off ≤ T.rns) : fx S (cutP S T off).flat = fx S T.flat := by
  by_cases hi : skI T off = 0
  · rw [cutP, if_pos hi]
  · rw [cutP_flat h h0 h1 hi]
    obtain ⟨a, b, c⟩ := sk_at h h0 h1
    obtain ⟨c1, c2, c3⟩ := c.resolve_left hi
    have hp := (wp_flat S T).1 hw _ (List.mem_of_getElem? c3)
    obtain ⟨p1, p2, p3, p4⟩ := hp
    have e := ptx_two (S := S) (p := pcAt S (skP T off).off (skI T off)) (q := pcAt S ((skP T off).off + skI T off) ((skP T off).len - skI T off)) (pcAt_wp p1 (by omega) (by omega)) (pcAt_wp (by omega) (by omega) (by omega)) rfl
    have e2 : pcAt S (pcAt S (skP T off).off (skI T off)).off ((pcAt S (skP T off).off (skI T off)).len + (pcAt S ((skP T off).off + skI T off) ((skP T off).len - skI T off)).len) = skP T off := by
      have : (pcAt S (skP T off).off (skI T off)).len + (pcAt S ((skP T off).off + skI T off) ((skP T off).len - skI T off)).len = (skP T off).len := by show skI T off + ((skP T off).len - skI T off) = _; omega
      rw [this]
      exact pcAt_of ⟨p1, p2, p3, p4⟩
    rw [e2] at e
    conv => rhs; rw [(split_at c3).1]
    rw [fx_app, fx_app, fx_cons, fx_cons, fx_cons, e, List.append_assoc]
theorem cutP_at {S : List Int} {T : AT} {off : Int} (h : T.ok) (hw : T.wp S) (h0 : 0 ≤ off) (h1 : off ≤ T.rns) : fx S ((cutP S T off).flat.take (cutN T off)) = (fx S T.flat).take off.toNat ∧ fx S ((cutP S T off).flat.drop (cutN T off)) = (fx S T.flat).drop off.toNat := by
  have hA := cutN_at (S := S) h h0 h1
  have hW := (wp_flat S _).1 (cutP_wp h hw h0 h1)
  have e := fx_at (S := S) (F := (cutP S T off).flat) (a := cutN T off) (n := off.toNat) hW (by rw [hA.2]; omega)
  rw [cutP_fx h hw h0 h1] at e
  exact e
/-- What a text is behind an insertion. -/
theorem insP_tx {zs ts : List Int} {T : AT} {off : Int} (h : T.ok) (hw : T.wp zs) (h0 : 0 ≤ off) (h1 : off ≤ T.rns) : (insP (zs ++ ts) zs.length T off).tx (zs ++ ts) = (T.tx zs).take off.toNat ++ (ts ++ (T.tx zs).drop off.toNat) := by
  have hwS := hw.app ts
  have hSl : (zs ++ ts).length = zs.length + ts.length := List.length_append
  have hmS : ((zs ++ ts).length : Int) - (zs.length : Int) = (ts.length : Int) := by omega
  have hC := cutP_at (S := zs ++ ts) h hwS h0 h1
  have hA := cutN_at (S := zs ++ ts) h h0 h1
  have hWC := (wp_flat _ _).1 (cutP_wp (S := zs ++ ts) h hwS h0 h1)
  have hpt : ptx (zs ++ ts) (pcAt (zs ++ ts) zs.length ts.length) = ts := by
    unfold ptx pcAt
    simp
  rw [← tx_app hw ts, tx_flat, tx_flat]
  show fx (zs ++ ts) _ = (fx (zs ++ ts) T.flat).take _ ++ (ts ++ (fx (zs ++ ts) T.flat).drop _)
  rw [← hC.1, ← hC.2, insP, addP, hmS]
  by_cases hm : meetB zs.length (cutP (zs ++ ts) T off) (cutN T off) = true
  · rw [if_pos hm]
    simp only [meetB, decide_eq_true_eq] at hm
    have ha := ahead_at (T := cutP (zs ++ ts) T off) (R := cutN T off) hm.1 hA.1
    rw [put_flat' _ _ _ _ ha]
    have hWa := hWC _ (List.mem_of_getElem? ha)
    have e := ptx_two (S := zs ++ ts) (p := ahead (cutP (zs ++ ts) T off) (cutN T off)) (q := pcAt (zs ++ ts) zs.length ts.length) hWa (pcAt_wp (by omega) (by omega) (by omega)) hm.2
    have e' : ptx (zs ++ ts) (pcAt (zs ++ ts) (ahead (cutP (zs ++ ts) T off) (cutN T off)).off ((ahead (cutP (zs ++ ts) T off) (cutN T off)).len + (ts.length : Int))) = ptx (zs ++ ts) (ahead (cutP (zs ++ ts) T off) (cutN T off)) ++ ts := by rw [hpt] at e; exact e
    have hr : cutN T off - 1 + 1 = cutN T off := by omega
    rw [fx_app, fx_cons, e', hr]
    have et : (cutP (zs ++ ts) T off).flat.take (cutN T off) = (cutP (zs ++ ts) T off).flat.take (cutN T off - 1) ++ [ahead (cutP (zs ++ ts) T off) (cutN T off)] := by
      conv => lhs; rw [← hr]
      rw [List.take_add_one, ha]; rfl
    rw [et, fx_app, fx_cons, fx_nil]
    simp only [List.append_assoc, List.append_nil]
  · rw [if_neg hm, AT.ins_flat _ _ _ hA.1, fx_app, fx_cons, hpt]
/-- What a text is when it is loaded. -/
theorem chs_tx (zs : List Int) : ∀ j, fx zs (chs zs j) = zs.take (16 * j)
  | 0 => rfl
  | j + 1 => by
    rw [chs_succ, fx_app, chs_tx zs j, fx_cons, fx_nil, List.append_nil]
    have e : ptx zs (chP zs j) = (zs.drop (16 * j)).take (cln zs.length j) := by
      unfold ptx chP
      simp only [Int.toNat_natCast]
    rw [e]
    have h1 : (zs.drop (16 * j)).take (cln zs.length j) = (zs.drop (16 * j)).take 16 := by
      unfold cln
      by_cases h : 16 ≤ zs.length - 16 * j
      · rw [Nat.min_eq_left h]
      · rw [Nat.min_eq_right (by omega), List.take_of_length_le (by rw [List.length_drop]; omega), List.take_of_length_le (by rw [List.length_drop]; omega)]
    rw [h1, show 16 * (j + 1) = 16 * j + 16 by omega, List.take_add]
theorem ldT_tx (zs : List Int) (hn : zs.length ≤ 8192) : (ldT zs).tx zs = zs := by
  rw [tx_flat]
  show fx zs _ = zs
  rw [ldT, midT_flat _ _ (by rw [chs_length]; omega), chs_tx, List.take_of_length_le (by omega)]
end Go.Proofs.YtbkcbhjejkicjaaGreatDoor

namespace Go.Proofs.YtbkcbhjejkicjaaGreatDoor
open Go Go.RowKit
set_option linter.unusedVariables false

/-- What stands from a on to before b, the numbers cut to what is there. -/
def cutT (U : List Int) (a b : Int) : List Int := (U.drop a.toNat).take (b.toNat - a.toNat)
theorem cutT_append (A B : List Int) (a b : Int) (h : a ≤ b) : cutT (A ++ B) a b = cutT A a b ++ cutT B (a - A.length) (b - A.length) := by
  unfold cutT
  rw [List.drop_append, List.take_append, List.length_drop]
  congr 1
  rw [show (a - (A.length : Int)).toNat = a.toNat - A.length by omega]
  congr 1
  omega
theorem cutT_low (U : List Int) (a b : Int) (h : b ≤ 0) : cutT U a b = [] := by
  unfold cutT; rw [show b.toNat - a.toNat = 0 by omega, List.take_zero]
theorem cutT_high (U : List Int) (a b : Int) (h : (U.length : Int) ≤ a) : cutT U a b = [] := by
  unfold cutT; rw [List.drop_of_length_le (by omega), List.take_nil]
/-- What a walk across meets: offset and piece. -/
def acr (lo hi : Int) : AT → Int → List (Int × Pc)
  | .nil, _ => []
  | .node l p r, s => if hi ≤ s ∨ s + (AT.node l p r).rns ≤ lo then [] else
    acr lo hi l s ++ ((if s + l.rns < hi ∧ lo < s + l.rns + p.len then [(s + l.rns, p)] else []) ++ acr lo hi r (s + l.rns + p.len))
def txA (zs : List Int) (lo hi : Int) : List (Int × Pc) → List Int
  | [] => []
  | y :: ys => cutT (ptx zs y.2) (lo - y.1) (hi - y.1) ++ txA zs lo hi ys
theorem txA_append (zs : List Int) (lo hi : Int) (a b : List (Int × Pc)) : txA zs lo hi (a ++ b) = txA zs lo hi a ++ txA zs lo hi b := by
  induction a with
  | nil => rfl
  | cons x a ih => simp [txA, ih]
theorem acr_tx (zs : List Int) (lo hi : Int) (hlh : lo ≤ hi) : ∀ (T : AT) (s : Int), T.wp zs → txA zs lo hi (acr lo hi T s) = cutT (T.tx zs) (lo - s) (hi - s)
  | .nil, s, _ => by simp [acr, txA, cutT, AT.tx]
  | .node l p r, s, hw => by
    have hw' := hw
    obtain ⟨hl, hp, hr⟩ := hw
    have el := AT.tx_len hl
    have ep := ptx_len hp
    have ea := AT.tx_len hw'
    unfold acr
    split
    · rename_i hc
      rcases hc with hc | hc
      · rw [cutT_low _ _ _ (by omega)]; rfl
      · rw [cutT_high _ _ _ (by omega)]; rfl
    · simp only [AT.tx]
      rw [txA_append, txA_append, acr_tx zs lo hi hlh l s hl, acr_tx zs lo hi hlh r _ hr, cutT_append _ _ _ _ (by omega), cutT_append _ _ _ _ (by omega), el, ep]
      congr 1
      rw [show lo - s - l.rns - p.len = lo - (s + l.rns + p.len) by omega, show hi - s - l.rns - p.len = hi - (s + l.rns + p.len) by omega]
      congr 1
      split
      · simp only [txA, List.append_nil]
        rw [show lo - s - l.rns = lo - (s + l.rns) by omega, show hi - s - l.rns = hi - (s + l.rns) by omega]
      · rename_i hn
        by_cases h1 : s + l.rns < hi
        · rw [cutT_high _ _ _ (by omega)]; rfl
        · rw [cutT_low _ _ _ (by omega)]; rfl
def AT.pos : AT → Prop
  | .nil => True
  | .node l p r => l.pos ∧ 1 ≤ p.len ∧ r.pos
/-- What is met is a piece of the store that holds some of it. -/
def AcQ (zs : List Int) (lo hi : Int) (y : Int × Pc) : Prop := WP zs y.2 ∧ 0 ≤ y.1 ∧ y.1 ≤ 8192 ∧ y.1 < hi ∧ lo < y.1 + y.2.len ∧ y.2.len ≤ 8192 ∧ 1 ≤ y.2.len
theorem acr_q (zs : List Int) (lo hi : Int) : ∀ (T : AT) (s : Int), T.wp zs → T.pos → 0 ≤ s → s + T.rns ≤ 8192 → ∀ y ∈ acr lo hi T s, AcQ zs lo hi y
  | .nil, s, _, _, _, _ => by simp [acr]
  | .node l p r, s, hw, hps, h0, h1 => by
    obtain ⟨hl, hp, hr⟩ := hw
    obtain ⟨pl, pp, pr⟩ := hps
    have el := AT.tx_len hl
    have er := AT.tx_len hr
    have hp2 := hp.2.1
    simp only [AT.rns] at h1
    intro y hy
    unfold acr at hy
    split at hy
    · cases hy
    · rcases List.mem_append.1 hy with hy | hy
      · exact acr_q zs lo hi l s hl pl h0 (by omega) y hy
      · rcases List.mem_append.1 hy with hy | hy
        · split at hy
          · rename_i hc
            obtain rfl : y = (s + l.rns, p) := by simpa using hy
            exact ⟨hp, by simp only; omega, by simp only; omega, hc.1, hc.2, by simp only; omega, pp⟩
          · cases hy
        · exact acr_q zs lo hi r _ hr pr (by omega) (by omega) y hy
theorem acr_len (lo hi : Int) : ∀ (T : AT) (s : Int), (acr lo hi T s).length ≤ T.its
  | .nil, _ => by simp [acr]
  | .node l p r, s => by
    have h1 := acr_len lo hi l s
    have h2 := acr_len lo hi r (s + l.rns + p.len)
    unfold acr
    simp only [AT.its]
    split
    · simp
    · split
      · simp only [List.length_append, List.length_cons, List.length_nil]; omega
      · simp only [List.length_append, List.length_nil]; omega
end Go.Proofs.YtbkcbhjejkicjaaGreatDoor

