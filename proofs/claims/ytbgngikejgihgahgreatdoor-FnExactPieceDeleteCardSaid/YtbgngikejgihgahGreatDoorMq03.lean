import Derived.Test.YtbgngikejgihgahGreatDoorMq02
import Derived.WalkKit
import Derived.Test.YtbgngikejgihgahGreatDoorMq01
namespace Go.Proofs.YtbgngikejgihgahGreatDoor
open Go Go.RowKit
set_option linter.unusedVariables false

/-- Nothing of old has changed but these blocks. -/
structure Chg (bs : List Nat) (w w' : World) : Prop where
  os : w'.os = w.os
  tape : w'.tape = w.tape
  output : w'.output = w.output
  size : w.heap.size ≤ w'.heap.size
  block : ∀ k, k < w.heap.size → k ∉ bs → w'.heap[k]? = w.heap[k]?

theorem Chg.of_below {bs : List Nat} {w w' : World} (h : Below w.heap.size w w') : Chg bs w w' := ⟨h.os, h.tape, h.output, h.size, fun k hk _ => h.block k hk⟩
theorem Chg.refl (bs : List Nat) (w : World) : Chg bs w w := .of_below (Below.refl _ _)
theorem Chg.below {B : Nat} {bs : List Nat} {w w' : World} (h : Chg bs w w') (hB : B ≤ w.heap.size) (hbs : ∀ k ∈ bs, B ≤ k) : Below B w w' :=
  ⟨h.os, h.tape, h.output, h.size, fun k hk => h.block k (by omega) (fun hm => by have := hbs k hm; omega)⟩
theorem Chg.trans {bs cs ds : List Nat} {a b c : World} (h : Chg bs a b) (g : Chg cs b c) (h1 : ∀ k ∈ bs, k < a.heap.size → k ∈ ds) (h2 : ∀ k ∈ cs, k < a.heap.size → k ∈ ds) : Chg ds a c :=
  ⟨g.os.trans h.os, g.tape.trans h.tape, g.output.trans h.output, Nat.le_trans h.size g.size, fun k hk hn =>
    (g.block k (Nat.lt_of_lt_of_le hk h.size) (fun hm => hn (h2 k hm hk))).trans (h.block k hk (fun hm => hn (h1 k hm hk)))⟩
theorem Chg.setCell {bs : List Nat} {a b : World} (h : Chg bs a b) (x : Addr) (v : Value) (hx : x.block ∈ bs ∨ a.heap.size ≤ x.block) : Chg bs a (b.setCell x v) :=
  ⟨h.os, h.tape, h.output, by simpa using h.size, fun k hk hn => by
    rw [heap_setCell_other _ _ _ _ (by intro e; subst e; rcases hx with hx | hx; exact hn hx; omega)]; exact h.block k hk hn⟩
theorem Chg.drawn {bs : List Nat} {a b c : World} (h : Chg bs a b) (e1 : c.os = b.os) (e2 : c.tape = b.tape) (e3 : c.output = b.output) (e4 : c.heap = b.heap) : Chg bs a c :=
  ⟨e1.trans h.os, e2.trans h.tape, e3.trans h.output, by rw [e4]; exact h.size, fun k hk hn => by rw [e4]; exact h.block k hk hn⟩
theorem Lies.chg {w w' : World} {base : Nat} {cs : List Nat} {T : AT} {u : Option Addr} {bs : List Nat} (h : Lies w base T u bs) (hc : Chg cs w w') (hd : ∀ b ∈ bs, b ∉ cs) : Lies w' base T u bs :=
  h.frame fun b hb => hc.block b (h.lt b hb).2 (hd b hb)
theorem Nd.chg {w w' : World} {cs : List Nat} {b : Nat} {p : Pc} {l r : Option Addr} {h i n k : Int} (hn : Nd w b p l r h i n k) (hc : Chg cs w w') (hd : b ∉ cs) : Nd w' b p l r h i n k := by
  unfold Nd at hn ⊢; rw [hc.block b (Nd.lt hn) hd]; exact hn
theorem Nd.heap {w w' : World} {b : Nat} {p : Pc} {l r : Option Addr} {h i n k : Int} (hn : Nd w b p l r h i n k) (hc : w'.heap = w.heap) : Nd w' b p l r h i n k := by
  unfold Nd at hn ⊢; rw [hc]; exact hn
theorem Nd.set5 {w : World} {b : Nat} {p : Pc} {l r : Option Addr} {h i n k : Int} (hn : Nd w b p l r h i n k) (x : Int) : Nd (w.setCell ⟨b, 5, none⟩ (.int .i64 x)) b p l r x i n k := by
  unfold Nd at hn ⊢; rw [heap_setCell_same w b 5 _ _ _ hn]; rfl
theorem Nd.cong5 {w : World} {b : Nat} {p : Pc} {l r : Option Addr} {h h' i n k : Int} (hn : Nd w b p l r h i n k) (e : h = h') : Nd w b p l r h' i n k := e ▸ hn
theorem Nd.set678 {w : World} {b : Nat} {p : Pc} {l r : Option Addr} {h i n k : Int} (hn : Nd w b p l r h i n k) (x y z : Int) : Nd (((w.setCell ⟨b, 6, none⟩ (.int .i64 x)).setCell ⟨b, 7, none⟩ (.int .i64 y)).setCell ⟨b, 8, none⟩ (.int .i64 z)) b p l r h x y z := by
  unfold Nd at hn ⊢
  have h1 := heap_setCell_same w b 6 _ _ (.int .i64 x) hn
  have h2 := heap_setCell_same _ b 7 _ _ (.int .i64 y) h1
  have h3 := heap_setCell_same _ b 8 _ _ (.int .i64 z) h2
  rw [h3]; rfl

def AT.ok (T : AT) : Prop := (∀ p ∈ T.flat, pcOk p = true) ∧ T.rns ≤ 8192

theorem AT.rns_flat : ∀ T : AT, (∀ p ∈ T.flat, pcOk p = true) → (T.its : Int) ≤ T.rns ∧ 0 ≤ T.bks ∧ T.bks ≤ T.rns
  | .nil, _ => by simp [its, rns, bks]
  | .node l p r, h => by
    have hl := rns_flat l (fun q hq => h q (by simp [flat, hq]))
    have hr := rns_flat r (fun q hq => h q (by simp [flat, hq]))
    have hp := h p (by simp [flat])
    simp only [pcOk, decide_eq_true_eq] at hp
    simp only [its, rns, bks]; omega

theorem AT.ok.bd {T : AT} (h : T.ok) : (T.its : Int) ≤ 8192 ∧ 0 ≤ T.rns ∧ T.rns ≤ 8192 ∧ 0 ≤ T.bks ∧ T.bks ≤ 8192 := by
  have := rns_flat T h.1; have := h.2; omega
theorem AT.ok.left {l : AT} {p : Pc} {r : AT} (h : (AT.node l p r).ok) : l.ok := by
  have hr := rns_flat r (fun q hq => h.1 q (by simp [flat, hq]))
  have hp := h.1 p (by simp [flat])
  simp only [pcOk, decide_eq_true_eq] at hp
  refine ⟨fun q hq => h.1 q (by simp [flat, hq]), ?_⟩
  have := h.2; simp only [rns] at this; omega
theorem AT.ok.right {l : AT} {p : Pc} {r : AT} (h : (AT.node l p r).ok) : r.ok := by
  have hr := rns_flat l (fun q hq => h.1 q (by simp [flat, hq]))
  have hp := h.1 p (by simp [flat])
  simp only [pcOk, decide_eq_true_eq] at hp
  refine ⟨fun q hq => h.1 q (by simp [flat, hq]), ?_⟩
  have := h.2; simp only [rns] at this; omega
theorem AT.ok.piece {l : AT} {p : Pc} {r : AT} (h : (AT.node l p r).ok) : 0 ≤ p.off ∧ p.off ≤ 220000 ∧ 1 ≤ p.len ∧ p.len ≤ 8192 ∧ 0 ≤ p.brk ∧ p.brk ≤ 8192 := by
  have hp := h.1 p (by simp [flat])
  simp only [pcOk, decide_eq_true_eq] at hp
  omega
theorem AT.rns_of_flat : ∀ T : AT, T.rns = (T.flat.map (fun p => p.len)).sum
  | .nil => rfl
  | .node l p r => by simp only [rns, flat, List.map_append, List.map_cons, List.sum_append, List.sum_cons, rns_of_flat l, rns_of_flat r]; omega
theorem AT.ok.of_flat {T S : AT} (h : T.ok) (e : S.flat = T.flat) : S.ok := ⟨fun p hp => h.1 p (e ▸ hp), by rw [rns_of_flat, e, ← rns_of_flat]; exact h.2⟩

theorem i64w (x : Int) (h : -9223372036854775808 ≤ x) (h2 : x < 9223372036854775808) : IntKind.i64.wrap x = x := by rw [IntKind.wrap_i64]; omega
theorem maxw (a b : Nat) (ha : (a : Int) ≤ 8192) (hb : (b : Int) ≤ 8192) : IntKind.i64.wrap (1 + if a < b then (b : Int) else (a : Int)) = 1 + max (a : Int) (b : Int) := by
  rw [i64w _ (by split <;> omega) (by split <;> omega)]; split <;> omega
theorem ht_le_its (T : AT) : T.ht ≤ T.its := AT.ht_its T

set_option maxHeartbeats 4000000 in
set_option maxRecDepth 100000 in
theorem recountN (L : AT) (p : Pc) (R : AT) (b : Nat) (ul ur : Option Addr) (bl br : List Nat) (base : Nat) (h i n k : Int) (w : World) (hn : Nd w b p ul ur h i n k)
    (hL : Lies w base L ul bl) (hR : Lies w base R ur br) (nl : b ∉ bl) (nr : b ∉ br) (hok : (AT.node L p R).ok) :
    Calls Tryz.prog 271 #[.pointer (some ⟨b, 0, none⟩)] w fun e w' => e = .returned (.tuple #[]) ∧ Nd w' b p ul ur (1 + max (L.ht : Int) R.ht) (L.its + 1 + R.its) (L.rns + p.len + R.rns) (L.bks + p.brk + R.bks) ∧ Chg [b] w w' := by
  have c3 := hn.c3
  have c4 := hn.c4
  have c5 := hn.c5
  have f5 := hn.fz 5
  have hlt := hn.lt
  have bL := hok.left.bd
  have bR := hok.right.bd
  have bP := hok.piece
  have hhl : (L.ht : Int) ≤ 8192 := by have := ht_le_its L; omega
  have hhr : (R.ht : Int) ≤ 8192 := by have := ht_le_its R; omega
  have HN := hide hn
  have HL := hide hL
  have HR := hide hR
  have NL := hide nl
  have NR := hide nr
  clear hn hL hR nl nr hok
  go_enter Tryz.func271, Tryz.ntmps271
  go_upto_region 0 with fail
  go_cut [] (fun wc => Nd wc b p ul ur (1 + max (L.ht : Int) R.ht) i n k ∧ Chg [b] w wc)
  case first =>
    go_region_with (first
      | (go_at_call_of 274 (Value.pointer ul); refine (heightN L ul bl base _ (by exact HL.out.frame (fun _ _ => rfl))).mono ?_; rintro e w1 ⟨rfl, rfl⟩)
      | (go_at_call_of 274 (Value.pointer ur); refine (heightN R ur br base _ (by exact HR.out.frame (fun _ _ => rfl))).mono ?_; rintro e w2 ⟨rfl, rfl⟩))
    all_goals ((go_wp2_with fail) <;> go_meet <;> exact ⟨((HN.out.set5 _).heap rfl).cong5 (by rw [i64w _ (by omega) (by omega)]; omega), ((Chg.refl [b] w).setCell ⟨b, 5, none⟩ _ (.inl (by simp))).drawn rfl rfl rfl rfl⟩)
  case rest =>
    obtain ⟨hn, hcc⟩ := hcut
    have N0 := hide hn
    have C0 := hide hcc
    have L0 := hide (HL.out.chg hcc (fun x hx e => NL.out (by simp at e; exact e ▸ hx)))
    have R0 := hide (HR.out.chg hcc (fun x hx e => NR.out (by simp at e; exact e ▸ hx)))
    have d3 := hn.c3
    have d4 := hn.c4
    have hltc := hn.lt
    clear hn hcc HN HL HR c3 c4 c5 f5
    go_upto_region 1 with fail
    go_region_with (first
      | (go_at_call_of 183 (Value.pointer ul); refine (allN L ul bl base _ (by exact L0.out.frame (fun _ _ => rfl))).mono ?_; rintro e w1 ⟨rfl, hb1⟩; have C1 := hide (C0.out.trans (show Chg [b] wc w1 from .of_below ⟨hb1.os, hb1.tape, hb1.output, hb1.size, hb1.block⟩) (fun _ h _ => h) (fun _ h _ => h)); have N1 := hide (show Nd w1 b p ul ur (1 + max (L.ht : Int) R.ht) i n k from (hb1.block b (by exact hltc)).trans N0.out); have R1 := hide (R0.out.frame (w' := w1) (fun x hx => hb1.block x (by exact (R0.out.lt x hx).2))); have d3 := N1.out.c3; have d4 := N1.out.c4; have hl1 := N1.out.lt; clear hb1 N0 C0 L0 R0)
      | (go_at_call_of 292 (Value.pointer (some ⟨b, 0, none⟩)); refine (ownN p b ul ur _ _ _ _ _ (by exact N1.out.heap rfl)).mono ?_; rintro e w2 ⟨rfl, hb2⟩; have C2 := hide (C1.out.trans (show Chg [b] w1 w2 from .of_below ⟨hb2.os, hb2.tape, hb2.output, hb2.size, hb2.block⟩) (fun _ h _ => h) (fun _ h _ => h)); have N2 := hide (show Nd w2 b p ul ur (1 + max (L.ht : Int) R.ht) i n k from (hb2.block b (by exact hl1)).trans N1.out); have R2 := hide (R1.out.frame (w' := w2) (fun x hx => hb2.block x (by exact (R1.out.lt x hx).2))); have d3 := N2.out.c3; have d4 := N2.out.c4; have hl2 := N2.out.lt; clear hb2 N1 C1 R1)
      | (go_at_call_of 291 (cnt 1 p.len p.brk); refine (plusN _ _ _ _ _ _ _ (by omega) (by omega) (by omega) (by omega) (by omega) (by omega)).mono ?_; rintro e w3 ⟨rfl, hb3⟩; have C3 := hide (C2.out.trans (show Chg [b] w2 w3 from .of_below ⟨hb3.os, hb3.tape, hb3.output, hb3.size, hb3.block⟩) (fun _ h _ => h) (fun _ h _ => h)); have N3 := hide (show Nd w3 b p ul ur (1 + max (L.ht : Int) R.ht) i n k from (hb3.block b (by exact hl2)).trans N2.out); have R3 := hide (R2.out.frame (w' := w3) (fun x hx => hb3.block x (by exact (R2.out.lt x hx).2))); have d3 := N3.out.c3; have d4 := N3.out.c4; have hl3 := N3.out.lt; clear hb3 N2 C2 R2)
      | (go_at_call_of 183 (Value.pointer ur); refine (allN R ur br base _ (by exact R3.out.frame (fun _ _ => rfl))).mono ?_; rintro e w4 ⟨rfl, hb4⟩; have C4 := hide (C3.out.trans (show Chg [b] w3 w4 from .of_below ⟨hb4.os, hb4.tape, hb4.output, hb4.size, hb4.block⟩) (fun _ h _ => h) (fun _ h _ => h)); have N4 := hide (show Nd w4 b p ul ur (1 + max (L.ht : Int) R.ht) i n k from (hb4.block b (by exact hl3)).trans N3.out); have hl4 := N4.out.lt; clear hb4 N3 C3 R3)
      | (go_at_call_of 291 (cnt (R.its : Int) R.rns R.bks); refine (plusN _ _ _ _ _ _ _ (by omega) (by omega) (by omega) (by omega) (by omega) (by omega)).mono ?_; rintro e w5 ⟨rfl, hb5⟩; have C5 := hide (C4.out.trans (show Chg [b] w4 w5 from .of_below ⟨hb5.os, hb5.tape, hb5.output, hb5.size, hb5.block⟩) (fun _ h _ => h) (fun _ h _ => h)); have N5 := hide (show Nd w5 b p ul ur (1 + max (L.ht : Int) R.ht) i n k from (hb5.block b (by exact hl4)).trans N4.out); have d6 := N5.out.c6; have d7 := N5.out.c7; have d8 := N5.out.c8; have f6 := N5.out.fz 6; have f7 := N5.out.fz 7; have f8 := N5.out.fz 8; simp only [cnt]; clear hb5 N4 C4))
    all_goals (refine bodyPost_end (v := .tuple #[]) (by simp [results, Tryz.results271]) rfl ⟨rfl, N5.out.set678 _ _ _, ?_⟩; exact ((C5.out.setCell ⟨b, 6, none⟩ _ (.inl (by simp))).setCell ⟨b, 7, none⟩ _ (.inl (by simp))).setCell ⟨b, 8, none⟩ _ (.inl (by simp)))
end Go.Proofs.YtbgngikejgihgahGreatDoor

namespace Go.Proofs.YtbgngikejgihgahGreatDoor
set_option linter.unusedVariables false
/-- What a measure counts. -/
def sumM (m : Pc → Int) : List It → Int
  | [] => 0
  | x :: xs => m x.pc + sumM m xs

theorem sumM_append (m : Pc → Int) (a b : List It) : sumM m (a ++ b) = sumM m a + sumM m b := by
  induction a with
  | nil => simp [sumM]
  | cons x a ih => simp only [List.cons_append, sumM, ih]; omega

theorem sumM_len (xs : List It) : sumM (fun p => p.len) xs = total xs := by
  induction xs with
  | nil => rfl
  | cons x a ih => simp only [sumM, total, ih]
theorem sumM_brk (xs : List It) : sumM (fun p => p.brk) xs = brks xs := by
  induction xs with
  | nil => rfl
  | cons x a ih => simp only [sumM, brks, ih]

/-- Where number k stands: rank, within, level, runes before. -/
def findL (m : Pc → Int) : List It → Int → Option (Nat × Int × Int × Int)
  | [], _ => none
  | x :: xs, k => if k < m x.pc then some (0, k, x.lv, 0) else
    match findL m xs (k - m x.pc) with
    | none => none
    | some (r, i, l, b) => some (r + 1, i, l, b + x.pc.len)

theorem findL_left (m : Pc → Int) : ∀ (a b : List It) (k : Int), k < sumM m a → (∀ x ∈ a, 0 ≤ m x.pc) → 0 ≤ k → findL m (a ++ b) k = findL m a k
  | [], b, k, h, _, h0 => by simp [sumM] at h; omega
  | x :: a, b, k, h, hm, h0 => by
    simp only [List.cons_append, findL]
    split
    · rfl
    · rename_i hx
      simp only [sumM] at h
      rw [findL_left m a b (k - m x.pc) (by omega) (fun y hy => hm y (by simp [hy])) (by omega)]

theorem findL_right (m : Pc → Int) : ∀ (a b : List It) (k : Int), sumM m a ≤ k → (∀ x ∈ a, 0 ≤ m x.pc) → findL m (a ++ b) k = (findL m b (k - sumM m a)).map fun q => (q.1 + a.length, q.2.1, q.2.2.1, q.2.2.2 + total a)
  | [], b, k, h, _ => by simp [sumM, total]
  | x :: a, b, k, h, hm => by
    have h0 : 0 ≤ sumM m a := by
      clear h
      have hm' : ∀ y ∈ a, 0 ≤ m y.pc := fun y hy => hm y (by simp [hy])
      clear hm
      induction a with
      | nil => simp [sumM]
      | cons y a ih => simp only [sumM]; have := hm' y (by simp); have := ih (fun z hz => hm' z (by simp [hz])); omega
    simp only [sumM] at h
    simp only [List.cons_append, findL]
    rw [if_neg (by omega), findL_right m a b (k - m x.pc) (by omega) (fun y hy => hm y (by simp [hy]))]
    have e : k - m x.pc - sumM m a = k - sumM m (x :: a) := by simp only [sumM]; omega
    rw [e]
    cases findL m b (k - sumM m (x :: a)) with
    | none => rfl
    | some q => obtain ⟨r, i, l, c⟩ := q; simp [total]; omega

/-- The search in the tree: items, runes, breaks before; inside; seen. -/
def seekT (m : Pc → Int) : AT → Int → Nat × Int × Int × Int × Int
  | .nil, k => (0, 0, 0, k, 0)
  | .node l p r, k =>
    if k < sumM m (l.told 0) then
      ((seekT m l k).1, (seekT m l k).2.1, (seekT m l k).2.2.1, (seekT m l k).2.2.2.1, (seekT m l k).2.2.2.2 + 1)
    else if k - sumM m (l.told 0) < m p then (l.its, l.rns, l.bks, k - sumM m (l.told 0), 1)
    else ((seekT m r (k - sumM m (l.told 0) - m p)).1 + (l.its + 1), (seekT m r (k - sumM m (l.told 0) - m p)).2.1 + (l.rns + p.len), (seekT m r (k - sumM m (l.told 0) - m p)).2.2.1 + (l.bks + p.brk), (seekT m r (k - sumM m (l.told 0) - m p)).2.2.2.1, (seekT m r (k - sumM m (l.told 0) - m p)).2.2.2.2 + 1)

theorem sumM_told (m : Pc → Int) : ∀ (T : AT) (d e : Int), sumM m (T.told d) = sumM m (T.told e)
  | .nil, _, _ => rfl
  | .node l p r, d, e => by simp only [AT.told, sumM_append, sumM]; rw [sumM_told m l (d+1) (e+1), sumM_told m r (d+1) (e+1)]

theorem seek_find (m : Pc → Int) : ∀ (T : AT) (d k : Int), 0 ≤ k → k < sumM m (T.told d) → (∀ x ∈ T.told d, 0 ≤ m x.pc) →
    findL m (T.told d) k = some ((seekT m T k).1, (seekT m T k).2.2.2.1, (seekT m T k).2.2.2.2 - 1 + d, (seekT m T k).2.1)
  | .nil, d, k, h0, h, _ => by simp [AT.told, sumM] at h; omega
  | .node l p r, d, k, h0, h, hm => by
    have hml : ∀ x ∈ l.told (d + 1), 0 ≤ m x.pc := fun x hx => hm x (by simp [AT.told, hx])
    have hmr : ∀ x ∈ r.told (d + 1), 0 ≤ m x.pc := fun x hx => hm x (by simp [AT.told, hx])
    have e0 := sumM_told m l (d + 1) 0
    simp only [AT.told, sumM_append, sumM] at h
    simp only [AT.told, seekT]
    by_cases h1 : k < sumM m (l.told 0)
    · rw [if_pos h1, findL_left m _ _ k (by omega) hml h0, seek_find m l (d + 1) k h0 (by omega) hml]
      simp; omega
    · rw [if_neg h1, findL_right m _ _ k (by omega) hml, e0]
      simp only [findL]
      by_cases h2 : k - sumM m (l.told 0) < m p
      · rw [if_pos h2, if_pos h2]
        simp [AT.told_length, AT.rns_told]
      · rw [if_neg h2, if_neg h2, seek_find m r (d + 1) (k - sumM m (l.told 0) - m p) (by omega) (by omega) hmr]
        simp [AT.told_length, AT.rns_told]
        omega
end Go.Proofs.YtbgngikejgihgahGreatDoor

namespace Go.Proofs.YtbgngikejgihgahGreatDoor
open Go Go.RowKit

/-- How many breaks. -/
def brk (zs : List Int) : Int := ((zs.filter fun z => z == 10).length : Nat)
theorem brk_bd (zs : List Int) : 0 ≤ brk zs ∧ brk zs ≤ zs.length := by
  unfold brk
  exact ⟨by omega, by have := List.length_filter_le (fun z : Int => z == 10) zs; omega⟩
theorem brk_snoc (zs : List Int) (k : Nat) (h : k < zs.length) : brk (zs.take (k + 1)) = brk (zs.take k) + if zs.getD k 0 = 10 then 1 else 0 := by
  have e : zs.getD k 0 = zs[k] := by simp [List.getD_eq_getElem?_getD, h]
  rw [e, List.take_succ_eq_append_getElem h]
  unfold brk
  rw [List.filter_append]
  by_cases hz : zs[k] = 10
  · rw [if_pos hz]; simp [hz]
  · rw [if_neg hz]; simp [hz]

end Go.Proofs.YtbgngikejgihgahGreatDoor

namespace Go.Proofs.YtbgngikejgihgahGreatDoor
open Go Go.RowKit
set_option linter.unusedVariables false

/-- How many breaks, as a natural number. -/
def bkn (zs : List Int) : Nat := (zs.filter fun z => z == 10).length
theorem brk_bkn (zs : List Int) : brk zs = (bkn zs : Nat) := rfl
theorem bkn_append (a b : List Int) : bkn (a ++ b) = bkn a + bkn b := by simp [bkn]
theorem brk_append (a b : List Int) : brk (a ++ b) = brk a + brk b := by
  rw [brk_bkn, brk_bkn, brk_bkn, bkn_append]; omega
theorem bkn_cons (z : Int) (zs : List Int) : bkn (z :: zs) = (if z = 10 then 1 else 0) + bkn zs := by
  by_cases h : z = 10
  · simp [bkn, h]; omega
  · simp [bkn, h]
theorem bkn_le (zs : List Int) : bkn zs ≤ zs.length := List.length_filter_le _ _
theorem bkn_take (zs : List Int) (k : Nat) : bkn (zs.take k) ≤ bkn zs := by
  have := bkn_append (zs.take k) (zs.drop k)
  rw [List.take_append_drop] at this
  omega

/-- How many stand up to break number n and with it. -/
def bb : List Int → Nat → Nat
  | [], _ => 0
  | z :: zs, n => if z = 10 then (if n = 0 then 1 else 1 + bb zs (n - 1)) else 1 + bb zs n

theorem bb_left : ∀ (a b : List Int) (n : Nat), n < bkn a → bb (a ++ b) n = bb a n
  | [], b, n, h => by simp [bkn] at h
  | z :: a, b, n, h => by
    rw [bkn_cons] at h
    simp only [List.cons_append, bb]
    by_cases hz : z = 10
    · simp only [if_pos hz] at h ⊢
      by_cases hn : n = 0
      · rw [if_pos hn, if_pos hn]
      · rw [if_neg hn, if_neg hn, bb_left a b (n - 1) (by omega)]
    · simp only [if_neg hz] at h ⊢
      rw [bb_left a b n (by omega)]
theorem bb_right : ∀ (a b : List Int) (n : Nat), bkn a ≤ n → n < bkn a + bkn b → bb (a ++ b) n = a.length + bb b (n - bkn a)
  | [], b, n, h, _ => by simp [bkn]
  | z :: a, b, n, h, h2 => by
    rw [bkn_cons] at h h2 ⊢
    simp only [List.cons_append, bb]
    by_cases hz : z = 10
    · simp only [if_pos hz] at h h2 ⊢
      rw [if_neg (by omega), bb_right a b (n - 1) (by omega) (by omega)]
      rw [show n - 1 - bkn a = n - (1 + bkn a) by omega]
      simp; omega
    · simp only [if_neg hz] at h h2 ⊢
      rw [bb_right a b n (by omega) (by omega)]
      rw [show n - (0 + bkn a) = n - bkn a by omega]
      simp; omega
theorem bb_key : ∀ (zs : List Int) (k n : Nat), n < bkn zs → (bkn (zs.take k) ≤ n ↔ k < bb zs n)
  | [], k, n, h => by simp [bkn] at h
  | z :: zs, 0, n, h => by
    simp only [List.take_zero, bb]
    refine ⟨fun _ => ?_, fun _ => by simp [bkn]⟩
    split
    · split <;> omega
    · omega
  | z :: zs, k + 1, n, h => by
    rw [bkn_cons] at h
    rw [List.take_succ_cons, bkn_cons]
    simp only [bb]
    by_cases hz : z = 10
    · simp only [if_pos hz] at h ⊢
      by_cases hn : n = 0
      · rw [if_pos hn]; omega
      · rw [if_neg hn]
        have := bb_key zs k (n - 1) (by omega)
        omega
    · simp only [if_neg hz] at h ⊢
      have := bb_key zs k n (by omega)
      omega
theorem bb_le : ∀ (zs : List Int) (n : Nat), bb zs n ≤ zs.length
  | [], _ => by simp [bb]
  | z :: zs, n => by
    have := bb_le zs n
    have := bb_le zs (n - 1)
    simp only [bb, List.length_cons]
    split
    · split <;> omega
    · omega

/-- Where a line starts. -/
def ls (zs : List Int) (l : Nat) : Nat := if l = 0 then 0 else bb zs (l - 1)
theorem ls_le (zs : List Int) (l : Nat) : ls zs l ≤ zs.length := by
  unfold ls; split
  · omega
  · exact bb_le _ _
theorem ls_low (zs : List Int) (k : Nat) (hk : k ≤ zs.length) : ls zs (bkn (zs.take k)) ≤ k := by
  unfold ls
  split
  · omega
  · rename_i h
    have h2 := bkn_take zs k
    have := bb_key zs k (bkn (zs.take k) - 1) (by omega)
    omega
theorem bkn_take_succ (zs : List Int) (k : Nat) (h : k < zs.length) : bkn (zs.take (k + 1)) = bkn (zs.take k) + if zs.getD k 0 = 10 then 1 else 0 := by
  have := brk_snoc zs k h
  rw [brk_bkn, brk_bkn] at this
  split at this
  · rename_i h1; rw [if_pos h1]; omega
  · rename_i h1; rw [if_neg h1]; omega
theorem ls_step (zs : List Int) (k : Nat) (h : k < zs.length) (hz : zs.getD k 0 = 10) : ls zs (bkn (zs.take (k + 1))) = k + 1 := by
  have e := bkn_take_succ zs k h
  rw [if_pos hz] at e
  have h2 := bkn_take zs (k + 1)
  have hl := ls_low zs (k + 1) (by omega)
  rw [e] at hl ⊢
  have := bb_key zs k (bkn (zs.take k)) (by omega)
  unfold ls at hl ⊢
  rw [if_neg (by omega)] at hl ⊢
  rw [Nat.add_sub_cancel] at hl ⊢
  omega

/-- Where a line ends. -/
def le (zs : List Int) (l : Nat) : Nat := if l < bkn zs then bb zs l - 1 else zs.length

/-- At most one place has a line and a column. -/
theorem lc_there (zs : List Int) (l c : Nat) (hl : l ≤ bkn zs) (hc : ls zs l + c ≤ le zs l) : ls zs l + c ≤ zs.length ∧ bkn (zs.take (ls zs l + c)) = l := by
  have hlen : ls zs l + c ≤ zs.length := by
    unfold le at hc
    split at hc
    · have := bb_le zs l; omega
    · exact hc
  refine ⟨hlen, Nat.le_antisymm ?_ ?_⟩
  · unfold le at hc
    split at hc
    · rename_i h
      refine (bb_key zs _ l h).2 ?_
      have : 0 < bb zs l := ((bb_key zs 0 l h).1 (by simp [bkn]))
      omega
    · have := bkn_take zs (ls zs l + c); omega
  · by_cases h0 : l = 0
    · omega
    · have := bb_key zs (ls zs l + c) (l - 1) (by omega)
      have e : ls zs l = bb zs (l - 1) := by unfold ls; rw [if_neg h0]
      omega
theorem lc_only (zs : List Int) (k : Nat) (hk : k ≤ zs.length) : k ≤ le zs (bkn (zs.take k)) := by
  unfold le
  split
  · rename_i h
    have := (bb_key zs k _ h).1 (Nat.le_refl _)
    omega
  · exact hk

/-- The text of a piece. -/
def ptx (S : List Int) (p : Pc) : List Int := (S.drop p.off.toNat).take p.len.toNat
def txt (S : List Int) : List It → List Int
  | [] => []
  | x :: xs => ptx S x.pc ++ txt S xs
theorem txt_append (S : List Int) (a b : List It) : txt S (a ++ b) = txt S a ++ txt S b := by
  induction a with
  | nil => rfl
  | cons x a ih => simp [txt, ih]
/-- A piece of the store. -/
def WP (S : List Int) (p : Pc) : Prop := 0 ≤ p.off ∧ 0 ≤ p.len ∧ p.off + p.len ≤ S.length ∧ p.brk = brk (ptx S p)
theorem WP.nil (S : List Int) : WP S ⟨0, 0, 0⟩ := ⟨by simp, by simp, by simp, by simp [ptx, brk]⟩
theorem ptx_len {S : List Int} {p : Pc} (h : WP S p) : ((ptx S p).length : Int) = p.len := by
  obtain ⟨h1, h2, h3, _⟩ := h
  simp only [ptx, List.length_take, List.length_drop]
  omega
theorem txt_len {S : List Int} : ∀ {xs : List It}, (∀ x ∈ xs, WP S x.pc) → ((txt S xs).length : Int) = total xs
  | [], _ => rfl
  | x :: xs, h => by
    have h1 := ptx_len (h x (by simp))
    have h2 := txt_len (S := S) (xs := xs) (fun y hy => h y (by simp [hy]))
    simp only [txt, total, List.length_append]
    omega
theorem txt_brk {S : List Int} : ∀ {xs : List It}, (∀ x ∈ xs, WP S x.pc) → brk (txt S xs) = brks xs
  | [], _ => rfl
  | x :: xs, h => by
    have h1 := (h x (by simp)).2.2.2
    have h2 := txt_brk (S := S) (xs := xs) (fun y hy => h y (by simp [hy]))
    simp only [txt, brks, brk_append]
    omega
def AT.tx (S : List Int) : AT → List Int
  | .nil => []
  | .node l p r => l.tx S ++ (ptx S p ++ r.tx S)
def AT.wp (S : List Int) : AT → Prop
  | .nil => True
  | .node l p r => l.wp S ∧ WP S p ∧ r.wp S
theorem txt_told (S : List Int) : ∀ (T : AT) (d : Int), txt S (T.told d) = T.tx S
  | .nil, _ => rfl
  | .node l p r, d => by simp only [AT.told, txt_append, txt, AT.tx, txt_told S l, txt_told S r]
theorem wp_told (S : List Int) : ∀ (T : AT) (d : Int), (∀ x ∈ T.told d, WP S x.pc) ↔ T.wp S
  | .nil, _ => by simp [AT.told, AT.wp]
  | .node l p r, d => by
    have h1 := wp_told S l (d + 1)
    have h2 := wp_told S r (d + 1)
    simp only [AT.told, AT.wp, List.mem_append, List.mem_cons]
    constructor
    · intro h
      exact ⟨h1.1 fun x hx => h x (.inl hx), h _ (.inr (.inl rfl)), h2.1 fun x hx => h x (.inr (.inr hx))⟩
    · rintro ⟨a, b, c⟩ x (hx | rfl | hx)
      · exact h1.2 a x hx
      · exact b
      · exact h2.2 c x hx
theorem AT.tx_len {S : List Int} {T : AT} (h : T.wp S) : ((T.tx S).length : Int) = T.rns := by
  rw [← txt_told S T 0, txt_len ((wp_told S T 0).2 h), AT.rns_told]
theorem AT.tx_brk {S : List Int} {T : AT} (h : T.wp S) : brk (T.tx S) = T.bks := by
  rw [← txt_told S T 0, txt_brk ((wp_told S T 0).2 h), AT.bks_told]

/-- The element that a search finds. -/
def seekP (m : Pc → Int) : AT → Int → Pc
  | .nil, _ => ⟨0, 0, 0⟩
  | .node l p r, k =>
    if k < sumM m (l.told 0) then seekP m l k
    else if k - sumM m (l.told 0) < m p then p
    else seekP m r (k - sumM m (l.told 0) - m p)

theorem seek_runes (S : List Int) : ∀ (T : AT) (k : Int), T.wp S → 0 ≤ k → k ≤ T.rns →
    WP S (seekP (fun p => p.len) T k) ∧ 0 ≤ (seekT (fun p => p.len) T k).2.2.2.1 ∧ (seekT (fun p => p.len) T k).2.2.2.1 ≤ (seekP (fun p => p.len) T k).len ∧
    brk ((T.tx S).take k.toNat) = (seekT (fun p => p.len) T k).2.2.1 + brk ((ptx S (seekP (fun p => p.len) T k)).take (seekT (fun p => p.len) T k).2.2.2.1.toNat)
  | .nil, k, _, h0, h1 => by
    simp only [AT.rns] at h1
    obtain rfl : k = 0 := by omega
    exact ⟨WP.nil S, by simp [seekT], by simp [seekT, seekP], by simp [seekT, seekP, AT.tx, brk, ptx]⟩
  | .node l p r, k, hw, h0, h1 => by
    obtain ⟨hl, hp, hr⟩ := hw
    have e0 : sumM (fun p => p.len) (l.told 0) = l.rns := by rw [sumM_len, AT.rns_told]
    have el := AT.tx_len hl
    have ep := ptx_len hp
    have bl := AT.tx_brk hl
    have bp := hp.2.2.2
    have hp2 := hp.2.1
    simp only [AT.rns] at h1
    simp only [seekT, seekP, AT.tx, e0]
    by_cases c1 : k < l.rns
    · simp only [if_pos c1]
      obtain ⟨a, b, c, d⟩ := seek_runes S l k hl h0 (by omega)
      refine ⟨a, b, c, ?_⟩
      rw [List.take_append_of_le_length (by omega), d]
    · simp only [if_neg c1]
      by_cases c2 : k - l.rns < p.len
      · simp only [if_pos c2]
        refine ⟨hp, by omega, by omega, ?_⟩
        rw [List.take_append, List.take_of_length_le (by omega), List.take_append_of_le_length (by omega), brk_append, bl, show k.toNat - (l.tx S).length = (k - l.rns).toNat by omega]
      · simp only [if_neg c2]
        obtain ⟨a, b, c, d⟩ := seek_runes S r (k - l.rns - p.len) hr (by omega) (by omega)
        refine ⟨a, b, c, ?_⟩
        rw [List.take_append, List.take_of_length_le (by omega), List.take_append, List.take_of_length_le (l := ptx S p) (by omega), brk_append, brk_append, bl, ← bp, show k.toNat - (l.tx S).length - (ptx S p).length = (k - l.rns - p.len).toNat by omega, d]
        omega

theorem seek_breaks (S : List Int) : ∀ (T : AT) (j : Int), T.wp S → 0 ≤ j → j < T.bks →
    WP S (seekP (fun p => p.brk) T j) ∧ 0 ≤ (seekT (fun p => p.brk) T j).2.2.2.1 ∧ (seekT (fun p => p.brk) T j).2.2.2.1 < brk (ptx S (seekP (fun p => p.brk) T j)) ∧
    ((bb (T.tx S) j.toNat : Nat) : Int) = (seekT (fun p => p.brk) T j).2.1 + (bb (ptx S (seekP (fun p => p.brk) T j)) (seekT (fun p => p.brk) T j).2.2.2.1.toNat : Nat)
  | .nil, j, _, h0, h1 => by simp only [AT.bks] at h1; omega
  | .node l p r, j, hw, h0, h1 => by
    obtain ⟨hl, hp, hr⟩ := hw
    have e0 : sumM (fun p => p.brk) (l.told 0) = l.bks := by rw [sumM_brk, AT.bks_told]
    have el := AT.tx_len hl
    have ep := ptx_len hp
    have bl := AT.tx_brk hl
    have br := AT.tx_brk hr
    have bp := hp.2.2.2
    rw [brk_bkn] at bl bp br
    simp only [AT.bks] at h1
    simp only [seekT, seekP, AT.tx, e0]
    by_cases c1 : j < l.bks
    · simp only [if_pos c1]
      obtain ⟨a, b, c, d⟩ := seek_breaks S l j hl h0 (by omega)
      refine ⟨a, b, c, ?_⟩
      rw [bb_left _ _ _ (by omega), d]
    · simp only [if_neg c1]
      by_cases c2 : j - l.bks < p.brk
      · simp only [if_pos c2]
        refine ⟨hp, by omega, by rw [brk_bkn]; omega, ?_⟩
        rw [bb_right _ _ _ (by omega) (by rw [bkn_append]; omega), bb_left _ _ _ (by omega), show j.toNat - bkn (l.tx S) = (j - l.bks).toNat by omega]
        omega
      · simp only [if_neg c2]
        obtain ⟨a, b, c, d⟩ := seek_breaks S r (j - l.bks - p.brk) hr (by omega) (by omega)
        refine ⟨a, b, c, ?_⟩
        rw [bb_right _ _ _ (by omega) (by rw [bkn_append]; omega), bb_right _ _ _ (by omega) (by omega), show j.toNat - bkn (l.tx S) - bkn (ptx S p) = (j - l.bks - p.brk).toNat by omega]
        omega
end Go.Proofs.YtbgngikejgihgahGreatDoor
