import Derived.Test.YtbgngikejgihgafDoorTNode
import Derived.Test.YtbgngikejgihgafDoorMut
namespace Go.Proofs.YtbgngikejgihgafDoor
open Go Go.RowKit
set_option linter.unusedVariables false

/-- Nothing of old has changed but these blocks. -/
structure Chg (bs : List Nat) (w w' : World) : Prop where
  os : w'.os = w.os
  tape : w'.tape = w.tape
  output : w'.output = w.output
  size : w.heap.size ≤ w'.heap.size
  block : ∀ k, k < w.heap.size → k ∉ bs → w'.heap[k]? = w.heap[k]?

theorem Chg.of_below {bs : List Nat} {w w' : World} (h : Below w.heap.size w w') : Chg bs w w' := ⟨h.os, h.tape, h.output, h.size, fun k hk _ => h.block k hk⟩
theorem Chg.refl (bs : List Nat) (w : World) : Chg bs w w := .of_below (Below.refl _ _)
theorem Chg.below {B : Nat} {bs : List Nat} {w w' : World} (h : Chg bs w w') (hB : B ≤ w.heap.size) (hbs : ∀ k ∈ bs, B ≤ k) : Below B w w' :=
  ⟨h.os, h.tape, h.output, h.size, fun k hk => h.block k (by omega) (fun hm => by have := hbs k hm; omega)⟩
theorem Chg.trans {bs cs ds : List Nat} {a b c : World} (h : Chg bs a b) (g : Chg cs b c) (h1 : ∀ k ∈ bs, k < a.heap.size → k ∈ ds) (h2 : ∀ k ∈ cs, k < a.heap.size → k ∈ ds) : Chg ds a c :=
  ⟨g.os.trans h.os, g.tape.trans h.tape, g.output.trans h.output, Nat.le_trans h.size g.size, fun k hk hn =>
    (g.block k (Nat.lt_of_lt_of_le hk h.size) (fun hm => hn (h2 k hm hk))).trans (h.block k hk (fun hm => hn (h1 k hm hk)))⟩
theorem Chg.setCell {bs : List Nat} {a b : World} (h : Chg bs a b) (x : Addr) (v : Value) (hx : x.block ∈ bs ∨ a.heap.size ≤ x.block) : Chg bs a (b.setCell x v) :=
  ⟨h.os, h.tape, h.output, by simpa using h.size, fun k hk hn => by
    rw [heap_setCell_other _ _ _ _ (by intro e; subst e; rcases hx with hx | hx; exact hn hx; omega)]; exact h.block k hk hn⟩
theorem Chg.drawn {bs : List Nat} {a b c : World} (h : Chg bs a b) (e1 : c.os = b.os) (e2 : c.tape = b.tape) (e3 : c.output = b.output) (e4 : c.heap = b.heap) : Chg bs a c :=
  ⟨e1.trans h.os, e2.trans h.tape, e3.trans h.output, by rw [e4]; exact h.size, fun k hk hn => by rw [e4]; exact h.block k hk hn⟩
theorem Lies.chg {w w' : World} {base : Nat} {cs : List Nat} {T : AT} {u : Option Addr} {bs : List Nat} (h : Lies w base T u bs) (hc : Chg cs w w') (hd : ∀ b ∈ bs, b ∉ cs) : Lies w' base T u bs :=
  h.frame fun b hb => hc.block b (h.lt b hb).2 (hd b hb)
theorem Nd.chg {w w' : World} {cs : List Nat} {b : Nat} {p : Pc} {l r : Option Addr} {h i n k : Int} (hn : Nd w b p l r h i n k) (hc : Chg cs w w') (hd : b ∉ cs) : Nd w' b p l r h i n k := by
  unfold Nd at hn ⊢; rw [hc.block b (Nd.lt hn) hd]; exact hn
theorem Nd.heap {w w' : World} {b : Nat} {p : Pc} {l r : Option Addr} {h i n k : Int} (hn : Nd w b p l r h i n k) (hc : w'.heap = w.heap) : Nd w' b p l r h i n k := by
  unfold Nd at hn ⊢; rw [hc]; exact hn
theorem Nd.set5 {w : World} {b : Nat} {p : Pc} {l r : Option Addr} {h i n k : Int} (hn : Nd w b p l r h i n k) (x : Int) : Nd (w.setCell ⟨b, 5, none⟩ (.int .i64 x)) b p l r x i n k := by
  unfold Nd at hn ⊢; rw [heap_setCell_same w b 5 _ _ _ hn]; rfl
theorem Nd.cong5 {w : World} {b : Nat} {p : Pc} {l r : Option Addr} {h h' i n k : Int} (hn : Nd w b p l r h i n k) (e : h = h') : Nd w b p l r h' i n k := e ▸ hn
theorem Nd.set678 {w : World} {b : Nat} {p : Pc} {l r : Option Addr} {h i n k : Int} (hn : Nd w b p l r h i n k) (x y z : Int) : Nd (((w.setCell ⟨b, 6, none⟩ (.int .i64 x)).setCell ⟨b, 7, none⟩ (.int .i64 y)).setCell ⟨b, 8, none⟩ (.int .i64 z)) b p l r h x y z := by
  unfold Nd at hn ⊢
  have h1 := heap_setCell_same w b 6 _ _ (.int .i64 x) hn
  have h2 := heap_setCell_same _ b 7 _ _ (.int .i64 y) h1
  have h3 := heap_setCell_same _ b 8 _ _ (.int .i64 z) h2
  rw [h3]; rfl

def AT.ok (T : AT) : Prop := (∀ p ∈ T.flat, pcOk p = true) ∧ T.rns ≤ 8192

theorem AT.rns_flat : ∀ T : AT, (∀ p ∈ T.flat, pcOk p = true) → (T.its : Int) ≤ T.rns ∧ 0 ≤ T.bks ∧ T.bks ≤ T.rns
  | .nil, _ => by simp [its, rns, bks]
  | .node l p r, h => by
    have hl := rns_flat l (fun q hq => h q (by simp [flat, hq]))
    have hr := rns_flat r (fun q hq => h q (by simp [flat, hq]))
    have hp := h p (by simp [flat])
    simp only [pcOk, decide_eq_true_eq] at hp
    simp only [its, rns, bks]; omega

theorem AT.ok.bd {T : AT} (h : T.ok) : (T.its : Int) ≤ 8192 ∧ 0 ≤ T.rns ∧ T.rns ≤ 8192 ∧ 0 ≤ T.bks ∧ T.bks ≤ 8192 := by
  have := rns_flat T h.1; have := h.2; omega
theorem AT.ok.left {l : AT} {p : Pc} {r : AT} (h : (AT.node l p r).ok) : l.ok := by
  have hr := rns_flat r (fun q hq => h.1 q (by simp [flat, hq]))
  have hp := h.1 p (by simp [flat])
  simp only [pcOk, decide_eq_true_eq] at hp
  refine ⟨fun q hq => h.1 q (by simp [flat, hq]), ?_⟩
  have := h.2; simp only [rns] at this; omega
theorem AT.ok.right {l : AT} {p : Pc} {r : AT} (h : (AT.node l p r).ok) : r.ok := by
  have hr := rns_flat l (fun q hq => h.1 q (by simp [flat, hq]))
  have hp := h.1 p (by simp [flat])
  simp only [pcOk, decide_eq_true_eq] at hp
  refine ⟨fun q hq => h.1 q (by simp [flat, hq]), ?_⟩
  have := h.2; simp only [rns] at this; omega
theorem AT.ok.piece {l : AT} {p : Pc} {r : AT} (h : (AT.node l p r).ok) : 0 ≤ p.off ∧ p.off ≤ 220000 ∧ 1 ≤ p.len ∧ p.len ≤ 8192 ∧ 0 ≤ p.brk ∧ p.brk ≤ 8192 := by
  have hp := h.1 p (by simp [flat])
  simp only [pcOk, decide_eq_true_eq] at hp
  omega
theorem AT.rns_of_flat : ∀ T : AT, T.rns = (T.flat.map (fun p => p.len)).sum
  | .nil => rfl
  | .node l p r => by simp only [rns, flat, List.map_append, List.map_cons, List.sum_append, List.sum_cons, rns_of_flat l, rns_of_flat r]; omega
theorem AT.ok.of_flat {T S : AT} (h : T.ok) (e : S.flat = T.flat) : S.ok := ⟨fun p hp => h.1 p (e ▸ hp), by rw [rns_of_flat, e, ← rns_of_flat]; exact h.2⟩

theorem i64w (x : Int) (h : -9223372036854775808 ≤ x) (h2 : x < 9223372036854775808) : IntKind.i64.wrap x = x := by rw [IntKind.wrap_i64]; omega
theorem maxw (a b : Nat) (ha : (a : Int) ≤ 8192) (hb : (b : Int) ≤ 8192) : IntKind.i64.wrap (1 + if a < b then (b : Int) else (a : Int)) = 1 + max (a : Int) (b : Int) := by
  rw [i64w _ (by split <;> omega) (by split <;> omega)]; split <;> omega
theorem ht_le_its (T : AT) : T.ht ≤ T.its := AT.ht_its T

set_option maxHeartbeats 4000000 in
set_option maxRecDepth 100000 in
theorem recountN (L : AT) (p : Pc) (R : AT) (b : Nat) (ul ur : Option Addr) (bl br : List Nat) (base : Nat) (h i n k : Int) (w : World) (hn : Nd w b p ul ur h i n k)
    (hL : Lies w base L ul bl) (hR : Lies w base R ur br) (nl : b ∉ bl) (nr : b ∉ br) (hok : (AT.node L p R).ok) :
    Calls Tryd.prog 151 #[.pointer (some ⟨b, 0, none⟩)] w fun e w' => e = .returned (.tuple #[]) ∧ Nd w' b p ul ur (1 + max (L.ht : Int) R.ht) (L.its + 1 + R.its) (L.rns + p.len + R.rns) (L.bks + p.brk + R.bks) ∧ Chg [b] w w' := by
  have c3 := hn.c3
  have c4 := hn.c4
  have c5 := hn.c5
  have f5 := hn.fz 5
  have hlt := hn.lt
  have bL := hok.left.bd
  have bR := hok.right.bd
  have bP := hok.piece
  have hhl : (L.ht : Int) ≤ 8192 := by have := ht_le_its L; omega
  have hhr : (R.ht : Int) ≤ 8192 := by have := ht_le_its R; omega
  have HN := hide hn
  have HL := hide hL
  have HR := hide hR
  have NL := hide nl
  have NR := hide nr
  clear hn hL hR nl nr hok
  go_enter Tryd.func151, Tryd.ntmps151
  go_upto_region 0 with fail
  go_cut [] (fun wc => Nd wc b p ul ur (1 + max (L.ht : Int) R.ht) i n k ∧ Chg [b] w wc)
  case first =>
    go_region_with (first
      | (go_at_call_of 138 (Value.pointer ul); refine (heightN L ul bl base _ (by exact HL.out.frame (fun _ _ => rfl))).mono ?_; rintro e w1 ⟨rfl, rfl⟩)
      | (go_at_call_of 138 (Value.pointer ur); refine (heightN R ur br base _ (by exact HR.out.frame (fun _ _ => rfl))).mono ?_; rintro e w2 ⟨rfl, rfl⟩))
    all_goals ((go_wp2_with fail) <;> go_meet <;> exact ⟨((HN.out.set5 _).heap rfl).cong5 (by rw [i64w _ (by omega) (by omega)]; omega), ((Chg.refl [b] w).setCell ⟨b, 5, none⟩ _ (.inl (by simp))).drawn rfl rfl rfl rfl⟩)
  case rest =>
    obtain ⟨hn, hcc⟩ := hcut
    have N0 := hide hn
    have C0 := hide hcc
    have L0 := hide (HL.out.chg hcc (fun x hx e => NL.out (by simp at e; exact e ▸ hx)))
    have R0 := hide (HR.out.chg hcc (fun x hx e => NR.out (by simp at e; exact e ▸ hx)))
    have d3 := hn.c3
    have d4 := hn.c4
    have hltc := hn.lt
    clear hn hcc HN HL HR c3 c4 c5 f5
    go_upto_region 1 with fail
    go_region_with (first
      | (go_at_call_of 79 (Value.pointer ul); refine (allN L ul bl base _ (by exact L0.out.frame (fun _ _ => rfl))).mono ?_; rintro e w1 ⟨rfl, hb1⟩; have C1 := hide (C0.out.trans (show Chg [b] wc w1 from .of_below ⟨hb1.os, hb1.tape, hb1.output, hb1.size, hb1.block⟩) (fun _ h _ => h) (fun _ h _ => h)); have N1 := hide (show Nd w1 b p ul ur (1 + max (L.ht : Int) R.ht) i n k from (hb1.block b (by exact hltc)).trans N0.out); have R1 := hide (R0.out.frame (w' := w1) (fun x hx => hb1.block x (by exact (R0.out.lt x hx).2))); have d3 := N1.out.c3; have d4 := N1.out.c4; have hl1 := N1.out.lt; clear hb1 N0 C0 L0 R0)
      | (go_at_call_of 156 (Value.pointer (some ⟨b, 0, none⟩)); refine (ownN p b ul ur _ _ _ _ _ (by exact N1.out.heap rfl)).mono ?_; rintro e w2 ⟨rfl, hb2⟩; have C2 := hide (C1.out.trans (show Chg [b] w1 w2 from .of_below ⟨hb2.os, hb2.tape, hb2.output, hb2.size, hb2.block⟩) (fun _ h _ => h) (fun _ h _ => h)); have N2 := hide (show Nd w2 b p ul ur (1 + max (L.ht : Int) R.ht) i n k from (hb2.block b (by exact hl1)).trans N1.out); have R2 := hide (R1.out.frame (w' := w2) (fun x hx => hb2.block x (by exact (R1.out.lt x hx).2))); have d3 := N2.out.c3; have d4 := N2.out.c4; have hl2 := N2.out.lt; clear hb2 N1 C1 R1)
      | (go_at_call_of 155 (cnt 1 p.len p.brk); refine (plusN _ _ _ _ _ _ _ (by omega) (by omega) (by omega) (by omega) (by omega) (by omega)).mono ?_; rintro e w3 ⟨rfl, hb3⟩; have C3 := hide (C2.out.trans (show Chg [b] w2 w3 from .of_below ⟨hb3.os, hb3.tape, hb3.output, hb3.size, hb3.block⟩) (fun _ h _ => h) (fun _ h _ => h)); have N3 := hide (show Nd w3 b p ul ur (1 + max (L.ht : Int) R.ht) i n k from (hb3.block b (by exact hl2)).trans N2.out); have R3 := hide (R2.out.frame (w' := w3) (fun x hx => hb3.block x (by exact (R2.out.lt x hx).2))); have d3 := N3.out.c3; have d4 := N3.out.c4; have hl3 := N3.out.lt; clear hb3 N2 C2 R2)
      | (go_at_call_of 79 (Value.pointer ur); refine (allN R ur br base _ (by exact R3.out.frame (fun _ _ => rfl))).mono ?_; rintro e w4 ⟨rfl, hb4⟩; have C4 := hide (C3.out.trans (show Chg [b] w3 w4 from .of_below ⟨hb4.os, hb4.tape, hb4.output, hb4.size, hb4.block⟩) (fun _ h _ => h) (fun _ h _ => h)); have N4 := hide (show Nd w4 b p ul ur (1 + max (L.ht : Int) R.ht) i n k from (hb4.block b (by exact hl3)).trans N3.out); have hl4 := N4.out.lt; clear hb4 N3 C3 R3)
      | (go_at_call_of 155 (cnt (R.its : Int) R.rns R.bks); refine (plusN _ _ _ _ _ _ _ (by omega) (by omega) (by omega) (by omega) (by omega) (by omega)).mono ?_; rintro e w5 ⟨rfl, hb5⟩; have C5 := hide (C4.out.trans (show Chg [b] w4 w5 from .of_below ⟨hb5.os, hb5.tape, hb5.output, hb5.size, hb5.block⟩) (fun _ h _ => h) (fun _ h _ => h)); have N5 := hide (show Nd w5 b p ul ur (1 + max (L.ht : Int) R.ht) i n k from (hb5.block b (by exact hl4)).trans N4.out); have d6 := N5.out.c6; have d7 := N5.out.c7; have d8 := N5.out.c8; have f6 := N5.out.fz 6; have f7 := N5.out.fz 7; have f8 := N5.out.fz 8; simp only [cnt]; clear hb5 N4 C4))
    all_goals (refine bodyPost_end (v := .tuple #[]) (by simp [results, Tryd.results151]) rfl ⟨rfl, N5.out.set678 _ _ _, ?_⟩; exact ((C5.out.setCell ⟨b, 6, none⟩ _ (.inl (by simp))).setCell ⟨b, 7, none⟩ _ (.inl (by simp))).setCell ⟨b, 8, none⟩ _ (.inl (by simp)))
end Go.Proofs.YtbgngikejgihgafDoor
