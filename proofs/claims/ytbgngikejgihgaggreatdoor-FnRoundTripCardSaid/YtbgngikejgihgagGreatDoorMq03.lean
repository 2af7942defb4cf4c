import Derived.Test.YtbgngikejgihgagGreatDoorMq02
import Derived.Test.YtbgngikejgihgagGreatDoorProg
import Derived.Test.YtbgngikejgihgagGreatDoorMq01
import Derived.WalkKit
import Derived.WalkLawsBesides
namespace Go.Proofs.YtbgngikejgihgagGreatDoor
open Go Go.RowKit
set_option linter.unusedVariables false

/-- Nothing of old has changed but these blocks. -/
structure Chg (bs : List Nat) (w w' : World) : Prop where
  os : w'.os = w.os
  tape : w'.tape = w.tape
  output : w'.output = w.output
  size : w.heap.size ≤ w'.heap.size
  block : ∀ k, k < w.heap.size → k ∉ bs → w'.heap[k]? = w.heap[k]?

theorem Chg.of_below {bs : List Nat} {w w' : World} (h : Below w.heap.size w w') : Chg bs w w' := ⟨h.os, h.tape, h.output, h.size, fun k hk _ => h.block k hk⟩
theorem Chg.refl (bs : List Nat) (w : World) : Chg bs w w := .of_below (Below.refl _ _)
theorem Chg.below {B : Nat} {bs : List Nat} {w w' : World} (h : Chg bs w w') (hB : B ≤ w.heap.size) (hbs : ∀ k ∈ bs, B ≤ k) : Below B w w' :=
  ⟨h.os, h.tape, h.output, h.size, fun k hk => h.block k (by omega) (fun hm => by have := hbs k hm; omega)⟩
theorem Chg.trans {bs cs ds : List Nat} {a b c : World} (h : Chg bs a b) (g : Chg cs b c) (h1 : ∀ k ∈ bs, k < a.heap.size → k ∈ ds) (h2 : ∀ k ∈ cs, k < a.heap.size → k ∈ ds) : Chg ds a c :=
  ⟨g.os.trans h.os, g.tape.trans h.tape, g.output.trans h.output, Nat.le_trans h.size g.size, fun k hk hn =>
    (g.block k (Nat.lt_of_lt_of_le hk h.size) (fun hm => hn (h2 k hm hk))).trans (h.block k hk (fun hm => hn (h1 k hm hk)))⟩
theorem Chg.setCell {bs : List Nat} {a b : World} (h : Chg bs a b) (x : Addr) (v : Value) (hx : x.block ∈ bs ∨ a.heap.size ≤ x.block) : Chg bs a (b.setCell x v) :=
  ⟨h.os, h.tape, h.output, by simpa using h.size, fun k hk hn => by
    rw [heap_setCell_other _ _ _ _ (by intro e; subst e; rcases hx with hx | hx; exact hn hx; omega)]; exact h.block k hk hn⟩
theorem Chg.drawn {bs : List Nat} {a b c : World} (h : Chg bs a b) (e1 : c.os = b.os) (e2 : c.tape = b.tape) (e3 : c.output = b.output) (e4 : c.heap = b.heap) : Chg bs a c :=
  ⟨e1.trans h.os, e2.trans h.tape, e3.trans h.output, by rw [e4]; exact h.size, fun k hk hn => by rw [e4]; exact h.block k hk hn⟩
theorem Lies.chg {w w' : World} {base : Nat} {cs : List Nat} {T : AT} {u : Option Addr} {bs : List Nat} (h : Lies w base T u bs) (hc : Chg cs w w') (hd : ∀ b ∈ bs, b ∉ cs) : Lies w' base T u bs :=
  h.frame fun b hb => hc.block b (h.lt b hb).2 (hd b hb)
theorem Nd.chg {w w' : World} {cs : List Nat} {b : Nat} {p : Pc} {l r : Option Addr} {h i n k : Int} (hn : Nd w b p l r h i n k) (hc : Chg cs w w') (hd : b ∉ cs) : Nd w' b p l r h i n k := by
  unfold Nd at hn ⊢; rw [hc.block b (Nd.lt hn) hd]; exact hn
theorem Nd.heap {w w' : World} {b : Nat} {p : Pc} {l r : Option Addr} {h i n k : Int} (hn : Nd w b p l r h i n k) (hc : w'.heap = w.heap) : Nd w' b p l r h i n k := by
  unfold Nd at hn ⊢; rw [hc]; exact hn
theorem Nd.set5 {w : World} {b : Nat} {p : Pc} {l r : Option Addr} {h i n k : Int} (hn : Nd w b p l r h i n k) (x : Int) : Nd (w.setCell ⟨b, 5, none⟩ (.int .i64 x)) b p l r x i n k := by
  unfold Nd at hn ⊢; rw [heap_setCell_same w b 5 _ _ _ hn]; rfl
theorem Nd.cong5 {w : World} {b : Nat} {p : Pc} {l r : Option Addr} {h h' i n k : Int} (hn : Nd w b p l r h i n k) (e : h = h') : Nd w b p l r h' i n k := e ▸ hn
theorem Nd.set678 {w : World} {b : Nat} {p : Pc} {l r : Option Addr} {h i n k : Int} (hn : Nd w b p l r h i n k) (x y z : Int) : Nd (((w.setCell ⟨b, 6, none⟩ (.int .i64 x)).setCell ⟨b, 7, none⟩ (.int .i64 y)).setCell ⟨b, 8, none⟩ (.int .i64 z)) b p l r h x y z := by
  unfold Nd at hn ⊢
  have h1 := heap_setCell_same w b 6 _ _ (.int .i64 x) hn
  have h2 := heap_setCell_same _ b 7 _ _ (.int .i64 y) h1
  have h3 := heap_setCell_same _ b 8 _ _ (.int .i64 z) h2
  rw [h3]; rfl

def AT.ok (T : AT) : Prop := (∀ p ∈ T.flat, pcOk p = true) ∧ T.rns ≤ 8192

theorem AT.rns_flat : ∀ T : AT, (∀ p ∈ T.flat, pcOk p = true) → (T.its : Int) ≤ T.rns ∧ 0 ≤ T.bks ∧ T.bks ≤ T.rns
  | .nil, _ => by simp [its, rns, bks]
  | .node l p r, h => by
    have hl := rns_flat l (fun q hq => h q (by simp [flat, hq]))
    have hr := rns_flat r (fun q hq => h q (by simp [flat, hq]))
    have hp := h p (by simp [flat])
    simp only [pcOk, decide_eq_true_eq] at hp
    simp only [its, rns, bks]; omega

theorem AT.ok.bd {T : AT} (h : T.ok) : (T.its : Int) ≤ 8192 ∧ 0 ≤ T.rns ∧ T.rns ≤ 8192 ∧ 0 ≤ T.bks ∧ T.bks ≤ 8192 := by
  have := rns_flat T h.1; have := h.2; omega
theorem AT.ok.left {l : AT} {p : Pc} {r : AT} (h : (AT.node l p r).ok) : l.ok := by
  have hr := rns_flat r (fun q hq => h.1 q (by simp [flat, hq]))
  have hp := h.1 p (by simp [flat])
  simp only [pcOk, decide_eq_true_eq] at hp
  refine ⟨fun q hq => h.1 q (by simp [flat, hq]), ?_⟩
  have := h.2; simp only [rns] at this; omega
theorem AT.ok.right {l : AT} {p : Pc} {r : AT} (h : (AT.node l p r).ok) : r.ok := by
  have hr := rns_flat l (fun q hq => h.1 q (by simp [flat, hq]))
  have hp := h.1 p (by simp [flat])
  simp only [pcOk, decide_eq_true_eq] at hp
  refine ⟨fun q hq => h.1 q (by simp [flat, hq]), ?_⟩
  have := h.2; simp only [rns] at this; omega
theorem AT.ok.piece {l : AT} {p : Pc} {r : AT} (h : (AT.node l p r).ok) : 0 ≤ p.off ∧ p.off ≤ 220000 ∧ 1 ≤ p.len ∧ p.len ≤ 8192 ∧ 0 ≤ p.brk ∧ p.brk ≤ 8192 := by
  have hp := h.1 p (by simp [flat])
  simp only [pcOk, decide_eq_true_eq] at hp
  omega
theorem AT.rns_of_flat : ∀ T : AT, T.rns = (T.flat.map (fun p => p.len)).sum
  | .nil => rfl
  | .node l p r => by simp only [rns, flat, List.map_append, List.map_cons, List.sum_append, List.sum_cons, rns_of_flat l, rns_of_flat r]; omega
theorem i64w (x : Int) (h : -9223372036854775808 ≤ x) (h2 : x < 9223372036854775808) : IntKind.i64.wrap x = x := by rw [IntKind.wrap_i64]; omega
theorem ht_le_its (T : AT) : T.ht ≤ T.its := AT.ht_its T

set_option maxHeartbeats 4000000 in
set_option maxRecDepth 100000 in
theorem recountN (L : AT) (p : Pc) (R : AT) (b : Nat) (ul ur : Option Addr) (bl br : List Nat) (base : Nat) (h i n k : Int) (w : World) (hn : Nd w b p ul ur h i n k)
    (hL : Lies w base L ul bl) (hR : Lies w base R ur br) (nl : b ∉ bl) (nr : b ∉ br) (hok : (AT.node L p R).ok) :
    Calls Tryz.prog 232 #[.pointer (some ⟨b, 0, none⟩)] w fun e w' => e = .returned (.tuple #[]) ∧ Nd w' b p ul ur (1 + max (L.ht : Int) R.ht) (L.its + 1 + R.its) (L.rns + p.len + R.rns) (L.bks + p.brk + R.bks) ∧ Chg [b] w w' := by
  have c3 := hn.c3
  have c4 := hn.c4
  have c5 := hn.c5
  have f5 := hn.fz 5
  have hlt := hn.lt
  have bL := hok.left.bd
  have bR := hok.right.bd
  have bP := hok.piece
  have hhl : (L.ht : Int) ≤ 8192 := by have := ht_le_its L; omega
  have hhr : (R.ht : Int) ≤ 8192 := by have := ht_le_its R; omega
  have HN := hide hn
  have HL := hide hL
  have HR := hide hR
  have NL := hide nl
  have NR := hide nr
  clear hn hL hR nl nr hok
  go_enter Tryz.func232, Tryz.ntmps232
  go_upto_region 0 with fail
  go_cut [] (fun wc => Nd wc b p ul ur (1 + max (L.ht : Int) R.ht) i n k ∧ Chg [b] w wc)
  case first =>
    go_region_with (first
      | (go_at_call_of 233 (Value.pointer ul); refine (heightN L ul bl base _ (by exact HL.out.frame (fun _ _ => rfl))).mono ?_; rintro e w1 ⟨rfl, rfl⟩)
      | (go_at_call_of 233 (Value.pointer ur); refine (heightN R ur br base _ (by exact HR.out.frame (fun _ _ => rfl))).mono ?_; rintro e w2 ⟨rfl, rfl⟩))
    all_goals ((go_wp2_with fail) <;> go_meet <;> exact ⟨((HN.out.set5 _).heap rfl).cong5 (by rw [i64w _ (by omega) (by omega)]; omega), ((Chg.refl [b] w).setCell ⟨b, 5, none⟩ _ (.inl (by simp))).drawn rfl rfl rfl rfl⟩)
  case rest =>
    obtain ⟨hn, hcc⟩ := hcut
    have N0 := hide hn
    have C0 := hide hcc
    have L0 := hide (HL.out.chg hcc (fun x hx e => NL.out (by simp at e; exact e ▸ hx)))
    have R0 := hide (HR.out.chg hcc (fun x hx e => NR.out (by simp at e; exact e ▸ hx)))
    have d3 := hn.c3
    have d4 := hn.c4
    have hltc := hn.lt
    clear hn hcc HN HL HR c3 c4 c5 f5
    go_upto_region 1 with fail
    go_region_with (first
      | (go_at_call_of 215 (Value.pointer ul); refine (allN L ul bl base _ (by exact L0.out.frame (fun _ _ => rfl))).mono ?_; rintro e w1 ⟨rfl, hb1⟩; have C1 := hide (C0.out.trans (show Chg [b] wc w1 from .of_below ⟨hb1.os, hb1.tape, hb1.output, hb1.size, hb1.block⟩) (fun _ h _ => h) (fun _ h _ => h)); have N1 := hide (show Nd w1 b p ul ur (1 + max (L.ht : Int) R.ht) i n k from (hb1.block b (by exact hltc)).trans N0.out); have R1 := hide (R0.out.frame (w' := w1) (fun x hx => hb1.block x (by exact (R0.out.lt x hx).2))); have d3 := N1.out.c3; have d4 := N1.out.c4; have hl1 := N1.out.lt; clear hb1 N0 C0 L0 R0)
      | (go_at_call_of 256 (Value.pointer (some ⟨b, 0, none⟩)); refine (ownN p b ul ur _ _ _ _ _ (by exact N1.out.heap rfl)).mono ?_; rintro e w2 ⟨rfl, hb2⟩; have C2 := hide (C1.out.trans (show Chg [b] w1 w2 from .of_below ⟨hb2.os, hb2.tape, hb2.output, hb2.size, hb2.block⟩) (fun _ h _ => h) (fun _ h _ => h)); have N2 := hide (show Nd w2 b p ul ur (1 + max (L.ht : Int) R.ht) i n k from (hb2.block b (by exact hl1)).trans N1.out); have R2 := hide (R1.out.frame (w' := w2) (fun x hx => hb2.block x (by exact (R1.out.lt x hx).2))); have d3 := N2.out.c3; have d4 := N2.out.c4; have hl2 := N2.out.lt; clear hb2 N1 C1 R1)
      | (go_at_call_of 255 (cnt 1 p.len p.brk); refine (plusN _ _ _ _ _ _ _ (by omega) (by omega) (by omega) (by omega) (by omega) (by omega)).mono ?_; rintro e w3 ⟨rfl, hb3⟩; have C3 := hide (C2.out.trans (show Chg [b] w2 w3 from .of_below ⟨hb3.os, hb3.tape, hb3.output, hb3.size, hb3.block⟩) (fun _ h _ => h) (fun _ h _ => h)); have N3 := hide (show Nd w3 b p ul ur (1 + max (L.ht : Int) R.ht) i n k from (hb3.block b (by exact hl2)).trans N2.out); have R3 := hide (R2.out.frame (w' := w3) (fun x hx => hb3.block x (by exact (R2.out.lt x hx).2))); have d3 := N3.out.c3; have d4 := N3.out.c4; have hl3 := N3.out.lt; clear hb3 N2 C2 R2)
      | (go_at_call_of 215 (Value.pointer ur); refine (allN R ur br base _ (by exact R3.out.frame (fun _ _ => rfl))).mono ?_; rintro e w4 ⟨rfl, hb4⟩; have C4 := hide (C3.out.trans (show Chg [b] w3 w4 from .of_below ⟨hb4.os, hb4.tape, hb4.output, hb4.size, hb4.block⟩) (fun _ h _ => h) (fun _ h _ => h)); have N4 := hide (show Nd w4 b p ul ur (1 + max (L.ht : Int) R.ht) i n k from (hb4.block b (by exact hl3)).trans N3.out); have hl4 := N4.out.lt; clear hb4 N3 C3 R3)
      | (go_at_call_of 255 (cnt (R.its : Int) R.rns R.bks); refine (plusN _ _ _ _ _ _ _ (by omega) (by omega) (by omega) (by omega) (by omega) (by omega)).mono ?_; rintro e w5 ⟨rfl, hb5⟩; have C5 := hide (C4.out.trans (show Chg [b] w4 w5 from .of_below ⟨hb5.os, hb5.tape, hb5.output, hb5.size, hb5.block⟩) (fun _ h _ => h) (fun _ h _ => h)); have N5 := hide (show Nd w5 b p ul ur (1 + max (L.ht : Int) R.ht) i n k from (hb5.block b (by exact hl4)).trans N4.out); have d6 := N5.out.c6; have d7 := N5.out.c7; have d8 := N5.out.c8; have f6 := N5.out.fz 6; have f7 := N5.out.fz 7; have f8 := N5.out.fz 8; simp only [cnt]; clear hb5 N4 C4))
    all_goals (refine bodyPost_end (v := .tuple #[]) (by simp [results, Tryz.results232]) rfl ⟨rfl, N5.out.set678 _ _ _, ?_⟩; exact ((C5.out.setCell ⟨b, 6, none⟩ _ (.inl (by simp))).setCell ⟨b, 7, none⟩ _ (.inl (by simp))).setCell ⟨b, 8, none⟩ _ (.inl (by simp)))
end Go.Proofs.YtbgngikejgihgagGreatDoor

namespace Go.Proofs.YtbgngikejgihgagGreatDoor
open Go Go.RowKit
set_option linter.unusedVariables false

set_option maxHeartbeats 1000000 in
set_option maxRecDepth 100000 in
theorem plantN (L : AT) (p : Pc) (R : AT) (ul ur : Option Addr) (bl br : List Nat) (base : Nat) (w : World) (hL : Lies w base L ul bl) (hR : Lies w base R ur br) (hok : (AT.node L p R).ok) (hbase : base ≤ w.heap.size) :
    Calls Tryz.prog 210 #[.pointer ul, pcV p, .pointer ur] w fun e w' => ∃ b, e = .returned (.pointer (some ⟨b, 0, none⟩)) ∧ w.heap.size ≤ b ∧ Lies w' base (.node L p R) (some ⟨b, 0, none⟩) (b :: (bl ++ br)) ∧ Below w.heap.size w w' := by
  have hbl := fun x hx => (hL.lt x hx).2
  have hbr := fun x hx => (hR.lt x hx).2
  have HB := hide (((Below.refl w.heap.size w).alloc (Nat.le_refl _) (.cells #[.int .i64 p.off, .int .i64 p.len, .int .i64 p.brk] 143)).alloc (by simp) (.cells (ndC p ul ur 0 0 0 0) 360))
  have hN : Nd ((w.alloc (.cells #[.int .i64 p.off, .int .i64 p.len, .int .i64 p.brk] 143)).alloc (.cells (ndC p ul ur 0 0 0 0) 360)) (w.heap.size + 1) p ul ur 0 0 0 0 := by
    have := heap_alloc_new (w.alloc (.cells #[.int .i64 p.off, .int .i64 p.len, .int .i64 p.brk] 143)) (.cells (ndC p ul ur 0 0 0 0) 360)
    simpa [Nd] using this
  have HK := hide (recountN L p R (w.heap.size + 1) ul ur bl br base 0 0 0 0 _ hN (hL.below HB.out (Nat.le_refl _)) (hR.below HB.out (Nat.le_refl _)) (fun h => by have := hbl _ h; omega) (fun h => by have := hbr _ h; omega) hok)
  have HL := hide (hL.below HB.out (Nat.le_refl _))
  have HR := hide (hR.below HB.out (Nat.le_refl _))
  have HX := hide (And.intro hbl hbr)
  clear hL hR hok hbl hbr hN
  unfold pcV
  go_enter Tryz.func210, Tryz.ntmps210
  go_wp2_with fail
  refine HK.out.mono ?_
  rintro e w1 ⟨rfl, hn, hc⟩
  have HN := hide hn
  have HC := hide hc
  clear hn hc HK
  go_wp2
  go_ret
  have h1 : ∀ x ∈ bl, x ∉ [w.heap.size + 1] := fun x hx e => by have := HX.out.1 x hx; simp at e; omega
  have h2 : ∀ x ∈ br, x ∉ [w.heap.size + 1] := fun x hx e => by have := HX.out.2 x hx; simp at e; omega
  exact ⟨w.heap.size + 1, rfl, by omega, ⟨_, ul, ur, bl, br, rfl, by omega, HN.out, HL.out.chg HC.out h1, HR.out.chg HC.out h2, rfl⟩, HB.out.trans (HC.out.below (by simp; omega) (by simp))⟩

set_option maxHeartbeats 1000000 in
set_option maxRecDepth 100000 in
theorem leanN (L : AT) (p : Pc) (R : AT) (b : Nat) (ul ur : Option Addr) (bl br : List Nat) (base : Nat) (h i n k : Int) (w : World) (hn : Nd w b p ul ur h i n k)
    (hL : Lies w base L ul bl) (hR : Lies w base R ur br) (h1 : (L.ht : Int) ≤ 8192) (h2 : (R.ht : Int) ≤ 8192) :
    Calls Tryz.prog 211 #[.pointer (some ⟨b, 0, none⟩)] w fun e w' => e = .returned (.int .i64 ((L.ht : Int) - R.ht)) ∧ Chg [] w w' := by
  have c3 := hn.c3
  have c4 := hn.c4
  have hlt := hn.lt
  have HL := hide hL
  have HR := hide hR
  clear hn hL hR
  have hw : IntKind.i64.wrap ((L.ht : Int) - R.ht) = (L.ht : Int) - R.ht := i64w _ (by omega) (by omega)
  go_enter Tryz.func211, Tryz.ntmps211
  go_upto_region 1 with fail
  go_region_with (first
      | (go_at_call_of 233 (Value.pointer ul); refine (heightN L ul bl base _ (by exact HL.out.frame (fun _ _ => rfl))).mono ?_; rintro e w1 ⟨rfl, rfl⟩)
      | (go_at_call_of 233 (Value.pointer ur); refine (heightN R ur br base _ (by exact HR.out.frame (fun _ _ => rfl))).mono ?_; rintro e w2 ⟨rfl, rfl⟩))
  all_goals (go_wp2; go_ret; exact ⟨by first | rfl | simp [hw], (Chg.refl _ _).drawn rfl rfl rfl rfl⟩)
end Go.Proofs.YtbgngikejgihgagGreatDoor

namespace Go.Proofs.YtbgngikejgihgagGreatDoor
open Go Go.RowKit
set_option linter.unusedVariables false

/-- An item lies at a place. -/
def ItAt (w : World) (b o : Nat) (x : It) : Prop :=
  w.cell? ⟨b, o, none⟩ = some (.int .i64 x.pc.off) ∧ w.cell? ⟨b, o + 1, none⟩ = some (.int .i64 x.pc.len) ∧ w.cell? ⟨b, o + 2, none⟩ = some (.int .i64 x.pc.brk) ∧ w.cell? ⟨b, o + 3, none⟩ = some (.int .i64 x.lv)

/-- A slice value that reads as these items, in a block below B. -/
def RdI (B : Nat) (w : World) (v : Value) (xs : List It) : Prop :=
  (∃ ao cap, v = .slice ao 0 cap ∧ xs = []) ∨
  (∃ b off cap, v = .slice (some ⟨b, off, none⟩) xs.length cap ∧ (0 < xs.length ∧ xs.length ≤ cap ∧ cap ≤ maxLen) ∧ b < B ∧ ∀ i x, xs[i]? = some x → ItAt w b (off + i * 4) x)

theorem RdI.below {B B' : Nat} {w w' : World} {v : Value} {xs : List It} (h : RdI B w v xs) (hb : Below B' w w') (hB : B ≤ B') : RdI B w' v xs := by
  rcases h with h | ⟨b, off, cap, hv, hp, hl, hc⟩
  · exact .inl h
  · refine .inr ⟨b, off, cap, hv, hp, hl, fun i x hx => ?_⟩
    have hk : ∀ o, w'.cell? ⟨b, o, none⟩ = w.cell? ⟨b, o, none⟩ := fun o => hb.cell (p := ⟨b, o, none⟩) (by show b < B'; omega)
    have := hc i x hx
    unfold ItAt at this ⊢
    rw [hk, hk, hk, hk]; exact this
theorem RdI.heap {B : Nat} {w w' : World} {v : Value} {xs : List It} (h : RdI B w v xs) (hb : w'.heap = w.heap) : RdI B w' v xs := by
  rcases h with h | ⟨b, off, cap, hv, hp, hl, hc⟩
  · exact .inl h
  · refine .inr ⟨b, off, cap, hv, hp, hl, fun i x hx => ?_⟩
    have hk : ∀ o, w'.cell? ⟨b, o, none⟩ = w.cell? ⟨b, o, none⟩ := fun o => World.cell?_of_block (w := w) (by rw [hb])
    have := hc i x hx
    unfold ItAt at this ⊢
    rw [hk, hk, hk, hk]; exact this
theorem RdI.mono {B B' : Nat} {w : World} {v : Value} {xs : List It} (h : RdI B w v xs) (hB : B ≤ B') : RdI B' w v xs := by
  rcases h with h | ⟨b, off, cap, hv, hp, hl, hc⟩
  · exact .inl h
  · exact .inr ⟨b, off, cap, hv, hp, by omega, hc⟩
theorem RdI.val {B : Nat} {w : World} {v : Value} {xs : List It} (h : RdI B w v xs) : ∃ ao cap, v = .slice ao xs.length cap := by
  rcases h with ⟨ao, cap, rfl, rfl⟩ | ⟨b, off, cap, rfl, _⟩
  · exact ⟨_, _, rfl⟩
  · exact ⟨_, _, rfl⟩
theorem RdI.at {B : Nat} {w : World} {v : Value} {xs : List It} (h : RdI B w v xs) (h0 : xs ≠ []) : ∃ b off cap, v = .slice (some ⟨b, off, none⟩) xs.length cap ∧ (0 < xs.length ∧ xs.length ≤ cap ∧ cap ≤ maxLen) ∧ b < B ∧ ∀ i x, xs[i]? = some x → ItAt w b (off + i * 4) x := by
  rcases h with ⟨ao, cap, rfl, rfl⟩ | h
  · exact absurd rfl h0
  · exact h
theorem RdI.head {B : Nat} {w : World} {v : Value} {x : It} {xs : List It} (h : RdI B w v (x :: xs)) : ∃ b off cap, v = .slice (some ⟨b, off, none⟩) (xs.length + 1) cap ∧ xs.length + 1 ≤ cap ∧ cap ≤ maxLen ∧ b < B ∧ ItAt w b off x ∧ RdI B w (.slice (some ⟨b, off + 4, none⟩) xs.length (cap - 1)) xs := by
  obtain ⟨b, off, cap, hv, hp, hl, hc⟩ := h.at (by simp)
  simp only [List.length_cons] at hv hp
  refine ⟨b, off, cap, hv, by omega, by omega, hl, by simpa using hc 0 x rfl, ?_⟩
  cases xs with
  | nil => exact .inl ⟨_, _, rfl, rfl⟩
  | cons y ys =>
    refine .inr ⟨b, off + 4, cap - 1, rfl, ⟨by simp, by simp at hp ⊢; omega, by omega⟩, hl, fun i z hz => ?_⟩
    have := hc (i + 1) z (by simpa using hz)
    have e : off + 4 + i * 4 = off + (i + 1) * 4 := by omega
    rw [e]; exact this

/-- The reader holds this slice. -/
def Rdr (w : World) (rb : Nat) (v : Value) : Prop := w.heap[rb]? = some (.cells #[v] 288 (0, 0))
theorem Rdr.c {w : World} {rb : Nat} {v : Value} (h : Rdr w rb v) : w.cell? ⟨rb, 0, none⟩ = some v := by rw [cell_of_row w rb 0 _ _ _ h]; rfl
theorem Rdr.fz {w : World} {rb : Nat} {v : Value} (h : Rdr w rb v) : w.frozen? ⟨rb, 0, none⟩ = false := frozen_of_row w rb 0 _ _ h
theorem Rdr.lt {w : World} {rb : Nat} {v : Value} (h : Rdr w rb v) : rb < w.heap.size := by
  rcases Nat.lt_or_ge rb w.heap.size with h' | h'
  · exact h'
  · unfold Rdr at h; rw [Array.getElem?_eq_none h'] at h; cases h
theorem Rdr.set {w : World} {rb : Nat} {v : Value} (h : Rdr w rb v) (v' : Value) : Rdr (w.setCell ⟨rb, 0, none⟩ v') rb v' := by
  unfold Rdr at h ⊢; rw [heap_setCell_same w rb 0 _ _ _ h]; rfl
theorem Rdr.below {B : Nat} {w w' : World} {rb : Nat} {v : Value} (h : Rdr w rb v) (hb : Below B w w') (hB : rb < B) : Rdr w' rb v := (hb.block rb hB).trans h

set_option maxHeartbeats 1000000 in
set_option maxRecDepth 100000 in
theorem takeN_bad (B rb : Nat) (v : Value) (xs : List It) (lv : Int) (w : World) (hr : RdI B w v xs) (hv : Rdr w rb v) (hB : B ≤ rb) (hno : ∀ x xt, xs = x :: xt → x.lv ≠ lv) (hlen : xs.length ≤ 8192) :
    Calls Tryz.prog 209 #[.pointer (some ⟨rb, 0, none⟩), .int .i64 lv] w fun e w' => e = .returned (.tuple #[.agg #[.int .i64 0, .int .i64 0, .int .i64 0], .iface 181 (.int .i64 1)]) ∧ Below w.heap.size w w' := by
  have c := hv.c
  have hlt := hv.lt
  cases xs with
  | nil =>
    obtain ⟨ao, cap, rfl⟩ := hr.val
    simp only [List.length_nil] at c
    clear hr hv hno
    go_enter Tryz.func209, Tryz.ntmps209
    go_wp2
    refine bodyPost_ret (v := .tuple #[.agg #[.int .i64 0, .int .i64 0, .int .i64 0], .iface 181 (.int .i64 1)]) (by simp [results, Tryz.results209, go_sem]) rfl ⟨rfl, ?_⟩
    exact (Below.refl _ _).alloc (Nat.le_refl _) _
  | cons x xt =>
    obtain ⟨b, off, cap, rfl, hcap, hm, hb, ⟨a0, a1, a2, a3⟩, _⟩ := hr.head
    have hne := hno x xt rfl
    have hltb : b < w.heap.size := World.block_lt_of_cell? w _ a0
    have hne' : (x.lv != lv) = true := by simpa using hne
    unfold maxLen at hm
    clear hr hv hno
    go_enter Tryz.func209, Tryz.ntmps209
    go_wp2
    refine bodyPost_ret (v := .tuple #[.agg #[.int .i64 0, .int .i64 0, .int .i64 0], .iface 181 (.int .i64 1)]) (by simp [results, Tryz.results209, go_sem]) rfl ⟨rfl, ?_⟩
    exact (Below.refl _ _).alloc (Nat.le_refl _) _

theorem Chg.alloc {bs : List Nat} {a b : World} (h : Chg bs a b) (o : Obj) : Chg bs a (b.alloc o) :=
  h.trans (.of_below ((Below.refl _ _).alloc (Nat.le_refl _) o)) (fun _ h _ => h) (fun _ h _ => h) (cs := bs)
theorem Rdr.chg {bs : List Nat} {w w' : World} {rb : Nat} {v : Value} (h : Rdr w rb v) (hc : Chg bs w w') (hn : rb ∉ bs) : Rdr w' rb v := (hc.block rb h.lt hn).trans h
theorem Rdr.alloc {w : World} {rb : Nat} {v : Value} (h : Rdr w rb v) (o : Obj) : Rdr (w.alloc o) rb v := h.chg (bs := []) (.of_below ((Below.refl _ _).alloc (Nat.le_refl _) o)) (by simp)

set_option maxHeartbeats 1000000 in
set_option maxRecDepth 100000 in
theorem takeN_ok (B rb : Nat) (v : Value) (x : It) (xs : List It) (w : World) (hr : RdI B w v (x :: xs)) (hv : Rdr w rb v) (hB : B ≤ rb) (hlen : xs.length ≤ 8192) :
    Calls Tryz.prog 209 #[.pointer (some ⟨rb, 0, none⟩), .int .i64 x.lv] w fun e w' => e = .returned (.tuple #[pcV x.pc, .nilIface]) ∧ ∃ v', RdI B w' v' xs ∧ Rdr w' rb v' ∧ Chg [rb] w w' := by
  have c := hv.c
  have f := hv.fz
  have hlt := hv.lt
  obtain ⟨b, off, cap, rfl, hcap, hm, hb, ⟨a0, a1, a2, a3⟩, hT⟩ := hr.head
  have hltb : b < w.heap.size := World.block_lt_of_cell? w _ a0
  have hne' : (x.lv != x.lv) = false := by simp
  have hnb : ¬ b = rb := by omega
  unfold maxLen at hm
  have HT := hide hT
  have HV := hide hv
  clear hr hv hT
  by_cases hc1 : cap = 1
  · subst hc1
    obtain rfl : xs = [] := by apply List.eq_nil_of_length_eq_zero; omega
    simp only [List.length_nil] at c
    go_enter Tryz.func209, Tryz.ntmps209
    go_wp2
    have HC := hide ((((Chg.refl [rb] w).setCell ⟨rb, 0, none⟩ (.slice (some ⟨b, off, none⟩) 0 0) (.inl (by simp))).alloc (.cells #[.int .i64 x.pc.off, .int .i64 x.pc.len, .int .i64 x.pc.brk] 143)).alloc (.cells #[.int .i64 x.pc.off, .int .i64 x.pc.len, .int .i64 x.pc.brk] 143))
    refine bodyPost_ret (v := .tuple #[pcV x.pc, .nilIface]) (by simp [results, Tryz.results209, go_sem]; rfl) rfl ⟨rfl, .slice (some ⟨b, off, none⟩) 0 0, .inl ⟨_, _, rfl, rfl⟩, ((HV.out.set _).alloc _).alloc _, HC.out⟩
  · go_enter Tryz.func209, Tryz.ntmps209
    go_wp2
    have HC := hide ((((Chg.refl [rb] w).setCell ⟨rb, 0, none⟩ (.slice (some ⟨b, off + 4, none⟩) xs.length (cap - 1)) (.inl (by simp))).alloc (.cells #[.int .i64 x.pc.off, .int .i64 x.pc.len, .int .i64 x.pc.brk] 143)).alloc (.cells #[.int .i64 x.pc.off, .int .i64 x.pc.len, .int .i64 x.pc.brk] 143))
    refine bodyPost_ret (v := .tuple #[pcV x.pc, .nilIface]) (by simp [results, Tryz.results209, go_sem]; rfl) rfl ⟨rfl, .slice (some ⟨b, off + 4, none⟩) xs.length (cap - 1), HT.out.below (B' := B) (HC.out.below (by omega) (by simp; omega)) (Nat.le_refl _), ((HV.out.set _).alloc _).alloc _, HC.out⟩
end Go.Proofs.YtbgngikejgihgagGreatDoor

namespace Go.Proofs.YtbgngikejgihgagGreatDoor
open Go Go.RowKit
set_option linter.unusedVariables false

set_option maxHeartbeats 1000000 in
theorem withinI (v lo hi : Int) (w : World) : Calls Tryz.prog 163 #[.int .i64 v, .int .i64 lo, .int .i64 hi] w fun e w' => e = .returned (.bool (decide (lo ≤ v ∧ v ≤ hi))) ∧ w' = w := by
  by_cases h0 : lo ≤ v
  · by_cases h1 : v ≤ hi
    · have hd : decide (lo ≤ v ∧ v ≤ hi) = true := by simp [h0, h1]
      rw [hd]; clear hd
      go_enter Tryz.func163, Tryz.ntmps163
      go_wp2
      go_ret
      exact ⟨rfl, rfl⟩
    · have hd : decide (lo ≤ v ∧ v ≤ hi) = false := by simp [h0, h1]
      rw [hd]; clear hd
      go_enter Tryz.func163, Tryz.ntmps163
      go_wp2
      go_ret
      exact ⟨rfl, rfl⟩
  · have hd : decide (lo ≤ v ∧ v ≤ hi) = false := by simp [h0]
    rw [hd]; clear hd
    go_enter Tryz.func163, Tryz.ntmps163
    go_wp2
    go_ret
    exact ⟨rfl, rfl⟩

/-- An error that is nothing, or a code. -/
def errV (ok : Bool) (c : Int) : Value := if ok then .nilIface else .iface 181 (.int .i64 c)

end Go.Proofs.YtbgngikejgihgagGreatDoor

namespace Go.Proofs.YtbgngikejgihgagGreatDoor
open Go Go.RowKit
set_option linter.unusedVariables false

set_option maxHeartbeats 1000000 in
theorem boundsI (v lo hi c : Int) (w : World) : Calls Tryz.prog 110 #[.int .i64 v, .int .i64 lo, .int .i64 hi, .int .i64 c] w fun e w' => e = .returned (errV (decide (lo ≤ v ∧ v ≤ hi)) c) ∧ w' = w := by
  have HK := hide (withinI v lo hi w)
  cases hd : decide (lo ≤ v ∧ v ≤ hi) with
  | true =>
    rw [hd] at HK
    clear hd
    go_enter Tryz.func110, Tryz.ntmps110
    go_wp2_with fail
    refine HK.out.mono ?_
    rintro e w1 ⟨rfl, rfl⟩
    go_wp2
    go_ret
    exact ⟨rfl, rfl⟩
  | false =>
    rw [hd] at HK
    clear hd
    go_enter Tryz.func110, Tryz.ntmps110
    go_wp2_with fail
    refine HK.out.mono ?_
    rintro e w1 ⟨rfl, rfl⟩
    go_wp2
    go_ret
    exact ⟨rfl, rfl⟩

end Go.Proofs.YtbgngikejgihgagGreatDoor
