import Derived.Test.YtbgngikejgihgagGreatDoorProg
import Derived.Test.YtbgngikejgihgagGreatDoorMq01
import Derived.WalkKit
import Derived.WalkLawsBesides
import Derived.Laws.Rows
import Derived.Deep.RegionWith
import Derived.Deep.Cut
import Derived.Deep.CutRange
import Derived.Deep.CutBlock
import Derived.Deep.DeepCutAuto
namespace Go.Proofs.YtbgngikejgihgagGreatDoor
open Go Go.RowKit
set_option linter.unusedVariables false

/-- The cells of a node. -/
def ndC (p : Pc) (l r : Option Addr) (h i n k : Int) : Array Value :=
  #[.int .i64 p.off, .int .i64 p.len, .int .i64 p.brk, .pointer l, .pointer r, .int .i64 h, .int .i64 i, .int .i64 n, .int .i64 k]

/-- A node as it lies, whatever it counts. -/
def Nd (w : World) (b : Nat) (p : Pc) (l r : Option Addr) (h i n k : Int) : Prop :=
  w.heap[b]? = some (.cells (ndC p l r h i n k) 360 (0, 0))

/-- A tree lies in these blocks. -/
def Lies (w : World) (base : Nat) : AT → Option Addr → List Nat → Prop
  | .nil, u, bs => u = none ∧ bs = []
  | .node l p r, u, bs => ∃ b ul ur bl br, u = some ⟨b, 0, none⟩ ∧ base ≤ b ∧ Nd w b p ul ur (1 + max (l.ht : Int) r.ht) (l.its + 1 + r.its) (l.rns + p.len + r.rns) (l.bks + p.brk + r.bks) ∧
      Lies w base l ul bl ∧ Lies w base r ur br ∧ bs = b :: (bl ++ br)

theorem Nd.lt {w : World} {b : Nat} {p : Pc} {l r : Option Addr} {h i n k : Int} (hn : Nd w b p l r h i n k) : b < w.heap.size := by
  rcases Nat.lt_or_ge b w.heap.size with h' | h'
  · exact h'
  · unfold Nd at hn; rw [Array.getElem?_eq_none h'] at hn; cases hn

theorem Nd.c0 {w : World} {b : Nat} {p : Pc} {l r : Option Addr} {h i n k : Int} (hn : Nd w b p l r h i n k) : w.cell? ⟨b, 0, none⟩ = some (.int .i64 p.off) := by rw [cell_of_row w b 0 _ _ _ hn]; rfl
theorem Nd.c1 {w : World} {b : Nat} {p : Pc} {l r : Option Addr} {h i n k : Int} (hn : Nd w b p l r h i n k) : w.cell? ⟨b, 1, none⟩ = some (.int .i64 p.len) := by rw [cell_of_row w b 1 _ _ _ hn]; rfl
theorem Nd.c2 {w : World} {b : Nat} {p : Pc} {l r : Option Addr} {h i n k : Int} (hn : Nd w b p l r h i n k) : w.cell? ⟨b, 2, none⟩ = some (.int .i64 p.brk) := by rw [cell_of_row w b 2 _ _ _ hn]; rfl
theorem Nd.c3 {w : World} {b : Nat} {p : Pc} {l r : Option Addr} {h i n k : Int} (hn : Nd w b p l r h i n k) : w.cell? ⟨b, 3, none⟩ = some (.pointer l) := by rw [cell_of_row w b 3 _ _ _ hn]; rfl
theorem Nd.c4 {w : World} {b : Nat} {p : Pc} {l r : Option Addr} {h i n k : Int} (hn : Nd w b p l r h i n k) : w.cell? ⟨b, 4, none⟩ = some (.pointer r) := by rw [cell_of_row w b 4 _ _ _ hn]; rfl
theorem Nd.c5 {w : World} {b : Nat} {p : Pc} {l r : Option Addr} {h i n k : Int} (hn : Nd w b p l r h i n k) : w.cell? ⟨b, 5, none⟩ = some (.int .i64 h) := by rw [cell_of_row w b 5 _ _ _ hn]; rfl
theorem Nd.c6 {w : World} {b : Nat} {p : Pc} {l r : Option Addr} {h i n k : Int} (hn : Nd w b p l r h i n k) : w.cell? ⟨b, 6, none⟩ = some (.int .i64 i) := by rw [cell_of_row w b 6 _ _ _ hn]; rfl
theorem Nd.c7 {w : World} {b : Nat} {p : Pc} {l r : Option Addr} {h i n k : Int} (hn : Nd w b p l r h i n k) : w.cell? ⟨b, 7, none⟩ = some (.int .i64 n) := by rw [cell_of_row w b 7 _ _ _ hn]; rfl
theorem Nd.c8 {w : World} {b : Nat} {p : Pc} {l r : Option Addr} {h i n k : Int} (hn : Nd w b p l r h i n k) : w.cell? ⟨b, 8, none⟩ = some (.int .i64 k) := by rw [cell_of_row w b 8 _ _ _ hn]; rfl
theorem Nd.fz {w : World} {b : Nat} {p : Pc} {l r : Option Addr} {h i n k : Int} (hn : Nd w b p l r h i n k) (j : Nat) : w.frozen? ⟨b, j, none⟩ = false := frozen_of_row w b j _ _ hn

theorem Lies.frame {w w' : World} {base : Nat} : ∀ {T : AT} {u : Option Addr} {bs : List Nat}, Lies w base T u bs → (∀ b ∈ bs, w'.heap[b]? = w.heap[b]?) → Lies w' base T u bs
  | .nil, u, bs, h, _ => h
  | .node l p r, u, bs, ⟨b, ul, ur, bl, br, h1, h2, h3, h4, h5, h6⟩, hf => by
    subst h6
    refine ⟨b, ul, ur, bl, br, h1, h2, ?_, h4.frame (fun k hk => hf k (by simp [hk])), h5.frame (fun k hk => hf k (by simp [hk])), rfl⟩
    unfold Nd at h3 ⊢; rw [hf b (by simp)]; exact h3

theorem Lies.lt {w : World} {base : Nat} : ∀ {T : AT} {u : Option Addr} {bs : List Nat}, Lies w base T u bs → ∀ b ∈ bs, base ≤ b ∧ b < w.heap.size
  | .nil, u, bs, h, b, hb => by rw [h.2] at hb; cases hb
  | .node l p r, u, bs, ⟨b, ul, ur, bl, br, h1, h2, h3, h4, h5, h6⟩, k, hk => by
    subst h6
    simp only [List.mem_cons, List.mem_append] at hk
    rcases hk with rfl | hk | hk
    · exact ⟨h2, h3.lt⟩
    · exact h4.lt k hk
    · exact h5.lt k hk

theorem Lies.below {w w' : World} {base B : Nat} {T : AT} {u : Option Addr} {bs : List Nat} (h : Lies w base T u bs) (hb : Below B w w') (hB : w.heap.size ≤ B) : Lies w' base T u bs :=
  h.frame fun b hbs => hb.block b (Nat.lt_of_lt_of_le (h.lt b hbs).2 hB)

theorem Lies.base {w : World} {base base' : Nat} (hle : base' ≤ base) : ∀ {T : AT} {u : Option Addr} {bs : List Nat}, Lies w base T u bs → Lies w base' T u bs
  | .nil, u, bs, h => h
  | .node l p r, u, bs, ⟨b, ul, ur, bl, br, h1, h2, h3, h4, h5, h6⟩ => ⟨b, ul, ur, bl, br, h1, by omega, h3, h4.base hle, h5.base hle, h6⟩

set_option maxHeartbeats 1000000 in
theorem heightN (T : AT) (u : Option Addr) (bs : List Nat) (base : Nat) (w : World) (h : Lies w base T u bs) :
    Calls Tryz.prog 233 #[.pointer u] w fun e w' => e = .returned (.int .i64 T.ht) ∧ w' = w := by
  cases T with
  | nil =>
    obtain ⟨rfl, rfl⟩ := h
    go_enter Tryz.func233, Tryz.ntmps233
    go_wp2
    go_ret
    exact ⟨rfl, rfl⟩
  | node l p r =>
    obtain ⟨b, ul, ur, bl, br, rfl, h2, h3, h4, h5, h6⟩ := h
    have c5 := h3.c5
    have hlt := h3.lt
    have e : (((AT.node l p r).ht : Nat) : Int) = 1 + max (l.ht : Int) r.ht := by simp only [AT.ht]; omega
    rw [e]
    clear h3 h4 h5 h6 e
    generalize 1 + max (l.ht : Int) r.ht = hh at *
    go_enter Tryz.func233, Tryz.ntmps233
    go_wp2
    go_ret
    exact ⟨rfl, rfl⟩

def cnt (i n k : Int) : Value := .agg #[.int .i64 i, .int .i64 n, .int .i64 k]
def pcV (p : Pc) : Value := .agg #[.int .i64 p.off, .int .i64 p.len, .int .i64 p.brk]

set_option maxHeartbeats 1000000 in
theorem allN (T : AT) (u : Option Addr) (bs : List Nat) (base : Nat) (w : World) (h : Lies w base T u bs) :
    Calls Tryz.prog 215 #[.pointer u] w fun e w' => e = .returned (cnt T.its T.rns T.bks) ∧ Below w.heap.size w w' := by
  cases T with
  | nil =>
    obtain ⟨rfl, rfl⟩ := h
    go_enter Tryz.func215, Tryz.ntmps215
    go_wp2
    refine bodyPost_ret (v := cnt _ _ _) (by simp [results, Tryz.results215, go_sem]; rfl) rfl ⟨rfl, ?_⟩
    exact (Below.refl _ _).alloc (Nat.le_refl _) _
  | node l p r =>
    obtain ⟨b, ul, ur, bl, br, rfl, h2, h3, h4, h5, h6⟩ := h
    have c6 := h3.c6
    have c7 := h3.c7
    have c8 := h3.c8
    have hlt := h3.lt
    go_enter Tryz.func215, Tryz.ntmps215
    go_wp2
    refine bodyPost_ret (v := cnt _ _ _) (by simp [results, Tryz.results215, go_sem]; rfl) rfl ⟨rfl, ?_⟩
    exact (Below.refl _ _).alloc (Nat.le_refl _) _

set_option maxHeartbeats 1000000 in
theorem pRunes (p : Pc) (w : World) : Calls Tryz.prog 410 #[pcV p] w fun e w' => e = .returned (.int .i64 p.len) ∧ Below w.heap.size w w' := by
  unfold pcV
  go_enter Tryz.func410, Tryz.ntmps410
  go_wp2
  go_ret
  exact ⟨rfl, (Below.refl _ _).alloc (Nat.le_refl _) _⟩
set_option maxHeartbeats 1000000 in
theorem pBreaks (p : Pc) (w : World) : Calls Tryz.prog 409 #[pcV p] w fun e w' => e = .returned (.int .i64 p.brk) ∧ Below w.heap.size w w' := by
  unfold pcV
  go_enter Tryz.func409, Tryz.ntmps409
  go_wp2
  go_ret
  exact ⟨rfl, (Below.refl _ _).alloc (Nat.le_refl _) _⟩

set_option maxHeartbeats 1000000 in
theorem plusN (i n k i' n' k' : Int) (w : World) (h1 : -1000000 ≤ i ∧ i ≤ 1000000) (h2 : -1000000 ≤ n ∧ n ≤ 1000000) (h3 : -1000000 ≤ k ∧ k ≤ 1000000)
    (g1 : -1000000 ≤ i' ∧ i' ≤ 1000000) (g2 : -1000000 ≤ n' ∧ n' ≤ 1000000) (g3 : -1000000 ≤ k' ∧ k' ≤ 1000000) :
    Calls Tryz.prog 255 #[cnt i n k, cnt i' n' k'] w fun e w' => e = .returned (cnt (i + i') (n + n') (k + k')) ∧ Below w.heap.size w w' := by
  unfold cnt
  go_enter Tryz.func255, Tryz.ntmps255
  go_wp2
  refine bodyPost_ret (v := cnt _ _ _) (by simp [results, Tryz.results255, go_sem]; rfl) rfl ⟨rfl, ?_⟩
  exact (((Below.refl _ _).alloc (Nat.le_refl _) _).alloc (by simp) _).alloc (by simp; omega) _

theorem Tryz.methodRunes (x y z : Value) (w : World) : (Go.method 605 143 (.agg #[x, y, z]) "loop.example/s01685/impl.runes").run Tryz.prog w = .ok (410, .agg #[x, y, z]) w := by kernel_rfl
theorem Tryz.methodBreaks (x y z : Value) (w : World) : (Go.method 605 143 (.agg #[x, y, z]) "loop.example/s01685/impl.breaks").run Tryz.prog w = .ok (409, .agg #[x, y, z]) w := by kernel_rfl
set_option maxHeartbeats 2000000 in
set_option maxRecDepth 100000 in
theorem ownN (p : Pc) (b : Nat) (l r : Option Addr) (h i n k : Int) (w : World) (hn : Nd w b p l r h i n k) :
    Calls Tryz.prog 256 #[.pointer (some ⟨b, 0, none⟩)] w fun e w' => e = .returned (cnt 1 p.len p.brk) ∧ Below w.heap.size w w' := by
  have c0 := hn.c0
  have c1 := hn.c1
  have c2 := hn.c2
  have hlt := hn.lt
  go_enter Tryz.func256, Tryz.ntmps256
  go_upto_region 1 with fail
  have HB0 := hide ((Below.refl w.heap.size w).alloc (Nat.le_refl _) (.cells #[.int .i64 0, .int .i64 0, .int .i64 0] 332))
  have hk : (w.alloc (.cells #[.int .i64 0, .int .i64 0, .int .i64 0] 332)).heap[w.heap.size]? = some (.cells #[.int .i64 0, .int .i64 0, .int .i64 0] 332 (0, 0)) := heap_alloc_new _ _
  have hl0 : w.heap.size < (w.alloc (.cells #[.int .i64 0, .int .i64 0, .int .i64 0] 332)).heap.size := by simp
  generalize w.alloc (.cells #[.int .i64 0, .int .i64 0, .int .i64 0] 332) = w0 at *
  have a0 := (HB0.out.cell (p := ⟨b, 0, none⟩) hlt).trans c0
  have a1 := (HB0.out.cell (p := ⟨b, 1, none⟩) hlt).trans c1
  have a2 := (HB0.out.cell (p := ⟨b, 2, none⟩) hlt).trans c2
  have hlt0 : b < w0.heap.size := by omega
  have HK := hide hk
  clear c0 c1 c2 hn hk
  have mR := Tryz.methodRunes
  have mB := Tryz.methodBreaks
  go_region_with (first
    | (go_at_call 410; refine (pRunes p _).mono ?_; rintro e w1 ⟨rfl, hb1⟩; have B1 := hide (show Below w0.heap.size w0 w1 from ⟨hb1.os, hb1.tape, hb1.output, hb1.size, hb1.block⟩); have d0 := (B1.out.cell (p := ⟨b, 0, none⟩) hlt0).trans a0; have d1 := (B1.out.cell (p := ⟨b, 1, none⟩) hlt0).trans a1; have d2 := (B1.out.cell (p := ⟨b, 2, none⟩) hlt0).trans a2; clear hb1)
    | (go_at_call 409; refine (pBreaks p _).mono ?_; rintro e w2 ⟨rfl, hb2⟩; have B2 := hide (B1.out.trans ((show Below w1.heap.size w1 w2 from ⟨hb2.os, hb2.tape, hb2.output, hb2.size, hb2.block⟩).mono B1.out.size)); have hk2 := (B2.out.block _ hl0).trans HK.out; have k0 : w2.cell? ⟨w.heap.size, 0, none⟩ = some (.int .i64 0) := (by rw [cell_of_row w2 _ 0 _ _ _ hk2]; rfl); have k1 : w2.cell? ⟨w.heap.size, 1, none⟩ = some (.int .i64 0) := (by rw [cell_of_row w2 _ 1 _ _ _ hk2]; rfl); have k2 : w2.cell? ⟨w.heap.size, 2, none⟩ = some (.int .i64 0) := (by rw [cell_of_row w2 _ 2 _ _ _ hk2]; rfl); have f0 := frozen_of_row w2 w.heap.size 0 _ _ hk2; have f1 := frozen_of_row w2 w.heap.size 1 _ _ hk2; have f2 := frozen_of_row w2 w.heap.size 2 _ _ hk2; clear hb2 hk2))
  all_goals (go_wp2_with fail; refine bodyPost_ret (v := cnt _ _ _) (by simp [results, Tryz.results256, go_sem, k0, k1, k2]; rfl) rfl ⟨rfl, (((HB0.out.trans (B2.out.mono (Nat.le_of_lt hl0))).setCell (Nat.le_refl _) _).setCell (Nat.le_refl _) _).setCell (Nat.le_refl _) _⟩)
end Go.Proofs.YtbgngikejgihgagGreatDoor

namespace Go.Proofs.YtbgngikejgihgagGreatDoor
set_option linter.unusedVariables false
namespace AT
def lean : AT → Int
  | nil => 0
  | node l _ r => (l.ht : Int) - r.ht
def turnR : AT → AT
  | node (node a q b) p r => node a q (node b p r)
  | t => t
def turnL : AT → AT
  | node l p (node b q c) => node (node l p b) q c
  | t => t
def rep (l : AT) (p : Pc) (r : AT) : AT :=
  if (l.ht : Int) - r.ht = 2 then (if l.lean < 0 then turnR (node l.turnL p r) else turnR (node l p r))
  else if (l.ht : Int) - r.ht = -2 then (if 0 < r.lean then turnL (node l p r.turnR) else turnL (node l p r))
  else node l p r
def ins : AT → Nat → Pc → AT
  | nil, _, e => node nil e nil
  | node l p r, k, e => if k ≤ l.its then rep (ins l k e) p r else rep l p (ins r (k - l.its - 1) e)
def first : AT → Pc
  | nil => default
  | node nil p _ => p
  | node (node a q b) _ _ => first (node a q b)
def rem : AT → Nat → AT
  | nil, _ => nil
  | node l p r, k =>
    if k < l.its then rep (rem l k) p r
    else if l.its < k then rep l p (rem r (k - l.its - 1))
    else match l, r with
      | nil, _ => r
      | node _ _ _, nil => l
      | node _ _ _, node _ _ _ => rep l (first r) (rem r 0)
theorem take_past (a : List Pc) (p : Pc) (b : List Pc) (k : Nat) (h : a.length < k) : (a ++ p :: b).take k = a ++ p :: b.take (k - a.length - 1) := by
  obtain ⟨j, rfl⟩ : ∃ j, k = a.length + 1 + j := ⟨k - a.length - 1, by omega⟩
  have e : a.length + 1 + j - a.length - 1 = j := by omega
  have e2 : a.length + 1 + j - a.length = j + 1 := by omega
  rw [List.take_append, List.take_of_length_le (by omega), e, e2]; simp
theorem drop_past (a : List Pc) (p : Pc) (b : List Pc) (k : Nat) (h : a.length < k) : (a ++ p :: b).drop k = b.drop (k - a.length - 1) := by
  obtain ⟨j, rfl⟩ : ∃ j, k = a.length + 1 + j := ⟨k - a.length - 1, by omega⟩
  have e : a.length + 1 + j - a.length - 1 = j := by omega
  have e2 : a.length + 1 + j - a.length = j + 1 := by omega
  rw [List.drop_append, List.drop_eq_nil_of_le (by omega), e, e2]; simp
def spl : AT → Pc → AT → AT
  | a, e, b =>
    if a.ht > b.ht + 1 then
      match a with
      | nil => nil
      | node l p r => rep l p (spl r e b)
    else if b.ht > a.ht + 1 then
      match b with
      | nil => nil
      | node l p r => rep (spl a e l) p r
    else node a e b
  termination_by a _ b => a.its + b.its
  decreasing_by all_goals (simp only [its]; omega)
def join (a b : AT) : AT :=
  match a, b with
  | nil, _ => b
  | node _ _ _, nil => a
  | node _ _ _, node _ _ _ => spl a (first b) (rem b 0)
def split : AT → Nat → AT × AT
  | nil, _ => (nil, nil)
  | node l p r, k =>
    if k ≤ l.its then ((split l k).1, spl (split l k).2 p r)
    else (spl l p (split r (k - l.its - 1)).1, (split r (k - l.its - 1)).2)
def flat : AT → List Pc
  | nil => []
  | node l p r => l.flat ++ p :: r.flat

theorem flat_length : ∀ T : AT, T.flat.length = T.its
  | nil => rfl
  | node l p r => by simp [flat, its, flat_length l, flat_length r]; omega

theorem flat_turnR (T : AT) : T.turnR.flat = T.flat := by
  unfold turnR; split <;> simp [flat]
theorem flat_turnL (T : AT) : T.turnL.flat = T.flat := by
  unfold turnL; split <;> simp [flat]
theorem flat_rep (l : AT) (p : Pc) (r : AT) : (rep l p r).flat = l.flat ++ p :: r.flat := by
  unfold rep
  split
  · split
    · rw [flat_turnR]; simp [flat, flat_turnL]
    · rw [flat_turnR]; simp [flat]
  · split
    · split
      · rw [flat_turnL]; simp [flat, flat_turnR]
      · rw [flat_turnL]; simp [flat]
    · simp [flat]

theorem its_of_flat {a b : AT} (h : a.flat = b.flat) : a.its = b.its := by rw [← flat_length, ← flat_length, h]

theorem rep_bal (l : AT) (p : Pc) (r : AT) (hl : l.bal) (hr : r.bal) (h1 : l.ht ≤ r.ht + 2) (h2 : r.ht ≤ l.ht + 2) :
    (rep l p r).bal ∧ max l.ht r.ht ≤ (rep l p r).ht ∧ (rep l p r).ht ≤ max l.ht r.ht + 1 ∧ (l.ht ≤ r.ht + 1 → r.ht ≤ l.ht + 1 → (rep l p r).ht = max l.ht r.ht + 1) := by
  unfold rep
  split
  · rename_i h3
    match l, hl with
    | nil, _ => simp [ht] at h3; omega
    | node a q b, ⟨ba, bb, g1, g2⟩ =>
      simp only [ht] at h1 h2 h3
      split
      · rename_i h4
        simp only [lean] at h4
        match b, bb with
        | nil, _ => simp [ht] at h4; omega
        | node c s d, ⟨bc, bd, g3, g4⟩ =>
          simp only [ht] at h4 g1 g2 h1 h2 h3
          simp only [turnL, turnR, bal, ht]
          refine ⟨⟨⟨ba, bc, ?_, ?_⟩, ⟨bd, hr, ?_, ?_⟩, ?_, ?_⟩, ?_, ?_, ?_⟩ <;> omega
      · rename_i h4
        simp only [lean] at h4
        simp only [turnR, bal, ht]
        refine ⟨⟨ba, ⟨bb, hr, ?_, ?_⟩, ?_, ?_⟩, ?_, ?_, ?_⟩ <;> omega
  · rename_i h3
    split
    · rename_i h3'
      match r, hr with
      | nil, _ => simp [ht] at h3'
      | node a q b, ⟨ba, bb, g1, g2⟩ =>
        simp only [ht] at h1 h2 h3 h3'
        split
        · rename_i h4
          simp only [lean] at h4
          match a, ba with
          | nil, _ => simp [ht] at h4; omega
          | node c s d, ⟨bc, bd, g3, g4⟩ =>
            simp only [ht] at h4 g1 g2 h1 h2 h3 h3'
            simp only [turnL, turnR, bal, ht]
            refine ⟨⟨⟨hl, bc, ?_, ?_⟩, ⟨bd, bb, ?_, ?_⟩, ?_, ?_⟩, ?_, ?_, ?_⟩ <;> omega
        · rename_i h4
          simp only [lean] at h4
          simp only [turnL, bal, ht]
          refine ⟨⟨⟨hl, ba, ?_, ?_⟩, bb, ?_, ?_⟩, ?_, ?_, ?_⟩ <;> omega
    · rename_i h3'
      simp only [bal, ht]
      refine ⟨⟨hl, hr, ?_, ?_⟩, ?_, ?_, ?_⟩ <;> omega

theorem ins_bal : ∀ (T : AT) (k : Nat) (e : Pc), T.bal → (ins T k e).bal ∧ T.ht ≤ (ins T k e).ht ∧ (ins T k e).ht ≤ T.ht + 1
  | nil, k, e, _ => by simp [ins, bal, ht]
  | node l p r, k, e, ⟨hl, hr, h1, h2⟩ => by
    simp only [ins, ht]
    split
    · obtain ⟨b, g1, g2⟩ := ins_bal l k e hl
      obtain ⟨c, q1, q2, q3⟩ := rep_bal (ins l k e) p r b hr (by omega) (by omega)
      exact ⟨c, by omega, by omega⟩
    · obtain ⟨b, g1, g2⟩ := ins_bal r (k - l.its - 1) e hr
      obtain ⟨c, q1, q2, q3⟩ := rep_bal l p (ins r (k - l.its - 1) e) hl b (by omega) (by omega)
      exact ⟨c, by omega, by omega⟩

theorem ins_flat : ∀ (T : AT) (k : Nat) (e : Pc), k ≤ T.its → (ins T k e).flat = T.flat.take k ++ e :: T.flat.drop k
  | nil, k, e, _ => by simp [ins, flat]
  | node l p r, k, e, hk => by
    simp only [its] at hk
    have hl := flat_length l
    simp only [ins, flat]
    split
    · rename_i h
      rw [flat_rep, ins_flat l k e h, List.take_append_of_le_length (by omega), List.drop_append_of_le_length (by omega)]
      simp
    · rename_i h
      rw [flat_rep, ins_flat r (k - l.its - 1) e (by omega), take_past _ _ _ _ (by omega), drop_past _ _ _ _ (by omega), hl]
      simp

theorem rem_bal : ∀ (T : AT) (k : Nat), T.bal → k < T.its → (rem T k).bal ∧ T.ht ≤ (rem T k).ht + 1 ∧ (rem T k).ht ≤ T.ht
  | nil, k, _, hk => by simp [its] at hk
  | node l p r, k, ⟨hl, hr, h1, h2⟩, hk => by
    simp only [its] at hk
    simp only [rem, ht]
    split
    · rename_i h
      obtain ⟨b, g1, g2⟩ := rem_bal l k hl h
      obtain ⟨c, q1, q2, q3⟩ := rep_bal (rem l k) p r b hr (by omega) (by omega)
      exact ⟨c, by omega, by omega⟩
    · split
      · rename_i h
        obtain ⟨b, g1, g2⟩ := rem_bal r (k - l.its - 1) hr (by omega)
        obtain ⟨c, q1, q2, q3⟩ := rep_bal l p (rem r (k - l.its - 1)) hl b (by omega) (by omega)
        exact ⟨c, by omega, by omega⟩
      · split
        · simp only [ht] at h1 h2 ⊢; exact ⟨hr, by omega, by omega⟩
        · simp only [ht] at h1 h2 ⊢; exact ⟨hl, by omega, by omega⟩
        · obtain ⟨b, g1, g2⟩ := rem_bal _ 0 hr (by simp only [its]; omega)
          obtain ⟨c, q1, q2, q3⟩ := rep_bal _ (first _) _ hl b (by omega) (by omega)
          exact ⟨c, by omega, by omega⟩

theorem first_flat : ∀ T : AT, T ≠ nil → ∃ t, T.flat = first T :: t
  | nil, h => absurd rfl h
  | node nil p r, _ => ⟨_, by simp [flat, first]; rfl⟩
  | node (node a q b) p r, _ => by
    obtain ⟨t, ht⟩ := first_flat (node a q b) (by simp)
    refine ⟨t ++ p :: r.flat, ?_⟩
    rw [flat, ht, first]; rfl

theorem rem_flat : ∀ (T : AT) (k : Nat), k < T.its → (rem T k).flat = T.flat.take k ++ T.flat.drop (k + 1)
  | nil, k, hk => by simp [its] at hk
  | node l p r, k, hk => by
    simp only [its] at hk
    have hl := flat_length l
    simp only [rem, flat]
    split
    · rename_i h
      rw [flat_rep, rem_flat l k h, List.take_append_of_le_length (by omega), List.drop_append_of_le_length (by omega)]
      simp
    · split
      · rename_i h
        have e2 : k + 1 - l.its - 1 = k - l.its - 1 + 1 := by omega
        rw [flat_rep, rem_flat r (k - l.its - 1) (by omega), take_past _ _ _ _ (by omega), drop_past _ _ _ _ (by omega), hl, e2]
        simp
      · have hke : k = l.its := by omega
        have e1 : k = l.flat.length := by omega
        have e : (l.flat ++ p :: r.flat).take k ++ (l.flat ++ p :: r.flat).drop (k + 1) = l.flat ++ r.flat := by
          rw [e1]; simp [List.drop_append]
        rw [e]
        split
        · simp [flat]
        · simp [flat]
        · rename_i a2 q2 b2 _ _
          obtain ⟨t, ht⟩ := first_flat (node a2 q2 b2) (by simp)
          rw [flat_rep, rem_flat (node a2 q2 b2) 0 (by rw [← flat_length, ht]; simp), ht]
          simp

theorem spl_flat (a : AT) (e : Pc) (b : AT) : (spl a e b).flat = a.flat ++ e :: b.flat := by
  fun_induction spl a e b with
  | case1 => rename_i h; simp [ht] at h
  | case2 => rename_i h ih; rw [flat_rep, ih]; simp [flat]
  | case3 => rename_i h1 h; simp [ht] at h
  | case4 => rename_i ih; rw [flat_rep, ih]; simp [flat]
  | case5 => simp [flat]

theorem spl_bal (a : AT) (e : Pc) (b : AT) : a.bal → b.bal → (spl a e b).bal ∧ max a.ht b.ht ≤ (spl a e b).ht ∧ (spl a e b).ht ≤ max a.ht b.ht + 1 := by
  fun_induction spl a e b with
  | case1 => rename_i h; simp [ht] at h
  | case2 b0 e0 l p r h ih =>
    intro ⟨hl, hr, h1, h2⟩ hb
    obtain ⟨c, g1, g2⟩ := ih hr hb
    simp only [ht] at h ⊢
    obtain ⟨c', q1, q2, q3⟩ := rep_bal l p (spl r _ _) hl c (by omega) (by omega)
    exact ⟨c', by omega, by omega⟩
  | case3 => rename_i h1 h; simp [ht] at h
  | case4 a0 e0 l p r h' h ih =>
    intro ha ⟨hl, hr, h1, h2⟩
    obtain ⟨c, g1, g2⟩ := ih ha hl
    simp only [ht] at h h' ⊢
    obtain ⟨c', q1, q2, q3⟩ := rep_bal (spl _ _ l) p r c hr (by omega) (by omega)
    exact ⟨c', by omega, by omega⟩
  | case5 a0 b0 h h' =>
    intro ha hb
    simp only [bal, ht]
    exact ⟨⟨ha, hb, by omega, by omega⟩, by omega, by omega⟩

theorem join_flat (a b : AT) : (join a b).flat = a.flat ++ b.flat := by
  unfold join
  split
  · simp [flat]
  · simp [flat]
  · rename_i a1 q1 b1 a2 q2 b2
    obtain ⟨t, ht⟩ := first_flat (node a2 q2 b2) (by simp)
    rw [spl_flat, rem_flat (node a2 q2 b2) 0 (by rw [← flat_length, ht]; simp), ht]
    simp
theorem join_bal (a b : AT) (ha : a.bal) (hb : b.bal) : (join a b).bal := by
  unfold join
  split
  · exact hb
  · exact ha
  · rename_i a1 q1 b1 a2 q2 b2
    exact (spl_bal _ _ _ ha (rem_bal _ 0 hb (by simp only [its]; omega)).1).1

theorem split_flat : ∀ (T : AT) (k : Nat), k ≤ T.its → (split T k).1.flat = T.flat.take k ∧ (split T k).2.flat = T.flat.drop k
  | nil, k, _ => by simp [split, flat]
  | node l p r, k, hk => by
    simp only [its] at hk
    have hl := flat_length l
    simp only [split, flat]
    split
    · rename_i h
      obtain ⟨h1, h2⟩ := split_flat l k h
      rw [spl_flat, h1, h2, List.take_append_of_le_length (by omega), List.drop_append_of_le_length (by omega)]
      exact ⟨rfl, rfl⟩
    · rename_i h
      obtain ⟨h1, h2⟩ := split_flat r (k - l.its - 1) (by omega)
      rw [spl_flat, h1, h2, take_past _ _ _ _ (by omega), drop_past _ _ _ _ (by omega), hl]
      exact ⟨rfl, rfl⟩

theorem split_bal : ∀ (T : AT) (k : Nat), T.bal → (split T k).1.bal ∧ (split T k).2.bal
  | nil, k, _ => by simp [split, bal]
  | node l p r, k, ⟨hl, hr, h1, h2⟩ => by
    simp only [split]
    split
    · obtain ⟨b1, b2⟩ := split_bal l k hl
      exact ⟨b1, (spl_bal _ _ _ b2 hr).1⟩
    · obtain ⟨b1, b2⟩ := split_bal r (k - l.its - 1) hr
      exact ⟨(spl_bal _ _ _ hl b1).1, b2⟩
end AT
end Go.Proofs.YtbgngikejgihgagGreatDoor
