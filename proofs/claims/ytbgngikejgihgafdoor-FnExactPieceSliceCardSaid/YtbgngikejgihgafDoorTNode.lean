import Derived.Test.YtbgngikejgihgafDoorProg
import Derived.Test.YtbgngikejgihgafDoorBase
import Derived.Test.YtbgngikejgihgafDoorAvl
import Derived.WalkKit
import Derived.WalkLawsBesides
import Derived.Laws.Rows
import Derived.Deep.RegionWith
import Derived.Deep.Cut
import Derived.Deep.CutRange
import Derived.Deep.CutBlock
import Derived.Deep.DeepCutAuto
namespace Go.Proofs.YtbgngikejgihgafDoor
open Go Go.RowKit
set_option linter.unusedVariables false

/-- The cells of a node. -/
def ndC (p : Pc) (l r : Option Addr) (h i n k : Int) : Array Value :=
  #[.int .i64 p.off, .int .i64 p.len, .int .i64 p.brk, .pointer l, .pointer r, .int .i64 h, .int .i64 i, .int .i64 n, .int .i64 k]

/-- A node as it lies, whatever it counts. -/
def Nd (w : World) (b : Nat) (p : Pc) (l r : Option Addr) (h i n k : Int) : Prop :=
  w.heap[b]? = some (.cells (ndC p l r h i n k) 183 (0, 0))

/-- A tree lies in these blocks. -/
def Lies (w : World) (base : Nat) : AT → Option Addr → List Nat → Prop
  | .nil, u, bs => u = none ∧ bs = []
  | .node l p r, u, bs => ∃ b ul ur bl br, u = some ⟨b, 0, none⟩ ∧ base ≤ b ∧ Nd w b p ul ur (1 + max (l.ht : Int) r.ht) (l.its + 1 + r.its) (l.rns + p.len + r.rns) (l.bks + p.brk + r.bks) ∧
      Lies w base l ul bl ∧ Lies w base r ur br ∧ bs = b :: (bl ++ br)

theorem Nd.lt {w : World} {b : Nat} {p : Pc} {l r : Option Addr} {h i n k : Int} (hn : Nd w b p l r h i n k) : b < w.heap.size := by
  rcases Nat.lt_or_ge b w.heap.size with h' | h'
  · exact h'
  · unfold Nd at hn; rw [Array.getElem?_eq_none h'] at hn; cases hn

theorem Nd.c0 {w : World} {b : Nat} {p : Pc} {l r : Option Addr} {h i n k : Int} (hn : Nd w b p l r h i n k) : w.cell? ⟨b, 0, none⟩ = some (.int .i64 p.off) := by rw [cell_of_row w b 0 _ _ _ hn]; rfl
theorem Nd.c1 {w : World} {b : Nat} {p : Pc} {l r : Option Addr} {h i n k : Int} (hn : Nd w b p l r h i n k) : w.cell? ⟨b, 1, none⟩ = some (.int .i64 p.len) := by rw [cell_of_row w b 1 _ _ _ hn]; rfl
theorem Nd.c2 {w : World} {b : Nat} {p : Pc} {l r : Option Addr} {h i n k : Int} (hn : Nd w b p l r h i n k) : w.cell? ⟨b, 2, none⟩ = some (.int .i64 p.brk) := by rw [cell_of_row w b 2 _ _ _ hn]; rfl
theorem Nd.c3 {w : World} {b : Nat} {p : Pc} {l r : Option Addr} {h i n k : Int} (hn : Nd w b p l r h i n k) : w.cell? ⟨b, 3, none⟩ = some (.pointer l) := by rw [cell_of_row w b 3 _ _ _ hn]; rfl
theorem Nd.c4 {w : World} {b : Nat} {p : Pc} {l r : Option Addr} {h i n k : Int} (hn : Nd w b p l r h i n k) : w.cell? ⟨b, 4, none⟩ = some (.pointer r) := by rw [cell_of_row w b 4 _ _ _ hn]; rfl
theorem Nd.c5 {w : World} {b : Nat} {p : Pc} {l r : Option Addr} {h i n k : Int} (hn : Nd w b p l r h i n k) : w.cell? ⟨b, 5, none⟩ = some (.int .i64 h) := by rw [cell_of_row w b 5 _ _ _ hn]; rfl
theorem Nd.c6 {w : World} {b : Nat} {p : Pc} {l r : Option Addr} {h i n k : Int} (hn : Nd w b p l r h i n k) : w.cell? ⟨b, 6, none⟩ = some (.int .i64 i) := by rw [cell_of_row w b 6 _ _ _ hn]; rfl
theorem Nd.c7 {w : World} {b : Nat} {p : Pc} {l r : Option Addr} {h i n k : Int} (hn : Nd w b p l r h i n k) : w.cell? ⟨b, 7, none⟩ = some (.int .i64 n) := by rw [cell_of_row w b 7 _ _ _ hn]; rfl
theorem Nd.c8 {w : World} {b : Nat} {p : Pc} {l r : Option Addr} {h i n k : Int} (hn : Nd w b p l r h i n k) : w.cell? ⟨b, 8, none⟩ = some (.int .i64 k) := by rw [cell_of_row w b 8 _ _ _ hn]; rfl
theorem Nd.fz {w : World} {b : Nat} {p : Pc} {l r : Option Addr} {h i n k : Int} (hn : Nd w b p l r h i n k) (j : Nat) : w.frozen? ⟨b, j, none⟩ = false := frozen_of_row w b j _ _ hn

theorem Lies.frame {w w' : World} {base : Nat} : ∀ {T : AT} {u : Option Addr} {bs : List Nat}, Lies w base T u bs → (∀ b ∈ bs, w'.heap[b]? = w.heap[b]?) → Lies w' base T u bs
  | .nil, u, bs, h, _ => h
  | .node l p r, u, bs, ⟨b, ul, ur, bl, br, h1, h2, h3, h4, h5, h6⟩, hf => by
    subst h6
    refine ⟨b, ul, ur, bl, br, h1, h2, ?_, h4.frame (fun k hk => hf k (by simp [hk])), h5.frame (fun k hk => hf k (by simp [hk])), rfl⟩
    unfold Nd at h3 ⊢; rw [hf b (by simp)]; exact h3

theorem Lies.lt {w : World} {base : Nat} : ∀ {T : AT} {u : Option Addr} {bs : List Nat}, Lies w base T u bs → ∀ b ∈ bs, base ≤ b ∧ b < w.heap.size
  | .nil, u, bs, h, b, hb => by rw [h.2] at hb; cases hb
  | .node l p r, u, bs, ⟨b, ul, ur, bl, br, h1, h2, h3, h4, h5, h6⟩, k, hk => by
    subst h6
    simp only [List.mem_cons, List.mem_append] at hk
    rcases hk with rfl | hk | hk
    · exact ⟨h2, h3.lt⟩
    · exact h4.lt k hk
    · exact h5.lt k hk

theorem Lies.below {w w' : World} {base B : Nat} {T : AT} {u : Option Addr} {bs : List Nat} (h : Lies w base T u bs) (hb : Below B w w') (hB : w.heap.size ≤ B) : Lies w' base T u bs :=
  h.frame fun b hbs => hb.block b (Nat.lt_of_lt_of_le (h.lt b hbs).2 hB)

theorem Lies.base {w : World} {base base' : Nat} (hle : base' ≤ base) : ∀ {T : AT} {u : Option Addr} {bs : List Nat}, Lies w base T u bs → Lies w base' T u bs
  | .nil, u, bs, h => h
  | .node l p r, u, bs, ⟨b, ul, ur, bl, br, h1, h2, h3, h4, h5, h6⟩ => ⟨b, ul, ur, bl, br, h1, by omega, h3, h4.base hle, h5.base hle, h6⟩

set_option maxHeartbeats 1000000 in
theorem heightN (T : AT) (u : Option Addr) (bs : List Nat) (base : Nat) (w : World) (h : Lies w base T u bs) :
    Calls Tryd.prog 138 #[.pointer u] w fun e w' => e = .returned (.int .i64 T.ht) ∧ w' = w := by
  cases T with
  | nil =>
    obtain ⟨rfl, rfl⟩ := h
    go_enter Tryd.func138, Tryd.ntmps138
    go_wp2
    go_ret
    exact ⟨rfl, rfl⟩
  | node l p r =>
    obtain ⟨b, ul, ur, bl, br, rfl, h2, h3, h4, h5, h6⟩ := h
    have c5 := h3.c5
    have hlt := h3.lt
    have e : (((AT.node l p r).ht : Nat) : Int) = 1 + max (l.ht : Int) r.ht := by simp only [AT.ht]; omega
    rw [e]
    clear h3 h4 h5 h6 e
    generalize 1 + max (l.ht : Int) r.ht = hh at *
    go_enter Tryd.func138, Tryd.ntmps138
    go_wp2
    go_ret
    exact ⟨rfl, rfl⟩

def cnt (i n k : Int) : Value := .agg #[.int .i64 i, .int .i64 n, .int .i64 k]
def pcV (p : Pc) : Value := .agg #[.int .i64 p.off, .int .i64 p.len, .int .i64 p.brk]

set_option maxHeartbeats 1000000 in
theorem allN (T : AT) (u : Option Addr) (bs : List Nat) (base : Nat) (w : World) (h : Lies w base T u bs) :
    Calls Tryd.prog 79 #[.pointer u] w fun e w' => e = .returned (cnt T.its T.rns T.bks) ∧ Below w.heap.size w w' := by
  cases T with
  | nil =>
    obtain ⟨rfl, rfl⟩ := h
    go_enter Tryd.func79, Tryd.ntmps79
    go_wp2
    refine bodyPost_ret (v := cnt _ _ _) (by simp [results, Tryd.results79, go_sem]; rfl) rfl ⟨rfl, ?_⟩
    exact (Below.refl _ _).alloc (Nat.le_refl _) _
  | node l p r =>
    obtain ⟨b, ul, ur, bl, br, rfl, h2, h3, h4, h5, h6⟩ := h
    have c6 := h3.c6
    have c7 := h3.c7
    have c8 := h3.c8
    have hlt := h3.lt
    go_enter Tryd.func79, Tryd.ntmps79
    go_wp2
    refine bodyPost_ret (v := cnt _ _ _) (by simp [results, Tryd.results79, go_sem]; rfl) rfl ⟨rfl, ?_⟩
    exact (Below.refl _ _).alloc (Nat.le_refl _) _

set_option maxHeartbeats 1000000 in
theorem pRunes (p : Pc) (w : World) : Calls Tryd.prog 185 #[pcV p] w fun e w' => e = .returned (.int .i64 p.len) ∧ Below w.heap.size w w' := by
  unfold pcV
  go_enter Tryd.func185, Tryd.ntmps185
  go_wp2
  go_ret
  exact ⟨rfl, (Below.refl _ _).alloc (Nat.le_refl _) _⟩
set_option maxHeartbeats 1000000 in
theorem pBreaks (p : Pc) (w : World) : Calls Tryd.prog 184 #[pcV p] w fun e w' => e = .returned (.int .i64 p.brk) ∧ Below w.heap.size w w' := by
  unfold pcV
  go_enter Tryd.func184, Tryd.ntmps184
  go_wp2
  go_ret
  exact ⟨rfl, (Below.refl _ _).alloc (Nat.le_refl _) _⟩

set_option maxHeartbeats 1000000 in
theorem plusN (i n k i' n' k' : Int) (w : World) (h1 : -1000000 ≤ i ∧ i ≤ 1000000) (h2 : -1000000 ≤ n ∧ n ≤ 1000000) (h3 : -1000000 ≤ k ∧ k ≤ 1000000)
    (g1 : -1000000 ≤ i' ∧ i' ≤ 1000000) (g2 : -1000000 ≤ n' ∧ n' ≤ 1000000) (g3 : -1000000 ≤ k' ∧ k' ≤ 1000000) :
    Calls Tryd.prog 155 #[cnt i n k, cnt i' n' k'] w fun e w' => e = .returned (cnt (i + i') (n + n') (k + k')) ∧ Below w.heap.size w w' := by
  unfold cnt
  go_enter Tryd.func155, Tryd.ntmps155
  go_wp2
  refine bodyPost_ret (v := cnt _ _ _) (by simp [results, Tryd.results155, go_sem]; rfl) rfl ⟨rfl, ?_⟩
  exact (((Below.refl _ _).alloc (Nat.le_refl _) _).alloc (by simp) _).alloc (by simp; omega) _

theorem Tryd.methodRunes (x y z : Value) (w : World) : (Go.method 379 113 (.agg #[x, y, z]) "loop.example/s01685/impl.runes").run Tryd.prog w = .ok (185, .agg #[x, y, z]) w := by kernel_rfl
theorem Tryd.methodBreaks (x y z : Value) (w : World) : (Go.method 379 113 (.agg #[x, y, z]) "loop.example/s01685/impl.breaks").run Tryd.prog w = .ok (184, .agg #[x, y, z]) w := by kernel_rfl
set_option maxHeartbeats 2000000 in
set_option maxRecDepth 100000 in
theorem ownN (p : Pc) (b : Nat) (l r : Option Addr) (h i n k : Int) (w : World) (hn : Nd w b p l r h i n k) :
    Calls Tryd.prog 156 #[.pointer (some ⟨b, 0, none⟩)] w fun e w' => e = .returned (cnt 1 p.len p.brk) ∧ Below w.heap.size w w' := by
  have c0 := hn.c0
  have c1 := hn.c1
  have c2 := hn.c2
  have hlt := hn.lt
  go_enter Tryd.func156, Tryd.ntmps156
  go_upto_region 1 with fail
  have HB0 := hide ((Below.refl w.heap.size w).alloc (Nat.le_refl _) (.cells #[.int .i64 0, .int .i64 0, .int .i64 0] 128))
  have hk : (w.alloc (.cells #[.int .i64 0, .int .i64 0, .int .i64 0] 128)).heap[w.heap.size]? = some (.cells #[.int .i64 0, .int .i64 0, .int .i64 0] 128 (0, 0)) := heap_alloc_new _ _
  have hl0 : w.heap.size < (w.alloc (.cells #[.int .i64 0, .int .i64 0, .int .i64 0] 128)).heap.size := by simp
  generalize w.alloc (.cells #[.int .i64 0, .int .i64 0, .int .i64 0] 128) = w0 at *
  have a0 := (HB0.out.cell (p := ⟨b, 0, none⟩) hlt).trans c0
  have a1 := (HB0.out.cell (p := ⟨b, 1, none⟩) hlt).trans c1
  have a2 := (HB0.out.cell (p := ⟨b, 2, none⟩) hlt).trans c2
  have hlt0 : b < w0.heap.size := by omega
  have HK := hide hk
  clear c0 c1 c2 hn hk
  have mR := Tryd.methodRunes
  have mB := Tryd.methodBreaks
  go_region_with (first
    | (go_at_call 185; refine (pRunes p _).mono ?_; rintro e w1 ⟨rfl, hb1⟩; have B1 := hide (show Below w0.heap.size w0 w1 from ⟨hb1.os, hb1.tape, hb1.output, hb1.size, hb1.block⟩); have d0 := (B1.out.cell (p := ⟨b, 0, none⟩) hlt0).trans a0; have d1 := (B1.out.cell (p := ⟨b, 1, none⟩) hlt0).trans a1; have d2 := (B1.out.cell (p := ⟨b, 2, none⟩) hlt0).trans a2; clear hb1)
    | (go_at_call 184; refine (pBreaks p _).mono ?_; rintro e w2 ⟨rfl, hb2⟩; have B2 := hide (B1.out.trans ((show Below w1.heap.size w1 w2 from ⟨hb2.os, hb2.tape, hb2.output, hb2.size, hb2.block⟩).mono B1.out.size)); have hk2 := (B2.out.block _ hl0).trans HK.out; have k0 : w2.cell? ⟨w.heap.size, 0, none⟩ = some (.int .i64 0) := (by rw [cell_of_row w2 _ 0 _ _ _ hk2]; rfl); have k1 : w2.cell? ⟨w.heap.size, 1, none⟩ = some (.int .i64 0) := (by rw [cell_of_row w2 _ 1 _ _ _ hk2]; rfl); have k2 : w2.cell? ⟨w.heap.size, 2, none⟩ = some (.int .i64 0) := (by rw [cell_of_row w2 _ 2 _ _ _ hk2]; rfl); have f0 := frozen_of_row w2 w.heap.size 0 _ _ hk2; have f1 := frozen_of_row w2 w.heap.size 1 _ _ hk2; have f2 := frozen_of_row w2 w.heap.size 2 _ _ hk2; clear hb2 hk2))
  all_goals (go_wp2_with fail; refine bodyPost_ret (v := cnt _ _ _) (by simp [results, Tryd.results156, go_sem, k0, k1, k2]; rfl) rfl ⟨rfl, (((HB0.out.trans (B2.out.mono (Nat.le_of_lt hl0))).setCell (Nat.le_refl _) _).setCell (Nat.le_refl _) _).setCell (Nat.le_refl _) _⟩)
end Go.Proofs.YtbgngikejgihgafDoor
