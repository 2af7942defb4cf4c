import Derived.WalkKit
import Derived.Deep.Draws
namespace Go.Proofs.YtbgngikejgihgagGreatDoor
open Go Go.RowKit

/-- A slice value that reads as the numbers zs. -/
def Rd (k : IntKind) (w : World) (v : Value) (zs : List Int) : Prop :=
  (∃ ao cap, v = .slice ao 0 cap ∧ zs = []) ∨
  (∃ b off cap, v = .slice (some ⟨b, off, none⟩) zs.length cap ∧ (0 < zs.length ∧ zs.length ≤ cap ∧ cap ≤ maxLen) ∧ ∀ i, i < zs.length → w.cell? ⟨b, off + i, none⟩ = some (.int k (zs.getD i 0)))

def ints (k : IntKind) (zs : List Int) : List Value := zs.map (Value.int k)

theorem Rd.below {k : IntKind} {w w' : World} {v : Value} {zs : List Int} (h : Rd k w v zs) (hb : Below w.heap.size w w') : Rd k w' v zs := by
  rcases h with h | ⟨b, off, cap, hv, hp, hc⟩
  · exact .inl h
  · refine .inr ⟨b, off, cap, hv, hp, fun i hi => ?_⟩
    have h1 := hc i hi
    rw [hb.cell (p := ⟨b, off + i, none⟩) (World.block_lt_of_cell? w _ h1)]
    exact h1

theorem Rd.cells {k : IntKind} {w w' : World} {v : Value} {zs : List Int} (h : Rd k w v zs) (hb : w'.heap = w.heap) : Rd k w' v zs := by
  rcases h with h | ⟨b, off, cap, hv, hp, hc⟩
  · exact .inl h
  · exact .inr ⟨b, off, cap, hv, hp, fun i hi => by rw [World.cell?_of_block (w := w) (by rw [hb])]; exact hc i hi⟩

theorem Rd.of_owns {k : IntKind} {w : World} {base : Nat} {e : TypeId} {v : Value} {n : Nat} {zs : List Int} (h : w.ownsRow base e 1 v n (ints k zs)) : Rd k w v zs := by
  have hl : zs.length = n := by have := h.1; simpa [ints] using this
  rcases h.2 with ⟨hv, hn⟩ | ⟨g, cap, cur, hv, hrest⟩
  · left; exact ⟨none, 0, hv, by apply List.eq_nil_of_length_eq_zero; omega⟩
  · obtain ⟨_, _, hcap, hcm, _⟩ := hrest
    subst hv
    by_cases h0 : n = 0
    · left; subst h0; exact ⟨_, _, rfl, by apply List.eq_nil_of_length_eq_zero; omega⟩
    · right
      refine ⟨g, 0, cap, by rw [hl], ⟨by omega, by omega, hcm⟩, fun i hi => ?_⟩
      rw [Nat.zero_add, h.cellAt i (by omega)]
      simp [ints, List.getElem?_eq_getElem hi]

theorem owns_of_block {w w' : World} {base : Nat} {e : TypeId} {size : Nat} {v : Value} {n : Nat} {xs : List Value} (h : w.ownsRow base e size v n xs)
    (hb : ∀ k, v.ownBlock = some k → w'.heap[k]? = w.heap[k]?) : w'.ownsRow base e size v n xs := by
  refine ⟨h.1, ?_⟩
  rcases h.2 with h2 | ⟨g, cap, cur, hv, h1, h2, h3⟩
  · exact .inl h2
  · exact .inr ⟨g, cap, cur, hv, h1, by rw [hb g (by rw [hv]; rfl)]; exact h2, h3⟩

theorem owns_below {w w' : World} {base B : Nat} {e : TypeId} {size : Nat} {v : Value} {n : Nat} {xs : List Value} (h : w.ownsRow base e size v n xs)
    (hb : Below B w w') (hB : w.heap.size ≤ B) : w'.ownsRow base e size v n xs :=
  owns_of_block h fun k hk => hb.block k (by have := (h.lt k hk).2; omega)

theorem owns_base {w : World} {base base' : Nat} {e : TypeId} {size : Nat} {v : Value} {n : Nat} {xs : List Value} (h : w.ownsRow base e size v n xs) (hb : base' ≤ base) : w.ownsRow base' e size v n xs := by
  refine ⟨h.1, ?_⟩
  rcases h.2 with h2 | ⟨g, cap, cur, hv, h1, h2⟩
  · exact .inl h2
  · exact .inr ⟨g, cap, cur, hv, by omega, h2⟩

theorem hide {p : Prop} (h : p) : Hid p := h

theorem owns_cell {k : IntKind} {w : World} {base g cap : Nat} {e : TypeId} {n : Nat} {zs : List Int} (h : w.ownsRow base e 1 (.slice (some ⟨g, 0, none⟩) n cap) n (ints k zs)) (j : Nat) (hj : j < n) : w.cell? ⟨g, j, none⟩ = some (.int k (zs.getD j 0)) := by
  have hl : zs.length = n := by have := h.1; simpa [ints] using this
  rw [h.cellAt j (by omega)]
  simp [ints, List.getElem?_eq_getElem (show j < zs.length by omega)]

theorem grown_refl (w : World) (row : Option Nat) : w.grownBy w row := ⟨rfl, rfl, rfl, Nat.le_refl _, fun _ _ _ => rfl⟩

theorem grown_trans {w w' w'' : World} {row : Option Nat} (h : w.grownBy w' row) (k : w'.grownBy w'' row) : w.grownBy w'' row :=
  ⟨k.os.trans h.os, k.tape.trans h.tape, k.output.trans h.output, Nat.le_trans h.size k.size, fun i hi hr => (k.block i (Nat.lt_of_lt_of_le hi h.size) hr).trans (h.block i hi hr)⟩

/-- The cells of a new block. -/
theorem newcells (w : World) (t : TypeId) (news : List Value) : ∀ j u, news[j]? = some u → (w.alloc (.cells news.toArray t)).cell? ((⟨w.heap.size, 0, none⟩ : Addr).add j) = some u := by
  intro j u h
  have h1 : (w.alloc (.cells news.toArray t)).heap[w.heap.size]? = some (.cells news.toArray t (0, 0)) := by
    show (w.heap.push _)[w.heap.size]? = _
    simp
  have e : ((⟨w.heap.size, 0, none⟩ : Addr).add j) = ⟨w.heap.size, j, none⟩ := by
    simp only [Addr.add, Nat.zero_add]; split
    · subst_vars; rfl
    · rfl
  rw [e, cell_of_row (w.alloc (.cells news.toArray t)) w.heap.size j news.toArray t (0, 0) h1]
  simpa using h

/-- Of an argument. -/
theorem Rd.of_row {k : IntKind} {w : World} {x : Addr} {len cap : Nat} {zs : List Int} (hc : ∀ i, i < zs.length → w.cell? (x.add i) = some (.int k (zs.getD i 0))) (hl : len ≤ zs.length) (hcp : len ≤ cap) (hcm : cap ≤ maxLen) : Rd k w (.slice (some x) len cap) (zs.take len) := by
  have hlen : (zs.take len).length = len := by rw [List.length_take]; omega
  by_cases h0 : len = 0
  · subst h0; exact .inl ⟨_, _, rfl, by simp⟩
  · obtain ⟨b, off, spot⟩ := x
    have h1 := hc 0 (by omega)
    have hspot : spot = none := by simpa [Addr.add] using World.cell?_spot h1
    subst hspot
    refine .inr ⟨b, off, cap, by rw [hlen], ⟨by omega, by omega, hcm⟩, fun i hi => ?_⟩
    have h2 := hc i (by omega)
    have e : ((⟨b, off, none⟩ : Addr).add i) = ⟨b, off + i, none⟩ := by
      simp only [Addr.add]; split
      · subst_vars; rfl
      · rfl
    rw [e] at h2
    rw [h2]
    have : (zs.take len).getD i 0 = zs.getD i 0 := by
      rw [List.getD_eq_getElem?_getD, List.getD_eq_getElem?_getD, List.getElem?_take, if_pos (by omega)]
    rw [this]

theorem ints_append (k : IntKind) (a b : List Int) : ints k (a ++ b) = ints k a ++ ints k b := by simp [ints]
theorem ints_length (k : IntKind) (a : List Int) : (ints k a).length = a.length := by simp [ints]
theorem ints_one (k : IntKind) (a : List Int) : ∀ u ∈ ints k a, u.oneCell' = true := by
  intro u hu
  simp only [ints, List.mem_map] at hu
  obtain ⟨z, _, rfl⟩ := hu
  rfl

theorem addr_add (b off i : Nat) : ((⟨b, off, none⟩ : Addr).add i) = ⟨b, off + i, none⟩ := by
  simp only [Addr.add]; split
  · subst_vars; rfl
  · rfl

/-- The cells of a cut of a row. -/
theorem cut_cells {k : IntKind} {w : World} {b off o l : Nat} {zs : List Int} (hc : ∀ i, i < zs.length → w.cell? ⟨b, off + i, none⟩ = some (.int k (zs.getD i 0))) :
    ∀ j u, (ints k ((zs.drop o).take l))[j]? = some u → w.cell? ((⟨b, off + o, none⟩ : Addr).add j) = some u := by
  intro j u h
  rw [addr_add]
  simp only [ints, List.getElem?_map, Option.map_eq_some_iff, List.getElem?_take, List.getElem?_drop] at h
  obtain ⟨z, hz, rfl⟩ := h
  split at hz
  · have hlt : o + j < zs.length := by
      rcases Nat.lt_or_ge (o + j) zs.length with h | h
      · exact h
      · rw [List.getElem?_eq_none h] at hz; cases hz
    rw [Nat.add_assoc, hc (o + j) hlt, List.getD_eq_getElem?_getD, hz]; rfl
  · cases hz

end Go.Proofs.YtbgngikejgihgagGreatDoor

namespace Go.Proofs.YtbgngikejgihgagGreatDoor
set_option linter.unusedVariables false

structure Pc where
  off : Int
  len : Int
  brk : Int
  deriving DecidableEq, Inhabited

structure It where
  pc : Pc
  lv : Int
  deriving DecidableEq, Inhabited

inductive AT where
  | nil
  | node (l : AT) (p : Pc) (r : AT)
  deriving Inhabited

namespace AT
def ht : AT → Nat
  | nil => 0
  | node l _ r => 1 + max l.ht r.ht
def its : AT → Nat
  | nil => 0
  | node l _ r => l.its + 1 + r.its
def rns : AT → Int
  | nil => 0
  | node l p r => l.rns + p.len + r.rns
def bks : AT → Int
  | nil => 0
  | node l p r => l.bks + p.brk + r.bks
def bal : AT → Prop
  | nil => True
  | node l _ r => l.bal ∧ r.bal ∧ l.ht ≤ r.ht + 1 ∧ r.ht ≤ l.ht + 1
def told : AT → Int → List It
  | nil, _ => []
  | node l p r, d => l.told (d + 1) ++ ⟨p, d⟩ :: r.told (d + 1)

theorem told_lv : ∀ (T : AT) (d : Int), ∀ x ∈ T.told d, d ≤ x.lv ∧ x.lv < d + T.ht
  | nil, d, x, h => by simp [told] at h
  | node l p r, d, x, h => by
    simp only [told, List.mem_append, List.mem_cons] at h
    simp only [ht]
    rcases h with h | rfl | h
    · have := told_lv l (d + 1) x h; omega
    · simp; omega
    · have := told_lv r (d + 1) x h; omega

theorem told_length : ∀ (T : AT) (d : Int), (T.told d).length = T.its
  | nil, d => rfl
  | node l p r, d => by simp [told, its, told_length l, told_length r]; omega

theorem ht_its : ∀ T : AT, T.ht ≤ T.its
  | nil => by simp [ht]
  | node l p r => by
    have := ht_its l; have := ht_its r
    simp only [ht, its]; omega

theorem bal_pow : ∀ T : AT, T.bal → 2 ^ (T.ht / 2) ≤ T.its + 1
  | nil, _ => by simp [ht, its]
  | node l p r, h => by
    obtain ⟨hl, hr, h1, h2⟩ := h
    have il := bal_pow l hl
    have ir := bal_pow r hr
    simp only [ht, its]
    have e : (1 + max l.ht r.ht) / 2 ≤ min (l.ht) (r.ht) / 2 + 1 := by omega
    have hle : 2 ^ ((1 + max l.ht r.ht) / 2) ≤ 2 ^ (min l.ht r.ht / 2 + 1) := Nat.pow_le_pow_right (by omega) e
    have hl2 : 2 ^ (min l.ht r.ht / 2) ≤ 2 ^ (l.ht / 2) := Nat.pow_le_pow_right (by omega) (by omega)
    have hr2 : 2 ^ (min l.ht r.ht / 2) ≤ 2 ^ (r.ht / 2) := Nat.pow_le_pow_right (by omega) (by omega)
    rw [Nat.pow_succ] at hle
    omega

/-- A balanced tree of at most 8192 items is not high. -/
theorem bal_low (T : AT) (h : T.bal) (hn : T.its ≤ 8192) : T.ht ≤ 27 := by
  have h1 := bal_pow T h
  rcases Nat.lt_or_ge T.ht 28 with h2 | h2
  · omega
  · have : 2 ^ 14 ≤ 2 ^ (T.ht / 2) := Nat.pow_le_pow_right (by omega) (by omega)
    have h14 : (2 : Nat) ^ 14 = 16384 := by decide
    omega
end AT

/-- How the reader takes a subtree. -/
def parse : Nat → Int → List It → Option (AT × List It)
  | 0, _, _ => none
  | f + 1, lv, xs =>
    match xs with
    | [] => some (.nil, [])
    | x :: xt =>
      if x.lv < lv then some (.nil, x :: xt) else
      match parse f (lv + 1) (x :: xt) with
      | none => none
      | some (l, []) => none
      | some (l, y :: zs) =>
        if y.lv ≠ lv then none else
        match parse f (lv + 1) zs with
        | none => none
        | some (r, us) => if l.ht ≤ r.ht + 1 ∧ r.ht ≤ l.ht + 1 then some (.node l y.pc r, us) else none

theorem parse_sound : ∀ (f : Nat) (lv : Int) (xs : List It) (T : AT) (ys : List It), parse f lv xs = some (T, ys) → xs = T.told lv ++ ys ∧ T.bal
  | 0, lv, xs, T, ys, h => by simp [parse] at h
  | f + 1, lv, [], T, ys, h => by
    simp [parse] at h
    obtain ⟨rfl, rfl⟩ := h
    simp [AT.told, AT.bal]
  | f + 1, lv, x :: xt, T, ys, h => by
    rw [parse] at h
    split at h
    · rename_i hx
      simp at h
      obtain ⟨rfl, rfl⟩ := h
      exact ⟨by simp [AT.told], trivial⟩
    · split at h
      · cases h
      · cases h
      · rename_i l y zs hl
        split at h
        · cases h
        · rename_i hy
          split at h
          · cases h
          · rename_i r us hr
            split at h
            · rename_i hb
              simp at h
              obtain ⟨rfl, rfl⟩ := h
              obtain ⟨e1, b1⟩ := parse_sound f _ _ _ _ hl
              obtain ⟨e2, b2⟩ := parse_sound f _ _ _ _ hr
              have hy' : y.lv = lv := by simpa using hy
              refine ⟨?_, ⟨b1, b2, hb.1, hb.2⟩⟩
              rw [e1, e2]; simp only [AT.told, List.append_assoc, List.cons_append]
              obtain ⟨a, b⟩ := y; simp at hy'; subst hy'; rfl
            · cases h

theorem parse_complete : ∀ (T : AT) (f : Nat) (lv : Int) (ys : List It), T.bal → T.ht < f → (∀ y yt, ys = y :: yt → y.lv < lv) → parse f lv (T.told lv ++ ys) = some (T, ys)
  | .nil, f, lv, ys, hb, hf, hy => by
    obtain ⟨f, rfl⟩ : ∃ g, f = g + 1 := ⟨f - 1, by omega⟩
    cases ys with
    | nil => simp [AT.told, parse]
    | cons y yt => simp [AT.told, parse, hy y yt rfl]
  | .node l p r, f, lv, ys, hb, hf, hy => by
    obtain ⟨f, rfl⟩ : ∃ g, f = g + 1 := ⟨f - 1, by omega⟩
    obtain ⟨bl, br, h1, h2⟩ := hb
    simp only [AT.ht] at hf
    have hL := parse_complete l f (lv + 1) (⟨p, lv⟩ :: (r.told (lv + 1) ++ ys)) bl (by omega) (fun y yt e => by simp at e; rw [← e.1]; simp; omega)
    have hR := parse_complete r f (lv + 1) ys br (by omega) (fun y yt e => by have := hy y yt e; omega)
    have e : (AT.node l p r).told lv ++ ys = l.told (lv + 1) ++ ⟨p, lv⟩ :: (r.told (lv + 1) ++ ys) := by simp [AT.told]
    rw [e]
    have hne : ∃ x xt, l.told (lv + 1) ++ ⟨p, lv⟩ :: (r.told (lv + 1) ++ ys) = x :: xt ∧ ¬ x.lv < lv := by
      cases hh : l.told (lv + 1) with
      | nil => exact ⟨_, _, rfl, by simp⟩
      | cons x xt => exact ⟨x, _, rfl, by have := AT.told_lv l (lv + 1) x (by rw [hh]; simp); omega⟩
    obtain ⟨x, xt, hx, hlt⟩ := hne
    rw [hx] at hL ⊢
    rw [parse, if_neg hlt, hL]
    simp only [ne_eq, not_true_eq_false, if_false, hR]
    rw [if_pos ⟨h1, h2⟩]

/-- The parts of a stretch around its only item at this level. -/
def cutAt (lv : Int) : List It → Option (List It × It × List It)
  | [] => none
  | x :: xs => if x.lv < lv then none else if x.lv = lv then (if ∀ y ∈ xs, lv < y.lv then some ([], x, xs) else none) else
    match cutAt lv xs with
    | none => none
    | some (a, y, b) => some (x :: a, y, b)

theorem cutAt_complete (lv : Int) : ∀ (a b : List It) (y : It), y.lv = lv → (∀ z ∈ a, lv < z.lv) → (∀ z ∈ b, lv < z.lv) → cutAt lv (a ++ y :: b) = some (a, y, b)
  | [], b, y, h1, h2, h3 => by
    simp only [List.nil_append, cutAt]
    rw [if_neg (by omega), if_pos h1, if_pos h3]
  | x :: a, b, y, h1, h2, h3 => by
    have := h2 x (by simp)
    simp only [List.cons_append, cutAt]
    rw [if_neg (by omega), if_neg (by omega), cutAt_complete lv a b y h1 (fun z hz => h2 z (by simp [hz])) h3]

/-- The height of a stretch that is a balanced subtree, else -1. -/
def shp : Nat → Int → List It → Int
  | 0, _, xs => if xs = [] then 0 else -1
  | f + 1, lv, xs => if xs = [] then 0 else
    match cutAt lv xs with
    | none => -1
    | some (a, _, b) =>
      if shp f (lv + 1) a < 0 then -1 else
      if shp f (lv + 1) b < 0 ∨ shp f (lv + 1) a - shp f (lv + 1) b > 1 ∨ shp f (lv + 1) b - shp f (lv + 1) a > 1 then -1 else
      max (shp f (lv + 1) a) (shp f (lv + 1) b) + 1

theorem shp_complete : ∀ (T : AT) (f : Nat) (lv : Int), T.bal → T.ht ≤ f → shp f lv (T.told lv) = T.ht
  | .nil, f, lv, _, _ => by cases f <;> simp [shp, AT.told, AT.ht]
  | .node l p r, f, lv, hb, hf => by
    simp only [AT.ht] at hf
    obtain ⟨f, rfl⟩ : ∃ g, f = g + 1 := ⟨f - 1, by omega⟩
    obtain ⟨bl, br, h1, h2⟩ := hb
    have hL := shp_complete l f (lv + 1) bl (by omega)
    have hR := shp_complete r f (lv + 1) br (by omega)
    show shp (f + 1) lv (l.told (lv + 1) ++ ⟨p, lv⟩ :: r.told (lv + 1)) = _
    rw [shp, if_neg (by simp), cutAt_complete lv _ _ _ rfl (fun z hz => by have := AT.told_lv l (lv + 1) z hz; omega) (fun z hz => by have := AT.told_lv r (lv + 1) z hz; omega)]
    simp only [hL, hR, AT.ht]
    rw [if_neg (by omega), if_neg (by omega)]
    omega

def pcOk (p : Pc) : Bool := decide (1 ≤ p.len ∧ p.len ≤ 8192 ∧ 0 ≤ p.off ∧ p.off + p.len ≤ 220000 ∧ 0 ≤ p.brk ∧ p.brk ≤ p.len)

def total : List It → Int
  | [] => 0
  | x :: xs => x.pc.len + total xs

def brks : List It → Int
  | [] => 0
  | x :: xs => x.pc.brk + brks xs

theorem total_append (a b : List It) : total (a ++ b) = total a + total b := by
  induction a with
  | nil => simp [total]
  | cons x a ih => simp only [List.cons_append, total, ih]; omega

theorem brks_append (a b : List It) : brks (a ++ b) = brks a + brks b := by
  induction a with
  | nil => simp [brks]
  | cons x a ih => simp only [List.cons_append, brks, ih]; omega

theorem AT.rns_told : ∀ (T : AT) (d : Int), total (T.told d) = T.rns
  | .nil, d => rfl
  | .node l p r, d => by simp only [told, total_append, total, rns_told l, rns_told r, rns]; omega

theorem AT.bks_told : ∀ (T : AT) (d : Int), brks (T.told d) = T.bks
  | .nil, d => rfl
  | .node l p r, d => by simp only [told, brks_append, brks, bks_told l, bks_told r, bks]; omega

/-- The tree is valid. -/
def okT (xs : List It) : Bool := decide (xs.length ≤ 8192) && xs.all (fun x => pcOk x.pc) && decide (total xs ≤ 8192) && decide (0 ≤ shp 41 0 xs)

theorem total_len : ∀ xs : List It, xs.all (fun x => pcOk x.pc) = true → (xs.length : Int) ≤ total xs
  | [], _ => by simp [total]
  | x :: xs, h => by
    simp only [List.all_cons, Bool.and_eq_true] at h
    have := total_len xs h.2
    have h1 := h.1
    simp only [pcOk, decide_eq_true_eq] at h1
    simp only [total, List.length_cons]; omega

/-- What the reader's own look at the items asks. -/
def okI (n : Nat) (xs : List It) : Bool := xs.all (fun x => pcOk x.pc && decide (0 ≤ x.lv ∧ x.lv ≤ (n : Int) - 1)) && decide (total xs ≤ 8192)

def readT (xs : List It) : Option AT :=
  if okI xs.length xs = true then
    match parse 8200 0 xs with
    | some (T, []) => some T
    | _ => none
  else none

theorem readT_some {xs : List It} {T : AT} (h : readT xs = some T) : okT xs = true ∧ T.bal ∧ xs = T.told 0 ∧ xs.length ≤ 8192 := by
  unfold readT at h
  split at h
  · rename_i hI
    split at h
    · rename_i T' hp
      simp at h; subst h
      obtain ⟨e, hb⟩ := parse_sound _ _ _ _ _ hp
      simp only [List.append_nil] at e
      simp only [okI, Bool.and_eq_true, decide_eq_true_eq] at hI
      have hall : xs.all (fun x => pcOk x.pc) = true := by
        rw [List.all_eq_true] at hI ⊢
        intro x hx; have := hI.1 x hx; simp only [Bool.and_eq_true] at this; exact this.1
      have hlen := total_len xs hall
      have hl : xs.length ≤ 8192 := by omega
      refine ⟨?_, hb, e, hl⟩
      have hits : T'.its = xs.length := by rw [e, AT.told_length]
      have hlow := AT.bal_low T' hb (by omega)
      have hs := shp_complete T' 41 0 hb (by omega)
      rw [← e] at hs
      simp only [okT, Bool.and_eq_true, decide_eq_true_eq]
      exact ⟨⟨⟨hl, hall⟩, hI.2⟩, by omega⟩
    · cases h
  · cases h

end Go.Proofs.YtbgngikejgihgagGreatDoor
