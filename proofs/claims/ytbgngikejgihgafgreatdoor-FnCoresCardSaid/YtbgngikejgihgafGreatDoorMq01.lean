import Derived.WalkKit
import Derived.Deep.Draws
import Derived.Test.YtbgngikejgihgafGreatDoorProg
import Derived.WalkLawsBesides
import Derived.Laws.Rows
import Derived.Deep.RegionWith
import Derived.Deep.Cut
import Derived.Deep.CutRange
import Derived.Deep.CutBlock
import Derived.Deep.DeepCutAuto
namespace Go.Proofs.YtbgngikejgihgafGreatDoor
open Go Go.RowKit
set_option linter.unusedVariables false
set_option maxRecDepth 100000
set_option maxHeartbeats 8000000
theorem lR {n : Nat} : n <= n := Nat.le_refl n
def Rd (k : IntKind) (w : World) (v : Value) (zs : List Int) : Prop :=
 (∃ ao cap, v = .slice ao 0 cap ∧ zs = []) ∨
 (∃ b off cap, v = .slice (some ⟨b, off, none⟩) zs.length cap ∧ (0 < zs.length ∧ zs.length <= cap ∧ cap <= maxLen) ∧ ∀ i, i < zs.length -> w.cell? ⟨b, off + i, none⟩ = some (.int k (zs.getD i 0)))
def ints (k : IntKind) (zs : List Int) : List Value := zs.map (Value.int k)
theorem Rd.cells {k : IntKind} {w w' : World} {v : Value} {zs : List Int} (h : Rd k w v zs) (hb : w'.heap = w.heap) : Rd k w' v zs := by
 rcases h with h | ⟨b, off, cap, hv, hp, hc⟩
 ·exact .inl h
 ·exact .inr ⟨b, off, cap, hv, hp, fun i hi => by rw [World.cell?_of_block (w := w) (by rw [hb])]; exact hc i hi⟩
theorem Rd.of_owns {k : IntKind} {w : World} {base : Nat} {e : TypeId} {v : Value} {n : Nat} {zs : List Int} (h : w.ownsRow base e 1 v n (ints k zs)) : Rd k w v zs := by
 have hl : zs.length = n := by have := h.1; simpa [ints] using this
 rcases h.2 with ⟨hv, hn⟩ | ⟨g, cap, cur, hv, hrest⟩
 ·left; exact ⟨none, 0, hv, by apply List.eq_nil_of_length_eq_zero; omega⟩
 ·obtain ⟨_, _, hcap, hcm, _⟩ := hrest
  subst hv
  by_cases h0 : n = 0
  ·left; subst h0; exact ⟨_, _, rfl, by apply List.eq_nil_of_length_eq_zero; omega⟩
  ·right
   refine ⟨g, 0, cap, by rw [hl], ⟨by omega, by omega, hcm⟩, fun i hi => ?_⟩
   rw [Nat.zero_add, h.cellAt i (by omega)]
   simp [ints, List.getElem?_eq_getElem hi]
theorem zC {w w' : World} {base : Nat} {e : TypeId} {size : Nat} {v : Value} {n : Nat} {xs : List Value} (h : w.ownsRow base e size v n xs)
  (hb : ∀ k, v.ownBlock = some k -> w'.heap[k]? = w.heap[k]?) : w'.ownsRow base e size v n xs := by
 refine ⟨h.1, ?_⟩
 rcases h.2 with h2 | ⟨g, cap, cur, hv, h1, h2, h3⟩
 ·exact .inl h2
 ·exact .inr ⟨g, cap, cur, hv, h1, by rw [hb g (by rw [hv]; rfl)]; exact h2, h3⟩
theorem zD {w w' : World} {base B : Nat} {e : TypeId} {size : Nat} {v : Value} {n : Nat} {xs : List Value} (h : w.ownsRow base e size v n xs)
  (hb : Below B w w') (hB : w.heap.size <= B) : w'.ownsRow base e size v n xs :=
 zC h fun k hk => hb.block k (by have := (h.lt k hk).2; omega)
theorem zE {w : World} {base base' : Nat} {e : TypeId} {size : Nat} {v : Value} {n : Nat} {xs : List Value} (h : w.ownsRow base e size v n xs) (hb : base' <= base) : w.ownsRow base' e size v n xs := by
 refine ⟨h.1, ?_⟩
 rcases h.2 with h2 | ⟨g, cap, cur, hv, h1, h2⟩
 ·exact .inl h2
 ·exact .inr ⟨g, cap, cur, hv, by omega, h2⟩
theorem hide {p : Prop} (h : p) : Hid p := h
theorem yJ {k : IntKind} {w : World} {base g cap : Nat} {e : TypeId} {n : Nat} {zs : List Int} (h : w.ownsRow base e 1 (.slice (some ⟨g, 0, none⟩) n cap) n (ints k zs)) (j : Nat) (hj : j < n) : w.cell? ⟨g, j, none⟩ = some (.int k (zs.getD j 0)) := by
 have hl : zs.length = n := by have := h.1; simpa [ints] using this
 rw [h.cellAt j (by omega)]
 simp [ints, List.getElem?_eq_getElem (show j < zs.length by omega)]
theorem Z8 (k : IntKind) (n : Nat) : (madeCells (Value.int k 0).cells (n * 1)).toList = ints k (List.replicate n 0) := by
 have e : (Value.int k 0).cells = #[Value.int k 0] := rfl;rw [e, toList_madeCells_one]; simp [ints]
theorem zA3 (w : World) (row : Option Nat) : w.grownBy w row := ⟨rfl, rfl, rfl, lR, fun _ _ _ => rfl⟩
theorem yV {w w' w'' : World} {row : Option Nat} (h : w.grownBy w' row) (k : w'.grownBy w'' row) : w.grownBy w'' row :=
 ⟨k.os.trans h.os, k.tape.trans h.tape, k.output.trans h.output, Nat.le_trans h.size k.size, fun i hi hr => (k.block i (Nat.lt_of_lt_of_le hi h.size) hr).trans (h.block i hi hr)⟩
theorem zo (w : World) (t : TypeId) (news : List Value) : ∀ j u, news[j]? = some u -> (w.alloc (.cells news.toArray t)).cell? ((⟨w.heap.size, 0, none⟩ : Addr).add j) = some u := by
 intro j u h
 have h1 : (w.alloc (.cells news.toArray t)).heap[w.heap.size]? = some (.cells news.toArray t (0, 0)) := by
  show (w.heap.push _)[w.heap.size]? = _
  simp
 have e : ((⟨w.heap.size, 0, none⟩ : Addr).add j) = ⟨w.heap.size, j, none⟩ := by
  simp only [Addr.add, Nat.zero_add]; split
  ·subst_vars; rfl
  ·rfl
 rw [e, cell_of_row (w.alloc (.cells news.toArray t)) w.heap.size j news.toArray t (0, 0) h1];simpa using h
theorem Rd.of_row {k : IntKind} {w : World} {x : Addr} {len cap : Nat} {zs : List Int} (hc : ∀ i, i < zs.length -> w.cell? (x.add i) = some (.int k (zs.getD i 0))) (hl : len <= zs.length) (hcp : len <= cap) (hcm : cap <= maxLen) : Rd k w (.slice (some x) len cap) (zs.take len) := by
 have hlen : (zs.take len).length = len := by rw [List.length_take]; omega
 by_cases h0 : len = 0
 ·subst h0; exact .inl ⟨_, _, rfl, by simp⟩
 ·obtain ⟨b, off, spot⟩ := x
  have h1 := hc 0 (by omega)
  have hspot : spot = none := by simpa [Addr.add] using World.cell?_spot h1
  subst hspot
  refine .inr ⟨b, off, cap, by rw [hlen], ⟨by omega, by omega, hcm⟩, fun i hi => ?_⟩
  have h2 := hc i (by omega)
  have e : ((⟨b, off, none⟩ : Addr).add i) = ⟨b, off + i, none⟩ := by
   simp only [Addr.add]; split
   ·subst_vars; rfl
   ·rfl
  rw [e] at h2;rw [h2]
  have : (zs.take len).getD i 0 = zs.getD i 0 := by
   rw [List.getD_eq_getElem?_getD, List.getD_eq_getElem?_getD, List.getElem?_take, if_pos (by omega)]
  rw [this]
theorem zV (k : IntKind) (a b : List Int) : ints k (a ++ b) = ints k a ++ ints k b := by simp [ints]
theorem zA (k : IntKind) (a : List Int) : (ints k a).length = a.length := by simp [ints]
theorem zG (k : IntKind) (a : List Int) : ∀ u ∈ ints k a, u.oneCell' = true := by
 intro u hu;simp only [ints, List.mem_map] at hu;obtain ⟨z, _, rfl⟩ := hu;rfl
theorem jJ (b off i : Nat) : ((⟨b, off, none⟩ : Addr).add i) = ⟨b, off + i, none⟩ := by
 simp only [Addr.add]; split
 ·subst_vars; rfl
 ·rfl
theorem jH {k : IntKind} {w : World} {b off o l : Nat} {zs : List Int} (hc : ∀ i, i < zs.length -> w.cell? ⟨b, off + i, none⟩ = some (.int k (zs.getD i 0))) :
  ∀ j u, (ints k ((zs.drop o).take l))[j]? = some u -> w.cell? ((⟨b, off + o, none⟩ : Addr).add j) = some u := by
 intro j u h;rw [jJ];simp only [ints, List.getElem?_map, Option.map_eq_some_iff, List.getElem?_take, List.getElem?_drop] at h;obtain ⟨z, hz, rfl⟩ := h
 split at hz
 ·have hlt : o + j < zs.length := by
   rcases Nat.lt_or_ge (o + j) zs.length with h | h
   ·exact h
   ·rw [List.getElem?_eq_none h] at hz; cases hz
  rw [Nat.add_assoc, hc (o + j) hlt, List.getD_eq_getElem?_getD, hz]; rfl
 ·cases hz
end Go.Proofs.YtbgngikejgihgafGreatDoor
namespace Go.Proofs.YtbgngikejgihgafGreatDoor

set_option linter.unusedVariables false
set_option maxRecDepth 100000
set_option maxHeartbeats 8000000
structure Pc where
 off : Int
 len : Int
 brk : Int
 deriving DecidableEq, Inhabited
structure It where
 pc : Pc
 lv : Int
 deriving DecidableEq, Inhabited
inductive AT where
 | nil
 | node (l : AT) (p : Pc) (r : AT)
 deriving Inhabited
namespace AT
def ht : AT -> Nat
 | nil => 0
 | node l _ r => 1 + max l.ht r.ht
def its : AT -> Nat
 | nil => 0
 | node l _ r => l.its + 1 + r.its
def rns : AT -> Int
 | nil => 0
 | node l p r => l.rns + p.len + r.rns
def bks : AT -> Int
 | nil => 0
 | node l p r => l.bks + p.brk + r.bks
def bal : AT -> Prop
 | nil => True
 | node l _ r => l.bal ∧ r.bal ∧ l.ht <= r.ht + 1 ∧ r.ht <= l.ht + 1
def told : AT -> Int -> List It
 | nil, _ => []
 | node l p r, d => l.told (d + 1) ++ ⟨p, d⟩ :: r.told (d + 1)
theorem told_lv : ∀ (T : AT) (d : Int), ∀ x ∈ T.told d, d <= x.lv ∧ x.lv < d + T.ht
 | nil, d, x, h => by simp [told] at h
 | node l p r, d, x, h => by
  simp only [told, List.mem_append, List.mem_cons] at h;simp only [ht]
  rcases h with h | rfl | h
  ·have := told_lv l (d + 1) x h; omega
  ·simp; omega
  ·have := told_lv r (d + 1) x h; omega
theorem told_length : ∀ (T : AT) (d : Int), (T.told d).length = T.its
 | nil, d => rfl
 | node l p r, d => by simp [told, its, told_length l, told_length r]; omega
theorem ht_its : ∀ T : AT, T.ht <= T.its
 | nil => by simp [ht]
 | node l p r => by
  have := ht_its l; have := ht_its r;simp only [ht, its]; omega
theorem XH : ∀ T : AT, T.bal -> 2 ^ (T.ht / 2) <= T.its + 1
 | nil, _ => by simp [ht, its]
 | node l p r, h => by
  obtain ⟨hl, hr, h1, h2⟩ := h;have il := XH l hl;have ir := XH r hr;simp only [ht, its]
  have e : (1 + max l.ht r.ht) / 2 <= min (l.ht) (r.ht) / 2 + 1 := by omega
  have hle : 2 ^ ((1 + max l.ht r.ht) / 2) <= 2 ^ (min l.ht r.ht / 2 + 1) := Nat.pow_le_pow_right (by omega) e
  have hl2 : 2 ^ (min l.ht r.ht / 2) <= 2 ^ (l.ht / 2) := Nat.pow_le_pow_right (by omega) (by omega)
  have hr2 : 2 ^ (min l.ht r.ht / 2) <= 2 ^ (r.ht / 2) := Nat.pow_le_pow_right (by omega) (by omega)
  rw [Nat.pow_succ] at hle;omega
theorem bal_low (T : AT) (h : T.bal) (hn : T.its <= 8192) : T.ht <= 27 := by
 have h1 := XH T h
 rcases Nat.lt_or_ge T.ht 28 with h2 | h2
 ·omega
 ·have : 2 ^ 14 <= 2 ^ (T.ht / 2) := Nat.pow_le_pow_right (by omega) (by omega)
  have h14 : (2 : Nat) ^ 14 = 16384 := by decide
  omega
end AT
def parse : Nat -> Int -> List It -> Option (AT × List It)
 | 0, _, _ => none
 | f + 1, lv, xs =>
  match xs with
  | [] => some (.nil, [])
  | x :: xt =>
   if x.lv < lv then some (.nil, x :: xt) else
   match parse f (lv + 1) (x :: xt) with
   | none => none
   | some (l, []) => none
   | some (l, y :: zs) =>
    if y.lv ≠ lv then none else
    match parse f (lv + 1) zs with
    | none => none
    | some (r, us) => if l.ht <= r.ht + 1 ∧ r.ht <= l.ht + 1 then some (.node l y.pc r, us) else none
theorem yW : ∀ (f : Nat) (lv : Int) (xs : List It) (T : AT) (ys : List It), parse f lv xs = some (T, ys) -> xs = T.told lv ++ ys ∧ T.bal
 | 0, lv, xs, T, ys, h => by simp [parse] at h
 | f + 1, lv, [], T, ys, h => by
  simp [parse] at h;obtain ⟨rfl, rfl⟩ := h;simp [AT.told, AT.bal]
 | f + 1, lv, x :: xt, T, ys, h => by
  rw [parse] at h
  split at h
  ·rename_i hx
   simp at h;obtain ⟨rfl, rfl⟩ := h
   exact ⟨by simp [AT.told], trivial⟩
  ·split at h
   ·cases h
   ·cases h
   ·rename_i l y zs hl
    split at h
    ·cases h
    ·rename_i hy
     split at h
     ·cases h
     ·rename_i r us hr
      split at h
      ·rename_i hb
       simp at h;obtain ⟨rfl, rfl⟩ := h;obtain ⟨e1, b1⟩ := yW f _ _ _ _ hl;obtain ⟨e2, b2⟩ := yW f _ _ _ _ hr
       have hy' : y.lv = lv := by simpa using hy
       refine ⟨?_, ⟨b1, b2, hb.1, hb.2⟩⟩;rw [e1, e2]; simp only [AT.told, List.append_assoc, List.cons_append];obtain ⟨a, b⟩ := y; simp at hy'; subst hy'; rfl
      ·cases h
theorem yb : ∀ (T : AT) (f : Nat) (lv : Int) (ys : List It), T.bal -> T.ht < f -> (∀ y yt, ys = y :: yt -> y.lv < lv) -> parse f lv (T.told lv ++ ys) = some (T, ys)
 | .nil, f, lv, ys, hb, hf, hy => by
  obtain ⟨f, rfl⟩ : ∃ g, f = g + 1 := ⟨f - 1, by omega⟩
  cases ys with
  | nil => simp [AT.told, parse]
  | cons y yt => simp [AT.told, parse, hy y yt rfl]
 | .node l p r, f, lv, ys, hb, hf, hy => by
  obtain ⟨f, rfl⟩ : ∃ g, f = g + 1 := ⟨f - 1, by omega⟩
  obtain ⟨bl, br, h1, h2⟩ := hb;simp only [AT.ht] at hf
  have hL := yb l f (lv + 1) (⟨p, lv⟩ :: (r.told (lv + 1) ++ ys)) bl (by omega) (fun y yt e => by simp at e; rw [<- e.1]; simp; omega)
  have hR := yb r f (lv + 1) ys br (by omega) (fun y yt e => by have := hy y yt e; omega)
  have e : (AT.node l p r).told lv ++ ys = l.told (lv + 1) ++ ⟨p, lv⟩ :: (r.told (lv + 1) ++ ys) := by simp [AT.told]
  rw [e]
  have hne : ∃ x xt, l.told (lv + 1) ++ ⟨p, lv⟩ :: (r.told (lv + 1) ++ ys) = x :: xt ∧ ¬ x.lv < lv := by
   cases hh : l.told (lv + 1) with
   | nil => exact ⟨_, _, rfl, by simp⟩
   | cons x xt => exact ⟨x, _, rfl, by have := AT.told_lv l (lv + 1) x (by rw [hh]; simp); omega⟩
  obtain ⟨x, xt, hx, hlt⟩ := hne;rw [hx] at hL |-;rw [parse, if_neg hlt, hL];simp only [ne_eq, not_true_eq_false, if_false, hR];rw [if_pos ⟨h1, h2⟩]
def cutAt (lv : Int) : List It -> Option (List It × It × List It)
 | [] => none
 | x :: xs => if x.lv < lv then none else if x.lv = lv then (if ∀ y ∈ xs, lv < y.lv then some ([], x, xs) else none) else
  match cutAt lv xs with
  | none => none
  | some (a, y, b) => some (x :: a, y, b)
theorem ZF (lv : Int) : ∀ (xs a b : List It) (y : It), cutAt lv xs = some (a, y, b) -> xs = a ++ y :: b ∧ y.lv = lv ∧ (∀ z ∈ a, lv < z.lv) ∧ (∀ z ∈ b, lv < z.lv)
 | [], a, b, y, h => by simp [cutAt] at h
 | x :: xs, a, b, y, h => by
  rw [cutAt] at h
  split at h
  ·cases h
  ·split at h
   ·split at h
    ·rename_i hx hall
     simp at h; obtain ⟨rfl, rfl, rfl⟩ := h
     exact ⟨rfl, hx, by simp, hall⟩
    ·cases h
   ·split at h
    ·cases h
    ·rename_i hc
     simp at h; obtain ⟨rfl, rfl, rfl⟩ := h;obtain ⟨e, h1, h2, h3⟩ := ZF lv xs _ _ _ hc
     refine ⟨by rw [e]; rfl, h1, fun z hz => ?_, h3⟩
     rcases List.mem_cons.mp hz with rfl | hz
     ·omega
     ·exact h2 z hz
theorem jK (lv : Int) : ∀ (a b : List It) (y : It), y.lv = lv -> (∀ z ∈ a, lv < z.lv) -> (∀ z ∈ b, lv < z.lv) -> cutAt lv (a ++ y :: b) = some (a, y, b)
 | [], b, y, h1, h2, h3 => by
  simp only [List.nil_append, cutAt]
  rw [if_neg (by omega), if_pos h1, if_pos h3]
 | x :: a, b, y, h1, h2, h3 => by
  have := h2 x (by simp)
  simp only [List.cons_append, cutAt]
  rw [if_neg (by omega), if_neg (by omega), jK lv a b y h1 (fun z hz => h2 z (by simp [hz])) h3]
theorem Zo (lv : Int) (xs : List It) (h : ¬ ∃ a y b, xs = a ++ y :: b ∧ y.lv = lv ∧ (∀ z ∈ a, lv < z.lv) ∧ (∀ z ∈ b, lv < z.lv)) : cutAt lv xs = none := by
 cases hc : cutAt lv xs with
 | none => rfl
 | some q => obtain ⟨a, y, b⟩ := q; exact absurd ⟨a, y, b, ZF lv xs a b y hc⟩ h
def shp : Nat -> Int -> List It -> Int
 | 0, _, xs => if xs = [] then 0 else -1
 | f + 1, lv, xs => if xs = [] then 0 else
  match cutAt lv xs with
  | none => -1
  | some (a, _, b) =>
   if shp f (lv + 1) a < 0 then -1 else
   if shp f (lv + 1) b < 0 ∨ shp f (lv + 1) a - shp f (lv + 1) b > 1 ∨ shp f (lv + 1) b - shp f (lv + 1) a > 1 then -1 else
   max (shp f (lv + 1) a) (shp f (lv + 1) b) + 1
theorem YZ : ∀ (f : Nat) (lv : Int) (xs : List It), 0 <= shp f lv xs -> ∃ T : AT, T.bal ∧ xs = T.told lv ∧ (T.ht : Int) = shp f lv xs
 | 0, lv, xs, h => by
  simp only [shp] at h |-
  split at h
  ·rename_i e; rw [if_pos e]; exact ⟨.nil, trivial, by rw [e]; rfl, rfl⟩
  ·omega
 | f + 1, lv, xs, h => by
  simp only [shp] at h |-
  by_cases e : xs = []
  ·rw [if_pos e]; exact ⟨.nil, trivial, by rw [e]; rfl, rfl⟩
  ·rw [if_neg e] at h |-
   cases hc : cutAt lv xs with
   | none => rw [hc] at h; simp at h
   | some q =>
    obtain ⟨a, y, b⟩ := q;rw [hc] at h;simp only at h |-
    split at h
    ·omega
    ·split at h
     ·omega
     ·rename_i h1 h2
      obtain ⟨e1, e2, h3, h4⟩ := ZF lv xs _ _ _ hc
      obtain ⟨L, bL, tL, gL⟩ := YZ f (lv + 1) a (by omega)
      obtain ⟨R, bR, tR, gR⟩ := YZ f (lv + 1) b (by omega)
      refine ⟨.node L y.pc R, ⟨bL, bR, by omega, by omega⟩, ?_, ?_⟩
      ·simp only [AT.told]; rw [e1, <- tL, <- tR]; obtain ⟨p, d⟩ := y; simp at e2; subst e2; rfl
      ·rw [if_neg h1, if_neg h2]; simp only [AT.ht]; omega
theorem jf : ∀ (T : AT) (f : Nat) (lv : Int), T.bal -> T.ht <= f -> shp f lv (T.told lv) = T.ht
 | .nil, f, lv, _, _ => by cases f <;> simp [shp, AT.told, AT.ht]
 | .node l p r, f, lv, hb, hf => by
  simp only [AT.ht] at hf
  obtain ⟨f, rfl⟩ : ∃ g, f = g + 1 := ⟨f - 1, by omega⟩
  obtain ⟨bl, br, h1, h2⟩ := hb
  have hL := jf l f (lv + 1) bl (by omega)
  have hR := jf r f (lv + 1) br (by omega)
  show shp (f + 1) lv (l.told (lv + 1) ++ ⟨p, lv⟩ :: r.told (lv + 1)) = _
  rw [shp, if_neg (by simp), jK lv _ _ _ rfl (fun z hz => by have := AT.told_lv l (lv + 1) z hz; omega) (fun z hz => by have := AT.told_lv r (lv + 1) z hz; omega)]
  simp only [hL, hR, AT.ht]
  rw [if_neg (by omega), if_neg (by omega)]
  omega
def pcOk (p : Pc) : Bool := decide (1 <= p.len ∧ p.len <= 8192 ∧ 0 <= p.off ∧ p.off + p.len <= 220000 ∧ 0 <= p.brk ∧ p.brk <= p.len)
def total : List It -> Int
 | [] => 0
 | x :: xs => x.pc.len + total xs
def brks : List It -> Int
 | [] => 0
 | x :: xs => x.pc.brk + brks xs
theorem zp (a b : List It) : total (a ++ b) = total a + total b := by
 induction a with
 | nil => simp [total]
 | cons x a ih => simp only [List.cons_append, total, ih]; omega
theorem Xx (a b : List It) : brks (a ++ b) = brks a + brks b := by
 induction a with
 | nil => simp [brks]
 | cons x a ih => simp only [List.cons_append, brks, ih]; omega
theorem AT.rns_told : ∀ (T : AT) (d : Int), total (T.told d) = T.rns
 | .nil, d => rfl
 | .node l p r, d => by simp only [told, zp, total, rns_told l, rns_told r, rns]; omega
theorem AT.bks_told : ∀ (T : AT) (d : Int), brks (T.told d) = T.bks
 | .nil, d => rfl
 | .node l p r, d => by simp only [told, Xx, brks, bks_told l, bks_told r, bks]; omega
def okT (xs : List It) : Bool := decide (xs.length <= 8192) && xs.all (fun x => pcOk x.pc) && decide (total xs <= 8192) && decide (0 <= shp 41 0 xs)
theorem yX : ∀ xs : List It, xs.all (fun x => pcOk x.pc) = true -> (xs.length : Int) <= total xs
 | [], _ => by simp [total]
 | x :: xs, h => by
  simp only [List.all_cons, Bool.and_eq_true] at h;have := yX xs h.2;have h1 := h.1;simp only [pcOk, decide_eq_true_eq] at h1;simp only [total, List.length_cons]; omega
def okI (n : Nat) (xs : List It) : Bool := xs.all (fun x => pcOk x.pc && decide (0 <= x.lv ∧ x.lv <= (n : Int) - 1)) && decide (total xs <= 8192)
def readT (xs : List It) : Option AT :=
 if okI xs.length xs = true then
  match parse 8200 0 xs with
  | some (T, []) => some T
  | _ => none
 else none
theorem yk {xs : List It} {T : AT} (h : readT xs = some T) : okT xs = true ∧ T.bal ∧ xs = T.told 0 ∧ xs.length <= 8192 := by
 unfold readT at h
 split at h
 ·rename_i hI
  split at h
  ·rename_i T' hp
   simp at h; subst h;obtain ⟨e, hb⟩ := yW _ _ _ _ _ hp;simp only [List.append_nil] at e;simp only [okI, Bool.and_eq_true, decide_eq_true_eq] at hI
   have hall : xs.all (fun x => pcOk x.pc) = true := by
    rw [List.all_eq_true] at hI |-;intro x hx; have := hI.1 x hx; simp only [Bool.and_eq_true] at this; exact this.1
   have hlen := yX xs hall
   have hl : xs.length <= 8192 := by omega
   refine ⟨?_, hb, e, hl⟩
   have hits : T'.its = xs.length := by rw [e, AT.told_length]
   have hlow := AT.bal_low T' hb (by omega)
   have hs := jf T' 41 0 hb (by omega)
   rw [<- e] at hs;simp only [okT, Bool.and_eq_true, decide_eq_true_eq]
   exact ⟨⟨⟨hl, hall⟩, hI.2⟩, by omega⟩
  ·cases h
 ·cases h
theorem Xy {xs : List It} (h : okT xs = true) : ∃ T, readT xs = some T := by
 simp only [okT, Bool.and_eq_true, decide_eq_true_eq] at h;obtain ⟨⟨⟨hl, hall⟩, htot⟩, hs⟩ := h;obtain ⟨T, hb, e, hh⟩ := YZ _ _ _ hs
 have hits : T.its = xs.length := by rw [e, AT.told_length]
 have hlow := AT.bal_low T hb (by omega)
 have hp := yb T 8200 0 [] hb (by omega) (fun y yt h => by cases h)
 rw [List.append_nil, <- e] at hp;refine ⟨T, ?_⟩;unfold readT;rw [if_pos, hp];simp only [okI, Bool.and_eq_true, decide_eq_true_eq];refine ⟨?_, htot⟩;rw [List.all_eq_true] at hall |-;intro x hx;have h1 := hall x hx
 have h2 := AT.told_lv T 0 x (by rw [<- e]; exact hx)
 have h3 := AT.ht_its T;simp only [Bool.and_eq_true, decide_eq_true_eq]
 exact ⟨h1, by omega, by omega⟩
theorem zA4 {xs : List It} (h : readT xs = none) : okT xs = false := by
 cases hk : okT xs with
 | false => rfl
 | true => obtain ⟨T, hT⟩ := Xy hk; rw [h] at hT; cases hT
end Go.Proofs.YtbgngikejgihgafGreatDoor
namespace Go.Proofs.YtbgngikejgihgafGreatDoor
open Go Go.RowKit
set_option linter.unusedVariables false
set_option maxRecDepth 100000
set_option maxHeartbeats 8000000
def ndC (p : Pc) (l r : Option Addr) (h i n k : Int) : Array Value :=
 #[.int .i64 p.off, .int .i64 p.len, .int .i64 p.brk, .pointer l, .pointer r, .int .i64 h, .int .i64 i, .int .i64 n, .int .i64 k]
def Nd (w : World) (b : Nat) (p : Pc) (l r : Option Addr) (h i n k : Int) : Prop :=
 w.heap[b]? = some (.cells (ndC p l r h i n k) 202 (0, 0))
def Lies (w : World) (base : Nat) : AT -> Option Addr -> List Nat -> Prop
 | .nil, u, bs => u = none ∧ bs = []
 | .node l p r, u, bs => ∃ b ul ur bl br, u = some ⟨b, 0, none⟩ ∧ base <= b ∧ Nd w b p ul ur (1 + max (l.ht : Int) r.ht) (l.its + 1 + r.its) (l.rns + p.len + r.rns) (l.bks + p.brk + r.bks) ∧
   Lies w base l ul bl ∧ Lies w base r ur br ∧ bs = b :: (bl ++ br)
theorem Nd.lt {w : World} {b : Nat} {p : Pc} {l r : Option Addr} {h i n k : Int} (hn : Nd w b p l r h i n k) : b < w.heap.size := by
 rcases Nat.lt_or_ge b w.heap.size with h' | h'
 ·exact h'
 ·unfold Nd at hn; rw [Array.getElem?_eq_none h'] at hn; cases hn
theorem Nd.c0 {w : World} {b : Nat} {p : Pc} {l r : Option Addr} {h i n k : Int} (hn : Nd w b p l r h i n k) : w.cell? ⟨b, 0, none⟩ = some (.int .i64 p.off) := by rw [cell_of_row w b 0 _ _ _ hn]; rfl
theorem Nd.c1 {w : World} {b : Nat} {p : Pc} {l r : Option Addr} {h i n k : Int} (hn : Nd w b p l r h i n k) : w.cell? ⟨b, 1, none⟩ = some (.int .i64 p.len) := by rw [cell_of_row w b 1 _ _ _ hn]; rfl
theorem Nd.c2 {w : World} {b : Nat} {p : Pc} {l r : Option Addr} {h i n k : Int} (hn : Nd w b p l r h i n k) : w.cell? ⟨b, 2, none⟩ = some (.int .i64 p.brk) := by rw [cell_of_row w b 2 _ _ _ hn]; rfl
theorem Nd.c3 {w : World} {b : Nat} {p : Pc} {l r : Option Addr} {h i n k : Int} (hn : Nd w b p l r h i n k) : w.cell? ⟨b, 3, none⟩ = some (.pointer l) := by rw [cell_of_row w b 3 _ _ _ hn]; rfl
theorem Nd.c4 {w : World} {b : Nat} {p : Pc} {l r : Option Addr} {h i n k : Int} (hn : Nd w b p l r h i n k) : w.cell? ⟨b, 4, none⟩ = some (.pointer r) := by rw [cell_of_row w b 4 _ _ _ hn]; rfl
theorem Nd.c5 {w : World} {b : Nat} {p : Pc} {l r : Option Addr} {h i n k : Int} (hn : Nd w b p l r h i n k) : w.cell? ⟨b, 5, none⟩ = some (.int .i64 h) := by rw [cell_of_row w b 5 _ _ _ hn]; rfl
theorem Nd.c6 {w : World} {b : Nat} {p : Pc} {l r : Option Addr} {h i n k : Int} (hn : Nd w b p l r h i n k) : w.cell? ⟨b, 6, none⟩ = some (.int .i64 i) := by rw [cell_of_row w b 6 _ _ _ hn]; rfl
theorem Nd.c7 {w : World} {b : Nat} {p : Pc} {l r : Option Addr} {h i n k : Int} (hn : Nd w b p l r h i n k) : w.cell? ⟨b, 7, none⟩ = some (.int .i64 n) := by rw [cell_of_row w b 7 _ _ _ hn]; rfl
theorem Nd.c8 {w : World} {b : Nat} {p : Pc} {l r : Option Addr} {h i n k : Int} (hn : Nd w b p l r h i n k) : w.cell? ⟨b, 8, none⟩ = some (.int .i64 k) := by rw [cell_of_row w b 8 _ _ _ hn]; rfl
theorem Nd.fz {w : World} {b : Nat} {p : Pc} {l r : Option Addr} {h i n k : Int} (hn : Nd w b p l r h i n k) (j : Nat) : w.frozen? ⟨b, j, none⟩ = false := frozen_of_row w b j _ _ hn
theorem Lies.frame {w w' : World} {base : Nat} : ∀ {T : AT} {u : Option Addr} {bs : List Nat}, Lies w base T u bs -> (∀ b ∈ bs, w'.heap[b]? = w.heap[b]?) -> Lies w' base T u bs
 | .nil, u, bs, h, _ => h
 | .node l p r, u, bs, ⟨b, ul, ur, bl, br, h1, h2, h3, h4, h5, h6⟩, hf => by
  subst h6
  refine ⟨b, ul, ur, bl, br, h1, h2, ?_, h4.frame (fun k hk => hf k (by simp [hk])), h5.frame (fun k hk => hf k (by simp [hk])), rfl⟩
  unfold Nd at h3 |-; rw [hf b (by simp)]; exact h3
theorem Lies.lt {w : World} {base : Nat} : ∀ {T : AT} {u : Option Addr} {bs : List Nat}, Lies w base T u bs -> ∀ b ∈ bs, base <= b ∧ b < w.heap.size
 | .nil, u, bs, h, b, hb => by rw [h.2] at hb; cases hb
 | .node l p r, u, bs, ⟨b, ul, ur, bl, br, h1, h2, h3, h4, h5, h6⟩, k, hk => by
  subst h6;simp only [List.mem_cons, List.mem_append] at hk
  rcases hk with rfl | hk | hk
  ·exact ⟨h2, h3.lt⟩
  ·exact h4.lt k hk
  ·exact h5.lt k hk
theorem Lies.below {w w' : World} {base B : Nat} {T : AT} {u : Option Addr} {bs : List Nat} (h : Lies w base T u bs) (hb : Below B w w') (hB : w.heap.size <= B) : Lies w' base T u bs :=
 h.frame fun b hbs => hb.block b (Nat.lt_of_lt_of_le (h.lt b hbs).2 hB)
theorem Lies.base {w : World} {base base' : Nat} (hle : base' <= base) : ∀ {T : AT} {u : Option Addr} {bs : List Nat}, Lies w base T u bs -> Lies w base' T u bs
 | .nil, u, bs, h => h
 | .node l p r, u, bs, ⟨b, ul, ur, bl, br, h1, h2, h3, h4, h5, h6⟩ => ⟨b, ul, ur, bl, br, h1, by omega, h3, h4.base hle, h5.base hle, h6⟩
theorem jU (T : AT) (u : Option Addr) (bs : List Nat) (base : Nat) (w : World) (h : Lies w base T u bs) :
  Calls Tryz.prog 140 #[.pointer u] w fun e w' => e = .returned (.int .i64 T.ht) ∧ w' = w := by
 cases T with
 | nil =>
  obtain ⟨rfl, rfl⟩ := h;go_enter Tryz.func140, Tryz.ntmps140;go_wp2;go_ret;exact ⟨rfl, rfl⟩
 | node l p r =>
  obtain ⟨b, ul, ur, bl, br, rfl, h2, h3, h4, h5, h6⟩ := h;have c5 := h3.c5;have hlt := h3.lt
  have e : (((AT.node l p r).ht : Nat) : Int) = 1 + max (l.ht : Int) r.ht := by simp only [AT.ht]; omega
  rw [e];clear h3 h4 h5 h6 e;generalize 1 + max (l.ht : Int) r.ht = hh at *;go_enter Tryz.func140, Tryz.ntmps140;go_wp2;go_ret;exact ⟨rfl, rfl⟩
def cnt (i n k : Int) : Value := .agg #[.int .i64 i, .int .i64 n, .int .i64 k]
def pcV (p : Pc) : Value := .agg #[.int .i64 p.off, .int .i64 p.len, .int .i64 p.brk]
theorem allN (T : AT) (u : Option Addr) (bs : List Nat) (base : Nat) (w : World) (h : Lies w base T u bs) :
  Calls Tryz.prog 94 #[.pointer u] w fun e w' => e = .returned (cnt T.its T.rns T.bks) ∧ Below w.heap.size w w' := by
 cases T with
 | nil =>
  obtain ⟨rfl, rfl⟩ := h;go_enter Tryz.func94, Tryz.ntmps94;go_wp2
  refine bodyPost_ret (v := cnt _ _ _) (by simp [results, Tryz.results94, go_sem]; rfl) rfl ⟨rfl, ?_⟩
  exact (Below.refl _ _).alloc lR _
 | node l p r =>
  obtain ⟨b, ul, ur, bl, br, rfl, h2, h3, h4, h5, h6⟩ := h;have c6 := h3.c6;have c7 := h3.c7;have c8 := h3.c8;have hlt := h3.lt;go_enter Tryz.func94, Tryz.ntmps94;go_wp2
  refine bodyPost_ret (v := cnt _ _ _) (by simp [results, Tryz.results94, go_sem]; rfl) rfl ⟨rfl, ?_⟩
  exact (Below.refl _ _).alloc lR _
theorem pRunes (p : Pc) (w : World) : Calls Tryz.prog 210 #[pcV p] w fun e w' => e = .returned (.int .i64 p.len) ∧ Below w.heap.size w w' := by
 unfold pcV;go_enter Tryz.func210, Tryz.ntmps210;go_wp2;go_ret;exact ⟨rfl, (Below.refl _ _).alloc lR _⟩
theorem pBreaks (p : Pc) (w : World) : Calls Tryz.prog 209 #[pcV p] w fun e w' => e = .returned (.int .i64 p.brk) ∧ Below w.heap.size w w' := by
 unfold pcV;go_enter Tryz.func209, Tryz.ntmps209;go_wp2;go_ret;exact ⟨rfl, (Below.refl _ _).alloc lR _⟩
theorem plusN (i n k i' n' k' : Int) (w : World) (h1 : -1000000 <= i ∧ i <= 1000000) (h2 : -1000000 <= n ∧ n <= 1000000) (h3 : -1000000 <= k ∧ k <= 1000000)
  (g1 : -1000000 <= i' ∧ i' <= 1000000) (g2 : -1000000 <= n' ∧ n' <= 1000000) (g3 : -1000000 <= k' ∧ k' <= 1000000) :
  Calls Tryz.prog 141 #[cnt i n k, cnt i' n' k'] w fun e w' => e = .returned (cnt (i + i') (n + n') (k + k')) ∧ Below w.heap.size w w' := by
 unfold cnt;go_enter Tryz.func141, Tryz.ntmps141;go_wp2
 refine bodyPost_ret (v := cnt _ _ _) (by simp [results, Tryz.results141, go_sem]; rfl) rfl ⟨rfl, ?_⟩
 exact (((Below.refl _ _).alloc lR _).alloc (by simp) _).alloc (by simp; omega) _
theorem Tryz.methodRunes (x y z : Value) (w : World) : (Go.method 381 87 (.agg #[x, y, z]) "loop.example/s01685/impl.runes").run Tryz.prog w = .ok (210, .agg #[x, y, z]) w := by kernel_rfl
theorem Tryz.methodBreaks (x y z : Value) (w : World) : (Go.method 381 87 (.agg #[x, y, z]) "loop.example/s01685/impl.breaks").run Tryz.prog w = .ok (209, .agg #[x, y, z]) w := by kernel_rfl
theorem ownN (p : Pc) (b : Nat) (l r : Option Addr) (h i n k : Int) (w : World) (hn : Nd w b p l r h i n k) :
  Calls Tryz.prog 142 #[.pointer (some ⟨b, 0, none⟩)] w fun e w' => e = .returned (cnt 1 p.len p.brk) ∧ Below w.heap.size w w' := by
 have c0 := hn.c0;have c1 := hn.c1;have c2 := hn.c2;have hlt := hn.lt;go_enter Tryz.func142, Tryz.ntmps142
 go_upto_region 1 with fail
 have HB0 := hide ((Below.refl w.heap.size w).alloc lR (.cells #[.int .i64 0, .int .i64 0, .int .i64 0] 159));have hk : (w.alloc (.cells #[.int .i64 0, .int .i64 0, .int .i64 0] 159)).heap[w.heap.size]? = some (.cells #[.int .i64 0, .int .i64 0, .int .i64 0] 159 (0, 0)) := heap_alloc_new _ _
 have hl0 : w.heap.size < (w.alloc (.cells #[.int .i64 0, .int .i64 0, .int .i64 0] 159)).heap.size := by simp
 generalize w.alloc (.cells #[.int .i64 0, .int .i64 0, .int .i64 0] 159) = w0 at *;have a0 := (HB0.out.cell (p := ⟨b, 0, none⟩) hlt).trans c0;have a1 := (HB0.out.cell (p := ⟨b, 1, none⟩) hlt).trans c1;have a2 := (HB0.out.cell (p := ⟨b, 2, none⟩) hlt).trans c2
 have hlt0 : b < w0.heap.size := by omega
 have HK := hide hk;clear c0 c1 c2 hn hk;have mR := Tryz.methodRunes;have mB := Tryz.methodBreaks
 go_region_with (first
  | (go_at_call 210; refine (pRunes p _).mono ?_; rintro e w1 ⟨rfl, hb1⟩; have B1 := hide (show Below w0.heap.size w0 w1 from ⟨hb1.os, hb1.tape, hb1.output, hb1.size, hb1.block⟩); have d0 := (B1.out.cell (p := ⟨b, 0, none⟩) hlt0).trans a0; have d1 := (B1.out.cell (p := ⟨b, 1, none⟩) hlt0).trans a1; have d2 := (B1.out.cell (p := ⟨b, 2, none⟩) hlt0).trans a2; clear hb1)
  | (go_at_call 209; refine (pBreaks p _).mono ?_; rintro e w2 ⟨rfl, hb2⟩; have B2 := hide (B1.out.trans ((show Below w1.heap.size w1 w2 from ⟨hb2.os, hb2.tape, hb2.output, hb2.size, hb2.block⟩).mono B1.out.size)); have hk2 := (B2.out.block _ hl0).trans HK.out; have k0 : w2.cell? ⟨w.heap.size, 0, none⟩ = some (.int .i64 0) := (by rw [cell_of_row w2 _ 0 _ _ _ hk2]; rfl); have k1 : w2.cell? ⟨w.heap.size, 1, none⟩ = some (.int .i64 0) := (by rw [cell_of_row w2 _ 1 _ _ _ hk2]; rfl); have k2 : w2.cell? ⟨w.heap.size, 2, none⟩ = some (.int .i64 0) := (by rw [cell_of_row w2 _ 2 _ _ _ hk2]; rfl); have f0 := frozen_of_row w2 w.heap.size 0 _ _ hk2; have f1 := frozen_of_row w2 w.heap.size 1 _ _ hk2; have f2 := frozen_of_row w2 w.heap.size 2 _ _ hk2; clear hb2 hk2))
 all_goals (go_wp2_with fail; refine bodyPost_ret (v := cnt _ _ _) (by simp [results, Tryz.results142, go_sem, k0, k1, k2]; rfl) rfl ⟨rfl, (((HB0.out.trans (B2.out.mono (Nat.le_of_lt hl0))).setCell lR _).setCell lR _).setCell lR _⟩)
end Go.Proofs.YtbgngikejgihgafGreatDoor
