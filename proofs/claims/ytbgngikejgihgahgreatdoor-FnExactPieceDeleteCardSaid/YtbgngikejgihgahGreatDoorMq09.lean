import Derived.Test.YtbgngikejgihgahGreatDoorMq08
import Derived.Test.YtbgngikejgihgahGreatDoorMq05
import Derived.WalkLawsBesides
import Derived.Test.YtbgngikejgihgahGreatDoorMq03
namespace Go.Proofs.YtbgngikejgihgahGreatDoor
set_option linter.unusedVariables false

theorem adj_turnR (f : Nat → Int) (A B : List It) (a b r : AT) (q p : Pc) (e : Int) (h1 : ∀ j, j < A.length → f j = 0) (h2 : ∀ j, A.length ≤ j → j < A.length + a.its + 1 → f j = -1) (h3 : ∀ j, A.length + a.its + 1 ≤ j → j < A.length + a.its + 1 + b.its → f j = 0) (h4 : ∀ j, A.length + a.its + 1 + b.its ≤ j → j < A.length + a.its + 1 + b.its + 1 + r.its → f j = 1) (h5 : ∀ j, A.length + a.its + 1 + b.its + 1 + r.its ≤ j → f j = 0) :
    adj f 0 (A ++ (AT.node (.node a q b) p r).told e ++ B) = A ++ (AT.node a q (.node b p r)).told e ++ B := by
  simp only [AT.told, List.append_assoc, List.cons_append]
  have la := AT.told_length a (e + 1 + 1)
  have lb := AT.told_length b (e + 1 + 1)
  have lr := AT.told_length r (e + 1)
  rw [adj_append, adj_same f 0 A (fun j g1 g2 => h1 j (by omega)), adj_append]
  rw [adj_told f (-1) a (0 + A.length) (e + 1 + 1) (fun j g1 g2 => h2 j (by omega) (by omega))]
  simp only [adj]
  rw [adj_append, adj_told f 0 b _ (e + 1 + 1) (fun j g1 g2 => h3 j (by omega) (by omega))]
  simp only [adj]
  rw [adj_append, adj_told f 1 r _ (e + 1) (fun j g1 g2 => h4 j (by omega) (by omega)), adj_same f _ B (fun j g1 g2 => h5 j (by omega))]
  rw [h2 _ (by omega) (by omega), h4 _ (by omega) (by omega)]
  rw [show e + 1 + 1 + -1 = e + 1 by omega, show e + 1 + -1 = e by omega, show e + 1 + 1 + 0 = e + 1 + 1 by omega]
theorem adj_turnL (f : Nat → Int) (A B : List It) (l b c : AT) (q p : Pc) (e : Int) (h1 : ∀ j, j < A.length → f j = 0) (h2 : ∀ j, A.length ≤ j → j < A.length + l.its + 1 → f j = 1) (h3 : ∀ j, A.length + l.its + 1 ≤ j → j < A.length + l.its + 1 + b.its → f j = 0) (h4 : ∀ j, A.length + l.its + 1 + b.its ≤ j → j < A.length + l.its + 1 + b.its + 1 + c.its → f j = -1) (h5 : ∀ j, A.length + l.its + 1 + b.its + 1 + c.its ≤ j → f j = 0) :
    adj f 0 (A ++ (AT.node l p (.node b q c)).told e ++ B) = A ++ (AT.node (.node l p b) q c).told e ++ B := by
  simp only [AT.told, List.append_assoc, List.cons_append]
  have la := AT.told_length l (e + 1)
  have lb := AT.told_length b (e + 1 + 1)
  have lr := AT.told_length c (e + 1 + 1)
  rw [adj_append, adj_same f 0 A (fun j g1 g2 => h1 j (by omega)), adj_append]
  rw [adj_told f 1 l (0 + A.length) (e + 1) (fun j g1 g2 => h2 j (by omega) (by omega))]
  simp only [adj]
  rw [adj_append, adj_told f 0 b _ (e + 1 + 1) (fun j g1 g2 => h3 j (by omega) (by omega))]
  simp only [adj]
  rw [adj_append, adj_told f (-1) c _ (e + 1 + 1) (fun j g1 g2 => h4 j (by omega) (by omega)), adj_same f _ B (fun j g1 g2 => h5 j (by omega))]
  rw [h2 _ (by omega) (by omega), h4 _ (by omega) (by omega)]
  rw [show e + 1 + 1 + -1 = e + 1 by omega, show e + 1 + -1 = e by omega, show e + 1 + 1 + 0 = e + 1 + 1 by omega]

theorem adj_set {f : Nat → Int} {X : List It} {j : Nat} {x : It} (hx : X[j]? = some x) (v : Int) : (adj f 0 X).set j ⟨x.pc, v⟩ = adj (fun t => if t = j then v - x.lv else f t) 0 X := by
  apply List.ext_getElem?
  intro i
  rw [List.getElem?_set, adj_get, adj_get]
  have hj : j < X.length := by
    rcases Nat.lt_or_ge j X.length with g | g
    · exact g
    · rw [List.getElem?_eq_none g] at hx; cases hx
  simp only [Nat.zero_add]
  by_cases h : j = i
  · subst h
    rw [if_pos rfl, if_pos (by rw [adj_length]; exact hj), hx]
    simp only [if_true, Option.map_some]
    rw [show x.lv + (v - x.lv) = v by omega]
  · rw [if_neg h, if_neg (fun e => h e.symm)]

/-- What a turn of the item i does to the levels from lo on to before hi, up to k: y is the child that comes up. -/
def trn (right : Bool) (i y lo k : Nat) (j : Nat) : Int :=
  if lo ≤ j ∧ j < k then (if right then (if j < y then -1 else if i < j then 1 else 0) else (if y < j then -1 else if j < i then 1 else 0)) else 0
theorem trn_start (right : Bool) (i y lo : Nat) (X : List It) : adj (trn right i y lo lo) 0 X = X :=
  adj_same _ 0 X (fun j _ _ => by unfold trn; rw [if_neg (by omega)])
theorem trn_step {right : Bool} {i y lo k : Nat} {X : List It} {x : It} (hx : X[k]? = some x) (hlo : lo ≤ k) : adj (trn right i y lo (k + 1)) 0 X = (adj (trn right i y lo k) 0 X).set k ⟨x.pc, x.lv + (if right then (if k < y then -1 else if i < k then 1 else 0) else (if y < k then -1 else if k < i then 1 else 0))⟩ := by
  rw [adj_set hx]
  refine adj_congr 0 X (fun j _ _ => ?_)
  by_cases h : j = k
  · subst h
    rw [if_pos rfl]; unfold trn; rw [if_pos (by omega)]; omega
  · rw [if_neg h]; unfold trn
    by_cases h2 : lo ≤ j ∧ j < k
    · rw [if_pos h2, if_pos (by omega)]
    · rw [if_neg h2, if_neg (by omega)]
theorem trn_get {right : Bool} {i y lo k : Nat} {X : List It} {x : It} {j : Nat} (hx : X[j]? = some x) : (adj (trn right i y lo k) 0 X)[j]? = some ⟨x.pc, x.lv + trn right i y lo k j⟩ := by
  rw [adj_get, hx]; simp

/-- The whole turn. -/
theorem turn_right (A B : List It) (a b r : AT) (q p : Pc) (e : Int) : ((adj (trn true (A.length + a.its + 1 + b.its) (A.length + a.its) A.length (A.length + a.its + 1 + b.its + 1 + r.its)) 0 (A ++ (AT.node (.node a q b) p r).told e ++ B)).set (A.length + a.its) ⟨q, e⟩).set (A.length + a.its + 1 + b.its) ⟨p, e + 1⟩ = A ++ (AT.node a q (.node b p r)).told e ++ B := by
  have g1 : (A ++ (AT.node (.node a q b) p r).told e ++ B)[A.length + a.its]? = some ⟨q, e + 1⟩ := by
    rw [get_mid A _ B _ (by omega) (by rw [AT.told_length]; simp only [AT.its]; omega)]
    simp only [AT.told, List.append_assoc, List.cons_append]
    rw [List.getElem?_append_right (by rw [AT.told_length]; omega), AT.told_length]
    simp
  have g2 : (A ++ (AT.node (.node a q b) p r).told e ++ B)[A.length + a.its + 1 + b.its]? = some ⟨p, e⟩ := by
    rw [get_mid A _ B _ (by omega) (by rw [AT.told_length]; simp only [AT.its]; omega)]
    rw [AT.told, List.getElem?_append_right (by rw [AT.told_length]; simp only [AT.its]; omega), AT.told_length]
    simp only [AT.its]
    rw [show A.length + a.its + 1 + b.its - A.length - (a.its + 1 + b.its) = 0 by omega]; rfl
  rw [adj_set g1, adj_set g2]
  refine adj_turnR _ A B a b r q p e ?_ ?_ ?_ ?_ ?_
  all_goals
    intros
    simp only [trn, if_true]
    repeat (first | omega | split)
theorem turn_left (A B : List It) (l b c : AT) (q p : Pc) (e : Int) : ((adj (trn false (A.length + l.its) (A.length + l.its + 1 + b.its) A.length (A.length + l.its + 1 + b.its + 1 + c.its)) 0 (A ++ (AT.node l p (.node b q c)).told e ++ B)).set (A.length + l.its + 1 + b.its) ⟨q, e⟩).set (A.length + l.its) ⟨p, e + 1⟩ = A ++ (AT.node (.node l p b) q c).told e ++ B := by
  have g2 : (A ++ (AT.node l p (.node b q c)).told e ++ B)[A.length + l.its]? = some ⟨p, e⟩ := by
    rw [get_mid A _ B _ (by omega) (by rw [AT.told_length]; simp only [AT.its]; omega)]
    rw [AT.told, List.getElem?_append_right (by rw [AT.told_length]; omega), AT.told_length]
    rw [show A.length + l.its - A.length - l.its = 0 by omega]; rfl
  have g1 : (A ++ (AT.node l p (.node b q c)).told e ++ B)[A.length + l.its + 1 + b.its]? = some ⟨q, e + 1⟩ := by
    rw [get_mid A _ B _ (by omega) (by rw [AT.told_length]; simp only [AT.its]; omega)]
    simp only [AT.told]
    rw [List.getElem?_append_right (by rw [AT.told_length]; omega), AT.told_length]
    rw [show A.length + l.its + 1 + b.its - A.length - l.its = b.its + 1 by omega, List.getElem?_cons_succ, List.getElem?_append_right (by rw [AT.told_length]; omega), AT.told_length]
    simp
  rw [adj_set g1, adj_set g2]
  refine adj_turnL _ A B l b c q p e ?_ ?_ ?_ ?_ ?_
  all_goals
    intros
    simp only [trn, Bool.false_eq_true, if_false]
    repeat (first | omega | split)
end Go.Proofs.YtbgngikejgihgahGreatDoor

namespace Go.Proofs.YtbgngikejgihgahGreatDoor
open Go Go.RowKit
set_option linter.unusedVariables false

def itV (x : It) : List Value := [.int .i64 x.pc.off, .int .i64 x.pc.len, .int .i64 x.pc.brk, .int .i64 x.lv]
def itVs (xs : List It) : List Value := xs.flatMap itV
theorem itVs_length (xs : List It) : (itVs xs).length = xs.length * 4 := by
  induction xs with
  | nil => rfl
  | cons x xs ih => simp only [itVs, List.flatMap_cons, List.length_append] at ih ⊢; rw [ih]; simp [itV]; omega
theorem itVs_append (a b : List It) : itVs (a ++ b) = itVs a ++ itVs b := by simp [itVs]
theorem itVs_get (xs : List It) (i k : Nat) (x : It) (h : xs[i]? = some x) (hk : k < 4) : (itVs xs)[i * 4 + k]? = (itV x)[k]? := by
  induction xs generalizing i with
  | nil => simp at h
  | cons y ys ih =>
    cases i with
    | zero =>
      simp at h; subst h
      simp only [itVs, List.flatMap_cons, Nat.zero_mul, Nat.zero_add]
      rw [List.getElem?_append_left (by simp [itV]; omega)]
    | succ i =>
      simp only [List.getElem?_cons_succ] at h
      have := ih i h
      simp only [itVs, List.flatMap_cons] at this ⊢
      rw [List.getElem?_append_right (by simp [itV]; omega)]
      rw [← this]
      congr 1
      simp [itV]; omega

theorem itVs_set (a : List It) (y x : It) (b : List It) : ((((itVs (a ++ y :: b)).set (a.length * 4) (.int .i64 x.pc.off)).set (a.length * 4 + 1) (.int .i64 x.pc.len)).set (a.length * 4 + 2) (.int .i64 x.pc.brk)).set (a.length * 4 + 3) (.int .i64 x.lv) = itVs (a ++ x :: b) := by
  have e : ∀ z : It, itVs (a ++ z :: b) = itVs a ++ ([.int .i64 z.pc.off, .int .i64 z.pc.len, .int .i64 z.pc.brk, .int .i64 z.lv] ++ itVs b) := fun z => by simp [itVs, itV]
  have hl := itVs_length a
  rw [e, e]
  rw [List.set_append_right _ _ (by omega), List.set_append_right _ _ (by omega), List.set_append_right _ _ (by omega), List.set_append_right _ _ (by omega), hl]
  rw [Nat.sub_self, show a.length * 4 + 1 - a.length * 4 = 1 by omega, show a.length * 4 + 2 - a.length * 4 = 2 by omega, show a.length * 4 + 3 - a.length * 4 = 3 by omega]
  rfl

/-- The call's own items. -/
def OwI (w : World) (base : Nat) (v : Value) (xs : List It) : Prop := w.ownsRow base 132 4 v xs.length (itVs xs)

theorem OwI.rd {w : World} {base : Nat} {v : Value} {xs : List It} (h : OwI w base v xs) : RdI w.heap.size w v xs := by
  unfold OwI at h
  have hlt := h.lt
  rcases h.2 with ⟨hv, hn⟩ | ⟨g, cap, cur, hv, hrest⟩
  · left; exact ⟨none, 0, by rw [hv], by apply List.eq_nil_of_length_eq_zero; omega⟩
  · obtain ⟨hb, hg, hcap, hcm, hsz, htk⟩ := hrest
    subst hv
    have hgl := (hlt g rfl).2
    by_cases h0 : xs.length = 0
    · left; rw [h0]; exact ⟨_, _, rfl, by apply List.eq_nil_of_length_eq_zero; exact h0⟩
    · right
      refine ⟨g, 0, cap, rfl, ⟨by omega, hcap, hcm⟩, hgl, fun i x hx => ?_⟩
      have hil : i < xs.length := by
        rcases Nat.lt_or_ge i xs.length with q | q
        · exact q
        · rw [List.getElem?_eq_none q] at hx; cases hx
      have key : ∀ k, k < 4 → w.cell? ⟨g, i * 4 + k, none⟩ = (itV x)[k]? := fun k hk => by
        rw [cell_of_row w g _ _ _ _ hg, ← itVs_get xs i k x hx hk, ← htk, List.getElem?_take, if_pos (by omega)]
        simp
      have k0 := key 0 (by omega)
      have k1 := key 1 (by omega)
      have k2 := key 2 (by omega)
      have k3 := key 3 (by omega)
      simp only [Nat.zero_add]
      exact ⟨k0, k1, k2, k3⟩
theorem OwI.below {w w' : World} {base B : Nat} {v : Value} {xs : List It} (h : OwI w base v xs) (hb : Below B w w') (hB : w.heap.size ≤ B) : OwI w' base v xs := owns_below h hb hB
theorem OwI.base {w : World} {base base' : Nat} {v : Value} {xs : List It} (h : OwI w base v xs) (hb : base' ≤ base) : OwI w base' v xs := owns_base h hb

def itA (x : It) : Value := .agg #[.int .i64 x.pc.off, .int .i64 x.pc.len, .int .i64 x.pc.brk, .int .i64 x.lv]

theorem itAt_of' {w : World} {b off : Nat} {xs : List It} (h : ∀ i x, xs[i]? = some x → ItAt w b (off + i * 4) x) {j : Nat} (hj : j < xs.length) : ∃ x, xs[j]? = some x ∧ ItAt w b (off + j * 4) x :=
  ⟨xs[j], by simp [hj], h j _ (by simp [hj])⟩
theorem own_cell4 {w : World} {base g cap n : Nat} {xs : List Value} (h : w.ownsRow base 132 4 (.slice (some ⟨g, 0, none⟩) n cap) n xs) (j : Nat) (hj : j < n * 4) : ∃ v, w.cell? ⟨g, j, none⟩ = some v := by
  have h1 := h.cellAt j hj
  have hl := h.1
  refine ⟨xs[j]'(by omega), ?_⟩
  rw [h1, List.getElem?_eq_getElem (by omega)]

theorem Tryz.infoIT : (Tryz.prog.info? 132).map (fun i => (i.zero, i.size, i.bytes)) = some (some (.agg #[.int .i64 0, .int .i64 0, .int .i64 0, .int .i64 0]), 4, 32) := by kernel_rfl
def zIt : It := ⟨⟨0, 0, 0⟩, 0⟩
theorem made_its (n : Nat) : (madeCells (Value.agg #[.int .i64 0, .int .i64 0, .int .i64 0, .int .i64 0]).cells (n * 4)).toList = itVs (List.replicate n zIt) := by
  have h1 : itVs (List.replicate n zIt) = List.replicate (n * 4) (.int .i64 0) := by
    rw [List.eq_replicate_iff]
    refine ⟨by rw [itVs_length]; simp, fun v hv => ?_⟩
    simp only [itVs, List.mem_flatMap, List.mem_replicate] at hv
    obtain ⟨x, ⟨_, rfl⟩, hv⟩ := hv
    simpa [itV, zIt] using hv
  rw [h1, List.eq_replicate_iff]
  refine ⟨by simp [size_madeCells], fun v hv => ?_⟩
  simp only [madeCells, Array.toList_map, List.mem_map] at hv
  obtain ⟨i, _, rfl⟩ := hv
  have e : (Value.agg #[.int .i64 0, .int .i64 0, .int .i64 0, .int .i64 0]).cells = #[Value.int .i64 0, .int .i64 0, .int .i64 0, .int .i64 0] := rfl
  rw [e]
  have h4 : i % 4 = 0 ∨ i % 4 = 1 ∨ i % 4 = 2 ∨ i % 4 = 3 := by omega
  show (#[Value.int .i64 0, .int .i64 0, .int .i64 0, .int .i64 0])[i % 4]! = _
  rcases h4 with h | h | h | h <;> rw [h] <;> rfl

theorem set_its (xs : List It) (k : Nat) (x : It) (h : xs[k]? = some x) : ((((itVs (xs.take k ++ List.replicate (xs.length - k) zIt)).set (k * 4) (.int .i64 x.pc.off)).set (k * 4 + 1) (.int .i64 x.pc.len)).set (k * 4 + 2) (.int .i64 x.pc.brk)).set (k * 4 + 3) (.int .i64 x.lv) = itVs (xs.take (k + 1) ++ List.replicate (xs.length - (k + 1)) zIt) := by
  have hk : k < xs.length := by
    rcases Nat.lt_or_ge k xs.length with q | q
    · exact q
    · rw [List.getElem?_eq_none q] at h; cases h
  have hl : (xs.take k).length = k := by rw [List.length_take]; omega
  obtain ⟨m, hm⟩ : ∃ m, xs.length - k = m + 1 := ⟨xs.length - k - 1, by omega⟩
  have e := itVs_set (xs.take k) zIt x (List.replicate m zIt)
  rw [hl] at e
  rw [hm, List.replicate_succ, e, List.take_add_one, h, show xs.length - (k + 1) = m by omega]
  simp

end Go.Proofs.YtbgngikejgihgahGreatDoor

namespace Go.Proofs.YtbgngikejgihgahGreatDoor
open Go Go.RowKit
set_option linter.unusedVariables false

theorem OwI.shape {w : World} {base : Nat} {v : Value} {xs : List It} (h : OwI w base v xs) : (v = .slice none 0 0 ∧ xs = []) ∨ ∃ g cap, v = .slice (some ⟨g, 0, none⟩) xs.length cap ∧ xs.length ≤ cap ∧ cap ≤ maxLen ∧ base ≤ g ∧ g < w.heap.size := by
  rcases h.2 with ⟨h1, h2⟩ | ⟨g, cap, cur, h1, h2, h3, h4, h5, _⟩
  · exact .inl ⟨h1, List.eq_nil_of_length_eq_zero h2⟩
  · exact .inr ⟨g, cap, h1, h4, h5, h2, (h.lt g (by rw [h1]; rfl)).2⟩
theorem OwI.cells {w : World} {base g cap : Nat} {xs : List It} (h : OwI w base (.slice (some ⟨g, 0, none⟩) xs.length cap) xs) : ∀ j u, (itVs xs)[j]? = some u → w.cell? ((⟨g, 0, none⟩ : Addr).add j) = some u := by
  intro j u hj
  have h1 := h.cellAt j (by have := (List.getElem?_eq_some_iff.1 hj).1; rw [itVs_length] at this; omega)
  rw [Addr.add_lit, Nat.zero_add, h1, hj]
theorem itVs_one (xs : List It) : ∀ u ∈ itVs xs, u.oneCell' = true := by
  intro u hu
  simp only [itVs, itV, List.mem_flatMap, List.mem_cons, List.not_mem_nil, or_false] at hu
  obtain ⟨x, _, h | h | h | h⟩ := hu <;> subst h <;> rfl

theorem own_row2 {w : World} {base : Nat} {e : TypeId} {size : Nat} {v : Value} {n : Nat} {xs : List Value} (h : w.ownsRow base e size v n xs) : ∀ q, v.ownBlock = some q → base ≤ q := fun q hq => (h.lt q hq).1
theorem own_sl {w : World} {base : Nat} {e : TypeId} {size : Nat} {v : Value} {n : Nat} {xs : List Value} (h : w.ownsRow base e size v n xs) : ∃ ao m cap, v = .slice ao m cap := by
  rcases h.2 with ⟨rfl, _⟩ | ⟨g, cap, cur, rfl, _⟩
  · exact ⟨_, _, _, rfl⟩
  · exact ⟨_, _, _, rfl⟩
theorem own_off2 {w : World} {base b n : Nat} {e t : TypeId} {size : Nat} {v : Value} {xs : List Value} {cs : Array Value} {fz : Nat × Nat} (ho : w.ownsRow base e size v n xs) (hb : w.heap[b]? = some (.cells cs t fz)) (hne : e ≠ t) : some b ≠ v.ownBlock := by
  rcases ho.2 with ⟨rfl, _⟩ | ⟨g', cap', cur, rfl, _, hg, _⟩
  · simp [Value.ownBlock]
  · intro h
    simp only [Value.ownBlock, Option.some.injEq] at h
    subst h
    rw [hb] at hg
    cases hg
    exact hne rfl

end Go.Proofs.YtbgngikejgihgahGreatDoor
