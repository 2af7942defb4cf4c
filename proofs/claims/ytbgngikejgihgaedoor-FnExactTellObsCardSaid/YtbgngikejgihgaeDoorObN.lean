import Derived.Test.YtbgngikejgihgaeDoorObC
namespace Go.Proofs.YtbgngikejgihgaeDoor
open Go Go.RowKit
set_option linter.unusedVariables false

/-- The block of a value lies below a place. -/
def belO (hi : Nat) (v : Value) : Prop := ∀ q, v.ownBlock = some q → q < hi
/-- Rows that lie apart from one another, with their cells. -/
structure NestG (e : TypeId) (size : Nat) (w : World) (lo hi : Nat) (vs : List Value) (cs : List (List Value)) (ns : List Nat) : Prop where
  len : vs.length = cs.length
  len2 : vs.length = ns.length
  own : ∀ (i : Nat) v c n, vs[i]? = some v → cs[i]? = some c → ns[i]? = some n → w.ownsRow lo e size v n c
  bl : ∀ v ∈ vs, belO hi v
  ne : ∀ (i j : Nat) u v q, i ≠ j → vs[i]? = some u → vs[j]? = some v → u.ownBlock = some q → v.ownBlock ≠ some q
section
variable {e : TypeId} {size : Nat} {w w' : World} {lo hi hi' : Nat} {vs : List Value} {cs : List (List Value)} {ns : List Nat} {v : Value} {c : List Value} {n : Nat}
theorem NestG.nil : NestG e size w lo hi [] [] [] := ⟨rfl, rfl, fun i v c n h => by simp at h, fun v h => by simp at h, fun i j u v q _ h => by simp at h⟩
theorem NestG.frame (h : NestG e size w lo hi vs cs ns) (hf : ∀ q, lo ≤ q → q < hi → w'.heap[q]? = w.heap[q]?) : NestG e size w' lo hi vs cs ns :=
  ⟨h.len, h.len2, fun i v c n hv hc hn => owns_of_block (h.own i v c n hv hc hn) (fun q hq => hf q ((h.own i v c n hv hc hn).lt q hq).1 (h.bl v (List.mem_of_getElem? hv) q hq)), h.bl, h.ne⟩
theorem NestG.snoc (h : NestG e size w lo hi vs cs ns) (ho : w.ownsRow lo e size v n c) (hq : ∀ q, v.ownBlock = some q → hi ≤ q ∧ q < hi') (hh : hi ≤ hi') : NestG e size w lo hi' (vs ++ [v]) (cs ++ [c]) (ns ++ [n]) := by
  have l1 := h.len
  have l2 := h.len2
  have key : ∀ {α : Type} (xs : List α) (x y : α) (i : Nat), (xs ++ [x])[i]? = some y → xs[i]? = some y ∧ i < xs.length ∨ i = xs.length ∧ y = x := by
    intro α xs x y i hi
    rcases Nat.lt_trichotomy i xs.length with q | q | q
    · left; rw [List.getElem?_append_left q] at hi; exact ⟨hi, q⟩
    · right; subst q; simp at hi; exact ⟨rfl, hi.symm⟩
    · rw [List.getElem?_eq_none (by simp; omega)] at hi; cases hi
  refine ⟨by simp [l1], by simp [l2], ?_, ?_, ?_⟩
  · intro i v' c' n' hv hc hn
    rcases key _ _ _ _ hv with ⟨a, q⟩ | ⟨rfl, rfl⟩
    · rcases key _ _ _ _ hc with ⟨b, _⟩ | ⟨b, _⟩
      · rcases key _ _ _ _ hn with ⟨d, _⟩ | ⟨d, _⟩
        · exact h.own i _ _ _ a b d
        · omega
      · omega
    · rcases key _ _ _ _ hc with ⟨_, b⟩ | ⟨_, rfl⟩
      · omega
      · rcases key _ _ _ _ hn with ⟨_, b⟩ | ⟨_, rfl⟩
        · omega
        · exact ho
  · intro u hu q hq'
    rcases List.mem_append.1 hu with hu | hu
    · have := h.bl u hu q hq'; omega
    · simp at hu; subst hu; exact (hq q hq').2
  · intro i j u u' q hij hu hu' hq1 hq2
    rcases key _ _ _ _ hu with ⟨a, _⟩ | ⟨a, rfl⟩
    · rcases key _ _ _ _ hu' with ⟨b, _⟩ | ⟨b, rfl⟩
      · exact h.ne i j u u' q hij a b hq1 hq2
      · have h1 := h.bl u (List.mem_of_getElem? a) q hq1
        have h2 := (hq q hq2).1
        omega
    · rcases key _ _ _ _ hu' with ⟨b, _⟩ | ⟨b, rfl⟩
      · have h1 := h.bl u' (List.mem_of_getElem? b) q hq2
        have h2 := (hq q hq1).1
        omega
      · omega
end

def obVs : List Value → List Value → List Ob → List Value
  | vt :: vts, vm :: vms, x :: xs => obL x vt vm ++ obVs vts vms xs
  | _, _, _ => []
theorem obVs_length {vts vms : List Value} {xs : List Ob} (h1 : vts.length = xs.length) (h2 : vms.length = xs.length) : (obVs vts vms xs).length = xs.length * 10 := by
  induction xs generalizing vts vms with
  | nil => cases vts <;> cases vms <;> simp_all [obVs]
  | cons x xs ih =>
    match vts, vms, h1, h2 with
    | vt :: vts, vm :: vms, h1, h2 =>
      simp only [obVs, List.length_append, List.length_cons] at *
      rw [ih (by omega) (by omega)]
      simp [obL]; omega
theorem obVs_get {vts vms : List Value} {xs : List Ob} {i k : Nat} {vt vm : Value} {x : Ob} (hv : vts[i]? = some vt) (hm : vms[i]? = some vm) (hx : xs[i]? = some x) (hk : k < 10) : (obVs vts vms xs)[i * 10 + k]? = (obL x vt vm)[k]? := by
  induction i generalizing vts vms xs with
  | zero =>
    match vts, vms, xs, hv, hm, hx with
    | a :: vts, b :: vms, y :: xs, hv, hm, hx =>
      simp at hv hm hx
      subst hv hm hx
      simp only [obVs, Nat.zero_mul, Nat.zero_add]
      rw [List.getElem?_append_left (by simp [obL]; omega)]
  | succ i ih =>
    match vts, vms, xs, hv, hm, hx with
    | a :: vts, b :: vms, y :: xs, hv, hm, hx =>
      simp at hv hm hx
      simp only [obVs]
      rw [List.getElem?_append_right (by simp [obL]; omega), ← ih hv hm hx]
      congr 1
      simp [obL]; omega
theorem obVs_app {vs us ms ns : List Value} {xs ys : List Ob} (h1 : vs.length = xs.length) (h2 : ms.length = xs.length) : obVs (vs ++ us) (ms ++ ns) (xs ++ ys) = obVs vs ms xs ++ obVs us ns ys := by
  induction xs generalizing vs ms with
  | nil => cases vs <;> cases ms <;> simp_all [obVs]
  | cons x xs ih =>
    match vs, ms, h1, h2 with
    | v :: vs, m :: ms, h1, h2 =>
      simp only [List.length_cons, Nat.add_right_cancel_iff] at h1 h2
      simp only [List.cons_append, obVs]
      rw [ih h1 h2, List.append_assoc]
theorem obVs_set {vs us ms ns : List Value} {xs ys : List Ob} {v u m m' : Value} {x y : Ob} (h1 : vs.length = xs.length) (h2 : ms.length = xs.length) :
    ((((((((((obVs (vs ++ v :: us) (ms ++ m :: ns) (xs ++ x :: ys)).set (xs.length * 10) (.int .i64 y.c)).set (xs.length * 10 + 1) (.int .i64 y.x)).set (xs.length * 10 + 2) (.int .i64 y.y)).set (xs.length * 10 + 3) u).set (xs.length * 10 + 4) m').set (xs.length * 10 + 5) (.int .i64 y.l)).set (xs.length * 10 + 6) (.int .i64 y.n)).set (xs.length * 10 + 7) (.int .i64 y.u)).set (xs.length * 10 + 8) (.int .i64 y.r)).set (xs.length * 10 + 9) (.int .i64 y.o) = obVs (vs ++ u :: us) (ms ++ m' :: ns) (xs ++ y :: ys) := by
  rw [obVs_app h1 h2, obVs_app h1 h2]
  have e := obVs_length h1 h2
  rw [← e]
  repeat rw [List.set_append_right _ _ (by omega)]
  simp [obVs, obL]

/-- The call's own observations. -/
structure OwO (w : World) (lo hi : Nat) (v : Value) (vts vms : List Value) (xs : List Ob) : Prop where
  row : w.ownsRow lo 89 10 v xs.length (obVs vts vms xs)
  rb : belO hi v
  nt : NestG 21 1 w lo hi vts (xs.map fun x => ints .i32 x.t) (xs.map fun x => x.t.length)
  nm : NestG 95 3 w lo hi vms (xs.map fun x => mkVs x.m) (xs.map fun x => x.m.length)
theorem OwO.frame {w w' : World} {lo hi : Nat} {v : Value} {vts vms : List Value} {xs : List Ob} (h : OwO w lo hi v vts vms xs) (hf : ∀ q, lo ≤ q → q < hi → w'.heap[q]? = w.heap[q]?) : OwO w' lo hi v vts vms xs :=
  ⟨owns_of_block h.row (fun q hq => hf q (h.row.lt q hq).1 (h.rb q hq)), h.rb, h.nt.frame hf, h.nm.frame hf⟩
theorem OwO.below {w w' : World} {lo hi : Nat} {v : Value} {vts vms : List Value} {xs : List Ob} (h : OwO w lo hi v vts vms xs) (hb : Below w.heap.size w w') (hh : hi ≤ w.heap.size) : OwO w' lo hi v vts vms xs := h.frame (fun q _ q2 => hb.block q (by omega))
theorem own_cellN {w : World} {base g cap n size : Nat} {e : TypeId} {xs : List Value} (h : w.ownsRow base e size (.slice (some ⟨g, 0, none⟩) n cap) n xs) (j : Nat) (hj : j < n * size) : ∃ v, w.cell? ⟨g, j, none⟩ = some v := by
  have h1 := h.cellAt j hj
  have hl := h.1
  refine ⟨xs[j]'(by omega), ?_⟩
  rw [h1, List.getElem?_eq_getElem (by omega)]
theorem OwO.rd {w : World} {lo hi : Nat} {v : Value} {vts vms : List Value} {xs : List Ob} (h : OwO w lo hi v vts vms xs) (ht : ∀ x ∈ xs, x.t.length ≤ maxLen ∧ x.m.length ≤ maxLen) : RdO w v xs := by
  rcases h.row.2 with ⟨rfl, h0⟩ | ⟨g, cap, cur, rfl, hbg, hg, hnc, hcm, hcs, htk⟩
  · left; exact ⟨none, 0, rfl, List.eq_nil_of_length_eq_zero h0⟩
  · by_cases h0 : xs.length = 0
    · left; rw [h0]; exact ⟨_, _, rfl, List.eq_nil_of_length_eq_zero h0⟩
    · right
      refine ⟨g, 0, cap, rfl, ⟨by omega, hnc, hcm⟩, fun i x hx => ?_⟩
      have hil := (List.getElem?_eq_some_iff.1 hx).1
      have l1 : vts.length = xs.length := by rw [h.nt.len, List.length_map]
      have l2 : vms.length = xs.length := by rw [h.nm.len, List.length_map]
      have hv := List.getElem?_eq_getElem (show i < vts.length by omega)
      have hm := List.getElem?_eq_getElem (show i < vms.length by omega)
      have ot := h.nt.own i _ _ _ hv (by rw [List.getElem?_map, hx]; rfl) (by rw [List.getElem?_map, hx]; rfl)
      have om := h.nm.own i _ _ _ hm (by rw [List.getElem?_map, hx]; rfl) (by rw [List.getElem?_map, hx]; rfl)
      have hb := ht x (List.mem_of_getElem? hx)
      refine ⟨_, _, fun k hk => ?_, Rd.of_owns ot, OwM.rd (show OwM w lo _ x.m from om), hb.1, hb.2⟩
      rw [Nat.zero_add, h.row.cellAt (i * 10 + k) (by omega)]
      exact obVs_get hv hm hx hk
def zOb : Ob := ⟨0, 0, 0, [], [], 0, 0, 0, 0, 0⟩
theorem Tryd.infoOB : (Tryd.prog.info? 89).map (fun i => (i.zero, i.size, i.bytes)) = some (some (.agg #[.int .i64 0, .int .i64 0, .int .i64 0, .slice none 0 0, .slice none 0 0, .int .i64 0, .int .i64 0, .int .i64 0, .int .i64 0, .int .i64 0]), 10, 112) := by kernel_rfl
def zOV : Value := .agg #[.int .i64 0, .int .i64 0, .int .i64 0, .slice none 0 0, .slice none 0 0, .int .i64 0, .int .i64 0, .int .i64 0, .int .i64 0, .int .i64 0]
theorem made_obs (n : Nat) : (madeCells zOV.cells (n * 10)).toList = obVs (List.replicate n (.slice none 0 0)) (List.replicate n (.slice none 0 0)) (List.replicate n zOb) := by
  have l : (obVs (List.replicate n (.slice none 0 0)) (List.replicate n (.slice none 0 0)) (List.replicate n zOb)).length = n * 10 := by
    rw [obVs_length (by simp) (by simp)]; simp
  apply List.ext_getElem?
  intro j
  have hs : (madeCells zOV.cells (n * 10)).toList.length = n * 10 := by simp [size_madeCells]
  by_cases hj : j < n * 10
  · have h1 : j = (j / 10) * 10 + j % 10 := by omega
    have hi : j / 10 < n := by omega
    have hk : j % 10 < 10 := by omega
    have e2 := obVs_get (vts := List.replicate n (.slice none 0 0)) (vms := List.replicate n (.slice none 0 0)) (xs := List.replicate n zOb) (i := j / 10) (k := j % 10) (by rw [List.getElem?_replicate, if_pos hi]) (by rw [List.getElem?_replicate, if_pos hi]) (by rw [List.getElem?_replicate, if_pos hi]) hk
    rw [← h1] at e2
    rw [e2]
    simp only [madeCells, Array.toList_map, List.getElem?_map]
    rw [Array.getElem?_toList, Array.getElem?_range, if_pos hj]
    have e : zOV.cells = #[Value.int .i64 0, .int .i64 0, .int .i64 0, .slice none 0 0, .slice none 0 0, .int .i64 0, .int .i64 0, .int .i64 0, .int .i64 0, .int .i64 0] := rfl
    rw [e]
    show some ((#[Value.int .i64 0, .int .i64 0, .int .i64 0, .slice none 0 0, .slice none 0 0, .int .i64 0, .int .i64 0, .int .i64 0, .int .i64 0, .int .i64 0])[j % 10]!) = _
    generalize j % 10 = r at hk
    match r, hk with
    | 0, _ => rfl
    | 1, _ => rfl
    | 2, _ => rfl
    | 3, _ => rfl
    | 4, _ => rfl
    | 5, _ => rfl
    | 6, _ => rfl
    | 7, _ => rfl
    | 8, _ => rfl
    | 9, _ => rfl
  · rw [List.getElem?_eq_none (by omega), List.getElem?_eq_none (by omega)]
end Go.Proofs.YtbgngikejgihgaeDoor
