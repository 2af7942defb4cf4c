import Derived.Test.YtbgngikejgihgafDoorLSub
namespace Go.Proofs.YtbgngikejgihgafDoor
set_option linter.unusedVariables false

theorem adj_turnR (f : Nat → Int) (A B : List It) (a b r : AT) (q p : Pc) (e : Int) (h1 : ∀ j, j < A.length → f j = 0) (h2 : ∀ j, A.length ≤ j → j < A.length + a.its + 1 → f j = -1) (h3 : ∀ j, A.length + a.its + 1 ≤ j → j < A.length + a.its + 1 + b.its → f j = 0) (h4 : ∀ j, A.length + a.its + 1 + b.its ≤ j → j < A.length + a.its + 1 + b.its + 1 + r.its → f j = 1) (h5 : ∀ j, A.length + a.its + 1 + b.its + 1 + r.its ≤ j → f j = 0) :
    adj f 0 (A ++ (AT.node (.node a q b) p r).told e ++ B) = A ++ (AT.node a q (.node b p r)).told e ++ B := by
  simp only [AT.told, List.append_assoc, List.cons_append]
  have la := AT.told_length a (e + 1 + 1)
  have lb := AT.told_length b (e + 1 + 1)
  have lr := AT.told_length r (e + 1)
  rw [adj_append, adj_same f 0 A (fun j g1 g2 => h1 j (by omega)), adj_append]
  rw [adj_told f (-1) a (0 + A.length) (e + 1 + 1) (fun j g1 g2 => h2 j (by omega) (by omega))]
  simp only [adj]
  rw [adj_append, adj_told f 0 b _ (e + 1 + 1) (fun j g1 g2 => h3 j (by omega) (by omega))]
  simp only [adj]
  rw [adj_append, adj_told f 1 r _ (e + 1) (fun j g1 g2 => h4 j (by omega) (by omega)), adj_same f _ B (fun j g1 g2 => h5 j (by omega))]
  rw [h2 _ (by omega) (by omega), h4 _ (by omega) (by omega)]
  rw [show e + 1 + 1 + -1 = e + 1 by omega, show e + 1 + -1 = e by omega, show e + 1 + 1 + 0 = e + 1 + 1 by omega]
theorem adj_turnL (f : Nat → Int) (A B : List It) (l b c : AT) (q p : Pc) (e : Int) (h1 : ∀ j, j < A.length → f j = 0) (h2 : ∀ j, A.length ≤ j → j < A.length + l.its + 1 → f j = 1) (h3 : ∀ j, A.length + l.its + 1 ≤ j → j < A.length + l.its + 1 + b.its → f j = 0) (h4 : ∀ j, A.length + l.its + 1 + b.its ≤ j → j < A.length + l.its + 1 + b.its + 1 + c.its → f j = -1) (h5 : ∀ j, A.length + l.its + 1 + b.its + 1 + c.its ≤ j → f j = 0) :
    adj f 0 (A ++ (AT.node l p (.node b q c)).told e ++ B) = A ++ (AT.node (.node l p b) q c).told e ++ B := by
  simp only [AT.told, List.append_assoc, List.cons_append]
  have la := AT.told_length l (e + 1)
  have lb := AT.told_length b (e + 1 + 1)
  have lr := AT.told_length c (e + 1 + 1)
  rw [adj_append, adj_same f 0 A (fun j g1 g2 => h1 j (by omega)), adj_append]
  rw [adj_told f 1 l (0 + A.length) (e + 1) (fun j g1 g2 => h2 j (by omega) (by omega))]
  simp only [adj]
  rw [adj_append, adj_told f 0 b _ (e + 1 + 1) (fun j g1 g2 => h3 j (by omega) (by omega))]
  simp only [adj]
  rw [adj_append, adj_told f (-1) c _ (e + 1 + 1) (fun j g1 g2 => h4 j (by omega) (by omega)), adj_same f _ B (fun j g1 g2 => h5 j (by omega))]
  rw [h2 _ (by omega) (by omega), h4 _ (by omega) (by omega)]
  rw [show e + 1 + 1 + -1 = e + 1 by omega, show e + 1 + -1 = e by omega, show e + 1 + 1 + 0 = e + 1 + 1 by omega]

theorem adj_set {f : Nat → Int} {X : List It} {j : Nat} {x : It} (hx : X[j]? = some x) (v : Int) : (adj f 0 X).set j ⟨x.pc, v⟩ = adj (fun t => if t = j then v - x.lv else f t) 0 X := by
  apply List.ext_getElem?
  intro i
  rw [List.getElem?_set, adj_get, adj_get]
  have hj : j < X.length := by
    rcases Nat.lt_or_ge j X.length with g | g
    · exact g
    · rw [List.getElem?_eq_none g] at hx; cases hx
  simp only [Nat.zero_add]
  by_cases h : j = i
  · subst h
    rw [if_pos rfl, if_pos (by rw [adj_length]; exact hj), hx]
    simp only [if_true, Option.map_some]
    rw [show x.lv + (v - x.lv) = v by omega]
  · rw [if_neg h, if_neg (fun e => h e.symm)]

/-- What a turn of the item i does to the levels from lo on to before hi, up to k: y is the child that comes up. -/
def trn (right : Bool) (i y lo k : Nat) (j : Nat) : Int :=
  if lo ≤ j ∧ j < k then (if right then (if j < y then -1 else if i < j then 1 else 0) else (if y < j then -1 else if j < i then 1 else 0)) else 0
theorem trn_start (right : Bool) (i y lo : Nat) (X : List It) : adj (trn right i y lo lo) 0 X = X :=
  adj_same _ 0 X (fun j _ _ => by unfold trn; rw [if_neg (by omega)])
theorem trn_step {right : Bool} {i y lo k : Nat} {X : List It} {x : It} (hx : X[k]? = some x) (hlo : lo ≤ k) : adj (trn right i y lo (k + 1)) 0 X = (adj (trn right i y lo k) 0 X).set k ⟨x.pc, x.lv + (if right then (if k < y then -1 else if i < k then 1 else 0) else (if y < k then -1 else if k < i then 1 else 0))⟩ := by
  rw [adj_set hx]
  refine adj_congr 0 X (fun j _ _ => ?_)
  by_cases h : j = k
  · subst h
    rw [if_pos rfl]; unfold trn; rw [if_pos (by omega)]; omega
  · rw [if_neg h]; unfold trn
    by_cases h2 : lo ≤ j ∧ j < k
    · rw [if_pos h2, if_pos (by omega)]
    · rw [if_neg h2, if_neg (by omega)]
theorem trn_get {right : Bool} {i y lo k : Nat} {X : List It} {x : It} {j : Nat} (hx : X[j]? = some x) : (adj (trn right i y lo k) 0 X)[j]? = some ⟨x.pc, x.lv + trn right i y lo k j⟩ := by
  rw [adj_get, hx]; simp

/-- The whole turn. -/
theorem turn_right (A B : List It) (a b r : AT) (q p : Pc) (e : Int) : ((adj (trn true (A.length + a.its + 1 + b.its) (A.length + a.its) A.length (A.length + a.its + 1 + b.its + 1 + r.its)) 0 (A ++ (AT.node (.node a q b) p r).told e ++ B)).set (A.length + a.its) ⟨q, e⟩).set (A.length + a.its + 1 + b.its) ⟨p, e + 1⟩ = A ++ (AT.node a q (.node b p r)).told e ++ B := by
  have g1 : (A ++ (AT.node (.node a q b) p r).told e ++ B)[A.length + a.its]? = some ⟨q, e + 1⟩ := by
    rw [get_mid A _ B _ (by omega) (by rw [AT.told_length]; simp only [AT.its]; omega)]
    simp only [AT.told, List.append_assoc, List.cons_append]
    rw [List.getElem?_append_right (by rw [AT.told_length]; omega), AT.told_length]
    simp
  have g2 : (A ++ (AT.node (.node a q b) p r).told e ++ B)[A.length + a.its + 1 + b.its]? = some ⟨p, e⟩ := by
    rw [get_mid A _ B _ (by omega) (by rw [AT.told_length]; simp only [AT.its]; omega)]
    rw [AT.told, List.getElem?_append_right (by rw [AT.told_length]; simp only [AT.its]; omega), AT.told_length]
    simp only [AT.its]
    rw [show A.length + a.its + 1 + b.its - A.length - (a.its + 1 + b.its) = 0 by omega]; rfl
  rw [adj_set g1, adj_set g2]
  refine adj_turnR _ A B a b r q p e ?_ ?_ ?_ ?_ ?_
  all_goals
    intros
    simp only [trn, if_true]
    repeat (first | omega | split)
theorem turn_left (A B : List It) (l b c : AT) (q p : Pc) (e : Int) : ((adj (trn false (A.length + l.its) (A.length + l.its + 1 + b.its) A.length (A.length + l.its + 1 + b.its + 1 + c.its)) 0 (A ++ (AT.node l p (.node b q c)).told e ++ B)).set (A.length + l.its + 1 + b.its) ⟨q, e⟩).set (A.length + l.its) ⟨p, e + 1⟩ = A ++ (AT.node (.node l p b) q c).told e ++ B := by
  have g2 : (A ++ (AT.node l p (.node b q c)).told e ++ B)[A.length + l.its]? = some ⟨p, e⟩ := by
    rw [get_mid A _ B _ (by omega) (by rw [AT.told_length]; simp only [AT.its]; omega)]
    rw [AT.told, List.getElem?_append_right (by rw [AT.told_length]; omega), AT.told_length]
    rw [show A.length + l.its - A.length - l.its = 0 by omega]; rfl
  have g1 : (A ++ (AT.node l p (.node b q c)).told e ++ B)[A.length + l.its + 1 + b.its]? = some ⟨q, e + 1⟩ := by
    rw [get_mid A _ B _ (by omega) (by rw [AT.told_length]; simp only [AT.its]; omega)]
    simp only [AT.told]
    rw [List.getElem?_append_right (by rw [AT.told_length]; omega), AT.told_length]
    rw [show A.length + l.its + 1 + b.its - A.length - l.its = b.its + 1 by omega, List.getElem?_cons_succ, List.getElem?_append_right (by rw [AT.told_length]; omega), AT.told_length]
    simp
  rw [adj_set g1, adj_set g2]
  refine adj_turnL _ A B l b c q p e ?_ ?_ ?_ ?_ ?_
  all_goals
    intros
    simp only [trn, Bool.false_eq_true, if_false]
    repeat (first | omega | split)
end Go.Proofs.YtbgngikejgihgafDoor
