import Derived.Test.YtbgngikejgihgagGreatDoorMq10
import Derived.Test.YtbgngikejgihgagGreatDoorMq08
namespace Go.Proofs.YtbgngikejgihgagGreatDoor
open Go Go.RowKit
set_option linter.unusedVariables false

/-- Elements of three cells, laid one behind another. -/
abbrev T3v := Value × Value × Value
def fl3 : List T3v → List Value
  | [] => []
  | x :: R => x.1 :: x.2.1 :: x.2.2 :: fl3 R
theorem fl3_len (R : List T3v) : (fl3 R).length = R.length * 3 := by
  induction R with
  | nil => rfl
  | cons x R ih => simp only [fl3, List.length_cons, ih]; omega
theorem fl3_app (a b : List T3v) : fl3 (a ++ b) = fl3 a ++ fl3 b := by
  induction a with
  | nil => rfl
  | cons x a ih => simp only [List.cons_append, fl3, ih]
theorem fl3_take (R : List T3v) (n : Nat) : (fl3 R).take (n * 3) = fl3 (R.take n) := by
  induction n generalizing R with
  | zero => simp [fl3]
  | succ n ih =>
    cases R with
    | nil => simp [fl3]
    | cons x R =>
      rw [show (n + 1) * 3 = n * 3 + 1 + 1 + 1 by omega]
      simp only [fl3, List.take_succ_cons, ih]
theorem fl3_drop (R : List T3v) (n : Nat) : (fl3 R).drop (n * 3) = fl3 (R.drop n) := by
  induction n generalizing R with
  | zero => simp
  | succ n ih =>
    cases R with
    | nil => simp [fl3]
    | cons x R =>
      rw [show (n + 1) * 3 = n * 3 + 1 + 1 + 1 by omega]
      simp only [fl3, List.drop_succ_cons, ih]
theorem splice_fl3 {R cs : List T3v} {sp : List Value} {off : Nat} (h : off + cs.length ≤ R.length) : splice (fl3 R ++ sp) (off * 3) (fl3 cs) = fl3 (splice R off cs) ++ sp := by
  unfold splice
  have h1 := fl3_len R
  have h2 := fl3_len cs
  rw [fl3_app, fl3_app, List.take_append_of_le_length (by omega), List.drop_append_of_le_length (by omega), fl3_take, h2, show off * 3 + cs.length * 3 = (off + cs.length) * 3 by omega, fl3_drop]
  simp only [List.append_assoc]
theorem fl3_get {R : List T3v} {i : Nat} {x : T3v} (h : R[i]? = some x) : (fl3 R)[i * 3]? = some x.1 ∧ (fl3 R)[i * 3 + 1]? = some x.2.1 ∧ (fl3 R)[i * 3 + 2]? = some x.2.2 := by
  induction R generalizing i with
  | nil => simp at h
  | cons y R ih =>
    cases i with
    | zero => simp at h; subst h; exact ⟨rfl, rfl, rfl⟩
    | succ i =>
      simp only [List.getElem?_cons_succ] at h
      have := ih h
      rw [show (i + 1) * 3 = i * 3 + 1 + 1 + 1 by omega, show i * 3 + 1 + 1 + 1 + 1 = i * 3 + 1 + 1 + 1 + 1 by omega, show i * 3 + 1 + 1 + 1 + 2 = i * 3 + 2 + 1 + 1 + 1 by omega]
      simp only [fl3, List.getElem?_cons_succ]
      exact this
/-- One cell each. -/
def One3 (R : List T3v) : Prop := ∀ x ∈ R, x.1.oneCell' = true ∧ x.2.1.oneCell' = true ∧ x.2.2.oneCell' = true
theorem One3.fl {R : List T3v} (h : One3 R) : ∀ v ∈ fl3 R, v.oneCell' = true := by
  induction R with
  | nil => simp [fl3]
  | cons x R ih =>
    intro v hv
    simp only [fl3, List.mem_cons] at hv
    have hx := h x (by simp)
    rcases hv with rfl | rfl | rfl | hv
    · exact hx.1
    · exact hx.2.1
    · exact hx.2.2
    · exact ih (fun y hy => h y (List.mem_cons_of_mem _ hy)) v hv
theorem One3.take {R : List T3v} (h : One3 R) (n : Nat) : One3 (R.take n) := fun x hx => h x (List.mem_of_mem_take hx)
theorem One3.drop {R : List T3v} (h : One3 R) (n : Nat) : One3 (R.drop n) := fun x hx => h x (List.mem_of_mem_drop hx)
theorem One3.app {a b : List T3v} (h : One3 a) (k : One3 b) : One3 (a ++ b) := fun x hx => by
  rcases List.mem_append.1 hx with q | q
  · exact h x q
  · exact k x q

section
variable {P : Program}
theorem run_copy_none3 (w : World) (dT sT ty elem : TypeId) (d a : Option Addr) (dLen dCap sLen sCap : Nat) (hu : P.underlying dT = some (.slice elem)) (hs : (P.info? elem).map (·.size) = some 3) (hn : Nat.min sLen dLen = 0) :
    (Builtin.copy_ #[dT, sT] ty #[.slice d dLen dCap, .slice a sLen sCap]).run P w = .ok (goInt 0) w := by
  cases hq : P.info? elem with
  | none => simp [hq] at hs
  | some i =>
    have hl : ∀ (x : Addr), (loadCells x 0).run P w = .ok #[] w := fun x => by simpa using run_loadCells_list (P := P) w x [] (by simp)
    cases d <;> cases a <;> simp [Builtin.copy_, run_underlying hu, Builtin.lenOf, Builtin.firstCells, sizeOf, typeInfo, hq, hn, storeCells, hl]
theorem run_copy_row3 (w : World) (dT sT ty elem : TypeId) (g o dLen dCap : Nat) (a : Addr) (sLen sCap : Nat) (cur : Array Value) (t : TypeId) (m : Nat) (cs : List Value)
    (hu : P.underlying dT = some (.slice elem)) (hs : (P.info? elem).map (·.size) = some 3)
    (hg : w.heap[g]? = some (.cells cur t (0, 0))) (hm : m = Nat.min sLen dLen) (hn : cs.length = m * 3)
    (hsrc : ∀ j v, cs[j]? = some v → w.cell? (a.add j) = some v) (hfit : o + cs.length ≤ cur.size) (h1 : ∀ v ∈ cs, v.oneCell' = true) :
    (Builtin.copy_ #[dT, sT] ty #[.slice (some ⟨g, o, none⟩) dLen dCap, .slice (some a) sLen sCap]).run P w =
      .ok (goInt m) (w.setRow g (cur.toList.take o ++ cs ++ cur.toList.drop (o + cs.length)).toArray) := by
  have hl := run_loadCells_list (P := P) w a cs hsrc
  have hst := run_storeCells_at P g o t cs 0 cur w hg (by simpa using hfit) h1
  cases hq : P.info? elem with
  | none => simp [hq] at hs
  | some i =>
    have hi : i.size = 3 := by simpa [hq] using hs
    rw [hn] at hl
    simp [Builtin.copy_, run_underlying hu, Builtin.lenOf, Builtin.firstCells, sizeOf, typeInfo, hq, hi, ← hm, hl, hst]

theorem wpList_copy_row3 {w : World} {ops : Array Oper} {rest : List Oper} {o : Oper} {a : Act} {Q : Exit → Act → World → Prop} (hgd : o.guard = none) (d s : Operand) (dT sT : TypeId)
    (ho : o.op = .call { callee := .builtin .copy, args := #[d, s], argTypes := #[dT, sT] }) (elem : TypeId) (hu : P.underlying dT = some (.slice elem)) (hsz : (P.info? elem).map (·.size) = some 3)
    (dp sp : Option Addr) (dLen dCap sLen sCap : Nat) (hd : a.eval d = .slice dp dLen dCap) (hs : a.eval s = .slice sp sLen sCap)
    (g off : Nat) (cur : List Value) (t : TypeId) (hg : w.heap[g]? = some (.cells cur.toArray t (0, 0))) (m : Nat) (hm : m = Nat.min sLen dLen) (cs : List Value) (hn : cs.length = m * 3)
    (hpos : 0 < m → dp = some ⟨g, off, none⟩ ∧ ∃ ad, sp = some ad ∧ ∀ j v, cs[j]? = some v → w.cell? (ad.add j) = some v)
    (hfit : off + cs.length ≤ cur.length) (h1 : ∀ v ∈ cs, v.oneCell' = true)
    (h : ∀ w', Hid (Row1 w w' g (splice cur off cs) t) → wpList P ops Q rest (a.put o.dst (goInt m)) w') :
    wpList P ops Q (o :: rest) a w := by
  refine wpList_plain hgd fun K hK => ?_
  by_cases h0 : m = 0
  · subst h0
    obtain rfl : cs = [] := List.eq_nil_of_length_eq_zero (by omega)
    have hrun := run_copy_none3 (P := P) w dT sT o.type elem dp sp dLen dCap sLen sCap hu hsz hm.symm
    unfold Oper.wp
    simp [execOp, ho, resolve, invoke, builtin, hd, hs, hrun, Result.andThen]
    exact hK _ _ (h w (hide (by simpa [splice] using Row1.refl hg)))
  · obtain ⟨rfl, ad, rfl, hsrc⟩ := hpos (by omega)
    have hrun := run_copy_row3 (P := P) w dT sT o.type elem g off dLen dCap ad sLen sCap cur.toArray t m cs hu hsz hg hm hn hsrc (by simpa using hfit) h1
    unfold Oper.wp
    simp [execOp, ho, resolve, invoke, builtin, hd, hs, hrun, Result.andThen]
    exact hK _ _ (h _ (hide (by simpa [splice] using Row1.of_set (splice cur off cs) hg)))

theorem zero3 (a b c : Value) (n : Nat) : (Builtin.zeroCells #[a, b, c] n).toList = fl3 (List.replicate n (a, b, c)) := by
  apply List.ext_getElem?
  intro i
  have hl := fl3_len (List.replicate n (a, b, c))
  rw [List.length_replicate] at hl
  by_cases hi : i < n * 3
  · have h1 : i / 3 < n := by omega
    have hg := fl3_get (R := List.replicate n (a, b, c)) (i := i / 3) (x := (a, b, c)) (by simp [h1])
    have hm : i % 3 = 0 ∨ i % 3 = 1 ∨ i % 3 = 2 := by omega
    have hz : (Builtin.zeroCells #[a, b, c] n).toList[i]? = some (#[a, b, c][i % 3]!) := by
      simp [Builtin.zeroCells, hi]
    rw [hz]
    rcases hm with hm | hm | hm
    · rw [show i / 3 * 3 = i by omega] at hg
      rw [hg.1, hm]; rfl
    · rw [show i / 3 * 3 + 1 = i by omega] at hg
      rw [hg.2.1, hm]; rfl
    · rw [show i / 3 * 3 + 2 = i by omega] at hg
      rw [hg.2.2, hm]; rfl
  · rw [List.getElem?_eq_none (by simp [Builtin.zeroCells]; omega), List.getElem?_eq_none (by omega)]

theorem run_clear_row3 (w : World) (t e ty : TypeId) (z : Value) (z0 z1 z2 : Value) (ht : P.underlying t = some (.slice e)) (hv : ∀ w, (zeroValue e).run P w = .ok z w) (hz : z.cells = #[z0, z1, z2]) (h1 : z0.oneCell' = true ∧ z1.oneCell' = true ∧ z2.oneCell' = true) (g o n c : Nat) (hn : 0 < n)
    (cur : List Value) (et : TypeId) (hg : w.heap[g]? = some (.cells cur.toArray et (0, 0))) (hfit : o + n * 3 ≤ cur.length) :
    (Builtin.clear_ #[t] ty #[.slice (some ⟨g, o, none⟩) n c]).run P w = .ok (.tuple #[]) (w.setRow g (splice cur o (fl3 (List.replicate n (z0, z1, z2)))).toArray) := by
  have hzc : (Builtin.zeroCells z.cells n).toList = fl3 (List.replicate n (z0, z1, z2)) := by rw [hz]; exact zero3 z0 z1 z2 n
  have hlen := fl3_len (List.replicate n (z0, z1, z2))
  rw [List.length_replicate] at hlen
  have hst := run_storeCells_at P g o et (fl3 (List.replicate n (z0, z1, z2))) 0 cur.toArray w hg (by simpa [hlen] using hfit) (One3.fl (fun x hx => by rw [List.eq_of_mem_replicate hx]; exact h1))
  simp only [Nat.add_zero] at hst
  obtain ⟨m, rfl⟩ : ∃ m, n = m + 1 := ⟨n - 1, by omega⟩
  simp [Builtin.clear_, run_underlying ht, hv, hzc, hst, splice]

theorem wpList_clear_row3 {w : World} {ops : Array Oper} {rest : List Oper} {o : Oper} {a : Act} {Q : Exit → Act → World → Prop} (hgd : o.guard = none) (d : Operand) (dT : TypeId)
    (ho : o.op = .call { callee := .builtin .clear, args := #[d], argTypes := #[dT] }) (e : TypeId) (hu : P.underlying dT = some (.slice e)) (z z0 z1 z2 : Value) (hv : ∀ w, (zeroValue e).run P w = .ok z w) (hz : z.cells = #[z0, z1, z2]) (h1 : z0.oneCell' = true ∧ z1.oneCell' = true ∧ z2.oneCell' = true)
    (dp : Option Addr) (dLen dCap : Nat) (hd : a.eval d = .slice dp dLen dCap) (g off : Nat) (cur : List Value) (t : TypeId) (hg : w.heap[g]? = some (.cells cur.toArray t (0, 0)))
    (hpos : 0 < dLen → dp = some ⟨g, off, none⟩) (hfit : off + dLen * 3 ≤ cur.length)
    (h : ∀ w', Hid (Row1 w w' g (splice cur off (fl3 (List.replicate dLen (z0, z1, z2)))) t) → wpList P ops Q rest (a.put o.dst (.tuple #[])) w') :
    wpList P ops Q (o :: rest) a w := by
  refine wpList_plain hgd fun K hK => ?_
  by_cases h0 : dLen = 0
  · subst h0
    have hrun := run_clear_none (P := P) w dT e o.type hu dp dCap
    unfold Oper.wp
    simp [execOp, ho, resolve, invoke, builtin, hd, hrun, Result.andThen]
    exact hK _ _ (h w (hide (by simpa [splice, fl3] using Row1.refl hg)))
  · obtain rfl := hpos (by omega)
    have hrun := run_clear_row3 (P := P) w dT e o.type z z0 z1 z2 hu hv hz h1 g off dLen dCap (by omega) cur t hg hfit
    unfold Oper.wp
    simp [execOp, ho, resolve, invoke, builtin, hd, hrun, Result.andThen]
    exact hK _ _ (h _ (hide (Row1.of_set _ hg)))
end
end Go.Proofs.YtbgngikejgihgagGreatDoor

namespace Go.Proofs.YtbgngikejgihgagGreatDoor
open Go Go.RowKit
set_option linter.unusedVariables false

/-- Rows as elements of three cells. -/
def trs : List Value → List Gr → List T3v
  | v :: vs, g :: gs => (v, .int .i64 g.lo, .int .i64 g.hi) :: trs vs gs
  | _, _ => []
theorem grVs_fl3 : ∀ (vs : List Value) (gs : List Gr), grVs vs gs = fl3 (trs vs gs)
  | [], gs => by cases gs <;> rfl
  | v :: vs, [] => rfl
  | v :: vs, g :: gs => by simp only [grVs, trs, fl3]; rw [grVs_fl3 vs gs]
theorem trs_len : ∀ {vs : List Value} {gs : List Gr}, vs.length = gs.length → (trs vs gs).length = gs.length
  | [], [], _ => rfl
  | [], g :: gs, h => by simp at h
  | v :: vs, [], h => by simp at h
  | v :: vs, g :: gs, h => by simp only [trs, List.length_cons] at *; rw [trs_len (by omega)]
theorem trs_app : ∀ {vs us : List Value} {gs hs : List Gr}, vs.length = gs.length → trs (vs ++ us) (gs ++ hs) = trs vs gs ++ trs us hs
  | [], us, [], hs, _ => rfl
  | [], us, g :: gs, hs, h => by simp at h
  | v :: vs, us, [], hs, h => by simp at h
  | v :: vs, us, g :: gs, hs, h => by
    simp only [List.length_cons] at h
    simp only [List.cons_append, trs]
    rw [trs_app (by omega)]
theorem trs_take : ∀ {vs : List Value} {gs : List Gr} (n : Nat), (trs vs gs).take n = trs (vs.take n) (gs.take n)
  | vs, gs, 0 => by simp [trs]
  | [], gs, n + 1 => by simp [trs]
  | v :: vs, [], n + 1 => by simp [trs]
  | v :: vs, g :: gs, n + 1 => by simp only [trs, List.take_succ_cons]; rw [trs_take n]
theorem trs_drop : ∀ {vs : List Value} {gs : List Gr} (n : Nat), (trs vs gs).drop n = trs (vs.drop n) (gs.drop n)
  | vs, gs, 0 => by simp
  | [], gs, n + 1 => by simp [trs]
  | v :: vs, [], n + 1 => by
    simp [trs]
  | v :: vs, g :: gs, n + 1 => by simp only [trs, List.drop_succ_cons]; rw [trs_drop n]
theorem trs_one : ∀ {vs : List Value} {gs : List Gr}, (∀ v ∈ vs, v.oneCell' = true) → One3 (trs vs gs)
  | [], gs, _ => fun x hx => by simp [trs] at hx
  | v :: vs, [], _ => fun x hx => by simp [trs] at hx
  | v :: vs, g :: gs, h => fun x hx => by
    simp only [trs, List.mem_cons] at hx
    rcases hx with rfl | hx
    · exact ⟨h v (by simp), rfl, rfl⟩
    · exact trs_one (fun u hu => h u (List.mem_cons_of_mem _ hu)) x hx
theorem trs_rep (n : Nat) : trs (List.replicate n (.slice none 0 0)) (List.replicate n nilG) = List.replicate n (.slice none 0 0, .int .i64 0, .int .i64 0) := by
  induction n with
  | zero => rfl
  | succ n ih => simp only [List.replicate_succ, trs, ih]; rfl
theorem trs_lay {vs : List Value} {gs : List Gr} (p N : Nat) (h : vs.length = gs.length) : glayA (.slice none 0 0, .int .i64 0, .int .i64 0) (trs vs gs) p N = trs (glayA (.slice none 0 0) vs p N) (glayA nilG gs p N) := by
  unfold glayA
  rw [trs_take, trs_drop, trs_len h, h, trs_app (by simp [h]), trs_app (by simp), trs_rep]

/-- Rows beside rows. -/
theorem Nest.app {w : World} {lo hi : Nat} {A B : List Value} {la lb : List (List Int)} (h : Nest w lo hi A la) (k : Nest w lo hi B lb) (hd : ∀ u ∈ A, ∀ v ∈ B, ∀ q, u.ownBlock = some q → v.ownBlock ≠ some q) : Nest w lo hi (A ++ B) (la ++ lb) := by
  have part : ∀ {α : Type} {xs ys : List α} {i : Nat} {y : α}, (xs ++ ys)[i]? = some y → (i < xs.length ∧ xs[i]? = some y) ∨ (xs.length ≤ i ∧ ys[i - xs.length]? = some y) := by
    intro α xs ys i y hy
    rcases Nat.lt_or_ge i xs.length with q | q
    · rw [List.getElem?_append_left q] at hy; exact .inl ⟨q, hy⟩
    · rw [List.getElem?_append_right q] at hy; exact .inr ⟨q, hy⟩
  refine ⟨by simp [h.len, k.len], ?_, ?_, ?_⟩
  · intro i v l hv hl
    have e := h.len
    rcases part hv with ⟨q, a⟩ | ⟨q, a⟩
    · rcases part hl with ⟨q', b⟩ | ⟨q', b⟩
      · exact h.own i v l a b
      · omega
    · rcases part hl with ⟨q', b⟩ | ⟨q', b⟩
      · omega
      · rw [← e] at b; exact k.own _ v l a b
  · intro v hv
    rcases List.mem_append.1 hv with q | q
    · exact h.bl v q
    · exact k.bl v q
  · intro i j u v q hij hu hv hq
    rcases part hu with ⟨i1, a⟩ | ⟨i1, a⟩
    · rcases part hv with ⟨j1, b⟩ | ⟨j1, b⟩
      · exact h.ne i j u v q hij a b hq
      · exact hd u (List.mem_of_getElem? a) v (List.mem_of_getElem? b) q hq
    · rcases part hv with ⟨j1, b⟩ | ⟨j1, b⟩
      · exact fun hq' => hd v (List.mem_of_getElem? b) u (List.mem_of_getElem? a) q hq' hq
      · exact k.ne _ _ u v q (by omega) a b hq
theorem Nest.take {w : World} {lo hi : Nat} {A : List Value} {la : List (List Int)} (h : Nest w lo hi A la) (n : Nat) : Nest w lo hi (A.take n) (la.take n) := by
  have g : ∀ {α : Type} {xs : List α} {i : Nat} {y : α}, (xs.take n)[i]? = some y → xs[i]? = some y := by
    intro α xs i y hy
    rw [List.getElem?_take] at hy
    split at hy
    · exact hy
    · cases hy
  exact ⟨by simp [h.len], fun i v l a b => h.own i v l (g a) (g b), fun v hv => h.bl v (List.mem_of_mem_take hv), fun i j u v q hij a b => h.ne i j u v q hij (g a) (g b)⟩
theorem Nest.drop {w : World} {lo hi : Nat} {A : List Value} {la : List (List Int)} (h : Nest w lo hi A la) (n : Nat) : Nest w lo hi (A.drop n) (la.drop n) := by
  have g : ∀ {α : Type} {xs : List α} {i : Nat} {y : α}, (xs.drop n)[i]? = some y → xs[n + i]? = some y := by
    intro α xs i y hy
    rw [List.getElem?_drop] at hy; exact hy
  exact ⟨by simp [h.len], fun i v l a b => h.own _ v l (g a) (g b), fun v hv => h.bl v (List.mem_of_mem_drop hv), fun i j u v q hij a b => h.ne _ _ u v q (by omega) (g a) (g b)⟩
/-- Rows in two parts lie apart. -/
theorem Nest.parts {w : World} {lo hi : Nat} {A : List Value} {la : List (List Int)} (h : Nest w lo hi A la) (n m : Nat) (hnm : n ≤ m) : ∀ u ∈ A.take n, ∀ v ∈ A.drop m, ∀ q, u.ownBlock = some q → v.ownBlock ≠ some q := by
  intro u hu v hv q hq
  obtain ⟨i, hi⟩ := List.getElem?_of_mem hu
  obtain ⟨j, hj⟩ := List.getElem?_of_mem hv
  rw [List.getElem?_take] at hi
  split at hi
  · rw [List.getElem?_drop] at hj
    exact h.ne i (m + j) u v q (by omega) hi hj hq
  · cases hi
end Go.Proofs.YtbgngikejgihgagGreatDoor

namespace Go.Proofs.YtbgngikejgihgagGreatDoor
open Go Go.RowKit
set_option linter.unusedVariables false

set_option maxHeartbeats 2000000 in
set_option maxRecDepth 100000 in
theorem copyGap_some (zs : List Int) (lo g0 n cap : Nat) (xl xh : Int) (w : World) (h : w.ownsRow lo 21 1 (.slice (some ⟨g0, 0, none⟩) n cap) n (ints .i32 zs)) (hn : 0 < n) (hm : n ≤ 1048576) :
    Calls Tryz.prog 193 #[.agg #[.slice (some ⟨g0, 0, none⟩) n cap, .int .i64 xl, .int .i64 xh]] w fun e w' => ∃ g c, e = .returned (.agg #[.slice (some ⟨g, 0, none⟩) n c, .int .i64 xl, .int .i64 xh]) ∧ w'.ownsRow w.heap.size 21 1 (.slice (some ⟨g, 0, none⟩) n c) n (ints .i32 zs) ∧ Below w.heap.size w w' := by
  obtain ⟨i0, hi0, hz0, hz1, hz2⟩ := info_parts Tryz.infoG
  have hgl := (h.lt g0 rfl).2
  have A0 := hide (((Below.refl w.heap.size w).alloc (Nat.le_refl _) (.cells #[.slice (some ⟨g0, 0, none⟩) n cap, .int .i64 xl, .int .i64 xh] 152)).alloc (by simp) (.cells #[.slice none 0 0, .int .i64 0, .int .i64 0] 152))
  have QP := hide ((Q3.new w (.slice (some ⟨g0, 0, none⟩) n cap) (.int .i64 xl) (.int .i64 xh) 152).below ((Below.refl _ _).alloc (Nat.le_refl _) (.cells #[.slice none 0 0, .int .i64 0, .int .i64 0] 152)) (by simp))
  have QR := hide (Q3.new (w.alloc (.cells #[.slice (some ⟨g0, 0, none⟩) n cap, .int .i64 xl, .int .i64 xh] 152)) (.slice none 0 0) (.int .i64 0) (.int .i64 0) 152)
  have es : (w.alloc (.cells #[.slice (some ⟨g0, 0, none⟩) n cap, .int .i64 xl, .int .i64 xh] 152)).heap.size = w.heap.size + 1 := by simp
  rw [es] at QR
  have es2 : ((w.alloc (.cells #[.slice (some ⟨g0, 0, none⟩) n cap, .int .i64 xl, .int .i64 xh] 152)).alloc (.cells #[.slice none 0 0, .int .i64 0, .int .i64 0] 152)).heap.size = w.heap.size + 2 := by simp
  have O0 := hide (owns_below h A0.out (Nat.le_refl _))
  have LN := hide h.1
  clear h es
  go_enter Tryz.func193, Tryz.ntmps193
  go_upto_region 1 with fail
  generalize (w.alloc (.cells #[.slice (some ⟨g0, 0, none⟩) n cap, .int .i64 xl, .int .i64 xh] 152)).alloc (.cells #[.slice none 0 0, .int .i64 0, .int .i64 0] 152) = w0 at *
  obtain ⟨p0, p1, p2⟩ := QP.out.c
  have lp : w.heap.size < w0.heap.size := by omega
  have np : w.heap.size ≠ w0.heap.size := by omega
  have lp2 : w.heap.size + 1 < w0.heap.size := by omega
  have np2 : w.heap.size + 1 ≠ w0.heap.size := by omega
  clear es2
  go_region_law (refine step_append_lies _ rfl _ _ 36 rfl w0.heap.size 21 i0 (.int .i32 0) 1 4 Tryz.underlying36 hi0 hz0 hz1 hz2 rfl (by decide) _ 0 [] rfl (by exact own_newT w0 21) ⟨g0, 0, none⟩ n cap (ints .i32 zs) rfl LN.out (by exact (O0.out.alloc _).cells rfl) (ints_one _ _) (by omega) (by unfold maxLen; omega) (by omega) (by simp) (w0.heap.size + 1) (by simp) ?_; intro g5 cap5 x8 ho5 hg5 _ hgl5; have B8 : Below w0.heap.size w0 x8 := ((Below.refl w0.heap.size w0).alloc (Nat.le_refl _) (.cells #[] 21)).trans (Below.grown (Below.refl _ _) (⟨hg5.os, hg5.tape, hg5.output, hg5.size, hg5.block⟩) (by simp) (fun q hq => by have hq' : (Value.slice (some ⟨w0.heap.size, 0, none⟩) 0 0).ownBlock = some q := hq; simp only [Value.ownBlock, Option.some.injEq] at hq'; omega)); have P8 := hide (QP.out.below B8 (by omega)); have R8 := hide (QR.out.below B8 (by omega)); have t0 := P8.out.c.1; have t1 := P8.out.c.2.1; have t2 := P8.out.c.2.2; have u0 := R8.out.c.1; have u1 := R8.out.c.2.1; have u2 := R8.out.c.2.2; have f0 := R8.out.fz 0; have f1 := R8.out.fz 1; have f2 := R8.out.fz 2; have O8 := hide ho5; have BB8 := hide (A0.out.trans (B8.mono (by omega))); clear ho5 hg5 B8)
  all_goals
    go_wp2
    refine bodyPost_ret (v := .agg #[.slice (some ⟨g5, 0, none⟩) n cap5, .int .i64 xl, .int .i64 xh]) (by simp [results, Tryz.results193, go_sem, u0, u1, u2]) rfl ?_
    refine ⟨g5, cap5, rfl, ?_, ((BB8.out.setCell (by simp) _).setCell (by simp) _).setCell (by simp) _⟩
    have h9 := O8.out
    rw [Nat.zero_add, List.nil_append] at h9
    refine owns_base (owns_of_block h9 fun q hq => ?_) (by omega)
    have := (h9.lt q hq).1
    rw [heap_setCell_other _ _ _ _ (by show q ≠ w.heap.size + 1; omega), heap_setCell_other _ _ _ _ (by show q ≠ w.heap.size + 1; omega), heap_setCell_other _ _ _ _ (by show q ≠ w.heap.size + 1; omega)]
end Go.Proofs.YtbgngikejgihgagGreatDoor
