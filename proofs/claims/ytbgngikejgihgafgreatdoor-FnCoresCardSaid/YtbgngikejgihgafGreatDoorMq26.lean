import Derived.Test.YtbgngikejgihgafGreatDoorMq25
namespace Go.Proofs.YtbgngikejgihgafGreatDoor
open Go Go.RowKit
set_option linter.unusedVariables false
set_option maxRecDepth 100000
set_option maxHeartbeats 8000000
section
variable {α : Type} {z : α}
theorem jx (a b : List α) (i : Nat) : (a ++ b).getD i z = if i < a.length then a.getD i z else b.getD (i - a.length) z := by
 simp only [List.getD_eq_getElem?_getD, List.getElem?_append]
 split <;> rfl
theorem jP (a : List α) (n i : Nat) : (a.take n).getD i z = if i < n then a.getD i z else z := by
 simp only [List.getD_eq_getElem?_getD, List.getElem?_take]
 split <;> rfl
theorem jQ (a : List α) (n i : Nat) : (a.drop n).getD i z = a.getD (n + i) z := by
 simp only [List.getD_eq_getElem?_getD, List.getElem?_drop]
theorem Zd (n i : Nat) : (List.replicate n (z : α)).getD i z = z := by
 simp only [List.getD_eq_getElem?_getD, List.getElem?_replicate]
 split <;> rfl
theorem YN {a b : List α} (hl : a.length = b.length) (h : ∀ i, i < a.length -> a.getD i z = b.getD i z) : a = b := by
 apply List.ext_getElem hl;intro i h1 h2;have := h i h1;simpa [List.getD_eq_getElem?_getD, h1, h2] using this
def zP (zs : List α) (lo hi : Nat) : List α := zs.take lo ++ zs.drop hi
def glayA (z : α) (xs : List α) (p n : Nat) : List α := xs.take p ++ (List.replicate (n - xs.length) z ++ xs.drop p)
structure GVA (z : α) (zs : List α) (lo hi : Nat) : Prop where
 a : lo <= hi
 b : hi <= zs.length
 zz : ∀ i, lo <= i -> i < hi -> zs.getD i z = z
 c : zs.length <= 65536
 t : zs.length - (hi - lo) <= 16384
theorem yB {zs : List α} {lo hi : Nat} (h1 : lo <= hi) (h2 : hi <= zs.length) : (zP zs lo hi).length = zs.length - (hi - lo) := by
 simp only [zP, List.length_append, List.length_take, List.length_drop]; omega
theorem zI {xs : List α} {p n : Nat} (h1 : p <= xs.length) (h2 : xs.length <= n) : (glayA z xs p n).length = n := by
 simp only [glayA, List.length_append, List.length_take, List.length_drop, List.length_replicate]; omega
theorem yI (L : List α) (off : Nat) (cs : List α) (i : Nat) (h : off + cs.length <= L.length) : (splice L off cs).getD i z = if i < off then L.getD i z else if i < off + cs.length then cs.getD (i - off) z else L.getD i z := by
 simp only [splice, jx, jP, jQ, List.length_take]
 repeat' split
 all_goals first
  | omega
  | rfl
  | (congr 1; omega)
theorem Kj {zs : List α} {lo hi p : Nat} (h : GVA z zs lo hi) (hp : p < lo) :
  splice (splice zs (p + (hi - lo)) ((zs.drop p).take (lo - p))) p (List.replicate (min lo (p + (hi - lo)) - p) z) = glayA z (zP zs lo hi) p zs.length := by
 have h1 := h.a;have h2 := h.b
 have e0 : ((zs.drop p).take (lo - p)).length = lo - p := by simp only [List.length_take, List.length_drop]; omega
 have e1 : (splice zs (p + (hi - lo)) ((zs.drop p).take (lo - p))).length = zs.length := length_splice _ _ _ (by rw [e0]; omega)
 have hL : (zP zs lo hi).length = zs.length - (hi - lo) := yB h1 h2
 have e2 : (splice (splice zs (p + (hi - lo)) ((zs.drop p).take (lo - p))) p (List.replicate (min lo (p + (hi - lo)) - p) z)).length = zs.length := by
  rw [length_splice _ _ _ (by rw [e1, List.length_replicate]; omega), e1]
 apply YN (z := z)
 ·rw [e2, zI (by omega) (by omega)]
 ·intro i hi'
  rw [e2] at hi'
  rw [yI _ _ _ _ (by rw [e1, List.length_replicate]; omega), yI _ _ _ _ (by rw [e0]; omega)]
  simp only [glayA, jx, jP, jQ, Zd, zP, List.length_take, List.length_drop, List.length_replicate, List.length_append]
  repeat' split
  all_goals first
   | omega
   | rfl
   | (congr 1; omega)
   | (apply h.zz <;> omega)
   | (symm; apply h.zz <;> omega)
theorem zCy {zs : List α} {lo hi p : Nat} (h : GVA z zs lo hi) (hp : lo <= p) (hq : p + (hi - lo) <= zs.length) :
  splice (splice zs lo ((zs.drop hi).take (p + (hi - lo) - hi))) (max hi p) (List.replicate (p + (hi - lo) - max hi p) z) = glayA z (zP zs lo hi) p zs.length := by
 have h1 := h.a;have h2 := h.b
 have e0 : ((zs.drop hi).take (p + (hi - lo) - hi)).length = p - lo := by simp only [List.length_take, List.length_drop]; omega
 have e1 : (splice zs lo ((zs.drop hi).take (p + (hi - lo) - hi))).length = zs.length := length_splice _ _ _ (by rw [e0]; omega)
 have hL : (zP zs lo hi).length = zs.length - (hi - lo) := yB h1 h2
 have e2 : (splice (splice zs lo ((zs.drop hi).take (p + (hi - lo) - hi))) (max hi p) (List.replicate (p + (hi - lo) - max hi p) z)).length = zs.length := by
  rw [length_splice _ _ _ (by rw [e1, List.length_replicate]; omega), e1]
 apply YN (z := z)
 ·rw [e2, zI (by omega) (by omega)]
 ·intro i hi'
  rw [e2] at hi'
  rw [yI _ _ _ _ (by rw [e1, List.length_replicate]; omega), yI _ _ _ _ (by rw [e0]; omega)]
  simp only [glayA, jx, jP, jQ, Zd, zP, List.length_take, List.length_drop, List.length_replicate, List.length_append]
  repeat' split
  all_goals first
   | omega
   | rfl
   | (congr 1; omega)
   | (apply h.zz <;> omega)
   | (symm; apply h.zz <;> omega)
theorem ggrowA {zs : List α} {lo hi n : Nat} (h1 : lo <= hi) (h2 : hi <= zs.length) (hn : zs.length <= n) :
  splice (splice (List.replicate n z) 0 (zs.take lo)) (n - (zs.length - hi)) (zs.drop hi) = glayA z (zP zs lo hi) lo n := by
 have e0 : (splice (List.replicate n (z : α)) 0 (zs.take lo)).length = n := by
  rw [length_splice _ _ _ (by simp only [List.length_take, List.length_replicate]; omega), List.length_replicate]
 have hL : (zP zs lo hi).length = zs.length - (hi - lo) := yB h1 h2
 have e2 : (splice (splice (List.replicate n z) 0 (zs.take lo)) (n - (zs.length - hi)) (zs.drop hi)).length = n := by
  rw [length_splice _ _ _ (by rw [e0, List.length_drop]; omega), e0]
 apply YN (z := z)
 ·rw [e2, zI (by omega) (by omega)]
 ·intro i hi'
  rw [e2] at hi'
  rw [yI _ _ _ _ (by rw [e0, List.length_drop]; omega), yI _ _ _ _ (by simp only [List.length_take, List.length_replicate]; omega)]
  simp only [glayA, jx, jP, jQ, Zd, zP, List.length_take, List.length_drop, List.length_replicate, List.length_append]
  repeat' split
  all_goals first
   | omega
   | rfl
   | (congr 1; omega)
theorem Kk {xs : List α} {p n : Nat} (h1 : p <= xs.length) (h2 : xs.length <= n) (h3 : n <= 65536) (h4 : xs.length <= 16384) : GVA z (glayA z xs p n) p (p + (n - xs.length)) := by
 refine ⟨by omega, by rw [zI h1 h2]; omega, fun i a b => ?_, by rw [zI h1 h2]; exact h3, by rw [zI h1 h2]; omega⟩
 simp only [glayA, jx, jP, jQ, Zd, List.length_take, List.length_replicate]
 repeat' split
 all_goals first | omega | rfl
theorem zAo {xs : List α} {p n : Nat} (h1 : p <= xs.length) (h2 : xs.length <= n) : zP (glayA z xs p n) p (p + (n - xs.length)) = xs := by
 unfold zP
 rw [glayA, List.take_append_of_le_length (by simp only [List.length_take]; omega), List.take_of_length_le (by simp only [List.length_take]; omega)]
 rw [<- List.append_assoc, List.drop_append_of_le_length (by simp only [List.length_append, List.length_take, List.length_replicate]; omega), List.drop_of_length_le (by simp only [List.length_append, List.length_take, List.length_replicate]; omega), List.nil_append, List.take_append_drop]
theorem zCz {xs ts : List α} {p n : Nat} (h1 : p <= xs.length) (h2 : xs.length + ts.length <= n) :
  splice (glayA z xs p n) p ts = glayA z (xs.take p ++ (ts ++ xs.drop p)) (p + ts.length) n := by
 have e0 : (glayA z xs p n).length = n := zI h1 (by omega)
 have e1 : (xs.take p ++ (ts ++ xs.drop p)).length = xs.length + ts.length := by simp only [List.length_append, List.length_take, List.length_drop]; omega
 apply YN (z := z)
 ·rw [length_splice _ _ _ (by omega), e0, zI (by omega) (by omega)]
 ·intro i hi
  rw [length_splice _ _ _ (by omega), e0] at hi
  rw [yI _ _ _ _ (by omega)]
  simp only [glayA, jx, jP, jQ, Zd, List.length_take, List.length_drop, List.length_replicate, List.length_append]
  repeat' split
  all_goals first
   | omega
   | rfl
   | (congr 1; omega)
theorem zD0 {xs : List α} {p q n : Nat} (h1 : p <= q) (h2 : q <= xs.length) (h3 : xs.length <= n) :
  splice (glayA z xs p n) (p + (n - xs.length)) (List.replicate (q - p) z) = glayA z (xs.take p ++ xs.drop q) p n := by
 have e0 : (glayA z xs p n).length = n := zI (by omega) (by omega)
 have e1 : (xs.take p ++ xs.drop q).length = xs.length - (q - p) := by simp only [List.length_append, List.length_take, List.length_drop]; omega
 apply YN (z := z)
 ·rw [length_splice _ _ _ (by rw [List.length_replicate]; omega), e0, zI (by omega) (by omega)]
 ·intro i hi
  rw [length_splice _ _ _ (by rw [List.length_replicate]; omega), e0] at hi
  rw [yI _ _ _ _ (by rw [List.length_replicate]; omega)]
  simp only [glayA, jx, jP, jQ, Zd, List.length_take, List.length_drop, List.length_replicate, List.length_append]
  repeat' split
  all_goals first
   | omega
   | rfl
   | (congr 1; omega)
end
abbrev T3v := Value × Value × Value
def fl3 : List T3v -> List Value
 | [] => []
 | x :: R => x.1 :: x.2.1 :: x.2.2 :: fl3 R
theorem zF (R : List T3v) : (fl3 R).length = R.length * 3 := by
 induction R with
 | nil => rfl
 | cons x R ih => simp only [fl3, List.length_cons, ih]; omega
theorem zC0 (a b : List T3v) : fl3 (a ++ b) = fl3 a ++ fl3 b := by
 induction a with
 | nil => rfl
 | cons x a ih => simp only [List.cons_append, fl3, ih]
theorem JY (R : List T3v) (n : Nat) : (fl3 R).take (n * 3) = fl3 (R.take n) := by
 induction n generalizing R with
 | zero => simp [fl3]
 | succ n ih =>
  cases R with
  | nil => simp [fl3]
  | cons x R =>
   rw [show (n + 1) * 3 = n * 3 + 1 + 1 + 1 by omega]
   simp only [fl3, List.take_succ_cons, ih]
theorem JZ (R : List T3v) (n : Nat) : (fl3 R).drop (n * 3) = fl3 (R.drop n) := by
 induction n generalizing R with
 | zero => simp
 | succ n ih =>
  cases R with
  | nil => simp [fl3]
  | cons x R =>
   rw [show (n + 1) * 3 = n * 3 + 1 + 1 + 1 by omega]
   simp only [fl3, List.drop_succ_cons, ih]
theorem zS {R cs : List T3v} {sp : List Value} {off : Nat} (h : off + cs.length <= R.length) : splice (fl3 R ++ sp) (off * 3) (fl3 cs) = fl3 (splice R off cs) ++ sp := by
 unfold splice;have h1 := zF R;have h2 := zF cs
 rw [zC0, zC0, List.take_append_of_le_length (by omega), List.drop_append_of_le_length (by omega), JY, h2, show off * 3 + cs.length * 3 = (off + cs.length) * 3 by omega, JZ]
 simp only [List.append_assoc]
theorem fl3_get {R : List T3v} {i : Nat} {x : T3v} (h : R[i]? = some x) : (fl3 R)[i * 3]? = some x.1 ∧ (fl3 R)[i * 3 + 1]? = some x.2.1 ∧ (fl3 R)[i * 3 + 2]? = some x.2.2 := by
 induction R generalizing i with
 | nil => simp at h
 | cons y R ih =>
  cases i with
  | zero => simp at h; subst h; exact ⟨rfl, rfl, rfl⟩
  | succ i =>
   simp only [List.getElem?_cons_succ] at h;have := ih h
   rw [show (i + 1) * 3 = i * 3 + 1 + 1 + 1 by omega, show i * 3 + 1 + 1 + 1 + 1 = i * 3 + 1 + 1 + 1 + 1 by omega, show i * 3 + 1 + 1 + 1 + 2 = i * 3 + 2 + 1 + 1 + 1 by omega]
   simp only [fl3, List.getElem?_cons_succ];exact this
def One3 (R : List T3v) : Prop := ∀ x ∈ R, x.1.oneCell' = true ∧ x.2.1.oneCell' = true ∧ x.2.2.oneCell' = true
theorem One3.fl {R : List T3v} (h : One3 R) : ∀ v ∈ fl3 R, v.oneCell' = true := by
 induction R with
 | nil => simp [fl3]
 | cons x R ih =>
  intro v hv;simp only [fl3, List.mem_cons] at hv
  have hx := h x (by simp)
  rcases hv with rfl | rfl | rfl | hv
  ·exact hx.1
  ·exact hx.2.1
  ·exact hx.2.2
  ·exact ih (fun y hy => h y (List.mem_cons_of_mem _ hy)) v hv
theorem One3.take {R : List T3v} (h : One3 R) (n : Nat) : One3 (R.take n) := fun x hx => h x (List.mem_of_mem_take hx)
theorem One3.drop {R : List T3v} (h : One3 R) (n : Nat) : One3 (R.drop n) := fun x hx => h x (List.mem_of_mem_drop hx)
theorem One3.app {a b : List T3v} (h : One3 a) (k : One3 b) : One3 (a ++ b) := fun x hx => by
 rcases List.mem_append.1 hx with q | q
 ·exact h x q
 ·exact k x q
section
variable {P : Program}
theorem ZX (w : World) (dT sT ty elem : TypeId) (d a : Option Addr) (dLen dCap sLen sCap : Nat) (hu : P.underlying dT = some (.slice elem)) (hs : (P.info? elem).map (·.size) = some 3) (hn : Nat.min sLen dLen = 0) :
  (Builtin.copy_ #[dT, sT] ty #[.slice d dLen dCap, .slice a sLen sCap]).run P w = .ok (goInt 0) w := by
 cases hq : P.info? elem with
 | none => simp [hq] at hs
 | some i =>
  have hl : ∀ (x : Addr), (loadCells x 0).run P w = .ok #[] w := fun x => by simpa using run_loadCells_list (P := P) w x [] (by simp)
  cases d <;> cases a <;> simp [Builtin.copy_, run_underlying hu, Builtin.lenOf, Builtin.firstCells, sizeOf, typeInfo, hq, hn, storeCells, hl]
theorem Zm (w : World) (dT sT ty elem : TypeId) (g o dLen dCap : Nat) (a : Addr) (sLen sCap : Nat) (cur : Array Value) (t : TypeId) (m : Nat) (cs : List Value)
  (hu : P.underlying dT = some (.slice elem)) (hs : (P.info? elem).map (·.size) = some 3)
  (hg : w.heap[g]? = some (.cells cur t (0, 0))) (hm : m = Nat.min sLen dLen) (hn : cs.length = m * 3)
  (hsrc : ∀ j v, cs[j]? = some v -> w.cell? (a.add j) = some v) (hfit : o + cs.length <= cur.size) (h1 : ∀ v ∈ cs, v.oneCell' = true) :
  (Builtin.copy_ #[dT, sT] ty #[.slice (some ⟨g, o, none⟩) dLen dCap, .slice (some a) sLen sCap]).run P w =
   .ok (goInt m) (w.setRow g (cur.toList.take o ++ cs ++ cur.toList.drop (o + cs.length)).toArray) := by
 have hl := run_loadCells_list (P := P) w a cs hsrc
 have hst := run_storeCells_at P g o t cs 0 cur w hg (by simpa using hfit) h1
 cases hq : P.info? elem with
 | none => simp [hq] at hs
 | some i =>
  have hi : i.size = 3 := by simpa [hq] using hs
  rw [hn] at hl;simp [Builtin.copy_, run_underlying hu, Builtin.lenOf, Builtin.firstCells, sizeOf, typeInfo, hq, hi, <- hm, hl, hst]
theorem ZY {ops : Array Oper} {o : Oper} {a : Act} {w : World} {K : Act -> World -> Prop} {Q : Exit -> Act -> World -> Prop} {E : Prop} (hgd : o.guard = none) (d s : Operand) (dT sT : TypeId)
  (ho : o.op = .call { callee := .builtin .copy, args := #[d, s], argTypes := #[dT, sT] }) (elem : TypeId) (hu : P.underlying dT = some (.slice elem)) (hsz : (P.info? elem).map (·.size) = some 3)
  (dp sp : Option Addr) (dLen dCap sLen sCap : Nat) (hd : a.eval d = .slice dp dLen dCap) (hs : a.eval s = .slice sp sLen sCap)
  (g off : Nat) (cur : List Value) (t : TypeId) (hg : w.heap[g]? = some (.cells cur.toArray t (0, 0))) (m : Nat) (hm : m = Nat.min sLen dLen) (cs : List Value) (hn : cs.length = m * 3)
  (hpos : 0 < m -> dp = some ⟨g, off, none⟩ ∧ ∃ ad, sp = some ad ∧ ∀ j v, cs[j]? = some v -> w.cell? (ad.add j) = some v)
  (hfit : off + cs.length <= cur.length) (h1 : ∀ v ∈ cs, v.oneCell' = true)
  (h : ∀ w', Hid (Row1 w w' g (splice cur off cs) t) -> K (a.put o.dst (goInt m)) w') :
  if Region.wanted o (yielded ops a.tmps) = true then Oper.wp P o a w K Q else E := by
 have hw : Region.wanted o (yielded ops a.tmps) = true := by simp [Region.wanted, hgd]
 rw [if_pos hw]
 by_cases h0 : m = 0
 ·subst h0
  obtain rfl : cs = [] := List.eq_nil_of_length_eq_zero (by omega)
  have hrun := ZX (P := P) w dT sT o.type elem dp sp dLen dCap sLen sCap hu hsz hm.symm;unfold Oper.wp;simp [execOp, ho, resolve, invoke, builtin, hd, hs, hrun, Result.andThen]
  exact h w (hide (by simpa [splice] using Row1.refl hg))
 ·obtain ⟨rfl, ad, rfl, hsrc⟩ := hpos (by omega)
  have hrun := Zm (P := P) w dT sT o.type elem g off dLen dCap ad sLen sCap cur.toArray t m cs hu hsz hg hm hn hsrc (by simpa using hfit) h1
  unfold Oper.wp;simp [execOp, ho, resolve, invoke, builtin, hd, hs, hrun, Result.andThen]
  exact h _ (hide (by simpa [splice] using Row1.of_set (splice cur off cs) hg))
theorem zQ {w : World} {ops : Array Oper} {rest : List Oper} {o : Oper} {a : Act} {Q : Exit -> Act -> World -> Prop} (hgd : o.guard = none) (d s : Operand) (dT sT : TypeId)
  (ho : o.op = .call { callee := .builtin .copy, args := #[d, s], argTypes := #[dT, sT] }) (elem : TypeId) (hu : P.underlying dT = some (.slice elem)) (hsz : (P.info? elem).map (·.size) = some 3)
  (dp sp : Option Addr) (dLen dCap sLen sCap : Nat) (hd : a.eval d = .slice dp dLen dCap) (hs : a.eval s = .slice sp sLen sCap)
  (g off : Nat) (cur : List Value) (t : TypeId) (hg : w.heap[g]? = some (.cells cur.toArray t (0, 0))) (m : Nat) (hm : m = Nat.min sLen dLen) (cs : List Value) (hn : cs.length = m * 3)
  (hpos : 0 < m -> dp = some ⟨g, off, none⟩ ∧ ∃ ad, sp = some ad ∧ ∀ j v, cs[j]? = some v -> w.cell? (ad.add j) = some v)
  (hfit : off + cs.length <= cur.length) (h1 : ∀ v ∈ cs, v.oneCell' = true)
  (h : ∀ w', Hid (Row1 w w' g (splice cur off cs) t) -> wpList P ops Q rest (a.put o.dst (goInt m)) w') :
  wpList P ops Q (o :: rest) a w := by
 refine wpList_plain hgd fun K hK => ?_
 by_cases h0 : m = 0
 ·subst h0
  obtain rfl : cs = [] := List.eq_nil_of_length_eq_zero (by omega)
  have hrun := ZX (P := P) w dT sT o.type elem dp sp dLen dCap sLen sCap hu hsz hm.symm;unfold Oper.wp;simp [execOp, ho, resolve, invoke, builtin, hd, hs, hrun, Result.andThen]
  exact hK _ _ (h w (hide (by simpa [splice] using Row1.refl hg)))
 ·obtain ⟨rfl, ad, rfl, hsrc⟩ := hpos (by omega)
  have hrun := Zm (P := P) w dT sT o.type elem g off dLen dCap ad sLen sCap cur.toArray t m cs hu hsz hg hm hn hsrc (by simpa using hfit) h1
  unfold Oper.wp;simp [execOp, ho, resolve, invoke, builtin, hd, hs, hrun, Result.andThen]
  exact hK _ _ (h _ (hide (by simpa [splice] using Row1.of_set (splice cur off cs) hg)))
theorem zero3 (a b c : Value) (n : Nat) : (Builtin.zeroCells #[a, b, c] n).toList = fl3 (List.replicate n (a, b, c)) := by
 apply List.ext_getElem?;intro i;have hl := zF (List.replicate n (a, b, c));rw [List.length_replicate] at hl
 by_cases hi : i < n * 3
 ·have h1 : i / 3 < n := by omega
  have hg := fl3_get (R := List.replicate n (a, b, c)) (i := i / 3) (x := (a, b, c)) (by simp [h1])
  have hm : i % 3 = 0 ∨ i % 3 = 1 ∨ i % 3 = 2 := by omega
  have hz : (Builtin.zeroCells #[a, b, c] n).toList[i]? = some (#[a, b, c][i % 3]!) := by
   simp [Builtin.zeroCells, hi]
  rw [hz]
  rcases hm with hm | hm | hm
  ·rw [show i / 3 * 3 = i by omega] at hg
   rw [hg.1, hm]; rfl
  ·rw [show i / 3 * 3 + 1 = i by omega] at hg
   rw [hg.2.1, hm]; rfl
  ·rw [show i / 3 * 3 + 2 = i by omega] at hg
   rw [hg.2.2, hm]; rfl
 ·rw [List.getElem?_eq_none (by simp [Builtin.zeroCells]; omega), List.getElem?_eq_none (by omega)]
theorem J0 (w : World) (t e ty : TypeId) (z : Value) (z0 z1 z2 : Value) (ht : P.underlying t = some (.slice e)) (hv : ∀ w, (zeroValue e).run P w = .ok z w) (hz : z.cells = #[z0, z1, z2]) (h1 : z0.oneCell' = true ∧ z1.oneCell' = true ∧ z2.oneCell' = true) (g o n c : Nat) (hn : 0 < n)
  (cur : List Value) (et : TypeId) (hg : w.heap[g]? = some (.cells cur.toArray et (0, 0))) (hfit : o + n * 3 <= cur.length) :
  (Builtin.clear_ #[t] ty #[.slice (some ⟨g, o, none⟩) n c]).run P w = .ok (.tuple #[]) (w.setRow g (splice cur o (fl3 (List.replicate n (z0, z1, z2)))).toArray) := by
 have hzc : (Builtin.zeroCells z.cells n).toList = fl3 (List.replicate n (z0, z1, z2)) := by rw [hz]; exact zero3 z0 z1 z2 n
 have hlen := zF (List.replicate n (z0, z1, z2));rw [List.length_replicate] at hlen
 have hst := run_storeCells_at P g o et (fl3 (List.replicate n (z0, z1, z2))) 0 cur.toArray w hg (by simpa [hlen] using hfit) (One3.fl (fun x hx => by rw [List.eq_of_mem_replicate hx]; exact h1))
 simp only [Nat.add_zero] at hst
 obtain ⟨m, rfl⟩ : ∃ m, n = m + 1 := ⟨n - 1, by omega⟩
 simp [Builtin.clear_, run_underlying ht, hv, hzc, hst, splice]
theorem zY {w : World} {ops : Array Oper} {rest : List Oper} {o : Oper} {a : Act} {Q : Exit -> Act -> World -> Prop} (hgd : o.guard = none) (d : Operand) (dT : TypeId)
  (ho : o.op = .call { callee := .builtin .clear, args := #[d], argTypes := #[dT] }) (e : TypeId) (hu : P.underlying dT = some (.slice e)) (z z0 z1 z2 : Value) (hv : ∀ w, (zeroValue e).run P w = .ok z w) (hz : z.cells = #[z0, z1, z2]) (h1 : z0.oneCell' = true ∧ z1.oneCell' = true ∧ z2.oneCell' = true)
  (dp : Option Addr) (dLen dCap : Nat) (hd : a.eval d = .slice dp dLen dCap) (g off : Nat) (cur : List Value) (t : TypeId) (hg : w.heap[g]? = some (.cells cur.toArray t (0, 0)))
  (hpos : 0 < dLen -> dp = some ⟨g, off, none⟩) (hfit : off + dLen * 3 <= cur.length)
  (h : ∀ w', Hid (Row1 w w' g (splice cur off (fl3 (List.replicate dLen (z0, z1, z2)))) t) -> wpList P ops Q rest (a.put o.dst (.tuple #[])) w') :
  wpList P ops Q (o :: rest) a w := by
 refine wpList_plain hgd fun K hK => ?_
 by_cases h0 : dLen = 0
 ·subst h0
  have hrun := yj (P := P) w dT e o.type hu dp dCap;unfold Oper.wp;simp [execOp, ho, resolve, invoke, builtin, hd, hrun, Result.andThen]
  exact hK _ _ (h w (hide (by simpa [splice, fl3] using Row1.refl hg)))
 ·obtain rfl := hpos (by omega)
  have hrun := J0 (P := P) w dT e o.type z z0 z1 z2 hu hv hz h1 g off dLen dCap (by omega) cur t hg hfit
  unfold Oper.wp;simp [execOp, ho, resolve, invoke, builtin, hd, hrun, Result.andThen];exact hK _ _ (h _ (hide (Row1.of_set _ hg)))
end
def SlB (w : World) (b : Nat) (v : Value) (l : List Int) : Prop := ∃ off cap, v = .slice (some ⟨b, off, none⟩) l.length cap ∧ ∀ i, i < l.length -> w.cell? ⟨b, off + i, none⟩ = some (.int .i32 (l.getD i 0))
theorem SlB.sl {w w' : World} {b D : Nat} {v : Value} {l : List Int} (h : SlB w b v l) (hb : Below D w w') (hD : b < D) (hw : b < w'.heap.size) : Sl .i32 w' v l := by
 obtain ⟨off, cap, rfl, hc⟩ := h
 exact .inr ⟨b, off, cap, rfl, hw, fun i hi => (hb.cell (p := ⟨b, off + i, none⟩) hD).trans (hc i hi)⟩
structure LnAtB (w : World) (b : Nat) (vals : List Value) (L : List (List Int)) : Prop where
 len : vals.length = L.length
 at_ : ∀ (i : Nat) v l, vals[i]? = some v -> L[i]? = some l -> SlB w b v l
theorem LnAtB.nil (w : World) (b : Nat) : LnAtB w b [] [] := ⟨rfl, fun i v l h => by simp at h⟩
theorem LnAtB.snoc {w : World} {b : Nat} {vals : List Value} {L : List (List Int)} {v : Value} {l : List Int} (h : LnAtB w b vals L) (hs : SlB w b v l) : LnAtB w b (vals ++ [v]) (L ++ [l]) := by
 refine ⟨by simp [h.len], fun i u m hu hm => ?_⟩
 rcases Nat.lt_trichotomy i vals.length with q | q | q
 ·rw [List.getElem?_append_left q] at hu
  rw [List.getElem?_append_left (by rw [<- h.len]; exact q)] at hm
  exact h.at_ i u m hu hm
 ·subst q
  rw [List.getElem?_append_right lR] at hu;rw [h.len, List.getElem?_append_right lR] at hm;simp at hu hm;subst hu hm;exact hs
 ·rw [List.getElem?_eq_none (by simp; omega)] at hu; cases hu
theorem Kl {w : World} {b o c : Nat} {zs : List Int} (hc : ∀ i, i < zs.length -> w.cell? ⟨b, o + i, none⟩ = some (.int .i32 (zs.getD i 0))) {k : Nat} (hk : k <= zs.length) : SlB w b (.slice (some ⟨b, o, none⟩) k c) (zs.take k) := by
 refine ⟨o, c, by rw [List.length_take, Nat.min_eq_left hk], fun i hi => ?_⟩
 rw [List.length_take] at hi
 rw [hc i (by omega)]
 simp [List.getD_eq_getElem?_getD, show i < k by omega]
theorem cutLB (zs : List Int) (b o cap : Nat) (w : World) (hc : ∀ i, i < zs.length -> w.cell? ⟨b, o + i, none⟩ = some (.int .i32 (zs.getD i 0))) (hb : b < w.heap.size) (hn : zs.length <= 1048576) (hcap : zs.length <= cap) (hm : cap <= maxLen) :
  Calls Tryz.prog 80 #[.slice (some ⟨b, o, none⟩) zs.length cap] w fun e w' => ∃ v vals, e = .returned v ∧ w'.ownsRow w.heap.size 25 1 v (lns zs).length vals ∧ LnAtB w b vals (lns zs) ∧ Below w.heap.size w w' := by
 obtain ⟨i0, hi, hz0, hz1, hz2⟩ := info_parts Tryz.infoS;have HC := hide hc;have LL := hide (yg zs);generalize hLZ : lns zs = LZ at *;have HLZ := hide hLZ;generalize hN : zs.length = N at *;have HN := hide hN;clear hc hLZ hN;go_enter Tryz.func80, Tryz.ntmps80;go_wp2_with fail
 go_loopw [0, 3] (fun tx ls wr => ∃ (L : List (List Int)) (rest : List Int) (o' c : Nat) (vals : List Value), LZ = L ++ lns rest ∧ tx = .slice (some ⟨b, o', none⟩) rest.length c ∧ rest.length <= c ∧ c <= maxLen ∧ rest.length <= N ∧
   (∀ i, i < rest.length -> w.cell? ⟨b, o' + i, none⟩ = some (.int .i32 (rest.getD i 0))) ∧ wr.ownsRow w.heap.size 25 1 ls L.length vals ∧ LnAtB w b vals L ∧ Below w.heap.size w wr)
  (fun tx _ _ => lenV tx)
 case atStart => exact ⟨[], zs, o, cap, [], by simp [HLZ.out], by rw [HN.out], by rw [HN.out]; exact hcap, hm, by rw [HN.out]; exact lR, fun i hi => HC.out i (by rw [<- HN.out]; exact hi), World.ownsRow_nil _ _ _ _, LnAtB.nil _ _, Below.refl _ _⟩
 case round =>
  obtain ⟨L, rest, o', c, vals, hL, rfl, hrc, hcm, hrN, hcl, hown, hat, hbw⟩ := hrel;have CL := hide hcl;have HO := hide hown;have HAT := hide hat;have HBW := hide hbw;have HL := hide hL
  have IX := hide (zAf rest b o' c wr (fun i hi => (hbw.cell (p := ⟨b, o' + i, none⟩) hb).trans (hcl i hi)) (by omega) hrc hcm)
  have hsz := hbw.size
  have hll : L.length <= 1048577 := by have h1 := LL.out.2; have h2 := HL.out; rw [h2, List.length_append] at h1; omega
  have hVN := HO.out.1;unfold ix at IX;unfold maxLen at hcm
  by_cases hf : fb rest < rest.length
  ·rw [if_pos hf] at IX
   have EL := hide (fb_lns hf);have ST := hide (Kl (c := c) CL.out (Nat.le_of_lt hf));generalize hF : fb rest = F at *;generalize hR : rest.length = R at *;have HR := hide hR;clear hcl hown hat hbw hL hR hVN;go_wp2_with fail;refine IX.out.mono ?_;rintro e w1 ⟨rfl, hw⟩;have hw2 := hw.symm;subst hw2;clear hw IX
   have hF0 : ¬ (F : Int) < 0 := by omega
   have hFc : (F : Int) <= c := by omega
   have hFc1 : (F : Int) + 1 <= c := by omega
   have hFc2 : (F : Int) + 1 <= R := by omega
   have NC := hide (zo wr 25 [.slice (some ⟨b, o', none⟩) F c])
   by_cases hcF : c = F + 1
   ·subst hcF
    go_wp2_with (at_builtin; refine wpList_append_own _ rfl _ _ 138 rfl w.heap.size 25 i0 (.slice none 0 0) 1 24 Tryz.underlying138 hi hz0 hz1 hz2 rfl (by decide) _ _ _ rfl (HO.out.alloc _) ⟨wr.heap.size, 0, none⟩ 1 1 [.slice (some ⟨b, o', none⟩) F (F + 1)] rfl rfl NC.out (by intro u hu; simp at hu; subst hu; rfl) (by unfold maxLen; omega) (by omega) (by simp; omega) ?_; intro v2 w2 ho2 hg2 _)
    have B2 := hide ((HBW.out.alloc (by omega) (.cells #[.slice (some ⟨b, o', none⟩) F (F + 1)] 25)).grown hg2 (by simp; omega) (fun q hq => (HO.out.lt q hq).1))
    have O2 := hide ho2;clear ho2 hg2;go_wp2;go_roundw
    case rel =>
     have eR : rest.drop (F + 1) = [] := List.drop_of_length_le (by rw [HR.out]; omega)
     refine ⟨L ++ [rest.take F], [], o', 0, vals ++ [.slice (some ⟨b, o', none⟩) F (F + 1)], ?_, ?_, Nat.zero_le _, by unfold maxLen; omega, Nat.zero_le _, fun i hi => by simp at hi, ?_, HAT.out.snoc ST.out, B2.out⟩
     ·rw [HL.out, EL.out, eR]; simp
     ·simp
     ·rw [List.length_append]; exact O2.out
    case measure => simp [lenV]; omega
   ·have hcF' : ¬ ((c : Int) = F + 1) := by omega
    have hcl' : (F : Int) + 1 < c := by omega
    go_wp2_with (at_builtin; refine wpList_append_own _ rfl _ _ 138 rfl w.heap.size 25 i0 (.slice none 0 0) 1 24 Tryz.underlying138 hi hz0 hz1 hz2 rfl (by decide) _ _ _ rfl (HO.out.alloc _) ⟨wr.heap.size, 0, none⟩ 1 1 [.slice (some ⟨b, o', none⟩) F c] rfl rfl NC.out (by intro u hu; simp at hu; subst hu; rfl) (by unfold maxLen; omega) (by omega) (by simp; omega) ?_; intro v2 w2 ho2 hg2 _)
    have B2 := hide ((HBW.out.alloc (by omega) (.cells #[.slice (some ⟨b, o', none⟩) F c] 25)).grown hg2 (by simp; omega) (fun q hq => (HO.out.lt q hq).1))
    have O2 := hide ho2;clear ho2 hg2;go_wp2;go_roundw
    case rel =>
     have eR : (rest.drop (F + 1)).length = R - (F + 1) := by rw [List.length_drop, HR.out]
     refine ⟨L ++ [rest.take F], rest.drop (F + 1), o' + (F + 1), c - (F + 1), vals ++ [.slice (some ⟨b, o', none⟩) F c], ?_, ?_, by rw [eR]; omega, by unfold maxLen; omega, by rw [eR]; omega, ?_, ?_, HAT.out.snoc ST.out, B2.out⟩
     ·rw [HL.out, EL.out]; simp
     ·rw [eR]
     ·intro i hi
      rw [eR] at hi
      rw [Nat.add_assoc, CL.out (F + 1 + i) (by omega)]
      simp [List.getD_eq_getElem?_getD, List.getElem?_drop]
     ·rw [List.length_append]; exact O2.out
    case measure => simp [lenV]; omega
  ·rw [if_neg hf] at IX
   have hfe : fb rest = rest.length := by have := fb_le rest; omega
   have EL := hide (zBt hfe);have ST := hide (Kl (c := c) CL.out lR);rw [List.take_of_length_le lR] at ST;generalize hR : rest.length = R at *;clear hcl hown hat hbw hL hR hVN hfe hf;go_wp2_with fail;refine IX.out.mono ?_;rintro e w1 ⟨rfl, hw⟩;have hw2 := hw.symm;subst hw2;clear hw IX;have NC := hide (zo wr 25 [.slice (some ⟨b, o', none⟩) R c])
   go_wp2_with (at_builtin; refine wpList_append_own _ rfl _ _ 138 rfl w.heap.size 25 i0 (.slice none 0 0) 1 24 Tryz.underlying138 hi hz0 hz1 hz2 rfl (by decide) _ _ _ rfl (HO.out.alloc _) ⟨wr.heap.size, 0, none⟩ 1 1 [.slice (some ⟨b, o', none⟩) R c] rfl rfl NC.out (by intro u hu; simp at hu; subst hu; rfl) (by unfold maxLen; omega) (by omega) (by simp; omega) ?_; intro v2 w2 ho2 hg2 _)
   have B2 := hide ((HBW.out.alloc (by omega) (.cells #[.slice (some ⟨b, o', none⟩) R c] 25)).grown hg2 (by simp; omega) (fun q hq => (HO.out.lt q hq).1))
   have O2 := hide ho2;clear ho2 hg2;go_wp2;go_ret;refine ⟨_, vals ++ [.slice (some ⟨b, o', none⟩) R c], rfl, ?_, ?_, B2.out⟩
   ·rw [HL.out, EL.out, List.length_append]; exact O2.out
   ·rw [HL.out, EL.out]; exact HAT.out.snoc ST.out
end Go.Proofs.YtbgngikejgihgafGreatDoor
