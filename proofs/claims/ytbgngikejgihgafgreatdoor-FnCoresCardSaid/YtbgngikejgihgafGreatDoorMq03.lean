import Derived.Test.YtbgngikejgihgafGreatDoorMq02
namespace Go.Proofs.YtbgngikejgihgafGreatDoor
open Go Go.RowKit
set_option linter.unusedVariables false
set_option maxRecDepth 100000
set_option maxHeartbeats 8000000
def bkn (zs : List Int) : Nat := (zs.filter fun z => z == 10).length
theorem yr (zs : List Int) : brk zs = (bkn zs : Nat) := rfl
theorem yn (a b : List Int) : bkn (a ++ b) = bkn a + bkn b := by simp [bkn]
theorem jL (a b : List Int) : brk (a ++ b) = brk a + brk b := by
 rw [yr, yr, yr, yn]; omega
theorem jM (z : Int) (zs : List Int) : bkn (z :: zs) = (if z = 10 then 1 else 0) + bkn zs := by
 by_cases h : z = 10
 ·simp [bkn, h]; omega
 ·simp [bkn, h]
theorem XI (zs : List Int) : bkn zs <= zs.length := List.length_filter_le _ _
theorem JK (zs : List Int) (k : Nat) : bkn (zs.take k) <= bkn zs := by
 have := yn (zs.take k) (zs.drop k);rw [List.take_append_drop] at this;omega
def bb : List Int -> Nat -> Nat
 | [], _ => 0
 | z :: zs, n => if z = 10 then (if n = 0 then 1 else 1 + bb zs (n - 1)) else 1 + bb zs n
theorem Yy : ∀ (a b : List Int) (n : Nat), n < bkn a -> bb (a ++ b) n = bb a n
 | [], b, n, h => by simp [bkn] at h
 | z :: a, b, n, h => by
  rw [jM] at h;simp only [List.cons_append, bb]
  by_cases hz : z = 10
  ·simp only [if_pos hz] at h |-
   by_cases hn : n = 0
   ·rw [if_pos hn, if_pos hn]
   ·rw [if_neg hn, if_neg hn, Yy a b (n - 1) (by omega)]
  ·simp only [if_neg hz] at h |-
   rw [Yy a b n (by omega)]
theorem jN : ∀ (a b : List Int) (n : Nat), bkn a <= n -> n < bkn a + bkn b -> bb (a ++ b) n = a.length + bb b (n - bkn a)
 | [], b, n, h, _ => by simp [bkn]
 | z :: a, b, n, h, h2 => by
  rw [jM] at h h2 |-;simp only [List.cons_append, bb]
  by_cases hz : z = 10
  ·simp only [if_pos hz] at h h2 |-
   rw [if_neg (by omega), jN a b (n - 1) (by omega) (by omega)]
   rw [show n - 1 - bkn a = n - (1 + bkn a) by omega]
   simp; omega
  ·simp only [if_neg hz] at h h2 |-
   rw [jN a b n (by omega) (by omega)]
   rw [show n - (0 + bkn a) = n - bkn a by omega]
   simp; omega
theorem ZG : ∀ (zs : List Int) (k n : Nat), n < bkn zs -> (bkn (zs.take k) <= n ↔ k < bb zs n)
 | [], k, n, h => by simp [bkn] at h
 | z :: zs, 0, n, h => by
  simp only [List.take_zero, bb]
  refine ⟨fun _ => ?_, fun _ => by simp [bkn]⟩
  split
  ·split <;> omega
  ·omega
 | z :: zs, k + 1, n, h => by
  rw [jM] at h;rw [List.take_succ_cons, jM];simp only [bb]
  by_cases hz : z = 10
  ·simp only [if_pos hz] at h |-
   by_cases hn : n = 0
   ·rw [if_pos hn]; omega
   ·rw [if_neg hn]
    have := ZG zs k (n - 1) (by omega)
    omega
  ·simp only [if_neg hz] at h |-
   have := ZG zs k n (by omega)
   omega
theorem bb_le : ∀ (zs : List Int) (n : Nat), bb zs n <= zs.length
 | [], _ => by simp [bb]
 | z :: zs, n => by
  have := bb_le zs n;have := bb_le zs (n - 1);simp only [bb, List.length_cons]
  split
  ·split <;> omega
  ·omega
def ls (zs : List Int) (l : Nat) : Nat := if l = 0 then 0 else bb zs (l - 1)
theorem ls_le (zs : List Int) (l : Nat) : ls zs l <= zs.length := by
 unfold ls; split
 ·omega
 ·exact bb_le _ _
theorem ls_low (zs : List Int) (k : Nat) (hk : k <= zs.length) : ls zs (bkn (zs.take k)) <= k := by
 unfold ls
 split
 ·omega
 ·rename_i h
  have h2 := JK zs k
  have := ZG zs k (bkn (zs.take k) - 1) (by omega)
  omega
theorem Zj (zs : List Int) (k : Nat) (h : k < zs.length) : bkn (zs.take (k + 1)) = bkn (zs.take k) + if zs.getD k 0 = 10 then 1 else 0 := by
 have := JJ zs k h;rw [yr, yr] at this
 split at this
 ·rename_i h1; rw [if_pos h1]; omega
 ·rename_i h1; rw [if_neg h1]; omega
def le (zs : List Int) (l : Nat) : Nat := if l < bkn zs then bb zs l - 1 else zs.length
def ptx (S : List Int) (p : Pc) : List Int := (S.drop p.off.toNat).take p.len.toNat
def txt (S : List Int) : List It -> List Int
 | [] => []
 | x :: xs => ptx S x.pc ++ txt S xs
theorem zA5 (S : List Int) (a b : List It) : txt S (a ++ b) = txt S a ++ txt S b := by
 induction a with
 | nil => rfl
 | cons x a ih => simp [txt, ih]
def WP (S : List Int) (p : Pc) : Prop := 0 <= p.off ∧ 0 <= p.len ∧ p.off + p.len <= S.length ∧ p.brk = brk (ptx S p)
theorem WP.nil (S : List Int) : WP S ⟨0, 0, 0⟩ := ⟨by simp, by simp, by simp, by simp [ptx, brk]⟩
theorem jB {S : List Int} {p : Pc} (h : WP S p) : ((ptx S p).length : Int) = p.len := by
 obtain ⟨h1, h2, h3, _⟩ := h;simp only [ptx, List.length_take, List.length_drop];omega
theorem XJ {S : List Int} : ∀ {xs : List It}, (∀ x ∈ xs, WP S x.pc) -> ((txt S xs).length : Int) = total xs
 | [], _ => rfl
 | x :: xs, h => by
  have h1 := jB (h x (by simp))
  have h2 := XJ (S := S) (xs := xs) (fun y hy => h y (by simp [hy]))
  simp only [txt, total, List.length_append];omega
theorem zBh {S : List Int} : ∀ {xs : List It}, (∀ x ∈ xs, WP S x.pc) -> brk (txt S xs) = brks xs
 | [], _ => rfl
 | x :: xs, h => by
  have h1 := (h x (by simp)).2.2.2
  have h2 := zBh (S := S) (xs := xs) (fun y hy => h y (by simp [hy]))
  simp only [txt, brks, jL];omega
def AT.tx (S : List Int) : AT -> List Int
 | .nil => []
 | .node l p r => l.tx S ++ (ptx S p ++ r.tx S)
def AT.wp (S : List Int) : AT -> Prop
 | .nil => True
 | .node l p r => l.wp S ∧ WP S p ∧ r.wp S
theorem ZH (S : List Int) : ∀ (T : AT) (d : Int), txt S (T.told d) = T.tx S
 | .nil, _ => rfl
 | .node l p r, d => by simp only [AT.told, zA5, txt, AT.tx, ZH S l, ZH S r]
theorem YD (S : List Int) : ∀ (T : AT) (d : Int), (∀ x ∈ T.told d, WP S x.pc) ↔ T.wp S
 | .nil, _ => by simp [AT.told, AT.wp]
 | .node l p r, d => by
  have h1 := YD S l (d + 1);have h2 := YD S r (d + 1);simp only [AT.told, AT.wp, List.mem_append, List.mem_cons];constructor
  ·intro h
   exact ⟨h1.1 fun x hx => h x (.inl hx), h _ (.inr (.inl rfl)), h2.1 fun x hx => h x (.inr (.inr hx))⟩
  ·rintro ⟨a, b, c⟩ x (hx | rfl | hx)
   ·exact h1.2 a x hx
   ·exact b
   ·exact h2.2 c x hx
theorem AT.tx_len {S : List Int} {T : AT} (h : T.wp S) : ((T.tx S).length : Int) = T.rns := by
 rw [<- ZH S T 0, XJ ((YD S T 0).2 h), AT.rns_told]
theorem AT.tx_brk {S : List Int} {T : AT} (h : T.wp S) : brk (T.tx S) = T.bks := by
 rw [<- ZH S T 0, zBh ((YD S T 0).2 h), AT.bks_told]
def seekP (m : Pc -> Int) : AT -> Int -> Pc
 | .nil, _ => ⟨0, 0, 0⟩
 | .node l p r, k =>
  if k < sumM m (l.told 0) then seekP m l k
  else if k - sumM m (l.told 0) < m p then p
  else seekP m r (k - sumM m (l.told 0) - m p)
theorem Zs (S : List Int) : ∀ (T : AT) (k : Int), T.wp S -> 0 <= k -> k <= T.rns ->
  WP S (seekP (fun p => p.len) T k) ∧ 0 <= (seekT (fun p => p.len) T k).2.2.2.1 ∧ (seekT (fun p => p.len) T k).2.2.2.1 <= (seekP (fun p => p.len) T k).len ∧
  brk ((T.tx S).take k.toNat) = (seekT (fun p => p.len) T k).2.2.1 + brk ((ptx S (seekP (fun p => p.len) T k)).take (seekT (fun p => p.len) T k).2.2.2.1.toNat)
 | .nil, k, _, h0, h1 => by
  simp only [AT.rns] at h1
  obtain rfl : k = 0 := by omega
  exact ⟨WP.nil S, by simp [seekT], by simp [seekT, seekP], by simp [seekT, seekP, AT.tx, brk, ptx]⟩
 | .node l p r, k, hw, h0, h1 => by
  obtain ⟨hl, hp, hr⟩ := hw
  have e0 : sumM (fun p => p.len) (l.told 0) = l.rns := by rw [YC, AT.rns_told]
  have el := AT.tx_len hl;have ep := jB hp;have bl := AT.tx_brk hl;have bp := hp.2.2.2;have hp2 := hp.2.1;simp only [AT.rns] at h1;simp only [seekT, seekP, AT.tx, e0]
  by_cases c1 : k < l.rns
  ·simp only [if_pos c1]
   obtain ⟨a, b, c, d⟩ := Zs S l k hl h0 (by omega)
   refine ⟨a, b, c, ?_⟩
   rw [List.take_append_of_le_length (by omega), d]
  ·simp only [if_neg c1]
   by_cases c2 : k - l.rns < p.len
   ·simp only [if_pos c2]
    refine ⟨hp, by omega, by omega, ?_⟩
    rw [List.take_append, List.take_of_length_le (by omega), List.take_append_of_le_length (by omega), jL, bl, show k.toNat - (l.tx S).length = (k - l.rns).toNat by omega]
   ·simp only [if_neg c2]
    obtain ⟨a, b, c, d⟩ := Zs S r (k - l.rns - p.len) hr (by omega) (by omega)
    refine ⟨a, b, c, ?_⟩
    rw [List.take_append, List.take_of_length_le (by omega), List.take_append, List.take_of_length_le (l := ptx S p) (by omega), jL, jL, bl, <- bp, show k.toNat - (l.tx S).length - (ptx S p).length = (k - l.rns - p.len).toNat by omega, d]
    omega
theorem ZI (S : List Int) : ∀ (T : AT) (j : Int), T.wp S -> 0 <= j -> j < T.bks ->
  WP S (seekP (fun p => p.brk) T j) ∧ 0 <= (seekT (fun p => p.brk) T j).2.2.2.1 ∧ (seekT (fun p => p.brk) T j).2.2.2.1 < brk (ptx S (seekP (fun p => p.brk) T j)) ∧
  ((bb (T.tx S) j.toNat : Nat) : Int) = (seekT (fun p => p.brk) T j).2.1 + (bb (ptx S (seekP (fun p => p.brk) T j)) (seekT (fun p => p.brk) T j).2.2.2.1.toNat : Nat)
 | .nil, j, _, h0, h1 => by simp only [AT.bks] at h1; omega
 | .node l p r, j, hw, h0, h1 => by
  obtain ⟨hl, hp, hr⟩ := hw
  have e0 : sumM (fun p => p.brk) (l.told 0) = l.bks := by rw [Xz, AT.bks_told]
  have el := AT.tx_len hl;have ep := jB hp;have bl := AT.tx_brk hl;have br := AT.tx_brk hr;have bp := hp.2.2.2;rw [yr] at bl bp br;simp only [AT.bks] at h1;simp only [seekT, seekP, AT.tx, e0]
  by_cases c1 : j < l.bks
  ·simp only [if_pos c1]
   obtain ⟨a, b, c, d⟩ := ZI S l j hl h0 (by omega)
   refine ⟨a, b, c, ?_⟩
   rw [Yy _ _ _ (by omega), d]
  ·simp only [if_neg c1]
   by_cases c2 : j - l.bks < p.brk
   ·simp only [if_pos c2]
    refine ⟨hp, by omega, by rw [yr]; omega, ?_⟩
    rw [jN _ _ _ (by omega) (by rw [yn]; omega), Yy _ _ _ (by omega), show j.toNat - bkn (l.tx S) = (j - l.bks).toNat by omega]
    omega
   ·simp only [if_neg c2]
    obtain ⟨a, b, c, d⟩ := ZI S r (j - l.bks - p.brk) hr (by omega) (by omega)
    refine ⟨a, b, c, ?_⟩
    rw [jN _ _ _ (by omega) (by rw [yn]; omega), jN _ _ _ (by omega) (by omega), show j.toNat - bkn (l.tx S) - bkn (ptx S p) = (j - l.bks - p.brk).toNat by omega]
    omega
def AT.put : AT -> Nat -> Pc -> AT
 | .nil, _, _ => .nil
 | .node l p r, k, e => if k < l.its then .node (l.put k e) p r else if l.its < k then .node l p (r.put (k - l.its - 1) e) else .node l e r
theorem AT.put_its : ∀ (T : AT) (k : Nat) (e : Pc), (T.put k e).its = T.its
 | .nil, _, _ => rfl
 | .node l p r, k, e => by
  have h1 := AT.put_its l k e;have h2 := AT.put_its r (k - l.its - 1) e;unfold AT.put
  split
  ·simp only [AT.its, h1]
  ·split <;> simp only [AT.its, h2]
theorem AT.put_ht : ∀ (T : AT) (k : Nat) (e : Pc), (T.put k e).ht = T.ht
 | .nil, _, _ => rfl
 | .node l p r, k, e => by
  have h1 := AT.put_ht l k e;have h2 := AT.put_ht r (k - l.its - 1) e;unfold AT.put
  split
  ·simp only [AT.ht, h1]
  ·split <;> simp only [AT.ht, h2]
theorem AT.put_bal : ∀ (T : AT) (k : Nat) (e : Pc), T.bal -> (T.put k e).bal
 | .nil, _, _, _ => trivial
 | .node l p r, k, e, h => by
  have e1 := AT.put_ht l k e;have e2 := AT.put_ht r (k - l.its - 1) e;unfold AT.put
  split
  ·have h1 := AT.put_bal l k e
   simp only [AT.bal, e1] at h |-;exact ⟨h1 h.1, h.2⟩
  ·split
   ·have h2 := AT.put_bal r (k - l.its - 1) e
    simp only [AT.bal, e2] at h |-;exact ⟨h.1, h2 h.2.1, h.2.2⟩
   ·simpa only [AT.bal] using h
theorem AT.put_told : ∀ (T : AT) (k : Nat) (e : Pc) (d : Int) (y : It), (T.told d)[k]? = some y -> (T.put k e).told d = (T.told d).set k ⟨e, y.lv⟩
 | .nil, k, e, d, y, h => by simp [AT.told] at h
 | .node l p r, k, e, d, y, h => by
  have hl := AT.told_length l (d + 1);unfold AT.put
  split
  ·rename_i hk
   simp only [AT.told] at h |-
   rw [List.getElem?_append_left (by omega)] at h
   rw [AT.put_told l k e (d + 1) y h, List.set_append_left _ _ (by omega)]
  ·rename_i hk
   split
   ·rename_i hk2
    simp only [AT.told] at h |-
    rw [List.getElem?_append_right (by omega), hl, show k - l.its = (k - l.its - 1) + 1 by omega, List.getElem?_cons_succ] at h
    obtain ⟨j, hj⟩ : ∃ j, k = l.its + 1 + j := ⟨k - l.its - 1, by omega⟩
    subst hj
    rw [show l.its + 1 + j - l.its - 1 = j by omega] at h |-
    rw [AT.put_told r j e (d + 1) y h, List.set_append_right _ _ (by omega), hl, show l.its + 1 + j - l.its = j + 1 by omega, List.set_cons_succ]
   ·rename_i hk2
    obtain rfl : k = l.its := by omega
    simp only [AT.told] at h |-
    rw [List.getElem?_append_right (by omega), hl, Nat.sub_self, List.getElem?_cons_zero] at h
    cases h
    rw [List.set_append_right _ _ (by omega), hl, Nat.sub_self, List.set_cons_zero]
theorem AT.put_flat (T : AT) (k : Nat) (e : Pc) (h : k < T.its) : (T.put k e).flat = T.flat.set k e := by
 have tp : ∀ (T : AT) (d : Int), (T.told d).map It.pc = T.flat := by
  intro T
  induction T with
  | nil => intro d; rfl
  | node l p r h1 h2 => intro d; simp only [AT.told, List.map_append, List.map_cons, AT.flat, h1, h2]
 have hl := AT.told_length T 0
 obtain ⟨y, hy⟩ : ∃ y, (T.told 0)[k]? = some y := ⟨(T.told 0)[k]'(by omega), List.getElem?_eq_getElem (by omega)⟩
 rw [<- tp (T.put k e) 0, AT.put_told T k e 0 y hy, <- tp T 0, List.map_set]
def rankL : List It -> Int -> Nat
 | [], _ => 0
 | x :: xs, off => if off <= 0 then 0 else 1 + rankL xs (off - x.pc.len)
theorem zCb (xs : List It) (off : Int) (h : off <= 0) : rankL xs off = 0 := by
 cases xs with
 | nil => rfl
 | cons x xs => simp [rankL, h]
def lsum (F : List Pc) : Int := (F.map (fun p => p.len)).sum
theorem ZJ : lsum [] = 0 := rfl
theorem zH (p : Pc) (F : List Pc) : lsum (p :: F) = p.len + lsum F := by simp [lsum]
theorem zL (F G : List Pc) : lsum (F ++ G) = lsum F + lsum G := by simp [lsum]
theorem AT.rns_lsum (T : AT) : T.rns = lsum T.flat := AT.rns_of_flat T
theorem AT.flat_its : ∀ T : AT, T.flat.length = T.its
 | .nil => rfl
 | .node l p r => by simp only [AT.flat, List.length_append, List.length_cons, AT.flat_its l, AT.flat_its r, AT.its]; omega
theorem AT.flat_of : ∀ (T : AT) (d : Int), (T.told d).map It.pc = T.flat
 | .nil, _ => rfl
 | .node l p r, d => by simp only [AT.told, List.map_append, List.map_cons, AT.flat, AT.flat_of l, AT.flat_of r]
theorem Zt : ∀ xs : List It, total xs = lsum (xs.map It.pc)
 | [] => rfl
 | x :: xs => by rw [List.map_cons, zH, total, Zt xs]
theorem ji (T : AT) (k : Nat) : total ((T.told 0).take k) = lsum (T.flat.take k) := by rw [Zt, List.map_take, AT.flat_of]
theorem zR (S : List Int) : ∀ T : AT, T.wp S ↔ ∀ p ∈ T.flat, WP S p
 | .nil => by simp [AT.wp, AT.flat]
 | .node l p r => by
  have h1 := zR S l;have h2 := zR S r;simp only [AT.wp, AT.flat, List.mem_append, List.mem_cons];constructor
  ·rintro ⟨a, b, c⟩ q (h | rfl | h)
   ·exact h1.1 a q h
   ·exact b
   ·exact h2.1 c q h
  ·intro h
   exact ⟨h1.2 fun q hq => h q (.inl hq), h p (.inr (.inl rfl)), h2.2 fun q hq => h q (.inr (.inr hq))⟩
theorem WP.app {zs : List Int} {p : Pc} (h : WP zs p) (ts : List Int) : WP (zs ++ ts) p := by
 obtain ⟨h1, h2, h3, h4⟩ := h
 refine ⟨h1, h2, by rw [List.length_append]; omega, ?_⟩
 rw [h4];unfold ptx
 rw [List.drop_append_of_le_length (by omega), List.take_append_of_le_length (by rw [List.length_drop]; omega)]
theorem AT.wp.app {zs : List Int} {T : AT} (h : T.wp zs) (ts : List Int) : T.wp (zs ++ ts) := (zR _ T).2 fun p hp => ((zR _ T).1 h p hp).app ts
theorem XK : ∀ (T : AT) (off : Int), (∀ p ∈ T.flat, 1 <= p.len) -> 0 <= off -> off <= T.rns ->
  (seekT (fun p => p.len) T off).1 <= T.its ∧ lsum (T.flat.take (seekT (fun p => p.len) T off).1) = off - (seekT (fun p => p.len) T off).2.2.2.1 ∧
  ((seekT (fun p => p.len) T off).2.2.2.1 = 0 ∨ (0 < (seekT (fun p => p.len) T off).2.2.2.1 ∧ (seekT (fun p => p.len) T off).2.2.2.1 < (seekP (fun p => p.len) T off).len ∧ T.flat[(seekT (fun p => p.len) T off).1]? = some (seekP (fun p => p.len) T off)))
 | .nil, off, _, h0, h1 => by
  have : off = 0 := by simp only [AT.rns] at h1; omega
  subst this;simp [seekT, AT.its, AT.flat, lsum]
 | .node l p r, off, hp, h0, h1 => by
  have e0 : sumM (fun p => p.len) (l.told 0) = l.rns := by rw [YC, AT.rns_told]
  have hl := AT.flat_its l
  have hpl : ∀ q ∈ l.flat, 1 <= q.len := fun q hq => hp q (by simp [AT.flat, hq])
  have hpr : ∀ q ∈ r.flat, 1 <= q.len := fun q hq => hp q (by simp [AT.flat, hq])
  have ern : (AT.node l p r).rns = l.rns + p.len + r.rns := rfl
  have hpp := hp p (by simp [AT.flat])
  simp only [seekT, seekP, e0]
  by_cases c1 : off < l.rns
  ·obtain ⟨a, b, c⟩ := XK l off hpl h0 (by omega)
   simp only [if_pos c1, AT.flat, AT.its]
   refine ⟨by omega, by rw [List.take_append_of_le_length (by omega)]; exact b, ?_⟩
   rcases c with c | ⟨c2, c3, c4⟩
   ·exact .inl c
   ·refine .inr ⟨c2, c3, ?_⟩
    rw [List.getElem?_append_left]
    ·exact c4
    ·rcases Nat.lt_or_ge (seekT (fun p => p.len) l off).1 l.flat.length with q | q
     ·exact q
     ·rw [List.getElem?_eq_none q] at c4; cases c4
  ·by_cases c2 : off - l.rns < p.len
   ·simp only [if_neg c1, if_pos c2, AT.flat, AT.its]
    refine ⟨by omega, ?_, ?_⟩
    ·rw [List.take_append_of_le_length (by omega), List.take_of_length_le (by omega), <- AT.rns_lsum]; omega
    ·rcases Int.lt_or_le 0 (off - l.rns) with q | q
     ·refine .inr ⟨q, c2, ?_⟩
      rw [List.getElem?_append_right (by omega), hl, Nat.sub_self, List.getElem?_cons_zero]
     ·exact .inl (by omega)
   ·obtain ⟨a, b, c⟩ := XK r (off - l.rns - p.len) hpr (by omega) (by omega)
    simp only [if_neg c1, if_neg c2, AT.flat, AT.its]
    obtain ⟨j, hj⟩ : ∃ j, (seekT (fun p => p.len) r (off - l.rns - p.len)).1 = j := ⟨_, rfl⟩
    rw [hj] at a b c |-
    refine ⟨by omega, ?_, ?_⟩
    ·rw [show j + (l.its + 1) = l.flat.length + (j + 1) by omega, List.take_length_add_append, List.take_succ_cons, zL, zH, b, <- AT.rns_lsum]; omega
    ·rcases c with c | ⟨c3, c4, c5⟩
     ·exact .inl c
     ·refine .inr ⟨c3, c4, ?_⟩
      rw [List.getElem?_append_right (by omega), show j + (l.its + 1) - l.flat.length = j + 1 by omega, List.getElem?_cons_succ]
      exact c5
theorem Zu : ∀ (xs : List It) (R : Nat) (off : Int), (∀ x ∈ xs, 1 <= x.pc.len) -> R <= xs.length -> total (xs.take R) = off -> rankL xs off = R
 | xs, 0, off, _, _, h => by
  rw [List.take_zero] at h
  exact zCb xs off (by simp [total] at h; omega)
 | [], R + 1, off, _, h, _ => by simp at h
 | x :: xs, R + 1, off, hp, hR, h => by
  have hx := hp x (by simp)
  rw [List.take_succ_cons] at h;simp only [total] at h
  have hn : 0 <= total (xs.take R) := by
   rw [Zt]
   have : ∀ y ∈ xs.take R, 1 <= y.pc.len := fun y hy => hp y (by simp [List.mem_of_mem_take hy])
   generalize xs.take R = ys at this
   induction ys with
   | nil => simp [lsum]
   | cons y ys ih => rw [List.map_cons, zH]; have := this y (by simp); have := ih (fun z hz => by rename_i h9; exact h9 z (by simp [hz])); omega
  rw [rankL, if_neg (by omega), Zu xs R (off - x.pc.len) (fun y hy => hp y (by simp [hy])) (by simpa using hR) (by omega)]
  omega
theorem XL (l : List Int) : 0 <= brk l ∧ brk l <= l.length := by
 unfold brk
 have := List.length_filter_le (fun z => z == (10 : Int)) l
 omega
theorem ZK (A B : List Pc) (x : Pc) (n : Nat) (h : A.length = n) : (A ++ x :: B).take (n + 1) = A ++ [x] := by
 subst h;rw [List.take_length_add_append]; rfl
def pcAt (S : List Int) (o n : Int) : Pc := ⟨o, n, brk ((S.drop o.toNat).take n.toNat)⟩
theorem pcAt_of {S : List Int} {p : Pc} (h : WP S p) : pcAt S p.off p.len = p := by
 obtain ⟨h1, h2, h3, h4⟩ := h;obtain ⟨a, b, c⟩ := p;simp only [pcAt, ptx] at *;rw [h4]
theorem jC {S : List Int} {o n : Int} (h0 : 0 <= o) (h1 : 0 <= n) (h : o + n <= S.length) : WP S (pcAt S o n) := ⟨h0, h1, h, rfl⟩
theorem Z9 {S : List Int} {o n : Int} (h0 : 0 <= o) (h1 : 1 <= n) (h2 : n <= 8192) (h : o + n <= S.length) (hS : S.length <= 220000) : pcOk (pcAt S o n) = true := by
 have hb := XL ((S.drop o.toNat).take n.toNat)
 have hl : ((S.drop o.toNat).take n.toNat).length <= n.toNat := by rw [List.length_take]; omega
 have hk : pcOk (pcAt S o n) = decide (1 <= n ∧ n <= 8192 ∧ 0 <= o ∧ o + n <= 220000 ∧ 0 <= brk ((S.drop o.toNat).take n.toNat) ∧ brk ((S.drop o.toNat).take n.toNat) <= n) := rfl;rw [hk, decide_eq_true_eq];omega
theorem Jm {S : List Int} {p : Pc} (h : WP S p) {o m : Int} (hm : p.off + p.len = o) (h0 : 0 <= m) : (⟨p.off, p.len + m, p.brk + brk ((S.drop o.toNat).take m.toNat)⟩ : Pc) = pcAt S p.off (p.len + m) := by
 obtain ⟨h1, h2, h3, h4⟩ := h;subst hm;unfold pcAt
 congr 1
 rw [h4, show (p.len + m).toNat = p.len.toNat + m.toNat by omega, List.take_add, jL, List.drop_drop, show (p.off + p.len).toNat = p.off.toNat + p.len.toNat by omega]
 rfl
def skR (T : AT) (off : Int) : Nat := (seekT (fun p => p.len) T off).1
def skI (T : AT) (off : Int) : Int := (seekT (fun p => p.len) T off).2.2.2.1
def skP (T : AT) (off : Int) : Pc := seekP (fun p => p.len) T off
def cutP (S : List Int) (T : AT) (off : Int) : AT := if skI T off = 0 then T else (T.put (skR T off) (pcAt S (skP T off).off (skI T off))).ins (skR T off + 1) (pcAt S ((skP T off).off + skI T off) ((skP T off).len - skI T off))
def cutN (T : AT) (off : Int) : Nat := skR T off + (if skI T off = 0 then 0 else 1)
theorem yc {T : AT} (h : T.ok) : ∀ p ∈ T.flat, 1 <= p.len := fun p hp => by
 have := h.1 p hp;simp only [pcOk, decide_eq_true_eq] at this;omega
theorem KD {T : AT} (h : T.ok) : ∀ x ∈ T.told 0, 1 <= x.pc.len := fun x hx => yc h _ (by rw [<- AT.flat_of T 0]; exact List.mem_map.2 ⟨x, hx, rfl⟩)
theorem sk_at {T : AT} {off : Int} (h : T.ok) (h0 : 0 <= off) (h1 : off <= T.rns) :
  skR T off <= T.its ∧ lsum (T.flat.take (skR T off)) = off - skI T off ∧ (skI T off = 0 ∨ (0 < skI T off ∧ skI T off < (skP T off).len ∧ T.flat[skR T off]? = some (skP T off))) := XK T off (yc h) h0 h1
theorem zX {F : List Pc} {r : Nat} {p : Pc} (h : F[r]? = some p) : F = F.take r ++ p :: F.drop (r + 1) ∧ r < F.length := by
 have hr : r < F.length := by
  rcases Nat.lt_or_ge r F.length with q | q
  ·exact q
  ·rw [List.getElem?_eq_none q] at h; cases h
 refine ⟨?_, hr⟩
 have e : F[r] = p := by rw [List.getElem?_eq_getElem hr] at h; exact Option.some.inj h
 rw [<- e]
 exact (List.take_append_drop r F).symm.trans (by rw [List.drop_eq_getElem_cons hr])
theorem yL (T : AT) (r : Nat) (e p : Pc) (h : T.flat[r]? = some p) : (T.put r e).flat = T.flat.take r ++ e :: T.flat.drop (r + 1) := by
 obtain ⟨h1, h2⟩ := zX h
 rw [AT.put_flat T r e (by rw [<- AT.flat_its]; exact h2), List.set_eq_take_append_cons_drop, if_pos h2]
theorem yY {S : List Int} {T : AT} {off : Int} (h : T.ok) (h0 : 0 <= off) (h1 : off <= T.rns) (hi : skI T off ≠ 0) :
  (cutP S T off).flat = T.flat.take (skR T off) ++ pcAt S (skP T off).off (skI T off) :: pcAt S ((skP T off).off + skI T off) ((skP T off).len - skI T off) :: T.flat.drop (skR T off + 1) := by
 obtain ⟨a, b, c⟩ := sk_at h h0 h1;obtain ⟨c1, c2, c3⟩ := c.resolve_left hi;have hr := (zX c3).2;have hpf := yL T (skR T off) (pcAt S (skP T off).off (skI T off)) _ c3
 have hlt : (T.flat.take (skR T off)).length = skR T off := by rw [List.length_take]; omega
 rw [cutP, if_neg hi, AT.ins_flat _ _ _ (by rw [AT.put_its, <- AT.flat_its]; omega), hpf]
 have e1 : (T.flat.take (skR T off) ++ pcAt S (skP T off).off (skI T off) :: T.flat.drop (skR T off + 1)).take (skR T off + 1) = T.flat.take (skR T off) ++ [pcAt S (skP T off).off (skI T off)] := ZK _ _ _ _ hlt
 have e2 : (T.flat.take (skR T off) ++ pcAt S (skP T off).off (skI T off) :: T.flat.drop (skR T off + 1)).drop (skR T off + 1) = T.flat.drop (skR T off + 1) := by
  have : ∀ (A B : List Pc) (x : Pc) (n : Nat), A.length = n -> (A ++ x :: B).drop (n + 1) = B := by
   intro A B x n hn;subst hn;rw [List.drop_length_add_append]; rfl
  exact this _ _ _ _ hlt
 rw [e1, e2, List.append_assoc];rfl
theorem ZL {S : List Int} {T : AT} {off : Int} (h : T.ok) (h0 : 0 <= off) (h1 : off <= T.rns) : lsum (cutP S T off).flat = lsum T.flat := by
 by_cases hi : skI T off = 0
 ·rw [cutP, if_pos hi]
 ·obtain ⟨a, b, c⟩ := sk_at h h0 h1
  obtain ⟨c1, c2, c3⟩ := c.resolve_left hi;rw [yY h h0 h1 hi, zL, zH, zH]
  conv => rhs; rw [(zX c3).1]
  rw [zL, zH];simp only [pcAt];omega
theorem jj {S : List Int} {T : AT} {off : Int} (h : T.ok) (hw : T.wp S) (h0 : 0 <= off) (h1 : off <= T.rns) : (cutP S T off).wp S := by
 by_cases hi : skI T off = 0
 ·rw [cutP, if_pos hi]; exact hw
 ·obtain ⟨a, b, c⟩ := sk_at h h0 h1
  obtain ⟨c1, c2, c3⟩ := c.resolve_left hi;have hF := (zR S T).1 hw;have hp := hF _ (List.mem_of_getElem? c3)
  refine (zR S _).2 fun q hq => ?_
  rw [yY h h0 h1 hi] at hq;simp only [List.mem_append, List.mem_cons] at hq
  rcases hq with hq | rfl | rfl | hq
  ·exact hF q (List.mem_of_mem_take hq)
  ·exact jC hp.1 (by omega) (by have := hp.2.2.1; omega)
  ·exact jC (by have := hp.1; omega) (by omega) (by have := hp.2.2.1; omega)
  ·exact hF q (List.mem_of_mem_drop hq)
theorem Za {S : List Int} {T : AT} {off : Int} (h : T.ok) (hw : T.wp S) (hS : S.length <= 220000) (h0 : 0 <= off) (h1 : off <= T.rns) : (cutP S T off).ok := by
 refine ⟨fun q hq => ?_, by rw [AT.rns_lsum, ZL h h0 h1, <- AT.rns_lsum]; exact h.2⟩
 by_cases hi : skI T off = 0
 ·rw [cutP, if_pos hi] at hq; exact h.1 q hq
 ·obtain ⟨a, b, c⟩ := sk_at h h0 h1
  obtain ⟨c1, c2, c3⟩ := c.resolve_left hi;have hp := (zR S T).1 hw _ (List.mem_of_getElem? c3);have hk := h.1 _ (List.mem_of_getElem? c3);simp only [pcOk, decide_eq_true_eq] at hk;have hp3 := hp.2.2.1;rw [yY h h0 h1 hi] at hq;simp only [List.mem_append, List.mem_cons] at hq
  rcases hq with hq | rfl | rfl | hq
  ·exact h.1 q (List.mem_of_mem_take hq)
  ·exact Z9 (by omega) (by omega) (by omega) (by omega) hS
  ·exact Z9 (by omega) (by omega) (by omega) (by omega) hS
  ·exact h.1 q (List.mem_of_mem_drop hq)
theorem YE {S : List Int} {T : AT} {off : Int} (hb : T.bal) : (cutP S T off).bal := by
 unfold cutP
 split
 ·exact hb
 ·exact (AT.ins_bal _ _ _ (AT.put_bal _ _ _ hb)).1
theorem jD {S : List Int} {T : AT} {off : Int} (h : T.ok) (h0 : 0 <= off) (h1 : off <= T.rns) : cutN T off <= (cutP S T off).its ∧ lsum ((cutP S T off).flat.take (cutN T off)) = off := by
 obtain ⟨a, b, c⟩ := sk_at h h0 h1
 by_cases hi : skI T off = 0
 ·rw [cutP, if_pos hi, cutN, if_pos hi]
  exact ⟨a, by rw [Nat.add_zero, b]; omega⟩
 ·obtain ⟨c1, c2, c3⟩ := c.resolve_left hi
  have hr := (zX c3).2
  have hlt : (T.flat.take (skR T off)).length = skR T off := by rw [List.length_take]; omega
  rw [<- AT.flat_its, yY h h0 h1 hi, cutN, if_neg hi];constructor
  ·simp only [List.length_append, List.length_cons]; omega
  ·rw [ZK _ _ _ _ hlt, zL, zH, ZJ, b]
   simp only [pcAt]; omega
theorem cut_rank {S : List Int} {T : AT} {off : Int} (h : T.ok) (hw : T.wp S) (hS : S.length <= 220000) (h0 : 0 <= off) (h1 : off <= T.rns) : rankL ((cutP S T off).told 0) off = cutN T off := by
 obtain ⟨a, b⟩ := jD (S := S) h h0 h1
 exact Zu _ _ _ (KD (Za h hw hS h0 h1)) (by rw [AT.told_length]; exact a) (by rw [ji]; exact b)
theorem jk {F : List Pc} (h : ∀ p ∈ F, 1 <= p.len) : 0 <= lsum F := by
 induction F with
 | nil => simp [lsum]
 | cons p F ih => rw [zH]; have := h p (by simp); have := ih (fun q hq => h q (by simp [hq])); omega
theorem KE {F : List Pc} {r : Nat} {p : Pc} (h : ∀ p ∈ F, 1 <= p.len) (hr : F[r]? = some p) : p.len <= lsum F := by
 have e := (zX hr).1
 have h1 := jk (F := F.take r) (fun q hq => h q (List.mem_of_mem_take hq))
 have h2 := jk (F := F.drop (r + 1)) (fun q hq => h q (List.mem_of_mem_drop hq))
 have : lsum F = lsum (F.take r) + (p.len + lsum (F.drop (r + 1))) := by
  conv => lhs; rw [e]
  rw [zL, zH]
 omega
theorem Y2 : ∀ (T : AT) (k : Nat) (p : Pc), T.flat[k]? = some p -> seekP (fun _ => 1) T (k : Int) = p
 | .nil, k, p, h => by simp [AT.flat] at h
 | .node l q r, k, p, h => by
  have e0 : sumM (fun _ => 1) (l.told 0) = (l.its : Int) := by
   have : ∀ xs : List It, sumM (fun _ => 1) xs = (xs.length : Int) := by
    intro xs
    induction xs with
    | nil => rfl
    | cons x xs ih => simp only [sumM, ih, List.length_cons]; omega
   rw [this, AT.told_length]
  have hl := AT.flat_its l;simp only [AT.flat] at h;simp only [seekP, e0]
  by_cases c1 : (k : Int) < l.its
  ·rw [if_pos c1]
   rw [List.getElem?_append_left (by omega)] at h
   exact Y2 l k p h
  ·rw [if_neg c1]
   rw [List.getElem?_append_right (by omega)] at h
   by_cases c2 : (k : Int) - l.its < 1
   ·rw [if_pos c2]
    rw [show k - l.flat.length = 0 by omega, List.getElem?_cons_zero] at h
    exact Option.some.inj h
   ·rw [if_neg c2]
    rw [show k - l.flat.length = (k - l.its - 1) + 1 by omega, List.getElem?_cons_succ] at h
    rw [show (k : Int) - (l.its : Int) - 1 = ((k - l.its - 1 : Nat) : Int) by omega]
    exact Y2 r _ p h
def ahead (T : AT) (R : Nat) : Pc := T.flat.getD (R - 1) ⟨0, 0, 0⟩
theorem zu {T : AT} {R : Nat} (h0 : 0 < R) (h : R <= T.its) : T.flat[R - 1]? = some (ahead T R) := by
 have := AT.flat_its T
 rw [ahead, List.getD_eq_getElem?_getD, List.getElem?_eq_getElem (by omega)]
 rfl
def meetB (n : Nat) (T : AT) (R : Nat) : Bool := decide (0 < R ∧ (ahead T R).off + (ahead T R).len = (n : Int))
def addP (S : List Int) (n : Nat) (T : AT) (R : Nat) : AT :=
 if meetB n T R = true then T.put (R - 1) (pcAt S (ahead T R).off ((ahead T R).len + ((S.length : Int) - n))) else T.ins R (pcAt S n ((S.length : Int) - n))
def insP (S : List Int) (n : Nat) (T : AT) (off : Int) : AT := addP S n (cutP S T off) (cutN T off)
theorem XM {S : List Int} {n : Nat} {T : AT} {R : Nat} (h : T.ok) (hw : T.wp S) (hR : R <= T.its) (hn : n < S.length) (hS : S.length <= 220000) (hr : T.rns + ((S.length : Int) - n) <= 8192) : (addP S n T R).ok := by
 have hp := yc h;have hnn := jk hp;rw [AT.rns_lsum] at hr;unfold addP
 split
 ·rename_i hm
  simp only [meetB, decide_eq_true_eq] at hm;have ha := zu hm.1 hR;have hlen := KE hp ha;have hk := h.1 _ (List.mem_of_getElem? ha);simp only [pcOk, decide_eq_true_eq] at hk;have hf := yL T (R - 1) (pcAt S (ahead T R).off ((ahead T R).len + ((S.length : Int) - n))) _ ha
  refine ⟨fun q hq => ?_, ?_⟩
  ·rw [hf] at hq
   simp only [List.mem_append, List.mem_cons] at hq
   rcases hq with hq | rfl | hq
   ·exact h.1 q (List.mem_of_mem_take hq)
   ·exact Z9 (by omega) (by omega) (by omega) (by omega) hS
   ·exact h.1 q (List.mem_of_mem_drop hq)
  ·rw [AT.rns_lsum, hf, zL, zH]
   have e := (zX ha).1
   have : lsum T.flat = lsum (T.flat.take (R - 1)) + ((ahead T R).len + lsum (T.flat.drop (R - 1 + 1))) := by
    conv => lhs; rw [e]
    rw [zL, zH]
   simp only [pcAt];omega
 ·refine ⟨fun q hq => ?_, ?_⟩
  ·rw [AT.ins_flat _ _ _ hR] at hq
   simp only [List.mem_append, List.mem_cons] at hq
   rcases hq with hq | rfl | hq
   ·exact h.1 q (List.mem_of_mem_take hq)
   ·exact Z9 (by omega) (by omega) (by omega) (by omega) hS
   ·exact h.1 q (List.mem_of_mem_drop hq)
  ·rw [AT.rns_lsum, AT.ins_flat _ _ _ hR, zL, zH]
   have : lsum T.flat = lsum (T.flat.take R) + lsum (T.flat.drop R) := by rw [<- zL, List.take_append_drop]
   simp only [pcAt];omega
theorem addP_bal {S : List Int} {n : Nat} {T : AT} {R : Nat} (hb : T.bal) : (addP S n T R).bal := by
 unfold addP
 split
 ·exact AT.put_bal _ _ _ hb
 ·exact (AT.ins_bal _ _ _ hb).1
theorem zBi {S : List Int} {n : Nat} {T : AT} {off : Int} (h : T.ok) (hw : T.wp S) (h0 : 0 <= off) (h1 : off <= T.rns) (hn : n < S.length) (hS : S.length <= 220000) (hr : T.rns + ((S.length : Int) - n) <= 8192) : (insP S n T off).ok :=
 XM (Za h hw hS h0 h1) (jj h hw h0 h1) (jD h h0 h1).1 hn hS (by rw [AT.rns_lsum, ZL h h0 h1, <- AT.rns_lsum]; exact hr)
theorem insP_bal {S : List Int} {n : Nat} {T : AT} {off : Int} (hb : T.bal) : (insP S n T off).bal := addP_bal (YE hb)
theorem XN (L : AT) (p : Pc) (R : AT) (ul ur : Option Addr) (bl br : List Nat) (base : Nat) (w : World) (hL : Lies w base L ul bl) (hR : Lies w base R ur br) (hok : (AT.node L p R).ok) (hbase : base <= w.heap.size) :
  Calls Tryz.prog 108 #[.pointer ul, pcV p, .pointer ur] w fun e w' => ∃ b, e = .returned (.pointer (some ⟨b, 0, none⟩)) ∧ w.heap.size <= b ∧ Lies w' base (.node L p R) (some ⟨b, 0, none⟩) (b :: (bl ++ br)) ∧ Below w.heap.size w w' := by
 have hbl := fun x hx => (hL.lt x hx).2
 have hbr := fun x hx => (hR.lt x hx).2
 have HB := hide (((Below.refl w.heap.size w).alloc lR (.cells #[.int .i64 p.off, .int .i64 p.len, .int .i64 p.brk] 87)).alloc (by simp) (.cells (ndC p ul ur 0 0 0 0) 202))
 have hN : Nd ((w.alloc (.cells #[.int .i64 p.off, .int .i64 p.len, .int .i64 p.brk] 87)).alloc (.cells (ndC p ul ur 0 0 0 0) 202)) (w.heap.size + 1) p ul ur 0 0 0 0 := by
  have := heap_alloc_new (w.alloc (.cells #[.int .i64 p.off, .int .i64 p.len, .int .i64 p.brk] 87)) (.cells (ndC p ul ur 0 0 0 0) 202);simpa [Nd] using this
 have HK := hide (recountN L p R (w.heap.size + 1) ul ur bl br base 0 0 0 0 _ hN (hL.below HB.out lR) (hR.below HB.out lR) (fun h => by have := hbl _ h; omega) (fun h => by have := hbr _ h; omega) hok)
 have HL := hide (hL.below HB.out lR);have HR := hide (hR.below HB.out lR);have HX := hide (And.intro hbl hbr);clear hL hR hok hbl hbr hN;unfold pcV;go_enter Tryz.func108, Tryz.ntmps108;go_wp2_with fail;refine HK.out.mono ?_;rintro e w1 ⟨rfl, hn, hc⟩;have HN := hide hn;have HC := hide hc;clear hn hc HK;go_wp2;go_ret
 have h1 : ∀ x ∈ bl, x ∉ [w.heap.size + 1] := fun x hx e => by have := HX.out.1 x hx; simp at e; omega
 have h2 : ∀ x ∈ br, x ∉ [w.heap.size + 1] := fun x hx e => by have := HX.out.2 x hx; simp at e; omega
 exact ⟨w.heap.size + 1, rfl, by omega, ⟨_, ul, ur, bl, br, rfl, by omega, HN.out, HL.out.chg HC.out h1, HR.out.chg HC.out h2, rfl⟩, HB.out.trans (HC.out.below (by simp; omega) (by simp))⟩
theorem XO (L : AT) (p : Pc) (R : AT) (b : Nat) (ul ur : Option Addr) (bl br : List Nat) (base : Nat) (h i n k : Int) (w : World) (hn : Nd w b p ul ur h i n k)
  (hL : Lies w base L ul bl) (hR : Lies w base R ur br) (h1 : (L.ht : Int) <= 16384) (h2 : (R.ht : Int) <= 16384) :
  Calls Tryz.prog 137 #[.pointer (some ⟨b, 0, none⟩)] w fun e w' => e = .returned (.int .i64 ((L.ht : Int) - R.ht)) ∧ Chg [] w w' := by
 have c3 := hn.c3;have c4 := hn.c4;have hlt := hn.lt;have HL := hide hL;have HR := hide hR;clear hn hL hR
 have hw : IntKind.i64.wrap ((L.ht : Int) - R.ht) = (L.ht : Int) - R.ht := i64w _ (by omega) (by omega)
 go_enter Tryz.func137, Tryz.ntmps137
 go_upto_region 1 with fail
 go_region_with (first
   | (go_at_call_of 140 (Value.pointer ul); refine (jU L ul bl base _ (by exact HL.out.frame (fun _ _ => rfl))).mono ?_; rintro e w1 ⟨rfl, rfl⟩)
   | (go_at_call_of 140 (Value.pointer ur); refine (jU R ur br base _ (by exact HR.out.frame (fun _ _ => rfl))).mono ?_; rintro e w2 ⟨rfl, rfl⟩))
 all_goals (go_wp2; go_ret; exact ⟨by first | rfl | simp [hw], (Chg.refl _ _).drawn rfl rfl rfl rfl⟩)
theorem leanN (L : AT) (p : Pc) (R : AT) (b : Nat) (ul ur : Option Addr) (bl br : List Nat) (base : Nat) (h i n k : Int) (w : World) (hn : Nd w b p ul ur h i n k)
  (hL : Lies w base L ul bl) (hR : Lies w base R ur br) (h1 : (L.ht : Int) <= 8192) (h2 : (R.ht : Int) <= 8192) :
  Calls Tryz.prog 137 #[.pointer (some ⟨b, 0, none⟩)] w fun e w' => e = .returned (.int .i64 ((L.ht : Int) - R.ht)) ∧ Chg [] w w' :=
 XO L p R b ul ur bl br base h i n k w hn hL hR (by omega) (by omega)
end Go.Proofs.YtbgngikejgihgafGreatDoor
