import Derived.Test.YtbgngikejgihgagGreatDoorMq09
import Derived.Test.YtbgngikejgihgagGreatDoorMq05
import Derived.Test.YtbgngikejgihgagGreatDoorMq06
import Derived.Test.YtbgngikejgihgagGreatDoorMq07
import Derived.WalkKit
import Derived.Test.YtbgngikejgihgagGreatDoorMq02
namespace Go.Proofs.YtbgngikejgihgagGreatDoor
open Go Go.RowKit
set_option linter.unusedVariables false

theorem jn_lns : ∀ zs : List Int, jn (lns zs) = zs
  | [] => by simp [lns, jn, jt]
  | c :: zs => by
    have ih := jn_lns zs
    have he := lns_eta zs
    rw [he] at ih
    simp only [jn] at ih
    by_cases hc : c = 10
    · subst hc
      rw [lns_br, he]
      simp only [jn, jt, List.nil_append]
      rw [ih]
    · simp only [lns, if_neg hc, jn, List.cons_append]
      rw [ih]
theorem lns_no10 : ∀ (zs : List Int) (l : List Int), l ∈ lns zs → 10 ∉ l
  | [], l, h => by simp [lns] at h; subst h; simp
  | c :: zs, l, h => by
    have ih := lns_no10 zs
    have he := lns_eta zs
    rw [he] at ih
    by_cases hc : c = 10
    · subst hc
      rw [lns_br, he] at h
      rcases List.mem_cons.1 h with h | h
      · subst h; simp
      · exact ih l h
    · simp only [lns, if_neg hc] at h
      rcases List.mem_cons.1 h with h | h
      · subst h
        intro hm
        rcases List.mem_cons.1 hm with hm | hm
        · exact hc hm.symm
        · exact ih _ (by simp) hm
      · exact ih l (List.mem_cons_of_mem _ h)
theorem lns_cnt (zs : List Int) : (lns zs).length = bkn zs + 1 := by
  induction zs with
  | nil => simp [lns, bkn]
  | cons c zs ih =>
    rw [bkn_cons]
    have he := lns_eta zs
    have hl := congrArg List.length he
    by_cases hc : c = 10
    · subst hc
      rw [lns_br, if_pos rfl, List.length_cons, ih]; omega
    · simp only [lns, if_neg hc, List.length_cons] at hl ⊢
      omega
theorem grT_plG (l : List Int) : grT (plG l) = l := by
  simp [grT, plG, gtext]
theorem map_grT (L : List (List Int)) : (L.map plG).map grT = L := by
  rw [List.map_map]
  conv => rhs; rw [← List.map_id L]
  exact List.map_congr_left (fun l _ => grT_plG l)
theorem okG_plG {l : List Int} (h : 10 ∉ l) (hl : l.length ≤ 8192) : okG (plG l) := by
  refine ⟨⟨?_, fun i h1 h2 => ?_⟩, by rw [grT_plG]; exact h⟩
  · simp only [bdP, plG]; omega
  · simp only [plG] at h1 h2; omega
theorem stL_oneR {L : List (List Int)} (h : L ≠ []) : (stL L).take 1 = [0] := by
  cases L with
  | nil => exact absurd rfl h
  | cons a L =>
    have h9 := stL_take_succ (ls := a :: L) (i := 0) (by simp)
    simpa [smL] using h9
theorem LV_load {zs : List Int} (h : zs.length ≤ 8192) {m : Nat} (h1 : 1 ≤ m) (h2 : m ≤ (lns zs).length) : LV ((lns zs).map plG) ((stL (lns zs)).take m) := by
  have hl := lns_len zs
  have hm : ((stL (lns zs)).take m).length = m := by rw [List.length_take, stL_len]; omega
  refine ⟨by rw [List.length_map, hm]; omega, fun g hg => ?_, by rw [map_grT, jn_lns]; exact h, by rw [map_grT, hm]⟩
  obtain ⟨l, hl, rfl⟩ := List.mem_map.1 hg
  exact okG_plG (lns_no10 zs l hl) (by have := lns_each hl; omega)
theorem offL_brk {zs : List Int} {k : Nat} (hk : k < zs.length) (hz : zs.getD k 0 = 10) : offL zs (lcL zs k) (lcC zs k + 1) = -1 := by
  refine offL_none (fun j hj h => ?_)
  obtain ⟨h1, h2⟩ := h
  have h3 := (lc_brk zs k hk hz).1
  have h4 : bkn (zs.take j) = bkn (zs.take k) := by unfold lcL at h1; omega
  have h5 : j = k + 1 := by
    unfold lcC at h2
    rw [h4] at h2
    omega
  subst h5
  omega
theorem offL_end (zs : List Int) : offL zs (lcL zs zs.length + 1) 0 = -1 := by
  refine offL_none (fun j hj h => ?_)
  have h1 := bkn_take zs j
  have h2 := h.1
  unfold lcL at h2
  rw [List.take_length] at h2
  omega
theorem lcL_end (zs : List Int) : lcL zs zs.length + 1 = ((lns zs).length : Nat) := by
  unfold lcL
  rw [List.take_length, lns_cnt]
  omega
theorem sAt_jn {L : List (List Int)} {i : Nat} (h : i < L.length) : sAt L i ≤ (jn L).length := by
  have h1 := jn_len (ls := L) (by intro e; rw [e] at h; simp at h)
  have h2 := smL_take_le L i
  unfold sAt
  omega
theorem Kn.end {L : List (List Int)} {s m : Nat} (h : Kn L s (jn L).length m) (h0 : L ≠ []) : m = L.length := by
  rcases Nat.lt_or_ge m L.length with q | q
  · have h1 := h.2.2.2 q
    have h2 := sAt_jn (L := L) (i := m - 1) (by omega)
    omega
  · have := h.2.1; omega
end Go.Proofs.YtbgngikejgihgagGreatDoor

namespace Go.Proofs.YtbgngikejgihgagGreatDoor
open Go Go.RowKit
set_option linter.unusedVariables false

theorem own_notE {w : World} {B e size n q L : Nat} {v : Value} {xs : List Value} {cs : Array Value} {t : TypeId} {fz : Nat × Nat} (h : w.ownsRow B e size v n xs) (hd : w.heap[L]? = some (.cells cs t fz)) (hne : e ≠ t) (hq : v.ownBlock = some q) : q ≠ L := by
  intro e1
  subst e1
  rcases h.2 with ⟨rfl, _⟩ | ⟨g, cap, cur, rfl, _, hgb, _⟩
  · simp [Value.ownBlock] at hq
  · simp only [Value.ownBlock, Option.some.injEq] at hq
    subst hq
    rw [hgb] at hd
    simp only [Option.some.injEq] at hd
    injection hd with _ h2 _
    exact hne h2
theorem D2.set2E {w : World} {b : Nat} {x y : Value} {t : TypeId} (h : D2 w b x y t) (u v : Value) : D2 ((w.setCell ⟨b, 0, none⟩ u).setCell ⟨b, 1, none⟩ v) b u v t := by
  unfold D2 at *
  have h1 := Go.heap_setCell_same w b 0 _ _ u h
  rw [Go.heap_setCell_same _ b 1 _ _ v h1]
  rfl
/-- The state of the law's loop. -/
structure RS (w : World) (bb lb base : Nat) (zs : List Int) (T : AT) (vs vi vt : Value) (tx : List Int) (gs : List Gr) (lo hi : Nat) (vr vst : Value) (st : List Int) (W : World) : Prop where
  kb : D2 W bb vs vi 69
  o : own32 W base vs zs
  i : OwI W base vi (T.told 0)
  t : own32 W base vt tx
  l : D2 W lb vr vst 29
  ol : OwL W lo hi vr vst gs st
  hh : hi ≤ W.heap.size
  ne : bb ≠ lb
  out : lb < lo ∨ hi ≤ lb
  lw : w.heap.size ≤ lb
  b : Below w.heap.size w W
section
variable {w : World} {bb lb base : Nat} {zs : List Int} {T : AT} {vs vi vt : Value} {tx : List Int} {gs : List Gr} {lo hi : Nat} {vr vst : Value} {st : List Int} {W W' : World}
theorem RS.below (h : RS w bb lb base zs T vs vi vt tx gs lo hi vr vst st W) (hb : Below W.heap.size W W') : RS w bb lb base zs T vs vi vt tx gs lo hi vr vst st W' :=
  ⟨h.kb.below hb h.kb.lt, owns_below h.o hb (Nat.le_refl _), OwI.below h.i hb (Nat.le_refl _), owns_below h.t hb (Nat.le_refl _), h.l.below hb h.l.lt, h.ol.below hb h.hh, Nat.le_trans h.hh hb.size, h.ne, h.out, h.lw, h.b.trans (hb.mono h.b.size)⟩
theorem RS.cells (h : RS w bb lb base zs T vs vi vt tx gs lo hi vr vst st W) : W.cell? ⟨bb, 0, none⟩ = some vs ∧ W.cell? ⟨bb, 1, none⟩ = some vi ∧ W.cell? ⟨lb, 0, none⟩ = some vr ∧ W.cell? ⟨lb, 1, none⟩ = some vst :=
  ⟨h.kb.c.1, h.kb.c.2, h.l.c.1, h.l.c.2⟩
theorem RS.store {lo' hi' : Nat} {vr' vst' : Value} {st' : List Int} (h : RS w bb lb base zs T vs vi vt tx gs lo hi vr vst st W) (ho : OwL W lo' hi' vr' vst' gs st') (h1 : lb < lo') (h2 : hi' ≤ W.heap.size) :
    RS w bb lb base zs T vs vi vt tx gs lo' hi' vr' vst' st' ((W.setCell ⟨lb, 0, none⟩ vr').setCell ⟨lb, 1, none⟩ vst') := by
  have hf : ∀ q, q ≠ lb → ((W.setCell ⟨lb, 0, none⟩ vr').setCell ⟨lb, 1, none⟩ vst').heap[q]? = W.heap[q]? := fun q hq => by
    rw [Go.heap_setCell_other _ _ _ _ (by show q ≠ lb; exact hq), Go.heap_setCell_other _ _ _ _ (by show q ≠ lb; exact hq)]
  refine ⟨(hf _ h.ne).trans h.kb, ?_, ?_, ?_, h.l.set2E _ _, ho.frame (fun q q1 q2 => hf q (by omega)), by simp; exact h2, h.ne, .inl h1, h.lw, (h.b.setCell h.lw _).setCell h.lw _⟩
  · exact owns_of_block h.o (fun q hq => hf q (own_notE h.o h.l (by decide) hq))
  · exact owns_of_block h.i (fun q hq => hf q (own_notE h.i h.l (by decide) hq))
  · exact owns_of_block h.t (fun q hq => hf q (own_notE h.t h.l (by decide) hq))
end
end Go.Proofs.YtbgngikejgihgagGreatDoor

namespace Go.Proofs.YtbgngikejgihgagGreatDoor
open Go Go.RowKit
set_option linter.unusedVariables false

/-- Another element at a rank. -/
def AT.put : AT → Nat → Pc → AT
  | .nil, _, _ => .nil
  | .node l p r, k, e => if k < l.its then .node (l.put k e) p r else if l.its < k then .node l p (r.put (k - l.its - 1) e) else .node l e r

theorem AT.put_its : ∀ (T : AT) (k : Nat) (e : Pc), (T.put k e).its = T.its
  | .nil, _, _ => rfl
  | .node l p r, k, e => by
    have h1 := AT.put_its l k e
    have h2 := AT.put_its r (k - l.its - 1) e
    unfold AT.put
    split
    · simp only [AT.its, h1]
    · split <;> simp only [AT.its, h2]
theorem AT.put_ht : ∀ (T : AT) (k : Nat) (e : Pc), (T.put k e).ht = T.ht
  | .nil, _, _ => rfl
  | .node l p r, k, e => by
    have h1 := AT.put_ht l k e
    have h2 := AT.put_ht r (k - l.its - 1) e
    unfold AT.put
    split
    · simp only [AT.ht, h1]
    · split <;> simp only [AT.ht, h2]
theorem AT.put_bal : ∀ (T : AT) (k : Nat) (e : Pc), T.bal → (T.put k e).bal
  | .nil, _, _, _ => trivial
  | .node l p r, k, e, h => by
    have e1 := AT.put_ht l k e
    have e2 := AT.put_ht r (k - l.its - 1) e
    unfold AT.put
    split
    · have h1 := AT.put_bal l k e
      simp only [AT.bal, e1] at h ⊢
      exact ⟨h1 h.1, h.2⟩
    · split
      · have h2 := AT.put_bal r (k - l.its - 1) e
        simp only [AT.bal, e2] at h ⊢
        exact ⟨h.1, h2 h.2.1, h.2.2⟩
      · simpa only [AT.bal] using h
theorem AT.put_told : ∀ (T : AT) (k : Nat) (e : Pc) (d : Int) (y : It), (T.told d)[k]? = some y → (T.put k e).told d = (T.told d).set k ⟨e, y.lv⟩
  | .nil, k, e, d, y, h => by simp [AT.told] at h
  | .node l p r, k, e, d, y, h => by
    have hl := AT.told_length l (d + 1)
    unfold AT.put
    split
    · rename_i hk
      simp only [AT.told] at h ⊢
      rw [List.getElem?_append_left (by omega)] at h
      rw [AT.put_told l k e (d + 1) y h, List.set_append_left _ _ (by omega)]
    · rename_i hk
      split
      · rename_i hk2
        simp only [AT.told] at h ⊢
        rw [List.getElem?_append_right (by omega), hl, show k - l.its = (k - l.its - 1) + 1 by omega, List.getElem?_cons_succ] at h
        obtain ⟨j, hj⟩ : ∃ j, k = l.its + 1 + j := ⟨k - l.its - 1, by omega⟩
        subst hj
        rw [show l.its + 1 + j - l.its - 1 = j by omega] at h ⊢
        rw [AT.put_told r j e (d + 1) y h, List.set_append_right _ _ (by omega), hl, show l.its + 1 + j - l.its = j + 1 by omega, List.set_cons_succ]
      · rename_i hk2
        obtain rfl : k = l.its := by omega
        simp only [AT.told] at h ⊢
        rw [List.getElem?_append_right (by omega), hl, Nat.sub_self, List.getElem?_cons_zero] at h
        cases h
        rw [List.set_append_right _ _ (by omega), hl, Nat.sub_self, List.set_cons_zero]
theorem AT.put_flat (T : AT) (k : Nat) (e : Pc) (h : k < T.its) : (T.put k e).flat = T.flat.set k e := by
  have tp : ∀ (T : AT) (d : Int), (T.told d).map It.pc = T.flat := by
    intro T
    induction T with
    | nil => intro d; rfl
    | node l p r h1 h2 => intro d; simp only [AT.told, List.map_append, List.map_cons, AT.flat, h1, h2]
  have hl := AT.told_length T 0
  obtain ⟨y, hy⟩ : ∃ y, (T.told 0)[k]? = some y := ⟨(T.told 0)[k]'(by omega), List.getElem?_eq_getElem (by omega)⟩
  rw [← tp (T.put k e) 0, AT.put_told T k e 0 y hy, ← tp T 0, List.map_set]

/-- The rank of the first piece that starts at an offset or behind it. -/
def rankL : List It → Int → Nat
  | [], _ => 0
  | x :: xs, off => if off ≤ 0 then 0 else 1 + rankL xs (off - x.pc.len)
theorem rankL_low (xs : List It) (off : Int) (h : off ≤ 0) : rankL xs off = 0 := by
  cases xs with
  | nil => rfl
  | cons x xs => simp [rankL, h]
theorem rankL_find : ∀ (xs : List It) (k : Int) (r : Nat) (i l b : Int), (∀ x ∈ xs, 1 ≤ x.pc.len) → 0 ≤ k → findL (fun p => p.len) xs k = some (r, i, l, b) → rankL xs k = r + (if i = 0 then 0 else 1) ∧ 0 ≤ i
  | [], k, r, i, l, b, _, _, h => by simp [findL] at h
  | x :: xs, k, r, i, l, b, hp, h0, h => by
    have hx := hp x (by simp)
    unfold findL at h
    split at h
    · rename_i hk
      simp only [Option.some.injEq, Prod.mk.injEq] at h
      obtain ⟨rfl, rfl, _, _⟩ := h
      refine ⟨?_, h0⟩
      unfold rankL
      split
      · rename_i hc
        rw [if_pos (by omega)]
      · rename_i hc
        rw [rankL_low xs _ (by omega), if_neg (by omega)]
    · rename_i hk
      split at h
      · cases h
      · rename_i r' i' l' b' hf
        simp only [Option.some.injEq, Prod.mk.injEq] at h
        obtain ⟨rfl, rfl, rfl, rfl⟩ := h
        obtain ⟨h1, h2⟩ := rankL_find xs (k - x.pc.len) r' i' l' b' (fun y hy => hp y (by simp [hy])) (by omega) hf
        refine ⟨?_, h2⟩
        unfold rankL
        rw [if_neg (by omega), h1]
        omega
theorem rankL_all : ∀ (xs : List It), (∀ x ∈ xs, 1 ≤ x.pc.len) → rankL xs (total xs) = xs.length
  | [], _ => rfl
  | x :: xs, hp => by
    have hx := hp x (by simp)
    have h0 : 0 ≤ total xs := by
      have hp' : ∀ y ∈ xs, 1 ≤ y.pc.len := fun y hy => hp y (by simp [hy])
      clear hp
      induction xs with
      | nil => simp [total]
      | cons y xs ih => simp only [total]; have := hp' y (by simp); have := ih (fun z hz => hp' z (by simp [hz])); omega
    have ih := rankL_all xs (fun y hy => hp y (by simp [hy]))
    have et : total (x :: xs) = x.pc.len + total xs := rfl
    rw [et]
    unfold rankL
    rw [if_neg (by omega), show x.pc.len + total xs - x.pc.len = total xs by omega, ih, List.length_cons]
    omega
/-- The search by runes at the end. -/
theorem seek_end : ∀ (T : AT), (∀ x ∈ T.told 0, 0 ≤ x.pc.len) → (seekT (fun p => p.len) T T.rns).1 = T.its ∧ (seekT (fun p => p.len) T T.rns).2.2.2.1 = 0 := by
  have gen : ∀ (T : AT) (d : Int), (∀ x ∈ T.told d, 0 ≤ x.pc.len) → (seekT (fun p => p.len) T T.rns).1 = T.its ∧ (seekT (fun p => p.len) T T.rns).2.2.2.1 = 0 := by
    intro T
    induction T with
    | nil => intro d _; exact ⟨rfl, rfl⟩
    | node l p r ihl ihr =>
      intro d h
      have e0 : sumM (fun p => p.len) (l.told 0) = l.rns := by rw [sumM_len, AT.rns_told]
      have hp : 0 ≤ p.len := h ⟨p, d⟩ (by simp [AT.told])
      have hr := ihr (d + 1) (fun x hx => h x (by simp [AT.told, hx]))
      have nn : ∀ xs : List It, (∀ x ∈ xs, 0 ≤ x.pc.len) → 0 ≤ total xs := by
        intro xs
        induction xs with
        | nil => intro _; simp [total]
        | cons y ys ih => intro hy; simp only [total]; have := hy y (by simp); have := ih (fun z hz => hy z (by simp [hz])); omega
      have n2 : 0 ≤ r.rns := by rw [← AT.rns_told r (d + 1)]; exact nn _ (fun x hx => h x (by simp [AT.told, hx]))
      have ern : (AT.node l p r).rns = l.rns + p.len + r.rns := rfl
      simp only [seekT, e0]
      rw [if_neg (by omega), if_neg (by omega), show (AT.node l p r).rns - l.rns - p.len = r.rns by omega]
      simp only [AT.its]
      exact ⟨by rw [hr.1]; omega, hr.2⟩
  exact fun T h => gen T 0 h
/-- The rank by counting is the search's. -/
theorem rank_seek (T : AT) (off : Int) (hp : ∀ x ∈ T.told 0, 1 ≤ x.pc.len) (h0 : 0 ≤ off) (h1 : off ≤ T.rns) :
    rankL (T.told 0) off = (seekT (fun p => p.len) T off).1 + (if (seekT (fun p => p.len) T off).2.2.2.1 = 0 then 0 else 1) := by
  by_cases he : off = T.rns
  · subst he
    obtain ⟨e1, e2⟩ := seek_end T (fun x hx => by have := hp x hx; omega)
    rw [e1, e2, if_pos rfl, ← AT.rns_told T 0, rankL_all _ hp, AT.told_length]
    rfl
  · have hs : sumM (fun p => p.len) (T.told 0) = T.rns := by rw [sumM_len, AT.rns_told]
    have hf := seek_find (fun p => p.len) T 0 off h0 (by omega) (fun x hx => by have := hp x hx; omega)
    exact (rankL_find _ _ _ _ _ _ hp h0 hf).1
end Go.Proofs.YtbgngikejgihgagGreatDoor
