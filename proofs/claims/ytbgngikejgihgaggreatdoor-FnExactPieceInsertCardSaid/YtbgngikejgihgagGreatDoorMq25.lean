import Derived.Test.YtbgngikejgihgagGreatDoorMq24
import Derived.OrdersIn
import Derived.Test.YtbgngikejgihgagGreatDoorMq21
import Derived.Test.YtbgngikejgihgagGreatDoorMq04
import Derived.Test.YtbgngikejgihgagGreatDoorMq23
import Derived.Test.YtbgngikejgihgagGreatDoorMq16
namespace Go.Proofs.YtbgngikejgihgagGreatDoor
open Go Go.Sort Go.RowKit
set_option linter.unusedVariables false

section
variable {F : Fence} {n : Nat} {P : Program} {ops : Array Oper} {md : Region.Mode} {C : World → Prop}

/-- The first s have come up, and what has come up has all behind which it stands. -/
def CloS (md : Region.Mode) (ops : Array Oper) (s : Nat) (listed : Array Bool) : Prop := Clo md ops listed ∧ ∀ i, i < s → listed.getD i false = true
/-- Every one of the first m operations but the first s is waited for by a later one, number m among these; all behind m wait for m. -/
def tailS (md : Region.Mode) (ops : Array Oper) (s m : Nat) : Bool :=
  ((List.range m).all fun i => decide (i < s) || (List.range (m + 1)).any fun k => decide (i < k) && hasOn md ops k i) &&
  ((List.range ops.size).all fun j => decide (j ≤ m) || hasOn md ops j m)
theorem CloS.set {s : Nat} {listed : Array Bool} (h : CloS md ops s listed) {j : Nat} (hj : j ∈ Region.ready md ops listed) : CloS md ops s (listed.setIfInBounds j true) := ⟨h.1.set hj, fun i hi => getD_set_true (h.2 i hi)⟩
theorem all_of_mS {s m : Nat} (hB : tailS md ops s m = true) {listed : Array Bool} (hC : CloS md ops s listed) (hm : ∀ o, ops[m]? = some o → ∀ e ∈ o.after, Region.binds md e = true → listed.getD e.on false = true) : allQ m listed = true := by
  simp only [tailS, Bool.and_eq_true, List.all_eq_true, List.mem_range] at hB
  have key : ∀ d i, i < m → m - i ≤ d → listed.getD i false = true := by
    intro d
    induction d with
    | zero => intro i hi hd; omega
    | succ d ih =>
      intro i hi hd
      have h0 := hB.1 i hi
      rw [Bool.or_eq_true, decide_eq_true_eq] at h0
      rcases h0 with h0 | h1
      · exact hC.2 i h0
      obtain ⟨k, hk, hk2⟩ := List.any_eq_true.1 h1
      simp only [List.mem_range, Bool.and_eq_true, decide_eq_true_eq] at hk hk2
      obtain ⟨o, ho, e, he, hb, hon⟩ := hasOn_spec hk2.2
      subst hon
      by_cases hkm : k = m
      · subst hkm; exact hm o ho e he hb
      · exact hC.1 k o ho (ih k (by omega) (by omega)) e he hb
  simp only [allQ, List.all_eq_true, List.mem_range]
  exact fun i hi => key m i hi (by omega)

theorem all_of_tailS {s m : Nat} (hB : tailS md ops s m = true) {listed : Array Bool} (hC : CloS md ops s listed) {j : Nat} (hj : m ≤ j) (hr : j ∈ Region.ready md ops listed) : allQ m listed = true := by
  obtain ⟨_, oj, hoj, hall⟩ := mem_ready.1 hr
  by_cases hjm : j = m
  · subst hjm
    exact all_of_mS hB hC (fun o ho e he hb => by rw [hoj] at ho; cases ho; exact hall e he hb)
  · have hB' := hB
    simp only [tailS, Bool.and_eq_true, List.all_eq_true, List.mem_range] at hB'
    have h2 := hB'.2 j (Array.getElem?_eq_some_iff.1 hoj).1
    simp only [Bool.or_eq_true, decide_eq_true_eq] at h2
    rcases h2 with h2 | h2
    · omega
    · obtain ⟨o, ho, e, he, hb, hon⟩ := hasOn_spec h2
      rw [hoj] at ho; cases ho
      have hml := hall e he hb
      rw [hon] at hml
      exact all_of_mS hB hC (fun o ho e he hb => hC.1 m o ho hml e he hb)

theorem wpAnyT_firstS {s m : Nat} {T : Nat → Array Bool → Act → Prop} {i : Nat} {oi : Oper} {v : Value} (hi : ops[i]? = some oi) (him : i < m) (hsel : ∀ (j : Nat) (o : Oper) cs b, ops[j]? = some o → o.op ≠ .select cs b) (hB : tailS md ops s m = true) :
    ∀ (fuel : Nat) (listed : Array Bool) (a : Act), CloS md ops s listed →
      (∀ j oj, ops[j]? = some oj → j ≠ i → listed.getD j true = false → (∀ e ∈ oj.after, Region.binds md e = true → e.on ≠ i) → oi.apart ops oj = true) →
      i ∈ Region.ready md ops listed → YieldsQuiet F n P ops C oi v a →
      wpAnyT F n P md ops C m T fuel (listed.setIfInBounds i true) (a.put oi.dst v) → wpAnyT F n P md ops C m T (fuel + 1) listed a := by
  intro fuel
  induction fuel with
  | zero =>
    intro listed a hC _ hr hy H
    unfold wpAnyT
    have hun := (mem_ready.1 hr).1
    rw [if_neg (not_allQ him hun)]
    refine ⟨fun h => (by rw [h] at hr; cases hr), fun j hj => ?_⟩
    by_cases hji : j = i
    · subst hji; exact hy.qOpIn hi H
    · exfalso
      have hjm : j < m := by
        rcases Nat.lt_or_ge j m with h' | h'
        · exact h'
        · exact absurd (all_of_tailS hB hC h' hj) (not_allQ him hun)
      have h2 := (mem_ready.1 hj).1
      exact not_allQ hjm (by rw [getD_set_ne true (Ne.symm hji)]; exact h2) H.1
  | succ fuel ih =>
    intro listed a hC hfree hr hy H
    unfold wpAnyT
    have hun := (mem_ready.1 hr).1
    rw [if_neg (not_allQ him hun)]
    refine ⟨fun h => (by rw [h] at hr; cases hr), fun j hj => ?_⟩
    by_cases hji : j = i
    · subst hji; exact hy.qOpIn hi H
    · have hjm : j < m := by
        rcases Nat.lt_or_ge j m with h' | h'
        · exact h'
        · exact absurd (all_of_tailS hB hC h' hj) (not_allQ him hun)
      have H' := H
      unfold wpAnyT at H'
      rw [if_neg (not_allQ hjm (by rw [getD_set_ne true (Ne.symm hji)]; exact (mem_ready.1 hj).1))] at H'
      have h1 := H'.2 j (ready_mono hj hji)
      obtain ⟨hjun, oj, hoj, hall⟩ := mem_ready.1 hj
      have hnot : ∀ e ∈ oj.after, Region.binds md e = true → e.on ≠ i := fun e he hb heq => by
        have h1 := hall e he hb
        have h0 := (mem_ready.1 hr).1
        rw [heq] at h1
        rcases Nat.lt_or_ge i listed.size with h' | h'
        · simp [h'] at h0 h1; rw [h0] at h1; cases h1
        · simp [Array.getElem?_eq_none h'] at h1
      have h2 := qOpIn_put hoj (hfree j oj hoj hji hjun hnot) (fun cs b => hsel i oi cs b hi) (fun cs b => hsel j oj cs b hoj) hy h1
      have hfree' : ∀ k ok, ops[k]? = some ok → k ≠ i → (listed.setIfInBounds j true).getD k true = false →
          (∀ e ∈ ok.after, Region.binds md e = true → e.on ≠ i) → oi.apart ops ok = true := fun k ok hk hki hun hno => by
        refine hfree k ok hk hki ?_ hno
        by_cases hjk : j = k
        · subst hjk; exact hjun
        · rw [getD_set_ne true hjk] at hun; exact hun
      refine qOpIn_mono (fun a' h3 => ih (listed.setIfInBounds j true) a' (hC.set hj) hfree' (ready_mono hr (Ne.symm hji)) h3.1 ?_) h2
      rw [Array.setIfInBounds_comm _ _ hji]
      exact h3.2

theorem wpAnyT_lexS {s m : Nat} {T : Nat → Array Bool → Act → Prop} (hs : Region.noSelect ops = true) (hB : tailS md ops s m = true) (t : Nat) : ∀ (l : List Oper) (k : Nat) (listed : Array Bool) (a : Act), (∀ j, j < l.length → l[j]? = ops[k + j]?) → CloS md ops s listed →
    lexT md ops m l.length k listed = true → wpQuietIn F n P ops C (fun a' => T t (finL l.length k listed) a') l a → wpAnyT F n P md ops C m T (l.length + t) listed a
  | [], _, listed, a, _, _, hL, h => by
    simp only [List.length_nil, Nat.zero_add] at *
    have hq : allQ m listed = true := hL
    cases t with
    | zero => exact ⟨hq, h⟩
    | succ t => unfold wpAnyT; rw [if_pos hq]; exact h
  | o :: l, k, listed, a, hl, hC, hL, h => by
    have h0 : ops[k]? = some o := by simpa using (hl 0 (by simp)).symm
    simp only [List.length_cons, lexT, Bool.and_eq_true, decide_eq_true_eq] at hL
    obtain ⟨⟨⟨hkm, hr⟩, hf⟩, hL'⟩ := hL
    have hst : qOpIn F n P ops C k (wpQuietIn F n P ops C (fun a' => T t (finL l.length (k + 1) (listed.setIfInBounds k true)) a') l) a := by unfold qOpIn; simp only [h0]; exact h
    obtain ⟨v, hy, hK⟩ := yieldsQuiet_of_qOpIn h0 hst
    have hr' : k ∈ Region.ready md ops listed := by simpa using hr
    rw [show (o :: l).length + t = l.length + t + 1 by simp; omega]
    exact wpAnyT_firstS h0 hkm (Region.noSelect_spec hs) hB (l.length + t) listed a hC (Region.free_spec h0 hf) hr' hy
      (wpAnyT_lexS hs hB t l (k + 1) _ _ (fun j hj => by have := hl (j + 1) (by simpa using hj); simpa [Nat.add_assoc, Nat.add_comm 1 j] using this) (hC.set hr') hL' hK)

end

/-- A region whose first operation only copies and may come up late: it first, then m - 1 operations that only read, in any order, and behind them the rest, in its order. -/
theorem wpIn_region_tailM {n : Nat} {P : Program} {id : Nat} {Q : Exit → Act → World → Prop} {a : Act} {w : World} {o0 : Oper} {L : List Oper} (m : Nat) (v : Value) (hm : P.follows .mixedOrders = true)
    (hB : (Region.noSelect (o0 :: L).toArray && Region.free .any (o0 :: L).toArray (Array.replicate (o0 :: L).toArray.size false) 0 && (Region.ready .any (o0 :: L).toArray (Array.replicate (o0 :: L).toArray.size false)).contains 0 && tailS .any (o0 :: L).toArray 1 (m + 1) && lexT .any (o0 :: L).toArray (m + 1) (L.take m).length 1 ((Array.replicate (o0 :: L).toArray.size false).setIfInBounds 0 true) && seqB .any (o0 :: L).toArray (L.drop m).length (m + 1) (finL (L.take m).length 1 ((Array.replicate (o0 :: L).toArray.size false).setIfInBounds 0 true)) && decide (m ≤ L.length)) = true)
    (hQ : ∀ c a w, Q (.panic c) (a.put o0.dst v) w → Q (.panic c) a w) (hy : YieldsFenced P (o0 :: L).toArray o0 v a)
    (h : wpQuietIn Fence.wide n P (o0 :: L).toArray (fun w' => ∃ p : Regrown, w' = grow (redrawn w p.d) p.os) (fun a' => ∀ w', (∃ p : Regrown, w' = grow (redrawn w p.d) p.os) → wpListIn Fence.wide n P (o0 :: L).toArray Q (L.drop m) a' w') (L.take m) (a.put o0.dst v)) : (Code.region id (o0 :: L).toArray true).wpIn Fence.wide n P Q a w := by
  simp only [Bool.and_eq_true, decide_eq_true_eq] at hB
  obtain ⟨⟨⟨⟨⟨⟨h1, h2⟩, h3⟩, h4⟩, h5⟩, h6⟩, h7⟩ := hB
  have e1 : (L.take m).length = m := by rw [List.length_take]; omega
  have hsz : (o0 :: L).toArray.size = ((L.take m).length + (L.drop m).length) + 1 := by rw [List.length_take, List.length_drop]; simp; omega
  refine wpIn_region_any hm ?_
  have fin : wpAnyIn Fence.wide n P .any (o0 :: L).toArray Q (((L.take m).length + (L.drop m).length) + 1) (Array.replicate (o0 :: L).toArray.size false) a { w with drawn := w.drawn + 1 } := ?_
  · rw [← hsz] at fin
    exact fin
  refine wpAnyIn_take (i := 0) (oi := o0) (v := v) rfl (by simp) h1 h2 h3 hQ hy ?_
  refine wpAnyIn_of_T (C := fun w' => ∃ p : Regrown, w' = grow (redrawn w p.d) p.os) (m := m + 1) (T := fun f listed a' => f = (L.drop m).length ∧ listed = finL (L.take m).length 1 ((Array.replicate (o0 :: L).toArray.size false).setIfInBounds 0 true) ∧ ∀ w', (∃ p : Regrown, w' = grow (redrawn w p.d) p.os) → wpListIn Fence.wide n P (o0 :: L).toArray Q (L.drop m) a' w') rfl ?_ _ _ _ _ ⟨⟨w.drawn + 1, #[]⟩, by rw [grow_empty]; rfl⟩ ?_
  · rintro f listed a' w' hw ⟨rfl, rfl, hT⟩
    refine wpAnyIn_of_list (L.drop m) (m + 1) _ a' w' (fun j hj => ?_) h6 (hT w' hw)
    rw [List.getElem?_drop, show m + 1 + j = (m + j) + 1 by omega]; simp
  · have hr0 : 0 ∈ Region.ready .any (o0 :: L).toArray (Array.replicate (o0 :: L).toArray.size false) := by simpa using h3
    have hc0 : Clo .any (o0 :: L).toArray (Array.replicate (o0 :: L).toArray.size false) := by
      intro j o ho hj
      exfalso
      simp only [Array.getD_eq_getD_getElem?, Array.getElem?_replicate] at hj
      split at hj <;> simp at hj
    refine wpAnyT_lexS (s := 1) h1 h4 (L.drop m).length (L.take m) 1 _ _ (fun j hj => ?_) ⟨hc0.set hr0, fun i hi => ?_⟩ h5 ?_
    · rw [e1] at hj
      rw [List.getElem?_take, if_pos hj, show 1 + j = j + 1 by omega]; simp
    · obtain rfl : i = 0 := by omega
      simp
    · have hmono : ∀ (l : List Oper) (a : Act) (Q1 Q2 : Act → Prop), (∀ a, Q1 a → Q2 a) → wpQuietIn Fence.wide n P (o0 :: L).toArray (fun w' => ∃ p : Regrown, w' = grow (redrawn w p.d) p.os) Q1 l a → wpQuietIn Fence.wide n P (o0 :: L).toArray (fun w' => ∃ p : Regrown, w' = grow (redrawn w p.d) p.os) Q2 l a := by
        intro l
        induction l with
        | nil => intro a Q1 Q2 h h1; exact h a h1
        | cons o l ih =>
          intro a Q1 Q2 h h1
          refine ⟨h1.1, ?_⟩
          have h2 := h1.2
          split at h2
          · rename_i hw; rw [if_pos hw]; exact Oper.quietIn_mono (fun a h' => ih a Q1 Q2 h h') h2
          · rename_i hw; rw [if_neg hw]; exact ih _ Q1 Q2 h h2
      exact hmono _ _ _ _ (fun a' h' => ⟨rfl, rfl, h'⟩) h
end Go.Proofs.YtbgngikejgihgagGreatDoor

namespace Go.Proofs.YtbgngikejgihgagGreatDoor
open Go Go.RowKit Go.Shelf Go.Sort
set_option linter.unusedVariables false

/-- A core whose tree may be changed. -/
structure PM (w : World) (base c b o cap : Nat) (S : List Int) (T : AT) (u : Option Addr) (bs : List Nat) : Prop where
  k : PK w c b o S.length cap u
  t : Lies w base T u bs
  nd : bs.Nodup
  cb : c ∉ bs
  bb : b ∉ bs
  bc : b ≠ c
  rt : At32' w b o S
  lb : b < w.heap.size
  cap1 : S.length ≤ cap
  cap2 : cap ≤ maxLen
  n : S.length ≤ 220000

theorem PK.chg {w w' : World} {c b o n cap : Nat} {u : Option Addr} {bs : List Nat} (h : PK w c b o n cap u) (hc : Chg bs w w') (hn : c ∉ bs) : PK w' c b o n cap u := (hc.block c h.lt hn).trans h
theorem PK.set1 {w : World} {c b o n cap : Nat} {u : Option Addr} (h : PK w c b o n cap u) (u' : Option Addr) : PK (w.setCell ⟨c, 1, none⟩ (.pointer u')) c b o n cap u' := by
  unfold PK at h ⊢; rw [heap_setCell_same w c 1 _ _ _ h]; rfl
theorem PK.fz {w : World} {c b o n cap : Nat} {u : Option Addr} (h : PK w c b o n cap u) (j : Nat) : w.frozen? ⟨c, j, none⟩ = false := frozen_of_row w c j _ _ h
theorem At32'.chg {w w' : World} {b o : Nat} {zs : List Int} {bs : List Nat} (h : At32' w b o zs) (hc : Chg bs w w') (hb : b < w.heap.size) (hn : b ∉ bs) : At32' w' b o zs := fun i hi => by
  have := h i hi
  unfold World.cell? at this ⊢
  rw [hc.block b hb hn]; exact this

def CutPost (w : World) (base c b o n cap : Nat) (T : AT) (bs : List Nat) (w' : World) : Prop :=
  ∃ u' bs', PK w' c b o n cap u' ∧ Lies w' base T u' bs' ∧ bs'.Nodup ∧ (∀ x ∈ bs', x ∈ bs ∨ w.heap.size ≤ x) ∧ Chg (c :: bs) w w'

set_option maxHeartbeats 2000000 in
set_option maxRecDepth 100000 in
theorem cutA (c b o n cap q m j r1 base : Nat) (off pb r2 r3 r5 : Int) (u : Option Addr) (T1 T2 : AT) (bs : List Nat) (e1 e2 : Pc) (w : World) (hk : PK w c b o n cap u) (hcb : c ∉ bs) (hbs : ∀ x ∈ bs, x < w.heap.size) (hoff : 0 ≤ off ∧ off ≤ 8192) (hj : 0 < j) (hjm : j < m) (hm : m ≤ 8192) (hq : q ≤ 220000) (hr1 : r1 ≤ 8192) (hbase : base ≤ w.heap.size)
    (HSK : Hid (Calls Tryz.prog 390 #[.pointer u, .int .i64 off, .func (.func 391) #[] #[]] w fun e w' => e = .returned (fndV (q : Int) (m : Int) pb (r1, r2, r3, (j : Int), r5)) ∧ Below w.heap.size w w'))
    (HM1 : Hid (∀ W, Below w.heap.size w W → Calls Tryz.prog 180 #[.pointer (some ⟨c, 0, none⟩), .int .i64 (q : Int), .int .i64 (j : Int)] W fun e w' => e = .returned (.agg #[.int .i64 e1.off, .int .i64 e1.len, .int .i64 e1.brk]) ∧ Below W.heap.size W w'))
    (HRP : Hid (∀ W, Below w.heap.size w W → Calls Tryz.prog 387 #[.pointer u, .int .i64 (r1 : Int), .agg #[.int .i64 e1.off, .int .i64 e1.len, .int .i64 e1.brk]] W fun e w' => e = .returned (.tuple #[]) ∧ Lies w' base T1 u bs ∧ Chg bs W w'))
    (HM2 : Hid (∀ W, Chg bs w W → Calls Tryz.prog 180 #[.pointer (some ⟨c, 0, none⟩), .int .i64 ((q : Int) + (j : Int)), .int .i64 ((m : Int) - (j : Int))] W fun e w' => e = .returned (.agg #[.int .i64 e2.off, .int .i64 e2.len, .int .i64 e2.brk]) ∧ Below W.heap.size W w'))
    (HIN : Hid (∀ W, Lies W base T1 u bs → base ≤ W.heap.size → Calls Tryz.prog 389 #[.pointer u, .int .i64 ((r1 : Int) + 1), .agg #[.int .i64 e2.off, .int .i64 e2.len, .int .i64 e2.brk]] W (MutPost base T2 bs W))) :
    Calls Tryz.prog 384 #[.pointer (some ⟨c, 0, none⟩), .int .i64 off] w fun e w' => e = .returned (.int .i64 ((r1 : Int) + 1)) ∧ CutPost w base c b o n cap T2 bs w' := by
  have c1 := hk.c1
  have hclt := hk.lt
  have HK := hide hk
  clear hk
  go_enter Tryz.func384, Tryz.ntmps384
  go_wp2_with fail
  refine HSK.out.mono ?_
  rintro e wa ⟨rfl, hba⟩
  have HBB := hide (hba.alloc hba.size (.cells #[.int .i64 (q : Int), .int .i64 (m : Int), .int .i64 pb, .int .i64 (r1 : Int), .int .i64 r2, .int .i64 r3, .int .i64 (j : Int), .int .i64 r5] 477))
  have KF : (wa.alloc (.cells #[.int .i64 (q : Int), .int .i64 (m : Int), .int .i64 pb, .int .i64 (r1 : Int), .int .i64 r2, .int .i64 r3, .int .i64 (j : Int), .int .i64 r5] 477)).heap[wa.heap.size]? = some (.cells #[.int .i64 (q : Int), .int .i64 (m : Int), .int .i64 pb, .int .i64 (r1 : Int), .int .i64 r2, .int .i64 r3, .int .i64 (j : Int), .int .i64 r5] 477 (0, 0)) := heap_alloc_new _ _
  have HKF := hide KF
  have hsb : w.heap.size ≤ (wa.alloc (.cells #[.int .i64 (q : Int), .int .i64 (m : Int), .int .i64 pb, .int .i64 (r1 : Int), .int .i64 r2, .int .i64 r3, .int .i64 (j : Int), .int .i64 r5] 477)).heap.size := HBB.out.size
  have hfa := hba.size
  clear hba HSK c1 KF
  unfold fndV
  simp only
  go_upto_region 2 with fail
  generalize wa.alloc (.cells #[.int .i64 (q : Int), .int .i64 (m : Int), .int .i64 pb, .int .i64 (r1 : Int), .int .i64 r2, .int .i64 r3, .int .i64 (j : Int), .int .i64 r5] 477) = wb at *
  generalize wa.heap.size = fb at *
  have hfl : fb < wb.heap.size := (Array.getElem?_eq_some_iff.1 HKF.out).1
  have c1 := (HBB.out.cell (p := ⟨c, 1, none⟩) hclt).trans HK.out.c1
  have f0 : wb.cell? ⟨fb, 0, none⟩ = some (.int .i64 (q : Int)) := by rw [cell_of_row wb _ 0 _ _ _ HKF.out]; rfl
  have f3 : wb.cell? ⟨fb, 3, none⟩ = some (.int .i64 (r1 : Int)) := by rw [cell_of_row wb _ 3 _ _ _ HKF.out]; rfl
  have f6 : wb.cell? ⟨fb, 6, none⟩ = some (.int .i64 (j : Int)) := by rw [cell_of_row wb _ 6 _ _ _ HKF.out]; rfl
  have hj0 : ¬ (j : Int) = 0 := by omega
  have hj1 : ¬ j = 0 := by omega
  go_upto_region 5 with fail
  have q1 := fun d os => cell_regrown c1 d os
  have q0 := fun d os => cell_regrown f0 d os
  have q6 := fun d os => cell_regrown f6 d os
  have HMQ := hide (fun d os => CallsIn.regrown_of (F := Fence.wide) (r := 5) (w := wb) (d := d) (os := os) (callsIn_wide.2 (HM1.out _ (HBB.out.trans ((below_regrown wb d os).mono hsb)))))
  refine wpIn_wide.1 (wpIn_region_tailW (n := 6) 12 (by kernel_rfl) (by kernel_rfl) ?_)
  simp only [List.take_succ_cons, List.take_zero, List.drop_succ_cons, List.drop_zero]
  repeat (refine wpQuietIn_step (fun _ _ _ _ => trivial) (fun K hK => ?_); go_simp; first | (refine hK _ ?_; clear hK K) | (apply Exists.intro; refine ⟨fun _ => ?_, hK _ ?_⟩; (first | exact ⟨trivial, HMQ.out _ _⟩ | exact HMQ.out _ _); clear hK K))
  refine wpQuietIn_nil ?_
  intro _ hw'
  obtain ⟨⟨dq, osq⟩, hw''⟩ := hw'
  subst hw''
  have HBC := hide (HBB.out.trans ((below_regrown wb dq osq).mono hsb))
  have HKG := hide (((below_regrown wb dq osq).block fb hfl).trans HKF.out)
  have hfl2 := Nat.lt_of_lt_of_le hfl (below_regrown wb dq osq).size
  clear q0 q1 q6 HMQ f0 f3 f6 c1 HKF hfl
  generalize grow (redrawn wb dq) osq = wc at *
  have hsc := HBC.out.size
  gi_wp2_with fail
  refine ⟨trivial, (callsIn_wide.2 (HRP.out _ HBC.out)).mono ?_⟩
  rintro e wd ⟨rfl, hl4, hc4⟩
  have HL4 := hide hl4
  have HC4 := hide ((Chg.of_below (bs := bs) HBC.out).trans hc4 (fun _ h _ => h) (fun _ h _ => h) (ds := bs))
  have nfb : fb ∉ bs := fun h => by have := hbs fb h; omega
  have HKD := hide (HK.out.chg HC4.out hcb)
  have kf := (hc4.block fb hfl2 nfb).trans HKG.out
  have hfl4 : fb < wd.heap.size := Nat.lt_of_lt_of_le hfl2 hc4.size
  have f0 : wd.cell? ⟨fb, 0, none⟩ = some (.int .i64 (q : Int)) := by rw [cell_of_row wd _ 0 _ _ _ kf]; rfl
  have f1 : wd.cell? ⟨fb, 1, none⟩ = some (.int .i64 (m : Int)) := by rw [cell_of_row wd _ 1 _ _ _ kf]; rfl
  have f6 : wd.cell? ⟨fb, 6, none⟩ = some (.int .i64 (j : Int)) := by rw [cell_of_row wd _ 6 _ _ _ kf]; rfl
  have c1 := HKD.out.c1
  have hs4 := HC4.out.size
  clear hl4 hc4 kf HKG HBC HRP HM1 HBB
  gi_wp2_with fail
  go_upto_region 6 with fail
  have q1 := fun d os => cell_regrown c1 d os
  have q0 := fun d os => cell_regrown f0 d os
  have qm := fun d os => cell_regrown f1 d os
  have q6 := fun d os => cell_regrown f6 d os
  have w1 : IntKind.i64.wrap ((r1 : Int) + 1) = (r1 : Int) + 1 := i64w _ (by omega) (by omega)
  have w2 : IntKind.i64.wrap ((q : Int) + (j : Int)) = (q : Int) + (j : Int) := i64w _ (by omega) (by omega)
  have w3 : IntKind.i64.wrap ((m : Int) - (j : Int)) = (m : Int) - (j : Int) := i64w _ (by omega) (by omega)
  have HMQ := hide (fun d os => CallsIn.regrown_of (F := Fence.wide) (r := 5) (w := wd) (d := d) (os := os) (callsIn_wide.2 (HM2.out _ (HC4.out.trans (Chg.of_below (bs := []) (below_regrown wd d os)) (fun _ h _ => h) (fun _ h _ => by cases h)))))
  refine (wpIn_wide (n := 6)).1 ?_
  refine wpIn_region_tailM 20 (.pointer (some ⟨c, 0, none⟩)) (by kernel_rfl) (by kernel_rfl) (fun _ _ _ h => h) ⟨Or.inl ⟨by rfl, ?_⟩, fun w => by rfl⟩ ?_
  · intro w; go_simp
  simp only [List.take_succ_cons, List.take_zero, List.drop_succ_cons, List.drop_zero]
  repeat (refine wpQuietIn_step (fun _ _ _ _ => trivial) (fun K hK => ?_); go_simp; first | (refine hK _ ?_; clear hK K) | (apply Exists.intro; refine ⟨fun _ => ?_, hK _ ?_⟩; (first | exact ⟨trivial, HMQ.out _ _⟩ | exact HMQ.out _ _); clear hK K))
  refine wpQuietIn_nil ?_
  intro _ hw'
  obtain ⟨⟨dr, osr⟩, hw''⟩ := hw'
  subst hw''
  have HBR := hide (below_regrown wd dr osr)
  clear q0 q1 qm q6 HMQ f0 f1 f6 c1 w2 w3 HM2
  generalize grow (redrawn wd dr) osr = we at *
  have HLE := hide (HL4.out.below HBR.out (Nat.le_refl _))
  have HCE := hide (HC4.out.trans (Chg.of_below (bs := []) HBR.out) (fun _ h _ => h) (fun _ h _ => by cases h) (ds := bs))
  have hse := HCE.out.size
  have HKE := hide (HK.out.chg HCE.out hcb)
  clear HL4 HC4 HBR HKD
  gi_wp2_with fail
  refine ⟨trivial, (callsIn_wide.2 (HIN.out _ HLE.out (by omega))).mono ?_⟩
  rintro e wf ⟨u', bs', rfl, hT', nd', sub', ch'⟩
  have HKF := hide (HKE.out.chg ch' hcb)
  have HTF := hide hT'
  have ncb : c ∉ bs' := fun h => by
    rcases sub' c h with h | h
    · exact hcb h
    · omega
  have HSU := hide (show ∀ x ∈ bs', x ∈ bs ∨ w.heap.size ≤ x from fun x hx => (sub' x hx).imp id (fun h => by omega))
  have HCF := hide (HCE.out.trans ch' (fun _ h _ => h) (fun _ h _ => h) (ds := bs))
  have HND := hide nd'
  have d1 := HKF.out.c1
  have z1 := HKF.out.fz 1
  clear hT' nd' sub' ch' HCE HLE HKE HIN
  gi_wp2_with fail
  go_wp2
  go_ret
  exact ⟨rfl, u', bs', HKF.out.set1 u', HTF.out.other ⟨c, 1, none⟩ (.pointer u') ncb, HND.out, HSU.out, (HCF.out.trans (Chg.refl [] _) (fun x h _ => by simp [h]) (fun x h _ => by cases h) (ds := c :: bs)).setCell ⟨c, 1, none⟩ (.pointer u') (.inl (by simp))⟩
end Go.Proofs.YtbgngikejgihgagGreatDoor
