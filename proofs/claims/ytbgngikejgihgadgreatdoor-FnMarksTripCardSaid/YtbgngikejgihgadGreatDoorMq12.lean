import Derived.Lib.QuietBelowIn
import Derived.RangeFuncCalls
import Derived.WalkKit
namespace Go.Proofs.YtbgngikejgihgadGreatDoor
open Go Go.Sort Go.RowKit

/-- In a round an operation that defers nothing does what it does outside. -/
theorem wpAnyIn_round {n : Nat} {P : Program} {md : Region.Mode} {ops : Array Oper} {Q : Exit → Act → World → Prop} (l : Nat) (hd : ∀ o ∈ ops.toList, ∀ c, o.op ≠ .defer c) :
    ∀ (fuel : Nat) (listed : Array Bool) (a : Act) (w : World), wpAnyIn Fence.wide n P md ops Q fuel listed a w → wpAnyIn (Fence.wide.inRound l) n P md ops Q fuel listed a w
  | 0, _, _, _, h => h
  | fuel + 1, listed, a, w, h => by
    refine ⟨h.1, fun i hi => ?_⟩
    have h2 := h.2 i hi
    unfold wpOpIn at h2 ⊢
    cases ho : ops[i]? with
    | none => rw [ho] at h2; exact wpAnyIn_round l hd fuel _ _ _ h2
    | some o =>
      rw [ho] at h2
      simp only at h2 ⊢
      have hm : o ∈ ops.toList := by
        have := Array.mem_of_getElem? ho
        exact Array.mem_toList_iff.2 this
      split at h2
      · rename_i hw
        rw [if_pos hw]
        have h3 := Oper.wpIn_mono (fun a w => wpAnyIn_round l hd fuel _ a w) h2
        unfold Oper.wpIn at h3 ⊢
        refine ⟨h3.1, ?_⟩
        have e1 : Oper.semAt (Fence.wide.inRound l).round a.eval o = Oper.semAt Fence.wide.round a.eval o := (Oper.semAt_some l _ _ (hd o hm)).trans (Oper.semAt_none _ _).symm
        rw [e1]
        exact h3.2
      · rename_i hw
        rw [if_neg hw]
        exact ⟨h2.1, wpAnyIn_round l hd fuel _ _ _ h2.2⟩

def noDefer (o : Oper) : Bool := match o.op with | .defer _ => false | _ => true
theorem noDefer_all {L : List Oper} (h : L.all noDefer = true) : ∀ o ∈ L, ∀ c, o.op ≠ .defer c := by
  intro o ho c hc
  have := List.all_eq_true.1 h o ho
  simp [noDefer, hc] at this
end Go.Proofs.YtbgngikejgihgadGreatDoor

namespace Go.Proofs.YtbgngikejgihgadGreatDoor
open Go Go.Sort Go.RowKit
set_option linter.unusedVariables false

section
variable {F : Fence} {n : Nat} {P : Program} {ops : Array Oper} {md : Region.Mode} {C : World → Prop}

/-- The first m operations have come up. -/
def allQ (m : Nat) (listed : Array Bool) : Bool := (List.range m).all fun k => listed.getD k false
/-- What has come up has all behind which it stands. -/
def Clo (md : Region.Mode) (ops : Array Oper) (listed : Array Bool) : Prop := ∀ (j : Nat) (o : Oper), ops[j]? = some o → listed.getD j false = true → ∀ e ∈ o.after, Region.binds md e = true → listed.getD e.on false = true
def hasOn (md : Region.Mode) (ops : Array Oper) (k i : Nat) : Bool := match ops[k]? with
  | some o => o.after.any fun e => Region.binds md e && e.on == i
  | none => false
/-- Every one of the first m operations is waited for by a later one, number m among these; all behind m wait for m. -/
def tailB (md : Region.Mode) (ops : Array Oper) (m : Nat) : Bool :=
  ((List.range m).all fun i => (List.range (m + 1)).any fun k => decide (i < k) && hasOn md ops k i) &&
  ((List.range ops.size).all fun j => decide (j ≤ m) || hasOn md ops j m)

theorem hasOn_spec {k i : Nat} (h : hasOn md ops k i = true) : ∃ o, ops[k]? = some o ∧ ∃ e ∈ o.after, Region.binds md e = true ∧ e.on = i := by
  unfold hasOn at h
  cases ho : ops[k]? with
  | none => rw [ho] at h; cases h
  | some o =>
    rw [ho] at h
    obtain ⟨e, he, hb⟩ := Array.any_eq_true'.1 h
    simp only [Bool.and_eq_true, beq_iff_eq] at hb
    exact ⟨o, rfl, e, he, hb.1, hb.2⟩

theorem Clo.set {listed : Array Bool} (h : Clo md ops listed) {j : Nat} (hj : j ∈ Region.ready md ops listed) : Clo md ops (listed.setIfInBounds j true) := by
  obtain ⟨_, oj, hoj, hall⟩ := mem_ready.1 hj
  intro k o ho hk e he hb
  by_cases hkj : j = k
  · subst hkj
    rw [hoj] at ho; cases ho
    exact getD_set_true (hall e he hb)
  · rw [getD_set_ne false hkj] at hk
    exact getD_set_true (h k o ho hk e he hb)

theorem all_of_m {m : Nat} (hB : tailB md ops m = true) {listed : Array Bool} (hC : Clo md ops listed) (hm : ∀ o, ops[m]? = some o → ∀ e ∈ o.after, Region.binds md e = true → listed.getD e.on false = true) : allQ m listed = true := by
  simp only [tailB, Bool.and_eq_true, List.all_eq_true, List.mem_range] at hB
  have key : ∀ d i, i < m → m - i ≤ d → listed.getD i false = true := by
    intro d
    induction d with
    | zero => intro i hi hd; omega
    | succ d ih =>
      intro i hi hd
      have h1 := hB.1 i hi
      obtain ⟨k, hk, hk2⟩ := List.any_eq_true.1 h1
      simp only [List.mem_range, Bool.and_eq_true, decide_eq_true_eq] at hk hk2
      obtain ⟨o, ho, e, he, hb, hon⟩ := hasOn_spec hk2.2
      subst hon
      by_cases hkm : k = m
      · subst hkm; exact hm o ho e he hb
      · exact hC k o ho (ih k (by omega) (by omega)) e he hb
  simp only [allQ, List.all_eq_true, List.mem_range]
  exact fun i hi => key m i hi (by omega)

theorem all_of_tail {m : Nat} (hB : tailB md ops m = true) {listed : Array Bool} (hC : Clo md ops listed) {j : Nat} (hj : m ≤ j) (hr : j ∈ Region.ready md ops listed) : allQ m listed = true := by
  obtain ⟨_, oj, hoj, hall⟩ := mem_ready.1 hr
  by_cases hjm : j = m
  · subst hjm
    exact all_of_m hB hC (fun o ho e he hb => by rw [hoj] at ho; cases ho; exact hall e he hb)
  · have hB' := hB
    simp only [tailB, Bool.and_eq_true, List.all_eq_true, List.mem_range] at hB'
    have h2 := hB'.2 j (Array.getElem?_eq_some_iff.1 hoj).1
    simp only [Bool.or_eq_true, decide_eq_true_eq] at h2
    rcases h2 with h2 | h2
    · omega
    · obtain ⟨o, ho, e, he, hb, hon⟩ := hasOn_spec h2
      rw [hoj] at ho; cases ho
      have hml := hall e he hb
      rw [hon] at hml
      exact all_of_m hB hC (fun o ho e he hb => hC m o ho hml e he hb)

/-- Whatever order is picked, the first m operations are quiet; behind them T. -/
def wpAnyT (F : Fence) (n : Nat) (P : Program) (md : Region.Mode) (ops : Array Oper) (C : World → Prop) (m : Nat) (T : Nat → Array Bool → Act → Prop) : Nat → Array Bool → Act → Prop
  | 0, listed, a => allQ m listed = true ∧ T 0 listed a
  | fuel + 1, listed, a => if allQ m listed = true then T (fuel + 1) listed a else Region.ready md ops listed ≠ [] ∧ ∀ i ∈ Region.ready md ops listed, qOpIn F n P ops C i (wpAnyT F n P md ops C m T fuel (listed.setIfInBounds i true)) a

theorem wpAnyIn_of_T {m : Nat} {T : Nat → Array Bool → Act → Prop} {Q' : Exit → Act → World → Prop} (hro : F.round = none) (hT : ∀ f listed a w, C w → T f listed a → wpAnyIn F n P md ops Q' f listed a w) : ∀ (fuel : Nat) (listed : Array Bool) (a : Act) (w : World), C w →
    wpAnyT F n P md ops C m T fuel listed a → wpAnyIn F n P md ops Q' fuel listed a w
  | 0, _, _, _, hw, h => hT _ _ _ _ hw h.2
  | fuel + 1, listed, a, w, hw, h => by
    unfold wpAnyT at h
    split at h
    · exact hT _ _ _ _ hw h
    · exact ⟨fun h0 => absurd h0 h.1, fun i hi => wpOpIn_of_qOpIn hro hw (fun a' w' hw' => wpAnyIn_of_T hro hT fuel _ a' w' hw') (h.2 i hi)⟩

theorem not_allQ {m i : Nat} {listed : Array Bool} (hi : i < m) (h : listed.getD i true = false) : ¬ allQ m listed = true := by
  intro hq
  simp only [allQ, List.all_eq_true, List.mem_range] at hq
  have h1 := hq i hi
  rcases Nat.lt_or_ge i listed.size with h' | h'
  · simp [h'] at h h1; rw [h] at h1; cases h1
  · simp [Array.getElem?_eq_none h'] at h1

theorem wpAnyT_first {m : Nat} {T : Nat → Array Bool → Act → Prop} {i : Nat} {oi : Oper} {v : Value} (hi : ops[i]? = some oi) (him : i < m) (hsel : ∀ (j : Nat) (o : Oper) cs b, ops[j]? = some o → o.op ≠ .select cs b) (hB : tailB md ops m = true) :
    ∀ (fuel : Nat) (listed : Array Bool) (a : Act), Clo md ops listed →
      (∀ j oj, ops[j]? = some oj → j ≠ i → listed.getD j true = false → (∀ e ∈ oj.after, Region.binds md e = true → e.on ≠ i) → oi.apart ops oj = true) →
      i ∈ Region.ready md ops listed → YieldsQuiet F n P ops C oi v a →
      wpAnyT F n P md ops C m T fuel (listed.setIfInBounds i true) (a.put oi.dst v) → wpAnyT F n P md ops C m T (fuel + 1) listed a := by
  intro fuel
  induction fuel with
  | zero =>
    intro listed a hC _ hr hy H
    unfold wpAnyT
    have hun := (mem_ready.1 hr).1
    rw [if_neg (not_allQ him hun)]
    refine ⟨fun h => (by rw [h] at hr; cases hr), fun j hj => ?_⟩
    by_cases hji : j = i
    · subst hji; exact hy.qOpIn hi H
    · exfalso
      have hjm : j < m := by
        rcases Nat.lt_or_ge j m with h' | h'
        · exact h'
        · exact absurd (all_of_tail hB hC h' hj) (not_allQ him hun)
      have h2 := (mem_ready.1 hj).1
      exact not_allQ hjm (by rw [getD_set_ne true (Ne.symm hji)]; exact h2) H.1
  | succ fuel ih =>
    intro listed a hC hfree hr hy H
    unfold wpAnyT
    have hun := (mem_ready.1 hr).1
    rw [if_neg (not_allQ him hun)]
    refine ⟨fun h => (by rw [h] at hr; cases hr), fun j hj => ?_⟩
    by_cases hji : j = i
    · subst hji; exact hy.qOpIn hi H
    · have hjm : j < m := by
        rcases Nat.lt_or_ge j m with h' | h'
        · exact h'
        · exact absurd (all_of_tail hB hC h' hj) (not_allQ him hun)
      have H' := H
      unfold wpAnyT at H'
      rw [if_neg (not_allQ hjm (by rw [getD_set_ne true (Ne.symm hji)]; exact (mem_ready.1 hj).1))] at H'
      have h1 := H'.2 j (ready_mono hj hji)
      obtain ⟨hjun, oj, hoj, hall⟩ := mem_ready.1 hj
      have hnot : ∀ e ∈ oj.after, Region.binds md e = true → e.on ≠ i := fun e he hb heq => by
        have h1 := hall e he hb
        have h0 := (mem_ready.1 hr).1
        rw [heq] at h1
        rcases Nat.lt_or_ge i listed.size with h' | h'
        · simp [h'] at h0 h1; rw [h0] at h1; cases h1
        · simp [Array.getElem?_eq_none h'] at h1
      have h2 := qOpIn_put hoj (hfree j oj hoj hji hjun hnot) (fun cs b => hsel i oi cs b hi) (fun cs b => hsel j oj cs b hoj) hy h1
      have hfree' : ∀ k ok, ops[k]? = some ok → k ≠ i → (listed.setIfInBounds j true).getD k true = false →
          (∀ e ∈ ok.after, Region.binds md e = true → e.on ≠ i) → oi.apart ops ok = true := fun k ok hk hki hun hno => by
        refine hfree k ok hk hki ?_ hno
        by_cases hjk : j = k
        · subst hjk; exact hjun
        · rw [getD_set_ne true hjk] at hun; exact hun
      refine qOpIn_mono (fun a' h3 => ih (listed.setIfInBounds j true) a' (hC.set hj) hfree' (ready_mono hr (Ne.symm hji)) h3.1 ?_) h2
      rw [Array.setIfInBounds_comm _ _ hji]
      exact h3.2

def lexT (md : Region.Mode) (ops : Array Oper) (m : Nat) : Nat → Nat → Array Bool → Bool
  | 0, _, listed => allQ m listed
  | len + 1, k, listed => decide (k < m) && (Region.ready md ops listed).contains k && Region.free md ops listed k && lexT md ops m len (k + 1) (listed.setIfInBounds k true)
def finL : Nat → Nat → Array Bool → Array Bool
  | 0, _, listed => listed
  | len + 1, k, listed => finL len (k + 1) (listed.setIfInBounds k true)

theorem wpAnyT_lex {m : Nat} {T : Nat → Array Bool → Act → Prop} (hs : Region.noSelect ops = true) (hB : tailB md ops m = true) (t : Nat) : ∀ (l : List Oper) (k : Nat) (listed : Array Bool) (a : Act), (∀ j, j < l.length → l[j]? = ops[k + j]?) → Clo md ops listed →
    lexT md ops m l.length k listed = true → wpQuietIn F n P ops C (fun a' => T t (finL l.length k listed) a') l a → wpAnyT F n P md ops C m T (l.length + t) listed a
  | [], _, listed, a, _, _, hL, h => by
    simp only [List.length_nil, Nat.zero_add] at *
    have hq : allQ m listed = true := hL
    cases t with
    | zero => exact ⟨hq, h⟩
    | succ t => unfold wpAnyT; rw [if_pos hq]; exact h
  | o :: l, k, listed, a, hl, hC, hL, h => by
    have h0 : ops[k]? = some o := by simpa using (hl 0 (by simp)).symm
    simp only [List.length_cons, lexT, Bool.and_eq_true, decide_eq_true_eq] at hL
    obtain ⟨⟨⟨hkm, hr⟩, hf⟩, hL'⟩ := hL
    have hst : qOpIn F n P ops C k (wpQuietIn F n P ops C (fun a' => T t (finL l.length (k + 1) (listed.setIfInBounds k true)) a') l) a := by unfold qOpIn; simp only [h0]; exact h
    obtain ⟨v, hy, hK⟩ := yieldsQuiet_of_qOpIn h0 hst
    have hr' : k ∈ Region.ready md ops listed := by simpa using hr
    rw [show (o :: l).length + t = l.length + t + 1 by simp; omega]
    exact wpAnyT_first h0 hkm (Region.noSelect_spec hs) hB (l.length + t) listed a hC (Region.free_spec h0 hf) hr' hy
      (wpAnyT_lex hs hB t l (k + 1) _ _ (fun j hj => by have := hl (j + 1) (by simpa using hj); simpa [Nat.add_assoc, Nat.add_comm 1 j] using this) (hC.set hr') hL' hK)

def seqB (md : Region.Mode) (ops : Array Oper) : Nat → Nat → Array Bool → Bool
  | 0, _, listed => (Region.ready md ops listed).isEmpty
  | len + 1, k, listed => (Region.ready md ops listed) == [k] && seqB md ops len (k + 1) (listed.setIfInBounds k true)

theorem wpAnyIn_of_list {Q : Exit → Act → World → Prop} : ∀ (l : List Oper) (k : Nat) (listed : Array Bool) (a : Act) (w : World), (∀ j, j < l.length → l[j]? = ops[k + j]?) → seqB md ops l.length k listed = true → wpListIn F n P ops Q l a w → wpAnyIn F n P md ops Q l.length listed a w
  | [], _, listed, a, w, _, hS, h => ⟨by simpa [seqB] using hS, h⟩
  | o :: l, k, listed, a, w, hl, hS, h => by
    have h0 : ops[k]? = some o := by simpa using (hl 0 (by simp)).symm
    simp only [List.length_cons, seqB, Bool.and_eq_true, beq_iff_eq] at hS
    have ih := fun a w => wpAnyIn_of_list (Q := Q) l (k + 1) (listed.setIfInBounds k true) a w (fun j hj => by have := hl (j + 1) (by simpa using hj); simpa [Nat.add_assoc, Nat.add_comm 1 j] using this) hS.2
    refine ⟨fun h1 => (by rw [hS.1] at h1; cases h1), fun i hi => ?_⟩
    rw [hS.1] at hi
    obtain rfl : i = k := by simpa using hi
    unfold wpOpIn
    unfold wpListIn at h
    simp only [h0]
    split at h
    · rename_i hw
      rw [if_pos hw]
      exact Oper.wpIn_mono (fun a w h => ih a w h) h
    · rename_i hw
      rw [if_neg hw]
      exact ⟨h.1, ih _ _ h.2⟩
end

/-- The same outside a round: m operations that only read, in any order, and behind them the rest, in its order. -/
theorem wpIn_region_tailW {n : Nat} {P : Program} {id : Nat} {Q : Exit → Act → World → Prop} {a : Act} {w : World} {L : List Oper} (m : Nat) (hm : P.follows .mixedOrders = true)
    (hB : (Region.noSelect L.toArray && tailB .any L.toArray m && lexT .any L.toArray m (L.take m).length 0 (Array.replicate L.toArray.size false) && seqB .any L.toArray (L.drop m).length m (finL (L.take m).length 0 (Array.replicate L.toArray.size false)) && decide (m ≤ L.length)) = true)
    (h : wpQuietIn Fence.wide n P L.toArray (fun w' => ∃ p : Regrown, w' = grow (redrawn w p.d) p.os) (fun a' => ∀ w', (∃ p : Regrown, w' = grow (redrawn w p.d) p.os) → wpListIn Fence.wide n P L.toArray Q (L.drop m) a' w') (L.take m) a) : (Code.region id L.toArray true).wpIn Fence.wide n P Q a w := by
  simp only [Bool.and_eq_true, decide_eq_true_eq] at hB
  obtain ⟨⟨⟨⟨h1, h2⟩, h3⟩, h4⟩, h5⟩ := hB
  have e1 : (L.take m).length = m := by rw [List.length_take]; omega
  have hsz : L.toArray.size = (L.take m).length + (L.drop m).length := by rw [List.length_take, List.length_drop]; simp; omega
  refine wpIn_region_any hm ?_
  have fin : wpAnyIn Fence.wide n P .any L.toArray Q ((L.take m).length + (L.drop m).length) (Array.replicate L.toArray.size false) a { w with drawn := w.drawn + 1 } := ?_
  · rw [← hsz] at fin
    exact fin
  refine wpAnyIn_of_T (C := fun w' => ∃ p : Regrown, w' = grow (redrawn w p.d) p.os) (m := m) (T := fun f listed a' => f = (L.drop m).length ∧ listed = finL (L.take m).length 0 (Array.replicate L.toArray.size false) ∧ ∀ w', (∃ p : Regrown, w' = grow (redrawn w p.d) p.os) → wpListIn Fence.wide n P L.toArray Q (L.drop m) a' w') rfl ?_ _ _ _ _ ⟨⟨w.drawn + 1, #[]⟩, by rw [grow_empty]; rfl⟩ ?_
  · rintro f listed a' w' hw ⟨rfl, rfl, hT⟩
    refine wpAnyIn_of_list (L.drop m) m _ a' w' (fun j hj => ?_) h4 (hT w' hw)
    rw [List.getElem?_drop]; simp
  · refine wpAnyT_lex h1 h2 (L.drop m).length (L.take m) 0 _ a (fun j hj => ?_) ?_ h3 ?_
    · rw [e1] at hj
      rw [List.getElem?_take, if_pos hj]; simp
    · intro j o ho hj
      exfalso
      simp only [Array.getD_eq_getD_getElem?, Array.getElem?_replicate] at hj
      split at hj <;> simp at hj
    · have hmono : ∀ (l : List Oper) (a : Act) (Q1 Q2 : Act → Prop), (∀ a, Q1 a → Q2 a) → wpQuietIn Fence.wide n P L.toArray (fun w' => ∃ p : Regrown, w' = grow (redrawn w p.d) p.os) Q1 l a → wpQuietIn Fence.wide n P L.toArray (fun w' => ∃ p : Regrown, w' = grow (redrawn w p.d) p.os) Q2 l a := by
        intro l
        induction l with
        | nil => intro a Q1 Q2 h h1; exact h a h1
        | cons o l ih =>
          intro a Q1 Q2 h h1
          refine ⟨h1.1, ?_⟩
          have h2 := h1.2
          split at h2
          · rename_i hw; rw [if_pos hw]; exact Oper.quietIn_mono (fun a h' => ih a Q1 Q2 h h') h2
          · rename_i hw; rw [if_neg hw]; exact ih _ Q1 Q2 h h2
      exact hmono _ _ _ _ (fun a' h' => ⟨rfl, rfl, h'⟩) h
end Go.Proofs.YtbgngikejgihgadGreatDoor
