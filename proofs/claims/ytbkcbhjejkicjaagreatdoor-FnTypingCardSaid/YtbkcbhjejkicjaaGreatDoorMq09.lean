import Derived.Test.YtbkcbhjejkicjaaGreatDoorMq04
import Derived.OrdersIn
namespace Go.Proofs.YtbkcbhjejkicjaaGreatDoor
open Go Go.Sort Go.RowKit
set_option linter.unusedVariables false

/-- A region whose first operation only copies and may come up late: it first, then m - 1 operations that only read, in any order, and behind them the rest, in its order. -/
theorem wpIn_region_tailM {n : Nat} {P : Program} {id : Nat} {Q : Exit → Act → World → Prop} {a : Act} {w : World} {o0 : Oper} {L : List Oper} (m : Nat) (v : Value) (hm : P.follows .mixedOrders = true)
    (hB : (Region.noSelect (o0 :: L).toArray && Region.free .any (o0 :: L).toArray (Array.replicate (o0 :: L).toArray.size false) 0 && (Region.ready .any (o0 :: L).toArray (Array.replicate (o0 :: L).toArray.size false)).contains 0 && tailS .any (o0 :: L).toArray 1 (m + 1) && lexT .any (o0 :: L).toArray (m + 1) (L.take m).length 1 ((Array.replicate (o0 :: L).toArray.size false).setIfInBounds 0 true) && seqB .any (o0 :: L).toArray (L.drop m).length (m + 1) (finL (L.take m).length 1 ((Array.replicate (o0 :: L).toArray.size false).setIfInBounds 0 true)) && decide (m ≤ L.length)) = true)
    (hQ : ∀ c a w, Q (.panic c) (a.put o0.dst v) w → Q (.panic c) a w) (hy : YieldsFenced P (o0 :: L).toArray o0 v a)
    (h : wpQuietIn Fence.wide n P (o0 :: L).toArray (fun w' => ∃ p : Regrown, w' = grow (redrawn w p.d) p.os) (fun a' => ∀ w', (∃ p : Regrown, w' = grow (redrawn w p.d) p.os) → wpListIn Fence.wide n P (o0 :: L).toArray Q (L.drop m) a' w') (L.take m) (a.put o0.dst v)) : (Code.region id (o0 :: L).toArray true).wpIn Fence.wide n P Q a w := by
  simp only [Bool.and_eq_true, decide_eq_true_eq] at hB
  obtain ⟨⟨⟨⟨⟨⟨h1, h2⟩, h3⟩, h4⟩, h5⟩, h6⟩, h7⟩ := hB
  have e1 : (L.take m).length = m := by rw [List.length_take]; omega
  have hsz : (o0 :: L).toArray.size = ((L.take m).length + (L.drop m).length) + 1 := by rw [List.length_take, List.length_drop]; simp; omega
  refine wpIn_region_any hm ?_
  have fin : wpAnyIn Fence.wide n P .any (o0 :: L).toArray Q (((L.take m).length + (L.drop m).length) + 1) (Array.replicate (o0 :: L).toArray.size false) a { w with drawn := w.drawn + 1 } := ?_
  · rw [← hsz] at fin
    exact fin
  refine wpAnyIn_take (i := 0) (oi := o0) (v := v) rfl (by simp) h1 h2 h3 hQ hy ?_
  have hr0 : 0 ∈ Region.ready .any (o0 :: L).toArray (Array.replicate (o0 :: L).toArray.size false) := by simpa using h3
  refine tailCore (s := 1) (L.take m) (L.drop m) 1 _ _ _ ⟨⟨w.drawn + 1, #[]⟩, by rw [grow_empty]; rfl⟩ rfl (fun j hj => ?_) (fun j hj => ?_) h1 (by rw [e1, Nat.add_comm]; exact h4) ⟨(clo0 _).set hr0, fun i hi => ?_⟩ (by rw [e1, Nat.add_comm]; rw [e1] at h5; exact h5) (by rw [e1, Nat.add_comm 1]; rw [e1] at h6; exact h6) h
  · rw [e1] at hj
    rw [List.getElem?_take, if_pos hj, show 1 + j = j + 1 by omega]; simp
  · rw [e1, List.getElem?_drop, show 1 + m + j = (m + j) + 1 by omega]; simp
  · obtain rfl : i = 0 := by omega
    simp
end Go.Proofs.YtbkcbhjejkicjaaGreatDoor

namespace Go.Proofs.YtbkcbhjejkicjaaGreatDoor
open Go Go.Sort Go.RowKit
set_option linter.unusedVariables false

section
variable {F : Fence} {n : Nat} {P : Program} {ops : Array Oper} {md : Region.Mode} {Q : Exit → Act → World → Prop}

theorem wpIn_thenY {o : Oper} {K K' : Act → World → Prop} {a : Act} {w : World} (h : o.wpIn F n P a w K (Exit.then K' Q)) : o.wpIn F n P a w K Q := by
  unfold Oper.wpIn at *
  refine ⟨h.1, ?_⟩
  have hh := h.2
  generalize (o.semAt F.round a.eval).run P w = r at *
  cases r with
  | ok x w' =>
    cases x <;> simp only [Oper.uponIn] at hh ⊢ <;>
      first
        | exact hh
        | exact ⟨hh.1, CallsIn.mono hh.2 (fun e w'' he => by cases e <;> exact he)⟩
        | exact ⟨hh.1, RoundIn.mono hh.2 (fun e w'' he => by cases e <;> exact he)⟩
  | halt x w' => cases x <;> simp only [Oper.uponIn] at hh ⊢ <;> exact hh
end
end Go.Proofs.YtbkcbhjejkicjaaGreatDoor

namespace Go.Proofs.YtbkcbhjejkicjaaGreatDoor
open Go Go.Sort Go.RowKit
set_option linter.unusedVariables false

section
variable {F : Fence} {n : Nat} {P : Program} {ops : Array Oper} {md : Region.Mode} {Q : Exit → Act → World → Prop} {C : World → Prop}

/-- Whatever order is picked, and every world on the way is one of C. -/
def wpAnyC (C : World → Prop) (F : Fence) (n : Nat) (P : Program) (md : Region.Mode) (ops : Array Oper) (Q : Exit → Act → World → Prop) : Nat → Array Bool → Act → World → Prop
  | 0, listed, a, w => C w ∧ Region.ready md ops listed = [] ∧ Q .normal a w
  | fuel + 1, listed, a, w => C w ∧ (Region.ready md ops listed = [] → Q .normal a w) ∧ ∀ i ∈ Region.ready md ops listed, wpOpIn F n P ops Q i (wpAnyC C F n P md ops Q fuel (listed.setIfInBounds i true)) a w
theorem anyC_in : ∀ (fuel : Nat) (listed : Array Bool) (a : Act) (w : World), wpAnyC C F n P md ops Q fuel listed a w → wpAnyIn F n P md ops Q fuel listed a w
  | 0, _, _, _, h => h.2
  | fuel + 1, _, _, _, h => ⟨h.2.1, fun i hi => wpOpIn_mono (fun a w => anyC_in fuel _ a w) (h.2.2 i hi)⟩
/-- In every world of C it yields this. -/
def YC (C : World → Prop) (P : Program) (ops : Array Oper) (o : Oper) (v : Value) (a : Act) : Prop :=
  (Region.wanted o (yielded ops a.tmps) = true ∧ ∀ w, C w → (execOp a.eval o).run P w = .ok (.value v) w) ∧ ∀ w, o.about P w a.eval = none
theorem YC.op {i : Nat} {o : Oper} {v : Value} {a : Act} {w : World} {K : Act → World → Prop} (hro : F.round = none) (hi : ops[i]? = some o) (hy : YC C P ops o v a) (hC : C w) (h : K (a.put o.dst v) w) : wpOpIn F n P ops Q i K a w := by
  unfold wpOpIn
  simp only [hi, hy.1.1, if_true, Oper.wpIn, hro, Oper.semAt_none, hy.1.2 w hC, Oper.uponIn]
  exact ⟨fun f hf => (by rw [hy.2 w] at hf; cases hf), h⟩
theorem opPut {Y : Act → Prop} {j : Nat} {oi oj : Oper} {v : Value} {K : Act → World → Prop} {a : Act} {w : World} (hro : F.round = none) (hj : ops[j]? = some oj) (hap : oi.apart ops oj = true) (hsj : ∀ cs b, oj.op ≠ .select cs b)
    (hQ : ∀ c a w, Q (.panic c) (a.put oi.dst v) w → Q (.panic c) a w) (kp : ∀ a u, Y a → Y (a.put oj.dst u)) (kd : ∀ a d, Y a → Y { a with defers := d :: a.defers }) (hy : Y a) (h : wpOpIn F n P ops Q j K (a.put oi.dst v) w) :
    wpOpIn F n P ops Q j (fun a' w' => Y a' ∧ K (a'.put oi.dst v) w') a w := by
  obtain ⟨h1, h2, h3⟩ := Oper.apart_spec hap
  have pc := fun u => Act.put_comm a v u h2
  unfold wpOpIn at h ⊢
  simp only [hj] at h ⊢
  rw [wanted_put oj a oi.dst v h1, about_put oj w a oi.dst v h1] at h
  by_cases hw : Region.wanted oj (yielded ops a.tmps) = true
  · rw [if_pos hw] at h ⊢
    unfold Oper.wpIn at h ⊢
    rw [about_put oj w a oi.dst v h1, hro, Oper.semAt_none, execOp_put oj hsj a oi.dst v h1] at h
    rw [hro, Oper.semAt_none]
    refine ⟨h.1, ?_⟩
    replace h := h.2
    generalize (execOp a.eval oj).run P w = r at h ⊢
    cases r with
    | halt x w' => cases x <;> simp only [Oper.uponIn] at h ⊢; exact hQ _ _ _ h
    | ok x w' =>
      cases x <;> simp only [Oper.uponIn] at h ⊢
      case value u => exact ⟨kp _ _ hy, by rw [← pc]; exact h⟩
      case skip => exact ⟨kp _ _ hy, by rw [← pc]; exact h⟩
      case defer d =>
        refine ⟨kp _ _ (kd _ _ hy), ?_⟩
        rw [← Act.put_comm _ v undef h2, ← Act.put_defers]
        exact h
      case row row args => exact ⟨h.1, RowsIn.mono h.2 fun u w'' he => ⟨kp _ _ hy, by rw [← pc]; exact he⟩⟩
      case enter f args =>
        refine ⟨h.1, CallsIn.mono h.2 fun e w'' he => ?_⟩
        cases e with
        | returned u => exact ⟨kp _ _ hy, by rw [← pc]; exact he⟩
        | panicked c => exact hQ _ _ _ he
        | outgrown => exact he
      case round l f tmps assign body =>
        refine ⟨h.1, RoundIn.mono h.2 fun e w'' he => ?_⟩
        cases e with
        | returned u => exact ⟨kp _ _ hy, by rw [← pc]; exact he⟩
        | panicked c => exact hQ _ _ _ he
        | outgrown => exact he
  · rw [if_neg hw] at h ⊢
    exact ⟨h.1, kp _ _ hy, by rw [← pc]; exact h.2⟩
theorem firstC {i : Nat} {oi : Oper} {v : Value} (hro : F.round = none) (hi : ops[i]? = some oi) (hsel : ∀ (j : Nat) (o : Oper) cs b, ops[j]? = some o → o.op ≠ .select cs b) (hQ : ∀ c a w, Q (.panic c) (a.put oi.dst v) w → Q (.panic c) a w) :
    ∀ (fuel : Nat) (listed : Array Bool) (a : Act) (w : World),
      (∀ j oj, ops[j]? = some oj → j ≠ i → listed.getD j true = false → (∀ e ∈ oj.after, Region.binds md e = true → e.on ≠ i) → oi.apart ops oj = true) →
      i ∈ Region.ready md ops listed → YC C P ops oi v a → wpAnyC C F n P md ops Q fuel (listed.setIfInBounds i true) (a.put oi.dst v) w → wpAnyC C F n P md ops Q (fuel + 1) listed a w := by
  intro fuel
  induction fuel with
  | zero =>
    intro listed a w _ hr hy H
    refine ⟨H.1, fun h => (by rw [h] at hr; cases hr), fun j hj => ?_⟩
    by_cases hji : j = i
    · subst hji; exact hy.op hro hi H.1 H
    · have h9 := ready_mono hj hji
      rw [H.2.1] at h9
      cases h9
  | succ fuel ih =>
    intro listed a w hfree hr hy H
    refine ⟨H.1, fun h => (by rw [h] at hr; cases hr), fun j hj => ?_⟩
    by_cases hji : j = i
    · subst hji; exact hy.op hro hi H.1 H
    · have h1 := H.2.2 j (ready_mono hj hji)
      obtain ⟨hjun, oj, hoj, hall⟩ := mem_ready.1 hj
      have hnot : ∀ e ∈ oj.after, Region.binds md e = true → e.on ≠ i := fun e he hb heq => by
        have h1 := hall e he hb
        have h0 := (mem_ready.1 hr).1
        rw [heq] at h1
        rcases Nat.lt_or_ge i listed.size with h' | h'
        · simp [h'] at h0 h1; rw [h0] at h1; cases h1
        · simp [Array.getElem?_eq_none h'] at h1
      have hap := hfree j oj hoj hji hjun hnot
      obtain ⟨_, _, h3⟩ := Oper.apart_spec hap
      have hsi := fun cs b => hsel i oi cs b hi
      have same : ∀ {x y : Act}, execOp y.eval oi = execOp x.eval oi → Region.wanted oi (yielded ops y.tmps) = Region.wanted oi (yielded ops x.tmps) → (∀ w, oi.about P w y.eval = oi.about P w x.eval) → YC C P ops oi v x → YC C P ops oi v y :=
        fun e1 e2 e3 hx => ⟨⟨e2.trans hx.1.1, fun w hw => by rw [e1]; exact hx.1.2 w hw⟩, fun w => (e3 w).trans (hx.2 w)⟩
      have h2 := opPut (Y := YC C P ops oi v) hro hoj hap (fun cs b => hsel j oj cs b hoj) hQ (fun a u ha => same (execOp_put oi hsi a oj.dst u h3) (wanted_put oi a oj.dst u h3) (fun w => about_put oi w a oj.dst u h3) ha) (fun a d ha => same rfl rfl (fun _ => rfl) ha) hy h1
      refine wpOpIn_mono (fun a' w' h4 => ih (listed.setIfInBounds j true) a' w' (fun k ok hk hki hun hno => ?_) (ready_mono hr (Ne.symm hji)) h4.1 ?_) h2
      · refine hfree k ok hk hki ?_ hno
        by_cases hjk : j = k
        · subst hjk; exact hjun
        · rw [getD_set_ne true hjk] at hun; exact hun
      · rw [Array.setIfInBounds_comm _ _ hji]
        exact h4.2
/-- Take an operation first that yields the same in every world of C. -/
theorem takeC {i fuel : Nat} {oi : Oper} {v : Value} {listed : Array Bool} {a : Act} {w : World} (hro : F.round = none) (hi : ops[i]? = some oi) (hs : Region.noSelect ops = true) (hf : Region.free md ops listed i = true) (hr : (Region.ready md ops listed).contains i = true)
    (hQ : ∀ c a w, Q (.panic c) (a.put oi.dst v) w → Q (.panic c) a w) (hy : YC C P ops oi v a) (h : wpAnyC C F n P md ops Q fuel (listed.setIfInBounds i true) (a.put oi.dst v) w) : wpAnyC C F n P md ops Q (fuel + 1) listed a w :=
  firstC hro hi (Region.noSelect_spec hs) hQ fuel listed a w (Region.free_spec hi hf) (by simpa using hr) hy h
/-- It alone can come up. -/
theorem oneC {i fuel : Nat} {o : Oper} {listed : Array Bool} {a : Act} {w : World} (hi : ops[i]? = some o) (hr : (Region.ready md ops listed == [i]) = true) (hC : C w)
    (h : wpListIn F n P ops (Exit.then (wpAnyC C F n P md ops Q fuel (listed.setIfInBounds i true)) Q) [o] a w) : wpAnyC C F n P md ops Q (fuel + 1) listed a w := by
  have hr' : Region.ready md ops listed = [i] := by simpa using hr
  refine ⟨hC, fun h => (by rw [hr'] at h; cases h), fun k hk => ?_⟩
  rw [hr'] at hk
  obtain rfl : k = i := by simpa using hk
  unfold wpListIn at h
  unfold wpOpIn
  simp only [hi]
  split at h
  · rename_i hw; rw [if_pos hw]; exact Oper.wpIn_mono (fun a w h => h) (wpIn_thenY h)
  · rename_i hw; rw [if_neg hw]; exact h
/-- One of two can come up. -/
theorem twoC {i j fuel : Nat} {oi oj : Oper} {listed : Array Bool} {a : Act} {w : World} (hi : ops[i]? = some oi) (hj : ops[j]? = some oj) (hr : (Region.ready md ops listed == [i, j]) = true) (hC : C w)
    (h1 : wpListIn F n P ops (Exit.then (wpAnyC C F n P md ops Q fuel (listed.setIfInBounds i true)) Q) [oi] a w) (h2 : wpListIn F n P ops (Exit.then (wpAnyC C F n P md ops Q fuel (listed.setIfInBounds j true)) Q) [oj] a w) : wpAnyC C F n P md ops Q (fuel + 1) listed a w := by
  have hr' : Region.ready md ops listed = [i, j] := by simpa using hr
  refine ⟨hC, fun h => (by rw [hr'] at h; cases h), fun k hk => ?_⟩
  rw [hr'] at hk
  simp only [List.mem_cons, List.not_mem_nil, or_false] at hk
  rcases hk with rfl | rfl
  · unfold wpListIn at h1
    unfold wpOpIn
    simp only [hi]
    split at h1
    · rename_i hw; rw [if_pos hw]; exact Oper.wpIn_mono (fun a w h => h) (wpIn_thenY h1)
    · rename_i hw; rw [if_neg hw]; exact h1
  · unfold wpListIn at h2
    unfold wpOpIn
    simp only [hj]
    split at h2
    · rename_i hw; rw [if_pos hw]; exact Oper.wpIn_mono (fun a w h => h) (wpIn_thenY h2)
    · rename_i hw; rw [if_neg hw]; exact h2
theorem doneC {listed : Array Bool} {a : Act} {w : World} (hr : (Region.ready md ops listed).isEmpty = true) (hC : C w) (h : Q .normal a w) : ∀ fuel, wpAnyC C F n P md ops Q fuel listed a w
  | 0 => ⟨hC, by simpa using hr, h⟩
  | _ + 1 => ⟨hC, fun _ => h, by rw [show Region.ready md ops listed = [] by simpa using hr]; simp⟩
theorem regionC {id : Nat} {a : Act} {w : World} (C : World → Prop) (hm : P.follows .mixedOrders = true) (h : wpAnyC C F n P .any ops Q ops.size (Array.replicate ops.size false) a { w with drawn := w.drawn + 1 }) : (Code.region id ops true).wpIn F n P Q a w :=
  wpIn_region_any hm (anyC_in _ _ _ _ h)
theorem tk {fuel : Nat} {oi : Oper} {listed : Array Bool} {a : Act} {w : World} (i : Nat) (v : Value) (hy : ∀ w, C w → (execOp a.eval oi).run P w = .ok (.value v) w) (h : wpAnyC C F n P md ops Q fuel (listed.setIfInBounds i true) (a.put oi.dst v) w)
    (hro : F.round = none := by rfl) (hi : ops[i]? = some oi := by rfl) (hs : Region.noSelect ops = true := by kernel_rfl) (hf : Region.free md ops listed i = true := by kernel_rfl) (hr : (Region.ready md ops listed).contains i = true := by kernel_rfl)
    (hQ : ∀ c a w, Q (.panic c) (a.put oi.dst v) w → Q (.panic c) a w := by exact fun _ _ _ h => h) (hw : Region.wanted oi (yielded ops a.tmps) = true := by rfl) (hb : ∀ w, oi.about P w a.eval = none := by exact fun _ => rfl) : wpAnyC C F n P md ops Q (fuel + 1) listed a w :=
  takeC hro hi hs hf hr hQ ⟨⟨hw, hy⟩, hb⟩ h
theorem on {fuel : Nat} {o : Oper} {listed : Array Bool} {a : Act} {w : World} (i : Nat) (hC : C w) (h : wpListIn F n P ops (Exit.then (wpAnyC C F n P md ops Q fuel (listed.setIfInBounds i true)) Q) [o] a w) (hi : ops[i]? = some o := by rfl) (hr : (Region.ready md ops listed == [i]) = true := by kernel_rfl) : wpAnyC C F n P md ops Q (fuel + 1) listed a w := oneC hi hr hC h
theorem tw {fuel : Nat} {oi oj : Oper} {listed : Array Bool} {a : Act} {w : World} (i j : Nat) (hC : C w)
    (h1 : wpListIn F n P ops (Exit.then (wpAnyC C F n P md ops Q fuel (listed.setIfInBounds i true)) Q) [oi] a w) (h2 : wpListIn F n P ops (Exit.then (wpAnyC C F n P md ops Q fuel (listed.setIfInBounds j true)) Q) [oj] a w) (hi : ops[i]? = some oi := by rfl) (hj : ops[j]? = some oj := by rfl) (hr : (Region.ready md ops listed == [i, j]) = true := by kernel_rfl) : wpAnyC C F n P md ops Q (fuel + 1) listed a w := twoC hi hj hr hC h1 h2
end
end Go.Proofs.YtbkcbhjejkicjaaGreatDoor

namespace Go.Proofs.YtbkcbhjejkicjaaGreatDoor
open Go Go.RowKit
set_option linter.unusedVariables false

theorem nanSN (x : Int) (w : World) : Calls Tryz.prog 236 #[.int .i64 x] w fun e w' => e = .returned (.bool false) ∧ w' = w := by
  go_enter Tryz.func236, Tryz.ntmps236
  go_wp2
  go_ret
  exact ⟨by simp, rfl⟩

theorem nanCN (x : Int) (w : World) : Calls Tryz.prog 164 #[.int .i64 x] w fun e w' => e = .returned (.bool false) ∧ w' = w := by
  go_enter Tryz.func164, Tryz.ntmps164
  go_wp2
  go_ret
  exact ⟨by simp, rfl⟩

set_option maxHeartbeats 1000000 in
theorem lessIN (x y : Int) (w : World) : Calls Tryz.prog 235 #[.int .i64 x, .int .i64 y] w fun e w' => e = .returned (.bool (decide (x < y))) ∧ w' = w := by
  go_enter Tryz.func235, Tryz.ntmps235
  go_wp2_with (refine (nanCN _ _).mono ?_; rintro e w1 ⟨rfl, rfl⟩)
  go_ret
  exact ⟨by simp, rfl⟩

set_option maxHeartbeats 2000000 in
set_option maxRecDepth 100000 in
theorem searchIN (g cap n : Nat) (x : Int) (f : Nat → Int) (w : World) (hc : ∀ j, j < n → w.cell? ⟨g, j, none⟩ = some (.int .i64 (f j))) (hn : n ≤ cap) (hcap : n ≤ 1048576) (hmono : ∀ i j, i < j → j < n → f i < f j) :
    Calls Tryz.prog 234 #[.slice (some ⟨g, 0, none⟩) n cap, .int .i64 x] w fun e w' => ∃ k : Nat, e = .returned (.tuple #[.int .i64 k, .bool (decide (k < n ∧ f k = x))]) ∧ k ≤ n ∧ (∀ j, j < k → f j < x) ∧ (∀ j, k ≤ j → j < n → x ≤ f j) ∧ w' = w := by
  have HC := hide hc
  have HM := hide hmono
  clear hc hmono
  go_enter Tryz.func234, Tryz.ntmps234
  go_wp2_with fail
  go_loopw [7, 8] (fun i j wr => ∃ lo hi : Nat, i = .int .i64 lo ∧ j = .int .i64 hi ∧ lo ≤ hi ∧ hi ≤ n ∧ wr = w ∧ (∀ q, q < lo → f q < x) ∧ (∀ q, hi ≤ q → q < n → x ≤ f q))
    (fun i j _ => (intOf j).toNat - (intOf i).toNat)
  case atStart => exact ⟨0, n, rfl, rfl, Nat.zero_le _, Nat.le_refl _, rfl, fun q hq => by omega, fun q hq hx => by omega⟩
  case round =>
    obtain ⟨lo, hi, rfl, rfl, hlh, hin, rfl, h1, h2⟩ := hrel
    have H1 := hide h1
    have H2 := hide h2
    clear h1 h2
    by_cases hlt : lo < hi
    · have a0 := HC.out ((lo + hi) / 2) (by omega)
      have hlt' : (lo : Int) < (hi : Int) := by omega
      have hmid : ((lo : Int) + (hi : Int)) / 2 < (n : Int) := by omega
      have hm0 : (0 : Int) ≤ ((lo : Int) + (hi : Int)) / 2 := by omega
      have hmt : (((lo : Int) + (hi : Int)) / 2).toNat = (lo + hi) / 2 := by omega
      have HY := hide (show ∃ y, f ((lo + hi) / 2) = y from ⟨_, rfl⟩)
      obtain ⟨y, hy⟩ := HY.out
      rw [hy] at a0
      have HYE := hide hy
      clear hy HY
      by_cases hneg : y < x
      · go_wp2_with (refine (lessIN _ _ _).mono ?_; rintro e w1 ⟨rfl, rfl⟩)
        go_roundw
        case rel =>
          refine ⟨(lo + hi) / 2 + 1, hi, by rw [show ((lo : Int) + (hi : Int)) / 2 + 1 = (((lo + hi) / 2 + 1 : Nat) : Int) by omega], rfl, by omega, hin, trivial, fun q hq => ?_, H2.out⟩
          by_cases e : q = (lo + hi) / 2
          · rw [e, HYE.out]; exact hneg
          · have := HM.out q ((lo + hi) / 2) (by omega) (by omega); rw [HYE.out] at this; omega
        case measure => simp [intOf]; omega
      · go_wp2_with (refine (lessIN _ _ _).mono ?_; rintro e w1 ⟨rfl, rfl⟩)
        go_roundw
        case rel =>
          refine ⟨lo, (lo + hi) / 2, rfl, by rw [show ((lo : Int) + (hi : Int)) / 2 = (((lo + hi) / 2 : Nat) : Int) by omega], by omega, by omega, trivial, H1.out, fun q hq hqn => ?_⟩
          by_cases e : q = (lo + hi) / 2
          · rw [e, HYE.out]; omega
          · have := HM.out ((lo + hi) / 2) q (by omega) hqn; rw [HYE.out] at this; omega
        case measure => simp [intOf]; omega
    · obtain rfl : lo = hi := by omega
      have hge : ¬ (lo : Int) < (lo : Int) := by omega
      by_cases hln : lo < n
      · have a0 := HC.out lo hln
        have hlt' : (lo : Int) < (n : Int) := by omega
        obtain ⟨y, hy⟩ : ∃ y, f lo = y := ⟨_, rfl⟩
        rw [hy] at a0
        have HYE := hide hy
        clear hy
        by_cases hyx : y = x
        · subst hyx
          go_wp2_with (refine (nanSN _ _).mono ?_; rintro e w1 ⟨rfl, rfl⟩)
          go_ret2
          exact ⟨lo, by simp [hln, HYE.out], hin, H1.out, H2.out, rfl⟩
        · have hyb : (y == x) = false := by simpa using hyx
          go_wp2_with (refine (nanSN _ _).mono ?_; rintro e w1 ⟨rfl, rfl⟩)
          go_ret2
          exact ⟨lo, by simp [hyx, HYE.out], hin, H1.out, H2.out, rfl⟩
      · obtain rfl : lo = n := by omega
        go_wp2_with fail
        go_ret2
        exact ⟨lo, by simp, hin, H1.out, H2.out, rfl⟩
end Go.Proofs.YtbkcbhjejkicjaaGreatDoor

namespace Go.Proofs.YtbkcbhjejkicjaaGreatDoor
set_option linter.unusedVariables false

structure Pc where
  off : Int
  len : Int
  brk : Int
  deriving DecidableEq, Inhabited

structure It where
  pc : Pc
  lv : Int
  deriving DecidableEq, Inhabited

inductive AT where
  | nil
  | node (l : AT) (p : Pc) (r : AT)
  deriving Inhabited

namespace AT
def ht : AT → Nat
  | nil => 0
  | node l _ r => 1 + max l.ht r.ht
def its : AT → Nat
  | nil => 0
  | node l _ r => l.its + 1 + r.its
def rns : AT → Int
  | nil => 0
  | node l p r => l.rns + p.len + r.rns
def bks : AT → Int
  | nil => 0
  | node l p r => l.bks + p.brk + r.bks
def bal : AT → Prop
  | nil => True
  | node l _ r => l.bal ∧ r.bal ∧ l.ht ≤ r.ht + 1 ∧ r.ht ≤ l.ht + 1
def told : AT → Int → List It
  | nil, _ => []
  | node l p r, d => l.told (d + 1) ++ ⟨p, d⟩ :: r.told (d + 1)

theorem told_length : ∀ (T : AT) (d : Int), (T.told d).length = T.its
  | nil, d => rfl
  | node l p r, d => by simp [told, its, told_length l, told_length r]; omega

theorem ht_its : ∀ T : AT, T.ht ≤ T.its
  | nil => by simp [ht]
  | node l p r => by
    have := ht_its l; have := ht_its r
    simp only [ht, its]; omega

end AT

/-- How the reader takes a subtree. -/
def parse : Nat → Int → List It → Option (AT × List It)
  | 0, _, _ => none
  | f + 1, lv, xs =>
    match xs with
    | [] => some (.nil, [])
    | x :: xt =>
      if x.lv < lv then some (.nil, x :: xt) else
      match parse f (lv + 1) (x :: xt) with
      | none => none
      | some (l, []) => none
      | some (l, y :: zs) =>
        if y.lv ≠ lv then none else
        match parse f (lv + 1) zs with
        | none => none
        | some (r, us) => if l.ht ≤ r.ht + 1 ∧ r.ht ≤ l.ht + 1 then some (.node l y.pc r, us) else none

def pcOk (p : Pc) : Bool := decide (1 ≤ p.len ∧ p.len ≤ 8192 ∧ 0 ≤ p.off ∧ p.off + p.len ≤ 220000 ∧ 0 ≤ p.brk ∧ p.brk ≤ p.len)

def total : List It → Int
  | [] => 0
  | x :: xs => x.pc.len + total xs

def brks : List It → Int
  | [] => 0
  | x :: xs => x.pc.brk + brks xs

theorem total_append (a b : List It) : total (a ++ b) = total a + total b := by
  induction a with
  | nil => simp [total]
  | cons x a ih => simp only [List.cons_append, total, ih]; omega

theorem brks_append (a b : List It) : brks (a ++ b) = brks a + brks b := by
  induction a with
  | nil => simp [brks]
  | cons x a ih => simp only [List.cons_append, brks, ih]; omega

theorem AT.rns_told : ∀ (T : AT) (d : Int), total (T.told d) = T.rns
  | .nil, d => rfl
  | .node l p r, d => by simp only [told, total_append, total, rns_told l, rns_told r, rns]; omega

theorem AT.bks_told : ∀ (T : AT) (d : Int), brks (T.told d) = T.bks
  | .nil, d => rfl
  | .node l p r, d => by simp only [told, brks_append, brks, bks_told l, bks_told r, bks]; omega

end Go.Proofs.YtbkcbhjejkicjaaGreatDoor

namespace Go.Proofs.YtbkcbhjejkicjaaGreatDoor
set_option linter.unusedVariables false
/-- What a measure counts. -/
def sumM (m : Pc → Int) : List It → Int
  | [] => 0
  | x :: xs => m x.pc + sumM m xs

theorem sumM_len (xs : List It) : sumM (fun p => p.len) xs = total xs := by
  induction xs with
  | nil => rfl
  | cons x a ih => simp only [sumM, total, ih]
/-- The search in the tree: items, runes, breaks before; inside; seen. -/
def seekT (m : Pc → Int) : AT → Int → Nat × Int × Int × Int × Int
  | .nil, k => (0, 0, 0, k, 0)
  | .node l p r, k =>
    if k < sumM m (l.told 0) then
      ((seekT m l k).1, (seekT m l k).2.1, (seekT m l k).2.2.1, (seekT m l k).2.2.2.1, (seekT m l k).2.2.2.2 + 1)
    else if k - sumM m (l.told 0) < m p then (l.its, l.rns, l.bks, k - sumM m (l.told 0), 1)
    else ((seekT m r (k - sumM m (l.told 0) - m p)).1 + (l.its + 1), (seekT m r (k - sumM m (l.told 0) - m p)).2.1 + (l.rns + p.len), (seekT m r (k - sumM m (l.told 0) - m p)).2.2.1 + (l.bks + p.brk), (seekT m r (k - sumM m (l.told 0) - m p)).2.2.2.1, (seekT m r (k - sumM m (l.told 0) - m p)).2.2.2.2 + 1)

end Go.Proofs.YtbkcbhjejkicjaaGreatDoor

namespace Go.Proofs.YtbkcbhjejkicjaaGreatDoor
open Go Go.RowKit
set_option linter.unusedVariables false

/-- How many breaks, as a natural number. -/
def bkn (zs : List Int) : Nat := (zs.filter fun z => z == 10).length
theorem brk_bkn (zs : List Int) : brk zs = (bkn zs : Nat) := rfl
theorem bkn_append (a b : List Int) : bkn (a ++ b) = bkn a + bkn b := by simp [bkn]
theorem brk_append (a b : List Int) : brk (a ++ b) = brk a + brk b := by
  rw [brk_bkn, brk_bkn, brk_bkn, bkn_append]; omega
/-- How many stand up to break number n and with it. -/
def bb : List Int → Nat → Nat
  | [], _ => 0
  | z :: zs, n => if z = 10 then (if n = 0 then 1 else 1 + bb zs (n - 1)) else 1 + bb zs n

/-- Where a line starts. -/
def ls (zs : List Int) (l : Nat) : Nat := if l = 0 then 0 else bb zs (l - 1)
/-- Where a line ends. -/
def le (zs : List Int) (l : Nat) : Nat := if l < bkn zs then bb zs l - 1 else zs.length

/-- The text of a piece. -/
def ptx (S : List Int) (p : Pc) : List Int := (S.drop p.off.toNat).take p.len.toNat
def txt (S : List Int) : List It → List Int
  | [] => []
  | x :: xs => ptx S x.pc ++ txt S xs
theorem txt_append (S : List Int) (a b : List It) : txt S (a ++ b) = txt S a ++ txt S b := by
  induction a with
  | nil => rfl
  | cons x a ih => simp [txt, ih]
/-- A piece of the store. -/
def WP (S : List Int) (p : Pc) : Prop := 0 ≤ p.off ∧ 0 ≤ p.len ∧ p.off + p.len ≤ S.length ∧ p.brk = brk (ptx S p)
theorem ptx_len {S : List Int} {p : Pc} (h : WP S p) : ((ptx S p).length : Int) = p.len := by
  obtain ⟨h1, h2, h3, _⟩ := h
  simp only [ptx, List.length_take, List.length_drop]
  omega
theorem txt_len {S : List Int} : ∀ {xs : List It}, (∀ x ∈ xs, WP S x.pc) → ((txt S xs).length : Int) = total xs
  | [], _ => rfl
  | x :: xs, h => by
    have h1 := ptx_len (h x (by simp))
    have h2 := txt_len (S := S) (xs := xs) (fun y hy => h y (by simp [hy]))
    simp only [txt, total, List.length_append]
    omega
theorem txt_brk {S : List Int} : ∀ {xs : List It}, (∀ x ∈ xs, WP S x.pc) → brk (txt S xs) = brks xs
  | [], _ => rfl
  | x :: xs, h => by
    have h1 := (h x (by simp)).2.2.2
    have h2 := txt_brk (S := S) (xs := xs) (fun y hy => h y (by simp [hy]))
    simp only [txt, brks, brk_append]
    omega
def AT.tx (S : List Int) : AT → List Int
  | .nil => []
  | .node l p r => l.tx S ++ (ptx S p ++ r.tx S)
def AT.wp (S : List Int) : AT → Prop
  | .nil => True
  | .node l p r => l.wp S ∧ WP S p ∧ r.wp S
theorem txt_told (S : List Int) : ∀ (T : AT) (d : Int), txt S (T.told d) = T.tx S
  | .nil, _ => rfl
  | .node l p r, d => by simp only [AT.told, txt_append, txt, AT.tx, txt_told S l, txt_told S r]
theorem wp_told (S : List Int) : ∀ (T : AT) (d : Int), (∀ x ∈ T.told d, WP S x.pc) ↔ T.wp S
  | .nil, _ => by simp [AT.told, AT.wp]
  | .node l p r, d => by
    have h1 := wp_told S l (d + 1)
    have h2 := wp_told S r (d + 1)
    simp only [AT.told, AT.wp, List.mem_append, List.mem_cons]
    constructor
    · intro h
      exact ⟨h1.1 fun x hx => h x (.inl hx), h _ (.inr (.inl rfl)), h2.1 fun x hx => h x (.inr (.inr hx))⟩
    · rintro ⟨a, b, c⟩ x (hx | rfl | hx)
      · exact h1.2 a x hx
      · exact b
      · exact h2.2 c x hx
theorem AT.tx_len {S : List Int} {T : AT} (h : T.wp S) : ((T.tx S).length : Int) = T.rns := by
  rw [← txt_told S T 0, txt_len ((wp_told S T 0).2 h), AT.rns_told]
theorem AT.tx_brk {S : List Int} {T : AT} (h : T.wp S) : brk (T.tx S) = T.bks := by
  rw [← txt_told S T 0, txt_brk ((wp_told S T 0).2 h), AT.bks_told]

/-- The element that a search finds. -/
def seekP (m : Pc → Int) : AT → Int → Pc
  | .nil, _ => ⟨0, 0, 0⟩
  | .node l p r, k =>
    if k < sumM m (l.told 0) then seekP m l k
    else if k - sumM m (l.told 0) < m p then p
    else seekP m r (k - sumM m (l.told 0) - m p)

end Go.Proofs.YtbkcbhjejkicjaaGreatDoor

