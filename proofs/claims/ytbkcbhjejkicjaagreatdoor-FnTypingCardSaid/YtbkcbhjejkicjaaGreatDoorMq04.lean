import Derived.Shelf.SlLaysF0
import Derived.Shelf.SlGeneric
import Derived.Ground.SlsfProg
import Derived.Test.YtbkcbhjejkicjaaGreatDoorMq03
import Derived.LaidEql
import Derived.Stop.Asserts
import Derived.RowKitTokens
import Derived.Shelf.Abstract
import Derived.Shelf.SlLaysE
import Derived.Ground.SlgnProg
import Derived.Lib.QuietBelowIn
import Derived.RangeFuncCalls
namespace Go.Proofs
open Go.Shelf
def Tryz.sortM_ren : Go.Shelf.Ren := ⟨fun | 6 => 160 | 15 => 166 | 14 => 165 | 28 => 175 | 29 => 176 | 20 => 167 | 21 => 168 | 22 => 169 | 23 => 170 | 24 => 171 | 25 => 172 | 26 => 173 | 27 => 174 | 46 => 177 | 47 => 178 | 48 => 179 | 49 => 180 | 50 => 181 | 57 => 182 | n => n, fun | 22 => 50 | 24 => 120 | 25 => 244 | 3 => 3 | 39 => 62 | 0 => 0 | 53 => 285 | 55 => 59 | 4 => 4 | 46 => 279 | 45 => 278 | 50 => 199 | 5 => 5 | 9 => 9 | 66 => 287 | 70 => 291 | 76 => 293 | 77 => 163 | n => n, fun | n => n⟩
theorem Tryz.sortM : Go.Proofs.SlLaysF0.n6 Tryz.prog Tryz.sortM_ren := {
  mixed := by kernel_rfl
  f6 := ⟨Tryz.f160.name, by decide, Tryz.func160.trans (congrArg some (by kernel_rfl))⟩
  f14 := ⟨Tryz.f165.name, by decide, Tryz.func165.trans (congrArg some (by kernel_rfl))⟩
  f15 := Tryz.func166.trans (congrArg some (by kernel_rfl))
  f20 := ⟨Tryz.f167.name, by decide, Tryz.func167.trans (congrArg some (by kernel_rfl))⟩
  f21 := ⟨Tryz.f168.name, by decide, Tryz.func168.trans (congrArg some (by kernel_rfl))⟩
  f22 := ⟨Tryz.f169.name, by decide, Tryz.func169.trans (congrArg some (by kernel_rfl))⟩
  f23 := ⟨Tryz.f170.name, by decide, Tryz.func170.trans (congrArg some (by kernel_rfl))⟩
  f24 := ⟨Tryz.f171.name, by decide, Tryz.func171.trans (congrArg some (by kernel_rfl))⟩
  f25 := ⟨Tryz.f172.name, by decide, Tryz.func172.trans (congrArg some (by kernel_rfl))⟩
  f26 := ⟨Tryz.f173.name, by decide, Tryz.func173.trans (congrArg some (by kernel_rfl))⟩
  f27 := ⟨Tryz.f174.name, by decide, Tryz.func174.trans (congrArg some (by kernel_rfl))⟩
  f28 := Tryz.func175.trans (congrArg some (by kernel_rfl))
  f29 := Tryz.func176.trans (congrArg some (by kernel_rfl))
  f46 := ⟨Tryz.f177.name, by decide, Tryz.func177.trans (congrArg some (by kernel_rfl))⟩
  f47 := Tryz.func178.trans (congrArg some (by kernel_rfl))
  f48 := Tryz.func179.trans (congrArg some (by kernel_rfl))
  f49 := ⟨Tryz.f180.name, by decide, Tryz.func180.trans (congrArg some (by kernel_rfl))⟩
  f50 := ⟨Tryz.f181.name, by decide, Tryz.func181.trans (congrArg some (by kernel_rfl))⟩
  f57 := ⟨Tryz.f182.name, by decide, Tryz.func182.trans (congrArg some (by kernel_rfl))⟩
  t0 := Tryz.underlying0
  a0 := Tryz.isAgg0
  z0 := Tryz.sizeOf0
  v0 := Tryz.zeroValue0
  t3 := Tryz.underlying3
  a3 := Tryz.isAgg3
  z3 := Tryz.sizeOf3
  v3 := Tryz.zeroValue3
  t4 := Tryz.underlying4
  a4 := Tryz.isAgg4
  z4 := Tryz.sizeOf4
  v4 := Tryz.zeroValue4
  t5 := Tryz.underlying5
  a5 := Tryz.isAgg5
  z5 := Tryz.sizeOf5
  v5 := Tryz.zeroValue5
  t9 := Tryz.underlying9
  a9 := Tryz.isAgg9
  z9 := Tryz.sizeOf9
  v9 := Tryz.zeroValue9
  t22 := Tryz.underlying50
  a22 := Tryz.isAgg50
  z22 := Tryz.sizeOf50
  v22 := Tryz.zeroValue50
  t25 := Tryz.underlying244
  a25 := Tryz.isAgg244
  z25 := Tryz.sizeOf244
  v25 := Tryz.zeroValue244
  t39 := Tryz.underlying62
  a39 := Tryz.isAgg62
  z39 := Tryz.sizeOf62
  v39 := Tryz.zeroValue62
  t45 := Tryz.underlying278
  a45 := Tryz.isAgg278
  z45 := Tryz.sizeOf278
  v45 := Tryz.zeroValue278
  t46 := Tryz.underlying279
  a46 := Tryz.isAgg279
  z46 := Tryz.sizeOf279
  v46 := Tryz.zeroValue279
  t50 := Tryz.underlying199
  a50 := Tryz.isAgg199
  z50 := Tryz.sizeOf199
  v50 := Tryz.zeroValue199
  t53 := Tryz.underlying285
  a53 := Tryz.isAgg285
  z53 := Tryz.sizeOf285
  v53 := Tryz.zeroValue285
  t55 := Tryz.underlying59
  a55 := Tryz.isAgg59
  z55 := Tryz.sizeOf59
  v55 := Tryz.zeroValue59
  t66 := Tryz.underlying287
  a66 := Tryz.isAgg287
  z66 := Tryz.sizeOf287
  v66 := Tryz.zeroValue287
  t70 := Tryz.underlying291
  a70 := Tryz.isAgg291
  z70 := Tryz.sizeOf291
  v70 := Tryz.zeroValue291
  t76 := Tryz.underlying293
  a76 := Tryz.isAgg293
  z76 := Tryz.sizeOf293
  v76 := Tryz.zeroValue293
  t77 := Tryz.underlying163
  a77 := Tryz.isAgg163
  z77 := Tryz.sizeOf163
  v77 := Tryz.zeroValue163 }
end Go.Proofs

namespace Go.Proofs.YtbkcbhjejkicjaaGreatDoor
open Go Go.RowKit
set_option linter.unusedVariables false

def pushF (off n : Int) (m : Mk) : Int := if m.2.1 > off ∨ (m.2.1 = off ∧ m.2.2 = 1) then m.2.1 + n else m.2.1
def mov (f : Mk → Int) (m : Mk) : Mk := (m.1, f m, m.2.2)
theorem movs_set (f : Mk → Int) (xs : List Mk) (k : Nat) (x : Mk) (h : xs[k]? = some x) : (mkVs ((xs.take k).map (mov f) ++ xs.drop k)).set (k * 3 + 1) (.int .i64 (f x)) = mkVs ((xs.take (k + 1)).map (mov f) ++ xs.drop (k + 1)) := by
  have hk : k < xs.length := (List.getElem?_eq_some_iff.1 h).1
  have e : xs.drop k = x :: xs.drop (k + 1) := by
    rw [List.drop_eq_getElem_cons hk]
    have := List.getElem?_eq_some_iff.1 h
    rw [this.2]
  have hl : ((xs.take k).map (mov f)).length = k := by simp; omega
  have s := mkVs_set1 ((xs.take k).map (mov f)) x (f x) (xs.drop (k + 1))
  rw [hl] at s
  rw [e, s, List.take_add_one, h]
  simp [mov]
end Go.Proofs.YtbkcbhjejkicjaaGreatDoor

namespace Go.Proofs.YtbkcbhjejkicjaaGreatDoor
open Go Go.RowKit
set_option linter.unusedVariables false

set_option maxHeartbeats 1000000 in
theorem boundsI (v lo hi c : Int) (w : World) : Calls Tryz.prog 20 #[.int .i64 v, .int .i64 lo, .int .i64 hi, .int .i64 c] w fun e w' => e = .returned (errV (decide (lo ≤ v ∧ v ≤ hi)) c) ∧ w' = w := by
  have HK := hide (withinI v lo hi w)
  cases hd : decide (lo ≤ v ∧ v ≤ hi) with
  | true =>
    rw [hd] at HK
    clear hd
    go_enter Tryz.func20, Tryz.ntmps20
    go_wp2_with fail
    refine HK.out.mono ?_
    rintro e w1 ⟨rfl, rfl⟩
    go_wp2
    go_ret
    exact ⟨rfl, rfl⟩
  | false =>
    rw [hd] at HK
    clear hd
    go_enter Tryz.func20, Tryz.ntmps20
    go_wp2_with fail
    refine HK.out.mono ?_
    rintro e w1 ⟨rfl, rfl⟩
    go_wp2
    go_ret
    exact ⟨rfl, rfl⟩

end Go.Proofs.YtbkcbhjejkicjaaGreatDoor

namespace Go.Proofs
open Go.Shelf
def Tryz.delG_ren : Go.Shelf.Ren := ⟨fun | 45 => 161 | n => n, fun | 22 => 102 | 23 => 106 | 3 => 3 | 4 => 4 | 0 => 0 | n => n, fun | n => n⟩
theorem Tryz.delG : Go.Proofs.SlLaysE.n45 Tryz.prog Tryz.delG_ren := {
  mixed := by kernel_rfl
  f45 := ⟨Tryz.f161.name, by decide, Tryz.func161.trans (congrArg some (by kernel_rfl))⟩
  t0 := Tryz.underlying0
  a0 := Tryz.isAgg0
  z0 := Tryz.sizeOf0
  v0 := Tryz.zeroValue0
  t3 := Tryz.underlying3
  a3 := Tryz.isAgg3
  z3 := Tryz.sizeOf3
  v3 := Tryz.zeroValue3
  t4 := Tryz.underlying4
  a4 := Tryz.isAgg4
  z4 := Tryz.sizeOf4
  v4 := Tryz.zeroValue4
  t22 := Tryz.underlying102
  a22 := Tryz.isAgg102
  z22 := Tryz.sizeOf102
  v22 := Tryz.zeroValue102
  a23 := Tryz.isAgg106
  z23 := Tryz.sizeOf106 }
end Go.Proofs

namespace Go.Proofs.YtbkcbhjejkicjaaGreatDoor
open Go Go.Sort Go.RowKit

/-- In a round an operation that defers nothing does what it does outside. -/
theorem wpAnyIn_round {n : Nat} {P : Program} {md : Region.Mode} {ops : Array Oper} {Q : Exit → Act → World → Prop} (l : Nat) (hd : ∀ o ∈ ops.toList, ∀ c, o.op ≠ .defer c) :
    ∀ (fuel : Nat) (listed : Array Bool) (a : Act) (w : World), wpAnyIn Fence.wide n P md ops Q fuel listed a w → wpAnyIn (Fence.wide.inRound l) n P md ops Q fuel listed a w
  | 0, _, _, _, h => h
  | fuel + 1, listed, a, w, h => by
    refine ⟨h.1, fun i hi => ?_⟩
    have h2 := h.2 i hi
    unfold wpOpIn at h2 ⊢
    cases ho : ops[i]? with
    | none => rw [ho] at h2; exact wpAnyIn_round l hd fuel _ _ _ h2
    | some o =>
      rw [ho] at h2
      simp only at h2 ⊢
      have hm : o ∈ ops.toList := by
        have := Array.mem_of_getElem? ho
        exact Array.mem_toList_iff.2 this
      split at h2
      · rename_i hw
        rw [if_pos hw]
        have h3 := Oper.wpIn_mono (fun a w => wpAnyIn_round l hd fuel _ a w) h2
        unfold Oper.wpIn at h3 ⊢
        refine ⟨h3.1, ?_⟩
        have e1 : Oper.semAt (Fence.wide.inRound l).round a.eval o = Oper.semAt Fence.wide.round a.eval o := (Oper.semAt_some l _ _ (hd o hm)).trans (Oper.semAt_none _ _).symm
        rw [e1]
        exact h3.2
      · rename_i hw
        rw [if_neg hw]
        exact ⟨h2.1, wpAnyIn_round l hd fuel _ _ _ h2.2⟩

def noDefer (o : Oper) : Bool := match o.op with | .defer _ => false | _ => true
theorem noDefer_all {L : List Oper} (h : L.all noDefer = true) : ∀ o ∈ L, ∀ c, o.op ≠ .defer c := by
  intro o ho c hc
  have := List.all_eq_true.1 h o ho
  simp [noDefer, hc] at this
end Go.Proofs.YtbkcbhjejkicjaaGreatDoor

namespace Go.Proofs.YtbkcbhjejkicjaaGreatDoor
open Go Go.Sort Go.RowKit
set_option linter.unusedVariables false

section
variable {F : Fence} {n : Nat} {P : Program} {ops : Array Oper} {md : Region.Mode} {C : World → Prop}

/-- The first m operations have come up. -/
def allQ (m : Nat) (listed : Array Bool) : Bool := (List.range m).all fun k => listed.getD k false
/-- What has come up has all behind which it stands. -/
def Clo (md : Region.Mode) (ops : Array Oper) (listed : Array Bool) : Prop := ∀ (j : Nat) (o : Oper), ops[j]? = some o → listed.getD j false = true → ∀ e ∈ o.after, Region.binds md e = true → listed.getD e.on false = true
def hasOn (md : Region.Mode) (ops : Array Oper) (k i : Nat) : Bool := match ops[k]? with
  | some o => o.after.any fun e => Region.binds md e && e.on == i
  | none => false
theorem hasOn_spec {k i : Nat} (h : hasOn md ops k i = true) : ∃ o, ops[k]? = some o ∧ ∃ e ∈ o.after, Region.binds md e = true ∧ e.on = i := by
  unfold hasOn at h
  cases ho : ops[k]? with
  | none => rw [ho] at h; cases h
  | some o =>
    rw [ho] at h
    obtain ⟨e, he, hb⟩ := Array.any_eq_true'.1 h
    simp only [Bool.and_eq_true, beq_iff_eq] at hb
    exact ⟨o, rfl, e, he, hb.1, hb.2⟩

theorem Clo.set {listed : Array Bool} (h : Clo md ops listed) {j : Nat} (hj : j ∈ Region.ready md ops listed) : Clo md ops (listed.setIfInBounds j true) := by
  obtain ⟨_, oj, hoj, hall⟩ := mem_ready.1 hj
  intro k o ho hk e he hb
  by_cases hkj : j = k
  · subst hkj
    rw [hoj] at ho; cases ho
    exact getD_set_true (hall e he hb)
  · rw [getD_set_ne false hkj] at hk
    exact getD_set_true (h k o ho hk e he hb)

/-- The first s have come up, and what has come up has all behind which it stands. -/
def CloS (md : Region.Mode) (ops : Array Oper) (s : Nat) (listed : Array Bool) : Prop := Clo md ops listed ∧ ∀ i, i < s → listed.getD i false = true
/-- Every one of the first m operations but the first s is waited for by a later one, number m among these; all behind m wait for m. -/
def tailS (md : Region.Mode) (ops : Array Oper) (s m : Nat) : Bool :=
  ((List.range m).all fun i => decide (i < s) || (List.range (m + 1)).any fun k => decide (i < k) && hasOn md ops k i) &&
  ((List.range ops.size).all fun j => decide (j ≤ m) || hasOn md ops j m)
theorem CloS.set {s : Nat} {listed : Array Bool} (h : CloS md ops s listed) {j : Nat} (hj : j ∈ Region.ready md ops listed) : CloS md ops s (listed.setIfInBounds j true) := ⟨h.1.set hj, fun i hi => getD_set_true (h.2 i hi)⟩
theorem all_of_mS {s m : Nat} (hB : tailS md ops s m = true) {listed : Array Bool} (hC : CloS md ops s listed) (hm : ∀ o, ops[m]? = some o → ∀ e ∈ o.after, Region.binds md e = true → listed.getD e.on false = true) : allQ m listed = true := by
  simp only [tailS, Bool.and_eq_true, List.all_eq_true, List.mem_range] at hB
  have key : ∀ d i, i < m → m - i ≤ d → listed.getD i false = true := by
    intro d
    induction d with
    | zero => intro i hi hd; omega
    | succ d ih =>
      intro i hi hd
      have h0 := hB.1 i hi
      rw [Bool.or_eq_true, decide_eq_true_eq] at h0
      rcases h0 with h0 | h1
      · exact hC.2 i h0
      obtain ⟨k, hk, hk2⟩ := List.any_eq_true.1 h1
      simp only [List.mem_range, Bool.and_eq_true, decide_eq_true_eq] at hk hk2
      obtain ⟨o, ho, e, he, hb, hon⟩ := hasOn_spec hk2.2
      subst hon
      by_cases hkm : k = m
      · subst hkm; exact hm o ho e he hb
      · exact hC.1 k o ho (ih k (by omega) (by omega)) e he hb
  simp only [allQ, List.all_eq_true, List.mem_range]
  exact fun i hi => key m i hi (by omega)

theorem all_of_tailS {s m : Nat} (hB : tailS md ops s m = true) {listed : Array Bool} (hC : CloS md ops s listed) {j : Nat} (hj : m ≤ j) (hr : j ∈ Region.ready md ops listed) : allQ m listed = true := by
  obtain ⟨_, oj, hoj, hall⟩ := mem_ready.1 hr
  by_cases hjm : j = m
  · subst hjm
    exact all_of_mS hB hC (fun o ho e he hb => by rw [hoj] at ho; cases ho; exact hall e he hb)
  · have hB' := hB
    simp only [tailS, Bool.and_eq_true, List.all_eq_true, List.mem_range] at hB'
    have h2 := hB'.2 j (Array.getElem?_eq_some_iff.1 hoj).1
    simp only [Bool.or_eq_true, decide_eq_true_eq] at h2
    rcases h2 with h2 | h2
    · omega
    · obtain ⟨o, ho, e, he, hb, hon⟩ := hasOn_spec h2
      rw [hoj] at ho; cases ho
      have hml := hall e he hb
      rw [hon] at hml
      exact all_of_mS hB hC (fun o ho e he hb => hC.1 m o ho hml e he hb)

/-- Whatever order is picked, the first m operations are quiet; behind them T. -/
def wpAnyT (F : Fence) (n : Nat) (P : Program) (md : Region.Mode) (ops : Array Oper) (C : World → Prop) (m : Nat) (T : Nat → Array Bool → Act → Prop) : Nat → Array Bool → Act → Prop
  | 0, listed, a => allQ m listed = true ∧ T 0 listed a
  | fuel + 1, listed, a => if allQ m listed = true then T (fuel + 1) listed a else Region.ready md ops listed ≠ [] ∧ ∀ i ∈ Region.ready md ops listed, qOpIn F n P ops C i (wpAnyT F n P md ops C m T fuel (listed.setIfInBounds i true)) a

theorem wpAnyIn_of_T {m : Nat} {T : Nat → Array Bool → Act → Prop} {Q' : Exit → Act → World → Prop} (hro : F.round = none) (hT : ∀ f listed a w, C w → T f listed a → wpAnyIn F n P md ops Q' f listed a w) : ∀ (fuel : Nat) (listed : Array Bool) (a : Act) (w : World), C w →
    wpAnyT F n P md ops C m T fuel listed a → wpAnyIn F n P md ops Q' fuel listed a w
  | 0, _, _, _, hw, h => hT _ _ _ _ hw h.2
  | fuel + 1, listed, a, w, hw, h => by
    unfold wpAnyT at h
    split at h
    · exact hT _ _ _ _ hw h
    · exact ⟨fun h0 => absurd h0 h.1, fun i hi => wpOpIn_of_qOpIn hro hw (fun a' w' hw' => wpAnyIn_of_T hro hT fuel _ a' w' hw') (h.2 i hi)⟩

theorem not_allQ {m i : Nat} {listed : Array Bool} (hi : i < m) (h : listed.getD i true = false) : ¬ allQ m listed = true := by
  intro hq
  simp only [allQ, List.all_eq_true, List.mem_range] at hq
  have h1 := hq i hi
  rcases Nat.lt_or_ge i listed.size with h' | h'
  · simp [h'] at h h1; rw [h] at h1; cases h1
  · simp [Array.getElem?_eq_none h'] at h1

theorem wpAnyT_firstS {s m : Nat} {T : Nat → Array Bool → Act → Prop} {i : Nat} {oi : Oper} {v : Value} (hi : ops[i]? = some oi) (him : i < m) (hsel : ∀ (j : Nat) (o : Oper) cs b, ops[j]? = some o → o.op ≠ .select cs b) (hB : tailS md ops s m = true) :
    ∀ (fuel : Nat) (listed : Array Bool) (a : Act), CloS md ops s listed →
      (∀ j oj, ops[j]? = some oj → j ≠ i → listed.getD j true = false → (∀ e ∈ oj.after, Region.binds md e = true → e.on ≠ i) → oi.apart ops oj = true) →
      i ∈ Region.ready md ops listed → YieldsQuiet F n P ops C oi v a →
      wpAnyT F n P md ops C m T fuel (listed.setIfInBounds i true) (a.put oi.dst v) → wpAnyT F n P md ops C m T (fuel + 1) listed a := by
  intro fuel
  induction fuel with
  | zero =>
    intro listed a hC _ hr hy H
    unfold wpAnyT
    have hun := (mem_ready.1 hr).1
    rw [if_neg (not_allQ him hun)]
    refine ⟨fun h => (by rw [h] at hr; cases hr), fun j hj => ?_⟩
    by_cases hji : j = i
    · subst hji; exact hy.qOpIn hi H
    · exfalso
      have hjm : j < m := by
        rcases Nat.lt_or_ge j m with h' | h'
        · exact h'
        · exact absurd (all_of_tailS hB hC h' hj) (not_allQ him hun)
      have h2 := (mem_ready.1 hj).1
      exact not_allQ hjm (by rw [getD_set_ne true (Ne.symm hji)]; exact h2) H.1
  | succ fuel ih =>
    intro listed a hC hfree hr hy H
    unfold wpAnyT
    have hun := (mem_ready.1 hr).1
    rw [if_neg (not_allQ him hun)]
    refine ⟨fun h => (by rw [h] at hr; cases hr), fun j hj => ?_⟩
    by_cases hji : j = i
    · subst hji; exact hy.qOpIn hi H
    · have hjm : j < m := by
        rcases Nat.lt_or_ge j m with h' | h'
        · exact h'
        · exact absurd (all_of_tailS hB hC h' hj) (not_allQ him hun)
      have H' := H
      unfold wpAnyT at H'
      rw [if_neg (not_allQ hjm (by rw [getD_set_ne true (Ne.symm hji)]; exact (mem_ready.1 hj).1))] at H'
      have h1 := H'.2 j (ready_mono hj hji)
      obtain ⟨hjun, oj, hoj, hall⟩ := mem_ready.1 hj
      have hnot : ∀ e ∈ oj.after, Region.binds md e = true → e.on ≠ i := fun e he hb heq => by
        have h1 := hall e he hb
        have h0 := (mem_ready.1 hr).1
        rw [heq] at h1
        rcases Nat.lt_or_ge i listed.size with h' | h'
        · simp [h'] at h0 h1; rw [h0] at h1; cases h1
        · simp [Array.getElem?_eq_none h'] at h1
      have h2 := qOpIn_put hoj (hfree j oj hoj hji hjun hnot) (fun cs b => hsel i oi cs b hi) (fun cs b => hsel j oj cs b hoj) hy h1
      have hfree' : ∀ k ok, ops[k]? = some ok → k ≠ i → (listed.setIfInBounds j true).getD k true = false →
          (∀ e ∈ ok.after, Region.binds md e = true → e.on ≠ i) → oi.apart ops ok = true := fun k ok hk hki hun hno => by
        refine hfree k ok hk hki ?_ hno
        by_cases hjk : j = k
        · subst hjk; exact hjun
        · rw [getD_set_ne true hjk] at hun; exact hun
      refine qOpIn_mono (fun a' h3 => ih (listed.setIfInBounds j true) a' (hC.set hj) hfree' (ready_mono hr (Ne.symm hji)) h3.1 ?_) h2
      rw [Array.setIfInBounds_comm _ _ hji]
      exact h3.2

def lexT (md : Region.Mode) (ops : Array Oper) (m : Nat) : Nat → Nat → Array Bool → Bool
  | 0, _, listed => allQ m listed
  | len + 1, k, listed => decide (k < m) && (Region.ready md ops listed).contains k && Region.free md ops listed k && lexT md ops m len (k + 1) (listed.setIfInBounds k true)
def finL : Nat → Nat → Array Bool → Array Bool
  | 0, _, listed => listed
  | len + 1, k, listed => finL len (k + 1) (listed.setIfInBounds k true)

theorem wpAnyT_lexS {s m : Nat} {T : Nat → Array Bool → Act → Prop} (hs : Region.noSelect ops = true) (hB : tailS md ops s m = true) (t : Nat) : ∀ (l : List Oper) (k : Nat) (listed : Array Bool) (a : Act), (∀ j, j < l.length → l[j]? = ops[k + j]?) → CloS md ops s listed →
    lexT md ops m l.length k listed = true → wpQuietIn F n P ops C (fun a' => T t (finL l.length k listed) a') l a → wpAnyT F n P md ops C m T (l.length + t) listed a
  | [], _, listed, a, _, _, hL, h => by
    simp only [List.length_nil, Nat.zero_add] at *
    have hq : allQ m listed = true := hL
    cases t with
    | zero => exact ⟨hq, h⟩
    | succ t => unfold wpAnyT; rw [if_pos hq]; exact h
  | o :: l, k, listed, a, hl, hC, hL, h => by
    have h0 : ops[k]? = some o := by simpa using (hl 0 (by simp)).symm
    simp only [List.length_cons, lexT, Bool.and_eq_true, decide_eq_true_eq] at hL
    obtain ⟨⟨⟨hkm, hr⟩, hf⟩, hL'⟩ := hL
    have hst : qOpIn F n P ops C k (wpQuietIn F n P ops C (fun a' => T t (finL l.length (k + 1) (listed.setIfInBounds k true)) a') l) a := by unfold qOpIn; simp only [h0]; exact h
    obtain ⟨v, hy, hK⟩ := yieldsQuiet_of_qOpIn h0 hst
    have hr' : k ∈ Region.ready md ops listed := by simpa using hr
    rw [show (o :: l).length + t = l.length + t + 1 by simp; omega]
    exact wpAnyT_firstS h0 hkm (Region.noSelect_spec hs) hB (l.length + t) listed a hC (Region.free_spec h0 hf) hr' hy
      (wpAnyT_lexS hs hB t l (k + 1) _ _ (fun j hj => by have := hl (j + 1) (by simpa using hj); simpa [Nat.add_assoc, Nat.add_comm 1 j] using this) (hC.set hr') hL' hK)

def seqB (md : Region.Mode) (ops : Array Oper) : Nat → Nat → Array Bool → Bool
  | 0, _, listed => (Region.ready md ops listed).isEmpty
  | len + 1, k, listed => (Region.ready md ops listed) == [k] && seqB md ops len (k + 1) (listed.setIfInBounds k true)

theorem wpAnyIn_of_list {Q : Exit → Act → World → Prop} : ∀ (l : List Oper) (k : Nat) (listed : Array Bool) (a : Act) (w : World), (∀ j, j < l.length → l[j]? = ops[k + j]?) → seqB md ops l.length k listed = true → wpListIn F n P ops Q l a w → wpAnyIn F n P md ops Q l.length listed a w
  | [], _, listed, a, w, _, hS, h => ⟨by simpa [seqB] using hS, h⟩
  | o :: l, k, listed, a, w, hl, hS, h => by
    have h0 : ops[k]? = some o := by simpa using (hl 0 (by simp)).symm
    simp only [List.length_cons, seqB, Bool.and_eq_true, beq_iff_eq] at hS
    have ih := fun a w => wpAnyIn_of_list (Q := Q) l (k + 1) (listed.setIfInBounds k true) a w (fun j hj => by have := hl (j + 1) (by simpa using hj); simpa [Nat.add_assoc, Nat.add_comm 1 j] using this) hS.2
    refine ⟨fun h1 => (by rw [hS.1] at h1; cases h1), fun i hi => ?_⟩
    rw [hS.1] at hi
    obtain rfl : i = k := by simpa using hi
    unfold wpOpIn
    unfold wpListIn at h
    simp only [h0]
    split at h
    · rename_i hw
      rw [if_pos hw]
      exact Oper.wpIn_mono (fun a w h => ih a w h) h
    · rename_i hw
      rw [if_neg hw]
      exact ⟨h.1, ih _ _ h.2⟩
theorem quietIn_mono {Q1 Q2 : Act → Prop} (h : ∀ a, Q1 a → Q2 a) : ∀ (l : List Oper) (a : Act), wpQuietIn F n P ops C Q1 l a → wpQuietIn F n P ops C Q2 l a := by
  intro l
  induction l with
  | nil => intro a h1; exact h a h1
  | cons o l ih =>
    intro a h1
    refine ⟨h1.1, ?_⟩
    have h2 := h1.2
    split at h2
    · rename_i hw; rw [if_pos hw]; exact Oper.quietIn_mono (fun a h' => ih a h') h2
    · rename_i hw; rw [if_neg hw]; exact ih _ h2
theorem clo0 (k : Nat) : Clo md ops (Array.replicate k false) := by
  intro j o ho hj
  exfalso
  simp only [Array.getD_eq_getD_getElem?, Array.getElem?_replicate] at hj
  split at hj <;> simp at hj
theorem tailCore {s : Nat} {Q : Exit → Act → World → Prop} (l1 l2 : List Oper) (k : Nat) (listed : Array Bool) (a : Act) (w : World) (hw : C w) (hro : F.round = none) (h1 : ∀ j, j < l1.length → l1[j]? = ops[k + j]?) (h2 : ∀ j, j < l2.length → l2[j]? = ops[k + l1.length + j]?) (hs : Region.noSelect ops = true) (hB : tailS md ops s (k + l1.length) = true) (hC : CloS md ops s listed) (hL : lexT md ops (k + l1.length) l1.length k listed = true) (hS : seqB md ops l2.length (k + l1.length) (finL l1.length k listed) = true)
    (h : wpQuietIn F n P ops C (fun a' => ∀ w', C w' → wpListIn F n P ops Q l2 a' w') l1 a) : wpAnyIn F n P md ops Q (l1.length + l2.length) listed a w := by
  refine wpAnyIn_of_T (C := C) (m := k + l1.length) (T := fun f ls a' => f = l2.length ∧ ls = finL l1.length k listed ∧ ∀ w', C w' → wpListIn F n P ops Q l2 a' w') hro ?_ _ _ _ _ hw (wpAnyT_lexS hs hB l2.length l1 k _ a h1 hC hL (quietIn_mono (fun a' h' => ⟨rfl, rfl, h'⟩) _ _ h))
  rintro f ls a' w' hw ⟨rfl, rfl, hT⟩
  exact wpAnyIn_of_list l2 _ _ a' w' h2 hS (hT w' hw)
end
theorem tailAny {n : Nat} {P : Program} {Q : Exit → Act → World → Prop} {a : Act} {w : World} {L : List Oper} {m : Nat}
    (hB : (Region.noSelect L.toArray && tailS .any L.toArray 0 m && lexT .any L.toArray m (L.take m).length 0 (Array.replicate L.toArray.size false) && seqB .any L.toArray (L.drop m).length m (finL (L.take m).length 0 (Array.replicate L.toArray.size false)) && decide (m ≤ L.length)) = true)
    (h : wpQuietIn Fence.wide n P L.toArray (fun w' => ∃ p : Regrown, w' = grow (redrawn w p.d) p.os) (fun a' => ∀ w', (∃ p : Regrown, w' = grow (redrawn w p.d) p.os) → wpListIn Fence.wide n P L.toArray Q (L.drop m) a' w') (L.take m) a) : wpAnyIn Fence.wide n P .any L.toArray Q L.toArray.size (Array.replicate L.toArray.size false) a { w with drawn := w.drawn + 1 } := by
  simp only [Bool.and_eq_true, decide_eq_true_eq] at hB
  obtain ⟨⟨⟨⟨h1, h2⟩, h3⟩, h4⟩, h5⟩ := hB
  have e1 : (L.take m).length = m := by rw [List.length_take]; omega
  have fin := tailCore (s := 0) (L.take m) (L.drop m) 0 _ a { w with drawn := w.drawn + 1 } ⟨⟨w.drawn + 1, #[]⟩, by rw [grow_empty]; rfl⟩ rfl (fun j hj => by rw [e1] at hj; rw [List.getElem?_take, if_pos hj]; simp) (fun j hj => by rw [e1, List.getElem?_drop]; simp) h1 (by rw [e1, Nat.zero_add]; exact h2) ⟨clo0 _, fun i hi => absurd hi (Nat.not_lt_zero i)⟩ (by rw [Nat.zero_add, e1]; rw [e1] at h3; exact h3) (by rw [Nat.zero_add, e1]; rw [e1] at h4; exact h4) h
  rw [← List.length_append, List.take_append_drop] at fin
  exact fin
/-- A region in a round: m operations that only read, in any order, and behind them the rest, in its order. -/
theorem wpIn_region_tail {n : Nat} {P : Program} {id l : Nat} {Q : Exit → Act → World → Prop} {a : Act} {w : World} {L : List Oper} (m : Nat) (hm : P.follows .mixedOrders = true)
    (hB : (Region.noSelect L.toArray && tailS .any L.toArray 0 m && lexT .any L.toArray m (L.take m).length 0 (Array.replicate L.toArray.size false) && seqB .any L.toArray (L.drop m).length m (finL (L.take m).length 0 (Array.replicate L.toArray.size false)) && decide (m ≤ L.length)) = true) (hd : L.all noDefer = true)
    (h : wpQuietIn Fence.wide n P L.toArray (fun w' => ∃ p : Regrown, w' = grow (redrawn w p.d) p.os) (fun a' => ∀ w', (∃ p : Regrown, w' = grow (redrawn w p.d) p.os) → wpListIn Fence.wide n P L.toArray Q (L.drop m) a' w') (L.take m) a) : (Code.region id L.toArray true).wpIn (Fence.wide.inRound l) n P Q a w := by
  exact wpIn_region_any hm (wpAnyIn_round l (by simpa using noDefer_all hd) _ _ _ _ (tailAny hB h))
/-- The same outside a round: m operations that only read, in any order, and behind them the rest, in its order. -/
theorem wpIn_region_tailW {n : Nat} {P : Program} {id : Nat} {Q : Exit → Act → World → Prop} {a : Act} {w : World} {L : List Oper} (m : Nat) (hm : P.follows .mixedOrders = true)
    (hB : (Region.noSelect L.toArray && tailS .any L.toArray 0 m && lexT .any L.toArray m (L.take m).length 0 (Array.replicate L.toArray.size false) && seqB .any L.toArray (L.drop m).length m (finL (L.take m).length 0 (Array.replicate L.toArray.size false)) && decide (m ≤ L.length)) = true)
    (h : wpQuietIn Fence.wide n P L.toArray (fun w' => ∃ p : Regrown, w' = grow (redrawn w p.d) p.os) (fun a' => ∀ w', (∃ p : Regrown, w' = grow (redrawn w p.d) p.os) → wpListIn Fence.wide n P L.toArray Q (L.drop m) a' w') (L.take m) a) : (Code.region id L.toArray true).wpIn Fence.wide n P Q a w := by
  exact wpIn_region_any hm (tailAny hB h)
end Go.Proofs.YtbkcbhjejkicjaaGreatDoor

namespace Go.Proofs.YtbkcbhjejkicjaaGreatDoor
open Go Go.RowKit

/-- The bytes of a rune, as numbers. -/
def encZ (r : Int) : List Int :=
  if r < 0 ∨ 1114111 < r ∨ (55296 ≤ r ∧ r ≤ 57343) then [239, 191, 189]
  else if r < 128 then [r]
  else if r < 2048 then [192 + r / 64, 128 + r % 64]
  else if r < 65536 then [224 + r / 4096, 128 + r / 64 % 64, 128 + r % 64]
  else [240 + r / 262144, 128 + r / 4096 % 64, 128 + r / 64 % 64, 128 + r % 64]

theorem encZ_bad {r : Int} (h : r < 0 ∨ 1114111 < r ∨ (55296 ≤ r ∧ r ≤ 57343)) : encZ r = [239, 191, 189] := by
  unfold encZ; rw [if_pos h]
theorem encZ_one {r : Int} (h0 : 0 ≤ r) (h1 : r < 128) : encZ r = [r] := by
  unfold encZ; rw [if_neg (by omega), if_pos h1]
theorem encZ_two {r : Int} (h0 : 128 ≤ r) (h1 : r < 2048) : encZ r = [192 + r / 64, 128 + r % 64] := by
  unfold encZ; rw [if_neg (by omega), if_neg (by omega), if_pos h1]
theorem encZ_three {r : Int} (h0 : 2048 ≤ r) (h1 : r < 65536) (h2 : r < 55296 ∨ 57343 < r) : encZ r = [224 + r / 4096, 128 + r / 64 % 64, 128 + r % 64] := by
  unfold encZ; rw [if_neg (by omega), if_neg (by omega), if_neg (by omega), if_pos h1]
theorem encZ_four {r : Int} (h0 : 65536 ≤ r) (h1 : r ≤ 1114111) : encZ r = [240 + r / 262144, 128 + r / 4096 % 64, 128 + r / 64 % 64, 128 + r % 64] := by
  unfold encZ; rw [if_neg (by omega), if_neg (by omega), if_neg (by omega), if_neg (by omega)]

theorem encZ_cases (r : Int) : (r < 0 ∨ 1114111 < r ∨ (55296 ≤ r ∧ r ≤ 57343)) ∨ (0 ≤ r ∧ r < 128) ∨ (128 ≤ r ∧ r < 2048) ∨ (2048 ≤ r ∧ r < 55296) ∨ (57343 < r ∧ r < 65536) ∨ (65536 ≤ r ∧ r ≤ 1114111) := by omega

theorem encZ_length (r : Int) : 1 ≤ (encZ r).length ∧ (encZ r).length ≤ 4 := by
  rcases encZ_cases r with h | h | h | h | h | h
  · rw [encZ_bad h]; simp
  · rw [encZ_one h.1 h.2]; simp
  · rw [encZ_two h.1 h.2]; simp
  · rw [encZ_three h.1 (by omega) (.inl h.2)]; simp
  · rw [encZ_three (by omega) h.2 (.inr h.1)]; simp
  · rw [encZ_four h.1 h.2]; simp

end Go.Proofs.YtbkcbhjejkicjaaGreatDoor

namespace Go.Proofs.YtbkcbhjejkicjaaGreatDoor
open Go Go.RowKit

/-- The number that the bytes could mean. -/
def numZ : List Int → Int
  | [a] => a
  | [a, b] => (a - 192) * 64 + b - 128
  | [a, b, c] => (a - 224) * 4096 + (b - 128) * 64 + c - 128
  | [a, b, c, d] => (a - 240) * 262144 + (b - 128) * 4096 + (c - 128) * 64 + d - 128
  | _ => -1

def formOk (q : List Int) : Bool := decide (0 ≤ numZ q ∧ encZ (numZ q) = q)

theorem formOk_iff (q : List Int) : formOk q = true ↔ 0 ≤ numZ q ∧ encZ (numZ q) = q := by unfold formOk; exact decide_eq_true_iff

def bytes (q : List Int) : Prop := ∀ z ∈ q, 0 ≤ z ∧ z ≤ 255

theorem form1 {a : Int} (ha : 0 ≤ a) : formOk [a] = true ↔ a < 128 := by
  rw [formOk_iff]
  simp only [numZ]
  constructor
  · rintro ⟨_, h⟩
    rcases encZ_cases a with c | c | c | c | c | c
    · rw [encZ_bad c] at h; simp at h
    · exact c.2
    · rw [encZ_two c.1 c.2] at h; simp at h
    · rw [encZ_three c.1 (by omega) (.inl c.2)] at h; simp at h
    · rw [encZ_three (by omega) c.2 (.inr c.1)] at h; simp at h
    · rw [encZ_four c.1 c.2] at h; simp at h
  · intro h; exact ⟨ha, encZ_one ha h⟩

theorem form2 {a b : Int} (ha : 0 ≤ a ∧ a ≤ 255) (hb : 0 ≤ b ∧ b ≤ 255) : formOk [a, b] = true ↔ (194 ≤ a ∧ a ≤ 223) ∧ (128 ≤ b ∧ b ≤ 191) := by
  rw [formOk_iff]
  simp only [numZ]
  generalize hv : (a - 192) * 64 + b - 128 = v
  constructor
  · rintro ⟨h0, h⟩
    rcases encZ_cases v with c | c | c | c | c | c
    · rw [encZ_bad c] at h; simp at h
    · rw [encZ_one c.1 c.2] at h; simp at h
    · rw [encZ_two c.1 c.2] at h; simp at h; omega
    · rw [encZ_three c.1 (by omega) (.inl c.2)] at h; simp at h
    · rw [encZ_three (by omega) c.2 (.inr c.1)] at h; simp at h
    · rw [encZ_four c.1 c.2] at h; simp at h
  · intro h
    refine ⟨by omega, ?_⟩
    rw [encZ_two (by omega) (by omega)]
    have h1 : 192 + v / 64 = a := by omega
    have h2 : 128 + v % 64 = b := by omega
    rw [h1, h2]

theorem form3 {a b c : Int} (ha : 0 ≤ a ∧ a ≤ 255) (hb : 0 ≤ b ∧ b ≤ 255) (hc : 0 ≤ c ∧ c ≤ 255) : formOk [a, b, c] = true ↔
    ((a = 224 ∧ 160 ≤ b ∧ b ≤ 191) ∨ (a = 237 ∧ 128 ≤ b ∧ b ≤ 159) ∨ ((225 ≤ a ∧ a ≤ 236 ∨ a = 238 ∨ a = 239) ∧ 128 ≤ b ∧ b ≤ 191)) ∧ (128 ≤ c ∧ c ≤ 191) := by
  rw [formOk_iff]
  simp only [numZ]
  generalize hv : (a - 224) * 4096 + (b - 128) * 64 + c - 128 = v
  constructor
  · rintro ⟨h0, h⟩
    rcases encZ_cases v with e | e | e | e | e | e
    · rw [encZ_bad e] at h; simp at h; omega
    · rw [encZ_one e.1 e.2] at h; simp at h
    · rw [encZ_two e.1 e.2] at h; simp at h
    · rw [encZ_three e.1 (by omega) (.inl e.2)] at h; simp at h; omega
    · rw [encZ_three (by omega) e.2 (.inr e.1)] at h; simp at h; omega
    · rw [encZ_four e.1 e.2] at h; simp at h
  · intro h
    refine ⟨by omega, ?_⟩
    rw [encZ_three (by omega) (by omega) (by omega)]
    have h1 : 224 + v / 4096 = a := by omega
    have h2 : 128 + v / 64 % 64 = b := by omega
    have h3 : 128 + v % 64 = c := by omega
    rw [h1, h2, h3]

theorem form4 {a b c d : Int} (ha : 0 ≤ a ∧ a ≤ 255) (hb : 0 ≤ b ∧ b ≤ 255) (hc : 0 ≤ c ∧ c ≤ 255) (hd : 0 ≤ d ∧ d ≤ 255) : formOk [a, b, c, d] = true ↔
    ((a = 240 ∧ 144 ≤ b ∧ b ≤ 191) ∨ (a = 244 ∧ 128 ≤ b ∧ b ≤ 143) ∨ (241 ≤ a ∧ a ≤ 243 ∧ 128 ≤ b ∧ b ≤ 191)) ∧ (128 ≤ c ∧ c ≤ 191) ∧ (128 ≤ d ∧ d ≤ 191) := by
  rw [formOk_iff]
  simp only [numZ]
  generalize hv : (a - 240) * 262144 + (b - 128) * 4096 + (c - 128) * 64 + d - 128 = v
  constructor
  · rintro ⟨h0, h⟩
    rcases encZ_cases v with e | e | e | e | e | e
    · rw [encZ_bad e] at h; simp at h
    · rw [encZ_one e.1 e.2] at h; simp at h
    · rw [encZ_two e.1 e.2] at h; simp at h
    · rw [encZ_three e.1 (by omega) (.inl e.2)] at h; simp at h
    · rw [encZ_three (by omega) e.2 (.inr e.1)] at h; simp at h
    · rw [encZ_four e.1 e.2] at h; simp at h; omega
  · intro h
    refine ⟨by omega, ?_⟩
    rw [encZ_four (by omega) (by omega)]
    have h1 : 240 + v / 262144 = a := by omega
    have h2 : 128 + v / 4096 % 64 = b := by omega
    have h3 : 128 + v / 64 % 64 = c := by omega
    have h4 : 128 + v % 64 = d := by omega
    rw [h1, h2, h3, h4]

end Go.Proofs.YtbkcbhjejkicjaaGreatDoor

