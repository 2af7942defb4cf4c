import Derived.Test.YtbgngikejgihgadGreatDoorMq18
import Derived.Maps.AppendAt
import Derived.Laws.AppendOwnNone
import Derived.Test.YtbgngikejgihgadGreatDoorMq11
namespace Go.Proofs.YtbgngikejgihgadGreatDoor
open Go Go.RowKit Go.Sort Go.BigFrame
set_option linter.unusedVariables false

set_option maxHeartbeats 1000000 in
set_option maxRecDepth 100000 in
theorem atL (C : Nat) (xs : List Mk) (v : Value) (id : Int) (w : World) (h : RdM C w v xs) (hC : C ≤ w.heap.size) (hn : xs.length ≤ 1048576) :
    Calls Tryz.prog 16 #[v, .int .i64 id] w fun e w' => (∃ r : Int, e = .returned (.int .i64 r) ∧ (0 ≤ r ↔ hasId xs id = true)) ∧ Below w.heap.size w w' := by
  rcases h with ⟨ao, cap, rfl, rfl⟩ | ⟨b, off, cap, rfl, hp, hb, hcell⟩
  · go_enter Tryz.func16, Tryz.ntmps16
    go_wp2
    refine wp_loop_rounds 1 ?_
    rw [rounds_succ]
    go_wp2
    go_ret
    exact ⟨⟨-1, rfl, by simp [hasId]⟩, Below.refl _ _⟩
  · have HC := hide hcell
    generalize hN : xs.length = n at *
    have HNN := hide hN
    unfold maxLen at hp
    clear hcell hN
    go_enter Tryz.func16, Tryz.ntmps16
    go_wp2_with fail
    go_loopw [9] (fun i wr => ∃ k : Nat, k ≤ n ∧ i = .int .i64 k ∧ Below w.heap.size w wr ∧ ∀ i y, i < k → xs[i]? = some y → y.1 ≠ id) (fun i _ => n - (intOf i).toNat)
    case atStart => exact ⟨0, Nat.zero_le _, rfl, Below.refl _ _, fun i y hi => by omega⟩
    case round =>
      obtain ⟨k, hk, rfl, hbw, hno⟩ := hrel
      have HBW := hide hbw
      have HNO := hide hno
      have hsw := hbw.size
      by_cases hlt : k < n
      · obtain ⟨x, hx, a0, a1, a2⟩ := mkAt_of HC.out (show k < xs.length by rw [HNN.out]; omega)
        have hbl : b < w.heap.size := by omega
        have e0 := (hbw.cell (p := ⟨b, off + k * 3, none⟩) hbl).trans a0
        have e1 := (hbw.cell (p := ⟨b, off + k * 3 + 1, none⟩) hbl).trans a1
        have e2 := (hbw.cell (p := ⟨b, off + k * 3 + 2, none⟩) hbl).trans a2
        have hlt' : (k : Int) < n := by omega
        have hbr : b < wr.heap.size := by omega
        have BA := hide (HBW.out.trans (((Below.refl wr.heap.size wr).alloc (Nat.le_refl _) (.cells #[.int .i64 x.1, .int .i64 x.2.1, .int .i64 x.2.2] 37)).mono hsw))
        have HX := hide hx
        clear a0 a1 a2 hx hbw hno
        by_cases hq : x.1 = id
        · have hqb : (x.1 == id) = true := by simpa using hq
          have HQ := hide hq
          clear hq
          go_wp2
          go_ret
          exact ⟨⟨k, rfl, ⟨fun _ => (hasId_iff _ _).2 ⟨x, List.mem_of_getElem? HX.out, HQ.out⟩, fun _ => by omega⟩⟩, BA.out⟩
        · have hqb : (x.1 == id) = false := by simpa using hq
          have HQ := hide hq
          clear hq
          go_wp2
          go_roundw
          case rel =>
            refine ⟨k + 1, by omega, by go_num, BA.out, fun i y hi hy => ?_⟩
            by_cases e : i = k
            · subst e
              obtain rfl : y = x := by rw [HX.out] at hy; exact (Option.some.inj hy).symm
              exact HQ.out
            · exact HNO.out i y (by omega) hy
          case measure => simp [intOf]; omega
      · obtain rfl : k = n := by omega
        have hge : ¬ (k : Int) < (k : Int) := by omega
        clear hbw hno
        go_wp2
        go_ret
        refine ⟨⟨-1, rfl, ⟨fun h => by omega, fun h => ?_⟩⟩, HBW.out⟩
        obtain ⟨y, hy, e⟩ := (hasId_iff _ _).1 h
        obtain ⟨j, hj, rfl⟩ := List.getElem_of_mem hy
        exact absurd e (HNO.out j _ (by rw [← HNN.out]; exact hj) (by simp))

end Go.Proofs.YtbgngikejgihgadGreatDoor

namespace Go.Proofs.YtbgngikejgihgadGreatDoor
open Go Go.RowKit
set_option linter.unusedVariables false

/-- Between two lines. -/
def SpI (P : List (List UInt8)) (w1 : World) (tv i : Value) (wr : World) : Prop := ∃ (k : Nat) (t : List Mk), k < P.length ∧ i = .int .i64 k ∧ t.length ≤ 128 ∧ impU [] 0 P = impU t k (P.drop k) ∧ OwM wr w1.heap.size tv t ∧ Below w1.heap.size w1 wr
theorem impU_at {t : List Mk} {k : Nat} {P : List (List UInt8)} {p : List UInt8} (hk : k + 1 = P.length) (hp : P[k]? = some p) : impU t k (P.drop k) = if p.length = 0 then (t, 0, 0) else ([], 16, (k : Int) + 1) := by
  obtain ⟨hlt, he⟩ := List.getElem?_eq_some_iff.1 hp
  rw [List.drop_eq_getElem_cons hlt, he, List.drop_of_length_le (by omega)]
  exact impU_last t k p
theorem impU_go {t : List Mk} {k : Nat} {P : List (List UInt8)} {p : List UInt8} (hk : k + 1 < P.length) (hp : P[k]? = some p) (hc : codeU t p = 0) : impU t k (P.drop k) = impU (t ++ [(parsU p).2]) (k + 1) (P.drop (k + 1)) := by
  obtain ⟨hlt, he⟩ := List.getElem?_eq_some_iff.1 hp
  rw [List.drop_eq_getElem_cons hlt, he]
  exact impU_step (by intro e; have := congrArg List.length e; simp at this; omega) hc
theorem impU_no {t : List Mk} {k : Nat} {P : List (List UInt8)} {p : List UInt8} (hk : k + 1 < P.length) (hp : P[k]? = some p) (hc : codeU t p ≠ 0) : impU t k (P.drop k) = ([], codeU t p, (k : Int) + 1) := by
  obtain ⟨hlt, he⟩ := List.getElem?_eq_some_iff.1 hp
  rw [List.drop_eq_getElem_cons hlt, he]
  exact impU_bad (by intro e; have := congrArg List.length e; simp at this; omega) hc
theorem codeU_room {t : List Mk} {p : List UInt8} (h : codeU t p = 0) : t.length < 128 := by
  rw [codeU_ln] at h
  by_cases h1 : (lnC p).1 = 0
  · rw [if_pos h1] at h
    by_cases h2 : hasId t (lnC p).2.1 = true
    · rw [if_pos h2] at h; omega
    · rw [if_neg h2] at h
      by_cases h3 : late t (lnC p).2 = true
      · rw [if_pos h3] at h; omega
      · rw [if_neg h3] at h
        by_cases h4 : 128 ≤ t.length
        · rw [if_pos h4] at h; omega
        · omega
  · rw [if_neg h1] at h; exact absurd h h1
theorem impU_len : ∀ (P : List (List UInt8)) (t : List Mk) (i : Nat), t.length ≤ 128 → (impU t i P).1.length ≤ 128
  | [], t, i, h => h
  | [q], t, i, h => by
    rw [impU_last]
    split
    · exact h
    · simp
  | p :: q :: ps, t, i, h => by
    by_cases hc : codeU t p = 0
    · rw [impU_step (by simp) hc]
      exact impU_len (q :: ps) _ _ (by have := codeU_room hc; simp; omega)
    · rw [impU_bad (by simp) hc]; simp
theorem impAns_length (l : List UInt8) : (impAns l).1.length ≤ 128 := by
  unfold impAns
  split
  · simp
  · exact impU_len _ _ _ (by simp)
theorem w64n (k : Nat) (h : k ≤ 100000) : wrap64 ((k : Int) + 1) = (k : Int) + 1 := by unfold wrap64; omega
theorem w64m (k : Nat) (h : k ≤ 100000) : wrap64 ((k : Int) - 1) = (k : Int) - 1 := by unfold wrap64; omega
end Go.Proofs.YtbgngikejgihgadGreatDoor
