import Derived.RangeFuncNested
import Derived.RangeFuncBox
import Derived.RangeFuncBound
import Derived.RangeFuncLeaves
import Derived.Shelf.Abstract
import Derived.WalkKit
import Derived.OwnWalkIn
import Derived.TacticsInMore
import Derived.LoopNIn
import Derived.LoopIn
import Derived.Test.YtbgngikejgihgafDoorTPlant
namespace Go.Proofs.YtbgngikejgihgafDoor
open Go Go.RowKit Go.Shelf
set_option linter.unusedVariables false
attribute [local go_sem] Oper.semAt_some

theorem room_of_none {F : Fence} (hd : F.depth = none) (k : Nat) : F.room k := fun d h => by rw [hd] at h; cases h
theorem roundIn_any {F : Fence} (hd : F.depth = none) {m m' : Nat} {P : Program} {l : Nat} {f : FuncId} {tmps : Array Value} {assign body : Code} {w : World} {R : Ending → World → Prop}
    (h : RoundIn F m P l f tmps assign body w R) : RoundIn F m' P l f tmps assign body w R := ⟨h.1, fun c cs _ => h.2 c cs (room_of_none hd _)⟩
theorem yieldAt_any {F : Fence} (hd : F.depth = none) {m : Nat} (m' : Nat) {P : Program} {l : Nat} {args : Array Value} {W : World} {R : Ending → World → Prop} (h : YieldAt F m P l args W R) : YieldAt F m' P l args W R := by
  obtain ⟨fn, tmps, assign, body, hy, hR⟩ := h
  exact ⟨fn, tmps, assign, body, hy, roundIn_any hd hR⟩

/-- The tree lies in blocks below n₀. -/
def IsT (n₀ : Nat) (W : World) (p : Option Addr) (T : AT) : Prop := ∃ base bs, Lies W base T p bs ∧ ∀ x ∈ bs, x < n₀
theorem IsT.below {n₀ : Nat} {A B : World} {p : Option Addr} {T : AT} (h : IsT n₀ A p T) (hb : Below n₀ A B) : IsT n₀ B p T := by
  obtain ⟨base, bs, h1, h2⟩ := h
  exact ⟨base, bs, h1.frame fun b hbs => hb.block b (h2 b hbs), h2⟩
theorem IsT.parts {n₀ : Nat} {W : World} {p : Option Addr} {l : AT} {q : Pc} {r : AT} (h : IsT n₀ W p (.node l q r)) : ∃ b pl pr, p = some ⟨b, 0, none⟩ ∧ b < n₀ ∧ W.cell? ⟨b, 0, none⟩ = some (.int .i64 q.off) ∧ W.cell? ⟨b, 1, none⟩ = some (.int .i64 q.len) ∧ W.cell? ⟨b, 2, none⟩ = some (.int .i64 q.brk) ∧
    W.cell? ⟨b, 3, none⟩ = some (.pointer pl) ∧ W.cell? ⟨b, 4, none⟩ = some (.pointer pr) ∧ IsT n₀ W pl l ∧ IsT n₀ W pr r := by
  obtain ⟨base, bs, ⟨b, ul, ur, bl, br, rfl, hb, hn, hl, hr, rfl⟩, h2⟩ := h
  exact ⟨b, ul, ur, rfl, h2 b (by simp), hn.c0, hn.c1, hn.c2, hn.c3, hn.c4, ⟨base, bl, hl, fun x hx => h2 x (by simp [hx])⟩, ⟨base, br, hr, fun x hx => h2 x (by simp [hx])⟩⟩

set_option maxRecDepth 100000 in
set_option maxHeartbeats 4000000 in
theorem walk_in (F : Fence) (hd : F.depth = none) (h6 : F.fn 117) (hro : F.round = none) (l n₀ N : Nat) (J Jx : List It → World → Prop)
    (hY : ∀ m pre (x : It) W, J pre W → pre.length < N → YieldAt F m Tryd.prog l #[.int .i64 x.lv, .agg #[.int .i64 x.pc.off, .int .i64 x.pc.len, .int .i64 x.pc.brk]] W fun e W' =>
      (e = .returned (.bool true) ∧ J (pre ++ [x]) W' ∧ Below n₀ W W') ∨ (e = .returned (.bool false) ∧ Jx (pre ++ [x]) W')) (T : AT) :
    ∀ (n : Nat) (p : Option Addr) (lv : Int) (pre : List It) (W : World), IsT n₀ W p T → 0 ≤ lv → lv + T.ht ≤ 1048576 → J pre W → pre.length + T.its ≤ N →
      CallsIn F n Tryd.prog 117 #[.pointer p, .int .i64 lv, .func (.yield l) #[] #[]] W fun e W' =>
        (e = .returned (.bool true) ∧ J (pre ++ T.told lv) W' ∧ Below n₀ W W') ∨ (e = .returned (.bool false) ∧ ∃ q, q <+: T.told lv ∧ Jx (pre ++ q) W') := by
  induction T with
  | nil =>
    intro n p lv pre W ht h0 h1 hJ _
    obtain ⟨base, bs, ⟨rfl, rfl⟩, _⟩ := ht
    refine callsIn_of_wp Tryd.func117 rfl h6 ?_ hro
    simp only [Tryd.ntmps117, List.size_toArray, List.length_cons, List.length_nil, Nat.reduceAdd, Nat.reduceSub, Array.replicate_succ, Array.replicate_zero, List.push_toArray, List.append_toArray, List.nil_append, List.cons_append]
    have hU : undef = Value.tuple #[] := rfl
    gi_wp2_with fail
    go_ret
    exact .inl ⟨rfl, by simpa [AT.told] using hJ, Below.refl _ _⟩
  | node tl v tr ihl ihr =>
    intro n p lv pre W ht h0 h1 hJ hN
    obtain ⟨b, pl, pr, rfl, hb, c0, c1, c2, c3, c4, hl, hr⟩ := ht.parts
    have hdd : ∀ k : Nat, (F.depth.isSome = true → 1 ≤ k) := fun k h => by rw [hd] at h; cases h
    have hht : ((AT.node tl v tr).ht : Int) = 1 + max (tl.ht : Int) tr.ht := by simp only [AT.ht]; omega
    have hll : (tl.told (lv + 1)).length = tl.its := AT.told_length _ _
    rw [hht] at h1
    simp only [AT.its] at hN
    have hU : undef = Value.tuple #[] := rfl
    have HTD := hide (show (AT.node tl v tr).told lv = tl.told (lv + 1) ++ ⟨v, lv⟩ :: tr.told (lv + 1) from rfl)
    generalize (AT.node tl v tr).told lv = TD at HTD ⊢
    have hy2 : ∀ W1, J (pre ++ tl.told (lv + 1)) W1 → Below n₀ W W1 → YieldAt F (n - 1) Tryd.prog l #[.int .i64 lv, .agg #[.int .i64 v.off, .int .i64 v.len, .int .i64 v.brk]] W1 fun e W2 =>
        (e = .returned (.bool true) ∧ J (pre ++ tl.told (lv + 1) ++ [⟨v, lv⟩]) W2 ∧ Below n₀ W W2 ∧ W2.cell? ⟨b, 4, none⟩ = some (.pointer pr) ∧ IsT n₀ W2 pr tr) ∨ (e = .returned (.bool false) ∧ Jx (pre ++ tl.told (lv + 1) ++ [⟨v, lv⟩]) W2) := fun W1 hJ1 hb1 =>
      YieldAt.mono (hY (n - 1) _ ⟨v, lv⟩ W1 hJ1 (by simp [hll]; omega)) fun e W2 h => h.elim
        (fun ⟨he, hj, hb2⟩ => .inl ⟨he, hj, hb1.trans hb2, ((hb1.trans hb2).cell (p := ⟨b, 4, none⟩) hb).trans c4, hr.below (hb1.trans hb2)⟩) .inr
    have ih1 := (ihl (n - 1) pl (lv + 1) pre W hl (by omega) (by omega) hJ (by omega)).mono (R' := fun e W1 =>
        (e = .returned (.bool true) ∧ W1.cell? ⟨b, 0, none⟩ = some (.int .i64 v.off) ∧ W1.cell? ⟨b, 1, none⟩ = some (.int .i64 v.len) ∧ W1.cell? ⟨b, 2, none⟩ = some (.int .i64 v.brk) ∧ YieldAt F (n - 1) Tryd.prog l #[.int .i64 lv, .agg #[.int .i64 v.off, .int .i64 v.len, .int .i64 v.brk]] W1 fun e W2 =>
          (e = .returned (.bool true) ∧ J (pre ++ tl.told (lv + 1) ++ [⟨v, lv⟩]) W2 ∧ Below n₀ W W2 ∧ W2.cell? ⟨b, 4, none⟩ = some (.pointer pr) ∧ IsT n₀ W2 pr tr) ∨ (e = .returned (.bool false) ∧ Jx (pre ++ tl.told (lv + 1) ++ [⟨v, lv⟩]) W2)) ∨
        (e = .returned (.bool false) ∧ ∃ q, q <+: tl.told (lv + 1) ∧ Jx (pre ++ q) W1))
      (fun e W1 h => h.elim (fun ⟨he, hj, hb1⟩ => .inl ⟨he, (hb1.cell (p := ⟨b, 0, none⟩) hb).trans c0, (hb1.cell (p := ⟨b, 1, none⟩) hb).trans c1, (hb1.cell (p := ⟨b, 2, none⟩) hb).trans c2, hy2 W1 hj hb1⟩) .inr)
    clear hy2 ihl
    refine callsIn_of_wp Tryd.func117 rfl h6 ?_ hro
    simp only [Tryd.ntmps117, List.size_toArray, List.length_cons, List.length_nil, Nat.reduceAdd, Nat.reduceSub, Array.replicate_succ, Array.replicate_zero, List.push_toArray, List.append_toArray, List.nil_append, List.cons_append]
    gi_wp2_with (first
      | ((try refine ⟨hdd _, ?_⟩); gi_at_call 117; refine ih1.mono ?_; clear ih1; rintro e W1 (⟨rfl, c0', c1', c2', fn, tmps, assign, body, hy, hR⟩ | ⟨rfl, q, hq, hx1⟩))
      | ((try refine ⟨hdd _, ?_⟩); refine hR.mono ?_; clear hR; rintro e W2 (⟨rfl, hJ2, hb2, c4', hr2⟩ | ⟨rfl, hx2⟩))
      | ((try refine ⟨hdd _, ?_⟩); gi_at_call 117; refine (ihr (n - 1) pr (lv + 1) _ _ hr2 (by omega) (by omega) hJ2 (by simp [hll]; omega)).mono ?_; rintro e W3 (⟨rfl, hJ3, hb3⟩ | ⟨rfl, q, hq, hx3⟩)))
    · go_ret
      exact .inl ⟨rfl, by rw [HTD.out]; simpa [List.append_assoc] using hJ3, hb2.trans hb3⟩
    · go_ret
      obtain ⟨r, hr'⟩ := hq
      exact .inr ⟨rfl, tl.told (lv + 1) ++ ⟨v, lv⟩ :: q, ⟨r, by rw [HTD.out]; simp [← hr']⟩, by simpa [List.append_assoc] using hx3⟩
    · go_ret
      exact .inr ⟨rfl, tl.told (lv + 1) ++ [⟨v, lv⟩], ⟨tr.told (lv + 1), by rw [HTD.out]; simp⟩, by simpa [List.append_assoc] using hx2⟩
    · go_ret
      exact .inr ⟨rfl, q, hq.trans (by rw [HTD.out]; simp), hx1⟩

set_option maxHeartbeats 1000000 in
theorem all1_in (F : Fence) (hd : F.depth = none) (n : Nat) (h5 : F.fn 116) (h6 : F.fn 117) (hro : F.round = none) (l Bt Bl n₀ : Nat) (p0 : Option Addr) (T : AT) (hht : (T.ht : Int) ≤ 1048576) (J Jx : List It → World → Prop)
    (hY : ∀ pre (x : It) W, J pre W → pre.length < T.its → YieldAt F (n - 1) Tryd.prog l #[.int .i64 x.lv, .agg #[.int .i64 x.pc.off, .int .i64 x.pc.len, .int .i64 x.pc.brk]] W fun e W' =>
      (e = .returned (.bool true) ∧ J (pre ++ [x]) W' ∧ Below n₀ W W') ∨ (e = .returned (.bool false) ∧ Jx (pre ++ [x]) W'))
    (W : World) (hBt : W.cell? ⟨Bt, 0, none⟩ = some (.pointer p0)) (hBl : W.cell? ⟨Bl, 0, none⟩ = some (.int .i64 0)) (hT : IsT n₀ W p0 T) (h0 : J [] W) :
    CallsIn F n Tryd.prog 116 #[.func (.yield l) #[] #[], .pointer (some ⟨Bt, 0, none⟩), .pointer (some ⟨Bl, 0, none⟩)] W fun e W' => (∃ v, e = .returned v) ∧
      ((∃ ys, ys = T.told 0 ∧ J ys W') ∨ (∃ pre, pre <+: T.told 0 ∧ Jx pre W')) := by
  have hdd : ∀ k : Nat, (F.depth.isSome = true → 1 ≤ k) := fun k h => by rw [hd] at h; cases h
  have hp := walk_in F hd h6 hro l n₀ T.its J Jx (fun m pre x W hj hl => yieldAt_any hd m (hY pre x W hj hl)) T (n - 1) p0 0 [] W hT (by omega) (by omega) h0 (by simp)
  refine callsIn_of_wp Tryd.func116 rfl h5 ?_ hro
  simp only [Tryd.ntmps116, List.size_toArray, List.length_cons, List.length_nil, Nat.reduceAdd, Nat.reduceSub, Array.replicate_succ, Array.replicate_zero, List.push_toArray, List.append_toArray, List.nil_append, List.cons_append]
  gi_wp2_with ((try refine ⟨hdd _, ?_⟩); gi_at_call 117; refine hp.mono ?_; clear hp; rintro e W1 (⟨rfl, hJ1, _⟩ | ⟨rfl, q, hq, hx⟩))
  · go_end0
    exact ⟨⟨_, rfl⟩, .inl ⟨_, rfl, by simpa using hJ1⟩⟩
  · go_end0
    exact ⟨⟨_, rfl⟩, .inr ⟨q, hq, by simpa using hx⟩⟩

set_option maxHeartbeats 1000000 in
theorem all_in (F : Fence) (n : Nat) (h4 : F.fn 82) (hro : F.round = none) (p0 : Option Addr) (w : World) :
    CallsIn F n Tryd.prog 82 #[.pointer p0, .int .i64 0] w fun e w' => e = .returned (.func (.func 116) #[] #[.pointer (some ⟨w.heap.size, 0, none⟩), .pointer (some ⟨w.heap.size + 1, 0, none⟩)]) ∧ w' = (w.alloc (.cells #[.pointer p0] 71)).alloc (.cells #[.int .i64 0] 3) := by
  refine callsIn_of_wp Tryd.func82 rfl h4 ?_ hro
  simp only [Tryd.ntmps82, List.size_toArray, List.length_cons, List.length_nil, Nat.reduceAdd, Nat.reduceSub, Array.replicate_succ, Array.replicate_zero, List.push_toArray, List.append_toArray, List.nil_append, List.cons_append]
  gi_wp2
  go_ret
  exact ⟨rfl, rfl⟩

theorem all_stops (F : Fence) (hd : F.depth = none) (n : Nat) (h5 : F.fn 116) (h6 : F.fn 117) (hro : F.round = none) (Bt Bl n₀ : Nat) (p0 : Option Addr) (T : AT) (hht : (T.ht : Int) ≤ 1048576) (w : World) (hBt : Bt < w.heap.size) (hBl : Bl < w.heap.size) (hn₀ : n₀ ≤ w.heap.size)
    (hc : w.cell? ⟨Bt, 0, none⟩ = some (.pointer p0)) (hc2 : w.cell? ⟨Bl, 0, none⟩ = some (.int .i64 0)) (hT : IsT n₀ w p0 T) :
    SeqStopsK F n Tryd.prog 116 #[.pointer (some ⟨Bt, 0, none⟩), .pointer (some ⟨Bl, 0, none⟩)] (fun x : It => #[Value.int .i64 x.lv, .agg #[.int .i64 x.pc.off, .int .i64 x.pc.len, .int .i64 x.pc.brk]]) (Below n₀) (fun ys => ys = T.told 0) (fun pre => pre <+: T.told 0) T.its w := fun l J Jx W hW _ _ hY h0 =>
  all1_in F hd n h5 h6 hro l Bt Bl n₀ p0 T hht J Jx hY W ((hW.cell (p := ⟨Bt, 0, none⟩) hBt).trans hc) ((hW.cell (p := ⟨Bl, 0, none⟩) hBl).trans hc2) (hT.below (hW.mono hn₀)) h0
end Go.Proofs.YtbgngikejgihgafDoor
