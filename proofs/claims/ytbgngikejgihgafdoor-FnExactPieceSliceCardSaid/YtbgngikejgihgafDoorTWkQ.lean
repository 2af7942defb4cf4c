import Derived.Test.YtbgngikejgihgafDoorTWalk
namespace Go.Proofs.YtbgngikejgihgafDoor
open Go Go.RowKit Go.Shelf
set_option linter.unusedVariables false
attribute [local go_sem] Oper.semAt_some

set_option maxRecDepth 100000 in
set_option maxHeartbeats 4000000 in
theorem walk_inQ (Q : It → Prop) (F : Fence) (hd : F.depth = none) (h6 : F.fn 117) (hro : F.round = none) (l n₀ N : Nat) (J Jx : List It → World → Prop)
    (hY : ∀ m pre (x : It) W, J pre W → pre.length < N → Q x → YieldAt F m Tryd.prog l #[.int .i64 x.lv, .agg #[.int .i64 x.pc.off, .int .i64 x.pc.len, .int .i64 x.pc.brk]] W fun e W' =>
      (e = .returned (.bool true) ∧ J (pre ++ [x]) W' ∧ Below n₀ W W') ∨ (e = .returned (.bool false) ∧ Jx (pre ++ [x]) W')) (T : AT) :
    ∀ (n : Nat) (p : Option Addr) (lv : Int) (pre : List It) (W : World), IsT n₀ W p T → 0 ≤ lv → lv + T.ht ≤ 1048576 → J pre W → pre.length + T.its ≤ N → (∀ x ∈ T.told lv, Q x) →
      CallsIn F n Tryd.prog 117 #[.pointer p, .int .i64 lv, .func (.yield l) #[] #[]] W fun e W' =>
        (e = .returned (.bool true) ∧ J (pre ++ T.told lv) W' ∧ Below n₀ W W') ∨ (e = .returned (.bool false) ∧ ∃ q, q <+: T.told lv ∧ Jx (pre ++ q) W') := by
  induction T with
  | nil =>
    intro n p lv pre W ht h0 h1 hJ _ _
    obtain ⟨base, bs, ⟨rfl, rfl⟩, _⟩ := ht
    refine callsIn_of_wp Tryd.func117 rfl h6 ?_ hro
    simp only [Tryd.ntmps117, List.size_toArray, List.length_cons, List.length_nil, Nat.reduceAdd, Nat.reduceSub, Array.replicate_succ, Array.replicate_zero, List.push_toArray, List.append_toArray, List.nil_append, List.cons_append]
    have hU : undef = Value.tuple #[] := rfl
    gi_wp2_with fail
    go_ret
    exact .inl ⟨rfl, by simpa [AT.told] using hJ, Below.refl _ _⟩
  | node tl v tr ihl ihr =>
    intro n p lv pre W ht h0 h1 hJ hN hQ
    have hQl : ∀ x ∈ tl.told (lv + 1), Q x := fun x hx => hQ x (by simp [AT.told, hx])
    have hQr : ∀ x ∈ tr.told (lv + 1), Q x := fun x hx => hQ x (by simp [AT.told, hx])
    have hQv : Q ⟨v, lv⟩ := hQ _ (by simp [AT.told])
    clear hQ
    obtain ⟨b, pl, pr, rfl, hb, c0, c1, c2, c3, c4, hl, hr⟩ := ht.parts
    have hdd : ∀ k : Nat, (F.depth.isSome = true → 1 ≤ k) := fun k h => by rw [hd] at h; cases h
    have hht : ((AT.node tl v tr).ht : Int) = 1 + max (tl.ht : Int) tr.ht := by simp only [AT.ht]; omega
    have hll : (tl.told (lv + 1)).length = tl.its := AT.told_length _ _
    rw [hht] at h1
    simp only [AT.its] at hN
    have hU : undef = Value.tuple #[] := rfl
    have HTD := hide (show (AT.node tl v tr).told lv = tl.told (lv + 1) ++ ⟨v, lv⟩ :: tr.told (lv + 1) from rfl)
    generalize (AT.node tl v tr).told lv = TD at HTD ⊢
    have hy2 : ∀ W1, J (pre ++ tl.told (lv + 1)) W1 → Below n₀ W W1 → YieldAt F (n - 1) Tryd.prog l #[.int .i64 lv, .agg #[.int .i64 v.off, .int .i64 v.len, .int .i64 v.brk]] W1 fun e W2 =>
        (e = .returned (.bool true) ∧ J (pre ++ tl.told (lv + 1) ++ [⟨v, lv⟩]) W2 ∧ Below n₀ W W2 ∧ W2.cell? ⟨b, 4, none⟩ = some (.pointer pr) ∧ IsT n₀ W2 pr tr) ∨ (e = .returned (.bool false) ∧ Jx (pre ++ tl.told (lv + 1) ++ [⟨v, lv⟩]) W2) := fun W1 hJ1 hb1 =>
      YieldAt.mono (hY (n - 1) _ ⟨v, lv⟩ W1 hJ1 (by simp [hll]; omega) hQv) fun e W2 h => h.elim
        (fun ⟨he, hj, hb2⟩ => .inl ⟨he, hj, hb1.trans hb2, ((hb1.trans hb2).cell (p := ⟨b, 4, none⟩) hb).trans c4, hr.below (hb1.trans hb2)⟩) .inr
    have ih1 := (ihl (n - 1) pl (lv + 1) pre W hl (by omega) (by omega) hJ (by omega) hQl).mono (R' := fun e W1 =>
        (e = .returned (.bool true) ∧ W1.cell? ⟨b, 0, none⟩ = some (.int .i64 v.off) ∧ W1.cell? ⟨b, 1, none⟩ = some (.int .i64 v.len) ∧ W1.cell? ⟨b, 2, none⟩ = some (.int .i64 v.brk) ∧ YieldAt F (n - 1) Tryd.prog l #[.int .i64 lv, .agg #[.int .i64 v.off, .int .i64 v.len, .int .i64 v.brk]] W1 fun e W2 =>
          (e = .returned (.bool true) ∧ J (pre ++ tl.told (lv + 1) ++ [⟨v, lv⟩]) W2 ∧ Below n₀ W W2 ∧ W2.cell? ⟨b, 4, none⟩ = some (.pointer pr) ∧ IsT n₀ W2 pr tr) ∨ (e = .returned (.bool false) ∧ Jx (pre ++ tl.told (lv + 1) ++ [⟨v, lv⟩]) W2)) ∨
        (e = .returned (.bool false) ∧ ∃ q, q <+: tl.told (lv + 1) ∧ Jx (pre ++ q) W1))
      (fun e W1 h => h.elim (fun ⟨he, hj, hb1⟩ => .inl ⟨he, (hb1.cell (p := ⟨b, 0, none⟩) hb).trans c0, (hb1.cell (p := ⟨b, 1, none⟩) hb).trans c1, (hb1.cell (p := ⟨b, 2, none⟩) hb).trans c2, hy2 W1 hj hb1⟩) .inr)
    clear hy2 ihl
    refine callsIn_of_wp Tryd.func117 rfl h6 ?_ hro
    simp only [Tryd.ntmps117, List.size_toArray, List.length_cons, List.length_nil, Nat.reduceAdd, Nat.reduceSub, Array.replicate_succ, Array.replicate_zero, List.push_toArray, List.append_toArray, List.nil_append, List.cons_append]
    gi_wp2_with (first
      | ((try refine ⟨hdd _, ?_⟩); gi_at_call 117; refine ih1.mono ?_; clear ih1; rintro e W1 (⟨rfl, c0', c1', c2', fn, tmps, assign, body, hy, hR⟩ | ⟨rfl, q, hq, hx1⟩))
      | ((try refine ⟨hdd _, ?_⟩); refine hR.mono ?_; clear hR; rintro e W2 (⟨rfl, hJ2, hb2, c4', hr2⟩ | ⟨rfl, hx2⟩))
      | ((try refine ⟨hdd _, ?_⟩); gi_at_call 117; refine (ihr (n - 1) pr (lv + 1) _ _ hr2 (by omega) (by omega) hJ2 (by simp [hll]; omega) hQr).mono ?_; rintro e W3 (⟨rfl, hJ3, hb3⟩ | ⟨rfl, q, hq, hx3⟩)))
    · go_ret
      exact .inl ⟨rfl, by rw [HTD.out]; simpa [List.append_assoc] using hJ3, hb2.trans hb3⟩
    · go_ret
      obtain ⟨r, hr'⟩ := hq
      exact .inr ⟨rfl, tl.told (lv + 1) ++ ⟨v, lv⟩ :: q, ⟨r, by rw [HTD.out]; simp [← hr']⟩, by simpa [List.append_assoc] using hx3⟩
    · go_ret
      exact .inr ⟨rfl, tl.told (lv + 1) ++ [⟨v, lv⟩], ⟨tr.told (lv + 1), by rw [HTD.out]; simp⟩, by simpa [List.append_assoc] using hx2⟩
    · go_ret
      exact .inr ⟨rfl, q, hq.trans (by rw [HTD.out]; simp), hx1⟩


set_option maxHeartbeats 1000000 in
theorem all1_inQ (Q : It → Prop) (F : Fence) (hd : F.depth = none) (n : Nat) (h5 : F.fn 116) (h6 : F.fn 117) (hro : F.round = none) (l Bt Bl n₀ : Nat) (p0 : Option Addr) (T : AT) (hht : (T.ht : Int) ≤ 1048576) (hQ : ∀ x ∈ T.told 0, Q x) (J Jx : List {x : It // Q x} → World → Prop)
    (hY : ∀ pre (x : {x : It // Q x}) W, J pre W → pre.length < T.its → YieldAt F (n - 1) Tryd.prog l #[.int .i64 x.1.lv, .agg #[.int .i64 x.1.pc.off, .int .i64 x.1.pc.len, .int .i64 x.1.pc.brk]] W fun e W' =>
      (e = .returned (.bool true) ∧ J (pre ++ [x]) W' ∧ Below n₀ W W') ∨ (e = .returned (.bool false) ∧ Jx (pre ++ [x]) W'))
    (W : World) (hBt : W.cell? ⟨Bt, 0, none⟩ = some (.pointer p0)) (hBl : W.cell? ⟨Bl, 0, none⟩ = some (.int .i64 0)) (hT : IsT n₀ W p0 T) (h0 : J [] W) :
    CallsIn F n Tryd.prog 116 #[.func (.yield l) #[] #[], .pointer (some ⟨Bt, 0, none⟩), .pointer (some ⟨Bl, 0, none⟩)] W fun e W' => (∃ v, e = .returned v) ∧
      ((∃ ys : List {x : It // Q x}, ys.map (·.1) = T.told 0 ∧ J ys W') ∨ (∃ pre : List {x : It // Q x}, pre.map (·.1) <+: T.told 0 ∧ Jx pre W')) := by
  have hdd : ∀ k : Nat, (F.depth.isSome = true → 1 ≤ k) := fun k h => by rw [hd] at h; cases h
  have hp := walk_inQ Q F hd h6 hro l n₀ T.its (fun pre W => ∃ p : List {x : It // Q x}, p.map (·.1) = pre ∧ J p W) (fun pre W => ∃ p : List {x : It // Q x}, p.map (·.1) = pre ∧ Jx p W) (fun m pre x W hj hl hq => by
      obtain ⟨p, hp, hj⟩ := hj
      subst hp
      refine yieldAt_any hd m (YieldAt.mono (hY p ⟨x, hq⟩ W hj (by simpa using hl)) fun e W' h => h.elim (fun ⟨he, h1, h2⟩ => .inl ⟨he, ⟨_, by simp, h1⟩, h2⟩) (fun ⟨he, h1⟩ => .inr ⟨he, ⟨_, by simp, h1⟩⟩))) T (n - 1) p0 0 [] W hT (by omega) (by omega) ⟨[], rfl, h0⟩ (by simp) hQ
  refine callsIn_of_wp Tryd.func116 rfl h5 ?_ hro
  simp only [Tryd.ntmps116, List.size_toArray, List.length_cons, List.length_nil, Nat.reduceAdd, Nat.reduceSub, Array.replicate_succ, Array.replicate_zero, List.push_toArray, List.append_toArray, List.nil_append, List.cons_append]
  gi_wp2_with ((try refine ⟨hdd _, ?_⟩); gi_at_call 117; refine hp.mono ?_; clear hp; rintro e W1 (⟨rfl, ⟨ys, hys, hJ1⟩, _⟩ | ⟨rfl, q, hq, ys, hys, hx⟩))
  · go_end0
    exact ⟨⟨_, rfl⟩, .inl ⟨ys, by simpa using hys, hJ1⟩⟩
  · go_end0
    exact ⟨⟨_, rfl⟩, .inr ⟨ys, by rw [hys]; simpa using hq, hx⟩⟩

theorem all_stopsQ (Q : It → Prop) (F : Fence) (hd : F.depth = none) (n : Nat) (h5 : F.fn 116) (h6 : F.fn 117) (hro : F.round = none) (Bt Bl n₀ : Nat) (p0 : Option Addr) (T : AT) (hht : (T.ht : Int) ≤ 1048576) (hQ : ∀ x ∈ T.told 0, Q x) (w : World) (hBt : Bt < w.heap.size) (hBl : Bl < w.heap.size) (hn₀ : n₀ ≤ w.heap.size)
    (hc : w.cell? ⟨Bt, 0, none⟩ = some (.pointer p0)) (hc2 : w.cell? ⟨Bl, 0, none⟩ = some (.int .i64 0)) (hT : IsT n₀ w p0 T) :
    SeqStopsK F n Tryd.prog 116 #[.pointer (some ⟨Bt, 0, none⟩), .pointer (some ⟨Bl, 0, none⟩)] (fun x : {x : It // Q x} => #[Value.int .i64 x.1.lv, .agg #[.int .i64 x.1.pc.off, .int .i64 x.1.pc.len, .int .i64 x.1.pc.brk]]) (Below n₀) (fun ys => ys.map (·.1) = T.told 0) (fun pre => pre.map (·.1) <+: T.told 0) T.its w := fun l J Jx W hW _ _ hY h0 =>
  all1_inQ Q F hd n h5 h6 hro l Bt Bl n₀ p0 T hht hQ J Jx hY W ((hW.cell (p := ⟨Bt, 0, none⟩) hBt).trans hc) ((hW.cell (p := ⟨Bl, 0, none⟩) hBl).trans hc2) (hT.below (hW.mono hn₀)) h0
end Go.Proofs.YtbgngikejgihgafDoor
