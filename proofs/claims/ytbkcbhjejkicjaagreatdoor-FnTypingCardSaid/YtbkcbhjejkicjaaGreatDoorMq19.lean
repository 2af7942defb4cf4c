import Derived.Test.YtbkcbhjejkicjaaGreatDoorMq18
import Derived.Lib.QuietBelow
namespace Go.Proofs.YtbkcbhjejkicjaaGreatDoor
open Go Go.RowKit Go.Shelf
set_option linter.unusedVariables false
attribute [local go_sem] Oper.semAt_some

theorem IsT.more {n₀ : Nat} {W : World} {p : Option Addr} {l : AT} {q : Pc} {r : AT} (h : IsT n₀ W p (.node l q r)) : ∃ b pl pr base bl, p = some ⟨b, 0, none⟩ ∧ b < n₀ ∧ W.cell? ⟨b, 0, none⟩ = some (.int .i64 q.off) ∧ W.cell? ⟨b, 1, none⟩ = some (.int .i64 q.len) ∧ W.cell? ⟨b, 2, none⟩ = some (.int .i64 q.brk) ∧
    W.cell? ⟨b, 3, none⟩ = some (.pointer pl) ∧ W.cell? ⟨b, 4, none⟩ = some (.pointer pr) ∧ W.cell? ⟨b, 7, none⟩ = some (.int .i64 (AT.node l q r).rns) ∧ Lies W base l pl bl ∧ (∀ x ∈ bl, x < n₀) ∧ IsT n₀ W pl l ∧ IsT n₀ W pr r := by
  obtain ⟨base, bs, ⟨b, ul, ur, bl, br, rfl, hb, hn, hl, hr, rfl⟩, h2⟩ := h
  exact ⟨b, ul, ur, base, bl, rfl, h2 b (by simp), hn.c0, hn.c1, hn.c2, hn.c3, hn.c4, hn.c7, hl, fun x hx => h2 x (by simp [hx]), ⟨base, bl, hl, fun x hx => h2 x (by simp [hx])⟩, ⟨base, br, hr, fun x hx => h2 x (by simp [hx])⟩⟩

set_option maxRecDepth 100000 in
set_option maxHeartbeats 4000000 in
theorem across_walk (Q : Int × Pc → Prop) (lo hi : Int) (hlo : 0 ≤ lo ∧ lo ≤ 8192) (hhi : 0 ≤ hi ∧ hi ≤ 8192) (l n₀ N : Nat) (J Jx : List (Int × Pc) → World → Prop)
    (hJb : ∀ pre W W', J pre W → Below W.heap.size W W' → J pre W')
    (hY : ∀ m pre (y : Int × Pc) W, J pre W → pre.length < N → Q y → YieldAt Fence.wide m Tryz.prog l #[.int .i64 y.1, .agg #[.int .i64 y.2.off, .int .i64 y.2.len, .int .i64 y.2.brk]] W fun e W' =>
      (e = .returned (.bool true) ∧ J (pre ++ [y]) W' ∧ Below n₀ W W') ∨ (e = .returned (.bool false) ∧ Jx (pre ++ [y]) W')) (T : AT) :
    ∀ (n : Nat) (p : Option Addr) (s : Int) (pre : List (Int × Pc)) (W : World), IsT n₀ W p T → T.ok → 0 ≤ s → s + T.rns ≤ 8192 → J pre W → pre.length + T.its ≤ N → (∀ y ∈ acr lo hi T s, Q y) → n₀ ≤ W.heap.size →
      CallsIn Fence.wide n Tryz.prog 269 #[.pointer p, .int .i64 s, .int .i64 lo, .int .i64 hi, .func (.yield l) #[] #[]] W fun e W' =>
        (e = .returned (.bool true) ∧ J (pre ++ acr lo hi T s) W' ∧ Below n₀ W W') ∨ (e = .returned (.bool false) ∧ ∃ q, q <+: acr lo hi T s ∧ Jx (pre ++ q) W') := by
  induction T with
  | nil =>
    intro n p s pre W ht _ h0 h1 hJ _ _ _
    obtain ⟨base, bs, ⟨rfl, rfl⟩, _⟩ := ht
    refine callsIn_of_wp Tryz.func269 rfl trivial ?_ rfl
    simp only [Tryz.ntmps269, List.size_toArray, List.length_cons, List.length_nil, Nat.reduceAdd, Nat.reduceSub, Array.replicate_succ, Array.replicate_zero, List.push_toArray, List.append_toArray, List.nil_append, List.cons_append]
    gi_wp2_with fail
    go_ret
    exact .inl ⟨rfl, by simpa [acr] using hJ, Below.refl _ _⟩
  | node tl v tr ihl ihr =>
    intro n p s pre W ht hok h0 h1 hJ hN hQ hnW
    obtain ⟨b, pl, pr, base, bl, rfl, hb, c0, c1, c2, c3, c4, c7, hLl, hbl, hl, hr⟩ := ht.more
    have bL := hok.left.bd
    have bR := hok.right.bd
    have bP := hok.piece
    have hrn : (AT.node tl v tr).rns = tl.rns + v.len + tr.rns := rfl
    have hok1 := hok.left
    have hok2 := hok.right
    have hrnI : s + tl.rns + v.len + tr.rns ≤ 8192 ∧ s + tl.rns ≤ 8192 := by omega
    generalize hRN : (AT.node tl v tr).rns = rn at *
    have hsn : IntKind.i64.wrap (s + rn) = s + rn := by rw [IntKind.wrap_i64]; omega
    have hlv := acr_len lo hi tl s
    have hlen1 : (acr lo hi tl s).length ≤ tl.its := hlv
    have HAC := hide (show acr lo hi (AT.node tl v tr) s = (if hi ≤ s ∨ s + (AT.node tl v tr).rns ≤ lo then [] else acr lo hi tl s ++ ((if s + tl.rns < hi ∧ lo < s + tl.rns + v.len then [(s + tl.rns, v)] else []) ++ acr lo hi tr (s + tl.rns + v.len))) from rfl)
    rw [hRN] at HAC
    generalize acr lo hi (AT.node tl v tr) s = TD at HAC hQ ⊢
    simp only [AT.its] at hN
    by_cases k1 : hi ≤ s
    · rw [if_pos (.inl k1)] at HAC
      refine callsIn_of_wp Tryz.func269 rfl trivial ?_ rfl
      simp only [Tryz.ntmps269, List.size_toArray, List.length_cons, List.length_nil, Nat.reduceAdd, Nat.reduceSub, Array.replicate_succ, Array.replicate_zero, List.push_toArray, List.append_toArray, List.nil_append, List.cons_append]
      gi_wp2_with fail
      go_ret
      exact .inl ⟨rfl, by rw [HAC.out]; simpa using hJ, Below.refl _ _⟩
    by_cases k2 : s + rn ≤ lo
    · rw [if_pos (.inr k2)] at HAC
      have k1' : ¬ s ≥ hi := by omega
      refine callsIn_of_wp Tryz.func269 rfl trivial ?_ rfl
      simp only [Tryz.ntmps269, List.size_toArray, List.length_cons, List.length_nil, Nat.reduceAdd, Nat.reduceSub, Array.replicate_succ, Array.replicate_zero, List.push_toArray, List.append_toArray, List.nil_append, List.cons_append]
      gi_wp2_with fail
      go_ret
      exact .inl ⟨rfl, by rw [HAC.out]; simpa using hJ, Below.refl _ _⟩
    rw [if_neg (by omega)] at HAC
    have k1' : ¬ s ≥ hi := by omega
    have hQl : ∀ y ∈ acr lo hi tl s, Q y := fun y hy => hQ y (by rw [HAC.out]; simp [hy])
    have hQr : ∀ y ∈ acr lo hi tr (s + tl.rns + v.len), Q y := fun y hy => hQ y (by rw [HAC.out]; simp [hy])
    have hQm : (s + tl.rns < hi ∧ lo < s + tl.rns + v.len) → Q (s + tl.rns, v) := fun hc => hQ _ (by rw [HAC.out, if_pos hc]; simp)
    clear hQ
    have HQR := hide hQr
    have HQM := hide hQm
    have mR := Tryz.methodRunes
    have fl1 := Tryz.fld1
    have HAll := hide (fun W' (hW : Below n₀ W W') => allN tl pl bl base W' (hLl.frame fun x hx => hW.block x (hbl x hx)))
    have HRn := hide (fun W' => pRunes v W')
    have HIL := hide (fun W' (hW : Below W.heap.size W W') => ihl (n - 1) pl s pre W' (hl.below (hW.mono hnW)) hok1 h0 (by omega) (hJb pre W W' hJ hW) (by omega) hQl (Nat.le_trans hnW hW.size))
    have HC := hide (And.intro c0 (And.intro c1 (And.intro c2 (And.intro c3 c4))))
    clear hQr hQm hLl hQl hok hok1 hrn ihl
    have hbW : b < W.heap.size := by omega
    by_cases hc : s + tl.rns < hi ∧ lo < s + tl.rns + v.len
    · rw [if_pos hc] at HAC
      have hcA := hc.1
      have hcB := hc.2
      have HYY := hide (fun W' (h : J (pre ++ acr lo hi tl s) W') => hY (n - 1) (pre ++ acr lo hi tl s) (s + tl.rns, v) W' h (by rw [List.length_append]; omega) (HQM.out hc))
      have HIR := hide (fun W' (hW : Below n₀ W W') (hJ' : J (pre ++ acr lo hi tl s ++ [(s + tl.rns, v)]) W') => ihr (n - 1) pr (s + tl.rns + v.len) (pre ++ acr lo hi tl s ++ [(s + tl.rns, v)]) W' (hr.below hW) hok2 (by omega) (by omega) hJ' (by simp only [List.length_append, List.length_cons, List.length_nil]; omega) HQR.out (Nat.le_trans hnW hW.size))
      clear ihr hY hc
      refine callsIn_of_wp Tryz.func269 rfl trivial ?_ rfl
      simp only [Tryz.ntmps269, List.size_toArray, List.length_cons, List.length_nil, Nat.reduceAdd, Nat.reduceSub, Array.replicate_succ, Array.replicate_zero, List.push_toArray, List.append_toArray, List.nil_append, List.cons_append]
      gi_wp2_with (first
        | (refine ⟨trivial, fun h => (by cases h), ?_⟩; refine (callsIn_wide.2 (HAll.out W (Below.refl _ _))).mono ?_; rintro e W1 ⟨rfl, hb1⟩; have B1 := hide hb1; have s1 := hb1.size; obtain ⟨c0', c1', c2', c3', c4'⟩ := HC.out; have e0 := (hb1.cell (p := ⟨b, 0, none⟩) hbW).trans c0'; have e1 := (hb1.cell (p := ⟨b, 1, none⟩) hbW).trans c1'; have e2 := (hb1.cell (p := ⟨b, 2, none⟩) hbW).trans c2'; clear hb1 c0' c1' c2' c3' c4' c0 c1 c2 c3 c4 c7; simp only [cnt])
        | (refine ⟨trivial, fun h => (by cases h), ?_⟩; refine (callsIn_wide.2 (HRn.out _)).mono ?_; rintro e W2 ⟨rfl, hb2⟩; have B2 := hide (B1.out.trans (hb2.mono s1)); have s2 := B2.out.size; obtain ⟨c0', c1', c2', c3', c4'⟩ := HC.out; have e3 := (B2.out.cell (p := ⟨b, 3, none⟩) hbW).trans c3'; clear hb2 c0' c1' c2' c3' c4' e0 e1 e2)
        | (refine ⟨trivial, fun h => (by cases h), ?_⟩; refine (HIL.out _ B2.out).mono ?_; clear HIL; rintro e W3 (⟨rfl, hJ3, hb3⟩ | ⟨rfl, q, hq, hx3⟩); rotate_left; skip; rotate_left; have B3 := hide ((B2.out.mono hnW).trans hb3); have J3 := hide hJ3; obtain ⟨c0', c1', c2', c3', c4'⟩ := HC.out; have g0 := (B3.out.cell (p := ⟨b, 0, none⟩) hb).trans c0'; have g1 := (B3.out.cell (p := ⟨b, 1, none⟩) hb).trans c1'; have g2 := (B3.out.cell (p := ⟨b, 2, none⟩) hb).trans c2'; have g4 := (B3.out.cell (p := ⟨b, 4, none⟩) hb).trans c4'; clear hb3 hJ3 c0' c1' c2' c3' c4' e3; obtain ⟨fn, tmps, assign, body, hy, hR⟩ := HYY.out W3 J3.out; have HR := hide hR; clear hR)
        | ((try refine ⟨trivial, ?_⟩); (try refine ⟨fun h => (by cases h), ?_⟩); refine HR.out.mono ?_; clear HR; rintro e W4 (⟨rfl, hJ4, hb4⟩ | ⟨rfl, hx4⟩); rotate_left; skip; rotate_left; have B4 := hide (B3.out.trans hb4); have J4 := hide hJ4; obtain ⟨c0', c1', c2', c3', c4'⟩ := HC.out; have h4 := (B4.out.cell (p := ⟨b, 4, none⟩) hb).trans c4'; clear hb4 hJ4 c0' c1' c2' c3' c4' g0 g1 g2 g4)
        | (refine ⟨trivial, fun h => (by cases h), ?_⟩; refine (HIR.out _ B4.out J4.out).mono ?_; rintro e W5 (⟨rfl, hJ5, hb5⟩ | ⟨rfl, q, hq, hx5⟩)))
      all_goals first
        | (go_ret; exact .inl ⟨rfl, by rw [HAC.out]; simpa [List.append_assoc] using hJ5, B4.out.trans hb5⟩)
        | (go_ret; obtain ⟨r', hr'⟩ := hq; exact .inr ⟨rfl, acr lo hi tl s ++ ((s + tl.rns, v) :: q), ⟨r', by rw [HAC.out]; simp [← hr']⟩, by simpa [List.append_assoc] using hx5⟩)
        | (go_ret; exact .inr ⟨rfl, acr lo hi tl s ++ [(s + tl.rns, v)], ⟨acr lo hi tr (s + tl.rns + v.len), by rw [HAC.out]; simp⟩, by simpa [List.append_assoc] using hx4⟩)
        | (go_ret; exact .inr ⟨rfl, q, hq.trans (by rw [HAC.out]; simp), hx3⟩)
        | done
    · rw [if_neg hc, List.nil_append] at HAC
      have HIR := hide (fun W' (hW : Below n₀ W W') (hJ' : J (pre ++ acr lo hi tl s) W') => ihr (n - 1) pr (s + tl.rns + v.len) (pre ++ acr lo hi tl s) W' (hr.below hW) hok2 (by omega) (by omega) hJ' (by simp only [List.length_append]; omega) HQR.out (Nat.le_trans hnW hW.size))
      clear ihr hY
      have hnf : ∀ f : FuncId, (none : Option FuncId) = some f → Fence.wide.fn f := fun f h => by cases h
      by_cases hcA : s + tl.rns < hi
      · have hcB : ¬ lo < s + tl.rns + v.len := fun h => hc ⟨hcA, h⟩
        clear hc
        refine callsIn_of_wp Tryz.func269 rfl trivial ?_ rfl
        simp only [Tryz.ntmps269, List.size_toArray, List.length_cons, List.length_nil, Nat.reduceAdd, Nat.reduceSub, Array.replicate_succ, Array.replicate_zero, List.push_toArray, List.append_toArray, List.nil_append, List.cons_append]
        gi_wp2_with (first
        | (refine ⟨trivial, fun h => (by cases h), ?_⟩; refine (callsIn_wide.2 (HAll.out W (Below.refl _ _))).mono ?_; rintro e W1 ⟨rfl, hb1⟩; have B1 := hide hb1; have s1 := hb1.size; obtain ⟨c0', c1', c2', c3', c4'⟩ := HC.out; have e0 := (hb1.cell (p := ⟨b, 0, none⟩) hbW).trans c0'; have e1 := (hb1.cell (p := ⟨b, 1, none⟩) hbW).trans c1'; have e2 := (hb1.cell (p := ⟨b, 2, none⟩) hbW).trans c2'; clear hb1 c0' c1' c2' c3' c4' c0 c1 c2 c3 c4 c7; simp only [cnt])
        | (refine ⟨trivial, fun h => (by cases h), ?_⟩; refine (callsIn_wide.2 (HRn.out _)).mono ?_; rintro e W2 ⟨rfl, hb2⟩; have B2 := hide (B1.out.trans (hb2.mono s1)); have s2 := B2.out.size; obtain ⟨c0', c1', c2', c3', c4'⟩ := HC.out; have e3 := (B2.out.cell (p := ⟨b, 3, none⟩) hbW).trans c3'; clear hb2 c0' c1' c2' c3' c4' e0 e1 e2)
        | (refine ⟨trivial, fun h => (by cases h), ?_⟩; refine (HIL.out _ B2.out).mono ?_; clear HIL; rintro e W3 (⟨rfl, hJ3, hb3⟩ | ⟨rfl, q, hq, hx3⟩); rotate_left; skip; rotate_left; have B3 := hide ((B2.out.mono hnW).trans hb3); have J3 := hide hJ3; obtain ⟨c0', c1', c2', c3', c4'⟩ := HC.out; have g0 := (B3.out.cell (p := ⟨b, 0, none⟩) hb).trans c0'; have g1 := (B3.out.cell (p := ⟨b, 1, none⟩) hb).trans c1'; have g2 := (B3.out.cell (p := ⟨b, 2, none⟩) hb).trans c2'; have g4 := (B3.out.cell (p := ⟨b, 4, none⟩) hb).trans c4'; clear hb3 hJ3 c0' c1' c2' c3' c4' e3)
          | fail)
        all_goals first
          | (go_ret; exact .inr ⟨rfl, q, hq.trans (by rw [HAC.out]; simp), hx3⟩)
          | skip
        refine ⟨hnf, ?_⟩
        gi_wp2_with (refine ⟨trivial, fun h => (by cases h), ?_⟩; refine (HIR.out _ B3.out J3.out).mono ?_; rintro e W5 (⟨rfl, hJ5, hb5⟩ | ⟨rfl, q, hq, hx5⟩))
        all_goals first
          | (go_ret; exact .inl ⟨rfl, by rw [HAC.out]; simpa [List.append_assoc] using hJ5, B3.out.trans hb5⟩)
          | (go_ret; obtain ⟨r', hr'⟩ := hq; exact .inr ⟨rfl, acr lo hi tl s ++ q, ⟨r', by rw [HAC.out]; simp [← hr']⟩, by simpa [List.append_assoc] using hx5⟩)
          | done
      · clear hc
        refine callsIn_of_wp Tryz.func269 rfl trivial ?_ rfl
        simp only [Tryz.ntmps269, List.size_toArray, List.length_cons, List.length_nil, Nat.reduceAdd, Nat.reduceSub, Array.replicate_succ, Array.replicate_zero, List.push_toArray, List.append_toArray, List.nil_append, List.cons_append]
        gi_wp2_with (first
        | (refine ⟨trivial, fun h => (by cases h), ?_⟩; refine (callsIn_wide.2 (HAll.out W (Below.refl _ _))).mono ?_; rintro e W1 ⟨rfl, hb1⟩; have B1 := hide hb1; have s1 := hb1.size; obtain ⟨c0', c1', c2', c3', c4'⟩ := HC.out; have e0 := (hb1.cell (p := ⟨b, 0, none⟩) hbW).trans c0'; have e1 := (hb1.cell (p := ⟨b, 1, none⟩) hbW).trans c1'; have e2 := (hb1.cell (p := ⟨b, 2, none⟩) hbW).trans c2'; clear hb1 c0' c1' c2' c3' c4' c0 c1 c2 c3 c4 c7; simp only [cnt])
        | (refine ⟨trivial, fun h => (by cases h), ?_⟩; refine (callsIn_wide.2 (HRn.out _)).mono ?_; rintro e W2 ⟨rfl, hb2⟩; have B2 := hide (B1.out.trans (hb2.mono s1)); have s2 := B2.out.size; obtain ⟨c0', c1', c2', c3', c4'⟩ := HC.out; have e3 := (B2.out.cell (p := ⟨b, 3, none⟩) hbW).trans c3'; clear hb2 c0' c1' c2' c3' c4' e0 e1 e2)
        | (refine ⟨trivial, fun h => (by cases h), ?_⟩; refine (HIL.out _ B2.out).mono ?_; clear HIL; rintro e W3 (⟨rfl, hJ3, hb3⟩ | ⟨rfl, q, hq, hx3⟩); rotate_left; skip; rotate_left; have B3 := hide ((B2.out.mono hnW).trans hb3); have J3 := hide hJ3; obtain ⟨c0', c1', c2', c3', c4'⟩ := HC.out; have g0 := (B3.out.cell (p := ⟨b, 0, none⟩) hb).trans c0'; have g1 := (B3.out.cell (p := ⟨b, 1, none⟩) hb).trans c1'; have g2 := (B3.out.cell (p := ⟨b, 2, none⟩) hb).trans c2'; have g4 := (B3.out.cell (p := ⟨b, 4, none⟩) hb).trans c4'; clear hb3 hJ3 c0' c1' c2' c3' c4' e3)
          | fail)
        all_goals first
          | (go_ret; exact .inr ⟨rfl, q, hq.trans (by rw [HAC.out]; simp), hx3⟩)
          | skip
        refine ⟨hnf, ?_⟩
        gi_wp2_with (refine ⟨trivial, fun h => (by cases h), ?_⟩; refine (HIR.out _ B3.out J3.out).mono ?_; rintro e W5 (⟨rfl, hJ5, hb5⟩ | ⟨rfl, q, hq, hx5⟩))
        all_goals first
          | (go_ret; exact .inl ⟨rfl, by rw [HAC.out]; simpa [List.append_assoc] using hJ5, B3.out.trans hb5⟩)
          | (go_ret; obtain ⟨r', hr'⟩ := hq; exact .inr ⟨rfl, acr lo hi tl s ++ q, ⟨r', by rw [HAC.out]; simp [← hr']⟩, by simpa [List.append_assoc] using hx5⟩)
          | done

set_option maxHeartbeats 1000000 in
theorem across1_in (Q : Int × Pc → Prop) (lo hi : Int) (hlo : 0 ≤ lo ∧ lo ≤ 8192) (hhi : 0 ≤ hi ∧ hi ≤ 8192) (n : Nat) (l Bt Bl Bh n₀ : Nat) (p0 : Option Addr) (T : AT) (hok : T.ok) (hQ : ∀ y ∈ acr lo hi T 0, Q y) (J Jx : List {y : Int × Pc // Q y} → World → Prop) (hJb : ∀ pre W W', J pre W → Below W.heap.size W W' → J pre W')
    (hY : ∀ pre (y : {y : Int × Pc // Q y}) W, J pre W → pre.length < T.its → YieldAt Fence.wide (n - 1) Tryz.prog l #[.int .i64 y.1.1, .agg #[.int .i64 y.1.2.off, .int .i64 y.1.2.len, .int .i64 y.1.2.brk]] W fun e W' =>
      (e = .returned (.bool true) ∧ J (pre ++ [y]) W' ∧ Below n₀ W W') ∨ (e = .returned (.bool false) ∧ Jx (pre ++ [y]) W'))
    (W : World) (hBt : W.cell? ⟨Bt, 0, none⟩ = some (.pointer p0)) (hBl : W.cell? ⟨Bl, 0, none⟩ = some (.int .i64 lo)) (hBh : W.cell? ⟨Bh, 0, none⟩ = some (.int .i64 hi)) (hT : IsT n₀ W p0 T) (hnW : n₀ ≤ W.heap.size) (h0 : J [] W) :
    CallsIn Fence.wide n Tryz.prog 268 #[.func (.yield l) #[] #[], .pointer (some ⟨Bt, 0, none⟩), .pointer (some ⟨Bl, 0, none⟩), .pointer (some ⟨Bh, 0, none⟩)] W fun e W' => (∃ v, e = .returned v) ∧
      ((∃ ys : List {y : Int × Pc // Q y}, ys.map (·.1) = acr lo hi T 0 ∧ J ys W') ∨ (∃ pre : List {y : Int × Pc // Q y}, pre.map (·.1) <+: acr lo hi T 0 ∧ Jx pre W')) := by
  have bT := hok.bd
  have hp := across_walk Q lo hi hlo hhi l n₀ T.its (fun pre W => ∃ p : List {y : Int × Pc // Q y}, p.map (·.1) = pre ∧ J p W) (fun pre W => ∃ p : List {y : Int × Pc // Q y}, p.map (·.1) = pre ∧ Jx p W) (fun pre W W' ⟨p, hp, hj⟩ hb => ⟨p, hp, hJb p W W' hj hb⟩) (fun m pre x W hj hl hq => by
      obtain ⟨p, hp, hj⟩ := hj
      subst hp
      refine yieldAt_any rfl m (YieldAt.mono (hY p ⟨x, hq⟩ W hj (by simpa using hl)) fun e W' h => h.elim (fun ⟨he, h1, h2⟩ => .inl ⟨he, ⟨_, by simp, h1⟩, h2⟩) (fun ⟨he, h1⟩ => .inr ⟨he, ⟨_, by simp, h1⟩⟩))) T (n - 1) p0 0 [] W hT hok (by omega) (by omega) ⟨[], rfl, h0⟩ (by simp) hQ hnW
  refine callsIn_of_wp Tryz.func268 rfl trivial ?_ rfl
  simp only [Tryz.ntmps268, List.size_toArray, List.length_cons, List.length_nil, Nat.reduceAdd, Nat.reduceSub, Array.replicate_succ, Array.replicate_zero, List.push_toArray, List.append_toArray, List.nil_append, List.cons_append]
  gi_wp2_with (refine ⟨trivial, fun h => (by cases h), ?_⟩; refine hp.mono ?_; clear hp; rintro e W1 (⟨rfl, ⟨ys, hys, hJ1⟩, _⟩ | ⟨rfl, q, hq, ys, hys, hx⟩))
  · go_end0
    exact ⟨⟨_, rfl⟩, .inl ⟨ys, by simpa using hys, hJ1⟩⟩
  · go_end0
    exact ⟨⟨_, rfl⟩, .inr ⟨ys, by rw [hys]; simpa using hq, hx⟩⟩

theorem across_stops (Q : Int × Pc → Prop) (lo hi : Int) (hlo : 0 ≤ lo ∧ lo ≤ 8192) (hhi : 0 ≤ hi ∧ hi ≤ 8192) (n : Nat) (Bt Bl Bh n₀ : Nat) (p0 : Option Addr) (T : AT) (hok : T.ok) (hQ : ∀ y ∈ acr lo hi T 0, Q y) (w : World) (hBt : Bt < w.heap.size) (hBl : Bl < w.heap.size) (hBh : Bh < w.heap.size) (hn₀ : n₀ ≤ w.heap.size)
    (hc : w.cell? ⟨Bt, 0, none⟩ = some (.pointer p0)) (hc2 : w.cell? ⟨Bl, 0, none⟩ = some (.int .i64 lo)) (hc3 : w.cell? ⟨Bh, 0, none⟩ = some (.int .i64 hi)) (hT : IsT n₀ w p0 T) :
    SeqStopsK Fence.wide n Tryz.prog 268 #[.pointer (some ⟨Bt, 0, none⟩), .pointer (some ⟨Bl, 0, none⟩), .pointer (some ⟨Bh, 0, none⟩)] (fun y : {y : Int × Pc // Q y} => #[Value.int .i64 y.1.1, .agg #[.int .i64 y.1.2.off, .int .i64 y.1.2.len, .int .i64 y.1.2.brk]]) (Below n₀) (fun ys => ys.map (·.1) = acr lo hi T 0) (fun pre => pre.map (·.1) <+: acr lo hi T 0) T.its w := fun l J Jx W hW hJ _ hY h0 =>
  across1_in Q lo hi hlo hhi n l Bt Bl Bh n₀ p0 T hok hQ J Jx (fun pre A B hj hb => hJ pre A B none hj ⟨hb.os, hb.tape, hb.output, hb.size, fun k hk _ => hb.block k hk⟩ (fun r e => by cases e)) hY W ((hW.cell (p := ⟨Bt, 0, none⟩) hBt).trans hc) ((hW.cell (p := ⟨Bl, 0, none⟩) hBl).trans hc2) ((hW.cell (p := ⟨Bh, 0, none⟩) hBh).trans hc3) (hT.below (hW.mono hn₀)) (Nat.le_trans hn₀ hW.size) h0

set_option maxHeartbeats 1000000 in
theorem across_in (n : Nat) (p0 : Option Addr) (lo hi : Int) (w : World) :
    CallsIn Fence.wide n Tryz.prog 260 #[.pointer p0, .int .i64 lo, .int .i64 hi] w fun e w' => e = .returned (.func (.func 268) #[] #[.pointer (some ⟨w.heap.size, 0, none⟩), .pointer (some ⟨w.heap.size + 1, 0, none⟩), .pointer (some ⟨w.heap.size + 1 + 1, 0, none⟩)]) ∧ w' = ((w.alloc (.cells #[.pointer p0] 150)).alloc (.cells #[.int .i64 lo] 3)).alloc (.cells #[.int .i64 hi] 3) := by
  refine callsIn_of_wp Tryz.func260 rfl trivial ?_ rfl
  simp only [Tryz.ntmps260, List.size_toArray, List.length_cons, List.length_nil, Nat.reduceAdd, Nat.reduceSub, Array.replicate_succ, Array.replicate_zero, List.push_toArray, List.append_toArray, List.nil_append, List.cons_append]
  gi_wp2
  go_ret
  exact ⟨rfl, rfl⟩
end Go.Proofs.YtbkcbhjejkicjaaGreatDoor

namespace Go.Proofs.YtbkcbhjejkicjaaGreatDoor
open Go Go.RowKit Go.Sort
set_option linter.unusedVariables false

/-- A core that lies there: its store, its tree. -/
structure PCore (w : World) (base c b o cap : Nat) (zs : List Int) (T : AT) : Prop where
  k : ∃ u bs, PK w c b o zs.length cap u ∧ Lies w base T u bs
  a : At32 w b o zs
  b : b < w.heap.size
  ok : T.ok
  wp : T.wp zs
  n : zs.length ≤ 1048576 ∧ zs.length ≤ cap ∧ cap ≤ maxLen
set_option maxHeartbeats 1000000 in
set_option maxRecDepth 100000 in
theorem textN (c b o n cap q m : Nat) (pb : Int) (u : Option Addr) (w : World) (hk : PK w c b o n cap u) (h : q + m ≤ n) (h0 : 0 < m ∨ q = 0) (hcap : n ≤ cap) (hm : cap ≤ maxLen) :
    Calls Tryz.prog 255 #[.pointer (some ⟨c, 0, none⟩), .agg #[.int .i64 (q : Int), .int .i64 (m : Int), .int .i64 pb]] w fun e w' => e = .returned (.slice (some ⟨b, o + q, none⟩) m (cap - q)) ∧ Below w.heap.size w w' := by
  have HB0 := hide ((Below.refl w.heap.size w).alloc (Nat.le_refl _) (.cells #[.int .i64 (q : Int), .int .i64 (m : Int), .int .i64 pb] 155))
  have c0 := (HB0.out.cell (p := ⟨c, 0, none⟩) hk.lt).trans hk.c0
  have KA : (w.alloc (.cells #[.int .i64 (q : Int), .int .i64 (m : Int), .int .i64 pb] 155)).heap[w.heap.size]? = some (.cells #[.int .i64 (q : Int), .int .i64 (m : Int), .int .i64 pb] 155 (0, 0)) := heap_alloc_new _ _
  have d0 : (w.alloc (.cells #[.int .i64 (q : Int), .int .i64 (m : Int), .int .i64 pb] 155)).cell? ⟨w.heap.size, 0, none⟩ = some (.int .i64 (q : Int)) := by rw [cell_of_row _ _ 0 _ _ _ KA]; rfl
  have d1 : (w.alloc (.cells #[.int .i64 (q : Int), .int .i64 (m : Int), .int .i64 pb] 155)).cell? ⟨w.heap.size, 1, none⟩ = some (.int .i64 (m : Int)) := by rw [cell_of_row _ _ 1 _ _ _ KA]; rfl
  have hs0 : (w.alloc (.cells #[.int .i64 (q : Int), .int .i64 (m : Int), .int .i64 pb] 155)).heap.size = w.heap.size + 1 := by simp
  unfold maxLen at hm
  have g1 : (q : Int) ≤ (q : Int) + (m : Int) := by omega
  have g2 : (q : Int) + (m : Int) ≤ (cap : Int) := by omega
  have g4 : (0 : Int) ≤ (q : Int) + (m : Int) := by omega
  clear hk KA
  by_cases hco : cap = q
  · obtain rfl : q = 0 := by omega
    obtain rfl : m = 0 := by omega
    subst hco
    go_enter Tryz.func255, Tryz.ntmps255
    go_wp2_with fail
    generalize w.alloc (.cells #[.int .i64 ((0 : Nat) : Int), .int .i64 ((0 : Nat) : Int), .int .i64 pb] 155) = w0 at *
    go_quiet (fail)
    have HBN := hide (show Below w.heap.size w (w0.drewN nq) from HB0.out.trans (below_dn2 _ _ _))
    go_wp2
    go_ret
    exact ⟨rfl, HBN.out⟩
  · have HQM := hide (show Ending.returned (.slice (some ⟨b, o + q, none⟩) (q + m - q) (cap - q)) = Ending.returned (.slice (some ⟨b, o + q, none⟩) m (cap - q)) by rw [show q + m - q = m by omega])
    go_enter Tryz.func255, Tryz.ntmps255
    go_wp2_with fail
    generalize w.alloc (.cells #[.int .i64 (q : Int), .int .i64 (m : Int), .int .i64 pb] 155) = w0 at *
    go_quiet (fail)
    have HBN := hide (show Below w.heap.size w (w0.drewN nq) from HB0.out.trans (below_dn2 _ _ _))
    go_wp2
    go_ret
    exact ⟨Eq.trans rfl HQM.out, HBN.out⟩

end Go.Proofs.YtbkcbhjejkicjaaGreatDoor

