import Derived.Test.YtbgngikejgihgafGreatDoorMq06
import Derived.Test.YtbgngikejgihgafGreatDoorMq07
import Derived.Deep.QuietTactic
import Derived.BigQuiet
namespace Go.Proofs.YtbgngikejgihgafGreatDoor
open Go Go.RowKit
set_option linter.unusedVariables false

set_option maxHeartbeats 1000000 in
set_option maxRecDepth 100000 in
theorem markGapSN (gs : List Gr) (vs : List Value) (v : Value) (lo hi : Nat) (k0 : Int) (w : World) (h : OwG 92 w lo hi v vs gs) (hn : totG gs ≤ 1073741824) (h0 : 0 ≤ k0) (h1 : k0 ≤ 1073741824) :
    Calls Tryz.prog 64 #[v, .int .i64 k0] w fun e w' => e = .returned (.int .i64 (k0 + totG gs)) ∧ OwG 92 w' lo hi v vs (mkG k0 gs) ∧ Kp lo hi w w' ∧ Kk 92 w w' := by
  have hlt := totG_len gs
  rcases h.row.2 with ⟨rfl, q0⟩ | ⟨g, cap, cur, rfl, gb, _, c1, c2, _⟩
  · have e : gs = [] := List.eq_nil_of_length_eq_zero q0
    subst e
    have H := hide h
    clear h
    go_enter Tryz.func64, Tryz.ntmps64
    go_wp2
    refine wp_loop_rounds 1 ?_
    rw [rounds_succ]
    go_wp2
    go_ret
    exact ⟨by simp [totG], H.out, Kp.refl _ _ _, Kk.refl _ _⟩
  · have gl := h.bl g rfl
    have H := hide h
    have GET := hide (fun (i : Nat) (hi : i < gs.length) => h.get hi)
    have LEN := hide h.len
    have TL := hide (fun (i : Nat) => totG_take_le gs i)
    unfold maxLen at c2
    obtain ⟨n, hN⟩ : ∃ n, n = gs.length := ⟨_, rfl⟩
    rw [← hN] at c1 hlt ⊢
    have HN := hide hN
    clear h hN
    go_enter Tryz.func64, Tryz.ntmps64
    go_wp2
    go_loopw [1, 5] (fun kk i wr => ∃ j : Nat, j ≤ n ∧ kk = .int .i64 (k0 + totG (gs.take j)) ∧ i = .int .i64 j ∧
        OwG 92 wr lo hi (.slice (some ⟨g, 0, none⟩) n cap) vs (mkG k0 (gs.take j) ++ gs.drop j) ∧ Kp lo hi w wr ∧ Kk 92 w wr)
      (fun _ i _ => n - (intOf i).toNat)
    case atStart => exact ⟨0, Nat.zero_le _, by simp [totG], rfl, by have := H.out; rw [← HN.out] at this; simpa [mkG] using this, Kp.refl _ _ _, Kk.refl _ _⟩
    case round =>
      obtain ⟨j, hj, rfl, rfl, hown, hk, hkk⟩ := hrel
      have tl := TL.out j
      by_cases hlt : j < n
      · obtain ⟨x, u, hx, hu⟩ := GET.out j (by rw [← HN.out]; exact hlt)
        have hjl : (mkG k0 (gs.take j)).length = j := by rw [mkG_len, List.length_take]; have := HN.out; omega
        have hvl : (vs.take j).length = (mkG k0 (gs.take j)).length := by rw [hjl, List.length_take, LEN.out]; have := HN.out; omega
        have hd : gs.drop j = x :: gs.drop (j + 1) := by
          have := (List.getElem?_eq_some_iff.1 hx)
          obtain ⟨a, b⟩ := this
          rw [← b, ← List.drop_eq_getElem_cons a]
        have hvs := split_at hu
        rw [hd, hvs] at hown
        have ts := totG_get hx
        have tn := totG_take_succ hx
        have hl3 : (mkG k0 (gs.take j) ++ x :: gs.drop (j + 1)).length = n := by rw [← hd, List.length_append, hjl, List.length_drop]; have := HN.out; omega
        have ho := hown.inner (i := j) (x := x) (u := u) (get_mid hjl) (get_mid (hvl.trans hjl))
        have hc0 := (hown.cells hl3 (i := j) (x := x) (u := u) (get_mid hjl) (get_mid (hvl.trans hjl))).1
        obtain ⟨ai, ci, hu'⟩ := o32_val ho
        have M := hide (mark32 x.cells u lo x.cells.length (k0 + totG (gs.take j)) wr ho (by omega) (by omega) (by omega))
        have ST := hide (fun (w1 : World) ho1 hg1 => hown.put (w1 := w1) (l := marks .i32 (k0 + totG (gs.take j)) x.cells.length) hvl ho1 hg1 (by decide))
        have UB := hide (fun q (hq : u.ownBlock = some q) => (⟨(ho.lt q hq).1, hown.nest.bl u (by simp) q hq⟩ : lo ≤ q ∧ q < hi))
        have JL := hide hjl
        have VL := hide hvl
        have L3 := hide hl3
        have KP := hide hk
        have KK := hide hkk
        have HO := hide ho
        have HVS := hide hvs
        have HD := hide hx
        have GLEN := hide (show (mkG k0 (gs.take (j + 1))) = mkG k0 (gs.take j) ++ [⟨marks .i32 (k0 + totG (gs.take j)) x.cells.length, k0 + totG (gs.take j) + x.cells.length, k0 + totG (gs.take j) + x.cells.length + 1⟩] by
          rw [List.take_add_one, hx, Option.toList_some, mkG_app]
          simp [mkG])
        generalize hT : totG (gs.take j) = T at *
        generalize hX : x.cells.length = xn at *
        have tn' : ((totG (gs.take (j + 1)) : Nat) : Int) = (T : Int) + xn + 2 := by omega
        have hlt' : (j : Int) < n := by omega
        subst hu'
        clear hvs hd hown ho hvl hl3 hk hkk hx hu hjl
        go_wp2_with fail
        refine M.out.mono ?_
        rintro e w1 ⟨rfl, ho1, hg1⟩
        have S1 := ST.out w1 (by show World.ownsRow _ _ _ _ _ _ _; rw [marks_length]; exact ho1) hg1
        have K1 := hide (KP.out.trans (Kp.of_grown hg1 UB.out))
        have KK1 := hide (KK.out.trans (Kk.of_32 HO.out hg1))
        have s2 := S1.gap (k0 + T + xn) (k0 + T + xn + 1) (by have := L3.out; simpa using this) VL.out (by decide)
        have c := S1.cells (by have := L3.out; simpa using this) (i := j) (get_mid JL.out) (get_mid (VL.out.trans JL.out))
        rw [JL.out] at s2
        obtain ⟨_, p1, p2⟩ := c
        have z1 : w1.frozen? ⟨g, j * 3 + 1, none⟩ = false := (by have hr := S1.row; rw [show (mkG k0 (gs.take j) ++ (⟨marks .i32 (k0 + T) xn, x.lo, x.hi⟩ : Gr) :: gs.drop (j + 1)).length = n by have := L3.out; simpa using this] at hr; exact hr.frozenAt _)
        have z2 : w1.frozen? ⟨g, j * 3 + 2, none⟩ = false := (by have hr := S1.row; rw [show (mkG k0 (gs.take j) ++ (⟨marks .i32 (k0 + T) xn, x.lo, x.hi⟩ : Gr) :: gs.drop (j + 1)).length = n by have := L3.out; simpa using this] at hr; exact hr.frozenAt _)
        have S2 := hide s2.1
        have KK2 := hide (KK1.out.trans (Kk.of_row S1.row s2.2))
        have K2 := hide (K1.out.trans (Kp.of_grown s2.2 (fun q hq => by cases hq; exact ⟨gb, gl⟩)))
        clear ho1 hg1 S1 s2 K1 KP ST KK KK1 HO
        go_wp2
        go_roundw
        case rel =>
          refine ⟨j + 1, by omega, by rw [tn']; go_num, by go_num, ?_, K2.out, KK2.out⟩
          rw [GLEN.out, List.append_assoc]
          have := S2.out
          rw [← HVS.out] at this
          exact this
        case measure => simp [intOf]; omega
      · obtain rfl : j = n := by omega
        have e1 : gs.take j = gs := List.take_of_length_le (by have := HN.out; omega)
        have e2 : gs.drop j = [] := List.drop_of_length_le (by have := HN.out; omega)
        rw [e1, e2, List.append_nil] at hown
        rw [e1]
        have HS := hide hown
        have HK := hide hk
        have HKK := hide hkk
        clear hown hk hkk e1 e2
        go_wp2
        go_ret
        exact ⟨rfl, HS.out, HK.out, HKK.out⟩
end Go.Proofs.YtbgngikejgihgafGreatDoor
