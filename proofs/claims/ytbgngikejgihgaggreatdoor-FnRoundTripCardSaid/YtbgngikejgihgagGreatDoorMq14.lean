import Derived.Test.YtbgngikejgihgagGreatDoorMq04
import Derived.Test.YtbgngikejgihgagGreatDoorMq13
import Derived.WalkLawsBesides
import Derived.Deep.QuietTactic
import Derived.BigQuiet
import Derived.Test.YtbgngikejgihgagGreatDoorMq07
import Derived.Test.YtbgngikejgihgagGreatDoorMq03
namespace Go.Proofs.YtbgngikejgihgagGreatDoor
open Go Go.RowKit
set_option linter.unusedVariables false

theorem itLv {w : World} {b off : Nat} {X : List It} (hc : ∀ i x, X[i]? = some x → ItAt w b (off + i * 4) x) {j : Nat} {x : It} (h : X[j]? = some x) : w.cell? ⟨b, off + j * 4 + 3, none⟩ = some (.int .i64 x.lv) := (hc j x h).2.2.2

set_option maxHeartbeats 2000000 in
set_option maxRecDepth 100000 in
theorem rangeS (B : Nat) (v : Value) (X : List It) (w : World) (hr : RdI B w v X) (hlen : X.length ≤ 1048576) (a i h : Nat) (e : Int) (hs : Sub X a i h e) :
    Calls Tryz.prog 187 #[v, .int .i64 (i : Int)] w fun e' w' => e' = .returned (.tuple #[.int .i64 (a : Int), .int .i64 (h : Int)]) ∧ ∃ q, w' = w.drewN q := by
  have hai := hs.ai
  have hih := hs.ih
  have hhl := hs.hl
  obtain ⟨b, off, cap, rfl, ⟨hp0, hpc, hpm⟩, hb, hc⟩ := hr.at (by intro e; subst e; simp at hhl; omega)
  obtain ⟨x, hx, rfl⟩ := hs.mid
  have cx := itLv hc hx
  have HC := hide hc
  have HL := hide hs.lft
  have HR := hide hs.rgt
  have HBF := hide hs.bef
  have HBH := hide hs.beh
  unfold maxLen at hpm
  generalize hN : X.length = n at *
  generalize x.lv = lv at *
  clear hc hr hs hx
  have hin : (i : Int) < (n : Int) := by omega
  go_enter Tryz.func187, Tryz.ntmps187
  go_wp2
  go_loopw [6] (fun lo wr => ∃ k nq : Nat, a ≤ k ∧ k ≤ i ∧ lo = .int .i64 k ∧ wr = w.drewN nq) (fun lo _ => (intOf lo).toNat)
  case atStart => exact ⟨i, 0, hai, Nat.le_refl _, rfl, rfl⟩
  case round =>
    obtain ⟨k, nq, hk1, hk2, rfl, rfl⟩ := hrel
    by_cases hka : a < k
    · obtain ⟨m, rfl⟩ : ∃ m, k = m + 1 := ⟨k - 1, by omega⟩
      obtain ⟨y, hy, hyl⟩ := HL.out m (by omega) (by omega)
      have cy := itLv HC.out hy
      generalize y.lv = ly at *
      have g1 : (0 : Int) < (m : Int) + 1 := by omega
      have g2 : (m : Int) < (n : Int) := by omega
      clear hy
      go_wp2
      go_quiet (fail)
      go_wp2
      go_roundw
      case rel => exact ⟨m, _, by omega, by omega, by go_num, rfl⟩
      case measure => simp [intOf]
    · obtain rfl : k = a := by omega
      by_cases hk0 : k = 0
      · subst hk0
        go_wp2
        go_quiet (fail)
        go_wp2
        go_loopw [7] (fun hi wr => ∃ k nq : Nat, i + 1 ≤ k ∧ k ≤ h ∧ hi = .int .i64 k ∧ wr = w.drewN nq) (fun hi _ => h - (intOf hi).toNat)
        case atStart => exact ⟨i + 1, _, Nat.le_refl _, by omega, by go_num, rfl⟩
        case round =>
          obtain ⟨j, nr, hj1, hj2, rfl, rfl⟩ := hrel
          by_cases hjh : j < h
          · obtain ⟨y, hy, hyl⟩ := HR.out j (by omega) hjh
            have cy := itLv HC.out hy
            generalize y.lv = ly at *
            have g2 : (j : Int) < (n : Int) := by omega
            clear hy
            go_wp2
            go_quiet (fail)
            go_wp2
            go_roundw
            case rel => exact ⟨j + 1, _, by omega, by omega, by go_num, rfl⟩
            case measure => simp [intOf]; omega
          · obtain rfl : j = h := by omega
            by_cases hjn : j < n
            · obtain ⟨y, hy, hyl⟩ := HBH.out hjn
              have cy := itLv HC.out hy
              generalize y.lv = ly at *
              have g2 : (j : Int) < (n : Int) := by omega
              have g3 : ¬ lv < ly := by omega
              clear hy
              go_wp2
              go_quiet (fail)
              go_wp2
              refine bodyPost_ret (v := .tuple #[.int .i64 _, .int .i64 (j : Int)]) (by simp [results, Tryz.results187, go_sem]) rfl ⟨rfl, _, World.drewN_drewN _ _ _⟩
            · have g2 : ¬ (j : Int) < (n : Int) := by omega
              go_wp2
              go_quiet (fail)
              go_wp2
              refine bodyPost_ret (v := .tuple #[.int .i64 _, .int .i64 (j : Int)]) (by simp [results, Tryz.results187, go_sem]) rfl ⟨rfl, _, World.drewN_drewN _ _ _⟩
      · obtain ⟨m, rfl⟩ : ∃ m, k = m + 1 := ⟨k - 1, by omega⟩
        obtain ⟨y, hy, hyl⟩ := HBF.out (by omega)
        rw [Nat.add_sub_cancel] at hy
        have cy := itLv HC.out hy
        generalize y.lv = ly at *
        have g1 : (0 : Int) < (m : Int) + 1 := by omega
        have g2 : (m : Int) < (n : Int) := by omega
        have g3 : ¬ lv < ly := by omega
        clear hy
        go_wp2
        go_quiet (fail)
        go_wp2
        go_loopw [7] (fun hi wr => ∃ k nq : Nat, i + 1 ≤ k ∧ k ≤ h ∧ hi = .int .i64 k ∧ wr = w.drewN nq) (fun hi _ => h - (intOf hi).toNat)
        case atStart => exact ⟨i + 1, _, Nat.le_refl _, by omega, by go_num, rfl⟩
        case round =>
          obtain ⟨j, nr, hj1, hj2, rfl, rfl⟩ := hrel
          by_cases hjh : j < h
          · obtain ⟨y, hy, hyl⟩ := HR.out j (by omega) hjh
            have cy := itLv HC.out hy
            generalize y.lv = ly at *
            have g2 : (j : Int) < (n : Int) := by omega
            clear hy
            go_wp2
            go_quiet (fail)
            go_wp2
            go_roundw
            case rel => exact ⟨j + 1, _, by omega, by omega, by go_num, rfl⟩
            case measure => simp [intOf]; omega
          · obtain rfl : j = h := by omega
            by_cases hjn : j < n
            · obtain ⟨y, hy, hyl⟩ := HBH.out hjn
              have cy := itLv HC.out hy
              generalize y.lv = ly at *
              have g2 : (j : Int) < (n : Int) := by omega
              have g3 : ¬ lv < ly := by omega
              clear hy
              go_wp2
              go_quiet (fail)
              go_wp2
              refine bodyPost_ret (v := .tuple #[.int .i64 _, .int .i64 (j : Int)]) (by simp [results, Tryz.results187, go_sem]) rfl ⟨rfl, _, World.drewN_drewN _ _ _⟩
            · have g2 : ¬ (j : Int) < (n : Int) := by omega
              go_wp2
              go_quiet (fail)
              go_wp2
              refine bodyPost_ret (v := .tuple #[.int .i64 _, .int .i64 (j : Int)]) (by simp [results, Tryz.results187, go_sem]) rfl ⟨rfl, _, World.drewN_drewN _ _ _⟩

theorem lmin_bd {M : Int} : ∀ (S : List It) (x : Int), (∀ z ∈ S, 0 ≤ z.lv ∧ z.lv ≤ M) → 0 ≤ x ∧ x ≤ M → 0 ≤ lmin x S ∧ lmin x S ≤ M
  | [], x, _, h => h
  | y :: S, x, h0, h => lmin_bd S _ (fun z hz => h0 z (by simp [hz])) (by have := h0 y (by simp); dsimp only; split <;> omega)
theorem lmax_bd {M : Int} : ∀ (S : List It) (x : Int), (∀ z ∈ S, 0 ≤ z.lv ∧ z.lv ≤ M) → 0 ≤ x ∧ x ≤ M → 0 ≤ lmax x S ∧ lmax x S ≤ M
  | [], x, _, h => h
  | y :: S, x, h0, h => lmax_bd S _ (fun z hz => h0 z (by simp [hz])) (by have := h0 y (by simp); dsimp only; split <;> omega)
theorem hgt_seg {X : List It} {lo hi : Nat} {x : It} (hx : X[lo]? = some x) (h : lo < hi) : hgt (seg X lo hi) = lmax x.lv (seg X lo hi) - lmin x.lv (seg X lo hi) + 1 := by
  rw [seg_split X lo lo hi x (Nat.le_refl _) h hx, seg_nil X lo lo (Nat.le_refl _)]
  rfl

set_option maxHeartbeats 2000000 in
set_option maxRecDepth 100000 in
theorem heightS (B : Nat) (v : Value) (X : List It) (w : World) (hr : RdI B w v X) (hlen : X.length ≤ 1048576) (hlv : ∀ x ∈ X, 0 ≤ x.lv ∧ x.lv ≤ 1000000) (lo hi : Nat) (h1 : lo ≤ hi) (h2 : hi ≤ X.length) :
    Calls Tryz.prog 205 #[v, .int .i64 (lo : Int), .int .i64 (hi : Int)] w fun e w' => e = .returned (.int .i64 (hgt (seg X lo hi))) ∧ w' = w := by
  by_cases hlt : lo < hi
  · obtain ⟨b, off, cap, rfl, ⟨hp0, hpc, hpm⟩, hb, hc⟩ := hr.at (by intro e; subst e; simp at h2; omega)
    obtain ⟨x, hx⟩ : ∃ x, X[lo]? = some x := ⟨_, List.getElem?_eq_getElem (by omega)⟩
    have cx := itLv hc hx
    have HX := hide (hgt_seg hx hlt)
    have HC := hide hc
    have hx9 := hlv x (List.mem_iff_getElem?.2 ⟨lo, hx⟩)
    have HB := hide (show ∀ k, (0 ≤ lmin x.lv (seg X lo k) ∧ lmin x.lv (seg X lo k) ≤ 1000000) ∧ (0 ≤ lmax x.lv (seg X lo k) ∧ lmax x.lv (seg X lo k) ≤ 1000000) from fun k => ⟨lmin_bd _ _ (fun z hz => by obtain ⟨i, _, _, hi⟩ := mem_seg hz; exact hlv z (List.mem_iff_getElem?.2 ⟨i, hi⟩)) hx9, lmax_bd _ _ (fun z hz => by obtain ⟨i, _, _, hi⟩ := mem_seg hz; exact hlv z (List.mem_iff_getElem?.2 ⟨i, hi⟩)) hx9⟩)
    have HS0 := hide (show lmin x.lv (seg X lo lo) = x.lv ∧ lmax x.lv (seg X lo lo) = x.lv from by rw [seg_nil X lo lo (Nat.le_refl _)]; exact ⟨rfl, rfl⟩)
    generalize hgt (seg X lo hi) = res at HX ⊢
    generalize x.lv = l0 at *
    unfold maxLen at hpm
    generalize hN : X.length = n at *
    clear hc hr hx hlv
    have g0 : ¬ (hi : Int) ≤ (lo : Int) := by omega
    have g1 : (lo : Int) < (n : Int) := by omega
    go_enter Tryz.func205, Tryz.ntmps205
    go_wp2
    go_loopw [7, 8, 9] (fun a c i wr => ∃ k : Nat, lo ≤ k ∧ k ≤ hi ∧ a = .int .i64 (lmin l0 (seg X lo k)) ∧ c = .int .i64 (lmax l0 (seg X lo k)) ∧ i = .int .i64 k ∧ wr = w) (fun _ _ i _ => hi - (intOf i).toNat)
    case atStart => exact ⟨lo, Nat.le_refl _, h1, by rw [HS0.out.1], by rw [HS0.out.2], rfl, rfl⟩
    case round =>
      obtain ⟨k, hk1, hk2, rfl, rfl, rfl, rfl⟩ := hrel
      by_cases hkh : k < hi
      · obtain ⟨y, hy⟩ : ∃ y, X[k]? = some y := ⟨_, List.getElem?_eq_getElem (by omega)⟩
        have cy := itLv HC.out hy
        have HA := hide (show lmin l0 (seg X lo (k + 1)) = (if y.lv < lmin l0 (seg X lo k) then y.lv else lmin l0 (seg X lo k)) from by rw [seg_snoc X lo k y hk1 hy, lmin_snoc])
        have HD := hide (show lmax l0 (seg X lo (k + 1)) = (if lmax l0 (seg X lo k) < y.lv then y.lv else lmax l0 (seg X lo k)) from by rw [seg_snoc X lo k y hk1 hy, lmax_snoc])
        generalize lmin l0 (seg X lo k) = a at *
        generalize lmax l0 (seg X lo k) = c at *
        generalize y.lv = ly at *
        have g2 : (k : Int) < (hi : Int) := by omega
        have g3 : (k : Int) < (n : Int) := by omega
        clear hy
        by_cases q1 : ly < a
        · by_cases q2 : c < ly
          · go_wp2
            go_roundw
            case rel => exact ⟨k + 1, by omega, by omega, by rw [HA.out, if_pos q1], by rw [HD.out, if_pos q2], by go_num, by first | rfl | trivial⟩
            case measure => simp [intOf]; omega
          · go_wp2
            go_roundw
            case rel => exact ⟨k + 1, by omega, by omega, by rw [HA.out, if_pos q1], by rw [HD.out, if_neg q2], by go_num, by first | rfl | trivial⟩
            case measure => simp [intOf]; omega
        · by_cases q2 : c < ly
          · go_wp2
            go_roundw
            case rel => exact ⟨k + 1, by omega, by omega, by rw [HA.out, if_neg q1], by rw [HD.out, if_pos q2], by go_num, by first | rfl | trivial⟩
            case measure => simp [intOf]; omega
          · go_wp2
            go_roundw
            case rel => exact ⟨k + 1, by omega, by omega, by rw [HA.out, if_neg q1], by rw [HD.out, if_neg q2], by go_num, by first | rfl | trivial⟩
            case measure => simp [intOf]; omega
      · obtain rfl : k = hi := by omega
        have hbd := HB.out k
        generalize lmin l0 (seg X lo k) = a at *
        generalize lmax l0 (seg X lo k) = c at *
        have g2 : ¬ (k : Int) < (k : Int) := by omega
        go_wp2
        go_ret
        exact ⟨by rw [HX.out]; rfl, rfl⟩
  · obtain ⟨ao, cap, rfl⟩ := hr.val
    rw [seg_nil X lo hi (by omega)]
    have g0 : (hi : Int) ≤ (lo : Int) := by omega
    clear hr hlv
    go_enter Tryz.func205, Tryz.ntmps205
    go_wp2
    go_ret
    exact ⟨rfl, rfl⟩

set_option maxHeartbeats 2000000 in
set_option maxRecDepth 100000 in
theorem childS (B : Nat) (v : Value) (X : List It) (w : World) (hr : RdI B w v X) (hlen : X.length ≤ 1048576) (h0 : X ≠ []) (lo hi : Nat) (h1 : lo ≤ hi) (h2 : hi ≤ X.length) :
    Calls Tryz.prog 184 #[v, .int .i64 (lo : Int), .int .i64 (hi : Int)] w fun e w' => ∃ c : Nat, e = .returned (.int .i64 (c : Int)) ∧ Am X lo hi c ∧ ∃ q, w' = w.drewN q := by
  obtain ⟨b, off, cap, rfl, ⟨hp0, hpc, hpm⟩, hb, hc⟩ := hr.at h0
  have HC := hide hc
  have HN := hide (show ∀ k, k < X.length → ∃ y, X[k]? = some y from fun k hk => ⟨_, List.getElem?_eq_getElem hk⟩)
  unfold maxLen at hpm
  generalize hN : X.length = n at *
  clear hc hr h0
  go_enter Tryz.func184, Tryz.ntmps184
  go_wp2
  go_loopw [7, 8] (fun a i wr => ∃ c k nq : Nat, lo ≤ k ∧ k ≤ hi ∧ Am X lo k c ∧ a = .int .i64 c ∧ i = .int .i64 k ∧ wr = w.drewN nq) (fun _ i _ => hi - (intOf i).toNat)
  case atStart => exact ⟨lo, lo, 0, Nat.le_refl _, h1, Am.start X lo, rfl, rfl, rfl⟩
  case round =>
    obtain ⟨c, k, nq, hk1, hk2, ham, rfl, rfl, rfl⟩ := hrel
    by_cases hkh : k < hi
    · have hcn : c < n := by
        obtain ⟨q1, q2, q3⟩ := ham
        rcases Nat.lt_or_ge lo k with g | g
        · have := (q3 g).1; omega
        · have := q2 g; omega
      obtain ⟨y, hy⟩ := HN.out k (by omega)
      obtain ⟨x, hx⟩ := HN.out c hcn
      have cy := itLv HC.out hy
      have cx := itLv HC.out hx
      have HA := hide (ham.step hk1 hy hx)
      generalize y.lv = ly at *
      generalize x.lv = lx at *
      have g2 : (k : Int) < (hi : Int) := by omega
      have g3 : (k : Int) < (n : Int) := by omega
      have g4 : (c : Int) < (n : Int) := by omega
      clear hy hx ham
      by_cases q : ly < lx
      · rw [if_pos q] at HA
        go_wp2
        go_quiet (fail)
        go_wp2
        go_roundw
        case rel => exact ⟨k, k + 1, _, by omega, by omega, HA.out, rfl, by go_num, rfl⟩
        case measure => simp [intOf]; omega
      · rw [if_neg q] at HA
        go_wp2
        go_quiet (fail)
        go_wp2
        go_roundw
        case rel => exact ⟨c, k + 1, _, by omega, by omega, HA.out, rfl, by go_num, rfl⟩
        case measure => simp [intOf]; omega
    · obtain rfl : k = hi := by omega
      have HA := hide ham
      have g2 : ¬ (k : Int) < (k : Int) := by omega
      clear ham
      go_wp2
      go_ret
      exact ⟨c, rfl, HA.out, _, rfl⟩
end Go.Proofs.YtbgngikejgihgagGreatDoor

namespace Go.Proofs.YtbgngikejgihgagGreatDoor
set_option linter.unusedVariables false

theorem adj_turnR (f : Nat → Int) (A B : List It) (a b r : AT) (q p : Pc) (e : Int) (h1 : ∀ j, j < A.length → f j = 0) (h2 : ∀ j, A.length ≤ j → j < A.length + a.its + 1 → f j = -1) (h3 : ∀ j, A.length + a.its + 1 ≤ j → j < A.length + a.its + 1 + b.its → f j = 0) (h4 : ∀ j, A.length + a.its + 1 + b.its ≤ j → j < A.length + a.its + 1 + b.its + 1 + r.its → f j = 1) (h5 : ∀ j, A.length + a.its + 1 + b.its + 1 + r.its ≤ j → f j = 0) :
    adj f 0 (A ++ (AT.node (.node a q b) p r).told e ++ B) = A ++ (AT.node a q (.node b p r)).told e ++ B := by
  simp only [AT.told, List.append_assoc, List.cons_append]
  have la := AT.told_length a (e + 1 + 1)
  have lb := AT.told_length b (e + 1 + 1)
  have lr := AT.told_length r (e + 1)
  rw [adj_append, adj_same f 0 A (fun j g1 g2 => h1 j (by omega)), adj_append]
  rw [adj_told f (-1) a (0 + A.length) (e + 1 + 1) (fun j g1 g2 => h2 j (by omega) (by omega))]
  simp only [adj]
  rw [adj_append, adj_told f 0 b _ (e + 1 + 1) (fun j g1 g2 => h3 j (by omega) (by omega))]
  simp only [adj]
  rw [adj_append, adj_told f 1 r _ (e + 1) (fun j g1 g2 => h4 j (by omega) (by omega)), adj_same f _ B (fun j g1 g2 => h5 j (by omega))]
  rw [h2 _ (by omega) (by omega), h4 _ (by omega) (by omega)]
  rw [show e + 1 + 1 + -1 = e + 1 by omega, show e + 1 + -1 = e by omega, show e + 1 + 1 + 0 = e + 1 + 1 by omega]
theorem adj_turnL (f : Nat → Int) (A B : List It) (l b c : AT) (q p : Pc) (e : Int) (h1 : ∀ j, j < A.length → f j = 0) (h2 : ∀ j, A.length ≤ j → j < A.length + l.its + 1 → f j = 1) (h3 : ∀ j, A.length + l.its + 1 ≤ j → j < A.length + l.its + 1 + b.its → f j = 0) (h4 : ∀ j, A.length + l.its + 1 + b.its ≤ j → j < A.length + l.its + 1 + b.its + 1 + c.its → f j = -1) (h5 : ∀ j, A.length + l.its + 1 + b.its + 1 + c.its ≤ j → f j = 0) :
    adj f 0 (A ++ (AT.node l p (.node b q c)).told e ++ B) = A ++ (AT.node (.node l p b) q c).told e ++ B := by
  simp only [AT.told, List.append_assoc, List.cons_append]
  have la := AT.told_length l (e + 1)
  have lb := AT.told_length b (e + 1 + 1)
  have lr := AT.told_length c (e + 1 + 1)
  rw [adj_append, adj_same f 0 A (fun j g1 g2 => h1 j (by omega)), adj_append]
  rw [adj_told f 1 l (0 + A.length) (e + 1) (fun j g1 g2 => h2 j (by omega) (by omega))]
  simp only [adj]
  rw [adj_append, adj_told f 0 b _ (e + 1 + 1) (fun j g1 g2 => h3 j (by omega) (by omega))]
  simp only [adj]
  rw [adj_append, adj_told f (-1) c _ (e + 1 + 1) (fun j g1 g2 => h4 j (by omega) (by omega)), adj_same f _ B (fun j g1 g2 => h5 j (by omega))]
  rw [h2 _ (by omega) (by omega), h4 _ (by omega) (by omega)]
  rw [show e + 1 + 1 + -1 = e + 1 by omega, show e + 1 + -1 = e by omega, show e + 1 + 1 + 0 = e + 1 + 1 by omega]

theorem adj_set {f : Nat → Int} {X : List It} {j : Nat} {x : It} (hx : X[j]? = some x) (v : Int) : (adj f 0 X).set j ⟨x.pc, v⟩ = adj (fun t => if t = j then v - x.lv else f t) 0 X := by
  apply List.ext_getElem?
  intro i
  rw [List.getElem?_set, adj_get, adj_get]
  have hj : j < X.length := by
    rcases Nat.lt_or_ge j X.length with g | g
    · exact g
    · rw [List.getElem?_eq_none g] at hx; cases hx
  simp only [Nat.zero_add]
  by_cases h : j = i
  · subst h
    rw [if_pos rfl, if_pos (by rw [adj_length]; exact hj), hx]
    simp only [if_true, Option.map_some]
    rw [show x.lv + (v - x.lv) = v by omega]
  · rw [if_neg h, if_neg (fun e => h e.symm)]

/-- What a turn of the item i does to the levels from lo on to before hi, up to k: y is the child that comes up. -/
def trn (right : Bool) (i y lo k : Nat) (j : Nat) : Int :=
  if lo ≤ j ∧ j < k then (if right then (if j < y then -1 else if i < j then 1 else 0) else (if y < j then -1 else if j < i then 1 else 0)) else 0
theorem trn_start (right : Bool) (i y lo : Nat) (X : List It) : adj (trn right i y lo lo) 0 X = X :=
  adj_same _ 0 X (fun j _ _ => by unfold trn; rw [if_neg (by omega)])
theorem trn_step {right : Bool} {i y lo k : Nat} {X : List It} {x : It} (hx : X[k]? = some x) (hlo : lo ≤ k) : adj (trn right i y lo (k + 1)) 0 X = (adj (trn right i y lo k) 0 X).set k ⟨x.pc, x.lv + (if right then (if k < y then -1 else if i < k then 1 else 0) else (if y < k then -1 else if k < i then 1 else 0))⟩ := by
  rw [adj_set hx]
  refine adj_congr 0 X (fun j _ _ => ?_)
  by_cases h : j = k
  · subst h
    rw [if_pos rfl]; unfold trn; rw [if_pos (by omega)]; omega
  · rw [if_neg h]; unfold trn
    by_cases h2 : lo ≤ j ∧ j < k
    · rw [if_pos h2, if_pos (by omega)]
    · rw [if_neg h2, if_neg (by omega)]
theorem trn_get {right : Bool} {i y lo k : Nat} {X : List It} {x : It} {j : Nat} (hx : X[j]? = some x) : (adj (trn right i y lo k) 0 X)[j]? = some ⟨x.pc, x.lv + trn right i y lo k j⟩ := by
  rw [adj_get, hx]; simp

/-- The whole turn. -/
theorem turn_right (A B : List It) (a b r : AT) (q p : Pc) (e : Int) : ((adj (trn true (A.length + a.its + 1 + b.its) (A.length + a.its) A.length (A.length + a.its + 1 + b.its + 1 + r.its)) 0 (A ++ (AT.node (.node a q b) p r).told e ++ B)).set (A.length + a.its) ⟨q, e⟩).set (A.length + a.its + 1 + b.its) ⟨p, e + 1⟩ = A ++ (AT.node a q (.node b p r)).told e ++ B := by
  have g1 : (A ++ (AT.node (.node a q b) p r).told e ++ B)[A.length + a.its]? = some ⟨q, e + 1⟩ := by
    rw [get_mid A _ B _ (by omega) (by rw [AT.told_length]; simp only [AT.its]; omega)]
    simp only [AT.told, List.append_assoc, List.cons_append]
    rw [List.getElem?_append_right (by rw [AT.told_length]; omega), AT.told_length]
    simp
  have g2 : (A ++ (AT.node (.node a q b) p r).told e ++ B)[A.length + a.its + 1 + b.its]? = some ⟨p, e⟩ := by
    rw [get_mid A _ B _ (by omega) (by rw [AT.told_length]; simp only [AT.its]; omega)]
    rw [AT.told, List.getElem?_append_right (by rw [AT.told_length]; simp only [AT.its]; omega), AT.told_length]
    simp only [AT.its]
    rw [show A.length + a.its + 1 + b.its - A.length - (a.its + 1 + b.its) = 0 by omega]; rfl
  rw [adj_set g1, adj_set g2]
  refine adj_turnR _ A B a b r q p e ?_ ?_ ?_ ?_ ?_
  all_goals
    intros
    simp only [trn, if_true]
    repeat (first | omega | split)
theorem turn_left (A B : List It) (l b c : AT) (q p : Pc) (e : Int) : ((adj (trn false (A.length + l.its) (A.length + l.its + 1 + b.its) A.length (A.length + l.its + 1 + b.its + 1 + c.its)) 0 (A ++ (AT.node l p (.node b q c)).told e ++ B)).set (A.length + l.its + 1 + b.its) ⟨q, e⟩).set (A.length + l.its) ⟨p, e + 1⟩ = A ++ (AT.node (.node l p b) q c).told e ++ B := by
  have g2 : (A ++ (AT.node l p (.node b q c)).told e ++ B)[A.length + l.its]? = some ⟨p, e⟩ := by
    rw [get_mid A _ B _ (by omega) (by rw [AT.told_length]; simp only [AT.its]; omega)]
    rw [AT.told, List.getElem?_append_right (by rw [AT.told_length]; omega), AT.told_length]
    rw [show A.length + l.its - A.length - l.its = 0 by omega]; rfl
  have g1 : (A ++ (AT.node l p (.node b q c)).told e ++ B)[A.length + l.its + 1 + b.its]? = some ⟨q, e + 1⟩ := by
    rw [get_mid A _ B _ (by omega) (by rw [AT.told_length]; simp only [AT.its]; omega)]
    simp only [AT.told]
    rw [List.getElem?_append_right (by rw [AT.told_length]; omega), AT.told_length]
    rw [show A.length + l.its + 1 + b.its - A.length - l.its = b.its + 1 by omega, List.getElem?_cons_succ, List.getElem?_append_right (by rw [AT.told_length]; omega), AT.told_length]
    simp
  rw [adj_set g1, adj_set g2]
  refine adj_turnL _ A B l b c q p e ?_ ?_ ?_ ?_ ?_
  all_goals
    intros
    simp only [trn, Bool.false_eq_true, if_false]
    repeat (first | omega | split)
end Go.Proofs.YtbgngikejgihgagGreatDoor

namespace Go.Proofs.YtbgngikejgihgagGreatDoor
open Go Go.RowKit
set_option linter.unusedVariables false

theorem OwI.shape {w : World} {base : Nat} {v : Value} {xs : List It} (h : OwI w base v xs) : (v = .slice none 0 0 ∧ xs = []) ∨ ∃ g cap, v = .slice (some ⟨g, 0, none⟩) xs.length cap ∧ xs.length ≤ cap ∧ cap ≤ maxLen ∧ base ≤ g ∧ g < w.heap.size := by
  rcases h.2 with ⟨h1, h2⟩ | ⟨g, cap, cur, h1, h2, h3, h4, h5, _⟩
  · exact .inl ⟨h1, List.eq_nil_of_length_eq_zero h2⟩
  · exact .inr ⟨g, cap, h1, h4, h5, h2, (h.lt g (by rw [h1]; rfl)).2⟩
theorem OwI.cells {w : World} {base g cap : Nat} {xs : List It} (h : OwI w base (.slice (some ⟨g, 0, none⟩) xs.length cap) xs) : ∀ j u, (itVs xs)[j]? = some u → w.cell? ((⟨g, 0, none⟩ : Addr).add j) = some u := by
  intro j u hj
  have h1 := h.cellAt j (by have := (List.getElem?_eq_some_iff.1 hj).1; rw [itVs_length] at this; omega)
  rw [Addr.add_lit, Nat.zero_add, h1, hj]
theorem itVs_one (xs : List It) : ∀ u ∈ itVs xs, u.oneCell' = true := by
  intro u hu
  simp only [itVs, itV, List.mem_flatMap, List.mem_cons, List.not_mem_nil, or_false] at hu
  obtain ⟨x, _, h | h | h | h⟩ := hu <;> subst h <;> rfl

theorem own_row2 {w : World} {base : Nat} {e : TypeId} {size : Nat} {v : Value} {n : Nat} {xs : List Value} (h : w.ownsRow base e size v n xs) : ∀ q, v.ownBlock = some q → base ≤ q := fun q hq => (h.lt q hq).1
theorem own_sl {w : World} {base : Nat} {e : TypeId} {size : Nat} {v : Value} {n : Nat} {xs : List Value} (h : w.ownsRow base e size v n xs) : ∃ ao m cap, v = .slice ao m cap := by
  rcases h.2 with ⟨rfl, _⟩ | ⟨g, cap, cur, rfl, _⟩
  · exact ⟨_, _, _, rfl⟩
  · exact ⟨_, _, _, rfl⟩
theorem own_off2 {w : World} {base b n : Nat} {e t : TypeId} {size : Nat} {v : Value} {xs : List Value} {cs : Array Value} {fz : Nat × Nat} (ho : w.ownsRow base e size v n xs) (hb : w.heap[b]? = some (.cells cs t fz)) (hne : e ≠ t) : some b ≠ v.ownBlock := by
  rcases ho.2 with ⟨rfl, _⟩ | ⟨g', cap', cur, rfl, _, hg, _⟩
  · simp [Value.ownBlock]
  · intro h
    simp only [Value.ownBlock, Option.some.injEq] at h
    subst h
    rw [hb] at hg
    cases hg
    exact hne rfl

end Go.Proofs.YtbgngikejgihgagGreatDoor
