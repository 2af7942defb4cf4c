import Derived.Test.YtbgngikejgihgafDoorTShp
import Derived.Test.YtbgngikejgihgafDoorLSub
import Derived.WalkLawsBesides
import Derived.Deep.QuietTactic
import Derived.BigQuiet
namespace Go.Proofs.YtbgngikejgihgafDoor
open Go Go.RowKit
set_option linter.unusedVariables false

theorem itLv {w : World} {b off : Nat} {X : List It} (hc : ∀ i x, X[i]? = some x → ItAt w b (off + i * 4) x) {j : Nat} {x : It} (h : X[j]? = some x) : w.cell? ⟨b, off + j * 4 + 3, none⟩ = some (.int .i64 x.lv) := (hc j x h).2.2.2

set_option maxHeartbeats 2000000 in
set_option maxRecDepth 100000 in
theorem rangeS (B : Nat) (v : Value) (X : List It) (w : World) (hr : RdI B w v X) (hlen : X.length ≤ 1048576) (a i h : Nat) (e : Int) (hs : Sub X a i h e) :
    Calls Tryd.prog 119 #[v, .int .i64 (i : Int)] w fun e' w' => e' = .returned (.tuple #[.int .i64 (a : Int), .int .i64 (h : Int)]) ∧ ∃ q, w' = w.drewN q := by
  have hai := hs.ai
  have hih := hs.ih
  have hhl := hs.hl
  obtain ⟨b, off, cap, rfl, ⟨hp0, hpc, hpm⟩, hb, hc⟩ := hr.at (by intro e; subst e; simp at hhl; omega)
  obtain ⟨x, hx, rfl⟩ := hs.mid
  have cx := itLv hc hx
  have HC := hide hc
  have HL := hide hs.lft
  have HR := hide hs.rgt
  have HBF := hide hs.bef
  have HBH := hide hs.beh
  unfold maxLen at hpm
  generalize hN : X.length = n at *
  generalize x.lv = lv at *
  clear hc hr hs hx
  have hin : (i : Int) < (n : Int) := by omega
  go_enter Tryd.func119, Tryd.ntmps119
  go_wp2
  go_loopw [6] (fun lo wr => ∃ k nq : Nat, a ≤ k ∧ k ≤ i ∧ lo = .int .i64 k ∧ wr = w.drewN nq) (fun lo _ => (intOf lo).toNat)
  case atStart => exact ⟨i, 0, hai, Nat.le_refl _, rfl, rfl⟩
  case round =>
    obtain ⟨k, nq, hk1, hk2, rfl, rfl⟩ := hrel
    by_cases hka : a < k
    · obtain ⟨m, rfl⟩ : ∃ m, k = m + 1 := ⟨k - 1, by omega⟩
      obtain ⟨y, hy, hyl⟩ := HL.out m (by omega) (by omega)
      have cy := itLv HC.out hy
      generalize y.lv = ly at *
      have g1 : (0 : Int) < (m : Int) + 1 := by omega
      have g2 : (m : Int) < (n : Int) := by omega
      clear hy
      go_wp2
      go_quiet (fail)
      go_wp2
      go_roundw
      case rel => exact ⟨m, _, by omega, by omega, by go_num, rfl⟩
      case measure => simp [intOf]
    · obtain rfl : k = a := by omega
      by_cases hk0 : k = 0
      · subst hk0
        go_wp2
        go_quiet (fail)
        go_wp2
        go_loopw [7] (fun hi wr => ∃ k nq : Nat, i + 1 ≤ k ∧ k ≤ h ∧ hi = .int .i64 k ∧ wr = w.drewN nq) (fun hi _ => h - (intOf hi).toNat)
        case atStart => exact ⟨i + 1, _, Nat.le_refl _, by omega, by go_num, rfl⟩
        case round =>
          obtain ⟨j, nr, hj1, hj2, rfl, rfl⟩ := hrel
          by_cases hjh : j < h
          · obtain ⟨y, hy, hyl⟩ := HR.out j (by omega) hjh
            have cy := itLv HC.out hy
            generalize y.lv = ly at *
            have g2 : (j : Int) < (n : Int) := by omega
            clear hy
            go_wp2
            go_quiet (fail)
            go_wp2
            go_roundw
            case rel => exact ⟨j + 1, _, by omega, by omega, by go_num, rfl⟩
            case measure => simp [intOf]; omega
          · obtain rfl : j = h := by omega
            by_cases hjn : j < n
            · obtain ⟨y, hy, hyl⟩ := HBH.out hjn
              have cy := itLv HC.out hy
              generalize y.lv = ly at *
              have g2 : (j : Int) < (n : Int) := by omega
              have g3 : ¬ lv < ly := by omega
              clear hy
              go_wp2
              go_quiet (fail)
              go_wp2
              refine bodyPost_ret (v := .tuple #[.int .i64 _, .int .i64 (j : Int)]) (by simp [results, Tryd.results119, go_sem]) rfl ⟨rfl, _, World.drewN_drewN _ _ _⟩
            · have g2 : ¬ (j : Int) < (n : Int) := by omega
              go_wp2
              go_quiet (fail)
              go_wp2
              refine bodyPost_ret (v := .tuple #[.int .i64 _, .int .i64 (j : Int)]) (by simp [results, Tryd.results119, go_sem]) rfl ⟨rfl, _, World.drewN_drewN _ _ _⟩
      · obtain ⟨m, rfl⟩ : ∃ m, k = m + 1 := ⟨k - 1, by omega⟩
        obtain ⟨y, hy, hyl⟩ := HBF.out (by omega)
        rw [Nat.add_sub_cancel] at hy
        have cy := itLv HC.out hy
        generalize y.lv = ly at *
        have g1 : (0 : Int) < (m : Int) + 1 := by omega
        have g2 : (m : Int) < (n : Int) := by omega
        have g3 : ¬ lv < ly := by omega
        clear hy
        go_wp2
        go_quiet (fail)
        go_wp2
        go_loopw [7] (fun hi wr => ∃ k nq : Nat, i + 1 ≤ k ∧ k ≤ h ∧ hi = .int .i64 k ∧ wr = w.drewN nq) (fun hi _ => h - (intOf hi).toNat)
        case atStart => exact ⟨i + 1, _, Nat.le_refl _, by omega, by go_num, rfl⟩
        case round =>
          obtain ⟨j, nr, hj1, hj2, rfl, rfl⟩ := hrel
          by_cases hjh : j < h
          · obtain ⟨y, hy, hyl⟩ := HR.out j (by omega) hjh
            have cy := itLv HC.out hy
            generalize y.lv = ly at *
            have g2 : (j : Int) < (n : Int) := by omega
            clear hy
            go_wp2
            go_quiet (fail)
            go_wp2
            go_roundw
            case rel => exact ⟨j + 1, _, by omega, by omega, by go_num, rfl⟩
            case measure => simp [intOf]; omega
          · obtain rfl : j = h := by omega
            by_cases hjn : j < n
            · obtain ⟨y, hy, hyl⟩ := HBH.out hjn
              have cy := itLv HC.out hy
              generalize y.lv = ly at *
              have g2 : (j : Int) < (n : Int) := by omega
              have g3 : ¬ lv < ly := by omega
              clear hy
              go_wp2
              go_quiet (fail)
              go_wp2
              refine bodyPost_ret (v := .tuple #[.int .i64 _, .int .i64 (j : Int)]) (by simp [results, Tryd.results119, go_sem]) rfl ⟨rfl, _, World.drewN_drewN _ _ _⟩
            · have g2 : ¬ (j : Int) < (n : Int) := by omega
              go_wp2
              go_quiet (fail)
              go_wp2
              refine bodyPost_ret (v := .tuple #[.int .i64 _, .int .i64 (j : Int)]) (by simp [results, Tryd.results119, go_sem]) rfl ⟨rfl, _, World.drewN_drewN _ _ _⟩

theorem lmin_bd {M : Int} : ∀ (S : List It) (x : Int), (∀ z ∈ S, 0 ≤ z.lv ∧ z.lv ≤ M) → 0 ≤ x ∧ x ≤ M → 0 ≤ lmin x S ∧ lmin x S ≤ M
  | [], x, _, h => h
  | y :: S, x, h0, h => lmin_bd S _ (fun z hz => h0 z (by simp [hz])) (by have := h0 y (by simp); dsimp only; split <;> omega)
theorem lmax_bd {M : Int} : ∀ (S : List It) (x : Int), (∀ z ∈ S, 0 ≤ z.lv ∧ z.lv ≤ M) → 0 ≤ x ∧ x ≤ M → 0 ≤ lmax x S ∧ lmax x S ≤ M
  | [], x, _, h => h
  | y :: S, x, h0, h => lmax_bd S _ (fun z hz => h0 z (by simp [hz])) (by have := h0 y (by simp); dsimp only; split <;> omega)
theorem hgt_seg {X : List It} {lo hi : Nat} {x : It} (hx : X[lo]? = some x) (h : lo < hi) : hgt (seg X lo hi) = lmax x.lv (seg X lo hi) - lmin x.lv (seg X lo hi) + 1 := by
  rw [seg_split X lo lo hi x (Nat.le_refl _) h hx, seg_nil X lo lo (Nat.le_refl _)]
  rfl

set_option maxHeartbeats 2000000 in
set_option maxRecDepth 100000 in
theorem heightS (B : Nat) (v : Value) (X : List It) (w : World) (hr : RdI B w v X) (hlen : X.length ≤ 1048576) (hlv : ∀ x ∈ X, 0 ≤ x.lv ∧ x.lv ≤ 1000000) (lo hi : Nat) (h1 : lo ≤ hi) (h2 : hi ≤ X.length) :
    Calls Tryd.prog 106 #[v, .int .i64 (lo : Int), .int .i64 (hi : Int)] w fun e w' => e = .returned (.int .i64 (hgt (seg X lo hi))) ∧ w' = w := by
  by_cases hlt : lo < hi
  · obtain ⟨b, off, cap, rfl, ⟨hp0, hpc, hpm⟩, hb, hc⟩ := hr.at (by intro e; subst e; simp at h2; omega)
    obtain ⟨x, hx⟩ : ∃ x, X[lo]? = some x := ⟨_, List.getElem?_eq_getElem (by omega)⟩
    have cx := itLv hc hx
    have HX := hide (hgt_seg hx hlt)
    have HC := hide hc
    have hx9 := hlv x (List.mem_iff_getElem?.2 ⟨lo, hx⟩)
    have HB := hide (show ∀ k, (0 ≤ lmin x.lv (seg X lo k) ∧ lmin x.lv (seg X lo k) ≤ 1000000) ∧ (0 ≤ lmax x.lv (seg X lo k) ∧ lmax x.lv (seg X lo k) ≤ 1000000) from fun k => ⟨lmin_bd _ _ (fun z hz => by obtain ⟨i, _, _, hi⟩ := mem_seg hz; exact hlv z (List.mem_iff_getElem?.2 ⟨i, hi⟩)) hx9, lmax_bd _ _ (fun z hz => by obtain ⟨i, _, _, hi⟩ := mem_seg hz; exact hlv z (List.mem_iff_getElem?.2 ⟨i, hi⟩)) hx9⟩)
    have HS0 := hide (show lmin x.lv (seg X lo lo) = x.lv ∧ lmax x.lv (seg X lo lo) = x.lv from by rw [seg_nil X lo lo (Nat.le_refl _)]; exact ⟨rfl, rfl⟩)
    generalize hgt (seg X lo hi) = res at HX ⊢
    generalize x.lv = l0 at *
    unfold maxLen at hpm
    generalize hN : X.length = n at *
    clear hc hr hx hlv
    have g0 : ¬ (hi : Int) ≤ (lo : Int) := by omega
    have g1 : (lo : Int) < (n : Int) := by omega
    go_enter Tryd.func106, Tryd.ntmps106
    go_wp2
    go_loopw [7, 8, 9] (fun a c i wr => ∃ k : Nat, lo ≤ k ∧ k ≤ hi ∧ a = .int .i64 (lmin l0 (seg X lo k)) ∧ c = .int .i64 (lmax l0 (seg X lo k)) ∧ i = .int .i64 k ∧ wr = w) (fun _ _ i _ => hi - (intOf i).toNat)
    case atStart => exact ⟨lo, Nat.le_refl _, h1, by rw [HS0.out.1], by rw [HS0.out.2], rfl, rfl⟩
    case round =>
      obtain ⟨k, hk1, hk2, rfl, rfl, rfl, rfl⟩ := hrel
      by_cases hkh : k < hi
      · obtain ⟨y, hy⟩ : ∃ y, X[k]? = some y := ⟨_, List.getElem?_eq_getElem (by omega)⟩
        have cy := itLv HC.out hy
        have HA := hide (show lmin l0 (seg X lo (k + 1)) = (if y.lv < lmin l0 (seg X lo k) then y.lv else lmin l0 (seg X lo k)) from by rw [seg_snoc X lo k y hk1 hy, lmin_snoc])
        have HD := hide (show lmax l0 (seg X lo (k + 1)) = (if lmax l0 (seg X lo k) < y.lv then y.lv else lmax l0 (seg X lo k)) from by rw [seg_snoc X lo k y hk1 hy, lmax_snoc])
        generalize lmin l0 (seg X lo k) = a at *
        generalize lmax l0 (seg X lo k) = c at *
        generalize y.lv = ly at *
        have g2 : (k : Int) < (hi : Int) := by omega
        have g3 : (k : Int) < (n : Int) := by omega
        clear hy
        by_cases q1 : ly < a
        · by_cases q2 : c < ly
          · go_wp2
            go_roundw
            case rel => exact ⟨k + 1, by omega, by omega, by rw [HA.out, if_pos q1], by rw [HD.out, if_pos q2], by go_num, by first | rfl | trivial⟩
            case measure => simp [intOf]; omega
          · go_wp2
            go_roundw
            case rel => exact ⟨k + 1, by omega, by omega, by rw [HA.out, if_pos q1], by rw [HD.out, if_neg q2], by go_num, by first | rfl | trivial⟩
            case measure => simp [intOf]; omega
        · by_cases q2 : c < ly
          · go_wp2
            go_roundw
            case rel => exact ⟨k + 1, by omega, by omega, by rw [HA.out, if_neg q1], by rw [HD.out, if_pos q2], by go_num, by first | rfl | trivial⟩
            case measure => simp [intOf]; omega
          · go_wp2
            go_roundw
            case rel => exact ⟨k + 1, by omega, by omega, by rw [HA.out, if_neg q1], by rw [HD.out, if_neg q2], by go_num, by first | rfl | trivial⟩
            case measure => simp [intOf]; omega
      · obtain rfl : k = hi := by omega
        have hbd := HB.out k
        generalize lmin l0 (seg X lo k) = a at *
        generalize lmax l0 (seg X lo k) = c at *
        have g2 : ¬ (k : Int) < (k : Int) := by omega
        go_wp2
        go_ret
        exact ⟨by rw [HX.out]; rfl, rfl⟩
  · obtain ⟨ao, cap, rfl⟩ := hr.val
    rw [seg_nil X lo hi (by omega)]
    have g0 : (hi : Int) ≤ (lo : Int) := by omega
    clear hr hlv
    go_enter Tryd.func106, Tryd.ntmps106
    go_wp2
    go_ret
    exact ⟨rfl, rfl⟩

set_option maxHeartbeats 2000000 in
set_option maxRecDepth 100000 in
theorem childS (B : Nat) (v : Value) (X : List It) (w : World) (hr : RdI B w v X) (hlen : X.length ≤ 1048576) (h0 : X ≠ []) (lo hi : Nat) (h1 : lo ≤ hi) (h2 : hi ≤ X.length) :
    Calls Tryd.prog 73 #[v, .int .i64 (lo : Int), .int .i64 (hi : Int)] w fun e w' => ∃ c : Nat, e = .returned (.int .i64 (c : Int)) ∧ Am X lo hi c ∧ ∃ q, w' = w.drewN q := by
  obtain ⟨b, off, cap, rfl, ⟨hp0, hpc, hpm⟩, hb, hc⟩ := hr.at h0
  have HC := hide hc
  have HN := hide (show ∀ k, k < X.length → ∃ y, X[k]? = some y from fun k hk => ⟨_, List.getElem?_eq_getElem hk⟩)
  unfold maxLen at hpm
  generalize hN : X.length = n at *
  clear hc hr h0
  go_enter Tryd.func73, Tryd.ntmps73
  go_wp2
  go_loopw [7, 8] (fun a i wr => ∃ c k nq : Nat, lo ≤ k ∧ k ≤ hi ∧ Am X lo k c ∧ a = .int .i64 c ∧ i = .int .i64 k ∧ wr = w.drewN nq) (fun _ i _ => hi - (intOf i).toNat)
  case atStart => exact ⟨lo, lo, 0, Nat.le_refl _, h1, Am.start X lo, rfl, rfl, rfl⟩
  case round =>
    obtain ⟨c, k, nq, hk1, hk2, ham, rfl, rfl, rfl⟩ := hrel
    by_cases hkh : k < hi
    · have hcn : c < n := by
        obtain ⟨q1, q2, q3⟩ := ham
        rcases Nat.lt_or_ge lo k with g | g
        · have := (q3 g).1; omega
        · have := q2 g; omega
      obtain ⟨y, hy⟩ := HN.out k (by omega)
      obtain ⟨x, hx⟩ := HN.out c hcn
      have cy := itLv HC.out hy
      have cx := itLv HC.out hx
      have HA := hide (ham.step hk1 hy hx)
      generalize y.lv = ly at *
      generalize x.lv = lx at *
      have g2 : (k : Int) < (hi : Int) := by omega
      have g3 : (k : Int) < (n : Int) := by omega
      have g4 : (c : Int) < (n : Int) := by omega
      clear hy hx ham
      by_cases q : ly < lx
      · rw [if_pos q] at HA
        go_wp2
        go_quiet (fail)
        go_wp2
        go_roundw
        case rel => exact ⟨k, k + 1, _, by omega, by omega, HA.out, rfl, by go_num, rfl⟩
        case measure => simp [intOf]; omega
      · rw [if_neg q] at HA
        go_wp2
        go_quiet (fail)
        go_wp2
        go_roundw
        case rel => exact ⟨c, k + 1, _, by omega, by omega, HA.out, rfl, by go_num, rfl⟩
        case measure => simp [intOf]; omega
    · obtain rfl : k = hi := by omega
      have HA := hide ham
      have g2 : ¬ (k : Int) < (k : Int) := by omega
      clear ham
      go_wp2
      go_ret
      exact ⟨c, rfl, HA.out, _, rfl⟩
end Go.Proofs.YtbgngikejgihgafDoor
