import Derived.Test.YtbgngikejgihgahGreatDoorMq07
import Derived.Test.YtbgngikejgihgahGreatDoorMq06
import Derived.WalkLawsBesides
import Derived.Deep.QuietTactic
import Derived.BigQuiet
namespace Go.Proofs.YtbgngikejgihgahGreatDoor
set_option linter.unusedVariables false

/-- A stretch of a list of items that is a subtree: from a on to before h, its root at i, at level e. -/
structure Sub (X : List It) (a i h : Nat) (e : Int) : Prop where
  ai : a ≤ i
  ih : i < h
  hl : h ≤ X.length
  mid : ∃ x, X[i]? = some x ∧ x.lv = e
  lft : ∀ j, a ≤ j → j < i → ∃ x, X[j]? = some x ∧ e < x.lv
  rgt : ∀ j, i < j → j < h → ∃ x, X[j]? = some x ∧ e < x.lv
  bef : 0 < a → ∃ x, X[a - 1]? = some x ∧ x.lv < e
  beh : h < X.length → ∃ x, X[h]? = some x ∧ x.lv < e

theorem get_mid (A S B : List It) (j : Nat) (h1 : A.length ≤ j) (h2 : j < A.length + S.length) : (A ++ S ++ B)[j]? = S[j - A.length]? := by
  rw [List.append_assoc, List.getElem?_append_right h1, List.getElem?_append_left (by omega)]
theorem Sub.of {A B : List It} {l r : AT} {p : Pc} {e : Int} (hf : AT.Fit A B e) : Sub (A ++ (AT.node l p r).told e ++ B) A.length (A.length + l.its) (A.length + (AT.node l p r).its) e := by
  have hlen : ((AT.node l p r).told e).length = l.its + 1 + r.its := by rw [AT.told_length, AT.its]
  have hl := AT.told_length l (e + 1)
  have hr := AT.told_length r (e + 1)
  have hits : (AT.node l p r).its = l.its + 1 + r.its := rfl
  have G : ∀ j, A.length ≤ j → j < A.length + (l.its + 1 + r.its) → (A ++ (AT.node l p r).told e ++ B)[j]? = (l.told (e + 1) ++ ⟨p, e⟩ :: r.told (e + 1))[j - A.length]? := by
    intro j h1 h2
    rw [get_mid A _ B j h1 (by omega)]; rfl
  refine ⟨by omega, by omega, by simp only [List.length_append, hlen]; omega, ?_, ?_, ?_, ?_, ?_⟩
  · refine ⟨⟨p, e⟩, ?_, rfl⟩
    rw [G _ (by omega) (by omega), List.getElem?_append_right (by omega)]
    simp [hl]
  · intro j h1 h2
    rw [G _ (by omega) (by omega), List.getElem?_append_left (by omega)]
    refine ⟨(l.told (e + 1))[j - A.length]'(by omega), List.getElem?_eq_getElem (by omega), ?_⟩
    have := AT.told_lv l (e + 1) _ (List.getElem_mem (show j - A.length < (l.told (e + 1)).length by omega))
    omega
  · intro j h1 h2
    rw [G _ (by omega) (by omega), List.getElem?_append_right (by omega)]
    obtain ⟨m, hm⟩ : ∃ m, j - A.length - (l.told (e + 1)).length = m + 1 := ⟨j - A.length - (l.told (e + 1)).length - 1, by omega⟩
    rw [hm, List.getElem?_cons_succ]
    refine ⟨(r.told (e + 1))[m]'(by omega), List.getElem?_eq_getElem (by omega), ?_⟩
    have := AT.told_lv r (e + 1) _ (List.getElem_mem (show m < (r.told (e + 1)).length by omega))
    omega
  · intro h0
    refine ⟨A[A.length - 1]'(by omega), ?_, ?_⟩
    · rw [List.append_assoc, List.getElem?_append_left (by omega)]; exact List.getElem?_eq_getElem (by omega)
    · exact hf.1 _ (by rw [List.getLast?_eq_getElem?]; exact List.getElem?_eq_getElem (by omega))
  · intro h0
    simp only [List.length_append, hlen] at h0
    have hB : 0 < B.length := by omega
    refine ⟨B[0]'hB, ?_, ?_⟩
    · rw [List.getElem?_append_right (by simp only [List.length_append, hlen]; omega)]
      simp only [List.length_append, hlen]
      rw [show A.length + (AT.node l p r).its - (A.length + (l.its + 1 + r.its)) = 0 by omega]
      exact List.getElem?_eq_getElem hB
    · exact hf.2 _ (by rw [List.head?_eq_getElem?]; exact List.getElem?_eq_getElem hB)

/-- The least and the greatest level. -/
def lmin (x : Int) (S : List It) : Int := S.foldl (fun m z => if z.lv < m then z.lv else m) x
def lmax (x : Int) (S : List It) : Int := S.foldl (fun m z => if m < z.lv then z.lv else m) x
theorem lmin_snoc (x : Int) (S : List It) (z : It) : lmin x (S ++ [z]) = if z.lv < lmin x S then z.lv else lmin x S := by unfold lmin; rw [List.foldl_append]; rfl
theorem lmax_snoc (x : Int) (S : List It) (z : It) : lmax x (S ++ [z]) = if lmax x S < z.lv then z.lv else lmax x S := by unfold lmax; rw [List.foldl_append]; rfl
theorem lmin_eq (d : Int) : ∀ (S : List It) (x : Int), (∀ z ∈ S, d ≤ z.lv) → d ≤ x → (x = d ∨ ∃ z ∈ S, z.lv = d) → lmin x S = d
  | [], x, _, h1, h2 => by simpa [lmin] using h2
  | y :: S, x, h0, h1, h2 => by
    have hy := h0 y (by simp)
    show lmin (if y.lv < x then y.lv else x) S = d
    refine lmin_eq d S _ (fun z hz => h0 z (by simp [hz])) (by split <;> omega) ?_
    rcases h2 with rfl | ⟨z, hz, e⟩
    · left; split <;> omega
    · rcases List.mem_cons.1 hz with rfl | hz
      · left; split <;> omega
      · right; exact ⟨z, hz, e⟩
theorem lmax_eq (d : Int) : ∀ (S : List It) (x : Int), (∀ z ∈ S, z.lv ≤ d) → x ≤ d → (x = d ∨ ∃ z ∈ S, z.lv = d) → lmax x S = d
  | [], x, _, h1, h2 => by simpa [lmax] using h2
  | y :: S, x, h0, h1, h2 => by
    have hy := h0 y (by simp)
    show lmax (if x < y.lv then y.lv else x) S = d
    refine lmax_eq d S _ (fun z hz => h0 z (by simp [hz])) (by split <;> omega) ?_
    rcases h2 with rfl | ⟨z, hz, e⟩
    · left; split <;> omega
    · rcases List.mem_cons.1 hz with rfl | hz
      · left; split <;> omega
      · right; exact ⟨z, hz, e⟩
theorem AT.top_lv : ∀ (T : AT) (d : Int), T ≠ .nil → ∃ z ∈ T.told d, z.lv = d + T.ht - 1
  | .nil, d, h => absurd rfl h
  | .node l p r, d, _ => by
    by_cases hl : l = .nil
    · by_cases hr : r = .nil
      · subst hl hr; exact ⟨⟨p, d⟩, by simp [told], by simp [ht]⟩
      · obtain ⟨z, hz, e⟩ := top_lv r (d + 1) hr
        subst hl
        exact ⟨z, by simp [told, hz], by simp only [ht]; omega⟩
    · by_cases hr : r = .nil
      · obtain ⟨z, hz, e⟩ := top_lv l (d + 1) hl
        subst hr
        exact ⟨z, by simp [told, hz], by simp only [ht]; omega⟩
      · rcases Nat.le_total l.ht r.ht with h | h
        · obtain ⟨z, hz, e⟩ := top_lv r (d + 1) hr
          exact ⟨z, by simp [told, hz], by simp only [ht]; omega⟩
        · obtain ⟨z, hz, e⟩ := top_lv l (d + 1) hl
          exact ⟨z, by simp [told, hz], by simp only [ht]; omega⟩
theorem AT.root_lv {T : AT} (d : Int) (h : T ≠ .nil) : ∃ z ∈ T.told d, z.lv = d := by
  cases T with
  | nil => exact absurd rfl h
  | node l p r => exact ⟨⟨p, d⟩, by simp [told], rfl⟩
/-- The height of a stretch, as levels tell it. -/
def hgt (S : List It) : Int := match S with
  | [] => 0
  | x :: xs => lmax x.lv (x :: xs) - lmin x.lv (x :: xs) + 1
theorem hgt_told (T : AT) (d : Int) : hgt (T.told d) = T.ht := by
  by_cases hT : T = .nil
  · subst hT; simp [AT.told, hgt, AT.ht]
  · obtain ⟨z, hz, ez⟩ := AT.top_lv T d hT
    obtain ⟨y, hy, ey⟩ := AT.root_lv d hT
    have hlv := AT.told_lv T d
    cases hS : T.told d with
    | nil => rw [hS] at hz; cases hz
    | cons x xs =>
      rw [hS] at hz hy hlv
      have hx := hlv x (by simp)
      simp only [hgt]
      rw [lmax_eq (d + T.ht - 1) (x :: xs) x.lv (fun z hz => by have := hlv z hz; omega) (by omega) (.inr ⟨z, hz, ez⟩),
        lmin_eq d (x :: xs) x.lv (fun z hz => by have := hlv z hz; omega) (by omega) (.inr ⟨y, hy, ey⟩)]
      omega

/-- The first of the least levels, up to k. -/
def Am (X : List It) (lo k c : Nat) : Prop := lo ≤ c ∧ (k ≤ lo → c = lo) ∧ (lo < k → c < k ∧ ∃ x, X[c]? = some x ∧ (∀ j z, lo ≤ j → j < k → X[j]? = some z → x.lv ≤ z.lv ∧ (j < c → x.lv < z.lv)))
theorem Am.start (X : List It) (lo : Nat) : Am X lo lo lo := ⟨Nat.le_refl _, fun _ => rfl, fun h => absurd h (Nat.lt_irrefl _)⟩
theorem Am.root {X : List It} {a i h c : Nat} {e : Int} (hs : Sub X a i h e) (hc : Am X a h c) : c = i := by
  obtain ⟨h1, _, h3⟩ := hc
  obtain ⟨h4, x, hx, h5⟩ := h3 (by have := hs.ai; have := hs.ih; omega)
  obtain ⟨y, hy, ey⟩ := hs.mid
  have h6 := h5 i y hs.ai hs.ih hy
  rcases Nat.lt_trichotomy c i with g | g | g
  · obtain ⟨z, hz, ez⟩ := hs.lft c h1 g
    rw [hx] at hz; cases hz; omega
  · exact g
  · have := h6.2 g
    obtain ⟨z, hz, ez⟩ := hs.rgt c g h4
    rw [hx] at hz; cases hz; omega
/-- One item more. -/
theorem Am.step {X : List It} {lo k c : Nat} {x y : It} (h : Am X lo k c) (hlo : lo ≤ k) (hy : X[k]? = some y) (hx : X[c]? = some x) : Am X lo (k + 1) (if y.lv < x.lv then k else c) := by
  obtain ⟨h1, h2, h3⟩ := h
  by_cases hk : k = lo
  · have hc := h2 (by omega)
    subst hc
    subst hk
    rw [hx] at hy; cases hy
    rw [if_neg (by omega)]
    refine ⟨Nat.le_refl _, fun h => by omega, fun _ => ⟨by omega, x, hx, fun j z g1 g2 hz => ?_⟩⟩
    have : j = k := by omega
    subst this
    rw [hx] at hz; cases hz
    exact ⟨Int.le_refl _, fun h => by omega⟩
  · obtain ⟨h4, x', hx', h5⟩ := h3 (by omega)
    rw [hx] at hx'; cases hx'
    by_cases hlt : y.lv < x.lv
    · rw [if_pos hlt]
      refine ⟨hlo, fun h => by omega, fun _ => ⟨by omega, y, hy, fun j z g1 g2 hz => ?_⟩⟩
      rcases Nat.lt_or_ge j k with g | g
      · have := h5 j z g1 g hz; exact ⟨by omega, fun _ => by omega⟩
      · have : j = k := by omega
        subst this; rw [hy] at hz; cases hz
        exact ⟨Int.le_refl _, fun h => by omega⟩
    · rw [if_neg hlt]
      refine ⟨h1, fun h => by omega, fun _ => ⟨by omega, x, hx, fun j z g1 g2 hz => ?_⟩⟩
      rcases Nat.lt_or_ge j k with g | g
      · exact h5 j z g1 g hz
      · have : j = k := by omega
        subst this; rw [hy] at hz; cases hz
        exact ⟨by omega, fun h => by omega⟩

/-- The levels changed by what f tells for each place. -/
def adj (f : Nat → Int) : Nat → List It → List It
  | _, [] => []
  | k, x :: xs => ⟨x.pc, x.lv + f k⟩ :: adj f (k + 1) xs
theorem adj_length (f : Nat → Int) : ∀ (k : Nat) (xs : List It), (adj f k xs).length = xs.length
  | _, [] => rfl
  | k, x :: xs => by simp [adj, adj_length f (k + 1) xs]
theorem adj_append (f : Nat → Int) : ∀ (k : Nat) (xs ys : List It), adj f k (xs ++ ys) = adj f k xs ++ adj f (k + xs.length) ys
  | k, [], ys => by simp [adj]
  | k, x :: xs, ys => by
    simp only [List.cons_append, adj, List.length_cons]
    rw [adj_append f (k + 1) xs ys, show k + 1 + xs.length = k + (xs.length + 1) by omega]
theorem adj_get (f : Nat → Int) : ∀ (k : Nat) (xs : List It) (j : Nat), (adj f k xs)[j]? = xs[j]?.map (fun x => ⟨x.pc, x.lv + f (k + j)⟩)
  | k, [], j => by simp [adj]
  | k, x :: xs, 0 => by simp [adj]
  | k, x :: xs, j + 1 => by
    simp only [adj, List.getElem?_cons_succ]
    rw [adj_get f (k + 1) xs j, show k + 1 + j = k + (j + 1) by omega]
theorem adj_same (f : Nat → Int) : ∀ (k : Nat) (xs : List It), (∀ j, k ≤ j → j < k + xs.length → f j = 0) → adj f k xs = xs
  | k, [], _ => rfl
  | k, x :: xs, h => by
    simp only [adj]
    rw [adj_same f (k + 1) xs (fun j h1 h2 => h j (by omega) (by simp; omega)), h k (by omega) (by simp)]
    simp
theorem adj_told (f : Nat → Int) (c : Int) : ∀ (T : AT) (k : Nat) (d : Int), (∀ j, k ≤ j → j < k + T.its → f j = c) → adj f k (T.told d) = T.told (d + c)
  | .nil, k, d, _ => rfl
  | .node l p r, k, d, h => by
    simp only [AT.its] at h
    simp only [AT.told]
    rw [adj_append, adj_told f c l k (d + 1) (fun j h1 h2 => h j h1 (by omega))]
    simp only [adj]
    rw [adj_told f c r (k + (l.told (d + 1)).length + 1) (d + 1) (fun j h1 h2 => h j (by rw [AT.told_length] at h1; omega) (by rw [AT.told_length] at h2; omega)), h (k + (l.told (d + 1)).length) (by omega) (by rw [AT.told_length]; omega)]
    rw [show d + 1 + c = d + c + 1 by omega]
theorem adj_congr {f g : Nat → Int} : ∀ (k : Nat) (xs : List It), (∀ j, k ≤ j → j < k + xs.length → f j = g j) → adj f k xs = adj g k xs
  | k, [], _ => rfl
  | k, x :: xs, h => by
    simp only [adj]
    rw [adj_congr (k + 1) xs (fun j h1 h2 => h j (by omega) (by simp; omega)), h k (by omega) (by simp)]
end Go.Proofs.YtbgngikejgihgahGreatDoor

namespace Go.Proofs.YtbgngikejgihgahGreatDoor
open Go Go.RowKit
set_option linter.unusedVariables false

theorem itLv {w : World} {b off : Nat} {X : List It} (hc : ∀ i x, X[i]? = some x → ItAt w b (off + i * 4) x) {j : Nat} {x : It} (h : X[j]? = some x) : w.cell? ⟨b, off + j * 4 + 3, none⟩ = some (.int .i64 x.lv) := (hc j x h).2.2.2

set_option maxHeartbeats 2000000 in
set_option maxRecDepth 100000 in
theorem rangeS (B : Nat) (v : Value) (X : List It) (w : World) (hr : RdI B w v X) (hlen : X.length ≤ 1048576) (a i h : Nat) (e : Int) (hs : Sub X a i h e) :
    Calls Tryz.prog 190 #[v, .int .i64 (i : Int)] w fun e' w' => e' = .returned (.tuple #[.int .i64 (a : Int), .int .i64 (h : Int)]) ∧ ∃ q, w' = w.drewN q := by
  have hai := hs.ai
  have hih := hs.ih
  have hhl := hs.hl
  obtain ⟨b, off, cap, rfl, ⟨hp0, hpc, hpm⟩, hb, hc⟩ := hr.at (by intro e; subst e; simp at hhl; omega)
  obtain ⟨x, hx, rfl⟩ := hs.mid
  have cx := itLv hc hx
  have HC := hide hc
  have HL := hide hs.lft
  have HR := hide hs.rgt
  have HBF := hide hs.bef
  have HBH := hide hs.beh
  unfold maxLen at hpm
  generalize hN : X.length = n at *
  generalize x.lv = lv at *
  clear hc hr hs hx
  have hin : (i : Int) < (n : Int) := by omega
  go_enter Tryz.func190, Tryz.ntmps190
  go_wp2
  go_loopw [6] (fun lo wr => ∃ k nq : Nat, a ≤ k ∧ k ≤ i ∧ lo = .int .i64 k ∧ wr = w.drewN nq) (fun lo _ => (intOf lo).toNat)
  case atStart => exact ⟨i, 0, hai, Nat.le_refl _, rfl, rfl⟩
  case round =>
    obtain ⟨k, nq, hk1, hk2, rfl, rfl⟩ := hrel
    by_cases hka : a < k
    · obtain ⟨m, rfl⟩ : ∃ m, k = m + 1 := ⟨k - 1, by omega⟩
      obtain ⟨y, hy, hyl⟩ := HL.out m (by omega) (by omega)
      have cy := itLv HC.out hy
      generalize y.lv = ly at *
      have g1 : (0 : Int) < (m : Int) + 1 := by omega
      have g2 : (m : Int) < (n : Int) := by omega
      clear hy
      go_wp2
      go_quiet (fail)
      go_wp2
      go_roundw
      case rel => exact ⟨m, _, by omega, by omega, by go_num, rfl⟩
      case measure => simp [intOf]
    · obtain rfl : k = a := by omega
      by_cases hk0 : k = 0
      · subst hk0
        go_wp2
        go_quiet (fail)
        go_wp2
        go_loopw [7] (fun hi wr => ∃ k nq : Nat, i + 1 ≤ k ∧ k ≤ h ∧ hi = .int .i64 k ∧ wr = w.drewN nq) (fun hi _ => h - (intOf hi).toNat)
        case atStart => exact ⟨i + 1, _, Nat.le_refl _, by omega, by go_num, rfl⟩
        case round =>
          obtain ⟨j, nr, hj1, hj2, rfl, rfl⟩ := hrel
          by_cases hjh : j < h
          · obtain ⟨y, hy, hyl⟩ := HR.out j (by omega) hjh
            have cy := itLv HC.out hy
            generalize y.lv = ly at *
            have g2 : (j : Int) < (n : Int) := by omega
            clear hy
            go_wp2
            go_quiet (fail)
            go_wp2
            go_roundw
            case rel => exact ⟨j + 1, _, by omega, by omega, by go_num, rfl⟩
            case measure => simp [intOf]; omega
          · obtain rfl : j = h := by omega
            by_cases hjn : j < n
            · obtain ⟨y, hy, hyl⟩ := HBH.out hjn
              have cy := itLv HC.out hy
              generalize y.lv = ly at *
              have g2 : (j : Int) < (n : Int) := by omega
              have g3 : ¬ lv < ly := by omega
              clear hy
              go_wp2
              go_quiet (fail)
              go_wp2
              refine bodyPost_ret (v := .tuple #[.int .i64 _, .int .i64 (j : Int)]) (by simp [results, Tryz.results190, go_sem]) rfl ⟨rfl, _, World.drewN_drewN _ _ _⟩
            · have g2 : ¬ (j : Int) < (n : Int) := by omega
              go_wp2
              go_quiet (fail)
              go_wp2
              refine bodyPost_ret (v := .tuple #[.int .i64 _, .int .i64 (j : Int)]) (by simp [results, Tryz.results190, go_sem]) rfl ⟨rfl, _, World.drewN_drewN _ _ _⟩
      · obtain ⟨m, rfl⟩ : ∃ m, k = m + 1 := ⟨k - 1, by omega⟩
        obtain ⟨y, hy, hyl⟩ := HBF.out (by omega)
        rw [Nat.add_sub_cancel] at hy
        have cy := itLv HC.out hy
        generalize y.lv = ly at *
        have g1 : (0 : Int) < (m : Int) + 1 := by omega
        have g2 : (m : Int) < (n : Int) := by omega
        have g3 : ¬ lv < ly := by omega
        clear hy
        go_wp2
        go_quiet (fail)
        go_wp2
        go_loopw [7] (fun hi wr => ∃ k nq : Nat, i + 1 ≤ k ∧ k ≤ h ∧ hi = .int .i64 k ∧ wr = w.drewN nq) (fun hi _ => h - (intOf hi).toNat)
        case atStart => exact ⟨i + 1, _, Nat.le_refl _, by omega, by go_num, rfl⟩
        case round =>
          obtain ⟨j, nr, hj1, hj2, rfl, rfl⟩ := hrel
          by_cases hjh : j < h
          · obtain ⟨y, hy, hyl⟩ := HR.out j (by omega) hjh
            have cy := itLv HC.out hy
            generalize y.lv = ly at *
            have g2 : (j : Int) < (n : Int) := by omega
            clear hy
            go_wp2
            go_quiet (fail)
            go_wp2
            go_roundw
            case rel => exact ⟨j + 1, _, by omega, by omega, by go_num, rfl⟩
            case measure => simp [intOf]; omega
          · obtain rfl : j = h := by omega
            by_cases hjn : j < n
            · obtain ⟨y, hy, hyl⟩ := HBH.out hjn
              have cy := itLv HC.out hy
              generalize y.lv = ly at *
              have g2 : (j : Int) < (n : Int) := by omega
              have g3 : ¬ lv < ly := by omega
              clear hy
              go_wp2
              go_quiet (fail)
              go_wp2
              refine bodyPost_ret (v := .tuple #[.int .i64 _, .int .i64 (j : Int)]) (by simp [results, Tryz.results190, go_sem]) rfl ⟨rfl, _, World.drewN_drewN _ _ _⟩
            · have g2 : ¬ (j : Int) < (n : Int) := by omega
              go_wp2
              go_quiet (fail)
              go_wp2
              refine bodyPost_ret (v := .tuple #[.int .i64 _, .int .i64 (j : Int)]) (by simp [results, Tryz.results190, go_sem]) rfl ⟨rfl, _, World.drewN_drewN _ _ _⟩

theorem lmin_bd {M : Int} : ∀ (S : List It) (x : Int), (∀ z ∈ S, 0 ≤ z.lv ∧ z.lv ≤ M) → 0 ≤ x ∧ x ≤ M → 0 ≤ lmin x S ∧ lmin x S ≤ M
  | [], x, _, h => h
  | y :: S, x, h0, h => lmin_bd S _ (fun z hz => h0 z (by simp [hz])) (by have := h0 y (by simp); dsimp only; split <;> omega)
theorem lmax_bd {M : Int} : ∀ (S : List It) (x : Int), (∀ z ∈ S, 0 ≤ z.lv ∧ z.lv ≤ M) → 0 ≤ x ∧ x ≤ M → 0 ≤ lmax x S ∧ lmax x S ≤ M
  | [], x, _, h => h
  | y :: S, x, h0, h => lmax_bd S _ (fun z hz => h0 z (by simp [hz])) (by have := h0 y (by simp); dsimp only; split <;> omega)
theorem hgt_seg {X : List It} {lo hi : Nat} {x : It} (hx : X[lo]? = some x) (h : lo < hi) : hgt (seg X lo hi) = lmax x.lv (seg X lo hi) - lmin x.lv (seg X lo hi) + 1 := by
  rw [seg_split X lo lo hi x (Nat.le_refl _) h hx, seg_nil X lo lo (Nat.le_refl _)]
  rfl

set_option maxHeartbeats 2000000 in
set_option maxRecDepth 100000 in
theorem heightS (B : Nat) (v : Value) (X : List It) (w : World) (hr : RdI B w v X) (hlen : X.length ≤ 1048576) (hlv : ∀ x ∈ X, 0 ≤ x.lv ∧ x.lv ≤ 1000000) (lo hi : Nat) (h1 : lo ≤ hi) (h2 : hi ≤ X.length) :
    Calls Tryz.prog 238 #[v, .int .i64 (lo : Int), .int .i64 (hi : Int)] w fun e w' => e = .returned (.int .i64 (hgt (seg X lo hi))) ∧ w' = w := by
  by_cases hlt : lo < hi
  · obtain ⟨b, off, cap, rfl, ⟨hp0, hpc, hpm⟩, hb, hc⟩ := hr.at (by intro e; subst e; simp at h2; omega)
    obtain ⟨x, hx⟩ : ∃ x, X[lo]? = some x := ⟨_, List.getElem?_eq_getElem (by omega)⟩
    have cx := itLv hc hx
    have HX := hide (hgt_seg hx hlt)
    have HC := hide hc
    have hx9 := hlv x (List.mem_iff_getElem?.2 ⟨lo, hx⟩)
    have HB := hide (show ∀ k, (0 ≤ lmin x.lv (seg X lo k) ∧ lmin x.lv (seg X lo k) ≤ 1000000) ∧ (0 ≤ lmax x.lv (seg X lo k) ∧ lmax x.lv (seg X lo k) ≤ 1000000) from fun k => ⟨lmin_bd _ _ (fun z hz => by obtain ⟨i, _, _, hi⟩ := mem_seg hz; exact hlv z (List.mem_iff_getElem?.2 ⟨i, hi⟩)) hx9, lmax_bd _ _ (fun z hz => by obtain ⟨i, _, _, hi⟩ := mem_seg hz; exact hlv z (List.mem_iff_getElem?.2 ⟨i, hi⟩)) hx9⟩)
    have HS0 := hide (show lmin x.lv (seg X lo lo) = x.lv ∧ lmax x.lv (seg X lo lo) = x.lv from by rw [seg_nil X lo lo (Nat.le_refl _)]; exact ⟨rfl, rfl⟩)
    generalize hgt (seg X lo hi) = res at HX ⊢
    generalize x.lv = l0 at *
    unfold maxLen at hpm
    generalize hN : X.length = n at *
    clear hc hr hx hlv
    have g0 : ¬ (hi : Int) ≤ (lo : Int) := by omega
    have g1 : (lo : Int) < (n : Int) := by omega
    go_enter Tryz.func238, Tryz.ntmps238
    go_wp2
    go_loopw [7, 8, 9] (fun a c i wr => ∃ k : Nat, lo ≤ k ∧ k ≤ hi ∧ a = .int .i64 (lmin l0 (seg X lo k)) ∧ c = .int .i64 (lmax l0 (seg X lo k)) ∧ i = .int .i64 k ∧ wr = w) (fun _ _ i _ => hi - (intOf i).toNat)
    case atStart => exact ⟨lo, Nat.le_refl _, h1, by rw [HS0.out.1], by rw [HS0.out.2], rfl, rfl⟩
    case round =>
      obtain ⟨k, hk1, hk2, rfl, rfl, rfl, rfl⟩ := hrel
      by_cases hkh : k < hi
      · obtain ⟨y, hy⟩ : ∃ y, X[k]? = some y := ⟨_, List.getElem?_eq_getElem (by omega)⟩
        have cy := itLv HC.out hy
        have HA := hide (show lmin l0 (seg X lo (k + 1)) = (if y.lv < lmin l0 (seg X lo k) then y.lv else lmin l0 (seg X lo k)) from by rw [seg_snoc X lo k y hk1 hy, lmin_snoc])
        have HD := hide (show lmax l0 (seg X lo (k + 1)) = (if lmax l0 (seg X lo k) < y.lv then y.lv else lmax l0 (seg X lo k)) from by rw [seg_snoc X lo k y hk1 hy, lmax_snoc])
        generalize lmin l0 (seg X lo k) = a at *
        generalize lmax l0 (seg X lo k) = c at *
        generalize y.lv = ly at *
        have g2 : (k : Int) < (hi : Int) := by omega
        have g3 : (k : Int) < (n : Int) := by omega
        clear hy
        by_cases q1 : ly < a
        · by_cases q2 : c < ly
          · go_wp2
            go_roundw
            case rel => exact ⟨k + 1, by omega, by omega, by rw [HA.out, if_pos q1], by rw [HD.out, if_pos q2], by go_num, by first | rfl | trivial⟩
            case measure => simp [intOf]; omega
          · go_wp2
            go_roundw
            case rel => exact ⟨k + 1, by omega, by omega, by rw [HA.out, if_pos q1], by rw [HD.out, if_neg q2], by go_num, by first | rfl | trivial⟩
            case measure => simp [intOf]; omega
        · by_cases q2 : c < ly
          · go_wp2
            go_roundw
            case rel => exact ⟨k + 1, by omega, by omega, by rw [HA.out, if_neg q1], by rw [HD.out, if_pos q2], by go_num, by first | rfl | trivial⟩
            case measure => simp [intOf]; omega
          · go_wp2
            go_roundw
            case rel => exact ⟨k + 1, by omega, by omega, by rw [HA.out, if_neg q1], by rw [HD.out, if_neg q2], by go_num, by first | rfl | trivial⟩
            case measure => simp [intOf]; omega
      · obtain rfl : k = hi := by omega
        have hbd := HB.out k
        generalize lmin l0 (seg X lo k) = a at *
        generalize lmax l0 (seg X lo k) = c at *
        have g2 : ¬ (k : Int) < (k : Int) := by omega
        go_wp2
        go_ret
        exact ⟨by rw [HX.out]; rfl, rfl⟩
  · obtain ⟨ao, cap, rfl⟩ := hr.val
    rw [seg_nil X lo hi (by omega)]
    have g0 : (hi : Int) ≤ (lo : Int) := by omega
    clear hr hlv
    go_enter Tryz.func238, Tryz.ntmps238
    go_wp2
    go_ret
    exact ⟨rfl, rfl⟩

set_option maxHeartbeats 2000000 in
set_option maxRecDepth 100000 in
theorem childS (B : Nat) (v : Value) (X : List It) (w : World) (hr : RdI B w v X) (hlen : X.length ≤ 1048576) (h0 : X ≠ []) (lo hi : Nat) (h1 : lo ≤ hi) (h2 : hi ≤ X.length) :
    Calls Tryz.prog 187 #[v, .int .i64 (lo : Int), .int .i64 (hi : Int)] w fun e w' => ∃ c : Nat, e = .returned (.int .i64 (c : Int)) ∧ Am X lo hi c ∧ ∃ q, w' = w.drewN q := by
  obtain ⟨b, off, cap, rfl, ⟨hp0, hpc, hpm⟩, hb, hc⟩ := hr.at h0
  have HC := hide hc
  have HN := hide (show ∀ k, k < X.length → ∃ y, X[k]? = some y from fun k hk => ⟨_, List.getElem?_eq_getElem hk⟩)
  unfold maxLen at hpm
  generalize hN : X.length = n at *
  clear hc hr h0
  go_enter Tryz.func187, Tryz.ntmps187
  go_wp2
  go_loopw [7, 8] (fun a i wr => ∃ c k nq : Nat, lo ≤ k ∧ k ≤ hi ∧ Am X lo k c ∧ a = .int .i64 c ∧ i = .int .i64 k ∧ wr = w.drewN nq) (fun _ i _ => hi - (intOf i).toNat)
  case atStart => exact ⟨lo, lo, 0, Nat.le_refl _, h1, Am.start X lo, rfl, rfl, rfl⟩
  case round =>
    obtain ⟨c, k, nq, hk1, hk2, ham, rfl, rfl, rfl⟩ := hrel
    by_cases hkh : k < hi
    · have hcn : c < n := by
        obtain ⟨q1, q2, q3⟩ := ham
        rcases Nat.lt_or_ge lo k with g | g
        · have := (q3 g).1; omega
        · have := q2 g; omega
      obtain ⟨y, hy⟩ := HN.out k (by omega)
      obtain ⟨x, hx⟩ := HN.out c hcn
      have cy := itLv HC.out hy
      have cx := itLv HC.out hx
      have HA := hide (ham.step hk1 hy hx)
      generalize y.lv = ly at *
      generalize x.lv = lx at *
      have g2 : (k : Int) < (hi : Int) := by omega
      have g3 : (k : Int) < (n : Int) := by omega
      have g4 : (c : Int) < (n : Int) := by omega
      clear hy hx ham
      by_cases q : ly < lx
      · rw [if_pos q] at HA
        go_wp2
        go_quiet (fail)
        go_wp2
        go_roundw
        case rel => exact ⟨k, k + 1, _, by omega, by omega, HA.out, rfl, by go_num, rfl⟩
        case measure => simp [intOf]; omega
      · rw [if_neg q] at HA
        go_wp2
        go_quiet (fail)
        go_wp2
        go_roundw
        case rel => exact ⟨c, k + 1, _, by omega, by omega, HA.out, rfl, by go_num, rfl⟩
        case measure => simp [intOf]; omega
    · obtain rfl : k = hi := by omega
      have HA := hide ham
      have g2 : ¬ (k : Int) < (k : Int) := by omega
      clear ham
      go_wp2
      go_ret
      exact ⟨c, rfl, HA.out, _, rfl⟩
end Go.Proofs.YtbgngikejgihgahGreatDoor
