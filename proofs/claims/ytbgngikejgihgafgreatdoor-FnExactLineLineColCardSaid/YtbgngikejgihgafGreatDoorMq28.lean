import Derived.WalkKit
namespace Go.Proofs.YtbgngikejgihgafGreatDoor
set_option linter.unusedVariables false

structure Pc where
  off : Int
  len : Int
  brk : Int
  deriving DecidableEq, Inhabited

structure It where
  pc : Pc
  lv : Int
  deriving DecidableEq, Inhabited

inductive AT where
  | nil
  | node (l : AT) (p : Pc) (r : AT)
  deriving Inhabited

namespace AT
def ht : AT → Nat
  | nil => 0
  | node l _ r => 1 + max l.ht r.ht
def its : AT → Nat
  | nil => 0
  | node l _ r => l.its + 1 + r.its
def rns : AT → Int
  | nil => 0
  | node l p r => l.rns + p.len + r.rns
def bks : AT → Int
  | nil => 0
  | node l p r => l.bks + p.brk + r.bks
def bal : AT → Prop
  | nil => True
  | node l _ r => l.bal ∧ r.bal ∧ l.ht ≤ r.ht + 1 ∧ r.ht ≤ l.ht + 1
def told : AT → Int → List It
  | nil, _ => []
  | node l p r, d => l.told (d + 1) ++ ⟨p, d⟩ :: r.told (d + 1)

theorem told_lv : ∀ (T : AT) (d : Int), ∀ x ∈ T.told d, d ≤ x.lv ∧ x.lv < d + T.ht
  | nil, d, x, h => by simp [told] at h
  | node l p r, d, x, h => by
    simp only [told, List.mem_append, List.mem_cons] at h
    simp only [ht]
    rcases h with h | rfl | h
    · have := told_lv l (d + 1) x h; omega
    · simp; omega
    · have := told_lv r (d + 1) x h; omega

theorem told_length : ∀ (T : AT) (d : Int), (T.told d).length = T.its
  | nil, d => rfl
  | node l p r, d => by simp [told, its, told_length l, told_length r]; omega

theorem ht_its : ∀ T : AT, T.ht ≤ T.its
  | nil => by simp [ht]
  | node l p r => by
    have := ht_its l; have := ht_its r
    simp only [ht, its]; omega

theorem bal_pow : ∀ T : AT, T.bal → 2 ^ (T.ht / 2) ≤ T.its + 1
  | nil, _ => by simp [ht, its]
  | node l p r, h => by
    obtain ⟨hl, hr, h1, h2⟩ := h
    have il := bal_pow l hl
    have ir := bal_pow r hr
    simp only [ht, its]
    have e : (1 + max l.ht r.ht) / 2 ≤ min (l.ht) (r.ht) / 2 + 1 := by omega
    have hle : 2 ^ ((1 + max l.ht r.ht) / 2) ≤ 2 ^ (min l.ht r.ht / 2 + 1) := Nat.pow_le_pow_right (by omega) e
    have hl2 : 2 ^ (min l.ht r.ht / 2) ≤ 2 ^ (l.ht / 2) := Nat.pow_le_pow_right (by omega) (by omega)
    have hr2 : 2 ^ (min l.ht r.ht / 2) ≤ 2 ^ (r.ht / 2) := Nat.pow_le_pow_right (by omega) (by omega)
    rw [Nat.pow_succ] at hle
    omega

/-- A balanced tree of at most 8192 items is not high. -/
theorem bal_low (T : AT) (h : T.bal) (hn : T.its ≤ 8192) : T.ht ≤ 27 := by
  have h1 := bal_pow T h
  rcases Nat.lt_or_ge T.ht 28 with h2 | h2
  · omega
  · have : 2 ^ 14 ≤ 2 ^ (T.ht / 2) := Nat.pow_le_pow_right (by omega) (by omega)
    have h14 : (2 : Nat) ^ 14 = 16384 := by decide
    omega
end AT

/-- How the reader takes a subtree. -/
def parse : Nat → Int → List It → Option (AT × List It)
  | 0, _, _ => none
  | f + 1, lv, xs =>
    match xs with
    | [] => some (.nil, [])
    | x :: xt =>
      if x.lv < lv then some (.nil, x :: xt) else
      match parse f (lv + 1) (x :: xt) with
      | none => none
      | some (l, []) => none
      | some (l, y :: zs) =>
        if y.lv ≠ lv then none else
        match parse f (lv + 1) zs with
        | none => none
        | some (r, us) => if l.ht ≤ r.ht + 1 ∧ r.ht ≤ l.ht + 1 then some (.node l y.pc r, us) else none

theorem parse_sound : ∀ (f : Nat) (lv : Int) (xs : List It) (T : AT) (ys : List It), parse f lv xs = some (T, ys) → xs = T.told lv ++ ys ∧ T.bal
  | 0, lv, xs, T, ys, h => by simp [parse] at h
  | f + 1, lv, [], T, ys, h => by
    simp [parse] at h
    obtain ⟨rfl, rfl⟩ := h
    simp [AT.told, AT.bal]
  | f + 1, lv, x :: xt, T, ys, h => by
    rw [parse] at h
    split at h
    · rename_i hx
      simp at h
      obtain ⟨rfl, rfl⟩ := h
      exact ⟨by simp [AT.told], trivial⟩
    · split at h
      · cases h
      · cases h
      · rename_i l y zs hl
        split at h
        · cases h
        · rename_i hy
          split at h
          · cases h
          · rename_i r us hr
            split at h
            · rename_i hb
              simp at h
              obtain ⟨rfl, rfl⟩ := h
              obtain ⟨e1, b1⟩ := parse_sound f _ _ _ _ hl
              obtain ⟨e2, b2⟩ := parse_sound f _ _ _ _ hr
              have hy' : y.lv = lv := by simpa using hy
              refine ⟨?_, ⟨b1, b2, hb.1, hb.2⟩⟩
              rw [e1, e2]; simp only [AT.told, List.append_assoc, List.cons_append]
              obtain ⟨a, b⟩ := y; simp at hy'; subst hy'; rfl
            · cases h

theorem parse_complete : ∀ (T : AT) (f : Nat) (lv : Int) (ys : List It), T.bal → T.ht < f → (∀ y yt, ys = y :: yt → y.lv < lv) → parse f lv (T.told lv ++ ys) = some (T, ys)
  | .nil, f, lv, ys, hb, hf, hy => by
    obtain ⟨f, rfl⟩ : ∃ g, f = g + 1 := ⟨f - 1, by omega⟩
    cases ys with
    | nil => simp [AT.told, parse]
    | cons y yt => simp [AT.told, parse, hy y yt rfl]
  | .node l p r, f, lv, ys, hb, hf, hy => by
    obtain ⟨f, rfl⟩ : ∃ g, f = g + 1 := ⟨f - 1, by omega⟩
    obtain ⟨bl, br, h1, h2⟩ := hb
    simp only [AT.ht] at hf
    have hL := parse_complete l f (lv + 1) (⟨p, lv⟩ :: (r.told (lv + 1) ++ ys)) bl (by omega) (fun y yt e => by simp at e; rw [← e.1]; simp; omega)
    have hR := parse_complete r f (lv + 1) ys br (by omega) (fun y yt e => by have := hy y yt e; omega)
    have e : (AT.node l p r).told lv ++ ys = l.told (lv + 1) ++ ⟨p, lv⟩ :: (r.told (lv + 1) ++ ys) := by simp [AT.told]
    rw [e]
    have hne : ∃ x xt, l.told (lv + 1) ++ ⟨p, lv⟩ :: (r.told (lv + 1) ++ ys) = x :: xt ∧ ¬ x.lv < lv := by
      cases hh : l.told (lv + 1) with
      | nil => exact ⟨_, _, rfl, by simp⟩
      | cons x xt => exact ⟨x, _, rfl, by have := AT.told_lv l (lv + 1) x (by rw [hh]; simp); omega⟩
    obtain ⟨x, xt, hx, hlt⟩ := hne
    rw [hx] at hL ⊢
    rw [parse, if_neg hlt, hL]
    simp only [ne_eq, not_true_eq_false, if_false, hR]
    rw [if_pos ⟨h1, h2⟩]

/-- The parts of a stretch around its only item at this level. -/
def cutAt (lv : Int) : List It → Option (List It × It × List It)
  | [] => none
  | x :: xs => if x.lv < lv then none else if x.lv = lv then (if ∀ y ∈ xs, lv < y.lv then some ([], x, xs) else none) else
    match cutAt lv xs with
    | none => none
    | some (a, y, b) => some (x :: a, y, b)

theorem cutAt_sound (lv : Int) : ∀ (xs a b : List It) (y : It), cutAt lv xs = some (a, y, b) → xs = a ++ y :: b ∧ y.lv = lv ∧ (∀ z ∈ a, lv < z.lv) ∧ (∀ z ∈ b, lv < z.lv)
  | [], a, b, y, h => by simp [cutAt] at h
  | x :: xs, a, b, y, h => by
    rw [cutAt] at h
    split at h
    · cases h
    · split at h
      · split at h
        · rename_i hx hall
          simp at h; obtain ⟨rfl, rfl, rfl⟩ := h
          exact ⟨rfl, hx, by simp, hall⟩
        · cases h
      · split at h
        · cases h
        · rename_i hc
          simp at h; obtain ⟨rfl, rfl, rfl⟩ := h
          obtain ⟨e, h1, h2, h3⟩ := cutAt_sound lv xs _ _ _ hc
          refine ⟨by rw [e]; rfl, h1, fun z hz => ?_, h3⟩
          rcases List.mem_cons.mp hz with rfl | hz
          · omega
          · exact h2 z hz

theorem cutAt_complete (lv : Int) : ∀ (a b : List It) (y : It), y.lv = lv → (∀ z ∈ a, lv < z.lv) → (∀ z ∈ b, lv < z.lv) → cutAt lv (a ++ y :: b) = some (a, y, b)
  | [], b, y, h1, h2, h3 => by
    simp only [List.nil_append, cutAt]
    rw [if_neg (by omega), if_pos h1, if_pos h3]
  | x :: a, b, y, h1, h2, h3 => by
    have := h2 x (by simp)
    simp only [List.cons_append, cutAt]
    rw [if_neg (by omega), if_neg (by omega), cutAt_complete lv a b y h1 (fun z hz => h2 z (by simp [hz])) h3]

theorem cutAt_none (lv : Int) (xs : List It) (h : ¬ ∃ a y b, xs = a ++ y :: b ∧ y.lv = lv ∧ (∀ z ∈ a, lv < z.lv) ∧ (∀ z ∈ b, lv < z.lv)) : cutAt lv xs = none := by
  cases hc : cutAt lv xs with
  | none => rfl
  | some q => obtain ⟨a, y, b⟩ := q; exact absurd ⟨a, y, b, cutAt_sound lv xs a b y hc⟩ h

/-- The height of a stretch that is a balanced subtree, else -1. -/
def shp : Nat → Int → List It → Int
  | 0, _, xs => if xs = [] then 0 else -1
  | f + 1, lv, xs => if xs = [] then 0 else
    match cutAt lv xs with
    | none => -1
    | some (a, _, b) =>
      if shp f (lv + 1) a < 0 then -1 else
      if shp f (lv + 1) b < 0 ∨ shp f (lv + 1) a - shp f (lv + 1) b > 1 ∨ shp f (lv + 1) b - shp f (lv + 1) a > 1 then -1 else
      max (shp f (lv + 1) a) (shp f (lv + 1) b) + 1

theorem shp_sound : ∀ (f : Nat) (lv : Int) (xs : List It), 0 ≤ shp f lv xs → ∃ T : AT, T.bal ∧ xs = T.told lv ∧ (T.ht : Int) = shp f lv xs
  | 0, lv, xs, h => by
    simp only [shp] at h ⊢
    split at h
    · rename_i e; rw [if_pos e]; exact ⟨.nil, trivial, by rw [e]; rfl, rfl⟩
    · omega
  | f + 1, lv, xs, h => by
    simp only [shp] at h ⊢
    by_cases e : xs = []
    · rw [if_pos e]; exact ⟨.nil, trivial, by rw [e]; rfl, rfl⟩
    · rw [if_neg e] at h ⊢
      cases hc : cutAt lv xs with
      | none => rw [hc] at h; simp at h
      | some q =>
        obtain ⟨a, y, b⟩ := q
        rw [hc] at h
        simp only at h ⊢
        split at h
        · omega
        · split at h
          · omega
          · rename_i h1 h2
            obtain ⟨e1, e2, h3, h4⟩ := cutAt_sound lv xs _ _ _ hc
            obtain ⟨L, bL, tL, gL⟩ := shp_sound f (lv + 1) a (by omega)
            obtain ⟨R, bR, tR, gR⟩ := shp_sound f (lv + 1) b (by omega)
            refine ⟨.node L y.pc R, ⟨bL, bR, by omega, by omega⟩, ?_, ?_⟩
            · simp only [AT.told]; rw [e1, ← tL, ← tR]; obtain ⟨p, d⟩ := y; simp at e2; subst e2; rfl
            · rw [if_neg h1, if_neg h2]; simp only [AT.ht]; omega

theorem shp_complete : ∀ (T : AT) (f : Nat) (lv : Int), T.bal → T.ht ≤ f → shp f lv (T.told lv) = T.ht
  | .nil, f, lv, _, _ => by cases f <;> simp [shp, AT.told, AT.ht]
  | .node l p r, f, lv, hb, hf => by
    simp only [AT.ht] at hf
    obtain ⟨f, rfl⟩ : ∃ g, f = g + 1 := ⟨f - 1, by omega⟩
    obtain ⟨bl, br, h1, h2⟩ := hb
    have hL := shp_complete l f (lv + 1) bl (by omega)
    have hR := shp_complete r f (lv + 1) br (by omega)
    show shp (f + 1) lv (l.told (lv + 1) ++ ⟨p, lv⟩ :: r.told (lv + 1)) = _
    rw [shp, if_neg (by simp), cutAt_complete lv _ _ _ rfl (fun z hz => by have := AT.told_lv l (lv + 1) z hz; omega) (fun z hz => by have := AT.told_lv r (lv + 1) z hz; omega)]
    simp only [hL, hR, AT.ht]
    rw [if_neg (by omega), if_neg (by omega)]
    omega

def pcOk (p : Pc) : Bool := decide (1 ≤ p.len ∧ p.len ≤ 8192 ∧ 0 ≤ p.off ∧ p.off + p.len ≤ 220000 ∧ 0 ≤ p.brk ∧ p.brk ≤ p.len)

def total : List It → Int
  | [] => 0
  | x :: xs => x.pc.len + total xs

def brks : List It → Int
  | [] => 0
  | x :: xs => x.pc.brk + brks xs

theorem total_append (a b : List It) : total (a ++ b) = total a + total b := by
  induction a with
  | nil => simp [total]
  | cons x a ih => simp only [List.cons_append, total, ih]; omega

theorem brks_append (a b : List It) : brks (a ++ b) = brks a + brks b := by
  induction a with
  | nil => simp [brks]
  | cons x a ih => simp only [List.cons_append, brks, ih]; omega

theorem AT.rns_told : ∀ (T : AT) (d : Int), total (T.told d) = T.rns
  | .nil, d => rfl
  | .node l p r, d => by simp only [told, total_append, total, rns_told l, rns_told r, rns]; omega

theorem AT.bks_told : ∀ (T : AT) (d : Int), brks (T.told d) = T.bks
  | .nil, d => rfl
  | .node l p r, d => by simp only [told, brks_append, brks, bks_told l, bks_told r, bks]; omega

/-- The tree is valid. -/
def okT (xs : List It) : Bool := decide (xs.length ≤ 8192) && xs.all (fun x => pcOk x.pc) && decide (total xs ≤ 8192) && decide (0 ≤ shp 41 0 xs)

theorem total_len : ∀ xs : List It, xs.all (fun x => pcOk x.pc) = true → (xs.length : Int) ≤ total xs
  | [], _ => by simp [total]
  | x :: xs, h => by
    simp only [List.all_cons, Bool.and_eq_true] at h
    have := total_len xs h.2
    have h1 := h.1
    simp only [pcOk, decide_eq_true_eq] at h1
    simp only [total, List.length_cons]; omega

/-- What the reader's own look at the items asks. -/
def okI (n : Nat) (xs : List It) : Bool := xs.all (fun x => pcOk x.pc && decide (0 ≤ x.lv ∧ x.lv ≤ (n : Int) - 1)) && decide (total xs ≤ 8192)

def readT (xs : List It) : Option AT :=
  if okI xs.length xs = true then
    match parse 8200 0 xs with
    | some (T, []) => some T
    | _ => none
  else none

theorem readT_some {xs : List It} {T : AT} (h : readT xs = some T) : okT xs = true ∧ T.bal ∧ xs = T.told 0 ∧ xs.length ≤ 8192 := by
  unfold readT at h
  split at h
  · rename_i hI
    split at h
    · rename_i T' hp
      simp at h; subst h
      obtain ⟨e, hb⟩ := parse_sound _ _ _ _ _ hp
      simp only [List.append_nil] at e
      simp only [okI, Bool.and_eq_true, decide_eq_true_eq] at hI
      have hall : xs.all (fun x => pcOk x.pc) = true := by
        rw [List.all_eq_true] at hI ⊢
        intro x hx; have := hI.1 x hx; simp only [Bool.and_eq_true] at this; exact this.1
      have hlen := total_len xs hall
      have hl : xs.length ≤ 8192 := by omega
      refine ⟨?_, hb, e, hl⟩
      have hits : T'.its = xs.length := by rw [e, AT.told_length]
      have hlow := AT.bal_low T' hb (by omega)
      have hs := shp_complete T' 41 0 hb (by omega)
      rw [← e] at hs
      simp only [okT, Bool.and_eq_true, decide_eq_true_eq]
      exact ⟨⟨⟨hl, hall⟩, hI.2⟩, by omega⟩
    · cases h
  · cases h

theorem readT_ok {xs : List It} (h : okT xs = true) : ∃ T, readT xs = some T := by
  simp only [okT, Bool.and_eq_true, decide_eq_true_eq] at h
  obtain ⟨⟨⟨hl, hall⟩, htot⟩, hs⟩ := h
  obtain ⟨T, hb, e, hh⟩ := shp_sound _ _ _ hs
  have hits : T.its = xs.length := by rw [e, AT.told_length]
  have hlow := AT.bal_low T hb (by omega)
  have hp := parse_complete T 8200 0 [] hb (by omega) (fun y yt h => by cases h)
  rw [List.append_nil, ← e] at hp
  refine ⟨T, ?_⟩
  unfold readT
  rw [if_pos, hp]
  simp only [okI, Bool.and_eq_true, decide_eq_true_eq]
  refine ⟨?_, htot⟩
  rw [List.all_eq_true] at hall ⊢
  intro x hx
  have h1 := hall x hx
  have h2 := AT.told_lv T 0 x (by rw [← e]; exact hx)
  have h3 := AT.ht_its T
  simp only [Bool.and_eq_true, decide_eq_true_eq]
  exact ⟨h1, by omega, by omega⟩

theorem readT_none {xs : List It} (h : readT xs = none) : okT xs = false := by
  cases hk : okT xs with
  | false => rfl
  | true => obtain ⟨T, hT⟩ := readT_ok hk; rw [h] at hT; cases hT
end Go.Proofs.YtbgngikejgihgafGreatDoor
