import Derived.Test.YtbgngikejgihgagGreatDoorMq01
import Derived.Laws.CopyOwn
import Derived.Test.YtbgngikejgihgagGreatDoorMq02
import Derived.Test.YtbgngikejgihgagGreatDoorProg
import Derived.WalkKit
import Derived.WalkLawsBesides
import Derived.Deep.QuietTactic
import Derived.BigQuiet
namespace Go.Proofs.YtbgngikejgihgagGreatDoor
open Go Go.RowKit
set_option linter.unusedVariables false

theorem gd_app (a b : List Int) (i : Nat) : (a ++ b).getD i 0 = if i < a.length then a.getD i 0 else b.getD (i - a.length) 0 := by
  simp only [List.getD_eq_getElem?_getD, List.getElem?_append]
  split <;> rfl
theorem gd_take (a : List Int) (n i : Nat) : (a.take n).getD i 0 = if i < n then a.getD i 0 else 0 := by
  simp only [List.getD_eq_getElem?_getD, List.getElem?_take]
  split <;> rfl
theorem gd_drop (a : List Int) (n i : Nat) : (a.drop n).getD i 0 = a.getD (n + i) 0 := by
  simp only [List.getD_eq_getElem?_getD, List.getElem?_drop]
theorem gd_rep (n i : Nat) : (List.replicate n (0 : Int)).getD i 0 = 0 := by
  simp only [List.getD_eq_getElem?_getD, List.getElem?_replicate]
  split <;> rfl
theorem gd_ext {a b : List Int} (hl : a.length = b.length) (h : ∀ i, i < a.length → a.getD i 0 = b.getD i 0) : a = b := by
  apply List.ext_getElem hl
  intro i h1 h2
  have := h i h1
  simpa [List.getD_eq_getElem?_getD, h1, h2] using this

/-- The text of a gap buffer. -/
def gtext (zs : List Int) (lo hi : Nat) : List Int := zs.take lo ++ zs.drop hi
/-- A text laid out in so many cells. -/
def glay (xs : List Int) (p n : Nat) : List Int := xs.take p ++ (List.replicate (n - xs.length) 0 ++ xs.drop p)

/-- Valid. -/
structure GV (zs : List Int) (lo hi : Nat) : Prop where
  a : lo ≤ hi
  b : hi ≤ zs.length
  z : ∀ i, lo ≤ i → i < hi → zs.getD i 0 = 0
  c : zs.length ≤ 65536
  t : zs.length - (hi - lo) ≤ 8192

theorem gtext_length {zs : List Int} {lo hi : Nat} (h1 : lo ≤ hi) (h2 : hi ≤ zs.length) : (gtext zs lo hi).length = zs.length - (hi - lo) := by
  simp only [gtext, List.length_append, List.length_take, List.length_drop]; omega

theorem glay_length {xs : List Int} {p n : Nat} (h1 : p ≤ xs.length) (h2 : xs.length ≤ n) : (glay xs p n).length = n := by
  simp only [glay, List.length_append, List.length_take, List.length_drop, List.length_replicate]; omega

/-- What read answers. -/
theorem gread {zs : List Int} {lo hi a b : Nat} (h1 : lo ≤ hi) (h2 : hi ≤ zs.length) (ha : a ≤ b) (hb : b ≤ (gtext zs lo hi).length) :
    (zs.drop (min a lo)).take (min b lo - min a lo) ++ (zs.drop (max (a + (hi - lo)) hi)).take (max (b + (hi - lo)) hi - max (a + (hi - lo)) hi) = ((gtext zs lo hi).drop a).take (b - a) := by
  rw [gtext_length h1 h2] at hb
  have hL : (gtext zs lo hi).length = zs.length - (hi - lo) := gtext_length h1 h2
  apply gd_ext
  · simp only [List.length_append, List.length_take, List.length_drop, hL]; omega
  · intro i hi'
    simp only [List.length_append, List.length_take, List.length_drop] at hi'
    simp only [gd_app, gd_take, gd_drop, gtext, List.length_take, List.length_drop]
    repeat' split
    all_goals first
      | omega
      | (congr 1; omega)

/-- A splice, by its cells. -/
theorem gd_splice (L : List Int) (off : Nat) (cs : List Int) (i : Nat) (h : off + cs.length ≤ L.length) : (splice L off cs).getD i 0 = if i < off then L.getD i 0 else if i < off + cs.length then cs.getD (i - off) 0 else L.getD i 0 := by
  simp only [splice, gd_app, gd_take, gd_drop, List.length_take]
  repeat' split
  all_goals first
    | omega
    | rfl
    | (congr 1; omega)

/-- The gap moved down. -/
theorem gmove_down {zs : List Int} {lo hi p : Nat} (h : GV zs lo hi) (hp : p < lo) :
    splice (splice zs (p + (hi - lo)) ((zs.drop p).take (lo - p))) p (List.replicate (min lo (p + (hi - lo)) - p) 0) = glay (gtext zs lo hi) p zs.length := by
  have h1 := h.a
  have h2 := h.b
  have e0 : ((zs.drop p).take (lo - p)).length = lo - p := by simp only [List.length_take, List.length_drop]; omega
  have e1 : (splice zs (p + (hi - lo)) ((zs.drop p).take (lo - p))).length = zs.length := length_splice _ _ _ (by rw [e0]; omega)
  have hL : (gtext zs lo hi).length = zs.length - (hi - lo) := gtext_length h1 h2
  have e2 : (splice (splice zs (p + (hi - lo)) ((zs.drop p).take (lo - p))) p (List.replicate (min lo (p + (hi - lo)) - p) 0)).length = zs.length := by
    rw [length_splice _ _ _ (by rw [e1, List.length_replicate]; omega), e1]
  apply gd_ext
  · rw [e2, glay_length (by omega) (by omega)]
  · intro i hi'
    rw [e2] at hi'
    rw [gd_splice _ _ _ _ (by rw [e1, List.length_replicate]; omega), gd_splice _ _ _ _ (by rw [e0]; omega)]
    simp only [glay, gd_app, gd_take, gd_drop, gd_rep, gtext, List.length_take, List.length_drop, List.length_replicate, List.length_append]
    repeat' split
    all_goals first
      | omega
      | rfl
      | (congr 1; omega)
      | (apply h.z <;> omega)
      | (symm; apply h.z <;> omega)

/-- The gap moved up. -/
theorem gmove_up {zs : List Int} {lo hi p : Nat} (h : GV zs lo hi) (hp : lo ≤ p) (hq : p + (hi - lo) ≤ zs.length) :
    splice (splice zs lo ((zs.drop hi).take (p + (hi - lo) - hi))) (max hi p) (List.replicate (p + (hi - lo) - max hi p) 0) = glay (gtext zs lo hi) p zs.length := by
  have h1 := h.a
  have h2 := h.b
  have e0 : ((zs.drop hi).take (p + (hi - lo) - hi)).length = p - lo := by simp only [List.length_take, List.length_drop]; omega
  have e1 : (splice zs lo ((zs.drop hi).take (p + (hi - lo) - hi))).length = zs.length := length_splice _ _ _ (by rw [e0]; omega)
  have hL : (gtext zs lo hi).length = zs.length - (hi - lo) := gtext_length h1 h2
  have e2 : (splice (splice zs lo ((zs.drop hi).take (p + (hi - lo) - hi))) (max hi p) (List.replicate (p + (hi - lo) - max hi p) 0)).length = zs.length := by
    rw [length_splice _ _ _ (by rw [e1, List.length_replicate]; omega), e1]
  apply gd_ext
  · rw [e2, glay_length (by omega) (by omega)]
  · intro i hi'
    rw [e2] at hi'
    rw [gd_splice _ _ _ _ (by rw [e1, List.length_replicate]; omega), gd_splice _ _ _ _ (by rw [e0]; omega)]
    simp only [glay, gd_app, gd_take, gd_drop, gd_rep, gtext, List.length_take, List.length_drop, List.length_replicate, List.length_append]
    repeat' split
    all_goals first
      | omega
      | rfl
      | (congr 1; omega)
      | (apply h.z <;> omega)
      | (symm; apply h.z <;> omega)

/-- The gap grown where it stands. -/
theorem ggrow {zs : List Int} {lo hi n : Nat} (h1 : lo ≤ hi) (h2 : hi ≤ zs.length) (hn : zs.length ≤ n) :
    splice (splice (List.replicate n 0) 0 (zs.take lo)) (n - (zs.length - hi)) (zs.drop hi) = glay (gtext zs lo hi) lo n := by
  have e0 : (splice (List.replicate n (0 : Int)) 0 (zs.take lo)).length = n := by
    rw [length_splice _ _ _ (by simp only [List.length_take, List.length_replicate]; omega), List.length_replicate]
  have hL : (gtext zs lo hi).length = zs.length - (hi - lo) := gtext_length h1 h2
  have e2 : (splice (splice (List.replicate n 0) 0 (zs.take lo)) (n - (zs.length - hi)) (zs.drop hi)).length = n := by
    rw [length_splice _ _ _ (by rw [e0, List.length_drop]; omega), e0]
  apply gd_ext
  · rw [e2, glay_length (by omega) (by omega)]
  · intro i hi'
    rw [e2] at hi'
    rw [gd_splice _ _ _ _ (by rw [e0, List.length_drop]; omega), gd_splice _ _ _ _ (by simp only [List.length_take, List.length_replicate]; omega)]
    simp only [glay, gd_app, gd_take, gd_drop, gd_rep, gtext, List.length_take, List.length_drop, List.length_replicate, List.length_append]
    repeat' split
    all_goals first
      | omega
      | rfl
      | (congr 1; omega)

/-- A laid text is valid, and its text is the text. -/
theorem glay_valid {xs : List Int} {p n : Nat} (h1 : p ≤ xs.length) (h2 : xs.length ≤ n) (h3 : n ≤ 65536) (h4 : xs.length ≤ 8192) : GV (glay xs p n) p (p + (n - xs.length)) := by
  refine ⟨by omega, by rw [glay_length h1 h2]; omega, fun i a b => ?_, by rw [glay_length h1 h2]; exact h3, by rw [glay_length h1 h2]; omega⟩
  simp only [glay, gd_app, gd_take, gd_drop, gd_rep, List.length_take, List.length_replicate]
  repeat' split
  all_goals first | omega | rfl

theorem glay_text {xs : List Int} {p n : Nat} (h1 : p ≤ xs.length) (h2 : xs.length ≤ n) : gtext (glay xs p n) p (p + (n - xs.length)) = xs := by
  unfold gtext
  rw [glay, List.take_append_of_le_length (by simp only [List.length_take]; omega), List.take_of_length_le (by simp only [List.length_take]; omega)]
  rw [← List.append_assoc, List.drop_append_of_le_length (by simp only [List.length_append, List.length_take, List.length_replicate]; omega), List.drop_of_length_le (by simp only [List.length_append, List.length_take, List.length_replicate]; omega), List.nil_append, List.take_append_drop]

/-- The text put over the gap's start. -/
theorem glay_put {xs ts : List Int} {p n : Nat} (h1 : p ≤ xs.length) (h2 : xs.length + ts.length ≤ n) :
    splice (glay xs p n) p ts = glay (xs.take p ++ (ts ++ xs.drop p)) (p + ts.length) n := by
  have e0 : (glay xs p n).length = n := glay_length h1 (by omega)
  have e1 : (xs.take p ++ (ts ++ xs.drop p)).length = xs.length + ts.length := by simp only [List.length_append, List.length_take, List.length_drop]; omega
  apply gd_ext
  · rw [length_splice _ _ _ (by omega), e0, glay_length (by omega) (by omega)]
  · intro i hi
    rw [length_splice _ _ _ (by omega), e0] at hi
    rw [gd_splice _ _ _ _ (by omega)]
    simp only [glay, gd_app, gd_take, gd_drop, gd_rep, List.length_take, List.length_drop, List.length_replicate, List.length_append]
    repeat' split
    all_goals first
      | omega
      | rfl
      | (congr 1; omega)

/-- Runes taken out: their cells cleared behind the gap. -/
theorem glay_cut {xs : List Int} {p q n : Nat} (h1 : p ≤ q) (h2 : q ≤ xs.length) (h3 : xs.length ≤ n) :
    splice (glay xs p n) (p + (n - xs.length)) (List.replicate (q - p) 0) = glay (xs.take p ++ xs.drop q) p n := by
  have e0 : (glay xs p n).length = n := glay_length (by omega) (by omega)
  have e1 : (xs.take p ++ xs.drop q).length = xs.length - (q - p) := by simp only [List.length_append, List.length_take, List.length_drop]; omega
  apply gd_ext
  · rw [length_splice _ _ _ (by rw [List.length_replicate]; omega), e0, glay_length (by omega) (by omega)]
  · intro i hi
    rw [length_splice _ _ _ (by rw [List.length_replicate]; omega), e0] at hi
    rw [gd_splice _ _ _ _ (by rw [List.length_replicate]; omega)]
    simp only [glay, gd_app, gd_take, gd_drop, gd_rep, List.length_take, List.length_drop, List.length_replicate, List.length_append]
    repeat' split
    all_goals first
      | omega
      | rfl
      | (congr 1; omega)

/-- Doubled until there is room. -/
inductive Dbl (m : Nat) : Nat → Nat → Prop
  | stop (c : Nat) (h : m ≤ c) : Dbl m c c
  | more (c r : Nat) (h : c < m) (k : Dbl m (c * 2) r) : Dbl m c r

theorem dbl_ex (m : Nat) : ∀ k c : Nat, 1 ≤ c → m - c ≤ k → ∃ r, Dbl m c r := by
  intro k
  induction k with
  | zero => intro c h1 h2; exact ⟨c, .stop c (by omega)⟩
  | succ k ih =>
    intro c h1 h2
    by_cases h : c < m
    · obtain ⟨r, hr⟩ := ih (c * 2) (by omega) (by omega)
      exact ⟨r, .more c r h hr⟩
    · exact ⟨c, .stop c (by omega)⟩

theorem dbl_bd {m c r : Nat} (h : Dbl m c r) : c ≤ r ∧ m ≤ r ∧ (r = c ∨ r < 2 * m) := by
  induction h with
  | stop c h => exact ⟨Nat.le_refl _, h, .inl rfl⟩
  | more c r h k ih => refine ⟨by omega, ih.2.1, .inr ?_⟩; rcases ih.2.2 with e | e <;> omega
end Go.Proofs.YtbgngikejgihgagGreatDoor

namespace Go.Proofs.YtbgngikejgihgagGreatDoor
open Go Go.RowKit
set_option linter.unusedVariables false

def bdP (n : Nat) (lo hi : Int) : Prop := (n : Int) ≤ 65536 ∧ (0 ≤ hi ∧ hi ≤ n) ∧ (0 ≤ lo ∧ lo ≤ hi) ∧ n - (hi - lo) ≤ 8192
def gkP (zs : List Int) (lo hi : Int) : Prop := bdP zs.length lo hi ∧ ∀ i : Nat, lo ≤ i → (i : Int) < hi → zs.getD i 0 = 0
/-- A row's text. -/
def grT (g : Gr) : List Int := gtext g.cells g.lo.toNat g.hi.toNat
def okG (g : Gr) : Prop := gkP g.cells g.lo g.hi ∧ 10 ∉ grT g
theorem grT_len {g : Gr} (h : gkP g.cells g.lo g.hi) : ((grT g).length : Int) = g.cells.length - (g.hi - g.lo) ∧ (grT g).length ≤ 8192 ∧ g.cells.length ≤ 65536 := by
  obtain ⟨⟨h1, ⟨h2, h3⟩, ⟨h4, h5⟩, h6⟩, _⟩ := h
  have := gtext_length (zs := g.cells) (lo := g.lo.toNat) (hi := g.hi.toNat) (by omega) (by omega)
  unfold grT
  omega
theorem gd_mem {zs : List Int} {z : Int} : z ∈ zs ↔ ∃ i, i < zs.length ∧ zs.getD i 0 = z := by
  constructor
  · intro h
    obtain ⟨i, hi, rfl⟩ := List.getElem_of_mem h
    exact ⟨i, hi, by simp [List.getD_eq_getElem?_getD, hi]⟩
  · rintro ⟨i, hi, rfl⟩
    simp [List.getD_eq_getElem?_getD, hi]
theorem mem_cells {g : Gr} (h : gkP g.cells g.lo g.hi) : 10 ∈ g.cells ↔ 10 ∈ grT g := by
  obtain ⟨⟨h1, ⟨h2, h3⟩, ⟨h4, h5⟩, h6⟩, hz⟩ := h
  constructor
  · intro hm
    obtain ⟨i, hi, he⟩ := gd_mem.1 hm
    unfold grT gtext
    rw [List.mem_append]
    by_cases a : i < g.lo.toNat
    · left
      rw [gd_mem]
      exact ⟨i, by rw [List.length_take]; omega, by rw [gd_take, if_pos a]; exact he⟩
    · by_cases b : g.hi.toNat ≤ i
      · right
        rw [gd_mem]
        exact ⟨i - g.hi.toNat, by rw [List.length_drop]; omega, by rw [gd_drop, show g.hi.toNat + (i - g.hi.toNat) = i by omega]; exact he⟩
      · have := hz i (by omega) (by omega)
        rw [he] at this
        exact absurd this (by decide)
  · intro hm
    unfold grT gtext at hm
    rcases List.mem_append.1 hm with q | q
    · exact List.mem_of_mem_take q
    · exact List.mem_of_mem_drop q

/-- Lines with breaks between them. -/
def jt : List (List Int) → List Int
  | [] => []
  | l :: ls => 10 :: (l ++ jt ls)
def jn : List (List Int) → List Int
  | [] => []
  | l :: ls => l ++ jt ls
theorem jt_snoc (ls : List (List Int)) (l : List Int) : jt (ls ++ [l]) = jt ls ++ 10 :: l := by
  induction ls with
  | nil => simp [jt]
  | cons a ls ih => simp [jt, ih]
theorem jn_snoc {ls : List (List Int)} (h : ls ≠ []) (l : List Int) : jn (ls ++ [l]) = jn ls ++ 10 :: l := by
  cases ls with
  | nil => exact absurd rfl h
  | cons a ls => simp [jn, jt_snoc]
theorem jt_len (ls : List (List Int)) : (jt ls).length = smL ls + ls.length := by
  induction ls with
  | nil => rfl
  | cons a ls ih => simp only [jt, smL, List.length_cons, List.length_append, ih]; omega
theorem jn_len {ls : List (List Int)} (h : ls ≠ []) : (jn ls).length + 1 = smL ls + ls.length := by
  cases ls with
  | nil => exact absurd rfl h
  | cons a ls => simp only [jn, smL, List.length_cons, List.length_append, jt_len]; omega
theorem smL_take_succ {ls : List (List Int)} {i : Nat} {l : List Int} (h : ls[i]? = some l) : smL (ls.take (i + 1)) = smL (ls.take i) + l.length := by
  rw [List.take_add_one, h, smL_app]
  simp [smL]
theorem smL_take_le (ls : List (List Int)) (i : Nat) : smL (ls.take i) ≤ smL ls := by
  have := smL_app (ls.take i) (ls.drop i)
  rw [List.take_append_drop] at this
  omega
/-- Where the lines start. -/
def stL (ls : List (List Int)) : List Int := (List.range ls.length).map fun i : Nat => ((smL (ls.take i) + i : Nat) : Int)
theorem stL_len (ls : List (List Int)) : (stL ls).length = ls.length := by simp [stL]
theorem stL_get {ls : List (List Int)} {i : Nat} (h : i < ls.length) : (stL ls)[i]? = some ((smL (ls.take i) + i : Nat) : Int) := by simp [stL, h]
theorem stL_getD {ls : List (List Int)} {i : Nat} (h : i < ls.length) : (stL ls).getD i 0 = ((smL (ls.take i) + i : Nat) : Int) := by simp [stL, List.getD_eq_getElem?_getD, h]
theorem stL_take_succ {ls : List (List Int)} {i : Nat} (h : i < ls.length) : (stL ls).take (i + 1) = (stL ls).take i ++ [((smL (ls.take i) + i : Nat) : Int)] := by
  rw [List.take_add_one, stL_get h]; rfl

/-- A valid line buffer. -/
def LV (gs : List Gr) (st : List Int) : Prop := (1 ≤ gs.length ∧ gs.length ≤ 8193 ∧ 1 ≤ st.length ∧ st.length ≤ gs.length) ∧ (∀ g ∈ gs, okG g) ∧ (jn (gs.map grT)).length ≤ 8192 ∧ st = (stL (gs.map grT)).take st.length
end Go.Proofs.YtbgngikejgihgagGreatDoor

namespace Go.Proofs.YtbgngikejgihgagGreatDoor
open Go Go.RowKit

set_option maxHeartbeats 400000 in
theorem eq32 (xs : List Int) (v u : Value) (w : World) (h1 : Rd .i32 w v xs) (h2 : Rd .i32 w u xs) (hn : xs.length ≤ 1099511627776) :
    Calls Tryz.prog 19 #[v, u] w fun e w' => e = .returned (.bool true) ∧ ∃ n, w' = w.drewN n := by
  by_cases h0 : xs.length = 0
  · have e0 : xs = [] := List.eq_nil_of_length_eq_zero h0
    subst e0
    obtain ⟨ao, cap, rfl⟩ : ∃ ao cap, v = .slice ao 0 cap := by
      rcases h1 with ⟨ao, cap, rfl, _⟩ | ⟨_, _, _, _, hp, _⟩
      · exact ⟨_, _, rfl⟩
      · simp at hp
    obtain ⟨ao', cap', rfl⟩ : ∃ ao cap, u = .slice ao 0 cap := by
      rcases h2 with ⟨ao, cap, rfl, _⟩ | ⟨_, _, _, _, hp, _⟩
      · exact ⟨_, _, rfl⟩
      · simp at hp
    clear h1 h2
    go_enter Tryz.func19, Tryz.ntmps19
    go_wp2
    refine wp_loop_rounds 1 ?_
    rw [rounds_succ]
    go_wp2
    go_ret
    exact ⟨rfl, 0, rfl⟩
  · obtain ⟨b, off, cap, rfl, hc⟩ : ∃ b off cap, v = .slice (some ⟨b, off, none⟩) xs.length cap ∧ ∀ i, i < xs.length → w.cell? ⟨b, off + i, none⟩ = some (.int .i32 (xs.getD i 0)) := by
      rcases h1 with ⟨ao, cap, _, e⟩ | ⟨b, off, cap, e, hp, hc⟩
      · subst e; simp at h0
      · exact ⟨b, off, cap, e, hc⟩
    obtain ⟨b', off', cap', rfl, hc'⟩ : ∃ b off cap, u = .slice (some ⟨b, off, none⟩) xs.length cap ∧ ∀ i, i < xs.length → w.cell? ⟨b, off + i, none⟩ = some (.int .i32 (xs.getD i 0)) := by
      rcases h2 with ⟨ao, cap, _, e⟩ | ⟨b, off, cap, e, hp, hc⟩
      · subst e; simp at h0
      · exact ⟨b, off, cap, e, hc⟩
    clear h1 h2
    generalize hl : xs.length = n at *
    clear hl
    have hne : ((n : Int) != (n : Int)) = false := by simp
    have HC := hide hc
    have HC' := hide hc'
    clear hc hc'
    go_enter Tryz.func19, Tryz.ntmps19
    go_wp2
    go_loopw [5] (fun i wr => ∃ k nq : Nat, k ≤ n ∧ i = .int .i64 k ∧ wr = w.drewN nq) (fun i _ => n - (intOf i).toNat)
    case atStart => exact ⟨0, 0, Nat.zero_le _, rfl, rfl⟩
    case round =>
      obtain ⟨k, nq, hk, rfl, rfl⟩ := hrel
      by_cases hlt : k < n
      · have hx := HC.out k hlt
        have hy := HC'.out k hlt
        generalize xs.getD k 0 = z at hx hy
        have hz : (z != z) = false := by simp
        go_wp2
        go_quiet (fail)
        go_wp2
        go_roundw
        case rel => exact ⟨k + 1, _, by omega, by go_num, rfl⟩
        case measure => simp [intOf]; omega
      · go_wp2
        go_ret
        exact ⟨rfl, _, rfl⟩
end Go.Proofs.YtbgngikejgihgagGreatDoor

namespace Go.Proofs.YtbgngikejgihgagGreatDoor
open Go Go.RowKit

set_option maxHeartbeats 400000 in
theorem mark32 (zs : List Int) (v : Value) (base : Nat) (n : Nat) (k0 : Int) (w : World) (h : w.ownsRow base 21 1 v n (ints .i32 zs)) (hn : n ≤ 1099511627776) (h0 : 0 ≤ k0) (h1 : k0 ≤ 1099511627776) :
    Calls Tryz.prog 20 #[v, .int .i64 k0] w fun e w' => e = .returned (.int .i64 (k0 + n)) ∧
      w'.ownsRow base 21 1 v n (ints .i32 (marks .i32 k0 n)) ∧ w.grownBy w' v.ownBlock := by
  have hl : zs.length = n := by have := h.1; simpa [ints] using this
  rcases h.2 with ⟨rfl, rfl⟩ | ⟨g, cap, cur, rfl, _⟩
  · go_enter Tryz.func20, Tryz.ntmps20
    go_wp2
    refine wp_loop_rounds 1 ?_
    rw [rounds_succ]
    go_wp2
    go_ret
    exact ⟨by simp, World.ownsRow_nil _ _ _ _, grown_refl _ _⟩
  · have HO := hide h
    clear h
    go_enter Tryz.func20, Tryz.ntmps20
    go_wp2
    go_loopw [1, 5] (fun kk i wr => ∃ j : Nat, j ≤ n ∧ kk = .int .i64 (k0 + j) ∧ i = .int .i64 j ∧
        wr.ownsRow base 21 1 (.slice (some ⟨g, 0, none⟩) n cap) n (ints .i32 (marks .i32 k0 j ++ zs.drop j)) ∧ w.grownBy wr (some g))
      (fun _ i _ => n - (intOf i).toNat)
    case atStart => exact ⟨0, Nat.zero_le _, by go_num, rfl, by simpa [marks] using HO.out, grown_refl _ _⟩
    case round =>
      obtain ⟨j, hj, rfl, rfl, hown, hg⟩ := hrel
      by_cases hlt : j < n
      · have hy := owns_cell hown j hlt
        have hf : wr.frozen? ⟨g, j, none⟩ = false := hown.frozenAt j
        have hst := hown.stored j (.int .i32 (IntKind.i32.wrap (k0 + j)))
        rw [ints_set, marks_set (by omega)] at hst
        rw [IntWalk.i32_left] at hst
        generalize (marks .i32 k0 j ++ zs.drop j).getD j 0 = z at hy
        have HS := hide hst
        have HG := hide hg
        clear hst hg hown
        go_wp2
        go_roundw
        case rel => exact ⟨j + 1, by omega, by go_num, by go_num, HS.out.1, grown_trans HG.out HS.out.2⟩
        case measure => simp [intOf]; omega
      · obtain rfl : j = n := by omega
        rw [List.drop_of_length_le (by omega), List.append_nil] at hown
        have HS := hide hown
        have HG := hide hg
        clear hown hg
        go_wp2
        go_ret
        exact ⟨rfl, HS.out, HG.out⟩
end Go.Proofs.YtbgngikejgihgagGreatDoor

namespace Go.Proofs.YtbgngikejgihgagGreatDoor
open Go Go.RowKit

set_option maxHeartbeats 400000 in
theorem held32 (v : Value) (n : Nat) (k0 : Int) (w : World) (h : Rd .i32 w v (marks .i32 k0 n)) (hn : n ≤ 1099511627776) (h0 : 0 ≤ k0) (h1 : k0 ≤ 1099511627776) :
    Calls Tryz.prog 82 #[v, .int .i64 k0] w fun e w' => e = .returned (.int .i64 (k0 + n)) ∧ w' = w := by
  rcases h with ⟨ao, cap, rfl, e⟩ | ⟨b, off, cap, rfl, hp, hc⟩
  · have e' : n = 0 := by have := congrArg List.length e; simpa [marks] using this
    subst e'
    clear e
    go_enter Tryz.func82, Tryz.ntmps82
    go_wp2
    refine wp_loop_rounds 1 ?_
    rw [rounds_succ]
    go_wp2
    go_ret
    exact ⟨by simp, rfl⟩
  · have hc' : ∀ i, i < n → w.cell? ⟨b, off + i, none⟩ = some (.int .i32 (wrap32 (k0 + i))) := fun i hi => by
      rw [hc i (by rw [marks_length]; exact hi), marks_getD hi, IntWalk.i32_left]
    rw [marks_length]
    have HC := hide hc'
    clear hc hc' hp
    go_enter Tryz.func82, Tryz.ntmps82
    go_wp2
    go_loop [1, 5] (fun kk i => ∃ j : Nat, j ≤ n ∧ kk = .int .i64 (k0 + j) ∧ i = .int .i64 j) (fun _ i => n - (intOf i).toNat)
    case atStart => exact ⟨0, Nat.zero_le _, by go_num, rfl⟩
    case round =>
      obtain ⟨j, hj, rfl, rfl⟩ := hrel
      by_cases hlt : j < n
      · have hy := HC.out j hlt
        have hz : (wrap32 (k0 + j) != wrap32 (k0 + j)) = false := by simp
        go_wp2
        go_round
        case rel => exact ⟨j + 1, by omega, by go_num, by go_num⟩
        case measure => simp [intOf]; omega
      · obtain rfl : j = n := by omega
        go_wp2
        go_ret
        exact ⟨rfl, rfl⟩
end Go.Proofs.YtbgngikejgihgagGreatDoor
