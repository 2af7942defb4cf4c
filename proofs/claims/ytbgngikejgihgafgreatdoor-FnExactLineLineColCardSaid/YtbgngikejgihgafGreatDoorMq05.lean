import Derived.Test.YtbgngikejgihgafGreatDoorMq03
import Derived.Test.YtbgngikejgihgafGreatDoorMq04
import Derived.Test.YtbgngikejgihgafGreatDoorProg
import Derived.Test.YtbgngikejgihgafGreatDoorMq01
import Derived.WalkKit
import Derived.WalkLawsBesides
import Derived.Deep.QuietTactic
import Derived.BigQuiet
namespace Go.Proofs.YtbgngikejgihgafGreatDoor
open Go Go.RowKit
set_option linter.unusedVariables false

def bdP (n : Nat) (lo hi : Int) : Prop := (n : Int) ≤ 65536 ∧ (0 ≤ hi ∧ hi ≤ n) ∧ (0 ≤ lo ∧ lo ≤ hi) ∧ n - (hi - lo) ≤ 8192
def gkP (zs : List Int) (lo hi : Int) : Prop := bdP zs.length lo hi ∧ ∀ i : Nat, lo ≤ i → (i : Int) < hi → zs.getD i 0 = 0
/-- A row's text. -/
def grT (g : Gr) : List Int := gtext g.cells g.lo.toNat g.hi.toNat
def okG (g : Gr) : Prop := gkP g.cells g.lo g.hi ∧ 10 ∉ grT g
theorem grT_len {g : Gr} (h : gkP g.cells g.lo g.hi) : ((grT g).length : Int) = g.cells.length - (g.hi - g.lo) ∧ (grT g).length ≤ 8192 ∧ g.cells.length ≤ 65536 := by
  obtain ⟨⟨h1, ⟨h2, h3⟩, ⟨h4, h5⟩, h6⟩, _⟩ := h
  have := gtext_length (zs := g.cells) (lo := g.lo.toNat) (hi := g.hi.toNat) (by omega) (by omega)
  unfold grT
  omega
theorem gd_mem {zs : List Int} {z : Int} : z ∈ zs ↔ ∃ i, i < zs.length ∧ zs.getD i 0 = z := by
  constructor
  · intro h
    obtain ⟨i, hi, rfl⟩ := List.getElem_of_mem h
    exact ⟨i, hi, by simp [List.getD_eq_getElem?_getD, hi]⟩
  · rintro ⟨i, hi, rfl⟩
    simp [List.getD_eq_getElem?_getD, hi]
theorem mem_cells {g : Gr} (h : gkP g.cells g.lo g.hi) : 10 ∈ g.cells ↔ 10 ∈ grT g := by
  obtain ⟨⟨h1, ⟨h2, h3⟩, ⟨h4, h5⟩, h6⟩, hz⟩ := h
  constructor
  · intro hm
    obtain ⟨i, hi, he⟩ := gd_mem.1 hm
    unfold grT gtext
    rw [List.mem_append]
    by_cases a : i < g.lo.toNat
    · left
      rw [gd_mem]
      exact ⟨i, by rw [List.length_take]; omega, by rw [gd_take, if_pos a]; exact he⟩
    · by_cases b : g.hi.toNat ≤ i
      · right
        rw [gd_mem]
        exact ⟨i - g.hi.toNat, by rw [List.length_drop]; omega, by rw [gd_drop, show g.hi.toNat + (i - g.hi.toNat) = i by omega]; exact he⟩
      · have := hz i (by omega) (by omega)
        rw [he] at this
        exact absurd this (by decide)
  · intro hm
    unfold grT gtext at hm
    rcases List.mem_append.1 hm with q | q
    · exact List.mem_of_mem_take q
    · exact List.mem_of_mem_drop q

/-- Lines with breaks between them. -/
def jt : List (List Int) → List Int
  | [] => []
  | l :: ls => 10 :: (l ++ jt ls)
def jn : List (List Int) → List Int
  | [] => []
  | l :: ls => l ++ jt ls
theorem jt_snoc (ls : List (List Int)) (l : List Int) : jt (ls ++ [l]) = jt ls ++ 10 :: l := by
  induction ls with
  | nil => simp [jt]
  | cons a ls ih => simp [jt, ih]
theorem jn_snoc {ls : List (List Int)} (h : ls ≠ []) (l : List Int) : jn (ls ++ [l]) = jn ls ++ 10 :: l := by
  cases ls with
  | nil => exact absurd rfl h
  | cons a ls => simp [jn, jt_snoc]
theorem jt_len (ls : List (List Int)) : (jt ls).length = smL ls + ls.length := by
  induction ls with
  | nil => rfl
  | cons a ls ih => simp only [jt, smL, List.length_cons, List.length_append, ih]; omega
theorem jn_len {ls : List (List Int)} (h : ls ≠ []) : (jn ls).length + 1 = smL ls + ls.length := by
  cases ls with
  | nil => exact absurd rfl h
  | cons a ls => simp only [jn, smL, List.length_cons, List.length_append, jt_len]; omega
theorem smL_take_succ {ls : List (List Int)} {i : Nat} {l : List Int} (h : ls[i]? = some l) : smL (ls.take (i + 1)) = smL (ls.take i) + l.length := by
  rw [List.take_add_one, h, smL_app]
  simp [smL]
theorem smL_take_le (ls : List (List Int)) (i : Nat) : smL (ls.take i) ≤ smL ls := by
  have := smL_app (ls.take i) (ls.drop i)
  rw [List.take_append_drop] at this
  omega
/-- Where the lines start. -/
def stL (ls : List (List Int)) : List Int := (List.range ls.length).map fun i : Nat => ((smL (ls.take i) + i : Nat) : Int)
theorem stL_len (ls : List (List Int)) : (stL ls).length = ls.length := by simp [stL]
theorem stL_get {ls : List (List Int)} {i : Nat} (h : i < ls.length) : (stL ls)[i]? = some ((smL (ls.take i) + i : Nat) : Int) := by simp [stL, h]
theorem stL_getD {ls : List (List Int)} {i : Nat} (h : i < ls.length) : (stL ls).getD i 0 = ((smL (ls.take i) + i : Nat) : Int) := by simp [stL, List.getD_eq_getElem?_getD, h]
theorem stL_take_succ {ls : List (List Int)} {i : Nat} (h : i < ls.length) : (stL ls).take (i + 1) = (stL ls).take i ++ [((smL (ls.take i) + i : Nat) : Int)] := by
  rw [List.take_add_one, stL_get h]; rfl

/-- A valid line buffer. -/
def LV (gs : List Gr) (st : List Int) : Prop := (1 ≤ gs.length ∧ gs.length ≤ 8193 ∧ 1 ≤ st.length ∧ st.length ≤ gs.length) ∧ (∀ g ∈ gs, okG g) ∧ (jn (gs.map grT)).length ≤ 8192 ∧ st = (stL (gs.map grT)).take st.length
/-- Where a line and column are. -/
def offG (ls : List (List Int)) (line col : Int) : Int :=
  if 0 ≤ line ∧ line < ls.length ∧ 0 ≤ col ∧ col ≤ (ls.getD line.toNat []).length then ((smL (ls.take line.toNat) + line.toNat : Nat) : Int) + col else -1
end Go.Proofs.YtbgngikejgihgafGreatDoor

namespace Go.Proofs.YtbgngikejgihgafGreatDoor
open Go Go.RowKit

set_option maxHeartbeats 400000 in
theorem eq32 (xs : List Int) (v u : Value) (w : World) (h1 : Rd .i32 w v xs) (h2 : Rd .i32 w u xs) (hn : xs.length ≤ 1099511627776) :
    Calls Tryz.prog 126 #[v, u] w fun e w' => e = .returned (.bool true) ∧ ∃ n, w' = w.drewN n := by
  by_cases h0 : xs.length = 0
  · have e0 : xs = [] := List.eq_nil_of_length_eq_zero h0
    subst e0
    obtain ⟨ao, cap, rfl⟩ : ∃ ao cap, v = .slice ao 0 cap := by
      rcases h1 with ⟨ao, cap, rfl, _⟩ | ⟨_, _, _, _, hp, _⟩
      · exact ⟨_, _, rfl⟩
      · simp at hp
    obtain ⟨ao', cap', rfl⟩ : ∃ ao cap, u = .slice ao 0 cap := by
      rcases h2 with ⟨ao, cap, rfl, _⟩ | ⟨_, _, _, _, hp, _⟩
      · exact ⟨_, _, rfl⟩
      · simp at hp
    clear h1 h2
    go_enter Tryz.func126, Tryz.ntmps126
    go_wp2
    refine wp_loop_rounds 1 ?_
    rw [rounds_succ]
    go_wp2
    go_ret
    exact ⟨rfl, 0, rfl⟩
  · obtain ⟨b, off, cap, rfl, hc⟩ : ∃ b off cap, v = .slice (some ⟨b, off, none⟩) xs.length cap ∧ ∀ i, i < xs.length → w.cell? ⟨b, off + i, none⟩ = some (.int .i32 (xs.getD i 0)) := by
      rcases h1 with ⟨ao, cap, _, e⟩ | ⟨b, off, cap, e, hp, hc⟩
      · subst e; simp at h0
      · exact ⟨b, off, cap, e, hc⟩
    obtain ⟨b', off', cap', rfl, hc'⟩ : ∃ b off cap, u = .slice (some ⟨b, off, none⟩) xs.length cap ∧ ∀ i, i < xs.length → w.cell? ⟨b, off + i, none⟩ = some (.int .i32 (xs.getD i 0)) := by
      rcases h2 with ⟨ao, cap, _, e⟩ | ⟨b, off, cap, e, hp, hc⟩
      · subst e; simp at h0
      · exact ⟨b, off, cap, e, hc⟩
    clear h1 h2
    generalize hl : xs.length = n at *
    clear hl
    have hne : ((n : Int) != (n : Int)) = false := by simp
    have HC := hide hc
    have HC' := hide hc'
    clear hc hc'
    go_enter Tryz.func126, Tryz.ntmps126
    go_wp2
    go_loopw [5] (fun i wr => ∃ k nq : Nat, k ≤ n ∧ i = .int .i64 k ∧ wr = w.drewN nq) (fun i _ => n - (intOf i).toNat)
    case atStart => exact ⟨0, 0, Nat.zero_le _, rfl, rfl⟩
    case round =>
      obtain ⟨k, nq, hk, rfl, rfl⟩ := hrel
      by_cases hlt : k < n
      · have hx := HC.out k hlt
        have hy := HC'.out k hlt
        generalize xs.getD k 0 = z at hx hy
        have hz : (z != z) = false := by simp
        go_wp2
        go_quiet (fail)
        go_wp2
        go_roundw
        case rel => exact ⟨k + 1, _, by omega, by go_num, rfl⟩
        case measure => simp [intOf]; omega
      · go_wp2
        go_ret
        exact ⟨rfl, _, rfl⟩
end Go.Proofs.YtbgngikejgihgafGreatDoor

namespace Go.Proofs.YtbgngikejgihgafGreatDoor
open Go Go.RowKit

set_option maxHeartbeats 400000 in
theorem mark32 (zs : List Int) (v : Value) (base : Nat) (n : Nat) (k0 : Int) (w : World) (h : w.ownsRow base 21 1 v n (ints .i32 zs)) (hn : n ≤ 1099511627776) (h0 : 0 ≤ k0) (h1 : k0 ≤ 1099511627776) :
    Calls Tryz.prog 101 #[v, .int .i64 k0] w fun e w' => e = .returned (.int .i64 (k0 + n)) ∧
      w'.ownsRow base 21 1 v n (ints .i32 (marks .i32 k0 n)) ∧ w.grownBy w' v.ownBlock := by
  have hl : zs.length = n := by have := h.1; simpa [ints] using this
  rcases h.2 with ⟨rfl, rfl⟩ | ⟨g, cap, cur, rfl, _⟩
  · go_enter Tryz.func101, Tryz.ntmps101
    go_wp2
    refine wp_loop_rounds 1 ?_
    rw [rounds_succ]
    go_wp2
    go_ret
    exact ⟨by simp, World.ownsRow_nil _ _ _ _, grown_refl _ _⟩
  · have HO := hide h
    clear h
    go_enter Tryz.func101, Tryz.ntmps101
    go_wp2
    go_loopw [1, 5] (fun kk i wr => ∃ j : Nat, j ≤ n ∧ kk = .int .i64 (k0 + j) ∧ i = .int .i64 j ∧
        wr.ownsRow base 21 1 (.slice (some ⟨g, 0, none⟩) n cap) n (ints .i32 (marks .i32 k0 j ++ zs.drop j)) ∧ w.grownBy wr (some g))
      (fun _ i _ => n - (intOf i).toNat)
    case atStart => exact ⟨0, Nat.zero_le _, by go_num, rfl, by simpa [marks] using HO.out, grown_refl _ _⟩
    case round =>
      obtain ⟨j, hj, rfl, rfl, hown, hg⟩ := hrel
      by_cases hlt : j < n
      · have hy := owns_cell hown j hlt
        have hf : wr.frozen? ⟨g, j, none⟩ = false := hown.frozenAt j
        have hst := hown.stored j (.int .i32 (IntKind.i32.wrap (k0 + j)))
        rw [ints_set, marks_set (by omega)] at hst
        rw [IntWalk.i32_left] at hst
        generalize (marks .i32 k0 j ++ zs.drop j).getD j 0 = z at hy
        have HS := hide hst
        have HG := hide hg
        clear hst hg hown
        go_wp2
        go_roundw
        case rel => exact ⟨j + 1, by omega, by go_num, by go_num, HS.out.1, grown_trans HG.out HS.out.2⟩
        case measure => simp [intOf]; omega
      · obtain rfl : j = n := by omega
        rw [List.drop_of_length_le (by omega), List.append_nil] at hown
        have HS := hide hown
        have HG := hide hg
        clear hown hg
        go_wp2
        go_ret
        exact ⟨rfl, HS.out, HG.out⟩
end Go.Proofs.YtbgngikejgihgafGreatDoor
