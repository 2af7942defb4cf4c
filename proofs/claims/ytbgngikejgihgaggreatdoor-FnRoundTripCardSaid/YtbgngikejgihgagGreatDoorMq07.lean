import Derived.Test.YtbgngikejgihgagGreatDoorMq03
import Derived.WalkLawsBesides
import Derived.Test.YtbgngikejgihgagGreatDoorMq01
import Derived.Laws.CopyOwn
import Derived.Test.YtbgngikejgihgagGreatDoorMq06
import Derived.WalkKit
import Derived.Test.YtbgngikejgihgagGreatDoorMq05
import Derived.Test.YtbgngikejgihgagGreatDoorProg
namespace Go.Proofs.YtbgngikejgihgagGreatDoor
open Go Go.RowKit
set_option linter.unusedVariables false

def itV (x : It) : List Value := [.int .i64 x.pc.off, .int .i64 x.pc.len, .int .i64 x.pc.brk, .int .i64 x.lv]
def itVs (xs : List It) : List Value := xs.flatMap itV
theorem itVs_length (xs : List It) : (itVs xs).length = xs.length * 4 := by
  induction xs with
  | nil => rfl
  | cons x xs ih => simp only [itVs, List.flatMap_cons, List.length_append] at ih ⊢; rw [ih]; simp [itV]; omega
theorem itVs_append (a b : List It) : itVs (a ++ b) = itVs a ++ itVs b := by simp [itVs]
theorem itVs_get (xs : List It) (i k : Nat) (x : It) (h : xs[i]? = some x) (hk : k < 4) : (itVs xs)[i * 4 + k]? = (itV x)[k]? := by
  induction xs generalizing i with
  | nil => simp at h
  | cons y ys ih =>
    cases i with
    | zero =>
      simp at h; subst h
      simp only [itVs, List.flatMap_cons, Nat.zero_mul, Nat.zero_add]
      rw [List.getElem?_append_left (by simp [itV]; omega)]
    | succ i =>
      simp only [List.getElem?_cons_succ] at h
      have := ih i h
      simp only [itVs, List.flatMap_cons] at this ⊢
      rw [List.getElem?_append_right (by simp [itV]; omega)]
      rw [← this]
      congr 1
      simp [itV]; omega

/-- The call's own items. -/
def OwI (w : World) (base : Nat) (v : Value) (xs : List It) : Prop := w.ownsRow base 145 4 v xs.length (itVs xs)

theorem OwI.rd {w : World} {base : Nat} {v : Value} {xs : List It} (h : OwI w base v xs) : RdI w.heap.size w v xs := by
  unfold OwI at h
  have hlt := h.lt
  rcases h.2 with ⟨hv, hn⟩ | ⟨g, cap, cur, hv, hrest⟩
  · left; exact ⟨none, 0, by rw [hv], by apply List.eq_nil_of_length_eq_zero; omega⟩
  · obtain ⟨hb, hg, hcap, hcm, hsz, htk⟩ := hrest
    subst hv
    have hgl := (hlt g rfl).2
    by_cases h0 : xs.length = 0
    · left; rw [h0]; exact ⟨_, _, rfl, by apply List.eq_nil_of_length_eq_zero; exact h0⟩
    · right
      refine ⟨g, 0, cap, rfl, ⟨by omega, hcap, hcm⟩, hgl, fun i x hx => ?_⟩
      have hil : i < xs.length := by
        rcases Nat.lt_or_ge i xs.length with q | q
        · exact q
        · rw [List.getElem?_eq_none q] at hx; cases hx
      have key : ∀ k, k < 4 → w.cell? ⟨g, i * 4 + k, none⟩ = (itV x)[k]? := fun k hk => by
        rw [cell_of_row w g _ _ _ _ hg, ← itVs_get xs i k x hx hk, ← htk, List.getElem?_take, if_pos (by omega)]
        simp
      have k0 := key 0 (by omega)
      have k1 := key 1 (by omega)
      have k2 := key 2 (by omega)
      have k3 := key 3 (by omega)
      simp only [Nat.zero_add]
      exact ⟨k0, k1, k2, k3⟩
theorem OwI.below {w w' : World} {base B : Nat} {v : Value} {xs : List It} (h : OwI w base v xs) (hb : Below B w w') (hB : w.heap.size ≤ B) : OwI w' base v xs := owns_below h hb hB
theorem OwI.base {w : World} {base base' : Nat} {v : Value} {xs : List It} (h : OwI w base v xs) (hb : base' ≤ base) : OwI w base' v xs := owns_base h hb

theorem Tryz.infoIT : (Tryz.prog.info? 145).map (fun i => (i.zero, i.size, i.bytes)) = some (some (.agg #[.int .i64 0, .int .i64 0, .int .i64 0, .int .i64 0]), 4, 32) := by kernel_rfl
end Go.Proofs.YtbgngikejgihgagGreatDoor

namespace Go.Proofs.YtbgngikejgihgagGreatDoor
open Go Go.RowKit
set_option linter.unusedVariables false

theorem gd_take (a : List Int) (n i : Nat) : (a.take n).getD i 0 = if i < n then a.getD i 0 else 0 := by
  simp only [List.getD_eq_getElem?_getD, List.getElem?_take]
  split <;> rfl
theorem gd_drop (a : List Int) (n i : Nat) : (a.drop n).getD i 0 = a.getD (n + i) 0 := by
  simp only [List.getD_eq_getElem?_getD, List.getElem?_drop]
/-- The text of a gap buffer. -/
def gtext (zs : List Int) (lo hi : Nat) : List Int := zs.take lo ++ zs.drop hi
/-- Valid. -/
structure GV (zs : List Int) (lo hi : Nat) : Prop where
  a : lo ≤ hi
  b : hi ≤ zs.length
  z : ∀ i, lo ≤ i → i < hi → zs.getD i 0 = 0
  c : zs.length ≤ 65536
  t : zs.length - (hi - lo) ≤ 8192

theorem gtext_length {zs : List Int} {lo hi : Nat} (h1 : lo ≤ hi) (h2 : hi ≤ zs.length) : (gtext zs lo hi).length = zs.length - (hi - lo) := by
  simp only [gtext, List.length_append, List.length_take, List.length_drop]; omega

/-- Doubled until there is room. -/
inductive Dbl (m : Nat) : Nat → Nat → Prop
  | stop (c : Nat) (h : m ≤ c) : Dbl m c c
  | more (c r : Nat) (h : c < m) (k : Dbl m (c * 2) r) : Dbl m c r

end Go.Proofs.YtbgngikejgihgagGreatDoor

namespace Go.Proofs.YtbgngikejgihgagGreatDoor
open Go Go.RowKit
set_option linter.unusedVariables false

def bdP (n : Nat) (lo hi : Int) : Prop := (n : Int) ≤ 65536 ∧ (0 ≤ hi ∧ hi ≤ n) ∧ (0 ≤ lo ∧ lo ≤ hi) ∧ n - (hi - lo) ≤ 8192
def gkP (zs : List Int) (lo hi : Int) : Prop := bdP zs.length lo hi ∧ ∀ i : Nat, lo ≤ i → (i : Int) < hi → zs.getD i 0 = 0
/-- A row's text. -/
def grT (g : Gr) : List Int := gtext g.cells g.lo.toNat g.hi.toNat
def okG (g : Gr) : Prop := gkP g.cells g.lo g.hi ∧ 10 ∉ grT g
theorem grT_len {g : Gr} (h : gkP g.cells g.lo g.hi) : ((grT g).length : Int) = g.cells.length - (g.hi - g.lo) ∧ (grT g).length ≤ 8192 ∧ g.cells.length ≤ 65536 := by
  obtain ⟨⟨h1, ⟨h2, h3⟩, ⟨h4, h5⟩, h6⟩, _⟩ := h
  have := gtext_length (zs := g.cells) (lo := g.lo.toNat) (hi := g.hi.toNat) (by omega) (by omega)
  unfold grT
  omega
theorem gd_mem {zs : List Int} {z : Int} : z ∈ zs ↔ ∃ i, i < zs.length ∧ zs.getD i 0 = z := by
  constructor
  · intro h
    obtain ⟨i, hi, rfl⟩ := List.getElem_of_mem h
    exact ⟨i, hi, by simp [List.getD_eq_getElem?_getD, hi]⟩
  · rintro ⟨i, hi, rfl⟩
    simp [List.getD_eq_getElem?_getD, hi]
theorem mem_cells {g : Gr} (h : gkP g.cells g.lo g.hi) : 10 ∈ g.cells ↔ 10 ∈ grT g := by
  obtain ⟨⟨h1, ⟨h2, h3⟩, ⟨h4, h5⟩, h6⟩, hz⟩ := h
  constructor
  · intro hm
    obtain ⟨i, hi, he⟩ := gd_mem.1 hm
    unfold grT gtext
    rw [List.mem_append]
    by_cases a : i < g.lo.toNat
    · left
      rw [gd_mem]
      exact ⟨i, by rw [List.length_take]; omega, by rw [gd_take, if_pos a]; exact he⟩
    · by_cases b : g.hi.toNat ≤ i
      · right
        rw [gd_mem]
        exact ⟨i - g.hi.toNat, by rw [List.length_drop]; omega, by rw [gd_drop, show g.hi.toNat + (i - g.hi.toNat) = i by omega]; exact he⟩
      · have := hz i (by omega) (by omega)
        rw [he] at this
        exact absurd this (by decide)
  · intro hm
    unfold grT gtext at hm
    rcases List.mem_append.1 hm with q | q
    · exact List.mem_of_mem_take q
    · exact List.mem_of_mem_drop q

/-- Lines with breaks between them. -/
def jt : List (List Int) → List Int
  | [] => []
  | l :: ls => 10 :: (l ++ jt ls)
def jn : List (List Int) → List Int
  | [] => []
  | l :: ls => l ++ jt ls
theorem jt_snoc (ls : List (List Int)) (l : List Int) : jt (ls ++ [l]) = jt ls ++ 10 :: l := by
  induction ls with
  | nil => simp [jt]
  | cons a ls ih => simp [jt, ih]
theorem jn_snoc {ls : List (List Int)} (h : ls ≠ []) (l : List Int) : jn (ls ++ [l]) = jn ls ++ 10 :: l := by
  cases ls with
  | nil => exact absurd rfl h
  | cons a ls => simp [jn, jt_snoc]
theorem jt_len (ls : List (List Int)) : (jt ls).length = smL ls + ls.length := by
  induction ls with
  | nil => rfl
  | cons a ls ih => simp only [jt, smL, List.length_cons, List.length_append, ih]; omega
theorem jn_len {ls : List (List Int)} (h : ls ≠ []) : (jn ls).length + 1 = smL ls + ls.length := by
  cases ls with
  | nil => exact absurd rfl h
  | cons a ls => simp only [jn, smL, List.length_cons, List.length_append, jt_len]; omega
theorem smL_take_succ {ls : List (List Int)} {i : Nat} {l : List Int} (h : ls[i]? = some l) : smL (ls.take (i + 1)) = smL (ls.take i) + l.length := by
  rw [List.take_add_one, h, smL_app]
  simp [smL]
theorem smL_take_le (ls : List (List Int)) (i : Nat) : smL (ls.take i) ≤ smL ls := by
  have := smL_app (ls.take i) (ls.drop i)
  rw [List.take_append_drop] at this
  omega
/-- Where the lines start. -/
def stL (ls : List (List Int)) : List Int := (List.range ls.length).map fun i : Nat => ((smL (ls.take i) + i : Nat) : Int)
theorem stL_len (ls : List (List Int)) : (stL ls).length = ls.length := by simp [stL]
theorem stL_get {ls : List (List Int)} {i : Nat} (h : i < ls.length) : (stL ls)[i]? = some ((smL (ls.take i) + i : Nat) : Int) := by simp [stL, h]
theorem stL_getD {ls : List (List Int)} {i : Nat} (h : i < ls.length) : (stL ls).getD i 0 = ((smL (ls.take i) + i : Nat) : Int) := by simp [stL, List.getD_eq_getElem?_getD, h]
theorem stL_take_succ {ls : List (List Int)} {i : Nat} (h : i < ls.length) : (stL ls).take (i + 1) = (stL ls).take i ++ [((smL (ls.take i) + i : Nat) : Int)] := by
  rw [List.take_add_one, stL_get h]; rfl

/-- A valid line buffer. -/
def LV (gs : List Gr) (st : List Int) : Prop := (1 ≤ gs.length ∧ gs.length ≤ 8193 ∧ 1 ≤ st.length ∧ st.length ≤ gs.length) ∧ (∀ g ∈ gs, okG g) ∧ (jn (gs.map grT)).length ≤ 8192 ∧ st = (stL (gs.map grT)).take st.length
/-- Where a line and column are. -/
def offG (ls : List (List Int)) (line col : Int) : Int :=
  if 0 ≤ line ∧ line < ls.length ∧ 0 ≤ col ∧ col ≤ (ls.getD line.toNat []).length then ((smL (ls.take line.toNat) + line.toNat : Nat) : Int) + col else -1
end Go.Proofs.YtbgngikejgihgagGreatDoor

namespace Go.Proofs.YtbgngikejgihgagGreatDoor
open Go Go.RowKit
set_option linter.unusedVariables false

theorem ls_succ (zs : List Int) (t : Nat) : ls zs (t + 1) = bb zs t := by simp [ls]
theorem bb_pos (zs : List Int) (n : Nat) (h : n < bkn zs) : 0 < bb zs n := (bb_key zs 0 n h).1 (by simp [bkn])
theorem bkn_ls (zs : List Int) (t : Nat) (h : t ≤ bkn zs) : bkn (zs.take (ls zs t)) = t := by
  cases t with
  | zero => simp [ls, bkn]
  | succ t =>
    rw [ls_succ]
    have h1 := bb_key zs (bb zs t) t (by omega)
    have h2 := bb_key zs (bb zs t - 1) t (by omega)
    have h3 := bb_pos zs t (by omega)
    have h4 := bb_le zs t
    have h5 := bkn_take_succ zs (bb zs t - 1) (by omega)
    rw [show bb zs t - 1 + 1 = bb zs t by omega] at h5
    split at h5 <;> omega
theorem bb_step (zs : List Int) (t : Nat) (h : t < bkn zs) : bb zs t = ls zs t + bb (zs.drop (ls zs t)) 0 ∧ 0 < bkn (zs.drop (ls zs t)) ∧ ls zs t < zs.length := by
  have h1 := bkn_ls zs t (by omega)
  have h2 := bkn_append (zs.take (ls zs t)) (zs.drop (ls zs t))
  rw [List.take_append_drop, h1] at h2
  have h3 := bkn_le (zs.drop (ls zs t))
  rw [List.length_drop] at h3
  have h4 := bb_right (zs.take (ls zs t)) (zs.drop (ls zs t)) t (by omega) (by omega)
  rw [List.take_append_drop, h1, Nat.sub_self, List.length_take] at h4
  exact ⟨by omega, by omega, by omega⟩
/-- The first break. -/
theorem bb_first (zs : List Int) (k : Nat) (h : 0 < bkn zs) (hk : k < bb zs 0) : (zs.getD k 0 = 10 → bb zs 0 = k + 1) ∧ (¬ zs.getD k 0 = 10 → k + 1 < bb zs 0) ∧ k < zs.length := by
  have h1 := bb_le zs 0
  have h2 := bb_key zs k 0 h
  have h3 := bb_key zs (k + 1) 0 h
  have h4 := bkn_take_succ zs k (by omega)
  refine ⟨fun hz => ?_, fun hz => ?_, by omega⟩
  · rw [if_pos hz] at h4; omega
  · rw [if_neg hz] at h4; omega
theorem seek_nonneg (S : List Int) (m : Pc → Int) : ∀ (T : AT) (k : Int), T.wp S → 0 ≤ (seekT m T k).2.1 ∧ 0 ≤ (seekT m T k).2.2.1
  | .nil, _, _ => by simp [seekT]
  | .node l p r, k, hw => by
    obtain ⟨hl, hp, hr⟩ := hw
    have e1 := AT.tx_len hl
    have e2 := AT.tx_brk hl
    have e3 := (brk_bd (l.tx S)).1
    have e4 := hp.2.2.2
    have e5 := (brk_bd (ptx S p)).1
    have e6 := hp.2.1
    have i1 := seek_nonneg S m l k hl
    have i2 := seek_nonneg S m r (k - sumM m (l.told 0) - m p) hr
    simp only [seekT]
    split
    · exact i1
    · split
      · simp only; omega
      · simp only; omega
theorem seekP_nil (S : List Int) : ∀ (T : AT) (k : Int), T.wp S → 0 ≤ k → 0 < (seekP (fun p => p.len) T k).len ∨ (seekP (fun p => p.len) T k).off = 0
  | .nil, _, _, _ => .inr rfl
  | .node l p r, k, hw, h0 => by
    obtain ⟨hl, hp, hr⟩ := hw
    have e1 := AT.tx_len hl
    have e0 : sumM (fun p => p.len) (l.told 0) = l.rns := by rw [sumM_len, AT.rns_told]
    simp only [seekP, e0]
    split
    · exact seekP_nil S l k hl h0
    · split
      · left; omega
      · exact seekP_nil S r _ hr (by omega)
/-- Line and column by counting. -/
def lcL (zs : List Int) (k : Nat) : Int := (bkn (zs.take k) : Nat)
def lcC (zs : List Int) (k : Nat) : Int := (k : Int) - (ls zs (bkn (zs.take k)) : Nat)
theorem lc_zero (zs : List Int) : lcL zs 0 = 0 ∧ lcC zs 0 = 0 := by simp [lcL, lcC, bkn, ls]
theorem lc_brk (zs : List Int) (k : Nat) (h : k < zs.length) (hz : zs.getD k 0 = 10) : lcL zs (k + 1) = lcL zs k + 1 ∧ lcC zs (k + 1) = 0 := by
  have h1 := bkn_take_succ zs k h
  rw [if_pos hz] at h1
  have h2 := ls_step zs k h hz
  unfold lcL lcC
  rw [h2, h1]
  omega
theorem lc_col (zs : List Int) (k : Nat) (h : k < zs.length) (hz : ¬ zs.getD k 0 = 10) : lcL zs (k + 1) = lcL zs k ∧ lcC zs (k + 1) = lcC zs k + 1 := by
  have h1 := bkn_take_succ zs k h
  rw [if_neg hz] at h1
  have h2 : bkn (zs.take (k + 1)) = bkn (zs.take k) := by omega
  unfold lcL lcC
  rw [h2]
  omega
theorem lc_bd (zs : List Int) (k : Nat) (h : k ≤ zs.length) : 0 ≤ lcL zs k ∧ lcL zs k ≤ k ∧ 0 ≤ lcC zs k ∧ lcC zs k ≤ k := by
  have h1 := bkn_le (zs.take k)
  have h2 := ls_low zs k h
  rw [List.length_take] at h1
  unfold lcL lcC
  omega
/-- The offset of a line and a column, or none. -/
def offL (zs : List Int) (line col : Int) : Int :=
  if 0 ≤ line ∧ line ≤ brk zs ∧ 0 ≤ col ∧ (ls zs line.toNat : Int) + col ≤ (le zs line.toNat : Nat) then (ls zs line.toNat : Int) + col else -1
theorem offL_some {zs : List Int} {line col : Int} {k : Nat} (hk : k ≤ zs.length) (h1 : lcL zs k = line) (h2 : lcC zs k = col) : offL zs line col = k := by
  have h3 := ls_low zs k hk
  have h4 := lc_only zs k hk
  have h5 := bkn_take zs k
  subst h1 h2
  unfold offL lcL lcC
  rw [brk_bkn, Int.toNat_natCast, if_pos (by omega)]
  omega
theorem offL_none {zs : List Int} {line col : Int} (h : ∀ k, k ≤ zs.length → ¬ (lcL zs k = line ∧ lcC zs k = col)) : offL zs line col = -1 := by
  unfold offL
  split
  · rename_i hc
    exfalso
    rw [brk_bkn] at hc
    obtain ⟨l, rfl⟩ : ∃ l : Nat, line = l := ⟨line.toNat, by omega⟩
    obtain ⟨c, rfl⟩ : ∃ c : Nat, col = c := ⟨col.toNat, by omega⟩
    rw [Int.toNat_natCast] at hc
    obtain ⟨h1, h2⟩ := lc_there zs l c (by omega) (by omega)
    refine h (ls zs l + c) h1 ⟨by rw [lcL, h2], ?_⟩
    rw [lcC, h2]
    omega
  · rfl
end Go.Proofs.YtbgngikejgihgagGreatDoor

namespace Go.Proofs.YtbgngikejgihgagGreatDoor
open Go Go.RowKit
set_option linter.unusedVariables false

theorem bkn_no {zs : List Int} (h : 10 ∉ zs) : bkn zs = 0 := by
  induction zs with
  | nil => rfl
  | cons c zs ih =>
    rw [bkn_cons, if_neg (fun e => h (by simp [e])), ih (fun hm => h (List.mem_cons_of_mem _ hm))]
theorem lc_first {l r : List Int} (h : 10 ∉ l) {c : Nat} (hc : c ≤ l.length) : lcL (l ++ r) c = 0 ∧ lcC (l ++ r) c = c := by
  have e : (l ++ r).take c = l.take c := List.take_append_of_le_length hc
  have b0 : bkn (l.take c) = 0 := bkn_no (fun hm => h (List.mem_of_mem_take hm))
  unfold lcL lcC
  rw [e, b0]
  simp [ls]
theorem ls_shift {l J : List Int} (h : 10 ∉ l) (b : Nat) (hb : b ≤ bkn J) : ls (l ++ 10 :: J) (b + 1) = l.length + 1 + ls J b := by
  unfold ls
  rw [if_neg (by omega), show b + 1 - 1 = b by omega]
  rw [bb_right l (10 :: J) b (by rw [bkn_no h]; omega) (by rw [bkn_no h, bkn_cons, if_pos rfl]; omega), bkn_no h, Nat.sub_zero]
  rw [bb, if_pos rfl]
  by_cases hb0 : b = 0
  · simp [hb0]
  · simp [hb0]; omega
theorem lc_shift {l J : List Int} (h : 10 ∉ l) {k : Nat} (hk : k ≤ J.length) : lcL (l ++ 10 :: J) (l.length + 1 + k) = lcL J k + 1 ∧ lcC (l ++ 10 :: J) (l.length + 1 + k) = lcC J k := by
  have e : (l ++ 10 :: J).take (l.length + 1 + k) = l ++ 10 :: J.take k := by
    rw [show l.length + 1 + k = l.length + (k + 1) by omega, List.take_append, List.take_of_length_le (by omega)]
    simp
  have b0 : bkn (l ++ 10 :: J.take k) = bkn (J.take k) + 1 := by
    rw [bkn_append, bkn_no h, bkn_cons, if_pos rfl]; omega
  unfold lcL lcC
  rw [e, b0, ls_shift h _ (bkn_take J k)]
  constructor <;> omega
/-- Where a place of the joined lines lies. -/
theorem jn_at : ∀ (L : List (List Int)) (h : ∀ l ∈ L, 10 ∉ l) (i c : Nat) (l : List Int), L[i]? = some l → c ≤ l.length → lcL (jn L) (smL (L.take i) + i + c) = i ∧ lcC (jn L) (smL (L.take i) + i + c) = c ∧ smL (L.take i) + i + c ≤ (jn L).length
  | [], _, i, c, l, h, _ => by simp at h
  | [a], hn, i, c, l, h, hc => by
    cases i with
    | zero =>
      simp at h; subst h
      have := lc_first (r := []) (hn a (by simp)) hc
      simp only [List.append_nil] at this
      simp [jn, jt, smL]
      exact ⟨this.1, this.2, hc⟩
    | succ i => simp at h
  | a :: b :: L, hn, i, c, l, h, hc => by
    have ej : jn (a :: b :: L) = a ++ 10 :: jn (b :: L) := by simp [jn, jt]
    cases i with
    | zero =>
      simp at h; subst h
      have := lc_first (r := 10 :: jn (b :: L)) (hn a (by simp)) hc
      rw [ej]
      simp [smL]
      exact ⟨this.1, this.2, by omega⟩
    | succ i =>
      simp only [List.getElem?_cons_succ] at h
      have ih := jn_at (b :: L) (fun l hl => hn l (List.mem_cons_of_mem _ hl)) i c l h hc
      have sh := lc_shift (J := jn (b :: L)) (hn a (by simp)) ih.2.2
      rw [ej]
      have e1 : smL ((a :: b :: L).take (i + 1)) + (i + 1) + c = a.length + 1 + (smL ((b :: L).take i) + i + c) := by
        simp only [List.take_succ_cons, smL]; omega
      rw [e1, sh.1, sh.2, ih.1, ih.2.1]
      refine ⟨by omega, rfl, ?_⟩
      simp only [List.length_append, List.length_cons]
      omega
/-- Every place is one of a line. -/
theorem jn_cov : ∀ (L : List (List Int)) (hne : L ≠ []) (k : Nat), k ≤ (jn L).length → ∃ i c l, L[i]? = some l ∧ c ≤ l.length ∧ k = smL (L.take i) + i + c
  | [], h, _, _ => absurd rfl h
  | [a], _, k, hk => ⟨0, k, a, by simp, by simpa [jn, jt] using hk, by simp [smL]⟩
  | a :: b :: L, _, k, hk => by
    have ej : jn (a :: b :: L) = a ++ 10 :: jn (b :: L) := by simp [jn, jt]
    rw [ej, List.length_append, List.length_cons] at hk
    by_cases h : k ≤ a.length
    · exact ⟨0, k, a, by simp, h, by simp [smL]⟩
    · obtain ⟨i, c, l, h1, h2, h3⟩ := jn_cov (b :: L) (by simp) (k - a.length - 1) (by omega)
      refine ⟨i + 1, c, l, by simpa using h1, h2, ?_⟩
      simp only [List.take_succ_cons, smL]
      omega
theorem offL_jn {L : List (List Int)} (hne : L ≠ []) (hn : ∀ l ∈ L, 10 ∉ l) (line col : Int) : offL (jn L) line col = offG L line col := by
  unfold offG
  split
  · rename_i h
    obtain ⟨h1, h2, h3, h4⟩ := h
    obtain ⟨i, rfl⟩ : ∃ i : Nat, line = i := ⟨line.toNat, by omega⟩
    obtain ⟨c, rfl⟩ : ∃ c : Nat, col = c := ⟨col.toNat, by omega⟩
    rw [Int.toNat_natCast] at h4 ⊢
    have hi : i < L.length := by omega
    have hl : L[i]? = some L[i] := by simp [hi]
    have hd : L.getD i [] = L[i] := by simp [List.getD_eq_getElem?_getD, hi]
    rw [hd] at h4
    have := jn_at L hn i c _ hl (by omega)
    rw [offL_some this.2.2 (by rw [this.1]) (by rw [this.2.1])]
    omega
  · rename_i h
    refine offL_none (fun k hk hq => h ?_)
    obtain ⟨i, c, l, h1, h2, rfl⟩ := jn_cov L hne k hk
    have := jn_at L hn i c l h1 h2
    have hi : i < L.length := (List.getElem?_eq_some_iff.1 h1).1
    rw [this.1, this.2.1] at hq
    obtain ⟨rfl, rfl⟩ := hq
    refine ⟨by omega, by omega, by omega, ?_⟩
    rw [Int.toNat_natCast]
    have hd : L.getD i [] = l := by simp [List.getD_eq_getElem?_getD, h1]
    rw [hd]; omega
end Go.Proofs.YtbgngikejgihgagGreatDoor

namespace Go.Proofs.YtbgngikejgihgagGreatDoor
open Go Go.RowKit
set_option linter.unusedVariables false

theorem Tryz.infoG : (Tryz.prog.info? 21).map (fun i => (i.zero, i.size, i.bytes)) = some (some (.int .i32 0), 1, 4) := by kernel_rfl

/-- A slice value that is nil or leads to cells. -/
def Sl (k : IntKind) (w : World) (v : Value) (zs : List Int) : Prop :=
  (v = .slice none 0 0 ∧ zs = []) ∨
  (∃ b off cap, v = .slice (some ⟨b, off, none⟩) zs.length cap ∧ b < w.heap.size ∧ ∀ i, i < zs.length → w.cell? ⟨b, off + i, none⟩ = some (.int k (zs.getD i 0)))

theorem Sl.of_owns {k : IntKind} {w : World} {base : Nat} {e : TypeId} {v : Value} {n : Nat} {zs : List Int} (h : w.ownsRow base e 1 v n (ints k zs)) : Sl k w v zs := by
  have hl : zs.length = n := by have := h.1; simpa [ints] using this
  rcases h.2 with ⟨hv, hn⟩ | ⟨g, cap, cur, hv, _⟩
  · left; exact ⟨hv, by apply List.eq_nil_of_length_eq_zero; omega⟩
  · subst hv
    right
    exact ⟨g, 0, cap, by rw [hl], (h.lt g rfl).2, fun i hi => by rw [Nat.zero_add]; exact owns_cell h i (by omega)⟩

theorem Sl.below {k : IntKind} {w w' : World} {v : Value} {zs : List Int} (h : Sl k w v zs) (hb : Below w.heap.size w w') : Sl k w' v zs := by
  rcases h with h | ⟨b, off, cap, hv, hB, hc⟩
  · exact .inl h
  · exact .inr ⟨b, off, cap, hv, Nat.lt_of_lt_of_le hB hb.size, fun i hi => (hb.cell (p := ⟨b, off + i, none⟩) hB).trans (hc i hi)⟩

theorem Sl.rd {k : IntKind} {w : World} {v : Value} {zs : List Int} (h : Sl k w v zs) {b off cap : Nat} (hv : v = .slice (some ⟨b, off, none⟩) zs.length cap) : ∀ j u, (ints k zs)[j]? = some u → w.cell? ((⟨b, off, none⟩ : Addr).add j) = some u := by
  rcases h with ⟨h, _⟩ | ⟨b', off', cap', hv', _, hc⟩
  · rw [h] at hv; cases hv
  · rw [hv] at hv'
    simp only [Value.slice.injEq, Option.some.injEq, Addr.mk.injEq, and_true, true_and] at hv'
    obtain ⟨⟨rfl, rfl⟩, _⟩ := hv'
    have := cut_cells (o := 0) (l := zs.length) hc
    simpa using this

end Go.Proofs.YtbgngikejgihgagGreatDoor

namespace Go.Proofs.YtbgngikejgihgagGreatDoor
open Go Go.RowKit
set_option linter.unusedVariables false

theorem Tryz.infoS : (Tryz.prog.info? 36).map (fun i => (i.zero, i.size, i.bytes)) = some (some (.slice none 0 0), 1, 24) := by kernel_rfl

/-- Where the first break is, or -1. -/
def ix (zs : List Int) : Int := if fb zs < zs.length then fb zs else -1
set_option maxHeartbeats 1000000 in
set_option maxRecDepth 100000 in
theorem indexL (zs : List Int) (b o cap : Nat) (w : World) (hc : ∀ i, i < zs.length → w.cell? ⟨b, o + i, none⟩ = some (.int .i32 (zs.getD i 0))) (hn : zs.length ≤ 1048576) (hcap : zs.length ≤ cap) (hm : cap ≤ maxLen) :
    Calls Tryz.prog 190 #[.slice (some ⟨b, o, none⟩) zs.length cap, .int .i32 10] w fun e w' => e = .returned (.int .i64 (ix zs)) ∧ w' = w := by
  have HC := hide hc
  have HL := hide (fun k (hk : k < fb zs) => fb_no hk)
  have HA := hide (fun (h : fb zs < zs.length) => fb_at h)
  have hl := fb_le zs
  unfold ix
  generalize hR : fb zs = R at *
  generalize hN : zs.length = n at *
  unfold maxLen at hm
  obtain ⟨X, hX⟩ : ∃ X : Int, X = if R < n then (R : Int) else -1 := ⟨_, rfl⟩
  rw [← hX]
  have HX := hide hX
  clear hc hX
  go_enter Tryz.func190, Tryz.ntmps190
  go_wp2_with fail
  go_loop [8] (fun i => ∃ k : Nat, k ≤ R ∧ i = .int .i64 k) (fun i => n - (intOf i).toNat)
  case atStart => exact ⟨0, Nat.zero_le _, rfl⟩
  case round =>
    obtain ⟨k, hk, rfl⟩ := hrel
    by_cases hkn : k < n
    · have hx := HC.out k hkn
      by_cases hkR : k = R
      · subst hkR
        have e1 := HA.out hkn
        rw [e1] at hx
        have HK := hide hkn
        have hkn' : (k : Int) < n := by omega
        clear hkn
        go_wp2
        go_ret
        exact ⟨by have h9 := HX.out; rw [if_pos HK.out] at h9; rw [h9]; rfl, rfl⟩
      · have hne := HL.out k (by omega)
        generalize zs.getD k 0 = z at *
        have hz' : ¬ 10 = z := fun h => hne h.symm
        have hkn' : (k : Int) < n := by omega
        go_wp2
        go_round
        case rel => exact ⟨k + 1, by omega, by go_num⟩
        case measure => simp [intOf]; omega
    · have hkn' : ¬ (k : Int) < n := by omega
      have HK := hide (show ¬ R < n by omega)
      go_wp2
      go_ret
      exact ⟨by have h9 := HX.out; rw [if_neg HK.out] at h9; rw [h9]; rfl, rfl⟩
set_option maxHeartbeats 1000000 in
theorem indexNil (w : World) : Calls Tryz.prog 190 #[.slice none 0 0, .int .i32 10] w fun e w' => e = .returned (.int .i64 (-1)) ∧ w' = w := by
  go_enter Tryz.func190, Tryz.ntmps190
  go_wp2_with fail
  refine wp_loop_rounds 1 ?_
  rw [rounds_succ]
  go_wp2
  go_ret
  exact ⟨rfl, rfl⟩

end Go.Proofs.YtbgngikejgihgagGreatDoor

namespace Go.Proofs.YtbgngikejgihgagGreatDoor
open Go Go.RowKit
set_option linter.unusedVariables false

set_option maxHeartbeats 400000 in
theorem plainRN (ao : Option Addr) (n cap : Nat) (w : World) :
    Calls Tryz.prog 109 #[.slice ao n cap] w fun e w' => e = .returned (.agg #[.slice ao n cap, .int .i64 n, .int .i64 n]) ∧ Below w.heap.size w w' := by
  have HB := hide ((Below.refl w.heap.size w).alloc (Nat.le_refl _) (.cells #[.slice ao n cap, .int .i64 n, .int .i64 n] 174))
  go_enter Tryz.func109, Tryz.ntmps109
  go_wp2
  refine bodyPost_ret (v := .agg #[.slice ao n cap, .int .i64 n, .int .i64 n]) (by simp [results, Tryz.results109, go_sem]) rfl ⟨rfl, HB.out⟩

end Go.Proofs.YtbgngikejgihgagGreatDoor
