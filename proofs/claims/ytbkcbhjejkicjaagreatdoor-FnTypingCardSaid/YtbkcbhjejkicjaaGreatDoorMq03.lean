import Derived.Test.YtbkcbhjejkicjaaGreatDoorMq02
import Derived.Deep.QuietTactic
import Derived.BigQuiet
import Derived.Laws.Rows
import Derived.Deep.RegionWith
import Derived.Deep.Cut
import Derived.Deep.CutRange
import Derived.Deep.CutBlock
import Derived.Deep.DeepCutAuto
import Derived.Laws.AppendOwnNone
import Derived.Sort.Grow
import Derived.Lib.Small
import Derived.StillTailTactics
namespace Go.Proofs.YtbkcbhjejkicjaaGreatDoor
open Go Go.RowKit
set_option linter.unusedVariables false

theorem Tryz.infoS : (Tryz.prog.info? 49).map (fun i => (i.zero, i.size, i.bytes)) = some (some (.slice none 0 0), 1, 24) := by kernel_rfl

/-- Where the first break is, or -1. -/
def ix (zs : List Int) : Int := if fb zs < zs.length then fb zs else -1
set_option maxHeartbeats 1000000 in
set_option maxRecDepth 100000 in
theorem indexL (zs : List Int) (b o cap : Nat) (w : World) (hc : ∀ i, i < zs.length → w.cell? ⟨b, o + i, none⟩ = some (.int .i32 (zs.getD i 0))) (hn : zs.length ≤ 1048576) (hcap : zs.length ≤ cap) (hm : cap ≤ maxLen) :
    Calls Tryz.prog 72 #[.slice (some ⟨b, o, none⟩) zs.length cap, .int .i32 10] w fun e w' => e = .returned (.int .i64 (ix zs)) ∧ w' = w := by
  have HC := hide hc
  have HL := hide (fun k (hk : k < fb zs) => fb_no hk)
  have HA := hide (fun (h : fb zs < zs.length) => fb_at h)
  have hl := fb_le zs
  unfold ix
  generalize hR : fb zs = R at *
  generalize hN : zs.length = n at *
  unfold maxLen at hm
  obtain ⟨X, hX⟩ : ∃ X : Int, X = if R < n then (R : Int) else -1 := ⟨_, rfl⟩
  rw [← hX]
  have HX := hide hX
  clear hc hX
  go_enter Tryz.func72, Tryz.ntmps72
  go_wp2_with fail
  go_loop [8] (fun i => ∃ k : Nat, k ≤ R ∧ i = .int .i64 k) (fun i => n - (intOf i).toNat)
  case atStart => exact ⟨0, Nat.zero_le _, rfl⟩
  case round =>
    obtain ⟨k, hk, rfl⟩ := hrel
    by_cases hkn : k < n
    · have hx := HC.out k hkn
      by_cases hkR : k = R
      · subst hkR
        have e1 := HA.out hkn
        rw [e1] at hx
        have HK := hide hkn
        have hkn' : (k : Int) < n := by omega
        clear hkn
        go_wp2
        go_ret
        exact ⟨by have h9 := HX.out; rw [if_pos HK.out] at h9; rw [h9]; rfl, rfl⟩
      · have hne := HL.out k (by omega)
        generalize zs.getD k 0 = z at *
        have hz' : ¬ 10 = z := fun h => hne h.symm
        have hkn' : (k : Int) < n := by omega
        go_wp2
        go_round
        case rel => exact ⟨k + 1, by omega, by go_num⟩
        case measure => simp [intOf]; omega
    · have hkn' : ¬ (k : Int) < n := by omega
      have HK := hide (show ¬ R < n by omega)
      go_wp2
      go_ret
      exact ⟨by have h9 := HX.out; rw [if_neg HK.out] at h9; rw [h9]; rfl, rfl⟩
end Go.Proofs.YtbkcbhjejkicjaaGreatDoor

namespace Go.Proofs.YtbkcbhjejkicjaaGreatDoor
open Go Go.RowKit
set_option linter.unusedVariables false

set_option maxHeartbeats 400000 in
theorem plainRN (ao : Option Addr) (n cap : Nat) (w : World) :
    Calls Tryz.prog 52 #[.slice ao n cap] w fun e w' => e = .returned (.agg #[.slice ao n cap, .int .i64 n, .int .i64 n]) ∧ Below w.heap.size w w' := by
  have HB := hide ((Below.refl w.heap.size w).alloc (Nat.le_refl _) (.cells #[.slice ao n cap, .int .i64 n, .int .i64 n] 140))
  go_enter Tryz.func52, Tryz.ntmps52
  go_wp2
  refine bodyPost_ret (v := .agg #[.slice ao n cap, .int .i64 n, .int .i64 n]) (by simp [results, Tryz.results52, go_sem]) rfl ⟨rfl, HB.out⟩

end Go.Proofs.YtbkcbhjejkicjaaGreatDoor

namespace Go.Proofs.YtbkcbhjejkicjaaGreatDoor
open Go Go.RowKit
set_option linter.unusedVariables false

/-- Rows of different kinds lie apart. -/
theorem own_apart {w : World} {B B' e e' size size' n n' q : Nat} {v v' : Value} {xs xs' : List Value} (h : w.ownsRow B e size v n xs) (h' : w.ownsRow B' e' size' v' n' xs') (hne : e ≠ e') (hq : v.ownBlock = some q) : v'.ownBlock ≠ some q := by
  intro hq'
  rcases h.2 with ⟨rfl, _⟩ | ⟨g, cap, cur, rfl, _, hgb, _⟩
  · simp [Value.ownBlock] at hq
  · simp only [Value.ownBlock, Option.some.injEq] at hq
    subst hq
    rcases h'.2 with ⟨rfl, _⟩ | ⟨g', cap', cur', rfl, _, hgb', _⟩
    · simp [Value.ownBlock] at hq'
    · simp only [Value.ownBlock, Option.some.injEq] at hq'
      subst hq'
      rw [hgb] at hgb'
      simp only [Option.some.injEq] at hgb'
      injection hgb' with _ h2 _
      exact hne h2
theorem own_kept {w w' : World} {B B' e e' size size' n n' : Nat} {v v' : Value} {xs xs' : List Value} (h : w.ownsRow B e size v n xs) (h' : w.ownsRow B' e' size' v' n' xs') (hne : e ≠ e') (hg : w.grownBy w' v'.ownBlock) : w'.ownsRow B e size v n xs :=
  owns_of_block h (fun q hq => hg.block q (h.lt q hq).2 (fun eq => own_apart h h' hne hq eq.symm))

theorem OwG.kept {t : TypeId} {w w' : World} {lo hi B' e' size' n' : Nat} {v v' : Value} {vs : List Value} {gs : List Gr} {xs' : List Value} (h : OwG t w lo hi v vs gs) (h' : w.ownsRow B' e' size' v' n' xs') (h1 : t ≠ e') (h2 : 21 ≠ e') (hg : w.grownBy w' v'.ownBlock) : OwG t w' lo hi v vs gs :=
  ⟨own_kept h.row h' h1 hg, h.bl, ⟨h.nest.len, fun i u l hu hl => own_kept (h.nest.own i u l hu hl) h' h2 hg, h.nest.bl, h.nest.ne⟩⟩

theorem get_midL {α : Type} {a b : List α} {x : α} {j : Nat} (h : a.length = j) : (a ++ x :: b)[j]? = some x := by
  subst h; simp
end Go.Proofs.YtbkcbhjejkicjaaGreatDoor

namespace Go.Proofs.YtbkcbhjejkicjaaGreatDoor
open Go Go.RowKit
set_option linter.unusedVariables false

set_option maxHeartbeats 1000000 in
theorem withinI (v lo hi : Int) (w : World) : Calls Tryz.prog 33 #[.int .i64 v, .int .i64 lo, .int .i64 hi] w fun e w' => e = .returned (.bool (decide (lo ≤ v ∧ v ≤ hi))) ∧ w' = w := by
  by_cases h0 : lo ≤ v
  · by_cases h1 : v ≤ hi
    · have hd : decide (lo ≤ v ∧ v ≤ hi) = true := by simp [h0, h1]
      rw [hd]; clear hd
      go_enter Tryz.func33, Tryz.ntmps33
      go_wp2
      go_ret
      exact ⟨rfl, rfl⟩
    · have hd : decide (lo ≤ v ∧ v ≤ hi) = false := by simp [h0, h1]
      rw [hd]; clear hd
      go_enter Tryz.func33, Tryz.ntmps33
      go_wp2
      go_ret
      exact ⟨rfl, rfl⟩
  · have hd : decide (lo ≤ v ∧ v ≤ hi) = false := by simp [h0]
    rw [hd]; clear hd
    go_enter Tryz.func33, Tryz.ntmps33
    go_wp2
    go_ret
    exact ⟨rfl, rfl⟩

/-- An error that is nothing, or a code. -/
def errV (ok : Bool) (c : Int) : Value := if ok then .nilIface else .iface 65 (.int .i64 c)

end Go.Proofs.YtbkcbhjejkicjaaGreatDoor

namespace Go.Proofs.YtbkcbhjejkicjaaGreatDoor
open Go Go.RowKit
set_option linter.unusedVariables false

/-- A gap buffer's three cells. -/
structure GC (w : World) (B o : Nat) (v : Value) (lo hi : Int) : Prop where
  c0 : w.cell? ⟨B, o, none⟩ = some v
  c1 : w.cell? ⟨B, o + 1, none⟩ = some (.int .i64 lo)
  c2 : w.cell? ⟨B, o + 2, none⟩ = some (.int .i64 hi)

theorem GC.same {w w' : World} {B o : Nat} {v : Value} {lo hi : Int} (h : GC w B o v lo hi) (hh : w'.heap = w.heap) : GC w' B o v lo hi :=
  ⟨(World.cell?_of_block (w := w) (by rw [hh])).trans h.c0, (World.cell?_of_block (w := w) (by rw [hh])).trans h.c1, (World.cell?_of_block (w := w) (by rw [hh])).trans h.c2⟩

theorem GC.drew {w : World} {B o : Nat} {v : Value} {lo hi : Int} (h : GC w B o v lo hi) (n : Nat) : GC (w.drewN n) B o v lo hi :=
  ⟨by simpa using h.c0, by simpa using h.c1, by simpa using h.c2⟩

set_option maxHeartbeats 1000000 in
theorem gapN (B o : Nat) (v : Value) (lo hi : Int) (w : World) (h : GC w B o v lo hi) (h0 : 0 ≤ lo) (h1 : lo ≤ hi) (h2 : hi ≤ 1099511627776) :
    Calls Tryz.prog 231 #[.pointer (some ⟨B, o, none⟩)] w fun e w' => e = .returned (.int .i64 (hi - lo)) ∧ ∃ n, w' = w.drewN n := by
  obtain ⟨c0, c1, c2⟩ := h
  go_enter Tryz.func231, Tryz.ntmps231
  go_wp2
  go_quiet (fail)
  go_wp2
  go_ret
  exact ⟨rfl, _, rfl⟩

set_option maxHeartbeats 1000000 in
theorem lengthG (B o : Nat) (ao : Option Addr) (n cap : Nat) (lo hi : Int) (w : World) (h : GC w B o (.slice ao n cap) lo hi) (h0 : 0 ≤ lo) (h1 : lo ≤ hi) (h2 : hi ≤ n) (hn : n ≤ 1099511627776) :
    Calls Tryz.prog 221 #[.pointer (some ⟨B, o, none⟩)] w fun e w' => e = .returned (.int .i64 (n - (hi - lo))) ∧ ∃ n, w' = w.drewN n := by
  have HK := hide (fun w h => gapN B o (.slice ao n cap) lo hi w h h0 h1 (by omega))
  have H := hide h
  obtain ⟨c0, c1, c2⟩ := h
  go_enter Tryz.func221, Tryz.ntmps221
  go_wp2
  go_quiet ((go_at_call 231; exact Calls.quiet_of (HK.out _ (H.out.drew _))))
  go_wp2
  go_ret
  exact ⟨rfl, _, rfl⟩
end Go.Proofs.YtbkcbhjejkicjaaGreatDoor

namespace Go.Proofs.YtbkcbhjejkicjaaGreatDoor
open Go Go.RowKit
set_option linter.unusedVariables false

structure ChgP (w w' : World) (S : Nat → Prop) : Prop where
  os : w'.os = w.os
  tape : w'.tape = w.tape
  output : w'.output = w.output
  size : w.heap.size ≤ w'.heap.size
  block : ∀ k, k < w.heap.size → ¬ S k → w'.heap[k]? = w.heap[k]?
theorem ChgP.reflS (w : World) (S : Nat → Prop) : ChgP w w S := ⟨rfl, rfl, rfl, Nat.le_refl _, fun _ _ _ => rfl⟩
theorem ChgP.allocS {w x : World} {S : Nat → Prop} (h : ChgP w x S) (o : Obj) : ChgP w (x.alloc o) S :=
  ⟨h.os, h.tape, h.output, by have := h.size; simp; omega, fun k hk hn => (((Below.refl x.heap.size x).alloc (Nat.le_refl _) o).block k (by have := h.size; omega)).trans (h.block k hk hn)⟩
theorem ChgP.grownS {w x y : World} {S : Nat → Prop} {r : Option Nat} (h : ChgP w x S) (hg : x.grownBy y r) (hr : ∀ q, r = some q → S q ∨ w.heap.size ≤ q) : ChgP w y S :=
  ⟨hg.os.trans h.os, hg.tape.trans h.tape, hg.output.trans h.output, Nat.le_trans h.size hg.size, fun k hk hn => (hg.block k (by have := h.size; omega) (fun e => by rcases hr k e.symm with q | q; exact hn q; omega)).trans (h.block k hk hn)⟩
theorem ChgP.setS {w x : World} {S : Nat → Prop} (h : ChgP w x S) (p : Addr) (v : Value) (hp : S p.block ∨ w.heap.size ≤ p.block) : ChgP w (x.setCell p v) S :=
  ⟨h.os, h.tape, h.output, by simp; exact h.size, fun k hk hn => (heap_setCell_other x p k v (fun e => by rcases hp with q | q; rw [← e] at q; exact hn q; omega)).trans (h.block k hk hn)⟩
theorem ChgP.transS {w x y : World} {S T : Nat → Prop} (h : ChgP w x S) (h2 : ChgP x y T) (hT : ∀ k, T k → S k ∨ w.heap.size ≤ k) : ChgP w y S :=
  ⟨h2.os.trans h.os, h2.tape.trans h.tape, h2.output.trans h.output, Nat.le_trans h.size h2.size, fun k hk hn => (h2.block k (by have := h.size; omega) (fun t => by rcases hT k t with q | q; exact hn q; omega)).trans (h.block k hk hn)⟩
theorem ChgP.belowS {w x y : World} {S : Nat → Prop} {B : Nat} (h : ChgP w x S) (hb : Below B x y) (hB : w.heap.size ≤ B) : ChgP w y S :=
  ⟨hb.os.trans h.os, hb.tape.trans h.tape, hb.output.trans h.output, Nat.le_trans h.size hb.size, fun k hk hn => (hb.block k (by omega)).trans (h.block k hk hn)⟩
theorem ChgP.of_below {w x : World} {S : Nat → Prop} {B : Nat} (hb : Below B w x) (hB : w.heap.size ≤ B) : ChgP w x S := (ChgP.reflS w S).belowS hb hB
theorem ChgP.sameS {w x y : World} {S : Nat → Prop} (h : ChgP w x S) (e : y.heap = x.heap) (eo : y.os = x.os) (et : y.tape = x.tape) (ep : y.output = x.output) : ChgP w y S :=
  ⟨eo.trans h.os, et.trans h.tape, ep.trans h.output, by rw [e]; exact h.size, fun k hk hn => by rw [e]; exact h.block k hk hn⟩
end Go.Proofs.YtbkcbhjejkicjaaGreatDoor

namespace Go.Proofs.YtbkcbhjejkicjaaGreatDoor
set_option linter.unusedVariables false

/-- A mark: id, offset, gravity. -/
abbrev Mk := Int × Int × Int

def bef (a b : Mk) : Bool := decide (a.2.1 < b.2.1 ∨ (a.2.1 = b.2.1 ∧ a.1 < b.1))
def inI (m : Mk) : Bool := decide (-1000000000 ≤ m.1 ∧ m.1 ≤ 1000000000) && decide (0 ≤ m.2.2 ∧ m.2.2 ≤ 1)
def inO (m : Mk) : Bool := decide (0 ≤ m.2.1 ∧ m.2.1 ≤ 8192)
def late (xs : List Mk) (m : Mk) : Bool := match xs.getLast? with
  | none => false
  | some l => !bef l m

def Vd (xs : List Mk) : Prop := xs.length ≤ 128 ∧ (∀ x ∈ xs, inI x = true ∧ inO x = true) ∧ xs.Pairwise fun a b => bef a b = true ∧ a.1 ≠ b.1

theorem bef_iff (a b : Mk) : bef a b = true ↔ (a.2.1 < b.2.1 ∨ (a.2.1 = b.2.1 ∧ a.1 < b.1)) := by simp [bef]
theorem bef_trans {a b c : Mk} (h1 : bef a b = true) (h2 : bef b c = true) : bef a c = true := by rw [bef_iff] at *; omega
theorem bef_irrefl (a : Mk) : bef a a = false := by simp [bef]
theorem bef_total {a b : Mk} (h : a.1 ≠ b.1) (h1 : bef a b = false) : bef b a = true := by
  have h2 : ¬ (a.2.1 < b.2.1 ∨ (a.2.1 = b.2.1 ∧ a.1 < b.1)) := by rw [← bef_iff, h1]; simp
  rw [bef_iff]; omega

/-- Sorted, and a rearrangement: there is one. -/
theorem uniq_sorted {xs ys : List Mk} (hp : xs.Perm ys) (hx : xs.Pairwise fun a b => bef b a = false) (hy : ys.Pairwise fun a b => bef b a = false) (hd : ys.Pairwise fun a b => a.1 ≠ b.1) : xs = ys := by
  refine List.Perm.eq_of_pairwise (le := fun a b => bef b a = false) (fun a b ha hb h1 h2 => ?_) hx hy hp
  have ha' : a ∈ ys := hp.subset ha
  by_cases e : a = b
  · exact e
  · have hne : a.1 ≠ b.1 := by
      obtain ⟨i, hi, ei⟩ := List.getElem_of_mem ha'
      obtain ⟨j, hj, ej⟩ := List.getElem_of_mem hb
      subst ei ej
      rcases Nat.lt_trichotomy i j with q | q | q
      · exact List.pairwise_iff_getElem.1 hd i j hi hj q
      · subst q; exact absurd rfl e
      · exact (List.pairwise_iff_getElem.1 hd j i hj hi q).symm
    rw [bef_total hne h2] at h1; cases h1

/-- The place of the first of the least. -/
def minAt (xs : List Mk) : Nat → Nat
  | 0 => 0
  | i + 1 => if bef (xs.getD i (0, 0, 0)) (xs.getD (minAt xs i) (0, 0, 0)) = true then i else minAt xs i
theorem minAt_lt (xs : List Mk) (i : Nat) (h : i ≤ xs.length) (h0 : 0 < xs.length) : minAt xs i < xs.length := by
  induction i with
  | zero => exact h0
  | succ i ih => unfold minAt; split
                 · omega
                 · exact ih (by omega)
theorem minAt_min (xs : List Mk) (i : Nat) : ∀ j, j < i → bef (xs.getD j (0, 0, 0)) (xs.getD (minAt xs i) (0, 0, 0)) = false := by
  induction i with
  | zero => intro j hj; omega
  | succ i ih =>
    intro j hj
    unfold minAt
    split
    · rename_i h
      by_cases e : j = i
      · subst e; exact bef_irrefl _
      · have h1 := ih j (by omega)
        cases h2 : bef (xs.getD j (0, 0, 0)) (xs.getD i (0, 0, 0)) with
        | false => rfl
        | true => rw [bef_trans h2 h] at h1; cases h1
    · rename_i h
      by_cases e : j = i
      · subst e; simpa using h
      · exact ih j (by omega)

/-- Again and again the first of the least. -/
def sel : Nat → List Mk → List Mk
  | 0, _ => []
  | n + 1, xs => if xs = [] then [] else xs.getD (minAt xs xs.length) (0, 0, 0) :: sel n (xs.eraseIdx (minAt xs xs.length))

theorem sel_perm (n : Nat) : ∀ xs : List Mk, xs.length ≤ n → (sel n xs).Perm xs := by
  induction n with
  | zero => intro xs h; obtain rfl : xs = [] := List.eq_nil_of_length_eq_zero (by omega); exact List.Perm.refl _
  | succ n ih =>
    intro xs h
    unfold sel
    split
    · rename_i e; rw [e]
    · rename_i e
      have h0 : 0 < xs.length := by rcases xs with _ | ⟨a, b⟩ <;> simp_all
      have hm := minAt_lt xs xs.length (Nat.le_refl _) h0
      have hl : (xs.eraseIdx (minAt xs xs.length)).length ≤ n := by rw [List.length_eraseIdx, if_pos hm]; omega
      refine (List.Perm.cons _ (ih _ hl)).trans ?_
      have e1 : xs.getD (minAt xs xs.length) (0, 0, 0) = xs[minAt xs xs.length] := by simp [List.getD_eq_getElem?_getD, hm]
      rw [e1]
      rw [List.eraseIdx_eq_take_drop_succ]
      have e2 : xs = xs.take (minAt xs xs.length) ++ xs[minAt xs xs.length] :: xs.drop (minAt xs xs.length + 1) := by
        rw [← List.drop_eq_getElem_cons hm, List.take_append_drop]
      exact (List.perm_middle).symm.trans (by rw [← e2])

theorem sel_sorted (n : Nat) : ∀ xs : List Mk, xs.length ≤ n → (sel n xs).Pairwise fun a b => bef b a = false := by
  induction n with
  | zero => intro xs h; exact List.Pairwise.nil
  | succ n ih =>
    intro xs h
    unfold sel
    split
    · exact List.Pairwise.nil
    · rename_i e
      have h0 : 0 < xs.length := by rcases xs with _ | ⟨a, b⟩ <;> simp_all
      have hm := minAt_lt xs xs.length (Nat.le_refl _) h0
      have hl : (xs.eraseIdx (minAt xs xs.length)).length ≤ n := by rw [List.length_eraseIdx, if_pos hm]; omega
      refine List.pairwise_cons.2 ⟨fun b hb => ?_, ih _ hl⟩
      have hb' : b ∈ xs := List.mem_of_mem_eraseIdx ((sel_perm n _ hl).subset hb)
      obtain ⟨j, hj, rfl⟩ := List.getElem_of_mem hb'
      have := minAt_min xs xs.length j hj
      rwa [show xs.getD j (0, 0, 0) = xs[j] by simp [List.getD_eq_getElem?_getD, hj]] at this

/-- The table in order. -/
def srt (xs : List Mk) : List Mk := sel xs.length xs
theorem srt_perm (xs : List Mk) : (srt xs).Perm xs := sel_perm _ xs (Nat.le_refl _)
theorem srt_sorted (xs : List Mk) : (srt xs).Pairwise fun a b => bef b a = false := sel_sorted _ xs (Nat.le_refl _)
theorem srt_uniq {xs ys : List Mk} (hp : ys.Perm xs) (hs : ys.Pairwise fun a b => bef b a = false) (hd : xs.Pairwise fun a b => a.1 ≠ b.1) : ys = srt xs := by
  refine uniq_sorted (hp.trans (srt_perm xs).symm) hs (srt_sorted xs) ?_
  exact hd.perm (srt_perm xs).symm (fun h => Ne.symm h)
theorem srt_length (xs : List Mk) : (srt xs).length = xs.length := (srt_perm xs).length_eq

end Go.Proofs.YtbkcbhjejkicjaaGreatDoor

namespace Go.Proofs.YtbkcbhjejkicjaaGreatDoor
open Go Go.RowKit
set_option linter.unusedVariables false

def mkV (x : Mk) : List Value := [.int .i64 x.1, .int .i64 x.2.1, .int .i64 x.2.2]
def mkA (x : Mk) : Value := .agg #[.int .i64 x.1, .int .i64 x.2.1, .int .i64 x.2.2]
def mkVs (xs : List Mk) : List Value := xs.flatMap mkV
theorem mkVs_length (xs : List Mk) : (mkVs xs).length = xs.length * 3 := by
  induction xs with
  | nil => rfl
  | cons x xs ih => simp only [mkVs, List.flatMap_cons, List.length_append] at ih ⊢; rw [ih]; simp [mkV]; omega
theorem mkVs_append (a b : List Mk) : mkVs (a ++ b) = mkVs a ++ mkVs b := by simp [mkVs]
theorem mkVs_get (xs : List Mk) (i k : Nat) (x : Mk) (h : xs[i]? = some x) (hk : k < 3) : (mkVs xs)[i * 3 + k]? = (mkV x)[k]? := by
  induction xs generalizing i with
  | nil => simp at h
  | cons y ys ih =>
    cases i with
    | zero =>
      simp at h; subst h
      simp only [mkVs, List.flatMap_cons, Nat.zero_mul, Nat.zero_add]
      rw [List.getElem?_append_left (by simp [mkV]; omega)]
    | succ i =>
      simp only [List.getElem?_cons_succ] at h
      have := ih i h
      simp only [mkVs, List.flatMap_cons] at this ⊢
      rw [List.getElem?_append_right (by simp [mkV]; omega)]
      rw [← this]
      congr 1
      simp [mkV]; omega
theorem mkVs_one (xs : List Mk) : ∀ u ∈ mkVs xs, u.oneCell' = true := by
  intro u hu
  simp only [mkVs, mkV, List.mem_flatMap, List.mem_cons, List.not_mem_nil, or_false] at hu
  obtain ⟨x, _, h | h | h⟩ := hu <;> subst h <;> rfl

theorem mkVs_set (a : List Mk) (y x : Mk) (b : List Mk) : (((mkVs (a ++ y :: b)).set (a.length * 3) (.int .i64 x.1)).set (a.length * 3 + 1) (.int .i64 x.2.1)).set (a.length * 3 + 2) (.int .i64 x.2.2) = mkVs (a ++ x :: b) := by
  have e : ∀ z : Mk, mkVs (a ++ z :: b) = mkVs a ++ ([.int .i64 z.1, .int .i64 z.2.1, .int .i64 z.2.2] ++ mkVs b) := fun z => by simp [mkVs, mkV]
  have hl := mkVs_length a
  rw [e, e]
  rw [List.set_append_right _ _ (by omega), List.set_append_right _ _ (by omega), List.set_append_right _ _ (by omega), hl]
  rw [Nat.sub_self, show a.length * 3 + 1 - a.length * 3 = 1 by omega, show a.length * 3 + 2 - a.length * 3 = 2 by omega]
  rfl
theorem mkVs_set1 (a : List Mk) (y : Mk) (z : Int) (b : List Mk) : (mkVs (a ++ y :: b)).set (a.length * 3 + 1) (.int .i64 z) = mkVs (a ++ (y.1, z, y.2.2) :: b) := by
  have e : ∀ z : Mk, mkVs (a ++ z :: b) = mkVs a ++ ([.int .i64 z.1, .int .i64 z.2.1, .int .i64 z.2.2] ++ mkVs b) := fun z => by simp [mkVs, mkV]
  have hl := mkVs_length a
  rw [e, e, List.set_append_right _ _ (by omega), hl, show a.length * 3 + 1 - a.length * 3 = 1 by omega]
  rfl

/-- A mark lies at a place. -/
def MkAt (w : World) (b o : Nat) (x : Mk) : Prop :=
  w.cell? ⟨b, o, none⟩ = some (.int .i64 x.1) ∧ w.cell? ⟨b, o + 1, none⟩ = some (.int .i64 x.2.1) ∧ w.cell? ⟨b, o + 2, none⟩ = some (.int .i64 x.2.2)

/-- A slice value that reads as these marks, in a block below B. -/
def RdM (B : Nat) (w : World) (v : Value) (xs : List Mk) : Prop :=
  (∃ ao cap, v = .slice ao 0 cap ∧ xs = []) ∨
  (∃ b off cap, v = .slice (some ⟨b, off, none⟩) xs.length cap ∧ (0 < xs.length ∧ xs.length ≤ cap ∧ cap ≤ maxLen) ∧ b < B ∧ ∀ i x, xs[i]? = some x → MkAt w b (off + i * 3) x)

theorem RdM.val {B : Nat} {w : World} {v : Value} {xs : List Mk} (h : RdM B w v xs) : ∃ ao cap, v = .slice ao xs.length cap := by
  rcases h with ⟨ao, cap, rfl, rfl⟩ | ⟨b, off, cap, rfl, _⟩
  · exact ⟨_, _, rfl⟩
  · exact ⟨_, _, rfl⟩
/-- The call's own marks. -/
def OwM (w : World) (base : Nat) (v : Value) (xs : List Mk) : Prop := w.ownsRow base 120 3 v xs.length (mkVs xs)

theorem OwM.rd {w : World} {base : Nat} {v : Value} {xs : List Mk} (h : OwM w base v xs) : RdM w.heap.size w v xs := by
  unfold OwM at h
  have hlt := h.lt
  rcases h.2 with ⟨hv, hn⟩ | ⟨g, cap, cur, hv, hrest⟩
  · left; exact ⟨none, 0, by rw [hv], by apply List.eq_nil_of_length_eq_zero; omega⟩
  · obtain ⟨hb, hg, hcap, hcm, hsz, htk⟩ := hrest
    subst hv
    have hgl := (hlt g rfl).2
    by_cases h0 : xs.length = 0
    · left; rw [h0]; exact ⟨_, _, rfl, by apply List.eq_nil_of_length_eq_zero; exact h0⟩
    · right
      refine ⟨g, 0, cap, rfl, ⟨by omega, hcap, hcm⟩, hgl, fun i x hx => ?_⟩
      have hil : i < xs.length := by
        rcases Nat.lt_or_ge i xs.length with q | q
        · exact q
        · rw [List.getElem?_eq_none q] at hx; cases hx
      have key : ∀ k, k < 3 → w.cell? ⟨g, i * 3 + k, none⟩ = (mkV x)[k]? := fun k hk => by
        rw [cell_of_row w g _ _ _ _ hg, ← mkVs_get xs i k x hx hk, ← htk, List.getElem?_take, if_pos (by omega)]
        simp
      have k0 := key 0 (by omega)
      have k1 := key 1 (by omega)
      have k2 := key 2 (by omega)
      simp only [Nat.zero_add]
      exact ⟨k0, k1, k2⟩
theorem OwM.below {w w' : World} {base B : Nat} {v : Value} {xs : List Mk} (h : OwM w base v xs) (hb : Below B w w') (hB : w.heap.size ≤ B) : OwM w' base v xs := owns_below h hb hB
theorem OwM.base {w : World} {base base' : Nat} {v : Value} {xs : List Mk} (h : OwM w base v xs) (hb : base' ≤ base) : OwM w base' v xs := owns_base h hb
theorem OwM.shape {w : World} {base : Nat} {v : Value} {xs : List Mk} (h : OwM w base v xs) : (v = .slice none 0 0 ∧ xs = []) ∨ ∃ g cap, v = .slice (some ⟨g, 0, none⟩) xs.length cap ∧ xs.length ≤ cap ∧ cap ≤ maxLen ∧ base ≤ g ∧ g < w.heap.size := by
  rcases h.2 with ⟨h1, h2⟩ | ⟨g, cap, cur, h1, h2, h3, h4, h5, _⟩
  · exact .inl ⟨h1, List.eq_nil_of_length_eq_zero h2⟩
  · exact .inr ⟨g, cap, h1, h4, h5, h2, (h.lt g (by rw [h1]; rfl)).2⟩
theorem OwM.cells {w : World} {base g cap : Nat} {xs : List Mk} (h : OwM w base (.slice (some ⟨g, 0, none⟩) xs.length cap) xs) : ∀ j u, (mkVs xs)[j]? = some u → w.cell? ((⟨g, 0, none⟩ : Addr).add j) = some u := by
  intro j u hj
  have h1 := h.cellAt j (by have := (List.getElem?_eq_some_iff.1 hj).1; rw [mkVs_length] at this; omega)
  rw [Addr.add_lit, Nat.zero_add, h1, hj]
theorem OwM.val {w : World} {base : Nat} {v : Value} {xs : List Mk} (h : OwM w base v xs) : ∃ ao cap, v = .slice ao xs.length cap := h.rd.val

theorem own_cell3 {w : World} {base g cap n : Nat} {e : TypeId} {xs : List Value} (h : w.ownsRow base e 3 (.slice (some ⟨g, 0, none⟩) n cap) n xs) (j : Nat) (hj : j < n * 3) : ∃ v, w.cell? ⟨g, j, none⟩ = some v := by
  have h1 := h.cellAt j hj
  have hl := h.1
  refine ⟨xs[j]'(by omega), ?_⟩
  rw [h1, List.getElem?_eq_getElem (by omega)]

theorem own_rowM {w : World} {base : Nat} {e : TypeId} {size : Nat} {v : Value} {n : Nat} {xs : List Value} (h : w.ownsRow base e size v n xs) : ∀ q, v.ownBlock = some q → base ≤ q := fun q hq => (h.lt q hq).1
theorem Tryz.infoMK : (Tryz.prog.info? 120).map (fun i => (i.zero, i.size, i.bytes)) = some (some (.agg #[.int .i64 0, .int .i64 0, .int .i64 0]), 3, 24) := by kernel_rfl
end Go.Proofs.YtbkcbhjejkicjaaGreatDoor

namespace Go.Proofs.YtbkcbhjejkicjaaGreatDoor
open Go Go.RowKit
set_option linter.unusedVariables false

def At32 (w : World) (b o : Nat) (zs : List Int) : Prop := ∀ i, i < zs.length → w.cell? ⟨b, o + i, none⟩ = some (.int .i32 (zs.getD i 0))
theorem At32.below {B : Nat} {w w' : World} {b o : Nat} {zs : List Int} (h : At32 w b o zs) (hb : Below B w w') (hB : b < B) : At32 w' b o zs := fun i hi => (hb.cell (p := ⟨b, o + i, none⟩) hB).trans (h i hi)
end Go.Proofs.YtbkcbhjejkicjaaGreatDoor

namespace Go.Proofs.YtbkcbhjejkicjaaGreatDoor
open Go Go.RowKit
set_option linter.unusedVariables false

def own32 (w : World) (base : Nat) (v : Value) (zs : List Int) : Prop := w.ownsRow base 21 1 v zs.length (ints .i32 zs)
theorem Tryz.info32T : (Tryz.prog.info? 21).map (fun i => (i.zero, i.size, i.bytes)) = some (some (.int .i32 0), 1, 4) := by kernel_rfl
theorem own32_new (w : World) : own32 (w.alloc (.cells #[] 21)) w.heap.size (.slice (some ⟨w.heap.size, 0, none⟩) 0 0) [] := by
  have := World.ownsRow_made (base := w.heap.size) (e := 21) (size := 1) w #[] 0 (by simp) (Nat.zero_le _) rfl
  simpa [own32, ints] using this
theorem own32_app {W : World} {base : Nat} {v : Value} {E F : List Int} {n m : Nat} (hn : E.length = n) (hm : F.length = m) (h : W.ownsRow base 21 1 v (n + m) (ints .i32 E ++ ints .i32 F)) : own32 W base v (E ++ F) := by
  unfold own32
  rw [List.length_append, hn, hm, ints_append]
  exact h
theorem own32_val {w : World} {base : Nat} {v : Value} {zs : List Int} (h : own32 w base v zs) : ∃ ao cap, v = .slice ao zs.length cap := by
  rcases h.2 with ⟨rfl, h0⟩ | ⟨g, cap, cur, rfl, _⟩
  · exact ⟨none, 0, by rw [h0]⟩
  · exact ⟨_, _, rfl⟩
theorem At32.app {w : World} {b o : Nat} {zs : List Int} (h : At32 w b o zs) (p l : Nat) (hp : p + l ≤ zs.length) : ∀ j u, (ints .i32 ((zs.drop p).take l))[j]? = some u → w.cell? ((⟨b, o + p, none⟩ : Addr).add j) = some u := by
  intro j u hj
  have hjl : j < l := by
    rcases Nat.lt_or_ge j l with q | q
    · exact q
    · rw [List.getElem?_eq_none (by simp [ints]; omega)] at hj; cases hj
  have e : ((zs.drop p).take l)[j]? = some (zs.getD (p + j) 0) := by
    rw [List.getElem?_take, if_pos hjl, List.getElem?_drop]
    simp [List.getD_eq_getElem?_getD, List.getElem?_eq_getElem (show p + j < zs.length by omega)]
  simp only [ints, List.getElem?_map, e, Option.map_some, Option.some.injEq] at hj
  subst hj
  have h9 := h (p + j) (by omega)
  rw [← Nat.add_assoc] at h9
  rw [addr_add]
  exact h9

theorem own32_at {w : World} {base g cap : Nat} {zs : List Int} (h : own32 w base (.slice (some ⟨g, 0, none⟩) zs.length cap) zs) : At32 w g 0 zs := by
  intro i hi
  have := h.cellAt i (by omega)
  rw [Nat.zero_add, this]
  simp [ints, List.getElem?_eq_getElem hi]
end Go.Proofs.YtbkcbhjejkicjaaGreatDoor

namespace Go.Proofs.YtbkcbhjejkicjaaGreatDoor
open Go Go.RowKit

/-- How many breaks. -/
def brk (zs : List Int) : Int := ((zs.filter fun z => z == 10).length : Nat)
theorem brk_bd (zs : List Int) : 0 ≤ brk zs ∧ brk zs ≤ zs.length := by
  unfold brk
  exact ⟨by omega, by have := List.length_filter_le (fun z : Int => z == 10) zs; omega⟩
theorem brk_snoc (zs : List Int) (k : Nat) (h : k < zs.length) : brk (zs.take (k + 1)) = brk (zs.take k) + if zs.getD k 0 = 10 then 1 else 0 := by
  have e : zs.getD k 0 = zs[k] := by simp [List.getD_eq_getElem?_getD, h]
  rw [e, List.take_succ_eq_append_getElem h]
  unfold brk
  rw [List.filter_append]
  by_cases hz : zs[k] = 10
  · rw [if_pos hz]; simp [hz]
  · rw [if_neg hz]; simp [hz]

end Go.Proofs.YtbkcbhjejkicjaaGreatDoor

namespace Go.Proofs.YtbkcbhjejkicjaaGreatDoor
open Go Go.RowKit Go.Lib Go.Sort
set_option linter.unusedVariables false

def orI (p q : Int) : Int := if p = 0 then q else p
def cmpM (a b : Mk) : Int := orI (compareInt a.2.1 b.2.1) (compareInt a.1 b.1)

theorem cmpM_neg (a b : Mk) : (cmpM a b < 0) ↔ bef a b = true := by
  rw [bef_iff]; unfold cmpM orI compareInt
  repeat' split
  all_goals omega
set_option maxHeartbeats 1000000 in
theorem compareL (x y : Int) (w : World) : Calls Tryz.prog 152 #[.int .i64 x, .int .i64 y] w fun e w' => e = .returned (.int .i64 (compareInt x y)) ∧ w' = w := by
  unfold compareInt
  have hx : (x != x) = false := by simp
  have hy : (y != y) = false := by simp
  by_cases h1 : x < y
  · rw [if_pos h1]
    go_enter Tryz.func152, Tryz.ntmps152
    go_wp2
    go_ret
    exact ⟨rfl, rfl⟩
  · rw [if_neg h1]
    by_cases h2 : x > y
    · rw [if_pos h2]
      have h2' : y < x := h2
      go_enter Tryz.func152, Tryz.ntmps152
      go_wp2
      go_ret
      exact ⟨rfl, rfl⟩
    · rw [if_neg h2]
      have h2' : ¬ y < x := h2
      go_enter Tryz.func152, Tryz.ntmps152
      go_wp2
      go_ret
      exact ⟨rfl, rfl⟩

set_option maxHeartbeats 1000000 in
set_option maxRecDepth 100000 in
theorem orL (p q : Int) (B : Nat) (w : World) (h0 : w.cell? ⟨B, 0, none⟩ = some (.int .i64 p)) (h1 : w.cell? ⟨B, 1, none⟩ = some (.int .i64 q)) :
    Calls Tryz.prog 151 #[.slice (some ⟨B, 0, none⟩) 2 2] w fun e w' => e = .returned (.int .i64 (orI p q)) ∧ w' = w := by
  unfold orI
  by_cases hp : p = 0
  · subst hp
    have z0 : ((0 : Int) != 0) = false := by decide
    rw [if_pos rfl]
    by_cases hq : q = 0
    · subst hq
      go_enter Tryz.func151, Tryz.ntmps151
      go_wp2
      refine wp_loop_rounds 3 ?_
      rw [rounds_succ]
      go_wp2
      rw [rounds_succ]
      go_wp2
      rw [rounds_succ]
      go_wp2
      go_ret
      exact ⟨rfl, rfl⟩
    · have hq' : (q != 0) = true := by simpa using hq
      go_enter Tryz.func151, Tryz.ntmps151
      go_wp2
      refine wp_loop_rounds 2 ?_
      rw [rounds_succ]
      go_wp2
      rw [rounds_succ]
      go_wp2
      go_ret
      exact ⟨rfl, rfl⟩
  · have hp' : (p != 0) = true := by simpa using hp
    rw [if_neg hp]
    go_enter Tryz.func151, Tryz.ntmps151
    go_wp2
    refine wp_loop_rounds 1 ?_
    rw [rounds_succ]
    go_wp2
    go_ret
    exact ⟨rfl, rfl⟩

theorem mixedM : Tryz.prog.follows .mixedOrders = true := by kernel_rfl

set_option maxHeartbeats 1000000 in
set_option maxRecDepth 100000 in
theorem byPlaceL (x y : Mk) (w : World) : Calls Tryz.prog 136 #[mkA x, mkA y] w fun e w' => e = .returned (.int .i64 (cmpM x y)) ∧ ∃ q os', w' = grow (w.drewN q) os' := by
  unfold mkA cmpM
  have hk0 : ((w.alloc (.cells #[.int .i64 x.1, .int .i64 x.2.1, .int .i64 x.2.2] 120)).alloc (.cells #[.int .i64 y.1, .int .i64 y.2.1, .int .i64 y.2.2] 120)).heap[w.heap.size]? = some (.cells #[.int .i64 x.1, .int .i64 x.2.1, .int .i64 x.2.2] 120 (0, 0)) := by
    rw [Below.heap_alloc _ _ _ (by simp)]; exact heap_alloc_new _ _
  have hk1 : ((w.alloc (.cells #[.int .i64 x.1, .int .i64 x.2.1, .int .i64 x.2.2] 120)).alloc (.cells #[.int .i64 y.1, .int .i64 y.2.1, .int .i64 y.2.2] 120)).heap[w.heap.size + 1]? = some (.cells #[.int .i64 y.1, .int .i64 y.2.1, .int .i64 y.2.2] 120 (0, 0)) := by
    have := heap_alloc_new (w.alloc (.cells #[.int .i64 x.1, .int .i64 x.2.1, .int .i64 x.2.2] 120)) (.cells #[.int .i64 y.1, .int .i64 y.2.1, .int .i64 y.2.2] 120)
    simpa using this
  have hs0 : ((w.alloc (.cells #[.int .i64 x.1, .int .i64 x.2.1, .int .i64 x.2.2] 120)).alloc (.cells #[.int .i64 y.1, .int .i64 y.2.1, .int .i64 y.2.2] 120)).heap.size = w.heap.size + 2 := by simp
  have HW : Hid (((w.alloc (.cells #[.int .i64 x.1, .int .i64 x.2.1, .int .i64 x.2.2] 120)).alloc (.cells #[.int .i64 y.1, .int .i64 y.2.1, .int .i64 y.2.2] 120)) = grow w #[.cells #[.int .i64 x.1, .int .i64 x.2.1, .int .i64 x.2.2] 120, .cells #[.int .i64 y.1, .int .i64 y.2.1, .int .i64 y.2.2] 120]) := by
    refine hide ?_
    rw [alloc_eq_grow, alloc_eq_grow, grow_grow]; rfl
  go_enter Tryz.func136, Tryz.ntmps136
  go_wp2_with fail
  generalize (w.alloc (.cells #[.int .i64 x.1, .int .i64 x.2.1, .int .i64 x.2.2] 120)).alloc (.cells #[.int .i64 y.1, .int .i64 y.2.1, .int .i64 y.2.2] 120) = w0 at *
  have c1 : w0.cell? ⟨w.heap.size, 1, none⟩ = some (.int .i64 x.2.1) := by rw [cell_of_row w0 _ 1 _ _ _ hk0]; rfl
  have c0 : w0.cell? ⟨w.heap.size, 0, none⟩ = some (.int .i64 x.1) := by rw [cell_of_row w0 _ 0 _ _ _ hk0]; rfl
  have d1 : w0.cell? ⟨w.heap.size + 1, 1, none⟩ = some (.int .i64 y.2.1) := by rw [cell_of_row w0 _ 1 _ _ _ hk1]; rfl
  have d0 : w0.cell? ⟨w.heap.size + 1, 0, none⟩ = some (.int .i64 y.1) := by rw [cell_of_row w0 _ 0 _ _ _ hk1]; rfl
  clear hk0 hk1
  refine wp_region_still_tail 10 mixedM (by kernel_rfl) ?_
  simp only [List.take_succ_cons, List.take_zero, List.drop_succ_cons, List.drop_zero]
  still_step
  still_step
  still_step
  still_step
  still_call (compareL _ _ _)
  still_step
  still_step
  still_step
  still_step
  still_call (compareL _ _ _)
  refine wpStill_nil ?_
  go_wp2_with fail
  refine (orL (compareInt x.2.1 y.2.1) (compareInt x.1 y.1) _ _ (by show (World.alloc _ _).cell? _ = _; rw [World.cell?_alloc_at _ _ _ _ (by simp [hs0])]; rfl) (by show (World.alloc _ _).cell? _ = _; rw [World.cell?_alloc_at _ _ _ _ (by simp [hs0])]; rfl)).mono ?_
  rintro e w1 ⟨rfl, rfl⟩
  go_wp2_with fail
  go_ret
  refine ⟨rfl, 1, #[.cells #[.int .i64 x.1, .int .i64 x.2.1, .int .i64 x.2.2] 120, .cells #[.int .i64 y.1, .int .i64 y.2.1, .int .i64 y.2.2] 120, .cells #[.int .i64 (compareInt x.2.1 y.2.1), .int .i64 (compareInt x.1 y.1)] 3], ?_⟩
  rw [alloc_eq_grow, HW.out, grow_grow]
  rfl

end Go.Proofs.YtbkcbhjejkicjaaGreatDoor

