import Derived.Test.YtbgngikejgihgaeGreatDoorImC
import Derived.Test.YtbgngikejgihgaeGreatDoorByR
import Derived.Test.YtbgngikejgihgaeGreatDoorKBy
import Derived.WalkKit
import Derived.WalkLawsBesides
namespace Go.Proofs.YtbgngikejgihgaeGreatDoor
open Go Go.RowKit
set_option linter.unusedVariables false

theorem Tryz.infoSB : (Tryz.prog.info? 22).map (fun i => (i.zero, i.size, i.bytes)) = some (some (.slice none 0 0), 1, 24) := by kernel_rfl
def belB (hi : Nat) (v : Value) : Prop := ∀ q, v.ownBlock = some q → q < hi
/-- Rows of bytes, each owned. -/
structure NsB (w : World) (lo hi : Nat) (vs : List Value) (ps : List (List UInt8)) : Prop where
  len : vs.length = ps.length
  own : ∀ (i : Nat) v p, vs[i]? = some v → ps[i]? = some p → OwB w lo v (bts p)
  bl : ∀ v ∈ vs, belB hi v
theorem NsB.nil (w : World) (lo hi : Nat) : NsB w lo hi [] [] := ⟨rfl, fun i v p h => by simp at h, fun v h => by simp at h⟩
theorem NsB.frame {w w' : World} {lo hi : Nat} {vs : List Value} {ps : List (List UInt8)} (h : NsB w lo hi vs ps) (hf : ∀ q, lo ≤ q → q < hi → w'.heap[q]? = w.heap[q]?) : NsB w' lo hi vs ps :=
  ⟨h.len, fun i v p hv hp => owns_of_block (h.own i v p hv hp) (fun q hq => hf q ((h.own i v p hv hp).lt q hq).1 (h.bl v (List.mem_of_getElem? hv) q hq)), h.bl⟩
theorem ownB_apart {w : World} {B B' e e' size size' n n' q : Nat} {v v' : Value} {xs xs' : List Value} (h : w.ownsRow B e size v n xs) (h' : w.ownsRow B' e' size' v' n' xs') (hne : e ≠ e') (hq : v.ownBlock = some q) : v'.ownBlock ≠ some q := by
  intro hq'
  rcases h.2 with ⟨rfl, _⟩ | ⟨g, cap, cur, rfl, _, hgb, _⟩
  · simp [Value.ownBlock] at hq
  · rcases h'.2 with ⟨rfl, _⟩ | ⟨g', cap', cur', rfl, _, hgb', _⟩
    · simp [Value.ownBlock] at hq'
    · simp only [Value.ownBlock, Option.some.injEq] at hq hq'
      subst hq; subst hq'
      rw [hgb] at hgb'
      injection hgb' with h9
      injection h9 with _ h8 _
      exact hne h8
theorem ownB_kept {w w' : World} {B B' e e' size size' n n' : Nat} {v v' : Value} {xs xs' : List Value} (h : w.ownsRow B e size v n xs) (h' : w.ownsRow B' e' size' v' n' xs') (hne : e ≠ e') (hg : w.grownBy w' v'.ownBlock) : w'.ownsRow B e size v n xs :=
  owns_of_block h (fun q hq => hg.block q (h.lt q hq).2 (fun eq => ownB_apart h h' hne hq eq.symm))
theorem NsB.kept {w w' : World} {lo hi B' e' size' n' : Nat} {v' : Value} {vs : List Value} {ps : List (List UInt8)} {xs' : List Value} (h : NsB w lo hi vs ps) (h' : w.ownsRow B' e' size' v' n' xs') (h2 : 5 ≠ e') (hg : w.grownBy w' v'.ownBlock) : NsB w' lo hi vs ps :=
  ⟨h.len, fun i u l hu hl => ownB_kept (h.own i u l hu hl) h' h2 hg, h.bl⟩
theorem NsB.snoc {w : World} {lo hi hi' : Nat} {vs : List Value} {ps : List (List UInt8)} {v : Value} {p : List UInt8} (h : NsB w lo hi vs ps) (ho : OwB w lo v (bts p)) (hq : ∀ q, v.ownBlock = some q → q < hi') (hh : hi ≤ hi') : NsB w lo hi' (vs ++ [v]) (ps ++ [p]) := by
  have l1 := h.len
  refine ⟨by simp [l1], fun i u r hu hr => ?_, fun u hu => ?_⟩
  · rcases Nat.lt_or_ge i vs.length with q | q
    · rw [List.getElem?_append_left q] at hu
      rw [List.getElem?_append_left (by omega)] at hr
      exact h.own i u r hu hr
    · rw [List.getElem?_append_right q] at hu
      rw [List.getElem?_append_right (by omega), ← l1] at hr
      cases hi : i - vs.length with
      | zero => rw [hi] at hu hr; simp at hu hr; subst hu hr; exact ho
      | succ j => rw [hi] at hu; simp at hu
  · rcases List.mem_append.1 hu with q | q
    · exact fun k hk => Nat.lt_of_lt_of_le (h.bl u q k hk) hh
    · simp at q; subst q; exact hq
theorem ownB_newS (w : World) (e : TypeId) : (w.alloc (.cells #[] e)).ownsRow w.heap.size e 1 (.slice (some ⟨w.heap.size, 0, none⟩) 0 0) 0 [] := by
  have := World.ownsRow_made (base := w.heap.size) (e := e) (size := 1) w #[] 0 (by simp) (Nat.zero_le _) rfl
  simpa using this
theorem ownB_val1 {w : World} {base e size : Nat} {v : Value} {n : Nat} {xs : List Value} (h : w.ownsRow base e size v n xs) : ∃ ao cap, v = .slice ao n cap := by
  rcases h.2 with ⟨rfl, h0⟩ | ⟨g, cap, cur, rfl, _⟩
  · exact ⟨none, 0, by rw [h0]⟩
  · exact ⟨_, _, rfl⟩
theorem cut_next (c : UInt8) (l : List UInt8) (k : Nat) (h : k < l.length) : cutS c (l.take (k + 1)) = cutF c (cutS c (l.take k)) (l.getD k 0) := by
  rw [List.take_succ_eq_append_getElem h, cutS_snoc]
  simp [List.getD_eq_getElem?_getD, h]
theorem bts_get (l : List UInt8) (k : Nat) (h : k < l.length) : (bts l).getD k 0 = ((l.getD k 0).toNat : Int) := by
  unfold bts; simp [List.getD_eq_getElem?_getD, h]
end Go.Proofs.YtbgngikejgihgaeGreatDoor
