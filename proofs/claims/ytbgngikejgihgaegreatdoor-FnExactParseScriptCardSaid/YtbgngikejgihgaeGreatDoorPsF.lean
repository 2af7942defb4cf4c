import Derived.Test.YtbgngikejgihgaeGreatDoorPsT
import Derived.Deep.RegionLaw
import Derived.Deep.AppendLies
namespace Go.Proofs.YtbgngikejgihgaeGreatDoor
open Go Go.RowKit Go.Sort
set_option linter.unusedVariables false

/-- An operation's cells. -/
def opV (o : Sop) (vt : Value) : List Value := [.int .i64 o.k, .int .i64 o.a, .int .i64 o.b, .int .i64 o.c, vt]
def opVs : List Sop → List Value → List Value
  | o :: os, v :: vs => opV o v ++ opVs os vs
  | _, _ => []
theorem opVs_snoc : ∀ (os : List Sop) (vs : List Value) (o : Sop) (v : Value), os.length = vs.length → opVs (os ++ [o]) (vs ++ [v]) = opVs os vs ++ opV o v
  | [], [], o, v, _ => by simp [opVs]
  | x :: os, y :: vs, o, v, h => by
    simp only [List.cons_append, opVs]
    rw [opVs_snoc os vs o v (by simpa using h), List.append_assoc]
  | [], _ :: _, _, _, h => by simp at h
  | _ :: _, [], _, _, h => by simp at h
theorem opVs_length : ∀ (os : List Sop) (vs : List Value), os.length = vs.length → (opVs os vs).length = os.length * 5
  | [], [], _ => rfl
  | x :: os, y :: vs, h => by
    have := opVs_length os vs (by simpa using h)
    simp only [opVs, List.length_append, this, opV, List.length_cons, List.length_nil]
    omega
  | [], _ :: _, h => by simp at h
  | _ :: _, [], h => by simp at h
/-- Two blocks may have changed. -/
structure Ch2 (rb : Nat) (vo : Value) (w w' : World) : Prop where
  os : w'.os = w.os
  tape : w'.tape = w.tape
  output : w'.output = w.output
  size : w.heap.size ≤ w'.heap.size
  block : ∀ q, q < w.heap.size → q ≠ rb → vo.ownBlock ≠ some q → w'.heap[q]? = w.heap[q]?
theorem Tryz.infoOP : (Tryz.prog.info? 51).map (fun i => (i.zero, i.size, i.bytes)) = some (some (.agg #[.int .i64 0, .int .i64 0, .int .i64 0, .int .i64 0, .slice none 0 0]), 5, 56) := by kernel_rfl

set_option maxHeartbeats 2000000 in
set_option maxRecDepth 100000 in
theorem finL (s : Sr) (vo : Value) (at_ : Option Addr) (nt ct : Nat) (vts : List Value) (rb base : Nat) (k : Int) (sw sf : ByteArray) (w : World) (hD : DX w rb (srC vo s (.slice at_ nt ct)) 57) (hv : s.ops.length = vts.length) (hO : w.ownsRow base 51 5 vo s.ops.length (opVs s.ops vts)) (hn : s.ops.length ≤ 20000) (hb : base ≤ w.heap.size) :
    Calls Tryz.prog 30 #[.pointer (some ⟨rb, 0, none⟩), .agg #[.string sw, .int .i64 k, .string sf]] w fun e w' => e = .returned (.tuple #[]) ∧ ∃ vo' vts', DX w' rb (srC vo' (finU k s) (.slice at_ nt ct)) 57 ∧ (finU k s).ops.length = vts'.length ∧ w'.ownsRow base 51 5 vo' (finU k s).ops.length (opVs (finU k s).ops vts') ∧ (vts' = vts ∨ (k ≠ -1 ∧ vts' = vts ++ [.slice at_ nt ct])) ∧ Ch2 rb vo w w' := by
  have hlt := hD.lt
  have A1 := hide ((Below.refl w.heap.size w).alloc (Nat.le_refl _) (.cells #[.string sw, .int .i64 k, .string sf] 59))
  have D1 := hide (hD.old (.cells #[.string sw, .int .i64 k, .string sf] 59))
  have O1 := hide (hO.alloc (.cells #[.string sw, .int .i64 k, .string sf] 59))
  have hs1 : (w.alloc (.cells #[.string sw, .int .i64 k, .string sf] 59)).heap.size = w.heap.size + 1 := by simp
  have NE := hide (own_offX hO hD (by decide))
  by_cases hk : k = -1
  · have FU := hide (show finU k s = s by unfold finU; rw [if_pos hk])
    have hk0 : (k != -1) = false := by rw [hk]; rfl
    clear hk
    go_enter Tryz.func30, Tryz.ntmps30
    go_wp2
    go_end0
    refine ⟨rfl, vo, vts, by rw [FU.out]; exact D1.out, by rw [FU.out]; exact hv, by rw [FU.out]; exact O1.out, .inl rfl, ⟨rfl, rfl, rfl, A1.out.size, fun q hq _ _ => A1.out.block q hq⟩⟩
  · have FU := hide (show finU k s = { s with ops := s.ops ++ [s.op] } by unfold finU; rw [if_neg hk])
    have hk0 : (k != -1) = true := by rw [bne_iff_ne]; exact hk
    have HK := hide hk
    obtain ⟨i0, hi, hz0, hz1, hz2⟩ := info_parts Tryz.infoOP
    have HV := hide hv
    have c0 := D1.out.cell (i := 0) rfl
    have c7 := D1.out.cell (i := 7) rfl
    have c8 := D1.out.cell (i := 8) rfl
    have c9 := D1.out.cell (i := 9) rfl
    have c10 := D1.out.cell (i := 10) rfl
    have c11 := D1.out.cell (i := 11) rfl
    clear hk hv
    go_enter Tryz.func30, Tryz.ntmps30
    go_upto_region 2 with fail
    generalize w.alloc (.cells #[.string sw, .int .i64 k, .string sf] 59) = w1 at *
    have hl1 : rb < w1.heap.size := by omega
    have hb1 : base ≤ w1.heap.size := by omega
    have hw1 : w.heap.size ≤ w1.heap.size := by omega
    clear hs1
    generalize hN : s.ops.length = n at *
    have HN := hide hN
    clear hN
    go_region_law (first
      | (refine step_append_lies _ rfl _ _ 23 rfl base 51 i0 (.agg #[.int .i64 0, .int .i64 0, .int .i64 0, .int .i64 0, .slice none 0 0]) 5 56 Tryz.underlying23 hi hz0 hz1 hz2 rfl (by decide) _ _ _ rfl (by exact (O1.out.alloc _)) ⟨w1.heap.size, 0, none⟩ 1 1 [.int .i64 s.op.k, .int .i64 s.op.a, .int .i64 s.op.b, .int .i64 s.op.c, .slice at_ nt ct] rfl rfl (by exact newcells w1 _ _) (by simp [Value.oneCell']) (by omega) (by unfold maxLen; omega) (by omega) (by simp; omega) (w1.heap.size + 1) (by simp) ?_; intro g5 cap5 x8 ho5 hg5 _ _; have D8 := hide (show DX x8 rb (srC vo s (.slice at_ nt ct)) 57 from (hg5.block rb (by simp; omega) (fun e => NE.out e.symm)).trans (D1.out.old _)); have t8 := D8.out.cell (i := 0) rfl; have f8 := D8.out.fz 0; have O8 := hide ho5; have CH := hide (show ∀ q, q < w1.heap.size → vo.ownBlock ≠ some q → x8.heap[q]? = w1.heap[q]? from fun q hq hne => (hg5.block q (by simp; omega) (fun e => hne e.symm)).trans (by exact Below.heap_alloc _ _ _ hq)); have G8 := hide (show x8.os = w1.os ∧ x8.tape = w1.tape ∧ x8.output = w1.output ∧ w1.heap.size ≤ x8.heap.size from ⟨hg5.os, hg5.tape, hg5.output, Nat.le_trans (by simp) hg5.size⟩); clear ho5 hg5))
    all_goals (
      go_end0
      have D9 := D8.out.set 0 (.slice (some ⟨g5, 0, none⟩) (n + 1) cap5)
      refine ⟨rfl, .slice (some ⟨g5, 0, none⟩) (n + 1) cap5, vts ++ [.slice at_ nt ct], by rw [FU.out]; exact D9, by rw [FU.out]; simp [HN.out, HV.out], ?_, .inr ⟨HK.out, rfl⟩, ⟨G8.out.1.trans A1.out.os, G8.out.2.1.trans A1.out.tape, G8.out.2.2.1.trans A1.out.output, ?_, fun q hq h1 h2 => ?_⟩⟩
      · rw [FU.out]
        have h9 := ownsRow_setCell_other O8.out (own_offX O8.out D8.out (by decide)) (a := ⟨rb, 0, none⟩) (.slice (some ⟨g5, 0, none⟩) (n + 1) cap5)
        show World.ownsRow _ _ _ _ _ (s.ops ++ [s.op]).length (opVs (s.ops ++ [s.op]) (vts ++ [.slice at_ nt ct]))
        rw [opVs_snoc _ _ _ _ (by rw [HN.out]; exact HV.out), List.length_append, HN.out]
        exact h9
      · have := G8.out.2.2.2
        simp
        omega
      · rw [heap_setCell_other _ _ _ _ (by show q ≠ rb; exact h1), CH.out q (by omega) h2]
        exact A1.out.block q hq)
end Go.Proofs.YtbgngikejgihgaeGreatDoor
