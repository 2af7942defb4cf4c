import Derived.Test.YtbgngikejgihgaeGreatDoorPsA
import Derived.Test.YtbgngikejgihgaeGreatDoorDXT
import Derived.Laws.Rows
import Derived.Deep.Cut
import Derived.Deep.QuietTactic
import Derived.BigQuiet
namespace Go.Proofs.YtbgngikejgihgaeGreatDoor
open Go Go.RowKit Go.Sort
set_option linter.unusedVariables false

def cmE (k : Nat) : List UInt8 × Int × List UInt8 := cmds.getD k ([], 0, [])
def cW (k : Nat) : ByteArray := ⟨(cmE k).1.toArray⟩
def cK (k : Nat) : Int := (cmE k).2.1
def cF (k : Nat) : ByteArray := ⟨(cmE k).2.2.toArray⟩
def rowC (k : Nat) : Array Value := #[.string (cW k), .int .i64 (cK k), .string (cF k)]
def cmdTab : Array Value := rowC 0 ++ rowC 1 ++ rowC 2 ++ rowC 3 ++ rowC 4 ++ rowC 5 ++ rowC 6 ++ rowC 7 ++ rowC 8 ++ rowC 9 ++ rowC 10 ++ rowC 11 ++ rowC 12 ++ rowC 13 ++ rowC 14 ++ rowC 15 ++ rowC 16 ++ rowC 17 ++ rowC 18
theorem idxC0 (w : World) : (Instr.index 81 (.agg cmdTab) (.int .i64 0)).run Tryz.prog w = .ok (.agg (rowC 0)) w := by kernel_rfl
theorem idxC1 (w : World) : (Instr.index 81 (.agg cmdTab) (.int .i64 1)).run Tryz.prog w = .ok (.agg (rowC 1)) w := by kernel_rfl
theorem idxC2 (w : World) : (Instr.index 81 (.agg cmdTab) (.int .i64 2)).run Tryz.prog w = .ok (.agg (rowC 2)) w := by kernel_rfl
theorem idxC3 (w : World) : (Instr.index 81 (.agg cmdTab) (.int .i64 3)).run Tryz.prog w = .ok (.agg (rowC 3)) w := by kernel_rfl
theorem idxC4 (w : World) : (Instr.index 81 (.agg cmdTab) (.int .i64 4)).run Tryz.prog w = .ok (.agg (rowC 4)) w := by kernel_rfl
theorem idxC5 (w : World) : (Instr.index 81 (.agg cmdTab) (.int .i64 5)).run Tryz.prog w = .ok (.agg (rowC 5)) w := by kernel_rfl
theorem idxC6 (w : World) : (Instr.index 81 (.agg cmdTab) (.int .i64 6)).run Tryz.prog w = .ok (.agg (rowC 6)) w := by kernel_rfl
theorem idxC7 (w : World) : (Instr.index 81 (.agg cmdTab) (.int .i64 7)).run Tryz.prog w = .ok (.agg (rowC 7)) w := by kernel_rfl
theorem idxC8 (w : World) : (Instr.index 81 (.agg cmdTab) (.int .i64 8)).run Tryz.prog w = .ok (.agg (rowC 8)) w := by kernel_rfl
theorem idxC9 (w : World) : (Instr.index 81 (.agg cmdTab) (.int .i64 9)).run Tryz.prog w = .ok (.agg (rowC 9)) w := by kernel_rfl
theorem idxC10 (w : World) : (Instr.index 81 (.agg cmdTab) (.int .i64 10)).run Tryz.prog w = .ok (.agg (rowC 10)) w := by kernel_rfl
theorem idxC11 (w : World) : (Instr.index 81 (.agg cmdTab) (.int .i64 11)).run Tryz.prog w = .ok (.agg (rowC 11)) w := by kernel_rfl
theorem idxC12 (w : World) : (Instr.index 81 (.agg cmdTab) (.int .i64 12)).run Tryz.prog w = .ok (.agg (rowC 12)) w := by kernel_rfl
theorem idxC13 (w : World) : (Instr.index 81 (.agg cmdTab) (.int .i64 13)).run Tryz.prog w = .ok (.agg (rowC 13)) w := by kernel_rfl
theorem idxC14 (w : World) : (Instr.index 81 (.agg cmdTab) (.int .i64 14)).run Tryz.prog w = .ok (.agg (rowC 14)) w := by kernel_rfl
theorem idxC15 (w : World) : (Instr.index 81 (.agg cmdTab) (.int .i64 15)).run Tryz.prog w = .ok (.agg (rowC 15)) w := by kernel_rfl
theorem idxC16 (w : World) : (Instr.index 81 (.agg cmdTab) (.int .i64 16)).run Tryz.prog w = .ok (.agg (rowC 16)) w := by kernel_rfl
theorem idxC17 (w : World) : (Instr.index 81 (.agg cmdTab) (.int .i64 17)).run Tryz.prog w = .ok (.agg (rowC 17)) w := by kernel_rfl
theorem idxC18 (w : World) : (Instr.index 81 (.agg cmdTab) (.int .i64 18)).run Tryz.prog w = .ok (.agg (rowC 18)) w := by kernel_rfl
theorem idxC (k : Nat) (hk : k < 19) (w : World) : (Instr.index 81 (.agg cmdTab) (.int .i64 (k : Int))).run Tryz.prog w = .ok (.agg (rowC k)) w := by
  have hk' : k = 0 ∨ k = 1 ∨ k = 2 ∨ k = 3 ∨ k = 4 ∨ k = 5 ∨ k = 6 ∨ k = 7 ∨ k = 8 ∨ k = 9 ∨ k = 10 ∨ k = 11 ∨ k = 12 ∨ k = 13 ∨ k = 14 ∨ k = 15 ∨ k = 16 ∨ k = 17 ∨ k = 18 := by omega
  rcases hk' with rfl | rfl | rfl | rfl | rfl | rfl | rfl | rfl | rfl | rfl | rfl | rfl | rfl | rfl | rfl | rfl | rfl | rfl | rfl
  · exact idxC0 w
  · exact idxC1 w
  · exact idxC2 w
  · exact idxC3 w
  · exact idxC4 w
  · exact idxC5 w
  · exact idxC6 w
  · exact idxC7 w
  · exact idxC8 w
  · exact idxC9 w
  · exact idxC10 w
  · exact idxC11 w
  · exact idxC12 w
  · exact idxC13 w
  · exact idxC14 w
  · exact idxC15 w
  · exact idxC16 w
  · exact idxC17 w
  · exact idxC18 w
/-- The table as it lies. -/
def TabC (w : World) : Prop := w.heap[(0 : Nat)]? = some (.cells cmdTab 81 (0, 0))
theorem TabC.lt {w : World} (h : TabC w) : 0 < w.heap.size := (Array.getElem?_eq_some_iff.1 h).1
theorem TabC.below {w w' : World} (h : TabC w) (hb : Below w.heap.size w w') : TabC w' := (hb.block _ h.lt).trans h
theorem cmds_at (k : Nat) (hk : k < 19) : cmds[k]? = some (cmE k) := by
  have h : k < cmds.length := hk
  unfold cmE
  rw [List.getD_eq_getElem?_getD, List.getElem?_eq_getElem h]; rfl
theorem cmdU_hit {w : List UInt8} {k : Nat} (hk : k < 19) (h : (cmE k).1 = w) (hno : ∀ j, j < k → (cmE j).1 ≠ w) : cmdU w = some (cmE k).2 := by
  unfold cmdU
  have : cmds.find? (fun x => decide (x.1 = w)) = some (cmE k) := by
    rw [List.find?_eq_some_iff_getElem]
    refine ⟨by simpa using h, k, hk, ?_, fun j hj => ?_⟩
    · have := cmds_at k hk; exact (List.getElem?_eq_some_iff.1 this).2
    · have h2 := cmds_at j (by omega)
      have h3 := (List.getElem?_eq_some_iff.1 h2).2
      rw [h3]
      simpa using hno j hj
  rw [this]; rfl
theorem cmdU_none {w : List UInt8} (hno : ∀ j, j < 19 → (cmE j).1 ≠ w) : cmdU w = none := by
  unfold cmdU
  rw [List.find?_eq_none.2]
  · rfl
  · intro x hx
    obtain ⟨j, hj, rfl⟩ := List.getElem_of_mem hx
    have h2 := cmds_at j hj
    have h3 := (List.getElem?_eq_some_iff.1 h2).2
    have h4 := hno j hj
    rw [← h3] at h4
    simpa using h4
/-- What commandOf answers. -/
def cmdV (x : List UInt8) (n : Nat) : Value := match cmdU x with
  | none => .tuple #[.agg #[.string ⟨#[]⟩, .int .i64 0, .string ⟨#[]⟩], .iface 71 (.int .i64 15)]
  | some (k, form) => if n ≠ form.length + 1 then .tuple #[.agg #[.string ⟨#[]⟩, .int .i64 0, .string ⟨#[]⟩], .iface 71 (.int .i64 16)] else .tuple #[.agg #[.string ⟨x.toArray⟩, .int .i64 k, .string ⟨form.toArray⟩], .nilIface]
theorem cW_eq (k : Nat) (x : ByteArray) : ((cW k).toList == x.toList) = decide ((cmE k).1 = x.data.toList) := by
  rw [ByteArray.toList_eq, ByteArray.toList_eq]
  show ((cmE k).1 == x.data.toList) = _
  by_cases h : (cmE k).1 = x.data.toList
  · rw [decide_eq_true h, h]; simp
  · rw [decide_eq_false h, beq_eq_false_iff_ne]; exact h
theorem cF_size (k : Nat) : (cF k).size = (cmE k).2.2.length := rfl

set_option maxHeartbeats 4000000 in
set_option maxRecDepth 100000 in
theorem commandL (x : ByteArray) (a n c : Nat) (w : World) (hn : 1 ≤ n) (hn2 : n ≤ 20000) (h0 : w.cell? ⟨a, 0, none⟩ = some (.string x)) (hT : TabC w) :
    Calls Tryz.prog 28 #[.slice (some ⟨a, 0, none⟩) n c] w fun e w' => e = .returned (cmdV x.data.toList n) ∧ Below w.heap.size w w' := by
  have ha : a < w.heap.size := World.block_lt_of_cell? w _ h0
  have HB0 := hide ((Below.refl w.heap.size w).alloc (Nat.le_refl _) (.cells #[.string ⟨#[]⟩, .int .i64 0, .string ⟨#[]⟩] 59))
  have T0 := hide (hT.below HB0.out)
  have K0 := hide (DX.new w [.string ⟨#[]⟩, .int .i64 0, .string ⟨#[]⟩] 59)
  have H00 := hide ((HB0.out.cell (p := ⟨a, 0, none⟩) ha).trans h0)
  have hs0 : w.heap.size < (w.alloc (.cells #[.string ⟨#[]⟩, .int .i64 0, .string ⟨#[]⟩] 59)).heap.size := by simp
  clear hT h0
  go_enter Tryz.func28, Tryz.ntmps28
  go_wp2_with (refine wpList_load_row rfl 81 _ rfl 0 rfl 81 cmdTab (0, 0) _ T0.out Tryz.underlying81 rfl (by kernel_rfl) ?_)
  generalize w.alloc (.cells #[.string ⟨#[]⟩, .int .i64 0, .string ⟨#[]⟩] 59) = w0 at *
  clear T0
  go_loopw [7] (fun i wr => ∃ j : Nat, j ≤ 19 ∧ i = .int .i64 j ∧ (∀ q, q < j → (cmE q).1 ≠ x.data.toList) ∧ Below w0.heap.size w0 wr) (fun i _ => 19 - (intOf i).toNat)
  case atStart => exact ⟨0, Nat.zero_le _, rfl, fun q hq => by omega, Below.refl _ _⟩
  case round =>
    obtain ⟨j, hj, rfl, hno, hbw⟩ := hrel
    have HNO := hide hno
    have HBW := hide hbw
    have hsw := hbw.size
    have B1 := hide (HB0.out.trans (hbw.mono HB0.out.size))
    have K1 := hide (K0.out.below hbw)
    have d0 := (hbw.cell (p := ⟨a, 0, none⟩) (by show a < w0.heap.size; omega)).trans H00.out
    have har : a < wr.heap.size := by omega
    clear hno hbw
    by_cases hj19 : j < 19
    · have hj9 : (j : Int) < 19 := by omega
      have hix := fun W => idxC j hj19 W
      have hrow : rowC j = #[.string (cW j), .int .i64 (cK j), .string (cF j)] := rfl
      simp only [hrow] at hix
      have A2 := hide ((Below.refl wr.heap.size wr).alloc (Nat.le_refl _) (.cells #[.string (cW j), .int .i64 (cK j), .string (cF j)] 59))
      have M2 := hide (DX.new wr [.string (cW j), .int .i64 (cK j), .string (cF j)] 59)
      have hq := cW_eq j x
      have hcf := cF_size j
      clear hrow
      go_upto_region 4 with fail
      clear hix
      have hs2 : wr.heap.size < (wr.alloc (.cells #[.string (cW j), .int .i64 (cK j), .string (cF j)] 59)).heap.size := by simp
      generalize wr.alloc (.cells #[.string (cW j), .int .i64 (cK j), .string (cF j)] 59) = w2 at *
      generalize hnb : wr.heap.size = nb at *
      have e0 := M2.out.cell (i := 0) rfl
      have d2 := (A2.out.cell (p := ⟨a, 0, none⟩) (by show a < nb; omega)).trans d0
      have B2 := hide (B1.out.trans (A2.out.mono (by omega)))
      have K2 := hide (show DX w2 w.heap.size [.string ⟨#[]⟩, .int .i64 0, .string ⟨#[]⟩] 59 from (A2.out.block _ (by omega)).trans K1.out)
      have D2 := hide (HBW.out.trans (A2.out.mono hsw))
      clear d0 K1 A2
      by_cases he : (cmE j).1 = x.data.toList
      · rw [decide_eq_true he] at hq
        go_quiet (fail)
        have D3 := hide (show DX (w2.drewN nq) nb [.string (cW j), .int .i64 (cK j), .string (cF j)] 59 from M2.out)
        have K3 := hide (show DX (w2.drewN nq) w.heap.size [.string ⟨#[]⟩, .int .i64 0, .string ⟨#[]⟩] 59 from K2.out)
        have B3 := hide (B2.out.trans (show Below w.heap.size w2 (w2.drewN nq) from ⟨rfl, rfl, rfl, Nat.le_refl _, fun _ _ => rfl⟩))
        generalize w2.drewN nq = w3 at *
        have HU := hide (cmdU_hit hj19 he HNO.out)
        clear e0 d2 M2 K2 B2 D2 hq
        have e0 := D3.out.cell (i := 0) rfl
        have e1 := D3.out.cell (i := 1) rfl
        have e2 := D3.out.cell (i := 2) rfl
        have k0 := K3.out.cell (i := 0) rfl
        have k1 := K3.out.cell (i := 1) rfl
        have k2 := K3.out.cell (i := 2) rfl
        have f0 := K3.out.fz 0
        have f1 := K3.out.fz 1
        have f2 := K3.out.fz 2
        have hne : ¬ nb = w.heap.size := by omega
        have hne2 : ¬ w.heap.size = nb := by omega
        have hsub : wrap64 ((n : Int) - 1) = (n : Int) - 1 := by unfold wrap64; omega
        by_cases hl : n = (cmE j).2.2.length + 1
        · have hz : ((n : Int) - 1 != ((cF j).size : Int)) = false := by rw [bne_eq_false_iff_eq, hcf]; omega
          have HV := hide (show cmdV x.data.toList n = .tuple #[.agg #[.string (cW j), .int .i64 (cK j), .string (cF j)], .nilIface] from (by
            unfold cmdV
            rw [HU.out]
            show (if n ≠ (cmE j).2.2.length + 1 then _ else _) = _
            rw [if_neg (by simpa using hl), ← he]; rfl))
          clear hl HU hcf he HNO
          go_wp2
          refine bodyPost_ret (v := .tuple #[.agg #[.string (cW j), .int .i64 (cK j), .string (cF j)], .nilIface]) (by simp [results, Tryz.results28, go_sem, k0, k1, k2]) rfl ⟨by rw [HV.out], ?_⟩
          exact ((B3.out.setCell (by simp) _).setCell (by simp) _).setCell (by simp) _
        · have hz : ((n : Int) - 1 != ((cF j).size : Int)) = true := by rw [bne_iff_ne, hcf]; omega
          have HV := hide (show cmdV x.data.toList n = .tuple #[.agg #[.string ⟨#[]⟩, .int .i64 0, .string ⟨#[]⟩], .iface 71 (.int .i64 16)] from (by
            unfold cmdV
            rw [HU.out]
            show (if n ≠ (cmE j).2.2.length + 1 then _ else _) = _
            rw [if_pos hl]))
          clear hl HU hcf he HNO
          go_wp2
          refine bodyPost_ret (v := .tuple #[.agg #[.string ⟨#[]⟩, .int .i64 0, .string ⟨#[]⟩], .iface 71 (.int .i64 16)]) (by simp [results, Tryz.results28, go_sem, k0, k1, k2]) rfl ⟨by rw [HV.out], ?_⟩
          exact ((B3.out.setCell (by simp) _).setCell (by simp) _).setCell (by simp) _
      · rw [decide_eq_false he] at hq
        go_quiet (fail)
        have D3 := hide (D2.out.trans (show Below w0.heap.size w2 (w2.drewN nq) from ⟨rfl, rfl, rfl, Nat.le_refl _, fun _ _ => rfl⟩))
        generalize w2.drewN nq = w3 at *
        clear e0 d2 M2 K2 B2 D2 hq
        go_wp2_with fail
        go_roundw
        case rel =>
          refine ⟨j + 1, by omega, by go_num, fun q hq => ?_, D3.out⟩
          by_cases e : q = j
          · rw [e]; exact he
          · exact HNO.out q (by omega)
        case measure => simp [intOf]; omega
    · obtain rfl : j = 19 := by omega
      have HV := hide (show cmdV x.data.toList n = .tuple #[.agg #[.string ⟨#[]⟩, .int .i64 0, .string ⟨#[]⟩], .iface 71 (.int .i64 15)] from (by
        unfold cmdV
        rw [cmdU_none HNO.out]))
      have k0 := K1.out.cell (i := 0) rfl
      have k1 := K1.out.cell (i := 1) rfl
      have k2 := K1.out.cell (i := 2) rfl
      have f0 := K1.out.fz 0
      have f1 := K1.out.fz 1
      have f2 := K1.out.fz 2
      clear HNO
      go_wp2
      refine bodyPost_ret (v := .tuple #[.agg #[.string ⟨#[]⟩, .int .i64 0, .string ⟨#[]⟩], .iface 71 (.int .i64 15)]) (by simp [results, Tryz.results28, go_sem, k0, k1, k2]) rfl ⟨by rw [HV.out], ?_⟩
      exact ((B1.out.setCell (by simp) _).setCell (by simp) _).setCell (by simp) _
end Go.Proofs.YtbgngikejgihgaeGreatDoor
