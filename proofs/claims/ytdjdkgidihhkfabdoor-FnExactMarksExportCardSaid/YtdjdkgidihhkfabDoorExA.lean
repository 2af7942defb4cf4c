import Derived.Test.YtdjdkgidihhkfabDoorExP
import Derived.Test.YtdjdkgidihhkfabDoorExLay
import Derived.Test.YtdjdkgidihhkfabDoorMkRead
import Derived.Lib.AppendIntMem
import Derived.Lib.AppendStr
import Derived.Lib.ItoaLen
import Derived.Lib.OthersKept
namespace Go.Proofs.YtdjdkgidihhkfabDoor
open Go Go.RowKit
set_option linter.unusedVariables false

abbrev Tab (B : Nat) (w : World) : Prop := Lib.TabBelow Tryd.prog B w "internal/strconv.uint64pow10" .u64 Lib.pow10Tab

theorem aiL (B n : Nat) (i : Int) (h0 : -9223372036854775808 ≤ i) (h1 : i ≤ 9223372036854775807) (sv : Value) (xs : List Value) (w : World) (hown : w.ownsRow B 5 1 sv n xs) (hB : B ≤ w.heap.size) (hlim : n + 21 ≤ 140737488355328) (ht : Tab B w) :
    Calls Tryd.prog 79 #[sv, .int .i64 i, .int .i64 10] w fun e w' => ∃ v', e = .returned v' ∧ w'.ownsRow B 5 1 v' (n + (Lib.itoa i).length) (xs ++ Lib.byteCells (Lib.itoa i)) ∧ Below B w w' ∧ Lib.OthersKept 5 none w w' :=
  Any.strconv_AppendInt_10 Tryd.aiLays B n i h0 h1 sv xs w hown hB hlim ht

theorem Tryd.info8 : (Tryd.prog.info? 5).map (fun i => (i.zero, i.size, i.bytes)) = some (some (.int .u8 0), 1, 1) := by kernel_rfl

theorem kept_mk {w w' : World} {b : Nat} {cs : Array Value} {fz : Nat × Nat} (h : Lib.OthersKept 5 none w w') (hk : w.heap[b]? = some (.cells cs 41 fz)) : w'.heap[b]? = some (.cells cs 41 fz) :=
  h b _ hk (by simp) (fun c f e => by injection e with _ h2 _; exact absurd h2 (by decide))

theorem line_cells (xs : List Value) (m : Mk) : xs ++ Lib.byteCells (Lib.itoa m.1) ++ [.int .u8 32] ++ Lib.byteCells (Lib.itoa m.2.1) ++ [.int .u8 32, .int .u8 (grv m), .int .u8 10] = xs ++ ints .u8 (lineB m) := by
  simp [lineB, ints, bts, Lib.byteCells, Function.comp_def]
theorem line_len (n : Nat) (m : Mk) : n + (Lib.itoa m.1).length + 1 + (Lib.itoa m.2.1).length + 3 = n + (lineB m).length := by
  simp [lineB, bts]; omega

set_option maxHeartbeats 4000000 in
set_option maxRecDepth 100000 in
theorem appendMarkL (B n : Nat) (sv : Value) (xs : List Value) (m : Mk) (w : World) (hown : w.ownsRow B 5 1 sv n xs) (hB : B ≤ w.heap.size) (hn : n ≤ 100000) (hm : inI m = true ∧ inO m = true) (ht : Tab B w) :
    Calls Tryd.prog 54 #[sv, mkA m] w fun e w' => ∃ v', e = .returned v' ∧ w'.ownsRow B 5 1 v' (n + (lineB m).length) (xs ++ ints .u8 (lineB m)) ∧ Below B w w' := by
  obtain ⟨i0, hi, hz0, hz1, hz2⟩ := info_parts Tryd.info8
  simp only [inI, inO, Bool.and_eq_true, decide_eq_true_eq] at hm
  have la := Lib.itoa_length_le m.1 (by omega) (by omega)
  have lb := Lib.itoa_length_le m.2.1 (by omega) (by omega)
  have LC := hide (line_cells xs m)
  have LL := hide (line_len n m)
  have hgv : grv m = if m.2.2 = 0 then 76 else 82 := rfl
  have HGV := hide hgv
  clear hgv
  obtain ⟨m0, m1, m2⟩ := m
  simp only at hm la lb LC LL HGV
  generalize (lineB (m0, m1, m2)).length = ln at LL ⊢
  generalize hli : ints .u8 (lineB (m0, m1, m2)) = li at LC ⊢
  generalize grv (m0, m1, m2) = gv at LC HGV
  clear hli
  unfold mkA
  have A0 := hide ((Below.refl B w).alloc hB (.cells #[.int .i64 m0, .int .i64 m1, .int .i64 m2] 41))
  have K0 : (w.alloc (.cells #[.int .i64 m0, .int .i64 m1, .int .i64 m2] 41)).heap[w.heap.size]? = some (.cells #[.int .i64 m0, .int .i64 m1, .int .i64 m2] 41 (0, 0)) := heap_alloc_new _ _
  have HK0 := hide K0
  have O0 := hide (World.ownsRow.alloc hown (.cells #[.int .i64 m0, .int .i64 m1, .int .i64 m2] 41))
  have T0 := hide (ht.on A0.out)
  have hs0 : w.heap.size < (w.alloc (.cells #[.int .i64 m0, .int .i64 m1, .int .i64 m2] 41)).heap.size := by simp
  clear hown ht K0
  generalize hla : (Lib.itoa m0).length = a at *
  generalize hlb : (Lib.itoa m1).length = b at *
  have HLA := hide hla
  have HLB := hide hlb
  clear hla hlb
  go_enter Tryd.func54, Tryd.ntmps54
  go_wp2_with fail
  generalize w.alloc (.cells #[.int .i64 m0, .int .i64 m1, .int .i64 m2] 41) = w0 at *
  refine (aiL B n m0 (by omega) (by omega) sv xs w0 O0.out (by omega) (by omega) T0.out).mono ?_
  rintro e w1 ⟨v1, rfl, ho1, hb1, hk1⟩
  rw [HLA.out] at ho1
  have O1 := hide ho1
  have B1 := hide (A0.out.trans hb1)
  have K1 := hide (kept_mk hk1 HK0.out)
  have s1 := B1.out.size
  have T1 := hide (T0.out.on hb1)
  have z1 : w.heap.size < w1.heap.size := by have := hb1.size; omega
  clear ho1 hb1 hk1 O0 T0 A0
  have NC := hide (newcells w1 5 [.int .u8 32])
  go_wp2_with (at_builtin; refine wpList_append_own _ rfl _ _ 31 rfl B 5 i0 (.int .u8 0) 1 1 Tryd.underlying31 hi hz0 hz1 hz2 rfl (by decide) v1 (n + a) _ rfl (by exact World.ownsRow.alloc O1.out _) ⟨w1.heap.size, 0, none⟩ 1 1 [.int .u8 32] rfl rfl (by exact NC.out) (by intro u hu; simp at hu; subst hu; rfl) (by unfold maxLen; omega) (by omega) (by simp; omega) ?_; intro v2 w2 ho2 hg2 _; refine Hid.out ?_)
  refine Lib.hid ?_
  have A1 := hide ((Below.refl B w1).alloc (by omega) (.cells #[.int .u8 32] 5))
  have B2 := hide ((B1.out.trans A1.out).grown hg2 (by simp; omega) (fun k hk => (O1.out.lt k hk).1))
  have K1' : (w1.alloc (.cells #[.int .u8 32] 5)).heap[w.heap.size]? = some (.cells #[.int .i64 m0, .int .i64 m1, .int .i64 m2] 41 (0, 0)) := (Below.heap_alloc _ _ _ z1).trans K1.out
  have K2 := hide ((hg2.block w.heap.size (by simp; omega) (own_offM (World.ownsRow.alloc O1.out (.cells #[.int .u8 32] 5)) K1' (by decide))).trans K1')
  have O2 := hide ho2
  have T2 := hide ((T1.out.on A1.out).on ((Below.refl B _).grown hg2 (by simp; omega) (fun k hk => (O1.out.lt k hk).1)))
  have s2 := B2.out.size
  have c1 : w2.cell? ⟨w.heap.size, 1, none⟩ = some (.int .i64 m1) := by rw [cell_of_row w2 _ 1 _ _ _ K2.out]; rfl
  clear ho2 hg2 O1 T1 B1 A1 K1' K1 NC
  go_wp2_with fail
  refine (aiL B (n + a + 1) m1 (by omega) (by omega) v2 _ w2 O2.out (by omega) (by omega) T2.out).mono ?_
  rintro e w3 ⟨v3, rfl, ho3, hb3, hk3⟩
  rw [HLB.out] at ho3
  have O3 := hide ho3
  have B3 := hide (B2.out.trans hb3)
  have K3 := kept_mk hk3 K2.out
  have s3 := B3.out.size
  have c2 : w3.cell? ⟨w.heap.size, 2, none⟩ = some (.int .i64 m2) := by rw [cell_of_row w3 _ 2 _ _ _ K3]; rfl
  clear ho3 hb3 hk3 O2 T2 B2 K2 K3 c1
  by_cases hg : m2 = 0
  · subst hg
    rw [if_pos rfl] at HGV
    go_wp2_with (at_builtin; refine Lib.wpList_append_own_string _ rfl _ _ 31 9 rfl B 5 i0 Tryd.underlying31 Tryd.underlying9 hi hz0 hz1 hz2 v3 (n + a + 1 + b) _ rfl (by exact O3.out) ⟨#[32, 76, 10]⟩ rfl (by unfold maxLen; simp [ByteArray.size]; omega) (by simp [ByteArray.size]; omega) (by omega) ?_; intro v4 w4 ho4 hg4 _; refine Hid.out ?_)
    refine Lib.hid ?_
    have B4 := hide (B3.out.grown hg4 (by omega) (fun k hk => (O3.out.lt k hk).1))
    have O4 := hide ho4
    clear ho4 hg4
    go_wp2
    go_ret
    refine ⟨v4, rfl, ?_, B4.out⟩
    have h9 := O4.out
    rw [HGV.out] at LC
    rw [← LC.out, ← LL.out]
    simpa [Lib.strCells, ByteArray.size] using h9
  · have hg' : (m2 == 0) = false := by simpa using hg
    rw [if_neg hg] at HGV
    go_wp2_with (at_builtin; refine Lib.wpList_append_own_string _ rfl _ _ 31 9 rfl B 5 i0 Tryd.underlying31 Tryd.underlying9 hi hz0 hz1 hz2 v3 (n + a + 1 + b) _ rfl (by exact O3.out) ⟨#[32, 82, 10]⟩ rfl (by unfold maxLen; simp [ByteArray.size]; omega) (by simp [ByteArray.size]; omega) (by omega) ?_; intro v4 w4 ho4 hg4 _; refine Hid.out ?_)
    refine Lib.hid ?_
    have B4 := hide (B3.out.grown hg4 (by omega) (fun k hk => (O3.out.lt k hk).1))
    have O4 := hide ho4
    clear ho4 hg4
    go_wp2
    go_ret
    refine ⟨v4, rfl, ?_, B4.out⟩
    have h9 := O4.out
    rw [HGV.out] at LC
    rw [← LC.out, ← LL.out]
    simpa [Lib.strCells, ByteArray.size] using h9
end Go.Proofs.YtdjdkgidihhkfabDoor
