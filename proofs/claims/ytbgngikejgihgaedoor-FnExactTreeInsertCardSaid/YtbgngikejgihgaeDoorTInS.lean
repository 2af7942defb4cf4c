import Derived.Test.YtbgngikejgihgaeDoorTInI
import Derived.Test.YtbgngikejgihgaeDoorLIns
import Derived.Test.YtbgngikejgihgaeDoorTVal2
import Derived.Deep.RegionWith
import Derived.Deep.Cut
import Derived.Deep.CutRange
import Derived.Deep.CutBlock
import Derived.Deep.DeepCutAuto
namespace Go.Proofs.YtbgngikejgihgaeDoor
open Go Go.RowKit
set_option linter.unusedVariables false

set_option maxHeartbeats 4000000 in
set_option maxRecDepth 100000 in
theorem specIns (base b cap : Nat) (xs : List It) (k : Int) (q : Pc) (w : World) (ho : OwI w base (.slice (some ⟨b, 0, none⟩) xs.length cap) xs) (hn : xs.length ≤ 1048576) :
    Calls Tryd.prog 25 #[.agg #[.slice (some ⟨b, 0, none⟩) xs.length cap], .int .i64 k, pcV q] w (InsPost w xs k q) := by
  have A0 := hide ((((Below.refl w.heap.size w).alloc (Nat.le_refl _) (.cells #[.slice (some ⟨b, 0, none⟩) xs.length cap] 33)).alloc (by simp) (.cells #[.int .i64 q.off, .int .i64 q.len, .int .i64 q.brk] 59)).alloc (by simp; omega) (.cells #[.slice none 0 0] 33))
  have O0 := hide (show OwI _ base _ xs from owns_below ho A0.out (Nat.le_refl _))
  have K0 : Boxed (((w.alloc (.cells #[.slice (some ⟨b, 0, none⟩) xs.length cap] 33)).alloc (.cells #[.int .i64 q.off, .int .i64 q.len, .int .i64 q.brk] 59)).alloc (.cells #[.slice none 0 0] 33)) w.heap.size 33 (.slice (some ⟨b, 0, none⟩) xs.length cap) := ((Boxed.new w 33 _).alloc _).alloc _
  have K1 : (((w.alloc (.cells #[.slice (some ⟨b, 0, none⟩) xs.length cap] 33)).alloc (.cells #[.int .i64 q.off, .int .i64 q.len, .int .i64 q.brk] 59)).alloc (.cells #[.slice none 0 0] 33)).heap[w.heap.size + 1]? = some (.cells #[.int .i64 q.off, .int .i64 q.len, .int .i64 q.brk] 59 (0, 0)) := by
    rw [Below.heap_alloc _ _ _ (by simp)]
    have := heap_alloc_new (w.alloc (.cells #[.slice (some ⟨b, 0, none⟩) xs.length cap] 33)) (.cells #[.int .i64 q.off, .int .i64 q.len, .int .i64 q.brk] 59)
    rw [World.size_alloc] at this; exact this
  have K2 := Boxed.new ((w.alloc (.cells #[.slice (some ⟨b, 0, none⟩) xs.length cap] 33)).alloc (.cells #[.int .i64 q.off, .int .i64 q.len, .int .i64 q.brk] 59)) 33 (.slice none 0 0)
  rw [World.size_alloc, World.size_alloc] at K2
  have hs0 : (((w.alloc (.cells #[.slice (some ⟨b, 0, none⟩) xs.length cap] 33)).alloc (.cells #[.int .i64 q.off, .int .i64 q.len, .int .i64 q.brk] 59)).alloc (.cells #[.slice none 0 0] 33)).heap.size = w.heap.size + 3 := by simp
  have HK0 := hide K0
  have HK1 := hide K1
  have HK2 := hide K2
  have VL := hide (validS _ _ xs _ (OwI.rd O0.out) (Nat.le_refl _) hn)
  have hs1 : w.heap.size + 3 ≤ (((w.alloc (.cells #[.slice (some ⟨b, 0, none⟩) xs.length cap] 33)).alloc (.cells #[.int .i64 q.off, .int .i64 q.len, .int .i64 q.brk] 59)).alloc (.cells #[.slice none 0 0] 33)).heap.size := by omega
  have PO := hide (pieceOkS q)
  have E1 := hide (fun (h : okT xs = false) => show insCode xs k q = 1 ∧ insTree xs k q = [] from (by
    have hT : readT xs = none := by
      cases hT : readT xs with
      | none => rfl
      | some T => rw [(readT_some hT).1] at h; cases h
    exact ⟨by unfold insCode; rw [hT], by unfold insTree; rw [hT]⟩))
  have E2 := hide (fun (h : okT xs = true) => show ∃ T, readT xs = some T from (by
    cases hT : readT xs with
    | none => rw [readT_none hT] at h; cases h
    | some T => exact ⟨T, rfl⟩))
  have TS := hide (fun B w hr hB hp => totalS B (.slice (some ⟨b, 0, none⟩) xs.length cap) xs w hr hB hn hp)
  generalize hN : xs.length = n at *
  have HN := hide hN
  unfold pcV at PO
  unfold pcV
  clear ho K0 K1 K2 hs0 hN
  cases hv : okT xs with
  | false =>
    obtain ⟨hc, ht⟩ := E1.out hv
    rw [hv] at VL
    unfold InsPost
    rw [hc, ht]
    clear hc ht hv E1 E2 TS
    go_enter Tryd.func25, Tryd.ntmps25
    go_wp2_with fail
    generalize ((w.alloc (.cells #[.slice (some ⟨b, 0, none⟩) n cap] 33)).alloc (.cells #[.int .i64 q.off, .int .i64 q.len, .int .i64 q.brk] 59)).alloc (.cells #[.slice none 0 0] 33) = w0 at *
    refine VL.out.mono ?_
    rintro e w1 ⟨rfl, hb1⟩
    have m2 : Boxed w1 (w.heap.size + 1 + 1) 33 (.slice none 0 0) := (hb1.block _ (by omega)).trans HK2.out
    have B1 := hide (A0.out.trans (hb1.mono (by omega)))
    have d1 := m2.cell
    have f1 := m2.frozen
    clear hb1
    go_wp2
    refine bodyPost_ret (v := .tuple #[.agg #[.slice none 0 0], .int .i64 1]) (by simp [results, Tryd.results25, go_sem, d1]) rfl ⟨_, rfl, World.ownsRow_nil _ _ _ _, ?_⟩
    repeat (first | exact B1.out | refine Below.setCell ?_ (by simp; omega) _ | refine Below.setCell ?_ (by simp) _)
  | true =>
    obtain ⟨T, hT⟩ := E2.out hv
    obtain ⟨_, hbal, hxs, h8⟩ := readT_some hT
    have hok := AT.ok_of_read hT
    obtain ⟨hpcs, _, htot, _⟩ := okT_pcs hv
    have hcode : insCode xs k q = insC T k q := by unfold insCode; rw [hT]
    have htree : insTree xs k q = if insC T k q = 0 then (T.ins k.toNat q).told 0 else [] := by unfold insTree; rw [hT]
    have htr : total xs = T.rns := by rw [hxs, AT.rns_told]
    have hits : T.its = n := by rw [← HN.out, hxs, AT.told_length]
    have bT := hok.bd
    rw [hv] at VL
    have HPC := hide hpcs
    have HBAL := hide hbal
    have HXS := hide hxs
    have HTR := hide htr
    have HIT := hide hits
    unfold InsPost
    rw [hcode, htree]
    have hqr : pcOk q = true → 1 ≤ q.len ∧ q.len ≤ 8192 := fun h => by simp only [pcOk, decide_eq_true_eq] at h; omega
    have HQR := hide hqr
    rw [htr] at TS
    have bn : n ≤ 8192 := by have := HN.out; rw [← this]; exact h8
    clear hpcs hbal hxs htr hcode htree hT hv hok E1 E2 htot hqr hits h8
    by_cases hq : pcOk q = true
    · rw [hq] at PO
      have hqr := HQR.out hq
      by_cases hk : 0 ≤ k ∧ k ≤ (T.its : Int)
      · have hk1 : ¬ k < 0 := by omega
        have hk2 : ¬ (n : Int) < k := by have := HIT.out; omega
        by_cases h8 : T.rns + q.len ≤ 8192
        · have hC : insC T k q = 0 := by unfold insC; rw [if_pos hq, if_pos hk, if_pos h8]
          rw [hC, if_pos rfl]
          obtain ⟨kn, rfl⟩ := Int.eq_ofNat_of_zero_le hk.1
          have h8' : ¬ (8192 : Int) < T.rns + q.len := by omega
          have d8 : decide ((8192 : Int) < T.rns + q.len) = false := by simpa using h8
          have INS := hide (fun W (ho : OwI W base (.slice (some ⟨b, 0, none⟩) T.its cap) (T.told 0)) => insertS T kn q base b cap W HBAL.out (by have := HIT.out; omega) (by omega) ho)
          rw [HIT.out, ← HXS.out] at INS
          unfold pcV at INS
          have e9 : ((kn : Int)).toNat = kn := by simp
          rw [e9]
          have hwr : IntKind.i64.wrap (T.rns + q.len) = T.rns + q.len := IntWalk.i64_in _ (by omega)
          generalize T.rns = rn at *
          generalize T.ins kn q = U at *
          clear hC hq hk e9
          go_enter Tryd.func25, Tryd.ntmps25
          go_wp2_with fail
          generalize ((w.alloc (.cells #[.slice (some ⟨b, 0, none⟩) n cap] 33)).alloc (.cells #[.int .i64 q.off, .int .i64 q.len, .int .i64 q.brk] 59)).alloc (.cells #[.slice none 0 0] 33) = w0 at *
          refine VL.out.mono ?_
          rintro e w1 ⟨rfl, hb1⟩
          have s1 := hb1.size
          have B1 := hide (A0.out.trans (hb1.mono (by omega)))
          have O1 := hide (show OwI w1 base _ xs from owns_below O0.out hb1 (Nat.le_refl _))
          have K1a : Boxed w1 w.heap.size 33 (.slice (some ⟨b, 0, none⟩) n cap) := (hb1.block _ (by omega)).trans HK0.out
          have K1b := (hb1.block (w.heap.size + 1) (by omega)).trans HK1.out
          have K1c : Boxed w1 (w.heap.size + 1 + 1) 33 (.slice none 0 0) := (hb1.block _ (by omega)).trans HK2.out
          have y0 : w1.cell? ⟨w.heap.size + 1, 0, none⟩ = some (.int .i64 q.off) := by rw [cell_of_row w1 _ 0 _ _ _ K1b]; rfl
          have y1 : w1.cell? ⟨w.heap.size + 1, 1, none⟩ = some (.int .i64 q.len) := by rw [cell_of_row w1 _ 1 _ _ _ K1b]; rfl
          have y2 : w1.cell? ⟨w.heap.size + 1, 2, none⟩ = some (.int .i64 q.brk) := by rw [cell_of_row w1 _ 2 _ _ _ K1b]; rfl
          clear hb1
          go_wp2_with fail
          refine (PO.out w1).mono ?_
          rintro e w2 ⟨rfl, hb2⟩
          have s2 := hb2.size
          have B2 := hide (B1.out.trans (hb2.mono (by omega)))
          clear y0 y1 y2
          have O2 := hide (show OwI w2 base _ xs from owns_below O1.out hb2 (Nat.le_refl _))
          have c0 := (show Boxed w2 w.heap.size 33 _ from (hb2.block _ (by omega)).trans K1a).cell
          have p1 : w2.cell? ⟨w.heap.size + 1, 1, none⟩ = some (.int .i64 q.len) := by rw [cell_of_row w2 _ 1 _ _ _ ((hb2.block _ (by omega)).trans K1b)]; rfl
          have l0 : w.heap.size < w2.heap.size := by omega
          have l1 : w.heap.size + 1 < w2.heap.size := by omega
          have KA := hide ((hb2.block w.heap.size (by omega)).trans K1a)
          have KB := hide ((hb2.block (w.heap.size + 1) (by omega)).trans K1b)
          have KC := hide ((hb2.block (w.heap.size + 1 + 1) (by omega)).trans K1c)
          clear hb2 O1
          go_upto_region 5 with fail
          go_cut [33] (fun s33 wc => s33 = .bool false ∧ Below w2.heap.size w2 wc)
          case first =>
            go_region_with (go_at_call 57; refine (TS.out _ _ (by exact (OwI.rd O2.out).heap rfl) (by exact Nat.le_refl _) HPC.out).mono ?_; rintro e w3 ⟨rfl, hb3'⟩; have hb3 : Below w2.heap.size w2 w3 := (⟨hb3'.os, hb3'.tape, hb3'.output, hb3'.size, hb3'.block⟩); have BB3 := hide hb3; have p1' := (hb3.cell (p := ⟨w.heap.size + 1, 1, none⟩) l1).trans p1; clear hb3 hb3')
            all_goals (go_wp2_with fail; go_meet; exact ⟨by first | rfl | (rw [d8]) | (rw [hwr, d8]), BB3.out⟩)
          case rest =>
          obtain ⟨rfl, hb3⟩ := hcut
          have s3 := hb3.size
          have B3 := hide (B2.out.trans (hb3.mono (by omega)))
          have O3 := hide (show OwI wc base _ xs from owns_below O2.out hb3 (Nat.le_refl _))
          have k0 := (show Boxed wc w.heap.size 33 _ from (hb3.block _ (by omega)).trans KA.out).cell
          have J1 := (hb3.block (w.heap.size + 1) (by omega)).trans KB.out
          have J2 := hide ((hb3.block (w.heap.size + 1 + 1) (by omega)).trans KC.out)
          have x0 : wc.cell? ⟨w.heap.size + 1, 0, none⟩ = some (.int .i64 q.off) := by rw [cell_of_row wc _ 0 _ _ _ J1]; rfl
          have x1 : wc.cell? ⟨w.heap.size + 1, 1, none⟩ = some (.int .i64 q.len) := by rw [cell_of_row wc _ 1 _ _ _ J1]; rfl
          have x2 : wc.cell? ⟨w.heap.size + 1, 2, none⟩ = some (.int .i64 q.brk) := by rw [cell_of_row wc _ 2 _ _ _ J1]; rfl
          clear hb3 J1 KA KB KC c0 p1 O2
          go_wp2_with fail
          refine (INS.out wc O3.out).mono ?_
          rintro e w4 ⟨v1, rfl, ho4, hb4⟩
          have s4 := hb4.size
          have m2 : Boxed w4 (w.heap.size + 1 + 1) 33 (.slice none 0 0) := (hb4.block _ (by omega)).trans J2.out
          have B4 := hide ((B3.out.trans (hb4.mono (by omega))))
          obtain ⟨a1, l1', c1, rfl⟩ : ∃ ao ln cap, v1 = .slice ao ln cap := by
            rcases ho4.2 with ⟨rfl, _⟩ | ⟨g, cap, cur, rfl, _⟩
            · exact ⟨_, _, _, rfl⟩
            · exact ⟨_, _, _, rfl⟩
          have d1 := m2.cell
          have f1 := m2.frozen
          have g1 := m2.lt
          have O4 := hide (OwI.base (base' := w.heap.size) ho4 (by omega))
          have O5 := hide (show OwI (w4.setCell ⟨w.heap.size + 1 + 1, 0, none⟩ (.slice a1 l1' c1)) w.heap.size (.slice a1 l1' c1) (U.told 0) from O4.out.kept (grownBy_setCell' w4 (w.heap.size + 1 + 1) (.slice a1 l1' c1)) (.inr (m2.not_row (by decide) O4.out).symm))
          have B5 := hide (B4.out.setCell (p := ⟨w.heap.size + 1 + 1, 0, none⟩) (by simp; omega) (.slice a1 l1' c1))
          have e1 := (m2.set (.slice a1 l1' c1)).cell
          clear ho4 hb4 m2 O4 J2
          go_wp2
          refine bodyPost_ret (v := .tuple #[.agg #[.slice a1 l1' c1], .int .i64 0]) (by simp [results, Tryd.results25, go_sem, e1]) rfl ⟨_, rfl, O5.out, B5.out⟩
        · have hC : insC T k q = 10 := by unfold insC; rw [if_pos hq, if_pos hk, if_neg h8]
          rw [hC, if_neg (by decide)]
          have d8 : decide ((8192 : Int) < T.rns + q.len) = true := by simp; omega
          have h8' : (8192 : Int) < T.rns + q.len := by omega
          have hwr : IntKind.i64.wrap (T.rns + q.len) = T.rns + q.len := IntWalk.i64_in _ (by omega)
          generalize T.rns = rn at *
          clear hC hq hk
          go_enter Tryd.func25, Tryd.ntmps25
          go_wp2_with fail
          generalize ((w.alloc (.cells #[.slice (some ⟨b, 0, none⟩) n cap] 33)).alloc (.cells #[.int .i64 q.off, .int .i64 q.len, .int .i64 q.brk] 59)).alloc (.cells #[.slice none 0 0] 33) = w0 at *
          refine VL.out.mono ?_
          rintro e w1 ⟨rfl, hb1⟩
          have s1 := hb1.size
          have B1 := hide (A0.out.trans (hb1.mono (by omega)))
          have O1 := hide (show OwI w1 base _ xs from owns_below O0.out hb1 (Nat.le_refl _))
          have K1a : Boxed w1 w.heap.size 33 (.slice (some ⟨b, 0, none⟩) n cap) := (hb1.block _ (by omega)).trans HK0.out
          have K1b := (hb1.block (w.heap.size + 1) (by omega)).trans HK1.out
          have K1c : Boxed w1 (w.heap.size + 1 + 1) 33 (.slice none 0 0) := (hb1.block _ (by omega)).trans HK2.out
          have y0 : w1.cell? ⟨w.heap.size + 1, 0, none⟩ = some (.int .i64 q.off) := by rw [cell_of_row w1 _ 0 _ _ _ K1b]; rfl
          have y1 : w1.cell? ⟨w.heap.size + 1, 1, none⟩ = some (.int .i64 q.len) := by rw [cell_of_row w1 _ 1 _ _ _ K1b]; rfl
          have y2 : w1.cell? ⟨w.heap.size + 1, 2, none⟩ = some (.int .i64 q.brk) := by rw [cell_of_row w1 _ 2 _ _ _ K1b]; rfl
          clear hb1
          go_wp2_with fail
          refine (PO.out w1).mono ?_
          rintro e w2 ⟨rfl, hb2⟩
          have s2 := hb2.size
          have B2 := hide (B1.out.trans (hb2.mono (by omega)))
          clear y0 y1 y2
          have O2 := hide (show OwI w2 base _ xs from owns_below O1.out hb2 (Nat.le_refl _))
          have c0 := (show Boxed w2 w.heap.size 33 _ from (hb2.block _ (by omega)).trans K1a).cell
          have p1 : w2.cell? ⟨w.heap.size + 1, 1, none⟩ = some (.int .i64 q.len) := by rw [cell_of_row w2 _ 1 _ _ _ ((hb2.block _ (by omega)).trans K1b)]; rfl
          have l1 : w.heap.size + 1 < w2.heap.size := by omega
          have KC := hide ((hb2.block (w.heap.size + 1 + 1) (by omega)).trans K1c)
          clear hb2 O1
          go_upto_region 5 with fail
          go_cut [33] (fun s33 wc => s33 = .bool true ∧ Below w2.heap.size w2 wc)
          case first =>
            go_region_with (go_at_call 57; refine (TS.out _ _ (by exact (OwI.rd O2.out).heap rfl) (by exact Nat.le_refl _) HPC.out).mono ?_; rintro e w3 ⟨rfl, hb3'⟩; have hb3 : Below w2.heap.size w2 w3 := (⟨hb3'.os, hb3'.tape, hb3'.output, hb3'.size, hb3'.block⟩); have BB3 := hide hb3; have p1' := (hb3.cell (p := ⟨w.heap.size + 1, 1, none⟩) l1).trans p1; clear hb3 hb3')
            all_goals (go_wp2_with fail; go_meet; exact ⟨by first | rfl | (rw [d8]) | (rw [hwr, d8]), BB3.out⟩)
          case rest =>
          obtain ⟨rfl, hb3⟩ := hcut
          have s3 := hb3.size
          have B3 := hide (B2.out.trans (hb3.mono (by omega)))
          have m2 : Boxed wc (w.heap.size + 1 + 1) 33 (.slice none 0 0) := (hb3.block (w.heap.size + 1 + 1) (by omega)).trans KC.out
          have d1 := m2.cell
          have f1 := m2.frozen
          clear hb3
          go_wp2
          refine bodyPost_ret (v := .tuple #[.agg #[.slice none 0 0], .int .i64 10]) (by simp [results, Tryd.results25, go_sem, d1]) rfl ⟨_, rfl, World.ownsRow_nil _ _ _ _, ?_⟩
          repeat (first | exact B3.out | refine Below.setCell ?_ (by simp; omega) _ | refine Below.setCell ?_ (by simp) _)
      · have hC : insC T k q = 2 := by unfold insC; rw [if_pos hq, if_neg hk]
        rw [hC, if_neg (by decide)]
        have hkk : k < 0 ∨ (¬ k < 0 ∧ (n : Int) < k) := by have := HIT.out; omega
        clear hC hq hk
        rcases hkk with hk1 | ⟨hk1, hk2⟩
        all_goals
          go_enter Tryd.func25, Tryd.ntmps25
          go_wp2_with fail
          generalize ((w.alloc (.cells #[.slice (some ⟨b, 0, none⟩) n cap] 33)).alloc (.cells #[.int .i64 q.off, .int .i64 q.len, .int .i64 q.brk] 59)).alloc (.cells #[.slice none 0 0] 33) = w0 at *
          refine VL.out.mono ?_
          rintro e w1 ⟨rfl, hb1⟩
          have s1 := hb1.size
          have B1 := hide (A0.out.trans (hb1.mono (by omega)))
          have O1 := hide (show OwI w1 base _ xs from owns_below O0.out hb1 (Nat.le_refl _))
          have K1a : Boxed w1 w.heap.size 33 (.slice (some ⟨b, 0, none⟩) n cap) := (hb1.block _ (by omega)).trans HK0.out
          have K1b := (hb1.block (w.heap.size + 1) (by omega)).trans HK1.out
          have K1c : Boxed w1 (w.heap.size + 1 + 1) 33 (.slice none 0 0) := (hb1.block _ (by omega)).trans HK2.out
          have y0 : w1.cell? ⟨w.heap.size + 1, 0, none⟩ = some (.int .i64 q.off) := by rw [cell_of_row w1 _ 0 _ _ _ K1b]; rfl
          have y1 : w1.cell? ⟨w.heap.size + 1, 1, none⟩ = some (.int .i64 q.len) := by rw [cell_of_row w1 _ 1 _ _ _ K1b]; rfl
          have y2 : w1.cell? ⟨w.heap.size + 1, 2, none⟩ = some (.int .i64 q.brk) := by rw [cell_of_row w1 _ 2 _ _ _ K1b]; rfl
          clear hb1
          go_wp2_with fail
          refine (PO.out w1).mono ?_
          rintro e w2 ⟨rfl, hb2⟩
          have s2 := hb2.size
          have B2 := hide (B1.out.trans (hb2.mono (by omega)))
          clear y0 y1 y2
          have c0 := (show Boxed w2 w.heap.size 33 _ from (hb2.block _ (by omega)).trans K1a).cell
          have m2 : Boxed w2 (w.heap.size + 1 + 1) 33 (.slice none 0 0) := (hb2.block (w.heap.size + 1 + 1) (by omega)).trans K1c
          have d1 := m2.cell
          have f1 := m2.frozen
          clear hb2 O1
          go_wp2
          refine bodyPost_ret (v := .tuple #[.agg #[.slice none 0 0], .int .i64 2]) (by simp [results, Tryd.results25, go_sem, d1]) rfl ⟨_, rfl, World.ownsRow_nil _ _ _ _, ?_⟩
          repeat (first | exact B2.out | refine Below.setCell ?_ (by simp; omega) _ | refine Below.setCell ?_ (by simp) _)
    · have hC : insC T k q = 1 := by unfold insC; rw [if_neg hq]
      rw [hC, if_neg (by decide)]
      rw [show pcOk q = false by simpa using hq] at PO
      clear hC hq
      skip
      all_goals
          go_enter Tryd.func25, Tryd.ntmps25
          go_wp2_with fail
          generalize ((w.alloc (.cells #[.slice (some ⟨b, 0, none⟩) n cap] 33)).alloc (.cells #[.int .i64 q.off, .int .i64 q.len, .int .i64 q.brk] 59)).alloc (.cells #[.slice none 0 0] 33) = w0 at *
          refine VL.out.mono ?_
          rintro e w1 ⟨rfl, hb1⟩
          have s1 := hb1.size
          have B1 := hide (A0.out.trans (hb1.mono (by omega)))
          have O1 := hide (show OwI w1 base _ xs from owns_below O0.out hb1 (Nat.le_refl _))
          have K1a : Boxed w1 w.heap.size 33 (.slice (some ⟨b, 0, none⟩) n cap) := (hb1.block _ (by omega)).trans HK0.out
          have K1b := (hb1.block (w.heap.size + 1) (by omega)).trans HK1.out
          have K1c : Boxed w1 (w.heap.size + 1 + 1) 33 (.slice none 0 0) := (hb1.block _ (by omega)).trans HK2.out
          have y0 : w1.cell? ⟨w.heap.size + 1, 0, none⟩ = some (.int .i64 q.off) := by rw [cell_of_row w1 _ 0 _ _ _ K1b]; rfl
          have y1 : w1.cell? ⟨w.heap.size + 1, 1, none⟩ = some (.int .i64 q.len) := by rw [cell_of_row w1 _ 1 _ _ _ K1b]; rfl
          have y2 : w1.cell? ⟨w.heap.size + 1, 2, none⟩ = some (.int .i64 q.brk) := by rw [cell_of_row w1 _ 2 _ _ _ K1b]; rfl
          clear hb1
          go_wp2_with fail
          refine (PO.out w1).mono ?_
          rintro e w2 ⟨rfl, hb2⟩
          have s2 := hb2.size
          have B2 := hide (B1.out.trans (hb2.mono (by omega)))
          clear y0 y1 y2
          have m2 : Boxed w2 (w.heap.size + 1 + 1) 33 (.slice none 0 0) := (hb2.block (w.heap.size + 1 + 1) (by omega)).trans K1c
          have d1 := m2.cell
          have f1 := m2.frozen
          clear hb2 O1
          go_wp2
          refine bodyPost_ret (v := .tuple #[.agg #[.slice none 0 0], .int .i64 1]) (by simp [results, Tryd.results25, go_sem, d1]) rfl ⟨_, rfl, World.ownsRow_nil _ _ _ _, ?_⟩
          repeat (first | exact B2.out | refine Below.setCell ?_ (by simp; omega) _ | refine Below.setCell ?_ (by simp) _)
end Go.Proofs.YtbgngikejgihgaeDoor
