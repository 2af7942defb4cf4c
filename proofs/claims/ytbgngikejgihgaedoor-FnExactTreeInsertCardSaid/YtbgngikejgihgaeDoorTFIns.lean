import Derived.Test.YtbgngikejgihgaeDoorTFace
import Derived.Test.YtbgngikejgihgaeDoorTIns
import Derived.Test.YtbgngikejgihgaeDoorTChk
namespace Go.Proofs.YtbgngikejgihgaeDoor
open Go Go.RowKit
set_option linter.unusedVariables false

set_option maxHeartbeats 2000000 in
set_option maxRecDepth 100000 in
theorem checkInsOk (i n m : Int) (k : Int) (q : Pc) (w : World) (hq : pcOk q = true) (hk : 0 ≤ k ∧ k ≤ i) (hn : 0 ≤ n ∧ n ≤ 8192) (hr : n + q.len ≤ 8192) :
    Calls Tryd.prog 86 #[cnt i n m, .int .i64 k, pcV q] w fun e w' => e = .returned .nilIface ∧ Below w.heap.size w w' := by
  have hq' := hq
  simp only [pcOk, decide_eq_true_eq] at hq'
  have HQ := hide hq
  have HB0 := hide (((Below.refl w.heap.size w).alloc (Nat.le_refl _) (.cells #[.int .i64 i, .int .i64 n, .int .i64 m] 149)).alloc (by simp) (.cells #[.int .i64 q.off, .int .i64 q.len, .int .i64 q.brk] 59))
  have hk1 : ((w.alloc (.cells #[.int .i64 i, .int .i64 n, .int .i64 m] 149)).alloc (.cells #[.int .i64 q.off, .int .i64 q.len, .int .i64 q.brk] 59)).heap[w.heap.size]? = some (.cells #[.int .i64 i, .int .i64 n, .int .i64 m] 149 (0, 0)) := by
    rw [Below.heap_alloc _ _ _ (by simp)]; exact heap_alloc_new _ _
  have hk2 : ((w.alloc (.cells #[.int .i64 i, .int .i64 n, .int .i64 m] 149)).alloc (.cells #[.int .i64 q.off, .int .i64 q.len, .int .i64 q.brk] 59)).heap[w.heap.size + 1]? = some (.cells #[.int .i64 q.off, .int .i64 q.len, .int .i64 q.brk] 59 (0, 0)) := by
    have := heap_alloc_new (w.alloc (.cells #[.int .i64 i, .int .i64 n, .int .i64 m] 149)) (.cells #[.int .i64 q.off, .int .i64 q.len, .int .i64 q.brk] 59)
    simpa using this
  have hs0 : ((w.alloc (.cells #[.int .i64 i, .int .i64 n, .int .i64 m] 149)).alloc (.cells #[.int .i64 q.off, .int .i64 q.len, .int .i64 q.brk] 59)).heap.size = w.heap.size + 2 := by simp
  clear hq
  unfold cnt pcV
  go_enter Tryd.func86, Tryd.ntmps86
  go_wp2_with fail
  generalize (w.alloc (.cells #[.int .i64 i, .int .i64 n, .int .i64 m] 149)).alloc (.cells #[.int .i64 q.off, .int .i64 q.len, .int .i64 q.brk] 59) = w0 at *
  refine (pieceI q w0).mono ?_
  rintro e w1 ⟨he, hb1⟩
  rw [HQ.out] at he
  simp only [errV, if_true] at he
  subst he
  have s1 := hb1.size
  have j1 := (hb1.block w.heap.size (by omega)).trans hk1
  have j2 := (hb1.block (w.heap.size + 1) (by omega)).trans hk2
  have a0 : w1.cell? ⟨w.heap.size, 0, none⟩ = some (.int .i64 i) := by rw [cell_of_row w1 _ 0 _ _ _ j1]; rfl
  have a1 : w1.cell? ⟨w.heap.size, 1, none⟩ = some (.int .i64 n) := by rw [cell_of_row w1 _ 1 _ _ _ j1]; rfl
  have b1 : w1.cell? ⟨w.heap.size + 1, 1, none⟩ = some (.int .i64 q.len) := by rw [cell_of_row w1 _ 1 _ _ _ j2]; rfl
  have B1 := hide (HB0.out.trans (hb1.mono (by omega)))
  have HKB := hide (boundsI k 0 i 2 w1)
  have hd : decide ((0 : Int) ≤ k ∧ k ≤ i) = true := by simp; omega
  rw [hd] at HKB
  simp only [errV, if_true] at HKB
  clear hb1 j1 j2 hk1 hk2 HB0 hd
  go_wp2_with fail
  refine HKB.out.mono ?_
  rintro e w2 ⟨rfl, rfl⟩
  go_wp2_with fail
  refine (roomOk n q.len _ (by omega) (by omega) (by omega)).mono ?_
  rintro e w3 ⟨rfl, rfl⟩
  go_wp2
  go_ret
  exact ⟨rfl, B1.out⟩

theorem AT.ins_ok (T : AT) (k : Nat) (q : Pc) (hk : k ≤ T.its) (h : T.ok) (hq : pcOk q = true) (hs : T.rns + q.len ≤ 8192) : (T.ins k q).ok := by
  have hf := AT.ins_flat T k q hk
  refine ⟨fun p hp => ?_, ?_⟩
  · rw [hf] at hp
    simp only [List.mem_append, List.mem_cons] at hp
    rcases hp with h1 | rfl | h1
    · exact h.1 p (List.mem_of_mem_take h1)
    · exact hq
    · exact h.1 p (List.mem_of_mem_drop h1)
  · have e : ((T.flat.take k).map (fun p => p.len)).sum + ((T.flat.drop k).map (fun p => p.len)).sum = T.rns := by
      rw [← List.sum_append, ← List.map_append, List.take_append_drop, ← AT.rns_of_flat]
    rw [AT.rns_of_flat, hf, List.map_append, List.sum_append, List.map_cons, List.sum_cons]
    omega

set_option maxHeartbeats 2000000 in
set_option maxRecDepth 100000 in
theorem insertPieceOk (B : Nat) (v : Value) (T : AT) (k : Nat) (q : Pc) (w : World) (hb : T.bal) (hok : T.ok) (hk : k ≤ T.its) (hq : pcOk q = true) (hs : T.rns + q.len ≤ 8192) (hr : RdI B w v (T.told 0)) (hB : B ≤ w.heap.size) :
    Calls Tryd.prog 61 #[.agg #[v], .int .i64 k, pcV q] w fun e w' => ∃ u bs, e = .returned (.tuple #[.pointer u, .nilIface]) ∧ Lies w' w.heap.size (T.ins k q) u bs ∧ Below w.heap.size w w' := by
  obtain ⟨ao, cap, rfl⟩ := hr.val
  have bT := hok.bd
  have HB0 := hide (((Below.refl w.heap.size w).alloc (Nat.le_refl _) (.cells #[.slice ao (T.told 0).length cap] 33)).alloc (by simp) (.cells #[.int .i64 q.off, .int .i64 q.len, .int .i64 q.brk] 59))
  have hk2 : ((w.alloc (.cells #[.slice ao (T.told 0).length cap] 33)).alloc (.cells #[.int .i64 q.off, .int .i64 q.len, .int .i64 q.brk] 59)).heap[w.heap.size + 1]? = some (.cells #[.int .i64 q.off, .int .i64 q.len, .int .i64 q.brk] 59 (0, 0)) := by
    have := heap_alloc_new (w.alloc (.cells #[.slice ao (T.told 0).length cap] 33)) (.cells #[.int .i64 q.off, .int .i64 q.len, .int .i64 q.brk] 59)
    simpa using this
  have hs0 : ((w.alloc (.cells #[.slice ao (T.told 0).length cap] 33)).alloc (.cells #[.int .i64 q.off, .int .i64 q.len, .int .i64 q.brk] 59)).heap.size = w.heap.size + 2 := by simp
  have HK := hide (readOk B _ T _ hb hok (hr.below HB0.out hB) (by omega))
  have HBO := hide (And.intro hb (AT.ins_ok T k q hk hok hq hs))
  have HCI := hide (fun (W : World) => checkInsOk T.its T.rns T.bks k q W hq (by omega) (by omega) hs)
  generalize (T.told 0).length = n at *
  clear hr hb hok
  unfold cnt pcV at HCI
  unfold pcV
  go_enter Tryd.func61, Tryd.ntmps61
  go_wp2_with fail
  generalize (w.alloc (.cells #[.slice ao n cap] 33)).alloc (.cells #[.int .i64 q.off, .int .i64 q.len, .int .i64 q.brk] 59) = w0 at *
  refine HK.out.mono ?_
  rintro e w1 ⟨u, bs, rfl, hT, hnd, hb1⟩
  have s1 := hb1.size
  have j2 := (hb1.block (w.heap.size + 1) (by omega)).trans hk2
  have B1 := hide (HB0.out.trans (hb1.mono (by omega)))
  have HT1 := hide hT
  have HND := hide hnd
  clear hT hnd hb1 HK HB0 hk2
  have b0 : w1.cell? ⟨w.heap.size + 1, 0, none⟩ = some (.int .i64 q.off) := by rw [cell_of_row w1 _ 0 _ _ _ j2]; rfl
  have b1 : w1.cell? ⟨w.heap.size + 1, 1, none⟩ = some (.int .i64 q.len) := by rw [cell_of_row w1 _ 1 _ _ _ j2]; rfl
  have b2 : w1.cell? ⟨w.heap.size + 1, 2, none⟩ = some (.int .i64 q.brk) := by rw [cell_of_row w1 _ 2 _ _ _ j2]; rfl
  have lp : w.heap.size + 1 < w1.heap.size := by omega
  go_upto_region 4 with fail
  go_cut [10] (fun s10 wc => s10 = .nilIface ∧ Below w1.heap.size w1 wc)
  case first =>
    go_region_with (first
      | (go_at_call 87; refine (allN T u bs _ _ (by exact HT1.out.heap rfl)).mono ?_; rintro e w2 ⟨rfl, hb2'⟩; have hb2 : Below w1.heap.size w1 w2 := (⟨hb2'.os, hb2'.tape, hb2'.output, hb2'.size, hb2'.block⟩); have s2 := hb2.size; have BB2 := hide hb2; have b0' := (hb2.cell (p := ⟨w.heap.size + 1, 0, none⟩) lp).trans b0; have b1' := (hb2.cell (p := ⟨w.heap.size + 1, 1, none⟩) lp).trans b1; have b2' := (hb2.cell (p := ⟨w.heap.size + 1, 2, none⟩) lp).trans b2; clear hb2 hb2'; simp only [cnt])
      | (go_at_call 86; refine (HCI.out _).mono ?_; rintro e w3 ⟨rfl, hb3⟩; have BB3 := hide (BB2.out.trans (hb3.mono s2)); clear hb3))
    all_goals (go_wp2_with fail; go_meet; exact ⟨rfl, BB3.out⟩)
  case rest =>
  obtain ⟨rfl, hb3⟩ := hcut
  obtain ⟨w3, rfl⟩ : ∃ w3, w3 = wc := ⟨_, rfl⟩
  have s3 := hb3.size
  have i3 := (hb3.block (w.heap.size + 1) (by omega)).trans j2
  have d0 : w3.cell? ⟨w.heap.size + 1, 0, none⟩ = some (.int .i64 q.off) := by rw [cell_of_row w3 _ 0 _ _ _ i3]; rfl
  have d1 : w3.cell? ⟨w.heap.size + 1, 1, none⟩ = some (.int .i64 q.len) := by rw [cell_of_row w3 _ 1 _ _ _ i3]; rfl
  have d2 : w3.cell? ⟨w.heap.size + 1, 2, none⟩ = some (.int .i64 q.brk) := by rw [cell_of_row w3 _ 2 _ _ _ i3]; rfl
  have B3 := hide (B1.out.trans (hb3.mono (by omega)))
  have HT3 := hide (HT1.out.below hb3 (Nat.le_refl _))
  have HIN := hide (insertN T k q u bs w0.heap.size w3 HBO.out.1 HBO.out.2 hk HT3.out HND.out (by omega))
  unfold pcV at HIN
  clear hb3 b0 b1 b2 i3 HCI j2 B1 HT1
  go_wp2_with fail
  refine HIN.out.mono ?_
  rintro e w4 ⟨u4, bs4, rfl, hT4, nd4, sub4, ch4⟩
  have B4 := hide (B3.out.trans (ch4.below (by omega) (fun x hx => by have := (HT3.out.lt x hx).1; omega)))
  have HT4 := hide (hT4.base (base' := w.heap.size) (by omega))
  clear hT4 nd4 sub4 ch4
  go_wp2
  go_ret2
  exact ⟨u4, bs4, rfl, HT4.out, B4.out⟩

set_option maxHeartbeats 2000000 in
set_option maxRecDepth 100000 in
theorem implInsertOk (B : Nat) (v : Value) (T : AT) (k : Nat) (q : Pc) (w : World) (hb : T.bal) (hok : T.ok) (hk : k ≤ T.its) (hq : pcOk q = true) (hs : T.rns + q.len ≤ 8192) (hr : RdI B w v (T.told 0)) (hB : B ≤ w.heap.size) :
    Calls Tryd.prog 28 #[.agg #[v], .int .i64 k, pcV q] w fun e w' => ∃ v1, e = .returned (.tuple #[.agg #[v1], .int .i64 0]) ∧ OwI w' w.heap.size v1 ((T.ins k q).told 0) ∧ Below w.heap.size w w' := by
  obtain ⟨ao, cap, rfl⟩ := hr.val
  have HB0 := hide ((((Below.refl w.heap.size w).alloc (Nat.le_refl _) (.cells #[.slice ao (T.told 0).length cap] 33)).alloc (by simp) (.cells #[.int .i64 q.off, .int .i64 q.len, .int .i64 q.brk] 59)).alloc (by simp; omega) (.cells #[.slice none 0 0] 33))
  have k2 := Boxed.new ((w.alloc (.cells #[.slice ao (T.told 0).length cap] 33)).alloc (.cells #[.int .i64 q.off, .int .i64 q.len, .int .i64 q.brk] 59)) 33 (.slice none 0 0)
  have hs0 : (((w.alloc (.cells #[.slice ao (T.told 0).length cap] 33)).alloc (.cells #[.int .i64 q.off, .int .i64 q.len, .int .i64 q.brk] 59)).alloc (.cells #[.slice none 0 0] 33)).heap.size = w.heap.size + 3 := by simp
  rw [World.size_alloc, World.size_alloc] at k2
  have HK := hide (insertPieceOk B _ T k q _ hb hok hk hq hs (hr.below HB0.out hB) (by omega))
  have HOK := hide (AT.ins_ok T k q hk hok hq hs)
  generalize AT.ins T k q = J at *
  generalize (T.told 0).length = n at *
  unfold pcV at HK
  clear hr hb hok
  unfold pcV
  go_enter Tryd.func28, Tryd.ntmps28
  go_wp2_with fail
  generalize ((w.alloc (.cells #[.slice ao n cap] 33)).alloc (.cells #[.int .i64 q.off, .int .i64 q.len, .int .i64 q.brk] 59)).alloc (.cells #[.slice none 0 0] 33) = w0 at *
  refine HK.out.mono ?_
  rintro e w1 ⟨u, bs, rfl, hT, hb1⟩
  have s1 := hb1.size
  have B1 := hide (HB0.out.trans (hb1.mono (by omega)))
  have j2 : Boxed w1 (w.heap.size + 1 + 1) 33 (.slice none 0 0) := (hb1.block _ (by omega)).trans k2
  have HT1 := hide hT
  clear hT hb1 HK HB0 k2
  go_wp2_with fail
  refine (answerOk J u bs _ w1 HT1.out HOK.out).mono ?_
  rintro e w2 ⟨v1, rfl, ho2, hb2⟩
  have s2 := hb2.size
  have m2 : Boxed w2 (w.heap.size + 1 + 1) 33 (.slice none 0 0) := (hb2.block _ (by omega)).trans j2
  have B2 := hide ((B1.out.trans (hb2.mono (by omega))))
  obtain ⟨a1, l1, c1, rfl⟩ : ∃ ao ln cap, v1 = .slice ao ln cap := by
    rcases ho2.2 with ⟨rfl, _⟩ | ⟨g, cap, cur, rfl, _⟩
    · exact ⟨_, _, _, rfl⟩
    · exact ⟨_, _, _, rfl⟩
  have d1 := m2.cell
  have f1 := m2.frozen
  have g1 := m2.lt
  have O2 := hide (OwI.base (base' := w.heap.size) ho2 (by omega))
  have O3 := hide (show OwI (w2.setCell ⟨w.heap.size + 1 + 1, 0, none⟩ (.slice a1 l1 c1)) w.heap.size (.slice a1 l1 c1) (J.told 0) from O2.out.kept (grownBy_setCell' w2 (w.heap.size + 1 + 1) (.slice a1 l1 c1)) (.inr (m2.not_row (by decide) O2.out).symm))
  have B3 := hide (B2.out.setCell (p := ⟨w.heap.size + 1 + 1, 0, none⟩) (by simp; omega) (.slice a1 l1 c1))
  have e1 := (m2.set (.slice a1 l1 c1)).cell
  clear ho2 hb2 B1 B2 j2 m2 O2 HT1
  go_wp2
  refine bodyPost_ret (v := .tuple #[.agg #[.slice a1 l1 c1], .int .i64 0]) (by simp [results, Tryd.results28, go_sem, e1]) rfl ⟨_, rfl, O3.out, B3.out⟩
end Go.Proofs.YtbgngikejgihgaeDoor
