import Derived.Test.YtbgngikejgihgaeDoorTFIns
import Derived.Test.YtbgngikejgihgaeDoorChkR
import Derived.Test.YtbgngikejgihgaeDoorCodeOf
namespace Go.Proofs.YtbgngikejgihgaeDoor
open Go Go.RowKit
set_option linter.unusedVariables false

/-- What an insertion is refused with, 0 if it is not. -/
def insC (T : AT) (k : Int) (q : Pc) : Int := if pcOk q = true then (if 0 ≤ k ∧ k ≤ T.its then (if T.rns + q.len ≤ 8192 then 0 else 10) else 2) else 1
def insCode (xs : List It) (k : Int) (q : Pc) : Int := match readT xs with | none => 1 | some T => insC T k q
def insTree (xs : List It) (k : Int) (q : Pc) : List It := match readT xs with | none => [] | some T => if insC T k q = 0 then (T.ins k.toNat q).told 0 else []
def msgIP : ByteArray := ⟨#[105, 110, 115, 101, 114, 116, 105, 110, 103, 32, 97, 32, 112, 105, 101, 99, 101]⟩

set_option maxHeartbeats 2000000 in
set_option maxRecDepth 100000 in
theorem checkInsBad (T : AT) (k : Int) (q : Pc) (w : World) (hT : 0 ≤ T.rns ∧ T.rns ≤ 8192) (hc : insC T k q ≠ 0) :
    Calls Tryd.prog 86 #[cnt T.its T.rns T.bks, .int .i64 k, pcV q] w fun e w' => e = .returned (.iface 118 (.int .i64 (insC T k q))) ∧ Below w.heap.size w w' := by
  have HB0 := hide (((Below.refl w.heap.size w).alloc (Nat.le_refl _) (.cells #[.int .i64 T.its, .int .i64 T.rns, .int .i64 T.bks] 149)).alloc (by simp) (.cells #[.int .i64 q.off, .int .i64 q.len, .int .i64 q.brk] 59))
  have hk1 : ((w.alloc (.cells #[.int .i64 T.its, .int .i64 T.rns, .int .i64 T.bks] 149)).alloc (.cells #[.int .i64 q.off, .int .i64 q.len, .int .i64 q.brk] 59)).heap[w.heap.size]? = some (.cells #[.int .i64 T.its, .int .i64 T.rns, .int .i64 T.bks] 149 (0, 0)) := by
    rw [Below.heap_alloc _ _ _ (by simp)]; exact heap_alloc_new _ _
  have hk2 : ((w.alloc (.cells #[.int .i64 T.its, .int .i64 T.rns, .int .i64 T.bks] 149)).alloc (.cells #[.int .i64 q.off, .int .i64 q.len, .int .i64 q.brk] 59)).heap[w.heap.size + 1]? = some (.cells #[.int .i64 q.off, .int .i64 q.len, .int .i64 q.brk] 59 (0, 0)) := by
    have := heap_alloc_new (w.alloc (.cells #[.int .i64 T.its, .int .i64 T.rns, .int .i64 T.bks] 149)) (.cells #[.int .i64 q.off, .int .i64 q.len, .int .i64 q.brk] 59)
    simpa using this
  have hs0 : ((w.alloc (.cells #[.int .i64 T.its, .int .i64 T.rns, .int .i64 T.bks] 149)).alloc (.cells #[.int .i64 q.off, .int .i64 q.len, .int .i64 q.brk] 59)).heap.size = w.heap.size + 2 := by simp
  unfold cnt pcV
  by_cases hq : pcOk q = true
  · have PI := hide (pieceI q)
    rw [hq] at PI
    simp only [errV, if_true] at PI
    by_cases hk : 0 ≤ k ∧ k ≤ T.its
    · have hn8 : ¬ T.rns + q.len ≤ 8192 := by
        intro h8
        exact hc (by unfold insC; rw [if_pos hq, if_pos hk, if_pos h8])
      have hE : insC T k q = 10 := by unfold insC; rw [if_pos hq, if_pos hk, if_neg hn8]
      rw [hE]
      have HKB := hide (boundsI k 0 T.its 2)
      have hd : decide ((0 : Int) ≤ k ∧ k ≤ T.its) = true := by rw [decide_eq_true_eq]; exact hk
      rw [hd] at HKB
      simp only [errV, if_true] at HKB
      have RM := hide (fun w => checkRoomN T.rns q.len w (by omega) (by omega))
      rw [show decide (T.rns ≤ 8192 ∧ q.len ≤ 8192 - T.rns) = false by rw [decide_eq_false_iff_not]; omega] at RM
      simp only [errV, Bool.false_eq_true, if_false] at RM
      unfold pcV at PI
      clear hc hd hq hk hn8 hE
      generalize (T.its : Int) = i at *
      generalize T.rns = n at *
      generalize T.bks = m at *
      go_enter Tryd.func86, Tryd.ntmps86
      go_wp2_with fail
      generalize (w.alloc (.cells #[.int .i64 i, .int .i64 n, .int .i64 m] 149)).alloc (.cells #[.int .i64 q.off, .int .i64 q.len, .int .i64 q.brk] 59) = w0 at *
      refine (PI.out w0).mono ?_
      rintro e w1 ⟨rfl, hb1⟩
      have s1 := hb1.size
      have j1 := (hb1.block w.heap.size (by omega)).trans hk1
      have j2 := (hb1.block (w.heap.size + 1) (by omega)).trans hk2
      have a0 : w1.cell? ⟨w.heap.size, 0, none⟩ = some (.int .i64 i) := by rw [cell_of_row w1 _ 0 _ _ _ j1]; rfl
      have a1 : w1.cell? ⟨w.heap.size, 1, none⟩ = some (.int .i64 n) := by rw [cell_of_row w1 _ 1 _ _ _ j1]; rfl
      have b1 : w1.cell? ⟨w.heap.size + 1, 1, none⟩ = some (.int .i64 q.len) := by rw [cell_of_row w1 _ 1 _ _ _ j2]; rfl
      have B1 := hide (HB0.out.trans (hb1.mono (by omega)))
      clear hb1 j1 j2 hk1 hk2 HB0
      go_wp2_with fail
      refine (HKB.out _).mono ?_
      rintro e w2 ⟨rfl, rfl⟩
      go_wp2_with fail
      refine (RM.out _).mono ?_
      rintro e w3 ⟨rfl, rfl⟩
      go_wp2
      go_ret
      exact ⟨rfl, B1.out⟩
    · have hE : insC T k q = 2 := by unfold insC; rw [if_pos hq, if_neg hk]
      rw [hE]
      have HKB := hide (boundsI k 0 T.its 2)
      have hd : decide ((0 : Int) ≤ k ∧ k ≤ T.its) = false := by rw [decide_eq_false_iff_not]; exact hk
      rw [hd] at HKB
      simp only [errV, Bool.false_eq_true, if_false] at HKB
      unfold pcV at PI
      clear hc hd hq hk hE
      generalize (T.its : Int) = i at *
      generalize T.rns = n at *
      generalize T.bks = m at *
      go_enter Tryd.func86, Tryd.ntmps86
      go_wp2_with fail
      generalize (w.alloc (.cells #[.int .i64 i, .int .i64 n, .int .i64 m] 149)).alloc (.cells #[.int .i64 q.off, .int .i64 q.len, .int .i64 q.brk] 59) = w0 at *
      refine (PI.out w0).mono ?_
      rintro e w1 ⟨rfl, hb1⟩
      have s1 := hb1.size
      have j1 := (hb1.block w.heap.size (by omega)).trans hk1
      have a0 : w1.cell? ⟨w.heap.size, 0, none⟩ = some (.int .i64 i) := by rw [cell_of_row w1 _ 0 _ _ _ j1]; rfl
      have B1 := hide (HB0.out.trans (hb1.mono (by omega)))
      clear hb1 j1 hk1 hk2 HB0
      go_wp2_with fail
      refine (HKB.out _).mono ?_
      rintro e w2 ⟨rfl, rfl⟩
      go_wp2
      go_ret
      exact ⟨rfl, B1.out⟩
  · have hE : insC T k q = 1 := by unfold insC; rw [if_neg hq]
    rw [hE]
    have PI := hide (pieceI q)
    rw [show pcOk q = false by simpa using hq] at PI
    simp only [errV, Bool.false_eq_true, if_false] at PI
    unfold pcV at PI
    clear hc hq hE hk1 hk2
    generalize (T.its : Int) = i at *
    generalize T.rns = n at *
    generalize T.bks = m at *
    go_enter Tryd.func86, Tryd.ntmps86
    go_wp2_with fail
    refine (PI.out _).mono ?_
    rintro e w1 ⟨rfl, hb1⟩
    have B1 := hide (HB0.out.trans (hb1.mono (by omega)))
    clear hb1
    go_wp2
    go_ret
    exact ⟨rfl, B1.out⟩

set_option maxHeartbeats 2000000 in
set_option maxRecDepth 100000 in
theorem insertPieceBad (B : Nat) (v : Value) (xs : List It) (k : Int) (q : Pc) (w : World) (hr : RdI B w v xs) (hB : B ≤ w.heap.size) (hn : xs.length ≤ 1048576) (hc : insCode xs k q ≠ 0) :
    Calls Tryd.prog 61 #[.agg #[v], .int .i64 k, pcV q] w fun e w' => (∃ msg, e = .returned (.tuple #[.pointer none, .iface 120 (.agg #[.string msg, .iface 118 (.int .i64 (insCode xs k q))])])) ∧ Below w.heap.size w w' := by
  obtain ⟨ao, cap, rfl⟩ := hr.val
  have HB0 := hide (((Below.refl w.heap.size w).alloc (Nat.le_refl _) (.cells #[.slice ao xs.length cap] 33)).alloc (by simp) (.cells #[.int .i64 q.off, .int .i64 q.len, .int .i64 q.brk] 59))
  have hk2 : ((w.alloc (.cells #[.slice ao xs.length cap] 33)).alloc (.cells #[.int .i64 q.off, .int .i64 q.len, .int .i64 q.brk] 59)).heap[w.heap.size + 1]? = some (.cells #[.int .i64 q.off, .int .i64 q.len, .int .i64 q.brk] 59 (0, 0)) := by
    have := heap_alloc_new (w.alloc (.cells #[.slice ao xs.length cap] 33)) (.cells #[.int .i64 q.off, .int .i64 q.len, .int .i64 q.brk] 59)
    simpa using this
  have hs0 : ((w.alloc (.cells #[.slice ao xs.length cap] 33)).alloc (.cells #[.int .i64 q.off, .int .i64 q.len, .int .i64 q.brk] 59)).heap.size = w.heap.size + 2 := by simp
  have HI := hide (readTreeN B _ xs _ (hr.below HB0.out hB) (by omega) hn)
  have HC := hide hc
  have HX := hide (show insCode xs k q = (match readT xs with | none => 1 | some T => insC T k q) from rfl)
  generalize insCode xs k q = cd at *
  generalize hN : xs.length = n at *
  unfold pcV
  clear hr hc
  go_enter Tryd.func61, Tryd.ntmps61
  go_wp2_with fail
  generalize (w.alloc (.cells #[.slice ao n cap] 33)).alloc (.cells #[.int .i64 q.off, .int .i64 q.len, .int .i64 q.brk] 59) = w0 at *
  refine HI.out.mono ?_
  clear HI
  cases hT : readT xs with
  | none =>
    rw [hT] at HX
    simp only at HX
    clear hT
    rintro e w1 ⟨⟨msg, rfl⟩, hb1⟩
    have HB1 := hide (HB0.out.trans (hb1.mono (by omega)))
    clear hb1 HB0 hk2
    go_wp2
    go_ret2
    exact ⟨⟨msg, by rw [HX.out]; rfl⟩, HB1.out⟩
  | some T =>
    rw [hT] at HX
    simp only at HX
    clear hT
    rintro e w1 ⟨u, bs, rfl, hL, hnd, hok, hb1⟩
    have s1 := hb1.size
    have bT := hok.bd
    have HB1 := hide (HB0.out.trans (hb1.mono (by omega)))
    have HT1 := hide hL
    have j2 := (hb1.block (w.heap.size + 1) (by omega)).trans hk2
    have b0 : w1.cell? ⟨w.heap.size + 1, 0, none⟩ = some (.int .i64 q.off) := by rw [cell_of_row w1 _ 0 _ _ _ j2]; rfl
    have b1 : w1.cell? ⟨w.heap.size + 1, 1, none⟩ = some (.int .i64 q.len) := by rw [cell_of_row w1 _ 1 _ _ _ j2]; rfl
    have b2 : w1.cell? ⟨w.heap.size + 1, 2, none⟩ = some (.int .i64 q.brk) := by rw [cell_of_row w1 _ 2 _ _ _ j2]; rfl
    have lp : w.heap.size + 1 < w1.heap.size := by omega
    have HCI := hide (fun (W : World) => checkInsBad T k q W (by omega) (by rw [← HX.out]; exact HC.out))
    rw [← HX.out] at HCI
    unfold cnt pcV at HCI
    clear hb1 HB0 hk2 hL hnd hok j2
    go_upto_region 4 with fail
    go_cut [10] (fun s10 wc => s10 = .iface 118 (.int .i64 cd) ∧ Below w1.heap.size w1 wc)
    case first =>
      go_region_with (first
        | (go_at_call 87; refine (allN T u bs _ _ (by exact HT1.out.heap rfl)).mono ?_; rintro e w2 ⟨rfl, hb2'⟩; have hb2 : Below w1.heap.size w1 w2 := (⟨hb2'.os, hb2'.tape, hb2'.output, hb2'.size, hb2'.block⟩); have s2 := hb2.size; have BB2 := hide hb2; have b0' := (hb2.cell (p := ⟨w.heap.size + 1, 0, none⟩) lp).trans b0; have b1' := (hb2.cell (p := ⟨w.heap.size + 1, 1, none⟩) lp).trans b1; have b2' := (hb2.cell (p := ⟨w.heap.size + 1, 2, none⟩) lp).trans b2; clear hb2 hb2'; simp only [cnt])
        | (go_at_call 86; refine (HCI.out _).mono ?_; rintro e w3 ⟨rfl, hb3⟩; have BB3 := hide (BB2.out.trans (hb3.mono s2)); clear hb3))
      all_goals (go_wp2_with fail; go_meet; exact ⟨rfl, BB3.out⟩)
    case rest =>
    obtain ⟨rfl, hb3⟩ := hcut
    have B3 := hide (HB1.out.trans (hb3.mono (by omega)))
    clear hb3 b0 b1 b2 HCI HT1 HB1
    go_wp2
    go_ret2
    exact ⟨⟨msgIP, rfl⟩, B3.out⟩

set_option maxHeartbeats 2000000 in
set_option maxRecDepth 100000 in
theorem answerBad (msg : ByteArray) (c : Int) (w : World) (hg : w.cell? ⟨0, 0, none⟩ = some (.iface 199 (.agg #[.pointer (some ⟨4, 73, none⟩)]))) :
    Calls Tryd.prog 60 #[.pointer none, .iface 120 (.agg #[.string msg, .iface 118 (.int .i64 c)])] w fun e w' => e = .returned (.tuple #[.agg #[.slice none 0 0], .int .i64 c]) ∧ Below w.heap.size w w' := by
  have hlt : 0 < w.heap.size := World.block_lt_of_cell? w _ hg
  have HB0 := hide ((Below.refl w.heap.size w).alloc (Nat.le_refl _) (.cells #[.slice none 0 0] 33))
  have hk0 := Boxed.new w 33 (.slice none 0 0)
  have hs0 : w.heap.size < (w.alloc (.cells #[.slice none 0 0] 33)).heap.size := by simp
  have CO := hide (codeOf msg c _ ((HB0.out.cell (p := ⟨0, 0, none⟩) hlt).trans hg))
  clear hg
  go_enter Tryd.func60, Tryd.ntmps60
  go_wp2_with fail
  generalize w.alloc (.cells #[.slice none 0 0] 33) = w0 at *
  refine CO.out.mono ?_
  rintro e w1 ⟨rfl, hb1⟩
  have j0 : Boxed w1 w.heap.size 33 (.slice none 0 0) := (hb1.block _ hs0).trans hk0
  have B1 := hide (HB0.out.trans (hb1.mono (by omega)))
  have c0 := j0.cell
  have f0 := j0.frozen
  clear hb1 HB0
  go_wp2
  refine bodyPost_ret (v := .tuple #[.agg #[.slice none 0 0], .int .i64 c]) (by simp [results, Tryd.results60, go_sem, c0]) rfl ⟨rfl, ?_⟩
  repeat (first | exact B1.out | refine Below.setCell ?_ (by simp) _)

set_option maxHeartbeats 2000000 in
set_option maxRecDepth 100000 in
theorem implInsertBad (B : Nat) (v : Value) (xs : List It) (k : Int) (q : Pc) (w : World) (hr : RdI B w v xs) (hB : B ≤ w.heap.size) (hn : xs.length ≤ 1048576) (hc : insCode xs k q ≠ 0) (hg : w.cell? ⟨0, 0, none⟩ = some (.iface 199 (.agg #[.pointer (some ⟨4, 73, none⟩)]))) :
    Calls Tryd.prog 28 #[.agg #[v], .int .i64 k, pcV q] w fun e w' => e = .returned (.tuple #[.agg #[.slice none 0 0], .int .i64 (insCode xs k q)]) ∧ Below w.heap.size w w' := by
  have hlt : 0 < w.heap.size := World.block_lt_of_cell? w _ hg
  obtain ⟨ao, cap, rfl⟩ := hr.val
  have HB0 := hide ((((Below.refl w.heap.size w).alloc (Nat.le_refl _) (.cells #[.slice ao xs.length cap] 33)).alloc (by simp) (.cells #[.int .i64 q.off, .int .i64 q.len, .int .i64 q.brk] 59)).alloc (by simp; omega) (.cells #[.slice none 0 0] 33))
  have k2 := Boxed.new ((w.alloc (.cells #[.slice ao xs.length cap] 33)).alloc (.cells #[.int .i64 q.off, .int .i64 q.len, .int .i64 q.brk] 59)) 33 (.slice none 0 0)
  have hs0 : (((w.alloc (.cells #[.slice ao xs.length cap] 33)).alloc (.cells #[.int .i64 q.off, .int .i64 q.len, .int .i64 q.brk] 59)).alloc (.cells #[.slice none 0 0] 33)).heap.size = w.heap.size + 3 := by simp
  rw [World.size_alloc, World.size_alloc] at k2
  have HK := hide (insertPieceBad B _ xs k q _ (hr.below HB0.out hB) (by omega) hn hc)
  have HG := hide ((HB0.out.cell (p := ⟨0, 0, none⟩) hlt).trans hg)
  generalize insCode xs k q = cd at *
  generalize xs.length = n at *
  unfold pcV at HK
  clear hr hc hg
  unfold pcV
  go_enter Tryd.func28, Tryd.ntmps28
  go_wp2_with fail
  generalize ((w.alloc (.cells #[.slice ao n cap] 33)).alloc (.cells #[.int .i64 q.off, .int .i64 q.len, .int .i64 q.brk] 59)).alloc (.cells #[.slice none 0 0] 33) = w0 at *
  refine HK.out.mono ?_
  rintro e w1 ⟨⟨msg, rfl⟩, hb1⟩
  have s1 := hb1.size
  have B1 := hide (HB0.out.trans (hb1.mono (by omega)))
  have j2 : Boxed w1 (w.heap.size + 1 + 1) 33 (.slice none 0 0) := (hb1.block _ (by omega)).trans k2
  have G1 := hide ((hb1.cell (p := ⟨0, 0, none⟩) (show 0 < w0.heap.size by omega)).trans HG.out)
  clear hb1 HK HB0 k2
  go_wp2_with fail
  refine (answerBad msg cd w1 G1.out).mono ?_
  rintro e w2 ⟨rfl, hb2⟩
  have s2 := hb2.size
  have m2 : Boxed w2 (w.heap.size + 1 + 1) 33 (.slice none 0 0) := (hb2.block _ (by omega)).trans j2
  have B2 := hide ((B1.out.trans (hb2.mono (by omega))))
  have d1 := m2.cell
  have f1 := m2.frozen
  have g1 := m2.lt
  clear hb2 B1 j2
  go_wp2
  refine bodyPost_ret (v := .tuple #[.agg #[.slice none 0 0], .int .i64 cd]) (by simp [results, Tryd.results28, go_sem, d1]) rfl ⟨rfl, ?_⟩
  repeat (first | exact B2.out | refine Below.setCell ?_ (by simp; omega) _ | refine Below.setCell ?_ (by simp) _)

theorem AT.flat_told : ∀ (T : AT) (d : Int), (T.told d).map (fun x => x.pc) = T.flat
  | .nil, d => rfl
  | .node l p r, d => by simp [AT.told, AT.flat, AT.flat_told l, AT.flat_told r]
theorem AT.ok_of_read {xs : List It} {T : AT} (h : readT xs = some T) : T.ok := by
  obtain ⟨h1, h2, h3, h4⟩ := readT_some h
  simp only [okT, Bool.and_eq_true, decide_eq_true_eq] at h1
  refine ⟨fun p hp => ?_, ?_⟩
  · rw [← AT.flat_told T 0, ← h3] at hp
    obtain ⟨x, hx, rfl⟩ := List.mem_map.1 hp
    exact List.all_eq_true.1 h1.1.1.2 x hx
  · rw [← AT.rns_told T 0, ← h3]; exact h1.1.2

/-- What TreeInsert answers. -/
def InsPost (w : World) (xs : List It) (k : Int) (q : Pc) (e : Ending) (w' : World) : Prop := ∃ v1, e = .returned (.tuple #[.agg #[v1], .int .i64 (insCode xs k q)]) ∧ OwI w' w.heap.size v1 (insTree xs k q) ∧ Below w.heap.size w w'

theorem implIns (B : Nat) (v : Value) (xs : List It) (k : Int) (q : Pc) (w : World) (hr : RdI B w v xs) (hB : B ≤ w.heap.size) (hn : xs.length ≤ 1048576) (hg : w.cell? ⟨0, 0, none⟩ = some (.iface 199 (.agg #[.pointer (some ⟨4, 73, none⟩)]))) :
    Calls Tryd.prog 28 #[.agg #[v], .int .i64 k, pcV q] w (InsPost w xs k q) := by
  by_cases hc : insCode xs k q = 0
  · cases hT : readT xs with
    | none => rw [insCode, hT] at hc; simp at hc
    | some T =>
      have hc2 : insC T k q = 0 := by rw [insCode, hT] at hc; exact hc
      obtain ⟨h1, h2, h3, h4⟩ := readT_some hT
      have hok := AT.ok_of_read hT
      unfold insC at hc2
      split at hc2
      · rename_i hq
        split at hc2
        · rename_i hk
          split at hc2
          · rename_i hr8
            obtain ⟨kn, rfl⟩ := Int.eq_ofNat_of_zero_le hk.1
            have h9 := implInsertOk B v T kn q w h2 hok (by omega) hq hr8 (by rw [← h3]; exact hr) hB
            refine h9.mono ?_
            rintro e w' ⟨v1, rfl, ho, hb⟩
            refine ⟨v1, by rw [hc], ?_, hb⟩
            have e9 : insTree xs (kn : Int) q = (T.ins kn q).told 0 := by
              unfold insTree
              rw [hT]
              simp only
              rw [if_pos (by unfold insC; rw [if_pos hq, if_pos hk, if_pos hr8])]
              rfl
            rw [e9]; exact ho
          · simp at hc2
        · simp at hc2
      · simp at hc2
  · refine (implInsertBad B v xs k q w hr hB hn hc hg).mono ?_
    rintro e w' ⟨rfl, hb⟩
    refine ⟨_, rfl, ?_, hb⟩
    have e9 : insTree xs k q = [] := by
      unfold insTree
      cases hT : readT xs with
      | none => rfl
      | some T =>
        simp only
        rw [if_neg (by rw [insCode, hT] at hc; exact hc)]
    rw [e9]; exact World.ownsRow_nil _ _ _ _
end Go.Proofs.YtbgngikejgihgaeDoor
