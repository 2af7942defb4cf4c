import Derived.Test.YtbgngikejgihgaeDoorTFDel
import Derived.Test.YtbgngikejgihgaeDoorCodeOf
namespace Go.Proofs.YtbgngikejgihgaeDoor
open Go Go.RowKit
set_option linter.unusedVariables false

def delCode (xs : List It) (k : Int) : Int := match readT xs with | none => 1 | some T => if 0 ≤ k ∧ k ≤ (T.its : Int) - 1 then 0 else 2
def delTree (xs : List It) (k : Int) : List It := match readT xs with | none => [] | some T => if 0 ≤ k ∧ k ≤ (T.its : Int) - 1 then (T.rem k.toNat).told 0 else []
def msgDP : ByteArray := ⟨#[100, 101, 108, 101, 116, 105, 110, 103, 32, 97, 32, 112, 105, 101, 99, 101]⟩

set_option maxHeartbeats 2000000 in
set_option maxRecDepth 100000 in
theorem deletePieceBad (B : Nat) (v : Value) (xs : List It) (k : Int) (w : World) (hr : RdI B w v xs) (hB : B ≤ w.heap.size) (hn : xs.length ≤ 1048576) (hc : delCode xs k ≠ 0) :
    Calls Tryd.prog 66 #[.agg #[v], .int .i64 k] w fun e w' => (∃ msg, e = .returned (.tuple #[.pointer none, .iface 120 (.agg #[.string msg, .iface 118 (.int .i64 (delCode xs k))])])) ∧ Below w.heap.size w w' := by
  obtain ⟨ao, cap, rfl⟩ := hr.val
  have HB0 := hide ((Below.refl w.heap.size w).alloc (Nat.le_refl _) (.cells #[.slice ao xs.length cap] 33))
  have hs0 : (w.alloc (.cells #[.slice ao xs.length cap] 33)).heap.size = w.heap.size + 1 := by simp
  have HI := hide (readTreeN B _ xs _ (hr.below HB0.out hB) (by omega) hn)
  have HC := hide hc
  have HX := hide (show delCode xs k = (match readT xs with | none => 1 | some T => if 0 ≤ k ∧ k ≤ (T.its : Int) - 1 then 0 else 2) from rfl)
  have fl0 := Tryd.fld0
  generalize delCode xs k = cd at *
  generalize hN : xs.length = n at *
  clear hr hc
  go_enter Tryd.func66, Tryd.ntmps66
  go_wp2_with fail
  generalize w.alloc (.cells #[.slice ao n cap] 33) = w0 at *
  refine HI.out.mono ?_
  clear HI
  cases hT : readT xs with
  | none =>
    rw [hT] at HX
    simp only at HX
    clear hT
    rintro e w1 ⟨⟨msg, rfl⟩, hb1⟩
    have HB1 := hide (HB0.out.trans (hb1.mono (by omega)))
    clear hb1 HB0
    go_wp2
    go_ret2
    exact ⟨⟨msg, by rw [HX.out]; rfl⟩, HB1.out⟩
  | some T =>
    rw [hT] at HX
    simp only at HX
    clear hT
    have hk : ¬ (0 ≤ k ∧ k ≤ (T.its : Int) - 1) := by
      intro h9
      have h8 := HX.out
      rw [if_pos h9] at h8
      exact HC.out h8
    rw [if_neg hk] at HX
    rintro e w1 ⟨u, bs, rfl, hL, hnd, hok, hb1⟩
    have s1 := hb1.size
    have bT := hok.bd
    have B1 := hide (HB0.out.trans (hb1.mono (by omega)))
    have HT1 := hide hL
    clear hL hnd hb1 HB0 hok
    go_wp2_with fail
    refine (allN T u bs _ w1 HT1.out).mono ?_
    rintro e w2 ⟨rfl, hb2⟩
    have B2 := hide (B1.out.trans (hb2.mono (by omega)))
    have HKB := hide (boundsI k 0 (T.its - 1) 2 w2)
    have hd : decide ((0 : Int) ≤ k ∧ k ≤ (T.its : Int) - 1) = false := by rw [decide_eq_false_iff_not]; exact hk
    rw [hd] at HKB
    simp only [errV, Bool.false_eq_true, if_false] at HKB
    clear hb2 HT1 B1 hd hk
    unfold cnt
    go_wp2_with fail
    refine HKB.out.mono ?_
    rintro e w3 ⟨rfl, rfl⟩
    go_wp2
    go_ret2
    exact ⟨⟨msgDP, by rw [HX.out]; rfl⟩, B2.out⟩

set_option maxHeartbeats 2000000 in
set_option maxRecDepth 100000 in
theorem answerBad (msg : ByteArray) (c : Int) (w : World) (hg : w.cell? ⟨0, 0, none⟩ = some (.iface 199 (.agg #[.pointer (some ⟨4, 73, none⟩)]))) :
    Calls Tryd.prog 60 #[.pointer none, .iface 120 (.agg #[.string msg, .iface 118 (.int .i64 c)])] w fun e w' => e = .returned (.tuple #[.agg #[.slice none 0 0], .int .i64 c]) ∧ Below w.heap.size w w' := by
  have hlt : 0 < w.heap.size := World.block_lt_of_cell? w _ hg
  have HB0 := hide ((Below.refl w.heap.size w).alloc (Nat.le_refl _) (.cells #[.slice none 0 0] 33))
  have hk0 := Boxed.new w 33 (.slice none 0 0)
  have hs0 : w.heap.size < (w.alloc (.cells #[.slice none 0 0] 33)).heap.size := by simp
  have CO := hide (codeOf msg c _ ((HB0.out.cell (p := ⟨0, 0, none⟩) hlt).trans hg))
  clear hg
  go_enter Tryd.func60, Tryd.ntmps60
  go_wp2_with fail
  generalize w.alloc (.cells #[.slice none 0 0] 33) = w0 at *
  refine CO.out.mono ?_
  rintro e w1 ⟨rfl, hb1⟩
  have j0 : Boxed w1 w.heap.size 33 (.slice none 0 0) := (hb1.block _ hs0).trans hk0
  have B1 := hide (HB0.out.trans (hb1.mono (by omega)))
  have c0 := j0.cell
  have f0 := j0.frozen
  clear hb1 HB0
  go_wp2
  refine bodyPost_ret (v := .tuple #[.agg #[.slice none 0 0], .int .i64 c]) (by simp [results, Tryd.results60, go_sem, c0]) rfl ⟨rfl, ?_⟩
  repeat (first | exact B1.out | refine Below.setCell ?_ (by simp) _)

set_option maxHeartbeats 2000000 in
set_option maxRecDepth 100000 in
theorem implDeleteBad (B : Nat) (v : Value) (xs : List It) (k : Int) (w : World) (hr : RdI B w v xs) (hB : B ≤ w.heap.size) (hn : xs.length ≤ 1048576) (hc : delCode xs k ≠ 0) (hg : w.cell? ⟨0, 0, none⟩ = some (.iface 199 (.agg #[.pointer (some ⟨4, 73, none⟩)]))) :
    Calls Tryd.prog 33 #[.agg #[v], .int .i64 k] w fun e w' => e = .returned (.tuple #[.agg #[.slice none 0 0], .int .i64 (delCode xs k)]) ∧ Below w.heap.size w w' := by
  have hlt : 0 < w.heap.size := World.block_lt_of_cell? w _ hg
  obtain ⟨ao, cap, rfl⟩ := hr.val
  have HB0 := hide (((Below.refl w.heap.size w).alloc (Nat.le_refl _) (.cells #[.slice ao xs.length cap] 33)).alloc (by simp) (.cells #[.slice none 0 0] 33))
  have k2 := Boxed.new (w.alloc (.cells #[.slice ao xs.length cap] 33)) 33 (.slice none 0 0)
  have hs0 : ((w.alloc (.cells #[.slice ao xs.length cap] 33)).alloc (.cells #[.slice none 0 0] 33)).heap.size = w.heap.size + 2 := by simp
  rw [World.size_alloc] at k2
  have HK := hide (deletePieceBad B _ xs k _ (hr.below HB0.out hB) (by omega) hn hc)
  have HG := hide ((HB0.out.cell (p := ⟨0, 0, none⟩) hlt).trans hg)
  generalize delCode xs k = cd at *
  generalize xs.length = n at *
  clear hr hc hg
  go_enter Tryd.func33, Tryd.ntmps33
  go_wp2_with fail
  generalize (w.alloc (.cells #[.slice ao n cap] 33)).alloc (.cells #[.slice none 0 0] 33) = w0 at *
  refine HK.out.mono ?_
  rintro e w1 ⟨⟨msg, rfl⟩, hb1⟩
  have s1 := hb1.size
  have B1 := hide (HB0.out.trans (hb1.mono (by omega)))
  have j2 : Boxed w1 (w.heap.size + 1) 33 (.slice none 0 0) := (hb1.block _ (by omega)).trans k2
  have G1 := hide ((hb1.cell (p := ⟨0, 0, none⟩) (show 0 < w0.heap.size by omega)).trans HG.out)
  clear hb1 HK HB0 k2
  go_wp2_with fail
  refine (answerBad msg cd w1 G1.out).mono ?_
  rintro e w2 ⟨rfl, hb2⟩
  have s2 := hb2.size
  have m2 : Boxed w2 (w.heap.size + 1) 33 (.slice none 0 0) := (hb2.block _ (by omega)).trans j2
  have B2 := hide ((B1.out.trans (hb2.mono (by omega))))
  have d1 := m2.cell
  have f1 := m2.frozen
  have g1 := m2.lt
  clear hb2 B1 j2
  go_wp2
  refine bodyPost_ret (v := .tuple #[.agg #[.slice none 0 0], .int .i64 cd]) (by simp [results, Tryd.results33, go_sem, d1]) rfl ⟨rfl, ?_⟩
  repeat (first | exact B2.out | refine Below.setCell ?_ (by simp; omega) _ | refine Below.setCell ?_ (by simp) _)

theorem AT.flat_told : ∀ (T : AT) (d : Int), (T.told d).map (fun x => x.pc) = T.flat
  | .nil, d => rfl
  | .node l p r, d => by simp [AT.told, AT.flat, AT.flat_told l, AT.flat_told r]
theorem AT.ok_of_read {xs : List It} {T : AT} (h : readT xs = some T) : T.ok := by
  obtain ⟨h1, h2, h3, h4⟩ := readT_some h
  simp only [okT, Bool.and_eq_true, decide_eq_true_eq] at h1
  refine ⟨fun p hp => ?_, ?_⟩
  · rw [← AT.flat_told T 0, ← h3] at hp
    obtain ⟨x, hx, rfl⟩ := List.mem_map.1 hp
    exact List.all_eq_true.1 h1.1.1.2 x hx
  · rw [← AT.rns_told T 0, ← h3]; exact h1.1.2

/-- What TreeDelete answers. -/
def DelPost (w : World) (xs : List It) (k : Int) (e : Ending) (w' : World) : Prop := ∃ v1, e = .returned (.tuple #[.agg #[v1], .int .i64 (delCode xs k)]) ∧ OwI w' w.heap.size v1 (delTree xs k) ∧ Below w.heap.size w w'

theorem implDel (B : Nat) (v : Value) (xs : List It) (k : Int) (w : World) (hr : RdI B w v xs) (hB : B ≤ w.heap.size) (hn : xs.length ≤ 1048576) (hg : w.cell? ⟨0, 0, none⟩ = some (.iface 199 (.agg #[.pointer (some ⟨4, 73, none⟩)]))) :
    Calls Tryd.prog 33 #[.agg #[v], .int .i64 k] w (DelPost w xs k) := by
  by_cases hc : delCode xs k = 0
  · cases hT : readT xs with
    | none => rw [delCode, hT] at hc; simp at hc
    | some T =>
      obtain ⟨h1, h2, h3, h4⟩ := readT_some hT
      have hok := AT.ok_of_read hT
      have hk : 0 ≤ k ∧ k ≤ (T.its : Int) - 1 := by
        rw [delCode, hT] at hc
        simp only at hc
        split at hc
        · assumption
        · simp at hc
      obtain ⟨kn, rfl⟩ := Int.eq_ofNat_of_zero_le hk.1
      have h9 := implDeleteOk B v T kn w h2 hok (by omega) (by rw [← h3]; exact hr) hB
      refine h9.mono ?_
      rintro e w' ⟨v1, rfl, ho, hb⟩
      refine ⟨v1, by rw [hc], ?_, hb⟩
      have e9 : delTree xs (kn : Int) = (T.rem kn).told 0 := by
        unfold delTree
        rw [hT]
        simp only
        rw [if_pos hk]
        rfl
      rw [e9]; exact ho
  · refine (implDeleteBad B v xs k w hr hB hn hc hg).mono ?_
    rintro e w' ⟨rfl, hb⟩
    refine ⟨_, rfl, ?_, hb⟩
    have e9 : delTree xs k = [] := by
      unfold delTree
      cases hT : readT xs with
      | none => rfl
      | some T =>
        simp only
        rw [if_neg (fun h => hc (by rw [delCode, hT]; simp only; rw [if_pos h]))]
    rw [e9]; exact World.ownsRow_nil _ _ _ _
end Go.Proofs.YtbgngikejgihgaeDoor
