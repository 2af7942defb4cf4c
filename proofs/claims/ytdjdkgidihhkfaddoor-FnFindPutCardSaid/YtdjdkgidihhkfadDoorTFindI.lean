import Derived.Test.YtdjdkgidihhkfadDoorTSeekR
import Derived.Test.YtdjdkgidihhkfadDoorCodeOf
namespace Go.Proofs.YtdjdkgidihhkfadDoor
open Go Go.RowKit
set_option linter.unusedVariables false

def msgFindR : ByteArray := ⟨#[102, 105, 110, 100, 105, 110, 103, 32, 97, 32, 114, 117, 110, 101]⟩

/-- What findRune answers: a record, or a code. -/
def runeOut (xs : List It) (off : Int) : Except Int (Nat × Int × Int × Int × Int) :=
  match readT xs with
  | none => .error 1
  | some T => if 0 ≤ off ∧ off ≤ T.rns - 1 then .ok (seekT (fun p => p.len) T off) else .error 2

set_option maxHeartbeats 2000000 in
set_option maxRecDepth 100000 in
theorem findRuneN (B : Nat) (v : Value) (xs : List It) (off : Int) (w : World) (hr : RdI B w v xs) (hB : B ≤ w.heap.size) (hn : xs.length ≤ 1048576) :
    Calls Tryd.prog 70 #[.agg #[v], .int .i64 off] w (FoundPost w (runeOut xs off)) := by
  obtain ⟨ao, cap, rfl⟩ := hr.val
  have HB0 := hide (((Below.refl w.heap.size w).alloc (Nat.le_refl _) (.cells #[.slice ao xs.length cap] 37)).alloc (by simp) (.cells #[.int .i64 0, .int .i64 0, .int .i64 0, .int .i64 0, .int .i64 0, .int .i64 0, .int .i64 0, .int .i64 0] 113))
  have HR0 := hide (hr.below HB0.out hB)
  have hs0 : ((w.alloc (.cells #[.slice ao xs.length cap] 37)).alloc (.cells #[.int .i64 0, .int .i64 0, .int .i64 0, .int .i64 0, .int .i64 0, .int .i64 0, .int .i64 0, .int .i64 0] 113)).heap.size = w.heap.size + 2 := by simp
  have hF0 : Fnd ((w.alloc (.cells #[.slice ao xs.length cap] 37)).alloc (.cells #[.int .i64 0, .int .i64 0, .int .i64 0, .int .i64 0, .int .i64 0, .int .i64 0, .int .i64 0, .int .i64 0] 113)) (w.heap.size + 1) 0 0 0 0 0 0 0 0 := by
    have := heap_alloc_new (w.alloc (.cells #[.slice ao xs.length cap] 37)) (.cells #[.int .i64 0, .int .i64 0, .int .i64 0, .int .i64 0, .int .i64 0, .int .i64 0, .int .i64 0, .int .i64 0] 113)
    simpa [Fnd] using this
  have HI := hide (readTreeN B _ xs _ HR0.out (by omega) hn)
  have HX := hide (show runeOut xs off = (match readT xs with | none => .error 1 | some T => if 0 ≤ off ∧ off ≤ T.rns - 1 then .ok (seekT (fun p => p.len) T off) else .error 2) from rfl)
  generalize runeOut xs off = res at HX ⊢
  have HF0 := hide hF0
  generalize hN : xs.length = n at *
  clear hr hF0
  go_enter Tryd.func70, Tryd.ntmps70
  go_wp2_with fail
  generalize (w.alloc (.cells #[.slice ao n cap] 37)).alloc (.cells #[.int .i64 0, .int .i64 0, .int .i64 0, .int .i64 0, .int .i64 0, .int .i64 0, .int .i64 0, .int .i64 0] 113) = w0 at *
  refine HI.out.mono ?_
  clear HI
  cases hT : readT xs with
  | none =>
    rw [hT] at HX
    simp only at HX
    clear hT
    rintro e w1 ⟨⟨msg, rfl⟩, hb1⟩
    have HF1 := hide (HF0.out.below hb1 (by omega))
    have HB1 := hide (HB0.out.trans (hb1.mono (by omega)))
    obtain ⟨g0, g1, g2, g3, g4, g5, g6, g7⟩ := HF1.out.c
    have z0 := HF1.out.fz 0
    have z1 := HF1.out.fz 1
    have z2 := HF1.out.fz 2
    have z3 := HF1.out.fz 3
    have z4 := HF1.out.fz 4
    have z5 := HF1.out.fz 5
    have z6 := HF1.out.fz 6
    have z7 := HF1.out.fz 7
    have hl1 := HF1.out.lt
    clear hb1 HF0 HB0
    go_wp2
    refine bodyPost_ret (v := .tuple #[zeroF, .iface 134 (.agg #[.string msg, .iface 135 (.int .i64 1)])]) (by simp [results, Tryd.results70, go_sem, g0, g1, g2, g3, g4, g5, g6, g7]; rfl) rfl ?_
    rw [HX.out]
    exact ⟨⟨msg, rfl⟩, by (repeat (refine Below.setCell ?_ (by simp) _)); exact HB1.out⟩
  | some T =>
    rw [hT] at HX
    simp only at HX
    clear hT
    rintro e w1 ⟨u, bs, rfl, hL, hnd, hok, hb1⟩
    have HF1 := hide (HF0.out.below hb1 (by omega))
    have HB1 := hide (HB0.out.trans (hb1.mono (by omega)))
    have HL1 := hide hL
    have HOK := hide hok
    have bT := hok.bd
    have hl1 := HF1.out.lt
    clear hb1 HF0 HB0 hL hnd hok
    go_wp2_with fail
    refine (allN T u bs _ w1 HL1.out).mono ?_
    rintro e w2 ⟨rfl, hb2⟩
    have HF2 := hide (HF1.out.below hb2 (by omega))
    have HB2 := hide (HB1.out.trans (hb2.mono (by omega)))
    have HL2 := hide (HL1.out.below hb2 (Nat.le_refl _))
    have hl2 := HF2.out.lt
    have HKB := hide (boundsI off 0 (T.rns - 1) 2 w2)
    clear hb2 HF1 HB1 HL1
    obtain ⟨g0, g1, g2, g3, g4, g5, g6, g7⟩ := HF2.out.c
    have z0 := HF2.out.fz 0
    have z1 := HF2.out.fz 1
    have z2 := HF2.out.fz 2
    have z3 := HF2.out.fz 3
    have z4 := HF2.out.fz 4
    have z5 := HF2.out.fz 5
    have z6 := HF2.out.fz 6
    have z7 := HF2.out.fz 7
    unfold cnt
    have fl1 := Tryd.fld1
    by_cases hoff : 0 ≤ off ∧ off ≤ T.rns - 1
    · have hd : decide (0 ≤ off ∧ off ≤ T.rns - 1) = true := by simpa using hoff
      rw [hd] at HKB
      simp only [errV, if_true] at HKB
      rw [if_pos hoff] at HX
      clear hd
      go_wp2_with fail
      refine HKB.out.mono ?_
      rintro e w3 ⟨rfl, rfl⟩
      go_wp2_with fail
      refine (seekR T u bs _ off _ HL2.out HOK.out (by omega)).mono ?_
      rintro e w4 ⟨⟨x0, y0, z0', rfl⟩, hb4⟩
      have HF4 := hide (HF2.out.below hb4 (by omega))
      have HB4 := hide (HB2.out.trans (hb4.mono (by omega)))
      have hl4 := HF4.out.lt
      clear g0 g1 g2 g3 g4 g5 g6 g7 z0 z1 z2 z3 z4 z5 z6 z7 hb4
      obtain ⟨g0, g1, g2, g3, g4, g5, g6, g7⟩ := HF4.out.c
      have z0 := HF4.out.fz 0
      have z1 := HF4.out.fz 1
      have z2 := HF4.out.fz 2
      have z3 := HF4.out.fz 3
      have z4 := HF4.out.fz 4
      have z5 := HF4.out.fz 5
      have z6 := HF4.out.fz 6
      have z7 := HF4.out.fz 7
      generalize seekT (fun p => p.len) T off = q at *
      unfold fndV
      go_wp2
      refine bodyPost_ret (v := .tuple #[fndV x0 y0 z0' q, .nilIface]) (by simp [results, Tryd.results70, go_sem, g0, g1, g2, g3, g4, g5, g6, g7]; rfl) rfl ?_
      rw [HX.out]
      exact ⟨⟨_, _, _, rfl⟩, by (repeat (refine Below.setCell ?_ (by simp) _)); exact HB4.out⟩
    · have hd : decide (0 ≤ off ∧ off ≤ T.rns - 1) = false := by simpa using hoff
      rw [hd] at HKB
      simp only [errV, Bool.false_eq_true, if_false] at HKB
      rw [if_neg hoff] at HX
      clear hd
      go_wp2_with fail
      refine HKB.out.mono ?_
      rintro e w3 ⟨rfl, rfl⟩
      go_wp2
      refine bodyPost_ret (v := .tuple #[zeroF, .iface 134 (.agg #[.string msgFindR, .iface 135 (.int .i64 2)])]) (by simp [results, Tryd.results70, go_sem, g0, g1, g2, g3, g4, g5, g6, g7]; exact ⟨rfl, rfl⟩) rfl ?_
      rw [HX.out]
      exact ⟨⟨msgFindR, rfl⟩, by (repeat (refine Below.setCell ?_ (by simp) _)); exact HB2.out⟩

/-- What TreeFind answers. -/
def findOut (xs : List It) (off : Int) : Int × Int × Int × Int :=
  match runeOut xs off with
  | .error c => (0, 0, 0, c)
  | .ok r => (r.1, r.2.2.2.1, r.2.2.2.2, 0)

set_option maxHeartbeats 2000000 in
set_option maxRecDepth 100000 in
theorem implFind (B : Nat) (v : Value) (xs : List It) (off : Int) (w : World) (hr : RdI B w v xs) (hB : B ≤ w.heap.size) (hn : xs.length ≤ 1048576) (hg : w.cell? ⟨0, 0, none⟩ = some (.iface 222 (.agg #[.pointer (some ⟨2, 86, none⟩)]))) :
    Calls Tryd.prog 28 #[.agg #[v], .int .i64 off] w fun e w' => e = .returned (.tuple #[.int .i64 (findOut xs off).1, .int .i64 (findOut xs off).2.1, .int .i64 (findOut xs off).2.2.1, .int .i64 (findOut xs off).2.2.2]) ∧ Below w.heap.size w w' := by
  obtain ⟨ao, cap, rfl⟩ := hr.val
  have hlt0 : 0 < w.heap.size := World.block_lt_of_cell? w _ hg
  have HB0 := hide ((Below.refl w.heap.size w).alloc (Nat.le_refl _) (.cells #[.slice ao xs.length cap] 37))
  have HR0 := hide (hr.below HB0.out hB)
  have hs0 : (w.alloc (.cells #[.slice ao xs.length cap] 37)).heap.size = w.heap.size + 1 := by simp
  have HG0 := hide ((HB0.out.cell (p := ⟨0, 0, none⟩) hlt0).trans hg)
  have HI := hide (findRuneN B _ xs off _ HR0.out (by omega) hn)
  have HX := hide (show findOut xs off = (match runeOut xs off with | .error c => (0, 0, 0, c) | .ok r => (r.1, r.2.2.2.1, r.2.2.2.2, 0)) from rfl)
  generalize findOut xs off = res at HX ⊢
  generalize hN : xs.length = n at *
  clear hr hg
  go_enter Tryd.func28, Tryd.ntmps28
  go_wp2_with fail
  generalize w.alloc (.cells #[.slice ao n cap] 37) = w0 at *
  refine HI.out.mono ?_
  clear HI
  cases hT : runeOut xs off with
  | error c =>
    rw [hT] at HX
    simp only at HX
    clear hT
    rintro e w1 ⟨⟨msg, rfl⟩, hb1⟩
    have hs1 := hb1.size
    have HB1 := hide ((HB0.out.trans (hb1.mono (by omega))).alloc (by omega) (.cells #[.int .i64 0, .int .i64 0, .int .i64 0, .int .i64 0, .int .i64 0, .int .i64 0, .int .i64 0, .int .i64 0] 113))
    have HG1 := hide ((((Below.refl w1.heap.size w1).alloc (Nat.le_refl _) (.cells #[.int .i64 0, .int .i64 0, .int .i64 0, .int .i64 0, .int .i64 0, .int .i64 0, .int .i64 0, .int .i64 0] 113)).cell (p := ⟨0, 0, none⟩) (by show 0 < w1.heap.size; omega)).trans ((hb1.cell (p := ⟨0, 0, none⟩) (by show 0 < w0.heap.size; omega)).trans HG0.out))
    clear hb1 HG0 HB0
    unfold zeroF
    go_wp2_with fail
    generalize w1.alloc (.cells #[.int .i64 0, .int .i64 0, .int .i64 0, .int .i64 0, .int .i64 0, .int .i64 0, .int .i64 0, .int .i64 0] 113) = w2 at *
    refine (codeOf msg c w2 HG1.out).mono ?_
    rintro e w3 ⟨rfl, hb3⟩
    have HB3 := hide (HB1.out.trans (hb3.mono HB1.out.size))
    clear hb3
    go_wp2
    refine bodyPost_ret (v := .tuple #[.int .i64 0, .int .i64 0, .int .i64 0, .int .i64 c]) (by simp [results, Tryd.results28, go_sem]) rfl ⟨by rw [HX.out], HB3.out⟩
  | ok r =>
    rw [hT] at HX
    simp only at HX
    clear hT
    rintro e w1 ⟨⟨x0, y0, z0', rfl⟩, hb1⟩
    have hs1 := hb1.size
    obtain ⟨r1, r2, r3, r4, r5⟩ := r
    simp only at HX
    have HB1 := hide ((HB0.out.trans (hb1.mono (by omega))).alloc (by omega) (.cells #[.int .i64 x0, .int .i64 y0, .int .i64 z0', .int .i64 r1, .int .i64 r2, .int .i64 r3, .int .i64 r4, .int .i64 r5] 113))
    clear hb1 HG0 HB0
    unfold fndV
    simp only
    go_wp2_with fail
    go_region
    all_goals (go_wp2; refine bodyPost_ret (v := .tuple #[.int .i64 r1, .int .i64 r4, .int .i64 r5, .int .i64 0]) (by simp [results, Tryd.results28, go_sem]) rfl ⟨by rw [HX.out], HB1.out.drew⟩)
end Go.Proofs.YtdjdkgidihhkfadDoor
