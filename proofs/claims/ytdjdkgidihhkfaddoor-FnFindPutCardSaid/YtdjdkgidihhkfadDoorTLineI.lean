import Derived.Test.YtdjdkgidihhkfadDoorTSeekB
import Derived.Test.YtdjdkgidihhkfadDoorCodeOf
namespace Go.Proofs.YtdjdkgidihhkfadDoor
open Go Go.RowKit
set_option linter.unusedVariables false

def msgFindB : ByteArray := ⟨#[102, 105, 110, 100, 105, 110, 103, 32, 97, 32, 98, 114, 101, 97, 107]⟩

/-- What findBreak answers: a record, or a code. -/
def breakOut (xs : List It) (line : Int) : Except Int (Nat × Int × Int × Int × Int) :=
  match readT xs with
  | none => .error 1
  | some T => if 1 ≤ line ∧ line ≤ T.bks then .ok (seekT (fun p => p.brk) T (line - 1)) else .error 3

set_option maxHeartbeats 2000000 in
set_option maxRecDepth 100000 in
theorem findBreakN (B : Nat) (v : Value) (xs : List It) (line : Int) (w : World) (hr : RdI B w v xs) (hB : B ≤ w.heap.size) (hn : xs.length ≤ 1048576) :
    Calls Tryd.prog 71 #[.agg #[v], .int .i64 line] w (FoundPost w (breakOut xs line)) := by
  obtain ⟨ao, cap, rfl⟩ := hr.val
  have HB0 := hide (((Below.refl w.heap.size w).alloc (Nat.le_refl _) (.cells #[.slice ao xs.length cap] 37)).alloc (by simp) (.cells #[.int .i64 0, .int .i64 0, .int .i64 0, .int .i64 0, .int .i64 0, .int .i64 0, .int .i64 0, .int .i64 0] 113))
  have HR0 := hide (hr.below HB0.out hB)
  have hs0 : ((w.alloc (.cells #[.slice ao xs.length cap] 37)).alloc (.cells #[.int .i64 0, .int .i64 0, .int .i64 0, .int .i64 0, .int .i64 0, .int .i64 0, .int .i64 0, .int .i64 0] 113)).heap.size = w.heap.size + 2 := by simp
  have hF0 : Fnd ((w.alloc (.cells #[.slice ao xs.length cap] 37)).alloc (.cells #[.int .i64 0, .int .i64 0, .int .i64 0, .int .i64 0, .int .i64 0, .int .i64 0, .int .i64 0, .int .i64 0] 113)) (w.heap.size + 1) 0 0 0 0 0 0 0 0 := by
    have := heap_alloc_new (w.alloc (.cells #[.slice ao xs.length cap] 37)) (.cells #[.int .i64 0, .int .i64 0, .int .i64 0, .int .i64 0, .int .i64 0, .int .i64 0, .int .i64 0, .int .i64 0] 113)
    simpa [Fnd] using this
  have HI := hide (readTreeN B _ xs _ HR0.out (by omega) hn)
  have HX := hide (show breakOut xs line = (match readT xs with | none => .error 1 | some T => if 1 ≤ line ∧ line ≤ T.bks then .ok (seekT (fun p => p.brk) T (line - 1)) else .error 3) from rfl)
  generalize breakOut xs line = res at HX ⊢
  have HF0 := hide hF0
  generalize hN : xs.length = n at *
  clear hr hF0
  go_enter Tryd.func71, Tryd.ntmps71
  go_wp2_with fail
  generalize (w.alloc (.cells #[.slice ao n cap] 37)).alloc (.cells #[.int .i64 0, .int .i64 0, .int .i64 0, .int .i64 0, .int .i64 0, .int .i64 0, .int .i64 0, .int .i64 0] 113) = w0 at *
  refine HI.out.mono ?_
  clear HI
  cases hT : readT xs with
  | none =>
    rw [hT] at HX
    simp only at HX
    clear hT
    rintro e w1 ⟨⟨msg, rfl⟩, hb1⟩
    have HF1 := hide (HF0.out.below hb1 (by omega))
    have HB1 := hide (HB0.out.trans (hb1.mono (by omega)))
    obtain ⟨g0, g1, g2, g3, g4, g5, g6, g7⟩ := HF1.out.c
    have z0 := HF1.out.fz 0
    have z1 := HF1.out.fz 1
    have z2 := HF1.out.fz 2
    have z3 := HF1.out.fz 3
    have z4 := HF1.out.fz 4
    have z5 := HF1.out.fz 5
    have z6 := HF1.out.fz 6
    have z7 := HF1.out.fz 7
    have hl1 := HF1.out.lt
    clear hb1 HF0 HB0
    go_wp2
    refine bodyPost_ret (v := .tuple #[zeroF, .iface 134 (.agg #[.string msg, .iface 135 (.int .i64 1)])]) (by simp [results, Tryd.results71, go_sem, g0, g1, g2, g3, g4, g5, g6, g7]; rfl) rfl ?_
    rw [HX.out]
    exact ⟨⟨msg, rfl⟩, by (repeat (refine Below.setCell ?_ (by simp) _)); exact HB1.out⟩
  | some T =>
    rw [hT] at HX
    simp only at HX
    clear hT
    rintro e w1 ⟨u, bs, rfl, hL, hnd, hok, hb1⟩
    have HF1 := hide (HF0.out.below hb1 (by omega))
    have HB1 := hide (HB0.out.trans (hb1.mono (by omega)))
    have HL1 := hide hL
    have HOK := hide hok
    have bT := hok.bd
    have hl1 := HF1.out.lt
    clear hb1 HF0 HB0 hL hnd hok
    go_wp2_with fail
    refine (allN T u bs _ w1 HL1.out).mono ?_
    rintro e w2 ⟨rfl, hb2⟩
    have HF2 := hide (HF1.out.below hb2 (by omega))
    have HB2 := hide (HB1.out.trans (hb2.mono (by omega)))
    have HL2 := hide (HL1.out.below hb2 (Nat.le_refl _))
    have hl2 := HF2.out.lt
    have HKB := hide (boundsI line 1 T.bks 3 w2)
    clear hb2 HF1 HB1 HL1
    obtain ⟨g0, g1, g2, g3, g4, g5, g6, g7⟩ := HF2.out.c
    have z0 := HF2.out.fz 0
    have z1 := HF2.out.fz 1
    have z2 := HF2.out.fz 2
    have z3 := HF2.out.fz 3
    have z4 := HF2.out.fz 4
    have z5 := HF2.out.fz 5
    have z6 := HF2.out.fz 6
    have z7 := HF2.out.fz 7
    unfold cnt
    have fl2 := Tryd.fld2
    by_cases hline : 1 ≤ line ∧ line ≤ T.bks
    · have hd : decide (1 ≤ line ∧ line ≤ T.bks) = true := by simpa using hline
      rw [hd] at HKB
      simp only [errV, if_true] at HKB
      rw [if_pos hline] at HX
      clear hd
      go_wp2_with fail
      refine HKB.out.mono ?_
      rintro e w3 ⟨rfl, rfl⟩
      go_wp2_with fail
      refine (seekB T u bs _ (line - 1) _ HL2.out HOK.out (by omega)).mono ?_
      rintro e w4 ⟨⟨x0, y0, z0', rfl⟩, hb4⟩
      have HF4 := hide (HF2.out.below hb4 (by omega))
      have HB4 := hide (HB2.out.trans (hb4.mono (by omega)))
      have hl4 := HF4.out.lt
      clear g0 g1 g2 g3 g4 g5 g6 g7 z0 z1 z2 z3 z4 z5 z6 z7 hb4
      obtain ⟨g0, g1, g2, g3, g4, g5, g6, g7⟩ := HF4.out.c
      have z0 := HF4.out.fz 0
      have z1 := HF4.out.fz 1
      have z2 := HF4.out.fz 2
      have z3 := HF4.out.fz 3
      have z4 := HF4.out.fz 4
      have z5 := HF4.out.fz 5
      have z6 := HF4.out.fz 6
      have z7 := HF4.out.fz 7
      generalize seekT (fun p => p.brk) T (line - 1) = q at *
      unfold fndV
      go_wp2
      refine bodyPost_ret (v := .tuple #[fndV x0 y0 z0' q, .nilIface]) (by simp [results, Tryd.results71, go_sem, g0, g1, g2, g3, g4, g5, g6, g7]; rfl) rfl ?_
      rw [HX.out]
      exact ⟨⟨_, _, _, rfl⟩, by (repeat (refine Below.setCell ?_ (by simp) _)); exact HB4.out⟩
    · have hd : decide (1 ≤ line ∧ line ≤ T.bks) = false := by simpa using hline
      rw [hd] at HKB
      simp only [errV, Bool.false_eq_true, if_false] at HKB
      rw [if_neg hline] at HX
      clear hd
      go_wp2_with fail
      refine HKB.out.mono ?_
      rintro e w3 ⟨rfl, rfl⟩
      go_wp2
      refine bodyPost_ret (v := .tuple #[zeroF, .iface 134 (.agg #[.string msgFindB, .iface 135 (.int .i64 3)])]) (by simp [results, Tryd.results71, go_sem, g0, g1, g2, g3, g4, g5, g6, g7]; exact ⟨rfl, rfl⟩) rfl ?_
      rw [HX.out]
      exact ⟨⟨msgFindB, rfl⟩, by (repeat (refine Below.setCell ?_ (by simp) _)); exact HB2.out⟩

theorem seek_inside (m : Pc → Int) : ∀ (T : AT) (k : Int), 0 ≤ k → (∀ x ∈ T.told 0, 0 ≤ m x.pc) → 0 ≤ (seekT m T k).2.2.2.1 ∧ (seekT m T k).2.2.2.1 ≤ k
  | .nil, k, h, _ => by simp [seekT, h]
  | .node l p r, k, h, hm => by
    have hs : ∀ (S : AT) (d : Int), (∀ x ∈ S.told d, 0 ≤ m x.pc) → (∀ x ∈ S.told 0, 0 ≤ m x.pc) := fun S d h x hx => by
      have e : ∀ (S : AT) (d e : Int) (x : It), x ∈ S.told d → ∃ y ∈ S.told e, y.pc = x.pc := fun S => by
        induction S with
        | nil => intro d e x hx; simp [AT.told] at hx
        | node a q b iha ihb =>
          intro d e x hx
          simp only [AT.told, List.mem_append, List.mem_cons] at hx
          rcases hx with hx | rfl | hx
          · obtain ⟨y, hy, hh⟩ := iha (d + 1) (e + 1) x hx; exact ⟨y, by simp [AT.told, hy], hh⟩
          · exact ⟨⟨q, e⟩, by simp [AT.told], rfl⟩
          · obtain ⟨y, hy, hh⟩ := ihb (d + 1) (e + 1) x hx; exact ⟨y, by simp [AT.told, hy], hh⟩
      obtain ⟨y, hy, hh⟩ := e S 0 d x hx
      rw [← hh]; exact h y hy
    have hml := hs l 1 (fun x hx => hm x (by simp [AT.told, hx]))
    have hmr := hs r 1 (fun x hx => hm x (by simp [AT.told, hx]))
    have hp : 0 ≤ m p := hm ⟨p, 0⟩ (by simp [AT.told])
    have hsl : 0 ≤ sumM m (l.told 0) := by
      generalize l.told 0 = ys at hml
      induction ys with
      | nil => simp [sumM]
      | cons y ys ih => simp only [sumM]; have := hml y (by simp); have := ih (fun z hz => hml z (by simp [hz])); omega
    simp only [seekT]
    split
    · exact seek_inside m l k h hml
    · split
      · simp only; omega
      · rename_i h1 h2
        have := seek_inside m r (k - sumM m (l.told 0) - m p) (by omega) hmr
        simp only; omega

theorem breakOut_bd {xs : List It} {line : Int} {r : Nat × Int × Int × Int × Int} (h : breakOut xs line = .ok r) : 0 ≤ r.2.2.2.1 ∧ r.2.2.2.1 ≤ 8192 := by
  unfold breakOut at h
  cases hT : readT xs with
  | none => rw [hT] at h; cases h
  | some T =>
    rw [hT] at h
    simp only at h
    split at h
    · rename_i hb
      cases h
      obtain ⟨h1, h2, h3, h4⟩ := readT_some hT
      simp only [okT, Bool.and_eq_true, decide_eq_true_eq] at h1
      have hall : ∀ x ∈ T.told 0, pcOk x.pc = true := fun x hx => List.all_eq_true.1 h1.1.1.2 x (by rw [h3]; exact hx)
      have hok : T.ok := by
        refine ⟨fun p hp => ?_, by rw [← AT.rns_told T 0, ← h3]; exact h1.1.2⟩
        rw [flat_told T 0, List.mem_map] at hp
        obtain ⟨x, hx, rfl⟩ := hp
        exact hall x hx
      have := seek_inside (fun p => p.brk) T (line - 1) (by omega) (fun x hx => by have := hall x hx; simp only [pcOk, decide_eq_true_eq] at this; omega)
      have := hok.bd
      omega
    · cases h

/-- What TreeFindLine answers. -/
def lineOut (xs : List It) (line : Int) : Int × Int × Int × Int :=
  match breakOut xs line with
  | .error c => (0, 0, 0, c)
  | .ok r => (r.1, r.2.2.2.1 + 1, r.2.1, 0)

set_option maxHeartbeats 2000000 in
set_option maxRecDepth 100000 in
theorem implLine (B : Nat) (v : Value) (xs : List It) (line : Int) (w : World) (hr : RdI B w v xs) (hB : B ≤ w.heap.size) (hn : xs.length ≤ 1048576) (hg : w.cell? ⟨0, 0, none⟩ = some (.iface 222 (.agg #[.pointer (some ⟨2, 86, none⟩)]))) :
    Calls Tryd.prog 29 #[.agg #[v], .int .i64 line] w fun e w' => e = .returned (.tuple #[.int .i64 (lineOut xs line).1, .int .i64 (lineOut xs line).2.1, .int .i64 (lineOut xs line).2.2.1, .int .i64 (lineOut xs line).2.2.2]) ∧ Below w.heap.size w w' := by
  obtain ⟨ao, cap, rfl⟩ := hr.val
  have hlt0 : 0 < w.heap.size := World.block_lt_of_cell? w _ hg
  have HB0 := hide ((Below.refl w.heap.size w).alloc (Nat.le_refl _) (.cells #[.slice ao xs.length cap] 37))
  have HR0 := hide (hr.below HB0.out hB)
  have hs0 : (w.alloc (.cells #[.slice ao xs.length cap] 37)).heap.size = w.heap.size + 1 := by simp
  have HG0 := hide ((HB0.out.cell (p := ⟨0, 0, none⟩) hlt0).trans hg)
  have HI := hide (findBreakN B _ xs line _ HR0.out (by omega) hn)
  have HX := hide (show lineOut xs line = (match breakOut xs line with | .error c => (0, 0, 0, c) | .ok r => (r.1, r.2.2.2.1 + 1, r.2.1, 0)) from rfl)
  generalize lineOut xs line = res at HX ⊢
  generalize hN : xs.length = n at *
  clear hr hg
  go_enter Tryd.func29, Tryd.ntmps29
  go_wp2_with fail
  generalize w.alloc (.cells #[.slice ao n cap] 37) = w0 at *
  refine HI.out.mono ?_
  clear HI
  cases hT : breakOut xs line with
  | error c =>
    rw [hT] at HX
    simp only at HX
    clear hT
    rintro e w1 ⟨⟨msg, rfl⟩, hb1⟩
    have hs1 := hb1.size
    have HB1 := hide ((HB0.out.trans (hb1.mono (by omega))).alloc (by omega) (.cells #[.int .i64 0, .int .i64 0, .int .i64 0, .int .i64 0, .int .i64 0, .int .i64 0, .int .i64 0, .int .i64 0] 113))
    have HG1 := hide ((((Below.refl w1.heap.size w1).alloc (Nat.le_refl _) (.cells #[.int .i64 0, .int .i64 0, .int .i64 0, .int .i64 0, .int .i64 0, .int .i64 0, .int .i64 0, .int .i64 0] 113)).cell (p := ⟨0, 0, none⟩) (by show 0 < w1.heap.size; omega)).trans ((hb1.cell (p := ⟨0, 0, none⟩) (by show 0 < w0.heap.size; omega)).trans HG0.out))
    clear hb1 HG0 HB0
    unfold zeroF
    go_wp2_with fail
    generalize w1.alloc (.cells #[.int .i64 0, .int .i64 0, .int .i64 0, .int .i64 0, .int .i64 0, .int .i64 0, .int .i64 0, .int .i64 0] 113) = w2 at *
    refine (codeOf msg c w2 HG1.out).mono ?_
    rintro e w3 ⟨rfl, hb3⟩
    have HB3 := hide (HB1.out.trans (hb3.mono HB1.out.size))
    clear hb3
    go_wp2
    refine bodyPost_ret (v := .tuple #[.int .i64 0, .int .i64 0, .int .i64 0, .int .i64 c]) (by simp [results, Tryd.results29, go_sem]) rfl ⟨by rw [HX.out], HB3.out⟩
  | ok r =>
    rw [hT] at HX
    simp only at HX
    have hbd := breakOut_bd hT
    clear hT
    rintro e w1 ⟨⟨x0, y0, z0', rfl⟩, hb1⟩
    have hs1 := hb1.size
    obtain ⟨r1, r2, r3, r4, r5⟩ := r
    simp only at HX hbd
    have hw4 : IntKind.i64.wrap (r4 + 1) = r4 + 1 := i64w _ (by omega) (by omega)
    have HB1 := hide ((HB0.out.trans (hb1.mono (by omega))).alloc (by omega) (.cells #[.int .i64 x0, .int .i64 y0, .int .i64 z0', .int .i64 r1, .int .i64 r2, .int .i64 r3, .int .i64 r4, .int .i64 r5] 113))
    clear hb1 HG0 HB0
    unfold fndV
    simp only
    go_wp2_with fail
    go_region
    all_goals (go_wp2; refine bodyPost_ret (v := .tuple #[.int .i64 r1, .int .i64 (r4 + 1), .int .i64 r2, .int .i64 0]) (by simp [results, Tryd.results29, go_sem]) rfl ⟨by rw [HX.out], HB1.out.drew⟩)
end Go.Proofs.YtdjdkgidihhkfadDoor
