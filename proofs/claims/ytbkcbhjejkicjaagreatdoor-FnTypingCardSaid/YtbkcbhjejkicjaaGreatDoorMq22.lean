import Derived.Test.YtbkcbhjejkicjaaGreatDoorMq21
namespace Go.Proofs.YtbkcbhjejkicjaaGreatDoor
open Go Go.RowKit Go.Sort Go.BigFrame
set_option linter.unusedVariables false

theorem mkVs_take (xs : List Mk) : ∀ k, mkVs (xs.take k) = (mkVs xs).take (k * 3) := by
  induction xs with
  | nil => intro k; simp [mkVs]
  | cons x xs ih =>
    intro k
    cases k with
    | zero => simp [mkVs]
    | succ k =>
      have := ih k
      simp only [mkVs, List.take_succ_cons, List.flatMap_cons] at this ⊢
      rw [this, show (k + 1) * 3 = (mkV x).length + k * 3 by simp [mkV]; omega, List.take_length_add_append]

theorem mkVs_drop (xs : List Mk) : ∀ k, mkVs (xs.drop k) = (mkVs xs).drop (k * 3) := by
  induction xs with
  | nil => intro k; simp [mkVs]
  | cons x xs ih =>
    intro k
    cases k with
    | zero => simp [mkVs]
    | succ k =>
      have := ih k
      simp only [mkVs, List.drop_succ_cons, List.flatMap_cons] at this ⊢
      rw [this, show (k + 1) * 3 = (mkV x).length + k * 3 by simp [mkV]; omega, List.drop_length_add_append]

/-- The beginning of a row of one's own. -/
theorem OwM.pre {w : World} {base g cap : Nat} {xs : List Mk} (h : OwM w base (.slice (some ⟨g, 0, none⟩) xs.length cap) xs) (k : Nat) (hk : k ≤ xs.length) : w.ownsRow base 120 3 (.slice (some ⟨g, 0, none⟩) k cap) k (mkVs (xs.take k)) := by
  refine ⟨by rw [mkVs_length, List.length_take]; omega, ?_⟩
  rcases h.2 with ⟨hv, _⟩ | ⟨g', cap', cur, hv, hrest⟩
  · cases hv
  · obtain ⟨hb, hg, hcap, hcm, hsz, htk⟩ := hrest
    cases hv
    refine .inr ⟨g, cap, cur, rfl, hb, hg, by omega, hcm, hsz, ?_⟩
    rw [mkVs_take, ← htk, List.take_take, Nat.min_eq_left (by omega)]

theorem OwM.at {w : World} {base g cap : Nat} {xs : List Mk} (h : OwM w base (.slice (some ⟨g, 0, none⟩) xs.length cap) xs) {i : Nat} {x : Mk} (hx : xs[i]? = some x) : MkAt w g (i * 3) x := by
  have hil : i < xs.length := (List.getElem?_eq_some_iff.1 hx).1
  have key : ∀ k, k < 3 → w.cell? ⟨g, i * 3 + k, none⟩ = (mkV x)[k]? := fun k hk => by
    rw [h.cellAt (i * 3 + k) (by omega), mkVs_get xs i k x hx hk]
  exact ⟨key 0 (by omega), key 1 (by omega), key 2 (by omega)⟩

def lenOfM : Value → Nat
  | .slice _ n _ => n
  | _ => 0

theorem sel_cons {L : List Mk} (h : L ≠ []) : sel L.length L = L.getD (minAt L L.length) (0, 0, 0) :: sel (L.eraseIdx (minAt L L.length)).length (L.eraseIdx (minAt L L.length)) := by
  obtain ⟨n, hn⟩ : ∃ n, L.length = n + 1 := ⟨L.length - 1, by have := List.length_pos_iff.2 h; omega⟩
  have hm := minAt_lt L L.length (Nat.le_refl _) (by omega)
  have hl : (L.eraseIdx (minAt L L.length)).length = n := by rw [List.length_eraseIdx, if_pos hm]; omega
  rw [hl]
  have e : sel (n + 1) L = L.getD (minAt L L.length) (0, 0, 0) :: sel n (L.eraseIdx (minAt L L.length)) := by
    conv => lhs; unfold sel
    rw [if_neg h]
  rw [← e, ← hn]

theorem wrap_nat (k : Nat) (h : k ≤ 8192) : IntKind.i64.wrap ((k : Int) + 1) = (k : Int) + 1 := by
  rw [IntKind.wrap_i64]; omega

set_option maxHeartbeats 2000000 in
set_option maxRecDepth 100000 in
theorem sortL (B : Nat) (xs : List Mk) (v : Value) (w : World) (h : OwM w B v xs) (hn : xs.length ≤ 4096) :
    Calls Tryz.prog 80 #[v] w fun e w' => ∃ v', e = .returned v' ∧ OwM w' w.heap.size v' (srt xs) ∧ Below w.heap.size w w' := by
  have mixed := mixedS
  obtain ⟨i0, hi, hz0, hz1, hz2⟩ := info_parts Tryz.infoMK
  have HOv := hide h
  have hk0 : (w.alloc (.cells #[] 120)).heap[w.heap.size]? = some (.cells #[] 120 (0, 0)) := heap_alloc_new _ _
  have hs0 : (w.alloc (.cells #[] 120)).heap.size = w.heap.size + 1 := by simp
  have B0 := hide ((Below.refl w.heap.size w).alloc (Nat.le_refl _) (.cells #[] 120))
  have O0 := hide (show (w.alloc (.cells #[] 120)).ownsRow w.heap.size 120 3 (.slice (some ⟨w.heap.size, 0, none⟩) 0 0) 0 [] from ⟨rfl, .inr ⟨_, 0, #[], rfl, Nat.le_refl _, hk0, Nat.le_refl _, by unfold maxLen; omega, rfl, rfl⟩⟩)
  rcases h.shape with ⟨rfl, rfl⟩ | ⟨g, cap, rfl, hcap, hcm, hbg, hgl⟩
  · go_enter Tryz.func80, Tryz.ntmps80
    go_wp2_with (at_builtin; refine wpList_append_own_none rfl _ _ 50 rfl w.heap.size 120 i0 3 Tryz.underlying50 hi _ _ _ rfl (by exact O0.out) rfl ?_)
    refine wp_loop_rounds 1 ?_
    rw [rounds_succ]
    go_wp2
    go_ret
    refine ⟨_, rfl, ?_, (B0.out.alloc (by simp) _)⟩
    have hk1 := heap_alloc_new (w.alloc (.cells #[] 120)) (.cells #[] 120)
    exact ⟨rfl, .inr ⟨_, 0, #[], rfl, by omega, by simpa using hk1, Nat.le_refl _, by unfold maxLen; omega, rfl, rfl⟩⟩
  · have RC := hide (OwM.cells (show OwM (w.alloc (.cells #[] 120)) B (.slice (some ⟨g, 0, none⟩) xs.length cap) xs from (World.ownsRow.alloc HOv.out _)))
    unfold maxLen at hcm
    clear h hk0
    go_enter Tryz.func80, Tryz.ntmps80
    go_wp2_with (at_builtin; refine wpList_append_own_at _ rfl _ _ 50 rfl w.heap.size 120 i0 (.agg #[.int .i64 0, .int .i64 0, .int .i64 0]) 3 24 Tryz.underlying50 hi hz0 hz1 hz2 rfl (by decide) (.slice (some ⟨w.heap.size, 0, none⟩) 0 0) 0 [] rfl (by exact O0.out) ⟨g, 0, none⟩ xs.length cap (mkVs xs) rfl (mkVs_length xs) (by exact RC.out) (mkVs_one xs) (by unfold maxLen; omega) (by omega) (by simp) ?_; intro v4 w4 ho4 hg4 _ hat4; have O4 := hide (show OwM w4 w.heap.size v4 xs from (by have h9 := ho4; rw [Nat.zero_add, List.nil_append] at h9; exact h9)); have B4 := hide (B0.out.trans ((Below.refl w.heap.size _).grown hg4 (by omega) (own_rowM O0.out))); have s4 := B4.out.size; have L4 := hide (fun q hq => (ho4.lt q hq).2); clear ho4 hg4 hat4)
    have B5 := hide (B4.out.alloc s4 (.cells #[] 120))
    have k5 : (w4.alloc (.cells #[] 120)).heap[w4.heap.size]? = some (.cells #[] 120 (0, 0)) := heap_alloc_new _ _
    have O5 := hide (show OwM (w4.alloc (.cells #[] 120)) w.heap.size v4 xs from World.ownsRow.alloc O4.out _)
    have P5 := hide (show OwM (w4.alloc (.cells #[] 120)) w.heap.size (.slice (some ⟨w4.heap.size, 0, none⟩) 0 0) [] from ⟨rfl, .inr ⟨_, 0, #[], rfl, s4, k5, Nat.le_refl _, by unfold maxLen; omega, rfl, rfl⟩⟩)
    have A5 := hide (show ∀ g, v4.ownBlock = some g → (Value.slice (some ⟨w4.heap.size, 0, none⟩) 0 0).ownBlock ≠ some g from fun q hq e => by
      have h9 := L4.out q hq
      simp only [Value.ownBlock, Option.some.injEq] at e
      omega)
    generalize w4.alloc (.cells #[] 120) = w5 at *
    generalize (Value.slice (some ⟨w4.heap.size, 0, none⟩) 0 0) = vo5 at *
    clear B4 O4 L4 k5 RC O0 B0 HOv
    go_loopw [3, 4] (fun vl vo wr => ∃ L O : List Mk, OwM wr w.heap.size vl L ∧ OwM wr w.heap.size vo O ∧ (∀ g, vl.ownBlock = some g → vo.ownBlock ≠ some g) ∧ Below w.heap.size w wr ∧ O ++ sel L.length L = srt xs ∧ L.length + O.length = xs.length) (fun vl _ _ => lenOfM vl)
    case atStart => exact ⟨xs, [], O5.out, P5.out, A5.out, B5.out, rfl, by simp⟩
    case round =>
      obtain ⟨L, O, hol, hoo, hap, hbw, hsel, hlen⟩ := hrel
      have hbs := hbw.size
      obtain ⟨wx, rfl⟩ : ∃ wx, wx = wr := ⟨wr, rfl⟩
      have HOL := hide hol
      have HOO := hide hoo
      have HAP := hide hap
      have HBW := hide hbw
      have HSEL := hide hsel
      clear hap hbw hsel hoo
      by_cases hL : L = []
      · subst hL
        obtain ⟨ao, cp, rfl⟩ := hol.val
        clear hol
        simp only [List.length_nil]
        go_wp2
        go_ret
        refine ⟨_, rfl, ?_, HBW.out⟩
        have e : O = srt xs := by
          have h9 := HSEL.out
          simpa [sel] using h9
        rw [← e]; exact HOO.out
      · have hpos : 0 < L.length := List.length_pos_iff.2 hL
        rcases hol.shape with ⟨_, hbad⟩ | ⟨gl, cl, rfl, hlc, hlm, hlb, hll⟩
        · exact absurd hbad hL
        have HLL := hide hL
        have hmin := minAt_lt L L.length (Nat.le_refl _) hpos
        have hat := fun (i : Nat) (y : Mk) (hy : L[i]? = some y) => OwM.at HOL.out hy
        have HAT := hide hat
        have HMI := hide (fun i (hi : i ≤ L.length) => minAt_lt L i hi hpos)
        have HMS := hide (fun i => show minAt L (i + 1) = if bef (L.getD i (0, 0, 0)) (L.getD (minAt L i) (0, 0, 0)) = true then i else minAt L i from rfl)
        have hgx : gl < wx.heap.size := hll
        unfold maxLen at hlm
        generalize hN : L.length = n at *
        have HNN := hide hN
        have hpos' : (0 : Int) < (n : Int) := by omega
        clear hol hat hL hN
        go_wp2_with fail
        go_loopw [16, 5] (fun i kk wr => ∃ j : Nat, j ≤ n ∧ i = .int .i64 j ∧ kk = .int .i64 (minAt L j) ∧ Below wx.heap.size wx wr) (fun i _ _ => n - (intOf i).toNat)
        case atStart => exact ⟨0, Nat.zero_le _, rfl, rfl, Below.refl _ _⟩
        case round =>
          obtain ⟨j, hj, rfl, rfl, hbq⟩ := hrel
          have HBQ := hide hbq
          have hsq := hbq.size
          by_cases hjn : j < n
          · have hjn' : (j : Int) < n := by omega
            have hmj := HMI.out j hj
            have hmj' : (minAt L j : Int) < (n : Int) := by omega
            obtain ⟨y, hy⟩ : ∃ y, L[j]? = some y := ⟨L[j]'(by rw [HNN.out]; exact hjn), by simp⟩
            obtain ⟨z, hz⟩ : ∃ z, L[minAt L j]? = some z := ⟨L[minAt L j]'(by rw [HNN.out]; exact hmj), by simp⟩
            obtain ⟨a0, a1, a2⟩ := HAT.out j y hy
            obtain ⟨c0, c1, c2⟩ := HAT.out (minAt L j) z hz
            have hgr : gl < wr.heap.size := by omega
            have f0 := fun n os => cell_grown (w := wr) (a := ⟨gl, j * 3, none⟩) hgr ((hbq.cell (p := ⟨gl, j * 3, none⟩) hgx).trans a0) n os
            have f1 := fun n os => cell_grown (w := wr) (a := ⟨gl, j * 3 + 1, none⟩) hgr ((hbq.cell (p := ⟨gl, j * 3 + 1, none⟩) hgx).trans a1) n os
            have f2 := fun n os => cell_grown (w := wr) (a := ⟨gl, j * 3 + 2, none⟩) hgr ((hbq.cell (p := ⟨gl, j * 3 + 2, none⟩) hgx).trans a2) n os
            have g0 := fun n os => cell_grown (w := wr) (a := ⟨gl, minAt L j * 3, none⟩) hgr ((hbq.cell (p := ⟨gl, minAt L j * 3, none⟩) hgx).trans c0) n os
            have g1 := fun n os => cell_grown (w := wr) (a := ⟨gl, minAt L j * 3 + 1, none⟩) hgr ((hbq.cell (p := ⟨gl, minAt L j * 3 + 1, none⟩) hgx).trans c1) n os
            have g2 := fun n os => cell_grown (w := wr) (a := ⟨gl, minAt L j * 3 + 2, none⟩) hgr ((hbq.cell (p := ⟨gl, minAt L j * 3 + 2, none⟩) hgx).trans c2) n os
            have HKC := hide (beforeL y z)
            have hms := HMS.out j
            rw [show L.getD j (0, 0, 0) = y by rw [List.getD_eq_getElem?_getD, hy]; rfl, show L.getD (minAt L j) (0, 0, 0) = z by rw [List.getD_eq_getElem?_getD, hz]; rfl] at hms
            unfold mkA at HKC
            clear a0 a1 a2 c0 c1 c2 hy hz hbq
            cases hq : bef y z with
            | true =>
              rw [hq] at HKC
              rw [hq, if_pos rfl] at hms
              have HM := hide hms
              clear hq hms
              generalize minAt L j = mj at *
              go_wp2_with fail
              refine wp_region_quiet_grown (by assumption) (by kernel_rfl) ?_
              repeat (go_big_quiet_step (exact Calls.grown_of (HKC.out _)))
              refine wpQuiet_nil ?_
              intro _ hw'
              obtain ⟨⟨nq, osq⟩, hw''⟩ := hw'
              subst hw''
              have B4 := hide (below_growS HBQ.out hsq nq osq)
              clear f0 f1 f2 g0 g1 g2
              generalize grow (wr.drewN nq) osq = w4 at *
              go_wp2
              go_roundw
              case rel => exact ⟨j + 1, by omega, by go_num, by rw [HM.out], B4.out⟩
              case measure => simp [intOf]; omega
            | false =>
              rw [hq] at HKC
              rw [hq, if_neg (by simp)] at hms
              have HM := hide hms
              clear hq hms
              generalize minAt L j = mj at *
              go_wp2_with fail
              refine wp_region_quiet_grown (by assumption) (by kernel_rfl) ?_
              repeat (go_big_quiet_step (exact Calls.grown_of (HKC.out _)))
              refine wpQuiet_nil ?_
              intro _ hw'
              obtain ⟨⟨nq, osq⟩, hw''⟩ := hw'
              subst hw''
              have B4 := hide (below_growS HBQ.out hsq nq osq)
              clear f0 f1 f2 g0 g1 g2
              generalize grow (wr.drewN nq) osq = w4 at *
              go_wp2
              go_roundw
              case rel => exact ⟨j + 1, by omega, by go_num, by rw [HM.out], B4.out⟩
              case measure => simp [intOf]; omega
          · obtain rfl : j = n := by omega
            have hge : ¬ (j : Int) < (j : Int) := by omega
            obtain ⟨y, hy⟩ : ∃ y, L[minAt L j]? = some y := ⟨L[minAt L j]'(by rw [HNN.out]; exact hmin), by simp⟩
            obtain ⟨a0, a1, a2⟩ := HAT.out (minAt L j) y hy
            have e0 := (hbq.cell (p := ⟨gl, minAt L j * 3, none⟩) hgx).trans a0
            have e1 := (hbq.cell (p := ⟨gl, minAt L j * 3 + 1, none⟩) hgx).trans a1
            have e2 := (hbq.cell (p := ⟨gl, minAt L j * 3 + 2, none⟩) hgx).trans a2
            have hgr : gl < wr.heap.size := by omega
            have hmin' : (minAt L j : Int) < (j : Int) := by omega
            have HSC := hide (sel_cons HLL.out)
            rw [HNN.out, show L.getD (minAt L j) (0, 0, 0) = y by rw [List.getD_eq_getElem?_getD, hy]; rfl] at HSC
            have HY := hide hy
            have OLr := hide (HOL.out.below HBQ.out (Nat.le_refl _))
            have OOr := hide (HOO.out.below HBQ.out (Nat.le_refl _))
            have NC := hide (newcells wr 120 (mkV y))
            have hOn : O.length ≤ 4096 := by omega
            clear a0 a1 a2 hy hbq HAT HMI HMS
            generalize minAt L j = km at *
            go_wp2_with (at_builtin; refine wpList_append_own_at _ rfl _ _ 50 rfl w.heap.size 120 i0 (.agg #[.int .i64 0, .int .i64 0, .int .i64 0]) 3 24 Tryz.underlying50 hi hz0 hz1 hz2 rfl (by decide) u4 O.length (mkVs O) rfl (by exact World.ownsRow.alloc OOr.out _) ⟨wr.heap.size, 0, none⟩ 1 1 (mkV y) rfl rfl (by exact NC.out) (by simp [mkV, Value.oneCell']) (by unfold maxLen; omega) (by omega) (by simp; omega) ?_; intro v6 w6 ho6 hg6 _ hat6; have O6 := hide (show OwM w6 w.heap.size v6 (O ++ [y]) from (by have h9 := ho6; unfold OwM; rw [mkVs_append, List.length_append]; simpa [mkVs] using h9)); have G6 := hide hg6; have AT6 := hide hat6; clear ho6 hg6 hat6)
            have NG6 : some gl ≠ u4.ownBlock := fun q => HAP.out gl rfl q.symm
            have L6 := hide (show OwM w6 w.heap.size (.slice (some ⟨gl, 0, none⟩) L.length cl) L from (by rw [HNN.out]; exact owns_of_block (World.ownsRow.alloc OLr.out _) (fun q hq => by
              simp only [Value.ownBlock, Option.some.injEq] at hq
              subst hq
              exact G6.out.block gl (by simp; omega) NG6)))
            have B6 := hide ((HBW.out.trans (HBQ.out.mono (by omega))).alloc (by omega) (.cells (mkV y).toArray 120) |>.grown G6.out (by simp; omega) (fun q hq => (HOO.out.lt q hq).1))
            have s6 := B6.out.size
            have AP6 := hide (show v6.ownBlock ≠ some gl from fun e => by
              rcases AT6.out with q | q
              · rw [q] at e; exact NG6 e.symm
              · rw [q] at e
                simp at e
                omega)
            have PRE := hide (L6.out.pre km (by rw [HNN.out]; omega))
            have CE := hide L6.out.cells
            have hgl6 : gl < w6.heap.size := (L6.out.lt gl rfl).2
            clear AT6 OLr OOr NC e0 e1 e2
            by_cases hcl : cl = km + 1
            · have hjk : j = km + 1 := by omega
              have hdrop : L.drop (km + 1) = [] := List.drop_eq_nil_of_le (by rw [HNN.out]; omega)
              have HD := hide hdrop
              subst hcl
              subst hjk
              clear hdrop
              have q0 : (0 : Int) ≤ (km : Int) := by omega
              have q1 : (km : Int) ≤ (km : Int) + 1 := by omega
              have q2 : (0 : Int) ≤ (km : Int) + 1 := by omega
              have qw := wrap_nat km (by omega)
              go_wp2_with fail
              go_still_tail 7, mixed
              refine wpList_append_own_at _ rfl (.tmp 39) (.tmp 43) 50 rfl w.heap.size 120 i0 (.agg #[.int .i64 0, .int .i64 0, .int .i64 0]) 3 24 Tryz.underlying50 hi hz0 hz1 hz2 rfl (by decide) (.slice (some ⟨gl, 0, none⟩) km (km + 1)) km (mkVs (L.take km)) (by rfl) (by exact PRE.out) ⟨gl, 0, none⟩ 0 0 (mkVs ([] : List Mk)) (by rfl) rfl (fun i u h => by simp [mkVs] at h) (mkVs_one _) (by unfold maxLen; omega) (by omega) (by omega) ?_
              intro v7 w7 ho7 hg7 _ hat7
              have O7 := hide (show OwM w7 w.heap.size v7 (L.eraseIdx km) from (by
                have h9 := ho7
                unfold OwM
                rw [List.eraseIdx_eq_take_drop_succ, mkVs_append, List.length_append, List.length_take, List.length_drop, HNN.out, Nat.min_eq_left (by omega)]
                rw [HD.out]
                simpa [mkVs] using h9))
              have Q7 := hide (show OwM w7 w.heap.size v6 (O ++ [y]) from owns_of_block O6.out (fun q hq => hg7.block q (O6.out.lt q hq).2 (fun e => by
                simp only [Value.ownBlock, Option.some.injEq] at e
                subst e
                exact AP6.out hq)))
              have AP7 := hide (show ∀ q, v7.ownBlock = some q → v6.ownBlock ≠ some q from fun q h1 h2 => by
                rcases hat7 with e | e
                · rw [e] at h1
                  simp only [Value.ownBlock, Option.some.injEq] at h1
                  subst h1
                  exact AP6.out h2
                · rw [e] at h1
                  simp only [Option.some.injEq] at h1
                  have h3 := (O6.out.lt q h2).2
                  rw [← h1] at h3
                  exact absurd h3 (by show ¬ w6.heap.size < w6.heap.size; omega))
              have B7 := hide (B6.out.trans ((Below.refl w.heap.size w6).grown (⟨hg7.os, hg7.tape, hg7.output, hg7.size, hg7.block⟩ : w6.grownBy w7 (Value.slice (some ⟨gl, 0, none⟩) km (km + 1)).ownBlock) s6 (fun q hq => by
                simp only [Value.ownBlock, Option.some.injEq] at hq
                omega)))
              have E7 := hide (show lenOfM v7 = (L.eraseIdx km).length from (by obtain ⟨a, c, e⟩ := O7.out.val; rw [e]; rfl))
              clear ho7 hg7 hat7
              go_wp2_with fail
              go_roundw
              case rel => exact ⟨L.eraseIdx km, O ++ [y], O7.out, Q7.out, AP7.out, B7.out, by rw [List.append_assoc, List.singleton_append, ← HSC.out]; exact HSEL.out, by rw [List.length_append, List.length_eraseIdx, HNN.out, if_pos (by omega), List.length_singleton]; omega⟩
              case measure =>
                have h9 := E7.out
                rw [List.length_eraseIdx, HNN.out, if_pos (by omega)] at h9
                show lenOfM v7 < km + 1
                omega
            · have hcl' : ((km : Int) + 1) < (cl : Int) := by omega
              have NW := hide (show ∀ i u, (mkVs (L.drop (km + 1)))[i]? = some u → w6.cell? ((⟨gl, (km + 1) * 3, none⟩ : Addr).add i) = some u from fun i u h => by
                have h9 := CE.out ((km + 1) * 3 + i) u (by rw [mkVs_drop, List.getElem?_drop] at h; exact h)
                rw [addr_add] at h9 ⊢
                rw [Nat.zero_add] at h9
                exact h9)
              have hkj : ((km : Int) + 1) ≤ (j : Int) := by omega
              have q0 : (0 : Int) ≤ (km : Int) := by omega
              have q1 : (km : Int) ≤ (cl : Int) := by omega
              have q2 : (0 : Int) ≤ (km : Int) + 1 := by omega
              have qw := wrap_nat km (by omega)
              have q3 : (j : Int) ≤ (cl : Int) := by omega
              go_wp2_with fail
              go_still_tail 7, mixed
              refine wpList_append_own_at _ rfl (.tmp 39) (.tmp 43) 50 rfl w.heap.size 120 i0 (.agg #[.int .i64 0, .int .i64 0, .int .i64 0]) 3 24 Tryz.underlying50 hi hz0 hz1 hz2 rfl (by decide) (.slice (some ⟨gl, 0, none⟩) km cl) km (mkVs (L.take km)) (by rfl) (by exact PRE.out) ⟨gl, (km + 1) * 3, none⟩ (j - (km + 1)) (cl - (km + 1)) (mkVs (L.drop (km + 1))) (by rfl) (by rw [mkVs_length, List.length_drop, HNN.out]) (by exact NW.out) (mkVs_one _) (by unfold maxLen; omega) (by omega) (by omega) ?_
              intro v7 w7 ho7 hg7 _ hat7
              have O7 := hide (show OwM w7 w.heap.size v7 (L.eraseIdx km) from (by
                have h9 := ho7
                unfold OwM
                rw [List.eraseIdx_eq_take_drop_succ, mkVs_append, List.length_append, List.length_take, List.length_drop, HNN.out, Nat.min_eq_left (by omega)]
                simpa [mkVs] using h9))
              have Q7 := hide (show OwM w7 w.heap.size v6 (O ++ [y]) from owns_of_block O6.out (fun q hq => hg7.block q (O6.out.lt q hq).2 (fun e => by
                simp only [Value.ownBlock, Option.some.injEq] at e
                subst e
                exact AP6.out hq)))
              have AP7 := hide (show ∀ q, v7.ownBlock = some q → v6.ownBlock ≠ some q from fun q h1 h2 => by
                rcases hat7 with e | e
                · rw [e] at h1
                  simp only [Value.ownBlock, Option.some.injEq] at h1
                  subst h1
                  exact AP6.out h2
                · rw [e] at h1
                  simp only [Option.some.injEq] at h1
                  have h3 := (O6.out.lt q h2).2
                  rw [← h1] at h3
                  exact absurd h3 (by show ¬ w6.heap.size < w6.heap.size; omega))
              have B7 := hide (B6.out.trans ((Below.refl w.heap.size w6).grown (⟨hg7.os, hg7.tape, hg7.output, hg7.size, hg7.block⟩ : w6.grownBy w7 (Value.slice (some ⟨gl, 0, none⟩) km cl).ownBlock) s6 (fun q hq => by
                simp only [Value.ownBlock, Option.some.injEq] at hq
                omega)))
              have E7 := hide (show lenOfM v7 = (L.eraseIdx km).length from (by obtain ⟨a, c, e⟩ := O7.out.val; rw [e]; rfl))
              clear ho7 hg7 hat7
              go_wp2_with fail
              go_roundw
              case rel => exact ⟨L.eraseIdx km, O ++ [y], O7.out, Q7.out, AP7.out, B7.out, by rw [List.append_assoc, List.singleton_append, ← HSC.out]; exact HSEL.out, by rw [List.length_append, List.length_eraseIdx, HNN.out, if_pos (by omega), List.length_singleton]; omega⟩
              case measure =>
                have h9 := E7.out
                rw [List.length_eraseIdx, HNN.out, if_pos (by omega)] at h9
                show lenOfM v7 < j
                omega

end Go.Proofs.YtbkcbhjejkicjaaGreatDoor

namespace Go.Proofs.YtbkcbhjejkicjaaGreatDoor
open Go Go.RowKit Go.Sort Go.BigFrame
set_option linter.unusedVariables false

theorem movs_same (f : Mk → Int) (xs : List Mk) (k : Nat) (x : Mk) (h : xs[k]? = some x) (hf : f x = x.2.1) : (xs.take k).map (mov f) ++ xs.drop k = (xs.take (k + 1)).map (mov f) ++ xs.drop (k + 1) := by
  have hk : k < xs.length := (List.getElem?_eq_some_iff.1 h).1
  have e : xs.drop k = x :: xs.drop (k + 1) := by
    rw [List.drop_eq_getElem_cons hk]
    have := List.getElem?_eq_some_iff.1 h
    rw [this.2]
  have hm : mov f x = x := by unfold mov; rw [hf]
  rw [e, List.take_add_one, h]
  simp [hm]

set_option maxHeartbeats 2000000 in
set_option maxRecDepth 100000 in
theorem l5InsertL (B : Nat) (xs : List Mk) (v : Value) (off n : Int) (w : World) (h : OwM w B v xs) (hn : xs.length ≤ 4096) (hx0 : ∀ x ∈ xs, 0 ≤ x.2.1 ∧ x.2.1 ≤ 8192) (hnn : 0 ≤ n ∧ n ≤ 8192) :
    Calls Tryz.prog 77 #[v, .int .i64 off, .int .i64 n] w fun e w' => ∃ v', e = .returned v' ∧ OwM w' w.heap.size v' (srt (xs.map (mov (pushF off n)))) ∧ Below w.heap.size w w' := by
  obtain ⟨i0, hi, hz0, hz1, hz2⟩ := info_parts Tryz.infoMK
  have HOv := hide h
  have hk0 : (w.alloc (.cells #[] 120)).heap[w.heap.size]? = some (.cells #[] 120 (0, 0)) := heap_alloc_new _ _
  have hs0 : (w.alloc (.cells #[] 120)).heap.size = w.heap.size + 1 := by simp
  have B0 := hide ((Below.refl w.heap.size w).alloc (Nat.le_refl _) (.cells #[] 120))
  have O0 := hide (show (w.alloc (.cells #[] 120)).ownsRow w.heap.size 120 3 (.slice (some ⟨w.heap.size, 0, none⟩) 0 0) 0 [] from ⟨rfl, .inr ⟨_, 0, #[], rfl, Nat.le_refl _, hk0, Nat.le_refl _, by unfold maxLen; omega, rfl, rfl⟩⟩)
  have HSO := hide (fun B v w h => sortL B (xs.map (mov (pushF off n))) v w h (by simpa using hn))
  rcases h.shape with ⟨rfl, rfl⟩ | ⟨g, cap, rfl, hcap, hcm, hbg, hgl⟩
  · clear h hk0
    go_enter Tryz.func77, Tryz.ntmps77
    go_wp2_with (at_builtin; refine wpList_append_own_none rfl _ _ 50 rfl w.heap.size 120 i0 3 Tryz.underlying50 hi _ _ _ rfl (by exact O0.out) rfl ?_)
    refine wp_loop_rounds 1 ?_
    rw [rounds_succ]
    go_wp2_with fail
    refine (HSO.out _ _ _ (show OwM (w.alloc (.cells #[] 120)) w.heap.size _ (List.map (mov (pushF off n)) []) from O0.out)).mono ?_
    rintro e w1 ⟨v1, rfl, ho1, hb1⟩
    have B1 := hide (B0.out.trans (hb1.mono (by simp)))
    have O1 := hide (ho1.base (base' := w.heap.size) (by simp))
    clear ho1 hb1
    go_wp2
    go_ret
    exact ⟨_, rfl, O1.out, B1.out⟩
  · have RC := hide (OwM.cells (show OwM (w.alloc (.cells #[] 120)) B (.slice (some ⟨g, 0, none⟩) xs.length cap) xs from (World.ownsRow.alloc HOv.out _)))
    unfold maxLen at hcm
    have HX0 := hide hx0
    clear h hk0 hx0
    go_enter Tryz.func77, Tryz.ntmps77
    go_upto_region 2 with (at_builtin; refine wpList_append_own _ rfl _ _ 50 rfl w.heap.size 120 i0 (.agg #[.int .i64 0, .int .i64 0, .int .i64 0]) 3 24 Tryz.underlying50 hi hz0 hz1 hz2 rfl (by decide) (.slice (some ⟨w.heap.size, 0, none⟩) 0 0) 0 [] rfl (by exact O0.out) ⟨g, 0, none⟩ xs.length cap (mkVs xs) rfl (mkVs_length xs) (by exact RC.out) (mkVs_one xs) (by unfold maxLen; omega) (by omega) (by simp) ?_; intro v4 w4 ho4 hg4 hnil4; have O4 := hide (show OwM w4 w.heap.size v4 xs from (by have h9 := ho4; rw [Nat.zero_add, List.nil_append] at h9; exact h9)); have B4 := hide (B0.out.trans ((Below.refl w.heap.size _).grown hg4 (by omega) (own_rowM O0.out))); have N4 := hide hnil4; clear ho4 hg4 hnil4)
    rcases O4.out.shape with ⟨hbad, _⟩ | ⟨gv, cv, rfl, hcv, hcm2, hbg2, hgl2⟩
    · exact absurd (N4.out.1 hbad).1 (by simp)
    have HOW0 := hide O4.out
    clear N4 O4 RC O0
    generalize hN : xs.length = nn at *
    have HNN := hide hN
    clear hN
    unfold maxLen at hcm2
    go_wp2_with fail
    go_loopw [14] (fun i wr => ∃ k : Nat, k ≤ nn ∧ i = .int .i64 k ∧ wr.ownsRow w.heap.size 120 3 (.slice (some ⟨gv, 0, none⟩) nn cv) nn (mkVs ((xs.take k).map (mov (pushF off n)) ++ xs.drop k)) ∧ Below w.heap.size w wr) (fun i _ => nn - (intOf i).toNat)
    case atStart => exact ⟨0, Nat.zero_le _, rfl, by have h9 := HOW0.out; unfold OwM at h9; rw [HNN.out] at h9; simpa using h9, B4.out⟩
    case round =>
      obtain ⟨k, hk, rfl, hown, hb⟩ := hrel
      have HB := hide hb
      have HOW := hide hown
      have hsz := hb.size
      have hgr : gv < wr.heap.size := (hown.lt gv rfl).2
      by_cases hlt2 : k < nn
      · obtain ⟨x, hx⟩ : ∃ x, xs[k]? = some x := ⟨xs[k]'(by rw [HNN.out]; exact hlt2), by simp⟩
        have hgx : ((xs.take k).map (mov (pushF off n)) ++ xs.drop k)[k]? = some x := by
          rw [List.getElem?_append_right (by rw [List.length_map, List.length_take]; omega), List.length_map, List.length_take, HNN.out, Nat.min_eq_left hk, Nat.sub_self, List.getElem?_drop, Nat.add_zero, hx]
        have e1 : wr.cell? ⟨gv, k * 3 + 1, none⟩ = some (.int .i64 x.2.1) := by rw [hown.cellAt (k * 3 + 1) (by omega), mkVs_get _ k 1 x hgx (by omega)]; rfl
        have e2 : wr.cell? ⟨gv, k * 3 + 2, none⟩ = some (.int .i64 x.2.2) := by rw [hown.cellAt (k * 3 + 2) (by omega), mkVs_get _ k 2 x hgx (by omega)]; rfl
        have hlt3 : (k : Int) < nn := by omega
        have f1 : wr.frozen? ⟨gv, k * 3 + 1, none⟩ = false := hown.frozenAt _
        have st := (hown.stored (k * 3 + 1) (.int .i64 (pushF off n x))).1
        rw [movs_set (pushF off n) xs k x hx] at st
        have HS := hide st
        have HSM := hide (movs_same (pushF off n) xs k x hx)
        have hxb := HX0.out x (List.mem_of_getElem? hx)
        clear hb hown hgx hx st
        by_cases a : x.2.1 > off
        · have a' : off < x.2.1 := a
          rw [show pushF off n x = x.2.1 + n by unfold pushF; rw [if_pos (.inl a)]] at HS
          go_wp2
          go_roundw
          case rel => exact ⟨k + 1, by omega, by go_num, HS.out, HB.out.setCell (by show w.heap.size ≤ gv; omega) _⟩
          case measure => simp [intOf]; omega
        · have a' : ¬ off < x.2.1 := a
          by_cases b : x.2.1 = off
          · have b' : (x.2.1 == off) = true := by simpa using b
            by_cases cc : x.2.2 = 1
            · have c' : (x.2.2 == 1) = true := by simpa using cc
              rw [show pushF off n x = x.2.1 + n by unfold pushF; rw [if_pos (.inr ⟨b, cc⟩)]] at HS
              clear b cc
              go_wp2
              go_roundw
              case rel => exact ⟨k + 1, by omega, by go_num, HS.out, HB.out.setCell (by show w.heap.size ≤ gv; omega) _⟩
              case measure => simp [intOf]; omega
            · have c' : (x.2.2 == 1) = false := by simpa using cc
              have e9 : pushF off n x = x.2.1 := by unfold pushF; rw [if_neg (fun q => by rcases q with q | q; exact a q; exact cc q.2)]
              have HSN := hide (HSM.out e9)
              clear b cc e9
              go_wp2
              go_roundw
              case rel => exact ⟨k + 1, by omega, by go_num, by rw [← HSN.out]; exact HOW.out, HB.out⟩
              case measure => simp [intOf]; omega
          · have b' : (x.2.1 == off) = false := by simpa using b
            have e9 : pushF off n x = x.2.1 := by unfold pushF; rw [if_neg (fun q => by rcases q with q | q; exact a q; exact b q.1)]
            have HSN := hide (HSM.out e9)
            clear b e9
            go_wp2
            go_roundw
            case rel => exact ⟨k + 1, by omega, by go_num, by rw [← HSN.out]; exact HOW.out, HB.out⟩
            case measure => simp [intOf]; omega
      · obtain rfl : k = nn := by omega
        have hge : ¬ (k : Int) < (k : Int) := by omega
        have O3 := hide (show OwM wr w.heap.size (.slice (some ⟨gv, 0, none⟩) k cv) (xs.map (mov (pushF off n))) from (by
          have h9 := HOW.out
          rw [show xs.take k = xs by rw [← HNN.out]; exact List.take_length, List.drop_of_length_le (by rw [HNN.out]; omega), List.append_nil] at h9
          unfold OwM
          rw [List.length_map, HNN.out]
          exact h9))
        have HS := hide (HSO.out _ _ _ O3.out)
        clear hb hown
        go_wp2_with fail
        refine HS.out.mono ?_
        rintro e w5 ⟨v5, rfl, ho5, hb5⟩
        have B5 := hide (HB.out.trans (hb5.mono hsz))
        have O5 := hide (ho5.base (base' := w.heap.size) hsz)
        clear ho5 hb5
        go_wp2
        go_ret
        exact ⟨_, rfl, O5.out, B5.out⟩

end Go.Proofs.YtbkcbhjejkicjaaGreatDoor

