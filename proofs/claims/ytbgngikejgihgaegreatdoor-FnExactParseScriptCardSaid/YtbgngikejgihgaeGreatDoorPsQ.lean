import Derived.Test.YtbgngikejgihgaeGreatDoorPsN
namespace Go.Proofs.YtbgngikejgihgaeGreatDoor
open Go Go.RowKit Go.Sort
set_option linter.unusedVariables false

/-- What has been read, as the specification holds it. -/
def pC (vo : Value) (s : Sr) : List Value := [vo, .int .i64 s.cap, .int .i64 s.big, .int .i64 s.near, .int .i64 s.run, .int .i64 0, .int .i64 0]
/-- Between two lines. -/
structure SqI (w wr : World) (vl : Value) (vals : List Value) (P : List (List UInt8)) (s : Sr) (vo : Value) (vts : List Value) : Prop where
  o : OwP wr w.heap.size vo s.ops vts
  r : DX wr w.heap.size [.slice none 0 0, .int .i64 0, .int .i64 0, .int .i64 0, .int .i64 0, .int .i64 0, .int .i64 0] 27
  p : DX wr (w.heap.size + 1) (pC vo s) 27
  l : Wd wr w.heap.size vl P vals
  b : Below w.heap.size w wr
section
variable {w wr w' : World} {vl : Value} {vals : List Value} {P : List (List UInt8)} {s s' : Sr} {vo vo' : Value} {vts vts' : List Value}
theorem SqI.below (h : SqI w wr vl vals P s vo vts) (hb : Below wr.heap.size wr w') : SqI w w' vl vals P s vo vts :=
  ⟨h.o.below hb, h.r.below hb, h.p.below hb, h.l.below hb, h.b.trans (hb.mono h.b.size)⟩
theorem ops_dx {b : Nat} {vs : List Value} {t : TypeId} (ho : OwP wr w.heap.size vo s.ops vts) (hd : DX wr b vs t) (hne : t ≠ 51) (hg : wr.grownBy w' vo.ownBlock) : DX w' b vs t :=
  (hg.block _ hd.lt (fun e => own_offX ho.o hd (fun e => hne e.symm) e.symm)).trans hd
theorem ops_own {base n : Nat} {e : TypeId} {size : Nat} {v : Value} {xs : List Value} (ho : OwP wr w.heap.size vo s.ops vts) (hx : wr.ownsRow base e size v n xs) (hne : e ≠ 51) (hg : wr.grownBy w' vo.ownBlock) : w'.ownsRow base e size v n xs :=
  owns_of_block hx fun q hq => hg.block q (hx.lt q hq).2 (fun e => by
    obtain ⟨c1, h1⟩ := own_cells hx hq
    obtain ⟨c2, h2⟩ := own_cells ho.o e.symm
    rw [h1] at h2
    simp only [Option.some.injEq] at h2
    injection h2 with _ h3 _
    exact hne h3)
/-- A line has been read. -/
theorem SqI.line (h : SqI w wr vl vals P s vo vts) (hg : wr.grownBy w' vo.ownBlock) (ho : OwP w' w.heap.size vo' s'.ops vts') {vp : List Value} {w2 : World} (hp : DX w2 (w.heap.size + 1) (pC vo' s') 27) (hk : ∀ q, q ≠ w.heap.size + 1 → w2.heap[q]? = w'.heap[q]?) (hb2 : Below w.heap.size w w2) : SqI w w2 vl vals P s' vo' vts' := by
  have hP := ops_dx h.o h.p (by decide) hg
  have hne : ∀ {base n : Nat} {e : TypeId} {size : Nat} {v : Value} {xs : List Value}, w'.ownsRow base e size v n xs → e ≠ 27 → w2.ownsRow base e size v n xs := fun hx hne => owns_of_block hx fun q hq => hk q (fun e => own_offX hx hP hne (by rw [hq, e]))
  refine ⟨⟨ho.hv, hne ho.o (by decide), fun i p v hp hv => hne (ho.tx i p v hp hv) (by decide), ho.ap⟩, (hk _ (by omega)).trans (ops_dx h.o h.r (by decide) hg), hp, ⟨h.l.len, hne (ops_own h.o h.l.r (by decide) hg) (by decide), fun i u p h1 h2 => hne (ops_own h.o (h.l.t i u p h1 h2) (by decide) hg) (by decide)⟩, hb2⟩
end
def SqL (w : World) (vl : Value) (vals : List Value) (P : List (List UInt8)) (g : Nat) (i : Value) (wr : World) : Prop :=
  ∃ (k : Nat) (s : Sr) (vo : Value) (vts : List Value), k + g = P.length ∧ i = .int .i64 k ∧ scrU 0 P sr0 = scrU k (P.drop k) s ∧ s.ops.length ≤ k ∧ SqI w wr vl vals P s vo vts
theorem lineU_ops (ws : List (List UInt8)) (s : Sr) : (lineU ws s).2.ops.length ≤ s.ops.length + 1 := by
  have hr : ∀ (cs : List UInt8) (vs : List (List UInt8)) (s : Sr), (runF cs vs s).2.ops = s.ops := by
    intro cs
    induction cs with
    | nil => intro vs s; rw [runF]; intros; contradiction
    | cons c cs ih =>
      intro vs s
      cases vs with
      | nil => rw [runF]; intros; contradiction
      | cons v vs =>
        rw [runF_cons]
        split
        · rw [ih, takU_ops]
        · rw [takU_ops]
  unfold lineU
  split
  · simp
  · split
    · simp
    · split
      · unfold finU
        split
        · rw [hr]; simp
        · simp [hr]
      · rw [hr]; simp

set_option maxHeartbeats 4000000 in
set_option maxRecDepth 100000 in
theorem specPs (L : List UInt8) (v : Value) (w : World) (h : Rd .u8 w v (bts L)) :
    Calls Tryz.prog 4 #[v] w fun e w' => ∃ vo vts, e = .returned (psdV (psdU L) vo) ∧ OwP w' w.heap.size vo (psdU L).ops vts ∧ Below w.heap.size w w' := by
  obtain ⟨ao, c, hv⟩ : ∃ ao cap, v = .slice ao L.length cap := by
    rcases h with ⟨ao, cap, rfl, e⟩ | ⟨b, off, cap, rfl, _⟩
    · exact ⟨ao, cap, by have := congrArg List.length e; rw [bts_length] at this; rw [this]; rfl⟩
    · exact ⟨_, _, by rw [bts_length]⟩
  subst hv
  have A1 := hide ((Below.refl w.heap.size w).alloc (Nat.le_refl _) (.cells #[.slice none 0 0, .int .i64 0, .int .i64 0, .int .i64 0, .int .i64 0, .int .i64 0, .int .i64 0] 27))
  have D1 := hide (DX.new w [.slice none 0 0, .int .i64 0, .int .i64 0, .int .i64 0, .int .i64 0, .int .i64 0, .int .i64 0] 27)
  have s1 := hide (show (w.alloc (.cells #[.slice none 0 0, .int .i64 0, .int .i64 0, .int .i64 0, .int .i64 0, .int .i64 0, .int .i64 0] 27)).heap.size = w.heap.size + 1 by simp)
  by_cases hL : 16384 < L.length
  · have ANS := hide (show psdU L = ⟨[], 0, 0, 0, 0, 14, 0⟩ by unfold psdU; rw [if_pos hL])
    have hgl : (16384 : Int) < (L.length : Int) := by omega
    have e0 := D1.out.cell (i := 0) rfl
    have e1 := D1.out.cell (i := 1) rfl
    have e2 := D1.out.cell (i := 2) rfl
    have e3 := D1.out.cell (i := 3) rfl
    have e4 := D1.out.cell (i := 4) rfl
    have e5 := D1.out.cell (i := 5) rfl
    have e6 := D1.out.cell (i := 6) rfl
    have f0 := D1.out.fz 0
    have f1 := D1.out.fz 1
    have f2 := D1.out.fz 2
    have f3 := D1.out.fz 3
    have f4 := D1.out.fz 4
    have f5 := D1.out.fz 5
    have f6 := D1.out.fz 6
    clear h hL
    go_enter Tryz.func4, Tryz.ntmps4
    go_upto_region 2 with fail
    generalize w.alloc (.cells #[.slice none 0 0, .int .i64 0, .int .i64 0, .int .i64 0, .int .i64 0, .int .i64 0, .int .i64 0] 27) = w1 at *
    go_wp2
    refine bodyPost_ret (v := .agg #[.slice none 0 0, .int .i64 0, .int .i64 0, .int .i64 0, .int .i64 0, .int .i64 14, .int .i64 0]) (by simp [results, Tryz.results4, go_sem, e0, e1, e2, e3, e4, e5, e6]) rfl ⟨.slice none 0 0, [], by rw [ANS.out]; rfl, by rw [ANS.out]; exact OwP.nil _ _, ?_⟩
    repeat (refine Below.setCell ?_ (by simp) _)
    exact A1.out
  · have hgl : ¬ (16384 : Int) < (L.length : Int) := by omega
    have hLn : L.length ≤ 16384 := by omega
    have PU := hide (show psdU L = if (scrU 0 (cutU 10 L) sr0).1 = 0 then ⟨(scrU 0 (cutU 10 L) sr0).2.2.ops, (scrU 0 (cutU 10 L) sr0).2.2.cap, (scrU 0 (cutU 10 L) sr0).2.2.big, (scrU 0 (cutU 10 L) sr0).2.2.near, (scrU 0 (cutU 10 L) sr0).2.2.run, 0, 0⟩ else ⟨[], 0, 0, 0, 0, (scrU 0 (cutU 10 L) sr0).1, (scrU 0 (cutU 10 L) sr0).2.1⟩ by unfold psdU; rw [if_neg hL])
    have HR := hide h
    have PZ := hide (show ∀ p ∈ cutU 10 L, p.length ≤ 16384 from fun p hp => Nat.le_trans (cutU_size 10 L p hp) hLn)
    have PN := hide (show (cutU 10 L).length ≤ 16385 from (by
      have h9 := (cutS_len 10 L).1
      unfold cutU; rw [List.length_append]; simp; omega))
    have P0 := hide (show 0 < (cutU 10 L).length from (by unfold cutU; rw [List.length_append]; simp))
    clear h hL
    go_enter Tryz.func4, Tryz.ntmps4
    go_upto_region 3 with fail
    generalize w.alloc (.cells #[.slice none 0 0, .int .i64 0, .int .i64 0, .int .i64 0, .int .i64 0, .int .i64 0, .int .i64 0] 27) = w1 at *
    have A2 := hide (A1.out.alloc A1.out.size (.cells #[.slice none 0 0, .int .i64 100, .int .i64 1000, .int .i64 20, .int .i64 4, .int .i64 0, .int .i64 0] 27))
    have D2 := hide (D1.out.old (.cells #[.slice none 0 0, .int .i64 100, .int .i64 1000, .int .i64 20, .int .i64 4, .int .i64 0, .int .i64 0] 27))
    have P2 := hide (show DX (w1.alloc (.cells #[.slice none 0 0, .int .i64 100, .int .i64 1000, .int .i64 20, .int .i64 4, .int .i64 0, .int .i64 0] 27)) (w.heap.size + 1) (pC (.slice none 0 0) sr0) 27 from (by rw [← s1.out]; exact DX.new w1 [.slice none 0 0, .int .i64 100, .int .i64 1000, .int .i64 20, .int .i64 4, .int .i64 0, .int .i64 0] 27))
    go_upto_region 4 with fail
    rw [s1.out]
    have z2 : 0 < (w1.alloc (.cells #[.slice none 0 0, .int .i64 100, .int .i64 1000, .int .i64 20, .int .i64 4, .int .i64 0, .int .i64 0] 27)).heap.size := by simp
    generalize w1.alloc (.cells #[.slice none 0 0, .int .i64 100, .int .i64 1000, .int .i64 20, .int .i64 4, .int .i64 0, .int .i64 0] 27) = w2 at *
    have CU := hide (cutR 10 L (.slice ao L.length c) w2 (HR.out.below A2.out) z2 hLn)
    obtain ⟨P, hP⟩ : ∃ P, cutU 10 L = P := ⟨_, rfl⟩
    rw [hP] at CU PU PZ PN P0
    clear hP A1 D1 s1 z2 HR
    go_wp2_with fail
    refine CU.out.mono ?_
    rintro e w3 ⟨v3, vals3, rfl, hr3, hn3, hb3⟩
    obtain ⟨a1, c1, hv3⟩ := own_val5 hr3
    subst hv3
    have SI := hide (show SqI w w3 (.slice a1 P.length c1) vals3 P sr0 (.slice none 0 0) [] from ⟨OwP.nil _ _, D2.out.below hb3, P2.out.below hb3, Wd.low ⟨hn3.len, hr3, hn3.own⟩ A2.out.size, A2.out.trans (hb3.mono A2.out.size)⟩)
    have hg1 : ∃ g1, a1 = some ⟨g1, 0, none⟩ := by
      rcases hr3.2 with ⟨_, h9⟩ | ⟨g, cap', cur, hv, _⟩
      · have := P0.out; omega
      · injection hv with e1 _ _; exact ⟨g, e1⟩
    obtain ⟨g1, rfl⟩ := hg1
    generalize hN : P.length = N at *
    have HN := hide hN
    have hN2 : N ≤ 16385 := PN.out
    clear CU hr3 hn3 hb3 A2 D2 P2 PN hN P0 hgl
    go_wp2_with fail
    go_loopg [16] N (SqL w (.slice (some ⟨g1, 0, none⟩) N c1) vals3 P)
    case atStart => exact ⟨0, sr0, _, _, by rw [HN.out]; omega, rfl, rfl, Nat.le_refl _, SI.out⟩
    case round =>
      obtain ⟨k, s, vo, vts, hkg, rfl, hsc, hol, hin⟩ := hrel
      have IN := hide hin
      have HSC := hide hsc
      have HK := hide (show k + gk = N by rw [← HN.out]; exact hkg)
      have HOL := hide hol
      clear hkg hsc hin SI hol
      obtain ⟨ao2, co2, hvo⟩ := own_val5 IN.out.o.o
      subst hvo
      obtain ⟨no, hno⟩ : ∃ no, s.ops.length = no := ⟨_, rfl⟩
      rw [hno] at IN
      clear hno
      by_cases hkN : k < N
      · obtain ⟨p, hp⟩ : ∃ p, P[k]? = some p := ⟨P[k]'(by rw [HN.out]; exact hkN), List.getElem?_eq_getElem _⟩
        obtain ⟨vk, hvk⟩ : ∃ vk, vals3[k]? = some vk := ⟨vals3[k]'(by rw [IN.out.l.len, HN.out]; exact hkN), List.getElem?_eq_getElem _⟩
        have hR := IN.out.l.r
        rw [HN.out] at hR
        have dk := (hR.cellAt k (by omega)).trans hvk
        have OK := hide (IN.out.l.t k vk p hvk hp)
        have hpl : p.length ≤ 16384 := PZ.out p (List.mem_of_getElem? hp)
        have WS := hide (wordsS p vk wr OK.out.rd hpl)
        have HPK := hide (show P.drop k = p :: P.drop (k + 1) from (by
          obtain ⟨h1, e1⟩ := List.getElem?_eq_some_iff.1 hp
          rw [List.drop_eq_getElem_cons h1, e1]))
        have hkN' : (k : Int) < (N : Int) := by omega
        have WNE := hide (show ∀ x ∈ wdU p, x ≠ [] ∧ x.length ≤ 16384 from fun x hx => ⟨wdGo_ne p [] x hx, by have h9 := wdGo_len p [] x hx; simp at h9; omega⟩)
        have WLN := hide (show (wdU p).length ≤ 16385 from Nat.le_trans (wd_cnt p []) (by omega))
        clear hp hvk hR OK hpl
        go_wp2_with fail
        refine WS.out.mono ?_
        rintro e w4 ⟨a4, n4, c4, vals4, rfl, hn4, hw4, hb4⟩
        have IN4 := hide (IN.out.below hb4)
        have W4 := hide hw4
        have z4 := IN.out.b.size
        obtain ⟨ws, hws⟩ : ∃ ws, wdU p = ws := ⟨_, rfl⟩
        rw [hws] at hn4 W4 WNE WLN
        have HWS := hide hws
        clear hw4 hb4 WS dk hws
        by_cases hw0 : ws = []
        · have hn0 : n4 = 0 := by rw [hn4, hw0]; rfl
          have hz : ((n4 : Int) == 0) = true := by rw [hn0]; rfl
          have HS2 := hide (show scrU 0 P sr0 = scrU (k + 1) (P.drop (k + 1)) s from HSC.out.trans (by rw [HPK.out, scrU_idle (by rw [HWS.out]; unfold idleU; rw [hw0]; rfl)]))
          clear hn0 hw0 hn4
          go_wp2_with fail
          go_roundg (gk - 1)
          case rel => exact ⟨k + 1, s, .slice ao2 no co2, vts, by rw [HN.out]; have := HK.out; omega, by go_num, HS2.out, Nat.le_trans HOL.out (Nat.le_succ _), IN4.out⟩
          case measure => have := HK.out; omega
        · have hn0 : 0 < n4 := by rw [hn4]; exact List.length_pos_iff.2 hw0
          obtain ⟨gw, hgw⟩ : ∃ gw, a4 = some ⟨gw, 0, none⟩ := by
            rcases W4.out.r.2 with ⟨_, h9⟩ | ⟨g, cap', cur, hv, _⟩
            · omega
            · injection hv with e1 _ _; exact ⟨g, e1⟩
          subst hgw
          obtain ⟨x, hx⟩ : ∃ x, ws[0]? = some x := ⟨ws[0]'(by omega), List.getElem?_eq_getElem _⟩
          obtain ⟨u, hu⟩ : ∃ u, vals4[0]? = some u := ⟨vals4[0]'(by rw [W4.out.len]; omega), List.getElem?_eq_getElem _⟩
          have hhd : ws.headD [] = x := by
            cases ws with
            | nil => simp at hx
            | cons a r => simp at hx; exact hx
          have OX := hide (W4.out.t 0 u x hu hx)
          have hR := W4.out.r
          rw [← hn4] at hR
          have cu := (hR.cellAt 0 (by omega)).trans hu
          have hxn := (WNE.out x (List.mem_of_getElem? hx)).1
          obtain ⟨b0, xr, hxb⟩ : ∃ b0 xr, x = b0 :: xr := by
            cases x with
            | nil => exact absurd rfl hxn
            | cons a r => exact ⟨a, r, rfl⟩
          obtain ⟨gx, cx, hux, hcx⟩ : ∃ gx cx, u = .slice (some ⟨gx, 0, none⟩) x.length cx ∧ w4.cell? ⟨gx, 0, none⟩ = some (.int .u8 (b0.toNat : Int)) := by
            have h9 := OX.out
            rcases h9.2 with ⟨_, h8⟩ | ⟨g, cap', cur, hv, _⟩
            · rw [bts_length, hxb] at h8; simp at h8
            · refine ⟨g, cap', by rw [hv, bts_length], ?_⟩
              rw [hv] at h9
              exact ownB_cells h9 0 (.int .u8 (b0.toNat : Int)) (by rw [hxb]; rfl)
          subst hux
          have hxl : 0 < x.length := by rw [hxb]; simp
          have hxl' : (0 : Int) < (x.length : Int) := by omega
          have hn0' : (0 : Int) < (n4 : Int) := by omega
          have hz : ((n4 : Int) == 0) = false := by rw [beq_eq_false_iff_ne]; omega
          have q35 : ((b0.toNat : Int) == 35) = decide (b0 = 35) := byte_eq b0 35
          have HID : Hid (idleU (wdU p) = decide (b0 = 35)) := hide (by
            rw [HWS.out]
            unfold idleU
            rw [hhd, hxb, decide_eq_false hw0]
            simp only [List.head?_cons, Bool.false_or]
            by_cases e : b0 = 35
            · rw [e]; rfl
            · rw [decide_eq_false e, beq_eq_false_iff_ne]; simpa using e)
          generalize x.length = xl at *
          generalize (b0.toNat : Int) = bz at *
          clear hhd hR hxn hxb hx hu hw0
          by_cases h35 : b0 = 35
          · rw [decide_eq_true h35] at q35 HID
            have HS2 := hide (show scrU 0 P sr0 = scrU (k + 1) (P.drop (k + 1)) s from HSC.out.trans (by rw [HPK.out, scrU_idle HID.out]))
            clear h35 hn4
            go_wp2_with fail
            go_roundg (gk - 1)
            case rel => exact ⟨k + 1, s, .slice ao2 no co2, vts, by rw [HN.out]; have := HK.out; omega, by go_num, HS2.out, Nat.le_trans HOL.out (Nat.le_succ _), IN4.out⟩
            case measure => have := HK.out; omega
          · rw [decide_eq_false h35] at q35 HID
            have LS := hide (lineS ws s (.slice ao2 no co2) vts w.heap.size wr.heap.size gw n4 c4 vals4 w4 W4.out hn4.symm hn0 WNE.out IN4.out.o (Nat.le_trans HOL.out (by omega)) (by rw [hn4]; exact WLN.out) IN4.out.b.size)
            have c0 := IN4.out.p.cell (i := 0) rfl
            have c1 := IN4.out.p.cell (i := 1) rfl
            have c2 := IN4.out.p.cell (i := 2) rfl
            have c3 := IN4.out.p.cell (i := 3) rfl
            have c4 := IN4.out.p.cell (i := 4) rfl
            have c5 := IN4.out.p.cell (i := 5) rfl
            have c6 := IN4.out.p.cell (i := 6) rfl
            have g0 := IN4.out.p.fz 0
            have g1 := IN4.out.p.fz 1
            have g2 := IN4.out.p.fz 2
            have g3 := IN4.out.p.fz 3
            have g4 := IN4.out.p.fz 4
            have g5 := IN4.out.p.fz 5
            have g6 := IN4.out.p.fz 6
            clear h35 hn4
            go_upto_region 9 with fail
            clear cu hcx q35 hz hxl hxl'
            go_wp2_with fail
            refine LS.out.mono ?_
            rintro e w5 ⟨hA, hg⟩
            have P5 := hide (ops_dx IN4.out.o IN4.out.p (by decide) hg)
            have B5 := hide (IN4.out.b.grown hg IN4.out.b.size (fun q hq => (IN4.out.o.o.lt q hq).1))
            rcases hA with ⟨h0, vo', vts', rfl, ho'⟩ | ⟨h0, rfl⟩
            · obtain ⟨s2, hs2⟩ : ∃ s2, (lineU ws s).2 = s2 := ⟨_, rfl⟩
              have HLU := hide (show lineU ws s = (0, s2) from (by rw [← hs2, ← h0]))
              rw [hs2] at ho' ⊢
              have HS2 := hide (show scrU 0 P sr0 = scrU (k + 1) (P.drop (k + 1)) s2 from HSC.out.trans (by rw [HPK.out, scrU_ok HID.out (by rw [HWS.out]; exact HLU.out)]))
              have hol2 : s2.ops.length ≤ k + 1 := by
                have h9 := lineU_ops ws s
                rw [hs2] at h9
                have := HOL.out
                omega
              have HOL2 := hide hol2
              obtain ⟨ao3, co3, hvo3⟩ := own_val5 ho'.o
              obtain ⟨no3, hno3⟩ : ∃ no3, s2.ops.length = no3 := ⟨_, rfl⟩
              rw [hno3] at hvo3
              subst hvo3
              have OP := hide ho'
              have GX := hide hg
              clear c0 c1 c2 c3 c4 c5 c6 g0 g1 g2 g3 g4 g5 g6
              have c0 := P5.out.cell (i := 0) rfl
              have c1 := P5.out.cell (i := 1) rfl
              have c2 := P5.out.cell (i := 2) rfl
              have c3 := P5.out.cell (i := 3) rfl
              have c4 := P5.out.cell (i := 4) rfl
              have c5 := P5.out.cell (i := 5) rfl
              have c6 := P5.out.cell (i := 6) rfl
              have g0 := P5.out.fz 0
              have g1 := P5.out.fz 1
              have g2 := P5.out.fz 2
              have g3 := P5.out.fz 3
              have g4 := P5.out.fz 4
              have g5 := P5.out.fz 5
              have g6 := P5.out.fz 6
              have hp1 : w.heap.size ≤ w.heap.size + 1 := Nat.le_succ _
              have P6 := hide (((((((P5.out.set 0 (.slice ao3 no3 co3)).set 1 (.int .i64 s2.cap)).set 2 (.int .i64 s2.big)).set 3 (.int .i64 s2.near)).set 4 (.int .i64 s2.run)).set 5 (.int .i64 0)).set 6 (.int .i64 0))
              have B6 := hide (((((((B5.out.setCell (p := ⟨w.heap.size + 1, 0, none⟩) hp1 (.slice ao3 no3 co3)).setCell (p := ⟨w.heap.size + 1, 1, none⟩) hp1 (.int .i64 s2.cap)).setCell (p := ⟨w.heap.size + 1, 2, none⟩) hp1 (.int .i64 s2.big)).setCell (p := ⟨w.heap.size + 1, 3, none⟩) hp1 (.int .i64 s2.near)).setCell (p := ⟨w.heap.size + 1, 4, none⟩) hp1 (.int .i64 s2.run)).setCell (p := ⟨w.heap.size + 1, 5, none⟩) hp1 (.int .i64 0)).setCell (p := ⟨w.heap.size + 1, 6, none⟩) hp1 (.int .i64 0))
              have K6 := hide (show ∀ q, q ≠ w.heap.size + 1 → (((((((w5.setCell ⟨w.heap.size + 1, 0, none⟩ (.slice ao3 no3 co3)).setCell ⟨w.heap.size + 1, 1, none⟩ (.int .i64 s2.cap)).setCell ⟨w.heap.size + 1, 2, none⟩ (.int .i64 s2.big)).setCell ⟨w.heap.size + 1, 3, none⟩ (.int .i64 s2.near)).setCell ⟨w.heap.size + 1, 4, none⟩ (.int .i64 s2.run)).setCell ⟨w.heap.size + 1, 5, none⟩ (.int .i64 0)).setCell ⟨w.heap.size + 1, 6, none⟩ (.int .i64 0)).heap[q]? = w5.heap[q]? from fun q hq => by
                repeat rw [heap_setCell_other _ _ _ _ (by exact hq)])
              clear h0 hs2 hol2 hno3 ho' hg LS
              go_upto_region 10 with fail
              generalize (((((((w5.setCell ⟨w.heap.size + 1, 0, none⟩ (.slice ao3 no3 co3)).setCell ⟨w.heap.size + 1, 1, none⟩ (.int .i64 s2.cap)).setCell ⟨w.heap.size + 1, 2, none⟩ (.int .i64 s2.big)).setCell ⟨w.heap.size + 1, 3, none⟩ (.int .i64 s2.near)).setCell ⟨w.heap.size + 1, 4, none⟩ (.int .i64 s2.run)).setCell ⟨w.heap.size + 1, 5, none⟩ (.int .i64 0)).setCell ⟨w.heap.size + 1, 6, none⟩ (.int .i64 0)) = w6 at *
              have P6 : Hid (DX w6 (w.heap.size + 1) (pC (.slice ao3 no3 co3) s2) 27) := P6
              have SI6 := hide (IN4.out.line (vp := []) GX.out OP.out P6.out K6.out B6.out)
              clear c0 c1 c2 c3 c4 c5 c6 g0 g1 g2 g3 g4 g5 g6
              have c5 := P6.out.cell (i := 5) rfl
              go_wp2_with fail
              go_roundg (gk - 1)
              case rel => exact ⟨k + 1, s2, _, vts', by rw [HN.out]; have := HK.out; omega, by go_num, HS2.out, HOL2.out, SI6.out⟩
              case measure => have := HK.out; omega
            · obtain ⟨cd, hcd⟩ : ∃ cd, (lineU ws s).1 = cd := ⟨_, rfl⟩
              rw [hcd] at h0 ⊢
              have HS2 := hide (show scrU 0 P sr0 = (cd, (k : Int) + 1, s) from HSC.out.trans (by rw [HPK.out, scrU_bad (s' := (lineU ws s).2) HID.out (by rw [HWS.out, ← hcd]) h0]))
              have ANS := hide (show psdU L = ⟨[], 0, 0, 0, 0, cd, (k : Int) + 1⟩ from PU.out.trans (by rw [HS2.out]; exact if_neg h0))
              have hc0 : (cd != 0) = true := by rw [bne_iff_ne]; exact h0
              have R5 := hide (ops_dx IN4.out.o IN4.out.r (by decide) hg)
              have hr1 : w.heap.size ≠ w.heap.size + 1 := by omega
              have hp1 : w.heap.size ≤ w.heap.size + 1 := Nat.le_succ _
              clear c0 c1 c2 c3 c4 c5 c6 g0 g1 g2 g3 g4 g5 g6
              have c0 := P5.out.cell (i := 0) rfl
              have c1 := P5.out.cell (i := 1) rfl
              have c2 := P5.out.cell (i := 2) rfl
              have c3 := P5.out.cell (i := 3) rfl
              have c4 := P5.out.cell (i := 4) rfl
              have c5 := P5.out.cell (i := 5) rfl
              have c6 := P5.out.cell (i := 6) rfl
              have g0 := P5.out.fz 0
              have g1 := P5.out.fz 1
              have g2 := P5.out.fz 2
              have g3 := P5.out.fz 3
              have g4 := P5.out.fz 4
              have g5 := P5.out.fz 5
              have g6 := P5.out.fz 6
              have P6 := hide (((((((P5.out.set 0 (.slice ao2 no co2)).set 1 (.int .i64 s.cap)).set 2 (.int .i64 s.big)).set 3 (.int .i64 s.near)).set 4 (.int .i64 s.run)).set 5 (.int .i64 cd)).set 6 (.int .i64 0))
              have R6 := hide (((((((R5.out.other (p := ⟨w.heap.size + 1, 0, none⟩) (u := .slice ao2 no co2) hr1).other (p := ⟨w.heap.size + 1, 1, none⟩) (u := .int .i64 s.cap) hr1).other (p := ⟨w.heap.size + 1, 2, none⟩) (u := .int .i64 s.big) hr1).other (p := ⟨w.heap.size + 1, 3, none⟩) (u := .int .i64 s.near) hr1).other (p := ⟨w.heap.size + 1, 4, none⟩) (u := .int .i64 s.run) hr1).other (p := ⟨w.heap.size + 1, 5, none⟩) (u := .int .i64 cd) hr1).other (p := ⟨w.heap.size + 1, 6, none⟩) (u := .int .i64 0) hr1)
              have B6 := hide (((((((B5.out.setCell (p := ⟨w.heap.size + 1, 0, none⟩) hp1 (.slice ao2 no co2)).setCell (p := ⟨w.heap.size + 1, 1, none⟩) hp1 (.int .i64 s.cap)).setCell (p := ⟨w.heap.size + 1, 2, none⟩) hp1 (.int .i64 s.big)).setCell (p := ⟨w.heap.size + 1, 3, none⟩) hp1 (.int .i64 s.near)).setCell (p := ⟨w.heap.size + 1, 4, none⟩) hp1 (.int .i64 s.run)).setCell (p := ⟨w.heap.size + 1, 5, none⟩) hp1 (.int .i64 cd)).setCell (p := ⟨w.heap.size + 1, 6, none⟩) hp1 (.int .i64 0))
              have hkw : IntKind.i64.wrap ((k : Int) + 1) = (k : Int) + 1 := by rw [IntKind.wrap_i64]; omega
              clear hcd h0 hg LS
              go_upto_region 10 with fail
              generalize (((((((w5.setCell ⟨w.heap.size + 1, 0, none⟩ (.slice ao2 no co2)).setCell ⟨w.heap.size + 1, 1, none⟩ (.int .i64 s.cap)).setCell ⟨w.heap.size + 1, 2, none⟩ (.int .i64 s.big)).setCell ⟨w.heap.size + 1, 3, none⟩ (.int .i64 s.near)).setCell ⟨w.heap.size + 1, 4, none⟩ (.int .i64 s.run)).setCell ⟨w.heap.size + 1, 5, none⟩ (.int .i64 cd)).setCell ⟨w.heap.size + 1, 6, none⟩ (.int .i64 0)) = w6 at *
              clear c0 c1 c2 c3 c4 c5 c6 g0 g1 g2 g3 g4 g5 g6
              have P6 : Hid (DX w6 (w.heap.size + 1) [.slice ao2 no co2, .int .i64 s.cap, .int .i64 s.big, .int .i64 s.near, .int .i64 s.run, .int .i64 cd, .int .i64 0] 27) := P6
              have c5 := P6.out.cell (i := 5) rfl
              have e0 := R6.out.cell (i := 0) rfl
              have e1 := R6.out.cell (i := 1) rfl
              have e2 := R6.out.cell (i := 2) rfl
              have e3 := R6.out.cell (i := 3) rfl
              have e4 := R6.out.cell (i := 4) rfl
              have e5 := R6.out.cell (i := 5) rfl
              have e6 := R6.out.cell (i := 6) rfl
              have f0 := R6.out.fz 0
              have f1 := R6.out.fz 1
              have f2 := R6.out.fz 2
              have f3 := R6.out.fz 3
              have f4 := R6.out.fz 4
              have f5 := R6.out.fz 5
              have f6 := R6.out.fz 6
              go_wp2
              try rw [Exit.noGoto_ret]
              refine bodyPost_ret (v := .agg #[.slice none 0 0, .int .i64 0, .int .i64 0, .int .i64 0, .int .i64 0, .int .i64 cd, .int .i64 ((k : Int) + 1)]) (by simp [results, Tryz.results4, go_sem, e0, e1, e2, e3, e4, e5, e6]) rfl ⟨.slice none 0 0, [], by rw [ANS.out]; rfl, by rw [ANS.out]; exact OwP.nil _ _, ?_⟩
              repeat (refine Below.setCell ?_ (by simp) _)
              exact B6.out
      · obtain rfl : k = N := by have := HK.out; omega
        have HS2 := hide (show scrU 0 P sr0 = (0, 0, s) from HSC.out.trans (by rw [← HN.out, List.drop_of_length_le (Nat.le_refl _)]; rfl))
        have ANS := hide (show psdU L = ⟨s.ops, s.cap, s.big, s.near, s.run, 0, 0⟩ from PU.out.trans (by rw [HS2.out]; exact if_pos rfl))
        have P6 := hide IN.out.p
        have R6 := hide IN.out.r
        have B6 := hide IN.out.b
        have P6 : Hid (DX wr (w.heap.size + 1) [.slice ao2 no co2, .int .i64 s.cap, .int .i64 s.big, .int .i64 s.near, .int .i64 s.run, .int .i64 0, .int .i64 0] 27) := P6
        have c0 := P6.out.cell (i := 0) rfl
        have c1 := P6.out.cell (i := 1) rfl
        have c2 := P6.out.cell (i := 2) rfl
        have c3 := P6.out.cell (i := 3) rfl
        have c4 := P6.out.cell (i := 4) rfl
        have c5 := P6.out.cell (i := 5) rfl
        have c6 := P6.out.cell (i := 6) rfl
        have e0 := R6.out.cell (i := 0) rfl
        have e1 := R6.out.cell (i := 1) rfl
        have e2 := R6.out.cell (i := 2) rfl
        have e3 := R6.out.cell (i := 3) rfl
        have e4 := R6.out.cell (i := 4) rfl
        have e5 := R6.out.cell (i := 5) rfl
        have e6 := R6.out.cell (i := 6) rfl
        have f0 := R6.out.fz 0
        have f1 := R6.out.fz 1
        have f2 := R6.out.fz 2
        have f3 := R6.out.fz 3
        have f4 := R6.out.fz 4
        have f5 := R6.out.fz 5
        have f6 := R6.out.fz 6
        have hr1 : ¬ w.heap.size = w.heap.size + 1 := by omega
        have hr2 : ¬ w.heap.size + 1 = w.heap.size := by omega
        go_wp2
        try rw [Exit.noGoto_ret]
        refine bodyPost_ret (v := .agg #[.slice ao2 no co2, .int .i64 s.cap, .int .i64 s.big, .int .i64 s.near, .int .i64 s.run, .int .i64 0, .int .i64 0]) (by simp [results, Tryz.results4, go_sem, e0, e1, e2, e3, e4, e5, e6]) rfl ⟨.slice ao2 no co2, vts, by rw [ANS.out]; rfl, ?_, ?_⟩
        · rw [ANS.out]
          refine IN.out.o.keep (fun q _ _ hq => ?_)
          have h1 := cells_ne R6.out hq
          repeat rw [heap_setCell_other _ _ _ _ (by exact h1)]
        · repeat (refine Below.setCell ?_ (by simp) _)
          exact B6.out
end Go.Proofs.YtbgngikejgihgaeGreatDoor
