import Derived.Test.YtbgngikejgihgadGreatDoorMq13
namespace Go.Proofs.YtbgngikejgihgadGreatDoor
open Go Go.RowKit Go.Shelf
set_option linter.unusedVariables false
attribute [local go_sem] Oper.semAt_some

theorem linesF (n : Nat) (ao : Option Addr) (m c : Nat) (w : World) : CallsIn Fence.wide n Tryz.prog 21 #[.slice ao m c] w fun e w' => e = .returned (.func (.func 30) #[] #[.pointer (some ⟨w.heap.size, 0, none⟩)]) ∧ w' = w.alloc (.cells #[.slice ao m c] 22) := by
  refine callsIn_of_wp Tryz.func21 rfl trivial ?_ rfl
  simp only [Tryz.ntmps21, List.size_toArray, List.length_cons, List.length_nil, Nat.reduceAdd, Nat.reduceSub, Array.replicate_succ, Array.replicate_zero, List.push_toArray, List.append_toArray, List.nil_append, List.cons_append]
  gi_wp2
  go_ret
  exact ⟨rfl, rfl⟩

theorem rd_sv {w : World} {v : Value} {L : List UInt8} (h : Rd .u8 w v (bts L)) (h0 : 0 < w.heap.size) : ∃ b off cap, SV L b off cap 0 v ∧ b < w.heap.size ∧ L.length ≤ cap ∧ (∀ i, i < L.length → w.cell? ⟨b, off + i, none⟩ = some (.int .u8 ((bts L).getD i 0))) ∧ ∃ ao c, v = .slice ao L.length c := by
  rcases h with ⟨ao, c, rfl, e⟩ | ⟨b, off, cap, rfl, hp, hc⟩
  · have hL : L = [] := by have := congrArg List.length e; rw [bts_length] at this; exact List.eq_nil_of_length_eq_zero this
    subst hL
    exact ⟨0, 0, 0, .inl ⟨rfl, ao, c, rfl⟩, h0, Nat.le_refl _, fun i hi => by simp at hi, ao, c, rfl⟩
  · rw [bts_length] at hp hc ⊢
    refine ⟨b, off, cap, .inr ⟨hp.1, by simp⟩, World.block_lt_of_cell? w _ (hc 0 hp.1), hp.2.1, hc, _, _, rfl⟩
theorem ln_rd {w : World} {L : List UInt8} {b off : Nat} (hL : L.length ≤ 8192) (hc : ∀ i, i < L.length → w.cell? ⟨b, off + i, none⟩ = some (.int .u8 ((bts L).getD i 0))) (x : Ln L) : Rd .u8 w (.slice (some ⟨b, off + x.1.1, none⟩) x.1.2 x.1.2) (bts x.tx) := by
  have hx := x.2
  refine .inr ⟨b, off + x.1.1, x.1.2, by rw [bts_length, x.len], ?_, fun i hi => ?_⟩
  · rw [bts_length, x.len]
    exact ⟨hx.1, Nat.le_refl _, Nat.le_trans (by omega : x.1.2 ≤ 8192) (by decide)⟩
  · rw [bts_length, x.len] at hi
    have h9 := hc (x.1.1 + i) (by omega)
    rw [show off + (x.1.1 + i) = off + x.1.1 + i by omega] at h9
    rw [h9]
    unfold Ln.tx bts
    rw [List.map_take, List.map_drop]
    simp [List.getD_eq_getElem?_getD, hi]

theorem keeps_below {A B : World} (h : Below A.heap.size A B) : KeepsOthers A B := ⟨h.size, fun k o hk _ => (h.block k (Array.getElem?_eq_some_iff.1 hk).1).trans hk⟩
theorem keepB {A B : World} {row : Option Nat} {D k : Nat} {cs : Array Value} {t : TypeId} {fr : Nat × Nat} (hg : A.grownBy B row) (hr : ∀ r, row = some r → D ≤ r ∧ ∃ o : Obj, A.heap[r]? = some o ∧ o.isCells = false) (h : A.heap[k]? = some (.cells cs t fr)) : B.heap[k]? = some (.cells cs t fr) := by
  refine (hg.block k (Array.getElem?_eq_some_iff.1 h).1 fun e => ?_).trans h
  obtain ⟨_, o, ho, hc⟩ := hr k e.symm
  rw [h] at ho; cases ho; cases hc
theorem own_cells {W : World} {base q : Nat} {u : Value} {t : List Mk} (h : OwM W base u t) (hq : u.ownBlock = some q) : base ≤ q ∧ ∃ cs ty fr, W.heap[q]? = some (.cells cs ty fr) := by
  refine ⟨(h.lt q hq).1, ?_⟩
  rcases h.2 with ⟨rfl, _⟩ | ⟨g, cap, cur, rfl, _, hgb, _⟩
  · cases hq
  · obtain rfl : g = q := by simpa [Value.ownBlock] using hq
    exact ⟨_, _, _, hgb⟩
/-- Between two lines. -/
def ImpI (w : World) (L : List UInt8) (pre : List (Ln L)) (W : World) : Prop := ∃ t u, (Ran pre t ∧ t.length = pre.length ∧ t.length ≤ 128) ∧ (Tb W (w.heap.size + 1 + 1 + 1) u ∧ OwM W (w.heap.size + 6) u t ∧ Boxed W (w.heap.size + 1 + 1 + 1 + 1) 3 (.int .i64 (pre.length : Int))) ∧ (Boxed W w.heap.size 25 (.slice none 0 0) ∧ Boxed W (w.heap.size + 1) 3 (.int .i64 0) ∧ Boxed W (w.heap.size + 1 + 1) 3 (.int .i64 0)) ∧ Below w.heap.size w W
/-- Behind a line that is refused. -/
def ImpX (w : World) (L : List UInt8) (c : Code) (pre : List (Ln L)) (W : World) : Prop := ∃ p x t, (c = .ret ∧ pre = p ++ [x] ∧ Ran p t ∧ lnU t x.tx ≠ 0) ∧ (Boxed W w.heap.size 25 (.slice none 0 0) ∧ Boxed W (w.heap.size + 1) 3 (.int .i64 (lnU t x.tx)) ∧ Boxed W (w.heap.size + 1 + 1) 3 (.int .i64 ((p.length : Int) + 1))) ∧ Below w.heap.size w W
theorem impI_own (w : World) (L : List UInt8) (D : Nat) (hD : w.heap.size ≤ D) : OwnFrom D (ImpI w L) := by
  rintro s A B row ⟨t, u, h0, ⟨h1, h2, h3⟩, ⟨h4, h5, h6⟩, h7⟩ hg hr
  refine ⟨t, u, h0, ⟨keepB hg hr h1, owns_of_block h2 fun q hq => ?_, keepB hg hr h3⟩, ⟨keepB hg hr h4, keepB hg hr h5, keepB hg hr h6⟩, h7.grown hg h7.size fun k e => Nat.le_trans hD (hr k e).1⟩
  obtain ⟨_, cs, ty, fr, hc⟩ := own_cells h2 hq
  rw [keepB hg hr hc, hc]
theorem impX_own (w : World) (L : List UInt8) (c : Code) (D : Nat) (hD : w.heap.size ≤ D) : OwnFrom D (ImpX w L c) := by
  rintro s A B row ⟨p, x, t, h0, ⟨h4, h5, h6⟩, h7⟩ hg hr
  exact ⟨p, x, t, h0, ⟨keepB hg hr h4, keepB hg hr h5, keepB hg hr h6⟩, h7.grown hg h7.size fun k e => Nat.le_trans hD (hr k e).1⟩
theorem impI_set (w : World) (L : List UInt8) (s : List (Ln L)) (A : World) (v : Value) (h : ImpI w L s A) : ImpI w L s (A.setCell ⟨w.heap.size + 1 + 1 + 1 + 1 + 1, 0, none⟩ v) := by
  obtain ⟨t, u, h0, ⟨h1, h2, h3⟩, ⟨h4, h5, h6⟩, h7⟩ := h
  have so : ∀ k, k ≠ w.heap.size + 1 + 1 + 1 + 1 + 1 → (A.setCell ⟨w.heap.size + 1 + 1 + 1 + 1 + 1, 0, none⟩ v).heap[k]? = A.heap[k]? := fun k hk => heap_setCell_other _ _ _ _ hk
  refine ⟨t, u, h0, ⟨(so _ (by omega)).trans h1, owns_of_block h2 fun q hq => so q ?_, (so _ (by omega)).trans h3⟩, ⟨(so _ (by omega)).trans h4, (so _ (by omega)).trans h5, (so _ (by omega)).trans h6⟩, h7.setCell (by show w.heap.size ≤ w.heap.size + 1 + 1 + 1 + 1 + 1; omega) _⟩
  have := (own_cells h2 hq).1
  omega

theorem six (w : World) (a b c d e f : Value) (ta tb tc td te tf : TypeId) :
    ∀ W, W = (((((w.alloc (.cells #[a] ta)).alloc (.cells #[b] tb)).alloc (.cells #[c] tc)).alloc (.cells #[d] td)).alloc (.cells #[e] te)).alloc (.cells #[f] tf) →
    (Boxed W w.heap.size ta a ∧ Boxed W (w.heap.size + 1) tb b ∧ Boxed W (w.heap.size + 1 + 1) tc c) ∧ (Boxed W (w.heap.size + 1 + 1 + 1) td d ∧ Boxed W (w.heap.size + 1 + 1 + 1 + 1) te e ∧ Boxed W (w.heap.size + 1 + 1 + 1 + 1 + 1) tf f) ∧ Below w.heap.size w W ∧ W.heap.size = w.heap.size + 1 + 1 + 1 + 1 + 1 + 1 := by
  rintro W rfl
  have h1 := Boxed.new w ta a
  have h2 := Boxed.new (w.alloc (.cells #[a] ta)) tb b
  have h3 := Boxed.new ((w.alloc (.cells #[a] ta)).alloc (.cells #[b] tb)) tc c
  have h4 := Boxed.new (((w.alloc (.cells #[a] ta)).alloc (.cells #[b] tb)).alloc (.cells #[c] tc)) td d
  have h5 := Boxed.new ((((w.alloc (.cells #[a] ta)).alloc (.cells #[b] tb)).alloc (.cells #[c] tc)).alloc (.cells #[d] td)) te e
  have h6 := Boxed.new (((((w.alloc (.cells #[a] ta)).alloc (.cells #[b] tb)).alloc (.cells #[c] tc)).alloc (.cells #[d] td)).alloc (.cells #[e] te)) tf f
  simp only [World.size_alloc] at h1 h2 h3 h4 h5 h6
  refine ⟨⟨((((h1.alloc _).alloc _).alloc _).alloc _).alloc _, (((h2.alloc _).alloc _).alloc _).alloc _, ((h3.alloc _).alloc _).alloc _⟩, ⟨(h4.alloc _).alloc _, h5.alloc _, h6⟩, ?_, by simp only [World.size_alloc]⟩
  exact ((((((Below.refl w.heap.size w).alloc (Nat.le_refl _) _).alloc (by simp) _).alloc (by simp; omega) _).alloc (by simp; omega) _).alloc (by simp; omega) _).alloc (by simp; omega) _

set_option maxHeartbeats 4000000 in
set_option maxRecDepth 100000 in
theorem implImp (L : List UInt8) (v : Value) (w : World) (h : Rd .u8 w v (bts L)) (hG : GS w) :
    Calls Tryz.prog 10 #[v] w fun e w' => ∃ u, e = .returned (.tuple #[u, .int .i64 (impAns L).2.1, .int .i64 (impAns L).2.2]) ∧ OwM w' w.heap.size u (impAns L).1 ∧ Below w.heap.size w w' := by
  obtain ⟨b, off, cap, hsv, hb, hcap, hc, ao, c, hv⟩ := rd_sv h (World.block_lt_of_cell? w _ hG.eh)
  by_cases hL : 8192 < L.length
  · have ANS := hide (show impAns L = ([], 14, 0) by unfold impAns; rw [if_pos hL])
    subst hv
    have hgl : decide ((8192 : Int) < (L.length : Int)) = true := by simp; omega
    clear hsv hc hG h
    go_enter Tryz.func10, Tryz.ntmps10
    go_wp2
    refine bodyPost_ret (v := .tuple #[.slice none 0 0, .int .i64 14, .int .i64 0]) (by simp [results, Tryz.results10, go_sem]) rfl ⟨.slice none 0 0, by rw [ANS.out], by rw [ANS.out]; exact World.ownsRow_nil _ _ _ _, ?_⟩
    exact (((Below.refl w.heap.size w).alloc (Nat.le_refl _) _).alloc (by simp) _).alloc (by simp; omega) _
  · have HSV := hide hsv
    have HCC := hide hc
    have HG := hide hG
    subst hv
    have hgl : decide ((8192 : Int) < (L.length : Int)) = false := by simp; omega
    clear hsv hc hG h
    refine (callsIn_wide (n := 5)).1 ?_
    refine callsIn_of_wp_marks Tryz.func10 rfl trivial ?_ rfl
    simp only [Tryz.ntmps10, List.size_toArray, List.length_cons, List.length_nil, Nat.reduceAdd, Nat.reduceSub, Array.replicate_succ, Array.replicate_zero, List.push_toArray, List.append_toArray, List.nil_append, List.cons_append]
    gi_wp2_with fail
    refine ⟨trivial, (linesF _ _ _ _ _).mono ?_⟩
    rintro e w1 ⟨rfl, hw1⟩
    obtain ⟨⟨r0, r1, r2⟩, ⟨r3, r4, r5⟩, hB1, hs1⟩ := six w _ _ _ _ _ _ _ _ _ _ _ _ w1 hw1
    have I0 : ImpI w L [] w1 := ⟨[], .slice none 0 0, ⟨Ran.nil, rfl, by simp⟩, ⟨r3, World.ownsRow_nil _ _ _ _, r4⟩, ⟨r0, r1, r2⟩, hB1⟩
    clear hw1 r0 r1 r2 r3 r4
    gi_wp2_with fail
    refine range_cell (F := Fence.wide) rfl (by omega) (gf := 30) (lb := #[.pointer (some ⟨w.heap.size + 1 + 1 + 1 + 1 + 1, 0, none⟩)]) rfl trivial (enters_of Tryz.func30 (by kernel_rfl) rfl) (bx := w.heap.size + 1 + 1 + 1 + 1 + 1) (by omega)
      (linesIt L b off cap w.heap.size (w.heap.size + 1 + 1 + 1 + 1 + 1) _ w1 (by omega) hcap hb (by omega) (by omega) (fun i hi => (hB1.cell (p := ⟨b, off + i, none⟩) hb).trans (HCC.out i hi)) _ r5 HSV.out)
      (fun h1 h2 => ⟨h1.1.trans h2.1, h2.2.trans h1.2⟩) (fun W l o o' hl ho hc _ => ⟨belowK_b (w := w1) (by omega) W l o o' hl ho hc ‹_›, World.putObj_heap_other (by omega)⟩) (fun _ => rfl)
      (ImpI w L) (ImpX w L) (impI_own w L _ (by omega)) (fun c => impX_own w L c _ (by omega)) (impI_set w L) I0
      (fun x => { tmps := #[.slice ao L.length c, undef, .pointer (some ⟨w.heap.size, 0, none⟩), .pointer (some ⟨w.heap.size + 1, 0, none⟩), .pointer (some ⟨w.heap.size + 1 + 1, 0, none⟩), .pointer (some ⟨w.heap.size + 1 + 1 + 1, 0, none⟩), .pointer (some ⟨w.heap.size + 1 + 1 + 1 + 1, 0, none⟩), .slice (some ⟨b, off + x.1.1, none⟩) x.1.2 x.1.2, undef, .slice ao L.length c, .int .i64 (L.length : Int), .bool false, .slice ao L.length c, .func (.func 30) #[] #[.pointer (some ⟨w.heap.size + 1 + 1 + 1 + 1 + 1, 0, none⟩)], .slice (some ⟨b, off + x.1.1, none⟩) x.1.2 x.1.2, undef, undef, undef, undef, undef, undef, undef, undef, undef, undef, undef], defers := [] }) ?assign ?body ?done ?stop
    case assign =>
      intro l x W K hK
      gi_wp2
      exact hK
    case body =>
      rintro l pre x W hW ⟨t, u, ⟨hR, htp, htl⟩, ⟨hT, hO, hN⟩, ⟨q0, q1, q2⟩, hB⟩
      have XL := hide (show 0 < x.tx.length ∧ x.tx.length ≤ 8192 by rw [x.len]; have := x.2; omega)
      have cn := hN.cell
      have fn := hN.frozen
      have hpw : wrap64 ((pre.length : Int) + 1) = (pre.length : Int) + 1 := wrapk _ (by omega)
      have so : Hid (∀ k, k ≠ w.heap.size + 1 + 1 + 1 + 1 → (W.setCell ⟨w.heap.size + 1 + 1 + 1 + 1, 0, none⟩ (.int .i64 ((pre.length : Int) + 1))).heap[k]? = W.heap[k]?) := hide fun k hk => heap_setCell_other _ _ _ _ hk
      have NN := hide (hN.set (.int .i64 ((pre.length : Int) + 1)))
      have B1 := hide (hB.setCell (p := ⟨w.heap.size + 1 + 1 + 1 + 1, 0, none⟩) (by show w.heap.size ≤ w.heap.size + 1 + 1 + 1 + 1; omega) (.int .i64 ((pre.length : Int) + 1)))
      have BW := hide ((Below.refl w.heap.size W).setCell (p := ⟨w.heap.size + 1 + 1 + 1 + 1, 0, none⟩) (by show w.heap.size ≤ w.heap.size + 1 + 1 + 1 + 1; omega) (.int .i64 ((pre.length : Int) + 1)))
      have T1 := hide (show Tb _ _ _ from (so.out _ (by omega)).trans hT)
      have O1 := hide (show OwM (W.setCell ⟨w.heap.size + 1 + 1 + 1 + 1, 0, none⟩ (.int .i64 ((pre.length : Int) + 1))) (w.heap.size + 6) u t from owns_of_block hO fun q hq => so.out q (by have := (own_cells hO hq).1; omega))
      have KO := hide (KeepsOthers.setCell W ⟨w.heap.size + 1 + 1 + 1 + 1, 0, none⟩ (.int .i64 ((pre.length : Int) + 1)))
      have LR := hide (ln_rd (L := L) (b := b) (off := off) (by omega) (fun i hi => (B1.out.cell (p := ⟨b, off + i, none⟩) hb).trans (HCC.out i hi)) x)
      have GW := hide (HG.out.below B1.out)
      have HB0 := hide hB
      have HBS := hide (show w.heap.size + 6 ≤ W.heap.size by omega)
      have Q0 := hide q0
      have Q1 := hide q1
      have Q2 := hide q2
      clear hB q0 q1 q2 hT hO hN I0 r5
      gi_wp2_with fail
      clear cn fn
      generalize W.setCell ⟨w.heap.size + 1 + 1 + 1 + 1, 0, none⟩ (.int .i64 ((pre.length : Int) + 1)) = W1 at *
      have hs2 := KO.out.size
      have hs3 := HBS.out
      by_cases hc : lnU t x.tx = 0
      · refine ⟨trivial, (CallsIn.inRound l (callsIn_wide.2 (addLineOk _ t u x.tx _ W1 (w.heap.size + 6) (by omega) T1.out O1.out (by omega) LR.out XL.out.1 XL.out.2 GW.out hc))).mono ?_⟩
        rintro e W3 ⟨rfl, u', T3, O3, hb3, hk3⟩
        have no : Hid (∀ k, k < w.heap.size + 6 → some k ≠ u.ownBlock) := hide fun k hk e => by have := (own_cells O1.out e.symm).1; omega
        have sm : Hid (∀ k, k < w.heap.size + 6 → k ≠ w.heap.size + 1 + 1 + 1 → W3.heap[k]? = W1.heap[k]?) := hide fun k h1 h2 => hk3 k (by omega) h2 (no.out k h1)
        have B3 := hide (hb3 w.heap.size (by omega) (by omega) (by omega))
        have K3 : Hid (KeepsOthers W1 W3) := hide ⟨B3.out.size, fun k o hk ho => by
          refine (hk3 k (Array.getElem?_eq_some_iff.1 hk).1 (fun e => ?_) (fun e => ?_)).trans hk
          · subst e; rw [T1.out] at hk; cases hk; cases ho
          · obtain ⟨_, cs, ty, fr, h9⟩ := own_cells O1.out e.symm
            rw [hk] at h9; cases h9; cases ho⟩
        have T3 := hide T3
        have O3 := hide O3
        clear hb3 hk3
        gi_wp2
        refine ⟨KO.out.trans K3.out, ⟨BW.out.trans B3.out, (sm.out _ (by omega) (by omega)).trans (so.out _ (by omega))⟩, t ++ [(rdU x.tx).2], u', ⟨hR.snoc hc, by simp [htp], by have := lnU_len hc; simp; omega⟩, ⟨T3.out, O3.out, ?_⟩, ⟨(sm.out _ (by omega) (by omega)).trans ((so.out _ (by omega)).trans Q0.out), (sm.out _ (by omega) (by omega)).trans ((so.out _ (by omega)).trans Q1.out), (sm.out _ (by omega) (by omega)).trans ((so.out _ (by omega)).trans Q2.out)⟩, B1.out.trans B3.out⟩
        have h9 : Boxed W3 _ _ _ := (sm.out _ (by omega) (by omega)).trans NN.out
        rw [List.length_append]
        exact h9
      · have RR := hide hR
        have AB := hide (addLineBad _ t u x.tx _ W1 T1.out O1.out.rd (by omega) LR.out XL.out.1 XL.out.2 GW.out hc)
        have HC := hide hc
        clear LR XL hR
        generalize hcd : lnU t x.tx = cd at AB
        have CD := hide hcd
        clear hc hcd
        refine ⟨trivial, (CallsIn.inRound l (callsIn_wide.2 AB.out)).mono ?_⟩
        clear AB
        rintro e W2 ⟨⟨msg, rfl⟩, hb2⟩
        have B2 := hide hb2
        clear hb2
        unfold refV
        have HCQ := hide (fun (W5 : World) (h5 : Below W1.heap.size W1 W5) => codeOf msg cd W5 (GW.out.below h5).eh)
        have FIN : Hid (∀ W4, Below W1.heap.size W1 W4 → KeepsOthers W (((W4.setCell ⟨w.heap.size, 0, none⟩ (.slice none 0 0)).setCell ⟨w.heap.size + 1, 0, none⟩ (.int .i64 cd)).setCell ⟨w.heap.size + 1 + 1, 0, none⟩ (.int .i64 ((pre.length : Int) + 1))) ∧
            ImpX w L .ret (pre ++ [x]) (((W4.setCell ⟨w.heap.size, 0, none⟩ (.slice none 0 0)).setCell ⟨w.heap.size + 1, 0, none⟩ (.int .i64 cd)).setCell ⟨w.heap.size + 1 + 1, 0, none⟩ (.int .i64 ((pre.length : Int) + 1)))) := hide fun W4 B4 => by
          have p0 : Boxed W4 _ _ _ := (B4.block _ (by omega)).trans ((so.out _ (by omega)).trans Q0.out)
          have p1 : Boxed W4 _ _ _ := (B4.block _ (by omega)).trans ((so.out _ (by omega)).trans Q1.out)
          have p2 : Boxed W4 _ _ _ := (B4.block _ (by omega)).trans ((so.out _ (by omega)).trans Q2.out)
          have ho : ∀ (A : World) (k j : Nat) (v : Value), k ≠ j → (A.setCell ⟨j, 0, none⟩ v).heap[k]? = A.heap[k]? := fun A k j v h => heap_setCell_other _ _ _ _ h
          refine ⟨(((KO.out.trans (keeps_below B4)).trans (KeepsOthers.setCell _ _ _)).trans (KeepsOthers.setCell _ _ _)).trans (KeepsOthers.setCell _ _ _), pre, x, t, ⟨rfl, rfl, RR.out, HC.out⟩, ⟨?_, ?_, ?_⟩, ?_⟩
          · exact (ho _ _ _ _ (by omega)).trans ((ho _ _ _ _ (by omega)).trans (p0.set _))
          · rw [CD.out]
            exact (ho _ _ _ _ (by omega)).trans (Boxed.set _ (show Boxed _ _ _ _ from (ho _ _ _ _ (by omega)).trans p1))
          · exact Boxed.set _ (show Boxed _ _ _ _ from (ho _ _ _ _ (by omega)).trans ((ho _ _ _ _ (by omega)).trans p2))
          · exact (((B1.out.trans (B4.mono (by omega))).setCell (by simp) _).setCell (by show w.heap.size ≤ w.heap.size + 1; omega) _).setCell (by show w.heap.size ≤ w.heap.size + 1 + 1; omega) _
        have CL : Hid (∀ W4, Below W1.heap.size W1 W4 → (W4.cell? ⟨w.heap.size + 1 + 1 + 1 + 1, 0, none⟩ = some (.int .i64 ((pre.length : Int) + 1)) ∧ W4.cell? ⟨w.heap.size, 0, none⟩ = some (.slice none 0 0) ∧ W4.cell? ⟨w.heap.size + 1, 0, none⟩ = some (.int .i64 0) ∧ W4.cell? ⟨w.heap.size + 1 + 1, 0, none⟩ = some (.int .i64 0)) ∧ W4.frozen? ⟨w.heap.size, 0, none⟩ = false ∧ W4.frozen? ⟨w.heap.size + 1, 0, none⟩ = false ∧ W4.frozen? ⟨w.heap.size + 1 + 1, 0, none⟩ = false) := hide fun W4 B4 => by
          have p0 : Boxed W4 _ _ _ := (B4.block _ (by omega)).trans ((so.out _ (by omega)).trans Q0.out)
          have p1 : Boxed W4 _ _ _ := (B4.block _ (by omega)).trans ((so.out _ (by omega)).trans Q1.out)
          have p2 : Boxed W4 _ _ _ := (B4.block _ (by omega)).trans ((so.out _ (by omega)).trans Q2.out)
          have p3 : Boxed W4 _ _ _ := (B4.block _ NN.out.lt).trans NN.out
          exact ⟨⟨p3.cell, p0.cell, p1.cell, p2.cell⟩, p0.frozen, p1.frozen, p2.frozen⟩
        clear Q0 Q1 Q2 NN so KO BW HB0 T1 O1 GW htp htl RR HC CD HG HSV HCC
        gi_wp2_with fail
        refine wpIn_region_any (by kernel_rfl) (wpAnyIn_round l (noDefer_all (by kernel_rfl)) _ _ _ _ ?_)
        have B3 := hide (show Below W1.heap.size W1 { W2 with drawn := W2.drawn + 1 } from ⟨B2.out.os, B2.out.tape, B2.out.output, B2.out.size, B2.out.block⟩)
        generalize ({ W2 with drawn := W2.drawn + 1 } : World) = W3 at *
        clear B2
        refine wpAnyIn_take (i := 0) (fuel := 5) (v := .iface 63 (.agg #[.string msg, .iface 61 (.int .i64 cd)])) rfl rfl (by kernel_rfl) (by kernel_rfl) (by kernel_rfl) (fun _ _ _ h => h) ⟨Or.inl ⟨by rfl, ?_⟩, fun w => by rfl⟩ ?_
        · intro w; go_simp
        refine wpAnyIn_pick (fuel := 4) (i := 1) (j := 2) (by kernel_rfl) rfl rfl ?_ ?_
        · gi_wp2_with fail
          refine ⟨trivial, (callsIn_wide.2 (HCQ.out W3 B3.out)).mono ?_⟩
          rintro e W5 ⟨rfl, hb5⟩
          have B5 := hide (B3.out.trans (hb5.mono B3.out.size))
          clear hb5
          obtain ⟨⟨n5, c5, d5, e5⟩, f5, g5, h5⟩ := CL.out W5 B5.out
          gi_wp2_with fail
          refine wpAnyIn_pick (fuel := 3) (i := 2) (j := 3) (by kernel_rfl) rfl rfl ?_ ?_
          · gi_wp2_with fail
            refine wpAnyIn_of_idx [3, 4, 5] [_, _, _] _ _ _ rfl (by kernel_rfl) ?_
            gi_wp2_with fail
            exact FIN.out _ B5.out
          · gi_wp2_with fail
            refine wpAnyIn_pick (fuel := 2) (i := 2) (j := 4) (by kernel_rfl) rfl rfl ?_ ?_
            · gi_wp2_with fail
              refine wpAnyIn_of_idx [4, 5] [_, _] _ _ _ rfl (by kernel_rfl) ?_
              gi_wp2_with fail
              exact FIN.out _ B5.out
            · gi_wp2_with fail
              refine wpAnyIn_of_idx [2, 5] [_, _] _ _ _ rfl (by kernel_rfl) ?_
              gi_wp2_with fail
              exact FIN.out _ B5.out
        · have n3 := (CL.out W3 B3.out).1.1
          gi_wp2_with fail
          refine wpAnyIn_of_idx [1, 3, 4, 5] [_, _, _, _] _ _ _ rfl (by kernel_rfl) ?_
          gi_wp2_with fail
          refine ⟨trivial, (callsIn_wide.2 (HCQ.out W3 B3.out)).mono ?_⟩
          rintro e W5 ⟨rfl, hb5⟩
          have B5 := hide (B3.out.trans (hb5.mono B3.out.size))
          clear hb5
          obtain ⟨⟨n5, c5, d5, e5⟩, f5, g5, h5⟩ := CL.out W5 B5.out
          gi_wp2_with fail
          exact FIN.out _ B5.out
    case done =>
      rintro D ys W hD hS ⟨t, u, ⟨hR, htp, htl⟩, ⟨hT, hO, hN⟩, ⟨q0, q1, q2⟩, hB⟩ hK
      have ANS := hide (hR.all hS (by omega))
      obtain ⟨au, cu, hu⟩ := hO.val
      subst hu
      have ct := hT.c
      have c0 := q0.cell
      have c1 := q1.cell
      have c2 := q2.cell
      have f0 := q0.frozen
      have f1 := q1.frozen
      have f2 := q2.frozen
      have HD : Hid (w.heap.size + 6 ≤ D) := hide (by omega)
      have ho : Hid (∀ (A : World) (k j : Nat) (v : Value), k ≠ j → (A.setCell ⟨j, 0, none⟩ v).heap[k]? = A.heap[k]?) := hide fun A k j v h => heap_setCell_other _ _ _ _ h
      have KD := hide hK
      have HO := hide hO
      have HB := hide hB
      have P0 := hide q0
      have P1 := hide q1
      have P2 := hide q2
      clear hK hO hB q0 q1 q2 hR hS hT hN hD I0 r5 HSV HCC htp htl
      gi_wp2
      have hd := HD.out
      have K4 := (ho.out ((W.setCell ⟨w.heap.size, 0, none⟩ (.slice au t.length cu)).setCell ⟨w.heap.size + 1, 0, none⟩ (.int .i64 0)) D (w.heap.size + 1 + 1) (.int .i64 0) (by omega)).trans ((ho.out (W.setCell ⟨w.heap.size, 0, none⟩ (.slice au t.length cu)) D (w.heap.size + 1) (.int .i64 0) (by omega)).trans ((ho.out W D w.heap.size (.slice au t.length cu) (by omega)).trans KD.out))
      have b0 : Boxed (((W.setCell ⟨w.heap.size, 0, none⟩ (.slice au t.length cu)).setCell ⟨w.heap.size + 1, 0, none⟩ (.int .i64 0)).setCell ⟨w.heap.size + 1 + 1, 0, none⟩ (.int .i64 0)) w.heap.size _ _ := (ho.out _ _ _ _ (by omega)).trans ((ho.out _ _ _ _ (by omega)).trans (P0.out.set _))
      have b1 : Boxed (((W.setCell ⟨w.heap.size, 0, none⟩ (.slice au t.length cu)).setCell ⟨w.heap.size + 1, 0, none⟩ (.int .i64 0)).setCell ⟨w.heap.size + 1 + 1, 0, none⟩ (.int .i64 0)) (w.heap.size + 1) _ _ := (ho.out _ _ _ _ (by omega)).trans (Boxed.set _ (show Boxed _ _ _ _ from (ho.out _ _ _ _ (by omega)).trans P1.out))
      have b2 : Boxed (((W.setCell ⟨w.heap.size, 0, none⟩ (.slice au t.length cu)).setCell ⟨w.heap.size + 1, 0, none⟩ (.int .i64 0)).setCell ⟨w.heap.size + 1 + 1, 0, none⟩ (.int .i64 0)) (w.heap.size + 1 + 1) _ _ := Boxed.set _ (show Boxed _ _ _ _ from (ho.out _ _ _ _ (by omega)).trans ((ho.out _ _ _ _ (by omega)).trans P2.out))
      have OW : OwM (((W.setCell ⟨w.heap.size, 0, none⟩ (.slice au t.length cu)).setCell ⟨w.heap.size + 1, 0, none⟩ (.int .i64 0)).setCell ⟨w.heap.size + 1 + 1, 0, none⟩ (.int .i64 0)) (w.heap.size + 6) (.slice au t.length cu) t := owns_of_block HO.out fun q hq => by
        have := (own_cells HO.out hq).1
        exact (ho.out _ _ _ _ (by omega)).trans ((ho.out _ _ _ _ (by omega)).trans (ho.out _ _ _ _ (by omega)))
      have BB := ((HB.out.setCell (p := ⟨w.heap.size, 0, none⟩) (by simp) (.slice au t.length cu)).setCell (p := ⟨w.heap.size + 1, 0, none⟩) (by show w.heap.size ≤ w.heap.size + 1; omega) (.int .i64 0)).setCell (p := ⟨w.heap.size + 1 + 1, 0, none⟩) (by show w.heap.size ≤ w.heap.size + 1 + 1; omega) (.int .i64 0)
      generalize ((W.setCell ⟨w.heap.size, 0, none⟩ (.slice au t.length cu)).setCell ⟨w.heap.size + 1, 0, none⟩ (.int .i64 0)).setCell ⟨w.heap.size + 1 + 1, 0, none⟩ (.int .i64 0) = W4 at *
      refine ⟨by simp, .inl ⟨_, _, rfl, run_takeDeferred K4, ?_⟩⟩
      have e0 := (b0.kept (grownBy_putObj' _ D (.deferred none)) (fun e => by cases e; omega)).cell
      have e1 := (b1.kept (grownBy_putObj' _ D (.deferred none)) (fun e => by cases e; omega)).cell
      have e2 := (b2.kept (grownBy_putObj' _ D (.deferred none)) (fun e => by cases e; omega)).cell
      have O5 : OwM (W4.putObj D (.deferred none)) w.heap.size (.slice au t.length cu) t := OwM.base (owns_of_block OW fun q hq => World.putObj_heap_other fun e => by
        obtain ⟨_, cs, ty, fr, h9⟩ := own_cells OW hq
        first | (rw [e] at h9; rw [K4] at h9; cases h9) | (rw [← e] at h9; rw [K4] at h9; cases h9)) (by omega)
      have B5 := BB.trans (belowK_b (w := w) (Nat.le_refl _) _ D _ (.deferred none) (by omega) K4 rfl rfl)
      exact ⟨.tuple #[.slice au t.length cu, .int .i64 0, .int .i64 0], by simp [results, Tryz.results10, go_sem, e0, e1, e2], .slice au t.length cu, by rw [ANS.out], by rw [ANS.out]; exact O5, B5⟩
    case stop =>
      rintro D cd pre W hD hS ⟨p, x, t, ⟨rfl, rfl, hR, hc⟩, ⟨q0, q1, q2⟩, hB⟩ hK
      have ANS := hide (hR.end hc hS (by omega))
      gi_wp2
      refine ⟨by simp, .inl ⟨_, _, rfl, run_takeDeferred hK, ?_⟩⟩
      have e0 := (q0.kept (grownBy_putObj' _ D (.deferred none)) (fun e => by cases e; omega)).cell
      have e1 := (q1.kept (grownBy_putObj' _ D (.deferred none)) (fun e => by cases e; omega)).cell
      have e2 := (q2.kept (grownBy_putObj' _ D (.deferred none)) (fun e => by cases e; omega)).cell
      have B5 := hB.trans (belowK_b (w := w) (Nat.le_refl _) _ D _ (.deferred none) (by omega) hK rfl rfl)
      exact ⟨.tuple #[.slice none 0 0, .int .i64 (lnU t x.tx), .int .i64 ((p.length : Int) + 1)], by simp [results, Tryz.results10, go_sem, e0, e1, e2], .slice none 0 0, by rw [ANS.out], by rw [ANS.out]; exact World.ownsRow_nil _ _ _ _, B5⟩
end Go.Proofs.YtbgngikejgihgadGreatDoor
