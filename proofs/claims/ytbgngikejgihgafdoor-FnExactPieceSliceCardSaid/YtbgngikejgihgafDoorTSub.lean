import Derived.Test.YtbgngikejgihgafDoorTIts
namespace Go.Proofs.YtbgngikejgihgafDoor
open Go Go.RowKit
set_option linter.unusedVariables false

/-- What the reader may be given. -/
def Fine (xs : List It) : Prop := (∀ x ∈ xs, pcOk x.pc = true ∧ 0 ≤ x.lv ∧ x.lv ≤ 8191) ∧ total xs ≤ 8192

theorem Fine.len {xs : List It} (h : Fine xs) : (xs.length : Int) ≤ total xs := total_len xs (List.all_eq_true.2 fun x hx => (h.1 x hx).1)
theorem Fine.right {a b : List It} (h : Fine (a ++ b)) : Fine b := by
  have ha := total_len a (List.all_eq_true.2 fun x hx => (h.1 x (by simp [hx])).1)
  refine ⟨fun x hx => h.1 x (by simp [hx]), ?_⟩
  have := h.2; rw [total_append] at this; omega
theorem Fine.left {a b : List It} (h : Fine (a ++ b)) : Fine a := by
  have ha := total_len b (List.all_eq_true.2 fun x hx => (h.1 x (by simp [hx])).1)
  refine ⟨fun x hx => h.1 x (by simp [hx]), ?_⟩
  have := h.2; rw [total_append] at this; omega
theorem flat_told : ∀ (T : AT) (d : Int), T.flat = (T.told d).map (fun x => x.pc)
  | .nil, _ => rfl
  | .node l p r, d => by simp only [AT.flat, AT.told, List.map_append, List.map_cons, flat_told l (d + 1), flat_told r (d + 1)]
theorem Fine.ok {T : AT} {d : Int} (h : Fine (T.told d)) : T.ok := by
  refine ⟨fun p hp => ?_, by rw [← AT.rns_told T d]; exact h.2⟩
  rw [flat_told T d, List.mem_map] at hp
  obtain ⟨x, hx, rfl⟩ := hp
  exact (h.1 x hx).1

/-- What a call of subtree answers. -/
def SubPost (B rb : Nat) (w : World) (r : Option (AT × List It)) (e : Ending) (w' : World) : Prop :=
  match r with
  | none => e = .returned (.tuple #[.pointer none, .iface 130 (.int .i64 1)]) ∧ Chg [rb] w w'
  | some (T, ys) => ∃ u bs v', e = .returned (.tuple #[.pointer u, .nilIface]) ∧ Lies w' w.heap.size T u bs ∧ bs.Nodup ∧ RdI B w' v' ys ∧ Rdr w' rb v' ∧ Chg [rb] w w'

theorem nodup_app {a b : List Nat} {m : Nat} (ha : a.Nodup) (hb : b.Nodup) (h1 : ∀ x ∈ a, x < m) (h2 : ∀ x ∈ b, m ≤ x) : (a ++ b).Nodup := by
  rw [List.nodup_append]
  refine ⟨ha, hb, fun x hx y hy e => ?_⟩
  subst e; have := h1 x hx; have := h2 x hy; omega

set_option maxHeartbeats 2000000 in
set_option maxRecDepth 100000 in
theorem sub_nil (B rb : Nat) (v : Value) (xs : List It) (lv : Int) (w : World) (hr : RdI B w v xs) (hv : Rdr w rb v) (hno : ∀ x xt, xs = x :: xt → x.lv < lv) (hlen : xs.length ≤ 8192) :
    Calls Tryd.prog 110 #[.pointer (some ⟨rb, 0, none⟩), .int .i64 lv] w fun e w' => e = .returned (.tuple #[.pointer none, .nilIface]) ∧ w' = w := by
  have c := hv.c
  have hlt := hv.lt
  cases xs with
  | nil =>
    obtain ⟨ao, cap, rfl⟩ := hr.val
    simp only [List.length_nil] at c
    clear hr hv hno
    go_enter Tryd.func110, Tryd.ntmps110
    go_wp2_with fail
    go_ret2
    exact ⟨rfl, rfl⟩
  | cons x xt =>
    obtain ⟨b, off, cap, rfl, hcap, hm, hb, ⟨a0, a1, a2, a3⟩, _⟩ := hr.head
    have hne := hno x xt rfl
    have hltb : b < w.heap.size := World.block_lt_of_cell? w _ a0
    unfold maxLen at hm
    clear hr hv hno
    go_enter Tryd.func110, Tryd.ntmps110
    go_wp2_with fail
    go_ret2
    exact ⟨rfl, rfl⟩

set_option maxHeartbeats 4000000 in
set_option maxRecDepth 100000 in
theorem subtreeN : ∀ (f : Nat) (lv : Int) (xs : List It) (B rb : Nat) (v : Value) (w : World), 0 ≤ lv → lv + f = 8200 → lv ≤ 8192 → Fine xs → RdI B w v xs → Rdr w rb v → B ≤ rb →
    Calls Tryd.prog 110 #[.pointer (some ⟨rb, 0, none⟩), .int .i64 lv] w (SubPost B rb w (parse f lv xs)) := by
  intro f
  induction f with
  | zero => intro lv xs B rb v w h0 h1 h2; omega
  | succ f ih =>
    intro lv xs B rb v w h0 h1 h2 hF hr hv hB
    have hlen : xs.length ≤ 8192 := by have := hF.len; have := hF.2; omega
    by_cases hstop : ∀ x xt, xs = x :: xt → x.lv < lv
    · refine (sub_nil B rb v xs lv w hr hv hstop hlen).mono ?_
      rintro e w' ⟨rfl, rfl⟩
      have hp : parse (f + 1) lv xs = some (.nil, xs) := by
        cases xs with
        | nil => rfl
        | cons x xt => rw [parse, if_pos (hstop x xt rfl)]
      rw [hp]
      exact ⟨none, [], v, rfl, ⟨rfl, rfl⟩, List.nodup_nil, hr, hv, Chg.refl _ _⟩
    · cases xs with
      | nil => exact absurd (fun x xt h => by cases h) hstop
      | cons x xt =>
        have hx : ¬ x.lv < lv := fun h => hstop (fun y yt e => by cases e; exact h)
        clear hstop
        have hxb := (hF.1 x (by simp)).2
        have IH1 := hide (ih (lv + 1) (x :: xt) B rb v w (by omega) (by omega) (by omega) hF hr hv hB)
        obtain ⟨b, off, cap, rfl, hcap, hm, hb, ⟨a0, a1, a2, a3⟩, _⟩ := hr.head
        have hltb : b < w.heap.size := World.block_lt_of_cell? w _ a0
        have c := hv.c
        have hlt := hv.lt
        unfold maxLen at hm
        have HP := hide (show parse (f + 1) lv (x :: xt) = _ by rw [parse, if_neg hx])
        generalize parse (f + 1) lv (x :: xt) = res at HP ⊢
        have HF := hide hF
        clear hr hv hF
        go_enter Tryd.func110, Tryd.ntmps110
        go_wp2_with fail
        refine IH1.out.mono ?_
        clear IH1
        cases hp1 : parse f (lv + 1) (x :: xt) with
        | none =>
          rintro e w1 ⟨rfl, hc1⟩
          have HC1 := hide hc1
          rw [hp1] at HP
          clear hc1 hp1
          go_wp2_with fail
          go_ret2
          rw [HP.out]
          exact ⟨rfl, HC1.out⟩
        | some q =>
          obtain ⟨L, ys⟩ := q
          rintro e w1 ⟨ul, bl, v1, rfl, hL, ndl, hr1, hv1, hc1⟩
          have HC1 := hide hc1
          have HL := hide hL
          have NDL := hide ndl
          have HR1 := hide hr1
          have HV1 := hide hv1
          have ps1 := (parse_sound _ _ _ _ _ hp1).1
          have hlt1 := hv1.lt
          have hs1 := hc1.size
          have FY := hide (show Fine (L.told (lv + 1) ++ ys) from ps1 ▸ HF.out)
          have hly : ys.length ≤ 8192 := by have := FY.out.right.len; have := FY.out.right.2; omega
          rw [hp1] at HP
          clear hc1 hL ndl hr1 hv1 hp1 ps1 c hltb a0 a1 a2 a3
          by_cases hno : ∀ y yt, ys = y :: yt → y.lv ≠ lv
          · have HK := hide (takeN_bad B rb v1 ys lv w1 HR1.out HV1.out hB hno hly)
            have HP2 := hide (show res = none by
              rw [HP.out]
              cases ys with
              | nil => rfl
              | cons y yt => simp only; rw [if_pos (hno y yt rfl)])
            clear HP hno
            go_wp2_with fail
            refine HK.out.mono ?_
            rintro e w2 ⟨rfl, hb2⟩
            have HC2 := hide (HC1.out.trans (Chg.of_below (bs := [rb]) hb2) (fun _ h _ => h) (fun _ h _ => h))
            clear hb2 HK HC1
            go_wp2_with fail
            go_ret2
            rw [HP2.out]
            exact ⟨rfl, HC2.out.alloc _⟩
          · cases ys with
            | nil => exact absurd (fun y yt h => by cases h) hno
            | cons y zs =>
              have hy : y.lv = lv := Classical.byContradiction fun h => hno (fun y' yt e => by cases e; exact h)
              clear hno
              subst hy
              simp only [ne_eq, not_true_eq_false, if_false] at HP
              simp only [List.length_cons] at hly
              have HK := hide (takeN_ok B rb v1 y zs w1 HR1.out HV1.out hB (by omega))
              clear HR1 HV1
              go_wp2_with fail
              refine HK.out.mono ?_
              rintro e w2 ⟨rfl, v2, hr2, hv2, hc2⟩
              have hs2 := hc2.size
              have HL2 := hide (HL.out.chg hc2 (fun k hk e => by have := (HL.out.lt k hk).1; simp at e; omega))
              have HLT := hide (fun k hk => (HL.out.lt k hk).2)
              have HC2 := hide ((HC1.out.trans hc2 (fun _ h _ => h) (fun _ h _ => h)).alloc (.cells #[.int .i64 y.pc.off, .int .i64 y.pc.len, .int .i64 y.pc.brk] 113))
              have HBA := hide ((Below.refl w2.heap.size w2).alloc (Nat.le_refl _) (.cells #[.int .i64 y.pc.off, .int .i64 y.pc.len, .int .i64 y.pc.brk] 113))
              have FZ := hide (show Fine zs from (Fine.right (a := [y]) FY.out.right))
              have IH2 := hide (ih (y.lv + 1) zs B rb v2 (w2.alloc (.cells #[.int .i64 y.pc.off, .int .i64 y.pc.len, .int .i64 y.pc.brk] 113)) (by omega) (by omega) (by omega) FZ.out (hr2.below HBA.out (by omega)) (hv2.alloc _) hB)
              have hkp : (w2.alloc (.cells #[.int .i64 y.pc.off, .int .i64 y.pc.len, .int .i64 y.pc.brk] 113)).heap[w2.heap.size]? = some (.cells #[.int .i64 y.pc.off, .int .i64 y.pc.len, .int .i64 y.pc.brk] 113 (0, 0)) := heap_alloc_new _ _
              have hsa : (w2.alloc (.cells #[.int .i64 y.pc.off, .int .i64 y.pc.len, .int .i64 y.pc.brk] 113)).heap.size = w2.heap.size + 1 := by simp
              have HL3 := hide (HL2.out.below HBA.out (Nat.le_refl _))
              clear hr2 hv2 hc2 HK HC1 HL HL2 HBA
              unfold pcV
              go_wp2_with fail
              generalize w2.alloc (.cells #[.int .i64 y.pc.off, .int .i64 y.pc.len, .int .i64 y.pc.brk] 113) = wa at *
              refine IH2.out.mono ?_
              clear IH2
              cases hp2 : parse f (y.lv + 1) zs with
              | none =>
                rintro e w3 ⟨rfl, hc3⟩
                have HC3 := hide (HC2.out.trans hc3 (fun _ h _ => h) (fun _ h _ => h))
                rw [hp2] at HP
                clear hc3 hp2
                go_wp2_with fail
                go_ret2
                rw [HP.out]
                exact ⟨rfl, HC3.out⟩
              | some q =>
                obtain ⟨R, us⟩ := q
                rintro e w3 ⟨ur, br, v3, rfl, hR, ndr, hr3, hv3, hc3⟩
                have hs3 := hc3.size
                have ps2 := (parse_sound _ _ _ _ _ hp2).1
                rw [hp2] at HP
                have HL4 := hide (HL3.out.chg hc3 (fun k hk e => by have := (HL3.out.lt k hk).1; simp at e; omega))
                have HR4 := hide (hR.base (base' := w.heap.size) (by omega))
                have HRB := hide (fun k hk => (hR.lt k hk).1)
                have HRT := hide (fun k hk => (hR.lt k hk).2)
                have HC3 := hide (HC2.out.trans hc3 (fun _ h _ => h) (fun _ h _ => h))
                have hk3 := (hc3.block w2.heap.size (by omega) (by simp; omega)).trans hkp
                have d0 : w3.cell? ⟨w2.heap.size, 0, none⟩ = some (.int .i64 y.pc.off) := by rw [cell_of_row w3 _ 0 _ _ _ hk3]; rfl
                have d1 : w3.cell? ⟨w2.heap.size, 1, none⟩ = some (.int .i64 y.pc.len) := by rw [cell_of_row w3 _ 1 _ _ _ hk3]; rfl
                have d2 : w3.cell? ⟨w2.heap.size, 2, none⟩ = some (.int .i64 y.pc.brk) := by rw [cell_of_row w3 _ 2 _ _ _ hk3]; rfl
                have HOK : Hid (AT.node L y.pc R).ok := by
                  have e1 : L.told (y.lv + 1) ++ y :: zs = (AT.node L y.pc R).told y.lv ++ us := by
                    rw [ps2]; obtain ⟨yp, yl⟩ := y; simp [AT.told]
                  exact Fine.ok (Fine.left (e1 ▸ FY.out))
                have bL := HOK.out.left.bd
                have bR := HOK.out.right.bd
                have hhl : (L.ht : Int) ≤ 8192 := by have := ht_le_its L; omega
                have hhr : (R.ht : Int) ≤ 8192 := by have := ht_le_its R; omega
                have NDR := hide ndr
                have HR3 := hide hr3
                have HV3 := hide hv3
                have HKP := hide (plantN L y.pc R ul ur bl br w.heap.size w3 HL4.out HR4.out HOK.out (by omega))
                clear hR ndr hr3 hv3 hc3 hk3 hkp hp2 ps2 HL3 HC2 FY FZ
                go_wp2_with fail
                refine HKP.out.mono ?_
                clear HKP
                rintro e w4 ⟨nb, rfl, hnb, hT, hb4⟩
                have hs4 := hb4.size
                have HT := hide hT
                have HC4 := hide (HC3.out.trans (Chg.of_below (bs := [rb]) hb4) (fun _ h _ => h) (fun _ h _ => h))
                have HR4' := hide (HR3.out.below hb4 (by omega))
                have HV4 := hide (HV3.out.below hb4 (by have := HV3.out.lt; omega))
                obtain ⟨b', ul', ur', bl', br', e1, e2, hnd, hl4, hr4, e3⟩ := hT
                simp only [Option.some.injEq, Addr.mk.injEq] at e1
                obtain ⟨rfl, _⟩ := e1
                have HKL := hide (leanN L y.pc R nb ul' ur' bl' br' w.heap.size _ _ _ _ w4 hnd hl4 hr4 hhl hhr)
                clear hb4 hnd hl4 hr4 e2 e3 HL4 HR4 HC3 HR3 HV3 d0 d1 d2
                go_wp2_with fail
                refine HKL.out.mono ?_
                rintro e w5 ⟨rfl, hc5⟩
                have HC5 := hide (HC4.out.trans hc5 (fun _ h _ => h) (fun _ h _ => by simp at h))
                have HT5 := hide (HT.out.chg hc5 (fun _ _ => by simp))
                have HR5 := hide (HR4'.out.below (hc5.below (B := B) (by omega) (by simp)) (Nat.le_refl _))
                have HV5 := hide (HV4.out.chg hc5 (by simp))
                have HKB := hide (boundsI ((L.ht : Int) - R.ht) (-1) 1 1 w5)
                clear HKL hc5 HT HC4 HR4' HV4
                by_cases hbal : L.ht ≤ R.ht + 1 ∧ R.ht ≤ L.ht + 1
                · have hd : decide (-1 ≤ (L.ht : Int) - R.ht ∧ (L.ht : Int) - R.ht ≤ 1) = true := by simp; omega
                  rw [hd] at HKB
                  simp only [errV, if_true] at HKB
                  simp only [if_pos hbal] at HP
                  clear hd
                  go_wp2_with fail
                  refine HKB.out.mono ?_
                  rintro e w6 ⟨rfl, rfl⟩
                  go_wp2_with fail
                  go_ret2
                  rw [HP.out]
                  refine ⟨_, _, _, rfl, HT5.out, ?_, HR5.out, HV5.out, HC5.out⟩
                  rw [List.nodup_cons]
                  refine ⟨fun hm => ?_, nodup_app NDL.out NDR.out (m := wa.heap.size) (fun k hk => by have := HLT.out k hk; omega) (fun k hk => HRB.out k hk)⟩
                  rcases List.mem_append.1 hm with hm | hm
                  · have := HLT.out nb hm; omega
                  · have := HRT.out nb hm; omega
                · have hd : decide (-1 ≤ (L.ht : Int) - R.ht ∧ (L.ht : Int) - R.ht ≤ 1) = false := by simp; omega
                  rw [hd] at HKB
                  simp only [errV, Bool.false_eq_true, if_false] at HKB
                  simp only [if_neg hbal] at HP
                  clear hd
                  go_wp2_with fail
                  refine HKB.out.mono ?_
                  rintro e w6 ⟨rfl, rfl⟩
                  go_wp2_with fail
                  go_ret2
                  rw [HP.out]
                  exact ⟨rfl, HC5.out⟩
end Go.Proofs.YtbgngikejgihgafDoor
