import Derived.Test.YtbgngikejgihgagGreatDoorMq14
namespace Go.Proofs.YtbgngikejgihgagGreatDoor
open Go Go.RowKit
set_option linter.unusedVariables false

theorem itVs_lv : ∀ (Y : List It) (k : Nat) (y : It) (v : Int), Y[k]? = some y → (itVs Y).set (k * 4 + 3) (.int .i64 v) = itVs (Y.set k ⟨y.pc, v⟩)
  | [], k, y, v, h => by simp at h
  | x :: Y, 0, y, v, h => by
    simp only [List.getElem?_cons_zero, Option.some.injEq] at h
    subst h
    simp [itVs, itV]
  | x :: Y, k + 1, y, v, h => by
    simp only [List.getElem?_cons_succ] at h
    have ih := itVs_lv Y k y v h
    have e : itVs (x :: Y) = itV x ++ itVs Y := by simp [itVs]
    have e2 : itVs ((x :: Y).set (k + 1) ⟨y.pc, v⟩) = itV x ++ itVs (Y.set k ⟨y.pc, v⟩) := by simp [itVs]
    have l4 : (itV x).length = 4 := rfl
    rw [e, e2, List.set_append_right _ _ (by omega), l4, show (k + 1) * 4 + 3 - 4 = k * 4 + 3 by omega, ih]
theorem itVs_get3 : ∀ (Y : List It) (k : Nat) (y : It), Y[k]? = some y → (itVs Y)[k * 4 + 3]? = some (.int .i64 y.lv)
  | [], k, y, h => by simp at h
  | x :: Y, 0, y, h => by
    simp only [List.getElem?_cons_zero, Option.some.injEq] at h
    subst h
    simp [itVs, itV]
  | x :: Y, k + 1, y, h => by
    simp only [List.getElem?_cons_succ] at h
    have ih := itVs_get3 Y k y h
    have e : itVs (x :: Y) = itV x ++ itVs Y := by simp [itVs]
    have l4 : (itV x).length = 4 := rfl
    rw [e, List.getElem?_append_right (by omega), l4, show (k + 1) * 4 + 3 - 4 = k * 4 + 3 by omega, ih]
theorem OwI.lv {w : World} {base g cap n : Nat} {Y : List It} (h : w.ownsRow base 145 4 (.slice (some ⟨g, 0, none⟩) n cap) n (itVs Y)) {k : Nat} {y : It} (hy : Y[k]? = some y) : w.cell? ⟨g, k * 4 + 3, none⟩ = some (.int .i64 y.lv) := by
  have h3 := itVs_get3 Y k y hy
  have h4 := h.cells (g := g) rfl (k * 4 + 3) _ h3
  rw [addr_add, Nat.zero_add] at h4
  exact h4
theorem OwI.setLv {w : World} {base g cap n : Nat} {Y : List It} (h : w.ownsRow base 145 4 (.slice (some ⟨g, 0, none⟩) n cap) n (itVs Y)) {k : Nat} {y : It} (hy : Y[k]? = some y) (v : Int) : (w.setCell ⟨g, k * 4 + 3, none⟩ (.int .i64 v)).ownsRow base 145 4 (.slice (some ⟨g, 0, none⟩) n cap) n (itVs (Y.set k ⟨y.pc, v⟩)) ∧ w.grownBy (w.setCell ⟨g, k * 4 + 3, none⟩ (.int .i64 v)) (some g) := by
  have h1 := h.stored (k * 4 + 3) (.int .i64 v)
  rw [itVs_lv Y k y v hy] at h1
  exact h1
theorem set_same {Y : List It} {k : Nat} {y : It} (h : Y[k]? = some y) : Y.set k y = Y := by
  apply List.ext_getElem?
  intro i
  rw [List.getElem?_set]
  split
  · rename_i e; subst e
    split
    · exact h.symm
    · rename_i g; rw [List.getElem?_eq_none (by omega)]
  · rfl
theorem trn_self {right : Bool} {i y lo k : Nat} : trn right i y lo k k = 0 := by unfold trn; rw [if_neg (by omega)]
theorem grown_drewN (w : World) (q : Nat) (r : Option Nat) : w.grownBy (w.drewN q) r := ⟨rfl, rfl, rfl, Nat.le_refl _, fun _ _ _ => rfl⟩

set_option maxHeartbeats 4000000 in
set_option maxRecDepth 100000 in
theorem turnSR (base g cap : Nat) (X : List It) (w : World) (ho : OwI w base (.slice (some ⟨g, 0, none⟩) X.length cap) X) (hcap : X.length ≤ cap ∧ cap ≤ maxLen) (hlen : X.length ≤ 1048576) (a i h y : Nat) (e : Int) (xi xy : It) (hs : Sub X a i h e) (hxi : X[i]? = some xi) (hxy : X[y]? = some xy) (hy1 : a ≤ y) (hy2 : y < i) (hun : ∀ j, a ≤ j → j < i → ∃ x, X[j]? = some x ∧ (x.lv = e + 1 ↔ j = y)) (hlv : ∀ x ∈ X, 0 ≤ x.lv ∧ x.lv ≤ 1000000) :
    Calls Tryz.prog 206 #[.slice (some ⟨g, 0, none⟩) X.length cap, .int .i64 (i : Int), .bool true] w fun e' w' => e' = .returned (.tuple #[]) ∧ OwI w' base (.slice (some ⟨g, 0, none⟩) X.length cap) (((adj (trn true i y a h) 0 X).set y ⟨xy.pc, e⟩).set i ⟨xi.pc, e + 1⟩) ∧ w.grownBy w' (some g) := by
  have RG := hide (rangeS _ _ X w (OwI.rd ho) hlen a i h e hs)
  have hai := hs.ai
  have hih := hs.ih
  have hhl := hs.hl
  have hei : xi.lv = e := by obtain ⟨z, hz, hz2⟩ := hs.mid; rw [hxi] at hz; cases hz; exact hz2
  have heb := hlv xi (List.mem_iff_getElem?.2 ⟨i, hxi⟩)
  rw [hei] at heb
  have HUN := hide hun
  have HLV := hide hlv
  have HXI := hide hxi
  have HXY := hide hxy
  have HGT := hide (show ∀ k, k < X.length → ∃ x, X[k]? = some x from fun k hk => ⟨_, List.getElem?_eq_getElem hk⟩)
  unfold OwI at ho
  have ci := OwI.lv ho hxi
  rw [hei] at ci
  have HF := hide (show (((adj (trn true i y a h) 0 X).set y ⟨xy.pc, e⟩).set i ⟨xi.pc, e + 1⟩).length = X.length from by simp [adj_length])
  have HO := hide ho
  have hg0 := (ho.lt g rfl).2
  have HC3 := hide (fun (W : World) (k : Nat) (x : It) (hW : W.heap = w.heap) (hx : X[k]? = some x) => (show W.cell? ⟨g, k * 4 + 3, none⟩ = some (.int .i64 x.lv) from (World.cell?_of_block (w := w) (by rw [hW])).trans (OwI.lv ho hx)))
  unfold maxLen at hcap
  unfold OwI
  rw [HF.out]
  generalize hN : X.length = n at *
  clear ho hs hun hlv hxi hxy hei
  have hin : (i : Int) < (n : Int) := by omega
  go_enter Tryz.func206, Tryz.ntmps206
  go_wp2_with fail
  refine RG.out.mono ?_
  rintro e1 w1 ⟨rfl, q1, rfl⟩
  have ci1 : (w.drewN q1).cell? ⟨g, i * 4 + 3, none⟩ = some (.int .i64 e) := ci
  go_wp2_with fail
  go_loopw [11, 12] (fun yv kv wr => ∃ k yy : Nat, a ≤ k ∧ k ≤ i ∧ yv = .int .i64 yy ∧ kv = .int .i64 k ∧ (y < k → yy = y) ∧ (¬ y < k → yy = a) ∧ wr = w.drewN q1) (fun _ kv _ => i - (intOf kv).toNat)
  case atStart => exact ⟨a, a, Nat.le_refl _, by omega, by first | rfl | go_num, by first | rfl | go_num, fun h => by omega, fun _ => rfl, rfl⟩
  case round =>
    obtain ⟨k, yy, hk1, hk2, rfl, rfl, hq1, hq2, rfl⟩ := hrel
    by_cases hkt : k < i
    · obtain ⟨x, hx, hxe⟩ := HUN.out k hk1 hkt
      have cx := HC3.out (w.drewN q1) k x rfl hx
      have hb := HLV.out x (List.mem_iff_getElem?.2 ⟨k, hx⟩)
      generalize x.lv = lx at *
      have g2 : (k : Int) < (n : Int) := by omega
      have g3 : (k : Int) < (i : Int) := by omega
      clear hx
      by_cases hky : k = y
      · subst hky
        have hl := hxe.2 rfl
        subst hl
        have g4 : (e + 1 == e + 1) = true := by simp
        clear hxe hq1 hq2
        go_wp2
        go_roundw
        case rel => exact ⟨k + 1, k, by omega, by omega, rfl, by go_num, fun _ => rfl, fun h => by omega, by first | rfl | trivial⟩
        case measure => simp [intOf]; omega
      · have hl : ¬ lx = e + 1 := fun h => hky (hxe.1 h)
        have g4 : (lx == e + 1) = false := by simpa using hl
        have p1 : y < k + 1 → yy = y := fun h => hq1 (by omega)
        have p2 : ¬ y < k + 1 → yy = a := fun h => hq2 (by omega)
        clear hxe hl hq1 hq2
        go_wp2
        go_roundw
        case rel => exact ⟨k + 1, yy, by omega, by omega, rfl, by go_num, p1, p2, by first | rfl | trivial⟩
        case measure => simp [intOf]; omega
    · obtain rfl : i = k := by omega
      have hyy := hq1 hy2
      subst hyy
      have g2 : ¬ (i : Int) < (i : Int) := by omega
      clear hq1 hq2 hk1 hk2 hkt
      go_wp2_with fail
      go_loopw [13] (fun kv wr => ∃ k : Nat, a ≤ k ∧ k ≤ h ∧ kv = .int .i64 k ∧ wr.ownsRow base 145 4 (.slice (some ⟨g, 0, none⟩) n cap) n (itVs (adj (trn true i yy a k) 0 X)) ∧ w.grownBy wr (some g)) (fun kv _ => h - (intOf kv).toNat)
      case atStart => exact ⟨a, Nat.le_refl _, by omega, by first | rfl | go_num, by rw [trn_start]; exact owns_of_block HO.out (fun _ _ => rfl), grown_drewN _ _ _⟩
      case round =>
        obtain ⟨k, hk1, hk2, rfl, hown, hgr⟩ := hrel
        by_cases hkt : k < h
        · obtain ⟨x, hx⟩ := HGT.out k (by omega)
          have hyk := trn_get (right := true) (i := i) (y := yy) (lo := a) (k := k) hx
          rw [trn_self, Int.add_zero] at hyk
          have cx := OwI.lv hown hyk
          have hb := HLV.out x (List.mem_iff_getElem?.2 ⟨k, hx⟩)
          have fx : wr.frozen? ⟨g, k * 4 + 3, none⟩ = false := hown.frozenAt _
          have ST := hide (trn_step (right := true) (i := i) (y := yy) (lo := a) (k := k) hx hk1)
          have SM := hide (OwI.setLv hown hyk (x.lv - 1))
          have SP := hide (OwI.setLv hown hyk (x.lv + 1))
          have SN := hide (set_same hyk)
          have HOW := hide hown
          have HGR := hide hgr
          simp only at cx SM SP
          generalize hlx : x.lv = lx at *
          have g2 : (k : Int) < (n : Int) := by omega
          have g3 : (k : Int) < (h : Int) := by omega
          clear hx hyk hown hgr hlx
          by_cases q1 : k < yy
          · have q2 : (k : Int) < (yy : Int) := by omega
            have q3 : ¬ (i : Int) < (k : Int) := by omega
            have q4 : ¬ (yy : Int) < (k : Int) := by omega
            have q5 : (k : Int) < (i : Int) := by omega
            go_wp2
            go_roundw
            case rel => exact ⟨k + 1, by omega, by omega, by go_num, by rw [ST.out]; simp only [if_true]; rw [if_pos q1, show lx + -1 = lx - 1 by omega]; exact SM.out.1, grown_trans HGR.out SM.out.2⟩
            case measure => simp [intOf]; omega
          · by_cases q6 : i < k
            · have q2 : ¬ (k : Int) < (yy : Int) := by omega
              have q3 : (i : Int) < (k : Int) := by omega
              have q4 : (yy : Int) < (k : Int) := by omega
              have q5 : ¬ (k : Int) < (i : Int) := by omega
              go_wp2
              go_roundw
              case rel => exact ⟨k + 1, by omega, by omega, by go_num, by rw [ST.out]; simp only [if_true]; rw [if_neg q1, if_pos q6]; exact SP.out.1, grown_trans HGR.out SP.out.2⟩
              case measure => simp [intOf]; omega
            · have q2 : ¬ (k : Int) < (yy : Int) := by omega
              have q3 : ¬ (i : Int) < (k : Int) := by omega
              go_wp2
              go_roundw
              case rel => exact ⟨k + 1, by omega, by omega, by go_num, by rw [ST.out]; simp only [if_true]; rw [if_neg q1, if_neg q6, Int.add_zero]; rw [SN.out]; exact HOW.out, HGR.out⟩
              case measure => simp [intOf]; omega
        · obtain rfl : h = k := by omega
          have HGR := hide hgr
          have g2 : ¬ (h : Int) < (h : Int) := by omega
          have hyk := trn_get (right := true) (i := i) (y := yy) (lo := a) (k := h) HXY.out
          have s1 := OwI.setLv hown hyk e
          have z0 := OwI.lv hown hyk
          have f0 : wr.frozen? ⟨g, yy * 4 + 3, none⟩ = false := hown.frozenAt _
          have f1 : wr.frozen? ⟨g, i * 4 + 3, none⟩ = false := hown.frozenAt _
          have hik := trn_get (right := true) (i := i) (y := yy) (lo := a) (k := h) HXI.out
          have z1 := OwI.lv hown hik
          have hik2 : ((adj (trn true i yy a h) 0 X).set yy ⟨xy.pc, e⟩)[i]? = some ⟨xi.pc, xi.lv + trn true i yy a h i⟩ := by
            rw [List.getElem?_set, if_neg (by omega)]; exact hik
          have s2 := OwI.setLv s1.1 hik2 (e + 1)
          have O9 := hide s2.1
          have G9 := hide (grown_trans (grown_trans HGR.out s1.2) s2.2)
          have g5 : (yy : Int) < (n : Int) := by omega
          have n1 : ¬ i = yy := by omega
          have n2 : ¬ yy = i := by omega
          have n3 : ¬ i * 4 + 3 = yy * 4 + 3 := by omega
          have n4 : ¬ yy * 4 + 3 = i * 4 + 3 := by omega
          simp only at z0 z1
          generalize xy.lv + trn true i yy a h yy = b0 at *
          generalize xi.lv + trn true i yy a h i = b1 at *
          clear hown hgr hyk hik hik2 s1 s2
          go_wp2
          refine bodyPost_end (v := .tuple #[]) (by simp [results, Tryz.results206]) rfl ⟨rfl, O9.out, G9.out⟩

set_option maxHeartbeats 4000000 in
set_option maxRecDepth 100000 in
theorem turnSL (base g cap : Nat) (X : List It) (w : World) (ho : OwI w base (.slice (some ⟨g, 0, none⟩) X.length cap) X) (hcap : X.length ≤ cap ∧ cap ≤ maxLen) (hlen : X.length ≤ 1048576) (a i h y : Nat) (e : Int) (xi xy : It) (hs : Sub X a i h e) (hxi : X[i]? = some xi) (hxy : X[y]? = some xy) (hy1 : (i + 1) ≤ y) (hy2 : y < h) (hun : ∀ j, (i + 1) ≤ j → j < h → ∃ x, X[j]? = some x ∧ (x.lv = e + 1 ↔ j = y)) (hlv : ∀ x ∈ X, 0 ≤ x.lv ∧ x.lv ≤ 1000000) :
    Calls Tryz.prog 206 #[.slice (some ⟨g, 0, none⟩) X.length cap, .int .i64 (i : Int), .bool false] w fun e' w' => e' = .returned (.tuple #[]) ∧ OwI w' base (.slice (some ⟨g, 0, none⟩) X.length cap) (((adj (trn false i y a h) 0 X).set y ⟨xy.pc, e⟩).set i ⟨xi.pc, e + 1⟩) ∧ w.grownBy w' (some g) := by
  have RG := hide (rangeS _ _ X w (OwI.rd ho) hlen a i h e hs)
  have hai := hs.ai
  have hih := hs.ih
  have hhl := hs.hl
  have hei : xi.lv = e := by obtain ⟨z, hz, hz2⟩ := hs.mid; rw [hxi] at hz; cases hz; exact hz2
  have heb := hlv xi (List.mem_iff_getElem?.2 ⟨i, hxi⟩)
  rw [hei] at heb
  have HUN := hide hun
  have HLV := hide hlv
  have HXI := hide hxi
  have HXY := hide hxy
  have HGT := hide (show ∀ k, k < X.length → ∃ x, X[k]? = some x from fun k hk => ⟨_, List.getElem?_eq_getElem hk⟩)
  unfold OwI at ho
  have ci := OwI.lv ho hxi
  rw [hei] at ci
  have HF := hide (show (((adj (trn false i y a h) 0 X).set y ⟨xy.pc, e⟩).set i ⟨xi.pc, e + 1⟩).length = X.length from by simp [adj_length])
  have HO := hide ho
  have hg0 := (ho.lt g rfl).2
  have HC3 := hide (fun (W : World) (k : Nat) (x : It) (hW : W.heap = w.heap) (hx : X[k]? = some x) => (show W.cell? ⟨g, k * 4 + 3, none⟩ = some (.int .i64 x.lv) from (World.cell?_of_block (w := w) (by rw [hW])).trans (OwI.lv ho hx)))
  unfold maxLen at hcap
  unfold OwI
  rw [HF.out]
  generalize hN : X.length = n at *
  clear ho hs hun hlv hxi hxy hei
  have hin : (i : Int) < (n : Int) := by omega
  go_enter Tryz.func206, Tryz.ntmps206
  go_wp2_with fail
  refine RG.out.mono ?_
  rintro e1 w1 ⟨rfl, q1, rfl⟩
  have ci1 : (w.drewN q1).cell? ⟨g, i * 4 + 3, none⟩ = some (.int .i64 e) := ci
  go_wp2_with fail
  go_loopw [11, 12] (fun yv kv wr => ∃ k yy : Nat, (i + 1) ≤ k ∧ k ≤ h ∧ yv = .int .i64 yy ∧ kv = .int .i64 k ∧ (y < k → yy = y) ∧ (¬ y < k → yy = (i + 1)) ∧ wr = w.drewN q1) (fun _ kv _ => h - (intOf kv).toNat)
  case atStart => exact ⟨(i + 1), (i + 1), Nat.le_refl _, by omega, by first | rfl | go_num, by first | rfl | go_num, fun h => by omega, fun _ => rfl, rfl⟩
  case round =>
    obtain ⟨k, yy, hk1, hk2, rfl, rfl, hq1, hq2, rfl⟩ := hrel
    by_cases hkt : k < h
    · obtain ⟨x, hx, hxe⟩ := HUN.out k hk1 hkt
      have cx := HC3.out (w.drewN q1) k x rfl hx
      have hb := HLV.out x (List.mem_iff_getElem?.2 ⟨k, hx⟩)
      generalize x.lv = lx at *
      have g2 : (k : Int) < (n : Int) := by omega
      have g3 : (k : Int) < (h : Int) := by omega
      clear hx
      by_cases hky : k = y
      · subst hky
        have hl := hxe.2 rfl
        subst hl
        have g4 : (e + 1 == e + 1) = true := by simp
        clear hxe hq1 hq2
        go_wp2
        go_roundw
        case rel => exact ⟨k + 1, k, by omega, by omega, rfl, by go_num, fun _ => rfl, fun h => by omega, by first | rfl | trivial⟩
        case measure => simp [intOf]; omega
      · have hl : ¬ lx = e + 1 := fun h => hky (hxe.1 h)
        have g4 : (lx == e + 1) = false := by simpa using hl
        have p1 : y < k + 1 → yy = y := fun h => hq1 (by omega)
        have p2 : ¬ y < k + 1 → yy = (i + 1) := fun h => hq2 (by omega)
        clear hxe hl hq1 hq2
        go_wp2
        go_roundw
        case rel => exact ⟨k + 1, yy, by omega, by omega, rfl, by go_num, p1, p2, by first | rfl | trivial⟩
        case measure => simp [intOf]; omega
    · obtain rfl : h = k := by omega
      have hyy := hq1 hy2
      subst hyy
      have g2 : ¬ (h : Int) < (h : Int) := by omega
      clear hq1 hq2 hk1 hk2 hkt
      go_wp2_with fail
      go_loopw [13] (fun kv wr => ∃ k : Nat, a ≤ k ∧ k ≤ h ∧ kv = .int .i64 k ∧ wr.ownsRow base 145 4 (.slice (some ⟨g, 0, none⟩) n cap) n (itVs (adj (trn false i yy a k) 0 X)) ∧ w.grownBy wr (some g)) (fun kv _ => h - (intOf kv).toNat)
      case atStart => exact ⟨a, Nat.le_refl _, by omega, by first | rfl | go_num, by rw [trn_start]; exact owns_of_block HO.out (fun _ _ => rfl), grown_drewN _ _ _⟩
      case round =>
        obtain ⟨k, hk1, hk2, rfl, hown, hgr⟩ := hrel
        by_cases hkt : k < h
        · obtain ⟨x, hx⟩ := HGT.out k (by omega)
          have hyk := trn_get (right := false) (i := i) (y := yy) (lo := a) (k := k) hx
          rw [trn_self, Int.add_zero] at hyk
          have cx := OwI.lv hown hyk
          have hb := HLV.out x (List.mem_iff_getElem?.2 ⟨k, hx⟩)
          have fx : wr.frozen? ⟨g, k * 4 + 3, none⟩ = false := hown.frozenAt _
          have ST := hide (trn_step (right := false) (i := i) (y := yy) (lo := a) (k := k) hx hk1)
          have SM := hide (OwI.setLv hown hyk (x.lv - 1))
          have SP := hide (OwI.setLv hown hyk (x.lv + 1))
          have SN := hide (set_same hyk)
          have HOW := hide hown
          have HGR := hide hgr
          simp only at cx SM SP
          generalize hlx : x.lv = lx at *
          have g2 : (k : Int) < (n : Int) := by omega
          have g3 : (k : Int) < (h : Int) := by omega
          clear hx hyk hown hgr hlx
          by_cases q1 : yy < k
          · have q2 : (yy : Int) < (k : Int) := by omega
            have q3 : ¬ (k : Int) < (i : Int) := by omega
            go_wp2
            go_roundw
            case rel => exact ⟨k + 1, by omega, by omega, by go_num, by rw [ST.out]; simp only [Bool.false_eq_true, if_false]; rw [if_pos q1, show lx + -1 = lx - 1 by omega]; exact SM.out.1, grown_trans HGR.out SM.out.2⟩
            case measure => simp [intOf]; omega
          · by_cases q6 : k < i
            · have q2 : ¬ (yy : Int) < (k : Int) := by omega
              have q3 : (k : Int) < (i : Int) := by omega
              go_wp2
              go_roundw
              case rel => exact ⟨k + 1, by omega, by omega, by go_num, by rw [ST.out]; simp only [Bool.false_eq_true, if_false]; rw [if_neg q1, if_pos q6]; exact SP.out.1, grown_trans HGR.out SP.out.2⟩
              case measure => simp [intOf]; omega
            · have q2 : ¬ (yy : Int) < (k : Int) := by omega
              have q3 : ¬ (k : Int) < (i : Int) := by omega
              go_wp2
              go_roundw
              case rel => exact ⟨k + 1, by omega, by omega, by go_num, by rw [ST.out]; simp only [Bool.false_eq_true, if_false]; rw [if_neg q1, if_neg q6, Int.add_zero]; rw [SN.out]; exact HOW.out, HGR.out⟩
              case measure => simp [intOf]; omega
        · obtain rfl : h = k := by omega
          have HGR := hide hgr
          have g2 : ¬ (h : Int) < (h : Int) := by omega
          have hyk := trn_get (right := false) (i := i) (y := yy) (lo := a) (k := h) HXY.out
          have s1 := OwI.setLv hown hyk e
          have z0 := OwI.lv hown hyk
          have f0 : wr.frozen? ⟨g, yy * 4 + 3, none⟩ = false := hown.frozenAt _
          have f1 : wr.frozen? ⟨g, i * 4 + 3, none⟩ = false := hown.frozenAt _
          have hik := trn_get (right := false) (i := i) (y := yy) (lo := a) (k := h) HXI.out
          have z1 := OwI.lv hown hik
          have hik2 : ((adj (trn false i yy a h) 0 X).set yy ⟨xy.pc, e⟩)[i]? = some ⟨xi.pc, xi.lv + trn false i yy a h i⟩ := by
            rw [List.getElem?_set, if_neg (by omega)]; exact hik
          have s2 := OwI.setLv s1.1 hik2 (e + 1)
          have O9 := hide s2.1
          have G9 := hide (grown_trans (grown_trans HGR.out s1.2) s2.2)
          have g5 : (yy : Int) < (n : Int) := by omega
          have n1 : ¬ i = yy := by omega
          have n2 : ¬ yy = i := by omega
          have n3 : ¬ i * 4 + 3 = yy * 4 + 3 := by omega
          have n4 : ¬ yy * 4 + 3 = i * 4 + 3 := by omega
          simp only at z0 z1
          generalize xy.lv + trn false i yy a h yy = b0 at *
          generalize xi.lv + trn false i yy a h i = b1 at *
          clear hown hgr hyk hik hik2 s1 s2
          go_wp2
          refine bodyPost_end (v := .tuple #[]) (by simp [results, Tryz.results206]) rfl ⟨rfl, O9.out, G9.out⟩
end Go.Proofs.YtbgngikejgihgagGreatDoor

namespace Go.Proofs.YtbgngikejgihgagGreatDoor
open Go Go.RowKit
set_option linter.unusedVariables false

theorem AT.rot_its (l : AT) (p : Pc) (r : AT) : (AT.rot l p r).its = (AT.node l p r).its := by
  refine AT.its_of_flat ?_
  unfold AT.rot
  split
  · split
    · rw [AT.flat_turnR]; simp [AT.flat, AT.flat_turnL]
    · rw [AT.flat_turnR]
  · split
    · rw [AT.flat_turnL]; simp [AT.flat, AT.flat_turnR]
    · rw [AT.flat_turnL]
theorem Sub.uniq {X : List It} {a i h : Nat} {e : Int} (hs : Sub X a i h e) : ∀ j, a ≤ j → j < h → ∃ x, X[j]? = some x ∧ (x.lv = e ↔ j = i) := by
  intro j h1 h2
  rcases Nat.lt_trichotomy j i with g | g | g
  · obtain ⟨x, hx, hl⟩ := hs.lft j h1 g
    exact ⟨x, hx, fun h => by omega, fun h => by omega⟩
  · subst g
    obtain ⟨x, hx, hl⟩ := hs.mid
    exact ⟨x, hx, fun _ => rfl, fun _ => hl⟩
  · obtain ⟨x, hx, hl⟩ := hs.rgt j g h2
    exact ⟨x, hx, fun h => by omega, fun h => by omega⟩

theorem child_left (A B : List It) (l r : AT) (p : Pc) (e : Int) : A ++ (AT.node l p r).told e ++ B = A ++ l.told (e + 1) ++ (⟨p, e⟩ :: (r.told (e + 1) ++ B)) := by
  simp [AT.told]
theorem child_right (A B : List It) (l r : AT) (p : Pc) (e : Int) : A ++ (AT.node l p r).told e ++ B = (A ++ l.told (e + 1) ++ [⟨p, e⟩]) ++ r.told (e + 1) ++ B := by
  simp [AT.told]
theorem AT.Fit.ofLeft {A B : List It} {e : Int} {p : Pc} {Y : List It} (h : AT.Fit A B e) : AT.Fit A (⟨p, e⟩ :: Y) (e + 1) :=
  ⟨fun a ha => by have := h.1 a ha; omega, fun b hb => by simp at hb; subst hb; simp only; omega⟩
theorem AT.Fit.ofRight {A B : List It} {e : Int} {p : Pc} {Y : List It} (h : AT.Fit A B e) : AT.Fit (A ++ Y ++ [⟨p, e⟩]) B (e + 1) :=
  ⟨fun a ha => by simp at ha; subst ha; simp only; omega, fun b hb => by have := h.2 b hb; omega⟩

/-- The stretches of a node's sides. -/
theorem seg_mid (A S B : List It) : seg (A ++ S ++ B) A.length (A.length + S.length) = S := by
  unfold seg
  rw [List.append_assoc, List.drop_append_of_le_length (Nat.le_refl _), List.drop_length, List.nil_append, show A.length + S.length - A.length = S.length by omega, List.take_left]
theorem seg_left (A B : List It) (l r : AT) (p : Pc) (e : Int) : seg (A ++ (AT.node l p r).told e ++ B) A.length (A.length + l.its) = l.told (e + 1) := by
  rw [child_left]
  have h := seg_mid A (l.told (e + 1)) (⟨p, e⟩ :: (r.told (e + 1) ++ B))
  rw [AT.told_length] at h; exact h
theorem seg_right (A B : List It) (l r : AT) (p : Pc) (e : Int) : seg (A ++ (AT.node l p r).told e ++ B) (A.length + l.its + 1) (A.length + (AT.node l p r).its) = r.told (e + 1) := by
  rw [child_right]
  have h := seg_mid (A ++ l.told (e + 1) ++ [⟨p, e⟩]) (r.told (e + 1)) B
  simp only [List.length_append, AT.told_length, List.length_cons, List.length_nil] at h
  rw [show A.length + l.its + 1 = A.length + l.its + (0 + 1) by omega, show A.length + (AT.node l p r).its = A.length + l.its + (0 + 1) + r.its by simp only [AT.its]; omega]
  exact h

set_option maxHeartbeats 400000 in
theorem turnTR (base g cap n : Nat) (A B : List It) (a b r : AT) (q p : Pc) (e : Int) (w : World) (hn : (A ++ (AT.node (.node a q b) p r).told e ++ B).length = n) (ho : OwI w base (.slice (some ⟨g, 0, none⟩) n cap) (A ++ (AT.node (.node a q b) p r).told e ++ B)) (hcap : n ≤ cap ∧ cap ≤ maxLen) (hlen : n ≤ 1048576) (hf : AT.Fit A B e) (hlv : ∀ x ∈ A ++ (AT.node (.node a q b) p r).told e ++ B, 0 ≤ x.lv ∧ x.lv ≤ 1000000) (i : Nat) (hi : i = A.length + (AT.node a q b).its) :
    Calls Tryz.prog 206 #[.slice (some ⟨g, 0, none⟩) n cap, .int .i64 (i : Int), .bool true] w fun e' w' => e' = .returned (.tuple #[]) ∧ OwI w' base (.slice (some ⟨g, 0, none⟩) n cap) (A ++ (AT.node a q (.node b p r)).told e ++ B) ∧ w.grownBy w' (some g) := by
  subst hi
  have hs := Sub.of (l := .node a q b) (r := r) (p := p) hf
  have hc : Sub (A ++ (AT.node (.node a q b) p r).told e ++ B) A.length (A.length + a.its) (A.length + (AT.node a q b).its) (e + 1) := by
    rw [child_left A B (.node a q b) r p e]
    exact Sub.of (l := a) (r := b) (p := q) (hf.ofLeft)
  obtain ⟨xi, hxi, _⟩ := hs.mid
  obtain ⟨xy, hxy, _⟩ := hc.mid
  have hits : (AT.node a q b).its = a.its + 1 + b.its := rfl
  have hits2 : (AT.node (.node a q b) p r).its = (AT.node a q b).its + 1 + r.its := rfl
  have g1 : (A ++ (AT.node (.node a q b) p r).told e ++ B)[A.length + a.its]? = some ⟨q, e + 1⟩ := by
    rw [get_mid A _ B _ (by omega) (by rw [AT.told_length]; omega)]
    simp only [AT.told, List.append_assoc, List.cons_append]
    rw [List.getElem?_append_right (by rw [AT.told_length]; omega), AT.told_length]
    simp
  have g2 : (A ++ (AT.node (.node a q b) p r).told e ++ B)[A.length + (AT.node a q b).its]? = some ⟨p, e⟩ := by
    rw [get_mid A _ B _ (by omega) (by rw [AT.told_length]; omega)]
    rw [AT.told, List.getElem?_append_right (by rw [AT.told_length]; omega), AT.told_length]
    rw [show A.length + (AT.node a q b).its - A.length - (AT.node a q b).its = 0 by omega]; rfl
  rw [g2] at hxi; cases hxi
  rw [g1] at hxy; cases hxy
  have T := turnSR base g cap _ w (by rw [hn]; exact ho) (by rw [hn]; exact hcap) (by rw [hn]; exact hlen) _ _ _ (A.length + a.its) e ⟨p, e⟩ ⟨q, e + 1⟩ hs g2 g1 (by omega) (by omega) hc.uniq hlv
  rw [hn] at T
  refine T.mono ?_
  rintro e' w' ⟨h1, h2, h3⟩
  refine ⟨h1, ?_, h3⟩
  have E := turn_right A B a b r q p e
  rw [show A.length + a.its + 1 + b.its + 1 + r.its = A.length + (AT.node (.node a q b) p r).its by omega, show A.length + a.its + 1 + b.its = A.length + (AT.node a q b).its by omega] at E
  simp only at h2
  rw [E] at h2
  exact h2

set_option maxHeartbeats 400000 in
theorem turnTL (base g cap n : Nat) (A B : List It) (l b c : AT) (q p : Pc) (e : Int) (w : World) (hn : (A ++ (AT.node l p (.node b q c)).told e ++ B).length = n) (ho : OwI w base (.slice (some ⟨g, 0, none⟩) n cap) (A ++ (AT.node l p (.node b q c)).told e ++ B)) (hcap : n ≤ cap ∧ cap ≤ maxLen) (hlen : n ≤ 1048576) (hf : AT.Fit A B e) (hlv : ∀ x ∈ A ++ (AT.node l p (.node b q c)).told e ++ B, 0 ≤ x.lv ∧ x.lv ≤ 1000000) (i : Nat) (hi : i = A.length + l.its) :
    Calls Tryz.prog 206 #[.slice (some ⟨g, 0, none⟩) n cap, .int .i64 (i : Int), .bool false] w fun e' w' => e' = .returned (.tuple #[]) ∧ OwI w' base (.slice (some ⟨g, 0, none⟩) n cap) (A ++ (AT.node (.node l p b) q c).told e ++ B) ∧ w.grownBy w' (some g) := by
  subst hi
  have hs := Sub.of (l := l) (r := .node b q c) (p := p) hf
  have hits : (AT.node b q c).its = b.its + 1 + c.its := rfl
  have hits2 : (AT.node l p (.node b q c)).its = l.its + 1 + (AT.node b q c).its := rfl
  have hc : Sub (A ++ (AT.node l p (.node b q c)).told e ++ B) (A.length + l.its + 1) (A.length + l.its + 1 + b.its) (A.length + (AT.node l p (.node b q c)).its) (e + 1) := by
    have h9 := Sub.of (l := b) (r := c) (p := q) (hf.ofRight (p := p) (Y := l.told (e + 1)))
    rw [← child_right A B l (.node b q c) p e] at h9
    simp only [List.length_append, AT.told_length, List.length_cons, List.length_nil] at h9
    rw [show A.length + l.its + (0 + 1) = A.length + l.its + 1 by omega, show A.length + l.its + 1 + (AT.node b q c).its = A.length + (AT.node l p (.node b q c)).its by omega] at h9
    exact h9
  obtain ⟨xi, hxi, _⟩ := hs.mid
  obtain ⟨xy, hxy, _⟩ := hc.mid
  have g2 : (A ++ (AT.node l p (.node b q c)).told e ++ B)[A.length + l.its]? = some ⟨p, e⟩ := by
    rw [get_mid A _ B _ (by omega) (by rw [AT.told_length]; omega)]
    rw [AT.told, List.getElem?_append_right (by rw [AT.told_length]; omega), AT.told_length]
    rw [show A.length + l.its - A.length - l.its = 0 by omega]; rfl
  have g1 : (A ++ (AT.node l p (.node b q c)).told e ++ B)[A.length + l.its + 1 + b.its]? = some ⟨q, e + 1⟩ := by
    rw [get_mid A _ B _ (by omega) (by rw [AT.told_length]; omega)]
    simp only [AT.told]
    rw [List.getElem?_append_right (by rw [AT.told_length]; omega), AT.told_length]
    rw [show A.length + l.its + 1 + b.its - A.length - l.its = b.its + 1 by omega, List.getElem?_cons_succ, List.getElem?_append_right (by rw [AT.told_length]; omega), AT.told_length]
    simp
  rw [g2] at hxi; cases hxi
  rw [g1] at hxy; cases hxy
  have T := turnSL base g cap _ w (by rw [hn]; exact ho) (by rw [hn]; exact hcap) (by rw [hn]; exact hlen) _ _ _ (A.length + l.its + 1 + b.its) e ⟨p, e⟩ ⟨q, e + 1⟩ hs g2 g1 (by omega) (by omega) hc.uniq hlv
  rw [hn] at T
  refine T.mono ?_
  rintro e' w' ⟨h1, h2, h3⟩
  refine ⟨h1, ?_, h3⟩
  have E := turn_left A B l b c q p e
  rw [show A.length + l.its + 1 + b.its + 1 + c.its = A.length + (AT.node l p (.node b q c)).its by omega] at E
  simp only at h2
  rw [E] at h2
  exact h2
end Go.Proofs.YtbgngikejgihgagGreatDoor
