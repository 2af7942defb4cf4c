import Derived.Test.YtbgngikejgihgafDoorLRng
import Derived.Test.YtbgngikejgihgafDoorLTrP
import Derived.Test.YtbgngikejgihgafDoorTPcB
namespace Go.Proofs.YtbgngikejgihgafDoor
open Go Go.RowKit
set_option linter.unusedVariables false

theorem itVs_lv : ∀ (Y : List It) (k : Nat) (y : It) (v : Int), Y[k]? = some y → (itVs Y).set (k * 4 + 3) (.int .i64 v) = itVs (Y.set k ⟨y.pc, v⟩)
  | [], k, y, v, h => by simp at h
  | x :: Y, 0, y, v, h => by
    simp only [List.getElem?_cons_zero, Option.some.injEq] at h
    subst h
    simp [itVs, itV]
  | x :: Y, k + 1, y, v, h => by
    simp only [List.getElem?_cons_succ] at h
    have ih := itVs_lv Y k y v h
    have e : itVs (x :: Y) = itV x ++ itVs Y := by simp [itVs]
    have e2 : itVs ((x :: Y).set (k + 1) ⟨y.pc, v⟩) = itV x ++ itVs (Y.set k ⟨y.pc, v⟩) := by simp [itVs]
    have l4 : (itV x).length = 4 := rfl
    rw [e, e2, List.set_append_right _ _ (by omega), l4, show (k + 1) * 4 + 3 - 4 = k * 4 + 3 by omega, ih]
theorem itVs_get3 : ∀ (Y : List It) (k : Nat) (y : It), Y[k]? = some y → (itVs Y)[k * 4 + 3]? = some (.int .i64 y.lv)
  | [], k, y, h => by simp at h
  | x :: Y, 0, y, h => by
    simp only [List.getElem?_cons_zero, Option.some.injEq] at h
    subst h
    simp [itVs, itV]
  | x :: Y, k + 1, y, h => by
    simp only [List.getElem?_cons_succ] at h
    have ih := itVs_get3 Y k y h
    have e : itVs (x :: Y) = itV x ++ itVs Y := by simp [itVs]
    have l4 : (itV x).length = 4 := rfl
    rw [e, List.getElem?_append_right (by omega), l4, show (k + 1) * 4 + 3 - 4 = k * 4 + 3 by omega, ih]
theorem OwI.lv {w : World} {base g cap n : Nat} {Y : List It} (h : w.ownsRow base 115 4 (.slice (some ⟨g, 0, none⟩) n cap) n (itVs Y)) {k : Nat} {y : It} (hy : Y[k]? = some y) : w.cell? ⟨g, k * 4 + 3, none⟩ = some (.int .i64 y.lv) := by
  have h3 := itVs_get3 Y k y hy
  have h4 := h.cells (g := g) rfl (k * 4 + 3) _ h3
  rw [addr_add, Nat.zero_add] at h4
  exact h4
theorem OwI.setLv {w : World} {base g cap n : Nat} {Y : List It} (h : w.ownsRow base 115 4 (.slice (some ⟨g, 0, none⟩) n cap) n (itVs Y)) {k : Nat} {y : It} (hy : Y[k]? = some y) (v : Int) : (w.setCell ⟨g, k * 4 + 3, none⟩ (.int .i64 v)).ownsRow base 115 4 (.slice (some ⟨g, 0, none⟩) n cap) n (itVs (Y.set k ⟨y.pc, v⟩)) ∧ w.grownBy (w.setCell ⟨g, k * 4 + 3, none⟩ (.int .i64 v)) (some g) := by
  have h1 := h.stored (k * 4 + 3) (.int .i64 v)
  rw [itVs_lv Y k y v hy] at h1
  exact h1
theorem set_same {Y : List It} {k : Nat} {y : It} (h : Y[k]? = some y) : Y.set k y = Y := by
  apply List.ext_getElem?
  intro i
  rw [List.getElem?_set]
  split
  · rename_i e; subst e
    split
    · exact h.symm
    · rename_i g; rw [List.getElem?_eq_none (by omega)]
  · rfl
theorem trn_self {right : Bool} {i y lo k : Nat} : trn right i y lo k k = 0 := by unfold trn; rw [if_neg (by omega)]
theorem grown_drewN (w : World) (q : Nat) (r : Option Nat) : w.grownBy (w.drewN q) r := ⟨rfl, rfl, rfl, Nat.le_refl _, fun _ _ _ => rfl⟩

set_option maxHeartbeats 4000000 in
set_option maxRecDepth 100000 in
theorem turnSR (base g cap : Nat) (X : List It) (w : World) (ho : OwI w base (.slice (some ⟨g, 0, none⟩) X.length cap) X) (hcap : X.length ≤ cap ∧ cap ≤ maxLen) (hlen : X.length ≤ 1048576) (a i h y : Nat) (e : Int) (xi xy : It) (hs : Sub X a i h e) (hxi : X[i]? = some xi) (hxy : X[y]? = some xy) (hy1 : a ≤ y) (hy2 : y < i) (hun : ∀ j, a ≤ j → j < i → ∃ x, X[j]? = some x ∧ (x.lv = e + 1 ↔ j = y)) (hlv : ∀ x ∈ X, 0 ≤ x.lv ∧ x.lv ≤ 1000000) :
    Calls Tryd.prog 133 #[.slice (some ⟨g, 0, none⟩) X.length cap, .int .i64 (i : Int), .bool true] w fun e' w' => e' = .returned (.tuple #[]) ∧ OwI w' base (.slice (some ⟨g, 0, none⟩) X.length cap) (((adj (trn true i y a h) 0 X).set y ⟨xy.pc, e⟩).set i ⟨xi.pc, e + 1⟩) ∧ w.grownBy w' (some g) := by
  have RG := hide (rangeS _ _ X w (OwI.rd ho) hlen a i h e hs)
  have hai := hs.ai
  have hih := hs.ih
  have hhl := hs.hl
  have hei : xi.lv = e := by obtain ⟨z, hz, hz2⟩ := hs.mid; rw [hxi] at hz; cases hz; exact hz2
  have heb := hlv xi (List.mem_iff_getElem?.2 ⟨i, hxi⟩)
  rw [hei] at heb
  have HUN := hide hun
  have HLV := hide hlv
  have HXI := hide hxi
  have HXY := hide hxy
  have HGT := hide (show ∀ k, k < X.length → ∃ x, X[k]? = some x from fun k hk => ⟨_, List.getElem?_eq_getElem hk⟩)
  unfold OwI at ho
  have ci := OwI.lv ho hxi
  rw [hei] at ci
  have HF := hide (show (((adj (trn true i y a h) 0 X).set y ⟨xy.pc, e⟩).set i ⟨xi.pc, e + 1⟩).length = X.length from by simp [adj_length])
  have HO := hide ho
  have hg0 := (ho.lt g rfl).2
  have HC3 := hide (fun (W : World) (k : Nat) (x : It) (hW : W.heap = w.heap) (hx : X[k]? = some x) => (show W.cell? ⟨g, k * 4 + 3, none⟩ = some (.int .i64 x.lv) from (World.cell?_of_block (w := w) (by rw [hW])).trans (OwI.lv ho hx)))
  unfold maxLen at hcap
  unfold OwI
  rw [HF.out]
  generalize hN : X.length = n at *
  clear ho hs hun hlv hxi hxy hei
  have hin : (i : Int) < (n : Int) := by omega
  go_enter Tryd.func133, Tryd.ntmps133
  go_wp2_with fail
  refine RG.out.mono ?_
  rintro e1 w1 ⟨rfl, q1, rfl⟩
  have ci1 : (w.drewN q1).cell? ⟨g, i * 4 + 3, none⟩ = some (.int .i64 e) := ci
  go_wp2_with fail
  go_loopw [11, 12] (fun yv kv wr => ∃ k yy : Nat, a ≤ k ∧ k ≤ i ∧ yv = .int .i64 yy ∧ kv = .int .i64 k ∧ (y < k → yy = y) ∧ (¬ y < k → yy = a) ∧ wr = w.drewN q1) (fun _ kv _ => i - (intOf kv).toNat)
  case atStart => exact ⟨a, a, Nat.le_refl _, by omega, by first | rfl | go_num, by first | rfl | go_num, fun h => by omega, fun _ => rfl, rfl⟩
  case round =>
    obtain ⟨k, yy, hk1, hk2, rfl, rfl, hq1, hq2, rfl⟩ := hrel
    by_cases hkt : k < i
    · obtain ⟨x, hx, hxe⟩ := HUN.out k hk1 hkt
      have cx := HC3.out (w.drewN q1) k x rfl hx
      have hb := HLV.out x (List.mem_iff_getElem?.2 ⟨k, hx⟩)
      generalize x.lv = lx at *
      have g2 : (k : Int) < (n : Int) := by omega
      have g3 : (k : Int) < (i : Int) := by omega
      clear hx
      by_cases hky : k = y
      · subst hky
        have hl := hxe.2 rfl
        subst hl
        have g4 : (e + 1 == e + 1) = true := by simp
        clear hxe hq1 hq2
        go_wp2
        go_roundw
        case rel => exact ⟨k + 1, k, by omega, by omega, rfl, by go_num, fun _ => rfl, fun h => by omega, by first | rfl | trivial⟩
        case measure => simp [intOf]; omega
      · have hl : ¬ lx = e + 1 := fun h => hky (hxe.1 h)
        have g4 : (lx == e + 1) = false := by simpa using hl
        have p1 : y < k + 1 → yy = y := fun h => hq1 (by omega)
        have p2 : ¬ y < k + 1 → yy = a := fun h => hq2 (by omega)
        clear hxe hl hq1 hq2
        go_wp2
        go_roundw
        case rel => exact ⟨k + 1, yy, by omega, by omega, rfl, by go_num, p1, p2, by first | rfl | trivial⟩
        case measure => simp [intOf]; omega
    · obtain rfl : i = k := by omega
      have hyy := hq1 hy2
      subst hyy
      have g2 : ¬ (i : Int) < (i : Int) := by omega
      clear hq1 hq2 hk1 hk2 hkt
      go_wp2_with fail
      go_loopw [13] (fun kv wr => ∃ k : Nat, a ≤ k ∧ k ≤ h ∧ kv = .int .i64 k ∧ wr.ownsRow base 115 4 (.slice (some ⟨g, 0, none⟩) n cap) n (itVs (adj (trn true i yy a k) 0 X)) ∧ w.grownBy wr (some g)) (fun kv _ => h - (intOf kv).toNat)
      case atStart => exact ⟨a, Nat.le_refl _, by omega, by first | rfl | go_num, by rw [trn_start]; exact owns_of_block HO.out (fun _ _ => rfl), grown_drewN _ _ _⟩
      case round =>
        obtain ⟨k, hk1, hk2, rfl, hown, hgr⟩ := hrel
        by_cases hkt : k < h
        · obtain ⟨x, hx⟩ := HGT.out k (by omega)
          have hyk := trn_get (right := true) (i := i) (y := yy) (lo := a) (k := k) hx
          rw [trn_self, Int.add_zero] at hyk
          have cx := OwI.lv hown hyk
          have hb := HLV.out x (List.mem_iff_getElem?.2 ⟨k, hx⟩)
          have fx : wr.frozen? ⟨g, k * 4 + 3, none⟩ = false := hown.frozenAt _
          have ST := hide (trn_step (right := true) (i := i) (y := yy) (lo := a) (k := k) hx hk1)
          have SM := hide (OwI.setLv hown hyk (x.lv - 1))
          have SP := hide (OwI.setLv hown hyk (x.lv + 1))
          have SN := hide (set_same hyk)
          have HOW := hide hown
          have HGR := hide hgr
          simp only at cx SM SP
          generalize hlx : x.lv = lx at *
          have g2 : (k : Int) < (n : Int) := by omega
          have g3 : (k : Int) < (h : Int) := by omega
          clear hx hyk hown hgr hlx
          by_cases q1 : k < yy
          · have q2 : (k : Int) < (yy : Int) := by omega
            have q3 : ¬ (i : Int) < (k : Int) := by omega
            have q4 : ¬ (yy : Int) < (k : Int) := by omega
            have q5 : (k : Int) < (i : Int) := by omega
            go_wp2
            go_roundw
            case rel => exact ⟨k + 1, by omega, by omega, by go_num, by rw [ST.out]; simp only [if_true]; rw [if_pos q1, show lx + -1 = lx - 1 by omega]; exact SM.out.1, grown_trans HGR.out SM.out.2⟩
            case measure => simp [intOf]; omega
          · by_cases q6 : i < k
            · have q2 : ¬ (k : Int) < (yy : Int) := by omega
              have q3 : (i : Int) < (k : Int) := by omega
              have q4 : (yy : Int) < (k : Int) := by omega
              have q5 : ¬ (k : Int) < (i : Int) := by omega
              go_wp2
              go_roundw
              case rel => exact ⟨k + 1, by omega, by omega, by go_num, by rw [ST.out]; simp only [if_true]; rw [if_neg q1, if_pos q6]; exact SP.out.1, grown_trans HGR.out SP.out.2⟩
              case measure => simp [intOf]; omega
            · have q2 : ¬ (k : Int) < (yy : Int) := by omega
              have q3 : ¬ (i : Int) < (k : Int) := by omega
              go_wp2
              go_roundw
              case rel => exact ⟨k + 1, by omega, by omega, by go_num, by rw [ST.out]; simp only [if_true]; rw [if_neg q1, if_neg q6, Int.add_zero]; rw [SN.out]; exact HOW.out, HGR.out⟩
              case measure => simp [intOf]; omega
        · obtain rfl : h = k := by omega
          have HGR := hide hgr
          have g2 : ¬ (h : Int) < (h : Int) := by omega
          have hyk := trn_get (right := true) (i := i) (y := yy) (lo := a) (k := h) HXY.out
          have s1 := OwI.setLv hown hyk e
          have z0 := OwI.lv hown hyk
          have f0 : wr.frozen? ⟨g, yy * 4 + 3, none⟩ = false := hown.frozenAt _
          have f1 : wr.frozen? ⟨g, i * 4 + 3, none⟩ = false := hown.frozenAt _
          have hik := trn_get (right := true) (i := i) (y := yy) (lo := a) (k := h) HXI.out
          have z1 := OwI.lv hown hik
          have hik2 : ((adj (trn true i yy a h) 0 X).set yy ⟨xy.pc, e⟩)[i]? = some ⟨xi.pc, xi.lv + trn true i yy a h i⟩ := by
            rw [List.getElem?_set, if_neg (by omega)]; exact hik
          have s2 := OwI.setLv s1.1 hik2 (e + 1)
          have O9 := hide s2.1
          have G9 := hide (grown_trans (grown_trans HGR.out s1.2) s2.2)
          have g5 : (yy : Int) < (n : Int) := by omega
          have n1 : ¬ i = yy := by omega
          have n2 : ¬ yy = i := by omega
          have n3 : ¬ i * 4 + 3 = yy * 4 + 3 := by omega
          have n4 : ¬ yy * 4 + 3 = i * 4 + 3 := by omega
          simp only at z0 z1
          generalize xy.lv + trn true i yy a h yy = b0 at *
          generalize xi.lv + trn true i yy a h i = b1 at *
          clear hown hgr hyk hik hik2 s1 s2
          go_wp2
          refine bodyPost_end (v := .tuple #[]) (by simp [results, Tryd.results133]) rfl ⟨rfl, O9.out, G9.out⟩

set_option maxHeartbeats 4000000 in
set_option maxRecDepth 100000 in
theorem turnSL (base g cap : Nat) (X : List It) (w : World) (ho : OwI w base (.slice (some ⟨g, 0, none⟩) X.length cap) X) (hcap : X.length ≤ cap ∧ cap ≤ maxLen) (hlen : X.length ≤ 1048576) (a i h y : Nat) (e : Int) (xi xy : It) (hs : Sub X a i h e) (hxi : X[i]? = some xi) (hxy : X[y]? = some xy) (hy1 : (i + 1) ≤ y) (hy2 : y < h) (hun : ∀ j, (i + 1) ≤ j → j < h → ∃ x, X[j]? = some x ∧ (x.lv = e + 1 ↔ j = y)) (hlv : ∀ x ∈ X, 0 ≤ x.lv ∧ x.lv ≤ 1000000) :
    Calls Tryd.prog 133 #[.slice (some ⟨g, 0, none⟩) X.length cap, .int .i64 (i : Int), .bool false] w fun e' w' => e' = .returned (.tuple #[]) ∧ OwI w' base (.slice (some ⟨g, 0, none⟩) X.length cap) (((adj (trn false i y a h) 0 X).set y ⟨xy.pc, e⟩).set i ⟨xi.pc, e + 1⟩) ∧ w.grownBy w' (some g) := by
  have RG := hide (rangeS _ _ X w (OwI.rd ho) hlen a i h e hs)
  have hai := hs.ai
  have hih := hs.ih
  have hhl := hs.hl
  have hei : xi.lv = e := by obtain ⟨z, hz, hz2⟩ := hs.mid; rw [hxi] at hz; cases hz; exact hz2
  have heb := hlv xi (List.mem_iff_getElem?.2 ⟨i, hxi⟩)
  rw [hei] at heb
  have HUN := hide hun
  have HLV := hide hlv
  have HXI := hide hxi
  have HXY := hide hxy
  have HGT := hide (show ∀ k, k < X.length → ∃ x, X[k]? = some x from fun k hk => ⟨_, List.getElem?_eq_getElem hk⟩)
  unfold OwI at ho
  have ci := OwI.lv ho hxi
  rw [hei] at ci
  have HF := hide (show (((adj (trn false i y a h) 0 X).set y ⟨xy.pc, e⟩).set i ⟨xi.pc, e + 1⟩).length = X.length from by simp [adj_length])
  have HO := hide ho
  have hg0 := (ho.lt g rfl).2
  have HC3 := hide (fun (W : World) (k : Nat) (x : It) (hW : W.heap = w.heap) (hx : X[k]? = some x) => (show W.cell? ⟨g, k * 4 + 3, none⟩ = some (.int .i64 x.lv) from (World.cell?_of_block (w := w) (by rw [hW])).trans (OwI.lv ho hx)))
  unfold maxLen at hcap
  unfold OwI
  rw [HF.out]
  generalize hN : X.length = n at *
  clear ho hs hun hlv hxi hxy hei
  have hin : (i : Int) < (n : Int) := by omega
  go_enter Tryd.func133, Tryd.ntmps133
  go_wp2_with fail
  refine RG.out.mono ?_
  rintro e1 w1 ⟨rfl, q1, rfl⟩
  have ci1 : (w.drewN q1).cell? ⟨g, i * 4 + 3, none⟩ = some (.int .i64 e) := ci
  go_wp2_with fail
  go_loopw [11, 12] (fun yv kv wr => ∃ k yy : Nat, (i + 1) ≤ k ∧ k ≤ h ∧ yv = .int .i64 yy ∧ kv = .int .i64 k ∧ (y < k → yy = y) ∧ (¬ y < k → yy = (i + 1)) ∧ wr = w.drewN q1) (fun _ kv _ => h - (intOf kv).toNat)
  case atStart => exact ⟨(i + 1), (i + 1), Nat.le_refl _, by omega, by first | rfl | go_num, by first | rfl | go_num, fun h => by omega, fun _ => rfl, rfl⟩
  case round =>
    obtain ⟨k, yy, hk1, hk2, rfl, rfl, hq1, hq2, rfl⟩ := hrel
    by_cases hkt : k < h
    · obtain ⟨x, hx, hxe⟩ := HUN.out k hk1 hkt
      have cx := HC3.out (w.drewN q1) k x rfl hx
      have hb := HLV.out x (List.mem_iff_getElem?.2 ⟨k, hx⟩)
      generalize x.lv = lx at *
      have g2 : (k : Int) < (n : Int) := by omega
      have g3 : (k : Int) < (h : Int) := by omega
      clear hx
      by_cases hky : k = y
      · subst hky
        have hl := hxe.2 rfl
        subst hl
        have g4 : (e + 1 == e + 1) = true := by simp
        clear hxe hq1 hq2
        go_wp2
        go_roundw
        case rel => exact ⟨k + 1, k, by omega, by omega, rfl, by go_num, fun _ => rfl, fun h => by omega, by first | rfl | trivial⟩
        case measure => simp [intOf]; omega
      · have hl : ¬ lx = e + 1 := fun h => hky (hxe.1 h)
        have g4 : (lx == e + 1) = false := by simpa using hl
        have p1 : y < k + 1 → yy = y := fun h => hq1 (by omega)
        have p2 : ¬ y < k + 1 → yy = (i + 1) := fun h => hq2 (by omega)
        clear hxe hl hq1 hq2
        go_wp2
        go_roundw
        case rel => exact ⟨k + 1, yy, by omega, by omega, rfl, by go_num, p1, p2, by first | rfl | trivial⟩
        case measure => simp [intOf]; omega
    · obtain rfl : h = k := by omega
      have hyy := hq1 hy2
      subst hyy
      have g2 : ¬ (h : Int) < (h : Int) := by omega
      clear hq1 hq2 hk1 hk2 hkt
      go_wp2_with fail
      go_loopw [13] (fun kv wr => ∃ k : Nat, a ≤ k ∧ k ≤ h ∧ kv = .int .i64 k ∧ wr.ownsRow base 115 4 (.slice (some ⟨g, 0, none⟩) n cap) n (itVs (adj (trn false i yy a k) 0 X)) ∧ w.grownBy wr (some g)) (fun kv _ => h - (intOf kv).toNat)
      case atStart => exact ⟨a, Nat.le_refl _, by omega, by first | rfl | go_num, by rw [trn_start]; exact owns_of_block HO.out (fun _ _ => rfl), grown_drewN _ _ _⟩
      case round =>
        obtain ⟨k, hk1, hk2, rfl, hown, hgr⟩ := hrel
        by_cases hkt : k < h
        · obtain ⟨x, hx⟩ := HGT.out k (by omega)
          have hyk := trn_get (right := false) (i := i) (y := yy) (lo := a) (k := k) hx
          rw [trn_self, Int.add_zero] at hyk
          have cx := OwI.lv hown hyk
          have hb := HLV.out x (List.mem_iff_getElem?.2 ⟨k, hx⟩)
          have fx : wr.frozen? ⟨g, k * 4 + 3, none⟩ = false := hown.frozenAt _
          have ST := hide (trn_step (right := false) (i := i) (y := yy) (lo := a) (k := k) hx hk1)
          have SM := hide (OwI.setLv hown hyk (x.lv - 1))
          have SP := hide (OwI.setLv hown hyk (x.lv + 1))
          have SN := hide (set_same hyk)
          have HOW := hide hown
          have HGR := hide hgr
          simp only at cx SM SP
          generalize hlx : x.lv = lx at *
          have g2 : (k : Int) < (n : Int) := by omega
          have g3 : (k : Int) < (h : Int) := by omega
          clear hx hyk hown hgr hlx
          by_cases q1 : yy < k
          · have q2 : (yy : Int) < (k : Int) := by omega
            have q3 : ¬ (k : Int) < (i : Int) := by omega
            go_wp2
            go_roundw
            case rel => exact ⟨k + 1, by omega, by omega, by go_num, by rw [ST.out]; simp only [Bool.false_eq_true, if_false]; rw [if_pos q1, show lx + -1 = lx - 1 by omega]; exact SM.out.1, grown_trans HGR.out SM.out.2⟩
            case measure => simp [intOf]; omega
          · by_cases q6 : k < i
            · have q2 : ¬ (yy : Int) < (k : Int) := by omega
              have q3 : (k : Int) < (i : Int) := by omega
              go_wp2
              go_roundw
              case rel => exact ⟨k + 1, by omega, by omega, by go_num, by rw [ST.out]; simp only [Bool.false_eq_true, if_false]; rw [if_neg q1, if_pos q6]; exact SP.out.1, grown_trans HGR.out SP.out.2⟩
              case measure => simp [intOf]; omega
            · have q2 : ¬ (yy : Int) < (k : Int) := by omega
              have q3 : ¬ (k : Int) < (i : Int) := by omega
              go_wp2
              go_roundw
              case rel => exact ⟨k + 1, by omega, by omega, by go_num, by rw [ST.out]; simp only [Bool.false_eq_true, if_false]; rw [if_neg q1, if_neg q6, Int.add_zero]; rw [SN.out]; exact HOW.out, HGR.out⟩
              case measure => simp [intOf]; omega
        · obtain rfl : h = k := by omega
          have HGR := hide hgr
          have g2 : ¬ (h : Int) < (h : Int) := by omega
          have hyk := trn_get (right := false) (i := i) (y := yy) (lo := a) (k := h) HXY.out
          have s1 := OwI.setLv hown hyk e
          have z0 := OwI.lv hown hyk
          have f0 : wr.frozen? ⟨g, yy * 4 + 3, none⟩ = false := hown.frozenAt _
          have f1 : wr.frozen? ⟨g, i * 4 + 3, none⟩ = false := hown.frozenAt _
          have hik := trn_get (right := false) (i := i) (y := yy) (lo := a) (k := h) HXI.out
          have z1 := OwI.lv hown hik
          have hik2 : ((adj (trn false i yy a h) 0 X).set yy ⟨xy.pc, e⟩)[i]? = some ⟨xi.pc, xi.lv + trn false i yy a h i⟩ := by
            rw [List.getElem?_set, if_neg (by omega)]; exact hik
          have s2 := OwI.setLv s1.1 hik2 (e + 1)
          have O9 := hide s2.1
          have G9 := hide (grown_trans (grown_trans HGR.out s1.2) s2.2)
          have g5 : (yy : Int) < (n : Int) := by omega
          have n1 : ¬ i = yy := by omega
          have n2 : ¬ yy = i := by omega
          have n3 : ¬ i * 4 + 3 = yy * 4 + 3 := by omega
          have n4 : ¬ yy * 4 + 3 = i * 4 + 3 := by omega
          simp only at z0 z1
          generalize xy.lv + trn false i yy a h yy = b0 at *
          generalize xi.lv + trn false i yy a h i = b1 at *
          clear hown hgr hyk hik hik2 s1 s2
          go_wp2
          refine bodyPost_end (v := .tuple #[]) (by simp [results, Tryd.results133]) rfl ⟨rfl, O9.out, G9.out⟩
end Go.Proofs.YtbgngikejgihgafDoor
