import Derived.Test.YtbgngikejgihgagGreatDoorMq07
import Derived.Test.YtbgngikejgihgagGreatDoorMq05
import Derived.Deep.QuietTactic
import Derived.BigQuiet
import Derived.WalkLawsBesides
import Derived.Laws.AppendOwnNone
import Derived.WalkKit
import Derived.Test.YtbgngikejgihgagGreatDoorMq03
namespace Go.Proofs.YtbgngikejgihgagGreatDoor
open Go Go.RowKit
set_option linter.unusedVariables false

/-- A row of runes that lies in a block. -/
def At32 (w : World) (b o : Nat) (zs : List Int) : Prop := ∀ i, i < zs.length → w.cell? ⟨b, o + i, none⟩ = some (.int .i32 (zs.getD i 0))
theorem At32.below {B : Nat} {w w' : World} {b o : Nat} {zs : List Int} (h : At32 w b o zs) (hb : Below B w w') (hB : b < B) : At32 w' b o zs := fun i hi => (hb.cell (p := ⟨b, o + i, none⟩) hB).trans (h i hi)
theorem At32.heap {w w' : World} {b o : Nat} {zs : List Int} (h : At32 w b o zs) (hb : w'.heap = w.heap) : At32 w' b o zs := fun i hi => by rw [World.cell?_of_block (w := w) (by rw [hb])]; exact h i hi
theorem wps_at {zs : List Int} {xs : List It} {j : Nat} {x : It} (hx : xs[j]? = some x) (h : wpB zs x.pc = false) : wps zs xs = false := by
  cases hh : wps zs xs with
  | false => rfl
  | true => have := List.all_eq_true.1 hh x (List.mem_iff_getElem?.2 ⟨j, hx⟩); rw [h] at this; cases this

set_option maxHeartbeats 2000000 in
set_option maxRecDepth 100000 in
theorem pvalidS (B : Nat) (zs : List Int) (b o cap : Nat) (v : Value) (xs : List It) (w : World) (hc : At32 w b o zs) (hb : b < w.heap.size) (hz : zs.length ≤ 1048576) (hcap : zs.length ≤ cap) (hm : cap ≤ maxLen) (hr : RdI B w v xs) (hB : B ≤ w.heap.size) (hn : xs.length ≤ 1048576) :
    Calls Tryz.prog 38 #[.agg #[.slice (some ⟨b, o, none⟩) zs.length cap, v]] w fun e w' => e = .returned (.bool (pRead zs xs).isSome) ∧ Below w.heap.size w w' := by
  obtain ⟨ao, cap', rfl⟩ := hr.val
  have HX := hide (pRead_isSome zs xs)
  generalize (pRead zs xs).isSome = res at HX ⊢
  have HB0 := hide ((Below.refl w.heap.size w).alloc (Nat.le_refl _) (.cells #[.slice (some ⟨b, o, none⟩) zs.length cap, .slice ao xs.length cap'] 69))
  have HR0 := hide (hr.below HB0.out hB)
  have HC0 := hide (hc.below HB0.out hb)
  have hs0 : (w.alloc (.cells #[.slice (some ⟨b, o, none⟩) zs.length cap, .slice ao xs.length cap'] 69)).heap.size = w.heap.size + 1 := by simp
  have hk0 : (w.alloc (.cells #[.slice (some ⟨b, o, none⟩) zs.length cap, .slice ao xs.length cap'] 69)).heap[w.heap.size]? = some (.cells #[.slice (some ⟨b, o, none⟩) zs.length cap, .slice ao xs.length cap'] 69 (0, 0)) := heap_alloc_new _ _
  have HV := hide (validS B _ xs _ HR0.out (by omega) hn)
  have hZ : (zs.length : Int) ≤ 1048576 := by omega
  clear hc
  by_cases hbig : zs.length > 220000
  · have hbig' : (zs.length : Int) > 220000 := by omega
    clear hr
    go_enter Tryz.func38, Tryz.ntmps38
    go_wp2
    go_ret
    exact ⟨by rw [HX.out, decide_eq_false (by omega)]; rfl, HB0.out⟩
  have hbig' : ¬ (zs.length : Int) > 220000 := by omega
  rw [decide_eq_true (show zs.length ≤ 220000 by omega), Bool.true_and] at HX
  have hcell : ∀ j, j < xs.length → ∃ b off x, ao = some ⟨b, off, none⟩ ∧ b < B ∧ xs[j]? = some x ∧ ItAt w b (off + j * 4) x := by
    intro j hj
    obtain ⟨b, off, cap', e, _, hb, hc⟩ := hr.at (by intro e; subst e; simp at hj)
    cases e
    obtain ⟨x, h1, h2⟩ := itAt_of (B := B) (cap := cap) hc hj
    exact ⟨b, off, x, rfl, hb, h1, h2⟩
  have HC := hide hcell
  have hcapx : xs.length ≤ cap' ∧ cap' ≤ maxLen ∨ xs.length = 0 := by
    rcases hr with ⟨_, _, e, rfl⟩ | ⟨_, _, _, e, hp, _⟩
    · right; rfl
    · cases e; left; exact ⟨hp.2.1, hp.2.2⟩
  unfold maxLen at hcapx hm
  have HPCS : Hid (okT xs = true → Pcs xs) := hide fun h => (okT_pcs h).1
  generalize hN : xs.length = n at *
  generalize hNZ : zs.length = nz at *
  clear hr hcell
  cases hok : okT xs with
  | false =>
    rw [hok] at HV HX
    clear hok
    go_enter Tryz.func38, Tryz.ntmps38
    go_wp2_with fail
    generalize w.alloc (.cells #[.slice (some ⟨b, o, none⟩) nz cap, .slice ao n cap'] 69) = w0 at *
    refine HV.out.mono ?_
    rintro e w1 ⟨rfl, hb1⟩
    have HB1 := hide (HB0.out.trans (hb1.mono (by omega)))
    clear hb1
    go_wp2
    go_ret
    exact ⟨by rw [HX.out]; rfl, HB1.out⟩
  | true =>
    have HP := hide (HPCS.out hok)
    rw [hok] at HV HX
    rw [Bool.true_and] at HX
    clear hok HPCS
    go_enter Tryz.func38, Tryz.ntmps38
    go_wp2_with fail
    generalize w.alloc (.cells #[.slice (some ⟨b, o, none⟩) nz cap, .slice ao n cap'] 69) = w0 at *
    refine HV.out.mono ?_
    rintro e w1 ⟨rfl, hb1⟩
    have HB1 := hide (HB0.out.trans (hb1.mono (by omega)))
    have hs1 := hb1.size
    have hk1 := (hb1.block w.heap.size (by omega)).trans hk0
    have HC1 := hide (HC0.out.below hb1 (by omega))
    have c0 : w1.cell? ⟨w.heap.size, 0, none⟩ = some (.slice (some ⟨b, o, none⟩) nz cap) := by rw [cell_of_row w1 _ 0 _ _ _ hk1]; rfl
    have c1 : w1.cell? ⟨w.heap.size, 1, none⟩ = some (.slice ao n cap') := by rw [cell_of_row w1 _ 1 _ _ _ hk1]; rfl
    have HK1 := hide hk1
    clear hb1 hk1 hk0 HC0 HR0 HV
    go_wp2_with fail
    go_loopw [19] (fun i wr => ∃ j : Nat, j ≤ n ∧ i = .int .i64 j ∧ wps zs (xs.take j) = true ∧ Below w1.heap.size w1 wr) (fun i _ => n - (intOf i).toNat)
    case atStart => exact ⟨0, Nat.zero_le _, rfl, rfl, Below.refl _ _⟩
    case round =>
      obtain ⟨j, hj, rfl, hpj, hbw⟩ := hrel
      have HPJ := hide hpj
      have HBW := hide hbw
      have hsw := hbw.size
      clear hbw hpj c0 c1
      by_cases hjn : j < n
      · obtain ⟨b', off, x, rfl, hb', hx, a0, a1, a2, a3⟩ := HC.out j hjn
        have hjn' : (j : Int) < n := by omega
        have hx' := hide hx
        have hpx := HP.out x (List.mem_iff_getElem?.2 ⟨j, hx⟩)
        simp only [pcOk, decide_eq_true_eq] at hpx
        have hBw := (HB1.out.trans (HBW.out.mono (by omega)))
        have hbw2 : b' < w.heap.size := by omega
        have e0 := (hBw.cell (p := ⟨b', off + j * 4, none⟩) hbw2).trans a0
        have e1 := (hBw.cell (p := ⟨b', off + j * 4 + 1, none⟩) hbw2).trans a1
        have e2 := (hBw.cell (p := ⟨b', off + j * 4 + 2, none⟩) hbw2).trans a2
        have e3 := (hBw.cell (p := ⟨b', off + j * 4 + 3, none⟩) hbw2).trans a3
        have hbr : b' < wr.heap.size := by omega
        have HBA := hide (HBW.out.alloc hsw (.cells #[.int .i64 x.pc.off, .int .i64 x.pc.len, .int .i64 x.pc.brk, .int .i64 x.lv] 145))
        have KA : (wr.alloc (.cells #[.int .i64 x.pc.off, .int .i64 x.pc.len, .int .i64 x.pc.brk, .int .i64 x.lv] 145)).heap[wr.heap.size]? = some (.cells #[.int .i64 x.pc.off, .int .i64 x.pc.len, .int .i64 x.pc.brk, .int .i64 x.lv] 145 (0, 0)) := heap_alloc_new _ _
        have d0 : (wr.alloc (.cells #[.int .i64 x.pc.off, .int .i64 x.pc.len, .int .i64 x.pc.brk, .int .i64 x.lv] 145)).cell? ⟨wr.heap.size, 0, none⟩ = some (.int .i64 x.pc.off) := by rw [cell_of_row _ _ 0 _ _ _ KA]; rfl
        have d1 : (wr.alloc (.cells #[.int .i64 x.pc.off, .int .i64 x.pc.len, .int .i64 x.pc.brk, .int .i64 x.lv] 145)).cell? ⟨wr.heap.size, 1, none⟩ = some (.int .i64 x.pc.len) := by rw [cell_of_row _ _ 1 _ _ _ KA]; rfl
        have d2 : (wr.alloc (.cells #[.int .i64 x.pc.off, .int .i64 x.pc.len, .int .i64 x.pc.brk, .int .i64 x.lv] 145)).cell? ⟨wr.heap.size, 2, none⟩ = some (.int .i64 x.pc.brk) := by rw [cell_of_row _ _ 2 _ _ _ KA]; rfl
        have c0 : (wr.alloc (.cells #[.int .i64 x.pc.off, .int .i64 x.pc.len, .int .i64 x.pc.brk, .int .i64 x.lv] 145)).cell? ⟨w.heap.size, 0, none⟩ = some (.slice (some ⟨b, o, none⟩) nz cap) := by rw [HBA.out.cell (p := ⟨w.heap.size, 0, none⟩) (by show w.heap.size < w1.heap.size; omega), cell_of_row w1 _ 0 _ _ _ HK1.out]; rfl
        have HCA := hide (HC1.out.below HBA.out (by omega))
        have hsa : (wr.alloc (.cells #[.int .i64 x.pc.off, .int .i64 x.pc.len, .int .i64 x.pc.brk, .int .i64 x.lv] 145)).heap.size = wr.heap.size + 1 := by simp
        have hlw : w.heap.size < wr.heap.size := by omega
        clear a0 a1 a2 a3 hx hBw KA
        obtain ⟨⟨po, pl, pb⟩, lv⟩ := x
        simp only at *
        by_cases hfit : po + pl > (nz : Int)
        · have HE := hide (show res = false by rw [HX.out]; exact wps_at hx'.out (by simp only [wpB, Bool.and_eq_false_iff, decide_eq_false_iff_not, hNZ]; left; omega))
          go_wp2
          go_ret
          exact ⟨by rw [HE.out]; rfl, HB1.out.trans (HBA.out.mono (by omega))⟩
        · have g1 : po ≤ po + pl := by omega
          have g2 : po + pl ≤ (cap : Int) := by omega
          have g3 : ¬ cap = po.toNat := by omega
          have g4 : (0 : Int) ≤ po + pl := by omega
          obtain ⟨q, rfl⟩ : ∃ q : Nat, po = q := ⟨po.toNat, by omega⟩
          obtain ⟨l, rfl⟩ : ∃ l : Nat, pl = l := ⟨pl.toNat, by omega⟩
          simp only [Int.toNat_natCast] at g3
          have HBR : Hid (∀ m : Nat, Calls Tryz.prog 92 #[.slice (some ⟨b, o + q, none⟩) l (cap - q)] ((wr.alloc (.cells #[.int .i64 (q : Int), .int .i64 (l : Int), .int .i64 pb, .int .i64 lv] 145)).drewN m) fun e w' => e = .returned (.int .i64 (brk ((zs.drop q).take l))) ∧ w' = (wr.alloc (.cells #[.int .i64 (q : Int), .int .i64 (l : Int), .int .i64 pb, .int .i64 lv] 145)).drewN m) := hide fun m =>
            specBreaks _ _ _ (rd_cut (zs := zs) (fun i hi => (World.cell?_of_block (w := wr.alloc (.cells #[.int .i64 (q : Int), .int .i64 (l : Int), .int .i64 pb, .int .i64 lv] 145)) (by simp)).trans (HCA.out i hi)) q l (by omega) (by omega) (by omega) (by unfold maxLen; omega)) (by rw [List.length_take, List.length_drop]; omega)
          have HW : Hid (wpB zs ⟨(q : Int), (l : Int), pb⟩ = decide (pb = brk ((zs.drop q).take l))) := hide (by
            unfold wpB ptx
            rw [decide_eq_true (by rw [hNZ]; exact Int.not_lt.1 hfit), Bool.true_and]
            rfl)
          generalize brk ((zs.drop q).take l) = br at *
          go_wp2_with fail
          generalize wr.alloc (.cells #[.int .i64 (q : Int), .int .i64 (l : Int), .int .i64 pb, .int .i64 lv] 145) = wa at *
          go_quiet ((go_at_call 92; exact Calls.quiet_of_same (HBR.out _)))
          have HBN := hide (show Below w1.heap.size w1 (wa.drewN nq) from HBA.out.trans (below_dn2 _ _ _))
          by_cases hq : pb = br
          · have HPS := hide (show wps zs (xs.take (j + 1)) = true by rw [take_succ_of hx'.out, wps_snoc, HPJ.out, HW.out, decide_eq_true hq]; rfl)
            subst hq
            go_wp2
            go_roundw
            case rel => exact ⟨j + 1, by omega, by go_num, HPS.out, HBN.out⟩
            case measure => simp [intOf]; omega
          · have HE := hide (show res = false by rw [HX.out]; exact wps_at hx'.out (by rw [HW.out]; exact decide_eq_false hq))
            go_wp2
            go_ret
            exact ⟨by rw [HE.out]; rfl, HB1.out.trans (HBN.out.mono (by omega))⟩
      · have hjn2 : j = n := by omega
        subst hjn2
        have hge : ¬ (j : Int) < (j : Int) := by omega
        have HE := hide (show res = true by rw [HX.out]; have := HPJ.out; rw [List.take_of_length_le (by omega)] at this; exact this)
        go_wp2
        go_ret
        exact ⟨by rw [HE.out]; rfl, HB1.out.trans (HBW.out.mono (by omega))⟩
end Go.Proofs.YtbgngikejgihgagGreatDoor

namespace Go.Proofs.YtbgngikejgihgagGreatDoor
open Go Go.RowKit
set_option linter.unusedVariables false

def own32 (w : World) (base : Nat) (v : Value) (zs : List Int) : Prop := w.ownsRow base 21 1 v zs.length (ints .i32 zs)
theorem Tryz.info32T : (Tryz.prog.info? 21).map (fun i => (i.zero, i.size, i.bytes)) = some (some (.int .i32 0), 1, 4) := by kernel_rfl
theorem own32_new (w : World) : own32 (w.alloc (.cells #[] 21)) w.heap.size (.slice (some ⟨w.heap.size, 0, none⟩) 0 0) [] := by
  have := World.ownsRow_made (base := w.heap.size) (e := 21) (size := 1) w #[] 0 (by simp) (Nat.zero_le _) rfl
  simpa [own32, ints] using this
theorem own32_app {W : World} {base : Nat} {v : Value} {E F : List Int} {n m : Nat} (hn : E.length = n) (hm : F.length = m) (h : W.ownsRow base 21 1 v (n + m) (ints .i32 E ++ ints .i32 F)) : own32 W base v (E ++ F) := by
  unfold own32
  rw [List.length_append, hn, hm, ints_append]
  exact h
theorem own32_val {w : World} {base : Nat} {v : Value} {zs : List Int} (h : own32 w base v zs) : ∃ ao cap, v = .slice ao zs.length cap := by
  rcases h.2 with ⟨rfl, h0⟩ | ⟨g, cap, cur, rfl, _⟩
  · exact ⟨none, 0, by rw [h0]⟩
  · exact ⟨_, _, rfl⟩
theorem At32.app {w : World} {b o : Nat} {zs : List Int} (h : At32 w b o zs) (p l : Nat) (hp : p + l ≤ zs.length) : ∀ j u, (ints .i32 ((zs.drop p).take l))[j]? = some u → w.cell? ((⟨b, o + p, none⟩ : Addr).add j) = some u := by
  intro j u hj
  have hjl : j < l := by
    rcases Nat.lt_or_ge j l with q | q
    · exact q
    · rw [List.getElem?_eq_none (by simp [ints]; omega)] at hj; cases hj
  have e : ((zs.drop p).take l)[j]? = some (zs.getD (p + j) 0) := by
    rw [List.getElem?_take, if_pos hjl, List.getElem?_drop]
    simp [List.getD_eq_getElem?_getD, List.getElem?_eq_getElem (show p + j < zs.length by omega)]
  simp only [ints, List.getElem?_map, e, Option.map_some, Option.some.injEq] at hj
  subst hj
  have h9 := h (p + j) (by omega)
  rw [← Nat.add_assoc] at h9
  rw [addr_add]
  exact h9

theorem own32_at {w : World} {base g cap : Nat} {zs : List Int} (h : own32 w base (.slice (some ⟨g, 0, none⟩) zs.length cap) zs) : At32 w g 0 zs := by
  intro i hi
  have := h.cellAt i (by omega)
  rw [Nat.zero_add, this]
  simp [ints, List.getElem?_eq_getElem hi]
theorem own32_lt {w : World} {base g cap : Nat} {zs : List Int} (h : own32 w base (.slice (some ⟨g, 0, none⟩) zs.length cap) zs) : g < w.heap.size := (h.lt g rfl).2
end Go.Proofs.YtbgngikejgihgagGreatDoor

namespace Go.Proofs.YtbgngikejgihgagGreatDoor
open Go Go.RowKit
set_option linter.unusedVariables false

/-- Another element at a rank. -/
def AT.put : AT → Nat → Pc → AT
  | .nil, _, _ => .nil
  | .node l p r, k, e => if k < l.its then .node (l.put k e) p r else if l.its < k then .node l p (r.put (k - l.its - 1) e) else .node l e r

theorem AT.put_its : ∀ (T : AT) (k : Nat) (e : Pc), (T.put k e).its = T.its
  | .nil, _, _ => rfl
  | .node l p r, k, e => by
    have h1 := AT.put_its l k e
    have h2 := AT.put_its r (k - l.its - 1) e
    unfold AT.put
    split
    · simp only [AT.its, h1]
    · split <;> simp only [AT.its, h2]
theorem AT.put_ht : ∀ (T : AT) (k : Nat) (e : Pc), (T.put k e).ht = T.ht
  | .nil, _, _ => rfl
  | .node l p r, k, e => by
    have h1 := AT.put_ht l k e
    have h2 := AT.put_ht r (k - l.its - 1) e
    unfold AT.put
    split
    · simp only [AT.ht, h1]
    · split <;> simp only [AT.ht, h2]
theorem AT.put_bal : ∀ (T : AT) (k : Nat) (e : Pc), T.bal → (T.put k e).bal
  | .nil, _, _, _ => trivial
  | .node l p r, k, e, h => by
    have e1 := AT.put_ht l k e
    have e2 := AT.put_ht r (k - l.its - 1) e
    unfold AT.put
    split
    · have h1 := AT.put_bal l k e
      simp only [AT.bal, e1] at h ⊢
      exact ⟨h1 h.1, h.2⟩
    · split
      · have h2 := AT.put_bal r (k - l.its - 1) e
        simp only [AT.bal, e2] at h ⊢
        exact ⟨h.1, h2 h.2.1, h.2.2⟩
      · simpa only [AT.bal] using h
theorem AT.put_told : ∀ (T : AT) (k : Nat) (e : Pc) (d : Int) (y : It), (T.told d)[k]? = some y → (T.put k e).told d = (T.told d).set k ⟨e, y.lv⟩
  | .nil, k, e, d, y, h => by simp [AT.told] at h
  | .node l p r, k, e, d, y, h => by
    have hl := AT.told_length l (d + 1)
    unfold AT.put
    split
    · rename_i hk
      simp only [AT.told] at h ⊢
      rw [List.getElem?_append_left (by omega)] at h
      rw [AT.put_told l k e (d + 1) y h, List.set_append_left _ _ (by omega)]
    · rename_i hk
      split
      · rename_i hk2
        simp only [AT.told] at h ⊢
        rw [List.getElem?_append_right (by omega), hl, show k - l.its = (k - l.its - 1) + 1 by omega, List.getElem?_cons_succ] at h
        obtain ⟨j, hj⟩ : ∃ j, k = l.its + 1 + j := ⟨k - l.its - 1, by omega⟩
        subst hj
        rw [show l.its + 1 + j - l.its - 1 = j by omega] at h ⊢
        rw [AT.put_told r j e (d + 1) y h, List.set_append_right _ _ (by omega), hl, show l.its + 1 + j - l.its = j + 1 by omega, List.set_cons_succ]
      · rename_i hk2
        obtain rfl : k = l.its := by omega
        simp only [AT.told] at h ⊢
        rw [List.getElem?_append_right (by omega), hl, Nat.sub_self, List.getElem?_cons_zero] at h
        cases h
        rw [List.set_append_right _ _ (by omega), hl, Nat.sub_self, List.set_cons_zero]
theorem AT.put_flat (T : AT) (k : Nat) (e : Pc) (h : k < T.its) : (T.put k e).flat = T.flat.set k e := by
  have tp : ∀ (T : AT) (d : Int), (T.told d).map It.pc = T.flat := by
    intro T
    induction T with
    | nil => intro d; rfl
    | node l p r h1 h2 => intro d; simp only [AT.told, List.map_append, List.map_cons, AT.flat, h1, h2]
  have hl := AT.told_length T 0
  obtain ⟨y, hy⟩ : ∃ y, (T.told 0)[k]? = some y := ⟨(T.told 0)[k]'(by omega), List.getElem?_eq_getElem (by omega)⟩
  rw [← tp (T.put k e) 0, AT.put_told T k e 0 y hy, ← tp T 0, List.map_set]

/-- The rank of the first piece that starts at an offset or behind it. -/
def rankL : List It → Int → Nat
  | [], _ => 0
  | x :: xs, off => if off ≤ 0 then 0 else 1 + rankL xs (off - x.pc.len)
theorem rankL_low (xs : List It) (off : Int) (h : off ≤ 0) : rankL xs off = 0 := by
  cases xs with
  | nil => rfl
  | cons x xs => simp [rankL, h]
theorem rankL_find : ∀ (xs : List It) (k : Int) (r : Nat) (i l b : Int), (∀ x ∈ xs, 1 ≤ x.pc.len) → 0 ≤ k → findL (fun p => p.len) xs k = some (r, i, l, b) → rankL xs k = r + (if i = 0 then 0 else 1) ∧ 0 ≤ i
  | [], k, r, i, l, b, _, _, h => by simp [findL] at h
  | x :: xs, k, r, i, l, b, hp, h0, h => by
    have hx := hp x (by simp)
    unfold findL at h
    split at h
    · rename_i hk
      simp only [Option.some.injEq, Prod.mk.injEq] at h
      obtain ⟨rfl, rfl, _, _⟩ := h
      refine ⟨?_, h0⟩
      unfold rankL
      split
      · rename_i hc
        rw [if_pos (by omega)]
      · rename_i hc
        rw [rankL_low xs _ (by omega), if_neg (by omega)]
    · rename_i hk
      split at h
      · cases h
      · rename_i r' i' l' b' hf
        simp only [Option.some.injEq, Prod.mk.injEq] at h
        obtain ⟨rfl, rfl, rfl, rfl⟩ := h
        obtain ⟨h1, h2⟩ := rankL_find xs (k - x.pc.len) r' i' l' b' (fun y hy => hp y (by simp [hy])) (by omega) hf
        refine ⟨?_, h2⟩
        unfold rankL
        rw [if_neg (by omega), h1]
        omega
theorem rankL_all : ∀ (xs : List It), (∀ x ∈ xs, 1 ≤ x.pc.len) → rankL xs (total xs) = xs.length
  | [], _ => rfl
  | x :: xs, hp => by
    have hx := hp x (by simp)
    have h0 : 0 ≤ total xs := by
      have hp' : ∀ y ∈ xs, 1 ≤ y.pc.len := fun y hy => hp y (by simp [hy])
      clear hp
      induction xs with
      | nil => simp [total]
      | cons y xs ih => simp only [total]; have := hp' y (by simp); have := ih (fun z hz => hp' z (by simp [hz])); omega
    have ih := rankL_all xs (fun y hy => hp y (by simp [hy]))
    have et : total (x :: xs) = x.pc.len + total xs := rfl
    rw [et]
    unfold rankL
    rw [if_neg (by omega), show x.pc.len + total xs - x.pc.len = total xs by omega, ih, List.length_cons]
    omega
/-- The search by runes at the end. -/
theorem seek_end : ∀ (T : AT), (∀ x ∈ T.told 0, 0 ≤ x.pc.len) → (seekT (fun p => p.len) T T.rns).1 = T.its ∧ (seekT (fun p => p.len) T T.rns).2.2.2.1 = 0 := by
  have gen : ∀ (T : AT) (d : Int), (∀ x ∈ T.told d, 0 ≤ x.pc.len) → (seekT (fun p => p.len) T T.rns).1 = T.its ∧ (seekT (fun p => p.len) T T.rns).2.2.2.1 = 0 := by
    intro T
    induction T with
    | nil => intro d _; exact ⟨rfl, rfl⟩
    | node l p r ihl ihr =>
      intro d h
      have e0 : sumM (fun p => p.len) (l.told 0) = l.rns := by rw [sumM_len, AT.rns_told]
      have hp : 0 ≤ p.len := h ⟨p, d⟩ (by simp [AT.told])
      have hr := ihr (d + 1) (fun x hx => h x (by simp [AT.told, hx]))
      have nn : ∀ xs : List It, (∀ x ∈ xs, 0 ≤ x.pc.len) → 0 ≤ total xs := by
        intro xs
        induction xs with
        | nil => intro _; simp [total]
        | cons y ys ih => intro hy; simp only [total]; have := hy y (by simp); have := ih (fun z hz => hy z (by simp [hz])); omega
      have n2 : 0 ≤ r.rns := by rw [← AT.rns_told r (d + 1)]; exact nn _ (fun x hx => h x (by simp [AT.told, hx]))
      have ern : (AT.node l p r).rns = l.rns + p.len + r.rns := rfl
      simp only [seekT, e0]
      rw [if_neg (by omega), if_neg (by omega), show (AT.node l p r).rns - l.rns - p.len = r.rns by omega]
      simp only [AT.its]
      exact ⟨by rw [hr.1]; omega, hr.2⟩
  exact fun T h => gen T 0 h
/-- The rank by counting is the search's. -/
theorem rank_seek (T : AT) (off : Int) (hp : ∀ x ∈ T.told 0, 1 ≤ x.pc.len) (h0 : 0 ≤ off) (h1 : off ≤ T.rns) :
    rankL (T.told 0) off = (seekT (fun p => p.len) T off).1 + (if (seekT (fun p => p.len) T off).2.2.2.1 = 0 then 0 else 1) := by
  by_cases he : off = T.rns
  · subst he
    obtain ⟨e1, e2⟩ := seek_end T (fun x hx => by have := hp x hx; omega)
    rw [e1, e2, if_pos rfl, ← AT.rns_told T 0, rankL_all _ hp, AT.told_length]
    rfl
  · have hs : sumM (fun p => p.len) (T.told 0) = T.rns := by rw [sumM_len, AT.rns_told]
    have hf := seek_find (fun p => p.len) T 0 off h0 (by omega) (fun x hx => by have := hp x hx; omega)
    exact (rankL_find _ _ _ _ _ _ hp h0 hf).1
end Go.Proofs.YtbgngikejgihgagGreatDoor
