import Derived.Test.YtbgngikejgihgahGreatDoorMq06
import Derived.Test.YtbgngikejgihgahGreatDoorMq07
import Derived.Test.YtbgngikejgihgahGreatDoorMq14
import Derived.Deep.QuietTactic
import Derived.BigQuiet
import Derived.WalkLawsBesides
import Derived.Laws.AppendOwnNone
import Derived.RangeFuncNested
import Derived.RangeFuncBox
import Derived.RangeFuncBound
import Derived.RangeFuncLeaves
import Derived.Shelf.Abstract
import Derived.WalkKit
import Derived.OwnWalkIn
import Derived.TacticsInMore
import Derived.LoopNIn
import Derived.LoopIn
import Derived.Test.YtbgngikejgihgahGreatDoorMq04
namespace Go.Proofs.YtbgngikejgihgahGreatDoor
open Go Go.RowKit
set_option linter.unusedVariables false

/-- A row of runes that lies in a block. -/
def At32 (w : World) (b o : Nat) (zs : List Int) : Prop := ∀ i, i < zs.length → w.cell? ⟨b, o + i, none⟩ = some (.int .i32 (zs.getD i 0))
theorem At32.below {B : Nat} {w w' : World} {b o : Nat} {zs : List Int} (h : At32 w b o zs) (hb : Below B w w') (hB : b < B) : At32 w' b o zs := fun i hi => (hb.cell (p := ⟨b, o + i, none⟩) hB).trans (h i hi)
theorem At32.heap {w w' : World} {b o : Nat} {zs : List Int} (h : At32 w b o zs) (hb : w'.heap = w.heap) : At32 w' b o zs := fun i hi => by rw [World.cell?_of_block (w := w) (by rw [hb])]; exact h i hi
theorem wps_at {zs : List Int} {xs : List It} {j : Nat} {x : It} (hx : xs[j]? = some x) (h : wpB zs x.pc = false) : wps zs xs = false := by
  cases hh : wps zs xs with
  | false => rfl
  | true => have := List.all_eq_true.1 hh x (List.mem_iff_getElem?.2 ⟨j, hx⟩); rw [h] at this; cases this

set_option maxHeartbeats 2000000 in
set_option maxRecDepth 100000 in
theorem pvalidS (B : Nat) (zs : List Int) (b o cap : Nat) (v : Value) (xs : List It) (w : World) (hc : At32 w b o zs) (hb : b < w.heap.size) (hz : zs.length ≤ 1048576) (hcap : zs.length ≤ cap) (hm : cap ≤ maxLen) (hr : RdI B w v xs) (hB : B ≤ w.heap.size) (hn : xs.length ≤ 1048576) :
    Calls Tryz.prog 38 #[.agg #[.slice (some ⟨b, o, none⟩) zs.length cap, v]] w fun e w' => e = .returned (.bool (pRead zs xs).isSome) ∧ Below w.heap.size w w' := by
  obtain ⟨ao, cap', rfl⟩ := hr.val
  have HX := hide (pRead_isSome zs xs)
  generalize (pRead zs xs).isSome = res at HX ⊢
  have HB0 := hide ((Below.refl w.heap.size w).alloc (Nat.le_refl _) (.cells #[.slice (some ⟨b, o, none⟩) zs.length cap, .slice ao xs.length cap'] 33))
  have HR0 := hide (hr.below HB0.out hB)
  have HC0 := hide (hc.below HB0.out hb)
  have hs0 : (w.alloc (.cells #[.slice (some ⟨b, o, none⟩) zs.length cap, .slice ao xs.length cap'] 33)).heap.size = w.heap.size + 1 := by simp
  have hk0 : (w.alloc (.cells #[.slice (some ⟨b, o, none⟩) zs.length cap, .slice ao xs.length cap'] 33)).heap[w.heap.size]? = some (.cells #[.slice (some ⟨b, o, none⟩) zs.length cap, .slice ao xs.length cap'] 33 (0, 0)) := heap_alloc_new _ _
  have HV := hide (validS B _ xs _ HR0.out (by omega) hn)
  have hZ : (zs.length : Int) ≤ 1048576 := by omega
  clear hc
  by_cases hbig : zs.length > 220000
  · have hbig' : (zs.length : Int) > 220000 := by omega
    clear hr
    go_enter Tryz.func38, Tryz.ntmps38
    go_wp2
    go_ret
    exact ⟨by rw [HX.out, decide_eq_false (by omega)]; rfl, HB0.out⟩
  have hbig' : ¬ (zs.length : Int) > 220000 := by omega
  rw [decide_eq_true (show zs.length ≤ 220000 by omega), Bool.true_and] at HX
  have hcell : ∀ j, j < xs.length → ∃ b off x, ao = some ⟨b, off, none⟩ ∧ b < B ∧ xs[j]? = some x ∧ ItAt w b (off + j * 4) x := by
    intro j hj
    obtain ⟨b, off, cap', e, _, hb, hc⟩ := hr.at (by intro e; subst e; simp at hj)
    cases e
    obtain ⟨x, h1, h2⟩ := itAt_of (B := B) (cap := cap) hc hj
    exact ⟨b, off, x, rfl, hb, h1, h2⟩
  have HC := hide hcell
  have hcapx : xs.length ≤ cap' ∧ cap' ≤ maxLen ∨ xs.length = 0 := by
    rcases hr with ⟨_, _, e, rfl⟩ | ⟨_, _, _, e, hp, _⟩
    · right; rfl
    · cases e; left; exact ⟨hp.2.1, hp.2.2⟩
  unfold maxLen at hcapx hm
  have HPCS : Hid (okT xs = true → Pcs xs) := hide fun h => (okT_pcs h).1
  generalize hN : xs.length = n at *
  generalize hNZ : zs.length = nz at *
  clear hr hcell
  cases hok : okT xs with
  | false =>
    rw [hok] at HV HX
    clear hok
    go_enter Tryz.func38, Tryz.ntmps38
    go_wp2_with fail
    generalize w.alloc (.cells #[.slice (some ⟨b, o, none⟩) nz cap, .slice ao n cap'] 33) = w0 at *
    refine HV.out.mono ?_
    rintro e w1 ⟨rfl, hb1⟩
    have HB1 := hide (HB0.out.trans (hb1.mono (by omega)))
    clear hb1
    go_wp2
    go_ret
    exact ⟨by rw [HX.out]; rfl, HB1.out⟩
  | true =>
    have HP := hide (HPCS.out hok)
    rw [hok] at HV HX
    rw [Bool.true_and] at HX
    clear hok HPCS
    go_enter Tryz.func38, Tryz.ntmps38
    go_wp2_with fail
    generalize w.alloc (.cells #[.slice (some ⟨b, o, none⟩) nz cap, .slice ao n cap'] 33) = w0 at *
    refine HV.out.mono ?_
    rintro e w1 ⟨rfl, hb1⟩
    have HB1 := hide (HB0.out.trans (hb1.mono (by omega)))
    have hs1 := hb1.size
    have hk1 := (hb1.block w.heap.size (by omega)).trans hk0
    have HC1 := hide (HC0.out.below hb1 (by omega))
    have c0 : w1.cell? ⟨w.heap.size, 0, none⟩ = some (.slice (some ⟨b, o, none⟩) nz cap) := by rw [cell_of_row w1 _ 0 _ _ _ hk1]; rfl
    have c1 : w1.cell? ⟨w.heap.size, 1, none⟩ = some (.slice ao n cap') := by rw [cell_of_row w1 _ 1 _ _ _ hk1]; rfl
    have HK1 := hide hk1
    clear hb1 hk1 hk0 HC0 HR0 HV
    go_wp2_with fail
    go_loopw [19] (fun i wr => ∃ j : Nat, j ≤ n ∧ i = .int .i64 j ∧ wps zs (xs.take j) = true ∧ Below w1.heap.size w1 wr) (fun i _ => n - (intOf i).toNat)
    case atStart => exact ⟨0, Nat.zero_le _, rfl, rfl, Below.refl _ _⟩
    case round =>
      obtain ⟨j, hj, rfl, hpj, hbw⟩ := hrel
      have HPJ := hide hpj
      have HBW := hide hbw
      have hsw := hbw.size
      clear hbw hpj c0 c1
      by_cases hjn : j < n
      · obtain ⟨b', off, x, rfl, hb', hx, a0, a1, a2, a3⟩ := HC.out j hjn
        have hjn' : (j : Int) < n := by omega
        have hx' := hide hx
        have hpx := HP.out x (List.mem_iff_getElem?.2 ⟨j, hx⟩)
        simp only [pcOk, decide_eq_true_eq] at hpx
        have hBw := (HB1.out.trans (HBW.out.mono (by omega)))
        have hbw2 : b' < w.heap.size := by omega
        have e0 := (hBw.cell (p := ⟨b', off + j * 4, none⟩) hbw2).trans a0
        have e1 := (hBw.cell (p := ⟨b', off + j * 4 + 1, none⟩) hbw2).trans a1
        have e2 := (hBw.cell (p := ⟨b', off + j * 4 + 2, none⟩) hbw2).trans a2
        have e3 := (hBw.cell (p := ⟨b', off + j * 4 + 3, none⟩) hbw2).trans a3
        have hbr : b' < wr.heap.size := by omega
        have HBA := hide (HBW.out.alloc hsw (.cells #[.int .i64 x.pc.off, .int .i64 x.pc.len, .int .i64 x.pc.brk, .int .i64 x.lv] 132))
        have KA : (wr.alloc (.cells #[.int .i64 x.pc.off, .int .i64 x.pc.len, .int .i64 x.pc.brk, .int .i64 x.lv] 132)).heap[wr.heap.size]? = some (.cells #[.int .i64 x.pc.off, .int .i64 x.pc.len, .int .i64 x.pc.brk, .int .i64 x.lv] 132 (0, 0)) := heap_alloc_new _ _
        have d0 : (wr.alloc (.cells #[.int .i64 x.pc.off, .int .i64 x.pc.len, .int .i64 x.pc.brk, .int .i64 x.lv] 132)).cell? ⟨wr.heap.size, 0, none⟩ = some (.int .i64 x.pc.off) := by rw [cell_of_row _ _ 0 _ _ _ KA]; rfl
        have d1 : (wr.alloc (.cells #[.int .i64 x.pc.off, .int .i64 x.pc.len, .int .i64 x.pc.brk, .int .i64 x.lv] 132)).cell? ⟨wr.heap.size, 1, none⟩ = some (.int .i64 x.pc.len) := by rw [cell_of_row _ _ 1 _ _ _ KA]; rfl
        have d2 : (wr.alloc (.cells #[.int .i64 x.pc.off, .int .i64 x.pc.len, .int .i64 x.pc.brk, .int .i64 x.lv] 132)).cell? ⟨wr.heap.size, 2, none⟩ = some (.int .i64 x.pc.brk) := by rw [cell_of_row _ _ 2 _ _ _ KA]; rfl
        have c0 : (wr.alloc (.cells #[.int .i64 x.pc.off, .int .i64 x.pc.len, .int .i64 x.pc.brk, .int .i64 x.lv] 132)).cell? ⟨w.heap.size, 0, none⟩ = some (.slice (some ⟨b, o, none⟩) nz cap) := by rw [HBA.out.cell (p := ⟨w.heap.size, 0, none⟩) (by show w.heap.size < w1.heap.size; omega), cell_of_row w1 _ 0 _ _ _ HK1.out]; rfl
        have HCA := hide (HC1.out.below HBA.out (by omega))
        have hsa : (wr.alloc (.cells #[.int .i64 x.pc.off, .int .i64 x.pc.len, .int .i64 x.pc.brk, .int .i64 x.lv] 132)).heap.size = wr.heap.size + 1 := by simp
        have hlw : w.heap.size < wr.heap.size := by omega
        clear a0 a1 a2 a3 hx hBw KA
        obtain ⟨⟨po, pl, pb⟩, lv⟩ := x
        simp only at *
        by_cases hfit : po + pl > (nz : Int)
        · have HE := hide (show res = false by rw [HX.out]; exact wps_at hx'.out (by simp only [wpB, Bool.and_eq_false_iff, decide_eq_false_iff_not, hNZ]; left; omega))
          go_wp2
          go_ret
          exact ⟨by rw [HE.out]; rfl, HB1.out.trans (HBA.out.mono (by omega))⟩
        · have g1 : po ≤ po + pl := by omega
          have g2 : po + pl ≤ (cap : Int) := by omega
          have g3 : ¬ cap = po.toNat := by omega
          have g4 : (0 : Int) ≤ po + pl := by omega
          obtain ⟨q, rfl⟩ : ∃ q : Nat, po = q := ⟨po.toNat, by omega⟩
          obtain ⟨l, rfl⟩ : ∃ l : Nat, pl = l := ⟨pl.toNat, by omega⟩
          simp only [Int.toNat_natCast] at g3
          have HBR : Hid (∀ m : Nat, Calls Tryz.prog 97 #[.slice (some ⟨b, o + q, none⟩) l (cap - q)] ((wr.alloc (.cells #[.int .i64 (q : Int), .int .i64 (l : Int), .int .i64 pb, .int .i64 lv] 132)).drewN m) fun e w' => e = .returned (.int .i64 (brk ((zs.drop q).take l))) ∧ w' = (wr.alloc (.cells #[.int .i64 (q : Int), .int .i64 (l : Int), .int .i64 pb, .int .i64 lv] 132)).drewN m) := hide fun m =>
            specBreaks _ _ _ (rd_cut (zs := zs) (fun i hi => (World.cell?_of_block (w := wr.alloc (.cells #[.int .i64 (q : Int), .int .i64 (l : Int), .int .i64 pb, .int .i64 lv] 132)) (by simp)).trans (HCA.out i hi)) q l (by omega) (by omega) (by omega) (by unfold maxLen; omega)) (by rw [List.length_take, List.length_drop]; omega)
          have HW : Hid (wpB zs ⟨(q : Int), (l : Int), pb⟩ = decide (pb = brk ((zs.drop q).take l))) := hide (by
            unfold wpB ptx
            rw [decide_eq_true (by rw [hNZ]; exact Int.not_lt.1 hfit), Bool.true_and]
            rfl)
          generalize brk ((zs.drop q).take l) = br at *
          go_wp2_with fail
          generalize wr.alloc (.cells #[.int .i64 (q : Int), .int .i64 (l : Int), .int .i64 pb, .int .i64 lv] 132) = wa at *
          go_quiet ((go_at_call 97; exact Calls.quiet_of_same (HBR.out _)))
          have HBN := hide (show Below w1.heap.size w1 (wa.drewN nq) from HBA.out.trans (below_dn2 _ _ _))
          by_cases hq : pb = br
          · have HPS := hide (show wps zs (xs.take (j + 1)) = true by rw [take_succ_of hx'.out, wps_snoc, HPJ.out, HW.out, decide_eq_true hq]; rfl)
            subst hq
            go_wp2
            go_roundw
            case rel => exact ⟨j + 1, by omega, by go_num, HPS.out, HBN.out⟩
            case measure => simp [intOf]; omega
          · have HE := hide (show res = false by rw [HX.out]; exact wps_at hx'.out (by rw [HW.out]; exact decide_eq_false hq))
            go_wp2
            go_ret
            exact ⟨by rw [HE.out]; rfl, HB1.out.trans (HBN.out.mono (by omega))⟩
      · have hjn2 : j = n := by omega
        subst hjn2
        have hge : ¬ (j : Int) < (j : Int) := by omega
        have HE := hide (show res = true by rw [HX.out]; have := HPJ.out; rw [List.take_of_length_le (by omega)] at this; exact this)
        go_wp2
        go_ret
        exact ⟨by rw [HE.out]; rfl, HB1.out.trans (HBW.out.mono (by omega))⟩
end Go.Proofs.YtbgngikejgihgahGreatDoor

namespace Go.Proofs.YtbgngikejgihgahGreatDoor
open Go Go.RowKit
set_option linter.unusedVariables false

def own32 (w : World) (base : Nat) (v : Value) (zs : List Int) : Prop := w.ownsRow base 21 1 v zs.length (ints .i32 zs)
theorem Tryz.info32T : (Tryz.prog.info? 21).map (fun i => (i.zero, i.size, i.bytes)) = some (some (.int .i32 0), 1, 4) := by kernel_rfl
theorem own32_new (w : World) : own32 (w.alloc (.cells #[] 21)) w.heap.size (.slice (some ⟨w.heap.size, 0, none⟩) 0 0) [] := by
  have := World.ownsRow_made (base := w.heap.size) (e := 21) (size := 1) w #[] 0 (by simp) (Nat.zero_le _) rfl
  simpa [own32, ints] using this
theorem own32_app {W : World} {base : Nat} {v : Value} {E F : List Int} {n m : Nat} (hn : E.length = n) (hm : F.length = m) (h : W.ownsRow base 21 1 v (n + m) (ints .i32 E ++ ints .i32 F)) : own32 W base v (E ++ F) := by
  unfold own32
  rw [List.length_append, hn, hm, ints_append]
  exact h
theorem own32_val {w : World} {base : Nat} {v : Value} {zs : List Int} (h : own32 w base v zs) : ∃ ao cap, v = .slice ao zs.length cap := by
  rcases h.2 with ⟨rfl, h0⟩ | ⟨g, cap, cur, rfl, _⟩
  · exact ⟨none, 0, by rw [h0]⟩
  · exact ⟨_, _, rfl⟩
theorem At32.app {w : World} {b o : Nat} {zs : List Int} (h : At32 w b o zs) (p l : Nat) (hp : p + l ≤ zs.length) : ∀ j u, (ints .i32 ((zs.drop p).take l))[j]? = some u → w.cell? ((⟨b, o + p, none⟩ : Addr).add j) = some u := by
  intro j u hj
  have hjl : j < l := by
    rcases Nat.lt_or_ge j l with q | q
    · exact q
    · rw [List.getElem?_eq_none (by simp [ints]; omega)] at hj; cases hj
  have e : ((zs.drop p).take l)[j]? = some (zs.getD (p + j) 0) := by
    rw [List.getElem?_take, if_pos hjl, List.getElem?_drop]
    simp [List.getD_eq_getElem?_getD, List.getElem?_eq_getElem (show p + j < zs.length by omega)]
  simp only [ints, List.getElem?_map, e, Option.map_some, Option.some.injEq] at hj
  subst hj
  have h9 := h (p + j) (by omega)
  rw [← Nat.add_assoc] at h9
  rw [addr_add]
  exact h9

theorem own32_at {w : World} {base g cap : Nat} {zs : List Int} (h : own32 w base (.slice (some ⟨g, 0, none⟩) zs.length cap) zs) : At32 w g 0 zs := by
  intro i hi
  have := h.cellAt i (by omega)
  rw [Nat.zero_add, this]
  simp [ints, List.getElem?_eq_getElem hi]
theorem own32_lt {w : World} {base g cap : Nat} {zs : List Int} (h : own32 w base (.slice (some ⟨g, 0, none⟩) zs.length cap) zs) : g < w.heap.size := (h.lt g rfl).2
end Go.Proofs.YtbgngikejgihgahGreatDoor

namespace Go.Proofs.YtbgngikejgihgahGreatDoor
open Go Go.RowKit Go.Shelf
set_option linter.unusedVariables false
attribute [local go_sem] Oper.semAt_some

theorem room_of_none {F : Fence} (hd : F.depth = none) (k : Nat) : F.room k := fun d h => by rw [hd] at h; cases h
theorem roundIn_any {F : Fence} (hd : F.depth = none) {m m' : Nat} {P : Program} {l : Nat} {f : FuncId} {tmps : Array Value} {assign body : Code} {w : World} {R : Ending → World → Prop}
    (h : RoundIn F m P l f tmps assign body w R) : RoundIn F m' P l f tmps assign body w R := ⟨h.1, fun c cs _ => h.2 c cs (room_of_none hd _)⟩
theorem yieldAt_any {F : Fence} (hd : F.depth = none) {m : Nat} (m' : Nat) {P : Program} {l : Nat} {args : Array Value} {W : World} {R : Ending → World → Prop} (h : YieldAt F m P l args W R) : YieldAt F m' P l args W R := by
  obtain ⟨fn, tmps, assign, body, hy, hR⟩ := h
  exact ⟨fn, tmps, assign, body, hy, roundIn_any hd hR⟩

/-- The tree lies in blocks below n₀. -/
def IsT (n₀ : Nat) (W : World) (p : Option Addr) (T : AT) : Prop := ∃ base bs, Lies W base T p bs ∧ ∀ x ∈ bs, x < n₀
theorem IsT.below {n₀ : Nat} {A B : World} {p : Option Addr} {T : AT} (h : IsT n₀ A p T) (hb : Below n₀ A B) : IsT n₀ B p T := by
  obtain ⟨base, bs, h1, h2⟩ := h
  exact ⟨base, bs, h1.frame fun b hbs => hb.block b (h2 b hbs), h2⟩
theorem IsT.parts {n₀ : Nat} {W : World} {p : Option Addr} {l : AT} {q : Pc} {r : AT} (h : IsT n₀ W p (.node l q r)) : ∃ b pl pr, p = some ⟨b, 0, none⟩ ∧ b < n₀ ∧ W.cell? ⟨b, 0, none⟩ = some (.int .i64 q.off) ∧ W.cell? ⟨b, 1, none⟩ = some (.int .i64 q.len) ∧ W.cell? ⟨b, 2, none⟩ = some (.int .i64 q.brk) ∧
    W.cell? ⟨b, 3, none⟩ = some (.pointer pl) ∧ W.cell? ⟨b, 4, none⟩ = some (.pointer pr) ∧ IsT n₀ W pl l ∧ IsT n₀ W pr r := by
  obtain ⟨base, bs, ⟨b, ul, ur, bl, br, rfl, hb, hn, hl, hr, rfl⟩, h2⟩ := h
  exact ⟨b, ul, ur, rfl, h2 b (by simp), hn.c0, hn.c1, hn.c2, hn.c3, hn.c4, ⟨base, bl, hl, fun x hx => h2 x (by simp [hx])⟩, ⟨base, br, hr, fun x hx => h2 x (by simp [hx])⟩⟩

set_option maxRecDepth 100000 in
set_option maxHeartbeats 4000000 in
theorem walk_in (F : Fence) (hd : F.depth = none) (h6 : F.fn 245) (hro : F.round = none) (l n₀ N : Nat) (J Jx : List It → World → Prop)
    (hY : ∀ m pre (x : It) W, J pre W → pre.length < N → YieldAt F m Tryz.prog l #[.int .i64 x.lv, .agg #[.int .i64 x.pc.off, .int .i64 x.pc.len, .int .i64 x.pc.brk]] W fun e W' =>
      (e = .returned (.bool true) ∧ J (pre ++ [x]) W' ∧ Below n₀ W W') ∨ (e = .returned (.bool false) ∧ Jx (pre ++ [x]) W')) (T : AT) :
    ∀ (n : Nat) (p : Option Addr) (lv : Int) (pre : List It) (W : World), IsT n₀ W p T → 0 ≤ lv → lv + T.ht ≤ 1048576 → J pre W → pre.length + T.its ≤ N →
      CallsIn F n Tryz.prog 245 #[.pointer p, .int .i64 lv, .func (.yield l) #[] #[]] W fun e W' =>
        (e = .returned (.bool true) ∧ J (pre ++ T.told lv) W' ∧ Below n₀ W W') ∨ (e = .returned (.bool false) ∧ ∃ q, q <+: T.told lv ∧ Jx (pre ++ q) W') := by
  induction T with
  | nil =>
    intro n p lv pre W ht h0 h1 hJ _
    obtain ⟨base, bs, ⟨rfl, rfl⟩, _⟩ := ht
    refine callsIn_of_wp Tryz.func245 rfl h6 ?_ hro
    simp only [Tryz.ntmps245, List.size_toArray, List.length_cons, List.length_nil, Nat.reduceAdd, Nat.reduceSub, Array.replicate_succ, Array.replicate_zero, List.push_toArray, List.append_toArray, List.nil_append, List.cons_append]
    have hU : undef = Value.tuple #[] := rfl
    gi_wp2_with fail
    go_ret
    exact .inl ⟨rfl, by simpa [AT.told] using hJ, Below.refl _ _⟩
  | node tl v tr ihl ihr =>
    intro n p lv pre W ht h0 h1 hJ hN
    obtain ⟨b, pl, pr, rfl, hb, c0, c1, c2, c3, c4, hl, hr⟩ := ht.parts
    have hdd : ∀ k : Nat, (F.depth.isSome = true → 1 ≤ k) := fun k h => by rw [hd] at h; cases h
    have hht : ((AT.node tl v tr).ht : Int) = 1 + max (tl.ht : Int) tr.ht := by simp only [AT.ht]; omega
    have hll : (tl.told (lv + 1)).length = tl.its := AT.told_length _ _
    rw [hht] at h1
    simp only [AT.its] at hN
    have hU : undef = Value.tuple #[] := rfl
    have HTD := hide (show (AT.node tl v tr).told lv = tl.told (lv + 1) ++ ⟨v, lv⟩ :: tr.told (lv + 1) from rfl)
    generalize (AT.node tl v tr).told lv = TD at HTD ⊢
    have hy2 : ∀ W1, J (pre ++ tl.told (lv + 1)) W1 → Below n₀ W W1 → YieldAt F (n - 1) Tryz.prog l #[.int .i64 lv, .agg #[.int .i64 v.off, .int .i64 v.len, .int .i64 v.brk]] W1 fun e W2 =>
        (e = .returned (.bool true) ∧ J (pre ++ tl.told (lv + 1) ++ [⟨v, lv⟩]) W2 ∧ Below n₀ W W2 ∧ W2.cell? ⟨b, 4, none⟩ = some (.pointer pr) ∧ IsT n₀ W2 pr tr) ∨ (e = .returned (.bool false) ∧ Jx (pre ++ tl.told (lv + 1) ++ [⟨v, lv⟩]) W2) := fun W1 hJ1 hb1 =>
      YieldAt.mono (hY (n - 1) _ ⟨v, lv⟩ W1 hJ1 (by simp [hll]; omega)) fun e W2 h => h.elim
        (fun ⟨he, hj, hb2⟩ => .inl ⟨he, hj, hb1.trans hb2, ((hb1.trans hb2).cell (p := ⟨b, 4, none⟩) hb).trans c4, hr.below (hb1.trans hb2)⟩) .inr
    have ih1 := (ihl (n - 1) pl (lv + 1) pre W hl (by omega) (by omega) hJ (by omega)).mono (R' := fun e W1 =>
        (e = .returned (.bool true) ∧ W1.cell? ⟨b, 0, none⟩ = some (.int .i64 v.off) ∧ W1.cell? ⟨b, 1, none⟩ = some (.int .i64 v.len) ∧ W1.cell? ⟨b, 2, none⟩ = some (.int .i64 v.brk) ∧ YieldAt F (n - 1) Tryz.prog l #[.int .i64 lv, .agg #[.int .i64 v.off, .int .i64 v.len, .int .i64 v.brk]] W1 fun e W2 =>
          (e = .returned (.bool true) ∧ J (pre ++ tl.told (lv + 1) ++ [⟨v, lv⟩]) W2 ∧ Below n₀ W W2 ∧ W2.cell? ⟨b, 4, none⟩ = some (.pointer pr) ∧ IsT n₀ W2 pr tr) ∨ (e = .returned (.bool false) ∧ Jx (pre ++ tl.told (lv + 1) ++ [⟨v, lv⟩]) W2)) ∨
        (e = .returned (.bool false) ∧ ∃ q, q <+: tl.told (lv + 1) ∧ Jx (pre ++ q) W1))
      (fun e W1 h => h.elim (fun ⟨he, hj, hb1⟩ => .inl ⟨he, (hb1.cell (p := ⟨b, 0, none⟩) hb).trans c0, (hb1.cell (p := ⟨b, 1, none⟩) hb).trans c1, (hb1.cell (p := ⟨b, 2, none⟩) hb).trans c2, hy2 W1 hj hb1⟩) .inr)
    clear hy2 ihl
    refine callsIn_of_wp Tryz.func245 rfl h6 ?_ hro
    simp only [Tryz.ntmps245, List.size_toArray, List.length_cons, List.length_nil, Nat.reduceAdd, Nat.reduceSub, Array.replicate_succ, Array.replicate_zero, List.push_toArray, List.append_toArray, List.nil_append, List.cons_append]
    gi_wp2_with (first
      | ((try refine ⟨hdd _, ?_⟩); gi_at_call 245; refine ih1.mono ?_; clear ih1; rintro e W1 (⟨rfl, c0', c1', c2', fn, tmps, assign, body, hy, hR⟩ | ⟨rfl, q, hq, hx1⟩))
      | ((try refine ⟨hdd _, ?_⟩); refine hR.mono ?_; clear hR; rintro e W2 (⟨rfl, hJ2, hb2, c4', hr2⟩ | ⟨rfl, hx2⟩))
      | ((try refine ⟨hdd _, ?_⟩); gi_at_call 245; refine (ihr (n - 1) pr (lv + 1) _ _ hr2 (by omega) (by omega) hJ2 (by simp [hll]; omega)).mono ?_; rintro e W3 (⟨rfl, hJ3, hb3⟩ | ⟨rfl, q, hq, hx3⟩)))
    · go_ret
      exact .inl ⟨rfl, by rw [HTD.out]; simpa [List.append_assoc] using hJ3, hb2.trans hb3⟩
    · go_ret
      obtain ⟨r, hr'⟩ := hq
      exact .inr ⟨rfl, tl.told (lv + 1) ++ ⟨v, lv⟩ :: q, ⟨r, by rw [HTD.out]; simp [← hr']⟩, by simpa [List.append_assoc] using hx3⟩
    · go_ret
      exact .inr ⟨rfl, tl.told (lv + 1) ++ [⟨v, lv⟩], ⟨tr.told (lv + 1), by rw [HTD.out]; simp⟩, by simpa [List.append_assoc] using hx2⟩
    · go_ret
      exact .inr ⟨rfl, q, hq.trans (by rw [HTD.out]; simp), hx1⟩

set_option maxHeartbeats 1000000 in
theorem all1_in (F : Fence) (hd : F.depth = none) (n : Nat) (h5 : F.fn 244) (h6 : F.fn 245) (hro : F.round = none) (l Bt Bl n₀ : Nat) (p0 : Option Addr) (T : AT) (hht : (T.ht : Int) ≤ 1048576) (J Jx : List It → World → Prop)
    (hY : ∀ pre (x : It) W, J pre W → pre.length < T.its → YieldAt F (n - 1) Tryz.prog l #[.int .i64 x.lv, .agg #[.int .i64 x.pc.off, .int .i64 x.pc.len, .int .i64 x.pc.brk]] W fun e W' =>
      (e = .returned (.bool true) ∧ J (pre ++ [x]) W' ∧ Below n₀ W W') ∨ (e = .returned (.bool false) ∧ Jx (pre ++ [x]) W'))
    (W : World) (hBt : W.cell? ⟨Bt, 0, none⟩ = some (.pointer p0)) (hBl : W.cell? ⟨Bl, 0, none⟩ = some (.int .i64 0)) (hT : IsT n₀ W p0 T) (h0 : J [] W) :
    CallsIn F n Tryz.prog 244 #[.func (.yield l) #[] #[], .pointer (some ⟨Bt, 0, none⟩), .pointer (some ⟨Bl, 0, none⟩)] W fun e W' => (∃ v, e = .returned v) ∧
      ((∃ ys, ys = T.told 0 ∧ J ys W') ∨ (∃ pre, pre <+: T.told 0 ∧ Jx pre W')) := by
  have hdd : ∀ k : Nat, (F.depth.isSome = true → 1 ≤ k) := fun k h => by rw [hd] at h; cases h
  have hp := walk_in F hd h6 hro l n₀ T.its J Jx (fun m pre x W hj hl => yieldAt_any hd m (hY pre x W hj hl)) T (n - 1) p0 0 [] W hT (by omega) (by omega) h0 (by simp)
  refine callsIn_of_wp Tryz.func244 rfl h5 ?_ hro
  simp only [Tryz.ntmps244, List.size_toArray, List.length_cons, List.length_nil, Nat.reduceAdd, Nat.reduceSub, Array.replicate_succ, Array.replicate_zero, List.push_toArray, List.append_toArray, List.nil_append, List.cons_append]
  gi_wp2_with ((try refine ⟨hdd _, ?_⟩); gi_at_call 245; refine hp.mono ?_; clear hp; rintro e W1 (⟨rfl, hJ1, _⟩ | ⟨rfl, q, hq, hx⟩))
  · go_end0
    exact ⟨⟨_, rfl⟩, .inl ⟨_, rfl, by simpa using hJ1⟩⟩
  · go_end0
    exact ⟨⟨_, rfl⟩, .inr ⟨q, hq, by simpa using hx⟩⟩

set_option maxHeartbeats 1000000 in
theorem all_in (F : Fence) (n : Nat) (h4 : F.fn 195) (hro : F.round = none) (p0 : Option Addr) (w : World) :
    CallsIn F n Tryz.prog 195 #[.pointer p0, .int .i64 0] w fun e w' => e = .returned (.func (.func 244) #[] #[.pointer (some ⟨w.heap.size, 0, none⟩), .pointer (some ⟨w.heap.size + 1, 0, none⟩)]) ∧ w' = (w.alloc (.cells #[.pointer p0] 190)).alloc (.cells #[.int .i64 0] 3) := by
  refine callsIn_of_wp Tryz.func195 rfl h4 ?_ hro
  simp only [Tryz.ntmps195, List.size_toArray, List.length_cons, List.length_nil, Nat.reduceAdd, Nat.reduceSub, Array.replicate_succ, Array.replicate_zero, List.push_toArray, List.append_toArray, List.nil_append, List.cons_append]
  gi_wp2
  go_ret
  exact ⟨rfl, rfl⟩

theorem all_stops (F : Fence) (hd : F.depth = none) (n : Nat) (h5 : F.fn 244) (h6 : F.fn 245) (hro : F.round = none) (Bt Bl n₀ : Nat) (p0 : Option Addr) (T : AT) (hht : (T.ht : Int) ≤ 1048576) (w : World) (hBt : Bt < w.heap.size) (hBl : Bl < w.heap.size) (hn₀ : n₀ ≤ w.heap.size)
    (hc : w.cell? ⟨Bt, 0, none⟩ = some (.pointer p0)) (hc2 : w.cell? ⟨Bl, 0, none⟩ = some (.int .i64 0)) (hT : IsT n₀ w p0 T) :
    SeqStopsK F n Tryz.prog 244 #[.pointer (some ⟨Bt, 0, none⟩), .pointer (some ⟨Bl, 0, none⟩)] (fun x : It => #[Value.int .i64 x.lv, .agg #[.int .i64 x.pc.off, .int .i64 x.pc.len, .int .i64 x.pc.brk]]) (Below n₀) (fun ys => ys = T.told 0) (fun pre => pre <+: T.told 0) T.its w := fun l J Jx W hW _ _ hY h0 =>
  all1_in F hd n h5 h6 hro l Bt Bl n₀ p0 T hht J Jx hY W ((hW.cell (p := ⟨Bt, 0, none⟩) hBt).trans hc) ((hW.cell (p := ⟨Bl, 0, none⟩) hBl).trans hc2) (hT.below (hW.mono hn₀)) h0
end Go.Proofs.YtbgngikejgihgahGreatDoor
