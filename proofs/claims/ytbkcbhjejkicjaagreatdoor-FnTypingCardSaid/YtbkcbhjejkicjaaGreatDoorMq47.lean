import Derived.Test.YtbkcbhjejkicjaaGreatDoorMq46
namespace Go.Proofs.YtbkcbhjejkicjaaGreatDoor
open Go Go.RowKit Go.Sort
set_option linter.unusedVariables false
theorem Src.ty {bs : List Int} {vb : Value} {p : Nat} {w : World} (h : Src bs vb p w) : ∃ cs, w.heap[p]? = some (.cells cs 61 (0, 0)) := by
  obtain ⟨⟨i, x, _, _, _, hh⟩, _⟩ := h
  exact ⟨_, hh⟩
theorem Src.bel {bs : List Int} {vb : Value} {p : Nat} {w w' : World} (h : Src bs vb p w) (hb : Below w.heap.size w w') : Src bs vb p w' := by
  have hl := h.lt
  obtain ⟨⟨i, x, h5, h6, h7, h8⟩, h1, h2, h3⟩ := h
  refine ⟨⟨i, x, h5, h6, h7, (hb.block p hl).trans h8⟩, h1, h2, ?_⟩
  rcases h3 with h3 | ⟨b, off, cap, hv, hne, hl, hc⟩
  · exact .inl h3
  · exact .inr ⟨b, off, cap, hv, hne, hl, fun i hi => (hb.cell (p := ⟨b, off + i, none⟩) (World.block_lt_of_cell? w _ (hc i hi))).trans (hc i hi)⟩
theorem TyO.drew {w w' : World} {B p : Nat} {v vb : Value} {cs bs : List Int} (h : TyO w B v cs) (hs : Src bs vb p w) (hg : w.grownBy w' (some p)) : TyO w' B v cs := by
  obtain ⟨cs9, h9⟩ := hs.ty
  refine h.chg (R := fun q => q = p) ⟨hg.os, hg.tape, hg.output, hg.size, fun q hq hn => hg.block q hq (fun e => hn (by simpa using e))⟩ (fun q _ hq h8 => ?_)
  subst hq
  obtain ⟨cs8, fr8, h7 | h7⟩ := h8
  · exact ty_ne h9 h7 (by decide)
  · exact ty_ne h9 h7 (by decide)
theorem Src.kept2 {bs : List Int} {vb : Value} {p : Nat} {w w' : World} {row : Option Nat} (h : Src bs vb p w) (hg : w.grownBy w' row) (hp : row ≠ some p) (hb : ∀ b off cap, 0 < bs.length → vb = .slice (some ⟨b, off, none⟩) bs.length cap → row ≠ some b) : Src bs vb p w' := by
  have hlt := h.lt
  obtain ⟨⟨i, x, h5, h6, h7, h8⟩, h1, h2, h3⟩ := h
  refine ⟨⟨i, x, h5, h6, h7, (hg.block p hlt (fun e => hp e.symm)).trans h8⟩, h1, h2, ?_⟩
  rcases h3 with h3 | ⟨b, off, cap, hv, hne, hl, hc⟩
  · exact .inl h3
  · refine .inr ⟨b, off, cap, hv, hne, hl, fun i hi => ?_⟩
    have h4 := hc i hi
    rw [World.cell?_of_block (w := w) (hg.block b (World.block_lt_of_cell? w _ h4) (fun e => hb _ _ _ hl.1 hv e.symm))]
    exact h4
/-- The script while it is drawn. -/
structure TySt (w0 : World) (bs : List Int) (vb : Value) (p P : Nat) (pol : Array Value) (k : Nat) (v : Value) (w : World) : Prop where
  ty : ∃ cs, TyO w w0.heap.size v cs ∧ cs.length = k ∧ Letters cs
  src : Src bs vb p w
  bel : Below w0.heap.size w0 w
  pol : w.heap[P]? = some (.cells pol 27 (0, 0))
  pp : w0.heap.size ≤ p ∧ w0.heap.size ≤ P
theorem was_01 (big run : Int) : ∀ k, wasN big run k = 0 ∨ wasN big run k = 1
  | 0 => .inl rfl
  | k + 1 => lvN_01 big run k
/-- What stands behind the front end's run. -/
def OutL (w : World) (P : Nat) (big near run : Int) (n : Nat) (ov s9 : Value) (w9 : World) : Prop := ∃ a bo bl, s9 = .pointer (some ⟨a, 0, none⟩) ∧ w9.heap[a]? = some (.cells #[.slice (some ⟨bo, 0, none⟩) n n, .slice (some ⟨bl, 0, none⟩) n n, .int .i64 (mvN big run n), .int .i64 0] 36 (0, 0)) ∧ w9.ownsRow 0 52 10 (.slice (some ⟨bo, 0, none⟩) n n) n (obsF 9 n) ∧ w9.ownsRow 0 3 1 (.slice (some ⟨bl, 0, none⟩) n n) n (ints .i64 (lvs big run n)) ∧ w9.ownsRow 0 52 10 ov n (obsF 9 n) ∧ w9.heap[P]? = some (.cells #[.int .i64 big, .int .i64 near, .int .i64 run] 27 (0, 0)) ∧ Below w.heap.size w w9
theorem thereA {w : World} {a : Nat} {c0 c1 c2 c3 : Value} {t : TypeId} (h : w.heap[a]? = some (.cells #[c0, c1, c2, c3] t (0, 0))) : w.there a 0 4 := fun j hj => ⟨by
  rw [cell_of_row w a (0 + j) _ _ _ h]
  rcases (show j = 0 ∨ j = 1 ∨ j = 2 ∨ j = 3 by omega) with rfl | rfl | rfl | rfl <;> rfl, frozen_of_row _ _ _ _ _ h⟩
theorem outL_of {w0 w : World} {P a bo bl n : Nat} {big near run : Int} {ov c0 c1 c2 c3 : Value} (ha : w.heap[a]? = some (.cells #[c0, c1, c2, c3] 36 (0, 0))) (ho : w.ownsRow 0 52 10 (.slice (some ⟨bo, 0, none⟩) n n) n (obsF 9 n)) (hl : w.ownsRow 0 3 1 (.slice (some ⟨bl, 0, none⟩) n n) n (ints .i64 (lvs big run n))) (hv : w.ownsRow 0 52 10 ov n (obsF 9 n)) (hp : w.heap[P]? = some (.cells #[.int .i64 big, .int .i64 near, .int .i64 run] 27 (0, 0))) (hb : Below w0.heap.size w0 w) (hal : w0.heap.size ≤ a) :
    OutL w0 P big near run n ov (.pointer (some ⟨a, 0, none⟩)) (w.setCells a 0 (#[.slice (some ⟨bo, 0, none⟩) n n, .slice (some ⟨bl, 0, none⟩) n n, .int .i64 (mvN big run n), .int .i64 0] : Array Value).toList) := by
  have K : ∀ q, q ≠ a → (w.setCells a 0 (#[.slice (some ⟨bo, 0, none⟩) n n, .slice (some ⟨bl, 0, none⟩) n n, .int .i64 (mvN big run n), .int .i64 0] : Array Value).toList).heap[q]? = w.heap[q]? := fun q hq => by
    show ((((w.setCell ⟨a, 0, none⟩ _).setCell ⟨a, 1, none⟩ _).setCell ⟨a, 2, none⟩ _).setCell ⟨a, 3, none⟩ _).heap[q]? = _
    rw [heap_setCell_other _ _ q _ hq, heap_setCell_other _ _ q _ hq, heap_setCell_other _ _ q _ hq, heap_setCell_other _ _ q _ hq]
  have D : ∀ {base : Nat} {t : TypeId} {size m : Nat} {v : Value} {xs : List Value}, w.ownsRow base t size v m xs → 36 ≠ t → ∀ q, v.ownBlock = some q → q ≠ a := fun hr ht q hq e => by
    obtain ⟨cs9, fr9, h9⟩ := own_ty hr hq
    rw [e] at h9
    exact ty_ne ha h9 ht
  refine ⟨a, bo, bl, rfl, ?_, owns_of_block ho (fun q hq => K q (D ho (by decide) q hq)), owns_of_block hl (fun q hq => K q (D hl (by decide) q hq)), owns_of_block hv (fun q hq => K q (D hv (by decide) q hq)), (K P (fun e => by subst e; exact ty_ne ha hp (by decide))).trans hp, ?_⟩
  · exact heap_setCell_same _ _ 3 _ _ _ (heap_setCell_same _ _ 2 _ _ _ (heap_setCell_same _ _ 1 _ _ _ (heap_setCell_same w _ 0 _ _ _ ha)))
  · exact (((hb.setCell (p := ⟨a, 0, none⟩) hal _).setCell (p := ⟨a, 1, none⟩) hal _).setCell (p := ⟨a, 2, none⟩) hal _).setCell (p := ⟨a, 3, none⟩) hal _
theorem outL_pol {w w9 : World} {P n : Nat} {big near run : Int} {ov s9 : Value} (h : OutL w P big near run n ov s9 w9) : w9.cell? ⟨P, 0, none⟩ = some (.int .i64 big) ∧ w9.cell? ⟨P, 1, none⟩ = some (.int .i64 near) ∧ w9.cell? ⟨P, 2, none⟩ = some (.int .i64 run) := by
  obtain ⟨a, bo, bl, _, _, _, _, _, h9, _⟩ := h
  exact ⟨by rw [cell_of_row _ _ 0 _ _ _ h9]; rfl, by rw [cell_of_row _ _ 1 _ _ _ h9]; rfl, by rw [cell_of_row _ _ 2 _ _ _ h9]; rfl⟩
set_option maxHeartbeats 8000000 in
set_option maxRecDepth 100000 in
theorem typingLaw (bs : List Int) (v : Value) (w : World) (h : Rd .u8 w v bs) (hb : ∀ z ∈ bs, 0 ≤ z ∧ z ≤ 255) (hn : bs.length ≤ 1048576) (hTab : Tab w) :
    Calls Tryz.prog 3 #[v] w fun e w' => e = .returned (.bool true) ∧ Below w.heap.size w w' := by
  obtain ⟨i0, hi0, hz0, hz1, hz2⟩ := info_parts Tryz.infoOP
  have h1 : 1 < w.heap.size := by obtain ⟨t, fr, h9⟩ := hTab; exact (Array.getElem?_eq_some_iff.1 h9).1
  have HT := hide hTab
  obtain ⟨va, vk, rfl⟩ : ∃ a k, v = .slice a bs.length k := by
    rcases h with ⟨ao, cap, rfl, rfl⟩ | ⟨b, off, cap, rfl, _⟩
    · exact ⟨_, _, rfl⟩
    · exact ⟨_, _, rfl⟩
  have SBL := hide (show ∀ b off cap, Value.slice va bs.length vk = .slice (some ⟨b, off, none⟩) bs.length cap → 0 < bs.length → b < w.heap.size from fun b off cap e e0 => by
    rcases h with ⟨ao, cap', e1, e2⟩ | ⟨b', off', cap', e1, hp, hc⟩
    · rw [e2] at e0; simp at e0
    · rw [e1] at e; injection e with e3 e4 e5; injection e3 with e3; injection e3 with e3 e6; subst e3; exact World.block_lt_of_cell? w _ (hc 0 hp.1))
  have N2 := hide (new2 bs _ w h hb hn)
  generalize hvb : bs.length = nb at *
  have HNB := hide hvb
  have hnb : ¬ (1048576 : Int) < nb := by omega
  clear h hb hTab hvb
  go_enter Tryz.func3, Tryz.ntmps3
  go_wp2_with fail
  refine N2.out.mono ?_
  rintro e w1 ⟨rfl, hs1, hb1⟩
  have S1 := hide hs1
  have B1 := hide hb1
  have D1 := hide (drawNN bs _ _ 36 w1 hs1 (by decide) (by decide))
  clear hs1 hb1 N2
  go_wp2_with fail
  refine D1.out.mono ?_
  rintro e w2 ⟨r1, rfl, hr1, hs2, hg2⟩
  obtain ⟨n, hnn⟩ : ∃ n : Nat, 5 + r1 = (n : Int) := ⟨(5 + r1).toNat, by omega⟩
  have hn1 : 5 ≤ n ∧ n ≤ 40 := by omega
  have S2 := hide hs2
  have B2 := hide (B1.out.grown hg2 B1.out.size (fun q hq => by simp at hq; omega))
  have D2 := hide (drawNN bs _ _ 40 w2 hs2 (by decide) (by decide))
  clear hs2 hg2 D1 B1 S1
  go_wp2_with fail
  clear hnn hr1
  refine D2.out.mono ?_
  rintro e w3 ⟨r2, rfl, hr2, hs3, hg3⟩
  obtain ⟨big, hbig⟩ : ∃ x : Int, 8 + r2 = x := ⟨_, rfl⟩
  have hb1 : 8 ≤ big ∧ big ≤ 47 := by omega
  have B3 := hide (B2.out.grown hg3 B2.out.size (fun q hq => by simp at hq; omega))
  have D3 := hide (drawNN bs _ _ 9 w3 hs3 (by decide) (by decide))
  clear hs3 hg3 D2 B2 S2
  go_wp2_with fail
  clear hbig hr2
  refine D3.out.mono ?_
  rintro e w4 ⟨near, rfl, hr3, hs4, hg4⟩
  have B4 := hide (B3.out.grown hg4 B3.out.size (fun q hq => by simp at hq; omega))
  have D4 := hide (drawNN bs _ _ 6 w4 hs4 (by decide) (by decide))
  clear hs4 hg4 D3 B3
  go_wp2_with fail
  refine D4.out.mono ?_
  rintro e w5 ⟨r4, rfl, hr4, hs5, hg5⟩
  obtain ⟨run, hrun⟩ : ∃ x : Int, 1 + r4 = x := ⟨_, rfl⟩
  have hu1 : 1 ≤ run ∧ run ≤ 6 := by omega
  have B5 := hide (B4.out.grown hg5 B4.out.size (fun q hq => by simp at hq; omega))
  have S5 := hide hs5
  clear hs5 hg5 D4 B4
  go_upto_region 6 with fail
  clear hrun hr4
  have BA := hide (bAS (Below.refl w5.heap.size w5) (.cells #[.int .i64 big, .int .i64 near, .int .i64 run] 27))
  have PO := hide (show (w5.alloc (.cells #[.int .i64 big, .int .i64 near, .int .i64 run] 27)).heap[w5.heap.size]? = some (.cells #[.int .i64 big, .int .i64 near, .int .i64 run] 27 (0, 0)) from heap_alloc_new _ _)
  have S6 := hide (S5.out.bel BA.out)
  have B6 := hide (B5.out.trans (BA.out.mono B5.out.size))
  have z5 := B5.out.size
  generalize w5.alloc (.cells #[.int .i64 big, .int .i64 near, .int .i64 run] 27) = w6 at *
  have BA7 := hide (bAS (Below.refl w6.heap.size w6) (.cells #[] 30))
  have z6 := B6.out.size
  have zP : w5.heap.size < w6.heap.size := (Array.getElem?_eq_some_iff.1 PO.out).1
  have T7 := hide (show TySt w bs (.slice va nb vk) w.heap.size w5.heap.size #[.int .i64 big, .int .i64 near, .int .i64 run] 0 (.slice (some ⟨w6.heap.size, 0, none⟩) 0 0) (w6.alloc (.cells #[] 30)) from ⟨⟨[], ⟨[], World.ownsRow_made w6 #[] 0 z6 (Nat.zero_le _) rfl, rfl, fun k tv hk => by simp at hk⟩, rfl, fun c hc => by cases hc⟩, S6.out.bel BA7.out, B6.out.trans (BA7.out.mono z6), (BA7.out.block _ zP).trans PO.out, Nat.le_refl _, z5⟩)
  clear BA BA7 PO S5 S6 B5 B6 zP
  go_wp2_with fail
  generalize w6.alloc (.cells #[] 30) = w7 at *
  generalize hP : w5.heap.size = P at *
  clear hP
  go_loopw [6, 7] (fun ov i wr => ∃ k : Nat, k ≤ n ∧ i = .int .i64 k ∧ TySt w bs (.slice va nb vk) w.heap.size P #[.int .i64 big, .int .i64 near, .int .i64 run] k ov wr) (fun _ i _ => n - (intOf i).toNat)
  case atStart => exact ⟨0, Nat.zero_le _, rfl, T7.out⟩
  case round =>
    obtain ⟨k, hk, rfl, hS⟩ := hrel
    have HS := hide hS
    clear hS T7
    by_cases hlt : k < n
    · have hlt' : (k : Int) < n := by omega
      have D := hide (drawNN bs _ _ 26 wr HS.out.src (by decide) (by decide))
      go_wp2_with fail
      refine D.out.mono ?_
      rintro e x1 ⟨rr, rfl, hrr, hs1, hg1⟩
      obtain ⟨c, hc⟩ : ∃ x : Int, 97 + rr = x := ⟨_, rfl⟩
      have hcb : 97 ≤ c ∧ c ≤ 122 := by omega
      have hcw : IntKind.u8.wrap c = c := by rw [IntKind.wrap_u8]; omega
      obtain ⟨cs, hty, hcl, hle⟩ := HS.out.ty
      have TY1 := hide (hty.drew HS.out.src hg1)
      have SR1 := hide hs1
      have B1 := hide (HS.out.bel.grown hg1 HS.out.bel.size (fun q hq => by simp at hq; omega))
      have PO1 := hide ((hg1.block P (Array.getElem?_eq_some_iff.1 HS.out.pol).1 (fun e => by obtain ⟨cs9, h9⟩ := HS.out.src.ty; have e2 : P = w.heap.size := (by simpa using e); rw [← e2] at h9; exact ty_ne HS.out.pol h9 (by decide))).trans HS.out.pol)
      have PP := hide HS.out.pp
      have HCL := hide hcl
      have HLE := hide hle
      clear hty hs1 hg1 D HS hcl hle
      have BA := hide (bAS (bAS (Below.refl x1.heap.size x1) (.cells #[.int .u8 c] 5)) (.cells #[.int .i64 1, .int .i64 k, .int .i64 0, .int .i64 0, .slice (some ⟨x1.heap.size, 0, none⟩) 1 1] 30))
      have B2 := hide (B1.out.trans (BA.out.mono B1.out.size))
      have y1 := B1.out.size
      have PO2 := hide ((BA.out.block P (Array.getElem?_eq_some_iff.1 PO1.out).1).trans PO1.out)
      have SR2 := hide (SR1.out.bel BA.out)
      obtain ⟨tvs, t1, t2, t3⟩ := TY1.out.below BA.out
      have TV := hide (show ((x1.alloc (.cells #[.int .u8 c] 5)).alloc (.cells #[.int .i64 1, .int .i64 k, .int .i64 0, .int .i64 0, .slice (some ⟨x1.heap.size, 0, none⟩) 1 1] 30)).ownsRow w.heap.size 5 1 (.slice (some ⟨x1.heap.size, 0, none⟩) 1 1) 1 [.int .u8 c] from World.ownsRow.alloc (owns_base (⟨rfl, .inr ⟨x1.heap.size, 1, _, rfl, Nat.le_refl _, heap_alloc_new x1 (.cells #[.int .u8 c] 5), Nat.le_refl _, by unfold maxLen; omega, rfl, rfl⟩⟩ : (x1.alloc (.cells #[.int .u8 c] 5)).ownsRow x1.heap.size 5 1 (.slice (some ⟨x1.heap.size, 0, none⟩) 1 1) 1 [.int .u8 c]) y1) _)
      rw [HCL.out] at t1 t2
      have T1 := hide t1
      have T2 := hide t2
      have T3 := hide t3
      have NC := hide (show ∀ j u, [.int .i64 1, .int .i64 k, .int .i64 0, .int .i64 0, .slice (some ⟨x1.heap.size, 0, none⟩) 1 1][j]? = some u → ((x1.alloc (.cells #[.int .u8 c] 5)).alloc (.cells #[.int .i64 1, .int .i64 k, .int .i64 0, .int .i64 0, .slice (some ⟨x1.heap.size, 0, none⟩) 1 1] 30)).cell? ((⟨x1.heap.size + 1, 0, none⟩ : Addr).add j) = some u from by
        have h9 := newcells (x1.alloc (.cells #[.int .u8 c] 5)) 30 [.int .i64 1, .int .i64 k, .int .i64 0, .int .i64 0, .slice (some ⟨x1.heap.size, 0, none⟩) 1 1]
        rw [World.size_alloc] at h9
        exact h9)
      have y2 : x1.heap.size ≤ ((x1.alloc (.cells #[.int .u8 c] 5)).alloc (.cells #[.int .i64 1, .int .i64 k, .int .i64 0, .int .i64 0, .slice (some ⟨x1.heap.size, 0, none⟩) 1 1] 30)).heap.size := BA.out.size
      clear t1 t2 t3
      go_wp2_with (at_builtin; refine wpList_append_lies _ rfl _ _ 28 rfl w.heap.size 30 i0 (.agg #[.int .i64 0, .int .i64 0, .int .i64 0, .int .i64 0, .slice none 0 0]) 5 56 Tryz.underlying28 hi0 hz0 hz1 hz2 rfl (by decide) u6 k (opVs 0 tvs) rfl (by exact T1.out) ⟨x1.heap.size + 1, 0, none⟩ 1 1 _ rfl rfl NC.out (by simp [Value.oneCell']) (by omega) (by unfold maxLen; omega) (by omega) (by omega) _ rfl ?_; intro g8 c8 w8 hown8 hgr8 hgq8 hgl8)
      go_roundw
      case rel =>
        refine ⟨k + 1, by omega, by go_num, ⟨cs ++ [c], ?_, by rw [List.length_append, HCL.out]; rfl, fun z hz => ?_⟩, ?_, B2.out.grown hgr8 (by omega) (fun q hq => (T1.out.lt q hq).1), ?_, PP.out⟩
        · exact TyO.app (cs := cs) (c := c) (v' := .slice (some ⟨g8, 0, none⟩) (k + 1) c8) (by rw [HCL.out]; exact T1.out) (by rw [HCL.out]; exact T2.out) T3.out hgr8 (by rw [HCL.out]; exact hown8) TV.out
        · rcases List.mem_append.1 hz with h9 | h9
          · exact HLE.out z h9
          · rw [List.mem_singleton] at h9; omega
        · refine SR2.out.kept2 hgr8 (fun e => ?_) (fun b off cap e0 e e2 => ?_)
          · obtain ⟨cs9, fr9, h9⟩ := own_ty T1.out e
            obtain ⟨cs8, h8⟩ := SR2.out.ty
            exact ty_ne h8 h9 (by decide)
          · have hbl := (T1.out.lt b e2).1
            have := SBL.out b off cap (by have h9 := e; rw [HNB.out] at h9; exact h9) (by have h9 := e0; rw [HNB.out] at h9; exact h9)
            omega
        · refine (hgr8.block P (Array.getElem?_eq_some_iff.1 PO2.out).1 (fun e => ?_)).trans PO2.out
          obtain ⟨cs9, fr9, h9⟩ := own_ty T1.out e.symm
          exact ty_ne PO2.out h9 (by decide)
      case measure => simp [intOf]; omega
    · have hlt' : ¬ (k : Int) < n := by omega
      obtain rfl : k = n := by omega
      obtain ⟨cs, hty, hcl, hle⟩ := HS.out.ty
      have TY := hide hty
      have BEL := hide HS.out.bel
      have POL := hide HS.out.pol
      have PPP := hide HS.out.pp
      have z0 := HS.out.bel.size
      have CPO := hide (fun (W : World) (hW : TyO W w.heap.size u6 cs) => cpOpsT _ _ cs W hW (by rw [hcl]; omega) (by rw [hcl]; omega))
      have OBS := hide (fun (W : World) (C : Nat) (v : Value) (hW : TyO W C v cs) => (by
        have h9 := obsS C 9 v cs W hW hle (by rw [hcl]; omega) (by rw [hcl]; omega) (by omega)
        rw [hcl] at h9
        exact h9 : Calls Tryz.prog 6 #[v, .int .i64 (9 : Nat)] W fun e w' => ∃ ov, e = .returned ov ∧ w'.ownsRow W.heap.size 52 10 ov k (obsF 9 k) ∧ Below W.heap.size W w'))
      have RUN := hide (fun (W : World) (C : Nat) (v : Value) (hW : TyO W C v cs) (hB : Below w.heap.size w W) => (by
        have h9 := runA C v cs big near run W hW hle (by rw [hcl]; omega) (by rw [hcl]; omega) (HT.out.same (hB.block 1 h1)) (by have := hB.size; omega) hu1.1 hr3.1
        rw [hcl] at h9
        exact h9 : Calls Tryz.prog 8 #[v, .int .i64 9, .agg #[.int .i64 big, .int .i64 near, .int .i64 run]] W fun e w' => RunA W k big run e w'))
      clear hty hcl hle HS SBL
      go_wp2_with fail
      refine (CPO.out wr TY.out).mono ?_
      rintro e x1 ⟨v1, rfl, ht1, hb1⟩
      have T1 := hide ht1
      have B1 := hide hb1
      clear ht1 hb1
      go_wp2_with fail
      refine (OBS.out x1 _ v1 T1.out).mono ?_
      rintro e x2 ⟨ov, rfl, ho2, hb2⟩
      have O2 := hide (owns_base ho2 (Nat.zero_le _))
      have B2 := hide (B1.out.trans (hb2.mono B1.out.size))
      have TY2 := hide (TY.out.below B2.out)
      have BE2 := hide (BEL.out.trans (B2.out.mono z0))
      have PO2 := hide ((B2.out.block P (Array.getElem?_eq_some_iff.1 POL.out).1).trans POL.out)
      have z2 := BE2.out.size
      obtain ⟨oa, ok, rfl⟩ : ∃ a c, ov = .slice a k c := by
        rcases ho2.2 with ⟨e, e0⟩ | ⟨g, cap, cur, e, _⟩
        · exact ⟨none, 0, by rw [e, e0]⟩
        · exact ⟨_, _, e⟩
      clear ho2 hb2 T1 B1 OBS TY BEL POL B2
      go_upto_region 12 with fail
      go_cut [9] (fun s9 w9 => OutL w P big near run k (.slice oa k ok) s9 w9)
      case first =>
        have lP := (Array.getElem?_eq_some_iff.1 PO2.out).1
        have PC := hide (show ∀ y : World, Below x2.heap.size x2 y → y.cell? ⟨P, 0, none⟩ = some (.int .i64 big) ∧ y.cell? ⟨P, 1, none⟩ = some (.int .i64 near) ∧ y.cell? ⟨P, 2, none⟩ = some (.int .i64 run) from fun y hy => by
          have h9 := (hy.block P lP).trans PO2.out
          exact ⟨by rw [cell_of_row _ _ 0 _ _ _ h9]; rfl, by rw [cell_of_row _ _ 1 _ _ _ h9]; rfl, by rw [cell_of_row _ _ 2 _ _ _ h9]; rfl⟩)
        refine (wpIn_wide (n := 6)).1 ?_
        refine regionC (fun y => y.cell? ⟨P, 0, none⟩ = some (.int .i64 big) ∧ y.cell? ⟨P, 1, none⟩ = some (.int .i64 near) ∧ y.cell? ⟨P, 2, none⟩ = some (.int .i64 run)) (by kernel_rfl) ?_
        refine tk 0 u6 ?_ ?_
        · intro y hC; obtain ⟨hC1, hC2, hC3⟩ := hC; go_simp
        go_simp
        refine tk 2 (.agg #[.int .i64 big, .int .i64 near, .int .i64 run]) ?_ ?_
        · intro y hC; obtain ⟨hC1, hC2, hC3⟩ := hC; go_simp
        go_simp
        obtain ⟨y0, hy⟩ : ∃ y, y = x2.drew := ⟨_, rfl⟩
        rw [← hy]
        have BY0 := hide (show Below x2.heap.size x2 y0 from by rw [hy]; exact ⟨rfl, rfl, rfl, Nat.le_refl _, fun _ _ => rfl⟩)
        clear hy
        refine tw 1 4 (PC.out _ BY0.out) ?_ ?_
        · skip
          have CX := hide (CPO.out y0 (TY2.out.below BY0.out))
          gi_wp2_with fail
          refine ⟨trivial, (callsIn_wide.2 CX.out).mono ?_⟩
          rintro e y1 ⟨v3, rfl, ht3, hb3⟩
          have T3 := hide ht3
          have BX3 := hide hb3
          have BY1 := hide (BY0.out.trans (hb3.mono BY0.out.size))
          clear ht3 hb3 CX
          gi_wp2_with fail
          refine tw 3 4 (PC.out _ BY1.out) ?_ ?_
          · skip
            have RX := hide (RUN.out y1 _ v3 T3.out (BE2.out.trans (BY1.out.mono z2)))
            gi_wp2_with fail
            refine ⟨trivial, (callsIn_wide.2 RX.out).mono ?_⟩
            rintro e y2 ⟨bo, bl, rfl, hob, hlb, hbr⟩
            have OB5 := hide (owns_base hob (Nat.zero_le _))
            have LB5 := hide (owns_base hlb (Nat.zero_le _))
            have BX5 := hide hbr
            have BY2 := hide (BY1.out.trans (hbr.mono BY1.out.size))
            clear hob hlb hbr RX
            gi_wp2_with fail
            refine on 4 (PC.out _ BY2.out) ?_
            gi_wp2_with fail
            have BXa := hide (bAS (Below.refl y2.heap.size y2) (.cells #[.slice none 0 0, .slice none 0 0, .int .i64 0, .int .i64 0] 36))
            have AA0 := hide (show (y2.alloc (.cells #[.slice none 0 0, .slice none 0 0, .int .i64 0, .int .i64 0] 36)).heap[y2.heap.size]? = some (.cells #[.slice none 0 0, .slice none 0 0, .int .i64 0, .int .i64 0] 36 (0, 0)) from heap_alloc_new _ _)
            have BY3 := hide (BY2.out.trans (BXa.out.mono BY2.out.size))
            have HA := hide (show x2.heap.size ≤ y2.heap.size from BY2.out.size)
            generalize y2.alloc (.cells #[.slice none 0 0, .slice none 0 0, .int .i64 0, .int .i64 0] 36) = y3 at *
            have AX := hide (AA0.out)
            have OBX := hide (owns_below OB5.out BXa.out (Nat.le_refl _))
            have LBX := hide (owns_below LB5.out BXa.out (Nat.le_refl _))
            refine on 5 (PC.out _ BY3.out) ?_
            refine wpListIn_store_mid rfl 36 _ _ rfl y2.heap.size 0 #[.slice (some ⟨bo, 0, none⟩) k k, .slice (some ⟨bl, 0, none⟩) k k, .int .i64 (mvN big run k), .int .i64 0] rfl rfl (thereA AX.out) (by kernel_rfl) (by simp [Value.oneCell']) ?_
            refine wpListIn_nil ?_
            go_simp
            have FIN := hide (outL_of AX.out OBX.out LBX.out (owns_below O2.out BY3.out (Nat.le_refl _)) ((BY3.out.block P lP).trans PO2.out) (BE2.out.trans (BY3.out.mono z2)) (by have := HA.out; omega))
            have C9 := hide (outL_pol FIN.out)
            generalize y3.setCells y2.heap.size 0 (#[.slice (some ⟨bo, 0, none⟩) k k, .slice (some ⟨bl, 0, none⟩) k k, .int .i64 (mvN big run k), .int .i64 0] : Array Value).toList = y9 at *
            refine doneC (by kernel_rfl) C9.out ?_ _
            go_wp2
            go_meet
            exact FIN.out
          · skip
            gi_wp2_with fail
            have BXa := hide (bAS (Below.refl y1.heap.size y1) (.cells #[.slice none 0 0, .slice none 0 0, .int .i64 0, .int .i64 0] 36))
            have AA0 := hide (show (y1.alloc (.cells #[.slice none 0 0, .slice none 0 0, .int .i64 0, .int .i64 0] 36)).heap[y1.heap.size]? = some (.cells #[.slice none 0 0, .slice none 0 0, .int .i64 0, .int .i64 0] 36 (0, 0)) from heap_alloc_new _ _)
            have BY2 := hide (BY1.out.trans (BXa.out.mono BY1.out.size))
            have HA := hide (show x2.heap.size ≤ y1.heap.size from BY1.out.size)
            generalize y1.alloc (.cells #[.slice none 0 0, .slice none 0 0, .int .i64 0, .int .i64 0] 36) = y2 at *
            refine on 3 (PC.out _ BY2.out) ?_
            have RX := hide (RUN.out y2 _ v3 (T3.out.below BXa.out) (BE2.out.trans (BY2.out.mono z2)))
            gi_wp2_with fail
            refine ⟨trivial, (callsIn_wide.2 RX.out).mono ?_⟩
            rintro e y3 ⟨bo, bl, rfl, hob, hlb, hbr⟩
            have OB5 := hide (owns_base hob (Nat.zero_le _))
            have LB5 := hide (owns_base hlb (Nat.zero_le _))
            have BX5 := hide hbr
            have BY3 := hide (BY2.out.trans (hbr.mono BY2.out.size))
            clear hob hlb hbr RX
            gi_wp2_with fail
            have AX := hide ((BX5.out.block _ (Array.getElem?_eq_some_iff.1 AA0.out).1).trans AA0.out)
            have OBX := hide (OB5.out)
            have LBX := hide (LB5.out)
            refine on 5 (PC.out _ BY3.out) ?_
            refine wpListIn_store_mid rfl 36 _ _ rfl y1.heap.size 0 #[.slice (some ⟨bo, 0, none⟩) k k, .slice (some ⟨bl, 0, none⟩) k k, .int .i64 (mvN big run k), .int .i64 0] rfl rfl (thereA AX.out) (by kernel_rfl) (by simp [Value.oneCell']) ?_
            refine wpListIn_nil ?_
            go_simp
            have FIN := hide (outL_of AX.out OBX.out LBX.out (owns_below O2.out BY3.out (Nat.le_refl _)) ((BY3.out.block P lP).trans PO2.out) (BE2.out.trans (BY3.out.mono z2)) (by have := HA.out; omega))
            have C9 := hide (outL_pol FIN.out)
            generalize y3.setCells y1.heap.size 0 (#[.slice (some ⟨bo, 0, none⟩) k k, .slice (some ⟨bl, 0, none⟩) k k, .int .i64 (mvN big run k), .int .i64 0] : Array Value).toList = y9 at *
            refine doneC (by kernel_rfl) C9.out ?_ _
            go_wp2
            go_meet
            exact FIN.out
        · skip
          gi_wp2_with fail
          have BXa := hide (bAS (Below.refl y0.heap.size y0) (.cells #[.slice none 0 0, .slice none 0 0, .int .i64 0, .int .i64 0] 36))
          have AA0 := hide (show (y0.alloc (.cells #[.slice none 0 0, .slice none 0 0, .int .i64 0, .int .i64 0] 36)).heap[y0.heap.size]? = some (.cells #[.slice none 0 0, .slice none 0 0, .int .i64 0, .int .i64 0] 36 (0, 0)) from heap_alloc_new _ _)
          have BY1 := hide (BY0.out.trans (BXa.out.mono BY0.out.size))
          have HA := hide (show x2.heap.size ≤ y0.heap.size from BY0.out.size)
          generalize y0.alloc (.cells #[.slice none 0 0, .slice none 0 0, .int .i64 0, .int .i64 0] 36) = y1 at *
          refine on 1 (PC.out _ BY1.out) ?_
          have CX := hide (CPO.out y1 (TY2.out.below BY1.out))
          gi_wp2_with fail
          refine ⟨trivial, (callsIn_wide.2 CX.out).mono ?_⟩
          rintro e y2 ⟨v3, rfl, ht3, hb3⟩
          have T3 := hide ht3
          have BX3 := hide hb3
          have BY2 := hide (BY1.out.trans (hb3.mono BY1.out.size))
          clear ht3 hb3 CX
          gi_wp2_with fail
          refine on 3 (PC.out _ BY2.out) ?_
          have RX := hide (RUN.out y2 _ v3 T3.out (BE2.out.trans (BY2.out.mono z2)))
          gi_wp2_with fail
          refine ⟨trivial, (callsIn_wide.2 RX.out).mono ?_⟩
          rintro e y3 ⟨bo, bl, rfl, hob, hlb, hbr⟩
          have OB5 := hide (owns_base hob (Nat.zero_le _))
          have LB5 := hide (owns_base hlb (Nat.zero_le _))
          have BX5 := hide hbr
          have BY3 := hide (BY2.out.trans (hbr.mono BY2.out.size))
          clear hob hlb hbr RX
          gi_wp2_with fail
          have AX := hide ((BX5.out.block _ (by have := (Array.getElem?_eq_some_iff.1 AA0.out).1; have := BX3.out.size; omega)).trans ((BX3.out.block _ (Array.getElem?_eq_some_iff.1 AA0.out).1).trans AA0.out))
          have OBX := hide (OB5.out)
          have LBX := hide (LB5.out)
          refine on 5 (PC.out _ BY3.out) ?_
          refine wpListIn_store_mid rfl 36 _ _ rfl y0.heap.size 0 #[.slice (some ⟨bo, 0, none⟩) k k, .slice (some ⟨bl, 0, none⟩) k k, .int .i64 (mvN big run k), .int .i64 0] rfl rfl (thereA AX.out) (by kernel_rfl) (by simp [Value.oneCell']) ?_
          refine wpListIn_nil ?_
          go_simp
          have FIN := hide (outL_of AX.out OBX.out LBX.out (owns_below O2.out BY3.out (Nat.le_refl _)) ((BY3.out.block P lP).trans PO2.out) (BE2.out.trans (BY3.out.mono z2)) (by have := HA.out; omega))
          have C9 := hide (outL_pol FIN.out)
          generalize y3.setCells y0.heap.size 0 (#[.slice (some ⟨bo, 0, none⟩) k k, .slice (some ⟨bl, 0, none⟩) k k, .int .i64 (mvN big run k), .int .i64 0] : Array Value).toList = y9 at *
          refine doneC (by kernel_rfl) C9.out ?_ _
          go_wp2
          go_meet
          exact FIN.out
      case rest =>
        obtain ⟨a, bo, bl, rfl, hA, hO, hLv, hV, hP, hB⟩ := hcut
        have SM := hide (smRunT 0 0 9 k _ _ wc hO hV (by omega) (by omega))
        have a0 : wc.cell? ⟨a, 0, none⟩ = some (.slice (some ⟨bo, 0, none⟩) k k) := by rw [cell_of_row _ _ 0 _ _ _ hA]; rfl
        have HA := hide hA
        have HL := hide hLv
        have HP := hide hP
        have HB := hide hB
        clear hA hO hLv hV hP hB CPO RUN TY2 BE2 PO2 O2
        go_wp2_with fail
        refine SM.out.mono ?_
        rintro e x ⟨rfl, hbx⟩
        have A1 := hide ((hbx.block a (Array.getElem?_eq_some_iff.1 HA.out).1).trans HA.out)
        have P1 := hide ((hbx.block P (Array.getElem?_eq_some_iff.1 HP.out).1).trans HP.out)
        have L1 := hide (owns_below HL.out hbx (Nat.le_refl _))
        have B1 := hide (HB.out.trans (hbx.mono HB.out.size))
        clear hbx SM HA HL HP HB a0
        have a1 : x.cell? ⟨a, 1, none⟩ = some (.slice (some ⟨bl, 0, none⟩) k k) := by rw [cell_of_row _ _ 1 _ _ _ A1.out]; rfl
        have a2 : x.cell? ⟨a, 2, none⟩ = some (.int .i64 (mvN big run k)) := by rw [cell_of_row _ _ 2 _ _ _ A1.out]; rfl
        have p0 : x.cell? ⟨P, 0, none⟩ = some (.int .i64 big) := by rw [cell_of_row _ _ 0 _ _ _ P1.out]; rfl
        have p2 : x.cell? ⟨P, 2, none⟩ = some (.int .i64 run) := by rw [cell_of_row _ _ 2 _ _ _ P1.out]; rfl
        have LC := hide (show ∀ j, j < k → x.cell? ⟨bl, j, none⟩ = some (.int .i64 (lvN big run j)) from fun j hj => by
          rw [owns_cell L1.out j hj]
          congr 2
          simp [lvs, List.getD_eq_getElem?_getD, hj])
        go_wp2_with fail
        go_loop [10, 11, 12] (fun mv ws i => ∃ j : Nat, j ≤ k ∧ i = .int .i64 j ∧ mv = .int .i64 (mvN big run j) ∧ ws = .int .i64 (wasN big run j)) (fun _ _ i => k - (intOf i).toNat)
        case atStart => exact ⟨0, Nat.zero_le _, rfl, rfl, rfl⟩
        case round =>
          obtain ⟨j, hj, rfl, rfl, rfl⟩ := hrel
          have mb := mvN_bd big run j
          by_cases hjl : j < k
          · have hjl' : (j : Int) < k := by omega
            have lc := LC.out j hjl
            have MV := hide (show mvN big run (j + 1) = mvN big run j + if lvN big run j = wasN big run j then 0 else 1 from rfl)
            have WS := hide (show wasN big run (j + 1) = lvN big run j from rfl)
            have CND := hide (show lvN big run j = if run ≤ (j : Int) ∧ (j : Int) + 1 < big then 1 else 0 from rfl)
            rcases was_01 big run j with hw | hw
            all_goals
              by_cases hc1 : run ≤ (j : Int)
              · by_cases hc2 : (j : Int) + 1 < big
                · have hv : lvN big run j = 1 := by rw [CND.out, if_pos ⟨hc1, hc2⟩]
                  rw [hv] at lc MV WS
                  rw [hw] at MV
                  rw [hw]
                  generalize mvN big run j = m1 at *
                  clear hv hw CND
                  go_wp2
                  go_roundw
                  case rel => exact ⟨j + 1, by omega, by go_num, by rw [MV.out]; simp, by rw [WS.out]⟩
                  case measure => simp [intOf]; omega
                · have hv : lvN big run j = 0 := by rw [CND.out, if_neg (fun h => hc2 h.2)]
                  rw [hv] at lc MV WS
                  rw [hw] at MV
                  rw [hw]
                  generalize mvN big run j = m1 at *
                  clear hv hw CND
                  go_wp2
                  go_roundw
                  case rel => exact ⟨j + 1, by omega, by go_num, by rw [MV.out]; simp, by rw [WS.out]⟩
                  case measure => simp [intOf]; omega
              · have hv : lvN big run j = 0 := by rw [CND.out, if_neg (fun h => hc1 h.1)]
                rw [hv] at lc MV WS
                rw [hw] at MV
                rw [hw]
                generalize mvN big run j = m1 at *
                clear hv hw CND
                go_wp2
                go_roundw
                case rel => exact ⟨j + 1, by omega, by go_num, by rw [MV.out]; simp, by rw [WS.out]⟩
                case measure => simp [intOf]; omega
          · have hjl' : ¬ (j : Int) < k := by omega
            obtain rfl : j = k := by omega
            clear LC
            go_wp2
            go_ret
            exact ⟨by simp, B1.out⟩
end Go.Proofs.YtbkcbhjejkicjaaGreatDoor

