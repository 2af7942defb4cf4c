import Derived.Test.YtmpclndnjjhijabDoorProg
import Derived.Test.YtmpclndnjjhijabDoorTo32
import Derived.Test.YtmpclndnjjhijabDoorTo8
import Derived.Test.YtmpclndnjjhijabDoorEq32
import Derived.Test.YtmpclndnjjhijabDoorEq8
import Derived.Test.YtmpclndnjjhijabDoorMark32
import Derived.Test.YtmpclndnjjhijabDoorMark8
import Derived.Test.YtmpclndnjjhijabDoorHeld32
import Derived.Test.YtmpclndnjjhijabDoorSpecApp
import Derived.WalkKit
import Derived.WalkLawsBesides
namespace Go.Proofs.YtmpclndnjjhijabDoor
open Go Go.RowKit
set_option linter.unusedVariables false

theorem owns_lt {w : World} {base : Nat} {e : TypeId} {size : Nat} {v : Value} {n : Nat} {xs : List Value} (h : w.ownsRow base e size v n xs) {k : Nat} (hk : v.ownBlock = some k) : base ≤ k ∧ k < w.heap.size := h.lt k hk
theorem eq32' (xs : List Int) (v u : Value) (w : World) (h1 : Rd .i32 w v xs) (h2 : Rd .i32 w u xs) (hn : xs.length ≤ 1099511627776) :
    Calls Tryd.prog 8 #[v, u] w fun e w' => e = .returned (.bool true) ∧ Below w.heap.size w w' :=
  (eq32 xs v u w h1 h2 hn).mono fun e w' ⟨he, n, hw⟩ => ⟨he, by subst hw; exact ⟨rfl, rfl, rfl, Nat.le_refl _, fun _ _ => rfl⟩⟩
theorem eq8' (xs : List Int) (v u : Value) (w : World) (h1 : Rd .u8 w v xs) (h2 : Rd .u8 w u xs) (hn : xs.length ≤ 1099511627776) :
    Calls Tryd.prog 10 #[v, u] w fun e w' => e = .returned (.bool true) ∧ Below w.heap.size w w' :=
  (eq8 xs v u w h1 h2 hn).mono fun e w' ⟨he, n, hw⟩ => ⟨he, by subst hw; exact ⟨rfl, rfl, rfl, Nat.le_refl _, fun _ _ => rfl⟩⟩

/-- A span in memory. -/
def Sp (w : World) (p : Nat) (o l : Int) : Prop := w.heap[p]? = some (.cells #[.int .i64 o, .int .i64 l] 25 (0, 0))
theorem Sp.lt {w : World} {p : Nat} {o l : Int} (h : Sp w p o l) : p < w.heap.size := by
  rcases Nat.lt_or_ge p w.heap.size with g | g
  · exact g
  · unfold Sp at h; rw [Array.getElem?_eq_none g] at h; cases h
theorem Sp.below {w w' : World} {p : Nat} {o l : Int} (h : Sp w p o l) (hb : Below w.heap.size w w') : Sp w' p o l := (hb.block p h.lt).trans h
theorem Sp.grown {w w' : World} {p : Nat} {o l : Int} {row : Option Nat} (h : Sp w p o l) (hg : w.grownBy w' row) (hn : some p ≠ row) : Sp w' p o l := (hg.block p h.lt hn).trans h
theorem Sp.c0 {w : World} {p : Nat} {o l : Int} (h : Sp w p o l) : w.cell? ⟨p, 0, none⟩ = some (.int .i64 o) := by rw [cell_of_row w p 0 _ _ _ h]; rfl
theorem Sp.c1 {w : World} {p : Nat} {o l : Int} (h : Sp w p o l) : w.cell? ⟨p, 1, none⟩ = some (.int .i64 l) := by rw [cell_of_row w p 1 _ _ _ h]; rfl
theorem Sp.new (w : World) (o l : Int) : Sp (w.alloc (.cells #[.int .i64 o, .int .i64 l] 25)) w.heap.size o l := heap_alloc_new _ _
theorem Below.sz {w w' : World} {B : Nat} (h : Below B w w') : w.heap.size ≤ w'.heap.size := h.size

set_option maxHeartbeats 8000000 in
set_option maxRecDepth 100000 in
theorem appLaw (xs bs : List Int) (v1 v2 : Value) (w : World) (h1 : Rd .i32 w v1 xs) (h2 : Rd .u8 w v2 bs) (hby : bytes bs) (hx : xs.length ≤ 1048576) (hb : bs.length ≤ 1048576) (hT : Tab w) (hg : w.cell? ⟨0, 0, none⟩ = some (.iface 80 (.agg #[.pointer (some ⟨2, 38, none⟩)]))) :
    Calls Tryd.prog 3 #[v1, v2] w fun e w' => e = .returned (.bool true) ∧ Below w.heap.size w w' := by
  have hlt0 : 0 < w.heap.size := World.block_lt_of_cell? w _ hg
  have hlen := appOut_len xs (decs bs)
  have SP := hide (fun b vb W hS hB => specApp xs bs (.slice (some ⟨b, 0, none⟩) xs.length xs.length) vb W b 0 xs.length rfl hS hB hby hx hb)
  have IM := hide (fun vs vb W hS hB hT hg => implApp xs bs vs vb W hS hB hby hT hg hx hb)
  obtain ⟨ys, o, l, cd, hR⟩ : ∃ ys o l cd, appOut xs (decs bs) = (ys, o, l, cd) := ⟨_, _, _, _, rfl⟩
  simp only [hR] at SP IM hlen
  clear hR
  have hcd : (cd != cd) = false := by simp
  have hv1 : ∃ ao cap, v1 = .slice ao xs.length cap := by
    rcases h1 with ⟨ao, cap, rfl, rfl⟩ | ⟨b, off, cap, rfl, _⟩
    · exact ⟨_, _, rfl⟩
    · exact ⟨_, _, rfl⟩
  obtain ⟨ao1, cap1, rfl⟩ := hv1
  have hv2 : ∃ ao cap, v2 = .slice ao bs.length cap := by
    rcases h2 with ⟨ao, cap, rfl, rfl⟩ | ⟨b, off, cap, rfl, _⟩
    · exact ⟨_, _, rfl⟩
    · exact ⟨_, _, rfl⟩
  obtain ⟨ao2, cap2, rfl⟩ := hv2
  have hgt1 : ¬ (1048576 : Int) < (xs.length : Int) := by omega
  have hgt2 : ¬ (1048576 : Int) < (bs.length : Int) := by omega
  have H1 := hide h1
  have H2 := hide h2
  have HT := hide hT
  have HG := hide hg
  have HG' := hide (fun (W : World) (hW : Below w.heap.size w W) => (hW.cell (p := ⟨0, 0, none⟩) hlt0).trans hg)
  clear h1 h2 hT hg
  go_enter Tryd.func3, Tryd.ntmps3
  go_wp2_with fail
  refine (to32 xs _ _ H1.out (by omega)).mono ?_
  rintro e t1 ⟨rfl, ho, hb⟩
  have B_t1 := hide hb
  have m_t1 : w.heap.size ≤ t1.heap.size := hb.size
  have n_t1 := B_t1.out.size
  have OA_t1 := hide ho
  have L_OA := hide ((owns_lt ho (k := w.heap.size) rfl).2)
  clear ho hb
  go_wp2_with fail
  refine (to8 bs _ _ (H2.out.below B_t1.out) (by omega)).mono ?_
  rintro e t2 ⟨rfl, ho, hb⟩
  have OA_t2 := hide (owns_below OA_t1.out hb (Nat.le_refl _))
  have B_t2 := hide (B_t1.out.trans (hb.mono B_t1.out.size))
  have m_t2 : t1.heap.size ≤ t2.heap.size := hb.size
  have n_t2 := B_t2.out.size
  have OB_t2 := hide ho
  have L_OB := hide ((owns_lt ho (k := t1.heap.size) rfl).2)
  clear ho hb OA_t1 B_t1
  go_wp2_with fail
  refine (SP.out _ _ _ (Sl.of_owns OA_t2.out) (Rd.of_owns OB_t2.out)).mono ?_
  rintro e t3 ⟨v0, rfl, ho, hb⟩
  clear OA_t2
  clear OB_t2
  have B_t3 := hide (B_t2.out.trans (hb.mono B_t2.out.size))
  have m_t3 : t2.heap.size ≤ t3.heap.size := hb.size
  have n_t3 := B_t3.out.size
  have OW_t3 := hide ho
  have L_OW := hide (fun k hk => owns_lt ho (k := k) hk)
  clear ho hb B_t2
  go_wp2_with fail
  have hbn : Below t3.heap.size t3 (t3.alloc (.cells #[.int .i64 o, .int .i64 l] 25)) := (Below.refl _ _).alloc (Nat.le_refl _) _
  have hsn := Sp.new t3 o l
  have hzn : (t3.alloc (.cells #[.int .i64 o, .int .i64 l] 25)).heap.size = t3.heap.size + 1 := by simp
  generalize t3.alloc (.cells #[.int .i64 o, .int .i64 l] 25) = u1 at *
  have OW_u1 := hide (owns_below OW_t3.out hbn (Nat.le_refl _))
  have B_u1 := hide (B_t3.out.trans (hbn.mono B_t3.out.size))
  have m_u1 : t3.heap.size ≤ u1.heap.size := hbn.size
  have n_u1 := B_u1.out.size
  have P6_u1 := hide hsn
  have z_u1 := hide hzn
  clear hbn hsn hzn OW_t3 B_t3
  refine (to32 xs _ _ (H1.out.below B_u1.out) (by omega)).mono ?_
  rintro e u2 ⟨rfl, ho, hb⟩
  have OW_u2 := hide (owns_below OW_u1.out hb (Nat.le_refl _))
  have P6_u2 := hide (P6_u1.out.below hb)
  have B_u2 := hide (B_u1.out.trans (hb.mono B_u1.out.size))
  have m_u2 : u1.heap.size ≤ u2.heap.size := hb.size
  have n_u2 := B_u2.out.size
  have OX_u2 := hide ho
  have L_OX := hide ((owns_lt ho (k := u1.heap.size) rfl).2)
  clear ho hb OW_u1 P6_u1 B_u1
  go_wp2_with fail
  refine (to8 bs _ _ (H2.out.below B_u2.out) (by omega)).mono ?_
  rintro e u3 ⟨rfl, ho, hb⟩
  have OW_u3 := hide (owns_below OW_u2.out hb (Nat.le_refl _))
  have OX_u3 := hide (owns_below OX_u2.out hb (Nat.le_refl _))
  have P6_u3 := hide (P6_u2.out.below hb)
  have B_u3 := hide (B_u2.out.trans (hb.mono B_u2.out.size))
  have m_u3 : u2.heap.size ≤ u3.heap.size := hb.size
  have n_u3 := B_u3.out.size
  have OY_u3 := hide ho
  have L_OY := hide ((owns_lt ho (k := u2.heap.size) rfl).2)
  clear ho hb OW_u2 OX_u2 P6_u2 B_u2
  go_wp2_with fail
  refine (IM.out _ _ _ (Sl.of_owns OX_u3.out) (Rd.of_owns OY_u3.out) (tab_below HT.out B_u3.out (Nat.le_refl _)) (HG'.out _ B_u3.out)).mono ?_
  rintro e u4 ⟨g0, rfl, ho, hb⟩
  have OW_u4 := hide (owns_below OW_u3.out hb (Nat.le_refl _))
  have OX_u4 := hide (owns_below OX_u3.out hb (Nat.le_refl _))
  have OY_u4 := hide (owns_below OY_u3.out hb (Nat.le_refl _))
  have P6_u4 := hide (P6_u3.out.below hb)
  have B_u4 := hide (B_u3.out.trans (hb.mono B_u3.out.size))
  have m_u4 : u3.heap.size ≤ u4.heap.size := hb.size
  have n_u4 := B_u4.out.size
  have OG_u4 := hide ho
  have L_OG := hide (fun k hk => owns_lt ho (k := k) hk)
  clear ho hb OW_u3 OX_u3 OY_u3 P6_u3 B_u3
  go_wp2_with fail
  have hbn : Below u4.heap.size u4 (u4.alloc (.cells #[.int .i64 o, .int .i64 l] 25)) := (Below.refl _ _).alloc (Nat.le_refl _) _
  have hsn := Sp.new u4 o l
  have hzn : (u4.alloc (.cells #[.int .i64 o, .int .i64 l] 25)).heap.size = u4.heap.size + 1 := by simp
  generalize u4.alloc (.cells #[.int .i64 o, .int .i64 l] 25) = u5 at *
  have OW_u5 := hide (owns_below OW_u4.out hbn (Nat.le_refl _))
  have OX_u5 := hide (owns_below OX_u4.out hbn (Nat.le_refl _))
  have OY_u5 := hide (owns_below OY_u4.out hbn (Nat.le_refl _))
  have OG_u5 := hide (owns_below OG_u4.out hbn (Nat.le_refl _))
  have P6_u5 := hide (P6_u4.out.below hbn)
  have B_u5 := hide (B_u4.out.trans (hbn.mono B_u4.out.size))
  have m_u5 : u4.heap.size ≤ u5.heap.size := hbn.size
  have n_u5 := B_u5.out.size
  have P11_u5 := hide hsn
  have z_u5 := hide hzn
  clear hbn hsn hzn OW_u4 OX_u4 OY_u4 OG_u4 P6_u4 B_u4
  refine (eq32' ys _ _ _ (Rd.of_owns OG_u5.out) (Rd.of_owns OW_u5.out) (by omega)).mono ?_
  rintro e u6 ⟨rfl, hb⟩
  have OW_u6 := hide (owns_below OW_u5.out hb (Nat.le_refl _))
  have OX_u6 := hide (owns_below OX_u5.out hb (Nat.le_refl _))
  have OY_u6 := hide (owns_below OY_u5.out hb (Nat.le_refl _))
  have OG_u6 := hide (owns_below OG_u5.out hb (Nat.le_refl _))
  have P6_u6 := hide (P6_u5.out.below hb)
  have P11_u6 := hide (P11_u5.out.below hb)
  have B_u6 := hide (B_u5.out.trans (hb.mono B_u5.out.size))
  have m_u6 : u5.heap.size ≤ u6.heap.size := hb.size
  have n_u6 := B_u6.out.size
  clear hb OW_u5 OX_u5 OY_u5 OG_u5 P6_u5 P11_u5 B_u5
  have c0 := P11_u6.out.c0
  have c1 := P11_u6.out.c1
  have d0 := P6_u6.out.c0
  have d1 := P6_u6.out.c1
  go_wp2_with fail
  refine (eqSpan o l _).mono ?_
  rintro e u7 ⟨rfl, hb⟩
  have OW_u7 := hide (owns_below OW_u6.out hb (Nat.le_refl _))
  have OX_u7 := hide (owns_below OX_u6.out hb (Nat.le_refl _))
  have OY_u7 := hide (owns_below OY_u6.out hb (Nat.le_refl _))
  have OG_u7 := hide (owns_below OG_u6.out hb (Nat.le_refl _))
  have P6_u7 := hide (P6_u6.out.below hb)
  have P11_u7 := hide (P11_u6.out.below hb)
  have B_u7 := hide (B_u6.out.trans (hb.mono B_u6.out.size))
  have m_u7 : u6.heap.size ≤ u7.heap.size := hb.size
  have n_u7 := B_u7.out.size
  clear hb c0 c1 d0 d1 OW_u6 OX_u6 OY_u6 OG_u6 P6_u6 P11_u6 B_u6
  go_wp2_with fail
  refine (to32 xs _ _ (H1.out.below B_u7.out) (by omega)).mono ?_
  rintro e u8 ⟨rfl, ho, hb⟩
  have OW_u8 := hide (owns_below OW_u7.out hb (Nat.le_refl _))
  have OX_u8 := hide (owns_below OX_u7.out hb (Nat.le_refl _))
  have OY_u8 := hide (owns_below OY_u7.out hb (Nat.le_refl _))
  have OG_u8 := hide (owns_below OG_u7.out hb (Nat.le_refl _))
  have P6_u8 := hide (P6_u7.out.below hb)
  have P11_u8 := hide (P11_u7.out.below hb)
  have B_u8 := hide (B_u7.out.trans (hb.mono B_u7.out.size))
  have m_u8 : u7.heap.size ≤ u8.heap.size := hb.size
  have n_u8 := B_u8.out.size
  have OT_u8 := hide ho
  have L_OT := hide ((owns_lt ho (k := u7.heap.size) rfl).2)
  clear ho hb OW_u7 OX_u7 OY_u7 OG_u7 P6_u7 P11_u7 B_u7
  go_wp2_with fail
  refine (eq32' xs _ _ _ (Rd.of_owns OX_u8.out) (Rd.of_owns OT_u8.out) (by omega)).mono ?_
  rintro e u9 ⟨rfl, hb⟩
  have OW_u9 := hide (owns_below OW_u8.out hb (Nat.le_refl _))
  have OX_u9 := hide (owns_below OX_u8.out hb (Nat.le_refl _))
  have OY_u9 := hide (owns_below OY_u8.out hb (Nat.le_refl _))
  have OG_u9 := hide (owns_below OG_u8.out hb (Nat.le_refl _))
  have OT_u9 := hide (owns_below OT_u8.out hb (Nat.le_refl _))
  have P6_u9 := hide (P6_u8.out.below hb)
  have P11_u9 := hide (P11_u8.out.below hb)
  have B_u9 := hide (B_u8.out.trans (hb.mono B_u8.out.size))
  have m_u9 : u8.heap.size ≤ u9.heap.size := hb.size
  have n_u9 := B_u9.out.size
  clear hb OW_u8 OX_u8 OY_u8 OG_u8 OT_u8 P6_u8 P11_u8 B_u8
  clear OT_u9
  go_wp2_with fail
  refine (to8 bs _ _ (H2.out.below B_u9.out) (by omega)).mono ?_
  rintro e x1 ⟨rfl, ho, hb⟩
  have OW_x1 := hide (owns_below OW_u9.out hb (Nat.le_refl _))
  have OX_x1 := hide (owns_below OX_u9.out hb (Nat.le_refl _))
  have OY_x1 := hide (owns_below OY_u9.out hb (Nat.le_refl _))
  have OG_x1 := hide (owns_below OG_u9.out hb (Nat.le_refl _))
  have P6_x1 := hide (P6_u9.out.below hb)
  have P11_x1 := hide (P11_u9.out.below hb)
  have B_x1 := hide (B_u9.out.trans (hb.mono B_u9.out.size))
  have m_x1 : u9.heap.size ≤ x1.heap.size := hb.size
  have n_x1 := B_x1.out.size
  have OT_x1 := hide ho
  have L_OT := hide ((owns_lt ho (k := u9.heap.size) rfl).2)
  clear ho hb OW_u9 OX_u9 OY_u9 OG_u9 P6_u9 P11_u9 B_u9
  go_wp2_with fail
  refine (eq8' bs _ _ _ (Rd.of_owns OY_x1.out) (Rd.of_owns OT_x1.out) (by omega)).mono ?_
  rintro e x2 ⟨rfl, hb⟩
  have OW_x2 := hide (owns_below OW_x1.out hb (Nat.le_refl _))
  have OX_x2 := hide (owns_below OX_x1.out hb (Nat.le_refl _))
  have OY_x2 := hide (owns_below OY_x1.out hb (Nat.le_refl _))
  have OG_x2 := hide (owns_below OG_x1.out hb (Nat.le_refl _))
  have OT_x2 := hide (owns_below OT_x1.out hb (Nat.le_refl _))
  have P6_x2 := hide (P6_x1.out.below hb)
  have P11_x2 := hide (P11_x1.out.below hb)
  have B_x2 := hide (B_x1.out.trans (hb.mono B_x1.out.size))
  have m_x2 : x1.heap.size ≤ x2.heap.size := hb.size
  have n_x2 := B_x2.out.size
  clear hb OW_x1 OX_x1 OY_x1 OG_x1 OT_x1 P6_x1 P11_x1 B_x1
  clear OT_x2
  go_wp2_with fail
  refine (mark32 xs _ _ _ 1 _ OX_x2.out (by omega) (by omega) (by omega)).mono ?_
  rintro e x3 ⟨rfl, ho, hg⟩
  have OW_x3 := hide (OW_x2.out.kept hg (by cases hgb : v0.ownBlock with | none => exact .inl rfl | some k => right; intro e; have r := L_OW.out k hgb; have q1 := z_u1.out; have q2 := z_u5.out; have q3 := L_OX.out; have q4 := L_OY.out; simp only [Value.ownBlock, Option.some.injEq] at e; omega))
  have OY_x3 := hide (OY_x2.out.kept hg (by right; intro e; have q1 := z_u1.out; have q2 := z_u5.out; have q3 := L_OX.out; have q4 := L_OY.out; simp only [Value.ownBlock, Option.some.injEq] at e; omega))
  have OG_x3 := hide (OG_x2.out.kept hg (by cases hgb : g0.ownBlock with | none => exact .inl rfl | some k => right; intro e; have r := L_OG.out k hgb; have q1 := z_u1.out; have q2 := z_u5.out; have q3 := L_OX.out; have q4 := L_OY.out; simp only [Value.ownBlock, Option.some.injEq] at e; omega))
  have P6_x3 := hide (P6_x2.out.grown hg (by intro e; have q1 := z_u1.out; have q2 := z_u5.out; have q3 := L_OX.out; have q4 := L_OY.out; simp only [Value.ownBlock, Option.some.injEq] at e; omega))
  have P11_x3 := hide (P11_x2.out.grown hg (by intro e; have q1 := z_u1.out; have q2 := z_u5.out; have q3 := L_OX.out; have q4 := L_OY.out; simp only [Value.ownBlock, Option.some.injEq] at e; omega))
  have B_x3 := hide (B_x2.out.grown hg n_x2 (by intro k hk; simp only [Value.ownBlock, Option.some.injEq] at hk; omega))
  have m_x3 : x2.heap.size ≤ x3.heap.size := hg.size
  have n_x3 := B_x3.out.size
  clear ho hg OW_x2 OX_x2 OY_x2 OG_x2 P6_x2 P11_x2 B_x2
  go_wp2_with fail
  refine (mark8 bs _ _ _ (1 + xs.length) _ OY_x3.out (by omega) (by omega) (by omega)).mono ?_
  rintro e x4 ⟨rfl, ho, hg⟩
  have OW_x4 := hide (OW_x3.out.kept hg (by cases hgb : v0.ownBlock with | none => exact .inl rfl | some k => right; intro e; have r := L_OW.out k hgb; have q1 := z_u1.out; have q2 := z_u5.out; have q3 := L_OX.out; have q4 := L_OY.out; simp only [Value.ownBlock, Option.some.injEq] at e; omega))
  have OG_x4 := hide (OG_x3.out.kept hg (by cases hgb : g0.ownBlock with | none => exact .inl rfl | some k => right; intro e; have r := L_OG.out k hgb; have q1 := z_u1.out; have q2 := z_u5.out; have q3 := L_OX.out; have q4 := L_OY.out; simp only [Value.ownBlock, Option.some.injEq] at e; omega))
  have P6_x4 := hide (P6_x3.out.grown hg (by intro e; have q1 := z_u1.out; have q2 := z_u5.out; have q3 := L_OX.out; have q4 := L_OY.out; simp only [Value.ownBlock, Option.some.injEq] at e; omega))
  have P11_x4 := hide (P11_x3.out.grown hg (by intro e; have q1 := z_u1.out; have q2 := z_u5.out; have q3 := L_OX.out; have q4 := L_OY.out; simp only [Value.ownBlock, Option.some.injEq] at e; omega))
  have B_x4 := hide (B_x3.out.grown hg n_x3 (by intro k hk; simp only [Value.ownBlock, Option.some.injEq] at hk; omega))
  have m_x4 : x3.heap.size ≤ x4.heap.size := hg.size
  have n_x4 := B_x4.out.size
  have hk0 : ¬ (1 + (xs.length : Int) + (bs.length : Int)) < 0 := by omega
  clear ho hg OW_x3 OY_x3 OG_x3 P6_x3 P11_x3 B_x3
  go_wp2_with fail
  refine (eq32' ys _ _ _ (Rd.of_owns OG_x4.out) (Rd.of_owns OW_x4.out) (by omega)).mono ?_
  rintro e x5 ⟨rfl, hb⟩
  have OW_x5 := hide (owns_below OW_x4.out hb (Nat.le_refl _))
  have OG_x5 := hide (owns_below OG_x4.out hb (Nat.le_refl _))
  have P6_x5 := hide (P6_x4.out.below hb)
  have P11_x5 := hide (P11_x4.out.below hb)
  have B_x5 := hide (B_x4.out.trans (hb.mono B_x4.out.size))
  have m_x5 : x4.heap.size ≤ x5.heap.size := hb.size
  have n_x5 := B_x5.out.size
  clear hb OW_x4 OG_x4 P6_x4 P11_x4 B_x4
  have c0 := P11_x5.out.c0
  have c1 := P11_x5.out.c1
  have d0 := P6_x5.out.c0
  have d1 := P6_x5.out.c1
  go_wp2_with fail
  refine (eqSpan o l _).mono ?_
  rintro e x6 ⟨rfl, hb⟩
  have OW_x6 := hide (owns_below OW_x5.out hb (Nat.le_refl _))
  have OG_x6 := hide (owns_below OG_x5.out hb (Nat.le_refl _))
  have P6_x6 := hide (P6_x5.out.below hb)
  have P11_x6 := hide (P11_x5.out.below hb)
  have B_x6 := hide (B_x5.out.trans (hb.mono B_x5.out.size))
  have m_x6 : x5.heap.size ≤ x6.heap.size := hb.size
  have n_x6 := B_x6.out.size
  clear hb c0 c1 d0 d1 OW_x5 OG_x5 P6_x5 P11_x5 B_x5
  go_wp2_with fail
  refine (mark32 ys _ _ _ 1 _ OG_x6.out (by omega) (by omega) (by omega)).mono ?_
  rintro e x7 ⟨rfl, ho, hg⟩
  have OW_x7 := hide (OW_x6.out.kept hg (by cases hgb : v0.ownBlock with | none => exact .inl rfl | some k => right; intro e; have r := L_OW.out k hgb; have r2 := L_OG.out k e.symm; have q1 := z_u1.out; have q2 := z_u5.out; have q3 := L_OX.out; have q4 := L_OY.out; omega))
  have P6_x7 := hide (P6_x6.out.grown hg (by intro e; have r2 := L_OG.out _ e.symm; have q1 := z_u1.out; have q2 := z_u5.out; have q3 := L_OX.out; have q4 := L_OY.out; omega))
  have P11_x7 := hide (P11_x6.out.grown hg (by intro e; have r2 := L_OG.out _ e.symm; have q1 := z_u1.out; have q2 := z_u5.out; have q3 := L_OX.out; have q4 := L_OY.out; omega))
  have B_x7 := hide (B_x6.out.grown hg n_x6 (by intro k hk; have r := L_OG.out k hk; omega))
  have m_x7 : x6.heap.size ≤ x7.heap.size := hg.size
  have n_x7 := B_x7.out.size
  have RG := hide (Rd.of_owns ho)
  have hq0 : ¬ (1 + (ys.length : Int)) < 0 := by omega
  have hq1 : ((1 + (ys.length : Int)) != (1 + (ys.length : Int))) = false := by simp
  clear ho hg OW_x6 OG_x6 P6_x6 P11_x6 B_x6
  go_wp2_with fail
  refine (held32 _ _ 1 _ RG.out (by omega) (by omega) (by omega)).mono ?_
  rintro e y0 ⟨rfl, rfl⟩
  clear RG
  go_wp2_with fail
  refine (to32 xs _ _ (H1.out.below B_x7.out) (by omega)).mono ?_
  rintro e y1 ⟨rfl, ho, hb⟩
  have OW_y1 := hide (owns_below OW_x7.out hb (Nat.le_refl _))
  have P6_y1 := hide (P6_x7.out.below hb)
  have P11_y1 := hide (P11_x7.out.below hb)
  have B_y1 := hide (B_x7.out.trans (hb.mono B_x7.out.size))
  have m_y1 : y0.heap.size ≤ y1.heap.size := hb.size
  have n_y1 := B_y1.out.size
  have OX_y1 := hide ho
  have L_OX := hide ((owns_lt ho (k := y0.heap.size) rfl).2)
  clear ho hb OW_x7 P6_x7 P11_x7 B_x7
  go_wp2_with fail
  refine (to8 bs _ _ (H2.out.below B_y1.out) (by omega)).mono ?_
  rintro e y2 ⟨rfl, ho, hb⟩
  have OW_y2 := hide (owns_below OW_y1.out hb (Nat.le_refl _))
  have OX_y2 := hide (owns_below OX_y1.out hb (Nat.le_refl _))
  have P6_y2 := hide (P6_y1.out.below hb)
  have P11_y2 := hide (P11_y1.out.below hb)
  have B_y2 := hide (B_y1.out.trans (hb.mono B_y1.out.size))
  have m_y2 : y1.heap.size ≤ y2.heap.size := hb.size
  have n_y2 := B_y2.out.size
  have OY_y2 := hide ho
  have L_OY := hide ((owns_lt ho (k := y1.heap.size) rfl).2)
  clear ho hb OW_y1 OX_y1 P6_y1 P11_y1 B_y1
  go_wp2_with fail
  refine (IM.out _ _ _ (Sl.of_owns OX_y2.out) (Rd.of_owns OY_y2.out) (tab_below HT.out B_y2.out (Nat.le_refl _)) (HG'.out _ B_y2.out)).mono ?_
  rintro e y3 ⟨h0, rfl, ho, hb⟩
  have OW_y3 := hide (owns_below OW_y2.out hb (Nat.le_refl _))
  have OX_y3 := hide (owns_below OX_y2.out hb (Nat.le_refl _))
  have OY_y3 := hide (owns_below OY_y2.out hb (Nat.le_refl _))
  have P6_y3 := hide (P6_y2.out.below hb)
  have P11_y3 := hide (P11_y2.out.below hb)
  have B_y3 := hide (B_y2.out.trans (hb.mono B_y2.out.size))
  have m_y3 : y2.heap.size ≤ y3.heap.size := hb.size
  have n_y3 := B_y3.out.size
  have OH_y3 := hide ho
  have L_OH := hide (fun k hk => owns_lt ho (k := k) hk)
  clear ho hb OW_y2 OX_y2 OY_y2 P6_y2 P11_y2 B_y2
  clear OX_y3
  clear OY_y3
  go_wp2_with fail
  have hbn : Below y3.heap.size y3 (y3.alloc (.cells #[.int .i64 o, .int .i64 l] 25)) := (Below.refl _ _).alloc (Nat.le_refl _) _
  have hsn := Sp.new y3 o l
  have hzn : (y3.alloc (.cells #[.int .i64 o, .int .i64 l] 25)).heap.size = y3.heap.size + 1 := by simp
  generalize y3.alloc (.cells #[.int .i64 o, .int .i64 l] 25) = y4 at *
  have OW_y4 := hide (owns_below OW_y3.out hbn (Nat.le_refl _))
  have OH_y4 := hide (owns_below OH_y3.out hbn (Nat.le_refl _))
  have P6_y4 := hide (P6_y3.out.below hbn)
  have P11_y4 := hide (P11_y3.out.below hbn)
  have B_y4 := hide (B_y3.out.trans (hbn.mono B_y3.out.size))
  have m_y4 : y3.heap.size ≤ y4.heap.size := hbn.size
  have n_y4 := B_y4.out.size
  have P17_y4 := hide hsn
  have z_y4 := hide hzn
  clear hbn hsn hzn OW_y3 OH_y3 P6_y3 P11_y3 B_y3
  refine (eq32' ys _ _ _ (Rd.of_owns OH_y4.out) (Rd.of_owns OW_y4.out) (by omega)).mono ?_
  rintro e y5 ⟨rfl, hb⟩
  have OW_y5 := hide (owns_below OW_y4.out hb (Nat.le_refl _))
  have OH_y5 := hide (owns_below OH_y4.out hb (Nat.le_refl _))
  have P6_y5 := hide (P6_y4.out.below hb)
  have P11_y5 := hide (P11_y4.out.below hb)
  have P17_y5 := hide (P17_y4.out.below hb)
  have B_y5 := hide (B_y4.out.trans (hb.mono B_y4.out.size))
  have m_y5 : y4.heap.size ≤ y5.heap.size := hb.size
  have n_y5 := B_y5.out.size
  clear hb OW_y4 OH_y4 P6_y4 P11_y4 P17_y4 B_y4
  have c0 := P17_y5.out.c0
  have c1 := P17_y5.out.c1
  have d0 := P6_y5.out.c0
  have d1 := P6_y5.out.c1
  go_wp2_with fail
  refine (eqSpan o l _).mono ?_
  rintro e y6 ⟨rfl, hb⟩
  have OW_y6 := hide (owns_below OW_y5.out hb (Nat.le_refl _))
  have OH_y6 := hide (owns_below OH_y5.out hb (Nat.le_refl _))
  have P6_y6 := hide (P6_y5.out.below hb)
  have P11_y6 := hide (P11_y5.out.below hb)
  have P17_y6 := hide (P17_y5.out.below hb)
  have B_y6 := hide (B_y5.out.trans (hb.mono B_y5.out.size))
  have m_y6 : y5.heap.size ≤ y6.heap.size := hb.size
  have n_y6 := B_y6.out.size
  clear hb c0 c1 d0 d1 OW_y5 OH_y5 P6_y5 P11_y5 P17_y5 B_y5
  go_wp2
  go_ret
  exact ⟨rfl, B_y6.out⟩

set_option maxHeartbeats 400000 in
theorem appLong1 (ao : Option Addr) (len cap : Nat) (v2 : Value) (w : World) (hn : 1048576 < len) (hm : len ≤ maxLen) :
    Calls Tryd.prog 3 #[.slice ao len cap, v2] w fun e w' => e = .returned (.bool true) ∧ Below w.heap.size w w' := by
  unfold maxLen at hm
  have hgt : (1048576 : Int) < (len : Int) := by omega
  go_enter Tryd.func3, Tryd.ntmps3
  go_wp2
  go_ret
  exact ⟨rfl, Below.refl _ _⟩
set_option maxHeartbeats 400000 in
theorem appLong2 (ao ao2 : Option Addr) (len cap len2 cap2 : Nat) (w : World) (hn1 : ¬ 1048576 < len) (hn : 1048576 < len2) (hm : len2 ≤ maxLen) :
    Calls Tryd.prog 3 #[.slice ao len cap, .slice ao2 len2 cap2] w fun e w' => e = .returned (.bool true) ∧ Below w.heap.size w w' := by
  unfold maxLen at hm
  have hgt1 : ¬ (1048576 : Int) < (len : Int) := by omega
  have hgt : (1048576 : Int) < (len2 : Int) := by omega
  go_enter Tryd.func3, Tryd.ntmps3
  go_wp2
  go_ret
  exact ⟨rfl, Below.refl _ _⟩
end Go.Proofs.YtmpclndnjjhijabDoor
