import Derived.Test.YtbgngikejgihgagGreatDoorMq06
import Derived.Test.YtbgngikejgihgagGreatDoorMq45
import Derived.WalkKit
import Derived.WalkLawsBesides
import Derived.Test.YtbgngikejgihgagGreatDoorProg
import Derived.Test.YtbgngikejgihgagGreatDoorMq01
import Derived.Test.YtbgngikejgihgagGreatDoorMq10
import Derived.Test.YtbgngikejgihgagGreatDoorMq05
namespace Go.Proofs.YtbgngikejgihgagGreatDoor
open Go Go.RowKit
set_option linter.unusedVariables false

theorem Rd.val {k : IntKind} {w : World} {v : Value} {zs : List Int} (h : Rd k w v zs) : ∃ ao cap, v = .slice ao zs.length cap := by
  rcases h with ⟨ao, cap, rfl, rfl⟩ | ⟨b, off, cap, rfl, _⟩
  · exact ⟨_, _, rfl⟩
  · exact ⟨_, _, rfl⟩

set_option maxHeartbeats 1000000 in
theorem szInt32N (ao : Option Addr) (n cap : Nat) (l : Int) (w : World) (h0 : 0 ≤ l) (h1 : l ≤ 1048576) (hn : n ≤ maxLen) :
    Calls Tryz.prog 73 #[.slice ao n cap, .int .i64 l] w fun e w' => e = .returned (.int .i64 (if l - n < 0 then -1 else l - n)) ∧ w' = w := by
  unfold maxLen at hn
  by_cases h : l - n < 0
  · rw [if_pos h]
    go_enter Tryz.func73, Tryz.ntmps73
    go_wp2
    go_ret
    exact ⟨rfl, rfl⟩
  · rw [if_neg h]
    go_enter Tryz.func73, Tryz.ntmps73
    go_wp2
    go_ret
    exact ⟨rfl, rfl⟩

set_option maxHeartbeats 1000000 in
theorem szGapN (ao : Option Addr) (n cap : Nat) (lo hi l : Int) (w : World) (h0 : 0 ≤ l) (h1 : l ≤ 1048576) (hn : n ≤ maxLen) :
    Calls Tryz.prog 100 #[.agg #[.slice ao n cap, .int .i64 lo, .int .i64 hi], .int .i64 l] w fun e w' => e = .returned (.int .i64 (if l - n < 0 then -1 else l - n)) ∧ Below w.heap.size w w' := by
  have HK := hide (fun w => szInt32N ao n cap l w h0 h1 hn)
  have HB := hide ((Below.refl w.heap.size w).alloc (Nat.le_refl _) (.cells #[.slice ao n cap, .int .i64 lo, .int .i64 hi] 160))
  clear hn
  by_cases h : l - n < 0
  · rw [if_pos h] at HK ⊢
    clear h
    go_enter Tryz.func100, Tryz.ntmps100
    go_wp2_with fail
    refine (HK.out _).mono ?_
    rintro e w1 ⟨rfl, rfl⟩
    go_wp2
    go_ret
    exact ⟨rfl, HB.out⟩
  · rw [if_neg h] at HK ⊢
    obtain ⟨d, hd⟩ : ∃ d, d = l - n := ⟨_, rfl⟩
    rw [← hd] at HK h ⊢
    clear hd
    go_enter Tryz.func100, Tryz.ntmps100
    go_wp2_with fail
    refine (HK.out _).mono ?_
    rintro e w1 ⟨rfl, rfl⟩
    go_wp2
    go_ret
    exact ⟨rfl, HB.out⟩

set_option maxHeartbeats 1000000 in
theorem toGapN (zs : List Int) (v : Value) (lo hi : Int) (w : World) (h : Rd .i32 w v zs) (hn : zs.length ≤ 1048576) :
    Calls Tryz.prog 107 #[.agg #[v, .int .i64 lo, .int .i64 hi]] w fun e w' => ∃ g, w.heap.size ≤ g ∧ e = .returned (.agg #[.slice (some ⟨g, 0, none⟩) zs.length zs.length, .int .i64 lo, .int .i64 hi]) ∧ w'.ownsRow w.heap.size 21 1 (.slice (some ⟨g, 0, none⟩) zs.length zs.length) zs.length (ints .i32 zs) ∧ Below w.heap.size w w' := by
  obtain ⟨ao, cap, rfl⟩ := h.val
  have HB0 := hide ((((Below.refl w.heap.size w).alloc (Nat.le_refl _) (.cells #[.slice ao zs.length cap, .int .i64 lo, .int .i64 hi] 160)).alloc (by simp) (.cells #[.slice none 0 0, .int .i64 0, .int .i64 0] 152)).alloc (by simp; omega) (.cells #[.slice none 0 0, .int .i64 0, .int .i64 0] 152))
  have HI := hide (to32 zs _ _ (h.below HB0.out) (by omega))
  have HT0 := hide (T3.new ((w.alloc (.cells #[.slice ao zs.length cap, .int .i64 lo, .int .i64 hi] 160)).alloc (.cells #[.slice none 0 0, .int .i64 0, .int .i64 0] 152)) (.slice none 0 0) (.int .i64 0) (.int .i64 0) 152)
  have HR0 := hide ((T3.new (w.alloc (.cells #[.slice ao zs.length cap, .int .i64 lo, .int .i64 hi] 160)) (.slice none 0 0) (.int .i64 0) (.int .i64 0) 152).below ((Below.refl _ _).alloc (Nat.le_refl _) (.cells #[.slice none 0 0, .int .i64 0, .int .i64 0] 152)) (by simp))
  have HP0 := hide (((T3.new w (.slice ao zs.length cap) (.int .i64 lo) (.int .i64 hi) 160).below ((Below.refl _ _).alloc (Nat.le_refl _) (.cells #[.slice none 0 0, .int .i64 0, .int .i64 0] 152)) (by simp)).below ((Below.refl _ _).alloc (Nat.le_refl _) (.cells #[.slice none 0 0, .int .i64 0, .int .i64 0] 152)) (by simp; omega))
  have hs0 : (((w.alloc (.cells #[.slice ao zs.length cap, .int .i64 lo, .int .i64 hi] 160)).alloc (.cells #[.slice none 0 0, .int .i64 0, .int .i64 0] 152)).alloc (.cells #[.slice none 0 0, .int .i64 0, .int .i64 0] 152)).heap.size = w.heap.size + 3 := by simp
  have es1 : ((w.alloc (.cells #[.slice ao zs.length cap, .int .i64 lo, .int .i64 hi] 160)).alloc (.cells #[.slice none 0 0, .int .i64 0, .int .i64 0] 152)).heap.size = w.heap.size + 2 := by simp
  have es2 : (w.alloc (.cells #[.slice ao zs.length cap, .int .i64 lo, .int .i64 hi] 160)).heap.size = w.heap.size + 1 := by simp
  rw [es1] at HT0
  rw [es2] at HR0
  rw [hs0] at HI
  generalize zs.length = n at *
  clear es1 es2 h
  go_enter Tryz.func107, Tryz.ntmps107
  go_wp2_with fail
  generalize ((w.alloc (.cells #[.slice ao n cap, .int .i64 lo, .int .i64 hi] 160)).alloc (.cells #[.slice none 0 0, .int .i64 0, .int .i64 0] 152)).alloc (.cells #[.slice none 0 0, .int .i64 0, .int .i64 0] 152) = w0 at *
  refine HI.out.mono ?_
  rintro e w1 ⟨rfl, ho1, hb1⟩
  have HT1 := hide (HT0.out.below hb1 (by omega))
  have HR1 := hide (HR0.out.below hb1 (by omega))
  have HP1 := hide (HP0.out.below hb1 (by omega))
  have HB1 := hide (HB0.out.trans (hb1.mono (by omega)))
  have HO1 := hide ho1
  obtain ⟨g0, g1, g2⟩ := HT1.out.c
  obtain ⟨p0, p1, p2⟩ := HP1.out.c
  obtain ⟨r0, r1, r2⟩ := HR1.out.c
  have z0 := HT1.out.fz 0
  have z1 := HT1.out.fz 1
  have z2 := HT1.out.fz 2
  have y0 := HR1.out.fz 0
  have y1 := HR1.out.fz 1
  have y2 := HR1.out.fz 2
  have hl0 := HT1.out.lt
  clear ho1 hb1 HI HT0 HB0 HP0 HR0
  go_wp2
  refine bodyPost_ret (v := .agg #[.slice (some ⟨w.heap.size + 3, 0, none⟩) n n, .int .i64 lo, .int .i64 hi]) (by simp [results, Tryz.results107, go_sem, r0, r1, r2]) rfl ?_
  refine ⟨w.heap.size + 3, by omega, rfl, ?_, ?_⟩
  · have hne : ∀ b j, b < w.heap.size + 3 → (Value.slice (some ⟨w.heap.size + 3, 0, none⟩) n n).ownBlock ≠ some (⟨b, j, none⟩ : Addr).block := by
      intro b j hb hk
      simp only [Value.ownBlock, Option.some.injEq] at hk
      omega
    exact owns_base (ownsRow_setCell_other (ownsRow_setCell_other (ownsRow_setCell_other (ownsRow_setCell_other (ownsRow_setCell_other (ownsRow_setCell_other HO1.out (hne _ _ (by omega)) _) (hne _ _ (by omega)) _) (hne _ _ (by omega)) _) (hne _ _ (by omega)) _) (hne _ _ (by omega)) _) (hne _ _ (by omega)) _) (by omega)
  · exact (((((HB1.out.setCell (by simp <;> omega) _).setCell (by simp <;> omega) _).setCell (by simp <;> omega) _).setCell (by simp <;> omega) _).setCell (by simp <;> omega) _).setCell (by simp <;> omega) _

end Go.Proofs.YtbgngikejgihgagGreatDoor

namespace Go.Proofs.YtbgngikejgihgagGreatDoor
open Go Go.RowKit


set_option maxHeartbeats 400000 in
theorem to64 (zs : List Int) (v : Value) (w : World) (h : Rd .i64 w v zs) (hn : zs.length ≤ 1099511627776) :
    Calls Tryz.prog 53 #[v] w fun e w' => e = .returned (.slice (some ⟨w.heap.size, 0, none⟩) zs.length zs.length) ∧
      w'.ownsRow w.heap.size 3 1 (.slice (some ⟨w.heap.size, 0, none⟩) zs.length zs.length) zs.length (ints .i64 zs) ∧ Below w.heap.size w w' := by
  obtain ⟨i0, hi, hz0, hz1, hz2⟩ := info_parts Tryz.info64
  rcases h with ⟨ao, cap, rfl, rfl⟩ | ⟨b, off, cap, rfl, hp, hc⟩
  · go_enter Tryz.func53, Tryz.ntmps53
    go_wp2_with (at_make; refine wpList_make_full _ rfl _ _ 23 rfl w.heap.size 3 i0 (.int .i64 0) 1 Tryz.underlying23 hi hz0 hz1 .i64 .i64 _ _ 0 rfl rfl (by omega) (by omega) (by rw [hz2]; omega) (by unfold maxLen; omega) (Nat.le_refl _) ?_; intro w1 hown hgrow)
    rw [made_ints] at hown
    refine wp_loop_rounds 1 ?_
    rw [rounds_succ]
    go_wp2
    go_ret
    exact ⟨rfl, hown, (Below.refl _ _).grown hgrow (Nat.le_refl _) (fun k hk => by cases hk)⟩
  · have hcB : b < w.heap.size := World.block_lt_of_cell? w _ (hc 0 hp.1)
    go_enter Tryz.func53, Tryz.ntmps53
    go_wp2_with (at_make; refine wpList_make_full _ rfl _ _ 23 rfl w.heap.size 3 i0 (.int .i64 0) 1 Tryz.underlying23 hi hz0 hz1 .i64 .i64 _ _ zs.length rfl rfl (by omega) (by omega) (by rw [hz2]; omega) (by unfold maxLen; omega) (Nat.le_refl _) ?_; intro w1 hown hgrow)
    rw [made_ints] at hown
    have hb1 : Below w.heap.size w w1 := (Below.refl _ _).grown hgrow (Nat.le_refl _) (fun k hk => by cases hk)
    have HO : Hid (w1.ownsRow w.heap.size 3 1 (.slice (some ⟨w.heap.size, 0, none⟩) zs.length zs.length) zs.length (ints .i64 (List.replicate zs.length 0))) := hown
    have HC : Hid (∀ i, i < zs.length → w.cell? ⟨b, off + i, none⟩ = some (.int .i64 (zs.getD i 0))) := hc
    clear hown hgrow hc
    go_loopw [4] (fun i wr => ∃ k : Nat, k ≤ zs.length ∧ i = .int .i64 k ∧ wr.ownsRow w.heap.size 3 1 (.slice (some ⟨w.heap.size, 0, none⟩) zs.length zs.length) zs.length (ints .i64 (zs.take k ++ List.replicate (zs.length - k) 0)) ∧ Below w.heap.size w wr)
      (fun i _ => zs.length - (intOf i).toNat)
    case atStart => exact ⟨0, Nat.zero_le _, rfl, by simpa using HO.out, hb1⟩
    case round =>
      obtain ⟨k, hk, rfl, hown, hb⟩ := hrel
      by_cases hlt : k < zs.length
      · have hx : wr.cell? ⟨b, off + k, none⟩ = some (.int .i64 (zs.getD k 0)) := (hb.cell (p := ⟨b, off + k, none⟩) hcB).trans (HC.out k hlt)
        have hy : wr.cell? ⟨w.heap.size, k, none⟩ = some (.int .i64 ((zs.take k ++ List.replicate (zs.length - k) 0).getD k 0)) := by
          exact owns_cell hown k hlt
        have hf : wr.frozen? ⟨w.heap.size, k, none⟩ = false := hown.frozenAt k
        have hst := hown.stored k (.int .i64 (zs.getD k 0))
        rw [ints_set, getD_take_append hlt] at hst
        generalize zs.getD k 0 = z at hx hst
        generalize (zs.take k ++ List.replicate (zs.length - k) 0).getD k 0 = z' at hy
        have HS := hide hst
        have HB := hide hb
        clear hst hb hown
        go_wp2
        go_roundw
        case rel => exact ⟨k + 1, by omega, by go_num, HS.out.1, HB.out.setCell (Nat.le_refl _) _⟩
        case measure => simp [intOf]; omega
      · obtain rfl : k = zs.length := by omega
        rw [List.take_length, Nat.sub_self, List.replicate_zero, List.append_nil] at hown
        have HO2 := hide hown
        have HB := hide hb
        clear hb hown
        go_wp2
        go_ret
        exact ⟨rfl, HO2.out, HB.out⟩
end Go.Proofs.YtbgngikejgihgagGreatDoor

namespace Go.Proofs.YtbgngikejgihgagGreatDoor
open Go Go.RowKit
set_option linter.unusedVariables false

/-- Rows that came in. -/
def RdG (w : World) (v : Value) (gs : List Gr) : Prop :=
  (∃ ao cap, v = .slice ao 0 cap ∧ gs = []) ∨
  (∃ b off cap, v = .slice (some ⟨b, off, none⟩) gs.length cap ∧ (0 < gs.length ∧ gs.length ≤ cap ∧ cap ≤ maxLen) ∧ ∀ (i : Nat) x, gs[i]? = some x → ∃ u, w.cell? ⟨b, off + i * 3, none⟩ = some u ∧ w.cell? ⟨b, off + i * 3 + 1, none⟩ = some (.int .i64 x.lo) ∧ w.cell? ⟨b, off + i * 3 + 2, none⟩ = some (.int .i64 x.hi) ∧ Rd .i32 w u x.cells ∧ x.cells.length ≤ maxLen)
theorem RdG.below {w w' : World} {v : Value} {gs : List Gr} (h : RdG w v gs) (hb : Below w.heap.size w w') : RdG w' v gs := by
  rcases h with h | ⟨b, off, cap, hv, hp, hc⟩
  · exact .inl h
  · refine .inr ⟨b, off, cap, hv, hp, fun i x hx => ?_⟩
    obtain ⟨u, h0, h1, h2, h3, h4⟩ := hc i x hx
    have hB := World.block_lt_of_cell? w _ h0
    exact ⟨u, (hb.cell (p := ⟨b, off + i * 3, none⟩) hB).trans h0, (hb.cell (p := ⟨b, off + i * 3 + 1, none⟩) hB).trans h1, (hb.cell (p := ⟨b, off + i * 3 + 2, none⟩) hB).trans h2, h3.below hb, h4⟩
theorem RdG.val {w : World} {v : Value} {gs : List Gr} (h : RdG w v gs) : ∃ ao cap, v = .slice ao gs.length cap := by
  rcases h with ⟨ao, cap, rfl, rfl⟩ | ⟨b, off, cap, rfl, _⟩
  · exact ⟨_, _, rfl⟩
  · exact ⟨_, _, rfl⟩
/-- The cells of some rows. -/
def smC : List Gr → Nat
  | [] => 0
  | g :: gs => g.cells.length + smC gs
theorem smC_app (a b : List Gr) : smC (a ++ b) = smC a + smC b := by
  induction a with
  | nil => simp [smC]
  | cons x a ih => simp only [List.cons_append, smC, ih]; omega
theorem smC_take_succ {gs : List Gr} {i : Nat} {g : Gr} (h : gs[i]? = some g) : smC (gs.take (i + 1)) = smC (gs.take i) + g.cells.length := by
  rw [List.take_add_one, h, smC_app]
  simp [smC]
theorem smC_take_le (gs : List Gr) (i : Nat) : smC (gs.take i) ≤ smC gs := by
  have := smC_app (gs.take i) (gs.drop i)
  rw [List.take_append_drop] at this
  omega
theorem smC_get {gs : List Gr} {i : Nat} {g : Gr} (h : gs[i]? = some g) : g.cells.length ≤ smC gs := by
  have h1 := smC_take_succ h
  have h2 := smC_take_le gs (i + 1)
  omega

set_option maxHeartbeats 1000000 in
theorem szGapSN (gs : List Gr) (v : Value) (l : Int) (w : World) (h : RdG w v gs) (h0 : 0 ≤ l) (h1 : l ≤ 1048576) (hm : gs.length ≤ maxLen) :
    Calls Tryz.prog 48 #[v, .int .i64 l] w fun e w' => e = .returned (.int .i64 (if l - gs.length - smC gs < 0 then -1 else l - gs.length - smC gs)) ∧ Below w.heap.size w w' := by
  obtain ⟨X, hX⟩ : ∃ X : Int, X = if l - gs.length - smC gs < 0 then -1 else l - gs.length - smC gs := ⟨_, rfl⟩
  rw [← hX]
  have HX := hide hX
  clear hX
  obtain ⟨ao, cap, hv⟩ := h.val
  unfold maxLen at hm
  by_cases hneg : l - gs.length < 0
  · have E := hide (show X = -1 by rw [HX.out, if_pos (by omega)])
    subst hv
    generalize gs.length = n at *
    clear h HX
    go_enter Tryz.func48, Tryz.ntmps48
    go_wp2
    go_ret
    exact ⟨by rw [E.out]; rfl, Below.refl _ _⟩
  · rcases h with ⟨ao', cap', hv', rfl⟩ | ⟨b, off, cap', hv', hp, hc⟩
    · subst hv'
      have E := hide (show X = l by rw [HX.out]; simp [smC]; omega)
      have hl : ¬ l < 0 := by omega
      clear HX hv hneg
      go_enter Tryz.func48, Tryz.ntmps48
      go_wp2
      refine wp_loop_rounds 1 ?_
      rw [rounds_succ]
      go_wp2
      go_ret
      exact ⟨by rw [E.out]; first | rfl | simp, Below.refl _ _⟩
    · subst hv'
      have HC := hide hc
      have SS := hide (fun i x (hx : gs[i]? = some x) => smC_take_succ hx)
      have SL := hide (fun i => smC_take_le gs i)
      have GE := hide (fun i (hi : i < gs.length) => (show ∃ x, gs[i]? = some x from ⟨gs[i], by simp [hi]⟩))
      have TA := hide (show smC (gs.take gs.length) = smC gs by rw [List.take_length])
      generalize hN : gs.length = n at *
      have hneg' : ¬ (l - (n : Int)) < 0 := hneg
      obtain ⟨hp1, hp2, hp3⟩ := hp
      unfold maxLen at hp3
      clear hc hv
      go_enter Tryz.func48, Tryz.ntmps48
      go_wp2
      go_loopw [1, 5] (fun a i wr => ∃ k : Nat, k ≤ n ∧ i = .int .i64 k ∧ a = .int .i64 (l - n - (smC (gs.take k) : Nat)) ∧ 0 ≤ l - (n : Int) - (smC (gs.take k) : Nat) ∧ Below w.heap.size w wr) (fun _ i _ => n - (intOf i).toNat)
      case atStart => exact ⟨0, Nat.zero_le _, rfl, by simp [smC], by simp [smC]; omega, Below.refl _ _⟩
      case round =>
        obtain ⟨k, hk, rfl, rfl, hge, hb⟩ := hrel
        have HB := hide hb
        have hsz := hb.size
        by_cases hlt : k < n
        · obtain ⟨x, hx⟩ := GE.out k hlt
          obtain ⟨u, e0, e1, e2, hr, hxm⟩ := HC.out k x hx
          have hbl := World.block_lt_of_cell? w _ e0
          have y0 := (hb.cell (p := ⟨b, off + k * 3, none⟩) hbl).trans e0
          have y1 := (hb.cell (p := ⟨b, off + k * 3 + 1, none⟩) hbl).trans e1
          have y2 := (hb.cell (p := ⟨b, off + k * 3 + 2, none⟩) hbl).trans e2
          obtain ⟨au, cu, hu⟩ := hr.val
          have hss := SS.out k x hx
          have SZ := hide (fun W => szGapN au x.cells.length cu x.lo x.hi (l - n - (smC (gs.take k) : Nat)) W hge (by omega) hxm)
          generalize hxl : x.lo = xl at *
          generalize hxh : x.hi = xh at *
          generalize hxc : x.cells.length = xc at *
          subst hu
          have hlt' : (k : Int) < n := by omega
          have sl1 := SL.out (k + 1)
          clear hr e0 e1 e2 hx hb hxl hxh hxc
          by_cases hng : l - (n : Int) - (smC (gs.take k) : Nat) - (xc : Int) < 0
          · simp only [if_pos hng] at SZ
            have E := hide (show X = -1 by rw [HX.out, if_pos (by omega)])
            clear hng
            go_wp2_with fail
            refine (SZ.out _).mono ?_
            rintro e w1 ⟨rfl, hb1⟩
            have B1 := hide (HB.out.trans (hb1.mono hsz))
            clear hb1
            go_wp2
            go_ret
            exact ⟨by rw [E.out]; rfl, B1.out⟩
          · simp only [if_neg hng] at SZ
            have e9 : l - (n : Int) - (smC (gs.take k) : Nat) - (xc : Int) = l - (n : Int) - (smC (gs.take (k + 1)) : Nat) := by rw [hss]; omega
            rw [e9] at SZ hng
            obtain ⟨S1, hS1⟩ : ∃ S1, S1 = smC (gs.take (k + 1)) := ⟨_, rfl⟩
            rw [← hS1] at SZ hng
            have HS1 := hide hS1
            clear e9 hss hS1 sl1
            go_wp2_with fail
            refine (SZ.out _).mono ?_
            rintro e w1 ⟨rfl, hb1⟩
            have B1 := hide (HB.out.trans (hb1.mono hsz))
            clear hb1
            go_wp2
            go_roundw
            case rel => exact ⟨k + 1, by omega, by go_num, by rw [← HS1.out], by rw [← HS1.out]; omega, B1.out⟩
            case measure => simp [intOf]; omega
        · obtain rfl : k = n := by omega
          rw [TA.out] at hge
          have E := hide (show X = l - (k : Int) - (smC gs : Nat) by rw [HX.out, if_neg (by omega)])
          have hlt' : ¬ (k : Int) < k := by omega
          rw [TA.out]
          clear hb
          go_wp2
          go_ret
          exact ⟨by rw [E.out]; rfl, HB.out⟩

set_option maxHeartbeats 400000 in
theorem szIntN (ao : Option Addr) (n cap : Nat) (l : Int) (w : World) (h0 : 0 ≤ l) (h1 : l ≤ 1048576) (hn : n ≤ maxLen) :
    Calls Tryz.prog 49 #[.slice ao n cap, .int .i64 l] w fun e w' => e = .returned (.int .i64 (if l - n < 0 then -1 else l - n)) ∧ w' = w := by
  unfold maxLen at hn
  by_cases h : l - n < 0
  · rw [if_pos h]
    go_enter Tryz.func49, Tryz.ntmps49
    go_wp2
    go_ret
    exact ⟨rfl, rfl⟩
  · rw [if_neg h]
    go_enter Tryz.func49, Tryz.ntmps49
    go_wp2
    go_ret
    exact ⟨rfl, rfl⟩

/-- A line buffer that came in. -/
structure RdL (w : World) (vr vt : Value) (gs : List Gr) (st : List Int) : Prop where
  rows : RdG w vr gs
  starts : Rd .i64 w vt st
  gm : gs.length ≤ maxLen
  sm : st.length ≤ maxLen
theorem RdL.below {w w' : World} {vr vt : Value} {gs : List Gr} {st : List Int} (h : RdL w vr vt gs st) (hb : Below w.heap.size w w') : RdL w' vr vt gs st := ⟨h.rows.below hb, h.starts.below hb, h.gm, h.sm⟩
/-- How much of the law's room is left. -/
def szL (gs : List Gr) (st : List Int) : Int := 1048576 - gs.length - smC gs - st.length

set_option maxHeartbeats 1000000 in
theorem szLineBufN (gs : List Gr) (st : List Int) (vr vt : Value) (w : World) (h : RdL w vr vt gs st) :
    Calls Tryz.prog 9 #[.agg #[vr, vt], .int .i64 1048576] w fun e w' => (∃ r : Int, e = .returned (.int .i64 r) ∧ (r < 0 ↔ szL gs st < 0)) ∧ Below w.heap.size w w' := by
  have A0 := hide ((Below.refl w.heap.size w).alloc (Nat.le_refl _) (.cells #[vr, vt] 25))
  have K0 := hide (D2.new w vr vt 25)
  have hs0 : (w.alloc (.cells #[vr, vt] 25)).heap.size = w.heap.size + 1 := by simp
  have S1 := hide (szGapSN gs vr 1048576 _ (h.below A0.out).rows (by omega) (by omega) h.gm)
  obtain ⟨a1, c1, rfl⟩ := h.rows.val
  obtain ⟨a2, c2, rfl⟩ : ∃ ao cap, vt = .slice ao st.length cap := by
    rcases h.starts with ⟨ao, cap, e1, e2⟩ | ⟨b, off, cap, e, _⟩
    · exact ⟨ao, cap, by rw [e1, e2]; rfl⟩
    · exact ⟨_, _, e⟩
  have S2 := hide (fun l W h0 h1 => szIntN a2 st.length c2 l W h0 h1 h.sm)
  have hm := h.sm
  have hgm := h.gm
  unfold szL
  generalize hA : (1048576 : Int) - gs.length - smC gs = A at *
  generalize gs.length = n at *
  generalize hmm : st.length = m at *
  have hAle : A ≤ 1048576 := by omega
  clear h
  by_cases hneg : A < 0
  · rw [if_pos hneg] at S1
    go_enter Tryz.func9, Tryz.ntmps9
    go_wp2_with fail
    generalize w.alloc (.cells #[.slice a1 n c1, .slice a2 m c2] 25) = w0 at *
    refine S1.out.mono ?_
    rintro e w1 ⟨rfl, hb1⟩
    have B1 := hide (A0.out.trans (hb1.mono (by omega)))
    clear hb1
    go_wp2
    go_ret
    exact ⟨⟨-1, rfl, by omega⟩, B1.out⟩
  · rw [if_neg hneg] at S1
    have S3 := hide (fun W => S2.out A W (by omega) hAle)
    obtain ⟨r, hr⟩ : ∃ r : Int, r = if A - (m : Int) < 0 then -1 else A - (m : Int) := ⟨_, rfl⟩
    simp only [← hr] at S3
    have HR := hide (show r < 0 ↔ A - (m : Int) < 0 by rw [hr]; split <;> omega)
    have hrb : -1 ≤ r := by rw [hr]; split <;> omega
    have HRM := hide (show r < 0 → r = -1 by rw [hr]; split <;> omega)
    clear hr
    go_enter Tryz.func9, Tryz.ntmps9
    go_wp2_with fail
    generalize w.alloc (.cells #[.slice a1 n c1, .slice a2 m c2] 25) = w0 at *
    refine S1.out.mono ?_
    rintro e w1 ⟨rfl, hb1⟩
    have B1 := hide (A0.out.trans (hb1.mono (by omega)))
    have d1 := (K0.out.below hb1 (by omega)).c.2
    clear hb1
    by_cases hrn : r < 0
    · go_wp2_with fail
      refine (S3.out _).mono ?_
      rintro e w2 ⟨rfl, hw⟩
      have hw2 := hw.symm
      subst hw2
      go_wp2
      go_ret
      exact ⟨⟨-1, rfl, by have := HR.out; omega⟩, B1.out⟩
    · go_wp2_with fail
      refine (S3.out _).mono ?_
      rintro e w2 ⟨rfl, hw⟩
      have hw2 := hw.symm
      subst hw2
      go_wp2
      go_ret
      exact ⟨⟨r, rfl, HR.out⟩, B1.out⟩
end Go.Proofs.YtbgngikejgihgagGreatDoor
