import Derived.Test.YtbgngikejgihgagGreatDoorMq12
import Derived.Test.YtbgngikejgihgagGreatDoorMq14
import Derived.Test.YtbgngikejgihgagGreatDoorMq15
import Derived.Deep.RegionLaw
import Derived.Deep.Cut
import Derived.Deep.CutRange
namespace Go.Proofs.YtbgngikejgihgagGreatDoor
open Go Go.RowKit
set_option linter.unusedVariables false

theorem owns_takeF {w : World} {base g n cap : Nat} {zs : List Int} (h : w.ownsRow base 3 1 (.slice (some ⟨g, 0, none⟩) n cap) n (ints .i64 zs)) (k : Nat) : ∀ j u, (ints .i64 (zs.take k))[j]? = some u → w.cell? ((⟨g, 0, none⟩ : Addr).add j) = some u := by
  intro j u hj
  refine h.cells rfl j u ?_
  simp only [ints, List.getElem?_map, List.getElem?_take] at hj ⊢
  split at hj
  · exact hj
  · cases hj

theorem own_notD {w : World} {B e size n q L : Nat} {v : Value} {xs : List Value} {cs : Array Value} {t : TypeId} {fz : Nat × Nat} (h : w.ownsRow B e size v n xs) (hd : w.heap[L]? = some (.cells cs t fz)) (hne : e ≠ t) (hq : v.ownBlock = some q) : q ≠ L := by
  intro e1
  subst e1
  rcases h.2 with ⟨rfl, _⟩ | ⟨g, cap, cur, rfl, _, hgb, _⟩
  · simp [Value.ownBlock] at hq
  · simp only [Value.ownBlock, Option.some.injEq] at hq
    subst hq
    rw [hgb] at hd
    simp only [Option.some.injEq] at hd
    injection hd with _ h2 _
    exact hne h2
/-- A block of another kind may be written. -/
theorem OwG.offD {t : TypeId} {w w' : World} {lo hi L : Nat} {v : Value} {vs : List Value} {gs : List Gr} {cs : Array Value} {tt : TypeId} {fz : Nat × Nat} (h : OwG t w lo hi v vs gs) (hd : w.heap[L]? = some (.cells cs tt fz)) (h1 : t ≠ tt) (h2 : 21 ≠ tt) (hf : ∀ q, q ≠ L → w'.heap[q]? = w.heap[q]?) : OwG t w' lo hi v vs gs :=
  ⟨owns_of_block h.row (fun q hq => hf q (own_notD h.row hd h1 hq)), h.bl, ⟨h.nest.len, fun i u l hu hl => owns_of_block (h.nest.own i u l hu hl) (fun q hq => hf q (own_notD (h.nest.own i u l hu hl) hd h2 hq)), h.nest.bl, h.nest.ne⟩⟩

/-- What lies there behind the append. -/
structure FB (w1 x8 : World) (ar : Option Addr) (n cr : Nat) (us : List Value) (gs : List Gr) (g5 m cap5 : Nat) (S : List Int) : Prop where
  g : OwG 152 x8 w1.heap.size x8.heap.size (.slice ar n cr) us gs
  s : x8.ownsRow w1.heap.size 3 1 (.slice (some ⟨g5, 0, none⟩) m cap5) m (ints .i64 S)
  l : S.length = m
  b : Below w1.heap.size w1 x8
/-- The buffer in a block of its own. -/
structure FP (w1 wc : World) (X n m : Nat) (ar : Option Addr) (cr g5 cap5 : Nat) (gs : List Gr) (S : List Int) : Prop where
  le : w1.heap.size ≤ X
  d : D2 wc X (.slice ar n cr) (.slice (some ⟨g5, 0, none⟩) m cap5) 29
  o : OwL wc w1.heap.size wc.heap.size (.slice ar n cr) (.slice (some ⟨g5, 0, none⟩) m cap5) gs S
  b : Below w1.heap.size w1 wc
theorem fb_of {w1 x7 X x8 : World} {v : Value} {us : List Value} {gs : List Gr} {ar : Option Addr} {n cr g5 m cap5 : Nat} {S : List Int} (G7 : OwG 152 x7 w1.heap.size x7.heap.size (.slice ar n cr) us gs) (hX : Below x7.heap.size x7 X) (E : X.ownsRow w1.heap.size 3 1 v 0 []) (hg : X.grownBy x8 v.ownBlock) (B7 : Below w1.heap.size w1 x7) (ho : x8.ownsRow w1.heap.size 3 1 (.slice (some ⟨g5, 0, none⟩) (0 + m) cap5) (0 + m) ([] ++ ints .i64 S)) (hl : S.length = m) :
    FB w1 x8 ar n cr us gs g5 m cap5 S := by
  have hs := hg.size
  have h7 := B7.size
  have h8 := hX.size
  have GX : OwG 152 X w1.heap.size X.heap.size (.slice ar n cr) us gs := (G7.frame (fun q _ hq => hX.block q hq)).mono (Nat.le_refl _) h8
  have BX : Below w1.heap.size w1 X := B7.trans (hX.mono h7)
  rw [Nat.zero_add, List.nil_append] at ho
  exact ⟨(GX.kept E (by decide) (by decide) hg).mono (Nat.le_refl _) hs, ho, hl, BX.grown hg (by omega) (fun q hq => (E.lt q hq).1)⟩
theorem D2.grown {X x8 : World} {L : Nat} {a b v : Value} {base : Nat} {xs : List Value} {k : Nat} (h : D2 X L a b 29) (E : X.ownsRow base 3 1 v k xs) (hg : X.grownBy x8 v.ownBlock) : D2 x8 L a b 29 :=
  (hg.block L h.lt (fun e => own_notD E h (by decide) e.symm rfl)).trans h
theorem D2.set2 {w : World} {b : Nat} {x y : Value} {t : TypeId} (h : D2 w b x y t) (u v : Value) : D2 ((w.setCell ⟨b, 0, none⟩ u).setCell ⟨b, 1, none⟩ v) b u v t := by
  unfold D2 at *
  have h1 := Go.heap_setCell_same w b 0 _ _ u h
  rw [Go.heap_setCell_same _ b 1 _ _ v h1]
  rfl
theorem ownLB {w1 : World} (x7 : World) (s7 : w1.heap.size ≤ x7.heap.size) : ((x7.alloc (.cells #[.slice none 0 0, .slice none 0 0] 29)).alloc (.cells #[] 3)).ownsRow w1.heap.size 3 1 (.slice (some ⟨x7.heap.size + 1, 0, none⟩) 0 0) 0 [] := by
  have h := own_newT (x7.alloc (.cells #[.slice none 0 0, .slice none 0 0] 29)) 3
  rw [World.size_alloc] at h
  exact owns_base h (by omega)
theorem dBL (x7 : World) : D2 ((x7.alloc (.cells #[] 3)).alloc (.cells #[.slice none 0 0, .slice none 0 0] 29)) (x7.heap.size + 1) (.slice none 0 0) (.slice none 0 0) 29 := by
  have h := D2.new (x7.alloc (.cells #[] 3)) (.slice none 0 0) (.slice none 0 0) 29
  rw [World.size_alloc] at h
  exact h
theorem dLB (x7 : World) : D2 ((x7.alloc (.cells #[.slice none 0 0, .slice none 0 0] 29)).alloc (.cells #[] 3)) x7.heap.size (.slice none 0 0) (.slice none 0 0) 29 :=
  (D2.new x7 (.slice none 0 0) (.slice none 0 0) 29).below ((Below.refl _ _).alloc (Nat.le_refl _) _) (by simp)
theorem fp_set {w1 x8 : World} {ar : Option Addr} {n cr : Nat} {us : List Value} {gs : List Gr} {g5 m cap5 L : Nat} {S : List Int} {a b : Value} (h : FB w1 x8 ar n cr us gs g5 m cap5 S) (hd : D2 x8 L a b 29) (hl : w1.heap.size ≤ L) :
    FP w1 ((x8.setCell ⟨L, 0, none⟩ (.slice ar n cr)).setCell ⟨L, 1, none⟩ (.slice (some ⟨g5, 0, none⟩) m cap5)) L n m ar cr g5 cap5 gs S := by
  have hf : ∀ q, q ≠ L → ((x8.setCell ⟨L, 0, none⟩ (.slice ar n cr)).setCell ⟨L, 1, none⟩ (.slice (some ⟨g5, 0, none⟩) m cap5)).heap[q]? = x8.heap[q]? := fun q hq => by
    rw [Go.heap_setCell_other _ _ _ _ (by show q ≠ L; exact hq), Go.heap_setCell_other _ _ _ _ (by show q ≠ L; exact hq)]
  refine ⟨hl, hd.set2 _ _, ⟨⟨us, ?_⟩, ?_, ?_⟩, (h.b.setCell hl _).setCell hl _⟩
  · exact (h.g.offD hd (by decide) (by decide) hf).mono (Nat.le_refl _) (by simp)
  · unfold o64
    rw [h.l]
    exact owns_of_block h.s (fun q hq => hf q (own_notD h.s hd (by decide) hq))
  · intro q hq
    have := (h.s.lt q hq).2
    simp; omega
theorem fp_new {w1 x8 : World} {ar : Option Addr} {n cr : Nat} {us : List Value} {gs : List Gr} {g5 m cap5 : Nat} {S : List Int} (h : FB w1 x8 ar n cr us gs g5 m cap5 S) :
    FP w1 (x8.alloc (.cells #[.slice ar n cr, .slice (some ⟨g5, 0, none⟩) m cap5] 29)) x8.heap.size n m ar cr g5 cap5 gs S := by
  refine ⟨h.b.size, D2.new _ _ _ _, ⟨⟨us, ?_⟩, ?_, ?_⟩, h.b.alloc h.b.size _⟩
  · exact (h.g.frame (fun q _ hq => ((Below.refl x8.heap.size x8).alloc (Nat.le_refl _) _).block q hq)).mono (Nat.le_refl _) (by simp)
  · unfold o64
    rw [h.l]
    exact h.s.alloc _
  · intro q hq
    have := (h.s.lt q hq).2
    simp; omega

theorem Kn.ln {L : List (List Int)} {s0 off m k : Nat} (h : Kn L s0 off m) (h1 : k < m) (h2 : sAt L k ≤ off) (h3 : ∀ j, k < j → j < m → off < sAt L j) : Ln L off k := by
  refine ⟨by have := h.2.1; omega, h2, fun h4 => ?_⟩
  rcases Nat.lt_or_ge (k + 1) m with z | z
  · exact h3 _ (by omega) z
  · have : m = k + 1 := by omega
    subst this
    have := h.2.2.2 h4
    simp at this
    omega

set_option maxHeartbeats 4000000 in
set_option maxRecDepth 100000 in
theorem findS (gs : List Gr) (st : List Int) (off : Nat) (vr vt : Value) (lo hi : Nat) (w : World) (h : OwL w lo hi vr vt gs st) (hh : hi ≤ w.heap.size) (hg : gs.length ≤ 8193) (h1 : 1 ≤ gs.length) (hok : ∀ x ∈ gs, gkP x.cells x.lo x.hi) (hb : smL (gs.map grT) + gs.length ≤ 4194304) (hs : ∀ x ∈ gs, x.cells.length ≤ 1048576) (hs1 : 1 ≤ st.length) (hsn : st.length ≤ gs.length) (hof : off ≤ 20000) :
    Calls Tryz.prog 104 #[.agg #[vr, vt], .int .i64 (off : Int)] w fun e w' => ∃ (vr' vt' : Value) (q m : Nat), e = .returned (.tuple #[.agg #[vr', vt'], .int .i64 q, .int .i64 ((off : Int) - sAt (gs.map grT) q)]) ∧ Ln (gs.map grT) off q ∧ Kn (gs.map grT) st.length off m ∧ OwL w' w.heap.size w'.heap.size vr' vt' gs ((stL (gs.map grT)).take m) ∧ Below w.heap.size w w' := by
  obtain ⟨i0, hi0, hz0, hz1, hz2⟩ := info_parts Tryz.info64T
  have A0 := hide (((Below.refl w.heap.size w).alloc (Nat.le_refl _) (.cells #[vr, vt] 29)).alloc (by simp) (.cells #[.slice none 0 0, .slice none 0 0] 29))
  have KP := hide ((D2.new w vr vt 29).below ((Below.refl _ _).alloc (Nat.le_refl _) (.cells #[.slice none 0 0, .slice none 0 0] 29)) (by simp))
  have KR := hide (D2.new (w.alloc (.cells #[vr, vt] 29)) (.slice none 0 0) (.slice none 0 0) 29)
  have es : (w.alloc (.cells #[vr, vt] 29)).heap.size = w.heap.size + 1 := by simp
  rw [es] at KR
  have es2 : ((w.alloc (.cells #[vr, vt] 29)).alloc (.cells #[.slice none 0 0, .slice none 0 0] 29)).heap.size = w.heap.size + 2 := by simp
  have O0 := h.below A0.out hh
  have AL := hide (allS gs st vr vt lo hi _ O0 (by rw [es2]; omega) hg h1 hok hb)
  obtain ⟨a1, c1, a2, c2, rfl, rfl⟩ := h.val
  obtain ⟨vs, hG⟩ := h.rows
  rcases hG.row.2 with ⟨_, q⟩ | ⟨g0, cap, cur, q, _⟩
  · omega
  simp only [Value.slice.injEq, true_and] at q
  obtain ⟨rfl, rfl⟩ := q
  have CR := hide (fun (W : World) (hW : Below w.heap.size w W) => copyRowsS gs vs g0 c1 gs.length lo hi W (hG.frame (fun q _ hq => hW.block q (by omega))) rfl (by have := hW.size; omega) hg hs)
  obtain ⟨LS, hLS⟩ : ∃ LS, LS = gs.map grT := ⟨_, rfl⟩
  rw [← hLS] at AL hb ⊢
  have hLn : LS.length = gs.length := by rw [hLS, List.length_map]
  have STL := hide (show (stL LS).length = gs.length by rw [stL_len, hLn])
  have STG := hide (fun (i : Nat) (hi : i < gs.length) => (show (stL LS).getD i 0 = ((sAt LS i : Nat) : Int) from by
    have h9 := stL_getD (ls := LS) (i := i) (by rw [hLn]; omega)
    rw [h9]; rfl))
  have JB := hide (fun (i : Nat) (hi : i < gs.length) => (show sAt LS i ≤ 4194304 from by
    have := smL_take_le LS i
    unfold sAt; omega))
  have HLN := hide hLn
  generalize hST : stL LS = ST at *
  generalize hm : st.length = s0 at *
  generalize hn : gs.length = n at *
  have HN := hide hn
  clear h hG O0 hok hb hs hST hm es hn hLS hLn
  go_enter Tryz.func104, Tryz.ntmps104
  go_wp2_with fail
  generalize (w.alloc (.cells #[.slice (some ⟨g0, 0, none⟩) n c1, .slice a2 s0 c2] 29)).alloc (.cells #[.slice none 0 0, .slice none 0 0] 29) = w0 at *
  refine AL.out.mono ?_
  rintro e w1 ⟨va, rfl, hva, hoa, hb1⟩
  have s1 := hb1.size
  unfold o64 at hoa
  rw [STL.out] at hoa
  rcases hoa.2 with ⟨q, _⟩ | ⟨ga, ca, cura, q, _, _, d1, d2, _⟩
  · exact absurd q hva
  subst q
  have OA := hide hoa
  have P1 := hide (KP.out.below hb1 (by omega))
  have R1 := hide (KR.out.below hb1 (by omega))
  have B1 := hide (A0.out.trans (hb1.mono (by omega)))
  have hgal := (hoa.lt ga rfl).2
  have nga : ga ≠ w.heap.size + 1 := by have := (hoa.lt ga rfl).1; omega
  have CS := hide (fun (k : Nat) (hk : k < n) => (show w1.cell? ⟨ga, k, none⟩ = some (.int .i64 ((sAt LS k : Nat) : Int)) from by
    have := owns_cell OA.out k hk
    rw [this, STG.out k hk]))
  have p0 := P1.out.c.1
  have p1 := P1.out.c.2
  clear hoa hb1 hva AL KP KR
  unfold maxLen at d2
  have lp : w.heap.size < w1.heap.size := by omega
  have lp2 : w.heap.size + 1 < w1.heap.size := by omega
  clear es2
  go_wp2_with fail
  go_loop [8] (fun kk => ∃ j : Nat, s0 ≤ j ∧ j ≤ n ∧ kk = .int .i64 j ∧ ∀ i, s0 ≤ i → i < j → sAt LS (i - 1) ≤ off) (fun kk => n - (intOf kk).toNat)
  case atStart => exact ⟨s0, Nat.le_refl _, hsn, rfl, fun i h1 h2 => by omega⟩
  case round =>
    obtain ⟨j, hj1, hj2, rfl, hall⟩ := hrel
    have HALL := hide hall
    obtain ⟨i, rfl⟩ : ∃ i, j = i + 1 := ⟨j - 1, by omega⟩
    have cs := CS.out i (by omega)
    have hsa := JB.out i (by omega)
    generalize hsA : sAt LS i = sA at *
    have HSA := hide hsA
    clear hall hsA
    have hic : (i : Int) < n := by omega
    go_upto_region 3 with fail
    go_cut [29] from 17 to 31 (fun s wc => s = .bool (decide (i + 1 < n ∧ sA ≤ off)) ∧ wc = w1)
    case first =>
      by_cases hlt : i + 1 < n
      · have hlt' : ((i + 1 : Nat) : Int) < n := by omega
        by_cases hle : sA ≤ off
        · have hle' : (sA : Int) ≤ off := by omega
          go_wp2_with fail
          go_meet
          exact ⟨by simp [hlt, hle], rfl⟩
        · have hle' : ¬ (sA : Int) ≤ off := by omega
          go_wp2_with fail
          go_meet
          exact ⟨by simp [hlt, hle], rfl⟩
      · have hlt' : ¬ ((i + 1 : Nat) : Int) < n := by omega
        go_wp2_with fail
        go_meet
        exact ⟨by simp [hlt], rfl⟩
    case rest =>
      obtain ⟨rfl, hwc⟩ := hcut
      have hwc' := hwc.symm
      subst hwc'
      clear hwc
      by_cases hc : i + 1 < n ∧ sA ≤ off
      · have hd : decide (i + 1 < n ∧ sA ≤ off) = true := by simp [hc]
        simp only [hd]
        go_wp2_with fail
        go_round
        case rel =>
          refine ⟨i + 1 + 1, by omega, by omega, by go_num, fun z hz1 hz2 => ?_⟩
          by_cases hzz : z < i + 1
          · exact HALL.out z hz1 hzz
          · obtain rfl : z = i + 1 := by omega
            show sAt LS i ≤ off
            rw [HSA.out]; exact hc.2
        case measure => simp [intOf]; omega
      · have hd : decide (i + 1 < n ∧ sA ≤ off) = false := by simp [hc]
        simp only [hd]
        have KNN := hide (show Kn LS s0 off (i + 1) from ⟨hj1, by rw [HLN.out]; omega, HALL.out, fun h9 => by rw [HLN.out] at h9; show off < sAt LS i; rw [HSA.out]; omega⟩)
        clear cs hc hd HALL
        generalize hm : i + 1 = m at *
        go_wp2_with fail
        go_loop [9, 10] (fun li ii => ∃ x z : Nat, z ≤ m ∧ li = .int .i64 x ∧ ii = .int .i64 z ∧ (x < z ∨ x = 0) ∧ sAt LS x ≤ off ∧ ∀ j, x < j → j < z → off < sAt LS j) (fun _ ii => m - (intOf ii).toNat)
        case atStart => exact ⟨0, 0, Nat.zero_le _, rfl, rfl, .inr rfl, by simp [sAt, smL], fun j h1 h2 => by omega⟩
        case round =>
          obtain ⟨x, z, hz, rfl, rfl, hxz, hxo, hxj⟩ := hrel
          have HXZ := hide hxz
          have HXO := hide hxo
          have HXJ := hide hxj
          clear hxz hxo hxj
          by_cases hzm : z < m
          · have hzm' : (z : Int) < m := by omega
            have cz := CS.out z (by omega)
            have hzn : (z : Int) < n := by omega
            have hsz := JB.out z (by omega)
            generalize hsZ : sAt LS z = sZ at *
            have HSZ := hide hsZ
            clear hsZ
            by_cases hle : sZ ≤ off
            · have hle' : (sZ : Int) ≤ off := by omega
              go_wp2_with fail
              go_round
              case rel => exact ⟨z, z + 1, by omega, rfl, by go_num, .inl (by omega), by rw [HSZ.out]; exact hle, fun j h1 h2 => by omega⟩
              case measure => simp [intOf]; omega
            · have hle' : ¬ (sZ : Int) ≤ off := by omega
              go_wp2_with fail
              go_round
              case rel =>
                refine ⟨x, z + 1, by omega, rfl, by go_num, .inl (by have := HXZ.out; omega), HXO.out, fun j h1 h2 => ?_⟩
                by_cases hjz : j = z
                · rw [hjz, HSZ.out]; omega
                · exact HXJ.out j h1 (by omega)
              case measure => simp [intOf]; omega
          · obtain rfl : z = m := by omega
            have hzm' : ¬ (z : Int) < (z : Int) := by omega
            have hxm : x < z := by have := HXZ.out; omega
            have LNN := hide (KNN.out.ln hxm HXO.out HXJ.out)
            have cx := hide (CS.out x (by omega))
            have hxn : (x : Int) < n := by omega
            have hsx := JB.out x (by omega)
            clear HXZ HXO HXJ hz
            have LS8 := hide (show (ST.take z).length = z by rw [List.length_take, STL.out]; omega)
            have LT := hide (show (ints .i64 (ST.take z)).length = z * 1 by rw [ints_length, List.length_take, STL.out]; omega)
            have hsl2 : (z : Int) ≤ (ca : Int) := by omega
            have OA1 := hide (owns_base (base' := w0.heap.size) OA.out (Nat.le_refl _))
            have CR2 := hide (fun (W : World) (hW : Below w1.heap.size w1 W) => (CR.out W (B1.out.trans (hW.mono (by have := B1.out.size; omega)))).mono (R' := fun e x7 => ∃ vr us, e = .returned vr ∧ OwG 152 x7 w1.heap.size x7.heap.size vr us gs ∧ Below w1.heap.size w1 x7 ∧ Below W.heap.size W x7) (fun e x7 ⟨v, us, he, hG, hb⟩ => ⟨v, us, he, hG.mono hW.size (Nat.le_refl _), hW.trans (hb.mono hW.size), hb⟩))
            generalize hsX : sAt LS x = sX at *
            have HSX := hide hsX
            clear hsX
            have A0 := hide (show Below w1.heap.size w1 w1 from (Below.refl _ _))
            have AB := hide (show Below w1.heap.size w1 (w1.alloc (.cells #[] 3)) from ((Below.refl _ _).alloc (Nat.le_refl _) _))
            have AL := hide (show Below w1.heap.size w1 (w1.alloc (.cells #[.slice none 0 0, .slice none 0 0] 29)) from ((Below.refl _ _).alloc (Nat.le_refl _) _))
            have ABL := hide (show Below w1.heap.size w1 ((w1.alloc (.cells #[] 3)).alloc (.cells #[.slice none 0 0, .slice none 0 0] 29)) from (((Below.refl _ _).alloc (Nat.le_refl _) _).alloc (by simp) _))
            have ALB := hide (show Below w1.heap.size w1 ((w1.alloc (.cells #[.slice none 0 0, .slice none 0 0] 29)).alloc (.cells #[] 3)) from (((Below.refl _ _).alloc (Nat.le_refl _) _).alloc (by simp) _))
            have zB : (w1.alloc (.cells #[] 3)).heap.size = w1.heap.size + 1 := by simp
            have zL : (w1.alloc (.cells #[.slice none 0 0, .slice none 0 0] 29)).heap.size = w1.heap.size + 1 := by simp
            have NB := hide (own_newT w1 3)
            have NBL := hide ((own_newT w1 3).alloc (.cells #[.slice none 0 0, .slice none 0 0] 29))
            have NLB := hide (owns_base (base' := w1.heap.size) (own_newT (w1.alloc (.cells #[.slice none 0 0, .slice none 0 0] 29)) 3) (by simp))
            rw [zL] at NLB
            have DL := hide (D2.new w1 (.slice none 0 0) (.slice none 0 0) 29)
            have DLB := hide (DL.out.below ((Below.refl _ _).alloc (Nat.le_refl _) (.cells #[] 3)) (by rw [zL]; omega))
            have DBL := hide (D2.new (w1.alloc (.cells #[] 3)) (.slice none 0 0) (.slice none 0 0) 29)
            rw [zB] at DBL
            clear zB zL
            go_upto_region 11 with fail
            go_cut [11] from 12 to 60 (fun s wc => ∃ X ar cr g5 cap5, s = .pointer (some ⟨X, 0, none⟩) ∧ FP w1 wc X n z ar cr g5 cap5 gs (ST.take z))
            case first =>
              go_region_law (first
                | (refine step_append_lies _ rfl _ _ 23 rfl w1.heap.size 3 i0 (.int .i64 0) 1 8 Tryz.underlying23 hi0 hz0 hz1 hz2 rfl (by decide) _ 0 [] rfl (by exact E_a.out) ⟨ga, 0, none⟩ z ca (ints .i64 (ST.take z)) rfl LT.out (by exact CA_a.out) (ints_one _ _) (by omega) (by unfold maxLen; omega) (by first | omega | (simp; omega)) (by first | omega | (simp; omega)) _ rfl ?_; intro g5 cap5 x8 ho5 hg5 _ hgl5; have F8 := hide (fb_of G7.out bX_a.out E_a.out hg5 BW7.out ho5 LS8.out); have s8 := F8.out.b.size; have sx8 := hg5.size; clear ho5 hg5 hgl5)
                | (refine step_append_lies _ rfl _ _ 23 rfl w1.heap.size 3 i0 (.int .i64 0) 1 8 Tryz.underlying23 hi0 hz0 hz1 hz2 rfl (by decide) _ 0 [] rfl (by exact E_c.out) ⟨ga, 0, none⟩ z ca (ints .i64 (ST.take z)) rfl LT.out (by exact CA_c.out) (ints_one _ _) (by omega) (by unfold maxLen; omega) (by first | omega | (simp; omega)) (by first | omega | (simp; omega)) _ rfl ?_; intro g5 cap5 x8 ho5 hg5 _ hgl5; have F8 := hide (fb_of G7.out bX_c.out E_c.out hg5 BW7.out ho5 LS8.out); have s8 := F8.out.b.size; have sx8 := hg5.size; have LD8 := hide (LD_c.out.grown E_c.out hg5); have u0 := LD8.out.c.1; have u1 := LD8.out.c.2; have f0 := LD8.out.fz 0; have f1 := LD8.out.fz 1; have hl8 := LD8.out.lt; clear ho5 hg5 hgl5)
                | (refine step_append_lies _ rfl _ _ 23 rfl w1.heap.size 3 i0 (.int .i64 0) 1 8 Tryz.underlying23 hi0 hz0 hz1 hz2 rfl (by decide) _ 0 [] rfl (by exact E_d.out) ⟨ga, 0, none⟩ z ca (ints .i64 (ST.take z)) rfl LT.out (by exact CA_d.out) (ints_one _ _) (by omega) (by unfold maxLen; omega) (by first | omega | (simp; omega)) (by first | omega | (simp; omega)) _ rfl ?_; intro g5 cap5 x8 ho5 hg5 _ hgl5; have F8 := hide (fb_of G7.out bX_d.out E_d.out hg5 BW7.out ho5 LS8.out); have s8 := F8.out.b.size; have sx8 := hg5.size; have LD8 := hide (LD_d.out.grown E_d.out hg5); have u0 := LD8.out.c.1; have u1 := LD8.out.c.2; have f0 := LD8.out.fz 0; have f1 := LD8.out.fz 1; have hl8 := LD8.out.lt; clear ho5 hg5 hgl5)
                | (refine step_append_lies _ rfl _ _ 23 rfl w1.heap.size 3 i0 (.int .i64 0) 1 8 Tryz.underlying23 hi0 hz0 hz1 hz2 rfl (by decide) _ 0 [] rfl (by exact E_f.out) ⟨ga, 0, none⟩ z ca (ints .i64 (ST.take z)) rfl LT.out (by exact CA_f.out) (ints_one _ _) (by omega) (by unfold maxLen; omega) (by first | omega | (simp; omega)) (by first | omega | (simp; omega)) _ rfl ?_; intro g5 cap5 x8 ho5 hg5 _ hgl5; have F8 := hide (fb_of G7.out bX_f.out E_f.out hg5 BW7.out ho5 LS8.out); have s8 := F8.out.b.size; have sx8 := hg5.size; have LD8 := hide (LD_f.out.grown E_f.out hg5); have u0 := LD8.out.c.1; have u1 := LD8.out.c.2; have f0 := LD8.out.fz 0; have f1 := LD8.out.fz 1; have hl8 := LD8.out.lt; clear ho5 hg5 hgl5)
                | (refine step_append_lies _ rfl _ _ 23 rfl w1.heap.size 3 i0 (.int .i64 0) 1 8 Tryz.underlying23 hi0 hz0 hz1 hz2 rfl (by decide) _ 0 [] rfl (by exact E_b.out) ⟨ga, 0, none⟩ z ca (ints .i64 (ST.take z)) rfl LT.out (by exact CA_b.out) (ints_one _ _) (by omega) (by unfold maxLen; omega) (by first | omega | (simp; omega)) (by first | omega | (simp; omega)) _ rfl ?_; intro g5 cap5 x8 ho5 hg5 _ hgl5; have F8 := hide (fb_of G7.out bX_b.out E_b.out hg5 BW7.out ho5 LS8.out); have s8 := F8.out.b.size; have sx8 := hg5.size; clear ho5 hg5 hgl5)
                | (refine step_append_lies _ rfl _ _ 23 rfl w1.heap.size 3 i0 (.int .i64 0) 1 8 Tryz.underlying23 hi0 hz0 hz1 hz2 rfl (by decide) _ 0 [] rfl (by exact E_e.out) ⟨ga, 0, none⟩ z ca (ints .i64 (ST.take z)) rfl LT.out (by exact CA_e.out) (ints_one _ _) (by omega) (by unfold maxLen; omega) (by first | omega | (simp; omega)) (by first | omega | (simp; omega)) _ rfl ?_; intro g5 cap5 x8 ho5 hg5 _ hgl5; have F8 := hide (fb_of G7.out bX_e.out E_e.out hg5 BW7.out ho5 LS8.out); have s8 := F8.out.b.size; have sx8 := hg5.size; have LD8 := hide (LD_e.out.grown E_e.out hg5); have u0 := LD8.out.c.1; have u1 := LD8.out.c.2; have f0 := LD8.out.fz 0; have f1 := LD8.out.fz 1; have hl8 := LD8.out.lt; clear ho5 hg5 hgl5)
                | (refine step_append_lies _ rfl _ _ 23 rfl w1.heap.size 3 i0 (.int .i64 0) 1 8 Tryz.underlying23 hi0 hz0 hz1 hz2 rfl (by decide) _ 0 [] rfl (by exact E_g.out) ⟨ga, 0, none⟩ z ca (ints .i64 (ST.take z)) rfl LT.out (by exact CA_g.out) (ints_one _ _) (by omega) (by unfold maxLen; omega) (by first | omega | (simp; omega)) (by first | omega | (simp; omega)) _ rfl ?_; intro g5 cap5 x8 ho5 hg5 _ hgl5; have F8 := hide (fb_of G7.out bX_g.out E_g.out hg5 BW7.out ho5 LS8.out); have s8 := F8.out.b.size; have sx8 := hg5.size; have LD8 := hide (LD_g.out.grown E_g.out hg5); have u0 := LD8.out.c.1; have u1 := LD8.out.c.2; have f0 := LD8.out.fz 0; have f1 := LD8.out.fz 1; have hl8 := LD8.out.lt; clear ho5 hg5 hgl5)
                | (refine step_append_lies _ rfl _ _ 23 rfl w1.heap.size 3 i0 (.int .i64 0) 1 8 Tryz.underlying23 hi0 hz0 hz1 hz2 rfl (by decide) _ 0 [] rfl (by exact E_h.out) ⟨ga, 0, none⟩ z ca (ints .i64 (ST.take z)) rfl LT.out (by exact CA_h.out) (ints_one _ _) (by omega) (by unfold maxLen; omega) (by first | omega | (simp; omega)) (by first | omega | (simp; omega)) _ rfl ?_; intro g5 cap5 x8 ho5 hg5 _ hgl5; have F8 := hide (fb_of G7.out bX_h.out E_h.out hg5 BW7.out ho5 LS8.out); have s8 := F8.out.b.size; have sx8 := hg5.size; have LD8 := hide (LD_h.out.grown E_h.out hg5); have u0 := LD8.out.c.1; have u1 := LD8.out.c.2; have f0 := LD8.out.fz 0; have f1 := LD8.out.fz 1; have hl8 := LD8.out.lt; clear ho5 hg5 hgl5)
                | (go_simp; go_wp2_with (go_at_call 157; refine (CR2.out _ (by first | exact (show Below w1.heap.size w1 _ from ⟨A0.out.os, A0.out.tape, A0.out.output, A0.out.size, A0.out.block⟩) | exact (show Below w1.heap.size w1 _ from ⟨AB.out.os, AB.out.tape, AB.out.output, AB.out.size, AB.out.block⟩) | exact (show Below w1.heap.size w1 _ from ⟨AL.out.os, AL.out.tape, AL.out.output, AL.out.size, AL.out.block⟩) | exact (show Below w1.heap.size w1 _ from ⟨ABL.out.os, ABL.out.tape, ABL.out.output, ABL.out.size, ABL.out.block⟩) | exact (show Below w1.heap.size w1 _ from ⟨ALB.out.os, ALB.out.tape, ALB.out.output, ALB.out.size, ALB.out.block⟩))).mono ?_; rintro e x7 ⟨vr7, us7, rfl, hG7, hB7, hb7⟩; obtain ⟨ar7, cr7, hvr⟩ := hG7.val; rw [HN.out] at hvr; subst hvr; have G7 := hide hG7; have BW7 := hide hB7; have s7 := hB7.size; have l7 : w.heap.size + 1 < x7.heap.size := (by omega); have P7 := (P1.out.below hB7 lp); have pp0 := P7.c.1; have pp1 := P7.c.2; first | (have HB : Below w1.heap.size w1 x7 := ⟨hb7.os, hb7.tape, hb7.output, hb7.size, hb7.block⟩; have bX_b := hide (show Below x7.heap.size x7 (x7.alloc (.cells #[] 3)) from ((Below.refl _ _).alloc (Nat.le_refl _) _)); have E_b := hide (owns_base (base' := w1.heap.size) (own_newT x7 3) s7); have CA_b := hide (owns_takeF (owns_below OA1.out (hB7.trans (bX_b.out.mono s7)) (Nat.le_refl _)) z); have bX_g := hide (show Below x7.heap.size x7 ((x7.alloc (.cells #[] 3)).alloc (.cells #[.slice none 0 0, .slice none 0 0] 29)) from (((Below.refl _ _).alloc (Nat.le_refl _) _).alloc (by simp) _)); have E_g := hide (owns_base (base' := w1.heap.size) ((own_newT x7 3).alloc (.cells #[.slice none 0 0, .slice none 0 0] 29)) s7); have CA_g := hide (owns_takeF (owns_below OA1.out (hB7.trans (bX_g.out.mono s7)) (Nat.le_refl _)) z); have LD_g := hide (show D2 ((x7.alloc (.cells #[] 3)).alloc (.cells #[.slice none 0 0, .slice none 0 0] 29)) (x7.heap.size + 1) (.slice none 0 0) (.slice none 0 0) 29 from dBL x7); have bX_h := hide (show Below x7.heap.size x7 ((x7.alloc (.cells #[.slice none 0 0, .slice none 0 0] 29)).alloc (.cells #[] 3)) from (((Below.refl _ _).alloc (Nat.le_refl _) _).alloc (by simp) _)); have E_h := hide (ownLB x7 s7); have CA_h := hide (owns_takeF (owns_below OA1.out (hB7.trans (bX_h.out.mono s7)) (Nat.le_refl _)) z); have LD_h := hide (show D2 ((x7.alloc (.cells #[.slice none 0 0, .slice none 0 0] 29)).alloc (.cells #[] 3)) x7.heap.size (.slice none 0 0) (.slice none 0 0) 29 from dLB x7); clear HB) | (have HB : Below (w1.alloc (.cells #[] 3)).heap.size (w1.alloc (.cells #[] 3)) x7 := ⟨hb7.os, hb7.tape, hb7.output, hb7.size, hb7.block⟩; have bX_a := hide (show Below x7.heap.size x7 x7 from (Below.refl _ _)); have E_a := hide (owns_below NB.out HB (Nat.le_refl _)); have CA_a := hide (owns_takeF (owns_below OA1.out (hB7.trans (bX_a.out.mono s7)) (Nat.le_refl _)) z); have bX_f := hide (show Below x7.heap.size x7 (x7.alloc (.cells #[.slice none 0 0, .slice none 0 0] 29)) from ((Below.refl _ _).alloc (Nat.le_refl _) _)); have E_f := hide ((owns_below NB.out HB (Nat.le_refl _)).alloc (.cells #[.slice none 0 0, .slice none 0 0] 29)); have CA_f := hide (owns_takeF (owns_below OA1.out (hB7.trans (bX_f.out.mono s7)) (Nat.le_refl _)) z); have LD_f := hide (show D2 (x7.alloc (.cells #[.slice none 0 0, .slice none 0 0] 29)) x7.heap.size (.slice none 0 0) (.slice none 0 0) 29 from D2.new x7 (.slice none 0 0) (.slice none 0 0) 29); clear HB) | (have HB : Below (w1.alloc (.cells #[.slice none 0 0, .slice none 0 0] 29)).heap.size (w1.alloc (.cells #[.slice none 0 0, .slice none 0 0] 29)) x7 := ⟨hb7.os, hb7.tape, hb7.output, hb7.size, hb7.block⟩; have bX_e := hide (show Below x7.heap.size x7 (x7.alloc (.cells #[] 3)) from ((Below.refl _ _).alloc (Nat.le_refl _) _)); have E_e := hide (owns_base (base' := w1.heap.size) (own_newT x7 3) s7); have CA_e := hide (owns_takeF (owns_below OA1.out (hB7.trans (bX_e.out.mono s7)) (Nat.le_refl _)) z); have LD_e := hide (show D2 (x7.alloc (.cells #[] 3)) w1.heap.size (.slice none 0 0) (.slice none 0 0) 29 from (DL.out.below HB (by simp <;> omega)).below ((Below.refl x7.heap.size x7).alloc (Nat.le_refl _) (.cells #[] 3)) (by first | omega | (have := HB.size; simp at this; omega))); clear HB) | (have HB : Below ((w1.alloc (.cells #[] 3)).alloc (.cells #[.slice none 0 0, .slice none 0 0] 29)).heap.size ((w1.alloc (.cells #[] 3)).alloc (.cells #[.slice none 0 0, .slice none 0 0] 29)) x7 := ⟨hb7.os, hb7.tape, hb7.output, hb7.size, hb7.block⟩; have bX_d := hide (show Below x7.heap.size x7 x7 from (Below.refl _ _)); have E_d := hide (owns_below NBL.out HB (Nat.le_refl _)); have CA_d := hide (owns_takeF (owns_below OA1.out (hB7.trans (bX_d.out.mono s7)) (Nat.le_refl _)) z); have LD_d := hide (show D2 x7 (w1.heap.size + 1) (.slice none 0 0) (.slice none 0 0) 29 from DBL.out.below HB (by simp <;> omega)); clear HB) | (have HB : Below ((w1.alloc (.cells #[.slice none 0 0, .slice none 0 0] 29)).alloc (.cells #[] 3)).heap.size ((w1.alloc (.cells #[.slice none 0 0, .slice none 0 0] 29)).alloc (.cells #[] 3)) x7 := ⟨hb7.os, hb7.tape, hb7.output, hb7.size, hb7.block⟩; have bX_c := hide (show Below x7.heap.size x7 x7 from (Below.refl _ _)); have E_c := hide (owns_below NLB.out HB (Nat.le_refl _)); have CA_c := hide (owns_takeF (owns_below OA1.out (hB7.trans (bX_c.out.mono s7)) (Nat.le_refl _)) z); have LD_c := hide (show D2 x7 w1.heap.size (.slice none 0 0) (.slice none 0 0) 29 from DLB.out.below HB (by simp <;> omega)); clear HB); clear hG7 hB7 hb7 P7)))
              all_goals
                go_wp2_with fail
                go_meet
                first
                  | exact ⟨_, _, _, _, _, rfl, fp_set F8.out LD8.out (by omega)⟩
                  | exact ⟨_, _, _, _, _, rfl, fp_new F8.out⟩
            case rest =>
              obtain ⟨X, ar, cr, g5, cap5, rfl, hF⟩ := hcut
              have F2 := hide hF
              have s2 := hF.b.size
              have d0 := hF.d.c.1
              have d1_ := hF.d.c.2
              have hle := hF.le
              have hXl := hF.d.lt
              have nX : X ≠ w.heap.size + 1 := by omega
              have R2 := hide (R1.out.below hF.b lp2)
              have f0 := R2.out.fz 0
              have f1 := R2.out.fz 1
              have e0 := R2.out.c.1
              have e1 := R2.out.c.2
              have cx2 : wc.cell? ⟨ga, x, none⟩ = some (.int .i64 (sX : Int)) := (hF.b.cell (p := ⟨ga, x, none⟩) hgal).trans cx.out
              have hbs := B1.out.size
              clear hF
              go_upto_region 12 with fail
              go_region
              all_goals
                go_wp2_with fail
                refine bodyPost_ret (v := .tuple #[.agg #[.slice ar n cr, .slice (some ⟨g5, 0, none⟩) z cap5], .int .i64 x, .int .i64 ((off : Int) - sX)]) (by simp [results, Tryz.results104, go_sem, e0, e1]) rfl ⟨_, _, x, by rw [HSX.out], LNN.out, z, KNN.out, ?_, ?_⟩
                · refine (F2.out.o.frame (fun q h1 h2 => ?_)).mono (by omega) (by simp)
                  change ((wc.setCell ⟨w.heap.size + 1, 0, none⟩ (.slice ar n cr)).setCell ⟨w.heap.size + 1, 1, none⟩ (.slice (some ⟨g5, 0, none⟩) z cap5)).heap[q]? = _
                  rw [heap_setCell_other _ _ _ _ (by show q ≠ w.heap.size + 1; omega), heap_setCell_other _ _ _ _ (by show q ≠ w.heap.size + 1; omega)]
                · have Bz : Below w.heap.size w ((wc.setCell ⟨w.heap.size + 1, 0, none⟩ (.slice ar n cr)).setCell ⟨w.heap.size + 1, 1, none⟩ (.slice (some ⟨g5, 0, none⟩) z cap5)) := ((B1.out.trans (F2.out.b.mono (by omega))).setCell (by simp) _).setCell (by simp) _
                  exact ⟨Bz.os, Bz.tape, Bz.output, Bz.size, Bz.block⟩
end Go.Proofs.YtbgngikejgihgagGreatDoor
