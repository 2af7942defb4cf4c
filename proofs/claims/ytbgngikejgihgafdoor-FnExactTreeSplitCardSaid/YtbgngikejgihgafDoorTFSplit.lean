import Derived.Test.YtbgngikejgihgafDoorTFace
import Derived.Test.YtbgngikejgihgafDoorTSplit
import Derived.Test.YtbgngikejgihgafDoorTChk
namespace Go.Proofs.YtbgngikejgihgafDoor
open Go Go.RowKit
set_option linter.unusedVariables false

theorem AT.split_ok (T : AT) (k : Nat) (hk : k ≤ T.its) (h : T.ok) : (T.split k).1.ok ∧ (T.split k).2.ok := by
  have sf := AT.split_flat T k hk
  exact ⟨h.sub (by rw [sf.1]; exact List.take_sublist _ _), h.sub (by rw [sf.2]; exact List.drop_sublist _ _)⟩

set_option maxHeartbeats 2000000 in
set_option maxRecDepth 100000 in
theorem splitTreeOk (B : Nat) (v : Value) (T : AT) (k : Nat) (w : World) (hb : T.bal) (hok : T.ok) (hk : k ≤ T.its) (hr : RdI B w v (T.told 0)) (hB : B ≤ w.heap.size) :
    Calls Tryd.prog 36 #[.agg #[v], .int .i64 k] w fun e w' => ∃ ux uy bx by', e = .returned (.tuple #[.pointer ux, .pointer uy, .nilIface]) ∧ Lies w' w.heap.size (T.split k).1 ux bx ∧ Lies w' w.heap.size (T.split k).2 uy by' ∧ Below w.heap.size w w' := by
  obtain ⟨ao, cap, rfl⟩ := hr.val
  have bT := hok.bd
  have HB0 := hide ((Below.refl w.heap.size w).alloc (Nat.le_refl _) (.cells #[.slice ao (T.told 0).length cap] 28))
  have hs0 : (w.alloc (.cells #[.slice ao (T.told 0).length cap] 28)).heap.size = w.heap.size + 1 := by simp
  have HK := hide (readOk B _ T _ hb hok (hr.below HB0.out hB) (by omega))
  have HBO := hide (And.intro hb hok)
  have fl0 := Tryd.fld0
  generalize (T.told 0).length = n at *
  clear hr hb hok
  go_enter Tryd.func36, Tryd.ntmps36
  go_wp2_with fail
  generalize w.alloc (.cells #[.slice ao n cap] 28) = w0 at *
  refine HK.out.mono ?_
  rintro e w1 ⟨u, bs, rfl, hT, hnd, hb1⟩
  have s1 := hb1.size
  have B1 := hide (HB0.out.trans (hb1.mono (by omega)))
  have HT1 := hide hT
  have HND := hide hnd
  clear hT hnd hb1 HK HB0
  go_wp2_with fail
  refine (allN T u bs _ w1 HT1.out).mono ?_
  rintro e w2 ⟨rfl, hb2⟩
  have s2 := hb2.size
  have B2 := hide (B1.out.trans (hb2.mono (by omega)))
  have HT2 := hide (HT1.out.below hb2 (Nat.le_refl _))
  have HKB := hide (boundsI k 0 T.its 2 w2)
  have hd : decide ((0 : Int) ≤ k ∧ (k : Int) ≤ T.its) = true := by simp; omega
  rw [hd] at HKB
  simp only [errV, if_true] at HKB
  clear hb2 HT1 B1 hd
  unfold cnt
  go_wp2_with fail
  refine HKB.out.mono ?_
  rintro e w3 ⟨rfl, rfl⟩
  go_wp2_with fail
  refine (splitN T k u bs w0.heap.size _ HBO.out.1 HBO.out.2 hk HT2.out HND.out (by omega)).mono ?_
  rintro e w4 ⟨ux, uy, bx, by', rfl, hX, hY, nd4, sub4, ch4⟩
  have B4 := hide (B2.out.trans (ch4.below (by omega) (fun x hx => by have := (HT2.out.lt x hx).1; omega)))
  have HX := hide (hX.base (base' := w.heap.size) (by omega))
  have HY := hide (hY.base (base' := w.heap.size) (by omega))
  clear hX hY nd4 sub4 ch4
  go_wp2
  refine bodyPost_ret (v := .tuple #[.pointer ux, .pointer uy, .nilIface]) (by simp [results, Tryd.results36, go_sem]) rfl ⟨ux, uy, bx, by', rfl, HX.out, HY.out, B4.out⟩

set_option maxHeartbeats 2000000 in
set_option maxRecDepth 100000 in
theorem implSplitOk (B : Nat) (v : Value) (T : AT) (k : Nat) (w : World) (hb : T.bal) (hok : T.ok) (hk : k ≤ T.its) (hr : RdI B w v (T.told 0)) (hB : B ≤ w.heap.size) :
    Calls Tryd.prog 10 #[.agg #[v], .int .i64 k] w fun e w' => ∃ v1 v2, e = .returned (.tuple #[.agg #[v1], .agg #[v2], .int .i64 0]) ∧ OwI w' w.heap.size v1 ((T.split k).1.told 0) ∧ OwI w' w.heap.size v2 ((T.split k).2.told 0) ∧ Below w.heap.size w w' := by
  obtain ⟨ao, cap, rfl⟩ := hr.val
  have HB0 := hide ((((Below.refl w.heap.size w).alloc (Nat.le_refl _) (.cells #[.slice ao (T.told 0).length cap] 28)).alloc (by simp) (.cells #[.slice none 0 0] 28)).alloc (by simp; omega) (.cells #[.slice none 0 0] 28))
  have k1 := (Boxed.new (w.alloc (.cells #[.slice ao (T.told 0).length cap] 28)) 28 (.slice none 0 0)).alloc (.cells #[.slice none 0 0] 28)
  have k2 := Boxed.new ((w.alloc (.cells #[.slice ao (T.told 0).length cap] 28)).alloc (.cells #[.slice none 0 0] 28)) 28 (.slice none 0 0)
  have hs0 : (((w.alloc (.cells #[.slice ao (T.told 0).length cap] 28)).alloc (.cells #[.slice none 0 0] 28)).alloc (.cells #[.slice none 0 0] 28)).heap.size = w.heap.size + 3 := by simp
  rw [World.size_alloc] at k1
  rw [World.size_alloc, World.size_alloc] at k2
  have HK := hide (splitTreeOk B _ T k _ hb hok hk (hr.below HB0.out hB) (by omega))
  have so := AT.split_ok T k hk hok
  have HSO := hide so
  generalize (T.split k).1 = X at *
  generalize (T.split k).2 = Y at *
  generalize (T.told 0).length = n at *
  clear hr hb hok so
  go_enter Tryd.func10, Tryd.ntmps10
  go_wp2_with fail
  generalize ((w.alloc (.cells #[.slice ao n cap] 28)).alloc (.cells #[.slice none 0 0] 28)).alloc (.cells #[.slice none 0 0] 28) = w0 at *
  refine HK.out.mono ?_
  rintro e w1 ⟨ux, uy, bx, by', rfl, hX, hY, hb1⟩
  have s1 := hb1.size
  have B1 := hide (HB0.out.trans (hb1.mono (by omega)))
  have j1 : Boxed w1 (w.heap.size + 1) 28 (.slice none 0 0) := (hb1.block _ (by omega)).trans k1
  have j2 : Boxed w1 (w.heap.size + 1 + 1) 28 (.slice none 0 0) := (hb1.block _ (by omega)).trans k2
  have HX1 := hide hX
  have HY1 := hide hY
  clear hX hY hb1 HK HB0 k1 k2
  go_wp2_with fail
  refine (tellN X ux bx _ w1 HX1.out HSO.out.1).mono ?_
  rintro e w2 ⟨v1, rfl, ho2, hb2⟩
  have s2 := hb2.size
  have B2 := hide (B1.out.trans (hb2.mono (by omega)))
  have m1 : Boxed w2 (w.heap.size + 1) 28 (.slice none 0 0) := (hb2.block _ (by omega)).trans j1
  have m2 : Boxed w2 (w.heap.size + 1 + 1) 28 (.slice none 0 0) := (hb2.block _ (by omega)).trans j2
  have HY2 := hide (HY1.out.below hb2 (Nat.le_refl _))
  have O2 := hide ho2
  clear hb2 ho2 B1 HX1 HY1 j1 j2
  go_wp2_with fail
  refine (tellN Y uy by' _ w2 HY2.out HSO.out.2).mono ?_
  rintro e w3 ⟨v2, rfl, ho3, hb3⟩
  have s3 := hb3.size
  have B3 := hide (B2.out.trans (hb3.mono (by omega)))
  have p1 : Boxed w3 (w.heap.size + 1) 28 (.slice none 0 0) := (hb3.block _ (by omega)).trans m1
  have p2 : Boxed w3 (w.heap.size + 1 + 1) 28 (.slice none 0 0) := (hb3.block _ (by omega)).trans m2
  have O3 := hide (O2.out.below hb3 (Nat.le_refl _))
  have Q3 := hide ho3
  obtain ⟨a1, l1, c1, rfl⟩ : ∃ ao ln cap, v1 = .slice ao ln cap := by
    rcases O2.out.2 with ⟨rfl, _⟩ | ⟨g, cap, cur, rfl, _⟩
    · exact ⟨_, _, _, rfl⟩
    · exact ⟨_, _, _, rfl⟩
  obtain ⟨a2, l2, c2, rfl⟩ : ∃ ao ln cap, v2 = .slice ao ln cap := by
    rcases Q3.out.2 with ⟨rfl, _⟩ | ⟨g, cap, cur, rfl, _⟩
    · exact ⟨_, _, _, rfl⟩
    · exact ⟨_, _, _, rfl⟩
  have d1 := p1.cell
  have d2 := p2.cell
  have f1 := p1.frozen
  have f2 := p2.frozen
  have g1 := p1.lt
  have g2 := p2.lt
  have P1 := hide ((p1.set (.slice a1 l1 c1)).other (B' := w.heap.size + 1 + 1) (by omega) (.slice a2 l2 c2))
  have P2 := hide ((p2.other (B' := w.heap.size + 1) (by omega) (.slice a1 l1 c1)).set (.slice a2 l2 c2))
  have p2' := p2.other (B' := w.heap.size + 1) (by omega) (.slice a1 l1 c1)
  have FIN := hide (show ∀ v xs, OwI w3 w.heap.size v xs → OwI ((w3.setCell ⟨w.heap.size + 1, 0, none⟩ (.slice a1 l1 c1)).setCell ⟨w.heap.size + 1 + 1, 0, none⟩ (.slice a2 l2 c2)) w.heap.size v xs from fun v xs ho => by
    have h1 : OwI (w3.setCell ⟨w.heap.size + 1, 0, none⟩ (.slice a1 l1 c1)) w.heap.size v xs := ho.kept (grownBy_setCell' w3 (w.heap.size + 1) (.slice a1 l1 c1)) (.inr (p1.not_row (by decide) ho).symm)
    exact h1.kept (grownBy_setCell' _ (w.heap.size + 1 + 1) (.slice a2 l2 c2)) (.inr (p2'.not_row (by decide) h1).symm))
  have OF1 := hide (FIN.out _ _ (O3.out.base (base' := w.heap.size) (by omega)))
  have OF2 := hide (FIN.out _ _ (OwI.base (base' := w.heap.size) Q3.out (by omega)))
  have B4 := hide ((B3.out.setCell (p := ⟨w.heap.size + 1, 0, none⟩) (by simp) (.slice a1 l1 c1)).setCell (p := ⟨w.heap.size + 1 + 1, 0, none⟩) (by simp; omega) (.slice a2 l2 c2))
  have e1 := P1.out.cell
  have e2 := P2.out.cell
  clear hb3 ho3 B2 B3 m1 m2 HY2 O2 O3 Q3 p1 p2 p2' FIN
  go_wp2
  refine bodyPost_ret (v := .tuple #[.agg #[.slice a1 l1 c1], .agg #[.slice a2 l2 c2], .int .i64 0]) (by simp [results, Tryd.results10, go_sem, e1, e2]) rfl ⟨_, _, rfl, OF1.out, OF2.out, B4.out⟩
end Go.Proofs.YtbgngikejgihgafDoor
