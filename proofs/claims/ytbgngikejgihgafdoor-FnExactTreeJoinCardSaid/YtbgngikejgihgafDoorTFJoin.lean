import Derived.Test.YtbgngikejgihgafDoorTFace
import Derived.Test.YtbgngikejgihgafDoorTJoin
import Derived.Test.YtbgngikejgihgafDoorTChk
namespace Go.Proofs.YtbgngikejgihgafDoor
open Go Go.RowKit
set_option linter.unusedVariables false

theorem AT.join_ok (A B : AT) (ha : A.ok) (hb : B.ok) (hs : A.rns + B.rns ≤ 8192) : (AT.join A B).ok := by
  refine ⟨fun p hp => ?_, ?_⟩
  · rw [AT.join_flat, List.mem_append] at hp
    rcases hp with h | h
    · exact ha.1 p h
    · exact hb.1 p h
  · rw [AT.rns_of_flat, AT.join_flat, List.map_append, List.sum_append, ← AT.rns_of_flat, ← AT.rns_of_flat]; exact hs

set_option maxHeartbeats 2000000 in
set_option maxRecDepth 100000 in
theorem joinTreesOk (B C : Nat) (v v' : Value) (S T : AT) (w : World) (hb : S.bal) (hok : S.ok) (hb' : T.bal) (hok' : T.ok) (hs : S.rns + T.rns ≤ 8192) (hr : RdI B w v (S.told 0)) (hB : B ≤ w.heap.size) (hr' : RdI C w v' (T.told 0)) (hC : C ≤ w.heap.size) :
    Calls Tryd.prog 45 #[.agg #[v], .agg #[v']] w fun e w' => ∃ u bs, e = .returned (.tuple #[.pointer u, .nilIface]) ∧ Lies w' w.heap.size (AT.join S T) u bs ∧ Below w.heap.size w w' := by
  obtain ⟨ao, cap, rfl⟩ := hr.val
  obtain ⟨ao', cap', rfl⟩ := hr'.val
  have bS := hok.bd
  have bT := hok'.bd
  have HB0 := hide (((Below.refl w.heap.size w).alloc (Nat.le_refl _) (.cells #[.slice ao (S.told 0).length cap] 28)).alloc (by simp) (.cells #[.slice ao' (T.told 0).length cap'] 28))
  have k1 := Boxed.new (w.alloc (.cells #[.slice ao (S.told 0).length cap] 28)) 28 (.slice ao' (T.told 0).length cap')
  have hs0 : ((w.alloc (.cells #[.slice ao (S.told 0).length cap] 28)).alloc (.cells #[.slice ao' (T.told 0).length cap'] 28)).heap.size = w.heap.size + 2 := by simp
  rw [World.size_alloc] at k1
  have HK := hide (readOk B _ S _ hb hok (hr.below HB0.out hB) (by omega))
  have HR' := hide (hr'.below HB0.out hC)
  have HBO := hide (And.intro (And.intro hb hok) (And.intro hb' hok'))
  have fl1 := Tryd.fld1
  generalize hnS : (S.told 0).length = n at *
  generalize hnT : (T.told 0).length = n' at *
  clear hr hr' hb hok hb' hok'
  go_enter Tryd.func45, Tryd.ntmps45
  go_wp2_with fail
  generalize (w.alloc (.cells #[.slice ao n cap] 28)).alloc (.cells #[.slice ao' n' cap'] 28) = w0 at *
  refine HK.out.mono ?_
  rintro e w1 ⟨u, bs, rfl, hT, hnd, hb1⟩
  have s1 := hb1.size
  have B1 := hide (HB0.out.trans (hb1.mono (by omega)))
  have HT1 := hide hT
  have HND := hide hnd
  have j1 : Boxed w1 (w.heap.size + 1) 28 (.slice ao' n' cap') := (hb1.block _ (by omega)).trans k1
  have c1 := j1.cell
  have l1 := j1.lt
  have HK2 := hide (readOk C _ T w1 HBO.out.2.1 HBO.out.2.2 (HR'.out.below hb1 (by omega)) (by omega))
  clear hT hnd hb1 HK HB0 k1 HR'
  go_wp2_with fail
  refine HK2.out.mono ?_
  rintro e w2 ⟨u2, bs2, rfl, hT2, hnd2, hb2⟩
  have s2 := hb2.size
  have B2 := hide (B1.out.trans (hb2.mono (by omega)))
  have HS2 := hide (HT1.out.below hb2 (Nat.le_refl _))
  have HLT := hide (fun x hx => (HT1.out.lt x hx).2)
  have HT2 := hide (hT2.base (base' := w0.heap.size) (by omega))
  have HGE := hide (fun x hx => (hT2.lt x hx).1)
  have ND2 := hide (show (bs ++ bs2).Nodup from nodup_app HND.out hnd2 (m := w1.heap.size) HLT.out HGE.out)
  clear hT2 hnd2 hb2 HK2 B1 HT1 j1 c1
  go_wp2_with fail
  refine (allN S u bs _ w2 HS2.out).mono ?_
  rintro e w3 ⟨rfl, hb3⟩
  have s3 := hb3.size
  have B3 := hide (B2.out.trans (hb3.mono (by omega)))
  have HS3 := hide (HS2.out.below hb3 (Nat.le_refl _))
  have HT3 := hide (HT2.out.below hb3 (Nat.le_refl _))
  clear hb3 HS2 HT2 B2
  unfold cnt
  go_wp2_with fail
  refine (allN T u2 bs2 _ w3 HT3.out).mono ?_
  rintro e w4 ⟨rfl, hb4⟩
  have s4 := hb4.size
  have B4 := hide (B3.out.trans (hb4.mono (by omega)))
  have HS4 := hide (HS3.out.below hb4 (Nat.le_refl _))
  have HT4 := hide (HT3.out.below hb4 (Nat.le_refl _))
  clear hb4 HS3 HT3 B3
  unfold cnt
  go_wp2_with fail
  refine (roomOk S.rns T.rns w4 (by omega) (by omega) (by omega)).mono ?_
  rintro e w5 ⟨rfl, rfl⟩
  go_wp2_with fail
  refine (joinN S T u u2 bs bs2 w0.heap.size _ HBO.out.1.1 HBO.out.2.1 HBO.out.1.2 HBO.out.2.2 hs HS4.out HT4.out ND2.out (by omega)).mono ?_
  rintro e w6 ⟨u6, bs6, rfl, hT6, nd6, sub6, ch6⟩
  have B6 := hide (B4.out.trans (ch6.below (by omega) (fun x hx => by
    rcases List.mem_append.1 hx with h | h
    · have := (HS4.out.lt x h).1; omega
    · have := (HT4.out.lt x h).1; omega)))
  have HT6 := hide (hT6.base (base' := w.heap.size) (by omega))
  clear hT6 nd6 sub6 ch6
  go_wp2
  go_ret2
  exact ⟨u6, bs6, rfl, HT6.out, B6.out⟩

set_option maxHeartbeats 2000000 in
set_option maxRecDepth 100000 in
theorem implJoinOk (B C : Nat) (v v' : Value) (S T : AT) (w : World) (hb : S.bal) (hok : S.ok) (hb' : T.bal) (hok' : T.ok) (hs : S.rns + T.rns ≤ 8192) (hr : RdI B w v (S.told 0)) (hB : B ≤ w.heap.size) (hr' : RdI C w v' (T.told 0)) (hC : C ≤ w.heap.size) :
    Calls Tryd.prog 15 #[.agg #[v], .agg #[v']] w fun e w' => ∃ v1, e = .returned (.tuple #[.agg #[v1], .int .i64 0]) ∧ OwI w' w.heap.size v1 ((AT.join S T).told 0) ∧ Below w.heap.size w w' := by
  obtain ⟨ao, cap, rfl⟩ := hr.val
  obtain ⟨ao', cap', rfl⟩ := hr'.val
  have HB0 := hide ((((Below.refl w.heap.size w).alloc (Nat.le_refl _) (.cells #[.slice ao (S.told 0).length cap] 28)).alloc (by simp) (.cells #[.slice ao' (T.told 0).length cap'] 28)).alloc (by simp; omega) (.cells #[.slice none 0 0] 28))
  have k2 := Boxed.new ((w.alloc (.cells #[.slice ao (S.told 0).length cap] 28)).alloc (.cells #[.slice ao' (T.told 0).length cap'] 28)) 28 (.slice none 0 0)
  have hs0 : (((w.alloc (.cells #[.slice ao (S.told 0).length cap] 28)).alloc (.cells #[.slice ao' (T.told 0).length cap'] 28)).alloc (.cells #[.slice none 0 0] 28)).heap.size = w.heap.size + 3 := by simp
  rw [World.size_alloc, World.size_alloc] at k2
  have HK := hide (joinTreesOk B C _ _ S T _ hb hok hb' hok' hs (hr.below HB0.out hB) (by omega) (hr'.below HB0.out hC) (by omega))
  have HOK := hide (AT.join_ok S T hok hok' hs)
  generalize AT.join S T = J at *
  generalize (S.told 0).length = n at *
  generalize (T.told 0).length = n' at *
  clear hr hr' hb hok hb' hok'
  go_enter Tryd.func15, Tryd.ntmps15
  go_wp2_with fail
  generalize ((w.alloc (.cells #[.slice ao n cap] 28)).alloc (.cells #[.slice ao' n' cap'] 28)).alloc (.cells #[.slice none 0 0] 28) = w0 at *
  refine HK.out.mono ?_
  rintro e w1 ⟨u, bs, rfl, hT, hb1⟩
  have s1 := hb1.size
  have B1 := hide (HB0.out.trans (hb1.mono (by omega)))
  have j2 : Boxed w1 (w.heap.size + 1 + 1) 28 (.slice none 0 0) := (hb1.block _ (by omega)).trans k2
  have HT1 := hide hT
  clear hT hb1 HK HB0 k2
  go_wp2_with fail
  refine (answerOk J u bs _ w1 HT1.out HOK.out).mono ?_
  rintro e w2 ⟨v1, rfl, ho2, hb2⟩
  have s2 := hb2.size
  have m2 : Boxed w2 (w.heap.size + 1 + 1) 28 (.slice none 0 0) := (hb2.block _ (by omega)).trans j2
  have B2 := hide ((B1.out.trans (hb2.mono (by omega))))
  obtain ⟨a1, l1, c1, rfl⟩ : ∃ ao ln cap, v1 = .slice ao ln cap := by
    rcases ho2.2 with ⟨rfl, _⟩ | ⟨g, cap, cur, rfl, _⟩
    · exact ⟨_, _, _, rfl⟩
    · exact ⟨_, _, _, rfl⟩
  have d1 := m2.cell
  have f1 := m2.frozen
  have g1 := m2.lt
  have O2 := hide (OwI.base (base' := w.heap.size) ho2 (by omega))
  have O3 := hide (show OwI (w2.setCell ⟨w.heap.size + 1 + 1, 0, none⟩ (.slice a1 l1 c1)) w.heap.size (.slice a1 l1 c1) (J.told 0) from O2.out.kept (grownBy_setCell' w2 (w.heap.size + 1 + 1) (.slice a1 l1 c1)) (.inr (m2.not_row (by decide) O2.out).symm))
  have B3 := hide (B2.out.setCell (p := ⟨w.heap.size + 1 + 1, 0, none⟩) (by simp; omega) (.slice a1 l1 c1))
  have e1 := (m2.set (.slice a1 l1 c1)).cell
  clear ho2 hb2 B1 B2 j2 m2 O2 HT1
  go_wp2
  refine bodyPost_ret (v := .tuple #[.agg #[.slice a1 l1 c1], .int .i64 0]) (by simp [results, Tryd.results15, go_sem, e1]) rfl ⟨_, rfl, O3.out, B3.out⟩
end Go.Proofs.YtbgngikejgihgafDoor
