import Derived.Test.YtbgngikejgihgafDoorTFSplit
import Derived.Test.YtbgngikejgihgafDoorCodeOf
namespace Go.Proofs.YtbgngikejgihgafDoor
open Go Go.RowKit
set_option linter.unusedVariables false

def splCode (xs : List It) (k : Int) : Int := match readT xs with | none => 1 | some T => if 0 ≤ k ∧ k ≤ (T.its : Int) then 0 else 2
def splX (xs : List It) (k : Int) : List It := match readT xs with | none => [] | some T => if 0 ≤ k ∧ k ≤ (T.its : Int) then (T.split k.toNat).1.told 0 else []
def splY (xs : List It) (k : Int) : List It := match readT xs with | none => [] | some T => if 0 ≤ k ∧ k ≤ (T.its : Int) then (T.split k.toNat).2.told 0 else []
def msgST : ByteArray := ⟨#[115, 112, 108, 105, 116, 116, 105, 110, 103, 32, 97, 32, 116, 114, 101, 101]⟩
/-- Two rows that lie apart. -/
def Apart (v u : Value) : Prop := ∀ z, v.ownBlock = some z → u.ownBlock = some z → False

set_option maxHeartbeats 2000000 in
set_option maxRecDepth 100000 in
theorem splitTreeBad (B : Nat) (v : Value) (xs : List It) (k : Int) (w : World) (hr : RdI B w v xs) (hB : B ≤ w.heap.size) (hn : xs.length ≤ 1048576) (hc : splCode xs k ≠ 0) :
    Calls Tryd.prog 36 #[.agg #[v], .int .i64 k] w fun e w' => (∃ msg, e = .returned (.tuple #[.pointer none, .pointer none, .iface 132 (.agg #[.string msg, .iface 130 (.int .i64 (splCode xs k))])])) ∧ Below w.heap.size w w' := by
  obtain ⟨ao, cap, rfl⟩ := hr.val
  have HB0 := hide ((Below.refl w.heap.size w).alloc (Nat.le_refl _) (.cells #[.slice ao xs.length cap] 28))
  have hs0 : (w.alloc (.cells #[.slice ao xs.length cap] 28)).heap.size = w.heap.size + 1 := by simp
  have HI := hide (readTreeN B _ xs _ (hr.below HB0.out hB) (by omega) hn)
  have HC := hide hc
  have HX := hide (show splCode xs k = (match readT xs with | none => 1 | some T => if 0 ≤ k ∧ k ≤ (T.its : Int) then 0 else 2) from rfl)
  have fl0 := Tryd.fld0
  generalize splCode xs k = cd at *
  generalize hN : xs.length = n at *
  clear hr hc
  go_enter Tryd.func36, Tryd.ntmps36
  go_wp2_with fail
  generalize w.alloc (.cells #[.slice ao n cap] 28) = w0 at *
  refine HI.out.mono ?_
  clear HI
  cases hT : readT xs with
  | none =>
    rw [hT] at HX
    simp only at HX
    clear hT
    rintro e w1 ⟨⟨msg, rfl⟩, hb1⟩
    have HB1 := hide (HB0.out.trans (hb1.mono (by omega)))
    clear hb1 HB0
    go_wp2
    refine bodyPost_ret (v := .tuple #[.pointer none, .pointer none, .iface 132 (.agg #[.string msg, .iface 130 (.int .i64 1)])]) (by simp [results, Tryd.results36, go_sem]) rfl ⟨⟨msg, by rw [HX.out]⟩, HB1.out⟩
  | some T =>
    rw [hT] at HX
    simp only at HX
    clear hT
    have hk : ¬ (0 ≤ k ∧ k ≤ (T.its : Int)) := by
      intro h9
      have h8 := HX.out
      rw [if_pos h9] at h8
      exact HC.out h8
    rw [if_neg hk] at HX
    rintro e w1 ⟨u, bs, rfl, hL, hnd, hok, hb1⟩
    have s1 := hb1.size
    have bT := hok.bd
    have B1 := hide (HB0.out.trans (hb1.mono (by omega)))
    have HT1 := hide hL
    clear hL hnd hb1 HB0 hok
    go_wp2_with fail
    refine (allN T u bs _ w1 HT1.out).mono ?_
    rintro e w2 ⟨rfl, hb2⟩
    have B2 := hide (B1.out.trans (hb2.mono (by omega)))
    have HKB := hide (boundsI k 0 T.its 2 w2)
    have hd : decide ((0 : Int) ≤ k ∧ k ≤ (T.its : Int)) = false := by rw [decide_eq_false_iff_not]; exact hk
    rw [hd] at HKB
    simp only [errV, Bool.false_eq_true, if_false] at HKB
    clear hb2 HT1 B1 hd hk
    unfold cnt
    go_wp2_with fail
    refine HKB.out.mono ?_
    rintro e w3 ⟨rfl, rfl⟩
    go_wp2
    refine bodyPost_ret (v := .tuple #[.pointer none, .pointer none, .iface 132 (.agg #[.string msgST, .iface 130 (.int .i64 2)])]) (by simp [results, Tryd.results36, go_sem, msgST]) rfl ⟨⟨msgST, by rw [HX.out]⟩, B2.out⟩

set_option maxHeartbeats 2000000 in
set_option maxRecDepth 100000 in
theorem implSplitBad (B : Nat) (v : Value) (xs : List It) (k : Int) (w : World) (hr : RdI B w v xs) (hB : B ≤ w.heap.size) (hn : xs.length ≤ 1048576) (hc : splCode xs k ≠ 0) (hg : w.cell? ⟨0, 0, none⟩ = some (.iface 222 (.agg #[.pointer (some ⟨1, 73, none⟩)]))) :
    Calls Tryd.prog 10 #[.agg #[v], .int .i64 k] w fun e w' => e = .returned (.tuple #[.agg #[.slice none 0 0], .agg #[.slice none 0 0], .int .i64 (splCode xs k)]) ∧ Below w.heap.size w w' := by
  have hlt : 0 < w.heap.size := World.block_lt_of_cell? w _ hg
  obtain ⟨ao, cap, rfl⟩ := hr.val
  have HB0 := hide ((((Below.refl w.heap.size w).alloc (Nat.le_refl _) (.cells #[.slice ao xs.length cap] 28)).alloc (by simp) (.cells #[.slice none 0 0] 28)).alloc (by simp; omega) (.cells #[.slice none 0 0] 28))
  have k1 := (Boxed.new (w.alloc (.cells #[.slice ao xs.length cap] 28)) 28 (.slice none 0 0)).alloc (.cells #[.slice none 0 0] 28)
  have k2 := Boxed.new ((w.alloc (.cells #[.slice ao xs.length cap] 28)).alloc (.cells #[.slice none 0 0] 28)) 28 (.slice none 0 0)
  have hs0 : (((w.alloc (.cells #[.slice ao xs.length cap] 28)).alloc (.cells #[.slice none 0 0] 28)).alloc (.cells #[.slice none 0 0] 28)).heap.size = w.heap.size + 3 := by simp
  rw [World.size_alloc] at k1
  rw [World.size_alloc, World.size_alloc] at k2
  have HK := hide (splitTreeBad B _ xs k _ (hr.below HB0.out hB) (by omega) hn hc)
  have HG := hide ((HB0.out.cell (p := ⟨0, 0, none⟩) hlt).trans hg)
  generalize splCode xs k = cd at *
  generalize xs.length = n at *
  clear hr hc hg
  go_enter Tryd.func10, Tryd.ntmps10
  go_wp2_with fail
  generalize ((w.alloc (.cells #[.slice ao n cap] 28)).alloc (.cells #[.slice none 0 0] 28)).alloc (.cells #[.slice none 0 0] 28) = w0 at *
  refine HK.out.mono ?_
  rintro e w1 ⟨⟨msg, rfl⟩, hb1⟩
  have s1 := hb1.size
  have B1 := hide (HB0.out.trans (hb1.mono (by omega)))
  have j1 : Boxed w1 (w.heap.size + 1) 28 (.slice none 0 0) := (hb1.block _ (by omega)).trans k1
  have j2 : Boxed w1 (w.heap.size + 1 + 1) 28 (.slice none 0 0) := (hb1.block _ (by omega)).trans k2
  have G1 := hide ((hb1.cell (p := ⟨0, 0, none⟩) (show 0 < w0.heap.size by omega)).trans HG.out)
  clear hb1 HK HB0 k1 k2
  go_wp2_with fail
  refine (codeOf msg cd w1 G1.out).mono ?_
  rintro e w2 ⟨rfl, hb2⟩
  have s2 := hb2.size
  have p1 : Boxed w2 (w.heap.size + 1) 28 (.slice none 0 0) := (hb2.block _ (by omega)).trans j1
  have p2 : Boxed w2 (w.heap.size + 1 + 1) 28 (.slice none 0 0) := (hb2.block _ (by omega)).trans j2
  have B2 := hide ((B1.out.trans (hb2.mono (by omega))))
  have d1 := p1.cell
  have d2 := p2.cell
  have f1 := p1.frozen
  have f2 := p2.frozen
  have g1 := p1.lt
  have g2 := p2.lt
  have P1 := hide ((p1.set (.slice none 0 0)).other (B' := w.heap.size + 1 + 1) (by omega) (.slice none 0 0))
  have P2 := hide ((p2.other (B' := w.heap.size + 1) (by omega) (.slice none 0 0)).set (.slice none 0 0))
  have B4 := hide ((B2.out.setCell (p := ⟨w.heap.size + 1, 0, none⟩) (by simp) (.slice none 0 0)).setCell (p := ⟨w.heap.size + 1 + 1, 0, none⟩) (by simp; omega) (.slice none 0 0))
  have e1 := P1.out.cell
  have e2 := P2.out.cell
  clear hb2 B1 j1 j2 p1 p2
  go_wp2
  refine bodyPost_ret (v := .tuple #[.agg #[.slice none 0 0], .agg #[.slice none 0 0], .int .i64 cd]) (by simp [results, Tryd.results10, go_sem, e1, e2]) rfl ⟨rfl, B4.out⟩

theorem AT.flat_told : ∀ (T : AT) (d : Int), (T.told d).map (fun x => x.pc) = T.flat
  | .nil, d => rfl
  | .node l p r, d => by simp [AT.told, AT.flat, AT.flat_told l, AT.flat_told r]
theorem AT.ok_of_read {xs : List It} {T : AT} (h : readT xs = some T) : T.ok := by
  obtain ⟨h1, h2, h3, h4⟩ := readT_some h
  simp only [okT, Bool.and_eq_true, decide_eq_true_eq] at h1
  refine ⟨fun p hp => ?_, ?_⟩
  · rw [← AT.flat_told T 0, ← h3] at hp
    obtain ⟨x, hx, rfl⟩ := List.mem_map.1 hp
    exact List.all_eq_true.1 h1.1.1.2 x hx
  · rw [← AT.rns_told T 0, ← h3]; exact h1.1.2

set_option maxHeartbeats 2000000 in
set_option maxRecDepth 100000 in
theorem implSplitOk2 (B : Nat) (v : Value) (T : AT) (k : Nat) (w : World) (hb : T.bal) (hok : T.ok) (hk : k ≤ T.its) (hr : RdI B w v (T.told 0)) (hB : B ≤ w.heap.size) :
    Calls Tryd.prog 10 #[.agg #[v], .int .i64 k] w fun e w' => ∃ v1 v2, e = .returned (.tuple #[.agg #[v1], .agg #[v2], .int .i64 0]) ∧ OwI w' w.heap.size v1 ((T.split k).1.told 0) ∧ OwI w' w.heap.size v2 ((T.split k).2.told 0) ∧ Apart v1 v2 ∧ Below w.heap.size w w' := by
  obtain ⟨ao, cap, rfl⟩ := hr.val
  have HB0 := hide ((((Below.refl w.heap.size w).alloc (Nat.le_refl _) (.cells #[.slice ao (T.told 0).length cap] 28)).alloc (by simp) (.cells #[.slice none 0 0] 28)).alloc (by simp; omega) (.cells #[.slice none 0 0] 28))
  have k1 := (Boxed.new (w.alloc (.cells #[.slice ao (T.told 0).length cap] 28)) 28 (.slice none 0 0)).alloc (.cells #[.slice none 0 0] 28)
  have k2 := Boxed.new ((w.alloc (.cells #[.slice ao (T.told 0).length cap] 28)).alloc (.cells #[.slice none 0 0] 28)) 28 (.slice none 0 0)
  have hs0 : (((w.alloc (.cells #[.slice ao (T.told 0).length cap] 28)).alloc (.cells #[.slice none 0 0] 28)).alloc (.cells #[.slice none 0 0] 28)).heap.size = w.heap.size + 3 := by simp
  rw [World.size_alloc] at k1
  rw [World.size_alloc, World.size_alloc] at k2
  have HK := hide (splitTreeOk B _ T k _ hb hok hk (hr.below HB0.out hB) (by omega))
  have so := AT.split_ok T k hk hok
  have HSO := hide so
  generalize (T.split k).1 = X at *
  generalize (T.split k).2 = Y at *
  generalize (T.told 0).length = n at *
  clear hr hb hok so
  go_enter Tryd.func10, Tryd.ntmps10
  go_wp2_with fail
  generalize ((w.alloc (.cells #[.slice ao n cap] 28)).alloc (.cells #[.slice none 0 0] 28)).alloc (.cells #[.slice none 0 0] 28) = w0 at *
  refine HK.out.mono ?_
  rintro e w1 ⟨ux, uy, bx, by', rfl, hX, hY, hb1⟩
  have s1 := hb1.size
  have B1 := hide (HB0.out.trans (hb1.mono (by omega)))
  have j1 : Boxed w1 (w.heap.size + 1) 28 (.slice none 0 0) := (hb1.block _ (by omega)).trans k1
  have j2 : Boxed w1 (w.heap.size + 1 + 1) 28 (.slice none 0 0) := (hb1.block _ (by omega)).trans k2
  have HX1 := hide hX
  have HY1 := hide hY
  clear hX hY hb1 HK HB0 k1 k2
  go_wp2_with fail
  refine (tellN X ux bx _ w1 HX1.out HSO.out.1).mono ?_
  rintro e w2 ⟨v1, rfl, ho2, hb2⟩
  have s2 := hb2.size
  have B2 := hide (B1.out.trans (hb2.mono (by omega)))
  have m1 : Boxed w2 (w.heap.size + 1) 28 (.slice none 0 0) := (hb2.block _ (by omega)).trans j1
  have m2 : Boxed w2 (w.heap.size + 1 + 1) 28 (.slice none 0 0) := (hb2.block _ (by omega)).trans j2
  have HY2 := hide (HY1.out.below hb2 (Nat.le_refl _))
  have O2 := hide ho2
  clear hb2 ho2 B1 HX1 HY1 j1 j2
  go_wp2_with fail
  refine (tellN Y uy by' _ w2 HY2.out HSO.out.2).mono ?_
  rintro e w3 ⟨v2, rfl, ho3, hb3⟩
  have s3 := hb3.size
  have B3 := hide (B2.out.trans (hb3.mono (by omega)))
  have p1 : Boxed w3 (w.heap.size + 1) 28 (.slice none 0 0) := (hb3.block _ (by omega)).trans m1
  have p2 : Boxed w3 (w.heap.size + 1 + 1) 28 (.slice none 0 0) := (hb3.block _ (by omega)).trans m2
  have O3 := hide (O2.out.below hb3 (Nat.le_refl _))
  have Q3 := hide ho3
  have AP := hide (show Apart v1 v2 from fun z h1 h2 => by have a1 := (O2.out.lt z h1).2; have a2 := (ho3.lt z h2).1; omega)
  obtain ⟨a1, l1, c1, rfl⟩ : ∃ ao ln cap, v1 = .slice ao ln cap := by
    rcases O2.out.2 with ⟨rfl, _⟩ | ⟨g, cap, cur, rfl, _⟩
    · exact ⟨_, _, _, rfl⟩
    · exact ⟨_, _, _, rfl⟩
  obtain ⟨a2, l2, c2, rfl⟩ : ∃ ao ln cap, v2 = .slice ao ln cap := by
    rcases Q3.out.2 with ⟨rfl, _⟩ | ⟨g, cap, cur, rfl, _⟩
    · exact ⟨_, _, _, rfl⟩
    · exact ⟨_, _, _, rfl⟩
  have d1 := p1.cell
  have d2 := p2.cell
  have f1 := p1.frozen
  have f2 := p2.frozen
  have g1 := p1.lt
  have g2 := p2.lt
  have P1 := hide ((p1.set (.slice a1 l1 c1)).other (B' := w.heap.size + 1 + 1) (by omega) (.slice a2 l2 c2))
  have P2 := hide ((p2.other (B' := w.heap.size + 1) (by omega) (.slice a1 l1 c1)).set (.slice a2 l2 c2))
  have p2' := p2.other (B' := w.heap.size + 1) (by omega) (.slice a1 l1 c1)
  have FIN := hide (show ∀ v xs, OwI w3 w.heap.size v xs → OwI ((w3.setCell ⟨w.heap.size + 1, 0, none⟩ (.slice a1 l1 c1)).setCell ⟨w.heap.size + 1 + 1, 0, none⟩ (.slice a2 l2 c2)) w.heap.size v xs from fun v xs ho => by
    have h1 : OwI (w3.setCell ⟨w.heap.size + 1, 0, none⟩ (.slice a1 l1 c1)) w.heap.size v xs := ho.kept (grownBy_setCell' w3 (w.heap.size + 1) (.slice a1 l1 c1)) (.inr (p1.not_row (by decide) ho).symm)
    exact h1.kept (grownBy_setCell' _ (w.heap.size + 1 + 1) (.slice a2 l2 c2)) (.inr (p2'.not_row (by decide) h1).symm))
  have OF1 := hide (FIN.out _ _ (O3.out.base (base' := w.heap.size) (by omega)))
  have OF2 := hide (FIN.out _ _ (OwI.base (base' := w.heap.size) Q3.out (by omega)))
  have B4 := hide ((B3.out.setCell (p := ⟨w.heap.size + 1, 0, none⟩) (by simp) (.slice a1 l1 c1)).setCell (p := ⟨w.heap.size + 1 + 1, 0, none⟩) (by simp; omega) (.slice a2 l2 c2))
  have e1 := P1.out.cell
  have e2 := P2.out.cell
  clear hb3 ho3 B2 B3 m1 m2 HY2 O2 O3 Q3 p1 p2 p2' FIN
  go_wp2
  refine bodyPost_ret (v := .tuple #[.agg #[.slice a1 l1 c1], .agg #[.slice a2 l2 c2], .int .i64 0]) (by simp [results, Tryd.results10, go_sem, e1, e2]) rfl ⟨_, _, rfl, OF1.out, OF2.out, AP.out, B4.out⟩

/-- What TreeSplit answers. -/
def SplPost (w : World) (xs : List It) (k : Int) (e : Ending) (w' : World) : Prop := ∃ v1 v2, e = .returned (.tuple #[.agg #[v1], .agg #[v2], .int .i64 (splCode xs k)]) ∧ OwI w' w.heap.size v1 (splX xs k) ∧ OwI w' w.heap.size v2 (splY xs k) ∧ Below w.heap.size w w'
/-- What the program answers: the two lie apart. -/
def SplPostA (w : World) (xs : List It) (k : Int) (e : Ending) (w' : World) : Prop := ∃ v1 v2, e = .returned (.tuple #[.agg #[v1], .agg #[v2], .int .i64 (splCode xs k)]) ∧ OwI w' w.heap.size v1 (splX xs k) ∧ OwI w' w.heap.size v2 (splY xs k) ∧ Apart v1 v2 ∧ Below w.heap.size w w'

theorem splX_nil {xs : List It} {k : Int} (hc : splCode xs k ≠ 0) : splX xs k = [] ∧ splY xs k = [] := by
  unfold splX splY
  cases hT : readT xs with
  | none => exact ⟨rfl, rfl⟩
  | some T =>
    simp only
    have h9 : ¬ (0 ≤ k ∧ k ≤ (T.its : Int)) := fun h => hc (by rw [splCode, hT]; simp only; rw [if_pos h])
    rw [if_neg h9, if_neg h9]; exact ⟨rfl, rfl⟩
theorem implSpl (B : Nat) (v : Value) (xs : List It) (k : Int) (w : World) (hr : RdI B w v xs) (hB : B ≤ w.heap.size) (hn : xs.length ≤ 1048576) (hg : w.cell? ⟨0, 0, none⟩ = some (.iface 222 (.agg #[.pointer (some ⟨1, 73, none⟩)]))) :
    Calls Tryd.prog 10 #[.agg #[v], .int .i64 k] w (SplPostA w xs k) := by
  by_cases hc : splCode xs k = 0
  · cases hT : readT xs with
    | none => rw [splCode, hT] at hc; simp at hc
    | some T =>
      obtain ⟨h1, h2, h3, h4⟩ := readT_some hT
      have hok := AT.ok_of_read hT
      have hk : 0 ≤ k ∧ k ≤ (T.its : Int) := by
        rw [splCode, hT] at hc
        simp only at hc
        split at hc
        · assumption
        · simp at hc
      obtain ⟨kn, rfl⟩ := Int.eq_ofNat_of_zero_le hk.1
      have h9 := implSplitOk2 B v T kn w h2 hok (by omega) (by rw [← h3]; exact hr) hB
      refine h9.mono ?_
      rintro e w' ⟨v1, v2, rfl, ho, ho2, ha, hb⟩
      refine ⟨v1, v2, by rw [hc], ?_, ?_, ha, hb⟩
      · have e9 : splX xs (kn : Int) = (T.split kn).1.told 0 := by
          unfold splX
          rw [hT]
          simp only
          rw [if_pos hk]
          rfl
        rw [e9]; exact ho
      · have e9 : splY xs (kn : Int) = (T.split kn).2.told 0 := by
          unfold splY
          rw [hT]
          simp only
          rw [if_pos hk]
          rfl
        rw [e9]; exact ho2
  · refine (implSplitBad B v xs k w hr hB hn hc hg).mono ?_
    rintro e w' ⟨rfl, hb⟩
    rw [SplPostA, (splX_nil hc).1, (splX_nil hc).2]
    exact ⟨_, _, rfl, World.ownsRow_nil _ _ _ _, World.ownsRow_nil _ _ _ _, (fun z h _ => by cases h), hb⟩
end Go.Proofs.YtbgngikejgihgafDoor
