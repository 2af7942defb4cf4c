import Derived.Test.YtbgngikejgihgafDoorTFJoin
import Derived.Test.YtbgngikejgihgafDoorChkR
import Derived.Test.YtbgngikejgihgafDoorCodeOf
import Derived.Test.YtbgngikejgihgafDoorLJn
import Derived.Test.YtbgngikejgihgafDoorLDel
import Derived.Test.YtbgngikejgihgafDoorTVal2
import Derived.Deep.RegionWith
import Derived.Deep.Cut
import Derived.Deep.CutRange
import Derived.Deep.CutBlock
import Derived.Deep.DeepCutAuto
namespace Go.Proofs.YtbgngikejgihgafDoor
open Go Go.RowKit
set_option linter.unusedVariables false

def joiCode (xs ys : List It) : Int := match readT xs with | none => 1 | some S => match readT ys with | none => 1 | some T => if S.rns + T.rns ≤ 8192 then 0 else 10
def joiTree (xs ys : List It) : List It := match readT xs with | none => [] | some S => match readT ys with | none => [] | some T => if S.rns + T.rns ≤ 8192 then (AT.join S T).told 0 else []
def msgJT : ByteArray := ⟨#[106, 111, 105, 110, 105, 110, 103, 32, 116, 114, 101, 101, 115]⟩

set_option maxHeartbeats 2000000 in
set_option maxRecDepth 100000 in
theorem joinTreesBad (B C : Nat) (v v' : Value) (xs ys : List It) (w : World) (hr : RdI B w v xs) (hB : B ≤ w.heap.size) (hr' : RdI C w v' ys) (hC : C ≤ w.heap.size) (hn : xs.length ≤ 1048576) (hn' : ys.length ≤ 1048576) (hc : joiCode xs ys ≠ 0) :
    Calls Tryd.prog 45 #[.agg #[v], .agg #[v']] w fun e w' => (∃ msg, e = .returned (.tuple #[.pointer none, .iface 132 (.agg #[.string msg, .iface 130 (.int .i64 (joiCode xs ys))])])) ∧ Below w.heap.size w w' := by
  obtain ⟨ao, cap, rfl⟩ := hr.val
  obtain ⟨ao', cap', rfl⟩ := hr'.val
  have HB0 := hide (((Below.refl w.heap.size w).alloc (Nat.le_refl _) (.cells #[.slice ao xs.length cap] 28)).alloc (by simp) (.cells #[.slice ao' ys.length cap'] 28))
  have k1 := Boxed.new (w.alloc (.cells #[.slice ao xs.length cap] 28)) 28 (.slice ao' ys.length cap')
  have hs0 : ((w.alloc (.cells #[.slice ao xs.length cap] 28)).alloc (.cells #[.slice ao' ys.length cap'] 28)).heap.size = w.heap.size + 2 := by simp
  rw [World.size_alloc] at k1
  have HI := hide (readTreeN B _ xs _ (hr.below HB0.out hB) (by omega) hn)
  have HR' := hide (hr'.below HB0.out hC)
  have HC := hide hc
  have HX := hide (show joiCode xs ys = (match readT xs with | none => 1 | some S => match readT ys with | none => 1 | some T => if S.rns + T.rns ≤ 8192 then 0 else 10) from rfl)
  have HN' := hide hn'
  have fl1 := Tryd.fld1
  have RY := hide (fun W h1 h2 => readTreeN C (.slice ao' ys.length cap') ys W h1 h2 hn')
  generalize joiCode xs ys = cd at *
  generalize hN : xs.length = n at *
  generalize hM : ys.length = n' at *
  clear hr hr' hc
  go_enter Tryd.func45, Tryd.ntmps45
  go_wp2_with fail
  generalize ((w.alloc (.cells #[.slice ao n cap] 28)).alloc (.cells #[.slice ao' n' cap'] 28)) = w0 at *
  refine HI.out.mono ?_
  clear HI
  cases hT : readT xs with
  | none =>
    rw [hT] at HX
    simp only at HX
    clear hT
    rintro e w1 ⟨⟨msg, rfl⟩, hb1⟩
    have HB1 := hide (HB0.out.trans (hb1.mono (by omega)))
    clear hb1 HB0
    go_wp2
    go_ret2
    exact ⟨⟨msg, by rw [HX.out]; rfl⟩, HB1.out⟩
  | some S =>
    rw [hT] at HX
    simp only at HX
    clear hT
    rintro e w1 ⟨u, bs, rfl, hL, hnd, hok, hb1⟩
    have s1 := hb1.size
    have bS := hok.bd
    have B1 := hide (HB0.out.trans (hb1.mono (by omega)))
    have HT1 := hide hL
    have j1 : Boxed w1 (w.heap.size + 1) 28 (.slice ao' n' cap') := (hb1.block _ (by omega)).trans k1
    have c1 := j1.cell
    have l1 := j1.lt
    have HK2 := hide (RY.out w1 (HR'.out.below hb1 (by omega)) (by omega))
    clear hL hnd hb1 HB0 hok k1 j1 HR' RY
    go_wp2_with fail
    refine HK2.out.mono ?_
    clear HK2
    cases hT2 : readT ys with
    | none =>
      rw [hT2] at HX
      simp only at HX
      clear hT2
      rintro e w2 ⟨⟨msg, rfl⟩, hb2⟩
      have HB2 := hide (B1.out.trans (hb2.mono (by omega)))
      clear hb2 B1
      go_wp2
      go_ret2
      exact ⟨⟨msg, by rw [HX.out]; rfl⟩, HB2.out⟩
    | some T =>
      rw [hT2] at HX
      simp only at HX
      clear hT2
      have hk : ¬ (S.rns + T.rns ≤ 8192) := by
        intro h9
        have h8 := HX.out
        rw [if_pos h9] at h8
        exact HC.out h8
      rw [if_neg hk] at HX
      rintro e w2 ⟨u2, bs2, rfl, hL2, hnd2, hok2, hb2⟩
      have s2 := hb2.size
      have bT := hok2.bd
      have B2 := hide (B1.out.trans (hb2.mono (by omega)))
      have HS2 := hide (HT1.out.below hb2 (Nat.le_refl _))
      have HT2 := hide hL2
      clear hL2 hnd2 hb2 B1 hok2 HT1 c1
      go_wp2_with fail
      refine (allN S u bs _ w2 HS2.out).mono ?_
      rintro e w3 ⟨rfl, hb3⟩
      have s3 := hb3.size
      have B3 := hide (B2.out.trans (hb3.mono (by omega)))
      have HT3 := hide (HT2.out.below hb3 (Nat.le_refl _))
      clear hb3 HS2 HT2 B2
      unfold cnt
      go_wp2_with fail
      refine (allN T u2 bs2 _ w3 HT3.out).mono ?_
      rintro e w4 ⟨rfl, hb4⟩
      have B4 := hide (B3.out.trans (hb4.mono (by omega)))
      have HKB := hide (checkRoomN S.rns T.rns w4 (by omega) (by omega))
      have hd : decide ((S.rns : Int) ≤ 8192 ∧ (T.rns : Int) ≤ 8192 - (S.rns : Int)) = false := by rw [decide_eq_false_iff_not]; omega
      rw [hd] at HKB
      simp only [errV, Bool.false_eq_true, if_false] at HKB
      clear hb4 HT3 B3 hd hk
      unfold cnt
      go_wp2_with fail
      refine HKB.out.mono ?_
      rintro e w5 ⟨rfl, rfl⟩
      go_wp2
      go_ret2
      exact ⟨⟨msgJT, by rw [HX.out]; rfl⟩, B4.out⟩

set_option maxHeartbeats 2000000 in
set_option maxRecDepth 100000 in
theorem answerBad (msg : ByteArray) (c : Int) (w : World) (hg : w.cell? ⟨0, 0, none⟩ = some (.iface 222 (.agg #[.pointer (some ⟨1, 73, none⟩)]))) :
    Calls Tryd.prog 44 #[.pointer none, .iface 132 (.agg #[.string msg, .iface 130 (.int .i64 c)])] w fun e w' => e = .returned (.tuple #[.agg #[.slice none 0 0], .int .i64 c]) ∧ Below w.heap.size w w' := by
  have hlt : 0 < w.heap.size := World.block_lt_of_cell? w _ hg
  have HB0 := hide ((Below.refl w.heap.size w).alloc (Nat.le_refl _) (.cells #[.slice none 0 0] 28))
  have hk0 := Boxed.new w 28 (.slice none 0 0)
  have hs0 : w.heap.size < (w.alloc (.cells #[.slice none 0 0] 28)).heap.size := by simp
  have CO := hide (codeOf msg c _ ((HB0.out.cell (p := ⟨0, 0, none⟩) hlt).trans hg))
  clear hg
  go_enter Tryd.func44, Tryd.ntmps44
  go_wp2_with fail
  generalize w.alloc (.cells #[.slice none 0 0] 28) = w0 at *
  refine CO.out.mono ?_
  rintro e w1 ⟨rfl, hb1⟩
  have j0 : Boxed w1 w.heap.size 28 (.slice none 0 0) := (hb1.block _ hs0).trans hk0
  have B1 := hide (HB0.out.trans (hb1.mono (by omega)))
  have c0 := j0.cell
  have f0 := j0.frozen
  clear hb1 HB0
  go_wp2
  refine bodyPost_ret (v := .tuple #[.agg #[.slice none 0 0], .int .i64 c]) (by simp [results, Tryd.results44, go_sem, c0]) rfl ⟨rfl, ?_⟩
  repeat (first | exact B1.out | refine Below.setCell ?_ (by simp) _)

set_option maxHeartbeats 2000000 in
set_option maxRecDepth 100000 in
theorem implJoinBad (B C : Nat) (v v' : Value) (xs ys : List It) (w : World) (hr : RdI B w v xs) (hB : B ≤ w.heap.size) (hr' : RdI C w v' ys) (hC : C ≤ w.heap.size) (hn : xs.length ≤ 1048576) (hn' : ys.length ≤ 1048576) (hc : joiCode xs ys ≠ 0) (hg : w.cell? ⟨0, 0, none⟩ = some (.iface 222 (.agg #[.pointer (some ⟨1, 73, none⟩)]))) :
    Calls Tryd.prog 15 #[.agg #[v], .agg #[v']] w fun e w' => e = .returned (.tuple #[.agg #[.slice none 0 0], .int .i64 (joiCode xs ys)]) ∧ Below w.heap.size w w' := by
  have hlt : 0 < w.heap.size := World.block_lt_of_cell? w _ hg
  obtain ⟨ao, cap, rfl⟩ := hr.val
  obtain ⟨ao', cap', rfl⟩ := hr'.val
  have HB0 := hide ((((Below.refl w.heap.size w).alloc (Nat.le_refl _) (.cells #[.slice ao xs.length cap] 28)).alloc (by simp) (.cells #[.slice ao' ys.length cap'] 28)).alloc (by simp; omega) (.cells #[.slice none 0 0] 28))
  have k2 := Boxed.new ((w.alloc (.cells #[.slice ao xs.length cap] 28)).alloc (.cells #[.slice ao' ys.length cap'] 28)) 28 (.slice none 0 0)
  have hs0 : (((w.alloc (.cells #[.slice ao xs.length cap] 28)).alloc (.cells #[.slice ao' ys.length cap'] 28)).alloc (.cells #[.slice none 0 0] 28)).heap.size = w.heap.size + 3 := by simp
  rw [World.size_alloc, World.size_alloc] at k2
  have HK := hide (joinTreesBad B C _ _ xs ys _ (hr.below HB0.out hB) (by omega) (hr'.below HB0.out hC) (by omega) hn hn' hc)
  have HG := hide ((HB0.out.cell (p := ⟨0, 0, none⟩) hlt).trans hg)
  generalize joiCode xs ys = cd at *
  generalize xs.length = n at *
  generalize ys.length = n' at *
  clear hr hr' hc hg
  go_enter Tryd.func15, Tryd.ntmps15
  go_wp2_with fail
  generalize (((w.alloc (.cells #[.slice ao n cap] 28)).alloc (.cells #[.slice ao' n' cap'] 28)).alloc (.cells #[.slice none 0 0] 28)) = w0 at *
  refine HK.out.mono ?_
  rintro e w1 ⟨⟨msg, rfl⟩, hb1⟩
  have s1 := hb1.size
  have B1 := hide (HB0.out.trans (hb1.mono (by omega)))
  have j2 : Boxed w1 (w.heap.size + 1 + 1) 28 (.slice none 0 0) := (hb1.block _ (by omega)).trans k2
  have G1 := hide ((hb1.cell (p := ⟨0, 0, none⟩) (show 0 < w0.heap.size by omega)).trans HG.out)
  clear hb1 HK HB0 k2
  go_wp2_with fail
  refine (answerBad msg cd w1 G1.out).mono ?_
  rintro e w2 ⟨rfl, hb2⟩
  have s2 := hb2.size
  have m2 : Boxed w2 (w.heap.size + 1 + 1) 28 (.slice none 0 0) := (hb2.block _ (by omega)).trans j2
  have B2 := hide ((B1.out.trans (hb2.mono (by omega))))
  have d1 := m2.cell
  have f1 := m2.frozen
  have g1 := m2.lt
  clear hb2 B1 j2
  go_wp2
  refine bodyPost_ret (v := .tuple #[.agg #[.slice none 0 0], .int .i64 cd]) (by simp [results, Tryd.results15, go_sem, d1]) rfl ⟨rfl, ?_⟩
  repeat (first | exact B2.out | refine Below.setCell ?_ (by simp; omega) _ | refine Below.setCell ?_ (by simp) _)

theorem AT.flat_told : ∀ (T : AT) (d : Int), (T.told d).map (fun x => x.pc) = T.flat
  | .nil, d => rfl
  | .node l p r, d => by simp [AT.told, AT.flat, AT.flat_told l, AT.flat_told r]
theorem AT.ok_of_read {xs : List It} {T : AT} (h : readT xs = some T) : T.ok := by
  obtain ⟨h1, h2, h3, h4⟩ := readT_some h
  simp only [okT, Bool.and_eq_true, decide_eq_true_eq] at h1
  refine ⟨fun p hp => ?_, ?_⟩
  · rw [← AT.flat_told T 0, ← h3] at hp
    obtain ⟨x, hx, rfl⟩ := List.mem_map.1 hp
    exact List.all_eq_true.1 h1.1.1.2 x hx
  · rw [← AT.rns_told T 0, ← h3]; exact h1.1.2


/-- What TreeJoin answers. -/
def JoiPost (w : World) (xs ys : List It) (e : Ending) (w' : World) : Prop := ∃ v1, e = .returned (.tuple #[.agg #[v1], .int .i64 (joiCode xs ys)]) ∧ OwI w' w.heap.size v1 (joiTree xs ys) ∧ Below w.heap.size w w'

theorem joiTree_nil {xs ys : List It} (hc : joiCode xs ys ≠ 0) : joiTree xs ys = [] := by
  unfold joiTree
  cases hT : readT xs with
  | none => rfl
  | some S =>
    simp only
    cases hT2 : readT ys with
    | none => rfl
    | some T =>
      simp only
      rw [if_neg (fun h => hc (by rw [joiCode, hT]; simp only; rw [hT2]; simp only; rw [if_pos h]))]
theorem joi_parts {xs ys : List It} (hc : joiCode xs ys = 0) : ∃ S T, readT xs = some S ∧ readT ys = some T ∧ S.rns + T.rns ≤ 8192 ∧ joiTree xs ys = (AT.join S T).told 0 := by
  cases hT : readT xs with
  | none => rw [joiCode, hT] at hc; simp at hc
  | some S =>
    cases hT2 : readT ys with
    | none => rw [joiCode, hT] at hc; simp only at hc; rw [hT2] at hc; simp at hc
    | some T =>
      rw [joiCode, hT] at hc
      simp only at hc
      rw [hT2] at hc
      simp only at hc
      split at hc
      · rename_i h
        exact ⟨S, T, rfl, rfl, h, by rw [joiTree, hT]; simp only; rw [hT2]; simp only; rw [if_pos h]⟩
      · simp at hc
theorem implJoi (B C : Nat) (v v' : Value) (xs ys : List It) (w : World) (hr : RdI B w v xs) (hB : B ≤ w.heap.size) (hr' : RdI C w v' ys) (hC : C ≤ w.heap.size) (hn : xs.length ≤ 1048576) (hn' : ys.length ≤ 1048576) (hg : w.cell? ⟨0, 0, none⟩ = some (.iface 222 (.agg #[.pointer (some ⟨1, 73, none⟩)]))) :
    Calls Tryd.prog 15 #[.agg #[v], .agg #[v']] w (JoiPost w xs ys) := by
  by_cases hc : joiCode xs ys = 0
  · obtain ⟨S, T, hT, hT2, hs, e9⟩ := joi_parts hc
    obtain ⟨h1, h2, h3, h4⟩ := readT_some hT
    obtain ⟨g1, g2, g3, g4⟩ := readT_some hT2
    have h9 := implJoinOk B C v v' S T w h2 (AT.ok_of_read hT) g2 (AT.ok_of_read hT2) hs (by rw [← h3]; exact hr) hB (by rw [← g3]; exact hr') hC
    refine h9.mono ?_
    rintro e w' ⟨v1, rfl, ho, hb⟩
    exact ⟨v1, by rw [hc], by rw [e9]; exact ho, hb⟩
  · refine (implJoinBad B C v v' xs ys w hr hB hr' hC hn hn' hc hg).mono ?_
    rintro e w' ⟨rfl, hb⟩
    exact ⟨_, rfl, by rw [joiTree_nil hc]; exact World.ownsRow_nil _ _ _ _, hb⟩

theorem AT.rem_its0 (T : AT) (h : 0 < T.its) : (T.rem 0).its = T.its - 1 := by
  rw [← AT.flat_length, AT.rem_flat T 0 h]
  simp only [List.length_append, List.length_take, List.length_drop, AT.flat_length]
  omega

set_option maxHeartbeats 2000000 in
set_option maxRecDepth 100000 in
theorem bothS (TA TB : AT) (ba bb : Nat) (va vb : Value) (w : World) (hA : TA.bal) (hB : TB.bal) (hn : TA.its + TB.its ≤ 8192) (oa : OwI w ba va (TA.told 0)) (ob : OwI w bb vb (TB.told 0)) :
    Calls Tryd.prog 43 #[va, vb] w fun e w' => ∃ v', e = .returned v' ∧ OwI w' w.heap.size v' ((AT.join TA TB).told 0) ∧ Below w.heap.size w w' := by
  have hla := AT.told_length TA 0
  have hlb := AT.told_length TB 0
  obtain ⟨ao, ca, hva⟩ : ∃ ao ca, va = .slice ao TA.its ca := by
    obtain ⟨ao, cx, h⟩ := (OwI.rd oa).val
    exact ⟨ao, cx, by rw [h, hla]⟩
  subst hva
  cases TA with
  | nil =>
    obtain ⟨bo, cb, hvb⟩ : ∃ bo cb, vb = .slice bo TB.its cb := by
      obtain ⟨bo, cx, h⟩ := (OwI.rd ob).val
      exact ⟨bo, cx, by rw [h, hlb]⟩
    subst hvb
    have CP := hide (copyG (TB.told 0) _ w (SrcI.of ob) (by omega))
    have e9 : AT.join .nil TB = TB := rfl
    rw [e9]
    clear oa ob hla hlb hA hB e9
    go_enter Tryd.func43, Tryd.ntmps43
    go_wp2_with fail
    refine CP.out.mono ?_
    rintro e w1 ⟨g, cp, rfl, ho1, hb1⟩
    have O1 := hide ho1
    have B1 := hide hb1
    clear ho1 hb1
    go_wp2
    go_ret
    exact ⟨_, rfl, O1.out, B1.out⟩
  | node al ap ar =>
    have hnz : (AT.node al ap ar).its = al.its + 1 + ar.its := rfl
    have na0 : ¬ (((AT.node al ap ar).its : Int) = 0) := by omega
    have CPA := hide (copyG ((AT.node al ap ar).told 0) _ w (SrcI.of oa) (by omega))
    cases TB with
    | nil =>
      obtain ⟨bo, cb, hvb⟩ : ∃ bo cb, vb = .slice bo 0 cb := by
        obtain ⟨bo, cx, h⟩ := (OwI.rd ob).val
        exact ⟨bo, cx, by rw [h, hlb]; rfl⟩
      subst hvb
      have e9 : AT.join (.node al ap ar) .nil = .node al ap ar := rfl
      rw [e9]
      generalize AT.node al ap ar = TA at *
      clear oa ob hla hlb hA hB e9 hnz
      go_enter Tryd.func43, Tryd.ntmps43
      go_wp2_with fail
      refine CPA.out.mono ?_
      rintro e w1 ⟨g, cp, rfl, ho1, hb1⟩
      have O1 := hide ho1
      have B1 := hide hb1
      clear ho1 hb1
      go_wp2
      go_ret
      exact ⟨_, rfl, O1.out, B1.out⟩
    | node bl bp br =>
      have hnb : (AT.node bl bp br).its = bl.its + 1 + br.its := rfl
      have nb0 : ¬ (((AT.node bl bp br).its : Int) = 0) := by omega
      obtain ⟨b, cb, rfl, hcap, hcm⟩ : ∃ b cb, vb = .slice (some ⟨b, 0, none⟩) (AT.node bl bp br).its cb ∧ (AT.node bl bp br).its ≤ cb ∧ cb ≤ maxLen := by
        rcases ob.2 with ⟨h1, h2⟩ | ⟨g, cp, cur, h1, _, _, h2, h3, _⟩
        · exact absurd h2 (by rw [hlb]; omega)
        · rw [hlb] at h1 h2; exact ⟨g, cp, h1, h2, h3⟩
      have e9 : AT.join (.node al ap ar) (.node bl bp br) = AT.spl (.node al ap ar) (AT.first (.node bl bp br)) (AT.rem (.node bl bp br) 0) := rfl
      rw [e9]
      obtain ⟨s, Q, f, hf1, _⟩ := AT.first_at (AT.node bl bp br) 0 (by simp)
      have hy : ((AT.node bl bp br).told 0)[0]? = some ⟨AT.first (AT.node bl bp br), f⟩ := by rw [hf1]; rfl
      have hrb := AT.rem_bal (AT.node bl bp br) 0 hB (by omega)
      have hri := AT.rem_its0 (AT.node bl bp br) (by omega)
      generalize AT.node al ap ar = TA at *
      generalize AT.node bl bp br = TB at *
      have DL := hide (fun W (ho : OwI W bb (.slice (some ⟨b, 0, none⟩) TB.its cb) (TB.told 0)) => deleteS TB 0 bb b cb W hB (by omega) (by omega) ho)
      have JN := hide (fun W (u : Value) (b1 b2 : Nat) (h1 : OwI W b1 (.slice ao TA.its ca) (TA.told 0)) (h2 : OwI W b2 u ((TB.rem 0).told 0)) => joinS TA (TB.rem 0) (AT.first TB) b1 b2 _ u W hA hrb.1 (by omega) h1 h2)
      unfold pcV at JN
      obtain ⟨c0, c1, c2⟩ := OwI.c3 (by have h9 := ob; unfold OwI at h9; rw [hlb] at h9; exact h9) hy
      rw [Nat.zero_mul] at c0
      rw [Nat.zero_mul, Nat.zero_add] at c1
      rw [Nat.zero_mul, Nat.zero_add] at c2
      simp only at c0 c1 c2
      have hbw := (ob.lt b rfl).2
      have OA := hide oa
      have OB := hide ob
      generalize AT.first TB = q at *
      generalize TB.rem 0 = TR at *
      generalize AT.spl TA q TR = U at *
      have z0 : (0 : Int) < (TB.its : Int) := by omega
      clear oa ob hla hlb hA hB e9 hnz hnb hf1 hy hrb hri
      unfold maxLen at hcm
      go_enter Tryd.func43, Tryd.ntmps43
      go_upto_region 5 with fail
      go_cut [4] (fun s wc => OwI wc w.heap.size s (U.told 0) ∧ Below w.heap.size w wc)
      case first =>
        go_region_with (first
          | (go_at_call 85; refine (DL.out _ (by exact owns_of_block OB.out (fun _ _ => rfl))).mono ?_; rintro e y1 ⟨v7, rfl, ho7, hb7⟩; have b7 : Below w.heap.size w y1 := ⟨hb7.os, hb7.tape, hb7.output, hb7.size, hb7.block⟩; have BB1 := hide b7; have s7 := b7.size; have O7 := hide ho7; have OA7 := hide (owns_below OA.out b7 (Nat.le_refl _)); have d0 := (b7.cell (p := ⟨b, 0, none⟩) hbw).trans c0; have d1 := (b7.cell (p := ⟨b, 1, none⟩) hbw).trans c1; have d2 := (b7.cell (p := ⟨b, 2, none⟩) hbw).trans c2; clear hb7 ho7 b7)
          | (go_at_call 75; refine (JN.out _ _ _ _ (by exact owns_of_block OA7.out (fun _ _ => rfl)) (by exact owns_of_block O7.out (fun _ _ => rfl))).mono ?_; rintro e y2 ⟨v8, rfl, ho8, hb8⟩; have BB2 := hide (BB1.out.trans ((show Below y1.heap.size y1 y2 from ⟨hb8.os, hb8.tape, hb8.output, hb8.size, hb8.block⟩).mono s7)); have O8 := hide (owns_base ho8 (show w.heap.size ≤ y1.heap.size from s7)); clear hb8 ho8))
        all_goals (go_wp2_with fail; go_meet; exact ⟨O8.out, BB2.out⟩)
      case rest =>
      obtain ⟨ho, hb⟩ := hcut
      have HO := hide ho
      have HB := hide hb
      clear ho hb
      go_wp2
      go_ret
      exact ⟨_, rfl, HO.out, HB.out⟩

theorem joi_left {xs ys : List It} (h : okT xs = false) : joiCode xs ys = 1 := by
  have hT : readT xs = none := by
    cases hT : readT xs with
    | none => rfl
    | some T => rw [(readT_some hT).1] at h; cases h
  unfold joiCode; rw [hT]
theorem joi_right {xs ys : List It} (hx : okT xs = true) (h : okT ys = false) : joiCode xs ys = 1 := by
  have hT : readT ys = none := by
    cases hT : readT ys with
    | none => rfl
    | some T => rw [(readT_some hT).1] at h; cases h
  unfold joiCode
  cases hS : readT xs with
  | none => rfl
  | some S => simp only; rw [hT]
theorem okT_read {xs : List It} (h : okT xs = true) : ∃ T, readT xs = some T := by
  cases hT : readT xs with
  | none => rw [readT_none hT] at h; cases h
  | some T => exact ⟨T, rfl⟩

theorem sum_len : ∀ (ps : List Pc), (∀ p ∈ ps, 1 ≤ p.len) → (ps.length : Int) ≤ (ps.map (fun p => p.len)).sum
  | [], _ => by simp
  | p :: ps, h => by
    have h1 := h p (by simp)
    have h2 := sum_len ps (fun q hq => h q (by simp [hq]))
    simp only [List.length_cons, List.map_cons, List.sum_cons]
    omega
theorem AT.its_rns (T : AT) (h : T.ok) : (T.its : Int) ≤ T.rns := by
  rw [AT.rns_of_flat, ← AT.flat_length]
  refine sum_len T.flat (fun p hp => ?_)
  have h9 := h.1 p hp
  simp only [pcOk, decide_eq_true_eq] at h9
  omega

set_option maxHeartbeats 4000000 in
set_option maxRecDepth 100000 in
theorem specJoi (base base' b b' cap cap' : Nat) (xs ys : List It) (w : World) (ho : OwI w base (.slice (some ⟨b, 0, none⟩) xs.length cap) xs) (ho' : OwI w base' (.slice (some ⟨b', 0, none⟩) ys.length cap') ys) (hn : xs.length ≤ 1048576) (hn' : ys.length ≤ 1048576) :
    Calls Tryd.prog 14 #[.agg #[.slice (some ⟨b, 0, none⟩) xs.length cap], .agg #[.slice (some ⟨b', 0, none⟩) ys.length cap']] w (JoiPost w xs ys) := by
  have A0 := hide ((((Below.refl w.heap.size w).alloc (Nat.le_refl _) (.cells #[.slice (some ⟨b, 0, none⟩) xs.length cap] 28)).alloc (by simp) (.cells #[.slice (some ⟨b', 0, none⟩) ys.length cap'] 28)).alloc (by simp; omega) (.cells #[.slice none 0 0] 28))
  have O0 := hide (show OwI _ base _ xs from owns_below ho A0.out (Nat.le_refl _))
  have O0' := hide (show OwI _ base' _ ys from owns_below ho' A0.out (Nat.le_refl _))
  have HK0 := hide (show Boxed (((w.alloc (.cells #[.slice (some ⟨b, 0, none⟩) xs.length cap] 28)).alloc (.cells #[.slice (some ⟨b', 0, none⟩) ys.length cap'] 28)).alloc (.cells #[.slice none 0 0] 28)) w.heap.size 28 (.slice (some ⟨b, 0, none⟩) xs.length cap) from ((Boxed.new w 28 _).alloc _).alloc _)
  have k1 := (Boxed.new (w.alloc (.cells #[.slice (some ⟨b, 0, none⟩) xs.length cap] 28)) 28 (.slice (some ⟨b', 0, none⟩) ys.length cap')).alloc (.cells #[.slice none 0 0] 28)
  have k2 := Boxed.new ((w.alloc (.cells #[.slice (some ⟨b, 0, none⟩) xs.length cap] 28)).alloc (.cells #[.slice (some ⟨b', 0, none⟩) ys.length cap'] 28)) 28 (.slice none 0 0)
  rw [World.size_alloc] at k1
  rw [World.size_alloc, World.size_alloc] at k2
  have HK1 := hide k1
  have HK2 := hide k2
  have hs1 : w.heap.size + 3 ≤ (((w.alloc (.cells #[.slice (some ⟨b, 0, none⟩) xs.length cap] 28)).alloc (.cells #[.slice (some ⟨b', 0, none⟩) ys.length cap'] 28)).alloc (.cells #[.slice none 0 0] 28)).heap.size := by simp
  have VL := hide (validS _ _ xs _ (OwI.rd O0.out) (Nat.le_refl _) hn)
  have VL' := hide (fun W (h : OwI W base' (.slice (some ⟨b', 0, none⟩) ys.length cap') ys) => validS _ _ ys _ (OwI.rd h) (Nat.le_refl _) hn')
  have TS := hide (fun B w hr hB hp => totalS B (.slice (some ⟨b, 0, none⟩) xs.length cap) xs w hr hB hn hp)
  have TS' := hide (fun B w hr hB hp => totalS B (.slice (some ⟨b', 0, none⟩) ys.length cap') ys w hr hB hn' hp)
  have E1 := hide (fun (h : okT xs = false) => joi_left (ys := ys) h)
  have E2 := hide (fun (h : okT xs = true) (h2 : okT ys = false) => joi_right h h2)
  have NL := hide (fun h => joiTree_nil (xs := xs) (ys := ys) h)
  generalize hN : xs.length = n at *
  generalize hM : ys.length = n' at *
  have HN := hide hN
  have HM := hide hM
  clear ho ho' k1 k2 hN hM
  cases hv : okT xs with
  | false =>
    have hc := E1.out hv
    have ht := NL.out (by rw [hc]; decide)
    rw [hv] at VL
    unfold JoiPost
    rw [hc, ht]
    clear hc ht hv E1 E2 NL
    go_enter Tryd.func14, Tryd.ntmps14
    go_wp2_with fail
    generalize (((w.alloc (.cells #[.slice (some ⟨b, 0, none⟩) n cap] 28)).alloc (.cells #[.slice (some ⟨b', 0, none⟩) n' cap'] 28)).alloc (.cells #[.slice none 0 0] 28)) = w0 at *
    refine VL.out.mono ?_
    rintro e w1 ⟨rfl, hb1⟩
    have s1 := hb1.size
    have B1 := hide (A0.out.trans (hb1.mono (by omega)))
    have m2 : Boxed w1 (w.heap.size + 1 + 1) 28 (.slice none 0 0) := (hb1.block _ (by omega)).trans HK2.out
    clear hb1
    have d1 := m2.cell
    have f1 := m2.frozen
    go_wp2
    refine bodyPost_ret (v := .tuple #[.agg #[.slice none 0 0], .int .i64 1]) (by simp [results, Tryd.results14, go_sem, d1]) rfl ⟨_, rfl, World.ownsRow_nil _ _ _ _, ?_⟩
    repeat (first | exact B1.out | refine Below.setCell ?_ (by simp; omega) _ | refine Below.setCell ?_ (by simp) _)
  | true =>
    rw [hv] at VL
    cases hv2 : okT ys with
    | false =>
      have hc := E2.out hv hv2
      have ht := NL.out (by rw [hc]; decide)
      unfold JoiPost
      rw [hc, ht]
      clear hc ht E1 E2 NL
      go_enter Tryd.func14, Tryd.ntmps14
      go_wp2_with fail
      generalize (((w.alloc (.cells #[.slice (some ⟨b, 0, none⟩) n cap] 28)).alloc (.cells #[.slice (some ⟨b', 0, none⟩) n' cap'] 28)).alloc (.cells #[.slice none 0 0] 28)) = w0 at *
      refine VL.out.mono ?_
      rintro e w1 ⟨rfl, hb1⟩
      have s1 := hb1.size
      have B1 := hide (A0.out.trans (hb1.mono (by omega)))
      have O1' := hide (show OwI w1 base' _ ys from owns_below O0'.out hb1 (Nat.le_refl _))
      have O1 := hide (show OwI w1 base _ xs from owns_below O0.out hb1 (Nat.le_refl _))
      have i0 := (show Boxed w1 (w.heap.size + 1) 28 _ from (hb1.block _ (by omega)).trans HK1.out).cell
      have KA := hide (show Boxed w1 w.heap.size 28 _ from (hb1.block _ (by omega)).trans HK0.out)
      have KB := hide (show Boxed w1 (w.heap.size + 1) 28 _ from (hb1.block _ (by omega)).trans HK1.out)
      have KC := hide (show Boxed w1 (w.heap.size + 1 + 1) 28 (.slice none 0 0) from (hb1.block _ (by omega)).trans HK2.out)
      have VC := hide (VL'.out w1 O1'.out)
      rw [hv2] at VC
      clear hb1 hv hv2
      go_wp2_with fail
      refine VC.out.mono ?_
      rintro e w2 ⟨rfl, hb2⟩
      have s2 := hb2.size
      have B2 := hide (B1.out.trans (hb2.mono (by omega)))
      have m2 : Boxed w2 (w.heap.size + 1 + 1) 28 (.slice none 0 0) := (hb2.block _ (by omega)).trans KC.out
      clear hb2 i0
      have d1 := m2.cell
      have f1 := m2.frozen
      go_wp2
      refine bodyPost_ret (v := .tuple #[.agg #[.slice none 0 0], .int .i64 1]) (by simp [results, Tryd.results14, go_sem, d1]) rfl ⟨_, rfl, World.ownsRow_nil _ _ _ _, ?_⟩
      repeat (first | exact B2.out | refine Below.setCell ?_ (by simp; omega) _ | refine Below.setCell ?_ (by simp) _)
    | true =>
      obtain ⟨S, hT⟩ := okT_read hv
      obtain ⟨T, hT2⟩ := okT_read hv2
      obtain ⟨_, hbal, hxs, h8⟩ := readT_some hT
      obtain ⟨_, hbal', hys, h8'⟩ := readT_some hT2
      have hok := AT.ok_of_read hT
      have hok' := AT.ok_of_read hT2
      obtain ⟨hpcs, _, _, _⟩ := okT_pcs hv
      obtain ⟨hpcs', _, _, _⟩ := okT_pcs hv2
      have hcode : joiCode xs ys = if S.rns + T.rns ≤ 8192 then 0 else 10 := by unfold joiCode; rw [hT]; simp only; rw [hT2]
      have htree : joiTree xs ys = if S.rns + T.rns ≤ 8192 then (AT.join S T).told 0 else [] := by unfold joiTree; rw [hT]; simp only; rw [hT2]
      have htr : total xs = S.rns := by rw [hxs, AT.rns_told]
      have htr' : total ys = T.rns := by rw [hys, AT.rns_told]
      have bS := hok.bd
      have bT := hok'.bd
      have HPC := hide hpcs
      have HPC' := hide hpcs'
      have hsum : S.rns + T.rns ≤ 8192 → S.its + T.its ≤ 8192 := fun h => by have h1 := AT.its_rns S hok; have h2 := AT.its_rns T hok'; omega
      have BO := hide (fun (h : S.rns + T.rns ≤ 8192) W u u2 b1 b2 h1 h2 => bothS S T b1 b2 u u2 W hbal hbal' (hsum h) h1 h2)
      rw [← hxs, ← hys] at BO
      rw [htr] at TS
      rw [htr'] at TS'
      unfold JoiPost
      rw [hcode, htree]
      clear hpcs hpcs' hbal hbal' hxs hys htr htr' hcode htree hT hT2 hok hok' E1 E2 NL h8 h8' hsum
      have hwr : IntKind.i64.wrap (S.rns + T.rns) = S.rns + T.rns := IntWalk.i64_in _ (by omega)
      by_cases h8 : S.rns + T.rns ≤ 8192
      · rw [if_pos h8, if_pos h8]
        have BB := hide (BO.out h8)
        have h9 : ¬ (8192 : Int) < S.rns + T.rns := by omega
        have d8 : decide ((8192 : Int) < S.rns + T.rns) = false := by rw [decide_eq_false_iff_not]; exact h9
        generalize (AT.join S T) = U at *
        generalize S.rns = rs at *
        generalize T.rns = rt at *
        clear BO h8
        go_enter Tryd.func14, Tryd.ntmps14
        go_wp2_with fail
        generalize (((w.alloc (.cells #[.slice (some ⟨b, 0, none⟩) n cap] 28)).alloc (.cells #[.slice (some ⟨b', 0, none⟩) n' cap'] 28)).alloc (.cells #[.slice none 0 0] 28)) = w0 at *
        refine VL.out.mono ?_
        rintro e w1 ⟨rfl, hb1⟩
        have s1 := hb1.size
        have B1 := hide (A0.out.trans (hb1.mono (by omega)))
        have O1' := hide (show OwI w1 base' _ ys from owns_below O0'.out hb1 (Nat.le_refl _))
        have O1 := hide (show OwI w1 base _ xs from owns_below O0.out hb1 (Nat.le_refl _))
        have i0 := (show Boxed w1 (w.heap.size + 1) 28 _ from (hb1.block _ (by omega)).trans HK1.out).cell
        have KA := hide (show Boxed w1 w.heap.size 28 _ from (hb1.block _ (by omega)).trans HK0.out)
        have KB := hide (show Boxed w1 (w.heap.size + 1) 28 _ from (hb1.block _ (by omega)).trans HK1.out)
        have KC := hide (show Boxed w1 (w.heap.size + 1 + 1) 28 (.slice none 0 0) from (hb1.block _ (by omega)).trans HK2.out)
        have VC := hide (VL'.out w1 O1'.out)
        rw [hv2] at VC
        clear hb1 hv hv2
        go_wp2_with fail
        refine VC.out.mono ?_
        rintro e w2 ⟨rfl, hb2⟩
        have s2 := hb2.size
        have B2 := hide (B1.out.trans (hb2.mono (by omega)))
        have O2 := hide (show OwI w2 base _ xs from owns_below O1.out hb2 (Nat.le_refl _))
        have O2' := hide (show OwI w2 base' _ ys from owns_below O1'.out hb2 (Nat.le_refl _))
        have c0 := (show Boxed w2 w.heap.size 28 _ from (hb2.block _ (by omega)).trans KA.out).cell
        have c1 := (show Boxed w2 (w.heap.size + 1) 28 _ from (hb2.block _ (by omega)).trans KB.out).cell
        have LA := hide (show Boxed w2 w.heap.size 28 _ from (hb2.block _ (by omega)).trans KA.out)
        have LB := hide (show Boxed w2 (w.heap.size + 1) 28 _ from (hb2.block _ (by omega)).trans KB.out)
        have LC := hide (show Boxed w2 (w.heap.size + 1 + 1) 28 (.slice none 0 0) from (hb2.block _ (by omega)).trans KC.out)
        have l0 : w.heap.size < w2.heap.size := by omega
        have l1 : w.heap.size + 1 < w2.heap.size := by omega
        clear hb2 i0 KA KB KC O1 O1'
        go_upto_region 3 with fail
        go_cut [22] (fun s22 wc => s22 = .bool false ∧ Below w2.heap.size w2 wc)
        case first =>
          go_region_with (first
            | (have hx9 := O3'; clear hx9; go_at_call 42; refine (TS'.out _ _ (by exact (OwI.rd O3'.out).heap rfl) (by exact Nat.le_refl _) HPC'.out).mono ?_; rintro e w4 ⟨rfl, hb4'⟩; have BB4 := hide (BB3.out.trans ((show Below w3.heap.size w3 w4 from ⟨hb4'.os, hb4'.tape, hb4'.output, hb4'.size, hb4'.block⟩).mono s3)); clear hb4')
            | (go_at_call 42; refine (TS.out _ _ (by exact (OwI.rd O2.out).heap rfl) (by exact Nat.le_refl _) HPC.out).mono ?_; rintro e w3 ⟨rfl, hb3'⟩; have hb3 : Below w2.heap.size w2 w3 := (⟨hb3'.os, hb3'.tape, hb3'.output, hb3'.size, hb3'.block⟩); have BB3 := hide hb3; have s3 := hb3.size; have O3' := hide (show OwI w3 base' _ ys from owns_below O2'.out hb3 (Nat.le_refl _)); have p1' := (hb3.cell (p := ⟨w.heap.size + 1, 0, none⟩) l1).trans c1; clear hb3 hb3'))
          all_goals (go_wp2_with fail; go_meet; exact ⟨by first | (rw [d8]) | (rw [hwr, d8]) | rfl, BB4.out⟩)
        case rest =>
        obtain ⟨rfl, hb3⟩ := hcut
        have s3 := hb3.size
        have B3 := hide (B2.out.trans (hb3.mono (by omega)))
        have O3 := hide (show OwI wc base _ xs from owns_below O2.out hb3 (Nat.le_refl _))
        have O3' := hide (show OwI wc base' _ ys from owns_below O2'.out hb3 (Nat.le_refl _))
        have k0 := (show Boxed wc w.heap.size 28 _ from (hb3.block _ (by omega)).trans LA.out).cell
        have k1 := (show Boxed wc (w.heap.size + 1) 28 _ from (hb3.block _ (by omega)).trans LB.out).cell
        have J2 := hide ((hb3.block (w.heap.size + 1 + 1) (by omega)).trans LC.out)
        clear hb3 LA LB LC c0 c1 O2 O2'
        go_wp2_with fail
        refine (BB.out wc _ _ _ _ O3.out O3'.out).mono ?_
        rintro e w4 ⟨v1, rfl, ho4, hb4⟩
        have s4 := hb4.size
        have m2 : Boxed w4 (w.heap.size + 1 + 1) 28 (.slice none 0 0) := (hb4.block _ (by omega)).trans J2.out
        have B4 := hide ((B3.out.trans (hb4.mono (by omega))))
        obtain ⟨a1, l1', c1, rfl⟩ : ∃ ao ln cap, v1 = .slice ao ln cap := by
          rcases ho4.2 with ⟨rfl, _⟩ | ⟨g, cap, cur, rfl, _⟩
          · exact ⟨_, _, _, rfl⟩
          · exact ⟨_, _, _, rfl⟩
        have d1 := m2.cell
        have f1 := m2.frozen
        have g1 := m2.lt
        have O4 := hide (OwI.base (base' := w.heap.size) ho4 (by omega))
        have O5 := hide (show OwI (w4.setCell ⟨w.heap.size + 1 + 1, 0, none⟩ (.slice a1 l1' c1)) w.heap.size (.slice a1 l1' c1) (U.told 0) from O4.out.kept (grownBy_setCell' w4 (w.heap.size + 1 + 1) (.slice a1 l1' c1)) (.inr (m2.not_row (by decide) O4.out).symm))
        have B5 := hide (B4.out.setCell (p := ⟨w.heap.size + 1 + 1, 0, none⟩) (by simp; omega) (.slice a1 l1' c1))
        have e1 := (m2.set (.slice a1 l1' c1)).cell
        clear ho4 hb4 m2 O4 J2
        go_wp2
        refine bodyPost_ret (v := .tuple #[.agg #[.slice a1 l1' c1], .int .i64 0]) (by simp [results, Tryd.results14, go_sem, e1]) rfl ⟨_, rfl, O5.out, B5.out⟩
      · rw [if_neg h8, if_neg h8]
        have h9 : (8192 : Int) < S.rns + T.rns := by omega
        have d8 : decide ((8192 : Int) < S.rns + T.rns) = true := by rw [decide_eq_true_eq]; exact h9
        generalize S.rns = rs at *
        generalize T.rns = rt at *
        clear BO h8
        go_enter Tryd.func14, Tryd.ntmps14
        go_wp2_with fail
        generalize (((w.alloc (.cells #[.slice (some ⟨b, 0, none⟩) n cap] 28)).alloc (.cells #[.slice (some ⟨b', 0, none⟩) n' cap'] 28)).alloc (.cells #[.slice none 0 0] 28)) = w0 at *
        refine VL.out.mono ?_
        rintro e w1 ⟨rfl, hb1⟩
        have s1 := hb1.size
        have B1 := hide (A0.out.trans (hb1.mono (by omega)))
        have O1' := hide (show OwI w1 base' _ ys from owns_below O0'.out hb1 (Nat.le_refl _))
        have O1 := hide (show OwI w1 base _ xs from owns_below O0.out hb1 (Nat.le_refl _))
        have i0 := (show Boxed w1 (w.heap.size + 1) 28 _ from (hb1.block _ (by omega)).trans HK1.out).cell
        have KA := hide (show Boxed w1 w.heap.size 28 _ from (hb1.block _ (by omega)).trans HK0.out)
        have KB := hide (show Boxed w1 (w.heap.size + 1) 28 _ from (hb1.block _ (by omega)).trans HK1.out)
        have KC := hide (show Boxed w1 (w.heap.size + 1 + 1) 28 (.slice none 0 0) from (hb1.block _ (by omega)).trans HK2.out)
        have VC := hide (VL'.out w1 O1'.out)
        rw [hv2] at VC
        clear hb1 hv hv2
        go_wp2_with fail
        refine VC.out.mono ?_
        rintro e w2 ⟨rfl, hb2⟩
        have s2 := hb2.size
        have B2 := hide (B1.out.trans (hb2.mono (by omega)))
        have O2 := hide (show OwI w2 base _ xs from owns_below O1.out hb2 (Nat.le_refl _))
        have O2' := hide (show OwI w2 base' _ ys from owns_below O1'.out hb2 (Nat.le_refl _))
        have c0 := (show Boxed w2 w.heap.size 28 _ from (hb2.block _ (by omega)).trans KA.out).cell
        have c1 := (show Boxed w2 (w.heap.size + 1) 28 _ from (hb2.block _ (by omega)).trans KB.out).cell
        have LA := hide (show Boxed w2 w.heap.size 28 _ from (hb2.block _ (by omega)).trans KA.out)
        have LB := hide (show Boxed w2 (w.heap.size + 1) 28 _ from (hb2.block _ (by omega)).trans KB.out)
        have LC := hide (show Boxed w2 (w.heap.size + 1 + 1) 28 (.slice none 0 0) from (hb2.block _ (by omega)).trans KC.out)
        have l0 : w.heap.size < w2.heap.size := by omega
        have l1 : w.heap.size + 1 < w2.heap.size := by omega
        clear hb2 i0 KA KB KC O1 O1'
        go_upto_region 3 with fail
        go_cut [22] (fun s22 wc => s22 = .bool true ∧ Below w2.heap.size w2 wc)
        case first =>
          go_region_with (first
            | (have hx9 := O3'; clear hx9; go_at_call 42; refine (TS'.out _ _ (by exact (OwI.rd O3'.out).heap rfl) (by exact Nat.le_refl _) HPC'.out).mono ?_; rintro e w4 ⟨rfl, hb4'⟩; have BB4 := hide (BB3.out.trans ((show Below w3.heap.size w3 w4 from ⟨hb4'.os, hb4'.tape, hb4'.output, hb4'.size, hb4'.block⟩).mono s3)); clear hb4')
            | (go_at_call 42; refine (TS.out _ _ (by exact (OwI.rd O2.out).heap rfl) (by exact Nat.le_refl _) HPC.out).mono ?_; rintro e w3 ⟨rfl, hb3'⟩; have hb3 : Below w2.heap.size w2 w3 := (⟨hb3'.os, hb3'.tape, hb3'.output, hb3'.size, hb3'.block⟩); have BB3 := hide hb3; have s3 := hb3.size; have O3' := hide (show OwI w3 base' _ ys from owns_below O2'.out hb3 (Nat.le_refl _)); have p1' := (hb3.cell (p := ⟨w.heap.size + 1, 0, none⟩) l1).trans c1; clear hb3 hb3'))
          all_goals (go_wp2_with fail; go_meet; exact ⟨by first | (rw [d8]) | (rw [hwr, d8]) | rfl, BB4.out⟩)
        case rest =>
        obtain ⟨rfl, hb3⟩ := hcut
        have s3 := hb3.size
        have B3 := hide (B2.out.trans (hb3.mono (by omega)))
        have m2 : Boxed wc (w.heap.size + 1 + 1) 28 (.slice none 0 0) := (hb3.block (w.heap.size + 1 + 1) (by omega)).trans LC.out
        clear hb3 LA LB LC c0 c1
        have d1 := m2.cell
        have f1 := m2.frozen
        go_wp2
        refine bodyPost_ret (v := .tuple #[.agg #[.slice none 0 0], .int .i64 10]) (by simp [results, Tryd.results14, go_sem, d1]) rfl ⟨_, rfl, World.ownsRow_nil _ _ _ _, ?_⟩
        repeat (first | exact B3.out | refine Below.setCell ?_ (by simp; omega) _ | refine Below.setCell ?_ (by simp) _)
end Go.Proofs.YtbgngikejgihgafDoor
