import Derived.Test.YtmpclndnjjhijadDoorProg
import Derived.Test.YtmpclndnjjhijadDoorL1step
import Derived.WalkKit
import Derived.WalkLawsBesides
namespace Go.Proofs.YtmpclndnjjhijadDoor
open Go Go.RowKit
set_option linter.unusedVariables false

theorem Tryd.infoE : (Tryd.prog.info? 21).map (fun i => (i.zero, i.size, i.bytes)) = some (some (.int .i32 0), 1, 4) := by kernel_rfl

theorem bytes_drop {bs : List Int} (h : bytes bs) (k : Nat) : bytes (bs.drop k) := fun z hz => h z (List.mem_of_mem_drop hz)
theorem rd_drop {w : World} {b off cap k : Nat} {bs : List Int} (hc : ∀ i, i < bs.length → w.cell? ⟨b, off + i, none⟩ = some (.int .u8 (bs.getD i 0))) (hk : k < bs.length) (hcp : bs.length ≤ cap) (hcm : cap ≤ maxLen) : Rd .u8 w (.slice (some ⟨b, off + k, none⟩) (bs.length - k) (cap - k)) (bs.drop k) := by
  have hl : (bs.drop k).length = bs.length - k := by rw [List.length_drop]
  refine .inr ⟨b, off + k, cap - k, by rw [hl], ⟨by omega, by omega, by omega⟩, fun i hi => ?_⟩
  rw [Nat.add_assoc, hc (k + i) (by omega), List.getD_eq_getElem?_getD, List.getD_eq_getElem?_getD, List.getElem?_drop]

/-- What has been read, and what is left. -/
theorem decs_drop {bs : List Int} {k : Nat} {xs : List Int} (h : decs bs = xs ++ decs (bs.drop k)) (hk : k < bs.length) :
    decs bs = (xs ++ [(step (bs.drop k)).1]) ++ decs (bs.drop (k + (step (bs.drop k)).2)) ∧ k + (step (bs.drop k)).2 ≤ bs.length ∧ 1 ≤ (step (bs.drop k)).2 := by
  have hne : bs.drop k ≠ [] := by
    intro e; have := congrArg List.length e; simp at this; omega
  have hs := step_size _ hne
  rw [List.length_drop] at hs
  refine ⟨?_, by omega, hs.1⟩
  rw [h, decs_cons hne, List.drop_drop]
  simp

theorem step_bd {bs : List Int} (hb : bytes bs) (hne : bs ≠ []) : 0 ≤ (step bs).1 ∧ (step bs).1 ≤ 1114111 := by
  rcases shape hne with ⟨a, rfl⟩ | ⟨a, b, rfl⟩ | ⟨a, b, c, rfl⟩ | ⟨a, b, c, d, r, rfl⟩
  · have ha := hb a (by simp)
    simp only [step]
    repeat' split
    all_goals simp only
    all_goals omega
  · have ha := hb a (by simp)
    have hb' := hb b (by simp)
    simp only [step, numZ]
    repeat' split
    all_goals simp only
    all_goals omega
  · have ha := hb a (by simp)
    have hb' := hb b (by simp)
    have hc := hb c (by simp)
    simp only [step, numZ]
    repeat' split
    all_goals simp only
    all_goals (try unfold ok3 at *)
    all_goals (try unfold ok4 at *)
    all_goals omega
  · have ha := hb a (by simp)
    have hb' := hb b (by simp)
    have hc := hb c (by simp)
    have hd := hb d (by simp)
    simp only [step, numZ]
    repeat' split
    all_goals simp only
    all_goals (try unfold ok3 at *)
    all_goals (try unfold ok4 at *)
    all_goals omega

set_option maxHeartbeats 1000000 in
set_option maxRecDepth 100000 in
theorem specDec (bs : List Int) (v : Value) (w : World) (h : Rd .u8 w v bs) (hb : bytes bs) (hn : bs.length ≤ 1048576) :
    Calls Tryd.prog 12 #[v] w fun e w' => ∃ v', e = .returned v' ∧ w'.ownsRow w.heap.size 21 1 v' (decs bs).length (ints .i32 (decs bs)) ∧ Below w.heap.size w w' := by
  obtain ⟨i0, hi, hz0, hz1, hz2⟩ := info_parts Tryd.infoE
  have hown : (w.alloc (.cells #[] 21)).ownsRow w.heap.size 21 1 (.slice (some ⟨w.heap.size, 0, none⟩) 0 0) 0 [] := World.ownsRow_made w #[] 0 (Nat.le_refl _) (Nat.zero_le _) rfl
  have HO := hide hown
  clear hown
  rcases h with ⟨ao, cap, rfl, rfl⟩ | ⟨b, off, cap, rfl, ⟨hp, hcp, hcm⟩, hc⟩
  · go_enter Tryd.func12, Tryd.ntmps12
    go_wp2
    refine wp_loop_rounds 1 ?_
    rw [rounds_succ]
    go_wp2
    go_ret
    exact ⟨_, rfl, by rw [decs_nil]; exact HO.out, (Below.refl _ _).alloc (Nat.le_refl _) _⟩
  · have hcB : b < w.heap.size := World.block_lt_of_cell? w _ (hc 0 hp)
    have HRD := hide (fun (W : World) (hW : Below w.heap.size w W) (k : Nat) (hk : k < bs.length) => rd_drop (w := W) (k := k) (fun i hi => (hW.cell (p := ⟨b, off + i, none⟩) hcB).trans (hc i hi)) hk hcp hcm)
    have HBY := hide hb
    have HDL := hide (decs_length bs)
    unfold maxLen at hcm
    clear hc hb
    go_enter Tryd.func12, Tryd.ntmps12
    go_wp2
    go_loopw [3, 4] (fun out i wr => ∃ (k : Nat) (xs : List Int), k ≤ bs.length ∧ i = .int .i64 k ∧ decs bs = xs ++ decs (bs.drop k) ∧ wr.ownsRow w.heap.size 21 1 out xs.length (ints .i32 xs) ∧ Below w.heap.size w wr)
      (fun _ i _ => bs.length - (intOf i).toNat)
    case atStart => exact ⟨0, [], Nat.zero_le _, rfl, by simp, by simpa [ints] using HO.out, (Below.refl _ _).alloc (Nat.le_refl _) _⟩
    case round =>
      obtain ⟨k, xs, hk, rfl, hd, hown, hbw⟩ := hrel
      have HD := hide hd
      have HOW := hide hown
      have HBW := hide hbw
      have hsz := hbw.size
      have hxl : xs.length ≤ 1048576 := by have h1 := HDL.out; rw [hd, List.length_append] at h1; omega
      clear hd hown hbw
      by_cases hlt : k < bs.length
      · have hcapk : ¬ cap = k := by omega
        obtain ⟨hd2, hle2, hst1⟩ := decs_drop HD.out hlt
        have hne : bs.drop k ≠ [] := by intro e; have := congrArg List.length e; simp at this; omega
        obtain ⟨hbd0, hbd1⟩ := step_bd (bytes_drop HBY.out k) hne
        have HST := hide (l1Step (bs.drop k) _ wr (HRD.out wr HBW.out k hlt) (bytes_drop HBY.out k) hne (by rw [List.length_drop]; omega))
        have HD2 := hide hd2
        clear hd2 hne
        generalize (step (bs.drop k)).1 = r at *
        generalize (step (bs.drop k)).2 = m at *
        go_wp2_with fail
        refine HST.out.mono ?_
        rintro e w1 ⟨rfl, hb1⟩
        have HO1 := hide (owns_below HOW.out hb1 (Nat.le_refl _))
        have HB1 := hide (HBW.out.trans (hb1.mono hsz))
        have hs1 := HB1.out.size
        clear hb1 HST
        go_wp2_with (at_builtin; refine wpList_append_own _ rfl _ _ 25 rfl w.heap.size 21 i0 (.int .i32 0) 1 4 Tryd.underlying25 hi hz0 hz1 hz2 rfl (by decide) _ _ _ rfl (HO1.out.alloc _) ⟨w1.heap.size, 0, none⟩ 1 1 [.int .i32 r] rfl rfl (newcells w1 21 [.int .i32 r]) (ints_one .i32 [r]) (by unfold maxLen; omega) (by omega) (by simp; omega) ?_; intro v2 w2 ho2 hg2 _)
        have HB2 := hide ((HB1.out.alloc hs1 _).grown hg2 (by simp; omega) (fun q hq => (HO1.out.lt q hq).1))
        have HO2 := hide (show w2.ownsRow w.heap.size 21 1 v2 (xs ++ [r]).length (ints .i32 (xs ++ [r])) by
          rw [List.length_append, ints_append]; exact ho2)
        clear ho2 hg2
        go_wp2
        go_roundw
        case rel => exact ⟨k + m, xs ++ [r], by omega, by go_num, HD2.out, HO2.out, HB2.out⟩
        case measure => simp [intOf]; omega
      · obtain rfl : k = bs.length := by omega
        have HE := hide (show decs bs = xs by rw [HD.out, List.drop_length, decs_nil, List.append_nil])
        clear HD
        go_wp2
        go_ret
        exact ⟨_, rfl, by rw [HE.out]; exact HOW.out, HBW.out⟩
end Go.Proofs.YtmpclndnjjhijadDoor
