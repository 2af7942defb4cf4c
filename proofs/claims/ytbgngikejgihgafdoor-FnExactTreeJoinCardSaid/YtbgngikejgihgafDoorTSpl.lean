import Derived.Test.YtbgngikejgihgafDoorTSplB
import Derived.Deep.RegionWith
import Derived.Deep.Cut
import Derived.Deep.CutRange
import Derived.Deep.CutBlock
import Derived.Deep.DeepCutAuto
namespace Go.Proofs.YtbgngikejgihgafDoor
open Go Go.RowKit
set_option linter.unusedVariables false

set_option maxHeartbeats 4000000 in
set_option maxRecDepth 100000 in
theorem spliceN : ∀ (m : Nat) (A : AT) (e : Pc) (B : AT) (ua ub : Option Addr) (ba bb : List Nat) (base : Nat) (w : World), A.its + B.its < m → A.bal → B.bal → (AT.node A e B).ok → Lies w base A ua ba → Lies w base B ub bb → (ba ++ bb).Nodup → base ≤ w.heap.size →
    Calls Tryd.prog 111 #[.pointer ua, pcV e, .pointer ub] w (MutPost base (AT.spl A e B) (ba ++ bb) w) := by
  intro m
  induction m with
  | zero =>
    intro A e B ua ub ba bb base w hm
    omega
  | succ m ih =>
    intro A e B ua ub ba bb base w hm hbA hbB hok hA hB hnd hbase
    have bA := hok.left.bd
    have bB := hok.right.bd
    have hhA : (A.ht : Int) ≤ 8192 := by have := ht_le_its A; omega
    have hhB : (B.ht : Int) ≤ 8192 := by have := ht_le_its B; omega
    have hAlt := hA.lt
    have hBlt := hB.lt
    have HB0 := hide ((Below.refl w.heap.size w).alloc (Nat.le_refl _) (.cells #[.int .i64 e.off, .int .i64 e.len, .int .i64 e.brk] 113))
    have hk0 : (w.alloc (.cells #[.int .i64 e.off, .int .i64 e.len, .int .i64 e.brk] 113)).heap[w.heap.size]? = some (.cells #[.int .i64 e.off, .int .i64 e.len, .int .i64 e.brk] 113 (0, 0)) := heap_alloc_new _ _
    have hs0 : (w.alloc (.cells #[.int .i64 e.off, .int .i64 e.len, .int .i64 e.brk] 113)).heap.size = w.heap.size + 1 := by simp
    have HA := hide (hA.below HB0.out (Nat.le_refl _))
    have HB := hide (hB.below HB0.out (Nat.le_refl _))
    have CH0 := hide (Chg.of_below (bs := ba ++ bb) HB0.out)
    have HND := hide hnd
    have HOK := hide hok
    have HLA := hide hAlt
    have HLB := hide hBlt
    have HBB := hide (And.intro hbA hbB)
    have IH := hide ih
    generalize hres : AT.spl A e B = res
    have HRES := hide hres
    clear hA hB hnd hok hAlt hBlt hbA hbB ih hres
    unfold pcV
    go_enter Tryd.func111, Tryd.ntmps111
    go_wp2_with fail
    generalize w.alloc (.cells #[.int .i64 e.off, .int .i64 e.len, .int .i64 e.brk] 113) = w0 at *
    have k0 : w0.cell? ⟨w.heap.size, 0, none⟩ = some (.int .i64 e.off) := by rw [cell_of_row w0 _ 0 _ _ _ hk0]; rfl
    have k1 : w0.cell? ⟨w.heap.size, 1, none⟩ = some (.int .i64 e.len) := by rw [cell_of_row w0 _ 1 _ _ _ hk0]; rfl
    have k2 : w0.cell? ⟨w.heap.size, 2, none⟩ = some (.int .i64 e.brk) := by rw [cell_of_row w0 _ 2 _ _ _ hk0]; rfl
    have lk : w.heap.size < w0.heap.size := by omega
    refine (heightN A ua ba base w0 HA.out).mono ?_
    rintro e1 w1 ⟨rfl, rfl⟩
    go_wp2_with fail
    refine (heightN B ub bb base _ HB.out).mono ?_
    rintro e2 w2 ⟨rfl, rfl⟩
    by_cases hgt : A.ht > B.ht + 1
    · have hgt' : (A.ht : Int) > B.ht + 1 := by omega
      cases A with
      | nil => simp [AT.ht] at hgt
      | node l p r =>
        obtain ⟨b, ul, ur, bl, br, rfl, hbb, hb, hl, hr, rfl⟩ := HA.out
        have HREP : Hid (res = AT.rep l p (AT.spl r e B)) := by
          rw [← HRES.out, AT.spl_gt _ _ _ _ _ hgt]; exact rfl
        obtain ⟨hbl, hbr, ht1, ht2⟩ := AT.bal_hts HBB.out.1
        have sb := AT.spl_bal r e B hbr HBB.out.2
        have hh : (AT.node l p r).ht = 1 + max l.ht r.ht := rfl
        have okr : (AT.node r e B).ok := HOK.out.sub (by
          simp only [AT.flat, List.append_assoc, List.cons_append]
          exact ((List.Sublist.refl _).cons p).trans (List.sublist_append_right _ _))
        have okn : (AT.node l p (AT.spl r e B)).ok := HOK.out.of_flat (by simp only [AT.flat, AT.spl_flat, List.append_assoc, List.cons_append])
        have hnd0 := HND.out
        simp only [List.cons_append, List.nodup_cons, List.append_assoc] at hnd0
        obtain ⟨nb, nrest⟩ := hnd0
        have nd1 : (br ++ bb).Nodup := (List.nodup_append.1 nrest).2.1
        have ndl : bl.Nodup := (List.nodup_append.1 nrest).1
        have dl : ∀ x ∈ bl, x ∉ br ++ bb := fun x hx hm => (List.nodup_append.1 nrest).2.2 x hx x hm rfl
        have nb1 : b ∉ br ++ bb := fun hm => nb (List.mem_append_right _ hm)
        have nb2 : b ∉ bl := fun hm => nb (List.mem_append_left _ hm)
        have I1 := hide (fun (W : World) (eW : W.heap = w2.heap) => IH.out r e B ur ub br bb base W (by have : (AT.node l p r).its = l.its + 1 + r.its := rfl; omega) hbr HBB.out.2 okr (hr.heap eW) (HB.out.heap eW) nd1 (by rw [eW]; omega))
        have HNb := hide (And.intro nb1 (And.intro nb2 (And.intro nd1 (And.intro ndl dl))))
        have HOKN := hide okn
        have HBN := hide hb
        have HLL := hide hl
        have c4 := hb.c4
        have lb := hb.lt
        have HLT := hide (show ∀ x ∈ b :: (bl ++ (br ++ bb)), x < w2.heap.size from fun x hx => by
          simp only [List.mem_cons, List.mem_append] at hx
          rcases hx with h | h | h | h
          · omega
          · exact (hl.lt x h).2
          · exact (hr.lt x h).2
          · exact (HB.out.lt x h).2)
        clear hb hl hr hbl hbr okr okn nb nrest nd1 ndl dl nb1 nb2 HRES IH
        have hdec : decide ((B.ht : Int) + 1 < 1 + ((max l.ht r.ht : Nat) : Int)) = true := by simp; omega
        go_upto_region 2 with fail
        go_cut [] (fun wc => CutR base b w2.heap.size l p (AT.spl r e B) ul bl (br ++ bb) (b :: (br ++ bb)) (1 + max (l.ht : Int) r.ht) (l.its + 1 + r.its) (l.rns + p.len + r.rns) (l.bks + p.brk + r.bks) w2 wc)
        case first =>
          unfold pcV at I1
          go_region_with (go_at_call 111; refine (I1.out _ (by exact rfl)).mono ?_; intro e3 w3 hp3; obtain ⟨u3, bs3, rfl, hT3, nd3, sub3, ch3⟩ := hp3.drawn (w := w2) rfl rfl rfl rfl; have HB3 := hide (HBN.out.chg ch3 HNb.out.1); have HT3 := hide hT3; have HL3 := hide (HLL.out.chg ch3 HNb.out.2.2.2.2); have ND3 := hide nd3; have SB3 := hide sub3; have CH3 := hide ch3; have d4 := HB3.out.c4; have f4 := HB3.out.fz 4; have l3 := HB3.out.lt; clear hp3 hT3 nd3 sub3 ch3)
          all_goals (
            go_wp2_with fail
            go_meet
            have ndn : (b :: (bl ++ bs3)).Nodup := nd_right (bl := bl) (br := br ++ bb) (by
              rw [List.nodup_cons, List.nodup_append]
              exact ⟨fun hm => (List.mem_append.1 hm).elim HNb.out.2.1 HNb.out.1, HNb.out.2.2.2.1, HNb.out.2.2.1, fun x hx y hy e => HNb.out.2.2.2.2 x hx (e ▸ hy)⟩) HLT.out ND3.out SB3.out
            have nbs : b ∉ bs3 := fun hm => (List.nodup_cons.1 ndn).1 (List.mem_append_right _ hm)
            exact ⟨u3, bs3, (HB3.out.set4 u3).heap rfl, (HT3.out.other ⟨b, 4, none⟩ (.pointer u3) nbs).heap rfl, (HL3.out.other ⟨b, 4, none⟩ (.pointer u3) HNb.out.2.1).heap rfl, ndn, SB3.out, ((CH3.out.trans (Chg.refl [] _) (fun x h _ => by simp at h ⊢; exact .inr h) (fun x h _ => by simp at h) (ds := b :: (br ++ bb))).setCell ⟨b, 4, none⟩ (.pointer u3) (.inl (by simp))).drawn rfl rfl rfl rfl⟩)
        case rest =>
          obtain ⟨u3, bs3, hb3, hT3, hL3, nd3, sub3, ch3⟩ := hcut
          have HK3 := hide (repairN l p (AT.spl r e B) b ul u3 bl bs3 base _ _ _ _ wc hb3 hL3 hT3 hbb nd3 HOKN.out (by omega) (by omega))
          have CH3 := hide (CH0.out.trans ch3 (fun _ h _ => h) (fun x h _ => by simp at h ⊢; rcases h with h | h | h <;> simp [h]) (ds := (b :: (bl ++ br)) ++ bb))
          have SUB := hide (show ∀ x ∈ b :: (bl ++ bs3), x ∈ (b :: (bl ++ br)) ++ bb ∨ w.heap.size ≤ x from fun x hx => by
            simp only [List.mem_cons, List.mem_append] at hx ⊢
            rcases hx with h | h | h
            · exact .inl (.inl (.inl h))
            · exact .inl (.inl (.inr (.inl h)))
            · rcases sub3 x h with h | h
              · simp only [List.mem_append] at h
                rcases h with h | h
                · exact .inl (.inl (.inr (.inr h)))
                · exact .inl (.inr h)
              · exact .inr (by omega))
          have ND3 := hide nd3
          clear hb3 hT3 hL3 nd3 sub3 ch3
          go_wp2_with fail
          refine HK3.out.mono ?_
          intro e w4 hrp
          have HM := hide (mut_end CH3.out SUB.out ND3.out hrp)
          obtain ⟨u4, bs4, rfl, _⟩ := hrp
          clear HK3
          go_wp2
          go_ret
          rw [HREP.out]
          exact HM.out
    · have hgt' : ¬ (A.ht : Int) > B.ht + 1 := by omega
      go_wp2_with fail
      refine (heightN B ub bb base _ HB.out).mono ?_
      rintro e3 w3 ⟨rfl, rfl⟩
      go_wp2_with fail
      refine (heightN A ua ba base _ HA.out).mono ?_
      rintro e4 w4 ⟨rfl, rfl⟩
      by_cases hlt : B.ht > A.ht + 1
      · have hlt' : (B.ht : Int) > A.ht + 1 := by omega
        cases B with
        | nil => simp [AT.ht] at hlt
        | node l p r =>
          obtain ⟨b, ul, ur, bl, br, rfl, hbb, hb, hl, hr, rfl⟩ := HB.out
          have HREP : Hid (res = AT.rep (AT.spl A e l) p r) := by
            rw [← HRES.out, AT.spl_lt _ _ _ _ _ hgt hlt]; exact rfl
          obtain ⟨hbl, hbr, ht1, ht2⟩ := AT.bal_hts HBB.out.2
          have sb := AT.spl_bal A e l HBB.out.1 hbl
          have hh : (AT.node l p r).ht = 1 + max l.ht r.ht := rfl
          have okr : (AT.node A e l).ok := HOK.out.sub (by
            simp only [AT.flat]
            exact ((List.sublist_append_left _ _).cons_cons e).append_left _)
          have okn : (AT.node (AT.spl A e l) p r).ok := HOK.out.of_flat (by simp only [AT.flat, AT.spl_flat, List.append_assoc, List.cons_append])
          have hnd0 := HND.out
          have hnd1 : (b :: (ba ++ (bl ++ br))).Nodup := List.perm_middle.nodup_iff.1 hnd0
          simp only [List.nodup_cons] at hnd1
          obtain ⟨nb, nrest⟩ := hnd1
          rw [← List.append_assoc] at nb nrest
          have nd1 : (ba ++ bl).Nodup := (List.nodup_append.1 nrest).1
          have ndr : br.Nodup := (List.nodup_append.1 nrest).2.1
          have dr : ∀ x ∈ br, x ∉ ba ++ bl := fun x hx hm => (List.nodup_append.1 nrest).2.2 x hm x hx rfl
          have nb1 : b ∉ ba ++ bl := fun hm => nb (List.mem_append_left _ hm)
          have nb2 : b ∉ br := fun hm => nb (List.mem_append_right _ hm)
          have I1 := hide (fun (W : World) (eW : W.heap = w4.heap) => IH.out A e l ua ul ba bl base W (by have : (AT.node l p r).its = l.its + 1 + r.its := rfl; omega) HBB.out.1 hbl okr (HA.out.heap eW) (hl.heap eW) nd1 (by rw [eW]; omega))
          have HNb := hide (And.intro nb1 (And.intro nb2 (And.intro nd1 (And.intro ndr dr))))
          have HOKN := hide okn
          have HBN := hide hb
          have HRR := hide hr
          have c3 := hb.c3
          have lb := hb.lt
          have HLT := hide (show ∀ x ∈ b :: ((ba ++ bl) ++ br), x < w4.heap.size from fun x hx => by
            simp only [List.mem_cons, List.mem_append] at hx
            rcases hx with h | (h | h) | h
            · omega
            · exact (HA.out.lt x h).2
            · exact (hl.lt x h).2
            · exact (hr.lt x h).2)
          clear hb hl hr hbl hbr okr okn nb nrest nd1 ndr dr nb1 nb2 HRES IH hnd0
          have hdec : decide ((A.ht : Int) + 1 < 1 + ((max l.ht r.ht : Nat) : Int)) = true := by simp; omega
          have hdec2 : decide (1 + ((max l.ht r.ht : Nat) : Int) + 1 < (A.ht : Int)) = false := by simp; omega
          go_upto_region 5 with fail
          go_cut [] (fun wc => CutL base b w4.heap.size r p (AT.spl A e l) ur br (ba ++ bl) (b :: (ba ++ bl)) (1 + max (l.ht : Int) r.ht) (l.its + 1 + r.its) (l.rns + p.len + r.rns) (l.bks + p.brk + r.bks) w4 wc)
          case first =>
            unfold pcV at I1
            go_region_with (go_at_call 111; refine (I1.out _ (by exact rfl)).mono ?_; intro e5 w5 hp5; obtain ⟨u5, bs5, rfl, hT5, nd5, sub5, ch5⟩ := hp5.drawn (w := w4) rfl rfl rfl rfl; have HB5 := hide (HBN.out.chg ch5 HNb.out.1); have HT5 := hide hT5; have HR5 := hide (HRR.out.chg ch5 HNb.out.2.2.2.2); have ND5 := hide nd5; have SB5 := hide sub5; have CH5 := hide ch5; have d3 := HB5.out.c3; have f3 := HB5.out.fz 3; have l5 := HB5.out.lt; clear hp5 hT5 nd5 sub5 ch5)
            all_goals (
              go_wp2_with fail
              go_meet
              have ndn : (b :: (bs5 ++ br)).Nodup := nd_left (bl := ba ++ bl) (br := br) (by
                rw [List.nodup_cons, List.nodup_append]
                exact ⟨fun hm => (List.mem_append.1 hm).elim HNb.out.1 HNb.out.2.1, HNb.out.2.2.1, HNb.out.2.2.2.1, fun x hx y hy e => HNb.out.2.2.2.2 y hy (e ▸ hx)⟩) HLT.out ND5.out SB5.out
              have nbs : b ∉ bs5 := fun hm => (List.nodup_cons.1 ndn).1 (List.mem_append_left _ hm)
              exact ⟨u5, bs5, (HB5.out.set3 u5).heap rfl, (HT5.out.other ⟨b, 3, none⟩ (.pointer u5) nbs).heap rfl, (HR5.out.other ⟨b, 3, none⟩ (.pointer u5) HNb.out.2.1).heap rfl, ndn, SB5.out, ((CH5.out.trans (Chg.refl [] _) (fun x h _ => by simp at h ⊢; exact .inr h) (fun x h _ => by simp at h) (ds := b :: (ba ++ bl))).setCell ⟨b, 3, none⟩ (.pointer u5) (.inl (by simp))).drawn rfl rfl rfl rfl⟩)
          case rest =>
            obtain ⟨u5, bs5, hb5, hT5, hR5, nd5, sub5, ch5⟩ := hcut
            have HK5 := hide (repairN (AT.spl A e l) p r b u5 ur bs5 br base _ _ _ _ wc hb5 hT5 hR5 hbb nd5 HOKN.out (by omega) (by omega))
            have CH5 := hide (CH0.out.trans ch5 (fun _ h _ => h) (fun x h _ => by simp at h ⊢; rcases h with h | h | h <;> simp [h]) (ds := ba ++ (b :: (bl ++ br))))
            have SUB := hide (show ∀ x ∈ b :: (bs5 ++ br), x ∈ ba ++ (b :: (bl ++ br)) ∨ w.heap.size ≤ x from fun x hx => by
              simp only [List.mem_cons, List.mem_append] at hx ⊢
              rcases hx with h | h | h
              · exact .inl (.inr (.inl h))
              · rcases sub5 x h with h | h
                · simp only [List.mem_append] at h
                  rcases h with h | h
                  · exact .inl (.inl h)
                  · exact .inl (.inr (.inr (.inl h)))
                · exact .inr (by omega)
              · exact .inl (.inr (.inr (.inr h))))
            have ND5 := hide nd5
            clear hb5 hT5 hR5 nd5 sub5 ch5
            go_wp2_with fail
            refine HK5.out.mono ?_
            intro e w6 hrp
            have HM := hide (mut_end CH5.out SUB.out ND5.out hrp)
            obtain ⟨u6, bs6, rfl, _⟩ := hrp
            clear HK5
            go_wp2
            go_ret
            rw [HREP.out]
            exact HM.out
      · have hlt' : ¬ (B.ht : Int) > A.ht + 1 := by omega
        have HREP : Hid (res = AT.node A e B) := by
          rw [← HRES.out, AT.spl_eq _ _ _ hgt hlt]; exact rfl
        clear HRES IH
        go_wp2_with fail
        refine (plantN A e B ua ub ba bb base _ HA.out HB.out HOK.out (by omega)).mono ?_
        rintro e5 w5 ⟨nb, rfl, hnb, hT5, hb5⟩
        have HT5 := hide hT5
        have CH5 := hide (CH0.out.trans (Chg.of_below (bs := ba ++ bb) hb5) (fun _ h _ => h) (fun _ h _ => h))
        clear hT5 hb5
        go_wp2
        go_ret
        rw [HREP.out]
        refine ⟨_, nb :: (ba ++ bb), rfl, HT5.out, ?_, fun x hx => ?_, CH5.out⟩
        · rw [List.nodup_cons]
          refine ⟨fun hm => ?_, HND.out⟩
          rcases List.mem_append.1 hm with h | h
          · have := (HLA.out nb h).2; omega
          · have := (HLB.out nb h).2; omega
        · rcases List.mem_cons.1 hx with h | h
          · exact .inr (by omega)
          · exact .inl h
end Go.Proofs.YtbgngikejgihgafDoor
