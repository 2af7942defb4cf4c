import Derived.Test.YtbgngikejgihgafDoorTSpl
namespace Go.Proofs.YtbgngikejgihgafDoor
open Go Go.RowKit
set_option linter.unusedVariables false

set_option maxHeartbeats 4000000 in
set_option maxRecDepth 100000 in
theorem joinN (A B : AT) (ua ub : Option Addr) (ba bb : List Nat) (base : Nat) (w : World) (hbA : A.bal) (hbB : B.bal) (hokA : A.ok) (hokB : B.ok) (hsum : A.rns + B.rns ≤ 8192) (hA : Lies w base A ua ba) (hB : Lies w base B ub bb) (hnd : (ba ++ bb).Nodup) (hbase : base ≤ w.heap.size) :
    Calls Tryd.prog 87 #[.pointer ua, .pointer ub] w (MutPost base (AT.join A B) (ba ++ bb) w) := by
  generalize hres : AT.join A B = res
  cases A with
  | nil =>
    obtain ⟨rfl, rfl⟩ := hA
    have HREP := hide (show res = B from hres.symm)
    have HB := hide hB
    have HND := hide hnd
    clear hB hnd hres
    go_enter Tryd.func87, Tryd.ntmps87
    go_wp2_with fail
    go_ret
    rw [HREP.out]
    exact ⟨ub, bb, rfl, HB.out, by simpa using HND.out, fun x hx => .inl (by simpa using hx), Chg.refl _ _⟩
  | node la pa ra =>
    have HA := hide hA
    obtain ⟨a, u1, u2, b1, b2, rfl, _⟩ := hA
    cases B with
    | nil =>
      obtain ⟨rfl, rfl⟩ := hB
      have HREP := hide (show res = AT.node la pa ra from hres.symm)
      have HND := hide hnd
      clear hnd hres
      go_enter Tryd.func87, Tryd.ntmps87
      go_wp2_with fail
      go_ret
      rw [HREP.out]
      exact ⟨_, ba, rfl, HA.out, by simpa using HND.out, fun x hx => .inl (by simpa using hx), Chg.refl _ _⟩
    | node lb pb rb =>
      have HB := hide hB
      obtain ⟨b, v1, v2, c1, c2, rfl, _⟩ := hB
      have hr0 : 0 < (AT.node lb pb rb).its := by simp only [AT.its]; omega
      have HREP := hide (show res = AT.spl (AT.node la pa ra) (AT.node lb pb rb).first ((AT.node lb pb rb).rem 0) from hres.symm)
      obtain ⟨ft, hft⟩ := AT.first_flat (AT.node lb pb rb) (by simp)
      have rbal := AT.rem_bal (AT.node lb pb rb) 0 hbB hr0
      have hrf : ((AT.node lb pb rb).rem 0).flat = ft := by rw [AT.rem_flat _ 0 hr0, hft]; simp
      have HOK := hide (show (AT.node (AT.node la pa ra) (AT.node lb pb rb).first ((AT.node lb pb rb).rem 0)).ok from by
        refine ⟨fun p hp => ?_, ?_⟩
        · rw [flat_node, hrf, ← hft, List.mem_append] at hp
          rcases hp with hp | hp
          · exact hokA.1 p hp
          · exact hokB.1 p hp
        · have e : (AT.node (AT.node la pa ra) (AT.node lb pb rb).first ((AT.node lb pb rb).rem 0)).flat = (AT.node la pa ra).flat ++ (AT.node lb pb rb).flat := by rw [flat_node, hrf, ← hft]
          rw [AT.rns_of_flat, e, List.map_append, List.sum_append, ← AT.rns_of_flat, ← AT.rns_of_flat]; exact hsum)
      have HKF := hide (firstN (AT.node lb pb rb) _ bb base w HB.out (by simp))
      have nda : ba.Nodup := (List.nodup_append.1 hnd).1
      have ndb : bb.Nodup := (List.nodup_append.1 hnd).2.1
      have dab : ∀ x ∈ ba, x ∉ bb := fun x hx hm => (List.nodup_append.1 hnd).2.2 x hx x hm rfl
      have HD := hide (And.intro nda (And.intro ndb dab))
      have HBAL := hide (And.intro hbA (And.intro hbB rbal.1))
      have HOKB := hide hokB
      generalize (AT.node lb pb rb).first = F at *
      clear hnd hres nda ndb dab hbA hbB rbal hokA hokB hft hrf
      go_enter Tryd.func87, Tryd.ntmps87
      go_wp2_with fail
      refine HKF.out.mono ?_
      rintro e w1 ⟨rfl, hb1⟩
      have s1 := hb1.size
      have HBA := hide (hb1.alloc s1 (.cells #[.int .i64 F.off, .int .i64 F.len, .int .i64 F.brk] 113))
      have hk : (w1.alloc (.cells #[.int .i64 F.off, .int .i64 F.len, .int .i64 F.brk] 113)).heap[w1.heap.size]? = some (.cells #[.int .i64 F.off, .int .i64 F.len, .int .i64 F.brk] 113 (0, 0)) := heap_alloc_new _ _
      have hs2 : (w1.alloc (.cells #[.int .i64 F.off, .int .i64 F.len, .int .i64 F.brk] 113)).heap.size = w1.heap.size + 1 := by simp
      clear hb1 HKF
      unfold pcV
      go_upto_region 6 with fail
      generalize w1.alloc (.cells #[.int .i64 F.off, .int .i64 F.len, .int .i64 F.brk] 113) = w2 at *
      have HA2 := hide (HA.out.below HBA.out (Nat.le_refl _))
      have HB2 := hide (HB.out.below HBA.out (Nat.le_refl _))
      have k0 : w2.cell? ⟨w1.heap.size, 0, none⟩ = some (.int .i64 F.off) := by rw [cell_of_row w2 _ 0 _ _ _ hk]; rfl
      have k1 : w2.cell? ⟨w1.heap.size, 1, none⟩ = some (.int .i64 F.len) := by rw [cell_of_row w2 _ 1 _ _ _ hk]; rfl
      have k2 : w2.cell? ⟨w1.heap.size, 2, none⟩ = some (.int .i64 F.brk) := by rw [cell_of_row w2 _ 2 _ _ _ hk]; rfl
      have lk : w1.heap.size < w2.heap.size := by omega
      have HLA := hide (fun x hx => (HA.out.lt x hx).2)
      have HLB := hide (fun x hx => (HB.out.lt x hx).2)
      have HK2 := hide hk
      have R1 := hide (fun (W : World) (eW : W.heap = w2.heap) => removeN (AT.node lb pb rb) 0 _ bb base W HBAL.out.2.1 HOKB.out hr0 (HB2.out.heap eW) HD.out.2.1)
      simp only [Int.natCast_zero] at R1
      have CH2 := hide (Chg.of_below (bs := ba ++ bb) HBA.out)
      clear hk HA HB HBA
      go_region_with (first
        | (go_at_call 121; refine (R1.out _ (by exact rfl)).mono ?_; intro e3 w3 hp3; obtain ⟨u3, bs3, rfl, hT3, nd3, sub3, ch3⟩ := hp3.drawn (w := w2) rfl rfl rfl rfl; have s3 := ch3.size; have HA3 := hide (HA2.out.chg ch3 HD.out.2.2); have HT3 := hide hT3; have ND3 := hide (show (ba ++ bs3).Nodup from (List.nodup_append.2 ⟨HD.out.1, nd3, fun x hx y hy e => (by subst e; rcases sub3 x hy with h | h; exact HD.out.2.2 x hx h; have := HLA.out x hx; omega)⟩)); have SB3 := hide sub3; have CH3 := hide (CH2.out.trans ch3 (fun _ h _ => h) (fun x h _ => (by simp [h])) (ds := ba ++ bb)); have nk : w1.heap.size ∉ bb := (fun hm => (by have := HLB.out _ hm; omega)); have hk3 := (ch3.block w1.heap.size lk nk).trans HK2.out; have m0 : w3.cell? ⟨w1.heap.size, 0, none⟩ = some (.int .i64 F.off) := (by rw [cell_of_row w3 _ 0 _ _ _ hk3]; rfl); have m1 : w3.cell? ⟨w1.heap.size, 1, none⟩ = some (.int .i64 F.len) := (by rw [cell_of_row w3 _ 1 _ _ _ hk3]; rfl); have m2 : w3.cell? ⟨w1.heap.size, 2, none⟩ = some (.int .i64 F.brk) := (by rw [cell_of_row w3 _ 2 _ _ _ hk3]; rfl); have lk3 : w1.heap.size < w3.heap.size := (by omega); clear hp3 hT3 nd3 sub3 ch3 nk hk3)
        | (go_at_call 111; refine (spliceN _ (AT.node la pa ra) F ((AT.node lb pb rb).rem 0) _ u3 ba bs3 base _ (by exact Nat.lt_succ_self _) (by exact HBAL.out.1) (by exact HBAL.out.2.2) (by exact HOK.out) (by exact HA3.out.heap rfl) (by exact HT3.out.heap rfl) (by exact ND3.out) (by show base ≤ w3.heap.size; omega)).mono ?_; intro e4 w4 hp4; have HP4 := hide (hp4.drawn (w := w3) rfl rfl rfl rfl); obtain ⟨u4, bs4, rfl, _⟩ := hp4))
      all_goals (
        go_wp2
        go_ret
        obtain ⟨u5, bs5, e5, hT5, nd5, sub5, ch5⟩ := HP4.out
        rw [HREP.out]
        refine ⟨u5, bs5, e5, hT5, nd5, fun x hx => ?_, CH3.out.trans ch5 (fun _ h _ => h) (fun x hx hl => ?_)⟩
        · rcases sub5 x hx with h | h
          · rcases List.mem_append.1 h with h | h
            · exact .inl (List.mem_append_left _ h)
            · rcases SB3.out x h with h | h
              · exact .inl (List.mem_append_right _ h)
              · exact .inr (by omega)
          · exact .inr (by omega)
        · rcases List.mem_append.1 hx with h | h
          · exact List.mem_append_left _ h
          · rcases SB3.out x h with h | h
            · exact List.mem_append_right _ h
            · omega)
end Go.Proofs.YtbgngikejgihgafDoor
