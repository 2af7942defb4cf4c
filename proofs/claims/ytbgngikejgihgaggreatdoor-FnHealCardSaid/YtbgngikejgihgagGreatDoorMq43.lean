import Derived.Test.YtbgngikejgihgagGreatDoorMq42
import Derived.WalkKit
import Derived.Test.YtbgngikejgihgagGreatDoorMq07
namespace Go.Proofs.YtbgngikejgihgagGreatDoor
open Go Go.RowKit
set_option linter.unusedVariables false

/-- What split answers. -/
def SplitPost (base : Nat) (X Y : AT) (bs : List Nat) (w : World) (e : Ending) (w' : World) : Prop :=
  ∃ ux uy bx by', e = .returned (.tuple #[.pointer ux, .pointer uy]) ∧ Lies w' base X ux bx ∧ Lies w' base Y uy by' ∧ (bx ++ by').Nodup ∧ (∀ x ∈ bx ++ by', x ∈ bs ∨ w.heap.size ≤ x) ∧ Chg bs w w'

theorem AT.split_le (l : AT) (p : Pc) (r : AT) (k : Nat) (h : k ≤ l.its) : AT.split (.node l p r) k = ((l.split k).1, AT.spl (l.split k).2 p r) := by
  rw [AT.split, if_pos h]
theorem AT.split_gt (l : AT) (p : Pc) (r : AT) (k : Nat) (h : ¬ k ≤ l.its) : AT.split (.node l p r) k = (AT.spl l p (r.split (k - l.its - 1)).1, (r.split (k - l.its - 1)).2) := by
  rw [AT.split, if_neg h]

set_option maxHeartbeats 4000000 in
set_option maxRecDepth 100000 in
theorem splitN : ∀ (T : AT) (k : Nat) (u : Option Addr) (bs : List Nat) (base : Nat) (w : World), T.bal → T.ok → k ≤ T.its → Lies w base T u bs → bs.Nodup → base ≤ w.heap.size →
    Calls Tryz.prog 394 #[.pointer u, .int .i64 k] w (SplitPost base (T.split k).1 (T.split k).2 bs w) := by
  intro T
  induction T with
  | nil =>
    intro k u bs base w _ _ hk hT hnd hbase
    obtain ⟨rfl, rfl⟩ := hT
    go_enter Tryz.func394, Tryz.ntmps394
    go_wp2_with fail
    go_ret2
    exact ⟨none, none, [], [], rfl, ⟨rfl, rfl⟩, ⟨rfl, rfl⟩, by simp, by simp, Chg.refl _ _⟩
  | node l p r ihl ihr =>
    intro k u bs base w hbal hok hk hT hnd hbase
    have hTlt := hT.lt
    obtain ⟨b, ul, ur, bl, br, rfl, hbb, hb, hL, hR, rfl⟩ := hT
    obtain ⟨bl_, br_, ht1, ht2⟩ := AT.bal_hts hbal
    have hnd' := hnd
    simp only [List.nodup_cons, List.nodup_append, List.mem_append, not_or] at hnd'
    obtain ⟨⟨nbl, nbr⟩, ndl, ndr, ndlr⟩ := hnd'
    have dlr : ∀ x ∈ br, x ∉ bl := fun x hx hm => ndlr x hm x hx rfl
    have drl : ∀ x ∈ bl, x ∉ br := fun x hx hm => ndlr x hx x hm rfl
    have bT := hok.bd
    have hits : (AT.node l p r).its = l.its + 1 + r.its := rfl
    have c3 := hb.c3
    have lb := hb.lt
    have HK := hide (allN l ul bl base w hL)
    generalize hres : (AT.node l p r).split k = res
    have HRES := hide hres
    have HL := hide hL
    have HR := hide hR
    have HB := hide hb
    have HOK := hide hok
    have HLT := hide hTlt
    have HD := hide (And.intro nbl (And.intro nbr (And.intro ndl (And.intro ndr (And.intro dlr drl)))))
    have IHL := hide ihl
    have IHR := hide ihr
    have HBB := hide (And.intro bl_ br_)
    have f0 := Tryz.fld0
    clear hb hL hR hres hnd hok hTlt nbl nbr ndl ndr ndlr dlr drl ihl ihr hbal bl_ br_
    go_enter Tryz.func394, Tryz.ntmps394
    go_wp2_with fail
    refine HK.out.mono ?_
    rintro e w1 ⟨rfl, hb1⟩
    have s1 := hb1.size
    have HL1 := hide (HL.out.below hb1 (Nat.le_refl _))
    have HR1 := hide (HR.out.below hb1 (Nat.le_refl _))
    have HB1 := hide (Nd.chg (cs := []) HB.out (Chg.of_below hb1) (by simp))
    have CH1 := hide (Chg.of_below (bs := b :: (bl ++ br)) hb1)
    clear hb1 HK HL HR HB c3
    have c3 := HB1.out.c3
    have c4 := HB1.out.c4
    have lb1 := HB1.out.lt
    unfold cnt
    by_cases hk1 : k ≤ l.its
    · have hk1' : (k : Int) ≤ l.its := by omega
      have HREP : Hid (res = ((l.split k).1, AT.spl (l.split k).2 p r)) := by
        rw [← HRES.out, AT.split_le _ _ _ _ hk1]; exact rfl
      have sb := AT.split_bal l k HBB.out.1
      have sf := AT.split_flat l k hk1
      have IH := hide (IHL.out k ul bl base w1 HBB.out.1 HOK.out.left hk1 HL1.out HD.out.2.2.1 (by omega))
      clear HRES
      generalize (l.split k).1 = X at *
      generalize (l.split k).2 = Y at *
      go_wp2_with fail
      refine IH.out.mono ?_
      rintro e w2 ⟨ux, uy, bx, by', rfl, hX, hY, ndxy, sub2, ch2⟩
      have s2 := ch2.size
      have HB2 := hide (HB1.out.chg ch2 HD.out.1)
      have HR2 := hide (HR1.out.chg ch2 HD.out.2.2.2.2.1)
      have c0 := HB2.out.c0
      have c1 := HB2.out.c1
      have c2 := HB2.out.c2
      have d4 := HB2.out.c4
      have lb2 := HB2.out.lt
      have CH2 := hide (CH1.out.trans ch2 (fun _ h _ => h) (fun x h _ => by simp [h]) (ds := b :: (bl ++ br)))
      have HX2 := hide hX
      have HY2 := hide hY
      have SB2 := hide sub2
      have ndx : bx.Nodup := (List.nodup_append.1 ndxy).1
      have ndy : by'.Nodup := (List.nodup_append.1 ndxy).2.1
      have dxy : ∀ x ∈ bx, x ∉ by' := fun x hx hm => (List.nodup_append.1 ndxy).2.2 x hx x hm rfl
      have nry : (by' ++ br).Nodup := List.nodup_append.2 ⟨ndy, HD.out.2.2.2.1, fun x hx y hy e => by
        subst e
        rcases sub2 x (List.mem_append_right _ hx) with h | h
        · exact HD.out.2.2.2.2.1 x hy h
        · have := (HLT.out x (by simp [hy])).2; omega⟩
      have dxr : ∀ x ∈ bx, x ∉ by' ++ br := fun x hx hm => by
        rcases List.mem_append.1 hm with h | h
        · exact dxy x hx h
        · rcases sub2 x (List.mem_append_left _ hx) with g | g
          · exact HD.out.2.2.2.2.1 x h g
          · have := (HLT.out x (by simp [h])).2; omega
      have okS : (AT.node Y p r).ok := HOK.out.sub (by
        rw [flat_node, flat_node]
        exact List.Sublist.append_right (by rw [sf.2]; exact List.drop_sublist _ _) _)
      have ND2 := hide (And.intro ndx (And.intro nry dxr))
      have HOKS := hide okS
      clear hX hY ndxy sub2 ch2 ndx ndy dxy nry dxr IH HB1 HL1 HR1 CH1 c3 c4 sf
      go_upto_region 6 with fail
      go_region_with (go_at_call 402; refine (spliceN _ Y p r uy ur by' br base _ (by exact Nat.lt_succ_self _) (by exact sb.2) (by exact HBB.out.2) (by exact HOKS.out) (by exact HY2.out.heap rfl) (by exact HR2.out.heap rfl) (by exact ND2.out.2.1) (by show base ≤ w2.heap.size; omega)).mono ?_; intro e4 w4 hp4; have HP4 := hide (hp4.drawn (w := w2) rfl rfl rfl rfl); obtain ⟨u4, bs4, rfl, _⟩ := hp4)
      all_goals (
        go_wp2
        go_ret2
        obtain ⟨u5, bs5, e5, hT5, nd5, sub5, ch5⟩ := HP4.out
        cases e5
        rw [HREP.out]
        refine ⟨ux, u4, bx, bs5, rfl, HX2.out.chg ch5 ND2.out.2.2, hT5, List.nodup_append.2 ⟨ND2.out.1, nd5, fun x hx y hy e => ?_⟩, fun x hx => ?_, CH2.out.trans ch5 (fun _ h _ => h) (fun x hx hl => ?_)⟩
        · subst e
          rcases sub5 x hy with h | h
          · exact ND2.out.2.2 x hx h
          · have := (HX2.out.lt x hx).2; omega
        · rcases List.mem_append.1 hx with h | h
          · rcases SB2.out x (List.mem_append_left _ h) with g | g
            · exact .inl (by simp [g])
            · exact .inr (by omega)
          · rcases sub5 x h with g | g
            · rcases List.mem_append.1 g with g | g
              · rcases SB2.out x (List.mem_append_right _ g) with q | q
                · exact .inl (by simp [q])
                · exact .inr (by omega)
              · exact .inl (by simp [g])
            · exact .inr (by omega)
        · rcases List.mem_append.1 hx with g | g
          · rcases SB2.out x (List.mem_append_right _ g) with q | q
            · simp [q]
            · omega
          · simp [g])
    · have hk1' : ¬ (k : Int) ≤ l.its := by omega
      have HREP : Hid (res = (AT.spl l p (r.split (k - l.its - 1)).1, (r.split (k - l.its - 1)).2)) := by
        rw [← HRES.out, AT.split_gt _ _ _ _ hk1]; exact rfl
      have sb := AT.split_bal r (k - l.its - 1) HBB.out.2
      have sf := AT.split_flat r (k - l.its - 1) (by omega)
      have IH := hide (IHR.out (k - l.its - 1) ur br base w1 HBB.out.2 HOK.out.right (by omega) HR1.out HD.out.2.2.2.1 (by omega))
      have ecast : ((k - l.its - 1 : Nat) : Int) = (k : Int) - l.its - 1 := by omega
      rw [ecast] at IH
      clear HRES ecast
      generalize (r.split (k - l.its - 1)).1 = X at *
      generalize (r.split (k - l.its - 1)).2 = Y at *
      go_wp2_with fail
      refine IH.out.mono ?_
      rintro e w2 ⟨ux, uy, bx, by', rfl, hX, hY, ndxy, sub2, ch2⟩
      have s2 := ch2.size
      have HB2 := hide (HB1.out.chg ch2 HD.out.2.1)
      have HL2 := hide (HL1.out.chg ch2 HD.out.2.2.2.2.2)
      have c0 := HB2.out.c0
      have c1 := HB2.out.c1
      have c2 := HB2.out.c2
      have d3 := HB2.out.c3
      have lb2 := HB2.out.lt
      have CH2 := hide (CH1.out.trans ch2 (fun _ h _ => h) (fun x h _ => by simp [h]) (ds := b :: (bl ++ br)))
      have HX2 := hide hX
      have HY2 := hide hY
      have SB2 := hide sub2
      have ndx : bx.Nodup := (List.nodup_append.1 ndxy).1
      have ndy : by'.Nodup := (List.nodup_append.1 ndxy).2.1
      have dxy : ∀ x ∈ bx, x ∉ by' := fun x hx hm => (List.nodup_append.1 ndxy).2.2 x hx x hm rfl
      have nlx : (bl ++ bx).Nodup := List.nodup_append.2 ⟨HD.out.2.2.1, ndx, fun x hx y hy e => by
        subst e
        rcases sub2 x (List.mem_append_left _ hy) with h | h
        · exact HD.out.2.2.2.2.2 x hx h
        · have := (HLT.out x (by simp [hx])).2; omega⟩
      have dyl : ∀ x ∈ by', x ∉ bl ++ bx := fun x hx hm => by
        rcases List.mem_append.1 hm with h | h
        · rcases sub2 x (List.mem_append_right _ hx) with g | g
          · exact HD.out.2.2.2.2.2 x h g
          · have := (HLT.out x (by simp [h])).2; omega
        · exact dxy x h hx
      have okS : (AT.node l p X).ok := HOK.out.sub (by
        rw [flat_node, flat_node]
        exact List.Sublist.append_left (List.Sublist.cons_cons p (by rw [sf.1]; exact List.take_sublist _ _)) _)
      have ND2 := hide (And.intro ndy (And.intro nlx dyl))
      have HOKS := hide okS
      clear hX hY ndxy sub2 ch2 ndx ndy dxy nlx dyl IH HB1 HL1 HR1 CH1 c3 c4 sf
      go_upto_region 8 with fail
      go_region_with (go_at_call 402; refine (spliceN _ l p X ul ux bl bx base _ (by exact Nat.lt_succ_self _) (by exact HBB.out.1) (by exact sb.1) (by exact HOKS.out) (by exact HL2.out.heap rfl) (by exact HX2.out.heap rfl) (by exact ND2.out.2.1) (by show base ≤ w2.heap.size; omega)).mono ?_; intro e4 w4 hp4; have HP4 := hide (hp4.drawn (w := w2) rfl rfl rfl rfl); obtain ⟨u4, bs4, rfl, _⟩ := hp4)
      all_goals (
        go_wp2
        go_ret2
        obtain ⟨u5, bs5, e5, hT5, nd5, sub5, ch5⟩ := HP4.out
        cases e5
        rw [HREP.out]
        refine ⟨u4, uy, bs5, by', rfl, hT5, HY2.out.chg ch5 ND2.out.2.2, List.nodup_append.2 ⟨nd5, ND2.out.1, fun x hx y hy e => ?_⟩, fun x hx => ?_, CH2.out.trans ch5 (fun _ h _ => h) (fun x hx hl => ?_)⟩
        · subst e
          rcases sub5 x hx with h | h
          · exact ND2.out.2.2 x hy h
          · have := (HY2.out.lt x hy).2; omega
        · rcases List.mem_append.1 hx with h | h
          · rcases sub5 x h with g | g
            · rcases List.mem_append.1 g with g | g
              · exact .inl (by simp [g])
              · rcases SB2.out x (List.mem_append_left _ g) with q | q
                · exact .inl (by simp [q])
                · exact .inr (by omega)
            · exact .inr (by omega)
          · rcases SB2.out x (List.mem_append_right _ h) with g | g
            · exact .inl (by simp [g])
            · exact .inr (by omega)
        · rcases List.mem_append.1 hx with g | g
          · simp [g]
          · rcases SB2.out x (List.mem_append_left _ g) with q | q
            · simp [q]
            · omega)
end Go.Proofs.YtbgngikejgihgagGreatDoor

namespace Go.Proofs.YtbgngikejgihgagGreatDoor
open Go Go.RowKit
set_option linter.unusedVariables false

set_option maxHeartbeats 4000000 in
set_option maxRecDepth 100000 in
theorem joinN (A B : AT) (ua ub : Option Addr) (ba bb : List Nat) (base : Nat) (w : World) (hbA : A.bal) (hbB : B.bal) (hokA : A.ok) (hokB : B.ok) (hsum : A.rns + B.rns ≤ 8192) (hA : Lies w base A ua ba) (hB : Lies w base B ub bb) (hnd : (ba ++ bb).Nodup) (hbase : base ≤ w.heap.size) :
    Calls Tryz.prog 395 #[.pointer ua, .pointer ub] w (MutPost base (AT.join A B) (ba ++ bb) w) := by
  generalize hres : AT.join A B = res
  cases A with
  | nil =>
    obtain ⟨rfl, rfl⟩ := hA
    have HREP := hide (show res = B from hres.symm)
    have HB := hide hB
    have HND := hide hnd
    clear hB hnd hres
    go_enter Tryz.func395, Tryz.ntmps395
    go_wp2_with fail
    go_ret
    rw [HREP.out]
    exact ⟨ub, bb, rfl, HB.out, by simpa using HND.out, fun x hx => .inl (by simpa using hx), Chg.refl _ _⟩
  | node la pa ra =>
    have HA := hide hA
    obtain ⟨a, u1, u2, b1, b2, rfl, _⟩ := hA
    cases B with
    | nil =>
      obtain ⟨rfl, rfl⟩ := hB
      have HREP := hide (show res = AT.node la pa ra from hres.symm)
      have HND := hide hnd
      clear hnd hres
      go_enter Tryz.func395, Tryz.ntmps395
      go_wp2_with fail
      go_ret
      rw [HREP.out]
      exact ⟨_, ba, rfl, HA.out, by simpa using HND.out, fun x hx => .inl (by simpa using hx), Chg.refl _ _⟩
    | node lb pb rb =>
      have HB := hide hB
      obtain ⟨b, v1, v2, c1, c2, rfl, _⟩ := hB
      have hr0 : 0 < (AT.node lb pb rb).its := by simp only [AT.its]; omega
      have HREP := hide (show res = AT.spl (AT.node la pa ra) (AT.node lb pb rb).first ((AT.node lb pb rb).rem 0) from hres.symm)
      obtain ⟨ft, hft⟩ := AT.first_flat (AT.node lb pb rb) (by simp)
      have rbal := AT.rem_bal (AT.node lb pb rb) 0 hbB hr0
      have hrf : ((AT.node lb pb rb).rem 0).flat = ft := by rw [AT.rem_flat _ 0 hr0, hft]; simp
      have HOK := hide (show (AT.node (AT.node la pa ra) (AT.node lb pb rb).first ((AT.node lb pb rb).rem 0)).ok from by
        refine ⟨fun p hp => ?_, ?_⟩
        · rw [flat_node, hrf, ← hft, List.mem_append] at hp
          rcases hp with hp | hp
          · exact hokA.1 p hp
          · exact hokB.1 p hp
        · have e : (AT.node (AT.node la pa ra) (AT.node lb pb rb).first ((AT.node lb pb rb).rem 0)).flat = (AT.node la pa ra).flat ++ (AT.node lb pb rb).flat := by rw [flat_node, hrf, ← hft]
          rw [AT.rns_of_flat, e, List.map_append, List.sum_append, ← AT.rns_of_flat, ← AT.rns_of_flat]; exact hsum)
      have HKF := hide (firstN (AT.node lb pb rb) _ bb base w HB.out (by simp))
      have nda : ba.Nodup := (List.nodup_append.1 hnd).1
      have ndb : bb.Nodup := (List.nodup_append.1 hnd).2.1
      have dab : ∀ x ∈ ba, x ∉ bb := fun x hx hm => (List.nodup_append.1 hnd).2.2 x hx x hm rfl
      have HD := hide (And.intro nda (And.intro ndb dab))
      have HBAL := hide (And.intro hbA (And.intro hbB rbal.1))
      have HOKB := hide hokB
      generalize (AT.node lb pb rb).first = F at *
      clear hnd hres nda ndb dab hbA hbB rbal hokA hokB hft hrf
      go_enter Tryz.func395, Tryz.ntmps395
      go_wp2_with fail
      refine HKF.out.mono ?_
      rintro e w1 ⟨rfl, hb1⟩
      have s1 := hb1.size
      have HBA := hide (hb1.alloc s1 (.cells #[.int .i64 F.off, .int .i64 F.len, .int .i64 F.brk] 143))
      have hk : (w1.alloc (.cells #[.int .i64 F.off, .int .i64 F.len, .int .i64 F.brk] 143)).heap[w1.heap.size]? = some (.cells #[.int .i64 F.off, .int .i64 F.len, .int .i64 F.brk] 143 (0, 0)) := heap_alloc_new _ _
      have hs2 : (w1.alloc (.cells #[.int .i64 F.off, .int .i64 F.len, .int .i64 F.brk] 143)).heap.size = w1.heap.size + 1 := by simp
      clear hb1 HKF
      unfold pcV
      go_upto_region 6 with fail
      generalize w1.alloc (.cells #[.int .i64 F.off, .int .i64 F.len, .int .i64 F.brk] 143) = w2 at *
      have HA2 := hide (HA.out.below HBA.out (Nat.le_refl _))
      have HB2 := hide (HB.out.below HBA.out (Nat.le_refl _))
      have k0 : w2.cell? ⟨w1.heap.size, 0, none⟩ = some (.int .i64 F.off) := by rw [cell_of_row w2 _ 0 _ _ _ hk]; rfl
      have k1 : w2.cell? ⟨w1.heap.size, 1, none⟩ = some (.int .i64 F.len) := by rw [cell_of_row w2 _ 1 _ _ _ hk]; rfl
      have k2 : w2.cell? ⟨w1.heap.size, 2, none⟩ = some (.int .i64 F.brk) := by rw [cell_of_row w2 _ 2 _ _ _ hk]; rfl
      have lk : w1.heap.size < w2.heap.size := by omega
      have HLA := hide (fun x hx => (HA.out.lt x hx).2)
      have HLB := hide (fun x hx => (HB.out.lt x hx).2)
      have HK2 := hide hk
      have R1 := hide (fun (W : World) (eW : W.heap = w2.heap) => removeN (AT.node lb pb rb) 0 _ bb base W HBAL.out.2.1 HOKB.out hr0 (HB2.out.heap eW) HD.out.2.1)
      simp only [Int.natCast_zero] at R1
      have CH2 := hide (Chg.of_below (bs := ba ++ bb) HBA.out)
      clear hk HA HB HBA
      go_region_with (first
        | (go_at_call 404; refine (R1.out _ (by exact rfl)).mono ?_; intro e3 w3 hp3; obtain ⟨u3, bs3, rfl, hT3, nd3, sub3, ch3⟩ := hp3.drawn (w := w2) rfl rfl rfl rfl; have s3 := ch3.size; have HA3 := hide (HA2.out.chg ch3 HD.out.2.2); have HT3 := hide hT3; have ND3 := hide (show (ba ++ bs3).Nodup from (List.nodup_append.2 ⟨HD.out.1, nd3, fun x hx y hy e => (by subst e; rcases sub3 x hy with h | h; exact HD.out.2.2 x hx h; have := HLA.out x hx; omega)⟩)); have SB3 := hide sub3; have CH3 := hide (CH2.out.trans ch3 (fun _ h _ => h) (fun x h _ => (by simp [h])) (ds := ba ++ bb)); have nk : w1.heap.size ∉ bb := (fun hm => (by have := HLB.out _ hm; omega)); have hk3 := (ch3.block w1.heap.size lk nk).trans HK2.out; have m0 : w3.cell? ⟨w1.heap.size, 0, none⟩ = some (.int .i64 F.off) := (by rw [cell_of_row w3 _ 0 _ _ _ hk3]; rfl); have m1 : w3.cell? ⟨w1.heap.size, 1, none⟩ = some (.int .i64 F.len) := (by rw [cell_of_row w3 _ 1 _ _ _ hk3]; rfl); have m2 : w3.cell? ⟨w1.heap.size, 2, none⟩ = some (.int .i64 F.brk) := (by rw [cell_of_row w3 _ 2 _ _ _ hk3]; rfl); have lk3 : w1.heap.size < w3.heap.size := (by omega); clear hp3 hT3 nd3 sub3 ch3 nk hk3)
        | (go_at_call 402; refine (spliceN _ (AT.node la pa ra) F ((AT.node lb pb rb).rem 0) _ u3 ba bs3 base _ (by exact Nat.lt_succ_self _) (by exact HBAL.out.1) (by exact HBAL.out.2.2) (by exact HOK.out) (by exact HA3.out.heap rfl) (by exact HT3.out.heap rfl) (by exact ND3.out) (by show base ≤ w3.heap.size; omega)).mono ?_; intro e4 w4 hp4; have HP4 := hide (hp4.drawn (w := w3) rfl rfl rfl rfl); obtain ⟨u4, bs4, rfl, _⟩ := hp4))
      all_goals (
        go_wp2
        go_ret
        obtain ⟨u5, bs5, e5, hT5, nd5, sub5, ch5⟩ := HP4.out
        rw [HREP.out]
        refine ⟨u5, bs5, e5, hT5, nd5, fun x hx => ?_, CH3.out.trans ch5 (fun _ h _ => h) (fun x hx hl => ?_)⟩
        · rcases sub5 x hx with h | h
          · rcases List.mem_append.1 h with h | h
            · exact .inl (List.mem_append_left _ h)
            · rcases SB3.out x h with h | h
              · exact .inl (List.mem_append_right _ h)
              · exact .inr (by omega)
          · exact .inr (by omega)
        · rcases List.mem_append.1 hx with h | h
          · exact List.mem_append_left _ h
          · rcases SB3.out x h with h | h
            · exact List.mem_append_right _ h
            · omega)
end Go.Proofs.YtbgngikejgihgagGreatDoor

namespace Go.Proofs.YtbgngikejgihgagGreatDoor
open Go Go.RowKit Go.Shelf Go.Sort
set_option linter.unusedVariables false

theorem chgT {c : Nat} {bs ds : List Nat} {w w1 w2 : World} (C : Chg (c :: bs) w w1) (D : Chg ds w1 w2) (SD : ∀ x ∈ ds, x ∈ bs ∨ w.heap.size ≤ x) : Chg (c :: bs) w w2 :=
  C.trans D (fun _ h9 _ => h9) (fun x h9 h8 => by
    rcases SD x h9 with h7 | h7
    · exact List.mem_cons_of_mem _ h7
    · omega)
theorem notIn {x m : Nat} {bs ds : List Nat} (SD : ∀ y ∈ ds, y ∈ bs ∨ m ≤ y) (hx : x ∉ bs) (hl : x < m) : x ∉ ds := fun h9 => by
  rcases SD x h9 with h8 | h8
  · exact hx h8
  · omega
theorem nodup_apR {A B C : List Nat} {m : Nat} (h : (A ++ B).Nodup) (hA : ∀ x ∈ A, x < m) (hC : C.Nodup) (hs : ∀ x ∈ C, x ∈ B ∨ m ≤ x) : (A ++ C).Nodup := by
  rw [List.nodup_append] at h ⊢
  refine ⟨h.1, hC, fun x hx y hy e => ?_⟩
  subst e
  rcases hs x hy with h9 | h9
  · exact h.2.2 x hx x h9 rfl
  · have := hA x hx; omega

set_option maxHeartbeats 4000000 in
set_option maxRecDepth 100000 in
theorem removeC (S : List Int) (T : AT) (u : Option Addr) (bs : List Nat) (base c b o cap m ct : Nat) (ao : Option Addr) (off : Int) (w : World) (h : PM w base c b o cap S T u bs) (hok : T.ok) (hbal : T.bal) (hw : T.wp S) (h0 : 0 ≤ off) (h1 : off + m ≤ T.rns) (hbase : base ≤ w.heap.size) :
    Calls Tryz.prog 381 #[.pointer (some ⟨c, 0, none⟩), .int .i64 off, .slice ao m ct] w fun e w' => e = .returned (.tuple #[]) ∧ CorePM w base c b o cap S (delP S T off (off + m)) bs w' := by
  have bT := hok.bd
  have HF := hide (delF hok hbal hw h.n h0 (show off ≤ off + m by omega) h1)
  have HC1 := hide (cutI S T u bs base c b o cap off w h hok hbal hw h0 (by omega) hbase)
  have HC2 := hide (fun W u1 bs1 (hp : PM W base c b o cap S (cutP S T off) u1 bs1) hb => cutI S (cutP S T off) u1 bs1 base c b o cap (off + m) W hp HF.out.ok1 HF.out.bal1 HF.out.wp1 (by omega) (by rw [HF.out.rn1]; exact h1) hb)
  have HS1 := hide (fun W u2 bs2 (hl : Lies W base (dl2 S T off (off + m)) u2 bs2) hnd hb => splitN (dl2 S T off (off + m)) (cutN T off) u2 bs2 base W HF.out.bal2 HF.out.ok2 HF.out.a2 hl hnd hb)
  have az := HF.out.az
  have hzc : (((dlZ S T off (off + m) - cutN T off : Nat)) : Int) = (dlZ S T off (off + m) : Int) - (cutN T off : Int) := by omega
  have HS2 := hide (fun W u2 bs2 (hl : Lies W base (dlY S T off (off + m)) u2 bs2) hnd hb => splitN (dlY S T off (off + m)) (dlZ S T off (off + m) - cutN T off) u2 bs2 base W HF.out.balY HF.out.okY (by rw [HF.out.yits]; have := HF.out.z2; omega) hl hnd hb)
  rw [hzc] at HS2
  have HJ := hide (fun W ux uw bx bw (hx : Lies W base (dlX S T off (off + m)) ux bx) (hl : Lies W base (dlW S T off (off + m)) uw bw) hnd hb => joinN (dlX S T off (off + m)) (dlW S T off (off + m)) ux uw bx bw base W HF.out.balX HF.out.balW HF.out.okX HF.out.okW HF.out.sum hx hl hnd hb)
  have HH := hide (fun W u5 bs5 (hp : PM W base c b o cap S (dlJ S T off (off + m)) u5 bs5) => healN S (dlJ S T off (off + m)) u5 bs5 base c b o cap (cutN T off) W hp HF.out.okJ HF.out.balJ HF.out.wpJ (by have h9 := HF.out.a2; have h8 := HF.out.ok2.bd; omega))
  have ha2 : cutN T off ≤ 8192 := by have h9 := HF.out.a2; have h8 := HF.out.ok2.bd; omega
  have hz2 : dlZ S T off (off + m) ≤ 8192 := by have h9 := HF.out.z2; have h8 := HF.out.ok2.bd; omega
  have wm : IntKind.i64.wrap (off + (m : Int)) = off + (m : Int) := i64w _ (by omega) (by omega)
  have wz : IntKind.i64.wrap ((dlZ S T off (off + m) : Int) - (cutN T off : Int)) = (dlZ S T off (off + m) : Int) - (cutN T off : Int) := i64w _ (by omega) (by omega)
  have hcb := h.cb
  have hbb := h.bb
  have hbc := h.bc
  have hcl := h.k.lt
  have hbl := h.lb
  have HN := hide (And.intro h.cap1 (And.intro h.cap2 h.n))
  have HRES := hide (show healP S (dlJ S T off (off + m)) (cutN T off) = delP S T off (off + m) from rfl)
  rw [HRES.out] at HH
  unfold SplitPost at HS1 HS2
  rw [show ((dl2 S T off (off + m)).split (cutN T off)).1 = dlX S T off (off + m) from rfl, show ((dl2 S T off (off + m)).split (cutN T off)).2 = dlY S T off (off + m) from rfl] at HS1
  rw [show ((dlY S T off (off + m)).split (dlZ S T off (off + m) - cutN T off)).2 = dlW S T off (off + m) from rfl] at HS2
  rw [show AT.join (dlX S T off (off + m)) (dlW S T off (off + m)) = dlJ S T off (off + m) from rfl] at HJ
  have HZD := hide (show dlZ S T off (off + m) = cutN (cutP S T off) (off + m) from rfl)
  rw [← HZD.out, show cutP S (cutP S T off) (off + m) = dl2 S T off (off + m) from rfl] at HC2
  generalize ((dlY S T off (off + m)).split (dlZ S T off (off + m) - cutN T off)).1 = TU at *
  clear HZD HRES
  generalize delP S T off (off + m) = RES at *
  generalize dlJ S T off (off + m) = TJ at *
  generalize dlW S T off (off + m) = TW' at *
  generalize dlX S T off (off + m) = TX at *
  generalize dlY S T off (off + m) = TY at *
  generalize dlZ S T off (off + m) = z at *
  generalize dl2 S T off (off + m) = T2' at *
  generalize cutN T off = a at *
  generalize cutP S T off = T1 at *
  clear h hok hbal hw HF hzc bT
  go_enter Tryz.func381, Tryz.ntmps381
  go_wp2_with fail
  refine HC1.out.mono ?_
  rintro e w1 ⟨rfl, u1, bs1, hp1, sb1, hc1⟩
  have C1 := hide hc1
  have SB1 := hide sb1
  have s1 := hc1.size
  have X2 := hide (HC2.out w1 u1 bs1 hp1 (by omega))
  clear hp1 sb1 hc1 HC1 HC2
  go_wp2_with fail
  refine X2.out.mono ?_
  rintro e w2 ⟨rfl, u2, bs2, hp2, sb2, hc2⟩
  have s2 := hc2.size
  have SB2 := hide (show ∀ x ∈ bs2, x ∈ bs ∨ w.heap.size ≤ x from fun x hx => (sb2 x hx).elim (SB1.out x) (fun h9 => .inr (by omega)))
  have C2 := hide (show Chg (c :: bs) w w2 from C1.out.trans hc2 (fun _ h9 _ => h9) (fun x h9 h8 => by
    rcases List.mem_cons.1 h9 with h7 | h7
    · rw [h7]; exact List.mem_cons_self
    · rcases SB1.out x h7 with h6 | h6
      · exact List.mem_cons_of_mem _ h6
      · omega))
  have c1 := hp2.k.c1
  have K2 := hide hp2.k
  have R2 := hide hp2.rt
  have X3 := hide (HS1.out w2 u2 bs2 hp2.t hp2.nd (by omega))
  clear hp2 sb2 hc2 X2 HS1 C1 SB1
  go_wp2_with fail
  refine X3.out.mono ?_
  rintro e w3 ⟨ux, uy, bx, by', rfl, hx3, hy3, hnd3, sb3, hc3⟩
  have s3 := hc3.size
  have SB3 := hide (show ∀ x ∈ bx ++ by', x ∈ bs ∨ w.heap.size ≤ x from fun x hx => (sb3 x hx).elim (SB2.out x) (fun h9 => .inr (by omega)))
  have C3 := hide (chgT C2.out hc3 SB2.out)
  have K3 := hide (K2.out.chg hc3 (notIn SB2.out hcb hcl))
  have R3 := hide (R2.out.chg hc3 (by omega) (notIn SB2.out hbb hbl))
  have LX3 := hide hx3
  have ND3 := hide hnd3
  have X4 := hide (HS2.out w3 uy by' hy3 (List.nodup_append.1 hnd3).2.1 (by omega))
  clear hx3 hy3 hnd3 sb3 hc3 c1 X3 HS2 C2 K2 R2
  go_wp2_with fail
  refine X4.out.mono ?_
  rintro e w4 ⟨uu, uw, bu, bw, rfl, hu4, hw4, hnd4, sb4, hc4⟩
  have s4 := hc4.size
  have SBY := hide (show ∀ x ∈ by', x ∈ bs ∨ w.heap.size ≤ x from fun x hx => SB3.out x (List.mem_append_right _ hx))
  have SBW := hide (show ∀ x ∈ bw, x ∈ by' ∨ w3.heap.size ≤ x from fun x hx => sb4 x (List.mem_append_right _ hx))
  have NDJ := hide (nodup_apR ND3.out (fun x hx => (LX3.out.lt x hx).2) (List.nodup_append.1 hnd4).2.1 SBW.out)
  have SBJ := hide (show ∀ x ∈ bx ++ bw, x ∈ bs ∨ w.heap.size ≤ x from fun x hx => by
    rcases List.mem_append.1 hx with h9 | h9
    · exact SB3.out x (List.mem_append_left _ h9)
    · rcases SBW.out x h9 with h8 | h8
      · exact SBY.out x h8
      · exact .inr (by omega))
  have C4 := hide (chgT C3.out hc4 SBY.out)
  have K4 := hide (K3.out.chg hc4 (notIn SBY.out hcb hcl))
  have R4 := hide (R3.out.chg hc4 (by omega) (notIn SBY.out hbb hbl))
  have LX4 := hide (LX3.out.chg hc4 (fun x hx h9 => (List.nodup_append.1 ND3.out).2.2 x hx x h9 rfl))
  have X5 := hide (HJ.out w4 ux uw bx bw LX4.out hw4 NDJ.out (by omega))
  clear hu4 hw4 hnd4 sb4 hc4 X4 HJ C3 K3 R3 LX3 LX4 ND3 SB3 SBW
  go_wp2_with fail
  refine X5.out.mono ?_
  rintro e w5 ⟨u5, bs5, rfl, hl5, nd5, sb5, hc5⟩
  have s5 := hc5.size
  have SB5 := hide (show ∀ x ∈ bs5, x ∈ bs ∨ w.heap.size ≤ x from fun x hx => (sb5 x hx).elim (SBJ.out x) (fun h9 => .inr (by omega)))
  have C5 := hide (chgT C4.out hc5 SBJ.out)
  have K5 := hide (K4.out.chg hc5 (notIn SBJ.out hcb hcl))
  have R5 := hide (R4.out.chg hc5 (by omega) (notIn SBJ.out hbb hbl))
  have ncb := notIn SB5.out hcb hcl
  have d1 := K5.out.c1
  have z1 := K5.out.fz 1
  have P6 := hide (show PM (w5.setCell ⟨c, 1, none⟩ (.pointer u5)) base c b o cap S TJ u5 bs5 from
    ⟨K5.out.set1 u5, hl5.other ⟨c, 1, none⟩ (.pointer u5) ncb, nd5, ncb, notIn SB5.out hbb hbl, hbc, fun i hi => by rw [← R5.out i hi]; unfold World.cell?; rw [heap_setCell_other w5 ⟨c, 1, none⟩ b _ hbc], Nat.lt_of_lt_of_le (show b < w5.heap.size by omega) (Nat.le_of_eq (by simp)), HN.out.1, HN.out.2.1, HN.out.2.2⟩)
  have C6 := hide (C5.out.setCell ⟨c, 1, none⟩ (.pointer u5) (.inl (by simp)))
  have X6 := hide (HH.out _ _ _ P6.out)
  clear hl5 nd5 sb5 hc5 X5 HH C4 K4 R4 C5 K5 R5 NDJ SBJ SBY
  go_wp2_with fail
  generalize w5.setCell ⟨c, 1, none⟩ (.pointer u5) = w6 at *
  refine X6.out.mono ?_
  rintro e w7 ⟨rfl, u7, bs7, hp7, sb7, hc7⟩
  have s6 := C6.out.size
  have P7 := hide hp7
  have SB7 := hide (show ∀ x ∈ bs7, x ∈ bs ∨ w.heap.size ≤ x from fun x hx => (sb7 x hx).elim (SB5.out x) (fun h9 => .inr (by omega)))
  have C7 := hide (show Chg (c :: bs) w w7 from C6.out.trans hc7 (fun _ h9 _ => h9) (fun x h9 h8 => by
    rcases List.mem_cons.1 h9 with h7 | h7
    · rw [h7]; exact List.mem_cons_self
    · rcases SB5.out x h7 with h6 | h6
      · exact List.mem_cons_of_mem _ h6
      · omega))
  clear hp7 sb7 hc7 X6
  go_wp2
  refine bodyPost_end (v := .tuple #[]) (by simp [results, Tryz.results381]) rfl ⟨rfl, u7, bs7, P7.out, SB7.out, C7.out⟩
end Go.Proofs.YtbgngikejgihgagGreatDoor

namespace Go.Proofs.YtbgngikejgihgagGreatDoor
open Go Go.RowKit
set_option linter.unusedVariables false

/-- What stands from a on to before b, the numbers cut to what is there. -/
def cutT (U : List Int) (a b : Int) : List Int := (U.drop a.toNat).take (b.toNat - a.toNat)
theorem cutT_append (A B : List Int) (a b : Int) (h : a ≤ b) : cutT (A ++ B) a b = cutT A a b ++ cutT B (a - A.length) (b - A.length) := by
  unfold cutT
  rw [List.drop_append, List.take_append, List.length_drop]
  congr 1
  rw [show (a - (A.length : Int)).toNat = a.toNat - A.length by omega]
  congr 1
  omega
theorem cutT_low (U : List Int) (a b : Int) (h : b ≤ 0) : cutT U a b = [] := by
  unfold cutT; rw [show b.toNat - a.toNat = 0 by omega, List.take_zero]
theorem cutT_high (U : List Int) (a b : Int) (h : (U.length : Int) ≤ a) : cutT U a b = [] := by
  unfold cutT; rw [List.drop_of_length_le (by omega), List.take_nil]
theorem cutT_len (U : List Int) (a b : Int) (h : 0 ≤ a) (h1 : a ≤ b) (h2 : b ≤ U.length) : ((cutT U a b).length : Int) = b - a := by
  unfold cutT; rw [List.length_take, List.length_drop]; omega

/-- What a walk across meets: offset and piece. -/
def acr (lo hi : Int) : AT → Int → List (Int × Pc)
  | .nil, _ => []
  | .node l p r, s => if hi ≤ s ∨ s + (AT.node l p r).rns ≤ lo then [] else
    acr lo hi l s ++ ((if s + l.rns < hi ∧ lo < s + l.rns + p.len then [(s + l.rns, p)] else []) ++ acr lo hi r (s + l.rns + p.len))
def txA (zs : List Int) (lo hi : Int) : List (Int × Pc) → List Int
  | [] => []
  | y :: ys => cutT (ptx zs y.2) (lo - y.1) (hi - y.1) ++ txA zs lo hi ys
theorem txA_append (zs : List Int) (lo hi : Int) (a b : List (Int × Pc)) : txA zs lo hi (a ++ b) = txA zs lo hi a ++ txA zs lo hi b := by
  induction a with
  | nil => rfl
  | cons x a ih => simp [txA, ih]
theorem acr_tx (zs : List Int) (lo hi : Int) (hlh : lo ≤ hi) : ∀ (T : AT) (s : Int), T.wp zs → txA zs lo hi (acr lo hi T s) = cutT (T.tx zs) (lo - s) (hi - s)
  | .nil, s, _ => by simp [acr, txA, cutT, AT.tx]
  | .node l p r, s, hw => by
    have hw' := hw
    obtain ⟨hl, hp, hr⟩ := hw
    have el := AT.tx_len hl
    have ep := ptx_len hp
    have ea := AT.tx_len hw'
    unfold acr
    split
    · rename_i hc
      rcases hc with hc | hc
      · rw [cutT_low _ _ _ (by omega)]; rfl
      · rw [cutT_high _ _ _ (by omega)]; rfl
    · simp only [AT.tx]
      rw [txA_append, txA_append, acr_tx zs lo hi hlh l s hl, acr_tx zs lo hi hlh r _ hr, cutT_append _ _ _ _ (by omega), cutT_append _ _ _ _ (by omega), el, ep]
      congr 1
      rw [show lo - s - l.rns - p.len = lo - (s + l.rns + p.len) by omega, show hi - s - l.rns - p.len = hi - (s + l.rns + p.len) by omega]
      congr 1
      split
      · simp only [txA, List.append_nil]
        rw [show lo - s - l.rns = lo - (s + l.rns) by omega, show hi - s - l.rns = hi - (s + l.rns) by omega]
      · rename_i hn
        by_cases h1 : s + l.rns < hi
        · rw [cutT_high _ _ _ (by omega)]; rfl
        · rw [cutT_low _ _ _ (by omega)]; rfl
def AT.pos : AT → Prop
  | .nil => True
  | .node l p r => l.pos ∧ 1 ≤ p.len ∧ r.pos
/-- What is met is a piece of the store that holds some of it. -/
def AcQ (zs : List Int) (lo hi : Int) (y : Int × Pc) : Prop := WP zs y.2 ∧ 0 ≤ y.1 ∧ y.1 ≤ 8192 ∧ y.1 < hi ∧ lo < y.1 + y.2.len ∧ y.2.len ≤ 8192 ∧ 1 ≤ y.2.len
theorem acr_q (zs : List Int) (lo hi : Int) : ∀ (T : AT) (s : Int), T.wp zs → T.pos → 0 ≤ s → s + T.rns ≤ 8192 → ∀ y ∈ acr lo hi T s, AcQ zs lo hi y
  | .nil, s, _, _, _, _ => by simp [acr]
  | .node l p r, s, hw, hps, h0, h1 => by
    obtain ⟨hl, hp, hr⟩ := hw
    obtain ⟨pl, pp, pr⟩ := hps
    have el := AT.tx_len hl
    have er := AT.tx_len hr
    have hp2 := hp.2.1
    simp only [AT.rns] at h1
    intro y hy
    unfold acr at hy
    split at hy
    · cases hy
    · rcases List.mem_append.1 hy with hy | hy
      · exact acr_q zs lo hi l s hl pl h0 (by omega) y hy
      · rcases List.mem_append.1 hy with hy | hy
        · split at hy
          · rename_i hc
            obtain rfl : y = (s + l.rns, p) := by simpa using hy
            exact ⟨hp, by simp only; omega, by simp only; omega, hc.1, hc.2, by simp only; omega, pp⟩
          · cases hy
        · exact acr_q zs lo hi r _ hr pr (by omega) (by omega) y hy
theorem acr_len (lo hi : Int) : ∀ (T : AT) (s : Int), (acr lo hi T s).length ≤ T.its
  | .nil, _ => by simp [acr]
  | .node l p r, s => by
    have h1 := acr_len lo hi l s
    have h2 := acr_len lo hi r (s + l.rns + p.len)
    unfold acr
    simp only [AT.its]
    split
    · simp
    · split
      · simp only [List.length_append, List.length_cons, List.length_nil]; omega
      · simp only [List.length_append, List.length_nil]; omega
end Go.Proofs.YtbgngikejgihgagGreatDoor
