import Derived.Test.YtbgngikejgihgafDoorTSpl
namespace Go.Proofs.YtbgngikejgihgafDoor
open Go Go.RowKit
set_option linter.unusedVariables false

/-- What split answers. -/
def SplitPost (base : Nat) (X Y : AT) (bs : List Nat) (w : World) (e : Ending) (w' : World) : Prop :=
  ∃ ux uy bx by', e = .returned (.tuple #[.pointer ux, .pointer uy]) ∧ Lies w' base X ux bx ∧ Lies w' base Y uy by' ∧ (bx ++ by').Nodup ∧ (∀ x ∈ bx ++ by', x ∈ bs ∨ w.heap.size ≤ x) ∧ Chg bs w w'

theorem AT.split_le (l : AT) (p : Pc) (r : AT) (k : Nat) (h : k ≤ l.its) : AT.split (.node l p r) k = ((l.split k).1, AT.spl (l.split k).2 p r) := by
  rw [AT.split, if_pos h]
theorem AT.split_gt (l : AT) (p : Pc) (r : AT) (k : Nat) (h : ¬ k ≤ l.its) : AT.split (.node l p r) k = (AT.spl l p (r.split (k - l.its - 1)).1, (r.split (k - l.its - 1)).2) := by
  rw [AT.split, if_neg h]

set_option maxHeartbeats 4000000 in
set_option maxRecDepth 100000 in
theorem splitN : ∀ (T : AT) (k : Nat) (u : Option Addr) (bs : List Nat) (base : Nat) (w : World), T.bal → T.ok → k ≤ T.its → Lies w base T u bs → bs.Nodup → base ≤ w.heap.size →
    Calls Tryd.prog 80 #[.pointer u, .int .i64 k] w (SplitPost base (T.split k).1 (T.split k).2 bs w) := by
  intro T
  induction T with
  | nil =>
    intro k u bs base w _ _ hk hT hnd hbase
    obtain ⟨rfl, rfl⟩ := hT
    go_enter Tryd.func80, Tryd.ntmps80
    go_wp2_with fail
    go_ret2
    exact ⟨none, none, [], [], rfl, ⟨rfl, rfl⟩, ⟨rfl, rfl⟩, by simp, by simp, Chg.refl _ _⟩
  | node l p r ihl ihr =>
    intro k u bs base w hbal hok hk hT hnd hbase
    have hTlt := hT.lt
    obtain ⟨b, ul, ur, bl, br, rfl, hbb, hb, hL, hR, rfl⟩ := hT
    obtain ⟨bl_, br_, ht1, ht2⟩ := AT.bal_hts hbal
    have hnd' := hnd
    simp only [List.nodup_cons, List.nodup_append, List.mem_append, not_or] at hnd'
    obtain ⟨⟨nbl, nbr⟩, ndl, ndr, ndlr⟩ := hnd'
    have dlr : ∀ x ∈ br, x ∉ bl := fun x hx hm => ndlr x hm x hx rfl
    have drl : ∀ x ∈ bl, x ∉ br := fun x hx hm => ndlr x hx x hm rfl
    have bT := hok.bd
    have hits : (AT.node l p r).its = l.its + 1 + r.its := rfl
    have c3 := hb.c3
    have lb := hb.lt
    have HK := hide (allN l ul bl base w hL)
    generalize hres : (AT.node l p r).split k = res
    have HRES := hide hres
    have HL := hide hL
    have HR := hide hR
    have HB := hide hb
    have HOK := hide hok
    have HLT := hide hTlt
    have HD := hide (And.intro nbl (And.intro nbr (And.intro ndl (And.intro ndr (And.intro dlr drl)))))
    have IHL := hide ihl
    have IHR := hide ihr
    have HBB := hide (And.intro bl_ br_)
    have f0 := Tryd.fld0
    clear hb hL hR hres hnd hok hTlt nbl nbr ndl ndr ndlr dlr drl ihl ihr hbal bl_ br_
    go_enter Tryd.func80, Tryd.ntmps80
    go_wp2_with fail
    refine HK.out.mono ?_
    rintro e w1 ⟨rfl, hb1⟩
    have s1 := hb1.size
    have HL1 := hide (HL.out.below hb1 (Nat.le_refl _))
    have HR1 := hide (HR.out.below hb1 (Nat.le_refl _))
    have HB1 := hide (Nd.chg (cs := []) HB.out (Chg.of_below hb1) (by simp))
    have CH1 := hide (Chg.of_below (bs := b :: (bl ++ br)) hb1)
    clear hb1 HK HL HR HB c3
    have c3 := HB1.out.c3
    have c4 := HB1.out.c4
    have lb1 := HB1.out.lt
    unfold cnt
    by_cases hk1 : k ≤ l.its
    · have hk1' : (k : Int) ≤ l.its := by omega
      have HREP : Hid (res = ((l.split k).1, AT.spl (l.split k).2 p r)) := by
        rw [← HRES.out, AT.split_le _ _ _ _ hk1]; exact rfl
      have sb := AT.split_bal l k HBB.out.1
      have sf := AT.split_flat l k hk1
      have IH := hide (IHL.out k ul bl base w1 HBB.out.1 HOK.out.left hk1 HL1.out HD.out.2.2.1 (by omega))
      clear HRES
      generalize (l.split k).1 = X at *
      generalize (l.split k).2 = Y at *
      go_wp2_with fail
      refine IH.out.mono ?_
      rintro e w2 ⟨ux, uy, bx, by', rfl, hX, hY, ndxy, sub2, ch2⟩
      have s2 := ch2.size
      have HB2 := hide (HB1.out.chg ch2 HD.out.1)
      have HR2 := hide (HR1.out.chg ch2 HD.out.2.2.2.2.1)
      have c0 := HB2.out.c0
      have c1 := HB2.out.c1
      have c2 := HB2.out.c2
      have d4 := HB2.out.c4
      have lb2 := HB2.out.lt
      have CH2 := hide (CH1.out.trans ch2 (fun _ h _ => h) (fun x h _ => by simp [h]) (ds := b :: (bl ++ br)))
      have HX2 := hide hX
      have HY2 := hide hY
      have SB2 := hide sub2
      have ndx : bx.Nodup := (List.nodup_append.1 ndxy).1
      have ndy : by'.Nodup := (List.nodup_append.1 ndxy).2.1
      have dxy : ∀ x ∈ bx, x ∉ by' := fun x hx hm => (List.nodup_append.1 ndxy).2.2 x hx x hm rfl
      have nry : (by' ++ br).Nodup := List.nodup_append.2 ⟨ndy, HD.out.2.2.2.1, fun x hx y hy e => by
        subst e
        rcases sub2 x (List.mem_append_right _ hx) with h | h
        · exact HD.out.2.2.2.2.1 x hy h
        · have := (HLT.out x (by simp [hy])).2; omega⟩
      have dxr : ∀ x ∈ bx, x ∉ by' ++ br := fun x hx hm => by
        rcases List.mem_append.1 hm with h | h
        · exact dxy x hx h
        · rcases sub2 x (List.mem_append_left _ hx) with g | g
          · exact HD.out.2.2.2.2.1 x h g
          · have := (HLT.out x (by simp [h])).2; omega
      have okS : (AT.node Y p r).ok := HOK.out.sub (by
        rw [flat_node, flat_node]
        exact List.Sublist.append_right (by rw [sf.2]; exact List.drop_sublist _ _) _)
      have ND2 := hide (And.intro ndx (And.intro nry dxr))
      have HOKS := hide okS
      clear hX hY ndxy sub2 ch2 ndx ndy dxy nry dxr IH HB1 HL1 HR1 CH1 c3 c4 sf
      go_upto_region 6 with fail
      go_region_with (go_at_call 111; refine (spliceN _ Y p r uy ur by' br base _ (by exact Nat.lt_succ_self _) (by exact sb.2) (by exact HBB.out.2) (by exact HOKS.out) (by exact HY2.out.heap rfl) (by exact HR2.out.heap rfl) (by exact ND2.out.2.1) (by show base ≤ w2.heap.size; omega)).mono ?_; intro e4 w4 hp4; have HP4 := hide (hp4.drawn (w := w2) rfl rfl rfl rfl); obtain ⟨u4, bs4, rfl, _⟩ := hp4)
      all_goals (
        go_wp2
        go_ret2
        obtain ⟨u5, bs5, e5, hT5, nd5, sub5, ch5⟩ := HP4.out
        cases e5
        rw [HREP.out]
        refine ⟨ux, u4, bx, bs5, rfl, HX2.out.chg ch5 ND2.out.2.2, hT5, List.nodup_append.2 ⟨ND2.out.1, nd5, fun x hx y hy e => ?_⟩, fun x hx => ?_, CH2.out.trans ch5 (fun _ h _ => h) (fun x hx hl => ?_)⟩
        · subst e
          rcases sub5 x hy with h | h
          · exact ND2.out.2.2 x hx h
          · have := (HX2.out.lt x hx).2; omega
        · rcases List.mem_append.1 hx with h | h
          · rcases SB2.out x (List.mem_append_left _ h) with g | g
            · exact .inl (by simp [g])
            · exact .inr (by omega)
          · rcases sub5 x h with g | g
            · rcases List.mem_append.1 g with g | g
              · rcases SB2.out x (List.mem_append_right _ g) with q | q
                · exact .inl (by simp [q])
                · exact .inr (by omega)
              · exact .inl (by simp [g])
            · exact .inr (by omega)
        · rcases List.mem_append.1 hx with g | g
          · rcases SB2.out x (List.mem_append_right _ g) with q | q
            · simp [q]
            · omega
          · simp [g])
    · have hk1' : ¬ (k : Int) ≤ l.its := by omega
      have HREP : Hid (res = (AT.spl l p (r.split (k - l.its - 1)).1, (r.split (k - l.its - 1)).2)) := by
        rw [← HRES.out, AT.split_gt _ _ _ _ hk1]; exact rfl
      have sb := AT.split_bal r (k - l.its - 1) HBB.out.2
      have sf := AT.split_flat r (k - l.its - 1) (by omega)
      have IH := hide (IHR.out (k - l.its - 1) ur br base w1 HBB.out.2 HOK.out.right (by omega) HR1.out HD.out.2.2.2.1 (by omega))
      have ecast : ((k - l.its - 1 : Nat) : Int) = (k : Int) - l.its - 1 := by omega
      rw [ecast] at IH
      clear HRES ecast
      generalize (r.split (k - l.its - 1)).1 = X at *
      generalize (r.split (k - l.its - 1)).2 = Y at *
      go_wp2_with fail
      refine IH.out.mono ?_
      rintro e w2 ⟨ux, uy, bx, by', rfl, hX, hY, ndxy, sub2, ch2⟩
      have s2 := ch2.size
      have HB2 := hide (HB1.out.chg ch2 HD.out.2.1)
      have HL2 := hide (HL1.out.chg ch2 HD.out.2.2.2.2.2)
      have c0 := HB2.out.c0
      have c1 := HB2.out.c1
      have c2 := HB2.out.c2
      have d3 := HB2.out.c3
      have lb2 := HB2.out.lt
      have CH2 := hide (CH1.out.trans ch2 (fun _ h _ => h) (fun x h _ => by simp [h]) (ds := b :: (bl ++ br)))
      have HX2 := hide hX
      have HY2 := hide hY
      have SB2 := hide sub2
      have ndx : bx.Nodup := (List.nodup_append.1 ndxy).1
      have ndy : by'.Nodup := (List.nodup_append.1 ndxy).2.1
      have dxy : ∀ x ∈ bx, x ∉ by' := fun x hx hm => (List.nodup_append.1 ndxy).2.2 x hx x hm rfl
      have nlx : (bl ++ bx).Nodup := List.nodup_append.2 ⟨HD.out.2.2.1, ndx, fun x hx y hy e => by
        subst e
        rcases sub2 x (List.mem_append_left _ hy) with h | h
        · exact HD.out.2.2.2.2.2 x hx h
        · have := (HLT.out x (by simp [hx])).2; omega⟩
      have dyl : ∀ x ∈ by', x ∉ bl ++ bx := fun x hx hm => by
        rcases List.mem_append.1 hm with h | h
        · rcases sub2 x (List.mem_append_right _ hx) with g | g
          · exact HD.out.2.2.2.2.2 x h g
          · have := (HLT.out x (by simp [h])).2; omega
        · exact dxy x h hx
      have okS : (AT.node l p X).ok := HOK.out.sub (by
        rw [flat_node, flat_node]
        exact List.Sublist.append_left (List.Sublist.cons_cons p (by rw [sf.1]; exact List.take_sublist _ _)) _)
      have ND2 := hide (And.intro ndy (And.intro nlx dyl))
      have HOKS := hide okS
      clear hX hY ndxy sub2 ch2 ndx ndy dxy nlx dyl IH HB1 HL1 HR1 CH1 c3 c4 sf
      go_upto_region 8 with fail
      go_region_with (go_at_call 111; refine (spliceN _ l p X ul ux bl bx base _ (by exact Nat.lt_succ_self _) (by exact HBB.out.1) (by exact sb.1) (by exact HOKS.out) (by exact HL2.out.heap rfl) (by exact HX2.out.heap rfl) (by exact ND2.out.2.1) (by show base ≤ w2.heap.size; omega)).mono ?_; intro e4 w4 hp4; have HP4 := hide (hp4.drawn (w := w2) rfl rfl rfl rfl); obtain ⟨u4, bs4, rfl, _⟩ := hp4)
      all_goals (
        go_wp2
        go_ret2
        obtain ⟨u5, bs5, e5, hT5, nd5, sub5, ch5⟩ := HP4.out
        cases e5
        rw [HREP.out]
        refine ⟨u4, uy, bs5, by', rfl, hT5, HY2.out.chg ch5 ND2.out.2.2, List.nodup_append.2 ⟨nd5, ND2.out.1, fun x hx y hy e => ?_⟩, fun x hx => ?_, CH2.out.trans ch5 (fun _ h _ => h) (fun x hx hl => ?_)⟩
        · subst e
          rcases sub5 x hx with h | h
          · exact ND2.out.2.2 x hy h
          · have := (HY2.out.lt x hy).2; omega
        · rcases List.mem_append.1 hx with h | h
          · rcases sub5 x h with g | g
            · rcases List.mem_append.1 g with g | g
              · exact .inl (by simp [g])
              · rcases SB2.out x (List.mem_append_left _ g) with q | q
                · exact .inl (by simp [q])
                · exact .inr (by omega)
            · exact .inr (by omega)
          · rcases SB2.out x (List.mem_append_right _ h) with g | g
            · exact .inl (by simp [g])
            · exact .inr (by omega)
        · rcases List.mem_append.1 hx with g | g
          · simp [g]
          · rcases SB2.out x (List.mem_append_left _ g) with q | q
            · simp [q]
            · omega)
end Go.Proofs.YtbgngikejgihgafDoor
