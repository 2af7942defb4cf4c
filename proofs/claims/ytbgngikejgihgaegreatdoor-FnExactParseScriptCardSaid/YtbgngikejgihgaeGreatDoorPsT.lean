import Derived.Test.YtbgngikejgihgaeGreatDoorPsC
import Derived.Test.YtbgngikejgihgaeGreatDoorPsH
namespace Go.Proofs.YtbgngikejgihgaeGreatDoor
open Go Go.RowKit Go.Sort
set_option linter.unusedVariables false

/-- What has been read, as it lies. -/
def srC (vo : Value) (s : Sr) (vt : Value) : List Value := [vo, .int .i64 s.cap, .int .i64 s.big, .int .i64 s.near, .int .i64 s.run, .int .i64 0, .int .i64 0, .int .i64 s.op.k, .int .i64 s.op.a, .int .i64 s.op.b, .int .i64 s.op.c, vt]
/-- Where the number of a letter goes. -/
def plO (c : UInt8) : Nat := if c = 65 then 8 else if c = 66 then 9 else if c = 67 then 10 else if c = 75 then 7 else if c = 104 then 1 else if c = 98 then 2 else if c = 110 then 3 else 4
theorem plO_set (c : UInt8) (n : Int) (vo vt : Value) (s : Sr) : (srC vo s vt).set (plO c) (.int .i64 n) = srC vo (setU c n s) vt := by
  unfold plO setU
  repeat' split
  all_goals rfl
theorem plO_old (c : UInt8) (vo vt : Value) (s : Sr) : ∃ z, (srC vo s vt)[plO c]? = some (.int .i64 z) := by
  unfold plO
  repeat' split
  all_goals exact ⟨_, rfl⟩
theorem setU_ops (c : UInt8) (n : Int) (s : Sr) : (setU c n s).ops = s.ops ∧ (setU c n s).op.t = s.op.t := by
  unfold setU
  repeat' split
  all_goals exact ⟨rfl, rfl⟩
theorem byte_eq (c d : UInt8) : ((c.toNat : Int) == (d.toNat : Int)) = decide (c = d) := by
  by_cases h : c = d
  · subst h; simp
  · rw [decide_eq_false h, beq_eq_false_iff_ne]
    exact fun e => h (UInt8.toNat.inj (by omega))

set_option maxHeartbeats 1000000 in
theorem placeL (c : UInt8) (rb : Nat) (w : World) : Calls Tryz.prog 41 #[.pointer (some ⟨rb, 0, none⟩), .int .i32 (c.toNat : Int)] w fun e w' => e = .returned (.pointer (some ⟨rb, plO c, none⟩)) ∧ w' = w := by
  have q0 : ((c.toNat : Int) == 65) = decide (c = 65) := byte_eq c 65
  have q1 : ((c.toNat : Int) == 66) = decide (c = 66) := byte_eq c 66
  have q2 : ((c.toNat : Int) == 67) = decide (c = 67) := byte_eq c 67
  have q3 : ((c.toNat : Int) == 75) = decide (c = 75) := byte_eq c 75
  have q4 : ((c.toNat : Int) == 104) = decide (c = 104) := byte_eq c 104
  have q5 : ((c.toNat : Int) == 98) = decide (c = 98) := byte_eq c 98
  have q6 : ((c.toNat : Int) == 110) = decide (c = 110) := byte_eq c 110
  unfold plO
  generalize (c.toNat : Int) = z at *
  by_cases h0 : c = 65
  · rw [if_pos h0]
    rw [decide_eq_true h0] at q0
    clear q1 q2 q3 q4 q5 q6 h0
    go_enter Tryz.func41, Tryz.ntmps41
    go_wp2
    go_ret
    exact ⟨rfl, rfl⟩
  rw [if_neg h0]
  rw [decide_eq_false h0] at q0
  by_cases h1 : c = 66
  · rw [if_pos h1]
    rw [decide_eq_true h1] at q1
    clear q2 q3 q4 q5 q6 h0 h1
    go_enter Tryz.func41, Tryz.ntmps41
    go_wp2
    go_ret
    exact ⟨rfl, rfl⟩
  rw [if_neg h1]
  rw [decide_eq_false h1] at q1
  by_cases h2 : c = 67
  · rw [if_pos h2]
    rw [decide_eq_true h2] at q2
    clear q3 q4 q5 q6 h0 h1 h2
    go_enter Tryz.func41, Tryz.ntmps41
    go_wp2
    go_ret
    exact ⟨rfl, rfl⟩
  rw [if_neg h2]
  rw [decide_eq_false h2] at q2
  by_cases h3 : c = 75
  · rw [if_pos h3]
    rw [decide_eq_true h3] at q3
    clear q4 q5 q6 h0 h1 h2 h3
    go_enter Tryz.func41, Tryz.ntmps41
    go_wp2
    go_ret
    exact ⟨rfl, rfl⟩
  rw [if_neg h3]
  rw [decide_eq_false h3] at q3
  by_cases h4 : c = 104
  · rw [if_pos h4]
    rw [decide_eq_true h4] at q4
    clear q5 q6 h0 h1 h2 h3 h4
    go_enter Tryz.func41, Tryz.ntmps41
    go_wp2
    go_ret
    exact ⟨rfl, rfl⟩
  rw [if_neg h4]
  rw [decide_eq_false h4] at q4
  by_cases h5 : c = 98
  · rw [if_pos h5]
    rw [decide_eq_true h5] at q5
    clear q6 h0 h1 h2 h3 h4 h5
    go_enter Tryz.func41, Tryz.ntmps41
    go_wp2
    go_ret
    exact ⟨rfl, rfl⟩
  rw [if_neg h5]
  rw [decide_eq_false h5] at q5
  by_cases h6 : c = 110
  · rw [if_pos h6]
    rw [decide_eq_true h6] at q6
    clear h0 h1 h2 h3 h4 h5 h6
    go_enter Tryz.func41, Tryz.ntmps41
    go_wp2
    go_ret
    exact ⟨rfl, rfl⟩
  rw [if_neg h6]
  rw [decide_eq_false h6] at q6
  clear h0 h1 h2 h3 h4 h5 h6
  go_enter Tryz.func41, Tryz.ntmps41
  go_wp2
  go_ret
  exact ⟨rfl, rfl⟩

theorem own_offX {w : World} {base n b : Nat} {e t : TypeId} {size : Nat} {v : Value} {xs vs : List Value} (h : w.ownsRow base e size v n xs) (hd : DX w b vs t) (hne : e ≠ t) : v.ownBlock ≠ some b := by
  intro hq
  rcases h.2 with ⟨rfl, _⟩ | ⟨g, cap, cur, rfl, _, hgb, _⟩
  · simp [Value.ownBlock] at hq
  · simp only [Value.ownBlock, Option.some.injEq] at hq
    subst hq
    unfold DX at hd
    rw [hd] at hgb
    simp only [Option.some.injEq] at hgb
    injection hgb with _ h2 _
    exact hne h2.symm
theorem gr_below {w w' : World} {r : Option Nat} (h : Below w.heap.size w w') : w.grownBy w' r := ⟨h.os, h.tape, h.output, h.size, fun k hk _ => h.block k hk⟩
theorem gr_set {w w' : World} {rb i : Nat} {v : Value} (h : w.grownBy w' (some rb)) : w.grownBy (w'.setCell ⟨rb, i, none⟩ v) (some rb) :=
  ⟨h.os, h.tape, h.output, by simpa using h.size, fun k hk hne => (heap_setCell_other _ _ _ _ (fun e => hne (congrArg some e))).trans (h.block k hk hne)⟩

/-- What take answers. -/
def TakA (c : UInt8) (x : List UInt8) (s : Sr) (vo vt : Value) (rb base : Nat) (e : Ending) (w' : World) : Prop :=
  ((takU c x s).1 = 0 ∧ e = .returned .nilIface ∧ ∃ vt', DX w' rb (srC vo (takU c x s).2 vt') 57 ∧ ((vt' = vt ∧ (takU c x s).2.op.t = s.op.t) ∨ OwB w' base vt' (bts (takU c x s).2.op.t))) ∨
  ((takU c x s).1 ≠ 0 ∧ e = .returned (.iface 71 (.int .i64 (takU c x s).1)))

set_option maxHeartbeats 1000000 in
set_option maxRecDepth 100000 in
theorem takeL (c : UInt8) (x : ByteArray) (s : Sr) (vo vt : Value) (rb : Nat) (w : World) (hx : x.size ≤ 16384) (hD : DX w rb (srC vo s vt) 57) (hG : GS w) :
    Calls Tryz.prog 29 #[.pointer (some ⟨rb, 0, none⟩), .int .i32 (c.toNat : Int), .string x] w fun e w' => TakA c x.data.toList s vo vt rb w.heap.size e w' ∧ w.grownBy w' (some rb) := by
  have hlt := hD.lt
  by_cases h84 : c = 84
  · have HR := hide (readHexL x (by omega) w)
    have q0 : ((c.toNat : Int) == 84) = true := by rw [h84]; rfl
    have TS : Hid (∀ t, hexU x.data.toList = some t → takU c x.data.toList s = (0, { s with op := { s.op with t := t } })) := hide (fun t ht => by unfold takU; rw [if_pos h84, ht])
    have TN : Hid (hexU x.data.toList = none → takU c x.data.toList s = (18, s)) := hide (fun ht => by unfold takU; rw [if_pos h84, ht])
    generalize (c.toNat : Int) = z at *
    clear hG h84
    go_enter Tryz.func29, Tryz.ntmps29
    go_wp2_with fail
    refine HR.out.mono ?_
    rintro e w1 ⟨hh, hb⟩
    have D1 := hide (hD.below hb)
    have c11 := D1.out.cell (i := 11) rfl
    have f11 := D1.out.fz 11
    have G1 := hide (gr_below (r := some rb) hb)
    clear hb
    rcases hh with ⟨t, v, ht, rfl, ho⟩ | ⟨ht, rfl⟩
    · have TK := hide (TS.out t ht)
      obtain ⟨ub, cb, hv⟩ := ownB_val ho
      subst hv
      have OV := hide ho
      clear ht ho
      go_wp2
      go_ret
      refine ⟨.inl ⟨by rw [TK.out], rfl, .slice ub (bts t).length cb, ?_, .inr ?_⟩, gr_set G1.out⟩
      · rw [TK.out]; exact D1.out.set 11 (.slice ub (bts t).length cb)
      · rw [TK.out]; exact ownsRow_setCell_other OV.out (own_offX OV.out D1.out (by decide)) _
    · have TK := hide (TN.out ht)
      clear ht
      go_wp2
      go_ret
      exact ⟨.inr ⟨by rw [TK.out]; simp, by rw [TK.out]; rfl⟩, gr_set G1.out⟩
  · have HP := hide (placeL c rb w)
    have HR := hide (readNumL x 18 w hx (by omega) hG)
    have q0 : ((c.toNat : Int) == 84) = false := by
      have := byte_eq c 84
      rw [decide_eq_false h84] at this
      exact this
    have TS : Hid (∀ n, numU x.data.toList 18 = some n → takU c x.data.toList s = (0, setU c n s)) := hide (fun n ht => by unfold takU; rw [if_neg h84, ht])
    have TN : Hid (numU x.data.toList 18 = none → takU c x.data.toList s = (17, s)) := hide (fun ht => by unfold takU; rw [if_neg h84, ht])
    have PS := hide (plO_set c)
    have PO := hide (plO_old c vo vt s)
    have SO := hide (setU_ops c)
    generalize plO c = po at *
    generalize (c.toNat : Int) = z at *
    clear hG h84
    unfold numOut at HR
    go_enter Tryz.func29, Tryz.ntmps29
    go_wp2_with fail
    refine HP.out.mono ?_
    rintro e w0 ⟨rfl, hw0⟩
    have hw0' := hw0.symm
    subst hw0'
    clear hw0 HP
    go_wp2_with fail
    refine HR.out.mono ?_
    rintro e w1 ⟨rfl, hb⟩
    have D1 := hide (hD.below hb)
    obtain ⟨zo, hzo⟩ := PO.out
    have c11 := D1.out.cell hzo
    have f11 := D1.out.fz po
    have G1 := hide (gr_below (r := some rb) hb)
    clear hb hzo PO
    cases hn : numU x.data.toList 18 with
    | some n =>
      have TK := hide (TS.out n hn)
      clear hn
      go_wp2
      go_ret
      refine ⟨.inl ⟨by rw [TK.out], rfl, vt, ?_, .inl ⟨rfl, ?_⟩⟩, gr_set G1.out⟩
      · rw [TK.out]
        have h9 := D1.out.set po (.int .i64 n)
        rw [PS.out] at h9
        exact h9
      · rw [TK.out]; exact (SO.out n s).2
    | none =>
      have TK := hide (TN.out hn)
      clear hn
      go_wp2
      go_ret
      exact ⟨.inr ⟨by rw [TK.out]; simp, by rw [TK.out]; rfl⟩, gr_set G1.out⟩
end Go.Proofs.YtbgngikejgihgaeGreatDoor
