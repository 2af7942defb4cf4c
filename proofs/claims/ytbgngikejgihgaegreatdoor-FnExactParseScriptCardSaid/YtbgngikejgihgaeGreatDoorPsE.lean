import Derived.Test.YtbgngikejgihgaeGreatDoorPsQ
import Derived.Test.YtbgngikejgihgaeGreatDoorEq8
import Derived.Test.YtbgngikejgihgaeGreatDoorMark8
import Derived.Test.YtbgngikejgihgaeGreatDoorHeld8
import Derived.WalkKit
import Derived.WalkLawsBesides
import Derived.Deep.RegionWith
import Derived.Deep.Cut
import Derived.Deep.CutRange
namespace Go.Proofs.YtbgngikejgihgaeGreatDoor
open Go Go.RowKit Go.Sort
set_option linter.unusedVariables false

theorem eq8l (xs : List Int) (v u : Value) (w : World) (h1 : Rd .u8 w v xs) (h2 : Rd .u8 w u xs) (hn : xs.length ≤ 1099511627776) :
    Calls Tryz.prog 8 #[v, u] w fun e w' => e = .returned (.bool true) ∧ Below w.heap.size w w' :=
  (eq8 xs v u w h1 h2 hn).mono fun e w' ⟨he, n, hw⟩ => ⟨he, by subst hw; exact ⟨rfl, rfl, rfl, Nat.le_refl _, fun _ _ => rfl⟩⟩
theorem rd_val8 {w : World} {v : Value} {l : List UInt8} (h : Rd .u8 w v (bts l)) : ∃ ao cap, v = .slice ao l.length cap := by
  rcases h with ⟨ao, cap, rfl, e⟩ | ⟨b, off, cap, rfl, _⟩
  · exact ⟨ao, cap, by have := congrArg List.length e; rw [bts_length] at this; rw [this]; rfl⟩
  · exact ⟨_, _, by rw [bts_length]⟩

set_option maxHeartbeats 1000000 in
set_option maxRecDepth 100000 in
theorem eqOpN (o : Sop) (v u : Value) (w : World) (h1 : Rd .u8 w v (bts o.t)) (h2 : Rd .u8 w u (bts o.t)) (hn : o.t.length ≤ 1048576) :
    Calls Tryz.prog 32 #[.agg #[.int .i64 o.k, .int .i64 o.a, .int .i64 o.b, .int .i64 o.c, v], .agg #[.int .i64 o.k, .int .i64 o.a, .int .i64 o.b, .int .i64 o.c, u]] w fun e w' => e = .returned (.bool true) ∧ Below w.heap.size w w' := by
  have E0 := hide (fun (W : World) (hb : Below w.heap.size w W) => eq8l (bts o.t) v u W (h1.below hb) (h2.below hb) (by rw [bts_length]; omega))
  obtain ⟨ao, cap, rfl⟩ := rd_val8 h1
  obtain ⟨ao', cap', rfl⟩ := rd_val8 h2
  generalize o.t.length = n at *
  have A1 := hide ((Below.refl w.heap.size w).alloc (Nat.le_refl _) (.cells #[.int .i64 o.k, .int .i64 o.a, .int .i64 o.b, .int .i64 o.c, .slice ao n cap] 51))
  have D1 := hide (DX.new w [.int .i64 o.k, .int .i64 o.a, .int .i64 o.b, .int .i64 o.c, .slice ao n cap] 51)
  have s1 := hide (show (w.alloc (.cells #[.int .i64 o.k, .int .i64 o.a, .int .i64 o.b, .int .i64 o.c, .slice ao n cap] 51)).heap.size = w.heap.size + 1 by simp)
  have q0 : (o.k != o.k) = false := by simp
  have q1 : (o.a != o.a) = false := by simp
  have q2 : (o.b != o.b) = false := by simp
  have q3 : (o.c != o.c) = false := by simp
  clear h1 h2
  go_enter Tryz.func32, Tryz.ntmps32
  go_upto_region 1 with fail
  generalize w.alloc (.cells #[.int .i64 o.k, .int .i64 o.a, .int .i64 o.b, .int .i64 o.c, .slice ao n cap] 51) = w1 at *
  have A2 := hide (A1.out.alloc A1.out.size (.cells #[.int .i64 o.k, .int .i64 o.a, .int .i64 o.b, .int .i64 o.c, .slice ao' n cap'] 51))
  have D2 := hide (D1.out.old (.cells #[.int .i64 o.k, .int .i64 o.a, .int .i64 o.b, .int .i64 o.c, .slice ao' n cap'] 51))
  have E2 := hide (show DX (w1.alloc (.cells #[.int .i64 o.k, .int .i64 o.a, .int .i64 o.b, .int .i64 o.c, .slice ao' n cap'] 51)) (w.heap.size + 1) [.int .i64 o.k, .int .i64 o.a, .int .i64 o.b, .int .i64 o.c, .slice ao' n cap'] 51 from (by rw [← s1.out]; exact DX.new w1 [.int .i64 o.k, .int .i64 o.a, .int .i64 o.b, .int .i64 o.c, .slice ao' n cap'] 51))
  generalize w1.alloc (.cells #[.int .i64 o.k, .int .i64 o.a, .int .i64 o.b, .int .i64 o.c, .slice ao' n cap'] 51) = w2 at *
  have c0 := D2.out.cell (i := 0) rfl
  have c1 := D2.out.cell (i := 1) rfl
  have c2 := D2.out.cell (i := 2) rfl
  have c3 := D2.out.cell (i := 3) rfl
  have c4 := D2.out.cell (i := 4) rfl
  have e0 := E2.out.cell (i := 0) rfl
  have e1 := E2.out.cell (i := 1) rfl
  have e2 := E2.out.cell (i := 2) rfl
  have e3 := E2.out.cell (i := 3) rfl
  have e4 := E2.out.cell (i := 4) rfl
  have HI := hide (E0.out w2 A2.out)
  clear A1 D1 s1 E0
  go_wp2_with fail
  refine HI.out.mono ?_
  rintro e w3 ⟨rfl, hb3⟩
  have B3 := hide (A2.out.trans (hb3.mono A2.out.size))
  clear HI hb3
  go_wp2
  go_ret
  exact ⟨rfl, B3.out⟩

theorem opVs_get : ∀ (os : List Sop) (vs : List Value) (j : Nat) (o : Sop) (v : Value) (f : Nat), os[j]? = some o → vs[j]? = some v → f < 5 → (opVs os vs)[j * 5 + f]? = (opV o v)[f]?
  | [], _, j, o, v, f, h, _, _ => by simp at h
  | _ :: _, [], j, o, v, f, _, h, _ => by simp at h
  | x :: os, y :: vs, 0, o, v, f, h1, h2, hf => by
    simp at h1 h2
    subst h1 h2
    rw [opVs, Nat.zero_mul, Nat.zero_add, List.getElem?_append_left (by simp [opV]; omega)]
  | x :: os, y :: vs, j + 1, o, v, f, h1, h2, hf => by
    rw [opVs, List.getElem?_append_right (by simp [opV]; omega)]
    have := opVs_get os vs j o v f (by simpa using h1) (by simpa using h2) hf
    rw [← this]
    congr 1
    simp [opV]; omega
theorem OwP.cellAt {w : World} {base g n cap : Nat} {os : List Sop} {vts : List Value} (h : OwP w base (.slice (some ⟨g, 0, none⟩) n cap) os vts) (hn : os.length = n) {j f : Nat} {o : Sop} {v x : Value} (ho : os[j]? = some o) (hv : vts[j]? = some v) (hf : f < 5) (hx : (opV o v)[f]? = some x) : w.cell? ⟨g, j * 5 + f, none⟩ = some x := by
  have hj := (List.getElem?_eq_some_iff.1 ho).1
  have hr := h.o
  rw [hn] at hr
  exact (hr.cellAt (j * 5 + f) (by omega)).trans ((opVs_get os vts j o v f ho hv hf).trans hx)

set_option maxHeartbeats 2000000 in
set_option maxRecDepth 100000 in
theorem eqOpsN (os : List Sop) (vs us : List Value) (v u : Value) (b1 b2 : Nat) (w : World) (h1 : OwP w b1 v os vs) (h2 : OwP w b2 u os us) (hn : os.length ≤ 1048576) (hs : ∀ o ∈ os, o.t.length ≤ 1048576) :
    Calls Tryz.prog 17 #[v, u] w fun e w' => e = .returned (.bool true) ∧ Below w.heap.size w w' := by
  have H1 := hide h1
  have H2 := hide h2
  have HS := hide hs
  by_cases h0 : os.length = 0
  · obtain ⟨ao, cap, rfl⟩ := own_val5 h1.o
    obtain ⟨ao', cap', rfl⟩ := own_val5 h2.o
    rw [h0]
    clear h1 h2 hs
    go_enter Tryz.func17, Tryz.ntmps17
    go_wp2
    refine wp_loop_rounds 1 ?_
    rw [rounds_succ]
    go_wp2
    go_ret
    exact ⟨rfl, Below.refl _ _⟩
  · rcases h1.o.2 with ⟨_, q⟩ | ⟨g, cap, cur, rfl, _, _, c1, c2, _⟩
    · exact absurd q h0
    rcases h2.o.2 with ⟨_, q⟩ | ⟨g', cap', cur', rfl, _, _, c1', c2', _⟩
    · exact absurd q h0
    obtain ⟨n, hN⟩ : ∃ n, os.length = n := ⟨_, rfl⟩
    have HN := hide hN
    rw [hN] at c1 c1' hn h0 H1 H2 ⊢
    unfold maxLen at c2 c2'
    clear h1 h2 hs hN
    have hne : ((n : Int) != (n : Int)) = false := by simp
    go_enter Tryz.func17, Tryz.ntmps17
    go_wp2
    go_loopw [5] (fun i wr => ∃ j : Nat, j ≤ n ∧ i = .int .i64 j ∧ Below w.heap.size w wr) (fun i _ => n - (intOf i).toNat)
    case atStart => exact ⟨0, Nat.zero_le _, rfl, Below.refl _ _⟩
    case round =>
      obtain ⟨j, hj, rfl, hb⟩ := hrel
      have HB := hide hb
      by_cases hlt : j < n
      · obtain ⟨o, ho⟩ : ∃ o, os[j]? = some o := ⟨os[j]'(by rw [HN.out]; exact hlt), List.getElem?_eq_getElem _⟩
        obtain ⟨x, hx⟩ : ∃ x, vs[j]? = some x := ⟨vs[j]'(by rw [← H1.out.hv, HN.out]; exact hlt), List.getElem?_eq_getElem _⟩
        obtain ⟨y, hy⟩ : ∃ y, us[j]? = some y := ⟨us[j]'(by rw [← H2.out.hv, HN.out]; exact hlt), List.getElem?_eq_getElem _⟩
        have a1 := H1.out.below hb
        have a2 := H2.out.below hb
        have c0 := a1.cellAt (f := 0) HN.out ho hx (by omega) rfl
        rw [Nat.add_zero] at c0
        have c1 := a1.cellAt (f := 1) HN.out ho hx (by omega) rfl
        have c2 := a1.cellAt (f := 2) HN.out ho hx (by omega) rfl
        have c3 := a1.cellAt (f := 3) HN.out ho hx (by omega) rfl
        have c4 := a1.cellAt (f := 4) HN.out ho hx (by omega) rfl
        have e0 := a2.cellAt (f := 0) HN.out ho hy (by omega) rfl
        rw [Nat.add_zero] at e0
        have e1 := a2.cellAt (f := 1) HN.out ho hy (by omega) rfl
        have e2 := a2.cellAt (f := 2) HN.out ho hy (by omega) rfl
        have e3 := a2.cellAt (f := 3) HN.out ho hy (by omega) rfl
        have e4 := a2.cellAt (f := 4) HN.out ho hy (by omega) rfl
        have T1 := hide (a1.tx j o x ho hx)
        have T2 := hide (a2.tx j o y ho hy)
        have E := hide (fun (W : World) (hW : W.heap = wr.heap) => eqOpN o x y W (T1.out.rd.cells hW) (T2.out.rd.cells hW) (HS.out o (List.mem_of_getElem? ho)))
        obtain ⟨ai, ci, hxv'⟩ := ownB_val T1.out
        obtain ⟨au, cu, hxu'⟩ := ownB_val T2.out
        generalize (bts o.t).length = xn at *
        subst hxv' hxu'
        clear ho hx hy hb a1 a2 T1 T2
        go_upto_region 6 with fail
        go_cut [26] from 11 to 26 (fun s26 wc => s26 = .bool false ∧ Below wr.heap.size wr wc)
        case first =>
          go_region_with (go_at_call 32; refine (E.out _ (by exact rfl)).mono ?_; rintro e w2 ⟨rfl, hb2⟩; have B2 := hide (show Below wr.heap.size wr w2 from ⟨hb2.os, hb2.tape, hb2.output, hb2.size, hb2.block⟩); clear hb2)
          all_goals (go_wp2_with fail; go_meet; exact ⟨rfl, B2.out⟩)
        case rest =>
          obtain ⟨rfl, hbc⟩ := hcut
          have HBC := hide (HB.out.trans (hbc.mono HB.out.size))
          clear hbc
          go_wp2
          go_roundw
          case rel => exact ⟨j + 1, by omega, by go_num, HBC.out⟩
          case measure => simp [intOf]; omega
      · clear hb
        go_wp2
        go_ret
        exact ⟨rfl, HB.out⟩

set_option maxHeartbeats 1000000 in
theorem eqPolN (a b c : Int) (w : World) :
    Calls Tryz.prog 18 #[.agg #[.int .i64 a, .int .i64 b, .int .i64 c], .agg #[.int .i64 a, .int .i64 b, .int .i64 c]] w fun e w' => e = .returned (.bool true) ∧ Below w.heap.size w w' := by
  have A1 := hide ((Below.refl w.heap.size w).alloc (Nat.le_refl _) (.cells #[.int .i64 a, .int .i64 b, .int .i64 c] 25))
  have A2 := hide (A1.out.alloc A1.out.size (.cells #[.int .i64 a, .int .i64 b, .int .i64 c] 25))
  have q0 : (a != a) = false := by simp
  have q1 : (b != b) = false := by simp
  have q2 : (c != c) = false := by simp
  go_enter Tryz.func18, Tryz.ntmps18
  go_wp2
  go_ret
  exact ⟨rfl, A2.out⟩
/-- The bounds of a script that is read. -/
structure PsB (d : Psd) : Prop where
  n : d.ops.length ≤ 32768
  t : ∀ o ∈ d.ops, o.t.length ≤ 16384

set_option maxHeartbeats 2000000 in
set_option maxRecDepth 100000 in
theorem eqPsN (d : Psd) (hd : PsB d) (vs us : List Value) (v u : Value) (b1 b2 : Nat) (w : World) (h1 : OwP w b1 v d.ops vs) (h2 : OwP w b2 u d.ops us) :
    Calls Tryz.prog 7 #[psdV d v, psdV d u] w fun e w' => e = .returned (.bool true) ∧ Below w.heap.size w w' := by
  have E0 := hide (fun (W : World) (hb : Below w.heap.size w W) => eqOpsN d.ops vs us v u b1 b2 W (h1.below hb) (h2.below hb) (Nat.le_trans hd.n (by decide)) (fun o ho => Nat.le_trans (hd.t o ho) (by decide)))
  obtain ⟨ao, cap, rfl⟩ := own_val5 h1.o
  obtain ⟨ao', cap', rfl⟩ := own_val5 h2.o
  generalize d.ops.length = n at *
  unfold psdV
  have A1 := hide ((Below.refl w.heap.size w).alloc (Nat.le_refl _) (.cells #[.slice ao n cap, .int .i64 d.cap, .int .i64 d.big, .int .i64 d.near, .int .i64 d.run, .int .i64 d.code, .int .i64 d.line] 27))
  have D1 := hide (DX.new w [.slice ao n cap, .int .i64 d.cap, .int .i64 d.big, .int .i64 d.near, .int .i64 d.run, .int .i64 d.code, .int .i64 d.line] 27)
  have s1 := hide (show (w.alloc (.cells #[.slice ao n cap, .int .i64 d.cap, .int .i64 d.big, .int .i64 d.near, .int .i64 d.run, .int .i64 d.code, .int .i64 d.line] 27)).heap.size = w.heap.size + 1 by simp)
  have q0 : (d.cap != d.cap) = false := by simp
  have q1 : (d.code != d.code) = false := by simp
  have q2 : (d.line != d.line) = false := by simp
  clear h1 h2
  go_enter Tryz.func7, Tryz.ntmps7
  go_upto_region 1 with fail
  generalize w.alloc (.cells #[.slice ao n cap, .int .i64 d.cap, .int .i64 d.big, .int .i64 d.near, .int .i64 d.run, .int .i64 d.code, .int .i64 d.line] 27) = w1 at *
  have A2 := hide (A1.out.alloc A1.out.size (.cells #[.slice ao' n cap', .int .i64 d.cap, .int .i64 d.big, .int .i64 d.near, .int .i64 d.run, .int .i64 d.code, .int .i64 d.line] 27))
  have D2 := hide (D1.out.old (.cells #[.slice ao' n cap', .int .i64 d.cap, .int .i64 d.big, .int .i64 d.near, .int .i64 d.run, .int .i64 d.code, .int .i64 d.line] 27))
  have E2 := hide (show DX (w1.alloc (.cells #[.slice ao' n cap', .int .i64 d.cap, .int .i64 d.big, .int .i64 d.near, .int .i64 d.run, .int .i64 d.code, .int .i64 d.line] 27)) (w.heap.size + 1) [.slice ao' n cap', .int .i64 d.cap, .int .i64 d.big, .int .i64 d.near, .int .i64 d.run, .int .i64 d.code, .int .i64 d.line] 27 from (by rw [← s1.out]; exact DX.new w1 [.slice ao' n cap', .int .i64 d.cap, .int .i64 d.big, .int .i64 d.near, .int .i64 d.run, .int .i64 d.code, .int .i64 d.line] 27))
  generalize w1.alloc (.cells #[.slice ao' n cap', .int .i64 d.cap, .int .i64 d.big, .int .i64 d.near, .int .i64 d.run, .int .i64 d.code, .int .i64 d.line] 27) = w2 at *
  have HI := hide (E0.out w2 A2.out)
  clear A1 D1 s1 E0
  have c0 := D2.out.cell (i := 0) rfl
  have c1 := D2.out.cell (i := 1) rfl
  have c2 := D2.out.cell (i := 2) rfl
  have c3 := D2.out.cell (i := 3) rfl
  have c4 := D2.out.cell (i := 4) rfl
  have c5 := D2.out.cell (i := 5) rfl
  have c6 := D2.out.cell (i := 6) rfl
  have e0 := E2.out.cell (i := 0) rfl
  have e1 := E2.out.cell (i := 1) rfl
  have e2 := E2.out.cell (i := 2) rfl
  have e3 := E2.out.cell (i := 3) rfl
  have e4 := E2.out.cell (i := 4) rfl
  have e5 := E2.out.cell (i := 5) rfl
  have e6 := E2.out.cell (i := 6) rfl
  go_wp2_with fail
  refine HI.out.mono ?_
  rintro e w3 ⟨rfl, hb3⟩
  have D3 := hide (D2.out.below hb3)
  have E3 := hide (E2.out.below hb3)
  have B3 := hide (A2.out.trans (hb3.mono A2.out.size))
  clear HI hb3 c0 c1 c2 c3 c4 c5 c6 e0 e1 e2 e3 e4 e5 e6 D2 E2
  have c0 := D3.out.cell (i := 0) rfl
  have c1 := D3.out.cell (i := 1) rfl
  have c2 := D3.out.cell (i := 2) rfl
  have c3 := D3.out.cell (i := 3) rfl
  have c4 := D3.out.cell (i := 4) rfl
  have c5 := D3.out.cell (i := 5) rfl
  have c6 := D3.out.cell (i := 6) rfl
  have e0 := E3.out.cell (i := 0) rfl
  have e1 := E3.out.cell (i := 1) rfl
  have e2 := E3.out.cell (i := 2) rfl
  have e3 := E3.out.cell (i := 3) rfl
  have e4 := E3.out.cell (i := 4) rfl
  have e5 := E3.out.cell (i := 5) rfl
  have e6 := E3.out.cell (i := 6) rfl
  have HP := hide (eqPolN d.big d.near d.run w3)
  go_wp2_with fail
  refine HP.out.mono ?_
  rintro e w4 ⟨rfl, hb4⟩
  have D4 := hide (D3.out.below hb4)
  have E4 := hide (E3.out.below hb4)
  have B4 := hide (B3.out.trans (hb4.mono B3.out.size))
  clear HP hb4 c0 c1 c2 c3 c4 c5 c6 e0 e1 e2 e3 e4 e5 e6 D3 E3
  have c0 := D4.out.cell (i := 0) rfl
  have c1 := D4.out.cell (i := 1) rfl
  have c2 := D4.out.cell (i := 2) rfl
  have c3 := D4.out.cell (i := 3) rfl
  have c4 := D4.out.cell (i := 4) rfl
  have c5 := D4.out.cell (i := 5) rfl
  have c6 := D4.out.cell (i := 6) rfl
  have e0 := E4.out.cell (i := 0) rfl
  have e1 := E4.out.cell (i := 1) rfl
  have e2 := E4.out.cell (i := 2) rfl
  have e3 := E4.out.cell (i := 3) rfl
  have e4 := E4.out.cell (i := 4) rfl
  have e5 := E4.out.cell (i := 5) rfl
  have e6 := E4.out.cell (i := 6) rfl
  go_wp2
  go_ret
  exact ⟨rfl, B4.out⟩
end Go.Proofs.YtbgngikejgihgaeGreatDoor
