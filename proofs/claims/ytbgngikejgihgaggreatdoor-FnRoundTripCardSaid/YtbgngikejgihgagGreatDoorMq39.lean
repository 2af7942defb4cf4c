import Derived.Test.YtbgngikejgihgagGreatDoorMq38
namespace Go.Proofs.YtbgngikejgihgagGreatDoor
open Go Go.RowKit
set_option linter.unusedVariables false

theorem below_drewR {w w' : World} (h : w'.heap = w.heap) (ho : w'.os = w.os) (ht : w'.tape = w.tape) (hp : w'.output = w.output) : Below w.heap.size w w' := ⟨ho, ht, hp, by rw [h]; exact Nat.le_refl _, fun k _ => by rw [h]⟩
set_option maxHeartbeats 8000000 in
set_option maxRecDepth 100000 in
theorem roundA (SB : World → Prop) (ao : Option Addr) (n0 cap : Nat) (w : World) (hn : n0 ≤ 1048576)
    (NEW : Calls Tryz.prog 21 #[.slice ao n0 cap] w fun e w' => e = .returned (.pointer (some ⟨w.heap.size, 0, none⟩)) ∧ SB w' ∧ Below w.heap.size w w')
    (DPB : ∀ W, SB W → Below w.heap.size w W → Calls Tryz.prog 34 #[.pointer (some ⟨w.heap.size, 0, none⟩), .slice ao n0 cap] W fun e w' => ∃ g c a k zs T, e = .returned (.agg #[.slice (some ⟨g, 0, none⟩) zs.length c, .slice a (T.told 0).length k]) ∧ own32 w' w.heap.size (.slice (some ⟨g, 0, none⟩) zs.length c) zs ∧ OwI w' w.heap.size (.slice a (T.told 0).length k) (T.told 0) ∧ BFr zs T ∧ (T.tx zs).length ≤ 5080 ∧ Below w.heap.size w w')
    (hg : w.cell? ⟨0, 0, none⟩ = some (.iface 307 (.agg #[.pointer (some ⟨2, 100, none⟩)]))) :
    Calls Tryz.prog 8 #[.slice ao n0 cap] w fun e w' => e = .returned (.bool true) ∧ Below w.heap.size w w' := by
  have hlt0 : 0 < w.heap.size := World.block_lt_of_cell? w _ hg
  have HG := hide (fun W (hW : Below w.heap.size w W) => (hW.cell (p := ⟨0, 0, none⟩) hlt0).trans hg)
  have hgt : ¬ (1048576 : Int) < (n0 : Int) := by omega
  have NN := hide NEW
  have DD := hide DPB
  clear NEW DPB hg
  go_enter Tryz.func8, Tryz.ntmps8
  go_wp2_with fail
  refine NN.out.mono ?_
  rintro e w1 ⟨rfl, hs1, hb1⟩
  have D1 := hide (DD.out w1 hs1 hb1)
  clear NN DD hs1 hb1
  go_wp2_with fail
  refine D1.out.mono ?_
  rintro e w2 ⟨g, c, a2, k2, zs, T, rfl, ho, hoi, hF, htx, hb2⟩
  have F := hide hF
  generalize hTL : (T.told 0).length = tl at *
  have HTL := hide hTL
  have D3 := hide ((Below.refl w2.heap.size w2).alloc (Nat.le_refl _) (.cells #[.slice (some ⟨g, 0, none⟩) zs.length c, .slice a2 tl k2] 69))
  have K3 := hide (D2.new w2 (.slice (some ⟨g, 0, none⟩) zs.length c) (.slice a2 tl k2) 69)
  have B2 := hide hb2
  have O2 := hide ho
  have I2 := hide (show OwI w2 w.heap.size (.slice a2 tl k2) (T.told 0) from by unfold OwI; rw [hTL]; first | exact hoi | (unfold OwI at hoi; rw [hTL] at hoi; exact hoi))
  clear ho hoi hF hb2 D1 hTL
  go_wp2_with fail
  generalize w2.alloc (.cells #[.slice (some ⟨g, 0, none⟩) zs.length c, .slice a2 tl k2] 69) = w3 at *
  have z2 := B2.out.size
  have l3 : w2.heap.size < w3.heap.size := K3.out.lt
  have O3 := hide (show own32 w3 w.heap.size (.slice (some ⟨g, 0, none⟩) zs.length c) zs from owns_below O2.out D3.out (Nat.le_refl _))
  have I3 := hide (OwI.below I2.out D3.out (Nat.le_refl _))
  have B3 := hide (B2.out.trans (D3.out.mono z2))
  clear O2 I2 B2 D3
  refine (txtR O3.out I3.out F.out).mono ?_
  rintro e w4 ⟨vt, rfl, ht4, hb4⟩
  have z4 := hb4.size
  have K4 := hide (K3.out.below hb4 l3)
  have O4 := hide (show own32 w4 w.heap.size (.slice (some ⟨g, 0, none⟩) zs.length c) zs from owns_below O3.out hb4 (Nat.le_refl _))
  have I4 := hide (OwI.below I3.out hb4 (Nat.le_refl _))
  have B4 := hide (B3.out.trans (hb4.mono B3.out.size))
  have z3 := B3.out.size
  have T4 := hide (show own32 w4 w.heap.size vt (T.tx zs) from owns_base ht4 (by omega))
  clear O3 I3 K3 B3 hb4
  have CP := hide (fun (W : World) (base : Nat) (ho : own32 W base (.slice (some ⟨g, 0, none⟩) zs.length c) zs) (hi : OwI W base (.slice a2 tl k2) (T.told 0)) => cpPieceR ho hi F.out HTL.out)
  have PL := hide (fun (k : Nat) (hk : k ≤ (T.tx zs).length) (W : World) (base g c : Nat) (a : Option Addr) (k2 : Nat) (ho : own32 W base (.slice (some ⟨g, 0, none⟩) zs.length c) zs) (hi : OwI W base (.slice a tl k2) (T.told 0)) (hg : W.cell? ⟨0, 0, none⟩ = some (.iface 307 (.agg #[.pointer (some ⟨2, 100, none⟩)]))) => plOkR ho hi F.out hk hg)
  have PB := hide (fun (W : World) (base g c : Nat) (a : Option Addr) (k2 : Nat) (ho : own32 W base (.slice (some ⟨g, 0, none⟩) zs.length c) zs) (hi : OwI W base (.slice a tl k2) (T.told 0)) (hg : W.cell? ⟨0, 0, none⟩ = some (.iface 307 (.agg #[.pointer (some ⟨2, 100, none⟩)]))) => plBadR ho hi F.out hg)
  have PO := hide (fun (line col : Int) (k : Nat) (hk : offL (T.tx zs) line col = k) (W : World) (base g c : Nat) (a : Option Addr) (k2 : Nat) (ho : own32 W base (.slice (some ⟨g, 0, none⟩) zs.length c) zs) (hi : OwI W base (.slice a tl k2) (T.told 0)) (hg : W.cell? ⟨0, 0, none⟩ = some (.iface 307 (.agg #[.pointer (some ⟨2, 100, none⟩)]))) => poOkR ho hi F.out hk hg)
  have PX := hide (fun (line col : Int) (hk : offL (T.tx zs) line col = -1) (W : World) (base g c : Nat) (a : Option Addr) (k2 : Nat) (ho : own32 W base (.slice (some ⟨g, 0, none⟩) zs.length c) zs) (hi : OwI W base (.slice a tl k2) (T.told 0)) (hg : W.cell? ⟨0, 0, none⟩ = some (.iface 307 (.agg #[.pointer (some ⟨2, 100, none⟩)]))) => poBadR ho hi F.out hk hg)
  have TX8 := hide (show (T.tx zs).length ≤ 8192 by omega)
  generalize hTX : T.tx zs = tx at *
  clear hTX
  have LT := hide (fun (s lo hi : Nat) (vr vst : Value) (W : World) (h : OwL W lo hi vr vst ((lns tx).map plG) ((stL (lns tx)).take s)) (hh : hi ≤ W.heap.size) (h1 : 1 ≤ s) (h2 : s ≤ (lns tx).length) => ltR h hh h1 h2 TX8.out)
  have LC := hide (fun (k : Nat) (hk : k ≤ tx.length) (s lo hi : Nat) (vr vst : Value) (W : World) (h : OwL W lo hi vr vst ((lns tx).map plG) ((stL (lns tx)).take s)) (hh : hi ≤ W.heap.size) (h1 : 1 ≤ s) (h2 : s ≤ (lns tx).length) (hg : W.cell? ⟨0, 0, none⟩ = some (.iface 307 (.agg #[.pointer (some ⟨2, 100, none⟩)]))) => lcR h hh h1 h2 TX8.out hk hg)
  have LO := hide (fun (line col : Int) (k : Nat) (hk : offL tx line col = k) (s lo hi : Nat) (vr vst : Value) (W : World) (h : OwL W lo hi vr vst ((lns tx).map plG) ((stL (lns tx)).take s)) (hh : hi ≤ W.heap.size) (h1 : 1 ≤ s) (h2 : s ≤ (lns tx).length) (hg : W.cell? ⟨0, 0, none⟩ = some (.iface 307 (.agg #[.pointer (some ⟨2, 100, none⟩)]))) => loOkR h hh h1 h2 TX8.out hk hg)
  have LX := hide (fun (line col : Int) (hk : offL tx line col = -1) (s lo hi : Nat) (vr vst : Value) (W : World) (h : OwL W lo hi vr vst ((lns tx).map plG) ((stL (lns tx)).take s)) (hh : hi ≤ W.heap.size) (h1 : 1 ≤ s) (h2 : s ≤ (lns tx).length) (hg : W.cell? ⟨0, 0, none⟩ = some (.iface 307 (.agg #[.pointer (some ⟨2, 100, none⟩)]))) => loBadR h hh h1 h2 TX8.out hk hg)
  have LD := hide (fun (W : World) (base g c : Nat) (ho : own32 W base (.slice (some ⟨g, 0, none⟩) tx.length c) tx) (hg : W.cell? ⟨0, 0, none⟩ = some (.iface 307 (.agg #[.pointer (some ⟨2, 100, none⟩)]))) => llR ho TX8.out hg)
  have SM := hide (fun (v u : Value) (W : World) (h1 : Rd .i32 W v tx) (h2 : Rd .i32 W u tx) => smText tx v u W h1 h2 (by have := TX8.out; omega))
  have CT := hide (fun (W : World) (base : Nat) (v : Value) (h : own32 W base v tx) => cpTextR h (by have := TX8.out; omega))
  have HP := hide (fun (k : Nat) (hk : k ≤ tx.length) => lc_bd tx k hk)
  have HO := hide (fun (k : Nat) (hk : k ≤ tx.length) => (offL_some (zs := tx) hk rfl rfl : offL tx (lcL tx k) (lcC tx k) = k))
  have HBK := hide (fun (k : Nat) (hk : k < tx.length) (hz : tx.getD k 0 = 10) => And.intro (offL_brk hk hz) (lc_brk tx k hk hz))
  have HCL := hide (fun (k : Nat) (hk : k < tx.length) (hz : ¬ tx.getD k 0 = 10) => lc_col tx k hk hz)
  have HEN := hide (offL_end tx)
  have HEL := hide (lcL_end tx)
  have HZ0 := hide (lc_zero tx)
  have hnl := lns_len tx
  have HC := hide (fun (W : World) (base : Nat) (ao : Option Addr) (n cap : Nat) (h : own32 W base (.slice ao n cap) tx) (i : Nat) (hi : i < tx.length) => (show ∃ b, ao = some ⟨b, 0, none⟩ ∧ W.cell? ⟨b, i, none⟩ = some (.int .i32 (tx.getD i 0)) from by
    rcases h.2 with ⟨_, e⟩ | ⟨b, cap', cur, e, _⟩
    · omega
    · simp only [Value.slice.injEq] at e
      obtain ⟨rfl, rfl, rfl⟩ := e
      exact ⟨b, rfl, owns_cell h i hi⟩))
  obtain ⟨at1, ct1, hvt⟩ := own32_val T4.out
  have TR := hide (Rd.of_owns T4.out)
  generalize hgs : (lns tx).map plG = gs at *
  generalize hST : stL (lns tx) = ST at *
  generalize hNL : (lns tx).length = n at *
  generalize htl : tx.length = txl at *
  subst hvt
  clear hgs hST hNL TR
  have HTXL := hide htl
  clear htl ht4
  go_wp2_with fail
  refine (CT.out _ _ _ T4.out).mono ?_
  rintro e w5 ⟨g5, c5, rfl, ho5, hb5⟩
  have LD5 := hide (LD.out w5 _ g5 c5 ho5 (HG.out _ (B4.out.trans (hb5.mono B4.out.size))))
  have z5 := hb5.size
  have B5 := hide (B4.out.trans (hb5.mono B4.out.size))
  have K5 := hide (K4.out.below hb5 K4.out.lt)
  have O5 := hide (show own32 w5 w.heap.size (.slice (some ⟨g, 0, none⟩) zs.length c) zs from owns_below O4.out hb5 (Nat.le_refl _))
  have I5 := hide (OwI.below I4.out hb5 (Nat.le_refl _))
  have T5 := hide (show own32 w5 w.heap.size (.slice at1 txl ct1) tx from owns_below T4.out hb5 (Nat.le_refl _))
  clear ho5 hb5 B4 K4 O4 I4 T4 LD CT
  go_wp2_with fail
  refine LD5.out.mono ?_
  rintro e w6 ⟨a1, c1, a3, c3, rfl, hol, hb6⟩
  have z6 := hb6.size
  have z5w := B5.out.size
  have D7 := hide ((Below.refl w6.heap.size w6).alloc (Nat.le_refl _) (.cells #[.slice a1 n c1, .slice a3 1 c3] 29))
  have L7 := hide (D2.new w6 (.slice a1 n c1) (.slice a3 1 c3) 29)
  have hbl : Below w5.heap.size w5 (w6.alloc (.cells #[.slice a1 n c1, .slice a3 1 c3] 29)) := hb6.trans (D7.out.mono z6)
  have k5l := K5.out.lt
  have R0 := hide (show RS w w2.heap.size w6.heap.size w.heap.size zs T (.slice (some ⟨g, 0, none⟩) zs.length c) (.slice a2 tl k2) (.slice at1 txl ct1) tx gs w5.heap.size w6.heap.size (.slice a1 n c1) (.slice a3 1 c3) (ST.take 1) (w6.alloc (.cells #[.slice a1 n c1, .slice a3 1 c3] 29)) from ⟨K5.out.below hbl k5l, owns_below O5.out hbl (Nat.le_refl _), OwI.below I5.out hbl (Nat.le_refl _), owns_below T5.out hbl (Nat.le_refl _), L7.out, hol.below D7.out (Nat.le_refl _), D7.out.size, by omega, .inr (Nat.le_refl _), by omega, B5.out.trans (hbl.mono z5w)⟩)
  clear hol hb6 hbl LD5 K5 O5 I5 T5 B5 D7
  generalize hbb : w2.heap.size = bb at *
  clear hbb
  have l7c := L7.out.c
  have q0 := l7c.1
  have q1 := l7c.2
  clear l7c L7
  go_wp2_with fail
  generalize w6.alloc (.cells #[.slice a1 n c1, .slice a3 1 c3] 29) = w7 at *
  generalize hlb : w6.heap.size = lb at *
  clear hlb
  refine (LT.out 1 _ _ _ _ _ R0.out.ol R0.out.hh (Nat.le_refl _) (by omega)).mono ?_
  rintro e w8 ⟨v8, rfl, ho8, hb8⟩
  have R1 := hide (R0.out.below hb8)
  have O8 := hide ho8
  clear ho8 hb8 R0 q0 q1
  go_wp2_with fail
  refine (SM.out _ _ _ (Rd.of_owns O8.out) (Rd.of_owns R1.out.t)).mono ?_
  rintro e w9 ⟨rfl, nq, rfl⟩
  have R2 := hide (R1.out.below (below_drewR (w := w8) (w' := w8.drewN nq) rfl rfl rfl rfl))
  generalize w8.drewN nq = w9 at *
  clear R1 O8
  go_wp2_with fail
  go_loopw [8, 9, 10] (fun li co of wr => ∃ (j s lo hi cr cs : Nat) (ar as_ : Option Addr), j ≤ txl + 1 ∧ of = .int .i64 j ∧ li = .int .i64 (lcL tx (min j txl)) ∧ co = .int .i64 (lcC tx (min j txl)) ∧ (1 ≤ s ∧ s ≤ n ∧ (j = txl + 1 → s = n)) ∧ RS w bb lb w.heap.size zs T (.slice (some ⟨g, 0, none⟩) zs.length c) (.slice a2 tl k2) (.slice at1 txl ct1) tx gs lo hi (.slice ar n cr) (.slice as_ s cs) (ST.take s) wr) (fun _ _ of _ => txl + 1 - (intOf of).toNat)
  case atStart => exact ⟨0, 1, _, _, _, _, _, _, by omega, rfl, by rw [Nat.zero_min, HZ0.out.1], by rw [Nat.zero_min, HZ0.out.2], ⟨Nat.le_refl _, by omega, fun h => by omega⟩, R2.out⟩
  case round =>
    obtain ⟨j, s, lo, hi, cr, cs, ar, as_, hj, rfl, hli, hco, hs, hR⟩ := hrel
    clear R2 HZ0
    have R := hide hR
    clear hR
    have hs1 := hs.1
    have hs2 := hs.2.1
    have HS := hide hs.2.2
    clear hs
    have tx8 := TX8.out
    by_cases hjt : j ≤ txl
    · rw [Nat.min_eq_left hjt] at hli hco
      subst hli hco
      have hjt' : (j : Int) ≤ txl := by omega
      have hbd := HP.out j hjt
      have PLj := hide (PL.out j hjt)
      have POj := hide (PO.out _ _ j (HO.out j hjt))
      have LCj := hide (LC.out j hjt)
      have LOj := hide (LO.out _ _ j (HO.out j hjt))
      have HBj := hide (HBK.out j)
      have HCj := hide (HCL.out j)
      have HML := hide (fun (h : j = txl) => (show lcL tx (min (j + 1) txl) = lcL tx j ∧ lcC tx (min (j + 1) txl) = lcC tx j from by rw [Nat.min_eq_right (by omega), h]; exact ⟨rfl, rfl⟩))
      have HMN := hide (fun (h : j < txl) => (show min (j + 1) txl = j + 1 from Nat.min_eq_left (by omega)))
      clear PL PO LC LO HBK HCL HP HO
      generalize lcL tx j = x at *
      generalize lcC tx j = y at *
      have hxx : (x != x) = false := by simp
      have hyy : (y != y) = false := by simp
      have hjj : ((j : Int) != (j : Int)) = false := by simp
      obtain ⟨q0, q1, q2, q3⟩ := R.out.cells
      go_wp2_with fail
      refine (CP.out _ _ R.out.o R.out.i).mono ?_
      rintro e x1 ⟨gc, cc, ac, kc, rfl, hoc, hic, hb⟩
      have OC := hide hoc
      have IC := hide hic
      clear hoc hic
      clear q0 q1 q2 q3
      have R11 := hide (R.out.below hb)
      clear R hb
      go_wp2_with fail
      refine (PLj.out _ _ _ _ _ _ OC.out IC.out (HG.out _ R11.out.b)).mono ?_
      rintro e x2 ⟨rfl, hb⟩
      have R12 := hide (R11.out.below hb)
      clear R11 hb
      clear OC IC
      obtain ⟨q0, q1, q2, q3⟩ := R12.out.cells
      go_wp2_with fail
      refine (CP.out _ _ R12.out.o R12.out.i).mono ?_
      rintro e x3 ⟨gc, cc, ac, kc, rfl, hoc, hic, hb⟩
      have OC := hide hoc
      have IC := hide hic
      clear hoc hic
      clear q0 q1 q2 q3
      have R13 := hide (R12.out.below hb)
      clear R12 hb
      go_wp2_with fail
      refine (POj.out _ _ _ _ _ _ OC.out IC.out (HG.out _ R13.out.b)).mono ?_
      rintro e x4 ⟨rfl, hb⟩
      have R14 := hide (R13.out.below hb)
      clear R13 hb
      clear OC IC
      obtain ⟨q0, q1, q2, q3⟩ := R14.out.cells
      go_wp2_with fail
      refine (LCj.out s _ _ _ _ _ R14.out.ol R14.out.hh hs1 hs2 (HG.out _ R14.out.b)).mono ?_
      rintro e x5 ⟨b1, d1, b2, d2, m, rfl, hm, hol, hb⟩
      clear q0 q1 q2 q3
      have R15 := hide (R14.out.below hb)
      clear R14 hb
      have DA := hide ((Below.refl x5.heap.size x5).alloc (Nat.le_refl _) (.cells #[.slice b1 n d1, .slice b2 m d2] 29))
      have LA := hide (D2.new x5 (.slice b1 n d1) (.slice b2 m d2) 29)
      have OLA := hide (hol.below DA.out (Nat.le_refl _))
      have zA := DA.out.size
      have hmm := hm.1
      have hmn := hm.2.1
      have HME := hide hm.2.2
      clear hol hm
      have hb := DA.out
      have R16 := hide (R15.out.below hb)
      clear R15 hb
      have q0 := LA.out.c.1
      have q1 := LA.out.c.2
      have lLb := R16.out.l.lt
      have neLb : x5.heap.size ≤ x5.heap.size := Nat.le_refl _
      go_wp2_with fail
      generalize hxA : x5.alloc (.cells #[.slice b1 n d1, .slice b2 m d2] 29) = xA at *
      refine (LOj.out m _ _ _ _ _ OLA.out zA (by omega) hmn (HG.out _ R16.out.b)).mono ?_
      rintro e x6 ⟨b3, d3, b4, d4, m2, rfl, hm2, hol, hb⟩
      clear q0 q1 hxA
      have R17 := hide (R16.out.below hb)
      clear R16 hb
      have DB := hide ((Below.refl x6.heap.size x6).alloc (Nat.le_refl _) (.cells #[.slice b3 n d3, .slice b4 m2 d4] 29))
      have LB := hide (D2.new x6 (.slice b3 n d3) (.slice b4 m2 d4) 29)
      have OLB := hide (hol.below DB.out (Nat.le_refl _))
      have zB := DB.out.size
      have hmm2 := hm2.1
      have hmn2 := hm2.2
      clear hol hm2 OLA LA DA
      have hb := DB.out
      have R18 := hide (R17.out.below hb)
      clear R17 hb
      have ql0 := LB.out.c.1
      have ql1 := LB.out.c.2
      obtain ⟨q0, q1, q2, q3⟩ := R18.out.cells
      have f0 := R18.out.l.fz 0
      have f1 := R18.out.l.fz 1
      have R50 := hide (R18.out.store OLB.out lLb zB)
      have hm2n : j = txl → m2 = n := fun h => by have := HME.out h; omega
      have HM2 := hide hm2n
      clear hm2n HME HS
      by_cases hjl : j < txl
      · have hjl' : (j : Int) < txl := by omega
        have hTC := R18.out.t
        obtain ⟨tb, hat, htc⟩ := HC.out _ _ _ _ _ hTC j hjl
        subst hat
        have hcs := (fun (W : World) (h : own32 W w.heap.size (.slice (some ⟨tb, 0, none⟩) txl ct1) tx) => HC.out W _ _ _ _ h j hjl)
        have htc2 : (((x6.alloc (.cells #[.slice b3 n d3, .slice b4 m2 d4] 29)).setCell ⟨lb, 0, none⟩ (.slice b3 n d3)).setCell ⟨lb, 1, none⟩ (.slice b4 m2 d4)).cell? ⟨tb, j, none⟩ = some (.int .i32 (tx.getD j 0)) := by
          obtain ⟨tb2, e2, h2⟩ := hcs _ R50.out.t
          cases e2
          exact h2
        have ntb : tb ≠ lb := fun e => by
          have h9 := own_notE hTC R18.out.l (by decide) (q := tb) rfl
          exact h9 e
        have HMj := HMN.out hjl
        have HTC2 := hide htc2
        clear hTC hcs htc2 HML HMN
        have HBx := hide (HBj.out hjl)
        have HCx := hide (HCj.out hjl)
        clear HBj HCj
        generalize tx.getD j 0 = z at *
        by_cases hz : z = 10
        · have hB := HBx.out hz
          subst hz
          obtain ⟨hB1, hB2, hB3⟩ := hB
          have PXj := hide (PX.out _ _ hB1)
          have LXj := hide (LX.out _ _ hB1)
          have HB2 := hide hB2
          have HB3 := hide hB3
          clear hB1 hB2 hB3 HBx HCx
          go_wp2_with fail
          refine (CP.out _ _ R50.out.o R50.out.i).mono ?_
          rintro e x7 ⟨gc, cc, ac, kc, rfl, hoc, hic, hb⟩
          have OC := hide hoc
          have IC := hide hic
          have R51 := hide (R50.out.below hb)
          clear hoc hic hb q0 q1 q2 q3 ql0 ql1 f0 f1 R18 R50 LB OLB DB
          go_wp2_with fail
          refine (PXj.out _ _ _ _ _ _ OC.out IC.out (HG.out _ R51.out.b)).mono ?_
          rintro e x8 ⟨rfl, hb⟩
          have R52 := hide (R51.out.below hb)
          clear hb R51 OC IC
          obtain ⟨q0, q1, q2, q3⟩ := R52.out.cells
          go_wp2_with fail
          refine (LXj.out m2 _ _ _ _ _ R52.out.ol R52.out.hh (by omega) hmn2 (HG.out _ R52.out.b)).mono ?_
          rintro e x9 ⟨e1, t1, e2, t2, rfl, hb⟩
          have R53 := hide (R52.out.below hb)
          have R54 := hide (R53.out.below ((Below.refl x9.heap.size x9).alloc (Nat.le_refl _) (.cells #[.slice e1 0 t1, .slice e2 0 t2] 29)))
          clear hb R52 R53 q0 q1 q2 q3
          go_wp2_with fail
          go_roundw
          case rel => exact ⟨j + 1, m2, _, _, _, _, _, _, by omega, by go_num, by rw [HMj, HB2.out], by rw [HMj, HB3.out], ⟨by omega, hmn2, fun h => by omega⟩, R54.out⟩
          case measure => simp [intOf]; omega
        · have hC := HCx.out hz
          have hz' : (z == 10) = false := by simp [hz]
          have HC1 := hide hC.1
          have HC2 := hide hC.2
          clear hC hz HBx HCx
          go_wp2_with fail
          go_roundw
          case rel => exact ⟨j + 1, m2, _, _, _, _, _, _, by omega, by go_num, by rw [HMj, HC1.out], by rw [HMj, HC2.out], ⟨by omega, hmn2, fun h => by omega⟩, R50.out⟩
          case measure => simp [intOf]; omega
      · have hjl' : ¬ (j : Int) < txl := by omega
        have hjE : j = txl := by omega
        have HME2 := hide (HML.out hjE)
        have HM3 := hide (HM2.out hjE)
        have HJE := hide hjE
        clear hjE HBj HCj HML HMN
        go_wp2_with fail
        go_roundw
        case rel => exact ⟨j + 1, m2, _, _, _, _, _, _, by omega, by go_num, by rw [HME2.out.1], by rw [HME2.out.2], ⟨by omega, hmn2, fun _ => HM3.out⟩, R50.out⟩
        case measure => simp [intOf]; omega
    · obtain rfl : j = txl + 1 := by omega
      rw [Nat.min_eq_right (by omega)] at hli hco
      subst hli hco
      have hsn := HS.out rfl
      subst hsn
      have hbd := HP.out txl (by omega)
      have hge : ¬ ((txl + 1 : Nat) : Int) ≤ txl := by omega
      have PXe := hide (PX.out _ _ HEN.out)
      have LXe := hide (LX.out _ _ HEN.out)
      have hel := HEL.out
      clear PL PO LC LO HBK HCL HP HO PX LX HEN HEL HS
      generalize lcL tx txl = x at *
      generalize lcC tx txl = y at *
      have hel2 : ((s : Int) == x + 1) = true := by rw [hel]; simp
      have HEL := hide hel
      clear hel
      obtain ⟨q0, q1, q2, q3⟩ := R.out.cells
      go_wp2_with fail
      refine (CP.out _ _ R.out.o R.out.i).mono ?_
      rintro e x10 ⟨gc, cc, ac, kc, rfl, hoc, hic, hb⟩
      have OC := hide hoc
      have IC := hide hic
      clear hoc hic
      clear q0 q1 q2 q3
      have R19 := hide (R.out.below hb)
      clear R hb
      go_wp2_with fail
      refine (PB.out _ _ _ _ _ _ OC.out IC.out (HG.out _ R19.out.b)).mono ?_
      rintro e x11 ⟨rfl, hb⟩
      have R20 := hide (R19.out.below hb)
      clear R19 hb
      clear OC IC
      obtain ⟨q0, q1, q2, q3⟩ := R20.out.cells
      go_wp2_with fail
      refine (CP.out _ _ R20.out.o R20.out.i).mono ?_
      rintro e x12 ⟨gc, cc, ac, kc, rfl, hoc, hic, hb⟩
      have OC := hide hoc
      have IC := hide hic
      clear hoc hic
      clear q0 q1 q2 q3
      have R21 := hide (R20.out.below hb)
      clear R20 hb
      go_wp2_with fail
      refine (PXe.out _ _ _ _ _ _ OC.out IC.out (HG.out _ R21.out.b)).mono ?_
      rintro e x13 ⟨rfl, hb⟩
      have R22 := hide (R21.out.below hb)
      clear R21 hb
      clear OC IC
      obtain ⟨q0, q1, q2, q3⟩ := R22.out.cells
      go_wp2_with fail
      refine (LXe.out s _ _ _ _ _ R22.out.ol R22.out.hh hs1 hs2 (HG.out _ R22.out.b)).mono ?_
      rintro e x14 ⟨e1, t1, e2, t2, rfl, hb⟩
      clear q0 q1 q2 q3
      have R23 := hide (R22.out.below hb)
      clear R22 hb
      have hb := (Below.refl x14.heap.size x14).alloc (Nat.le_refl _) (.cells #[.slice e1 0 t1, .slice e2 0 t2] 29)
      have R24 := hide (R23.out.below hb)
      clear R23 hb
      obtain ⟨q0, q1, q2, q3⟩ := R24.out.cells
      go_wp2_with fail
      refine (LT.out s _ _ _ _ _ R24.out.ol R24.out.hh hs1 hs2).mono ?_
      rintro e x15 ⟨v8, rfl, ho8, hb⟩
      clear q0 q1 q2 q3
      have O8 := hide ho8
      clear ho8
      have R25 := hide (R24.out.below hb)
      clear R24 hb
      go_wp2_with fail
      refine (SM.out _ _ _ (Rd.of_owns O8.out) (Rd.of_owns R25.out.t)).mono ?_
      rintro e w9 ⟨rfl, nq, rfl⟩
      have hb := below_drewR (w := x15) (w' := x15.drewN nq) rfl rfl rfl rfl
      have R26 := hide (R25.out.below hb)
      clear R25 hb
      generalize x15.drewN nq = wz at *
      clear O8
      have BZ := hide R26.out.b
      go_wp2
      go_ret
      exact ⟨rfl, BZ.out⟩
end Go.Proofs.YtbgngikejgihgagGreatDoor
