import Derived.Test.YtbgngikejgihgadGreatDoorMq07
import Derived.Test.YtbgngikejgihgadGreatDoorMq10
namespace Go.Proofs.YtbgngikejgihgadGreatDoor
open Go Go.RowKit Go.Sort
set_option linter.unusedVariables false

/-- What a line with its end says. -/
def rdU (l : List UInt8) : Int × Mk := if l.getLast? = some 10 then parsU l.dropLast else (16, (0, 0, 0))
def rdOut (l : List UInt8) : Value := if (rdU l).1 = 0 then .tuple #[mkA (rdU l).2, .nilIface] else .tuple #[mkA (0, 0, 0), fltV (rdU l).1]
theorem rdOut_bad {l : List UInt8} {c : Int} (h : (rdU l).1 = c) (h0 : c ≠ 0) : rdOut l = .tuple #[mkA (0, 0, 0), fltV c] := by
  unfold rdOut; rw [h, if_neg h0]
theorem rdOut_ok {l : List UInt8} {m : Mk} (h : rdU l = (0, m)) : rdOut l = .tuple #[mkA m, .nilIface] := by
  unfold rdOut; rw [h, if_pos rfl]
theorem conv_any {w : World} {v : Value} {l : List UInt8} (h : Rd .u8 w v (bts l)) (hp : 0 < l.length) : (convert 22 9 v).run Tryz.prog w = .ok (.string ⟨l.toArray⟩) w := by
  rw [conv_str h (by rw [bts_length]; exact hp), ba_of (strOf_bts l)]

set_option maxHeartbeats 4000000 in
set_option maxRecDepth 100000 in
theorem readMarkL (l : List UInt8) (v : Value) (w : World) (h : Rd .u8 w v (bts l)) (hp : 0 < l.length) (hl : l.length ≤ 8192) (hG : GS w) :
    Calls Tryz.prog 32 #[v] w fun e w' => e = .returned (rdOut l) ∧ Below w.heap.size w w' := by
  have CV := conv_any (h.below ((Below.refl w.heap.size w).alloc (Nat.le_refl _) (.cells #[.int .i64 0, .int .i64 0, .int .i64 0] 37))) hp
  obtain ⟨va, vc, hv⟩ : ∃ ao cap, v = .slice ao l.length cap := by
    rcases h with ⟨ao, cap, rfl, e⟩ | ⟨b, off, cap, rfl, _⟩
    · exact ⟨ao, cap, by have := congrArg List.length e; rw [bts_length] at this; rw [this]; rfl⟩
    · exact ⟨_, _, by rw [bts_length]⟩
  subst hv
  generalize hs : (⟨l.toArray⟩ : ByteArray) = s at CV
  have hsl : s.data.toList = l := by rw [← hs]
  have hsz : s.size ≤ 8192 := by rw [Lib.size_eq, hsl]; exact hl
  have CS := hide (fun W => cutSufW s hsz W)
  rw [hsl] at CS
  have GB := hide (fun (W : World) (hW : Below w.heap.size w W) => hG.below hW)
  have A0 := hide ((Below.refl w.heap.size w).alloc (Nat.le_refl _) (.cells #[.int .i64 0, .int .i64 0, .int .i64 0] 37))
  have hlen := l.length
  clear hG hs h
  by_cases he : l.getLast? = some 10
  · simp only [if_pos he] at CS
    generalize ht : (⟨l.dropLast.toArray⟩ : ByteArray) = t at CS
    have htl : t.data.toList = l.dropLast := by rw [← ht]
    have htz : t.size ≤ 20000 := by rw [Lib.size_eq, htl, List.length_dropLast]; omega
    have SP := hide (fun (W : World) (hW : Below w.heap.size w W) => splitW t htz 32 W (GB.out W hW))
    rw [htl] at SP
    have RU := hide (show rdU l = parsU l.dropLast by unfold rdU; rw [if_pos he])
    have PSZ := hide (cutU_size 32 l.dropLast)
    have hdl : l.dropLast.length ≤ 8192 := by rw [List.length_dropLast]; omega
    clear ht htl htz
    go_enter Tryz.func32, Tryz.ntmps32
    go_wp2_with fail
    refine (CS.out _).mono ?_
    rintro e w1 ⟨rfl, hw1⟩
    have hw1' := hw1.symm
    subst hw1'
    go_wp2_with fail
    refine (SP.out _ A0.out).mono ?_
    rintro e w2 ⟨ws, hws, rfl, hw2⟩
    have B2 := hide (show Below w.heap.size w w2 from hw2 ▸ A0.out.alloc (by simp) _)
    have KM := hide (show DX w2 w.heap.size [.int .i64 0, .int .i64 0, .int .i64 0] 37 from hw2 ▸ (DX.new w [.int .i64 0, .int .i64 0, .int .i64 0] 37).old _)
    have KW := hide (show DX w2 (w.heap.size + 1) (ws.map Value.string) 9 from hw2 ▸ (by have h9 := DX.new (w.alloc (.cells #[.int .i64 0, .int .i64 0, .int .i64 0] 37)) (ws.map Value.string) 9; rw [World.size_alloc] at h9; exact h9))
    have hsz2 : w.heap.size + 1 < w2.heap.size := KW.out.lt
    have c0 := KM.out.cell (i := 0) rfl
    have c1 := KM.out.cell (i := 1) rfl
    have c2 := KM.out.cell (i := 2) rfl
    have f0 := KM.out.fz 0
    have f1 := KM.out.fz 1
    have f2 := KM.out.fz 2
    clear hw2 CV
    by_cases h3 : ws.length = 3
    · match ws, h3 with
      | [a, b, g], _ =>
        have PC := hide (show cutU 32 l.dropLast = [a.data.toList, b.data.toList, g.data.toList] from hws.symm)
        have hpa := PSZ.out a.data.toList (by rw [PC.out]; simp)
        have hpb := PSZ.out b.data.toList (by rw [PC.out]; simp)
        have d0 : w2.cell? ⟨w.heap.size + 1, 0, none⟩ = some (.string a) := KW.out.cell (i := 0) rfl
        have RA := hide (readNumL a 10 w2 (by rw [Lib.size_eq]; omega) (by omega) (GB.out w2 B2.out))
        have NB := hide (fun (W : World) (hW : Below w.heap.size w W) => readNumL b 10 W (by rw [Lib.size_eq]; omega) (by omega) (GB.out W hW))
        clear hws PSZ hpa hpb SP CS
        cases hna : numU a.data.toList 10 with
        | none =>
          have RO := hide (rdOut_bad (l := l) (c := 17) (by rw [RU.out, parsU_num PC.out (.inl hna)]) (by omega))
          have NO := hide (show numOut a.data.toList 10 = .tuple #[.int .i64 0, fltV 17] by unfold numOut; rw [hna])
          rw [NO.out] at RA
          clear hna
          unfold fltV at RA
          go_wp2_with fail
          refine RA.out.mono ?_
          rintro e w3 ⟨rfl, hb3⟩
          have B3 := hide (B2.out.trans (hb3.mono B2.out.size))
          have KM3 := hide (KM.out.below hb3)
          have c0 := KM3.out.cell (i := 0) rfl
          have c1 := KM3.out.cell (i := 1) rfl
          have c2 := KM3.out.cell (i := 2) rfl
          have f0 := KM3.out.fz 0
          have f1 := KM3.out.fz 1
          have f2 := KM3.out.fz 2
          clear hb3
          go_wp2
          refine bodyPost_ret (v := .tuple #[mkA (0, 0, 0), fltV 17]) (by simp [results, Tryz.results32, go_sem, c0, c1, c2, mkA, fltV]) rfl ⟨by rw [RO.out], ?_⟩
          repeat (refine Below.setCell ?_ (by simp) _)
          exact B3.out
        | some ia =>
          have NO := hide (show numOut a.data.toList 10 = .tuple #[.int .i64 ia, .nilIface] by unfold numOut; rw [hna])
          rw [NO.out] at RA
          go_wp2_with fail
          refine RA.out.mono ?_
          rintro e w3 ⟨rfl, hb3⟩
          have B3 := hide (B2.out.trans (hb3.mono B2.out.size))
          have KM3 := hide (KM.out.below hb3)
          have KW3 := hide (KW.out.below hb3)
          have c0 := KM3.out.cell (i := 0) rfl
          have f0 := KM3.out.fz 0
          have X4 := hide (B3.out.setCell (p := ⟨w.heap.size, 0, none⟩) (by simp) (.int .i64 ia))
          have KM4 := hide (KM3.out.set 0 (.int .i64 ia))
          have KW4 := hide (KW3.out.other (p := ⟨w.heap.size, 0, none⟩) (u := .int .i64 ia) (by show w.heap.size + 1 ≠ w.heap.size; omega))
          clear hb3 RA
          go_upto_region 8 with fail
          generalize w3.setCell ⟨w.heap.size, 0, none⟩ (.int .i64 ia) = w4 at *
          clear c0 c1 c2 f0 f1 f2
          have d1 : w4.cell? ⟨w.heap.size + 1, 1, none⟩ = some (.string b) := KW4.out.cell (i := 1) rfl
          have RB := hide (NB.out w4 X4.out)
          have hl4 := KW4.out.lt
          cases hnb : numU b.data.toList 10 with
          | none =>
            have RO := hide (rdOut_bad (l := l) (c := 17) (by rw [RU.out, parsU_num PC.out (.inr hnb)]) (by omega))
            have NO := hide (show numOut b.data.toList 10 = .tuple #[.int .i64 0, fltV 17] by unfold numOut; rw [hnb])
            rw [NO.out] at RB
            unfold fltV at RB
            go_wp2_with fail
            refine RB.out.mono ?_
            rintro e w5 ⟨rfl, hb5⟩
            have B5 := hide (X4.out.trans (hb5.mono X4.out.size))
            have KM5 := hide (KM4.out.below hb5)
            have c0 := KM5.out.cell (i := 0) rfl
            have c1 := KM5.out.cell (i := 1) rfl
            have c2 := KM5.out.cell (i := 2) rfl
            have f0 := KM5.out.fz 0
            have f1 := KM5.out.fz 1
            have f2 := KM5.out.fz 2
            clear hb5
            go_wp2
            refine bodyPost_ret (v := .tuple #[mkA (0, 0, 0), fltV 17]) (by simp [results, Tryz.results32, go_sem, c0, c1, c2, mkA, fltV]) rfl ⟨by rw [RO.out], ?_⟩
            repeat (refine Below.setCell ?_ (by simp) _)
            exact B5.out
          | some ib =>
            have RO := hide (rdOut_ok (l := l) (m := (ia, ib, grU g.data.toList)) (by rw [RU.out, parsU_ok PC.out hna hnb]))
            have NO := hide (show numOut b.data.toList 10 = .tuple #[.int .i64 ib, .nilIface] by unfold numOut; rw [hnb])
            rw [NO.out] at RB
            go_wp2_with fail
            refine RB.out.mono ?_
            rintro e w5 ⟨rfl, hb5⟩
            have B5 := hide (X4.out.trans (hb5.mono X4.out.size))
            have KM5 := hide (KM4.out.below hb5)
            have KW5 := hide (KW4.out.below hb5)
            have c0 := KM5.out.cell (i := 0) rfl
            have c1 := KM5.out.cell (i := 1) rfl
            have c2 := KM5.out.cell (i := 2) rfl
            have f0 := KM5.out.fz 0
            have f1 := KM5.out.fz 1
            have f2 := KM5.out.fz 2
            have d2 : w5.cell? ⟨w.heap.size + 1, 2, none⟩ = some (.string g) := KW5.out.cell (i := 2) rfl
            have hl5 := KW5.out.lt
            have GV := hide (fun W => gravL g W)
            generalize grU g.data.toList = gv at *
            clear hb5
            go_wp2_with fail
            refine (GV.out _).mono ?_
            rintro e w6 ⟨rfl, hw6⟩
            have KM6 := hide (show DX w6 w.heap.size [.int .i64 ia, .int .i64 ib, .int .i64 0] 37 from hw6 ▸ KM5.out.set 1 (.int .i64 ib))
            have B6 := hide (show Below w.heap.size w w6 from hw6 ▸ B5.out.setCell (p := ⟨w.heap.size, 1, none⟩) (by simp) (.int .i64 ib))
            clear hw6 c0 c1 c2 f0 f1 f2 d2
            have c0 := KM6.out.cell (i := 0) rfl
            have c1 := KM6.out.cell (i := 1) rfl
            have c2 := KM6.out.cell (i := 2) rfl
            have f0 := KM6.out.fz 0
            have f1 := KM6.out.fz 1
            have f2 := KM6.out.fz 2
            go_wp2
            refine bodyPost_ret (v := .tuple #[mkA (ia, ib, gv), .nilIface]) (by simp [results, Tryz.results32, go_sem, c0, c1, c2, mkA]) rfl ⟨by rw [RO.out], ?_⟩
            repeat (refine Below.setCell ?_ (by simp) _)
            exact B6.out
    · have RO := hide (rdOut_bad (l := l) (c := 16) (by rw [RU.out, parsU_args (by rw [← hws, List.length_map]; exact h3)]) (by omega))
      have hne : ((ws.length : Int) != 3) = true := by simp; omega
      generalize ws.length = wn at *
      clear hws PSZ SP CS KW hsz2
      go_wp2
      refine bodyPost_ret (v := .tuple #[mkA (0, 0, 0), fltV 16]) (by simp [results, Tryz.results32, go_sem, c0, c1, c2, mkA, fltV]) rfl ⟨by rw [RO.out], ?_⟩
      exact ((B2.out.setCell (by simp) _).setCell (by simp) _).setCell (by simp) _
  · simp only [if_neg he] at CS
    have RO := hide (rdOut_bad (l := l) (c := 16) (by unfold rdU; rw [if_neg he]) (by omega))
    have SP := hide (fun (W : World) (hW : Below w.heap.size w W) => splitW s (by omega) 32 W (GB.out W hW))
    clear he
    go_enter Tryz.func32, Tryz.ntmps32
    go_wp2_with fail
    refine (CS.out _).mono ?_
    rintro e w1 ⟨rfl, hw1⟩
    have hw1' := hw1.symm
    subst hw1'
    go_wp2_with fail
    refine (SP.out _ A0.out).mono ?_
    rintro e w2 ⟨ws, hws, rfl, hw2⟩
    have B2 := hide (show Below w.heap.size w w2 from hw2 ▸ A0.out.alloc (by simp) _)
    have KM := hide (show DX w2 w.heap.size [.int .i64 0, .int .i64 0, .int .i64 0] 37 from hw2 ▸ (DX.new w [.int .i64 0, .int .i64 0, .int .i64 0] 37).old _)
    have c0 := KM.out.cell (i := 0) rfl
    have c1 := KM.out.cell (i := 1) rfl
    have c2 := KM.out.cell (i := 2) rfl
    have f0 := KM.out.fz 0
    have f1 := KM.out.fz 1
    have f2 := KM.out.fz 2
    clear hw2 hws CV
    go_wp2
    refine bodyPost_ret (v := .tuple #[mkA (0, 0, 0), fltV 16]) (by simp [results, Tryz.results32, go_sem, c0, c1, c2, mkA, fltV]) rfl ⟨by rw [RO.out], ?_⟩
    exact ((B2.out.setCell (by simp) _).setCell (by simp) _).setCell (by simp) _
end Go.Proofs.YtbgngikejgihgadGreatDoor

namespace Go.Proofs.YtbgngikejgihgadGreatDoor
open Go Go.RowKit Go.Sort
set_option linter.unusedVariables false

/-- The code of a line with its end behind a table. -/
def lnU (t : List Mk) (l : List UInt8) : Int := if (rdU l).1 = 0 then addErr t (rdU l).2 else (rdU l).1
def rdMsg : ByteArray := { data := #[114, 101, 97, 100, 105, 110, 103, 32, 97, 32, 109, 97, 114, 107] }

set_option maxHeartbeats 4000000 in
set_option maxRecDepth 100000 in
theorem addLineBad (tb : Nat) (xs : List Mk) (u : Value) (l : List UInt8) (v : Value) (w : World) (ht : Tb w tb u) (ho : RdM w.heap.size w u xs) (hn : xs.length ≤ 1048576) (h : Rd .u8 w v (bts l)) (hp : 0 < l.length) (hl : l.length ≤ 8192) (hG : GS w) (hc : lnU xs l ≠ 0) :
    Calls Tryz.prog 22 #[.pointer (some ⟨tb, 0, none⟩), v] w fun e w' => (∃ msg, e = .returned (refV msg (lnU xs l))) ∧ Below w.heap.size w w' := by
  have RM := hide (readMarkL l v w h hp hl hG)
  by_cases h0 : (rdU l).1 = 0
  · have LC := hide (show lnU xs l = addErr xs (rdU l).2 by unfold lnU; rw [if_pos h0])
    have RO := hide (show rdOut l = .tuple #[mkA (rdU l).2, .nilIface] by unfold rdOut; rw [if_pos h0])
    have AE := hide (fun W U hT hO => addErrL tb xs U (rdU l).2 W hT hO hn (by rw [← LC.out]; exact hc))
    rw [RO.out] at RM
    generalize (rdU l).2 = m at *
    have T0 := hide ht
    have O0 := hide ho
    have hlt := ht.lt
    clear ht ho hG h hc h0 RO
    have hA : mkA m = .agg #[.int .i64 m.1, .int .i64 m.2.1, .int .i64 m.2.2] := rfl
    rw [hA] at RM
    go_enter Tryz.func22, Tryz.ntmps22
    go_wp2_with fail
    refine RM.out.mono ?_
    rintro e w1 ⟨rfl, hb1⟩
    have B2 := hide (hb1.alloc hb1.size (.cells #[.int .i64 m.1, .int .i64 m.2.1, .int .i64 m.2.2] 37))
    clear hb1
    go_wp2_with fail
    refine (AE.out _ u (T0.out.below B2.out hlt) ((O0.out.below B2.out (Nat.le_refl _)).mono B2.out.size)).mono ?_
    rintro e w3 ⟨rfl, hb3⟩
    have B3 := hide (B2.out.trans (hb3.mono B2.out.size))
    clear hb3
    go_wp2
    refine bodyPost_ret (v := refV addMsg (addErr xs m)) (by simp [results, Tryz.results22, go_sem]) rfl ⟨⟨addMsg, by rw [LC.out]⟩, B3.out⟩
  · have LC := hide (show lnU xs l = (rdU l).1 by unfold lnU; rw [if_neg h0])
    have RO := hide (show rdOut l = .tuple #[mkA (0, 0, 0), fltV (rdU l).1] by unfold rdOut; rw [if_neg h0])
    rw [RO.out] at RM
    generalize (rdU l).1 = c at *
    unfold mkA fltV at RM
    clear ht ho hG h hc h0 RO
    go_enter Tryz.func22, Tryz.ntmps22
    go_wp2_with fail
    refine RM.out.mono ?_
    rintro e w1 ⟨rfl, hb1⟩
    have B2 := hide (hb1.alloc hb1.size (.cells #[.int .i64 0, .int .i64 0, .int .i64 0] 37))
    clear hb1
    go_wp2
    refine bodyPost_ret (v := refV rdMsg c) (by simp [results, Tryz.results22, go_sem, refV, rdMsg]) rfl ⟨⟨rdMsg, by rw [LC.out]⟩, B2.out⟩

set_option maxHeartbeats 4000000 in
set_option maxRecDepth 100000 in
theorem addLineOk (tb : Nat) (xs : List Mk) (u : Value) (l : List UInt8) (v : Value) (w : World) (base : Nat) (hb : base ≤ w.heap.size) (ht : Tb w tb u) (ho : OwM w base u xs) (hn : xs.length ≤ 1048576) (h : Rd .u8 w v (bts l)) (hp : 0 < l.length) (hl : l.length ≤ 8192) (hG : GS w) (hc : lnU xs l = 0) :
    Calls Tryz.prog 22 #[.pointer (some ⟨tb, 0, none⟩), v] w fun e w' => e = .returned .nilIface ∧ ∃ u', Tb w' tb u' ∧ OwM w' base u' (xs ++ [(rdU l).2]) ∧ (∀ B, B ≤ tb → B ≤ base → B ≤ w.heap.size → Below B w w') ∧ ∀ k, k < w.heap.size → k ≠ tb → some k ≠ Value.ownBlock u → w'.heap[k]? = w.heap[k]? := by
  have RM := hide (readMarkL l v w h hp hl hG)
  have h0 : (rdU l).1 = 0 := by
    unfold lnU at hc
    by_cases h0 : (rdU l).1 = 0
    · exact h0
    · rw [if_neg h0] at hc; exact hc
  have LC := hide (show addErr xs (rdU l).2 = 0 by unfold lnU at hc; rw [if_pos h0] at hc; exact hc)
  have RO := hide (show rdOut l = .tuple #[mkA (rdU l).2, .nilIface] by unfold rdOut; rw [if_pos h0])
  have AE := hide (fun W U hB hT hO => addOkS tb xs U (rdU l).2 W base hT hB hO hn LC.out)
  rw [RO.out] at RM
  generalize (rdU l).2 = m at *
  have T0 := hide ht
  have O0 := hide ho
  have HB := hide hb
  have hlt := ht.lt
  clear ht ho hG h hc h0 RO hb
  have hA : mkA m = .agg #[.int .i64 m.1, .int .i64 m.2.1, .int .i64 m.2.2] := rfl
  rw [hA] at RM
  go_enter Tryz.func22, Tryz.ntmps22
  go_wp2_with fail
  refine RM.out.mono ?_
  rintro e w1 ⟨rfl, hb1⟩
  have B2 := hide (hb1.alloc hb1.size (.cells #[.int .i64 m.1, .int .i64 m.2.1, .int .i64 m.2.2] 37))
  clear hb1
  go_wp2_with fail
  refine (AE.out _ u (Nat.le_trans HB.out B2.out.size) (T0.out.below B2.out hlt) (owns_below O0.out B2.out (Nat.le_refl _))).mono ?_
  rintro e w3 ⟨rfl, u', T3, O3, hb3, hk3⟩
  have B3 := hide (fun B h1 h2 h3 => (B2.out.mono h3).trans (hb3 B h1 h2 (Nat.le_trans h3 B2.out.size)))
  have T3 := hide T3
  have O3 := hide O3
  have K3 := hide (fun k h1 h2 h3 => (hk3 k (Nat.lt_of_lt_of_le h1 B2.out.size) h2 h3).trans (B2.out.block k h1))
  clear hb3 hk3
  go_wp2
  refine bodyPost_ret (v := .nilIface) (by simp [results, Tryz.results22, go_sem]) rfl ⟨rfl, u', T3.out, O3.out, B3.out, K3.out⟩
end Go.Proofs.YtbgngikejgihgadGreatDoor

namespace Go.Proofs.YtbgngikejgihgadGreatDoor
open Go Go.RowKit Go.Sort
set_option linter.unusedVariables false

/-- The lines of a text with their ends, out of its parts. -/
def endU : List (List UInt8) → List (List UInt8)
  | [] => []
  | [q] => if q = [] then [] else [q]
  | p :: q :: ps => (p ++ [10]) :: endU (q :: ps)
def lnsU (l : List UInt8) : List (List UInt8) := endU (cutU 10 l)
theorem lnsU_nil : lnsU [] = [] := by
  unfold lnsU; rw [cutU_none (by simp)]; rfl
theorem lnsU_last {l : List UInt8} (h : (10 : UInt8) ∉ l) (hn : l ≠ []) : lnsU l = [l] := by
  unfold lnsU; rw [cutU_none h]; simp [endU, hn]
theorem lnsU_hit {a : List UInt8} (b : List UInt8) (h : (10 : UInt8) ∉ a) : lnsU (a ++ 10 :: b) = (a ++ [10]) :: lnsU b := by
  unfold lnsU
  rw [cutU_hit b h]
  cases hc : cutU 10 b with
  | nil => exact absurd hc (cutU_ne 10 b)
  | cons q ps => rfl

/-- The lines are read, one after another. -/
def runU : List Mk → Nat → List (List UInt8) → List Mk × Int × Int
  | t, _, [] => (t, 0, 0)
  | t, i, l :: ls => if lnU t l = 0 then runU (t ++ [(rdU l).2]) (i + 1) ls else ([], lnU t l, (i : Int) + 1)
theorem runU_ok {t : List Mk} {l : List UInt8} (h : lnU t l = 0) (i : Nat) (ls : List (List UInt8)) : runU t i (l :: ls) = runU (t ++ [(rdU l).2]) (i + 1) ls := by rw [runU, if_pos h]
theorem runU_bad {t : List Mk} {l : List UInt8} (h : lnU t l ≠ 0) (i : Nat) (ls : List (List UInt8)) : runU t i (l :: ls) = ([], lnU t l, (i : Int) + 1) := by rw [runU, if_neg h]

theorem rdU_end (p : List UInt8) : rdU (p ++ [10]) = parsU p := by
  unfold rdU; rw [if_pos (by simp), List.dropLast_concat]
theorem lnU_end (t : List Mk) (p : List UInt8) : lnU t (p ++ [10]) = codeU t p := by
  unfold lnU codeU; rw [rdU_end]
theorem lnU_open (t : List Mk) {q : List UInt8} (h : (10 : UInt8) ∉ q) : lnU t q = 16 := by
  have h1 : rdU q = (16, (0, 0, 0)) := by
    unfold rdU
    rw [if_neg fun e => h (List.mem_of_getLast? e)]
  unfold lnU
  rw [h1, if_neg (by decide)]
theorem impU_run : ∀ (c : List (List UInt8)) (t : List Mk) (i : Nat), c ≠ [] → (∀ p ∈ c, (10 : UInt8) ∉ p) → impU t i c = runU t i (endU c)
  | [], _, _, h, _ => absurd rfl h
  | [q], t, i, _, hp => by
    rw [impU_last]
    by_cases hq : q = []
    · subst hq; simp [endU, runU]
    · rw [if_neg (by simpa using hq), show endU [q] = [q] by simp [endU, hq], runU_bad (by rw [lnU_open t (hp q (by simp))]; decide), lnU_open t (hp q (by simp))]
  | p :: q :: ps, t, i, _, hp => by
    show impU t i (p :: q :: ps) = runU t i ((p ++ [10]) :: endU (q :: ps))
    by_cases hc : codeU t p = 0
    · rw [impU_step (by simp) hc, runU_ok (by rw [lnU_end]; exact hc), rdU_end]
      exact impU_run (q :: ps) _ _ (by simp) fun x hx => hp x (by simp at hx ⊢; exact .inr hx)
    · rw [impU_bad (by simp) hc, runU_bad (by rw [lnU_end]; exact hc), lnU_end]
theorem impAns_run {l : List UInt8} (h : l.length ≤ 8192) : impAns l = runU [] 0 (lnsU l) := by
  unfold impAns lnsU
  rw [if_neg (by omega)]
  exact impU_run _ _ _ (cutU_ne 10 l) (cutU_parts (c := 10) (l := l))
theorem addErr_len {t : List Mk} {m : Mk} (h : addErr t m = 0) : t.length < 128 := by
  unfold addErr at h
  repeat' split at h
  all_goals first | omega | (cases h; done) | skip
theorem lnU_len {t : List Mk} {l : List UInt8} (h : lnU t l = 0) : t.length < 128 := by
  unfold lnU at h
  split at h
  · exact addErr_len h
  · contradiction

/-- A line that came, of a text. -/
def Ln (L : List UInt8) : Type := {x : Nat × Nat // 0 < x.2 ∧ x.1 + x.2 ≤ L.length}
def Ln.tx {L : List UInt8} (x : Ln L) : List UInt8 := (L.drop x.1.1).take x.1.2
theorem Ln.len {L : List UInt8} (x : Ln L) : x.tx.length = x.1.2 := by
  unfold Ln.tx; have := x.2; simp; omega
/-- What came, and the table behind it. -/
def Ran {L : List UInt8} (pre : List (Ln L)) (t : List Mk) : Prop := ∀ rest, runU [] 0 (pre.map Ln.tx ++ rest) = runU t pre.length rest
theorem Ran.nil {L : List UInt8} : Ran ([] : List (Ln L)) [] := fun rest => rfl
theorem Ran.snoc {L : List UInt8} {pre : List (Ln L)} {t : List Mk} (h : Ran pre t) {x : Ln L} (hx : lnU t x.tx = 0) : Ran (pre ++ [x]) (t ++ [(rdU x.tx).2]) := fun rest => by
  rw [List.map_append, List.append_assoc, h, List.length_append]
  exact runU_ok hx _ _
theorem Ran.stop {L : List UInt8} {pre : List (Ln L)} {t : List Mk} (h : Ran pre t) {x : Ln L} (hx : lnU t x.tx ≠ 0) (rest : List (List UInt8)) : runU [] 0 ((pre ++ [x]).map Ln.tx ++ rest) = ([], lnU t x.tx, (pre.length : Int) + 1) := by
  rw [List.map_append, List.append_assoc, h]
  exact runU_bad hx _ _
theorem Ran.all {L : List UInt8} {pre : List (Ln L)} {t : List Mk} (h : Ran pre t) (hs : pre.map Ln.tx = lnsU L) (hl : L.length ≤ 8192) : impAns L = (t, 0, 0) := by
  rw [impAns_run hl, ← hs]
  have h1 := h []
  rw [List.append_nil] at h1
  rw [h1]; rfl
theorem Ran.end {L : List UInt8} {pre : List (Ln L)} {t : List Mk} (h : Ran pre t) {x : Ln L} (hx : lnU t x.tx ≠ 0) (hs : (pre ++ [x]).map Ln.tx <+: lnsU L) (hl : L.length ≤ 8192) : impAns L = ([], lnU t x.tx, (pre.length : Int) + 1) := by
  obtain ⟨r, hr⟩ := hs
  rw [impAns_run hl, ← hr]
  exact h.stop hx r
end Go.Proofs.YtbgngikejgihgadGreatDoor
