import Derived.Test.YtbgngikejgihgaeGreatDoorPsR
import Derived.Test.YtbgngikejgihgaeGreatDoorSame
import Derived.Test.YtbgngikejgihgaeGreatDoorCodeOf
namespace Go.Proofs.YtbgngikejgihgaeGreatDoor
open Go Go.RowKit Go.Sort
set_option linter.unusedVariables false

theorem strOf_btsP (l : List UInt8) : (strOf (bts l)).data.toList = l := by
  rw [strOf_list]
  induction l with
  | nil => rfl
  | cons b l ih =>
    simp only [bts, List.map_cons, List.map_map] at ih ⊢
    rw [ih]
    congr 1
    simp
theorem ba_ofP {s : ByteArray} {l : List UInt8} (h : s.data.toList = l) : s = ⟨l.toArray⟩ := by
  cases s; subst h; simp
theorem conv_allP {w : World} {v : Value} {l : List UInt8} (h : Rd .u8 w v (bts l)) : (convert 22 9 v).run Tryz.prog w = .ok (.string ⟨l.toArray⟩) w := by
  rcases Nat.eq_zero_or_pos l.length with h0 | hp
  · obtain rfl := List.eq_nil_of_length_eq_zero h0
    rcases h with ⟨ao, c, rfl, _⟩ | ⟨_, _, _, _, hp, _⟩
    · rw [run_convert_bytes_string w 22 9 5 ao 0 c Tryz.underlying22 Tryz.underlying5 Tryz.underlying9]
      cases ao with
      | none => rfl
      | some a => exact run_bytesToString w a 0 c [] rfl
    · simp [bts] at hp
  · rw [conv_str h (by rw [bts_length]; exact hp), ba_ofP (strOf_btsP l)]
/-- A script that is read, as a value. -/
def psdV (d : Psd) (vo : Value) : Value := .agg #[vo, .int .i64 d.cap, .int .i64 d.big, .int .i64 d.near, .int .i64 d.run, .int .i64 d.code, .int .i64 d.line]
theorem OwP.nil (w : World) (base : Nat) : OwP w base (.slice none 0 0) [] [] := ⟨rfl, World.ownsRow_nil _ _ _ _, fun i p v h => by simp at h, fun i j vi vj q _ h => by simp at h⟩
theorem OwP.keep {w w' : World} {base : Nat} {v : Value} {os : List Sop} {vts : List Value} (h : OwP w base v os vts) (hk : ∀ q, base ≤ q → q < w.heap.size → (∃ cs t, (t = 51 ∨ t = 5) ∧ w.heap[q]? = some (Obj.cells cs t (0, 0))) → w'.heap[q]? = w.heap[q]?) : OwP w' base v os vts :=
  ⟨h.hv, owns_of_block h.o (fun q hq => hk q (h.o.lt q hq).1 (h.o.lt q hq).2 (by obtain ⟨cs, hc⟩ := own_cells h.o hq; exact ⟨cs, _, .inl rfl, hc⟩)), fun i p v hp hv => owns_of_block (h.tx i p v hp hv) (fun q hq => hk q ((h.tx i p v hp hv).lt q hq).1 ((h.tx i p v hp hv).lt q hq).2 (by obtain ⟨cs, hc⟩ := own_cells (h.tx i p v hp hv) hq; exact ⟨cs, _, .inr rfl, hc⟩)), h.ap⟩
theorem OwP.below {w w' : World} {base : Nat} {v : Value} {os : List Sop} {vts : List Value} (h : OwP w base v os vts) (hb : Below w.heap.size w w') : OwP w' base v os vts := h.keep fun q _ hq _ => hb.block q hq
theorem OwP.base {w : World} {base base' : Nat} {v : Value} {os : List Sop} {vts : List Value} (h : OwP w base v os vts) (hb : base' ≤ base) : OwP w base' v os vts :=
  ⟨h.hv, owns_base h.o hb, fun i p v hp hv => OwB.base (h.tx i p v hp hv) hb, h.ap⟩

set_option maxHeartbeats 2000000 in
set_option maxRecDepth 100000 in
theorem implPs (L : List UInt8) (v : Value) (w : World) (h : Rd .u8 w v (bts L)) (hG : GS w) (hT : TabC w) :
    Calls Tryz.prog 6 #[v] w fun e w' => ∃ vo vts, e = .returned (psdV (psdU L) vo) ∧ OwP w' w.heap.size vo (psdU L).ops vts ∧ Below w.heap.size w w' := by
  obtain ⟨ao, c, hv⟩ : ∃ ao cap, v = .slice ao L.length cap := by
    rcases h with ⟨ao, cap, rfl, e⟩ | ⟨b, off, cap, rfl, _⟩
    · exact ⟨ao, cap, by have := congrArg List.length e; rw [bts_length] at this; rw [this]; rfl⟩
    · exact ⟨_, _, by rw [bts_length]⟩
  subst hv
  have A1 := hide ((Below.refl w.heap.size w).alloc (Nat.le_refl _) (.cells #[.slice none 0 0, .int .i64 0, .int .i64 0, .int .i64 0, .int .i64 0, .int .i64 0, .int .i64 0] 27))
  have D1 := hide (DX.new w [.slice none 0 0, .int .i64 0, .int .i64 0, .int .i64 0, .int .i64 0, .int .i64 0, .int .i64 0] 27)
  by_cases hL : 16384 < L.length
  · have ANS := hide (show psdU L = ⟨[], 0, 0, 0, 0, 14, 0⟩ by unfold psdU; rw [if_pos hL])
    have hgl : (16384 : Int) < (L.length : Int) := by omega
    have e0 := D1.out.cell (i := 0) rfl
    have e1 := D1.out.cell (i := 1) rfl
    have e2 := D1.out.cell (i := 2) rfl
    have e3 := D1.out.cell (i := 3) rfl
    have e4 := D1.out.cell (i := 4) rfl
    have e5 := D1.out.cell (i := 5) rfl
    have e6 := D1.out.cell (i := 6) rfl
    have f0 := D1.out.fz 0
    have f1 := D1.out.fz 1
    have f2 := D1.out.fz 2
    have f3 := D1.out.fz 3
    have f4 := D1.out.fz 4
    have f5 := D1.out.fz 5
    have f6 := D1.out.fz 6
    clear h hL
    go_enter Tryz.func6, Tryz.ntmps6
    go_upto_region 2 with fail
    generalize w.alloc (.cells #[.slice none 0 0, .int .i64 0, .int .i64 0, .int .i64 0, .int .i64 0, .int .i64 0, .int .i64 0] 27) = w1 at *
    go_wp2
    refine bodyPost_ret (v := .agg #[.slice none 0 0, .int .i64 0, .int .i64 0, .int .i64 0, .int .i64 0, .int .i64 14, .int .i64 0]) (by simp [results, Tryz.results6, go_sem, e0, e1, e2, e3, e4, e5, e6]) rfl ⟨.slice none 0 0, [], by rw [ANS.out]; rfl, by rw [ANS.out]; exact OwP.nil _ _, ?_⟩
    repeat (refine Below.setCell ?_ (by simp) _)
    exact A1.out
  · have hgl : ¬ (16384 : Int) < (L.length : Int) := by omega
    have CV := hide (conv_allP (h.below A1.out))
    have RL := hide (readL ⟨L.toArray⟩ (by show L.length ≤ 16384; omega) _ (hG.below A1.out) (hT.below A1.out))
    have HG := hide (hG.below A1.out)
    have PU := hide (show psdU L = if (scrU 0 (cutU 10 L) sr0).1 = 0 then ⟨(scrU 0 (cutU 10 L) sr0).2.2.ops, (scrU 0 (cutU 10 L) sr0).2.2.cap, (scrU 0 (cutU 10 L) sr0).2.2.big, (scrU 0 (cutU 10 L) sr0).2.2.near, (scrU 0 (cutU 10 L) sr0).2.2.run, 0, 0⟩ else ⟨[], 0, 0, 0, 0, (scrU 0 (cutU 10 L) sr0).1, (scrU 0 (cutU 10 L) sr0).2.1⟩ by unfold psdU; rw [if_neg hL])
    clear h hL hG hT
    go_enter Tryz.func6, Tryz.ntmps6
    go_upto_region 3 with fail
    generalize w.alloc (.cells #[.slice none 0 0, .int .i64 0, .int .i64 0, .int .i64 0, .int .i64 0, .int .i64 0, .int .i64 0] 27) = w1 at *
    have cv := CV.out
    go_wp2_with fail
    refine RL.out.mono ?_
    rintro e w2 ⟨hA, hb⟩
    have D2 := hide (D1.out.below hb)
    have B2 := hide (A1.out.trans (hb.mono A1.out.size))
    have HG2 := hide (HG.out.below hb)
    have z1 := A1.out.size
    have hlw : w.heap.size < w1.heap.size := D1.out.lt
    have hl2 := hb.size
    unfold RdA at hA
    generalize scrU 0 (cutU 10 L) sr0 = r at *
    obtain ⟨cd, ln, s⟩ := r
    simp only at hA PU
    clear hb cv CV RL A1
    rcases hA with ⟨h0, vo, vts, rfl, ho⟩ | ⟨h0, msg, rfl⟩
    · subst h0
      have PV := hide (PU.out.trans (if_pos rfl))
      obtain ⟨ua, uc, hvo⟩ := own_val5 ho.o
      subst hvo
      have OP := hide ho
      have A3 := hide ((Below.refl w2.heap.size w2).alloc (Nat.le_refl _) (.cells #[.slice ua s.ops.length uc, .int .i64 s.cap, .int .i64 s.big, .int .i64 s.near, .int .i64 s.run, .int .i64 0, .int .i64 0] 27))
      have R3 := hide (DX.new w2 [.slice ua s.ops.length uc, .int .i64 s.cap, .int .i64 s.big, .int .i64 s.near, .int .i64 s.run, .int .i64 0, .int .i64 0] 27)
      have D3 := hide (D2.out.old (.cells #[.slice ua s.ops.length uc, .int .i64 s.cap, .int .i64 s.big, .int .i64 s.near, .int .i64 s.run, .int .i64 0, .int .i64 0] 27))
      clear ho PU
      go_upto_region 4 with fail
      generalize w2.alloc (.cells #[.slice ua s.ops.length uc, .int .i64 s.cap, .int .i64 s.big, .int .i64 s.near, .int .i64 s.run, .int .i64 0, .int .i64 0] 27) = w3 at *
      generalize hrr : w2.heap.size = rr at *
      have c0 := R3.out.cell (i := 0) rfl
      have c1 := R3.out.cell (i := 1) rfl
      have c2 := R3.out.cell (i := 2) rfl
      have c3 := R3.out.cell (i := 3) rfl
      have c4 := R3.out.cell (i := 4) rfl
      have c5 := R3.out.cell (i := 5) rfl
      have c6 := R3.out.cell (i := 6) rfl
      have e0 := D3.out.cell (i := 0) rfl
      have e1 := D3.out.cell (i := 1) rfl
      have e2 := D3.out.cell (i := 2) rfl
      have e3 := D3.out.cell (i := 3) rfl
      have e4 := D3.out.cell (i := 4) rfl
      have e5 := D3.out.cell (i := 5) rfl
      have e6 := D3.out.cell (i := 6) rfl
      have f0 := D3.out.fz 0
      have f1 := D3.out.fz 1
      have f2 := D3.out.fz 2
      have f3 := D3.out.fz 3
      have f4 := D3.out.fz 4
      have f5 := D3.out.fz 5
      have f6 := D3.out.fz 6
      have hne : ¬ rr = w.heap.size := by omega
      have hne2 : ¬ w.heap.size = rr := by omega
      go_wp2
      refine bodyPost_ret (v := .agg #[.slice ua s.ops.length uc, .int .i64 s.cap, .int .i64 s.big, .int .i64 s.near, .int .i64 s.run, .int .i64 0, .int .i64 0]) (by simp [results, Tryz.results6, go_sem, e0, e1, e2, e3, e4, e5, e6]) rfl ⟨.slice ua s.ops.length uc, vts, by rw [PV.out]; rfl, ?_, ?_⟩
      · rw [PV.out]
        refine ((OP.out.below (hrr ▸ A3.out)).base z1).keep (fun q hq1 hq2 hq3 => ?_)
        have hqw : q ≠ w.heap.size := fun e => by
          obtain ⟨cs, t, ht, hc⟩ := hq3
          have hd := D3.out
          unfold DX at hd
          rw [e, hd] at hc
          simp only [Option.some.injEq] at hc
          injection hc with _ h2 _
          rcases ht with ht | ht
          · rw [ht] at h2; exact absurd h2 (by decide)
          · rw [ht] at h2; exact absurd h2 (by decide)
        repeat rw [heap_setCell_other _ _ _ _ (by show q ≠ w.heap.size; exact hqw)]
      · repeat (refine Below.setCell ?_ (by simp) _)
        exact B2.out.trans (A3.out.mono (by omega))
    · have PV := hide (PU.out.trans (if_neg h0))
      have A3 := hide ((Below.refl w2.heap.size w2).alloc (Nat.le_refl _) (.cells #[.slice none 0 0, .int .i64 0, .int .i64 0, .int .i64 0, .int .i64 0, .int .i64 0, .int .i64 0] 27))
      have D3 := hide (D2.out.old (.cells #[.slice none 0 0, .int .i64 0, .int .i64 0, .int .i64 0, .int .i64 0, .int .i64 0, .int .i64 0] 27))
      have CO := hide (codeOf msg cd _ (HG2.out.below A3.out).eh)
      clear PU h0
      go_upto_region 5 with fail
      generalize w2.alloc (.cells #[.slice none 0 0, .int .i64 0, .int .i64 0, .int .i64 0, .int .i64 0, .int .i64 0, .int .i64 0] 27) = w3 at *
      go_wp2_with fail
      refine CO.out.mono ?_
      rintro e w4 ⟨rfl, hb4⟩
      have D4 := hide (D3.out.below hb4)
      have B4 := hide ((B2.out.trans (A3.out.mono (by omega))).trans (hb4.mono (by have := A3.out.size; omega)))
      have e0 := D4.out.cell (i := 0) rfl
      have e1 := D4.out.cell (i := 1) rfl
      have e2 := D4.out.cell (i := 2) rfl
      have e3 := D4.out.cell (i := 3) rfl
      have e4 := D4.out.cell (i := 4) rfl
      have e5 := D4.out.cell (i := 5) rfl
      have e6 := D4.out.cell (i := 6) rfl
      have f0 := D4.out.fz 0
      have f1 := D4.out.fz 1
      have f2 := D4.out.fz 2
      have f3 := D4.out.fz 3
      have f4 := D4.out.fz 4
      have f5 := D4.out.fz 5
      have f6 := D4.out.fz 6
      clear hb4 CO D3
      go_wp2
      refine bodyPost_ret (v := .agg #[.slice none 0 0, .int .i64 0, .int .i64 0, .int .i64 0, .int .i64 0, .int .i64 cd, .int .i64 ln]) (by simp [results, Tryz.results6, go_sem, e0, e1, e2, e3, e4, e5, e6]) rfl ⟨.slice none 0 0, [], by rw [PV.out]; rfl, by rw [PV.out]; exact OwP.nil _ _, ?_⟩
      repeat (refine Below.setCell ?_ (by simp) _)
      exact B4.out
end Go.Proofs.YtbgngikejgihgaeGreatDoor
