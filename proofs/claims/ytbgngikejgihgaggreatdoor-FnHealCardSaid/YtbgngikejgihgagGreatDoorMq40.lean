import Derived.Test.YtbgngikejgihgagGreatDoorMq36
namespace Go.Proofs.YtbgngikejgihgagGreatDoor
open Go Go.RowKit
set_option linter.unusedVariables false

set_option maxHeartbeats 1000000 in
set_option maxRecDepth 100000 in
theorem faceI (q : Option Addr) (n cap : Nat) (ao : Option Addr) (m cap' : Nat) (off : Int) (tx : Option Addr) (tl ct : Nat) (RS : List Int) (RI : List It) (K : Int) (NX : Nat → World → Prop) (NY : Nat → Value → World → Prop) (w : World)
    (HRP : Hid (Calls Tryz.prog 78 #[.agg #[.slice q n cap, .slice ao m cap']] ((w.alloc (.cells #[.slice q n cap, .slice ao m cap'] 69)).alloc (.cells #[.slice none 0 0, .slice none 0 0] 69)) fun e w1 => ∃ c, e = .returned (.tuple #[.pointer (some ⟨c, 0, none⟩), .nilIface]) ∧ NX c w1))
    (HNX : Hid (∀ c w1, NX c w1 → Calls Tryz.prog 64 #[.iface 130 (.pointer (some ⟨c, 0, none⟩)), .int .i64 off, .slice tx tl ct] w1 fun e w2 => ∃ ev, e = .returned ev ∧ NY c ev w2))
    (HNY : Hid (∀ c ev w2, NY c ev w2 → Below (w.heap.size + 2) ((w.alloc (.cells #[.slice q n cap, .slice ao m cap'] 69)).alloc (.cells #[.slice none 0 0, .slice none 0 0] 69)) w2 ∧ Calls Tryz.prog 79 #[.pointer (some ⟨c, 0, none⟩), ev] w2 (TellPost w2 RS RI K))) :
    Calls Tryz.prog 30 #[.agg #[.slice q n cap, .slice ao m cap'], .int .i64 off, .slice tx tl ct] w (TellPost w RS RI K) := by
  have B0 := hide (((Below.refl w.heap.size w).alloc (Nat.le_refl _) (.cells #[.slice q n cap, .slice ao m cap'] 69)).alloc (by simp) (.cells #[.slice none 0 0, .slice none 0 0] 69))
  have K0 := hide (show ((w.alloc (.cells #[.slice q n cap, .slice ao m cap'] 69)).alloc (.cells #[.slice none 0 0, .slice none 0 0] 69)).heap[w.heap.size + 1]? = some (.cells #[.slice none 0 0, .slice none 0 0] 69 (0, 0)) by
    have := heap_alloc_new (w.alloc (.cells #[.slice q n cap, .slice ao m cap'] 69)) (.cells #[.slice none 0 0, .slice none 0 0] 69)
    rw [show (w.alloc (.cells #[.slice q n cap, .slice ao m cap'] 69)).heap.size = w.heap.size + 1 by simp] at this; exact this)
  go_enter Tryz.func30, Tryz.ntmps30
  go_wp2_with fail
  generalize (w.alloc (.cells #[.slice q n cap, .slice ao m cap'] 69)).alloc (.cells #[.slice none 0 0, .slice none 0 0] 69) = w0 at *
  refine HRP.out.mono ?_
  rintro e w1 ⟨c, rfl, hx⟩
  have HX := hide (HNX.out c w1 hx)
  clear HRP HNX hx
  go_wp2_with fail
  refine HX.out.mono ?_
  rintro e w2 ⟨ev, rfl, hy⟩
  have HY := hide (HNY.out c ev w2 hy)
  clear HX HNY hy
  go_wp2_with fail
  refine HY.out.2.mono ?_
  rintro e w3 ⟨vs, vi, rfl, ho, hi, hb3⟩
  obtain ⟨as1, cs1, rfl⟩ := own32_val ho
  obtain ⟨ai1, ci1, rfl⟩ := ownI_val hi
  have O1 := hide ho
  have I1 := hide hi
  have hs2 := HY.out.1.size
  have l0 : w.heap.size + 1 < w0.heap.size := (Array.getElem?_eq_some_iff.1 K0.out).1
  have hb03 := HY.out.1.trans (hb3.mono (by omega))
  have k1 := (hb03.block (w.heap.size + 1) (by omega)).trans K0.out
  have c0 : w3.cell? ⟨w.heap.size + 1, 0, none⟩ = some (.slice none 0 0) := by rw [cell_of_row w3 _ 0 _ _ _ k1]; rfl
  have c1 : w3.cell? ⟨w.heap.size + 1, 1, none⟩ = some (.slice none 0 0) := by rw [cell_of_row w3 _ 1 _ _ _ k1]; rfl
  have f0 := frozen_of_row w3 (w.heap.size + 1) 0 _ _ k1
  have f1 := frozen_of_row w3 (w.heap.size + 1) 1 _ _ k1
  have B1 := hide (B0.out.trans (hb03.mono (by omega)))
  clear HY hb3 k1 ho hi hb03
  generalize RS.length = zl at *
  generalize RI.length = tl' at *
  go_wp2
  refine bodyPost_ret (v := .tuple #[.agg #[.slice as1 zl cs1, .slice ai1 tl' ci1], .int .i64 K]) (by simp [results, Tryz.results30, go_sem, c0, c1]) rfl ⟨_, _, rfl, ?_, ?_, ?_⟩
  · exact owns_of_block (owns_base O1.out (by omega)) (fun k hk => by have h1 := O1.out.lt k hk; rw [Below.heap_setCell _ _ _ _ (by simp; omega), Below.heap_setCell _ _ _ _ (by simp; omega)]; try rfl)
  · exact owns_of_block (owns_base I1.out (by omega)) (fun k hk => by have h1 := I1.out.lt k hk; rw [Below.heap_setCell _ _ _ _ (by simp; omega), Below.heap_setCell _ _ _ _ (by simp; omega)]; try rfl)
  · exact (B1.out.setCell (by simp) _).setCell (by simp) _

set_option maxHeartbeats 1000000 in
set_option maxRecDepth 100000 in
theorem faceE (q : Option Addr) (n cap : Nat) (ao : Option Addr) (m cap' : Nat) (off : Int) (tx : Option Addr) (tl ct : Nat) (w : World) (hg : w.cell? ⟨0, 0, none⟩ = some (.iface 307 (.agg #[.pointer (some ⟨2, 100, none⟩)])))
    (HRP : Hid (Calls Tryz.prog 78 #[.agg #[.slice q n cap, .slice ao m cap']] ((w.alloc (.cells #[.slice q n cap, .slice ao m cap'] 69)).alloc (.cells #[.slice none 0 0, .slice none 0 0] 69)) fun e w1 => (∃ msg, e = .returned (.tuple #[.pointer none, .iface 172 (.agg #[.string msg, .iface 181 (.int .i64 1)])])) ∧ Below (w.heap.size + 2) ((w.alloc (.cells #[.slice q n cap, .slice ao m cap'] 69)).alloc (.cells #[.slice none 0 0, .slice none 0 0] 69)) w1)) :
    Calls Tryz.prog 30 #[.agg #[.slice q n cap, .slice ao m cap'], .int .i64 off, .slice tx tl ct] w (TellPost w [] [] 1) := by
  have hlt0 : 0 < w.heap.size := World.block_lt_of_cell? w _ hg
  have B0 := hide (((Below.refl w.heap.size w).alloc (Nat.le_refl _) (.cells #[.slice q n cap, .slice ao m cap'] 69)).alloc (by simp) (.cells #[.slice none 0 0, .slice none 0 0] 69))
  have K0 := hide (show ((w.alloc (.cells #[.slice q n cap, .slice ao m cap'] 69)).alloc (.cells #[.slice none 0 0, .slice none 0 0] 69)).heap[w.heap.size + 1]? = some (.cells #[.slice none 0 0, .slice none 0 0] 69 (0, 0)) by
    have := heap_alloc_new (w.alloc (.cells #[.slice q n cap, .slice ao m cap'] 69)) (.cells #[.slice none 0 0, .slice none 0 0] 69)
    rw [show (w.alloc (.cells #[.slice q n cap, .slice ao m cap'] 69)).heap.size = w.heap.size + 1 by simp] at this; exact this)
  have HG := hide hg
  clear hg
  go_enter Tryz.func30, Tryz.ntmps30
  go_wp2_with fail
  generalize (w.alloc (.cells #[.slice q n cap, .slice ao m cap'] 69)).alloc (.cells #[.slice none 0 0, .slice none 0 0] 69) = w0 at *
  refine HRP.out.mono ?_
  rintro e w1 ⟨⟨msg, rfl⟩, hx⟩
  have l0 : w.heap.size + 1 < w0.heap.size := (Array.getElem?_eq_some_iff.1 K0.out).1
  have B1 := hide hx
  have hs1 := hx.size
  have HY := hide (ansErr none msg 1 w1 ((hx.cell (p := ⟨0, 0, none⟩) (by show 0 < _; omega)).trans ((B0.out.cell (p := ⟨0, 0, none⟩) hlt0).trans HG.out)))
  clear HRP hx HG
  go_wp2_with fail
  refine HY.out.mono ?_
  rintro e w3 ⟨vs, vi, rfl, ho, hi, hb3⟩
  obtain ⟨as1, cs1, rfl⟩ := own32_val ho
  obtain ⟨ai1, ci1, rfl⟩ := ownI_val hi
  have O1 := hide ho
  have I1 := hide hi
  have hb03 := B1.out.trans (hb3.mono (by omega))
  have k1 := (hb03.block (w.heap.size + 1) (by omega)).trans K0.out
  have c0 : w3.cell? ⟨w.heap.size + 1, 0, none⟩ = some (.slice none 0 0) := by rw [cell_of_row w3 _ 0 _ _ _ k1]; rfl
  have c1 : w3.cell? ⟨w.heap.size + 1, 1, none⟩ = some (.slice none 0 0) := by rw [cell_of_row w3 _ 1 _ _ _ k1]; rfl
  have f0 := frozen_of_row w3 (w.heap.size + 1) 0 _ _ k1
  have f1 := frozen_of_row w3 (w.heap.size + 1) 1 _ _ k1
  have B2 := hide (B0.out.trans (hb03.mono (by omega)))
  clear HY hb3 k1 ho hi hb03
  generalize ([] : List Int).length = zl at *
  go_wp2
  refine bodyPost_ret (v := .tuple #[.agg #[.slice as1 zl cs1, .slice ai1 zl ci1], .int .i64 1]) (by simp [results, Tryz.results30, go_sem, c0, c1]) rfl ⟨_, _, rfl, ?_, ?_, ?_⟩
  · exact owns_of_block (owns_base O1.out (by omega)) (fun k hk => by have h1 := O1.out.lt k hk; rw [Below.heap_setCell _ _ _ _ (by simp; omega), Below.heap_setCell _ _ _ _ (by simp; omega)]; try rfl)
  · exact owns_of_block (owns_base I1.out (by omega)) (fun k hk => by have h1 := I1.out.lt k hk; rw [Below.heap_setCell _ _ _ _ (by simp; omega), Below.heap_setCell _ _ _ _ (by simp; omega)]; try rfl)
  · exact (B2.out.setCell (by simp) _).setCell (by simp) _

theorem ints_at {w : World} {b o : Nat} {ts : List Int} (h : At32 w b o ts) : ∀ j v, (ints .i32 ts)[j]? = some v → w.cell? ((⟨b, o, none⟩ : Addr).add j) = some v := by
  intro j v hv
  unfold ints at hv
  rw [List.getElem?_map] at hv
  cases hj : ts[j]? with
  | none => rw [hj] at hv; cases hv
  | some z =>
    rw [hj] at hv
    have hjl := (List.getElem?_eq_some_iff.1 hj).1
    have := h j hjl
    rw [List.getD_eq_getElem?_getD, hj] at this
    simp only [Option.map_some, Option.some.injEq] at hv
    subst hv
    rw [addr_add]
    exact this

set_option maxHeartbeats 1000000 in
/-- impl.PieceInsert. -/
theorem implPI (B : Nat) (zs ts : List Int) (b o cap : Nat) (v : Value) (xs : List It) (off : Int) (bt ot ct : Nat) (w : World) (hc : At32 w b o zs) (hb : b < w.heap.size) (hz : zs.length ≤ 1048576) (hcap : zs.length ≤ cap) (hm : cap ≤ maxLen) (hr : RdI B w v xs) (hB : B ≤ w.heap.size) (hn : xs.length ≤ 1048576) (ht : At32 w bt ot ts) (hbt : bt < w.heap.size) (htl : ts.length ≤ 1048576) (hg : w.cell? ⟨0, 0, none⟩ = some (.iface 307 (.agg #[.pointer (some ⟨2, 100, none⟩)]))) :
    Calls Tryz.prog 30 #[.agg #[.slice (some ⟨b, o, none⟩) zs.length cap, v], .int .i64 off, .slice (some ⟨bt, ot, none⟩) ts.length ct] w (TellPost w (piS zs xs off ts) (piI zs xs off ts) (piC zs xs off ts)) := by
  obtain ⟨ao, cap', rfl⟩ := hr.val
  have hlt0 : 0 < w.heap.size := World.block_lt_of_cell? w _ hg
  have B0 := ((Below.refl w.heap.size w).alloc (Nat.le_refl _) (.cells #[.slice (some ⟨b, o, none⟩) zs.length cap, .slice ao xs.length cap'] 69)).alloc (by simp) (.cells #[.slice none 0 0, .slice none 0 0] 69)
  have s0 : ((w.alloc (.cells #[.slice (some ⟨b, o, none⟩) zs.length cap, .slice ao xs.length cap'] 69)).alloc (.cells #[.slice none 0 0, .slice none 0 0] 69)).heap.size = w.heap.size + 2 := by simp
  have HRP := readPiecesN B zs b o cap _ xs _ (hc.below B0 hb) (by omega) hz hcap hm (hr.below B0 hB) (by omega) hn
  have G0 := (B0.cell (p := ⟨0, 0, none⟩) hlt0).trans hg
  have C0 := hc.below B0 hb
  have T0 := ht.below B0 hbt
  cases hT : pRead zs xs with
  | none =>
    rw [hT] at HRP
    have e1 : piT zs xs off ts = none := by unfold piT; rw [hT]
    have e2 : piC zs xs off ts = 1 := by unfold piC; rw [hT]
    rw [show piS zs xs off ts = [] by unfold piS; rw [e1]; rfl, show piI zs xs off ts = [] by unfold piI; rw [e1], e2]
    refine faceE _ _ _ _ _ _ _ _ _ _ w hg (hide (HRP.mono ?_))
    rintro e w1 ⟨h1, h2⟩
    exact ⟨h1, s0 ▸ h2⟩
  | some T =>
    rw [hT] at HRP
    obtain ⟨hp1, hp2, hp3, hp4⟩ := pRead_some hT
    have hbal := (readT_some hp1).2.1
    have PMk : ∀ c u bs w1, ((w.alloc (.cells #[.slice (some ⟨b, o, none⟩) zs.length cap, .slice ao xs.length cap'] 69)).alloc (.cells #[.slice none 0 0, .slice none 0 0] 69)).heap.size ≤ c → PK w1 c b o zs.length zs.length u → Lies w1 ((w.alloc (.cells #[.slice (some ⟨b, o, none⟩) zs.length cap, .slice ao xs.length cap'] 69)).alloc (.cells #[.slice none 0 0, .slice none 0 0] 69)).heap.size T u bs → bs.Nodup → c ∉ bs → Below ((w.alloc (.cells #[.slice (some ⟨b, o, none⟩) zs.length cap, .slice ao xs.length cap'] 69)).alloc (.cells #[.slice none 0 0, .slice none 0 0] 69)).heap.size ((w.alloc (.cells #[.slice (some ⟨b, o, none⟩) zs.length cap, .slice ao xs.length cap'] 69)).alloc (.cells #[.slice none 0 0, .slice none 0 0] 69)) w1 → PM w1 (w.heap.size + 2) c b o zs.length zs T u bs := by
      intro c u bs w1 h1 h2 h3 h4 h5 h6
      rw [s0] at h1 h3 h6
      have h7 := h6.size
      exact ⟨h2, h3, h4, h5, fun hx => by have := (h3.lt _ hx).1; omega, by omega, C0.below h6 (by omega), by omega, Nat.le_refl _, by unfold maxLen; omega, hp2⟩
    generalize hw0 : (w.alloc (.cells #[.slice (some ⟨b, o, none⟩) zs.length cap, .slice ao xs.length cap'] 69)).alloc (.cells #[.slice none 0 0, .slice none 0 0] 69) = w0 at *
    by_cases hoff : 0 ≤ off ∧ off ≤ T.rns
    · by_cases hroom : T.rns + ts.length ≤ 8192 ∧ zs.length + ts.length ≤ 220000
      · have e1 : piT zs xs off ts = some (if ts.length = 0 then T else insP (zs ++ ts) zs.length T off) := by unfold piT; rw [hT]; exact if_pos ⟨hoff, hroom⟩
        have e2 : piC zs xs off ts = 0 := by unfold piC; rw [hT]; exact (if_pos hoff).trans (if_pos hroom)
        rw [show piS zs xs off ts = zs ++ ts by unfold piS; rw [e1]; rfl, show piI zs xs off ts = (if ts.length = 0 then T else insP (zs ++ ts) zs.length T off).told 0 by unfold piI; rw [e1], e2]
        by_cases hzero : ts.length = 0
        · obtain rfl : ts = [] := List.length_eq_zero_iff.1 hzero
          rw [if_pos (show ([] : List Int).length = 0 from rfl), List.append_nil]
          refine faceI _ _ _ _ _ _ _ _ _ _ _ _ _ (fun c w1 => ∃ u bs, PM w1 (w.heap.size + 2) c b o zs.length zs T u bs ∧ T.ok ∧ Below (w.heap.size + 2) w0 w1) (fun c ev w2 => ev = .nilIface ∧ ∃ u bs, PM w2 (w.heap.size + 2) c b o zs.length zs T u bs ∧ T.ok ∧ Below (w.heap.size + 2) w0 w2) w (hide ?_) (hide ?_) (hide ?_)
          · rw [hw0]
            refine HRP.mono ?_
            rintro e w1 ⟨c, u, bs, rfl, h1, h2, h3, h4, h5, h6, h7⟩
            exact ⟨c, rfl, u, bs, PMk c u bs w1 h1 h2 h3 h4 h5 h7, h6, s0 ▸ h7⟩
          · rintro c w1 ⟨u, bs, h1, h2, h3⟩
            refine (insText0 T u bs _ c b o zs.length zs.length _ _ off w1 h1.k h1.t h2 h1.n hoff).mono ?_
            rintro e w2 ⟨rfl, hb2⟩
            have := h3.size
            exact ⟨_, rfl, rfl, u, bs, h1.below hb2, h2, h3.trans (hb2.mono (by omega))⟩
          · rintro c ev w2 ⟨rfl, u, bs, h1, h2, h3⟩
            rw [hw0]
            exact ⟨h3, ansOk zs T u bs _ c b o zs.length w2 h1 h2⟩
        · rw [if_neg hzero]
          have hwp : T.wp (zs ++ ts) := hp3.app ts
          refine faceI _ _ _ _ _ _ _ _ _ _ _ _ _ (fun c w1 => ∃ u bs, PM w1 (w.heap.size + 2) c b o zs.length zs T u bs ∧ T.ok ∧ Below (w.heap.size + 2) w0 w1 ∧ w.heap.size + 2 ≤ c) (fun c ev w2 => ev = .nilIface ∧ ∃ g u bs cp, PM w2 (w.heap.size + 2) c g 0 cp (zs ++ ts) (insP (zs ++ ts) zs.length T off) u bs ∧ (insP (zs ++ ts) zs.length T off).ok ∧ Below (w.heap.size + 2) w0 w2) w (hide ?_) (hide ?_) (hide ?_)
          · rw [hw0]
            refine HRP.mono ?_
            rintro e w1 ⟨c, u, bs, rfl, h1, h2, h3, h4, h5, h6, h7⟩
            exact ⟨c, rfl, u, bs, PMk c u bs w1 h1 h2 h3 h4 h5 h7, h6, s0 ▸ h7, s0 ▸ h1⟩
          · rintro c w1 ⟨u, bs, h1, h2, h3, h4⟩
            have h5 := h3.size
            refine (insTextI zs ts T u bs _ c b o ct off ⟨bt, ot, none⟩ w1 h1 h2 hbal hp3 hoff (by omega) (by omega) hroom.1 hroom.2 (by show bt < _; omega) (ints_at (T0.below h3 (by omega)))).mono ?_
            rintro e w2 ⟨rfl, u', bs', g, cp, h6, h7, h8⟩
            have h9 := h1.t
            refine ⟨_, rfl, rfl, g, u', bs', cp, h6, insP_ok h2 hwp hoff.1 hoff.2 (by rw [List.length_append]; omega) (by rw [List.length_append]; omega) (by rw [List.length_append]; omega), h3.trans (h8.below (by omega) (fun k hk => ?_))⟩
            rcases List.mem_cons.1 hk with rfl | hk
            · exact h4
            · exact (h9.lt k hk).1
          · rintro c ev w2 ⟨rfl, g, u, bs, cp, h1, h2, h3⟩
            rw [hw0]
            exact ⟨h3, ansOk _ _ u bs _ c g 0 cp w2 h1 h2⟩
      · have e1 : piT zs xs off ts = none := by unfold piT; rw [hT]; exact if_neg (fun h => hroom h.2)
        have e2 : piC zs xs off ts = 10 := by unfold piC; rw [hT]; exact (if_pos hoff).trans (if_neg hroom)
        rw [show piS zs xs off ts = [] by unfold piS; rw [e1]; rfl, show piI zs xs off ts = [] by unfold piI; rw [e1], e2]
        refine faceI _ _ _ _ _ _ _ _ _ _ _ _ _ (fun c w1 => ∃ u bs, PM w1 (w.heap.size + 2) c b o zs.length zs T u bs ∧ T.ok ∧ Below (w.heap.size + 2) w0 w1) (fun c ev w2 => (∃ msg, ev = .iface 172 (.agg #[.string msg, .iface 181 (.int .i64 10)])) ∧ Below (w.heap.size + 2) w0 w2) w (hide ?_) (hide ?_) (hide ?_)
        · rw [hw0]
          refine HRP.mono ?_
          rintro e w1 ⟨c, u, bs, rfl, h1, h2, h3, h4, h5, h6, h7⟩
          exact ⟨c, rfl, u, bs, PMk c u bs w1 h1 h2 h3 h4 h5 h7, h6, s0 ▸ h7⟩
        · rintro c w1 ⟨u, bs, h1, h2, h3⟩
          refine (insTextF T u bs _ c b o zs.length zs.length ts.length _ _ off w1 h1.k h1.t h2 h1.n hoff htl hroom).mono ?_
          rintro e w2 ⟨⟨msg, rfl⟩, hb2⟩
          have := h3.size
          exact ⟨_, rfl, ⟨msg, rfl⟩, h3.trans (hb2.mono (by omega))⟩
        · rintro c ev w2 ⟨⟨msg, rfl⟩, h3⟩
          rw [hw0]
          exact ⟨h3, ansErr _ msg 10 w2 ((h3.cell (p := ⟨0, 0, none⟩) (by show 0 < _; omega)).trans G0)⟩
    · have e1 : piT zs xs off ts = none := by unfold piT; rw [hT]; exact if_neg (fun h => hoff h.1)
      have e2 : piC zs xs off ts = 2 := by unfold piC; rw [hT]; exact if_neg hoff
      rw [show piS zs xs off ts = [] by unfold piS; rw [e1]; rfl, show piI zs xs off ts = [] by unfold piI; rw [e1], e2]
      refine faceI _ _ _ _ _ _ _ _ _ _ _ _ _ (fun c w1 => ∃ u bs, PM w1 (w.heap.size + 2) c b o zs.length zs T u bs ∧ T.ok ∧ Below (w.heap.size + 2) w0 w1) (fun c ev w2 => (∃ msg, ev = .iface 172 (.agg #[.string msg, .iface 181 (.int .i64 2)])) ∧ Below (w.heap.size + 2) w0 w2) w (hide ?_) (hide ?_) (hide ?_)
      · rw [hw0]
        refine HRP.mono ?_
        rintro e w1 ⟨c, u, bs, rfl, h1, h2, h3, h4, h5, h6, h7⟩
        exact ⟨c, rfl, u, bs, PMk c u bs w1 h1 h2 h3 h4 h5 h7, h6, s0 ▸ h7⟩
      · rintro c w1 ⟨u, bs, h1, h2, h3⟩
        refine (insTextR T u bs _ c b o zs.length zs.length ts.length _ _ off w1 h1.k h1.t hoff).mono ?_
        rintro e w2 ⟨⟨msg, rfl⟩, hb2⟩
        have := h3.size
        exact ⟨_, rfl, ⟨msg, rfl⟩, h3.trans (hb2.mono (by omega))⟩
      · rintro c ev w2 ⟨⟨msg, rfl⟩, h3⟩
        rw [hw0]
        exact ⟨h3, ansErr _ msg 2 w2 ((h3.cell (p := ⟨0, 0, none⟩) (by show 0 < _; omega)).trans G0)⟩
end Go.Proofs.YtbgngikejgihgagGreatDoor
