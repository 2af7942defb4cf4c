import Derived.Test.YtbgngikejgihgagGreatDoorMq36
import Derived.Test.YtbgngikejgihgagGreatDoorMq45
import Derived.Test.YtbgngikejgihgagGreatDoorMq40
import Derived.Test.YtbgngikejgihgagGreatDoorMq38
import Derived.Test.YtbgngikejgihgagGreatDoorMq08
import Derived.Deep.QuietTactic
import Derived.BigQuiet
import Derived.WalkLawsBesides
import Derived.Laws.AppendOwnNone
namespace Go.Proofs.YtbgngikejgihgagGreatDoor
open Go Go.RowKit
set_option linter.unusedVariables false

/-- What PieceDelete answers. -/
def pdT (zs : List Int) (xs : List It) (lo hi : Int) : Option AT :=
  match pRead zs xs with
  | none => none
  | some T => if 0 ≤ lo ∧ lo ≤ hi ∧ hi ≤ T.rns then some (if lo = hi then T else delP zs T lo hi) else none
def pdC (zs : List Int) (xs : List It) (lo hi : Int) : Int :=
  match pRead zs xs with
  | none => 1
  | some T => if 0 ≤ lo ∧ lo ≤ hi ∧ hi ≤ T.rns then 0 else 2
def pdS (zs : List Int) (xs : List It) (lo hi : Int) : List Int := if (pdT zs xs lo hi).isSome then zs else []
def pdI (zs : List Int) (xs : List It) (lo hi : Int) : List It := match pdT zs xs lo hi with | none => [] | some T => T.told 0

set_option maxHeartbeats 1000000 in
set_option maxRecDepth 100000 in
theorem faceID (q : Option Addr) (n cap : Nat) (ao : Option Addr) (m cap' : Nat) (lo hi : Int) (RS : List Int) (RI : List It) (K : Int) (NX : Nat → World → Prop) (NY : Nat → Value → World → Prop) (w : World)
    (HRP : Hid (Calls Tryz.prog 78 #[.agg #[.slice q n cap, .slice ao m cap']] ((w.alloc (.cells #[.slice q n cap, .slice ao m cap'] 69)).alloc (.cells #[.slice none 0 0, .slice none 0 0] 69)) fun e w1 => ∃ c, e = .returned (.tuple #[.pointer (some ⟨c, 0, none⟩), .nilIface]) ∧ NX c w1))
    (HNX : Hid (∀ c w1, NX c w1 → Calls Tryz.prog 55 #[.iface 130 (.pointer (some ⟨c, 0, none⟩)), .int .i64 lo, .int .i64 hi] w1 fun e w2 => ∃ ev, e = .returned ev ∧ NY c ev w2))
    (HNY : Hid (∀ c ev w2, NY c ev w2 → Below (w.heap.size + 2) ((w.alloc (.cells #[.slice q n cap, .slice ao m cap'] 69)).alloc (.cells #[.slice none 0 0, .slice none 0 0] 69)) w2 ∧ Calls Tryz.prog 79 #[.pointer (some ⟨c, 0, none⟩), ev] w2 (TellPost w2 RS RI K))) :
    Calls Tryz.prog 39 #[.agg #[.slice q n cap, .slice ao m cap'], .int .i64 lo, .int .i64 hi] w (TellPost w RS RI K) := by
  have B0 := hide (((Below.refl w.heap.size w).alloc (Nat.le_refl _) (.cells #[.slice q n cap, .slice ao m cap'] 69)).alloc (by simp) (.cells #[.slice none 0 0, .slice none 0 0] 69))
  have K0 := hide (show ((w.alloc (.cells #[.slice q n cap, .slice ao m cap'] 69)).alloc (.cells #[.slice none 0 0, .slice none 0 0] 69)).heap[w.heap.size + 1]? = some (.cells #[.slice none 0 0, .slice none 0 0] 69 (0, 0)) by
    have := heap_alloc_new (w.alloc (.cells #[.slice q n cap, .slice ao m cap'] 69)) (.cells #[.slice none 0 0, .slice none 0 0] 69)
    rw [show (w.alloc (.cells #[.slice q n cap, .slice ao m cap'] 69)).heap.size = w.heap.size + 1 by simp] at this; exact this)
  go_enter Tryz.func39, Tryz.ntmps39
  go_wp2_with fail
  generalize (w.alloc (.cells #[.slice q n cap, .slice ao m cap'] 69)).alloc (.cells #[.slice none 0 0, .slice none 0 0] 69) = w0 at *
  refine HRP.out.mono ?_
  rintro e w1 ⟨c, rfl, hx⟩
  have HX := hide (HNX.out c w1 hx)
  clear HRP HNX hx
  go_wp2_with fail
  refine HX.out.mono ?_
  rintro e w2 ⟨ev, rfl, hy⟩
  have HY := hide (HNY.out c ev w2 hy)
  clear HX HNY hy
  go_wp2_with fail
  refine HY.out.2.mono ?_
  rintro e w3 ⟨vs, vi, rfl, ho, hi, hb3⟩
  obtain ⟨as1, cs1, rfl⟩ := own32_val ho
  obtain ⟨ai1, ci1, rfl⟩ := ownI_val hi
  have O1 := hide ho
  have I1 := hide hi
  have hs2 := HY.out.1.size
  have l0 : w.heap.size + 1 < w0.heap.size := (Array.getElem?_eq_some_iff.1 K0.out).1
  have hb03 := HY.out.1.trans (hb3.mono (by omega))
  have k1 := (hb03.block (w.heap.size + 1) (by omega)).trans K0.out
  have c0 : w3.cell? ⟨w.heap.size + 1, 0, none⟩ = some (.slice none 0 0) := by rw [cell_of_row w3 _ 0 _ _ _ k1]; rfl
  have c1 : w3.cell? ⟨w.heap.size + 1, 1, none⟩ = some (.slice none 0 0) := by rw [cell_of_row w3 _ 1 _ _ _ k1]; rfl
  have f0 := frozen_of_row w3 (w.heap.size + 1) 0 _ _ k1
  have f1 := frozen_of_row w3 (w.heap.size + 1) 1 _ _ k1
  have B1 := hide (B0.out.trans (hb03.mono (by omega)))
  clear HY hb3 k1 ho hi hb03
  generalize RS.length = zl at *
  generalize RI.length = tl' at *
  go_wp2
  refine bodyPost_ret (v := .tuple #[.agg #[.slice as1 zl cs1, .slice ai1 tl' ci1], .int .i64 K]) (by simp [results, Tryz.results39, go_sem, c0, c1]) rfl ⟨_, _, rfl, ?_, ?_, ?_⟩
  · exact owns_of_block (owns_base O1.out (by omega)) (fun k hk => by have h1 := O1.out.lt k hk; rw [Below.heap_setCell _ _ _ _ (by simp; omega), Below.heap_setCell _ _ _ _ (by simp; omega)]; try rfl)
  · exact owns_of_block (owns_base I1.out (by omega)) (fun k hk => by have h1 := I1.out.lt k hk; rw [Below.heap_setCell _ _ _ _ (by simp; omega), Below.heap_setCell _ _ _ _ (by simp; omega)]; try rfl)
  · exact (B1.out.setCell (by simp) _).setCell (by simp) _

set_option maxHeartbeats 1000000 in
set_option maxRecDepth 100000 in
theorem faceED (q : Option Addr) (n cap : Nat) (ao : Option Addr) (m cap' : Nat) (lo hi : Int) (w : World) (hg : w.cell? ⟨0, 0, none⟩ = some (.iface 307 (.agg #[.pointer (some ⟨2, 100, none⟩)])))
    (HRP : Hid (Calls Tryz.prog 78 #[.agg #[.slice q n cap, .slice ao m cap']] ((w.alloc (.cells #[.slice q n cap, .slice ao m cap'] 69)).alloc (.cells #[.slice none 0 0, .slice none 0 0] 69)) fun e w1 => (∃ msg, e = .returned (.tuple #[.pointer none, .iface 172 (.agg #[.string msg, .iface 181 (.int .i64 1)])])) ∧ Below (w.heap.size + 2) ((w.alloc (.cells #[.slice q n cap, .slice ao m cap'] 69)).alloc (.cells #[.slice none 0 0, .slice none 0 0] 69)) w1)) :
    Calls Tryz.prog 39 #[.agg #[.slice q n cap, .slice ao m cap'], .int .i64 lo, .int .i64 hi] w (TellPost w [] [] 1) := by
  have hlt0 : 0 < w.heap.size := World.block_lt_of_cell? w _ hg
  have B0 := hide (((Below.refl w.heap.size w).alloc (Nat.le_refl _) (.cells #[.slice q n cap, .slice ao m cap'] 69)).alloc (by simp) (.cells #[.slice none 0 0, .slice none 0 0] 69))
  have K0 := hide (show ((w.alloc (.cells #[.slice q n cap, .slice ao m cap'] 69)).alloc (.cells #[.slice none 0 0, .slice none 0 0] 69)).heap[w.heap.size + 1]? = some (.cells #[.slice none 0 0, .slice none 0 0] 69 (0, 0)) by
    have := heap_alloc_new (w.alloc (.cells #[.slice q n cap, .slice ao m cap'] 69)) (.cells #[.slice none 0 0, .slice none 0 0] 69)
    rw [show (w.alloc (.cells #[.slice q n cap, .slice ao m cap'] 69)).heap.size = w.heap.size + 1 by simp] at this; exact this)
  have HG := hide hg
  clear hg
  go_enter Tryz.func39, Tryz.ntmps39
  go_wp2_with fail
  generalize (w.alloc (.cells #[.slice q n cap, .slice ao m cap'] 69)).alloc (.cells #[.slice none 0 0, .slice none 0 0] 69) = w0 at *
  refine HRP.out.mono ?_
  rintro e w1 ⟨⟨msg, rfl⟩, hx⟩
  have l0 : w.heap.size + 1 < w0.heap.size := (Array.getElem?_eq_some_iff.1 K0.out).1
  have B1 := hide hx
  have hs1 := hx.size
  have HY := hide (ansErr none msg 1 w1 ((hx.cell (p := ⟨0, 0, none⟩) (by show 0 < _; omega)).trans ((B0.out.cell (p := ⟨0, 0, none⟩) hlt0).trans HG.out)))
  clear HRP hx HG
  go_wp2_with fail
  refine HY.out.mono ?_
  rintro e w3 ⟨vs, vi, rfl, ho, hi, hb3⟩
  obtain ⟨as1, cs1, rfl⟩ := own32_val ho
  obtain ⟨ai1, ci1, rfl⟩ := ownI_val hi
  have O1 := hide ho
  have I1 := hide hi
  have hb03 := B1.out.trans (hb3.mono (by omega))
  have k1 := (hb03.block (w.heap.size + 1) (by omega)).trans K0.out
  have c0 : w3.cell? ⟨w.heap.size + 1, 0, none⟩ = some (.slice none 0 0) := by rw [cell_of_row w3 _ 0 _ _ _ k1]; rfl
  have c1 : w3.cell? ⟨w.heap.size + 1, 1, none⟩ = some (.slice none 0 0) := by rw [cell_of_row w3 _ 1 _ _ _ k1]; rfl
  have f0 := frozen_of_row w3 (w.heap.size + 1) 0 _ _ k1
  have f1 := frozen_of_row w3 (w.heap.size + 1) 1 _ _ k1
  have B2 := hide (B0.out.trans (hb03.mono (by omega)))
  clear HY hb3 k1 ho hi hb03
  generalize ([] : List Int).length = zl at *
  go_wp2
  refine bodyPost_ret (v := .tuple #[.agg #[.slice as1 zl cs1, .slice ai1 zl ci1], .int .i64 1]) (by simp [results, Tryz.results39, go_sem, c0, c1]) rfl ⟨_, _, rfl, ?_, ?_, ?_⟩
  · exact owns_of_block (owns_base O1.out (by omega)) (fun k hk => by have h1 := O1.out.lt k hk; rw [Below.heap_setCell _ _ _ _ (by simp; omega), Below.heap_setCell _ _ _ _ (by simp; omega)]; try rfl)
  · exact owns_of_block (owns_base I1.out (by omega)) (fun k hk => by have h1 := I1.out.lt k hk; rw [Below.heap_setCell _ _ _ _ (by simp; omega), Below.heap_setCell _ _ _ _ (by simp; omega)]; try rfl)
  · exact (B2.out.setCell (by simp) _).setCell (by simp) _

set_option maxHeartbeats 1000000 in
/-- impl.PieceDelete. -/
theorem implPD (B : Nat) (zs : List Int) (b o cap : Nat) (v : Value) (xs : List It) (lo hi : Int) (w : World) (hc : At32 w b o zs) (hb : b < w.heap.size) (hz : zs.length ≤ 1048576) (hcap : zs.length ≤ cap) (hm : cap ≤ maxLen) (hr : RdI B w v xs) (hB : B ≤ w.heap.size) (hn : xs.length ≤ 1048576) (hg : w.cell? ⟨0, 0, none⟩ = some (.iface 307 (.agg #[.pointer (some ⟨2, 100, none⟩)]))) :
    Calls Tryz.prog 39 #[.agg #[.slice (some ⟨b, o, none⟩) zs.length cap, v], .int .i64 lo, .int .i64 hi] w (TellPost w (pdS zs xs lo hi) (pdI zs xs lo hi) (pdC zs xs lo hi)) := by
  obtain ⟨ao, cap', rfl⟩ := hr.val
  have hlt0 : 0 < w.heap.size := World.block_lt_of_cell? w _ hg
  have B0 := ((Below.refl w.heap.size w).alloc (Nat.le_refl _) (.cells #[.slice (some ⟨b, o, none⟩) zs.length cap, .slice ao xs.length cap'] 69)).alloc (by simp) (.cells #[.slice none 0 0, .slice none 0 0] 69)
  have s0 : ((w.alloc (.cells #[.slice (some ⟨b, o, none⟩) zs.length cap, .slice ao xs.length cap'] 69)).alloc (.cells #[.slice none 0 0, .slice none 0 0] 69)).heap.size = w.heap.size + 2 := by simp
  have HRP := readPiecesN B zs b o cap _ xs _ (hc.below B0 hb) (by omega) hz hcap hm (hr.below B0 hB) (by omega) hn
  have G0 := (B0.cell (p := ⟨0, 0, none⟩) hlt0).trans hg
  have C0 := hc.below B0 hb
  cases hT : pRead zs xs with
  | none =>
    rw [hT] at HRP
    have e1 : pdT zs xs lo hi = none := by unfold pdT; rw [hT]
    have e2 : pdC zs xs lo hi = 1 := by unfold pdC; rw [hT]
    rw [show pdS zs xs lo hi = [] by unfold pdS; rw [e1]; rfl, show pdI zs xs lo hi = [] by unfold pdI; rw [e1], e2]
    refine faceED _ _ _ _ _ _ _ _ w hg (hide (HRP.mono ?_))
    rintro e w1 ⟨h1, h2⟩
    exact ⟨h1, s0 ▸ h2⟩
  | some T =>
    rw [hT] at HRP
    obtain ⟨hp1, hp2, hp3, hp4⟩ := pRead_some hT
    have hbal := (readT_some hp1).2.1
    have PMk : ∀ c u bs w1, ((w.alloc (.cells #[.slice (some ⟨b, o, none⟩) zs.length cap, .slice ao xs.length cap'] 69)).alloc (.cells #[.slice none 0 0, .slice none 0 0] 69)).heap.size ≤ c → PK w1 c b o zs.length zs.length u → Lies w1 ((w.alloc (.cells #[.slice (some ⟨b, o, none⟩) zs.length cap, .slice ao xs.length cap'] 69)).alloc (.cells #[.slice none 0 0, .slice none 0 0] 69)).heap.size T u bs → bs.Nodup → c ∉ bs → Below ((w.alloc (.cells #[.slice (some ⟨b, o, none⟩) zs.length cap, .slice ao xs.length cap'] 69)).alloc (.cells #[.slice none 0 0, .slice none 0 0] 69)).heap.size ((w.alloc (.cells #[.slice (some ⟨b, o, none⟩) zs.length cap, .slice ao xs.length cap'] 69)).alloc (.cells #[.slice none 0 0, .slice none 0 0] 69)) w1 → PM w1 (w.heap.size + 2) c b o zs.length zs T u bs := by
      intro c u bs w1 h1 h2 h3 h4 h5 h6
      rw [s0] at h1 h3 h6
      have h7 := h6.size
      exact ⟨h2, h3, h4, h5, fun hx => by have := (h3.lt _ hx).1; omega, by omega, C0.below h6 (by omega), by omega, Nat.le_refl _, by unfold maxLen; omega, hp2⟩
    generalize hw0 : (w.alloc (.cells #[.slice (some ⟨b, o, none⟩) zs.length cap, .slice ao xs.length cap'] 69)).alloc (.cells #[.slice none 0 0, .slice none 0 0] 69) = w0 at *
    by_cases hoff : 0 ≤ lo ∧ lo ≤ hi ∧ hi ≤ T.rns
    · have e1 : pdT zs xs lo hi = some (if lo = hi then T else delP zs T lo hi) := by unfold pdT; rw [hT]; exact if_pos hoff
      have e2 : pdC zs xs lo hi = 0 := by unfold pdC; rw [hT]; exact if_pos hoff
      rw [show pdS zs xs lo hi = zs by unfold pdS; rw [e1]; rfl, show pdI zs xs lo hi = (if lo = hi then T else delP zs T lo hi).told 0 by unfold pdI; rw [e1], e2]
      by_cases hzero : lo = hi
      · subst hzero
        rw [if_pos rfl]
        refine faceID _ _ _ _ _ _ _ _ _ _ _ (fun c w1 => ∃ u bs, PM w1 (w.heap.size + 2) c b o zs.length zs T u bs ∧ T.ok ∧ Below (w.heap.size + 2) w0 w1) (fun c ev w2 => ev = .nilIface ∧ ∃ u bs, PM w2 (w.heap.size + 2) c b o zs.length zs T u bs ∧ T.ok ∧ Below (w.heap.size + 2) w0 w2) w (hide ?_) (hide ?_) (hide ?_)
        · rw [hw0]
          refine HRP.mono ?_
          rintro e w1 ⟨c, u, bs, rfl, h1, h2, h3, h4, h5, h6, h7⟩
          exact ⟨c, rfl, u, bs, PMk c u bs w1 h1 h2 h3 h4 h5 h7, h6, s0 ▸ h7⟩
        · rintro c w1 ⟨u, bs, h1, h2, h3⟩
          refine (delText0 T u bs _ c b o zs.length zs.length lo w1 h1.k h1.t ⟨hoff.1, hoff.2.2⟩).mono ?_
          rintro e w2 ⟨rfl, hb2⟩
          have := h3.size
          exact ⟨_, rfl, rfl, u, bs, h1.below hb2, h2, h3.trans (hb2.mono (by omega))⟩
        · rintro c ev w2 ⟨rfl, u, bs, h1, h2, h3⟩
          rw [hw0]
          exact ⟨h3, ansOk zs T u bs _ c b o zs.length w2 h1 h2⟩
      · rw [if_neg hzero]
        refine faceID _ _ _ _ _ _ _ _ _ _ _ (fun c w1 => ∃ u bs, PM w1 (w.heap.size + 2) c b o zs.length zs T u bs ∧ T.ok ∧ Below (w.heap.size + 2) w0 w1 ∧ w.heap.size + 2 ≤ c) (fun c ev w2 => ev = .nilIface ∧ ∃ u bs, PM w2 (w.heap.size + 2) c b o zs.length zs (delP zs T lo hi) u bs ∧ (delP zs T lo hi).ok ∧ Below (w.heap.size + 2) w0 w2) w (hide ?_) (hide ?_) (hide ?_)
        · rw [hw0]
          refine HRP.mono ?_
          rintro e w1 ⟨c, u, bs, rfl, h1, h2, h3, h4, h5, h6, h7⟩
          exact ⟨c, rfl, u, bs, PMk c u bs w1 h1 h2 h3 h4 h5 h7, h6, s0 ▸ h7, s0 ▸ h1⟩
        · rintro c w1 ⟨u, bs, h1, h2, h3, h4⟩
          have h5 := h3.size
          refine (delTextI zs T u bs _ c b o zs.length lo hi w1 h1 h2 hbal hp3 ⟨hoff.1, by omega, hoff.2.2⟩ (by omega)).mono ?_
          rintro e w2 ⟨rfl, u', bs', h6, h7, h8⟩
          have h9 := h1.t
          refine ⟨_, rfl, rfl, u', bs', h6, (delF h2 hbal hp3 hp2 hoff.1 hoff.2.1 hoff.2.2).okR, h3.trans (h8.below (by omega) (fun k hk => ?_))⟩
          rcases List.mem_cons.1 hk with rfl | hk
          · exact h4
          · exact (h9.lt k hk).1
        · rintro c ev w2 ⟨rfl, u, bs, h1, h2, h3⟩
          rw [hw0]
          exact ⟨h3, ansOk _ _ u bs _ c b o zs.length w2 h1 h2⟩
    · have e1 : pdT zs xs lo hi = none := by unfold pdT; rw [hT]; exact if_neg hoff
      have e2 : pdC zs xs lo hi = 2 := by unfold pdC; rw [hT]; exact if_neg hoff
      rw [show pdS zs xs lo hi = [] by unfold pdS; rw [e1]; rfl, show pdI zs xs lo hi = [] by unfold pdI; rw [e1], e2]
      refine faceID _ _ _ _ _ _ _ _ _ _ _ (fun c w1 => ∃ u bs, PM w1 (w.heap.size + 2) c b o zs.length zs T u bs ∧ T.ok ∧ Below (w.heap.size + 2) w0 w1) (fun c ev w2 => (∃ msg, ev = .iface 172 (.agg #[.string msg, .iface 181 (.int .i64 2)])) ∧ Below (w.heap.size + 2) w0 w2) w (hide ?_) (hide ?_) (hide ?_)
      · rw [hw0]
        refine HRP.mono ?_
        rintro e w1 ⟨c, u, bs, rfl, h1, h2, h3, h4, h5, h6, h7⟩
        exact ⟨c, rfl, u, bs, PMk c u bs w1 h1 h2 h3 h4 h5 h7, h6, s0 ▸ h7⟩
      · rintro c w1 ⟨u, bs, h1, h2, h3⟩
        refine (delTextR T u bs _ c b o zs.length zs.length lo hi w1 h1.k h1.t hoff).mono ?_
        rintro e w2 ⟨⟨msg, rfl⟩, hb2⟩
        have := h3.size
        exact ⟨_, rfl, ⟨msg, rfl⟩, h3.trans (hb2.mono (by omega))⟩
      · rintro c ev w2 ⟨⟨msg, rfl⟩, h3⟩
        rw [hw0]
        exact ⟨h3, ansErr _ msg 2 w2 ((h3.cell (p := ⟨0, 0, none⟩) (by show 0 < _; omega)).trans G0)⟩
end Go.Proofs.YtbgngikejgihgagGreatDoor

namespace Go.Proofs.YtbgngikejgihgagGreatDoor
open Go Go.RowKit
set_option linter.unusedVariables false

/-- A buffer that is valid: its store and its tree. -/
structure BF (S : List Int) (T : AT) : Prop where
  ok : T.ok
  bal : T.bal
  wp : T.wp S
  len : S.length ≤ 220000
theorem BF.read {S : List Int} {T : AT} (h : BF S T) : (pRead S (T.told 0)).isSome = true := by rw [pRead_told h.bal h.ok h.wp h.len]; rfl
theorem BF.its {S : List Int} {T : AT} (h : BF S T) : (T.told 0).length ≤ 8192 := by
  have h1 : (T.told 0).length = T.its := AT.told_length T 0
  have h2 := h.ok.bd
  omega
theorem BF.pcs {S : List Int} {T : AT} (h : BF S T) : ∀ x ∈ T.told 0, WP S x.pc ∧ 1 ≤ x.pc.len := fun x hx => by
  have hm := told_memH hx
  exact ⟨(wp_flat S T).1 h.wp _ hm, flat_pos h.ok _ hm⟩
theorem BF.txl {S : List Int} {T : AT} (h : BF S T) : ((T.tx S).length : Int) = T.rns := by
  rw [← txt_told S T 0, txt_len (fun x hx => (h.pcs x hx).1), AT.rns_told]
theorem BF.txl2 {S : List Int} {T : AT} (h : BF S T) : (txt S (T.told 0)).length ≤ 8192 := by
  have h1 := h.txl
  have h2 := h.ok.2
  rw [txt_told]
  omega
theorem heal_round {zs ts : List Int} {T : AT} {off : Int} (h : BF zs T) (h0 : 0 ≤ off) (h1 : off ≤ T.rns) (hm : 0 < ts.length) (hr : T.rns + ts.length ≤ 8192) (hS : zs.length + ts.length ≤ 220000) :
    ∃ T1 R : AT, (piS zs (T.told 0) off ts = zs ++ ts ∧ piI zs (T.told 0) off ts = T1.told 0 ∧ piC zs (T.told 0) off ts = 0) ∧ BF (zs ++ ts) T1 ∧ (T1.tx (zs ++ ts)).length = (T.tx zs).length + ts.length ∧
      (pdS (zs ++ ts) (T1.told 0) off (off + ts.length) = zs ++ ts ∧ pdI (zs ++ ts) (T1.told 0) off (off + ts.length) = R.told 0 ∧ pdC (zs ++ ts) (T1.told 0) off (off + ts.length) = 0) ∧ BF (zs ++ ts) R ∧ R.tx (zs ++ ts) = T.tx zs ∧ (R.told 0).length ≤ (T.told 0).length := by
  have hSl : (zs ++ ts).length = zs.length + ts.length := List.length_append
  have hp := pRead_told h.bal h.ok h.wp h.len
  have eT : piT zs (T.told 0) off ts = some (insP (zs ++ ts) zs.length T off) := by
    unfold piT; rw [hp]; simp only; rw [if_pos ⟨⟨h0, h1⟩, hr, hS⟩, if_neg (by omega)]
  have eC : piC zs (T.told 0) off ts = 0 := by
    unfold piC; rw [hp]; simp only; rw [if_pos ⟨h0, h1⟩, if_pos ⟨hr, hS⟩]
  have h9 := insP_wp_rns (ts := ts) h.ok h.wp h0 h1 hm
  have f1 : BF (zs ++ ts) (insP (zs ++ ts) zs.length T off) := ⟨insP_ok h.ok (h.wp.app ts) h0 h1 (by omega) (by omega) (by omega), insP_bal h.bal, h9.1, by omega⟩
  have hrn : off + ts.length ≤ (insP (zs ++ ts) zs.length T off).rns := by rw [h9.2.1]; omega
  have hbk := heal_back (ts := ts) h.ok h.bal h.wp h0 h1 hm hr hS hrn
  have hp1 := pRead_told f1.bal f1.ok f1.wp f1.len
  have dT : pdT (zs ++ ts) ((insP (zs ++ ts) zs.length T off).told 0) off (off + ts.length) = some (delP (zs ++ ts) (insP (zs ++ ts) zs.length T off) off (off + ts.length)) := by
    unfold pdT; rw [hp1]; simp only; rw [if_pos ⟨h0, by omega, hrn⟩, if_neg (by omega)]
  have dC : pdC (zs ++ ts) ((insP (zs ++ ts) zs.length T off).told 0) off (off + ts.length) = 0 := by
    unfold pdC; rw [hp1]; simp only; rw [if_pos ⟨h0, by omega, hrn⟩]
  have d9 := delP_all f1.ok f1.bal f1.wp f1.len h0 (show off ≤ off + ts.length by omega) hrn
  have f2 : BF (zs ++ ts) (delP (zs ++ ts) (insP (zs ++ ts) zs.length T off) off (off + ts.length)) := ⟨d9.1, d9.2.1, d9.2.2.1, f1.len⟩
  refine ⟨_, _, ⟨?_, ?_, eC⟩, f1, ?_, ⟨?_, ?_, dC⟩, f2, ?_, ?_⟩
  · unfold piS; rw [eT]; rfl
  · unfold piI; rw [eT]
  · have a1 := f1.txl
    have a2 := h.txl
    have a3 := h9.2.1
    omega
  · unfold pdS; rw [dT]; rfl
  · unfold pdI; rw [dT]
  · rw [hbk.tx (h.wp.app ts), tx_app h.wp ts]
  · have a1 := hbk.len
    have a2 := AT.flat_its T
    have a3 := AT.flat_its (delP (zs ++ ts) (insP (zs ++ ts) zs.length T off) off (off + ts.length))
    have a4 : (T.told 0).length = T.its := AT.told_length T 0
    have a5 : ((delP (zs ++ ts) (insP (zs ++ ts) zs.length T off) off (off + ts.length)).told 0).length = _ := AT.told_length _ 0
    omega
end Go.Proofs.YtbgngikejgihgagGreatDoor

namespace Go.Proofs.YtbgngikejgihgagGreatDoor
open Go Go.RowKit
set_option linter.unusedVariables false

set_option maxHeartbeats 400000 in
theorem cpTextN (zs : List Int) (b o cap : Nat) (w : World) (h : At32 w b o zs) (hb : b < w.heap.size) (hn : zs.length ≤ 1048576) :
    Calls Tryz.prog 37 #[.slice (some ⟨b, o, none⟩) zs.length cap] w fun e w' => ∃ b cap, e = .returned (.slice (some ⟨b, 0, none⟩) zs.length cap) ∧ own32 w' w.heap.size (.slice (some ⟨b, 0, none⟩) zs.length cap) zs ∧ Below w.heap.size w w' := by
  obtain ⟨i0, hi, hz0, hz1, hz2⟩ := info_parts Tryz.info32T
  have HO0 := hide (show (w.alloc (.cells #[] 21)).ownsRow w.heap.size 21 1 (.slice (some ⟨w.heap.size, 0, none⟩) 0 0) 0 [] from World.ownsRow_made w #[] 0 (Nat.le_refl _) (Nat.zero_le _) rfl)
  have HB0 := hide ((Below.refl w.heap.size w).alloc (Nat.le_refl _) (.cells #[] 21))
  have HC := hide (by have h9 := (h.below HB0.out hb).app 0 zs.length (by omega); simpa using h9 : ∀ j u, (ints .i32 zs)[j]? = some u → (w.alloc (.cells #[] 21)).cell? ((⟨b, o, none⟩ : Addr).add j) = some u)
  go_enter Tryz.func37, Tryz.ntmps37
  go_wp2_with (at_builtin; refine wpList_append_own _ rfl _ _ 36 rfl w.heap.size 21 i0 (.int .i32 0) 1 4 Tryz.underlying36 hi hz0 hz1 hz2 rfl (by decide) _ _ _ rfl HO0.out ⟨b, o, none⟩ zs.length cap (ints .i32 zs) rfl (by rw [ints_length, Nat.mul_one]) HC.out (ints_one _ _) (by unfold maxLen; omega) (by omega) (by simp) ?_; intro v2 w2 ho2 hg2 hn2)
  have hnn : v2 ≠ .slice none 0 0 := fun e => by have := (hn2.1 e).1; cases this
  rw [List.nil_append, Nat.zero_add] at ho2
  obtain ⟨b2, cap2, rfl⟩ : ∃ b cap, v2 = .slice (some ⟨b, 0, none⟩) zs.length cap := by
    rcases ho2.2 with ⟨e, _⟩ | ⟨g, cap', cur, e, _⟩
    · exact absurd e hnn
    · exact ⟨_, _, e⟩
  have HO2 := hide ho2
  have HB2 := hide (HB0.out.grown hg2 (by simp) (fun q hq => (HO0.out.lt q hq).1))
  clear ho2 hg2 hn2 hnn
  go_wp2
  go_ret
  exact ⟨_, _, rfl, HO2.out, HB2.out⟩

set_option maxHeartbeats 400000 in
theorem smText (xs : List Int) (v u : Value) (w : World) (h1 : Rd .i32 w v xs) (h2 : Rd .i32 w u xs) (hn : xs.length ≤ 1099511627776) :
    Calls Tryz.prog 40 #[v, u] w fun e w' => e = .returned (.bool true) ∧ ∃ n, w' = w.drewN n := by
  by_cases h0 : xs.length = 0
  · have e0 : xs = [] := List.eq_nil_of_length_eq_zero h0
    subst e0
    obtain ⟨ao, cap, rfl⟩ : ∃ ao cap, v = .slice ao 0 cap := by
      rcases h1 with ⟨ao, cap, rfl, _⟩ | ⟨_, _, _, _, hp, _⟩
      · exact ⟨_, _, rfl⟩
      · simp at hp
    obtain ⟨ao', cap', rfl⟩ : ∃ ao cap, u = .slice ao 0 cap := by
      rcases h2 with ⟨ao, cap, rfl, _⟩ | ⟨_, _, _, _, hp, _⟩
      · exact ⟨_, _, rfl⟩
      · simp at hp
    clear h1 h2
    go_enter Tryz.func40, Tryz.ntmps40
    go_wp2
    refine wp_loop_rounds 1 ?_
    rw [rounds_succ]
    go_wp2
    go_ret
    exact ⟨rfl, 0, rfl⟩
  · obtain ⟨b, off, cap, rfl, hc⟩ : ∃ b off cap, v = .slice (some ⟨b, off, none⟩) xs.length cap ∧ ∀ i, i < xs.length → w.cell? ⟨b, off + i, none⟩ = some (.int .i32 (xs.getD i 0)) := by
      rcases h1 with ⟨ao, cap, _, e⟩ | ⟨b, off, cap, e, hp, hc⟩
      · subst e; simp at h0
      · exact ⟨b, off, cap, e, hc⟩
    obtain ⟨b', off', cap', rfl, hc'⟩ : ∃ b off cap, u = .slice (some ⟨b, off, none⟩) xs.length cap ∧ ∀ i, i < xs.length → w.cell? ⟨b, off + i, none⟩ = some (.int .i32 (xs.getD i 0)) := by
      rcases h2 with ⟨ao, cap, _, e⟩ | ⟨b, off, cap, e, hp, hc⟩
      · subst e; simp at h0
      · exact ⟨b, off, cap, e, hc⟩
    clear h1 h2
    generalize hl : xs.length = n at *
    clear hl
    have hne : ((n : Int) != (n : Int)) = false := by simp
    have HC := hide hc
    have HC' := hide hc'
    clear hc hc'
    go_enter Tryz.func40, Tryz.ntmps40
    go_wp2
    go_loopw [13] (fun i wr => ∃ k nq : Nat, k ≤ n ∧ i = .int .i64 k ∧ wr = w.drewN nq) (fun i _ => n - (intOf i).toNat)
    case atStart => exact ⟨0, 0, Nat.zero_le _, rfl, rfl⟩
    case round =>
      obtain ⟨k, nq, hk, rfl, rfl⟩ := hrel
      by_cases hlt : k < n
      · have hx := HC.out k hlt
        have hy := HC'.out k hlt
        generalize xs.getD k 0 = z at hx hy
        have hz : (z != z) = false := by simp
        go_wp2
        go_quiet (fail)
        go_wp2
        go_roundw
        case rel => exact ⟨k + 1, _, by omega, by go_num, rfl⟩
        case measure => simp [intOf]; omega
      · go_wp2
        go_ret
        exact ⟨rfl, _, rfl⟩
end Go.Proofs.YtbgngikejgihgagGreatDoor

namespace Go.Proofs.YtbgngikejgihgagGreatDoor
open Go Go.RowKit
set_option linter.unusedVariables false

set_option maxHeartbeats 2000000 in
set_option maxRecDepth 100000 in
theorem ptextS (B : Nat) (zs : List Int) (b o cap : Nat) (v : Value) (xs : List It) (w : World) (hc : At32 w b o zs) (hb : b < w.heap.size) (hz : zs.length ≤ 1048576) (hcap : zs.length ≤ cap) (hm : cap ≤ maxLen) (hr : RdI B w v xs) (hB : B ≤ w.heap.size) (hn : xs.length ≤ 8192) (hw : ∀ x ∈ xs, WP zs x.pc ∧ 1 ≤ x.pc.len) (ht : (txt zs xs).length ≤ 8192) :
    Calls Tryz.prog 35 #[.agg #[.slice (some ⟨b, o, none⟩) zs.length cap, v]] w fun e w' => ∃ v', e = .returned v' ∧ own32 w' w.heap.size v' (txt zs xs) ∧ Below w.heap.size w w' := by
  obtain ⟨i0, hi, hz0, hz1, hz2⟩ := info_parts Tryz.info32T
  obtain ⟨ao, cap', rfl⟩ := hr.val
  have HB0 := hide (((Below.refl w.heap.size w).alloc (Nat.le_refl _) (.cells #[.slice (some ⟨b, o, none⟩) zs.length cap, .slice ao xs.length cap'] 69)).alloc (by simp) (.cells #[] 21))
  have HC0 := hide (hc.below HB0.out hb)
  have hs0 : ((w.alloc (.cells #[.slice (some ⟨b, o, none⟩) zs.length cap, .slice ao xs.length cap'] 69)).alloc (.cells #[] 21)).heap.size = w.heap.size + 2 := by simp
  have hk0 : ((w.alloc (.cells #[.slice (some ⟨b, o, none⟩) zs.length cap, .slice ao xs.length cap'] 69)).alloc (.cells #[] 21)).heap[w.heap.size]? = some (.cells #[.slice (some ⟨b, o, none⟩) zs.length cap, .slice ao xs.length cap'] 69 (0, 0)) := (Below.heap_alloc _ _ _ (by simp)).trans (heap_alloc_new _ _)
  have O0 := own32_new (w.alloc (.cells #[.slice (some ⟨b, o, none⟩) zs.length cap, .slice ao xs.length cap'] 69))
  rw [World.size_alloc] at O0
  have HO0 := hide (show own32 _ (w.heap.size + 1) _ [] from O0)
  have c0 : ((w.alloc (.cells #[.slice (some ⟨b, o, none⟩) zs.length cap, .slice ao xs.length cap'] 69)).alloc (.cells #[] 21)).cell? ⟨w.heap.size, 1, none⟩ = some (.slice ao xs.length cap') := by rw [cell_of_row _ _ 1 _ _ _ hk0]; rfl
  have hcell : ∀ j, j < xs.length → ∃ b off x, ao = some ⟨b, off, none⟩ ∧ b < B ∧ xs[j]? = some x ∧ ItAt w b (off + j * 4) x := by
    intro j hj
    obtain ⟨b, off, cap', e, _, hb, hc⟩ := hr.at (by intro e; subst e; simp at hj)
    cases e
    obtain ⟨x, h1, h2⟩ := itAt_of (B := B) (cap := cap) hc hj
    exact ⟨b, off, x, rfl, hb, h1, h2⟩
  have HC := hide hcell
  have hcapx : xs.length ≤ cap' ∧ cap' ≤ maxLen ∨ xs.length = 0 := by
    rcases hr with ⟨_, _, e, rfl⟩ | ⟨_, _, _, e, hp, _⟩
    · right; rfl
    · cases e; left; exact ⟨hp.2.1, hp.2.2⟩
  unfold maxLen at hcapx hm
  have HW := hide hw
  have HTL : Hid (∀ j, (txt zs (xs.take j)).length ≤ 8192) := hide fun j => by
    have e := txt_append zs (xs.take j) (xs.drop j)
    rw [List.take_append_drop] at e
    rw [e, List.length_append] at ht
    omega
  have HK0 := hide hk0
  have HR0 := hide (hr.below HB0.out hB)
  generalize hN : xs.length = n at *
  generalize hNZ : zs.length = nz at *
  clear hr hcell hw hc O0 hk0 ht
  go_enter Tryz.func35, Tryz.ntmps35
  go_wp2_with fail
  generalize (w.alloc (.cells #[.slice (some ⟨b, o, none⟩) nz cap, .slice ao n cap'] 69)).alloc (.cells #[] 21) = w0 at *
  go_loopw [3, 11] (fun s i wr => ∃ j : Nat, j ≤ n ∧ i = .int .i64 j ∧ own32 wr (w.heap.size + 1) s (txt zs (xs.take j)) ∧ Below (w.heap.size + 1) w0 wr) (fun _ i _ => n - (intOf i).toNat)
  case atStart => exact ⟨0, Nat.zero_le _, rfl, HO0.out, Below.refl _ _⟩
  case round =>
    obtain ⟨j, hj, rfl, hoj, hbw⟩ := hrel
    have HOJ := hide hoj
    have HBW := hide hbw
    have hsw := hbw.size
    obtain ⟨asl, csl, rfl⟩ := own32_val hoj
    clear hbw hoj c0
    by_cases hjn : j < n
    · obtain ⟨b', off, x, rfl, hb', hx, a0, a1, a2, a3⟩ := HC.out j hjn
      have hjn' : (j : Int) < n := by omega
      have hx' := hide hx
      obtain ⟨⟨h1, h2, h3, h4⟩, h5⟩ := HW.out x (List.mem_iff_getElem?.2 ⟨j, hx⟩)
      rw [hNZ] at h3
      have hBw := (HB0.out.trans (HBW.out.mono (by omega)))
      have hbw2 : b' < w.heap.size := by omega
      have e0 := (hBw.cell (p := ⟨b', off + j * 4, none⟩) hbw2).trans a0
      have e1 := (hBw.cell (p := ⟨b', off + j * 4 + 1, none⟩) hbw2).trans a1
      have e2 := (hBw.cell (p := ⟨b', off + j * 4 + 2, none⟩) hbw2).trans a2
      have e3 := (hBw.cell (p := ⟨b', off + j * 4 + 3, none⟩) hbw2).trans a3
      have hbr : b' < wr.heap.size := by omega
      have HTJ := hide (HTL.out j)
      have HTJ1 := hide (HTL.out (j + 1))
      have ETX := hide (show txt zs (xs.take (j + 1)) = txt zs (xs.take j) ++ ptx zs x.pc by rw [take_succ_of hx]; rw [txt_append]; simp [txt])
      clear a0 a1 a2 a3 hx hBw h4
      obtain ⟨⟨po, pl, pb⟩, lv⟩ := x
      simp only at *
      obtain ⟨q, rfl⟩ : ∃ q : Nat, po = q := ⟨po.toNat, by omega⟩
      obtain ⟨l, rfl⟩ : ∃ l : Nat, pl = l := ⟨pl.toNat, by omega⟩
      have HBA := hide (HBW.out.alloc (by omega) (.cells #[.int .i64 (q : Int), .int .i64 (l : Int), .int .i64 pb, .int .i64 lv] 145))
      have KA : (wr.alloc (.cells #[.int .i64 (q : Int), .int .i64 (l : Int), .int .i64 pb, .int .i64 lv] 145)).heap[wr.heap.size]? = some (.cells #[.int .i64 (q : Int), .int .i64 (l : Int), .int .i64 pb, .int .i64 lv] 145 (0, 0)) := heap_alloc_new _ _
      have d0 : (wr.alloc (.cells #[.int .i64 (q : Int), .int .i64 (l : Int), .int .i64 pb, .int .i64 lv] 145)).cell? ⟨wr.heap.size, 0, none⟩ = some (.int .i64 (q : Int)) := by rw [cell_of_row _ _ 0 _ _ _ KA]; rfl
      have d1 : (wr.alloc (.cells #[.int .i64 (q : Int), .int .i64 (l : Int), .int .i64 pb, .int .i64 lv] 145)).cell? ⟨wr.heap.size, 1, none⟩ = some (.int .i64 (l : Int)) := by rw [cell_of_row _ _ 1 _ _ _ KA]; rfl
      have c0 : (wr.alloc (.cells #[.int .i64 (q : Int), .int .i64 (l : Int), .int .i64 pb, .int .i64 lv] 145)).cell? ⟨w.heap.size, 0, none⟩ = some (.slice (some ⟨b, o, none⟩) nz cap) := by rw [HBA.out.cell (p := ⟨w.heap.size, 0, none⟩) (by show w.heap.size < w.heap.size + 1; omega), cell_of_row w0 _ 0 _ _ _ HK0.out]; rfl
      have HOA := hide (show own32 _ (w.heap.size + 1) _ _ from World.ownsRow.alloc HOJ.out (.cells #[.int .i64 (q : Int), .int .i64 (l : Int), .int .i64 pb, .int .i64 lv] 145))
      have HCA := hide ((HC0.out.below HBA.out (by omega)).app q l (by omega))
      have hsa : (wr.alloc (.cells #[.int .i64 (q : Int), .int .i64 (l : Int), .int .i64 pb, .int .i64 lv] 145)).heap.size = wr.heap.size + 1 := by simp
      have hlw : w.heap.size < wr.heap.size := by omega
      have g1 : (q : Int) ≤ (q : Int) + (l : Int) := by omega
      have g2 : (q : Int) + (l : Int) ≤ (cap : Int) := by omega
      have g3 : ¬ cap = q := by omega
      have g4 : (0 : Int) ≤ (q : Int) + (l : Int) := by omega
      have hll : ((zs.drop q).take l).length = l := by rw [List.length_take, List.length_drop]; omega
      have HLL := hide (show ((zs.drop q).take l).length = q + l - q by rw [hll]; omega)
      simp only [ptx, Int.toNat_natCast] at ETX
      have htj := HTJ.out
      have htj1 := HTJ1.out
      rw [ETX.out, List.length_append, hll] at htj1
      have HLE := hide (show (ints .i32 ((zs.drop q).take l)).length = (q + l - q) * 1 by rw [ints_length, hll]; omega)
      clear KA HTJ HTJ1 hll
      generalize hU : (zs.drop q).take l = U at *
      generalize hV : txt zs (xs.take j) = V at *
      generalize hVL : V.length = vl at *
      go_wp2_with (at_builtin; refine wpList_append_own _ rfl _ _ 36 rfl (w.heap.size + 1) 21 i0 (.int .i32 0) 1 4 Tryz.underlying36 hi hz0 hz1 hz2 rfl (by decide) _ vl (ints .i32 V) rfl (by have h9 := HOA.out; unfold own32 at h9; rw [hVL] at h9; exact h9) ⟨b, o + q, none⟩ (q + l - q) (cap - q) (ints .i32 U) rfl HLE.out HCA.out (ints_one _ _) (by unfold maxLen; omega) (by omega) (by omega) ?_; intro v2 w2 hown' hgrow _)
      have HON := hide (show own32 w2 (w.heap.size + 1) v2 (txt zs (xs.take (j + 1))) by rw [ETX.out]; exact own32_app hVL HLL.out hown')
      have HBN := hide (HBA.out.grown hgrow (by omega) (fun r hr => (HOA.out.lt r hr).1))
      clear hown' hgrow
      go_wp2
      go_roundw
      case rel => exact ⟨j + 1, by omega, by go_num, HON.out, HBN.out⟩
      case measure => simp [intOf]; omega
    · obtain rfl : j = n := by omega
      have hge : ¬ (j : Int) < (j : Int) := by omega
      have e : xs.take j = xs := List.take_of_length_le (by omega)
      rw [e] at HOJ ⊢
      clear e
      go_wp2
      go_ret
      exact ⟨_, rfl, owns_base HOJ.out (by omega), HB0.out.trans (HBW.out.mono (by omega))⟩
end Go.Proofs.YtbgngikejgihgagGreatDoor
