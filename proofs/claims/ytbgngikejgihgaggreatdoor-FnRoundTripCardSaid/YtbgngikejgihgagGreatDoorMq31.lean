import Derived.Test.YtbgngikejgihgagGreatDoorMq30
import Derived.Test.YtbgngikejgihgagGreatDoorMq29
import Derived.Test.YtbgngikejgihgagGreatDoorMq24
import Derived.Test.YtbgngikejgihgagGreatDoorProg
import Derived.Test.YtbgngikejgihgagGreatDoorMq01
import Derived.Test.YtbgngikejgihgagGreatDoorMq03
import Derived.WalkKit
import Derived.WalkLawsBesides
import Derived.Deep.QuietTactic
import Derived.BigQuiet
import Derived.Test.YtbgngikejgihgagGreatDoorMq09
import Derived.Deep.RegionWith
import Derived.Deep.RegionLaw
import Derived.Deep.Cut
import Derived.Deep.CutRange
import Derived.Deep.AppendLies
import Derived.Test.YtbgngikejgihgagGreatDoorMq06
import Derived.Test.YtbgngikejgihgagGreatDoorMq07
import Derived.Laws.AppendOwnNone
import Derived.Lib.SliceRun
namespace Go.Proofs.YtbgngikejgihgagGreatDoor
open Go Go.RowKit
set_option linter.unusedVariables false

def msgLd : ByteArray := ⟨#[108, 111, 97, 100, 105, 110, 103, 32, 97, 32, 116, 101, 120, 116]⟩
set_option maxHeartbeats 1000000 in
theorem checkTextN (ao : Option Addr) (n cap : Nat) (w : World) :
    Calls Tryz.prog 93 #[.slice ao n cap] w fun e w' => e = .returned (if n ≤ 8192 then .nilIface else .iface 172 (.agg #[.string msgLd, .iface 181 (.int .i64 10)])) ∧ w' = w := by
  have HK := hide (checkRoomN 0 n w (by omega) (by omega))
  by_cases h : n ≤ 8192
  · rw [if_pos h]
    rw [show decide ((0 : Int) ≤ 8192 ∧ (n : Int) ≤ 8192 - 0) = true by rw [decide_eq_true_eq]; omega] at HK
    simp only [errV, if_true] at HK
    go_enter Tryz.func93, Tryz.ntmps93
    go_wp2_with fail
    refine HK.out.mono ?_
    rintro e w1 ⟨rfl, rfl⟩
    go_wp2
    go_ret
    exact ⟨rfl, rfl⟩
  · rw [if_neg h]
    rw [show decide ((0 : Int) ≤ 8192 ∧ (n : Int) ≤ 8192 - 0) = false by rw [decide_eq_false_iff_not]; omega] at HK
    simp only [errV, Bool.false_eq_true, if_false] at HK
    go_enter Tryz.func93, Tryz.ntmps93
    go_wp2_with fail
    refine HK.out.mono ?_
    rintro e w1 ⟨rfl, rfl⟩
    go_wp2
    go_ret
    exact ⟨rfl, rfl⟩

end Go.Proofs.YtbgngikejgihgagGreatDoor

namespace Go.Proofs.YtbgngikejgihgagGreatDoor
open Go Go.RowKit
set_option linter.unusedVariables false

/-- What LineLoad answers. -/
def llG (zs : List Int) : List Gr := if zs.length ≤ 8192 then (lns zs).map plG else []
def llS (zs : List Int) : List Int := if zs.length ≤ 8192 then [0] else []
def llC (zs : List Int) : Int := if zs.length ≤ 8192 then 0 else 10
def LlPost (w : World) (zs : List Int) (e : Ending) (w' : World) : Prop := ∃ vr vt, e = .returned (.tuple #[.agg #[vr, vt], .int .i64 (llC zs)]) ∧ OwL w' w.heap.size w'.heap.size vr vt (llG zs) (llS zs) ∧ Below w.heap.size w w'

set_option maxHeartbeats 2000000 in
set_option maxRecDepth 100000 in
theorem implLl (base : Nat) (zs : List Int) (b cap : Nat) (w : World) (h : o32 w base (.slice (some ⟨b, 0, none⟩) zs.length cap) zs) (hn : zs.length ≤ 1048576) (hcap : zs.length ≤ cap ∧ cap ≤ maxLen) (hg : w.cell? ⟨0, 0, none⟩ = some (.iface 307 (.agg #[.pointer (some ⟨2, 100, none⟩)]))) :
    Calls Tryz.prog 41 #[.slice (some ⟨b, 0, none⟩) zs.length cap] w (LlPost w zs) := by
  have hlt0 : 0 < w.heap.size := World.block_lt_of_cell? w _ hg
  have hbl := (h.lt b rfl).2
  have A0 := hide ((Below.refl w.heap.size w).alloc (Nat.le_refl _) (.cells #[.slice none 0 0, .slice none 0 0] 29))
  have K0 := hide (D2.new w (.slice none 0 0) (.slice none 0 0) 29)
  have hs0 : (w.alloc (.cells #[.slice none 0 0, .slice none 0 0] 29)).heap.size = w.heap.size + 1 := by simp
  have O0 := hide (show o32 _ base _ zs from owns_below h A0.out (Nat.le_refl _))
  have G0 := hide ((A0.out.cell (p := ⟨0, 0, none⟩) hlt0).trans hg)
  have CT := hide (fun w => checkTextN (some ⟨b, 0, none⟩) zs.length cap w)
  by_cases h8 : zs.length ≤ 8192
  · rw [if_pos h8] at CT
    have LD := hide (loadL zs b 0 cap _ (fun i hi => by rw [Nat.zero_add]; exact owns_cell O0.out i hi) (by rw [hs0]; omega) h8 hcap.1 hcap.2)
    have LL := lns_len zs
    have HE := hide (show (llC zs = 0 ∧ llG zs = (lns zs).map plG ∧ llS zs = [0]) from ⟨by rw [llC, if_pos h8], by rw [llG, if_pos h8], by rw [llS, if_pos h8]⟩)
    generalize hL : lns zs = L at *
    generalize hN : zs.length = n at *
    generalize hm : L.length = m at *
    have HM := hide (show (L.map plG).length = m by rw [List.length_map, hm])
    clear h hg hN hL hm
    go_enter Tryz.func41, Tryz.ntmps41
    go_wp2_with fail
    generalize w.alloc (.cells #[.slice none 0 0, .slice none 0 0] 29) = w0 at *
    refine (CT.out _).mono ?_
    rintro e w1 ⟨rfl, hw1⟩
    have hw2 := hw1.symm
    subst hw2
    go_wp2_with fail
    refine LD.out.mono ?_
    rintro e w2 ⟨c, g, sv, vs, rfl, hc1, hc2, hlc, hb2⟩
    have s2 := hb2.size
    have TL := hide (tellL w0.heap.size w2.heap.size c g m m m m sv vs (L.map plG) n [0] w2 hlc HM.out (by omega) (by omega) (Nat.le_refl _) (Nat.le_refl _) (Nat.le_refl _) s2 (by omega))
    rw [cutG_all] at TL
    have K2 := hide (K0.out.below hb2 (by omega))
    have B2 := hide (A0.out.trans (hb2.mono (by omega)))
    clear hlc hb2 CT LD K0 O0
    go_wp2_with fail
    refine TL.out.mono ?_
    rintro e w3 ⟨vr, rfl, ho3, hb3⟩
    obtain ⟨a1, c1', a2, c2', rfl, hvt⟩ := ho3.val
    subst hvt
    have s3 := hb3.size
    have K3 := hide (K2.out.below hb3 (by omega))
    have B3 := hide (B2.out.trans (hb3.mono (by omega)))
    have O3 := hide ho3
    have e0 := K3.out.c.1
    have e1 := K3.out.c.2
    have f0 := K3.out.fz 0
    have f1 := K3.out.fz 1
    clear ho3 hb3 K2 TL
    go_wp2
    refine bodyPost_ret (v := .tuple #[.agg #[.slice a1 (L.map plG).length c1', .slice a2 [(0 : Int)].length c2'], .int .i64 0]) (by simp [results, Tryz.results41, go_sem, e0, e1]) rfl ⟨_, _, by rw [HE.out.1], ?_, ?_⟩
    · rw [HE.out.2.1, HE.out.2.2]
      exact (O3.out.frame (fun q h1 h2 => by rw [heap_setCell_other _ _ _ _ (by show q ≠ w.heap.size; omega), heap_setCell_other _ _ _ _ (by show q ≠ w.heap.size; omega)])).mono (by omega) (by simp)
    · exact (B3.out.setCell (Nat.le_refl _) _).setCell (Nat.le_refl _) _
  · rw [if_neg h8] at CT
    have HE := hide (show (llC zs = 10 ∧ llG zs = [] ∧ llS zs = []) from ⟨by rw [llC, if_neg h8], by rw [llG, if_neg h8], by rw [llS, if_neg h8]⟩)
    have CO := hide (fun w hg => codeOf msgLd 10 w hg)
    generalize hN : zs.length = n at *
    clear h hg hN
    go_enter Tryz.func41, Tryz.ntmps41
    go_wp2_with fail
    generalize w.alloc (.cells #[.slice none 0 0, .slice none 0 0] 29) = w0 at *
    refine (CT.out _).mono ?_
    rintro e w1 ⟨rfl, hw1⟩
    have hw2 := hw1.symm
    subst hw2
    go_wp2_with fail
    refine (CO.out _ (by first | exact G0.out | exact (World.cell?_alloc_lt _ _ ⟨0, 0, none⟩ (by show 0 < w0.heap.size; omega)).trans G0.out)).mono ?_
    rintro e w2 ⟨rfl, hb2⟩
    have B2 := hide (A0.out.trans (hb2.mono (by omega)))
    have K2 := hide (K0.out.below hb2 (by omega))
    have e0 := K2.out.c.1
    have e1 := K2.out.c.2
    have f0 := K2.out.fz 0
    have f1 := K2.out.fz 1
    clear hb2
    go_wp2
    refine bodyPost_ret (v := .tuple #[.agg #[.slice none 0 0, .slice none 0 0], .int .i64 10]) (by simp [results, Tryz.results41, go_sem, e0, e1]) rfl ⟨_, _, by rw [HE.out.1], ?_, ?_⟩
    · rw [HE.out.2.1, HE.out.2.2]; exact OwL.nil _ _ _
    · repeat (first | exact B2.out | refine Below.setCell ?_ (by simp) _)
end Go.Proofs.YtbgngikejgihgagGreatDoor

namespace Go.Proofs.YtbgngikejgihgagGreatDoor
open Go Go.RowKit
set_option linter.unusedVariables false

/-- A gap buffer's three cells. -/
structure GC (w : World) (B o : Nat) (v : Value) (lo hi : Int) : Prop where
  c0 : w.cell? ⟨B, o, none⟩ = some v
  c1 : w.cell? ⟨B, o + 1, none⟩ = some (.int .i64 lo)
  c2 : w.cell? ⟨B, o + 2, none⟩ = some (.int .i64 hi)

theorem GC.lt {w : World} {B o : Nat} {v : Value} {lo hi : Int} (h : GC w B o v lo hi) : B < w.heap.size := World.block_lt_of_cell? w _ h.c0
theorem GC.below {w w' : World} {B o D : Nat} {v : Value} {lo hi : Int} (h : GC w B o v lo hi) (hb : Below D w w') (hD : w.heap.size ≤ D) : GC w' B o v lo hi := by
  have hl := h.lt
  exact ⟨(hb.cell (p := ⟨B, o, none⟩) (by show B < D; omega)).trans h.c0, (hb.cell (p := ⟨B, o + 1, none⟩) (by show B < D; omega)).trans h.c1, (hb.cell (p := ⟨B, o + 2, none⟩) (by show B < D; omega)).trans h.c2⟩

theorem GC.same {w w' : World} {B o : Nat} {v : Value} {lo hi : Int} (h : GC w B o v lo hi) (hh : w'.heap = w.heap) : GC w' B o v lo hi :=
  ⟨(World.cell?_of_block (w := w) (by rw [hh])).trans h.c0, (World.cell?_of_block (w := w) (by rw [hh])).trans h.c1, (World.cell?_of_block (w := w) (by rw [hh])).trans h.c2⟩

theorem GC.drew {w : World} {B o : Nat} {v : Value} {lo hi : Int} (h : GC w B o v lo hi) (n : Nat) : GC (w.drewN n) B o v lo hi :=
  ⟨by simpa using h.c0, by simpa using h.c1, by simpa using h.c2⟩

set_option maxHeartbeats 1000000 in
theorem gapN (B o : Nat) (v : Value) (lo hi : Int) (w : World) (h : GC w B o v lo hi) (h0 : 0 ≤ lo) (h1 : lo ≤ hi) (h2 : hi ≤ 1099511627776) :
    Calls Tryz.prog 195 #[.pointer (some ⟨B, o, none⟩)] w fun e w' => e = .returned (.int .i64 (hi - lo)) ∧ ∃ n, w' = w.drewN n := by
  obtain ⟨c0, c1, c2⟩ := h
  go_enter Tryz.func195, Tryz.ntmps195
  go_wp2
  go_quiet (fail)
  go_wp2
  go_ret
  exact ⟨rfl, _, rfl⟩

set_option maxHeartbeats 1000000 in
theorem lengthG (B o : Nat) (ao : Option Addr) (n cap : Nat) (lo hi : Int) (w : World) (h : GC w B o (.slice ao n cap) lo hi) (h0 : 0 ≤ lo) (h1 : lo ≤ hi) (h2 : hi ≤ n) (hn : n ≤ 1099511627776) :
    Calls Tryz.prog 162 #[.pointer (some ⟨B, o, none⟩)] w fun e w' => e = .returned (.int .i64 (n - (hi - lo))) ∧ ∃ n, w' = w.drewN n := by
  have HK := hide (fun w h => gapN B o (.slice ao n cap) lo hi w h h0 h1 (by omega))
  have H := hide h
  obtain ⟨c0, c1, c2⟩ := h
  go_enter Tryz.func162, Tryz.ntmps162
  go_wp2
  go_quiet ((go_at_call 195; exact Calls.quiet_of (HK.out _ (H.out.drew _))))
  go_wp2
  go_ret
  exact ⟨rfl, _, rfl⟩
end Go.Proofs.YtbgngikejgihgagGreatDoor

namespace Go.Proofs.YtbgngikejgihgagGreatDoor
open Go Go.RowKit
set_option linter.unusedVariables false

theorem Tryz.info64 : (Tryz.prog.info? 3).map (fun i => (i.zero, i.size, i.bytes)) = some (some (.int .i64 0), 1, 8) := by kernel_rfl

set_option maxHeartbeats 1000000 in
theorem atN (B g cap n k a b : Nat) (w : World) (h : RC w B 0 (.slice (some ⟨g, 0, none⟩) n cap) a b) (hk : k < a) (ha : a ≤ n) (hc : n ≤ cap) (hm : n ≤ 1048576) :
    Calls Tryz.prog 164 #[.pointer (some ⟨B, 0, none⟩), .int .i64 k] w fun e w' => e = .returned (.pointer (some ⟨g, k * 3, none⟩)) ∧ w' = w := by
  obtain ⟨c0, c1, c2⟩ := h
  have hk' : (k : Int) < a := by omega
  have hkn : (k : Int) < n := by omega
  have hkn' : k < n := by omega
  go_enter Tryz.func164, Tryz.ntmps164
  go_wp2
  go_ret
  exact ⟨rfl, rfl⟩

set_option maxHeartbeats 4000000 in
set_option maxRecDepth 100000 in
theorem learnN (lo hi c g cap n m : Nat) (sv : Value) (vs : List Value) (gs : List Gr) (rn : Int) (st : List Int) (w : World) (h : LCr w lo hi c (.slice (some ⟨g, 0, none⟩) n cap) sv vs gs n n rn st) (hN : gs.length = n) (h2 : n ≤ 8193) (hh : hi ≤ w.heap.size) (hlc : lo ≤ c) (hch : c < hi) (hs1 : 1 ≤ st.length) (hst : st = (stL (gs.map grT)).take st.length) (hsn : st.length ≤ n) (hm : m ≤ n) (hok : ∀ x ∈ gs, okG x) (hj : (jn (gs.map grT)).length ≤ 8192) :
    Calls Tryz.prog 111 #[.pointer (some ⟨c, 0, none⟩), .int .i64 m] w fun e w' => ∃ sv', e = .returned (.tuple #[]) ∧ LCr w' lo w'.heap.size c (.slice (some ⟨g, 0, none⟩) n cap) sv' vs gs n n rn ((stL (gs.map grT)).take (max st.length m)) ∧ Below lo w w' := by
  obtain ⟨i0, hi0, hz0, hz1, hz2⟩ := info_parts Tryz.info64
  obtain ⟨LS, hLS⟩ : ∃ LS, LS = gs.map grT := ⟨_, rfl⟩
  rw [← hLS] at hst hj ⊢
  have hLn : LS.length = n := by rw [hLS, List.length_map, hN]
  have SB := hide (fun (k : Nat) (hk : k < n) => (show ∃ x u, gs[k]? = some x ∧ vs[k]? = some u ∧ LS[k]? = some (grT x) ∧ okG x from by
    obtain ⟨x, u, hx, hu⟩ := h.rows.get (i := k) (by rw [hN]; exact hk)
    exact ⟨x, u, hx, hu, by rw [hLS]; simp [hx], hok x (List.mem_of_getElem? hx)⟩))
  have JB := hide (show smL LS + n ≤ 8193 from by
    have := jn_len (ls := LS) (by intro e; rw [e] at hLn; simp at hLn; omega)
    rw [hLn] at this; omega)
  have ST := hide (fun (j : Nat) (l : List Int) (hl : LS[j]? = some l) => stL_step hl)
  have SG := hide (fun (j : Nat) (hj : j < n) => stL_getD (ls := LS) (i := j) (by rw [hLn]; exact hj))
  have STS := hide (fun (j : Nat) (hj : j < n) => stL_take_succ (ls := LS) (i := j) (by rw [hLn]; exact hj))
  have STL := hide (show (stL LS).length = n by rw [stL_len, hLn])
  have SML := hide (fun j => smL_take_le LS j)
  have hcap : n ≤ cap ∧ cap ≤ maxLen := by
    have hr := h.rows.row
    rw [hN] at hr
    rcases hr.2 with ⟨q, _⟩ | ⟨g', cap', cur, q, _, _, c1, c2, _⟩
    · cases q
    · simp only [Value.slice.injEq, Option.some.injEq, Addr.mk.injEq, and_true, true_and] at q
      obtain ⟨_, rfl⟩ := q
      exact ⟨c1, c2⟩
  have HN := hide hN
  obtain ⟨s0, hs0⟩ : ∃ s0, s0 = st.length := ⟨_, rfl⟩
  rw [← hs0] at hst hs1 hsn ⊢
  rw [hst] at h
  have H := hide h
  obtain ⟨as_, cs_, hsv⟩ := o64_val h.starts
  rw [List.length_take, STL.out, Nat.min_eq_left hsn] at hsv
  subst hsv
  have c4 := h.cells.2.2.2.2
  obtain ⟨k1, k2⟩ := hcap
  unfold maxLen at k2
  clear h hN hLS hok hj hst hs0
  go_enter Tryz.func111, Tryz.ntmps111
  go_wp2_with fail
  go_loopw [4] (fun kk wr => ∃ j : Nat, s0 ≤ j ∧ j ≤ max s0 m ∧ kk = .int .i64 j ∧ Below lo w wr ∧ ∃ aj cj, LCr wr lo wr.heap.size c (.slice (some ⟨g, 0, none⟩) n cap) (.slice aj j cj) vs gs n n rn ((stL LS).take j))
    (fun kk _ => max s0 m - (intOf kk).toNat)
  case atStart => exact ⟨s0, Nat.le_refl _, by omega, rfl, Below.refl _ _, _, _, H.out.mono (Nat.le_refl _) hh⟩
  case round =>
    obtain ⟨j, hj1, hj2, rfl, hb, aj, cj, hL⟩ := hrel
    have HB := hide hb
    have HL := hide hL
    have hsz := hb.size
    by_cases hlt : j < m
    · have hjn : j < n := by omega
      obtain ⟨i, rfl⟩ : ∃ i, j = i + 1 := ⟨j - 1, by omega⟩
      obtain ⟨x, u, hx, hu, hl, hokx⟩ := SB.out i (by omega)
      have e0 := ST.out i _ hl
      have hgl := SG.out i (by omega)
      have hc := hL.rows.cells HN.out hx hu
      have hgt := grT_len hokx.1
      obtain ⟨q0, q1, q2, q3, q4⟩ := hL.cells
      have f4 := hL.fz 4
      have hcl := hL.lt
      obtain ⟨ai, ci, hu'⟩ := o32_val (hL.rows.inner hx hu)
      have AT := hide (fun (W : World) (hW : W.heap = wr.heap) => atN c g cap n i n n W (RC.same (w := wr) ⟨q0, q1, q2⟩ hW) (by omega) (Nat.le_refl _) k1 (by omega))
      have GCx := hide (show GC wr g (i * 3) u x.lo x.hi from ⟨hc.1, hc.2.1, hc.2.2⟩)
      have hbd : 0 ≤ x.lo ∧ x.lo ≤ x.hi ∧ x.hi ≤ x.cells.length := by
        obtain ⟨⟨_, ⟨_, q3⟩, ⟨q4, q5⟩, _⟩, _⟩ := hokx.1
        exact ⟨q4, q5, q3⟩
      have LE := hide (fun (W : World) (hW : W.heap = wr.heap) => lengthG g (i * 3) ai x.cells.length ci x.lo x.hi W (by have := GCx.out.same hW; rw [hu'] at this; exact this) hbd.1 hbd.2.1 hbd.2.2 (by omega))
      have hr := hL.starts
      unfold o64 at hr
      rw [List.length_take, STL.out, Nat.min_eq_left (by omega)] at hr
      have hsm1 := SML.out i
      have hjb := JB.out
      have OW := hide hr
      rcases hr.2 with ⟨_, q⟩ | ⟨gj, cj', cur, q, _, _, d1, d2, _⟩
      · omega
      simp only [Value.slice.injEq, true_and] at q
      obtain ⟨rfl, rfl⟩ := q
      have cs : wr.cell? ⟨gj, i, none⟩ = some (.int .i64 ((smL (LS.take i) + i : Nat) : Int)) := by
        have := owns_cell hr i (by omega)
        rw [this]
        simp only [List.getD_eq_getElem?_getD] at hgl ⊢
        rw [List.getElem?_take, if_pos (by omega), hgl]
      unfold maxLen at d2
      have TK := hide (STS.out (i + 1) hjn)
      have EV := hide e0
      have HGT := hide hgt.1
      generalize hsA : ((smL (LS.take i) + i : Nat) : Int) = sA at *
      have hsA0 : 0 ≤ sA ∧ sA ≤ 20000 := by omega
      generalize hxc : x.cells.length = xc at *
      generalize hxl : x.lo = xl at *
      generalize hxh : x.hi = xh at *
      have hxc2 : xc ≤ 65536 := hgt.2.2
      have X0 := hide hL
      have hclw : c < wr.heap.size := hL.lt
      have hlt' : ((i + 1 : Nat) : Int) < m := by omega
      have hnc : some gj ≠ some c := by
        intro e
        cases e
        exact own_apart (blk_row hL.blk) hr (by decide) rfl rfl
      have VV : sA + ((xc : Int) - (xh - xl)) + 1 = ((smL (LS.take (i + 1)) + (i + 1) : Nat) : Int) := by rw [← hgt.1]; exact e0
      have LAP := hide (fun (x7 : World) (X7 : x7.heap = wr.heap) (B7 : Below lo w x7) (x8 : World) (g5 cap5 : Nat) (hg5 : (x7.alloc (.cells #[.int .i64 (sA + ((xc : Int) - (xh - xl)) + 1)] 3)).grownBy x8 (Value.slice (some ⟨gj, 0, none⟩) (i + 1) cj).ownBlock) (ho5 : x8.ownsRow lo 3 1 (.slice (some ⟨g5, 0, none⟩) (i + 1 + 1) cap5) (i + 1 + 1) (ints .i64 ((stL LS).take (i + 1)) ++ [.int .i64 (sA + ((xc : Int) - (xh - xl)) + 1)])) (_ : (Value.slice (some ⟨gj, 0, none⟩) (i + 1) cj).ownBlock = some g5 ∨ g5 = x7.heap.size + 1) (hgl5 : g5 < x8.heap.size) => (show LCr (x8.setCell ⟨c, 4, none⟩ (.slice (some ⟨g5, 0, none⟩) (i + 1 + 1) cap5)) lo x8.heap.size c (.slice (some ⟨g, 0, none⟩) n cap) (.slice (some ⟨g5, 0, none⟩) (i + 1 + 1) cap5) vs gs n n rn ((stL LS).take (i + 1 + 1)) ∧ x8.heap[c]? = some (.cells #[.slice (some ⟨g, 0, none⟩) n cap, .int .i64 n, .int .i64 n, .int .i64 rn, .slice (some ⟨gj, 0, none⟩) (i + 1) cj] 179 (0, 0)) ∧ Below lo w x8 from by
        have hs7 : x7.heap.size = wr.heap.size := by rw [X7]
        have AL := (Below.refl x7.heap.size x7).alloc (Nat.le_refl _) (.cells #[.int .i64 (sA + ((xc : Int) - (xh - xl)) + 1)] 3)
        have L7 := (hL.same X7).below AL (by omega) (by have := hL.lt; omega)
        have hsz8 := hg5.size
        simp at hsz8
        have AP := L7.app (hi' := x8.heap.size) hg5 (sv' := .slice (some ⟨g5, 0, none⟩) (i + 1 + 1) cap5) (st' := (stL LS).take (i + 1 + 1)) (by
          unfold o64
          rw [List.length_take, STL.out, Nat.min_eq_left (by omega), TK.out, ints_append, ← VV]
          exact ho5) (fun q hq => by simp only [Value.ownBlock, Option.some.injEq] at hq; omega) (by omega)
        exact ⟨AP.1, AP.2, ((B7.trans (AL.mono (by have := B7.size; omega))).grown hg5 (by simp; omega) (fun q hq => (OW.out.lt q hq).1))⟩))
      clear hL hr hb e0 hgl hc hgt VV hokx hl hx hu hu' hsA hxc hxl hxh GCx q3
      have hw1 : IntKind.i64.wrap (i : Int) = i := IntWalk.i64_in _ (by omega)
      have hw2 : IntKind.i64.wrap (sA + ((xc : Int) - (xh - xl))) = sA + ((xc : Int) - (xh - xl)) := IntWalk.i64_in _ (by omega)
      have hw3 : IntKind.i64.wrap (sA + ((xc : Int) - (xh - xl)) + 1) = sA + ((xc : Int) - (xh - xl)) + 1 := IntWalk.i64_in _ (by omega)
      have hib : (0 : Int) ≤ (i : Int) ∧ (i : Int) < (i : Int) + 1 := by omega
      have hib1 : (i : Int) < (i : Int) + 1 := by omega
      clear H SB JB ST SG STS SML STL HN HL TK EV HGT X0 hs1 hsm1 hjb hh
      go_upto_region 3 with fail
      go_region_law (first
        | (refine step_append_lies _ rfl _ _ 23 rfl lo 3 i0 (.int .i64 0) 1 8 Tryz.underlying23 hi0 hz0 hz1 hz2 rfl (by decide) _ _ _ rfl (by exact (O7.out.alloc _)) ⟨x7.heap.size, 0, none⟩ 1 1 [.int .i64 (sA + ((xc : Int) - (xh - xl)) + 1)] rfl rfl (by exact newcells x7 _ _) (by simp [Value.oneCell']) (by omega) (by unfold maxLen; omega) (by omega) (by simp; omega) (x7.heap.size + 1) (by simp) ?_; intro g5 cap5 x8 ho5 hg5 hgg hgl5; have APP := LA7.out x8 g5 cap5 hg5 ho5 hgg hgl5; have T8 := hide APP.2.1; have t8 : x8.cell? ⟨c, 4, none⟩ = some (.slice (some ⟨gj, 0, none⟩) (i + 1) cj) := (by rw [cell_of_row x8 _ 4 _ _ _ T8.out]; rfl); have ft8 := frozen_of_row x8 c 4 _ _ T8.out; have F8 := hide APP.1; have B8 := hide APP.2.2; clear ho5 hg5 APP)
        | (go_simp; go_wp2_with (first | (go_at_call 164; refine (AT.out _ (by exact rfl)).mono ?_; rintro e w2 ⟨rfl, rfl⟩) | (go_at_call 162; refine (LE.out _ (by exact rfl)).mono ?_; rintro e x7 ⟨rfl, nq, hw⟩; have X7 : x7.heap = wr.heap := (by rw [hw]; rfl); have S7 : x7.heap.size = wr.heap.size := (by rw [X7]); have t47 : x7.cell? ⟨c, 4, none⟩ = some (.slice (some ⟨gj, 0, none⟩) (i + 1) cj) := (World.cell?_of_block (by rw [X7])).trans q4; have cs7 : x7.cell? ⟨gj, i, none⟩ = some (.int .i64 sA) := (World.cell?_of_block (by rw [X7])).trans cs; have l7 : c < x7.heap.size := (by omega); have n7 : c ≠ x7.heap.size := (by omega); have O7 := hide (show x7.ownsRow lo 3 1 (.slice (some ⟨gj, 0, none⟩) (i + 1) cj) (i + 1) (ints .i64 ((stL LS).take (i + 1))) from owns_of_block OW.out (fun q _ => by rw [X7])); have B7 := hide (show Below lo w x7 from (by rw [hw]; exact ⟨HB.out.os, HB.out.tape, HB.out.output, HB.out.size, HB.out.block⟩)); have LA7 := hide (LAP.out x7 X7 B7.out); clear hw X7 S7))))
      all_goals (
        go_wp2_with fail
        go_roundw
        case rel =>
          exact ⟨i + 1 + 1, by omega, by omega, by go_num, B8.out.setCell (by show lo ≤ c; omega) _, _, _, F8.out.mono (Nat.le_refl _) (by simp)⟩
        case measure => simp [intOf]; omega)
    · have hmx : max s0 m = j := by omega
      have hlt' : ¬ (j : Int) < m := by omega
      clear hL hb
      go_wp2
      go_end0
      exact ⟨rfl, ⟨_, HL.out⟩, HB.out⟩
end Go.Proofs.YtbgngikejgihgagGreatDoor

namespace Go.Proofs.YtbgngikejgihgagGreatDoor
open Go Go.RowKit
set_option linter.unusedVariables false

theorem take_step {xs ys : List Int} {k : Nat} (h : xs.take k = ys.take k) (hx : k < xs.length) (hy : k < ys.length) (e : xs.getD k 0 = ys.getD k 0) : xs.take (k + 1) = ys.take (k + 1) := by
  rw [List.take_add_one, List.take_add_one, h]
  simp only [List.getD_eq_getElem?_getD, List.getElem?_eq_getElem hx, List.getElem?_eq_getElem hy, Option.getD_some] at e
  rw [List.getElem?_eq_getElem hx, List.getElem?_eq_getElem hy, e]
set_option maxHeartbeats 1000000 in
theorem equalN (xs ys : List Int) (v u : Value) (b : Bool) (w : World) (h1 : Rd .i64 w v xs) (h2 : Rd .i64 w u ys) (hn : xs.length ≤ 1048576) (hm : ys.length ≤ 1048576) (hb : b = true ↔ xs = ys) :
    Calls Tryz.prog 112 #[v, u] w fun e w' => e = .returned (.bool b) ∧ ∃ n, w' = w.drewN n := by
  have S1 : ∃ ao cap, v = .slice ao xs.length cap := by
    rcases h1 with ⟨ao, cap, rfl, rfl⟩ | ⟨b, off, cap, rfl, _⟩
    · exact ⟨ao, cap, rfl⟩
    · exact ⟨_, _, rfl⟩
  have S2 : ∃ ao cap, u = .slice ao ys.length cap := by
    rcases h2 with ⟨ao, cap, rfl, rfl⟩ | ⟨b, off, cap, rfl, _⟩
    · exact ⟨ao, cap, rfl⟩
    · exact ⟨_, _, rfl⟩
  by_cases hl : xs.length = ys.length
  · by_cases h0 : xs.length = 0
    · have e1 : xs = [] := List.eq_nil_of_length_eq_zero h0
      have e2 : ys = [] := List.eq_nil_of_length_eq_zero (by omega)
      subst e1 e2
      obtain rfl : b = true := hb.2 rfl
      obtain ⟨ao, cap, rfl⟩ := S1
      obtain ⟨ao', cap', rfl⟩ := S2
      clear h1 h2 hb
      go_enter Tryz.func112, Tryz.ntmps112
      go_wp2
      refine wp_loop_rounds 1 ?_
      rw [rounds_succ]
      go_wp2
      go_ret
      exact ⟨rfl, 0, rfl⟩
    · obtain ⟨b1, o1, c1, rfl, hc⟩ : ∃ b off cap, v = .slice (some ⟨b, off, none⟩) xs.length cap ∧ ∀ i, i < xs.length → w.cell? ⟨b, off + i, none⟩ = some (.int .i64 (xs.getD i 0)) := by
        rcases h1 with ⟨ao, cap, _, e⟩ | ⟨b, off, cap, e, hp, hc⟩
        · subst e; simp at h0
        · exact ⟨b, off, cap, e, hc⟩
      obtain ⟨b2, o2, c2, rfl, hc'⟩ : ∃ b off cap, u = .slice (some ⟨b, off, none⟩) ys.length cap ∧ ∀ i, i < ys.length → w.cell? ⟨b, off + i, none⟩ = some (.int .i64 (ys.getD i 0)) := by
        rcases h2 with ⟨ao, cap, _, e⟩ | ⟨b, off, cap, e, hp, hc⟩
        · subst e; simp at hl; simp [hl] at h0
        · exact ⟨b, off, cap, e, hc⟩
      clear h1 h2 S1 S2
      have TS := hide (fun (k : Nat) (h : xs.take k = ys.take k) (hx : k < xs.length) e => take_step h hx (by rw [← hl]; exact hx) e)
      have HB := hide hb
      have HC := hide hc
      have HC' := hide hc'
      have YES := hide (fun (h : xs.take xs.length = ys.take xs.length) => (show xs = ys by rw [List.take_length] at h; rw [h, List.take_of_length_le (by rw [hl]; exact Nat.le_refl _)]))
      rw [← hl] at HC' ⊢
      generalize hN : xs.length = n at *
      have hne : ((n : Int) != (n : Int)) = false := by simp
      clear hc hc' hb hl hm
      go_enter Tryz.func112, Tryz.ntmps112
      go_wp2
      go_loopw [13] (fun i wr => ∃ k nq : Nat, k ≤ n ∧ i = .int .i64 k ∧ xs.take k = ys.take k ∧ wr = w.drewN nq) (fun i _ => n - (intOf i).toNat)
      case atStart => exact ⟨0, 0, Nat.zero_le _, rfl, by simp, rfl⟩
      case round =>
        obtain ⟨k, nq, hk, rfl, ht, rfl⟩ := hrel
        have HT := hide ht
        clear ht
        by_cases hlt : k < n
        · have hx := HC.out k hlt
          have hy := HC'.out k hlt
          have hlt' : (k : Int) < n := by omega
          by_cases he : xs.getD k 0 = ys.getD k 0
          · have NX := hide (TS.out k HT.out hlt he)
            rw [← he] at hy
            generalize xs.getD k 0 = z at hx hy
            have hz : (z != z) = false := by simp
            clear he
            go_wp2
            go_quiet (fail)
            go_wp2
            go_roundw
            case rel => exact ⟨k + 1, _, by omega, by go_num, NX.out, rfl⟩
            case measure => simp [intOf]; omega
          · obtain rfl : b = false := by
              cases b
              · rfl
              · exact absurd (by rw [HB.out.1 rfl]) he
            generalize xs.getD k 0 = z at *
            generalize ys.getD k 0 = z' at *
            have hz : (z != z') = true := by simpa using he
            go_wp2
            go_quiet (fail)
            go_wp2
            go_ret
            first | exact ⟨rfl, _, rfl⟩ | (refine ⟨rfl, ?_⟩; rw [World.drewN_drewN]; exact ⟨_, rfl⟩)
        · obtain rfl : k = n := by omega
          obtain rfl : b = true := HB.out.2 (YES.out HT.out)
          have hlt' : ¬ (k : Int) < k := by omega
          go_wp2
          go_ret
          exact ⟨rfl, _, rfl⟩
  · obtain rfl : b = false := by
      cases b
      · rfl
      · exact absurd (by rw [hb.1 rfl]) hl
    obtain ⟨ao, cap, rfl⟩ := S1
    obtain ⟨ao', cap', rfl⟩ := S2
    have hne : ((xs.length : Int) != (ys.length : Int)) = true := by simp; omega
    clear h1 h2 hb
    go_enter Tryz.func112, Tryz.ntmps112
    go_wp2
    go_ret
    exact ⟨rfl, 0, rfl⟩
end Go.Proofs.YtbgngikejgihgagGreatDoor

namespace Go.Proofs.YtbgngikejgihgagGreatDoor
open Go Go.RowKit
set_option linter.unusedVariables false

set_option maxHeartbeats 1000000 in
set_option maxRecDepth 100000 in
theorem clone32 (xs : List Int) (v : Value) (w : World) (h : Sl .i32 w v xs) (hx : xs.length ≤ 1048576) :
    Calls Tryz.prog 181 #[v] w fun e w' => ∃ v', e = .returned v' ∧ w'.ownsRow w.heap.size 21 1 v' xs.length (ints .i32 xs) ∧ Below w.heap.size w w' := by
  obtain ⟨i0, hi, hz0, hz1, hz2⟩ := info_parts Tryz.infoG
  have HS := hide h
  rcases h with ⟨rfl, rfl⟩ | ⟨b, off, cap, rfl, _, _⟩
  · have hq := fun w : World => Lib.run_eql_slice_nil (P := Tryz.prog) w 36 21 none 0 0 0 0 Tryz.underlying36
    simp only [Option.isNone_none] at hq
    go_enter Tryz.func181, Tryz.ntmps181
    go_wp2
    go_ret
    exact ⟨_, rfl, World.ownsRow_nil _ _ _ _, Below.refl _ _⟩
  · have hown0 : (w.alloc (.cells #[] 21)).ownsRow w.heap.size 21 1 (.slice (some ⟨w.heap.size, 0, none⟩) 0 0) 0 [] := by
      have := World.ownsRow_made (base := w.heap.size) (e := 21) (size := 1) w #[] 0 (by simp) (Nat.zero_le _) rfl
      simpa using this
    have H0 := hide hown0
    have HB1 := hide ((Below.refl w.heap.size w).alloc (Nat.le_refl _) (.cells #[] 21))
    have HC := hide ((HS.out.below HB1.out).rd rfl)
    have hq := fun w : World => Lib.run_eql_slice_nil (P := Tryz.prog) w 36 21 (some ⟨b, off, none⟩) xs.length cap 0 0 Tryz.underlying36
    simp only [Option.isNone_some] at hq
    clear hown0
    go_enter Tryz.func181, Tryz.ntmps181
    go_wp2_with (at_builtin; refine wpList_append_own _ rfl _ _ 36 rfl w.heap.size 21 i0 (.int .i32 0) 1 4 Tryz.underlying36 hi hz0 hz1 hz2 rfl (by decide) _ 0 [] rfl H0.out ⟨b, off, none⟩ xs.length cap (ints .i32 xs) rfl (by rw [ints_length, Nat.mul_one]) HC.out (ints_one _ _) (by unfold maxLen; omega) (by omega) HB1.out.size ?_; intro v3 w3 ho3 hg3 _)
    rw [Nat.zero_add, List.nil_append] at ho3
    have HO3 := hide ho3
    have HB3 := hide (HB1.out.grown hg3 HB1.out.size (fun q hq => by cases hq; exact Nat.le_refl _))
    clear ho3 hg3
    go_wp2
    go_ret
    exact ⟨_, rfl, HO3.out, HB3.out⟩
end Go.Proofs.YtbgngikejgihgagGreatDoor
