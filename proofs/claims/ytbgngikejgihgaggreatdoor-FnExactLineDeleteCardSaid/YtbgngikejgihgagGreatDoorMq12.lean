import Derived.Test.YtbgngikejgihgagGreatDoorMq11
import Derived.WalkKit
import Derived.Test.YtbgngikejgihgagGreatDoorMq08
import Derived.Test.YtbgngikejgihgagGreatDoorMq03
import Derived.Test.YtbgngikejgihgagGreatDoorMq02
import Derived.Test.YtbgngikejgihgagGreatDoorMq06
import Derived.WalkLawsBesides
namespace Go.Proofs.YtbgngikejgihgagGreatDoor
open Go Go.RowKit
set_option linter.unusedVariables false

set_option maxHeartbeats 2000000 in
set_option maxRecDepth 100000 in
theorem copyGap_zero (ao : Option Addr) (cap : Nat) (xl xh : Int) (w : World) (hao : ao = none ∧ cap = 0 ∨ ∃ g0, ao = some ⟨g0, 0, none⟩) :
    Calls Tryz.prog 193 #[.agg #[.slice ao 0 cap, .int .i64 xl, .int .i64 xh]] w fun e w' => ∃ g c, e = .returned (.agg #[.slice (some ⟨g, 0, none⟩) 0 c, .int .i64 xl, .int .i64 xh]) ∧ w'.ownsRow w.heap.size 21 1 (.slice (some ⟨g, 0, none⟩) 0 c) 0 (ints .i32 []) ∧ Below w.heap.size w w' := by
  obtain ⟨i0, hi0, hz0, hz1, hz2⟩ := info_parts Tryz.infoG
  have A0 := hide (((Below.refl w.heap.size w).alloc (Nat.le_refl _) (.cells #[.slice ao 0 cap, .int .i64 xl, .int .i64 xh] 152)).alloc (by simp) (.cells #[.slice none 0 0, .int .i64 0, .int .i64 0] 152))
  have QP := hide ((Q3.new w (.slice ao 0 cap) (.int .i64 xl) (.int .i64 xh) 152).below ((Below.refl _ _).alloc (Nat.le_refl _) (.cells #[.slice none 0 0, .int .i64 0, .int .i64 0] 152)) (by simp))
  have QR := hide (Q3.new (w.alloc (.cells #[.slice ao 0 cap, .int .i64 xl, .int .i64 xh] 152)) (.slice none 0 0) (.int .i64 0) (.int .i64 0) 152)
  have es : (w.alloc (.cells #[.slice ao 0 cap, .int .i64 xl, .int .i64 xh] 152)).heap.size = w.heap.size + 1 := by simp
  rw [es] at QR
  have es2 : ((w.alloc (.cells #[.slice ao 0 cap, .int .i64 xl, .int .i64 xh] 152)).alloc (.cells #[.slice none 0 0, .int .i64 0, .int .i64 0] 152)).heap.size = w.heap.size + 2 := by simp
  clear es
  go_enter Tryz.func193, Tryz.ntmps193
  go_upto_region 1 with fail
  generalize (w.alloc (.cells #[.slice ao 0 cap, .int .i64 xl, .int .i64 xh] 152)).alloc (.cells #[.slice none 0 0, .int .i64 0, .int .i64 0] 152) = w0 at *
  obtain ⟨p0, p1, p2⟩ := QP.out.c
  obtain ⟨r0, r1, r2⟩ := QR.out.c
  have f0 := QR.out.fz 0
  have f1 := QR.out.fz 1
  have f2 := QR.out.fz 2
  have lp : w.heap.size < w0.heap.size := by omega
  have np : w.heap.size ≠ w0.heap.size := by omega
  have lp2 : w.heap.size + 1 < w0.heap.size := by omega
  have np2 : w.heap.size + 1 ≠ w0.heap.size := by omega
  have O8 := hide (own_newT w0 21)
  have BB := hide (A0.out.alloc (by omega) (.cells #[] 21))
  clear es2
  rcases hao with ⟨rfl, rfl⟩ | ⟨g0, rfl⟩
  · go_region
    all_goals
      go_wp2
      refine bodyPost_ret (v := .agg #[.slice (some ⟨w0.heap.size, 0, none⟩) 0 0, .int .i64 xl, .int .i64 xh]) (by simp [results, Tryz.results193, go_sem, r0, r1, r2, lp2]) rfl ?_
      refine ⟨w0.heap.size, 0, rfl, ?_, ?_⟩
      · have h9 := own_newT (((w0.setCell ⟨w.heap.size + 1, 0, none⟩ (.slice (some ⟨w0.heap.size, 0, none⟩) 0 0)).setCell ⟨w.heap.size + 1, 1, none⟩ (.int .i64 xl)).setCell ⟨w.heap.size + 1, 2, none⟩ (.int .i64 xh)) 21
        have hz : (((w0.setCell ⟨w.heap.size + 1, 0, none⟩ (.slice (some ⟨w0.heap.size, 0, none⟩) 0 0)).setCell ⟨w.heap.size + 1, 1, none⟩ (.int .i64 xl)).setCell ⟨w.heap.size + 1, 2, none⟩ (.int .i64 xh)).heap.size = w0.heap.size := by simp
        rw [hz] at h9
        exact owns_base h9 (by omega)
      · have h9 := ((((A0.out.setCell (p := ⟨w.heap.size + 1, 0, none⟩) (by simp) (.slice (some ⟨w0.heap.size, 0, none⟩) 0 0)).setCell (p := ⟨w.heap.size + 1, 1, none⟩) (by simp) (.int .i64 xl)).setCell (p := ⟨w.heap.size + 1, 2, none⟩) (by simp) (.int .i64 xh)).alloc (by simp; omega) (.cells #[] 21))
        exact ⟨h9.os, h9.tape, h9.output, h9.size, h9.block⟩
  · go_region
    all_goals
      go_wp2
      refine bodyPost_ret (v := .agg #[.slice (some ⟨w0.heap.size, 0, none⟩) 0 0, .int .i64 xl, .int .i64 xh]) (by simp [results, Tryz.results193, go_sem, r0, r1, r2, lp2]) rfl ?_
      refine ⟨w0.heap.size, 0, rfl, ?_, ?_⟩
      · have h9 := own_newT (((w0.setCell ⟨w.heap.size + 1, 0, none⟩ (.slice (some ⟨w0.heap.size, 0, none⟩) 0 0)).setCell ⟨w.heap.size + 1, 1, none⟩ (.int .i64 xl)).setCell ⟨w.heap.size + 1, 2, none⟩ (.int .i64 xh)) 21
        have hz : (((w0.setCell ⟨w.heap.size + 1, 0, none⟩ (.slice (some ⟨w0.heap.size, 0, none⟩) 0 0)).setCell ⟨w.heap.size + 1, 1, none⟩ (.int .i64 xl)).setCell ⟨w.heap.size + 1, 2, none⟩ (.int .i64 xh)).heap.size = w0.heap.size := by simp
        rw [hz] at h9
        exact owns_base h9 (by omega)
      · have h9 := ((((A0.out.setCell (p := ⟨w.heap.size + 1, 0, none⟩) (by simp) (.slice (some ⟨w0.heap.size, 0, none⟩) 0 0)).setCell (p := ⟨w.heap.size + 1, 1, none⟩) (by simp) (.int .i64 xl)).setCell (p := ⟨w.heap.size + 1, 2, none⟩) (by simp) (.int .i64 xh)).alloc (by simp; omega) (.cells #[] 21))
        exact ⟨h9.os, h9.tape, h9.output, h9.size, h9.block⟩
end Go.Proofs.YtbgngikejgihgagGreatDoor

namespace Go.Proofs.YtbgngikejgihgagGreatDoor
open Go Go.RowKit
set_option linter.unusedVariables false

theorem copyGapS (zs : List Int) (lo : Nat) (v : Value) (xl xh : Int) (w : World) (h : o32 w lo v zs) (hm : zs.length ≤ 1048576) :
    Calls Tryz.prog 193 #[.agg #[v, .int .i64 xl, .int .i64 xh]] w fun e w' => ∃ g c, e = .returned (.agg #[.slice (some ⟨g, 0, none⟩) zs.length c, .int .i64 xl, .int .i64 xh]) ∧ o32 w' w.heap.size (.slice (some ⟨g, 0, none⟩) zs.length c) zs ∧ Below w.heap.size w w' := by
  by_cases h0 : zs.length = 0
  · have e0 : zs = [] := List.eq_nil_of_length_eq_zero h0
    subst e0
    have hv : ∃ ao cap, v = .slice ao 0 cap ∧ (ao = none ∧ cap = 0 ∨ ∃ g0, ao = some ⟨g0, 0, none⟩) := by
      rcases h.2 with ⟨q, _⟩ | ⟨g, cap, cur, q, _⟩
      · exact ⟨none, 0, q, .inl ⟨rfl, rfl⟩⟩
      · exact ⟨_, cap, q, .inr ⟨g, rfl⟩⟩
    obtain ⟨ao, cap, rfl, hao⟩ := hv
    exact copyGap_zero ao cap xl xh w hao
  · rcases h.2 with ⟨_, q⟩ | ⟨g, cap, cur, q, _⟩
    · exact absurd q h0
    subst q
    exact copyGap_some zs lo g zs.length cap xl xh w h (by omega) hm

theorem Nest.keptY {w w' : World} {lo hi B' e' size' n' : Nat} {v' : Value} {vs : List Value} {ls : List (List Int)} {xs' : List Value} (h : Nest w lo hi vs ls) (h' : w.ownsRow B' e' size' v' n' xs') (h2 : 21 ≠ e') (hg : w.grownBy w' v'.ownBlock) : Nest w' lo hi vs ls :=
  ⟨h.len, fun i u l hu hl => own_kept (h.own i u l hu hl) h' h2 hg, h.bl, h.ne⟩
theorem own_new3 (w : World) (e : TypeId) : (w.alloc (.cells #[] e)).ownsRow w.heap.size e 3 (.slice (some ⟨w.heap.size, 0, none⟩) 0 0) 0 [] := by
  have := World.ownsRow_made (base := w.heap.size) (e := e) (size := 3) w #[] 0 (by simp) (Nat.zero_le _) rfl
  simpa using this

set_option maxHeartbeats 2000000 in
set_option maxRecDepth 100000 in
theorem copyRowsS (gs : List Gr) (vs : List Value) (g0 cap n lo hi : Nat) (w : World) (h : OwG 152 w lo hi (.slice (some ⟨g0, 0, none⟩) n cap) vs gs) (hN : gs.length = n) (hh : hi ≤ w.heap.size) (hn : n ≤ 8193) (hs : ∀ x ∈ gs, x.cells.length ≤ 1048576) :
    Calls Tryz.prog 157 #[.slice (some ⟨g0, 0, none⟩) n cap] w fun e w' => ∃ v us, e = .returned v ∧ OwG 152 w' w.heap.size w'.heap.size v us gs ∧ Below w.heap.size w w' := by
  obtain ⟨i0, hi0, hz0, hz1, hz2⟩ := info_parts Tryz.infoGPT
  have A0 := hide ((Below.refl w.heap.size w).alloc (Nat.le_refl _) (.cells #[] 152))
  have E0 := hide (own_new3 w 152)
  have es : (w.alloc (.cells #[] 152)).heap.size = w.heap.size + 1 := by simp
  have F := hide (fun (w' : World) (hb : Below w.heap.size w w') => h.frame (w' := w') (fun q _ hq => hb.block q (by omega)))
  have GET := hide (fun (k : Nat) (hk : k < n) => h.get (i := k) (by rw [hN]; exact hk))
  have HS := hide (fun (i : Nat) (x : Gr) (hx : gs[i]? = some x) => hs x (List.mem_of_getElem? hx))
  have hcl : n ≤ cap ∧ cap ≤ maxLen := by
    have hr := h.row
    rw [hN] at hr
    rcases hr.2 with ⟨q, _⟩ | ⟨g', cap', cur, q, _, _, c1, c2, _⟩
    · cases q
    · simp only [Value.slice.injEq, Option.some.injEq, Addr.mk.injEq, and_true, true_and] at q
      obtain ⟨_, rfl⟩ := q
      exact ⟨c1, c2⟩
  obtain ⟨cc1, cc2⟩ := hcl
  unfold maxLen at cc2
  have HN := hide hN
  clear h hs hN
  go_enter Tryz.func157, Tryz.ntmps157
  go_wp2_with fail
  generalize w.alloc (.cells #[] 152) = w0 at *
  go_loopw [3, 9] (fun out i wr => ∃ (k : Nat) (us : List Value) (ao : Option Addr) (co : Nat), k ≤ n ∧ i = .int .i64 k ∧ out = .slice ao k co ∧ Below w.heap.size w wr ∧ wr.ownsRow w.heap.size 152 3 out k (grVs us (gs.take k)) ∧ Nest wr w.heap.size wr.heap.size us ((gs.take k).map Gr.cells))
    (fun _ i _ => n - (intOf i).toNat)
  case atStart => exact ⟨0, [], _, _, Nat.zero_le _, rfl, rfl, A0.out, by simpa [grVs] using E0.out, Nest.nil _ _ _⟩
  case round =>
    obtain ⟨k, us, ao, co, hk, rfl, rfl, hb, hown, hns⟩ := hrel
    have HB := hide hb
    have OW := hide hown
    have NS := hide hns
    have hsz := hb.size
    by_cases hlt : k < n
    · obtain ⟨x, u, hx, hu⟩ := GET.out k hlt
      have FR := F.out wr hb
      obtain ⟨y0, y1, y2⟩ := FR.cells HN.out hx hu
      obtain ⟨au, cu, hu'⟩ := o32_val (FR.inner hx hu)
      have hxs := HS.out k x hx
      have CG := hide (fun (W : World) (hW : Below w.heap.size w W) => copyGapS x.cells lo u x.lo x.hi W ((F.out W hW).inner hx hu) hxs)
      have TS := hide (show gs.take (k + 1) = gs.take k ++ [x] by rw [List.take_add_one, hx]; rfl)
      have ULN := hide (show us.length = (gs.take k).length by have := NS.out.len; simpa using this)
      generalize hxl : x.lo = xl at *
      generalize hxh : x.hi = xh at *
      generalize hxc : x.cells.length = xc at *
      have HXL := hide hxl
      have HXH := hide hxh
      have HXC := hide hxc
      have hlt' : (k : Int) < n := by omega
      subst hu'
      clear hb hown hns FR hx hu hxl hxh hxc
      have A4 := hide ((Below.refl wr.heap.size wr).alloc (Nat.le_refl _) (.cells #[.slice au xc cu, .int .i64 xl, .int .i64 xh] 152))
      have Q4 := hide (Q3.new wr (.slice au xc cu) (.int .i64 xl) (.int .i64 xh) 152)
      have z4 : (wr.alloc (.cells #[.slice au xc cu, .int .i64 xl, .int .i64 xh] 152)).heap.size = wr.heap.size + 1 := by simp
      have O4 := hide (owns_below OW.out A4.out (Nat.le_refl _))
      have B4 := hide (HB.out.trans (A4.out.mono hsz))
      have N4 := hide (NS.out.frame (w' := wr.alloc (.cells #[.slice au xc cu, .int .i64 xl, .int .i64 xh] 152)) (fun q _ hq => A4.out.block q hq))
      go_upto_region 5 with fail
      generalize wr.alloc (.cells #[.slice au xc cu, .int .i64 xl, .int .i64 xh] 152) = x4 at *
      obtain ⟨r0, r1, r2⟩ := Q4.out.c
      go_wp2_with fail
      refine (CG.out _ B4.out).mono ?_
      rintro e x5 ⟨g5, c5, rfl, ho5, hb5⟩
      have s5 := hb5.size
      have O5 := hide (owns_below O4.out hb5 (Nat.le_refl _))
      have B5 := hide (B4.out.trans (hb5.mono (by omega)))
      have N5 := hide ((N4.out.frame (w' := x5) (fun q _ hq => hb5.block q (by omega))).snoc (hi' := x5.heap.size) (owns_base ho5 (by omega)) (fun q hq => by have := (ho5.lt q hq).1; omega) (fun q hq => (ho5.lt q hq).2) (by omega))
      have NC := hide (newcells x5 152 [.slice (some ⟨g5, 0, none⟩) xc c5, .int .i64 xl, .int .i64 xh])
      clear ho5 hb5 N4 O4
      go_wp2_with (at_builtin; refine wpList_append_own _ rfl _ _ 27 rfl w.heap.size 152 i0 (.agg #[.slice none 0 0, .int .i64 0, .int .i64 0]) 3 40 Tryz.underlying27 hi0 hz0 hz1 hz2 rfl (by decide) _ _ _ rfl (O5.out.alloc _) ⟨x5.heap.size, 0, none⟩ 1 1 [.slice (some ⟨g5, 0, none⟩) xc c5, .int .i64 xl, .int .i64 xh] rfl rfl NC.out (by intro u hu; simp at hu; rcases hu with rfl | rfl | rfl <;> rfl) (by unfold maxLen; omega) (by omega) (by simp; omega) ?_; intro v6 x6 ho6 hg6 _)
      obtain ⟨a6, c6, hv6⟩ := own_valT ho6
      subst hv6
      have B6 := hide ((B5.out.alloc (by omega) (.cells #[.slice (some ⟨g5, 0, none⟩) xc c5, .int .i64 xl, .int .i64 xh] 152)).grown hg6 (by simp; omega) (fun q hq => (O5.out.lt q hq).1))
      have N6 := hide ((N5.out.frame (w' := x5.alloc (.cells #[.slice (some ⟨g5, 0, none⟩) xc c5, .int .i64 xl, .int .i64 xh] 152)) (fun q _ hq => ((Below.refl x5.heap.size x5).alloc (Nat.le_refl _) (.cells #[.slice (some ⟨g5, 0, none⟩) xc c5, .int .i64 xl, .int .i64 xh] 152)).block q hq)).keptY (O5.out.alloc (.cells #[.slice (some ⟨g5, 0, none⟩) xc c5, .int .i64 xl, .int .i64 xh] 152)) (by decide) hg6)
      have O6 := hide ho6
      have s6 : x5.heap.size + 1 ≤ x6.heap.size := by have := hg6.size; simp at this; omega
      clear ho6 hg6
      go_wp2
      go_roundw
      case rel =>
        refine ⟨k + 1, us ++ [.slice (some ⟨g5, 0, none⟩) xc c5], _, _, by omega, by go_num, rfl, B6.out, ?_, ?_⟩
        · rw [TS.out, grVs_app ULN.out]
          simpa [grVs, HXL.out, HXH.out] using O6.out
        · rw [TS.out, List.map_append]
          exact N6.out.mono (Nat.le_refl _) (by omega)
      case measure => simp [intOf]; omega
    · obtain rfl : k = n := by omega
      have hlt' : ¬ (k : Int) < k := by omega
      rw [List.take_of_length_le (by rw [HN.out]; exact Nat.le_refl _)] at OW NS
      clear hb hown hns
      go_wp2
      go_ret
      have FIN : OwG 152 wr w.heap.size wr.heap.size (.slice ao k co) us gs := ⟨by rw [HN.out]; exact OW.out, fun q hq => (OW.out.lt q hq).2, NS.out⟩
      first | exact ⟨_, us, rfl, FIN, HB.out⟩ | exact ⟨_, rfl, ⟨us, FIN⟩, HB.out⟩
end Go.Proofs.YtbgngikejgihgagGreatDoor

namespace Go.Proofs.YtbgngikejgihgagGreatDoor
set_option linter.unusedVariables false

structure Pc where
  off : Int
  len : Int
  brk : Int
  deriving DecidableEq, Inhabited

structure It where
  pc : Pc
  lv : Int
  deriving DecidableEq, Inhabited

inductive AT where
  | nil
  | node (l : AT) (p : Pc) (r : AT)
  deriving Inhabited

namespace AT
def ht : AT → Nat
  | nil => 0
  | node l _ r => 1 + max l.ht r.ht
def its : AT → Nat
  | nil => 0
  | node l _ r => l.its + 1 + r.its
def told : AT → Int → List It
  | nil, _ => []
  | node l p r, d => l.told (d + 1) ++ ⟨p, d⟩ :: r.told (d + 1)

end AT

end Go.Proofs.YtbgngikejgihgagGreatDoor

namespace Go.Proofs.YtbgngikejgihgagGreatDoor
set_option linter.unusedVariables false
end Go.Proofs.YtbgngikejgihgagGreatDoor

namespace Go.Proofs.YtbgngikejgihgagGreatDoor
open Go Go.RowKit
set_option linter.unusedVariables false

/-- How many breaks, as a natural number. -/
def bkn (zs : List Int) : Nat := (zs.filter fun z => z == 10).length
/-- How many stand up to break number n and with it. -/
def bb : List Int → Nat → Nat
  | [], _ => 0
  | z :: zs, n => if z = 10 then (if n = 0 then 1 else 1 + bb zs (n - 1)) else 1 + bb zs n

/-- Where a line starts. -/
def ls (zs : List Int) (l : Nat) : Nat := if l = 0 then 0 else bb zs (l - 1)
/-- Where a line ends. -/
def le (zs : List Int) (l : Nat) : Nat := if l < bkn zs then bb zs l - 1 else zs.length

/-- The text of a piece. -/
def ptx (S : List Int) (p : Pc) : List Int := (S.drop p.off.toNat).take p.len.toNat
/-- A piece of the store. -/
def WP (S : List Int) (p : Pc) : Prop := 0 ≤ p.off ∧ 0 ≤ p.len ∧ p.off + p.len ≤ S.length ∧ p.brk = brk (ptx S p)
theorem WP.nil (S : List Int) : WP S ⟨0, 0, 0⟩ := ⟨by simp, by simp, by simp, by simp [ptx, brk]⟩
def AT.tx (S : List Int) : AT → List Int
  | .nil => []
  | .node l p r => l.tx S ++ (ptx S p ++ r.tx S)
def AT.wp (S : List Int) : AT → Prop
  | .nil => True
  | .node l p r => l.wp S ∧ WP S p ∧ r.wp S
end Go.Proofs.YtbgngikejgihgagGreatDoor

namespace Go.Proofs.YtbgngikejgihgagGreatDoor
open Go Go.RowKit
set_option linter.unusedVariables false

end Go.Proofs.YtbgngikejgihgagGreatDoor

namespace Go.Proofs.YtbgngikejgihgagGreatDoor
open Go Go.RowKit
set_option linter.unusedVariables false

end Go.Proofs.YtbgngikejgihgagGreatDoor

namespace Go.Proofs.YtbgngikejgihgagGreatDoor
open Go Go.RowKit
set_option linter.unusedVariables false

/-- Where the first break is, or -1. -/
def ix (zs : List Int) : Int := if fb zs < zs.length then fb zs else -1
set_option maxHeartbeats 1000000 in
set_option maxRecDepth 100000 in
theorem indexL (zs : List Int) (b o cap : Nat) (w : World) (hc : ∀ i, i < zs.length → w.cell? ⟨b, o + i, none⟩ = some (.int .i32 (zs.getD i 0))) (hn : zs.length ≤ 1048576) (hcap : zs.length ≤ cap) (hm : cap ≤ maxLen) :
    Calls Tryz.prog 190 #[.slice (some ⟨b, o, none⟩) zs.length cap, .int .i32 10] w fun e w' => e = .returned (.int .i64 (ix zs)) ∧ w' = w := by
  have HC := hide hc
  have HL := hide (fun k (hk : k < fb zs) => fb_no hk)
  have HA := hide (fun (h : fb zs < zs.length) => fb_at h)
  have hl := fb_le zs
  unfold ix
  generalize hR : fb zs = R at *
  generalize hN : zs.length = n at *
  unfold maxLen at hm
  obtain ⟨X, hX⟩ : ∃ X : Int, X = if R < n then (R : Int) else -1 := ⟨_, rfl⟩
  rw [← hX]
  have HX := hide hX
  clear hc hX
  go_enter Tryz.func190, Tryz.ntmps190
  go_wp2_with fail
  go_loop [8] (fun i => ∃ k : Nat, k ≤ R ∧ i = .int .i64 k) (fun i => n - (intOf i).toNat)
  case atStart => exact ⟨0, Nat.zero_le _, rfl⟩
  case round =>
    obtain ⟨k, hk, rfl⟩ := hrel
    by_cases hkn : k < n
    · have hx := HC.out k hkn
      by_cases hkR : k = R
      · subst hkR
        have e1 := HA.out hkn
        rw [e1] at hx
        have HK := hide hkn
        have hkn' : (k : Int) < n := by omega
        clear hkn
        go_wp2
        go_ret
        exact ⟨by have h9 := HX.out; rw [if_pos HK.out] at h9; rw [h9]; rfl, rfl⟩
      · have hne := HL.out k (by omega)
        generalize zs.getD k 0 = z at *
        have hz' : ¬ 10 = z := fun h => hne h.symm
        have hkn' : (k : Int) < n := by omega
        go_wp2
        go_round
        case rel => exact ⟨k + 1, by omega, by go_num⟩
        case measure => simp [intOf]; omega
    · have hkn' : ¬ (k : Int) < n := by omega
      have HK := hide (show ¬ R < n by omega)
      go_wp2
      go_ret
      exact ⟨by have h9 := HX.out; rw [if_neg HK.out] at h9; rw [h9]; rfl, rfl⟩
set_option maxHeartbeats 1000000 in
theorem indexNil (w : World) : Calls Tryz.prog 190 #[.slice none 0 0, .int .i32 10] w fun e w' => e = .returned (.int .i64 (-1)) ∧ w' = w := by
  go_enter Tryz.func190, Tryz.ntmps190
  go_wp2_with fail
  refine wp_loop_rounds 1 ?_
  rw [rounds_succ]
  go_wp2
  go_ret
  exact ⟨rfl, rfl⟩

end Go.Proofs.YtbgngikejgihgagGreatDoor

namespace Go.Proofs.YtbgngikejgihgagGreatDoor
open Go Go.RowKit
set_option linter.unusedVariables false

set_option maxHeartbeats 400000 in
theorem plainRN (ao : Option Addr) (n cap : Nat) (w : World) :
    Calls Tryz.prog 109 #[.slice ao n cap] w fun e w' => e = .returned (.agg #[.slice ao n cap, .int .i64 n, .int .i64 n]) ∧ Below w.heap.size w w' := by
  have HB := hide ((Below.refl w.heap.size w).alloc (Nat.le_refl _) (.cells #[.slice ao n cap, .int .i64 n, .int .i64 n] 174))
  go_enter Tryz.func109, Tryz.ntmps109
  go_wp2
  refine bodyPost_ret (v := .agg #[.slice ao n cap, .int .i64 n, .int .i64 n]) (by simp [results, Tryz.results109, go_sem]) rfl ⟨rfl, HB.out⟩

end Go.Proofs.YtbgngikejgihgagGreatDoor
