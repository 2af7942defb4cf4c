import Derived.Test.YtbgngikejgihgagGreatDoorMq28
import Derived.Test.YtbgngikejgihgagGreatDoorMq22
import Derived.WalkKit
import Derived.WalkLawsBesides
import Derived.Deep.RegionLaw
import Derived.Deep.Cut
import Derived.Deep.CutRange
import Derived.Deep.CutBlock
import Derived.Deep.DeepCutAuto
import Derived.Test.YtbgngikejgihgagGreatDoorMq12
import Derived.Test.YtbgngikejgihgagGreatDoorMq14
import Derived.Test.YtbgngikejgihgagGreatDoorMq25
namespace Go.Proofs.YtbgngikejgihgagGreatDoor
open Go Go.RowKit
set_option linter.unusedVariables false

/-- Behind the copy: the first place moves on. -/
theorem insT_set {w w1 : World} {B o g : Nat} {cs : Array Value} {t : TypeId} {v : Value} {lo hi : Int} {zs : List T3v} {sp : List Value} (h : GB w B o cs t v lo hi) (hBg : B ≠ g) (hr : Row1 w w1 g (fl3 zs ++ sp) 177) (a : Int) :
    GPostR w (w1.setCell ⟨B, o + 1, none⟩ (.int .i64 a)) B o g cs t v a hi zs sp := by
  have h0 : w1.heap[B]? = some (.cells cs t (0, 0)) := (hr.block B hBg).trans h.blk
  have h2 := heap_setCell_same w1 B (o + 1) _ _ (.int .i64 a) h0
  have hs := h.sz
  refine ⟨GB.of_set3 ?_ h.sz, ?_, ?_⟩
  · rw [h2]
    congr 2
    apply set3_ext (by simp) h.sz
    · rw [Array.getElem?_setIfInBounds, if_neg (by omega)]; exact h.c0
    · rw [Array.getElem?_setIfInBounds, if_pos rfl, if_pos (by omega)]
    · rw [Array.getElem?_setIfInBounds, if_neg (by omega)]; exact h.c2
    · intro j e0 e1 e2
      rw [Array.getElem?_setIfInBounds, if_neg (by omega)]
  · show _ = _
    rw [setCell_block_other (by show g ≠ B; exact hBg.symm)]
    exact hr.row
  · refine ⟨hr.os, hr.tape, hr.output, by simp [hr.size], fun k hk hn => ?_⟩
    rw [setCell_block_other (by show k ≠ B; exact fun e => hn (.inl e))]
    exact hr.block k (fun e => hn (.inr e))

set_option maxHeartbeats 4000000 in
set_option maxRecDepth 100000 in
theorem insertCoreT (B o : Nat) (cs : Array Value) (t : TypeId) (tx ts : List T3v) (ap : Option Addr) (n cp : Nat) (N p : Nat) (S : Nat → Prop) (w : World) (hs : o + 3 ≤ cs.size) (hn : n = ts.length) (hp : p ≤ tx.length) (hOX : One3 tx) (hroom : tx.length + n ≤ N) (hDB : S B)
    (hT : ∀ w', Chg w w' S → 0 < n → ∃ ad, ap = some ad ∧ ∀ j u, (fl3 ts)[j]? = some u → w'.cell? (ad.add j) = some u) (hOT : One3 ts)
    (HR : Hid (Calls Tryz.prog 369 #[.pointer (some ⟨B, o, none⟩), .int .i64 n] w fun x w1 => x = .returned (.tuple #[]) ∧ ∃ g2 cap2 zs2 sp2 lo2 hi2, RoomPostT w w1 B o cs t tx n N S g2 cap2 zs2 sp2 lo2 hi2)) :
    Calls Tryz.prog 363 #[.pointer (some ⟨B, o, none⟩), .int .i64 p, .slice ap n cp] w fun x w' => x = .returned (.tuple #[]) ∧ ∃ g2 cap2 sp2, InsPostT w w' B o cs t (glayA z3 (tx.take p ++ (ts ++ tx.drop p)) (p + n) N) N S (p + n) (p + (N - tx.length)) g2 cap2 sp2 := by
  have HT := hide hT
  have HOT := hide hOT
  have HNN := hide hn
  have gl : (glayA z3 tx p N).length = N := glay_lengthA (z := z3) hp (by omega)
  have HPT := hide (glay_putA (z := z3) (xs := tx) (ts := ts) (p := p) (n := N) hp (by omega))
  rw [← hn] at HPT
  have GLL := hide gl
  have MVT := hide (fun g2 cap2 cs' zs2 sp2 lo2 hi2 w1 h hr hO hBg hc hv hp' => moveRG B o g2 cap2 cs' t zs2 sp2 lo2 hi2 p w1 h hr hO hBg hc hv hp')
  obtain ⟨gz, hgz⟩ : ∃ gz, gz = glayA z3 tx p N := ⟨_, rfl⟩
  have HGZ := hide hgz
  rw [← hgz] at HPT GLL
  clear hgz gl
  have HRO := hide (One3.lay ((hOX.take p).app (hOT.app (hOX.drop p))) (p + n) N)
  generalize glayA z3 (tx.take p ++ (ts ++ tx.drop p)) (p + n) N = res at *
  obtain ⟨E, hE⟩ : ∃ E, E = p + (N - tx.length) := ⟨_, rfl⟩
  rw [← hE]
  have HEE := hide hE
  clear hT hn hE
  go_enter Tryz.func363, Tryz.ntmps363
  go_wp2_with fail
  refine HR.out.mono ?_
  rintro x w1 ⟨rfl, g2, cap2, zs2, sp2, lo2, hi2, hp1⟩
  have hc1 := hp1.cap
  have hg1 := hp1.gv
  have hL : tx.length = N - (hi2 - lo2) := by rw [← hp1.tx, gtext_lengthA hg1.a hg1.b, hp1.len]
  have b1 := hg1.a
  have b2 := hg1.b
  have b3 := hg1.c
  rw [hp1.len] at b2 b3
  have rm := hp1.room
  have MV := hide (MVT.out g2 cap2 _ zs2 sp2 lo2 hi2 w1 (by rw [hp1.len]; exact hp1.gb) hp1.rw hp1.one hp1.ne (by rw [hp1.len]; exact hc1.1) hg1 (by rw [hp1.len]; omega))
  rw [hp1.tx, hp1.len, ← HGZ.out] at MV
  have ehi : p + (hi2 - lo2) = E := by rw [HEE.out]; omega
  rw [ehi] at MV
  have P1 := hide hp1
  have hne := hp1.ne
  have hlow := hp1.low
  have e1 : p + n ≤ E := by omega
  have e2 : E ≤ N := by omega
  have e3 : N ≤ 65536 := by omega
  have e4 : N ≤ cap2 := hc1.1
  have HC1 := hide hc1
  clear hp1 ehi hL b1 b2 b3 rm hg1 HR hc1 MVT
  go_wp2_with fail
  refine MV.out.mono ?_
  rintro x w2 ⟨rfl, hp2⟩
  have P2 := hide hp2
  have C2 := hide (P1.out.chg.trans hp2.chg (U := S) (fun _ _ s => s) (fun i hi s => by rcases s with rfl | rfl; exact hDB; exact hlow hi))
  have TS := hide (HT.out w2 C2.out)
  obtain ⟨d0, d1, d2⟩ := hp2.gb.rc
  obtain ⟨f0, f1, f2⟩ := hp2.gb.gf
  clear hp2 MV HT
  have hnE : (fl3 ts).length = n * 3 := by rw [fl3_len, ← HNN.out]
  have HNE := hide hnE
  clear hnE
  have i1 : p ≤ E := by omega
  have i2 : E ≤ cap2 := by omega
  have addn : (p : Int) + (n : Int) = ((p + n : Nat) : Int) := by omega
  have fin : ∀ w3, Row1 w2 w3 g2 (splice (fl3 gz ++ sp2) (p * 3) (fl3 ts)) 177 → ∃ g2' cap2' sp2', InsPostT w (w3.setCell ⟨B, o + 1, none⟩ (.int .i64 ((p + n : Nat) : Int))) B o cs t res N S (p + n) E g2' cap2' sp2' := by
    intro w3 hr3
    have hr3' := Row1.to hr3 (splice_fl3 (by rw [GLL.out, ← HNN.out]; omega))
    rw [HPT.out] at hr3'
    have q := P2.out.trans (by rw [set3_size]; exact hs) (insT_set P2.out.gb hne hr3' ((p + n : Nat) : Int))
    have e := set3_set3 cs o (.slice (some ⟨g2, 0, none⟩) N cap2) (.int .i64 lo2) (.int .i64 hi2) (.slice (some ⟨g2, 0, none⟩) N cap2) (.int .i64 ((p + n : Nat) : Int)) (.int .i64 E) hs
    have qg := q.gb
    rw [e] at qg
    exact ⟨g2, cap2, sp2, qg, q.rw, HC1.out, hlow, hne, P1.out.chg.trans q.chg (fun _ _ s => s) (fun i hi s => by rcases s with rfl | rfl; exact hDB; exact hlow hi), HRO.out⟩
  have FIN := hide fin
  have wr : IntKind.i64.wrap ((p : Int) + (n : Int)) = ((p + n : Nat) : Int) := by rw [i64wS _ (by omega) (by omega)]; omega
  clear fin addn
  by_cases hco : cap2 = p
  · have en : n = 0 := by omega
    subst en
    obtain rfl : cap2 = N := by omega
    obtain rfl : cap2 = E := by omega
    subst hco
    have wr0 : IntKind.i64.wrap (cap2 : Int) = (cap2 : Int) := i64wS _ (by omega) (by omega)
    have FIN0 := hide (show ∀ w3, Row1 w2 w3 g2 (splice (fl3 gz ++ sp2) (cap2 * 3) (fl3 ts)) 177 → ∃ g2' cap2' sp2', InsPostT w (w3.setCell ⟨B, o + 1, none⟩ (.int .i64 (cap2 : Int))) B o cs t res cap2 S (cap2 + 0) cap2 g2' cap2' sp2' from fun w3 h3 => by simpa using FIN.out w3 h3)
    clear FIN
    go_upto_region 2 with fail
    go_region_law (refine step_copy_row3 rfl (.tmp 29) (.tmp 30) 168 168 rfl 177 Tryz.underlying168 info_size3 (some ⟨g2, 0, none⟩) ap 0 0 0 cp rfl rfl g2 (cap2 * 3) (fl3 gz ++ sp2) 177 (by exact P2.out.rw) 0 (by show 0 = min _ _; omega) (fl3 ts) (by rw [HNE.out]) (fun hpos => absurd hpos (by omega)) (by rw [HNE.out, List.length_append, fl3_len, GLL.out]; omega) (One3.fl HOT.out) ?_; intro w3 hr3; have R3 := hide (Row1.of_drew hr3.out); have k1 := (World.cell?_of_block (w := w2) (a := ⟨B, o + 1, none⟩) (R3.out.block B hne)).trans d1; have z1 := (frozen_of_block (w := w2) (p := ⟨B, o + 1, none⟩) (R3.out.block B hne)).trans f1; have k0 := (World.cell?_of_block (w := w2) (a := ⟨B, o, none⟩) (R3.out.block B hne)).trans d0; have k2 := (World.cell?_of_block (w := w2) (a := ⟨B, o + 2, none⟩) (R3.out.block B hne)).trans d2; clear hr3)
    all_goals (
      go_wp2
      go_end0
      exact ⟨rfl, FIN0.out _ R3.out⟩)
  · go_upto_region 2 with fail
    go_region_law (refine step_copy_row3 rfl (.tmp 29) (.tmp 30) 168 168 rfl 177 Tryz.underlying168 info_size3 (some ⟨g2, p * 3, none⟩) ap (E - p) (cap2 - p) n cp rfl rfl g2 (p * 3) (fl3 gz ++ sp2) 177 (by exact P2.out.rw) n (by show n = min _ _; omega) (fl3 ts) (by rw [HNE.out]) (fun hpos => ⟨rfl, TS.out hpos⟩) (by rw [HNE.out, List.length_append, fl3_len, GLL.out]; omega) (One3.fl HOT.out) ?_; intro w3 hr3; have R3 := hide (Row1.of_drew hr3.out); have k1 := (World.cell?_of_block (w := w2) (a := ⟨B, o + 1, none⟩) (R3.out.block B hne)).trans d1; have z1 := (frozen_of_block (w := w2) (p := ⟨B, o + 1, none⟩) (R3.out.block B hne)).trans f1; have k0 := (World.cell?_of_block (w := w2) (a := ⟨B, o, none⟩) (R3.out.block B hne)).trans d0; have k2 := (World.cell?_of_block (w := w2) (a := ⟨B, o + 2, none⟩) (R3.out.block B hne)).trans d2; clear hr3)
    all_goals (
      go_wp2
      go_end0
      exact ⟨rfl, FIN.out _ R3.out⟩)
end Go.Proofs.YtbgngikejgihgagGreatDoor

namespace Go.Proofs.YtbgngikejgihgagGreatDoor
open Go Go.RowKit
set_option linter.unusedVariables false

theorem Nest.keep {w w1 : World} {lo hi : Nat} {A : List Value} {la : List (List Int)} {S : Nat → Prop} (h : Nest w lo hi A la) (hc : Chg w w1 S) (hS : ∀ (i : Nat) v l q, A[i]? = some v → la[i]? = some l → o32 w lo v l → v.ownBlock = some q → ¬ S q) : Nest w1 lo hi A la :=
  ⟨h.len, fun i v l hv hl => owns_of_block (h.own i v l hv hl) (fun q hq => hc.block q ((h.own i v l hv hl).lt q hq).2 (hS i v l q hv hl (h.own i v l hv hl) hq)), h.bl, h.ne⟩
theorem LCr.gb {w : World} {lo hi c : Nat} {rv sv : Value} {vs : List Value} {gs : List Gr} {a b : Nat} {rn : Int} {st : List Int} (h : LCr w lo hi c rv sv vs gs a b rn st) : GB w c 0 #[rv, .int .i64 a, .int .i64 b, .int .i64 rn, sv] 179 rv a b :=
  ⟨h.blk, by simp, rfl, rfl, rfl⟩
/-- What the core's gap buffer may change. -/
def Sc (c g : Nat) : Nat → Prop := fun k => k = c ∨ k = g
/-- The core with other rows. -/
theorem LCr.other {w w1 : World} {lo hi c g cap n : Nat} {sv : Value} {vs vs' : List Value} {gs G : List Gr} {a b a' b' : Nat} {rn : Int} {st : List Int} {v' : Value} (h : LCr w lo hi c (.slice (some ⟨g, 0, none⟩) n cap) sv vs gs a b rn st) (hh : hi ≤ w.heap.size)
    (hb : w1.heap[c]? = some (.cells #[v', .int .i64 a', .int .i64 b', .int .i64 rn, sv] 179 (0, 0))) (hc : Chg w w1 (Sc c g)) (hr : OwG 177 w1 lo w1.heap.size v' vs' G) : LCr w1 lo w1.heap.size c v' sv vs' G a' b' rn st := by
  refine ⟨hb, hr, ?_, bel_mono h.sbl (by have := hc.size; omega)⟩
  refine owns_of_block h.starts (fun q hq => hc.block q (h.starts.lt q hq).2 (fun s => ?_))
  rcases s with s | s
  · exact own_apart h.starts (blk_row h.blk) (by decide) hq (by simp [Value.ownBlock, s])
  · exact own_apart h.starts h.rows.row (by decide) hq (by simp [Value.ownBlock, s])
theorem LCr.apart {w : World} {lo lo2 hi c g cap n : Nat} {sv : Value} {vs : List Value} {gs : List Gr} {a b : Nat} {rn : Int} {st : List Int} (h : LCr w lo hi c (.slice (some ⟨g, 0, none⟩) n cap) sv vs gs a b rn st) {v : Value} {l : List Int} {q : Nat} (ho : o32 w lo2 v l) (hq : v.ownBlock = some q) : ¬ Sc c g q := by
  rintro (s | s)
  · exact own_apart ho (blk_row h.blk) (by decide) hq (by simp [Value.ownBlock, s])
  · exact own_apart ho h.rows.row (by decide) hq (by simp [Value.ownBlock, s])
theorem chg_below {w w1 : World} {lo c g : Nat} (h : Chg w w1 (Sc c g)) (h1 : lo ≤ c) (h2 : lo ≤ g) (h3 : c < w.heap.size) : Below lo w w1 :=
  ⟨h.os, h.tape, h.output, h.size, fun k hk => h.block k (by omega) (fun s => by rcases s with s | s <;> omega)⟩

/-- Rows put in between rows. -/
theorem rowsInsN {w : World} {lo hi c g cap n p k gn ck lo2 hi2 : Nat} {sv : Value} {vs us : List Value} {gs hs : List Gr} {rn : Int} {st : List Int} (h : LCr w lo hi c (.slice (some ⟨g, 0, none⟩) n cap) sv vs gs n n rn st) (hn : gs.length = n) (hh : hi ≤ w.heap.size) (hlc : lo ≤ c)
    (h2 : OwG 177 w lo2 hi2 (.slice (some ⟨gn, 0, none⟩) k ck) us hs) (hk : hs.length = k) (hk1 : 1 ≤ k) (h12 : hi ≤ lo2) (hh2 : hi2 ≤ w.heap.size) (hp : p ≤ n) (hb : n + k ≤ 16384) (hlo2 : lo ≤ lo2) :
    Calls Tryz.prog 363 #[.pointer (some ⟨c, 0, none⟩), .int .i64 p, .slice (some ⟨gn, 0, none⟩) k ck] w fun e w' => e = .returned (.tuple #[]) ∧ ∃ g2 cap2 N vs', LCr w' lo w'.heap.size c (.slice (some ⟨g2, 0, none⟩) N cap2) sv vs' (glayA nilG (gs.take p ++ (hs ++ gs.drop p)) (p + k) N) (p + k) (p + (N - n)) rn st ∧ n + k ≤ N ∧ N ≤ 65536 ∧ Below lo w w' := by
  have hvl := h.rows.len
  have hul := h2.len
  have hcl := h.lt
  have hrow := h.rows.row
  rw [hn, grVs_fl3] at hrow
  have htl : (trs vs gs).length = n := by rw [trs_len hvl, hn]
  have hul2 : (trs us hs).length = k := by rw [trs_len hul, hk]
  have hgl := (hrow.lt g rfl)
  obtain ⟨_, hc0, hm0, sp, hrw, hsp⟩ := RwR.of_owns hrow
  have hO : One3 (trs vs gs) := trs_one h.rows.nest.one
  have hO2 : One3 (trs us hs) := trs_one h2.nest.one
  have hne : c ≠ g := fun e => own_apart (blk_row h.blk) h.rows.row (by decide) (q := c) rfl (by simp [Value.ownBlock, e])
  have hgt : gtextA (trs vs gs) n n = trs vs gs := by unfold gtextA; rw [List.take_append_drop]
  obtain ⟨N, hD⟩ := dbl_ex (n + k) (n + k) (max n 16) (by omega) (by omega)
  have bd := dbl_bd hD
  have hv : GVA z3 (trs vs gs) n n := ⟨Nat.le_refl _, by omega, fun i a b => by omega, by omega, by omega⟩
  have HR := hide (makeRoomT c 0 g cap #[.slice (some ⟨g, 0, none⟩) n cap, .int .i64 n, .int .i64 n, .int .i64 rn, sv] 179 (trs vs gs) sp n n k N (Sc c g) w (by rw [htl]; exact h.gb) hrw hO hne hgl.2 (by omega) hm0 (by rw [htl]; exact hsp) hv (by rw [hgt]; omega) (.inr rfl) (.inl rfl) (.inr ⟨by omega, by rw [hgt, htl]; exact hD⟩))
  rw [hgt] at HR
  have h2row := h2.row
  rw [hk, grVs_fl3] at h2row
  have hT : ∀ w', Chg w w' (Sc c g) → 0 < k → ∃ ad, (some ⟨gn, 0, none⟩ : Option Addr) = some ad ∧ ∀ j u, (fl3 (trs us hs))[j]? = some u → w'.cell? (ad.add j) = some u := by
    intro w' hc _
    refine ⟨_, rfl, fun j u hj => ?_⟩
    have hgn := h2row.lt gn rfl
    have e1 : w'.heap[gn]? = w.heap[gn]? := hc.block gn hgn.2 (fun s => by
      rcases s with s | s
      · exact own_apart h2.row (blk_row h.blk) (by decide) (q := gn) rfl (by simp [Value.ownBlock, s])
      · have := h.rows.bl g rfl; omega)
    exact (World.cell?_of_block (a := (⟨gn, 0, none⟩ : Addr).add j) (by rw [addr_add]; exact e1)).trans (h2row.cells rfl j u hj)
  have h8 := insertCoreT c 0 #[.slice (some ⟨g, 0, none⟩) n cap, .int .i64 n, .int .i64 n, .int .i64 rn, sv] 179 (trs vs gs) (trs us hs) (some ⟨gn, 0, none⟩) k ck N p (Sc c g) w (by simp) hul2.symm (by omega) hO (by omega) (.inl rfl) hT hO2 HR
  refine h8.mono ?_
  rintro e w' ⟨rfl, g2, cap2, sp2, hP⟩
  have hsz := hP.chg.size
  have elay : (trs vs gs).take p ++ (trs us hs ++ (trs vs gs).drop p) = trs (vs.take p ++ (us ++ vs.drop p)) (gs.take p ++ (hs ++ gs.drop p)) := by
    rw [trs_take, trs_drop, trs_app (by simp [hvl]), trs_app hul]
  have hxl : (vs.take p ++ (us ++ vs.drop p)).length = (gs.take p ++ (hs ++ gs.drop p)).length := by simp [hvl, hul]
  have hXL : (gs.take p ++ (hs ++ gs.drop p)).length = n + k := by simp only [List.length_append, List.length_take, List.length_drop]; omega
  have hb2 : lo ≤ g2 := by
    by_cases q : g2 < w.heap.size
    · rcases hP.low q with e | e
      · exact absurd e.symm hP.ne
      · rw [e]; exact hgl.1
    · omega
  have hlay : glayA z3 ((trs vs gs).take p ++ (trs us hs ++ (trs vs gs).drop p)) (p + k) N = trs (glayA (.slice none 0 0) (vs.take p ++ (us ++ vs.drop p)) (p + k) N) (glayA nilG (gs.take p ++ (hs ++ gs.drop p)) (p + k) N) := by
    rw [elay]; exact trs_lay (p + k) N hxl
  have hgl2 : (glayA nilG (gs.take p ++ (hs ++ gs.drop p)) (p + k) N).length = N := glay_lengthA (by omega) (by omega)
  have hvl2 : (glayA (Value.slice none 0 0) (vs.take p ++ (us ++ vs.drop p)) (p + k) N).length = N := glay_lengthA (by omega) (by omega)
  have hrw2 := hP.rw
  rw [hlay] at hrw2
  have hrow2 := ownsR_of_rw (base := lo) hrw2 (by rw [trs_len (by rw [hgl2, hvl2]), hgl2]) hb2 hP.cap.1 hP.cap.2.1 hP.cap.2.2
  rw [← grVs_fl3] at hrow2
  have nA : Nest w' lo w'.heap.size vs (gs.map Gr.cells) := (h.rows.nest.keep hP.chg (fun i v l q _ _ ho hq => h.apart ho hq)).mono (Nat.le_refl _) (by omega)
  have nB : Nest w' lo w'.heap.size us (hs.map Gr.cells) := (h2.nest.keep hP.chg (fun i v l q _ _ ho hq => h.apart ho hq)).mono hlo2 (by omega)
  have dAB : ∀ u ∈ vs, ∀ v ∈ us, ∀ q, u.ownBlock = some q → v.ownBlock ≠ some q := by
    intro u hu v hv q hq hq'
    have h1 := h.rows.nest.bl u hu q hq
    obtain ⟨i, hi⟩ := List.getElem?_of_mem hv
    have hil : i < (hs.map Gr.cells).length := by rw [← h2.nest.len]; exact (List.getElem?_eq_some_iff.1 hi).1
    have h3 := ((h2.nest.own i v _ hi (List.getElem?_eq_getElem hil)).lt q hq').1
    omega
  have dNil : ∀ (A : List Value) (m : Nat), ∀ u ∈ A, ∀ v ∈ List.replicate m (Value.slice none 0 0), ∀ q, u.ownBlock = some q → v.ownBlock ≠ some q := by
    intro A m u _ v hv q _ hq'
    rw [List.eq_of_mem_replicate hv] at hq'
    simp [Value.ownBlock] at hq'
  have dNil2 : ∀ (A : List Value) (m : Nat), ∀ u ∈ List.replicate m (Value.slice none 0 0), ∀ v ∈ A, ∀ q, u.ownBlock = some q → v.ownBlock ≠ some q := by
    intro A m u hu v _ q hq
    rw [List.eq_of_mem_replicate hu] at hq
    simp [Value.ownBlock] at hq
  have eV : glayA (Value.slice none 0 0) (vs.take p ++ (us ++ vs.drop p)) (p + k) N = (vs.take p ++ us) ++ (List.replicate (N - (n + k)) (.slice none 0 0) ++ vs.drop p) := by
    have e1 : (vs.take p).length = p := by simp; omega
    have e2 : us.length = k := by omega
    unfold glayA
    rw [hxl, hXL, show vs.take p ++ (us ++ vs.drop p) = (vs.take p ++ us) ++ vs.drop p from (List.append_assoc _ _ _).symm, List.take_left' (by simp only [List.length_append, e1, e2]), List.drop_left' (by simp only [List.length_append, e1, e2])]
  have eG : glayA nilG (gs.take p ++ (hs ++ gs.drop p)) (p + k) N = (gs.take p ++ hs) ++ (List.replicate (N - (n + k)) nilG ++ gs.drop p) := by
    have e1 : (gs.take p).length = p := by simp; omega
    unfold glayA
    rw [hXL, show gs.take p ++ (hs ++ gs.drop p) = (gs.take p ++ hs) ++ gs.drop p from (List.append_assoc _ _ _).symm, List.take_left' (by simp only [List.length_append, e1, hk]), List.drop_left' (by simp only [List.length_append, e1, hk])]
  have nest : Nest w' lo w'.heap.size (glayA (.slice none 0 0) (vs.take p ++ (us ++ vs.drop p)) (p + k) N) ((glayA nilG (gs.take p ++ (hs ++ gs.drop p)) (p + k) N).map Gr.cells) := by
    rw [eV, eG]
    simp only [List.map_append, List.map_take, List.map_drop]
    refine Nest.app (Nest.app (nA.take p) nB (fun u hu v hv => dAB u (List.mem_of_mem_take hu) v hv)) (Nest.app (Nest.nils w' lo w'.heap.size _) (nA.drop p) (dNil2 _ _)) ?_
    intro u hu v hv q hq hq'
    rcases List.mem_append.1 hv with r | r
    · exact dNil [u] _ u (by simp) v r q hq hq'
    · rcases List.mem_append.1 hu with s | s
      · exact nA.parts p p (Nat.le_refl _) u s v r q hq hq'
      · exact dAB v (List.mem_of_mem_drop r) u s q hq' hq
  have hbl2 : bel w'.heap.size (.slice (some ⟨g2, 0, none⟩) N cap2) := fun q hq => (hrow2.lt q hq).2
  have hOw : OwG 177 w' lo w'.heap.size (.slice (some ⟨g2, 0, none⟩) N cap2) (glayA (.slice none 0 0) (vs.take p ++ (us ++ vs.drop p)) (p + k) N) (glayA nilG (gs.take p ++ (hs ++ gs.drop p)) (p + k) N) := ⟨by rw [hgl2]; exact hrow2, hbl2, nest⟩
  have hblk := hP.gb.blk
  rw [htl] at hblk
  exact ⟨rfl, g2, cap2, N, _, h.other hh (by first | exact hblk | simpa [set3] using hblk) hP.chg hOw, by omega, by omega, chg_below hP.chg hlc hgl.1 hcl⟩

end Go.Proofs.YtbgngikejgihgagGreatDoor

namespace Go.Proofs.YtbgngikejgihgagGreatDoor
open Go Go.RowKit
set_option linter.unusedVariables false

/-- The rows behind a deletion. -/
noncomputable def remRows (gs : List Gr) (k k2 : Nat) (x y : Gr) (c1 c2 : Nat) : List Gr :=
  if k = k2 then gs.set k (delG x c1 c2) else (gs.set k (insG (delG x c1 (grT x).length) c1 ((grT y).drop c2))).take (k + 1) ++ gs.drop (k2 + 1)
/-- What the core's remove leaves. -/
def RemPost (gs : List Gr) (off m : Nat) (w : World) (lo c : Nat) (rn : Int) (e : Ending) (w' : World) : Prop :=
  e = .returned (.tuple #[]) ∧ ∃ (k k2 : Nat) (x y : Gr) (g' cap' a' b' : Nat) (sv' : Value) (vs' : List Value) (G' : List Gr), Ln (gs.map grT) off k ∧ Ln (gs.map grT) (off + m) k2 ∧ gs[k]? = some x ∧ gs[k2]? = some y ∧ LCr w' lo w'.heap.size c (.slice (some ⟨g', 0, none⟩) G'.length cap') sv' vs' G' a' b' (rn - m) ((stL (gs.map grT)).take (k + 1)) ∧ (a' ≤ b' ∧ b' ≤ G'.length ∧ G'.length ≤ 8193) ∧ cutG a' b' G' = remRows gs k k2 x y (off - sAt (gs.map grT) k) (off + m - sAt (gs.map grT) k2) ∧ Below lo w w'

theorem set_get_eq {α : Type} {xs : List α} {i : Nat} {a b : α} (hb : xs[i]? = some b) : (xs.set i a)[i]? = some a := by
  have := (List.getElem?_eq_some_iff.1 hb).1
  simp [this]
end Go.Proofs.YtbgngikejgihgagGreatDoor
