import Derived.Test.YtbgngikejgihgagGreatDoorMq16
import Derived.Test.YtbgngikejgihgagGreatDoorMq31
import Derived.Test.YtbgngikejgihgagGreatDoorMq36
import Derived.Test.YtbgngikejgihgagGreatDoorMq38
import Derived.Deep.Cut
import Derived.Deep.CutRange
import Derived.Deep.CutBlock
import Derived.Deep.DeepCutAuto
import Derived.Deep.RegionWith
import Derived.Deep.RegionHeld2
import Derived.Deep.AppendLies
namespace Go.Proofs.YtbgngikejgihgagGreatDoor
open Go Go.RowKit
set_option linter.unusedVariables false

theorem setCells_nil (w : World) (b o : Nat) : w.setCells b o [] = w := rfl
theorem one3 (ao : Option Addr) (n c : Nat) (x y : Int) : ∀ u ∈ [Value.slice ao n c, .int .i64 x, .int .i64 y], u.oneCell' = true := by
  intro u hu
  simp at hu
  rcases hu with rfl | rfl | rfl <;> rfl
/-- The rows that come in the place of one. -/
noncomputable def midI (x : Gr) (cc : Nat) (ts : List Int) : List Gr := if (lns ts).length = 1 then [insG x cc ts] else insM x cc (lns ts)
set_option maxHeartbeats 1000000 in
set_option maxRecDepth 100000 in
/-- Nothing is put in. -/
theorem insNilS (gs : List Gr) (st : List Int) (off : Int) (ao : Option Addr) (ct : Nat) (vr vt : Value) (lo hi : Nat) (w : World) (h : OwL w lo hi vr vt gs st) (hh : hi ≤ w.heap.size) (hg : gs.length ≤ 8193) (h1 : 1 ≤ gs.length) (hs : ∀ x ∈ gs, x.cells.length ≤ 1048576) (hs1 : 1 ≤ st.length) (hs2 : st.length ≤ 8193) :
    Calls Tryz.prog 63 #[.agg #[vr, vt], .int .i64 off, .slice ao 0 ct] w fun e w' => ∃ vr' vt', e = .returned (.agg #[vr', vt']) ∧ OwL w' w.heap.size w'.heap.size vr' vt' gs st ∧ Below w.heap.size w w' := by
  have A0 := hide (((Below.refl w.heap.size w).alloc (Nat.le_refl _) (.cells #[vr, vt] 29)).alloc (by simp) (.cells #[.slice none 0 0, .slice none 0 0] 29))
  have KR := hide (D2.new (w.alloc (.cells #[vr, vt] 29)) (.slice none 0 0) (.slice none 0 0) 29)
  have es : (w.alloc (.cells #[vr, vt] 29)).heap.size = w.heap.size + 1 := by simp
  rw [es] at KR
  have es2 : ((w.alloc (.cells #[vr, vt] 29)).alloc (.cells #[.slice none 0 0, .slice none 0 0] 29)).heap.size = w.heap.size + 2 := by simp
  have CP := hide (copyLineS gs st vr vt lo hi _ (h.below A0.out hh) (by rw [es2]; omega) hg h1 hs hs1 hs2)
  obtain ⟨a1, c1, a2, c2, rfl, rfl⟩ := h.val
  clear h hs es
  generalize gs.length = n at *
  generalize st.length = m at *
  go_enter Tryz.func63, Tryz.ntmps63
  go_wp2_with fail
  generalize (w.alloc (.cells #[.slice a1 n c1, .slice a2 m c2] 29)).alloc (.cells #[.slice none 0 0, .slice none 0 0] 29) = w0 at *
  refine CP.out.mono ?_
  rintro e w1 ⟨vr1, vt1, rfl, ho1, hb1⟩
  obtain ⟨b1, d1, b2, d2, rfl, rfl⟩ := ho1.val
  have s1 := hb1.size
  have R1 := hide (KR.out.below hb1 (by omega))
  have B1 := hide (A0.out.trans (hb1.mono (by omega)))
  have O1 := hide ho1
  have e0 := R1.out.c.1
  have e1 := R1.out.c.2
  have f0 := R1.out.fz 0
  have f1 := R1.out.fz 1
  clear ho1 hb1 CP KR
  generalize gs.length = n at *
  generalize st.length = m at *
  go_wp2
  refine bodyPost_ret (v := .agg #[.slice b1 n d1, .slice b2 m d2]) (by simp [results, Tryz.results63, go_sem, e0, e1]) rfl ⟨_, _, rfl, ?_, ?_⟩
  · refine (O1.out.frame (fun q h1 h2 => ?_)).mono (by omega) (by simp)
    rw [heap_setCell_other _ _ _ _ (by show q ≠ w.heap.size + 1; omega), heap_setCell_other _ _ _ _ (by show q ≠ w.heap.size + 1; omega)]
  · exact (B1.out.setCell (by simp) _).setCell (by simp) _

set_option maxHeartbeats 4000000 in
set_option maxRecDepth 100000 in
theorem lineInsS (gs : List Gr) (st : List Int) (a k : Nat) (x : Gr) (ts : List Int) (b o m ct : Nat) (vr vt : Value) (lo hi : Nat) (w : World) (h : OwL w lo hi vr vt gs st) (hh : hi ≤ w.heap.size) (hg : gs.length ≤ 8193) (h1 : 1 ≤ gs.length) (hok : ∀ x ∈ gs, gkP x.cells x.lo x.hi) (hb : smL (gs.map grT) + gs.length ≤ 4194304) (hs : ∀ x ∈ gs, x.cells.length ≤ 1048576) (hs1 : 1 ≤ st.length) (hsn : st.length ≤ gs.length) (hj : (jn (gs.map grT)).length + m ≤ 8192) (haj : a ≤ (jn (gs.map grT)).length) (l1 : Ln (gs.map grT) a k) (hx : gs[k]? = some x)
    (hm : ts.length = m) (hm1 : 1 ≤ m) (hbw : b < w.heap.size) (hct : m ≤ ct) (hcm : ct ≤ maxLen) (hT : ∀ i, i < ts.length → w.cell? ⟨b, o + i, none⟩ = some (.int .i32 (ts.getD i 0))) :
    Calls Tryz.prog 63 #[.agg #[vr, vt], .int .i64 (a : Int), .slice (some ⟨b, o, none⟩) m ct] w fun e w' => ∃ (vr' vt' : Value), e = .returned (.agg #[vr', vt']) ∧ OwL w' w.heap.size w'.heap.size vr' vt' (gs.take k ++ midI x (a - sAt (gs.map grT) k) ts ++ gs.drop (k + 1)) ((stL (gs.map grT)).take (k + 1)) ∧ Below w.heap.size w w' := by
  obtain ⟨i0, hi0, hz0, hz1, hz2⟩ := info_parts Tryz.infoGPT
  obtain ⟨j0, hj0, hy0, hy1, hy2⟩ := info_parts Tryz.infoG
  have A0 := hide (((Below.refl w.heap.size w).alloc (Nat.le_refl _) (.cells #[vr, vt] 29)).alloc (by simp) (.cells #[.slice none 0 0, .slice none 0 0] 29))
  have KP := hide ((D2.new w vr vt 29).below ((Below.refl _ _).alloc (Nat.le_refl _) (.cells #[.slice none 0 0, .slice none 0 0] 29)) (by simp))
  have KR := hide (D2.new (w.alloc (.cells #[vr, vt] 29)) (.slice none 0 0) (.slice none 0 0) 29)
  have es : (w.alloc (.cells #[vr, vt] 29)).heap.size = w.heap.size + 1 := by simp
  rw [es] at KR
  have es2 : ((w.alloc (.cells #[vr, vt] 29)).alloc (.cells #[.slice none 0 0, .slice none 0 0] 29)).heap.size = w.heap.size + 2 := by simp
  have F1 := hide (findS gs st a vr vt lo hi _ (h.below A0.out hh) (by rw [es2]; omega) hg h1 hok hb hs hs1 hsn (by omega))
  obtain ⟨a1, c1, a2, c2, rfl, rfl⟩ := h.val
  have L1 := hide l1
  have hlx : (gs.map grT)[k]? = some (grT x) := by rw [List.getElem?_map, hx]; rfl
  have q1 := l1.colS haj hlx
  have okx := hok x (List.mem_of_getElem? hx)
  have HTX := hide (show (grT x).length + m ≤ 8192 from by
      have h8 := smL_get (ls := gs.map grT) (i := k) (l := grT x) hlx
      have h9 := jn_len (ls := gs.map grT) (by intro e; rw [e] at hlx; simp at hlx)
      have h7 : (gs.map grT).length = gs.length := List.length_map _
      omega)
  have hkn : k < gs.length := (List.getElem?_eq_some_iff.1 hx).1
  have STL := hide (show (stL (gs.map grT)).length = gs.length by rw [stL_len, List.length_map])
  have HX := hide hx
  obtain ⟨p1, hp1⟩ : ∃ p, p = a - sAt (gs.map grT) k := ⟨_, rfl⟩
  have P1E := hide (show ((a : Int) - (sAt (gs.map grT) k : Int)) = ((p1 : Nat) : Int) by omega)
  rw [← hp1]
  have g1 : p1 ≤ (grT x).length := by omega
  have hmb : m ≤ 8192 := by omega
  have hlS := hide (show (gs.map grT).length = gs.length by rw [List.length_map])
  have TT := hide (fun (W : World) (hW : Below w.heap.size w W) => (show ∀ i, i < ts.length → W.cell? ⟨b, o + i, none⟩ = some (.int .i32 (ts.getD i 0)) from fun i hi => (hW.cell (p := ⟨b, o + i, none⟩) hbw).trans (hT i hi)))
  have HM := hide hm
  have hcm' := hcm
  have HCM := hide hcm
  have okX := hide okx
  have LLN := hide (show (lns ts).length ≤ m + 1 by have := (lns_len ts).2; omega)
  have LL1 := hide (lns_len ts).1
  have HLS := hide (fun (l : List Int) (hl : l ∈ lns ts) => (show l.length ≤ m from by have := lns_each hl; omega))
  have RWS := hide (fun (W : World) (hW : Below w.heap.size w W) => rowsS ts b o ct W (TT.out W hW) (by have := hW.size; omega) (by omega) (by omega) HCM.out)
  rw [HM.out] at RWS
  have HMI := hide (show midI x p1 ts = if (lns ts).length = 1 then [insG x p1 ts] else insM x p1 (lns ts) from rfl)
  generalize hXS : midI x p1 ts = XS at *
  unfold maxLen at hcm'
  clear h hok hb hs hlx l1 hx es q1 hp1 hT hj haj okx hm hcm hXS
  generalize hLS : gs.map grT = LS at *
  generalize hST : stL LS = ST at *
  generalize hL : lns ts = L at *
  generalize hn : gs.length = n at *
  have HN := hide hn
  have HL := hide hL
  clear hn hL
  have hm0 : ¬ (m : Int) = 0 := by omega
  go_enter Tryz.func63, Tryz.ntmps63
  go_wp2_with fail
  generalize hst' : st.length = sm at *
  generalize (w.alloc (.cells #[.slice a1 n c1, .slice a2 sm c2] 29)).alloc (.cells #[.slice none 0 0, .slice none 0 0] 29) = w0 at *
  refine F1.out.mono ?_
  rintro e w2 ⟨vr2, vt2, q, m2, rfl, lq, kn2, ho2, hb2⟩
  obtain rfl := lq.uniq L1.out
  have s2 := hb2.size
  have hm2 : m2 ≤ n := by have := kn2.2.1; rw [hlS.out] at this; exact this
  have hqm : q < m2 := kn2.ltS lq (by omega)
  have LT2 := hide (show (ST.take m2).length = m2 by rw [List.length_take, STL.out]; omega)
  obtain ⟨ar2, cr2, at2, ct2, hvr, hvt⟩ := ho2.val
  rw [HN.out] at hvr
  rw [LT2.out] at hvt
  subst hvr hvt
  obtain ⟨us, hG⟩ := ho2.rows
  have hl2 := hG.len
  rcases hG.row.2 with ⟨_, z⟩ | ⟨g2, cap2, cur2, z, -, -, z1, z2, -⟩
  · rw [HN.out] at z; omega
  rw [HN.out] at z z1
  simp only [Value.slice.injEq, true_and] at z
  obtain ⟨rfl, rfl⟩ := z
  have hst2 := ho2.starts
  unfold o64 at hst2
  rw [LT2.out] at hst2
  rcases hst2.2 with ⟨_, z⟩ | ⟨g3, cap3, cur3, z, -, -, z3, z4, -⟩
  · omega
  simp only [Value.slice.injEq, true_and] at z
  obtain ⟨rfl, rfl⟩ := z
  have K2 := hide (KP.out.below hb2 (by omega))
  have R2 := hide (KR.out.below hb2 (by omega))
  have B2 := hide (A0.out.trans (hb2.mono (by omega)))
  have f0 := K2.out.fz 0
  have f1 := K2.out.fz 1
  have e0 := K2.out.c.1
  have e1 := K2.out.c.2
  rw [P1E.out]
  have hf2 : ∀ q, q ≠ w.heap.size → ((w2.setCell ⟨w.heap.size, 0, none⟩ (.slice (some ⟨g2, 0, none⟩) n cr2)).setCell ⟨w.heap.size, 1, none⟩ (.slice (some ⟨g3, 0, none⟩) m2 ct2)).heap[q]? = w2.heap[q]? := fun q hq => by
    rw [Go.heap_setCell_other _ _ _ _ (by show q ≠ w.heap.size; exact hq), Go.heap_setCell_other _ _ _ _ (by show q ≠ w.heap.size; exact hq)]
  have hs2' : ((w2.setCell ⟨w.heap.size, 0, none⟩ (.slice (some ⟨g2, 0, none⟩) n cr2)).setCell ⟨w.heap.size, 1, none⟩ (.slice (some ⟨g3, 0, none⟩) m2 ct2)).heap.size = w2.heap.size := by simp
  have G2 := hide (hG.frame (w' := (w2.setCell ⟨w.heap.size, 0, none⟩ (.slice (some ⟨g2, 0, none⟩) n cr2)).setCell ⟨w.heap.size, 1, none⟩ (.slice (some ⟨g3, 0, none⟩) m2 ct2)) (fun q h1 h2 => hf2 q (by omega)))
  have S2 := hide (owns_in (w' := (w2.setCell ⟨w.heap.size, 0, none⟩ (.slice (some ⟨g2, 0, none⟩) n cr2)).setCell ⟨w.heap.size, 1, none⟩ (.slice (some ⟨g3, 0, none⟩) m2 ct2)) ho2.starts ho2.bl (fun q h1 h2 => hf2 q (by omega)))
  have K2' := hide (K2.out.set2 (.slice (some ⟨g2, 0, none⟩) n cr2) (.slice (some ⟨g3, 0, none⟩) m2 ct2))
  have R2' := hide (show D2 ((w2.setCell ⟨w.heap.size, 0, none⟩ (.slice (some ⟨g2, 0, none⟩) n cr2)).setCell ⟨w.heap.size, 1, none⟩ (.slice (some ⟨g3, 0, none⟩) m2 ct2)) (w.heap.size + 1) _ _ _ from (hf2 _ (by omega)).trans R2.out)
  have B2' := hide (show Below w.heap.size w ((w2.setCell ⟨w.heap.size, 0, none⟩ (.slice (some ⟨g2, 0, none⟩) n cr2)).setCell ⟨w.heap.size, 1, none⟩ (.slice (some ⟨g3, 0, none⟩) m2 ct2)) from (B2.out.setCell (Nat.le_refl _) _).setCell (Nat.le_refl _) _)
  clear K2 R2 B2 hf2 ho2 hb2 lq kn2 hG hst2 KP KR F1
  go_upto_region 4 with fail
  generalize (w2.setCell ⟨w.heap.size, 0, none⟩ (.slice (some ⟨g2, 0, none⟩) n cr2)).setCell ⟨w.heap.size, 1, none⟩ (.slice (some ⟨g3, 0, none⟩) m2 ct2) = x2 at *
  have G3 := hide (G2.out.mono (lo' := w.heap.size) (hi' := x2.heap.size) (by omega) (by omega))
  have S3 := hide (show o64 x2 w.heap.size _ _ from owns_base S2.out (by omega))
  have sbl := hide (show bel x2.heap.size (.slice (some ⟨g3, 0, none⟩) (q + 1) ct2) from fun z hz => by
    have := (S2.out.lt g3 rfl).2
    simp only [Value.ownBlock, Option.some.injEq] at hz
    omega)
  have sx2 := B2'.out.size
  have hpx := K2'.out.lt
  have hrx := R2'.out.lt
  have hg2x : g2 < x2.heap.size := (G3.out.row.lt g2 rfl).2
  clear G2 S2 f0 f1 e0 e1 hs1 hLS hST hst' hs2' s2 A0 es2
  unfold maxLen at z2 z4
  have FRM := hide (fun (W : World) (hW : Below x2.heap.size x2 W) => G3.out.frame (w' := W) (fun z _ hz => hW.block z hz))
  obtain ⟨x', u, hx', hu⟩ := G3.out.get (i := q) (by rw [HN.out]; exact hkn)
  obtain rfl : x = x' := by rw [HX.out] at hx'; exact Option.some.inj hx'
  have XI := hide (fun (W : World) (hW : Below x2.heap.size x2 W) => (FRM.out W hW).inner hx' hu)
  have XC := hide (fun (W : World) (hW : Below x2.heap.size x2 W) => (FRM.out W hW).cells HN.out hx' hu)
  obtain ⟨au, cu, hu'⟩ := o32_val (XI.out x2 (Below.refl _ _))
  have HU := hide hu'
  have ONE := hide (fun (ws : List Value) (xs : List Gr) (hw : ∀ v ∈ ws, v ∈ us) => grVs_one (gs := xs) (fun v hv => G3.out.nest.one v (hw v hv)))
  have ONT := hide (ONE.out (us.take q) (gs.take q) (fun v hv => List.mem_of_mem_take hv))
  have OND := hide (ONE.out (us.drop (q + 1)) (gs.drop (q + 1)) (fun v hv => List.mem_of_mem_drop hv))
  have hqc : (q : Int) < n := by omega
  clear hx' hu hu' ONE
  -- the parts
  have RW2 := hide (RWS.out x2 B2'.out)
  go_wp2_with fail
  refine RW2.out.mono ?_
  rintro e w3 ⟨vp, vals, rfl, hop, hnp, hnn, hb3⟩
  have s3 := hb3.size
  rcases hop.2 with ⟨_, z⟩ | ⟨gl, cl, curl, rfl, hgl0, hglb, cc1, cc2, -⟩
  · have := LL1.out; omega
  unfold maxLen at cc2
  have hgl3 := (hop.lt gl rfl).2
  have PV3 := hide hop
  have PN3 := hide hnp
  have NNV := hide hnn
  have B3 := hide hb3
  obtain ⟨y0, y1, y2⟩ := XC.out w3 hb3
  rw [HU.out] at y0 XI XC
  generalize hxl : x.lo = xl at *
  generalize hxh : x.hi = xh at *
  generalize hxc : x.cells.length = xc at *
  have P3 := K2'.out.below hb3 hpx
  have p0 := P3.c.1
  have p1' := P3.c.2
  have hlb := LLN.out
  have hl1 := LL1.out
  clear hop hnp hnn hb3 P3 RW2 RWS hglb
  have A4 := hide ((Below.refl w3.heap.size w3).alloc (Nat.le_refl _) (.cells #[.slice au xc cu, .int .i64 xl, .int .i64 xh] 152))
  have Q4 := hide (Q3.new w3 (.slice au xc cu) (.int .i64 xl) (.int .i64 xh) 152)
  have z4s : w3.heap.size < (w3.alloc (.cells #[.slice au xc cu, .int .i64 xl, .int .i64 xh] 152)).heap.size := by simp
  have B4 := hide (B3.out.trans (A4.out.mono s3))
  have PV4 := hide (owns_below PV3.out A4.out (Nat.le_refl _))
  have PN4 := hide ((PN3.out.frame (w' := w3.alloc (.cells #[.slice au xc cu, .int .i64 xl, .int .i64 xh] 152)) (fun z _ hz => A4.out.block z hz)).mono (Nat.le_refl _) (show w3.heap.size ≤ (w3.alloc (.cells #[.slice au xc cu, .int .i64 xl, .int .i64 xh] 152)).heap.size by simp))
  go_upto_region 6 with fail
  generalize w3.alloc (.cells #[.slice au xc cu, .int .i64 xl, .int .i64 xh] 152) = x4 at *
  clear y0 y1 y2 p0 p1' PV3 PN3 A4
  have HB0 := hide ((Below.refl x4.heap.size x4).alloc (Nat.le_refl _) (.cells #[] 152))
  have E0 := hide (own_new3 x4 152)
  have CT := hide (cells_take ((FRM.out x4 B4.out).frame (w' := x4.alloc (.cells #[] 152)) (fun z _ hz => HB0.out.block z (by omega))) HN.out q (by omega))
  have LTQ := hide (grVs_lenT hl2 HN.out q (by omega))
  have P4 := K2'.out.below B4.out hpx
  have p0 := P4.c.1
  have p1' := P4.c.2
  have npx : w.heap.size ≠ x4.heap.size := by omega
  have hpx4 : w.heap.size < x4.heap.size := by omega
  have hg4 : g2 < x4.heap.size := by omega
  have hx24 : x2.heap.size ≤ x4.heap.size := by omega
  clear P4
  go_upto_if 41 with (at_builtin; refine wpList_append_own _ rfl _ _ 27 rfl x4.heap.size 152 i0 (.agg #[.slice none 0 0, .int .i64 0, .int .i64 0]) 3 40 Tryz.underlying27 hi0 hz0 hz1 hz2 rfl (by decide) _ 0 [] rfl E0.out ⟨g2, 0, none⟩ q cr2 (grVs (us.take q) (gs.take q)) rfl LTQ.out CT.out ONT.out (by unfold maxLen; omega) (by omega) (by simp) ?_; intro v5 x5 ho5 hg5 _)
  rw [Nat.zero_add, List.nil_append] at ho5
  obtain ⟨a5, c5, hv5⟩ := own_valT ho5
  subst hv5
  have M5 := hide (MidB.start (us := us) (gs := gs) (B := x4.heap.size) (B4.out.trans (HB0.out.mono hx24)) hx24 (by simp) E0.out hg5 ho5)
  have B45 := hide (show Below x4.heap.size x4 x5 from HB0.out.grown hg5 (by simp) (fun z hz => (E0.out.lt z hz).1))
  have s5 := B45.out.size
  clear ho5 hg5 E0 CT HB0 p0 p1' LTQ ONT
  have LEN := hide (show XS.length = if L.length = 1 then 1 else L.length from by
    rw [HMI.out]
    split
    · rfl
    · rename_i h9
      unfold insM
      have hne : L.tail ≠ [] := by
        intro e
        have := congrArg List.length e
        rw [List.length_tail] at this
        simp at this
        omega
      rw [List.length_append, plR_len hne, List.length_tail]
      simp; omega)
  have hXL : XS.length ≤ m + 1 := by rw [LEN.out]; split <;> omega
  go_cut [9, 11] from 12 to 107 (fun s9 s11 wc => ∃ ar cr ws, s11 = .slice ar (q + XS.length) cr ∧ MidB x2 x4.heap.size wc us ws gs XS q (.slice ar (q + XS.length) cr))
  case first =>
    by_cases hL1 : L.length = 1
    · have ML := hide (show XS = [insG x p1 ts] by rw [HMI.out, if_pos hL1])
      have IG := hide (insGS x w.heap.size (.slice au xc cu) p1 ts (some ⟨b, o, none⟩) m ct x5 (XI.out x5 M5.out.b) (by rw [hxl, hxh]; exact okX.out) HM.out.symm (.inr ⟨b, o, ct, by rw [HM.out], by have := B2'.out.size; omega, TT.out x5 (B2'.out.trans (M5.out.b.mono sx2))⟩) g1 (by rw [HM.out]; exact HTX.out))
      have Q5 := Q4.out.below B45.out (show w3.heap.size < x4.heap.size by omega)
      obtain ⟨u0, u1, u2⟩ := Q5.c
      rw [hxl, hxh] at IG
      generalize hd : insG x p1 ts = d at *
      generalize hdl : d.lo = dl at *
      generalize hdh : d.hi = dh at *
      generalize hdc : d.cells.length = dc at *
      have HDL := hide hdl
      have HDH := hide hdh
      have XL1 : XS.length = 1 := by rw [LEN.out, if_pos hL1]
      clear hdl hdh Q5
      rw [hL1] at *
      go_wp2_with fail
      refine IG.out.mono ?_
      rintro e x6 ⟨a6, c6, rfl, ho6, hb6⟩
      have s6 := hb6.size
      have R6 := hide ((owns_below M5.out.row0 hb6 (Nat.le_refl _)).alloc (.cells #[.slice a6 dc c6, .int .i64 dl, .int .i64 dh] 152))
      have NC := hide (newcells x6 152 [.slice a6 dc c6, .int .i64 dl, .int .i64 dh])
      have PUT := hide (fun (v' : Value) (wd : World) (hg : (x6.alloc (.cells #[.slice a6 dc c6, .int .i64 dl, .int .i64 dh] 152)).grownBy wd (Value.slice a5 q c5).ownBlock) (ho : wd.ownsRow x4.heap.size 152 3 v' (q + 1) (grVs (us.take q) (gs.take q) ++ [.slice a6 dc c6, .int .i64 dl, .int .i64 dh])) => M5.out.put0 (x := d) hl2 hb6 ho6 (by rw [HDL.out, HDH.out]; exact hg) (by rw [HDL.out, HDH.out]; exact ho))
      clear ho6 hb6 IG
      go_wp2_with (at_builtin; refine wpList_append_own _ rfl _ _ 27 rfl x4.heap.size 152 i0 (.agg #[.slice none 0 0, .int .i64 0, .int .i64 0]) 3 40 Tryz.underlying27 hi0 hz0 hz1 hz2 rfl (by decide) _ _ _ rfl R6.out ⟨x6.heap.size, 0, none⟩ 1 1 [.slice a6 dc c6, .int .i64 dl, .int .i64 dh] rfl rfl NC.out (by intro u hu; simp at hu; rcases hu with rfl | rfl | rfl <;> rfl) (by unfold maxLen; omega) (by omega) (by simp; omega) ?_; intro v7 x7 ho7 hg7 _)
      have M7 := hide (PUT.out v7 x7 hg7 ho7)
      obtain ⟨a7, c7, hv7⟩ := own_valT ho7
      subst hv7
      clear ho7 hg7
      go_wp2_with fail
      go_meet
      exact ⟨_, _, _, by rw [XL1], by rw [ML.out]; exact M7.out⟩
    · generalize hLl : L.length = ll at *
      obtain ⟨M, rfl⟩ : ∃ M, ll = M + 2 := ⟨ll - 2, by omega⟩
      have HLl := hide hLl
      have MX := hide (show XS = insM x p1 L by rw [HMI.out, if_neg hL1])
      have XLL := hide (show XS.length = M + 2 by rw [LEN.out, if_neg hL1])
      have htxm := HTX.out
      have okX' : gkP x.cells x.lo x.hi := by rw [hxl, hxh]; exact okX.out
      have DF := delG_facts okX' g1 (Nat.le_refl _)
      have okD := hide DF.1
      have hdT : (grT (delG x p1 (grT x).length)).length = p1 := by rw [DF.2]; simp; omega
      have HDT := hide hdT
      have SRC := hide (fun (k : Nat) (hk : k < M + 2) => (show ∃ ga n' c' l, vals[k]? = some (.slice (some ⟨ga, 0, none⟩) n' c') ∧ L[k]? = some l ∧ l.length ≤ m ∧ n' = l.length ∧ x4.cell? ⟨gl, k, none⟩ = some (.slice (some ⟨ga, 0, none⟩) n' c') ∧ o32 x4 x2.heap.size (.slice (some ⟨ga, 0, none⟩) n' c') l ∧ ga < x4.heap.size from by
        have hvl : vals.length = M + 2 := by rw [PN4.out.len, hLl]
        have e1 : vals[k]? = some (vals[k]'(by omega)) := by simp [hvl, hk]
        have e2 : L[k]? = some (L[k]'(by rw [hLl]; exact hk)) := by simp [hLl, hk]
        obtain ⟨a, n', c', e⟩ := NNV.out _ (List.mem_of_getElem? e1)
        rw [e] at e1
        have ho := PN4.out.own k _ _ e1 e2
        rcases ho.2 with ⟨q, _⟩ | ⟨g', cap', cur', q, _⟩
        · cases q
        · simp only [Value.slice.injEq, Option.some.injEq] at q
          obtain ⟨rfl, rfl, rfl⟩ := q
          refine ⟨g', _, _, _, e1, e2, HLS.out _ (List.mem_of_getElem? e2), rfl, ?_, ho, (ho.lt g' rfl).2⟩
          rw [PV4.out.cellAt k (by omega)]; exact e1))
      have TX := hide (textGS x w.heap.size (.slice au xc cu) x5 (XI.out x5 M5.out.b) okX')
      have DG := hide (fun (W : World) (hW : Below x2.heap.size x2 W) => delGS x w.heap.size (.slice au xc cu) p1 (grT x).length W (XI.out W hW) okX' g1 (Nat.le_refl _))
      have IG := hide (fun (v : Value) (l : Nat) (ts0 : List Int) (ap : Option Addr) (mt cp : Nat) (W : World) (ho : o32 W l v (delG x p1 (grT x).length).cells) (hmt : mt = ts0.length) (htm : ts0.length ≤ m) (hT : Sl .i32 W (.slice ap mt cp) ts0) => insGS (delG x p1 (grT x).length) l v p1 ts0 ap mt cp W ho okD.out hmt hT (by rw [HDT.out]; exact Nat.le_refl _) (by rw [HDT.out]; omega))
      rw [hxl, hxh] at TX DG
      clear DF hdT okX'
      generalize hd : delG x p1 (grT x).length = d at *
      have HD := hide hd
      obtain ⟨g00, n0, c0, l0, hv0, hl0, hl0m, hn0, e00, ho0, hg0l⟩ := SRC.out 0 (by omega)
      generalize hz : insG d p1 l0 = z9 at *
      have HZ := hide hz
      have HDX := hide (show XS = z9 :: plR L.tail ((grT x).drop p1) from by
        rw [MX.out]
        unfold insM
        rw [HD.out]
        have e8 : L.headD [] = l0 := by
          match L, hl0 with
          | a :: r, h0 => simpa using h0
        rw [e8, HZ.out]
        rfl)
      generalize htx : grT x = tx at *
      generalize hlxl : tx.length = lx at *
      have HLX := hide hlxl
      obtain ⟨tl, htl⟩ : ∃ tl, tl = tx.drop p1 := ⟨_, rfl⟩
      rw [← htl] at HDX
      have HTL := hide htl
      obtain ⟨tn, htn⟩ : ∃ tn, tn = lx - p1 := ⟨_, rfl⟩
      have HTN := hide (show tl.length = tn by rw [htl, List.length_drop, hlxl, htn])
      have htn1 : tn + p1 ≤ lx := by omega
      have htn2 : lx ≤ tn + p1 := by omega
      have Q5 := Q4.out.below B45.out (show w3.heap.size < x4.heap.size by omega)
      obtain ⟨u0, u1, u2⟩ := Q5.c
      have SF := hide (fun (W : World) (hW : Below x4.heap.size x4 W) => (show (W.cell? ⟨w3.heap.size, 0, none⟩ = some (.slice au xc cu) ∧ W.cell? ⟨w3.heap.size, 1, none⟩ = some (.int .i64 xl) ∧ W.cell? ⟨w3.heap.size, 2, none⟩ = some (.int .i64 xh) ∧ W.cell? ⟨gl, 0, none⟩ = some (.slice (some ⟨g00, 0, none⟩) n0 c0)) from by
        have Q9 := Q4.out.below hW (show w3.heap.size < x4.heap.size by omega)
        exact ⟨Q9.c.1, Q9.c.2.1, Q9.c.2.2, (hW.cell (p := ⟨gl, 0, none⟩) (show gl < x4.heap.size by omega)).trans e00⟩))
      have O00 := hide ho0
      have HN0 := hide hn0
      have hgl4 : gl < x4.heap.size := by omega
      generalize hdl : d.lo = dl at *
      generalize hdh : d.hi = dh at *
      generalize hdc : d.cells.length = dc at *
      generalize hzl : z9.lo = zl at *
      generalize hzh : z9.hi = zh at *
      generalize hzc : z9.cells.length = zc at *
      have HZL := hide hzl
      have HZH := hide hzh
      clear hdl hdh hzl hzh hl0 hv0 e00 ho0 htl htn hlxl htx hn0 Q5 hd hz hL1 LEN HMI MX
      go_upto_region 9 with fail
      go_wp2_with fail
      refine TX.out.mono ?_
      rintro e x6 ⟨gw, cw, rfl, how, ⟨hcw1, hcw2⟩, hb6⟩
      unfold maxLen at hcw2
      have s6 := hb6.size
      have PS6 := hide (show PS x4 x6 gw lx cw tx from ⟨B45.out.trans (hb6.mono s5), owns_base how s5⟩)
      have B56 := hide hb6
      have B26 := hide (M5.out.b.trans (hb6.mono M5.out.b.size))
      obtain ⟨k60, k61, k62, k63⟩ := SF.out x6 PS6.out.b
      have l61 : w3.heap.size < x6.heap.size := by omega
      have l62 : gl < x6.heap.size := by omega
      have i02 : (0 : Int) < (M : Int) + 2 := by omega
      have i03 : (0 : Int) < ((M + 2 : Nat) : Int) := by omega
      clear how hb6 TX u0 u1 u2
      go_upto_region 10 with fail
      go_cut [11] from 14 to 107 (fun s11 wc => ∃ ar cr u', s11 = .slice ar (q + 1) cr ∧ MidB x2 x4.heap.size wc us [u'] gs [z9] q (.slice ar (q + 1) cr) ∧ PS x4 wc gw lx cw tx)
      case first =>
        clear K2' R2' B2' G3 S3 sbl FRM XC XI HX P1E L1 STL hlS LT2 TT HM HCM okX LLN LL1 HLS HN HL OND PN4 NNV XLL HDX HTX HTL HTN SRC B45 B4 B3 PV4 HLl HLX
        have M63 := hide (show q + 1 ≤ maxLen by unfold maxLen; omega)
        have HBY := hide (show (q + 1) * 40 ≤ 140737488355328 by omega)
        go_region_held2 (fun w' => w'.cell? ⟨w3.heap.size, 0, none⟩ = some (.slice au xc cu) ∧ w'.cell? ⟨w3.heap.size, 1, none⟩ = some (.int .i64 xl) ∧ w'.cell? ⟨w3.heap.size, 2, none⟩ = some (.int .i64 xh) ∧ w'.cell? ⟨gl, 0, none⟩ = some (.slice (some ⟨g00, 0, none⟩) n0 c0)) (first | go_keep | exact ⟨k70, k71, k72, k73⟩ | exact ⟨k80, k81, k82, k83⟩ | exact ⟨k90, k91, k92, k93⟩) (first
          | (go_at_call 105; refine (DG.out _ (by exact (show Below x2.heap.size x2 _ from ⟨B26.out.os, B26.out.tape, B26.out.output, B26.out.size, B26.out.block⟩))).mono ?_; rintro e x7 ⟨ad2, cd2, rfl, hoD, hb7⟩; have hb7' : Below x6.heap.size x6 x7 := ⟨hb7.os, hb7.tape, hb7.output, hb7.size, hb7.block⟩; have s7 := hb7'.size; have PS7 := hide (PS6.out.below hb7'); have B57 := hide (B56.out.trans (hb7'.mono s6)); obtain ⟨k70, k71, k72, k73⟩ := SF.out x7 PS7.out.b; have OD := hide (show o32 x7 x6.heap.size _ _ from hoD); have I7 := hide (IG.out _ x6.heap.size l0 (some ⟨g00, 0, none⟩) n0 c0 x7 OD.out HN0.out hl0m (Sl.of_owns (owns_below O00.out PS7.out.b (Nat.le_refl _)))); rw [HZ.out, hzc, HZL.out, HZH.out] at I7; clear hoD hb7 hb7')
          | (go_at_call 106; refine I7.out.mono ?_; rintro e x8 ⟨a8, c8, rfl, ho8, hb8⟩; have s8 := hb8.size; have PS8 := hide (PS7.out.below hb8); have hb58 : Below x5.heap.size x5 x8 := B57.out.trans (hb8.mono (by have := B57.out.size; omega)); obtain ⟨k80, k81, k82, k83⟩ := SF.out x8 PS8.out.b; have R8 := hide ((owns_below M5.out.row0 hb58 (Nat.le_refl _)).alloc (.cells #[.slice a8 zc c8, .int .i64 zl, .int .i64 zh] 152)); have ho58 : o32 x8 x5.heap.size (.slice a8 zc c8) z9.cells := owns_base ho8 (by have := B57.out.size; omega); have NC := hide (newcells x8 152 [.slice a8 zc c8, .int .i64 zl, .int .i64 zh]); have PUT := hide (fun (v' : Value) (wd : World) (hg : (x8.alloc (.cells #[.slice a8 zc c8, .int .i64 zl, .int .i64 zh] 152)).grownBy wd (Value.slice a5 q c5).ownBlock) (ho : wd.ownsRow x4.heap.size 152 3 v' (q + 1) (grVs (us.take q) (gs.take q) ++ [.slice a8 zc c8, .int .i64 zl, .int .i64 zh])) => (show MidB x2 x4.heap.size wd us [.slice a8 zc c8] gs [z9] q v' ∧ PS x4 wd gw lx cw tx from ⟨M5.out.put0 (x := z9) hl2 hb58 ho58 (by rw [HZL.out, HZH.out]; exact hg) (by rw [HZL.out, HZH.out]; exact ho), PS8.out.grow R8.out hg⟩)); have l81 : w3.heap.size < x8.heap.size := (by omega); have l82 : gl < x8.heap.size := (by omega); have n81 : w3.heap.size ≠ x8.heap.size := (by omega); have n82 : gl ≠ x8.heap.size := (by omega); have l83 : x4.heap.size ≤ x8.heap.size := (by omega); have HBS := hide (show x4.heap.size ≤ (x8.alloc (.cells #[.slice a8 zc c8, .int .i64 zl, .int .i64 zh] 152)).heap.size from (by rw [World.size_alloc]; omega)); clear ho8 hb8 hb58 ho58 I7)
          | (refine step_append_lies _ rfl _ _ 27 rfl x4.heap.size 152 i0 (.agg #[.slice none 0 0, .int .i64 0, .int .i64 0]) 3 40 Tryz.underlying27 hi0 hz0 hz1 hz2 rfl (by decide) _ q (grVs (us.take q) (gs.take q)) rfl (by exact R8.out) ⟨x8.heap.size, 0, none⟩ 1 1 [.slice a8 zc c8, .int .i64 zl, .int .i64 zh] rfl rfl (by exact NC.out) (by exact one3 _ _ _ _ _) Nat.one_pos (by exact M63.out) (by exact HBY.out) (by exact HBS.out) _ rfl ?_; intro g9 cap9 x9 ho9 hg9 _ hgl9; have PP := PUT.out _ _ hg9 ho9; have M9 := hide PP.1; have PS9 := hide PP.2; obtain ⟨k90, k91, k92, k93⟩ := SF.out x9 PS9.out.b; clear ho9 hg9 hgl9 PP))
        all_goals
          go_wp2_with fail
          go_meet
          exact ⟨_, _, _, rfl, M9.out, PS9.out⟩
      case rest =>
        obtain ⟨ar9, cr9, u9, rfl, hM9, hPS9⟩ := hcut
        have M9 := hide hM9
        have PS9 := hide hPS9
        have hL1l : L.tail.length = M + 1 := by rw [List.length_tail, HLl.out]; rfl
        have HTT := hide hL1l
        have TG := hide (fun (k : Nat) (l : List Int) (h : L[k + 1]? = some l) => (show L.tail[k]? = some l from by rw [List.getElem?_tail]; exact h))
        clear hM9 hPS9 hL1l DG IG k60 k61 k62 k63 PS6 B56 B26 M5 Q4 SF O00 HN0 okD HDT
        go_wp2_with fail
        go_loopw [11, 13] (fun rv iv wr => ∃ (k : Nat) (ws : List Value) (ys : List Gr) (ar : Option Addr) (cr : Nat), (1 ≤ k ∧ k ≤ M + 2) ∧ iv = .int .i64 k ∧ rv = .slice ar (q + k) cr ∧ ys.length = k ∧ MidB x2 x4.heap.size wr us ws gs ys q (.slice ar (q + k) cr) ∧ (k < M + 2 → ys = z9 :: (L.tail.take (k - 1)).map plG ∧ PS x4 wr gw lx cw tx) ∧ (k = M + 2 → ys = XS)) (fun _ iv _ => M + 2 - (intOf iv).toNat)
        case atStart => exact ⟨1, [u9], [z9], ar9, cr9, ⟨Nat.le_refl _, by omega⟩, rfl, rfl, rfl, M9.out, fun _ => ⟨by simp, PS9.out⟩, fun h => by omega⟩
        case round =>
          obtain ⟨k, ws, ys, ar, cr, ⟨hk1, hk2⟩, rfl, rfl, hyl, hM, hP, hX⟩ := hrel
          have MM := hide hM
          by_cases hlt : k < M + 2
          · obtain ⟨hys, hPS⟩ := hP hlt
            obtain ⟨ga, n', c', l, hv, hl, hlm, hn', e0, ho, hgal⟩ := SRC.out k hlt
            have y0 := (hPS.b.cell (p := ⟨gl, k, none⟩) hgl4).trans e0
            have row : wr.ownsRow x4.heap.size 152 3 (.slice ar (q + k) cr) (q + k) (grVs (us.take q ++ ws) (gs.take q ++ ys)) := by have := hM.row; rw [hyl] at this; exact this
            have ROW := hide row
            have PSS := hide hPS
            have HYS := hide hys
            have HYL := hide hyl
            have HNP := hide hn'
            have ORW := hide (owns_below ho hPS.b (Nat.le_refl _))
            have swr := hPS.b.size
            have lwr := hM.le.2
            have hkc : (k : Int) < (M : Int) + 2 := by omega
            have hkc' : (k : Int) < ((M + 2 : Nat) : Int) := by omega
            have wsub : IntKind.i64.wrap ((M : Int) + 2 - 1) = (M : Int) + 1 := by rw [i64wS _ (by omega) (by omega)]; omega
            clear hM hP hX hys hPS hyl row e0 ho hn'
            by_cases hlast : k = M + 1
            · obtain rfl := hlast
              have weq : ((M : Int) + 1 == (M : Int) + 1) = true := by simp
              have i91 : (0 : Int) ≤ (M : Int) + 1 := by omega
              have i92 : (M : Int) + 1 < (M : Int) + 2 := by omega
              have PVw := hide (owns_below PV4.out PSS.out.b (Nat.le_refl _))
              have PVd := hide (show wr.drew.ownsRow x2.heap.size 36 1 (.slice (some ⟨gl, 0, none⟩) (M + 2) cl) (M + 2) vals from owns_of_block PVw.out (fun _ _ => rfl))
              have OWN := hide (show wr.drew.ownsRow x2.heap.size 21 1 (.slice (some ⟨ga, 0, none⟩) n' c') n' (ints .i32 l) from by
                have h9 := ORW.out
                unfold o32 at h9
                rw [← HNP.out] at h9
                exact owns_of_block h9 (fun _ _ => rfl))
              have MD := hide MM.out.drew
              have hnc : n' ≤ c' := by
                rcases OWN.out.2 with ⟨e, _⟩ | ⟨g', cap', cur, e, _, _, h3, _⟩
                · cases e
                · simp only [Value.slice.injEq] at e
                  obtain ⟨_, _, rfl⟩ := e
                  exact h3
              have hnm' : n' ≤ 8192 := by have := HNP.out; omega
              have LFIN := hide (fun (x8 : World) (g5 nn c5 : Nat) (z : List Int) (hg : wr.drew.grownBy x8 (some ga)) (ho : x8.ownsRow x2.heap.size 21 1 (.slice (some ⟨g5, 0, none⟩) nn c5) nn (ints .i32 z)) (hz : z.length = nn) => last_fin (k := M + 1) MD.out PVd.out (by omega) OWN.out hgal hg ho hz)
              have hglw : gl < wr.heap.size := (PVw.out.lt gl rfl).2
              have fgl := hide (fun (W : World) (hP : W.ownsRow x2.heap.size 36 1 (.slice (some ⟨gl, 0, none⟩) (M + 2) cl) (M + 2) vals) => hP.frozenAt (M + 1))
              have f0 : wr.frozen? ⟨gl, M + 1, none⟩ = false := fgl.out wr PVw.out
              have NLAST := hide (show ys ++ [plG (l ++ tl)] = XS by
                rw [HYS.out, HDX.out]
                have h1 := TG.out M l hl
                have h2 : L.tail.getLastD [] = l := by
                  have := last_get HTT.out
                  rw [h1] at this
                  exact (Option.some.inj this).symm
                unfold plR
                rw [dropLast_take HTT.out, h2]
                simp)
              go_upto_region 15 with fail
              go_cut [] from 64 to 93 (fun wc => ∃ g5 c5 nn, wc.cell? ⟨gl, M + 1, none⟩ = some (.slice (some ⟨g5, 0, none⟩) nn c5) ∧ o32 wc x2.heap.size (.slice (some ⟨g5, 0, none⟩) nn c5) (l ++ tl) ∧ MidB x2 x4.heap.size wc us ws gs ys q (.slice ar (q + (M + 1)) cr))
              case first =>
                by_cases ht0 : lx ≤ p1
                · have TL0 := hide (show tl = [] from List.eq_nil_of_length_eq_zero (by rw [HTN.out]; omega))
                  obtain rfl : lx = p1 := by omega
                  have F0 := hide (LFIN.out wr.drew ga n' c' l (grown_refl _ _) OWN.out HNP.out.symm)
                  by_cases hcw : cw = lx
                  · subst hcw
                    go_region_law (first
                      | (refine step_append_room rfl _ _ 36 rfl 21 j0 1 Tryz.underlying36 hj0 hy1 ga 0 n' c' rfl _ _ _ [] rfl (by simp) (by intro j u h; simp at h) (by intro u h; simp at h) (by simp; exact hnc) (by intro j h; simp at h) ?_; rw [setCells_nil]))
                    all_goals
                      go_wp2_with fail
                      go_meet
                      exact ⟨ga, c', n', by exact F0.out.1, by rw [TL0.out, List.append_nil]; exact F0.out.2.1, by exact F0.out.2.2⟩
                  · have hcw' : ¬ (cw : Int) = (lx : Int) := by omega
                    have hcw2 : (lx : Int) ≤ (cw : Int) := by omega
                    go_region_law (first
                      | (refine step_append_room rfl _ _ 36 rfl 21 j0 1 Tryz.underlying36 hj0 hy1 ga 0 n' c' rfl _ _ _ [] rfl (by simp) (by intro j u h; simp at h) (by intro u h; simp at h) (by simp; exact hnc) (by intro j h; simp at h) ?_; rw [setCells_nil]))
                    all_goals
                      go_wp2_with fail
                      go_meet
                      exact ⟨ga, c', n', by exact F0.out.1, by rw [TL0.out, List.append_nil]; exact F0.out.2.1, by exact F0.out.2.2⟩
                · have hp0 : 0 < lx - p1 := by omega
                  have hcw' : ¬ (cw : Int) = (p1 : Int) := by omega
                  have hcw2 : (p1 : Int) ≤ (cw : Int) := by omega
                  have hcw3 : (p1 : Int) ≤ (lx : Int) := by omega
                  have hcwn : ¬ cw = p1 := by omega
                  have TNL := hide (show (ints .i32 tl).length = (lx - p1) * 1 by rw [ints_length, HTN.out]; omega)
                  have TLC := hide (show ∀ j u, (ints .i32 tl)[j]? = some u → wr.drew.cell? ((⟨gw, p1, none⟩ : Addr).add j) = some u from by
                    intro j u hj
                    have h9 := PSS.out.wh.cells rfl (p1 + j) u (by rw [HTL.out] at hj; simp only [ints, List.getElem?_map, List.getElem?_drop] at hj ⊢; exact hj)
                    rw [addr_addJ, Nat.zero_add] at h9
                    rw [addr_addJ]
                    exact h9)
                  have T63 := hide (show n' + (lx - p1) ≤ maxLen by unfold maxLen; omega)
                  have TBY := hide (show (n' + (lx - p1)) * 4 ≤ 140737488355328 by omega)
                  have TBS := hide (show x2.heap.size ≤ wr.drew.heap.size from by show x2.heap.size ≤ wr.heap.size; omega)
                  have HLT := hide (show (l ++ tl).length = n' + (lx - p1) by rw [List.length_append, HTN.out, ← HNP.out]; omega)
                  go_region_law (first
                    | (refine step_append_lies _ rfl _ _ 36 rfl x2.heap.size 21 j0 (.int .i32 0) 1 4 Tryz.underlying36 hj0 hy0 hy1 hy2 rfl (by decide) _ n' (ints .i32 l) rfl (by exact OWN.out) ⟨gw, p1, none⟩ (lx - p1) (cw - p1) (ints .i32 tl) rfl (by exact TNL.out) (by exact TLC.out) (ints_one _ _) hp0 (by exact T63.out) (by exact TBY.out) (by exact TBS.out) _ rfl ?_; intro g5 c5 x8 ho5 hg5 hor5 hgl5; rw [← ints_append] at ho5; have F8 := hide (LFIN.out x8 g5 (n' + (lx - p1)) c5 (l ++ tl) hg5 ho5 HLT.out); have PV8 := own_kept PVd.out OWN.out (by decide) hg5; have k8 := PV8.cellAt (M + 1) (by omega); have f8 := fgl.out x8 PV8; obtain ⟨vv, hvv⟩ : ∃ vv, vals[M + 1]? = some vv := (by have h9 := PV8.1; exact ⟨_, List.getElem?_eq_getElem (show M + 1 < vals.length by omega)⟩); rw [hvv] at k8; clear ho5 hg5 hor5 PV8 hvv))
                  all_goals
                    go_wp2_with fail
                    go_meet
                    exact ⟨g5, c5, n' + (lx - p1), F8.out.1, F8.out.2.1, F8.out.2.2⟩
              case rest =>
                obtain ⟨g5, c5, nn, hcell, ho5, hM5⟩ := hcut
                have MM5 := hide hM5
                have row5 : wc.ownsRow x4.heap.size 152 3 (.slice ar (q + (M + 1)) cr) (q + (M + 1)) (grVs (us.take q ++ ws) (gs.take q ++ ys)) := by have := hM5.row; rw [HYL.out] at this; exact this
                have ROW5 := hide row5
                have lw5 := hM5.le.2
                have hltl : (l ++ tl).length ≤ 1048576 := by rw [List.length_append, HTN.out]; omega
                have PL := hide (plainS (l ++ tl) x2.heap.size ⟨g5, 0, none⟩ nn c5 wc ho5 hltl)
                clear hM5 row5 ho5 hltl hl hv
                go_wp2_with fail
                refine PL.out.mono ?_
                rintro e x6 ⟨a6, c6, rfl, hn6, ho6, hb6⟩
                have s6 := hb6.size
                have R6 := hide ((owns_below ROW5.out hb6 (Nat.le_refl _)).alloc (.cells #[.slice a6 nn c6, .int .i64 nn, .int .i64 nn] 152))
                have NC := hide (newcells x6 152 [.slice a6 nn c6, .int .i64 nn, .int .i64 nn])
                have PUT := hide (fun (v' : Value) (wd : World) (hg : (x6.alloc (.cells #[.slice a6 nn c6, .int .i64 nn, .int .i64 nn] 152)).grownBy wd (Value.slice ar (q + (M + 1)) cr).ownBlock) (ho : wd.ownsRow x4.heap.size 152 3 v' (q + (M + 1) + 1) (grVs (us.take q ++ ws) (gs.take q ++ ys) ++ [.slice a6 nn c6, .int .i64 nn, .int .i64 nn])) => (show MidB x2 x4.heap.size wd us (ws ++ [.slice a6 nn c6]) gs (ys ++ [plG (l ++ tl)]) q v' from MM5.out.put (x := plG (l ++ tl)) hl2 hb6 ho6 (by show (x6.alloc (.cells #[.slice a6 nn c6, .int .i64 ((l ++ tl).length : Int), .int .i64 ((l ++ tl).length : Int)] 152)).grownBy _ _; rw [← hn6]; exact hg) (by show wd.ownsRow _ _ _ _ (q + ys.length + 1) (_ ++ [.slice a6 nn c6, .int .i64 ((l ++ tl).length : Int), .int .i64 ((l ++ tl).length : Int)]); rw [HYL.out, ← hn6]; exact ho)))
                clear ho6 hb6 PL hn6
                go_wp2_with (at_builtin; refine wpList_append_own _ rfl _ _ 27 rfl x4.heap.size 152 i0 (.agg #[.slice none 0 0, .int .i64 0, .int .i64 0]) 3 40 Tryz.underlying27 hi0 hz0 hz1 hz2 rfl (by decide) _ _ _ rfl R6.out ⟨x6.heap.size, 0, none⟩ 1 1 [.slice a6 nn c6, .int .i64 nn, .int .i64 nn] rfl rfl NC.out (one3 _ _ _ _ _) (by unfold maxLen; omega) (by omega) (by simp; omega) ?_; intro v7 x7 ho7 hg7 _)
                have M7 := hide (PUT.out v7 x7 hg7 ho7)
                obtain ⟨a7, c7, hv7⟩ := own_valT ho7
                subst hv7
                clear ho7 hg7 PUT
                go_wp2
                go_roundw
                case rel => exact ⟨M + 1 + 1, _, ys ++ [plG (l ++ tl)], a7, c7, ⟨by omega, by omega⟩, by go_num, rfl, by rw [List.length_append, HYL.out]; rfl, M7.out, fun h => by omega, fun _ => NLAST.out⟩
                case measure => simp [intOf]; omega
            · have hne : ¬ (k : Int) = (M : Int) + 1 := by omega
              have hne2 : ¬ (k : Int) = (M : Int) + 2 - 1 := by omega
              have PL := hide (plainS l x2.heap.size ⟨ga, 0, none⟩ n' c' wr ORW.out (by omega))
              have NEXT := hide (show ys ++ [plG l] = z9 :: (L.tail.take (k + 1 - 1)).map plG by
                rw [HYS.out]
                obtain ⟨j, rfl⟩ : ∃ j, k = j + 1 := ⟨k - 1, by omega⟩
                rw [show j + 1 + 1 - 1 = j + 1 by omega, show j + 1 - 1 = j by omega, List.take_add_one, TG.out j l hl]
                simp)
              clear hl hv
              go_wp2_with fail
              refine PL.out.mono ?_
              rintro e x6 ⟨a6, c6, rfl, hn6, ho6, hb6⟩
              have s6 := hb6.size
              have R6 := hide ((owns_below ROW.out hb6 (Nat.le_refl _)).alloc (.cells #[.slice a6 n' c6, .int .i64 n', .int .i64 n'] 152))
              have NC := hide (newcells x6 152 [.slice a6 n' c6, .int .i64 n', .int .i64 n'])
              have PUT := hide (fun (v' : Value) (wd : World) (hg : (x6.alloc (.cells #[.slice a6 n' c6, .int .i64 n', .int .i64 n'] 152)).grownBy wd (Value.slice ar (q + k) cr).ownBlock) (ho : wd.ownsRow x4.heap.size 152 3 v' (q + k + 1) (grVs (us.take q ++ ws) (gs.take q ++ ys) ++ [.slice a6 n' c6, .int .i64 n', .int .i64 n'])) => (show MidB x2 x4.heap.size wd us (ws ++ [.slice a6 n' c6]) gs (ys ++ [plG l]) q v' ∧ PS x4 wd gw lx cw tx from ⟨MM.out.put (x := plG l) hl2 hb6 ho6 (by show (x6.alloc (.cells #[.slice a6 n' c6, .int .i64 (l.length : Int), .int .i64 (l.length : Int)] 152)).grownBy _ _; rw [← hn6]; exact hg) (by show wd.ownsRow _ _ _ _ (q + ys.length + 1) (_ ++ [.slice a6 n' c6, .int .i64 (l.length : Int), .int .i64 (l.length : Int)]); rw [HYL.out, ← hn6]; exact ho), (PSS.out.below hb6).grow R6.out hg⟩))
              clear ho6 hb6 PL hn6
              go_wp2_with (at_builtin; refine wpList_append_own _ rfl _ _ 27 rfl x4.heap.size 152 i0 (.agg #[.slice none 0 0, .int .i64 0, .int .i64 0]) 3 40 Tryz.underlying27 hi0 hz0 hz1 hz2 rfl (by decide) _ _ _ rfl R6.out ⟨x6.heap.size, 0, none⟩ 1 1 [.slice a6 n' c6, .int .i64 n', .int .i64 n'] rfl rfl NC.out (one3 _ _ _ _ _) (by unfold maxLen; omega) (by omega) (by simp; omega) ?_; intro v7 x7 ho7 hg7 _)
              have PP := PUT.out v7 x7 hg7 ho7
              have M7 := hide PP.1
              have PS7 := hide PP.2
              obtain ⟨a7, c7, hv7⟩ := own_valT ho7
              subst hv7
              clear ho7 hg7 PP PUT
              go_wp2
              go_roundw
              case rel => exact ⟨k + 1, _, ys ++ [plG l], a7, c7, ⟨by omega, by omega⟩, by go_num, rfl, by rw [List.length_append, HYL.out]; rfl, M7.out, fun _ => ⟨NEXT.out, PS7.out⟩, fun h => by omega⟩
              case measure => simp [intOf]; omega
          · obtain rfl : k = M + 2 := by omega
            have hkn' : ¬ ((M : Int) + 2) < (M : Int) + 2 := by omega
            have EX := hide (hX rfl)
            clear hM hP hX
            go_wp2_with fail
            go_meet
            exact ⟨_, _, ws, by rw [XLL.out], by rw [XLL.out, ← EX.out]; exact MM.out⟩
  case rest =>
    obtain ⟨ar, cr, ws, rfl, hM⟩ := hcut
    have ROW := hide hM.row
    have sM := hM.b.size
    have leM := hM.le
    have P9 := K2'.out.below hM.b hpx
    have p0 := P9.c.1
    have p1' := P9.c.2
    have CD := hide (cells_drop (FRM.out wc hM.b) HN.out (q + 1) (by omega))
    have LTD := hide (grVs_lenD hl2 HN.out (q + 1))
    have FIN := hide (fun (v' : Value) (wd : World) (hg : wc.grownBy wd (Value.slice ar (q + XS.length) cr).ownBlock) (ho : wd.ownsRow x4.heap.size 152 3 v' (q + XS.length + (n - (q + 1))) (grVs (us.take q ++ ws) (gs.take q ++ XS) ++ grVs (us.drop (q + 1)) (gs.drop (q + 1)))) => hM.fin G3.out HN.out sx2 (show q ≤ q + 1 by omega) (show q + 1 ≤ n by omega) hg ho)
    clear P9 hM XC XI LEN
    generalize hxsl : XS.length = xsl at *
    by_cases hc3 : cr2 = q + 1
    · have hn3 : n = q + 1 := by omega
      have hc3' : (cr2 : Int) = (q : Int) + 1 := by omega
      have ED := hide (show grVs (us.drop (q + 1)) (gs.drop (q + 1)) = [] from List.eq_nil_of_length_eq_zero (by rw [LTD.out]; omega))
      subst hc3
      go_upto_region 18 with (at_builtin; refine wpList_append_own _ rfl _ _ 27 rfl x4.heap.size 152 i0 (.agg #[.slice none 0 0, .int .i64 0, .int .i64 0]) 3 40 Tryz.underlying27 hi0 hz0 hz1 hz2 rfl (by decide) _ _ _ rfl ROW.out ⟨g2, 0, none⟩ 0 _ [] rfl (by simp) (by intro j u h; simp at h) (by intro u h; simp at h) (by unfold maxLen; omega) (by omega) (by omega) ?_; intro v8 x8 ho8 hg8 hnil8)
      have ho8' : x8.ownsRow x4.heap.size 152 3 v8 (q + xsl + (n - (q + 1))) (grVs (us.take q ++ ws) (gs.take q ++ XS) ++ grVs (us.drop (q + 1)) (gs.drop (q + 1))) := by
        rw [ED.out, hn3, Nat.sub_self]; exact ho8
      obtain ⟨a8, c8, hv8⟩ := own_valT ho8
      subst hv8
      have F8 := hide (FIN.out _ _ hg8 ho8')
      clear ho8 ho8' hg8 hnil8
      have s8 := F8.out.2.size
      have R8 := hide (R2'.out.below F8.out.2 hrx)
      have P8 := hide (K2'.out.below F8.out.2 hpx)
      have e0 := R8.out.c.1
      have e1 := R8.out.c.2
      have f0 := R8.out.fz 0
      have f1 := R8.out.fz 1
      have pp0 := P8.out.c.1
      have pp1 := P8.out.c.2
      have hi1 : (q : Int) + 1 ≤ (ct2 : Int) := by omega
      have nn1 : w.heap.size ≠ w.heap.size + 1 := by omega
      go_wp2
      refine bodyPost_ret (v := .agg #[.slice a8 (q + xsl) c8, .slice (some ⟨g3, 0, none⟩) (q + 1) ct2]) (by simp [results, Tryz.results63, go_sem, e0, e1]) rfl ?_
      refine ⟨_, _, rfl, ⟨⟨us.take q ++ ws ++ us.drop (q + 1), ?_⟩, ?_, ?_⟩, ?_⟩
      · have hmono : x8.heap.size ≤ ((x8.setCell ⟨w.heap.size + 1, 0, none⟩ (.slice a8 (q + xsl) c8)).setCell ⟨w.heap.size + 1, 1, none⟩ (.slice (some ⟨g3, 0, none⟩) (q + 1) ct2)).heap.size := by simp
        refine (F8.out.1.offD (L := w.heap.size + 1) R8.out (by decide) (by decide) (fun z hz => ?_)).mono (Nat.le_refl _) hmono
        rw [heap_setCell_other _ _ _ _ (by show z ≠ w.heap.size + 1; exact hz), heap_setCell_other _ _ _ _ (by show z ≠ w.heap.size + 1; exact hz)]
      · have h9 := own64_takeS (k := q + 1) S3.out (by omega) (by rw [LT2.out]; omega)
        rw [List.take_take, Nat.min_eq_left (by omega)] at h9
        have h9' : o64 x8 w.heap.size (.slice (some ⟨g3, 0, none⟩) (q + 1) ct2) (ST.take (q + 1)) := owns_below h9 F8.out.2 (Nat.le_refl _)
        refine owns_of_block h9' (fun z hz => ?_)
        have hz3 : z ≠ w.heap.size + 1 := own_notD h9' R8.out (by decide) hz
        rw [heap_setCell_other _ _ _ _ (by show z ≠ w.heap.size + 1; exact hz3), heap_setCell_other _ _ _ _ (by show z ≠ w.heap.size + 1; exact hz3)]
      · exact bel_mono sbl.out (by simp; omega)
      · exact ((B2'.out.trans (F8.out.2.mono sx2)).setCell (by simp) _).setCell (by simp) _
    · have hc3' : ¬ (cr2 : Int) = (q : Int) + 1 := by omega
      go_upto_region 18 with (at_builtin; refine wpList_append_own _ rfl _ _ 27 rfl x4.heap.size 152 i0 (.agg #[.slice none 0 0, .int .i64 0, .int .i64 0]) 3 40 Tryz.underlying27 hi0 hz0 hz1 hz2 rfl (by decide) _ _ _ rfl ROW.out ⟨g2, (q + 1) * 3, none⟩ (n - (q + 1)) (cr2 - (q + 1)) (grVs (us.drop (q + 1)) (gs.drop (q + 1))) rfl LTD.out CD.out OND.out (by unfold maxLen; omega) (by omega) (by omega) ?_; intro v8 x8 ho8 hg8 hnil8)
      have ho8' := ho8
      obtain ⟨a8, c8, hv8⟩ := own_valT ho8
      subst hv8
      have F8 := hide (FIN.out _ _ hg8 ho8')
      clear ho8 ho8' hg8 hnil8
      have s8 := F8.out.2.size
      have R8 := hide (R2'.out.below F8.out.2 hrx)
      have P8 := hide (K2'.out.below F8.out.2 hpx)
      have e0 := R8.out.c.1
      have e1 := R8.out.c.2
      have f0 := R8.out.fz 0
      have f1 := R8.out.fz 1
      have pp0 := P8.out.c.1
      have pp1 := P8.out.c.2
      have hi1 : (q : Int) + 1 ≤ (ct2 : Int) := by omega
      have nn1 : w.heap.size ≠ w.heap.size + 1 := by omega
      go_wp2
      refine bodyPost_ret (v := .agg #[.slice a8 (q + xsl + (n - (q + 1))) c8, .slice (some ⟨g3, 0, none⟩) (q + 1) ct2]) (by simp [results, Tryz.results63, go_sem, e0, e1]) rfl ?_
      refine ⟨_, _, rfl, ⟨⟨us.take q ++ ws ++ us.drop (q + 1), ?_⟩, ?_, ?_⟩, ?_⟩
      · have hmono : x8.heap.size ≤ ((x8.setCell ⟨w.heap.size + 1, 0, none⟩ (.slice a8 (q + xsl + (n - (q + 1))) c8)).setCell ⟨w.heap.size + 1, 1, none⟩ (.slice (some ⟨g3, 0, none⟩) (q + 1) ct2)).heap.size := by simp
        refine (F8.out.1.offD (L := w.heap.size + 1) R8.out (by decide) (by decide) (fun z hz => ?_)).mono (Nat.le_refl _) hmono
        rw [heap_setCell_other _ _ _ _ (by show z ≠ w.heap.size + 1; exact hz), heap_setCell_other _ _ _ _ (by show z ≠ w.heap.size + 1; exact hz)]
      · have h9 := own64_takeS (k := q + 1) S3.out (by omega) (by rw [LT2.out]; omega)
        rw [List.take_take, Nat.min_eq_left (by omega)] at h9
        have h9' : o64 x8 w.heap.size (.slice (some ⟨g3, 0, none⟩) (q + 1) ct2) (ST.take (q + 1)) := owns_below h9 F8.out.2 (Nat.le_refl _)
        refine owns_of_block h9' (fun z hz => ?_)
        have hz3 : z ≠ w.heap.size + 1 := own_notD h9' R8.out (by decide) hz
        rw [heap_setCell_other _ _ _ _ (by show z ≠ w.heap.size + 1; exact hz3), heap_setCell_other _ _ _ _ (by show z ≠ w.heap.size + 1; exact hz3)]
      · exact bel_mono sbl.out (by simp; omega)
      · exact ((B2'.out.trans (F8.out.2.mono sx2)).setCell (by simp) _).setCell (by simp) _
end Go.Proofs.YtbgngikejgihgagGreatDoor
