import Derived.Test.YtbgngikejgihgagGreatDoorMq12
import Derived.Test.YtbgngikejgihgagGreatDoorMq14
import Derived.Deep.RegionLaw
import Derived.Test.YtbgngikejgihgagGreatDoorMq15
import Derived.Test.YtbgngikejgihgagGreatDoorMq34
import Derived.Test.YtbgngikejgihgagGreatDoorMq35
import Derived.Deep.Cut
import Derived.Deep.CutRange
import Derived.Deep.CutBlock
import Derived.Deep.DeepCutAuto
import Derived.Deep.RegionWith
import Derived.Deep.RegionHeld2
import Derived.Test.YtbgngikejgihgagGreatDoorMq25
import Derived.Test.YtbgngikejgihgagGreatDoorMq04
import Derived.WalkKit
import Derived.WalkLawsBesides
namespace Go.Proofs.YtbgngikejgihgagGreatDoor
open Go Go.RowKit
set_option linter.unusedVariables false

theorem known_finC {w w1 x7 x8 : World} {vr v : Value} {us : List Value} {gs : List Gr} {rb : Nat} {e1 e2 : Value} (G7 : OwG 152 x7 w1.heap.size x7.heap.size vr us gs) (E : x7.ownsRow w1.heap.size 3 1 v 0 []) (hg : x7.grownBy x8 v.ownBlock) (B7 : Below w1.heap.size w1 x7) (B1 : Below w.heap.size w w1) (R1 : D2 w1 rb e1 e2 29) :
    OwG 152 x8 w1.heap.size x8.heap.size vr us gs ∧ Below w.heap.size w x8 ∧ D2 x8 rb e1 e2 29 := by
  have hs := hg.size
  have h7 := B7.size
  have h1 := B1.size
  have hb : Below w1.heap.size w1 x8 := B7.grown hg h7 (fun q hq => (E.lt q hq).1)
  exact ⟨(G7.kept E (by decide) (by decide) hg).mono (Nat.le_refl _) hs, B1.trans (hb.mono h1), R1.below hb R1.lt⟩
theorem owg_allocC {t : TypeId} {w : World} {lo : Nat} {v : Value} {vs : List Value} {gs : List Gr} (h : OwG t w lo w.heap.size v vs gs) (o : Obj) : OwG t (w.alloc o) lo (w.alloc o).heap.size v vs gs :=
  (h.frame (fun q _ hq => ((Below.refl w.heap.size w).alloc (Nat.le_refl _) o).block q hq)).mono (Nat.le_refl _) (by simp)

theorem owns_all64 {w : World} {base g n cap : Nat} {zs : List Int} (h : w.ownsRow base 3 1 (.slice (some ⟨g, 0, none⟩) n cap) n (ints .i64 zs)) : ∀ j u, (ints .i64 zs)[j]? = some u → w.cell? ((⟨g, 0, none⟩ : Addr).add j) = some u := h.cells rfl

set_option maxHeartbeats 4000000 in
set_option maxRecDepth 100000 in
theorem copyLineS (gs : List Gr) (st : List Int) (vr vt : Value) (lo hi : Nat) (w : World) (h : OwL w lo hi vr vt gs st) (hh : hi ≤ w.heap.size) (hg : gs.length ≤ 8193) (h1 : 1 ≤ gs.length) (hs : ∀ x ∈ gs, x.cells.length ≤ 1048576) (hs1 : 1 ≤ st.length) (hs2 : st.length ≤ 8193) :
    Calls Tryz.prog 103 #[.agg #[vr, vt]] w fun e w' => ∃ vr' vt', e = .returned (.agg #[vr', vt']) ∧ OwL w' w.heap.size w'.heap.size vr' vt' gs st ∧ Below w.heap.size w w' := by
  obtain ⟨i0, hi0, hz0, hz1, hz2⟩ := info_parts Tryz.info64T
  have B1 := hide (((Below.refl w.heap.size w).alloc (Nat.le_refl _) (.cells #[vr, vt] 29)).alloc (by simp) (.cells #[.slice none 0 0, .slice none 0 0] 29))
  have P1 := hide ((D2.new w vr vt 29).below ((Below.refl _ _).alloc (Nat.le_refl _) (.cells #[.slice none 0 0, .slice none 0 0] 29)) (by simp))
  have R1 := hide (D2.new (w.alloc (.cells #[vr, vt] 29)) (.slice none 0 0) (.slice none 0 0) 29)
  have es : (w.alloc (.cells #[vr, vt] 29)).heap.size = w.heap.size + 1 := by simp
  rw [es] at R1
  have es2 : ((w.alloc (.cells #[vr, vt] 29)).alloc (.cells #[.slice none 0 0, .slice none 0 0] 29)).heap.size = w.heap.size + 2 := by simp
  have O0 := h.below B1.out hh
  obtain ⟨a1, c1, a2, c2, rfl, rfl⟩ := h.val
  obtain ⟨vs, hG⟩ := h.rows
  rcases hG.row.2 with ⟨_, q⟩ | ⟨g0, cap, cur, q, _⟩
  · omega
  simp only [Value.slice.injEq, true_and] at q
  obtain ⟨rfl, rfl⟩ := q
  have hoa := O0.starts
  unfold o64 at hoa
  rcases hoa.2 with ⟨_, q⟩ | ⟨ga, ca, cura, q, _, _, d1, d2, _⟩
  · omega
  simp only [Value.slice.injEq, true_and] at q
  obtain ⟨rfl, rfl⟩ := q
  have CR := hide (fun (W : World) (hW : Below w.heap.size w W) => copyRowsS gs vs g0 c1 gs.length lo hi W (hG.frame (fun q _ hq => hW.block q (by omega))) rfl (by have := hW.size; omega) hg hs)
  have OA := hide hoa
  have hgal := (hoa.lt ga rfl).2
  generalize hk : st.length = k at *
  generalize hn : gs.length = n at *
  have HN := hide hn
  have STL := hide hk
  have LT := hide (show (ints .i64 st).length = k * 1 by rw [ints_length, STL.out]; omega)
  clear h hG O0 hs es hn hoa hk
  unfold maxLen at d2
  go_enter Tryz.func103, Tryz.ntmps103
  go_wp2_with fail
  generalize (w.alloc (.cells #[.slice (some ⟨g0, 0, none⟩) n c1, .slice (some ⟨ga, 0, none⟩) k c2] 29)).alloc (.cells #[.slice none 0 0, .slice none 0 0] 29) = w1 at *
  have p0 := P1.out.c.1
  have p1 := P1.out.c.2
  have lp : w.heap.size < w1.heap.size := by omega
  have np : w.heap.size ≠ w1.heap.size := by omega
  have lp2 : w.heap.size + 1 < w1.heap.size := by omega
  have BA := hide (B1.out.alloc (by omega) (.cells #[] 3))
  have AW := hide ((Below.refl w1.heap.size w1).alloc (Nat.le_refl _) (.cells #[] 3))
  have CR2 := hide (fun (W : World) (hW : Below w1.heap.size w1 W) => (CR.out W (B1.out.trans (hW.mono (by have := B1.out.size; omega)))).mono (R' := fun e x7 => ∃ vr us, e = .returned vr ∧ OwG 152 x7 w1.heap.size x7.heap.size vr us gs ∧ Below w1.heap.size w1 x7 ∧ Below W.heap.size W x7) (fun e x7 ⟨v, us, he, hG, hb⟩ => ⟨v, us, he, hG.mono hW.size (Nat.le_refl _), hW.trans (hb.mono hW.size), hb⟩))
  clear es2
  go_region_law (first
    | (refine step_append_lies _ rfl _ _ 23 rfl w1.heap.size 3 i0 (.int .i64 0) 1 8 Tryz.underlying23 hi0 hz0 hz1 hz2 rfl (by decide) _ 0 [] rfl (by exact EB7.out) ⟨ga, 0, none⟩ k c2 (ints .i64 (st)) rfl LT.out (by exact CA7.out) (ints_one _ _) (by omega) (by unfold maxLen; omega) (by omega) (by omega) _ rfl ?_; intro g5 cap5 x8 ho5 hg5 _ hgl5; have FA := FIN7.out x8 g5 cap5 ho5 hg5 hgl5; have G8 := hide FA.1; have O8 := hide ho5; have BB8 := hide FA.2.1; have R8 := hide FA.2.2; have u0 := R8.out.c.1; have u1 := R8.out.c.2; have f0 := R8.out.fz 0; have f1 := R8.out.fz 1; clear ho5 hg5 FA)
    | (refine step_append_lies _ rfl _ _ 23 rfl w1.heap.size 3 i0 (.int .i64 0) 1 8 Tryz.underlying23 hi0 hz0 hz1 hz2 rfl (by decide) _ 0 [] rfl (by exact EA7.out) ⟨ga, 0, none⟩ k c2 (ints .i64 (st)) rfl LT.out (by exact CB7.out) (ints_one _ _) (by omega) (by unfold maxLen; omega) (by omega) (by simp; omega) _ rfl ?_; intro g5 cap5 x8 ho5 hg5 _ hgl5; have FA := FIA7.out x8 g5 cap5 ho5 hg5 hgl5; have G8 := hide FA.1; have O8 := hide ho5; have BB8 := hide FA.2.1; have R8 := hide FA.2.2; have u0 := R8.out.c.1; have u1 := R8.out.c.2; have f0 := R8.out.fz 0; have f1 := R8.out.fz 1; clear ho5 hg5 FA)
    | (go_simp; go_wp2_with (go_at_call 157; refine (CR2.out _ (by first | exact (show Below w1.heap.size w1 _ from ⟨rfl, rfl, rfl, Nat.le_refl _, fun _ _ => rfl⟩) | exact (show Below w1.heap.size w1 _ from ⟨AW.out.os, AW.out.tape, AW.out.output, AW.out.size, AW.out.block⟩))).mono ?_; rintro e x7 ⟨vr7, us7, rfl, hG7, hB7, hb7⟩; obtain ⟨ar7, cr7, hvr⟩ := hG7.val; rw [HN.out] at hvr; subst hvr; have G7 := hide hG7; have BW7 := hide hB7; have s7 := hB7.size; have l7 : w.heap.size + 1 < x7.heap.size := (by omega); have l70 : w.heap.size < x7.heap.size := (by omega); have n7 : w.heap.size ≠ x7.heap.size := (by omega); have P7 := (P1.out.below hB7 lp); have pp0 := P7.c.1; have pp1 := P7.c.2; have CA7 := hide (owns_all64 (owns_below OA.out hB7 (Nat.le_refl _))); have CB7 := hide (owns_all64 ((owns_below OA.out hB7 (Nat.le_refl _)).alloc (.cells #[] 3))); have EA7 := hide (owns_base (base' := w1.heap.size) (own_newT x7 3) s7); have FIA7 := hide (fun (x8 : World) (g5 cap5 : Nat) (ho5 : x8.ownsRow w1.heap.size 3 1 (.slice (some ⟨g5, 0, none⟩) (0 + k) cap5) (0 + k) ([] ++ ints .i64 (st))) (hg5 : (x7.alloc (.cells #[] 3)).grownBy x8 (Value.slice (some ⟨x7.heap.size, 0, none⟩) 0 0).ownBlock) (_ : g5 < x8.heap.size) => known_finC (owg_allocC hG7 (.cells #[] 3)) (owns_base (base' := w1.heap.size) (own_newT x7 3) s7) hg5 (hB7.alloc s7 (.cells #[] 3)) B1.out R1.out); first | (have EB7 := hide (owns_below (own_newT w1 3) (show Below (w1.alloc (.cells #[] 3)).heap.size (w1.alloc (.cells #[] 3)) x7 from ⟨hb7.os, hb7.tape, hb7.output, hb7.size, hb7.block⟩) (Nat.le_refl _)); have FIN7 := hide (fun (x8 : World) (g5 cap5 : Nat) (ho5 : x8.ownsRow w1.heap.size 3 1 (.slice (some ⟨g5, 0, none⟩) (0 + k) cap5) (0 + k) ([] ++ ints .i64 (st))) (hg5 : x7.grownBy x8 (Value.slice (some ⟨w1.heap.size, 0, none⟩) 0 0).ownBlock) (_ : g5 < x8.heap.size) => known_finC hG7 EB7.out hg5 hB7 B1.out R1.out)) | skip; clear hG7 hB7 hb7 P7)))
  all_goals
    go_wp2
    refine bodyPost_ret (v := .agg #[.slice ar7 n cr7, .slice (some ⟨g5, 0, none⟩) k cap5]) (by simp [results, Tryz.results103, go_sem, u0, u1]) rfl ?_
    have h9 := O8.out
    rw [Nat.zero_add, List.nil_append] at h9
    have hbs := B1.out.size
    refine ⟨_, _, rfl, ⟨⟨us7, ?_⟩, ?_, ?_⟩, (BB8.out.setCell (by simp) _).setCell (by simp) _⟩
    · refine (G8.out.frame (fun q h1 h2 => ?_)).mono (by omega) (by simp)
      rw [heap_setCell_other _ _ _ _ (by show q ≠ w.heap.size + 1; omega), heap_setCell_other _ _ _ _ (by show q ≠ w.heap.size + 1; omega)]
    · unfold o64
      rw [STL.out]
      refine owns_base (owns_of_block h9 fun q hq => ?_) (by omega)
      have := (h9.lt q hq).1
      rw [heap_setCell_other _ _ _ _ (by show q ≠ w.heap.size + 1; omega), heap_setCell_other _ _ _ _ (by show q ≠ w.heap.size + 1; omega)]
    · intro q hq
      have := (h9.lt q hq).2
      simp; omega
end Go.Proofs.YtbgngikejgihgagGreatDoor

namespace Go.Proofs.YtbgngikejgihgagGreatDoor
open Go Go.RowKit
set_option linter.unusedVariables false

theorem Ln.mono {L : List (List Int)} {a b k k2 : Nat} (h1 : Ln L a k) (h2 : Ln L b k2) (hab : a ≤ b) : k ≤ k2 := by
  rcases Nat.lt_or_ge k2 k with h | h
  · have h3 := h2.2.2 (by have := h1.1; omega)
    have h4 := sAt_le L (show k2 + 1 ≤ k by omega)
    have h5 := h1.2.1
    omega
  · exact h
end Go.Proofs.YtbgngikejgihgagGreatDoor

namespace Go.Proofs.YtbgngikejgihgagGreatDoor
open Go Go.RowKit
set_option linter.unusedVariables false

theorem Nest.kept {w w' : World} {lo hi B' e' size' n' : Nat} {v' : Value} {vs : List Value} {ls : List (List Int)} {xs' : List Value} (h : Nest w lo hi vs ls) (h' : w.ownsRow B' e' size' v' n' xs') (h2 : 21 ≠ e') (hg : w.grownBy w' v'.ownBlock) : Nest w' lo hi vs ls :=
  ⟨h.len, fun i u l hu hl => own_kept (h.own i u l hu hl) h' h2 hg, h.bl, h.ne⟩
/-- An empty row of its own. -/
theorem own_newS (w : World) (e : TypeId) : (w.alloc (.cells #[] e)).ownsRow w.heap.size e 1 (.slice (some ⟨w.heap.size, 0, none⟩) 0 0) 0 [] := by
  have := World.ownsRow_made (base := w.heap.size) (e := e) (size := 1) w #[] 0 (by simp) (Nat.zero_le _) rfl
  simpa using this
def NN (vs : List Value) : Prop := ∀ v ∈ vs, ∃ a n c, v = .slice (some a) n c
theorem NN.snoc {vs : List Value} {a : Addr} {n c : Nat} (h : NN vs) : NN (vs ++ [.slice (some a) n c]) := by
  intro v hv
  rcases List.mem_append.1 hv with q | q
  · exact h v q
  · simp at q; exact ⟨a, n, c, q⟩

theorem own_val1 {w : World} {base e size : Nat} {v : Value} {n : Nat} {xs : List Value} (h : w.ownsRow base e size v n xs) : ∃ ao cap, v = .slice ao n cap := by
  rcases h.2 with ⟨rfl, h0⟩ | ⟨g, cap, cur, rfl, _⟩
  · exact ⟨none, 0, by rw [h0]⟩
  · exact ⟨_, _, rfl⟩

set_option maxHeartbeats 4000000 in
set_option maxRecDepth 100000 in
theorem rowsS (zs : List Int) (b o cap : Nat) (w : World) (hc : ∀ i, i < zs.length → w.cell? ⟨b, o + i, none⟩ = some (.int .i32 (zs.getD i 0))) (hb : b < w.heap.size) (hn : zs.length ≤ 1048576) (hcap : zs.length ≤ cap) (hm : cap ≤ maxLen) :
    Calls Tryz.prog 115 #[.slice (some ⟨b, o, none⟩) zs.length cap] w fun e w' => ∃ v vals, e = .returned v ∧ w'.ownsRow w.heap.size 36 1 v (lns zs).length vals ∧ Nest w' w.heap.size w'.heap.size vals (lns zs) ∧ NN vals ∧ Below w.heap.size w w' := by
  obtain ⟨i1, hi1, hz10, hz11, hz12⟩ := info_parts Tryz.infoS
  obtain ⟨i0, hi0, hz0, hz1, hz2⟩ := info_parts Tryz.infoG
  have HC := hide hc
  have LL := hide (lns_len zs)
  obtain ⟨LZ, hLZ⟩ : ∃ LZ, LZ = lns zs := ⟨_, rfl⟩
  rw [← hLZ] at LL ⊢
  have HLZ := hide hLZ
  obtain ⟨N, hN⟩ : ∃ N, N = zs.length := ⟨_, rfl⟩
  have HN := hide hN
  rw [← hN] at hn hcap LL HC ⊢
  unfold maxLen at hm
  have A1 := hide ((Below.refl w.heap.size w).alloc (Nat.le_refl _) (.cells #[] 36))
  have A2 := hide (A1.out.alloc (by simp) (.cells #[] 21))
  have O1 := hide ((own_newS w 36).alloc (.cells #[] 21))
  have O2 := hide (own_newS (w.alloc (.cells #[] 36)) 21)
  have e1 : (w.alloc (.cells #[] 36)).heap.size = w.heap.size + 1 := by simp
  have e2 : ((w.alloc (.cells #[] 36)).alloc (.cells #[] 21)).heap.size = w.heap.size + 2 := by simp
  rw [e1] at O2
  clear hc hLZ hN e1
  go_enter Tryz.func115, Tryz.ntmps115
  go_wp2_with fail
  generalize (w.alloc (.cells #[] 36)).alloc (.cells #[] 21) = w0 at *
  go_loopw [3, 4, 11] (fun out row i wr => ∃ (k h : Nat) (L : List (List Int)) (rr : List Int) (vals : List Value) (ga : Addr) (gc : Nat) (ao : Option Addr) (co : Nat), k ≤ N ∧ i = .int .i64 k ∧ w.heap.size ≤ h ∧ h ≤ wr.heap.size ∧ LZ = L ++ gl rr (lns (zs.drop k)) ∧ rr.length ≤ k ∧ row = .slice (some ga) rr.length gc ∧ out = .slice ao L.length co ∧ wr.ownsRow h 21 1 row rr.length (ints .i32 rr) ∧ wr.ownsRow w.heap.size 36 1 out L.length vals ∧ Nest wr w.heap.size h vals L ∧ NN vals ∧ Below w.heap.size w wr)
    (fun _ _ i _ => N - (intOf i).toNat)
  case atStart =>
    exact ⟨0, w.heap.size + 1, [], [], [], ⟨w.heap.size + 1, 0, none⟩, 0, _, _, Nat.zero_le _, rfl, by omega, by omega, by rw [List.drop_zero, gl_start, HLZ.out]; rfl, by simp, rfl, rfl, O2.out, O1.out, Nest.nil _ _ _, fun v hv => by simp at hv, A2.out⟩
  case round =>
    obtain ⟨k, h, L, rr, vals, ga, gc, ao, co, hk, rfl, hwh, hhs, hL, hrr, rfl, rfl, hro, hou, hns, hnn, hbw⟩ := hrel
    have RO := hide hro
    have OU := hide hou
    have NS := hide hns
    have NNV := hide hnn
    have BW := hide hbw
    have HL := hide hL
    have hsz := hbw.size
    have hll : L.length ≤ 1048577 := by have h1 := LL.out.2; have h2 := HL.out; rw [h2, List.length_append] at h1; omega
    by_cases hlt : k < N
    · have hx := (hbw.cell (p := ⟨b, o + k, none⟩) hb).trans (HC.out k hlt)
      have hlt' : (k : Int) < N := by omega
      have DG := drop_get (zs := zs) (k := k) (by rw [← HN.out]; exact hlt)
      rw [DG] at HL
      by_cases h10 : zs.getD k 0 = 10
      · rw [h10] at hx HL
        rw [gl_br] at HL
        have NC := hide (newcells wr 36 [.slice (some ga) rr.length gc])
        have OA := hide (OU.out.alloc (.cells #[.slice (some ga) rr.length gc] 36))
        clear hro hou hns hnn hbw hL DG h10
        go_wp2_with (at_builtin; refine wpList_append_own _ rfl _ _ 190 rfl w.heap.size 36 i1 (.slice none 0 0) 1 24 Tryz.underlying190 hi1 hz10 hz11 hz12 rfl (by decide) _ _ _ rfl OA.out ⟨wr.heap.size, 0, none⟩ 1 1 [.slice (some ga) rr.length gc] rfl rfl NC.out (by intro u hu; simp at hu; subst hu; rfl) (by unfold maxLen; omega) (by omega) (by simp; omega) ?_; intro v2 w2 ho2 hg2 _)
        have BA := (BW.out.alloc (by omega) (.cells #[.slice (some ga) rr.length gc] 36))
        have B2 := hide (BA.grown hg2 (by simp; omega) (fun q hq => (OU.out.lt q hq).1))
        have R2 := hide (own_kept (RO.out.alloc (.cells #[.slice (some ga) rr.length gc] 36)) OA.out (by decide) hg2)
        have N2 := hide ((NS.out.frame (w' := wr.alloc (.cells #[.slice (some ga) rr.length gc] 36)) (fun q _ hq => ((Below.refl wr.heap.size wr).alloc (Nat.le_refl _) (.cells #[.slice (some ga) rr.length gc] 36)).block q (by omega))).kept OA.out (by decide) hg2)
        obtain ⟨ao2, co2, rfl⟩ := own_val1 ho2
        have O2' := hide ho2
        have s2 := B2.out.size
        have s2' : wr.heap.size + 1 ≤ w2.heap.size := by have := hg2.size; simp at this; omega
        clear ho2 hg2 BA
        have B3 := hide (B2.out.alloc (by omega) (.cells #[] 21))
        have E3 := hide (own_newS w2 21)
        have s3 : (w2.alloc (.cells #[] 21)).heap.size = w2.heap.size + 1 := by simp
        go_wp2
        go_roundw
        case rel =>
          refine ⟨k + 1, w2.heap.size, L ++ [rr], [], vals ++ [.slice (some ga) rr.length gc], ⟨w2.heap.size, 0, none⟩, 0, ao2, co2, by omega, by go_num, by omega, by omega, by rw [HL.out]; simp, by simp, rfl, by rw [List.length_append]; rfl, E3.out, ?_, ?_, NNV.out.snoc, B3.out⟩
          · rw [List.length_append]; exact O2'.out.alloc _
          · exact (N2.out.snoc (owns_base R2.out (by omega)) (fun q hq => (R2.out.lt q hq).1) (fun q hq => (R2.out.lt q hq).2) (by omega)).frame (fun q _ hq => ((Below.refl w2.heap.size w2).alloc (Nat.le_refl _) (.cells #[] 21)).block q hq)
        case measure => simp [intOf]; omega
      · rw [gl_in _ _ _ h10] at HL
        generalize zs.getD k 0 = z at *
        have NC := hide (newcells wr 21 [.int .i32 z])
        have OA := hide (RO.out.alloc (.cells #[.int .i32 z] 21))
        clear hro hou hns hnn hbw hL DG
        go_wp2_with (at_builtin; refine wpList_append_own _ rfl _ _ 36 rfl h 21 i0 (.int .i32 0) 1 4 Tryz.underlying36 hi0 hz0 hz1 hz2 rfl (by decide) _ _ _ rfl OA.out ⟨wr.heap.size, 0, none⟩ 1 1 [.int .i32 z] rfl rfl NC.out (ints_one .i32 [z]) (by unfold maxLen; omega) (by omega) (by simp; omega) ?_; intro v2 w2 ho2 hg2 _)
        have BA := (BW.out.alloc (by omega) (.cells #[.int .i32 z] 21))
        have B2 := hide (BA.grown hg2 (by simp; omega) (fun q hq => by have := (OA.out.lt q hq).1; omega))
        have Q2 := hide (own_kept (OU.out.alloc (.cells #[.int .i32 z] 21)) OA.out (by decide) hg2)
        have N2 := hide (NS.out.frame (w' := w2) (fun q _ hq => (hg2.block q (by simp; omega) (fun e => by have := (OA.out.lt q e.symm).1; omega)).trans (((Below.refl wr.heap.size wr).alloc (Nat.le_refl _) (.cells #[.int .i32 z] 21)).block q (by omega))))
        rcases ho2.2 with ⟨_, q⟩ | ⟨g2, c2, cur2, rfl, _⟩
        · omega
        have O2' := hide ho2
        have s2' : wr.heap.size + 1 ≤ w2.heap.size := by have := hg2.size; simp at this; omega
        clear ho2 hg2 BA
        go_wp2
        go_roundw
        case rel =>
          refine ⟨k + 1, h, L, rr ++ [z], vals, ⟨g2, 0, none⟩, c2, ao, co, by omega, by go_num, hwh, by omega, HL.out, by simp; omega, by simp, rfl, ?_, Q2.out, N2.out, NNV.out, B2.out⟩
          rw [List.length_append, ints_append]; exact O2'.out
        case measure => simp [intOf]; omega
    · obtain rfl : k = N := by omega
      have hlt' : ¬ (k : Int) < k := by omega
      rw [List.drop_of_length_le (by rw [← HN.out]; exact Nat.le_refl _), gl_nil] at HL
      have NC := hide (newcells wr 36 [.slice (some ga) rr.length gc])
      have OA := hide (OU.out.alloc (.cells #[.slice (some ga) rr.length gc] 36))
      clear hro hou hns hnn hbw hL
      go_wp2_with (at_builtin; refine wpList_append_own _ rfl _ _ 190 rfl w.heap.size 36 i1 (.slice none 0 0) 1 24 Tryz.underlying190 hi1 hz10 hz11 hz12 rfl (by decide) _ _ _ rfl OA.out ⟨wr.heap.size, 0, none⟩ 1 1 [.slice (some ga) rr.length gc] rfl rfl NC.out (by intro u hu; simp at hu; subst hu; rfl) (by unfold maxLen; omega) (by omega) (by simp; omega) ?_; intro v2 w2 ho2 hg2 _)
      have BA := (BW.out.alloc (by omega) (.cells #[.slice (some ga) rr.length gc] 36))
      have B2 := hide (BA.grown hg2 (by simp; omega) (fun q hq => (OU.out.lt q hq).1))
      have R2 := hide (own_kept (RO.out.alloc (.cells #[.slice (some ga) rr.length gc] 36)) OA.out (by decide) hg2)
      have N2 := hide ((NS.out.frame (w' := wr.alloc (.cells #[.slice (some ga) rr.length gc] 36)) (fun q _ hq => ((Below.refl wr.heap.size wr).alloc (Nat.le_refl _) (.cells #[.slice (some ga) rr.length gc] 36)).block q (by omega))).kept OA.out (by decide) hg2)
      have O2' := hide ho2
      have s2' : wr.heap.size + 1 ≤ w2.heap.size := by have := hg2.size; simp at this; omega
      clear ho2 hg2 BA
      go_wp2
      go_ret
      refine ⟨_, rfl, vals ++ [.slice (some ga) rr.length gc], ?_, ?_, NNV.out.snoc, B2.out⟩
      · rw [HL.out, List.length_append]; exact O2'.out
      · rw [HL.out]; exact N2.out.snoc (owns_base R2.out (by omega)) (fun q hq => (R2.out.lt q hq).1) (fun q hq => (R2.out.lt q hq).2) (by omega)
end Go.Proofs.YtbgngikejgihgagGreatDoor
