import Derived.Test.YtbgngikejgihgagGreatDoorMq15
import Derived.Test.YtbgngikejgihgagGreatDoorMq22
import Derived.Test.YtbgngikejgihgagGreatDoorMq23
import Derived.Test.YtbgngikejgihgagGreatDoorMq24
import Derived.Deep.Cut
import Derived.Deep.CutRange
import Derived.Deep.CutBlock
import Derived.Deep.DeepCutAuto
import Derived.Deep.RegionWith
import Derived.Deep.RegionHeld2
namespace Go.Proofs.YtbgngikejgihgagGreatDoor
open Go Go.RowKit
set_option linter.unusedVariables false

/-- The row where a deletion begins, behind it. -/
noncomputable def midG (k k2 : Nat) (x y : Gr) (c1 c2 : Nat) : Gr := if k = k2 then delG x c1 c2 else insG (delG x c1 (grT x).length) c1 ((grT y).drop c2)
theorem Ln.mono {L : List (List Int)} {a b k k2 : Nat} (h1 : Ln L a k) (h2 : Ln L b k2) (hab : a ≤ b) : k ≤ k2 := by
  rcases Nat.lt_or_ge k2 k with h | h
  · have h3 := h2.2.2 (by have := h1.1; omega)
    have h4 := sAt_le L (show k2 + 1 ≤ k by omega)
    have h5 := h1.2.1
    omega
  · exact h
theorem two_linesS {LS : List (List Int)} {k k2 : Nat} {a b : List Int} (h : k < k2) (ha : LS[k]? = some a) (hb : LS[k2]? = some b) (hj : (jn LS).length ≤ 8192) : a.length + b.length ≤ 8192 := by
  have h1 : (LS.take k2)[k]? = some a := by rw [List.getElem?_take, if_pos h]; exact ha
  have h2 := smL_get h1
  have h3 := smL_take_succ hb
  have h4 := smL_take_le LS (k2 + 1)
  have hk : k2 < LS.length := (List.getElem?_eq_some_iff.1 hb).1
  have h5 := jn_len (ls := LS) (by intro e; rw [e] at hk; simp at hk)
  omega
theorem q3_set {x6 x8 : World} {X dc cap : Nat} {ao : Option Addr} {zs : List Int} {dl dh : Int} {a b c : Value} (ho : o32 x8 x6.heap.size (.slice ao dc cap) zs) (hb : Below x6.heap.size x6 x8) (hq : Q3 x8 X a b c 152) (hX : x6.heap.size ≤ X) :
    Q3 (((x8.setCell ⟨X, 0, none⟩ (.slice ao dc cap)).setCell ⟨X, 1, none⟩ (.int .i64 dl)).setCell ⟨X, 2, none⟩ (.int .i64 dh)) X (.slice ao dc cap) (.int .i64 dl) (.int .i64 dh) 152 ∧ o32 (((x8.setCell ⟨X, 0, none⟩ (.slice ao dc cap)).setCell ⟨X, 1, none⟩ (.int .i64 dl)).setCell ⟨X, 2, none⟩ (.int .i64 dh)) x6.heap.size (.slice ao dc cap) zs ∧ Below x6.heap.size x6 (((x8.setCell ⟨X, 0, none⟩ (.slice ao dc cap)).setCell ⟨X, 1, none⟩ (.int .i64 dl)).setCell ⟨X, 2, none⟩ (.int .i64 dh)) := by
  refine ⟨?_, owns_of_block ho (fun q hq' => ?_), ((hb.setCell hX _).setCell hX _).setCell hX _⟩
  · unfold Q3 at *
    have h1 := Go.heap_setCell_same x8 X 0 _ _ (.slice ao dc cap) hq
    have h2 := Go.heap_setCell_same _ X 1 _ _ (.int .i64 dl) h1
    rw [Go.heap_setCell_same _ X 2 _ _ (.int .i64 dh) h2]
    rfl
  · have hz : q ≠ X := own_notD ho hq (by decide) hq'
    rw [Go.heap_setCell_other _ _ _ _ (by show q ≠ X; exact hz), Go.heap_setCell_other _ _ _ _ (by show q ≠ X; exact hz), Go.heap_setCell_other _ _ _ _ (by show q ≠ X; exact hz)]
theorem q3_new {x6 x8 : World} {dc cap : Nat} {ao : Option Addr} {zs : List Int} {dl dh : Int} (ho : o32 x8 x6.heap.size (.slice ao dc cap) zs) (hb : Below x6.heap.size x6 x8) :
    Q3 (x8.alloc (.cells #[.slice ao dc cap, .int .i64 dl, .int .i64 dh] 152)) x8.heap.size (.slice ao dc cap) (.int .i64 dl) (.int .i64 dh) 152 ∧ o32 (x8.alloc (.cells #[.slice ao dc cap, .int .i64 dl, .int .i64 dh] 152)) x6.heap.size (.slice ao dc cap) zs ∧ Below x6.heap.size x6 (x8.alloc (.cells #[.slice ao dc cap, .int .i64 dl, .int .i64 dh] 152)) :=
  ⟨Q3.new _ _ _ _ _, World.ownsRow.alloc ho _, hb.alloc hb.size _⟩
theorem cell_set3 {x : World} {X : Nat} {p : Addr} {v a b c : Value} (h : x.cell? p = some v) (hp : p.block ≠ X) : (((x.setCell ⟨X, 0, none⟩ a).setCell ⟨X, 1, none⟩ b).setCell ⟨X, 2, none⟩ c).cell? p = some v := by
  refine Eq.trans (World.cell?_of_block ?_) h
  rw [Go.heap_setCell_other _ _ _ _ hp, Go.heap_setCell_other _ _ _ _ hp, Go.heap_setCell_other _ _ _ _ hp]
theorem sl_drop {w : World} {base g n cap : Nat} {zs : List Int} (h : w.ownsRow base 21 1 (.slice (some ⟨g, 0, none⟩) n cap) n (ints .i32 zs)) (p : Nat) (hp : p ≤ n) (ad : Addr) (hd : (n = p ∧ ad = ⟨g, 0, none⟩) ∨ ad = ⟨g, p, none⟩) (c : Nat) : Sl .i32 w (.slice (some ad) (n - p) c) (zs.drop p) := by
  have hl : zs.length = n := by have := h.1; simpa [ints] using this
  have hlt := (h.lt g rfl).2
  rcases hd with ⟨rfl, rfl⟩ | rfl
  · have e : zs.drop n = [] := List.drop_of_length_le (by omega)
    rw [e, Nat.sub_self]
    exact .inr ⟨g, 0, c, rfl, hlt, fun i hi => by simp at hi⟩
  · refine .inr ⟨g, p, c, by rw [List.length_drop, hl], hlt, fun i hi => ?_⟩
    rw [List.length_drop, hl] at hi
    have := owns_cell h (p + i) (by omega)
    rw [this]
    simp [List.getD, List.getElem?_drop]

set_option maxHeartbeats 1000000 in
set_option maxRecDepth 100000 in
/-- Nothing is deleted. -/
theorem delNilS (gs : List Gr) (st : List Int) (a : Int) (vr vt : Value) (lo hi : Nat) (w : World) (h : OwL w lo hi vr vt gs st) (hh : hi ≤ w.heap.size) (hg : gs.length ≤ 8193) (h1 : 1 ≤ gs.length) (hs : ∀ x ∈ gs, x.cells.length ≤ 1048576) (hs1 : 1 ≤ st.length) (hs2 : st.length ≤ 8193) :
    Calls Tryz.prog 51 #[.agg #[vr, vt], .int .i64 a, .int .i64 a] w fun e w' => ∃ vr' vt', e = .returned (.agg #[vr', vt']) ∧ OwL w' w.heap.size w'.heap.size vr' vt' gs st ∧ Below w.heap.size w w' := by
  have A0 := hide (((Below.refl w.heap.size w).alloc (Nat.le_refl _) (.cells #[vr, vt] 29)).alloc (by simp) (.cells #[.slice none 0 0, .slice none 0 0] 29))
  have KR := hide (D2.new (w.alloc (.cells #[vr, vt] 29)) (.slice none 0 0) (.slice none 0 0) 29)
  have es : (w.alloc (.cells #[vr, vt] 29)).heap.size = w.heap.size + 1 := by simp
  rw [es] at KR
  have es2 : ((w.alloc (.cells #[vr, vt] 29)).alloc (.cells #[.slice none 0 0, .slice none 0 0] 29)).heap.size = w.heap.size + 2 := by simp
  have CP := hide (copyLineS gs st vr vt lo hi _ (h.below A0.out hh) (by rw [es2]; omega) hg h1 hs hs1 hs2)
  obtain ⟨a1, c1, a2, c2, rfl, rfl⟩ := h.val
  clear h hs es
  generalize gs.length = n at *
  generalize st.length = m at *
  go_enter Tryz.func51, Tryz.ntmps51
  go_wp2_with fail
  generalize (w.alloc (.cells #[.slice a1 n c1, .slice a2 m c2] 29)).alloc (.cells #[.slice none 0 0, .slice none 0 0] 29) = w0 at *
  refine CP.out.mono ?_
  rintro e w1 ⟨vr1, vt1, rfl, ho1, hb1⟩
  obtain ⟨b1, d1, b2, d2, rfl, rfl⟩ := ho1.val
  have s1 := hb1.size
  have R1 := hide (KR.out.below hb1 (by omega))
  have B1 := hide (A0.out.trans (hb1.mono (by omega)))
  have O1 := hide ho1
  have e0 := R1.out.c.1
  have e1 := R1.out.c.2
  have f0 := R1.out.fz 0
  have f1 := R1.out.fz 1
  clear ho1 hb1 CP KR
  generalize gs.length = n at *
  generalize st.length = m at *
  go_wp2
  refine bodyPost_ret (v := .agg #[.slice b1 n d1, .slice b2 m d2]) (by simp [results, Tryz.results51, go_sem, e0, e1]) rfl ⟨_, _, rfl, ?_, ?_⟩
  · refine (O1.out.frame (fun q h1 h2 => ?_)).mono (by omega) (by simp)
    rw [heap_setCell_other _ _ _ _ (by show q ≠ w.heap.size + 1; omega), heap_setCell_other _ _ _ _ (by show q ≠ w.heap.size + 1; omega)]
  · exact (B1.out.setCell (by simp) _).setCell (by simp) _

set_option maxHeartbeats 4000000 in
set_option maxRecDepth 100000 in
theorem lineDelS (gs : List Gr) (st : List Int) (a b k k2 : Nat) (x y : Gr) (vr vt : Value) (lo hi : Nat) (w : World) (h : OwL w lo hi vr vt gs st) (hh : hi ≤ w.heap.size) (hg : gs.length ≤ 8193) (h1 : 1 ≤ gs.length) (hok : ∀ x ∈ gs, gkP x.cells x.lo x.hi) (hb : smL (gs.map grT) + gs.length ≤ 4194304) (hs : ∀ x ∈ gs, x.cells.length ≤ 1048576) (hs1 : 1 ≤ st.length) (hsn : st.length ≤ gs.length) (hj : (jn (gs.map grT)).length ≤ 8192) (hab : a < b) (hbj : b ≤ (jn (gs.map grT)).length) (l1 : Ln (gs.map grT) a k) (l2 : Ln (gs.map grT) b k2) (hx : gs[k]? = some x) (hy : gs[k2]? = some y) :
    Calls Tryz.prog 51 #[.agg #[vr, vt], .int .i64 (a : Int), .int .i64 (b : Int)] w fun e w' => ∃ (vr' vt' : Value), e = .returned (.agg #[vr', vt']) ∧ OwL w' w.heap.size w'.heap.size vr' vt' (gs.take k ++ [midG k k2 x y (a - sAt (gs.map grT) k) (b - sAt (gs.map grT) k2)] ++ gs.drop (k2 + 1)) ((stL (gs.map grT)).take (k + 1)) ∧ Below w.heap.size w w' := by
  obtain ⟨i0, hi0, hz0, hz1, hz2⟩ := info_parts Tryz.infoGPT
  have A0 := hide (((Below.refl w.heap.size w).alloc (Nat.le_refl _) (.cells #[vr, vt] 29)).alloc (by simp) (.cells #[.slice none 0 0, .slice none 0 0] 29))
  have KP := hide ((D2.new w vr vt 29).below ((Below.refl _ _).alloc (Nat.le_refl _) (.cells #[.slice none 0 0, .slice none 0 0] 29)) (by simp))
  have KR := hide (D2.new (w.alloc (.cells #[vr, vt] 29)) (.slice none 0 0) (.slice none 0 0) 29)
  have es : (w.alloc (.cells #[vr, vt] 29)).heap.size = w.heap.size + 1 := by simp
  rw [es] at KR
  have es2 : ((w.alloc (.cells #[vr, vt] 29)).alloc (.cells #[.slice none 0 0, .slice none 0 0] 29)).heap.size = w.heap.size + 2 := by simp
  have F1 := hide (findS gs st a vr vt lo hi _ (h.below A0.out hh) (by rw [es2]; omega) hg h1 hok hb hs hs1 hsn (by omega))
  have F2 := hide (fun (vr vt : Value) (S : List Int) (l h : Nat) (W : World) (hO : OwL W l h vr vt gs S) (hH : h ≤ W.heap.size) (hS1 : 1 ≤ S.length) (hS2 : S.length ≤ gs.length) => findS gs S b vr vt l h W hO hH hg h1 hok hb hs hS1 hS2 (by omega))
  obtain ⟨a1, c1, a2, c2, rfl, rfl⟩ := h.val
  have L1 := hide l1
  have L2 := hide l2
  have hlx : (gs.map grT)[k]? = some (grT x) := by rw [List.getElem?_map, hx]; rfl
  have hly : (gs.map grT)[k2]? = some (grT y) := by rw [List.getElem?_map, hy]; rfl
  have q1 := l1.colS (by omega) hlx
  have q2 := l2.colS hbj hly
  have hkk := l1.mono l2 (by omega)
  have okx := hok x (List.mem_of_getElem? hx)
  have oky := hok y (List.mem_of_getElem? hy)
  have HT := hide (show k ≠ k2 → (grT x).length + (grT y).length ≤ 8192 from fun hne => two_linesS (show k < k2 by omega) hlx hly hj)
  have HS := hide hs
  have hkn : k < gs.length := (List.getElem?_eq_some_iff.1 hx).1
  have hk2n : k2 < gs.length := (List.getElem?_eq_some_iff.1 hy).1
  have STL := hide (show (stL (gs.map grT)).length = gs.length by rw [stL_len, List.length_map])
  have HX := hide hx
  have HY := hide hy
  obtain ⟨p1, hp1⟩ : ∃ p, p = a - sAt (gs.map grT) k := ⟨_, rfl⟩
  obtain ⟨p2, hp2⟩ : ∃ p, p = b - sAt (gs.map grT) k2 := ⟨_, rfl⟩
  have P1E := hide (show ((a : Int) - (sAt (gs.map grT) k : Int)) = ((p1 : Nat) : Int) by omega)
  have P2E := hide (show ((b : Int) - (sAt (gs.map grT) k2 : Int)) = ((p2 : Nat) : Int) by omega)
  have hpp : k = k2 → p1 ≤ p2 := by intro e; subst e; omega
  rw [← hp1, ← hp2]
  have g1 : p1 ≤ (grT x).length := by omega
  have g2' : p2 ≤ (grT y).length := by omega
  have hHS1 := hide hs1
  have hlS := hide (show (gs.map grT).length = gs.length by rw [List.length_map])
  clear h hok hb hs hlx hly l1 l2 hx hy es q1 q2 hp1 hp2
  generalize hLS : gs.map grT = LS at *
  generalize hST : stL LS = ST at *
  generalize hn : gs.length = n at *
  have HN := hide hn
  clear hn
  have hab' : ¬ (a : Int) = (b : Int) := by omega
  go_enter Tryz.func51, Tryz.ntmps51
  go_wp2_with fail
  generalize hst' : st.length = m at *
  generalize (w.alloc (.cells #[.slice a1 n c1, .slice a2 m c2] 29)).alloc (.cells #[.slice none 0 0, .slice none 0 0] 29) = w0 at *
  refine F1.out.mono ?_
  rintro e w1 ⟨vr1, vt1, q, m1, rfl, lq, kn1, ho1, hb1⟩
  obtain rfl := lq.uniq L1.out
  have s1 := hb1.size
  have hm1 : m1 ≤ n := by have := kn1.2.1; rw [hlS.out] at this; exact this
  have hm1' : 1 ≤ m1 := by have := kn1.1; omega
  have hqm : q < m1 := kn1.ltS lq (by omega)
  have K1 := hide (KP.out.below hb1 (by omega))
  have R1 := hide (KR.out.below hb1 (by omega))
  have B1 := hide (A0.out.trans (hb1.mono (by omega)))
  have LT1 := hide (show (ST.take m1).length = m1 by rw [List.length_take, STL.out]; omega)
  have O1 := hide ho1
  obtain ⟨ar1, cr1, at1, ct1, hvr, hvt⟩ := ho1.val
  rw [HN.out] at hvr
  rw [LT1.out] at hvt
  subst hvr hvt
  have f0 := K1.out.fz 0
  have f1 := K1.out.fz 1
  have e0 := K1.out.c.1
  have e1 := K1.out.c.2
  have hpl := K1.out.lt
  rw [P1E.out]
  clear ho1 hb1 F1 KP KR kn1 lq
  have hs1' : ((w1.setCell ⟨w.heap.size, 0, none⟩ (.slice ar1 n cr1)).setCell ⟨w.heap.size, 1, none⟩ (.slice at1 m1 ct1)).heap.size = w1.heap.size := by simp
  have hf1 : ∀ q, q ≠ w.heap.size → ((w1.setCell ⟨w.heap.size, 0, none⟩ (.slice ar1 n cr1)).setCell ⟨w.heap.size, 1, none⟩ (.slice at1 m1 ct1)).heap[q]? = w1.heap[q]? := fun q hq => by
    rw [Go.heap_setCell_other _ _ _ _ (by show q ≠ w.heap.size; exact hq), Go.heap_setCell_other _ _ _ _ (by show q ≠ w.heap.size; exact hq)]
  have O1' := hide (O1.out.frame (w' := (w1.setCell ⟨w.heap.size, 0, none⟩ (.slice ar1 n cr1)).setCell ⟨w.heap.size, 1, none⟩ (.slice at1 m1 ct1)) (fun q h1 h2 => hf1 q (by omega)))
  have K1' := hide (K1.out.set2 (.slice ar1 n cr1) (.slice at1 m1 ct1))
  have R1' := hide (show D2 ((w1.setCell ⟨w.heap.size, 0, none⟩ (.slice ar1 n cr1)).setCell ⟨w.heap.size, 1, none⟩ (.slice at1 m1 ct1)) (w.heap.size + 1) _ _ _ from (hf1 _ (by omega)).trans R1.out)
  have B1' := hide (show Below w.heap.size w ((w1.setCell ⟨w.heap.size, 0, none⟩ (.slice ar1 n cr1)).setCell ⟨w.heap.size, 1, none⟩ (.slice at1 m1 ct1)) from (B1.out.setCell (Nat.le_refl _) _).setCell (Nat.le_refl _) _)
  clear K1 R1 B1 O1 hf1
  go_wp2_with fail
  generalize (w1.setCell ⟨w.heap.size, 0, none⟩ (.slice ar1 n cr1)).setCell ⟨w.heap.size, 1, none⟩ (.slice at1 m1 ct1) = x1 at *
  refine (F2.out _ _ _ _ _ _ O1'.out (by omega) (by rw [LT1.out]; omega) (by rw [LT1.out]; omega)).mono ?_
  rintro e w2 ⟨vr2, vt2, q2, m2, rfl, lq, kn2, ho2, hb2⟩
  obtain rfl := lq.uniq L2.out
  rw [LT1.out] at kn2
  have s2 := hb2.size
  have hm2 : m2 ≤ n := by have := kn2.2.1; rw [hlS.out] at this; exact this
  have hm2' : m1 ≤ m2 := kn2.1
  have LT2 := hide (show (ST.take m2).length = m2 by rw [List.length_take, STL.out]; omega)
  have O2 := hide ho2
  obtain ⟨ar2, cr2, at2, ct2, hvr, hvt⟩ := ho2.val
  rw [HN.out] at hvr
  rw [LT2.out] at hvt
  subst hvr hvt
  obtain ⟨us, hG⟩ := ho2.rows
  have hl2 := hG.len
  rcases hG.row.2 with ⟨_, z⟩ | ⟨g2, cap2, cur2, z, -, -, z1, z2, -⟩
  · rw [HN.out] at z; omega
  rw [HN.out] at z z1
  simp only [Value.slice.injEq, true_and] at z
  obtain ⟨rfl, rfl⟩ := z
  have hst2 := ho2.starts
  unfold o64 at hst2
  rw [LT2.out] at hst2
  rcases hst2.2 with ⟨_, z⟩ | ⟨g3, cap3, cur3, z, -, -, z3, z4, -⟩
  · omega
  simp only [Value.slice.injEq, true_and] at z
  obtain ⟨rfl, rfl⟩ := z
  have K2 := hide (K1'.out.below hb2 (by omega))
  have R2 := hide (R1'.out.below hb2 (by omega))
  have B2 := hide (B1'.out.trans (hb2.mono (by omega)))
  clear f0 f1 e0 e1
  have f0 := K2.out.fz 0
  have f1 := K2.out.fz 1
  have e0 := K2.out.c.1
  have e1 := K2.out.c.2
  rw [P2E.out]
  have hf2 : ∀ q, q ≠ w.heap.size → ((w2.setCell ⟨w.heap.size, 0, none⟩ (.slice (some ⟨g2, 0, none⟩) n cr2)).setCell ⟨w.heap.size, 1, none⟩ (.slice (some ⟨g3, 0, none⟩) m2 ct2)).heap[q]? = w2.heap[q]? := fun q hq => by
    rw [Go.heap_setCell_other _ _ _ _ (by show q ≠ w.heap.size; exact hq), Go.heap_setCell_other _ _ _ _ (by show q ≠ w.heap.size; exact hq)]
  have hs2' : ((w2.setCell ⟨w.heap.size, 0, none⟩ (.slice (some ⟨g2, 0, none⟩) n cr2)).setCell ⟨w.heap.size, 1, none⟩ (.slice (some ⟨g3, 0, none⟩) m2 ct2)).heap.size = w2.heap.size := by simp
  have G2 := hide (hG.frame (w' := (w2.setCell ⟨w.heap.size, 0, none⟩ (.slice (some ⟨g2, 0, none⟩) n cr2)).setCell ⟨w.heap.size, 1, none⟩ (.slice (some ⟨g3, 0, none⟩) m2 ct2)) (fun q h1 h2 => hf2 q (by omega)))
  have S2 := hide (owns_in (w' := (w2.setCell ⟨w.heap.size, 0, none⟩ (.slice (some ⟨g2, 0, none⟩) n cr2)).setCell ⟨w.heap.size, 1, none⟩ (.slice (some ⟨g3, 0, none⟩) m2 ct2)) ho2.starts ho2.bl (fun q h1 h2 => hf2 q (by omega)))
  have K2' := hide (K2.out.set2 (.slice (some ⟨g2, 0, none⟩) n cr2) (.slice (some ⟨g3, 0, none⟩) m2 ct2))
  have R2' := hide (show D2 ((w2.setCell ⟨w.heap.size, 0, none⟩ (.slice (some ⟨g2, 0, none⟩) n cr2)).setCell ⟨w.heap.size, 1, none⟩ (.slice (some ⟨g3, 0, none⟩) m2 ct2)) (w.heap.size + 1) _ _ _ from (hf2 _ (by omega)).trans R2.out)
  have B2' := hide (show Below w.heap.size w ((w2.setCell ⟨w.heap.size, 0, none⟩ (.slice (some ⟨g2, 0, none⟩) n cr2)).setCell ⟨w.heap.size, 1, none⟩ (.slice (some ⟨g3, 0, none⟩) m2 ct2)) from (B2.out.setCell (Nat.le_refl _) _).setCell (Nat.le_refl _) _)
  clear K1' R1' B1' O1' K2 R2 B2 hf2 ho2 hb2 lq kn2 F2 hG hst2 O2
  go_upto_region 5 with fail
  generalize (w2.setCell ⟨w.heap.size, 0, none⟩ (.slice (some ⟨g2, 0, none⟩) n cr2)).setCell ⟨w.heap.size, 1, none⟩ (.slice (some ⟨g3, 0, none⟩) m2 ct2) = x2 at *
  have G3 := hide (G2.out.mono (lo' := w.heap.size) (hi' := x2.heap.size) (by omega) (by omega))
  have S3 := hide (show o64 x2 w.heap.size _ _ from owns_base S2.out (by omega))
  have sbl := hide (show bel x2.heap.size (.slice (some ⟨g3, 0, none⟩) (q + 1) ct2) from fun z hz => by
    have := (S2.out.lt g3 rfl).2
    simp only [Value.ownBlock, Option.some.injEq] at hz
    omega)
  have sx2 := B2'.out.size
  have hpx := K2'.out.lt
  have hrx := R2'.out.lt
  have hg2x : g2 < x2.heap.size := (G3.out.row.lt g2 rfl).2
  clear G2 S2 f0 f1 e0 e1 hs1 hHS1 hLS hST hst' LT1 hs1' hs2' s1 s2 A0 es2
  unfold maxLen at z2 z4
  have HB0 := hide ((Below.refl x2.heap.size x2).alloc (Nat.le_refl _) (.cells #[] 152))
  have E0 := hide (own_new3 x2 152)
  have CT := hide (cells_take (G3.out.frame (w' := x2.alloc (.cells #[] 152)) (fun z _ hz => HB0.out.block z hz)) HN.out q (by omega))
  have LTQ := hide (grVs_lenT hl2 HN.out q (by omega))
  have ONE := hide (fun (ws : List Value) (xs : List Gr) (hw : ∀ v ∈ ws, v ∈ us) => grVs_one (gs := xs) (fun v hv => G3.out.nest.one v (hw v hv)))
  have ONT := hide (ONE.out (us.take q) (gs.take q) (fun v hv => List.mem_of_mem_take hv))
  have OND := hide (ONE.out (us.drop (q2 + 1)) (gs.drop (q2 + 1)) (fun v hv => List.mem_of_mem_drop hv))
  have p0 := K2'.out.c.1
  have p1' := K2'.out.c.2
  have npx : w.heap.size ≠ x2.heap.size := by omega
  go_upto_if 41 with (at_builtin; refine wpList_append_own _ rfl _ _ 27 rfl x2.heap.size 152 i0 (.agg #[.slice none 0 0, .int .i64 0, .int .i64 0]) 3 40 Tryz.underlying27 hi0 hz0 hz1 hz2 rfl (by decide) _ 0 [] rfl E0.out ⟨g2, 0, none⟩ q cr2 (grVs (us.take q) (gs.take q)) rfl LTQ.out CT.out ONT.out (by unfold maxLen; omega) (by omega) (by simp) ?_; intro v5 x5 ho5 hg5 _)
  rw [Nat.zero_add, List.nil_append] at ho5
  obtain ⟨a5, c5, hv5⟩ := own_valT ho5
  subst hv5
  have M5 := hide (Mid.start (us := us) (gs := gs) HB0.out E0.out hg5 ho5)
  have s5 := M5.out.b.size
  clear ho5 hg5 E0 CT HB0 p0 p1' LTQ ONT ONE
  obtain ⟨x', u, hx', hu⟩ := G3.out.get (i := q) (by rw [HN.out]; exact hkn)
  obtain rfl : x = x' := by rw [HX.out] at hx'; exact Option.some.inj hx'
  obtain ⟨y', uy, hy', huy⟩ := G3.out.get (i := q2) (by rw [HN.out]; exact hk2n)
  obtain rfl : y = y' := by rw [HY.out] at hy'; exact Option.some.inj hy'
  have FRM := hide (fun (W : World) (hW : Below x2.heap.size x2 W) => G3.out.frame (w' := W) (fun z _ hz => hW.block z hz))
  have XI := hide (fun (W : World) (hW : Below x2.heap.size x2 W) => (FRM.out W hW).inner hx' hu)
  have YI := hide (fun (W : World) (hW : Below x2.heap.size x2 W) => (FRM.out W hW).inner hy' huy)
  have XC := hide (fun (W : World) (hW : Below x2.heap.size x2 W) => (FRM.out W hW).cells HN.out hx' hu)
  have YC := hide (fun (W : World) (hW : Below x2.heap.size x2 W) => (FRM.out W hW).cells HN.out hy' huy)
  obtain ⟨au, cu, hu'⟩ := o32_val (XI.out x2 (Below.refl _ _))
  obtain ⟨ay, cy, huy'⟩ := o32_val (YI.out x2 (Below.refl _ _))
  have okX := hide okx
  have okY := hide oky
  have HU := hide hu'
  have HUY := hide huy'
  have hqc : (q : Int) < n := by omega
  have hq2c : (q2 : Int) < n := by omega
  clear hx' hu hy' huy hu' huy' okx oky
  go_cut [11] from 12 to 95 (fun s11 wc => ∃ ar cr u', s11 = .slice ar (q + 1) cr ∧ Mid x2 wc us [u'] gs [midG q q2 x y p1 p2] q (.slice ar (q + 1) cr))
  case first =>
    by_cases hqq : q = q2
    · subst hqq
      have MG := hide (show midG q q x y p1 p2 = delG x p1 p2 by unfold midG; rw [if_pos rfl])
      have hxy : x = y := by
        have h9 := HY.out
        rw [HX.out] at h9
        exact Option.some.inj h9
      have DG := hide (delGS x w.heap.size u p1 p2 x5 (XI.out x5 M5.out.b) okX.out (hpp rfl) (by rw [hxy]; exact g2'))
      clear hxy
      obtain ⟨y0, y1, y2⟩ := XC.out x5 M5.out.b
      have P5 := K2'.out.below M5.out.b hpx
      have p0 := P5.c.1
      have p1' := P5.c.2
      clear P5
      generalize hd : delG x p1 p2 = d at *
      generalize hxl : x.lo = xl at *
      generalize hxh : x.hi = xh at *
      rw [HU.out] at y0 DG
      generalize hxc : x.cells.length = xc at *
      generalize hdl : d.lo = dl at *
      generalize hdh : d.hi = dh at *
      generalize hdc : d.cells.length = dc at *
      have HDL := hide hdl
      have HDH := hide hdh
      clear hdl hdh
      go_wp2_with fail
      refine DG.out.mono ?_
      rintro e x6 ⟨a6, c6, rfl, ho6, hb6⟩
      have s6 := hb6.size
      have O6 := hide ho6
      have B6 := hide hb6
      have R6 := hide ((owns_below M5.out.row0 hb6 (Nat.le_refl _)).alloc (.cells #[.slice a6 dc c6, .int .i64 dl, .int .i64 dh] 152))
      have NC := hide (newcells x6 152 [.slice a6 dc c6, .int .i64 dl, .int .i64 dh])
      have PUT := hide (fun (v' : Value) (wd : World) (hg : (x6.alloc (.cells #[.slice a6 dc c6, .int .i64 dl, .int .i64 dh] 152)).grownBy wd (Value.slice a5 q c5).ownBlock) (ho : wd.ownsRow x2.heap.size 152 3 v' (q + 1) (grVs (us.take q) (gs.take q) ++ [.slice a6 dc c6, .int .i64 dl, .int .i64 dh])) => M5.out.put0 (x := d) hl2 hb6 ho6 (by rw [HDL.out, HDH.out]; exact hg) (by rw [HDL.out, HDH.out]; exact ho))
      clear ho6 hb6 DG
      go_wp2_with (at_builtin; refine wpList_append_own _ rfl _ _ 27 rfl x2.heap.size 152 i0 (.agg #[.slice none 0 0, .int .i64 0, .int .i64 0]) 3 40 Tryz.underlying27 hi0 hz0 hz1 hz2 rfl (by decide) _ _ _ rfl R6.out ⟨x6.heap.size, 0, none⟩ 1 1 [.slice a6 dc c6, .int .i64 dl, .int .i64 dh] rfl rfl NC.out (by intro u hu; simp at hu; rcases hu with rfl | rfl | rfl <;> rfl) (by unfold maxLen; omega) (by omega) (by simp; omega) ?_; intro v7 x7 ho7 hg7 _)
      have M7 := hide (PUT.out v7 x7 hg7 ho7)
      obtain ⟨a7, c7, hv7⟩ := own_valT ho7
      subst hv7
      clear ho7 hg7
      go_wp2_with fail
      go_meet
      exact ⟨_, _, _, rfl, by rw [MG.out]; exact M7.out⟩
    · have hqi : ¬ (q : Int) = (q2 : Int) := by omega
      have MG := hide (show midG q q2 x y p1 p2 = insG (delG x p1 (grT x).length) p1 ((grT y).drop p2) by unfold midG; rw [if_neg hqq])
      have HT2 := HT.out hqq
      have DF := delG_facts okX.out g1 (Nat.le_refl _)
      have okD := hide DF.1
      have hdT : (grT (delG x p1 (grT x).length)).length = p1 := by rw [DF.2]; simp; omega
      have HDT := hide hdT
      clear DF hdT
      have TY := hide (textGS y w.heap.size uy x5 (YI.out x5 M5.out.b) okY.out)
      have TX := hide (fun (W : World) (hW : Below x2.heap.size x2 W) => textGS x w.heap.size u W (XI.out W hW) okX.out)
      have DG := hide (fun (W : World) (hW : Below x2.heap.size x2 W) => delGS x w.heap.size u p1 (grT x).length W (XI.out W hW) okX.out g1 (Nat.le_refl _))
      have IG := hide (fun (v : Value) (l : Nat) (ap : Option Addr) (mt cp : Nat) (W : World) (ho : o32 W l v (delG x p1 (grT x).length).cells) (hmt : mt = ((grT y).drop p2).length) (hT : Sl .i32 W (.slice ap mt cp) ((grT y).drop p2)) => insGS (delG x p1 (grT x).length) l v p1 ((grT y).drop p2) ap mt cp W ho okD.out hmt hT (by rw [HDT.out]; exact Nat.le_refl _) (by rw [HDT.out, List.length_drop]; omega))
      rw [HU.out] at TX DG
      rw [HUY.out] at TY
      generalize hd : delG x p1 (grT x).length = d at *
      generalize hz : insG d p1 ((grT y).drop p2) = z9 at *
      have HLY := hide (show ((grT y).drop p2).length = (grT y).length - p2 by rw [List.length_drop])
      have C8 := YC.out x5 M5.out.b
      rw [HUY.out] at C8
      obtain ⟨y0, y1, y2⟩ := C8
      have P5 := K2'.out.below M5.out.b hpx
      have p0 := P5.c.1
      have p1' := P5.c.2
      clear P5
      generalize hyt : grT y = ty at *
      generalize hyl : y.lo = yl at *
      generalize hyh : y.hi = yh at *
      generalize hyc : y.cells.length = yc at *
      generalize hxt : (grT x).length = lx at *
      generalize hlyl : ty.length = ly at *
      go_upto_region 8 with fail
      go_cut [12] from 14 to 95 (fun s12 wc => ∃ ad c, s12 = .slice (some ad) (ly - p2) c ∧ Sl .i32 wc (.slice (some ad) (ly - p2) c) (ty.drop p2) ∧ Below x5.heap.size x5 wc)
      case first =>
        go_wp2_with fail
        refine TY.out.mono ?_
        rintro e x6 ⟨g6, c6, rfl, ho6, ⟨hc6, hc6'⟩, hb6⟩
        unfold maxLen at hc6'
        have O6 := hide ho6
        have B6 := hide hb6
        clear ho6 hb6
        by_cases hcp : c6 = p2
        · have hn6 : ly = p2 := by omega
          have hcp' : (c6 : Int) = (p2 : Int) := by omega
          go_wp2_with fail
          go_meet
          exact ⟨⟨g6, 0, none⟩, 0, by rw [show ly - p2 = 0 by omega], sl_drop O6.out p2 (by omega) _ (.inl ⟨hn6, rfl⟩) _, B6.out⟩
        · have hcp' : ¬ (c6 : Int) = (p2 : Int) := by omega
          go_wp2_with fail
          go_meet
          exact ⟨⟨g6, p2, none⟩, _, rfl, sl_drop O6.out p2 (by omega) _ (.inr rfl) _, B6.out⟩
      case rest =>
        obtain ⟨ad, ca, rfl, hsl, hb6⟩ := hcut
        rename World => x6
        have SL6 := hide hsl
        have B56 := hide hb6
        have s6 := hb6.size
        have B6 := hide (M5.out.b.trans (hb6.mono s5))
        have C9 := XC.out x6 B6.out
        rw [HU.out] at C9
        obtain ⟨y0', y1', y2'⟩ := C9
        have P6 := K2'.out.below B6.out hpx
        have pq0 := P6.c.1
        have pq1 := P6.c.2
        clear P6 y0 y1 y2 p0 p1' hsl hb6 TY
        generalize hxl : x.lo = xl at *
        generalize hxh : x.hi = xh at *
        generalize hxc : x.cells.length = xc at *
        have l56 : w.heap.size < x6.heap.size := by omega
        have l57 : g2 < x6.heap.size := by omega
        have n56 : w.heap.size ≠ x6.heap.size := by omega
        have n57 : g2 ≠ x6.heap.size := by omega
        have AZ := hide ((Below.refl x6.heap.size x6).alloc (Nat.le_refl _) (.cells #[.slice none 0 0, .int .i64 0, .int .i64 0] 152))
        have QZ := hide (Q3.new x6 (.slice none 0 0) (.int .i64 0) (.int .i64 0) 152)
        generalize hdl : d.lo = dl at *
        generalize hdh : d.hi = dh at *
        generalize hdc : d.cells.length = dc at *
        go_upto_region 9 with fail
        go_cut [13] from 14 to 95 (fun s13 wc => ∃ X ao cap, s13 = .pointer (some ⟨X, 0, none⟩) ∧ Q3 wc X (.slice ao dc cap) (.int .i64 dl) (.int .i64 dh) 152 ∧ o32 wc x6.heap.size (.slice ao dc cap) d.cells ∧ Below x6.heap.size x6 wc)
        case first =>
          have hB6s := B6.out.size
          clear HX HY L1 L2 P1E P2E HT hpp STL LT2 hlS G3 FRM S3 sbl OND MG IG SL6 HLY YC YI XI M5 B56 R2' B2' HUY HS okX okY okD HDT HT2
          have BAZ := hide (B6.out.trans (AZ.out.mono (by have := B6.out.size; omega)))
          go_region_held2 (fun w' => w'.cell? ⟨w.heap.size, 0, none⟩ = some (.slice (some ⟨g2, 0, none⟩) n cr2) ∧ w'.cell? ⟨g2, q * 3, none⟩ = some (.slice au xc cu) ∧ w'.cell? ⟨g2, q * 3 + 1, none⟩ = some (.int .i64 xl) ∧ w'.cell? ⟨g2, q * 3 + 2, none⟩ = some (.int .i64 xh)) (first | go_keep | exact ⟨cell_set3 r80 (by show w.heap.size ≠ _; omega), cell_set3 t80 (by show g2 ≠ _; omega), cell_set3 t81 (by show g2 ≠ _; omega), cell_set3 t82 (by show g2 ≠ _; omega)⟩) (first
            | (go_at_call 96; refine (TX.out _ (by first | exact (show Below x2.heap.size x2 _ from ⟨B6.out.os, B6.out.tape, B6.out.output, B6.out.size, B6.out.block⟩) | exact (show Below x2.heap.size x2 _ from ⟨BAZ.out.os, BAZ.out.tape, BAZ.out.output, BAZ.out.size, BAZ.out.block⟩))).mono ?_; rintro e x7 ⟨g7, c7, rfl, ho7, hc7, hb7⟩; (first | (have B7 := hide (show Below x6.heap.size x6 x7 from ⟨hb7.os, hb7.tape, hb7.output, hb7.size, hb7.block⟩); have s7' := B7.out.size) | (have hb7' : Below (x6.alloc (.cells #[.slice none 0 0, .int .i64 0, .int .i64 0] 152)).heap.size (x6.alloc (.cells #[.slice none 0 0, .int .i64 0, .int .i64 0] 152)) x7 := ⟨hb7.os, hb7.tape, hb7.output, hb7.size, hb7.block⟩; have B7 := hide (show Below x6.heap.size x6 x7 from AZ.out.trans (hb7'.mono (by simp))); have s7' := B7.out.size; have Q7 := hide (show Q3 x7 x6.heap.size _ _ _ _ from QZ.out.below hb7' (by simp)); clear hb7')); have A7 := hide ((Below.refl x7.heap.size x7).alloc (Nat.le_refl _) (.cells #[.slice none 0 0, .int .i64 0, .int .i64 0] 152)); have QZ7 := hide (Q3.new x7 (.slice none 0 0) (.int .i64 0) (.int .i64 0) 152); have BX7 := hide (B6.out.trans (B7.out.mono (by have := B6.out.size; omega))); have BA7 := hide (BX7.out.trans (A7.out.mono (by have := BX7.out.size; omega))); have P7 := (K2'.out.below BX7.out hpx); have r70 := P7.c.1; have r71 := P7.c.2; have D7 := XC.out x7 BX7.out; rw [HU.out] at D7; obtain ⟨t70, t71, t72⟩ := D7; have l7a : w.heap.size < x7.heap.size := (by omega); have l7b : g2 < x7.heap.size := (by omega); have n7 : w.heap.size ≠ x7.heap.size := (by omega); have m7 : g2 ≠ x7.heap.size := (by omega); clear ho7 hc7 hb7 P7)
            | (go_at_call 105; refine (DG.out _ (by first | exact (show Below x2.heap.size x2 _ from ⟨BX7.out.os, BX7.out.tape, BX7.out.output, BX7.out.size, BX7.out.block⟩) | exact (show Below x2.heap.size x2 _ from ⟨BA7.out.os, BA7.out.tape, BA7.out.output, BA7.out.size, BA7.out.block⟩))).mono ?_; rintro e x8 ⟨a8, c8, rfl, ho8, hb8⟩; (first | (have hb8' : Below x7.heap.size x7 x8 := ⟨hb8.os, hb8.tape, hb8.output, hb8.size, hb8.block⟩; have s8 := hb8'.size; have B8 := hide (show Below x6.heap.size x6 x8 from B7.out.trans (hb8'.mono s7')); have O8 := hide (show o32 x8 x6.heap.size _ _ from owns_base ho8 s7'); (first | (have Q8 := hide (Q7.out.below hb8' Q7.out.lt); obtain ⟨u0, u1, u2⟩ := Q8.out.c; have f0 := Q8.out.fz 0; have f1 := Q8.out.fz 1; have f2 := Q8.out.fz 2) | skip); clear hb8') | (have hb8' : Below (x7.alloc (.cells #[.slice none 0 0, .int .i64 0, .int .i64 0] 152)).heap.size (x7.alloc (.cells #[.slice none 0 0, .int .i64 0, .int .i64 0] 152)) x8 := ⟨hb8.os, hb8.tape, hb8.output, hb8.size, hb8.block⟩; have s8 := hb8'.size; have B8 := hide (show Below x6.heap.size x6 x8 from (B7.out.trans (A7.out.mono s7')).trans (hb8'.mono (by simp; omega))); have O8 := hide (show o32 x8 x6.heap.size _ _ from owns_base ho8 (by show x6.heap.size ≤ (x7.alloc (.cells #[.slice none 0 0, .int .i64 0, .int .i64 0] 152)).heap.size; simp; omega)); have Q9 := hide (show Q3 x8 x7.heap.size _ _ _ _ from QZ7.out.below hb8' (by simp)); obtain ⟨u0, u1, u2⟩ := Q9.out.c; have f0 := Q9.out.fz 0; have f1 := Q9.out.fz 1; have f2 := Q9.out.fz 2; clear hb8')); have BX8 := hide (B6.out.trans (B8.out.mono (by have := B6.out.size; omega))); have s8' := B8.out.size; have P8 := (K2'.out.below BX8.out hpx); have r80 := P8.c.1; have r81 := P8.c.2; have D8 := XC.out x8 BX8.out; rw [HU.out] at D8; obtain ⟨t80, t81, t82⟩ := D8; have l8a : w.heap.size < x8.heap.size := (by omega); have l8b : g2 < x8.heap.size := (by omega); have n8 : w.heap.size ≠ x8.heap.size := (by omega); have m8 : g2 ≠ x8.heap.size := (by omega); clear ho8 hb8 P8))
          all_goals
            go_wp2_with fail
            go_meet
            first
              | exact ⟨_, _, _, rfl, q3_set O8.out B8.out Q8.out (by omega)⟩
              | exact ⟨_, _, _, rfl, q3_set O8.out B8.out Q9.out (by omega)⟩
              | exact ⟨_, _, _, rfl, q3_new O8.out B8.out⟩
        case rest =>
          obtain ⟨X, ad2, cd2, rfl, hQ, hoD, hb7⟩ := hcut
          rename World => x7
          have s7 := hb7.size
          have IG1 := hide (IG.out (.slice ad2 dc cd2) x6.heap.size (some ad) (ly - p2) ca x7 hoD (by rw [HLY.out]) (SL6.out.below hb7))
          obtain ⟨u0, u1, u2⟩ := hQ.c
          have B57 := hide (B56.out.trans (hb7.mono s6))
          generalize hzl : z9.lo = zl at *
          generalize hzh : z9.hi = zh at *
          generalize hzc : z9.cells.length = zc at *
          have HZL := hide hzl
          have HZH := hide hzh
          clear hzl hzh hQ hoD hb7 IG TX DG AZ QZ XC YC y0' y1' y2' pq0 pq1
          go_wp2_with fail
          refine IG1.out.mono ?_
          rintro e x8 ⟨a6, c6, rfl, ho6, hb6⟩
          have hb58 : Below x5.heap.size x5 x8 := B57.out.trans (hb6.mono (by have := B57.out.size; omega))
          have s8 := hb58.size
          have ho58 : o32 x8 x5.heap.size (.slice a6 zc c6) z9.cells := owns_base ho6 (by have := B57.out.size; omega)
          have R6 := hide ((owns_below M5.out.row0 hb58 (Nat.le_refl _)).alloc (.cells #[.slice a6 zc c6, .int .i64 zl, .int .i64 zh] 152))
          have NC := hide (newcells x8 152 [.slice a6 zc c6, .int .i64 zl, .int .i64 zh])
          have PUT := hide (fun (v' : Value) (wd : World) (hg : (x8.alloc (.cells #[.slice a6 zc c6, .int .i64 zl, .int .i64 zh] 152)).grownBy wd (Value.slice a5 q c5).ownBlock) (ho : wd.ownsRow x2.heap.size 152 3 v' (q + 1) (grVs (us.take q) (gs.take q) ++ [.slice a6 zc c6, .int .i64 zl, .int .i64 zh])) => M5.out.put0 (x := z9) hl2 hb58 ho58 (by rw [HZL.out, HZH.out]; exact hg) (by rw [HZL.out, HZH.out]; exact ho))
          clear ho6 hb6 IG1 ho58 hb58
          go_wp2_with (at_builtin; refine wpList_append_own _ rfl _ _ 27 rfl x2.heap.size 152 i0 (.agg #[.slice none 0 0, .int .i64 0, .int .i64 0]) 3 40 Tryz.underlying27 hi0 hz0 hz1 hz2 rfl (by decide) _ _ _ rfl R6.out ⟨x8.heap.size, 0, none⟩ 1 1 [.slice a6 zc c6, .int .i64 zl, .int .i64 zh] rfl rfl NC.out (by intro u hu; simp at hu; rcases hu with rfl | rfl | rfl <;> rfl) (by unfold maxLen; omega) (by omega) (by simp; omega) ?_; intro v7 x9 ho7 hg7 _)
          have M7 := hide (PUT.out v7 x9 hg7 ho7)
          obtain ⟨a7, c7, hv7⟩ := own_valT ho7
          subst hv7
          clear ho7 hg7
          go_wp2_with fail
          go_meet
          exact ⟨_, _, _, rfl, by rw [MG.out]; exact M7.out⟩
  case rest =>
    obtain ⟨ar, cr, u', rfl, hM⟩ := hcut
    have ROW := hide hM.row1
    have sM := hM.b.size
    have P9 := K2'.out.below hM.b hpx
    have p0 := P9.c.1
    have p1' := P9.c.2
    have CD := hide (cells_drop (FRM.out wc hM.b) HN.out (q2 + 1) (by omega))
    have LTD := hide (grVs_lenD hl2 HN.out (q2 + 1))
    have FIN := hide (fun (v' : Value) (wd : World) (hg : wc.grownBy wd (Value.slice ar (q + 1) cr).ownBlock) (ho : wd.ownsRow x2.heap.size 152 3 v' (q + 1 + (n - (q2 + 1))) (grVs (us.take q ++ [u']) (gs.take q ++ [midG q q2 x y p1 p2]) ++ grVs (us.drop (q2 + 1)) (gs.drop (q2 + 1)))) => hM.fin G3.out HN.out sx2 (show q ≤ q2 + 1 by omega) (show q2 + 1 ≤ n by omega) hg ho)
    clear P9 hM XC YC XI YI
    by_cases hc3 : cr2 = q2 + 1
    · have hn3 : n = q2 + 1 := by omega
      have hc3' : (cr2 : Int) = (q2 : Int) + 1 := by omega
      have ED := hide (show grVs (us.drop (q2 + 1)) (gs.drop (q2 + 1)) = [] from List.eq_nil_of_length_eq_zero (by rw [LTD.out]; omega))
      subst hc3
      go_upto_region 12 with (at_builtin; refine wpList_append_own _ rfl _ _ 27 rfl x2.heap.size 152 i0 (.agg #[.slice none 0 0, .int .i64 0, .int .i64 0]) 3 40 Tryz.underlying27 hi0 hz0 hz1 hz2 rfl (by decide) _ _ _ rfl ROW.out ⟨g2, 0, none⟩ 0 _ [] rfl (by simp) (by intro j u h; simp at h) (by intro u h; simp at h) (by unfold maxLen; omega) (by omega) (by omega) ?_; intro v8 x8 ho8 hg8 hnil8)
      have ho8' : x8.ownsRow x2.heap.size 152 3 v8 (q + 1 + (n - (q2 + 1))) (grVs (us.take q ++ [u']) (gs.take q ++ [midG q q2 x y p1 p2]) ++ grVs (us.drop (q2 + 1)) (gs.drop (q2 + 1))) := by
        rw [ED.out, hn3, Nat.sub_self]; exact ho8
      obtain ⟨a8, c8, hv8⟩ := own_valT ho8
      subst hv8
      have F8 := hide (FIN.out _ _ hg8 ho8')
      clear ho8 ho8' hg8 hnil8
      have s8 := F8.out.2.size
      have R8 := hide (R2'.out.below F8.out.2 hrx)
      have P8 := hide (K2'.out.below F8.out.2 hpx)
      have e0 := R8.out.c.1
      have e1 := R8.out.c.2
      have f0 := R8.out.fz 0
      have f1 := R8.out.fz 1
      have pp0 := P8.out.c.1
      have pp1 := P8.out.c.2
      have hi1 : (q : Int) + 1 ≤ (ct2 : Int) := by omega
      have nn1 : w.heap.size ≠ w.heap.size + 1 := by omega
      go_wp2
      refine bodyPost_ret (v := .agg #[.slice a8 (q + 1) c8, .slice (some ⟨g3, 0, none⟩) (q + 1) ct2]) (by simp [results, Tryz.results51, go_sem, e0, e1]) rfl ?_
      refine ⟨_, _, rfl, ⟨⟨us.take q ++ [u'] ++ us.drop (q2 + 1), ?_⟩, ?_, ?_⟩, ?_⟩
      · have hmono : x8.heap.size ≤ ((x8.setCell ⟨w.heap.size + 1, 0, none⟩ (.slice a8 (q + 1) c8)).setCell ⟨w.heap.size + 1, 1, none⟩ (.slice (some ⟨g3, 0, none⟩) (q + 1) ct2)).heap.size := by simp
        refine (F8.out.1.offD (L := w.heap.size + 1) R8.out (by decide) (by decide) (fun z hz => ?_)).mono (Nat.le_refl _) hmono
        rw [heap_setCell_other _ _ _ _ (by show z ≠ w.heap.size + 1; exact hz), heap_setCell_other _ _ _ _ (by show z ≠ w.heap.size + 1; exact hz)]
      · have h9 := own64_takeS (k := q + 1) S3.out (by omega) (by rw [LT2.out]; omega)
        rw [List.take_take, Nat.min_eq_left (by omega)] at h9
        have h9' : o64 x8 w.heap.size (.slice (some ⟨g3, 0, none⟩) (q + 1) ct2) (ST.take (q + 1)) := owns_below h9 F8.out.2 (Nat.le_refl _)
        refine owns_of_block h9' (fun z hz => ?_)
        have hz3 : z ≠ w.heap.size + 1 := own_notD h9' R8.out (by decide) hz
        rw [heap_setCell_other _ _ _ _ (by show z ≠ w.heap.size + 1; exact hz3), heap_setCell_other _ _ _ _ (by show z ≠ w.heap.size + 1; exact hz3)]
      · exact bel_mono sbl.out (by simp; omega)
      · exact ((B2'.out.trans (F8.out.2.mono sx2)).setCell (by simp) _).setCell (by simp) _
    · have hc3' : ¬ (cr2 : Int) = (q2 : Int) + 1 := by omega
      go_upto_region 12 with (at_builtin; refine wpList_append_own _ rfl _ _ 27 rfl x2.heap.size 152 i0 (.agg #[.slice none 0 0, .int .i64 0, .int .i64 0]) 3 40 Tryz.underlying27 hi0 hz0 hz1 hz2 rfl (by decide) _ _ _ rfl ROW.out ⟨g2, (q2 + 1) * 3, none⟩ (n - (q2 + 1)) (cr2 - (q2 + 1)) (grVs (us.drop (q2 + 1)) (gs.drop (q2 + 1))) rfl LTD.out CD.out OND.out (by unfold maxLen; omega) (by omega) (by omega) ?_; intro v8 x8 ho8 hg8 hnil8)
      have ho8' := ho8
      obtain ⟨a8, c8, hv8⟩ := own_valT ho8
      subst hv8
      have F8 := hide (FIN.out _ _ hg8 ho8')
      clear ho8 ho8' hg8 hnil8
      have s8 := F8.out.2.size
      have R8 := hide (R2'.out.below F8.out.2 hrx)
      have P8 := hide (K2'.out.below F8.out.2 hpx)
      have e0 := R8.out.c.1
      have e1 := R8.out.c.2
      have f0 := R8.out.fz 0
      have f1 := R8.out.fz 1
      have pp0 := P8.out.c.1
      have pp1 := P8.out.c.2
      have hi1 : (q : Int) + 1 ≤ (ct2 : Int) := by omega
      have nn1 : w.heap.size ≠ w.heap.size + 1 := by omega
      go_wp2
      refine bodyPost_ret (v := .agg #[.slice a8 (q + 1 + (n - (q2 + 1))) c8, .slice (some ⟨g3, 0, none⟩) (q + 1) ct2]) (by simp [results, Tryz.results51, go_sem, e0, e1]) rfl ?_
      refine ⟨_, _, rfl, ⟨⟨us.take q ++ [u'] ++ us.drop (q2 + 1), ?_⟩, ?_, ?_⟩, ?_⟩
      · have hmono : x8.heap.size ≤ ((x8.setCell ⟨w.heap.size + 1, 0, none⟩ (.slice a8 (q + 1 + (n - (q2 + 1))) c8)).setCell ⟨w.heap.size + 1, 1, none⟩ (.slice (some ⟨g3, 0, none⟩) (q + 1) ct2)).heap.size := by simp
        refine (F8.out.1.offD (L := w.heap.size + 1) R8.out (by decide) (by decide) (fun z hz => ?_)).mono (Nat.le_refl _) hmono
        rw [heap_setCell_other _ _ _ _ (by show z ≠ w.heap.size + 1; exact hz), heap_setCell_other _ _ _ _ (by show z ≠ w.heap.size + 1; exact hz)]
      · have h9 := own64_takeS (k := q + 1) S3.out (by omega) (by rw [LT2.out]; omega)
        rw [List.take_take, Nat.min_eq_left (by omega)] at h9
        have h9' : o64 x8 w.heap.size (.slice (some ⟨g3, 0, none⟩) (q + 1) ct2) (ST.take (q + 1)) := owns_below h9 F8.out.2 (Nat.le_refl _)
        refine owns_of_block h9' (fun z hz => ?_)
        have hz3 : z ≠ w.heap.size + 1 := own_notD h9' R8.out (by decide) hz
        rw [heap_setCell_other _ _ _ _ (by show z ≠ w.heap.size + 1; exact hz3), heap_setCell_other _ _ _ _ (by show z ≠ w.heap.size + 1; exact hz3)]
      · exact bel_mono sbl.out (by simp; omega)
      · exact ((B2'.out.trans (F8.out.2.mono sx2)).setCell (by simp) _).setCell (by simp) _
end Go.Proofs.YtbgngikejgihgagGreatDoor
