import Derived.Test.YtbgngikejgihgadGreatDoorMq02
import Derived.Test.YtbgngikejgihgadGreatDoorMq04
import Derived.Test.YtbgngikejgihgadGreatDoorMq06
import Derived.Shelf.Strings.Split
import Derived.Shelf.Strings.Prefix
import Derived.Shelf.Strconv.AtoiAll
import Derived.Shelf.Strconv.Itoa3
import Derived.Lib.AppendIntMem
import Derived.Test.YtbgngikejgihgadGreatDoorProg
import Derived.Test.YtbgngikejgihgadGreatDoorMq01
import Derived.WalkKit
import Derived.WalkLawsBesides
import Derived.Lib.OthersKept
import Derived.Test.YtbgngikejgihgadGreatDoorMq03
namespace Go.Proofs.YtbgngikejgihgadGreatDoor
open Go Go.RowKit Go.Sort
set_option linter.unusedVariables false

/-- What the world's variables hold. -/
structure GS (w : World) : Prop where
  tab : Lib.TabIs Tryz.prog w "internal/strconv.uint64pow10" .u64 Lib.pow10Tab
  es : ∃ ev, w.cell? ⟨3, 0, none⟩ = some ev ∧ (ev = .nilIface ∨ ∃ te pe, ev = .iface te pe)
  er : ∃ ev, w.cell? ⟨4, 0, none⟩ = some ev ∧ (ev = .nilIface ∨ ∃ te pe, ev = .iface te pe)
  ml : ∃ m, w.cell? ⟨1, 0, none⟩ = some (.int .i64 m)
  eh : w.cell? ⟨0, 0, none⟩ = some (.iface 112 (.agg #[.pointer (some ⟨9, 42, none⟩)]))
theorem cell_below0 {w w' : World} (hb : Below w.heap.size w w') {p : Addr} {v : Value} (h : w.cell? p = some v) : w'.cell? p = some v := (hb.cell (World.block_lt_of_cell? w p h)).trans h
theorem GS.below {w w' : World} (h : GS w) (hb : Below w.heap.size w w') : GS w' := by
  obtain ⟨a, ha, ha2⟩ := h.es
  obtain ⟨b, hb', hb2⟩ := h.er
  obtain ⟨m, hm⟩ := h.ml
  exact ⟨Lib.tabBelow_of_tabIs h.tab w' hb, ⟨a, cell_below0 hb ha, ha2⟩, ⟨b, cell_below0 hb hb', hb2⟩, ⟨m, cell_below0 hb hm⟩, cell_below0 hb h.eh⟩

theorem below_growI {w : World} (k : Nat) (os : Array Obj) : Below w.heap.size w (grow (w.drewN k) os) := by
  refine ⟨rfl, rfl, rfl, by show w.heap.size ≤ (w.heap ++ os).size; simp, fun q hq => ?_⟩
  show (w.heap ++ os)[q]? = w.heap[q]?
  rw [Array.getElem?_append_left hq]

theorem atoiW (s : ByteArray) (hs : s.size ≤ 8192) (w : World) (hG : GS w) :
    Calls Tryz.prog 60 #[.string s] w fun e w' => ((∃ v, Lib.atoiAll s.data.toList = .ok v ∧ e = .returned (.tuple #[.int .i64 v, .nilIface])) ∨ ((∀ v, Lib.atoiAll s.data.toList ≠ .ok v) ∧ ∃ k t p, e = .returned (.tuple #[.int .i64 k, .iface t p]))) ∧ Below w.heap.size w w' := by
  cases h : Lib.atoiAll s.data.toList with
  | ok v =>
    refine Calls.mono (show Calls Tryz.prog 60 #[.string s] w _ from Any.strconv_Atoi_ok Tryz.atLays s (by omega) v h w) ?_
    rintro e w' ⟨rfl, hw⟩
    refine ⟨.inl ⟨v, rfl, rfl⟩, ?_⟩
    rcases hw with rfl | ⟨t, rfl⟩
    · exact Below.refl _ _
    · exact Lib.bytesWorld_below _ _ _
  | «syntax» =>
    obtain ⟨ev, h1, h2⟩ := hG.es
    refine Calls.mono (show Calls Tryz.prog 60 #[.string s] w _ from Any.strconv_Atoi_syntax Tryz.atLays s (by omega) h ev w h1 h2) ?_
    rintro e w' ⟨N, rfl, _, _, hb⟩
    exact ⟨.inr ⟨(fun v hv => by cases hv), _, _, _, rfl⟩, hb⟩
  | range =>
    obtain ⟨ev, h1, h2⟩ := hG.er
    refine Calls.mono (show Calls Tryz.prog 60 #[.string s] w _ from Any.strconv_Atoi_range Tryz.atLays s (by omega) h ev w h1 h2) ?_
    rintro e w' ⟨N, rfl, _, _, hb⟩
    exact ⟨.inr ⟨(fun v hv => by cases hv), _, _, _, rfl⟩, hb⟩
theorem itoaW (n : Int) (h0 : -9223372036854775808 ≤ n) (h1 : n ≤ 9223372036854775807) (w : World) (hG : GS w) :
    Calls Tryz.prog 61 #[.int .i64 n] w fun e w' => e = .returned (.string ⟨(Lib.itoa n).toArray⟩) ∧ Below w.heap.size w w' := by
  refine Calls.mono (show Calls Tryz.prog 61 #[.int .i64 n] w _ from Any.strconv_Itoa Tryz.itLays n h0 h1 w hG.tab) ?_
  rintro e w' ⟨rfl, k, os, rfl⟩
  exact ⟨rfl, below_growI k os⟩
theorem trimW (s p : ByteArray) (w : World) :
    Calls Tryz.prog 62 #[.string s, .string p] w fun e w' => e = .returned (.string ⟨(Lib.trimPrefix s.data.toList p.data.toList).toArray⟩) ∧ w' = w :=
  Any.strings_TrimPrefix Tryz.tpLays s p w
theorem splitW (s : ByteArray) (hs : s.size ≤ 20000) (c : UInt8) (w : World) (hG : GS w) :
    Calls Tryz.prog 43 #[.string s, .string ⟨#[c]⟩] w fun e w' => ∃ ws : List ByteArray, ws.map (·.data.toList) = cutU c s.data.toList ∧ e = .returned (.slice (some ⟨w.heap.size, 0, none⟩) ws.length ws.length) ∧ w' = w.alloc (.cells (ws.map Value.string).toArray 9) := by
  obtain ⟨m, hm⟩ := hG.ml
  have h1 : 1 ≤ (⟨#[c]⟩ : ByteArray).size := Nat.le_refl _
  refine Calls.mono (show Calls Tryz.prog 43 #[.string s, .string ⟨#[c]⟩] w _ from Any.strings_Split { Tryz.spLays with } Tryz.spLays.i9 s ⟨#[c]⟩ m w (by omega) hm h1) ?_
  rintro e w' ⟨rfl, rfl⟩
  have e1 : (Lib.splitB ⟨#[c]⟩ 0 (Lib.countB s ⟨#[c]⟩) s).length = Lib.countB s ⟨#[c]⟩ + 1 := Lib.splitB_all _ h1 0 _ s rfl
  refine ⟨Lib.splitB ⟨#[c]⟩ 0 (Lib.countB s ⟨#[c]⟩) s, ?_, by rw [e1], rfl⟩
  rw [Lib.splitB_data]
  exact split_one c _ _ (Nat.le_refl _)
end Go.Proofs.YtbgngikejgihgadGreatDoor

namespace Go.Proofs.YtbgngikejgihgadGreatDoor
open Go Go.RowKit Go.Sort
set_option linter.unusedVariables false

theorem ba_eq {s t : ByteArray} : (s.toList == t.toList) = decide (s.data.toList = t.data.toList) := by
  rw [ByteArray.toList_eq, ByteArray.toList_eq]
  by_cases h : s.data.toList = t.data.toList
  · rw [h]; simp
  · rw [decide_eq_false h, beq_eq_false_iff_ne]; exact h
theorem trim_minus (b : List UInt8) : Lib.trimPrefix b [45] = dropM b := by
  unfold Lib.trimPrefix Lib.hasPrefix dropM
  cases b with
  | nil => simp
  | cons c r =>
    by_cases h : c = 45
    · subst h; simp [List.isPrefixOf]
    · have h' : ¬ ((45 : UInt8) = c) := fun e => h e.symm
      simp [List.isPrefixOf, h, h']
theorem digits_lt {u k : Nat} (h : (Lib.decDigits u).length ≤ k) : u < 10 ^ k := by
  rw [Lib.decDigits_length] at h
  exact Nat.lt_of_lt_of_le (Lib.lt_pow_nDigits u) (Nat.pow_le_pow_right (by omega) h)
theorem num_bound {b : List UInt8} {most : Nat} {n : Int} (h : numU b most = some n) (hm : most ≤ 18) : -9223372036854775808 ≤ n ∧ n ≤ 9223372036854775807 := by
  have h1 := numU_some h
  have h2 := h1.2.2
  rw [← h1.1, dropM_itoa] at h2
  have h3 := digits_lt (k := 18) (by omega : (Lib.decDigits n.natAbs).length ≤ 18)
  have h4 : (10 : Nat) ^ 18 = 1000000000000000000 := by decide
  omega
/-- A fault as a value. -/
def fltV (c : Int) : Value := .iface 61 (.int .i64 c)
/-- What readNumber answers. -/
def numOut (b : List UInt8) (most : Nat) : Value := match numU b most with
  | some n => .tuple #[.int .i64 n, .nilIface]
  | none => .tuple #[.int .i64 0, fltV 17]

set_option maxHeartbeats 1000000 in
set_option maxRecDepth 100000 in
theorem readNumL (s : ByteArray) (most : Nat) (w : World) (hs : s.size ≤ 8192) (hm : most ≤ 18) (hG : GS w) :
    Calls Tryz.prog 44 #[.string s, .int .i64 most] w fun e w' => e = .returned (numOut s.data.toList most) ∧ Below w.heap.size w w' := by
  have AT := hide (atoiW s hs w hG)
  have GB := hide (fun (W : World) (hW : Below w.heap.size w W) => hG.below hW)
  clear hG
  go_enter Tryz.func44, Tryz.ntmps44
  go_wp2_with fail
  refine AT.out.mono ?_
  rintro e w1 ⟨hor, hb1⟩
  have B1 := hide hb1
  clear hb1
  rcases hor with ⟨v, hv, rfl⟩ | ⟨hno, k, t, p, rfl⟩
  · have hbd := Lib.atoiAll_bounds hv
    have HV := hide hv
    clear hv
    go_wp2_with fail
    refine (itoaW v hbd.1 hbd.2 w1 (GB.out w1 B1.out)).mono ?_
    rintro e w2 ⟨rfl, hb2⟩
    have B2 := hide (B1.out.trans (hb2.mono B1.out.size))
    clear hb2
    generalize hst : (⟨(Lib.itoa v).toArray⟩ : ByteArray) = st
    have hsl : st.data.toList = Lib.itoa v := by rw [← hst]
    by_cases he : Lib.itoa v = s.data.toList
    · have hq : (st.toList == s.toList) = true := by rw [ba_eq, hsl, he]; simp
      have hq2 : st = s := by
        have : st.data = s.data := by rw [← Array.toList_inj, hsl, he]
        cases st; cases s; simp_all
      have HE := hide he
      clear hst hsl he
      subst hq2
      generalize htt : (⟨(Lib.trimPrefix st.data.toList [45]).toArray⟩ : ByteArray) = tt
      have htl : tt.size = (dropM st.data.toList).length := by rw [← htt, trim_minus, Lib.size_eq]
      have TR := hide (trimW st ⟨#[45]⟩ w2)
      rw [show (⟨(Lib.trimPrefix st.data.toList (⟨#[45]⟩ : ByteArray).data.toList).toArray⟩ : ByteArray) = tt from htt] at TR
      have HO1 := hide (fun (h : (dropM st.data.toList).length ≤ most) => (show numOut st.data.toList most = .tuple #[.int .i64 v, .nilIface] by unfold numOut; rw [numU_of HE.out h]))
      have HO2 := hide (fun (h : ¬ (dropM st.data.toList).length ≤ most) => (show numOut st.data.toList most = .tuple #[.int .i64 0, fltV 17] by
        unfold numOut
        have : numU st.data.toList most = none := by unfold numU; rw [if_neg (fun hh => h hh.2.1)]
        rw [this]))
      rw [← htl] at HO1 HO2
      clear htt htl
      by_cases hlen : tt.size ≤ most
      · have hgt : ¬ (most : Int) < (tt.size : Int) := by omega
        have HO := hide (HO1.out hlen)
        clear HO1 HO2
        go_wp2_with fail
        refine TR.out.mono ?_
        rintro e w3 ⟨rfl, rfl⟩
        go_wp2
        go_ret2
        exact ⟨by rw [HO.out]; rfl, B2.out⟩
      · have hgt : (most : Int) < (tt.size : Int) := by omega
        have HO := hide (HO2.out hlen)
        clear HO1 HO2
        go_wp2_with fail
        refine TR.out.mono ?_
        rintro e w3 ⟨rfl, rfl⟩
        go_wp2
        go_ret2
        exact ⟨by rw [HO.out]; rfl, B2.out⟩
    · have hq : (st.toList == s.toList) = false := by rw [ba_eq, hsl]; exact decide_eq_false he
      have HO := hide (show numOut s.data.toList most = .tuple #[.int .i64 0, fltV 17] by
        unfold numOut
        have : numU s.data.toList most = none := by
          cases h : numU s.data.toList most with
          | none => rfl
          | some n =>
            exfalso
            have h1 := (numU_some h).1
            have h2 := num_bound h (by omega)
            have h3 := atoi_itoa n h2.1 h2.2
            rw [h1, HV.out] at h3
            simp only [Lib.NumEnd.ok.injEq] at h3
            exact he (by rw [h3]; exact h1)
        rw [this])
      clear hst hsl he
      go_wp2
      go_ret2
      exact ⟨by rw [HO.out]; rfl, B2.out⟩
  · have hnone : numU s.data.toList most = none := by
      cases h : numU s.data.toList most with
      | none => rfl
      | some n =>
        exfalso
        have h1 := (numU_some h).1
        have h2 := num_bound h (by omega)
        have h3 := atoi_itoa n h2.1 h2.2
        rw [h1] at h3
        exact hno n h3
    have HO := hide (show numOut s.data.toList most = .tuple #[.int .i64 0, fltV 17] by unfold numOut; rw [hnone])
    clear hnone hno
    go_wp2
    go_ret2
    exact ⟨by rw [HO.out]; rfl, B1.out⟩
end Go.Proofs.YtbgngikejgihgadGreatDoor

namespace Go.Proofs.YtbgngikejgihgadGreatDoor
open Go Go.RowKit
set_option linter.unusedVariables false

theorem Tryz.info8 : (Tryz.prog.info? 5).map (fun i => (i.zero, i.size, i.bytes)) = some (some (.int .u8 0), 1, 1) := by kernel_rfl

/-- Blocks of other kinds than bytes stay as they are. -/
def K8 (w w' : World) : Prop := ∀ (q : Nat) (cs : Array Value) (t : TypeId) (fz : Nat × Nat), t ≠ 5 → w.heap[q]? = some (.cells cs t fz) → w'.heap[q]? = some (.cells cs t fz)
theorem K8.refl (w : World) : K8 w w := fun _ _ _ _ _ h => h
theorem K8.trans {a b c : World} (h : K8 a b) (k : K8 b c) : K8 a c := fun q cs t fz ht hq => k q cs t fz ht (h q cs t fz ht hq)
theorem K8.of {w w' : World} (h : Lib.OthersKept 5 none w w') : K8 w w' :=
  fun q cs t fz ht hq => h q _ hq (by simp) (fun c f e => by injection e with _ h2 _; exact ht h2)
theorem K8.alloc (w : World) (o : Obj) : K8 w (w.alloc o) := fun q cs t fz ht hq => (Below.heap_alloc _ _ _ (Array.getElem?_eq_some_iff.1 hq).1).trans hq
theorem K8.grown {w w' : World} {B n : Nat} {v : Value} {xs : List Value} (h : w.ownsRow B 5 1 v n xs) (hg : w.grownBy w' v.ownBlock) : K8 w w' := by
  intro q cs t fz ht hq
  refine (hg.block q (Array.getElem?_eq_some_iff.1 hq).1 (fun eq => ?_)).trans hq
  rcases h.2 with ⟨rfl, _⟩ | ⟨g, cap, cur, rfl, _, hgb, _⟩
  · simp [Value.ownBlock] at eq
  · simp only [Value.ownBlock, Option.some.injEq] at eq
    subst eq
    rw [hq] at hgb
    simp only [Option.some.injEq] at hgb
    injection hgb with _ h2 _
    exact ht h2

end Go.Proofs.YtbgngikejgihgadGreatDoor

namespace Go.Proofs.YtbgngikejgihgadGreatDoor
open Go Go.RowKit
set_option linter.unusedVariables false

/-- A row of bytes of the call's own. -/
def OwB (w : World) (base : Nat) (v : Value) (zs : List Int) : Prop := w.ownsRow base 5 1 v zs.length (ints .u8 zs)
theorem OwB.snoc {w : World} {base : Nat} {v : Value} {zs ys : List Int} (h : w.ownsRow base 5 1 v (zs.length + ys.length) (ints .u8 zs ++ ints .u8 ys)) : OwB w base v (zs ++ ys) := by
  unfold OwB; rw [List.length_append, ints_append]; exact h
theorem OwB.base {w : World} {base base' : Nat} {v : Value} {zs : List Int} (h : OwB w base v zs) (hb : base' ≤ base) : OwB w base' v zs := owns_base h hb
theorem OwB.rd {w : World} {base : Nat} {v : Value} {zs : List Int} (h : OwB w base v zs) : Rd .u8 w v zs := Rd.of_owns h
theorem OwB.below {w w' : World} {base : Nat} {v : Value} {zs : List Int} (h : OwB w base v zs) (hb : Below w.heap.size w w') : OwB w' base v zs := owns_below h hb (Nat.le_refl _)
theorem ownB_shape {w : World} {base : Nat} {v : Value} {zs : List Int} (h : OwB w base v zs) (h0 : 0 < zs.length) : ∃ g cap, v = .slice (some ⟨g, 0, none⟩) zs.length cap := by
  rcases h.2 with ⟨_, e⟩ | ⟨g, cap, cur, hv, _⟩
  · omega
  · exact ⟨g, cap, hv⟩
theorem ownB_cells {w : World} {base g cap : Nat} {zs : List Int} (h : OwB w base (.slice (some ⟨g, 0, none⟩) zs.length cap) zs) : ∀ j u, (ints .u8 zs)[j]? = some u → w.cell? ((⟨g, 0, none⟩ : Addr).add j) = some u := fun j u hj => h.cells (g := g) rfl j u hj

theorem wrap_u8 (k : Int) (h : 0 ≤ k ∧ k ≤ 255) : IntKind.u8.wrap k = k := by
  simp only [IntKind.wrap, IntKind.bits, IntKind.signed]; simp; omega
theorem own_one (w : World) (z : Int) : (w.alloc (.cells #[.int .u8 z] 5)).ownsRow w.heap.size 5 1 (.slice (some ⟨w.heap.size, 0, none⟩) 1 1) 1 [.int .u8 z] :=
  ⟨rfl, .inr ⟨_, 1, #[.int .u8 z], rfl, Nat.le_refl _, heap_alloc_new _ _, Nat.le_refl _, by unfold maxLen; omega, rfl, rfl⟩⟩
theorem itoa_pos (v : Int) : 0 < (bts (Lib.itoa v)).length := by
  have hd : ∀ u : Nat, 0 < (Lib.decDigits u).length := fun u => by rw [topD_one]; simp
  rw [bts_length]
  rcases Int.lt_or_le v 0 with h | h
  · obtain ⟨a, rfl⟩ : ∃ a : Nat, v = -(a : Int) := ⟨v.natAbs, by omega⟩
    rw [Lib.itoa_neg a (by omega)]; simp
  · obtain ⟨a, rfl⟩ := Int.eq_ofNat_of_zero_le h
    rw [Lib.itoa_nonneg]; exact hd a
end Go.Proofs.YtbgngikejgihgadGreatDoor

namespace Go.Proofs.YtbgngikejgihgadGreatDoor
open Go Go.RowKit Go.Sort
set_option linter.unusedVariables false

theorem strOf_bts (l : List UInt8) : (strOf (bts l)).data.toList = l := by
  rw [strOf_list]
  induction l with
  | nil => rfl
  | cons b l ih =>
    simp only [bts, List.map_cons, List.map_map] at ih ⊢
    rw [ih]
    congr 1
    simp
theorem ba_of {s : ByteArray} {l : List UInt8} (h : s.data.toList = l) : s = ⟨l.toArray⟩ := by
  cases s; subst h; simp
theorem ba_lit (s : ByteArray) (l : List UInt8) : (s.toList == l) = decide (s.data.toList = l) := by
  rw [ByteArray.toList_eq]
  by_cases h : s.data.toList = l
  · rw [h]; simp
  · rw [decide_eq_false h, beq_eq_false_iff_ne]; exact h
theorem suf10 (l : List UInt8) : Lib.hasSuffix l [10] = decide (l.getLast? = some 10) := by
  unfold Lib.hasSuffix
  rcases List.eq_nil_or_concat l with rfl | ⟨ys, x, rfl⟩
  · rfl
  · rw [List.concat_eq_append]
    simp [List.isSuffixOf, List.isPrefixOf]
    by_cases h : x = 10
    · subst h; simp
    · simp [h]; exact fun e => h e.symm

set_option maxHeartbeats 1000000 in
set_option maxRecDepth 100000 in
theorem cutSufI (s : ByteArray) (hs : s.size ≤ 8192) (w : World) :
    Calls Tryz.prog 58 #[.string s, .string ⟨#[10]⟩] w fun e w' => e = .returned (if s.data.toList.getLast? = some 10 then .tuple #[.string ⟨s.data.toList.dropLast.toArray⟩, .bool true] else .tuple #[.string s, .bool false]) ∧ w' = w := by
  have HS := hide (show Calls Tryz.prog 70 #[.string s, .string ⟨#[10]⟩] w _ from Any.stringslite_HasSuffix Tryz.hsLays s ⟨#[10]⟩ w (by omega))
  by_cases h : s.data.toList.getLast? = some 10
  · rw [if_pos h]
    have hp : 1 ≤ s.size := by
      rw [Lib.size_eq]
      cases hd : s.data.toList with
      | nil => rw [hd] at h; simp at h
      | cons a r => simp
    have hx : s.extract 0 (s.size - 1) = ⟨s.data.toList.dropLast.toArray⟩ := by
      apply ba_of
      have hz : s.size = s.data.toList.length := Lib.size_eq s
      rw [ByteArray.data_extract, hz, List.dropLast_eq_take]
      simp only [Array.toList_extract, List.extract_eq_take_drop, Nat.sub_zero, List.drop_zero]
    have e2 : Lib.hasSuffix s.data.toList (⟨#[10]⟩ : ByteArray).data.toList = true := by
      show Lib.hasSuffix s.data.toList [10] = true
      rw [suf10]; exact decide_eq_true h
    rw [e2] at HS
    rw [← hx]
    clear hx h
    go_enter Tryz.func58, Tryz.ntmps58
    go_wp2_with fail
    refine HS.out.mono ?_
    rintro e w1 ⟨rfl, rfl⟩
    go_wp2
    go_ret2
    exact ⟨rfl, rfl⟩
  · rw [if_neg h]
    have e2 : Lib.hasSuffix s.data.toList (⟨#[10]⟩ : ByteArray).data.toList = false := by
      show Lib.hasSuffix s.data.toList [10] = false
      rw [suf10]; exact decide_eq_false h
    rw [e2] at HS
    clear h
    go_enter Tryz.func58, Tryz.ntmps58
    go_wp2_with fail
    refine HS.out.mono ?_
    rintro e w1 ⟨rfl, rfl⟩
    go_wp2
    go_ret2
    exact ⟨rfl, rfl⟩

set_option maxHeartbeats 1000000 in
theorem cutSufW (s : ByteArray) (hs : s.size ≤ 8192) (w : World) :
    Calls Tryz.prog 42 #[.string s, .string ⟨#[10]⟩] w fun e w' => e = .returned (if s.data.toList.getLast? = some 10 then .tuple #[.string ⟨s.data.toList.dropLast.toArray⟩, .bool true] else .tuple #[.string s, .bool false]) ∧ w' = w := by
  have HS := hide (cutSufI s hs w)
  by_cases h : s.data.toList.getLast? = some 10
  · rw [if_pos h] at HS ⊢
    clear h
    generalize (⟨s.data.toList.dropLast.toArray⟩ : ByteArray) = t at *
    go_enter Tryz.func42, Tryz.ntmps42
    go_wp2_with fail
    refine HS.out.mono ?_
    rintro e w1 ⟨rfl, rfl⟩
    go_wp2
    go_ret2
    exact ⟨rfl, rfl⟩
  · rw [if_neg h] at HS ⊢
    clear h
    go_enter Tryz.func42, Tryz.ntmps42
    go_wp2_with fail
    refine HS.out.mono ?_
    rintro e w1 ⟨rfl, rfl⟩
    go_wp2
    go_ret2
    exact ⟨rfl, rfl⟩

set_option maxHeartbeats 1000000 in
theorem gravL (s : ByteArray) (w : World) : Calls Tryz.prog 45 #[.string s] w fun e w' => e = .returned (.int .i64 (grU s.data.toList)) ∧ w' = w := by
  have q1 : (s.toList == [76]) = decide (s.data.toList = [76]) := ba_lit s [76]
  have q2 : (s.toList == [82]) = decide (s.data.toList = [82]) := ba_lit s [82]
  unfold grU
  by_cases h1 : s.data.toList = [76]
  · rw [if_pos h1]
    rw [decide_eq_true h1] at q1
    clear h1 q2
    go_enter Tryz.func45, Tryz.ntmps45
    go_wp2
    go_ret
    exact ⟨rfl, rfl⟩
  · rw [if_neg h1]
    rw [decide_eq_false h1] at q1
    by_cases h2 : s.data.toList = [82]
    · rw [if_pos h2]
      rw [decide_eq_true h2] at q2
      clear h1 h2
      go_enter Tryz.func45, Tryz.ntmps45
      go_wp2
      go_ret
      exact ⟨rfl, rfl⟩
    · rw [if_neg h2]
      rw [decide_eq_false h2] at q2
      clear h1 h2
      go_enter Tryz.func45, Tryz.ntmps45
      go_wp2
      go_ret
      exact ⟨rfl, rfl⟩
end Go.Proofs.YtbgngikejgihgadGreatDoor

namespace Go.Proofs.YtbgngikejgihgadGreatDoor
open Go Go.RowKit
set_option linter.unusedVariables false

set_option maxHeartbeats 1000000 in
theorem boundsI (v lo hi c : Int) (w : World) : Calls Tryz.prog 36 #[.int .i64 v, .int .i64 lo, .int .i64 hi, .int .i64 c] w fun e w' => e = .returned (errV (decide (lo ≤ v ∧ v ≤ hi)) c) ∧ w' = w := by
  have HK := hide (withinI v lo hi w)
  cases hd : decide (lo ≤ v ∧ v ≤ hi) with
  | true =>
    rw [hd] at HK
    clear hd
    go_enter Tryz.func36, Tryz.ntmps36
    go_wp2_with fail
    refine HK.out.mono ?_
    rintro e w1 ⟨rfl, rfl⟩
    go_wp2
    go_ret
    exact ⟨rfl, rfl⟩
  | false =>
    rw [hd] at HK
    clear hd
    go_enter Tryz.func36, Tryz.ntmps36
    go_wp2_with fail
    refine HK.out.mono ?_
    rintro e w1 ⟨rfl, rfl⟩
    go_wp2
    go_ret
    exact ⟨rfl, rfl⟩

end Go.Proofs.YtbgngikejgihgadGreatDoor
