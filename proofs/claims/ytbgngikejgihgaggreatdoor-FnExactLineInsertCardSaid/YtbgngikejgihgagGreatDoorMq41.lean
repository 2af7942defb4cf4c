import Derived.Test.YtbgngikejgihgagGreatDoorMq24
import Derived.Test.YtbgngikejgihgagGreatDoorMq09
import Derived.Test.YtbgngikejgihgagGreatDoorMq40
import Derived.Test.YtbgngikejgihgagGreatDoorMq05
import Derived.Test.YtbgngikejgihgagGreatDoorMq13
import Derived.Deep.QuietTactic
import Derived.BigQuiet
import Derived.Test.YtbgngikejgihgagGreatDoorProg
import Derived.WalkKit
import Derived.LaidEql
import Derived.Stop.Asserts
import Derived.RowKitTokens
namespace Go.Proofs.YtbgngikejgihgagGreatDoor
open Go Go.RowKit
set_option linter.unusedVariables false

/-- The faults that readLines gives. -/
def BadL (e : Value) : Prop := (∃ msg, e = .iface 172 (.agg #[.string msg, .iface 181 (.int .i64 1)])) ∨ (∃ msg msg', e = .iface 172 (.agg #[.string msg, .iface 172 (.agg #[.string msg', .iface 181 (.int .i64 1)])]))
def RLBad (w : World) (e : Ending) (w' : World) : Prop := ∃ er, e = .returned (.tuple #[.pointer none, er]) ∧ BadL er ∧ Below w.heap.size w w'
def RLOk (w : World) (gs : List Gr) (st : List Int) (e : Ending) (w' : World) : Prop := ∃ c g sv vs, e = .returned (.tuple #[.pointer (some ⟨c, 0, none⟩), .nilIface]) ∧ w.heap.size ≤ c ∧ LCr w' w.heap.size w'.heap.size c (.slice (some ⟨g, 0, none⟩) gs.length gs.length) sv vs gs gs.length gs.length ((jn (gs.map grT)).length : Nat) st ∧ Below w.heap.size w w'
def msgRows : ByteArray := ⟨#[114, 101, 97, 100, 105, 110, 103, 32, 114, 111, 119, 115]⟩
def msgSts : ByteArray := ⟨#[114, 101, 97, 100, 105, 110, 103, 32, 115, 116, 97, 114, 116, 115, 32, 111, 102, 32, 114, 111, 119, 115]⟩

theorem LV_iff (gs : List Gr) (st : List Int) : LV gs st ↔ RV gs ∧ (1 ≤ st.length ∧ st.length ≤ gs.length) ∧ st = (stL (gs.map grT)).take st.length := by
  unfold LV RV
  constructor
  · rintro ⟨⟨h1, h2, h3, h4⟩, h5, h6, h7⟩; exact ⟨⟨⟨h1, h2⟩, h5, h6⟩, ⟨h3, h4⟩, h7⟩
  · rintro ⟨⟨⟨h1, h2⟩, h5, h6⟩, ⟨h3, h4⟩, h7⟩; exact ⟨⟨h1, h2, h3, h4⟩, h5, h6, h7⟩

set_option maxHeartbeats 4000000 in
set_option maxRecDepth 100000 in
theorem readLines_rows (gs : List Gr) (st : List Int) (vr vt : Value) (lo hi : Nat) (w : World) (h : OwL w lo hi vr vt gs st) (hh : hi ≤ w.heap.size) (hs : ∀ x ∈ gs, x.cells.length ≤ 1048576) (hg : gs.length ≤ 1048576) (hst : st.length ≤ 1048576) (hR : ¬ RV gs) :
    Calls Tryz.prog 54 #[.agg #[vr, vt]] w (RLBad w) := by
  have A0 := hide ((Below.refl w.heap.size w).alloc (Nat.le_refl _) (.cells #[vr, vt] 29))
  have K0 := hide (D2.new w vr vt 29)
  have O1 := h.below A0.out hh
  obtain ⟨a1, c1, a2, c2, rfl, rfl⟩ := h.val
  have hsz : (w.alloc (.cells #[.slice a1 gs.length c1, .slice a2 st.length c2] 29)).heap.size = w.heap.size + 1 := by simp
  have RR : Calls Tryz.prog 108 #[.slice a1 gs.length c1] (w.alloc (.cells #[.slice a1 gs.length c1, .slice a2 st.length c2] 29)) (RRBad (w.alloc (.cells #[.slice a1 gs.length c1, .slice a2 st.length c2] 29))) := by
    by_cases hl : 1 ≤ gs.length ∧ gs.length ≤ 8193
    · obtain ⟨vs, hG⟩ := O1.rows
      rcases hG.row.2 with ⟨_, q⟩ | ⟨g, cap, cur, q, _⟩
      · omega
      simp only [Value.slice.injEq, true_and] at q
      obtain ⟨rfl, rfl⟩ := q
      refine (readRows_in gs vs lo hi g c1 gs.length _ hG (by omega) rfl hl.1 hl.2 hs).mono ?_
      rintro e w' ⟨_, hbad⟩
      exact hbad hR
    · exact readRows_len a1 gs.length c1 _ hl (by unfold maxLen; omega)
  have R := hide RR
  unfold RRBad at R
  clear RR h O1 hs hR
  generalize gs.length = n at *
  generalize st.length = m at *
  unfold RLBad
  go_enter Tryz.func54, Tryz.ntmps54
  go_wp2_with fail
  generalize w.alloc (.cells #[.slice a1 n c1, .slice a2 m c2] 29) = w0 at *
  refine R.out.mono ?_
  rintro e w1 ⟨er, rfl, hbe, hb1⟩
  have B1 := hide (A0.out.trans (hb1.mono (by omega)))
  clear hb1 R
  rcases hbe with rfl | rfl
  · go_wp2
    refine bodyPost_ret (v := .tuple #[.pointer none, .iface 172 (.agg #[.string msgRows, .iface 181 (.int .i64 1)])]) (by simp [results, Tryz.results54, go_sem, msgRows]) rfl ?_
    exact ⟨_, rfl, .inl ⟨_, rfl⟩, B1.out⟩
  · go_wp2
    refine bodyPost_ret (v := .tuple #[.pointer none, .iface 172 (.agg #[.string msgRows, .iface 172 (.agg #[.string msgGap, .iface 181 (.int .i64 1)])])]) (by simp [results, Tryz.results54, go_sem, msgRows]) rfl ?_
    exact ⟨_, rfl, .inr ⟨_, _, rfl⟩, B1.out⟩

theorem stL_one {ls : List (List Int)} (h : 1 ≤ ls.length) : [(0 : Int)] = (stL ls).take [(0 : Int)].length := by
  have := stL_take_succ (ls := ls) (i := 0) (by omega)
  simp [smL] at this
  simp [this]

set_option maxHeartbeats 4000000 in
set_option maxRecDepth 100000 in
theorem readLines_in (gs : List Gr) (st : List Int) (vr vt : Value) (lo hi : Nat) (w : World) (h : OwL w lo hi vr vt gs st) (hh : hi ≤ w.heap.size) (hs : ∀ x ∈ gs, x.cells.length ≤ 1048576) (hst : st.length ≤ 1048576) (hR : RV gs) :
    Calls Tryz.prog 54 #[.agg #[vr, vt]] w fun e w' => (LV gs st → RLOk w gs st e w') ∧ (¬ LV gs st → RLBad w e w') := by
  have A0 := hide ((Below.refl w.heap.size w).alloc (Nat.le_refl _) (.cells #[vr, vt] 29))
  have K0 := hide (D2.new w vr vt 29)
  have O1 := h.below A0.out hh
  have OS := hide (h.starts)
  have SBL := hide h.bl
  obtain ⟨a1, c1, a2, c2, rfl, rfl⟩ := h.val
  have hsz : (w.alloc (.cells #[.slice a1 gs.length c1, .slice a2 st.length c2] 29)).heap.size = w.heap.size + 1 := by simp
  obtain ⟨hl1, hl2⟩ := hR.1
  have RR : Calls Tryz.prog 108 #[.slice a1 gs.length c1] (w.alloc (.cells #[.slice a1 gs.length c1, .slice a2 st.length c2] 29)) (RROk (w.alloc (.cells #[.slice a1 gs.length c1, .slice a2 st.length c2] 29)) gs) := by
    obtain ⟨vs, hG⟩ := O1.rows
    rcases hG.row.2 with ⟨_, q⟩ | ⟨g, cap, cur, q, _⟩
    · omega
    simp only [Value.slice.injEq, true_and] at q
    obtain ⟨rfl, rfl⟩ := q
    refine (readRows_in gs vs lo hi g c1 gs.length _ hG (by omega) rfl hl1 hl2 hs).mono ?_
    rintro e w' ⟨hok, _⟩
    exact hok hR
  have R := hide RR
  unfold RROk at R
  have ST1 := hide (stL_one (ls := gs.map grT) (by rw [List.length_map]; exact hl1))
  have IFF := hide (LV_iff gs st)
  have RVV := hide hR
  have KB := hide (fun W => boundsI (st.length : Int) 1 (gs.length : Int) 1 W)
  have STL := hide (show (stL (gs.map grT)).length = gs.length by rw [stL_len, List.length_map])
  clear RR h O1 hs hR
  generalize hm : st.length = m at *
  generalize hn : gs.length = n at *
  generalize hrn : (((jn (gs.map grT)).length : Nat) : Int) = rn at *
  have HN := hide hn
  have HM := hide hm
  have HRN := hide hrn
  obtain ⟨LS, hLS⟩ : ∃ LS, LS = gs.map grT := ⟨_, rfl⟩
  have NL := hide (fun lo' hi' c' g' cap' sv vs W h a b c (d : m ≤ n) => learnN lo' hi' c' g' cap' n m sv vs gs rn [0] W h hn hl2 a b c (by simp) ST1.out (by simpa using hl1) d RVV.out.2.1 RVV.out.2.2)
  rw [← hLS] at NL ST1 IFF STL hrn
  have HLS := hide hLS
  unfold maxLen at *
  clear hm hn hrn hLS
  go_enter Tryz.func54, Tryz.ntmps54
  go_wp2_with fail
  generalize w.alloc (.cells #[.slice a1 n c1, .slice a2 m c2] 29) = w0 at *
  refine R.out.mono ?_
  rintro e w1 ⟨g, vs, rfl, hG1, hb1⟩
  have G1 := hide hG1
  have B1 := hide (A0.out.trans (hb1.mono (by omega)))
  have s1 := hb1.size
  have K1 := hide (K0.out.below hb1 (by omega))
  clear hG1 hb1 R K0
  go_wp2_with fail
  refine (plainRN _ _ _ w1).mono ?_
  rintro e w2 ⟨rfl, hb2⟩
  have G2 := hide (G1.out.frame (w' := w2) (fun q _ hq => hb2.block q hq))
  have B2 := hide (B1.out.trans (hb2.mono (by omega)))
  have s2 := hb2.size
  have K2 := hide (K1.out.below hb2 (by omega))
  clear hb2 G1 K1
  have W4 := hide ((Below.refl w2.heap.size w2).alloc (Nat.le_refl _) (.cells #[.int .i64 0] 3))
  have W5 := hide (W4.out.alloc (by simp) (.cells #[.slice (some ⟨g, 0, none⟩) n n, .int .i64 (n : Int), .int .i64 (n : Int), .int .i64 rn, .slice (some ⟨w2.heap.size, 0, none⟩) 1 1] 179))
  have L5 := hide (show LCr ((w2.alloc (.cells #[.int .i64 0] 3)).alloc (.cells #[.slice (some ⟨g, 0, none⟩) n n, .int .i64 (n : Int), .int .i64 (n : Int), .int .i64 rn, .slice (some ⟨w2.heap.size, 0, none⟩) 1 1] 179)) w0.heap.size (w2.heap.size + 2) (w2.heap.size + 1) (.slice (some ⟨g, 0, none⟩) n n) (.slice (some ⟨w2.heap.size, 0, none⟩) 1 1) vs gs n n rn [0] from by
    refine ⟨?_, ?_, ?_, ?_⟩
    · have h9 := heap_alloc_new (w2.alloc (.cells #[.int .i64 0] 3)) (.cells #[.slice (some ⟨g, 0, none⟩) n n, .int .i64 (n : Int), .int .i64 (n : Int), .int .i64 rn, .slice (some ⟨w2.heap.size, 0, none⟩) 1 1] 179)
      rw [World.size_alloc] at h9
      exact h9
    · exact (G2.out.frame (fun q _ hq => W5.out.block q (by omega))).mono (Nat.le_refl _) (by omega)
    · exact (World.ownsRow_lit w2 #[.int .i64 0] 1 (by omega) (by unfold maxLen; omega) rfl).alloc _
    · intro q hq
      simp only [Value.ownBlock, Option.some.injEq] at hq
      omega)
  have z5 : ((w2.alloc (.cells #[.int .i64 0] 3)).alloc (.cells #[.slice (some ⟨g, 0, none⟩) n n, .int .i64 (n : Int), .int .i64 (n : Int), .int .i64 rn, .slice (some ⟨w2.heap.size, 0, none⟩) 1 1] 179)).heap.size = w2.heap.size + 2 := by simp
  have B5 := hide (B2.out.trans (W5.out.mono (by omega)))
  have K5 := hide (K2.out.below W5.out (by omega))
  have k1 := K5.out.c.2
  clear G2 K2 W4 W5 B2
  go_upto_region 5 with fail
  generalize (w2.alloc (.cells #[.int .i64 0] 3)).alloc (.cells #[.slice (some ⟨g, 0, none⟩) n n, .int .i64 (n : Int), .int .i64 (n : Int), .int .i64 rn, .slice (some ⟨w2.heap.size, 0, none⟩) 1 1] 179) = w5 at *
  by_cases hbd : 1 ≤ m ∧ m ≤ n
  · simp only [show decide ((1 : Int) ≤ (m : Int) ∧ (m : Int) ≤ (n : Int)) = true by rw [decide_eq_true_eq]; omega, errV, if_true] at KB
    have LN := hide (NL.out _ _ _ _ _ _ _ w5 L5.out (by omega) (by omega) (by omega) hbd.2)
    go_wp2_with fail
    refine (KB.out _).mono ?_
    rintro e w6 ⟨rfl, hw⟩
    have hw2 := hw.symm
    subst hw2
    clear hw
    go_wp2_with fail
    refine LN.out.mono ?_
    rintro e w7 ⟨sv', rfl, hL7, hb7⟩
    rw [show max [(0 : Int)].length m = m by simp; omega] at hL7
    obtain ⟨as', cs', hsv⟩ := o64_val hL7.starts
    rw [List.length_take, STL.out, Nat.min_eq_left hbd.2] at hsv
    subst hsv
    have s7 := hb7.size
    have B7 := hide (B5.out.trans (hb7.mono (by omega)))
    have K7 := hide (K5.out.below hb7 (by omega))
    have c4 := hL7.cells.2.2.2.2
    have k17 := K7.out.c.2
    have OS7 := hide (owns_in (w' := w7) OS.out SBL.out (fun q _ hq => B7.out.block q (by omega)))
    have OL7 := hide hL7.starts
    have LC7 := hide hL7
    have EQ := hide (fun b (hb : b = true ↔ (stL LS).take m = st) (W : World) (hW : W.heap = w7.heap) => equalN ((stL LS).take m) st (.slice as' m cs') (.slice a2 m c2) b W ((Rd.of_owns OL7.out).cells hW) ((Rd.of_owns OS7.out).cells hW) (by rw [List.length_take]; omega) (by rw [HM.out]; exact hst) hb)
    clear hL7 hb7 LN NL K5 L5
    by_cases hq : (stL LS).take m = st
    · have E1 := hide (fun W hW => EQ.out true (by simp [hq]) W hW)
      have YES := hide (show LV gs st from IFF.out.2 ⟨RVV.out, hbd, hq.symm⟩)
      have HQ := hide hq
      clear EQ hq
      go_upto_region 9 with fail
      go_quiet ((go_at_call 112; exact Calls.quiet_of (E1.out _ rfl)))
      have B8 := hide (show Below w.heap.size w (w7.drewN nq) from ⟨B7.out.os, B7.out.tape, B7.out.output, B7.out.size, B7.out.block⟩)
      have LC8 := hide (LC7.out.same (w' := w7.drewN nq) rfl)
      have z8 : (w7.drewN nq).heap.size = w7.heap.size := rfl
      generalize w7.drewN nq = w8 at *
      go_wp2
      refine bodyPost_ret (v := .tuple #[.pointer (some ⟨w2.heap.size + 1, 0, none⟩), .nilIface]) (by simp [results, Tryz.results54, go_sem]) rfl ?_
      refine ⟨fun _ => ⟨w2.heap.size + 1, g, .slice as' m cs', vs, rfl, by omega, ?_, B8.out⟩, fun hv => absurd YES.out hv⟩
      rw [HN.out, ← HQ.out, HRN.out]
      exact LC8.out.mono (by omega) (by omega)
    · have E1 := hide (fun W hW => EQ.out false (by simp [hq]) W hW)
      have NO := hide (show ¬ LV gs st from fun hv => hq (IFF.out.1 hv).2.2.symm)
      clear EQ hq
      go_upto_region 9 with fail
      go_quiet ((go_at_call 112; exact Calls.quiet_of (E1.out _ rfl)))
      have B8 := hide (show Below w.heap.size w (w7.drewN nq) from ⟨B7.out.os, B7.out.tape, B7.out.output, B7.out.size, B7.out.block⟩)
      generalize w7.drewN nq = w8 at *
      go_wp2
      refine bodyPost_ret (v := .tuple #[.pointer none, .iface 172 (.agg #[.string msgSts, .iface 181 (.int .i64 1)])]) (by simp [results, Tryz.results54, go_sem, msgSts]) rfl ?_
      exact ⟨fun hv => absurd hv NO.out, fun _ => ⟨_, rfl, .inl ⟨_, rfl⟩, B8.out⟩⟩
  · simp only [show decide ((1 : Int) ≤ (m : Int) ∧ (m : Int) ≤ (n : Int)) = false by rw [decide_eq_false_iff_not]; omega, errV, Bool.false_eq_true, if_false] at KB
    have NO := hide (show ¬ LV gs st from fun hv => hbd (IFF.out.1 hv).2.1)
    go_wp2_with fail
    refine (KB.out _).mono ?_
    rintro e w6 ⟨rfl, hw⟩
    have hw2 := hw.symm
    subst hw2
    clear hw
    go_wp2
    refine bodyPost_ret (v := .tuple #[.pointer none, .iface 172 (.agg #[.string msgSts, .iface 181 (.int .i64 1)])]) (by simp [results, Tryz.results54, go_sem, msgSts]) rfl ?_
    exact ⟨fun hv => absurd hv NO.out, fun _ => ⟨_, rfl, .inl ⟨_, rfl⟩, B5.out⟩⟩
end Go.Proofs.YtbgngikejgihgagGreatDoor

namespace Go.Proofs.YtbgngikejgihgagGreatDoor
open Go.RowKit Go.Extern.Stop Go.Stop Go.Extern

theorem Tryz.valueOfP (t : Addr) (w : World) : (ReflectliteValue.unpack (.iface 199 (.pointer (some t)))).run Tryz.prog w
    = .ok (.agg #[.pointer (some ⟨2, 199, none⟩), .pointer (some ⟨w.heap.size, 0, none⟩), .int .u64 150]) (w.alloc (.cells #[.pointer (some t)] 199)) := by kernel_rfl
theorem Tryz.typeP (a : Addr) (w : World) : (ReflectliteValue.methodAny (ReflectliteValue.valueError "reflectlite.Value.Type" 0) (fun t _ _ _ => ReflectliteType.toType t) #[.agg #[.pointer (some ⟨2, 199, none⟩), .pointer (some a), .int .u64 150]]).run Tryz.prog w
    = .ok (.iface 307 (.agg #[.pointer (some ⟨2, 199, none⟩)])) w := by kernel_rfl
theorem Tryz.kindP (w : World) : ((ReflectliteType.abiMethod fun t => (fun a : Nat => Value.int IntKind.u8 (a : Int)) <$> Rtype.kind t) #[.pointer (some ⟨2, 199, none⟩)]).run Tryz.prog w = .ok (.int .u8 22) w := by kernel_rfl
theorem Tryz.kindF (w : World) : ((ReflectliteType.abiMethod fun t => (fun a : Nat => Value.int IntKind.u8 (a : Int)) <$> Rtype.kind t) #[.pointer (some ⟨2, 181, none⟩)]).run Tryz.prog w = .ok (.int .u8 2) w := by kernel_rfl
theorem Tryz.partsP (a : Addr) (w : World) : (ReflectliteValue.parts (.agg #[.pointer (some ⟨2, 199, none⟩), .pointer (some a), .int .u64 150])).run Tryz.prog w = .ok (some (199, a, 150)) w := by kernel_rfl
theorem Tryz.elemP (w : World) : (ReflectliteType.method ReflectliteType.elem #[.agg #[.pointer (some ⟨2, 199, none⟩)]]).run Tryz.prog w = .ok (.iface 307 (.agg #[.pointer (some ⟨2, 181, none⟩)])) w := by kernel_rfl
theorem Tryz.implementsF (w : World) : (ReflectliteType.relation "Implements" ReflectliteType.implements_ #[.agg #[.pointer (some ⟨2, 181, none⟩)], .iface 307 (.agg #[.pointer (some ⟨2, 100, none⟩)])]).run Tryz.prog w = .ok (.bool true) w := by kernel_rfl
theorem Tryz.typeOfW (v : Value) (w : World) : (ReflectliteType.typeOf #[.iface 172 v]).run Tryz.prog w = .ok (.iface 307 (.agg #[.pointer (some ⟨2, 172, none⟩)])) w := by kernel_rfl
theorem Tryz.typeOfF (v : Value) (w : World) : (ReflectliteType.typeOf #[.iface 181 v]).run Tryz.prog w = .ok (.iface 307 (.agg #[.pointer (some ⟨2, 181, none⟩)])) w := by kernel_rfl
theorem Tryz.assignableW (w : World) : (ReflectliteType.relation "AssignableTo" ReflectliteType.assignableTo #[.agg #[.pointer (some ⟨2, 172, none⟩)], .iface 307 (.agg #[.pointer (some ⟨2, 181, none⟩)])]).run Tryz.prog w = .ok (.bool false) w := by kernel_rfl
theorem Tryz.assignableF (w : World) : (ReflectliteType.relation "AssignableTo" ReflectliteType.assignableTo #[.agg #[.pointer (some ⟨2, 181, none⟩)], .iface 307 (.agg #[.pointer (some ⟨2, 181, none⟩)])]).run Tryz.prog w = .ok (.bool true) w := by kernel_rfl
theorem Tryz.valueOfF (n : Int) (w : World) : (ReflectliteValue.unpack (.iface 181 (.int .i64 n))).run Tryz.prog w
    = .ok (.agg #[.pointer (some ⟨2, 181, none⟩), .pointer (some ⟨w.heap.size, 0, none⟩), .int .u64 130]) (w.alloc (.cells #[.int .i64 n] 181)) := by kernel_rfl
theorem Tryz.elemOfP (w : World) : (Rtype.elem? 199).run Tryz.prog w = .ok (some 181) w := by kernel_rfl
theorem Tryz.mkF (p : Addr) (w : World) : (ReflectliteValue.mk 181 p ReflectliteValue.flagAddr).run Tryz.prog w = .ok (.agg #[.pointer (some ⟨2, 181, none⟩), .pointer (some p), .int .u64 386]) w := by kernel_rfl
theorem Tryz.partsFa (a : Addr) (w : World) : (ReflectliteValue.parts (.agg #[.pointer (some ⟨2, 181, none⟩), .pointer (some a), .int .u64 386])).run Tryz.prog w = .ok (some (181, a, 386)) w := by kernel_rfl
theorem Tryz.partsF (a : Addr) (w : World) : (ReflectliteValue.parts (.agg #[.pointer (some ⟨2, 181, none⟩), .pointer (some a), .int .u64 130])).run Tryz.prog w = .ok (some (181, a, 130)) w := by kernel_rfl
theorem Tryz.directF (w : World) : (Rtype.directlyAssignable 181 181).run Tryz.prog w = .ok true w := by kernel_rfl
end Go.Proofs.YtbgngikejgihgagGreatDoor

namespace Go.Proofs.YtbgngikejgihgagGreatDoor
open Go.RowKit Go.Extern.Stop Go.Stop Go.Extern

theorem Tryz.isNilP (a p : Addr) (W : World) (ha : W.cell? a = some (.pointer (some p))) :
    (ReflectliteValue.method (ReflectliteValue.valueError "reflectlite.Value.IsNil" 0) ReflectliteValue.isNil #[.agg #[.pointer (some ⟨2, 199, none⟩), .pointer (some a), .int .u64 150]]).run Tryz.prog W = .ok (.bool false) W := by
  show (Bind.bind (ReflectliteValue.parts (.agg #[.pointer (some ⟨2, 199, none⟩), .pointer (some a), .int .u64 150])) _ : Sem Value).run Tryz.prog W = _
  simp only [Sem.run_bind, Tryz.partsP, Result.andThen]
  simp [ReflectliteValue.isNil, loadVar, isAgg, underlying, Tryz.underlying199, ha, Result.andThen]
theorem Tryz.elemVP (a p : Addr) (W : World) (ha : W.cell? a = some (.pointer (some p))) :
    (ReflectliteValue.method (ReflectliteValue.valueError "reflectlite.Value.Elem" 0) ReflectliteValue.elem #[.agg #[.pointer (some ⟨2, 199, none⟩), .pointer (some a), .int .u64 150]]).run Tryz.prog W
      = .ok (.agg #[.pointer (some ⟨2, 181, none⟩), .pointer (some p), .int .u64 386]) W := by
  show (Bind.bind (ReflectliteValue.parts (.agg #[.pointer (some ⟨2, 199, none⟩), .pointer (some a), .int .u64 150])) _ : Sem Value).run Tryz.prog W = _
  simp only [Sem.run_bind, Tryz.partsP, Result.andThen]
  simp [ReflectliteValue.elem, loadVar, isAgg, underlying, Tryz.underlying199, ha, Result.andThen, Tryz.elemOfP, Tryz.mkF]
theorem Tryz.setF (ta b : Addr) (n : Int) (old : Value) (W : World) (hb : W.cell? b = some (.int .i64 n)) (ht : W.cell? ta = some old) (hf : W.frozen? ta = false) :
    (ReflectliteValue.set #[.agg #[.pointer (some ⟨2, 181, none⟩), .pointer (some ta), .int .u64 386], .agg #[.pointer (some ⟨2, 181, none⟩), .pointer (some b), .int .u64 130]]).run Tryz.prog W
      = .ok (.tuple #[]) (W.setCell ta (.int .i64 n)) := by
  show (Bind.bind (ReflectliteValue.parts (.agg #[.pointer (some ⟨2, 181, none⟩), .pointer (some ta), .int .u64 386])) _ : Sem Value).run Tryz.prog W = _
  rw [Sem.run_bind, Tryz.partsFa]
  simp only [Result.andThen]
  show (Bind.bind (ReflectliteValue.parts (.agg #[.pointer (some ⟨2, 181, none⟩), .pointer (some b), .int .u64 130])) _ : Sem Value).run Tryz.prog W = _
  rw [Sem.run_bind, Tryz.partsF]
  simp only [Result.andThen]
  simp [ReflectliteValue.flagAddr, loadVar, isAgg, underlying, Tryz.underlying181, hb, Result.andThen, Tryz.directF, storeVar, Value.cells, storeCells, Addr.add]
  rw [run_store Tryz.prog W ta _ _ (by rfl)]
  simp [ht, hf]
end Go.Proofs.YtbgngikejgihgagGreatDoor
