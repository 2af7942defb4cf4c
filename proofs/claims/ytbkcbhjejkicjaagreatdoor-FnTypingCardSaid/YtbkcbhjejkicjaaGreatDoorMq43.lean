import Derived.Test.YtbkcbhjejkicjaaGreatDoorMq21
import Derived.Test.YtbkcbhjejkicjaaGreatDoorMq42
namespace Go.Proofs.YtbkcbhjejkicjaaGreatDoor
open Go Go.RowKit
set_option linter.unusedVariables false

/-- A piece core as an engine has it. -/
structure CP (w : World) (Z F : Nat → Prop) (c n : Nat) (tx : List Int) (ob : Option Nat) (sv : Value) (S : List Int) (T : AT) (u : Option Addr) (bs : List Nat) : Prop where
  ps : PS w 0 c ob sv S T u bs
  ok : T.ok
  bal : T.bal
  wp : T.wp S
  te : T.tx S = tx
  ns : S.length ≤ n
  bd : tx.length ≤ 8192
  off : ∀ q, (q = c ∨ ob = some q ∨ q ∈ bs) → ¬ F q
  sh : ob = none → ∀ b o l k, sv = .slice (some ⟨b, o, none⟩) l k → Z b
def CrP (w : World) (Z F : Nat → Prop) (c n : Nat) (tx : List Int) : Prop := ∃ ob sv S T u bs, CP w Z F c n tx ob sv S T u bs
theorem CP.lt {w : World} {Z F : Nat → Prop} {c n : Nat} {tx : List Int} {ob : Option Nat} {sv : Value} {S : List Int} {T : AT} {u : Option Addr} {bs : List Nat} (h : CP w Z F c n tx ob sv S T u bs) {q : Nat} (hq : q = c ∨ ob = some q ∨ q ∈ bs) : q < w.heap.size := by
  rcases hq with rfl | hq | hq
  · exact (Array.getElem?_eq_some_iff.1 h.ps.k).1
  · rcases h.ps.st with ⟨h1, h2⟩ | ⟨h1, _⟩
    · exact (h1.lt q (h2.trans hq)).2
    · rw [h1] at hq; cases hq
  · exact (h.ps.t.lt q hq).2
theorem CrP.step {w w' : World} {Z F Z' F' : Nat → Prop} {c n : Nat} {tx : List Int} (h : CrP w Z F c n tx) (hZ : Kz Z w w') (hk : ∀ q, q < w.heap.size → ¬ F q → w'.heap[q]? = w.heap[q]?) (hs : w.heap.size ≤ w'.heap.size) (hz : ∀ q, Z q → Z' q) (hF : ∀ q, F' q → F q ∨ w.heap.size ≤ q) : CrP w' Z' F' c n tx := by
  obtain ⟨ob, sv, S, T, u, bs, h⟩ := h
  have kp : ∀ q, (q = c ∨ ob = some q ∨ q ∈ bs) → w'.heap[q]? = w.heap[q]? := fun q hq => hk q (h.lt hq) (h.off q hq)
  refine ⟨ob, sv, S, T, u, bs, ⟨(kp c (.inl rfl)).trans h.ps.k, h.ps.t.frame (fun q hq => kp q (.inr (.inr hq))), h.ps.nd, h.ps.cb, ?_, h.ps.sb, h.ps.n⟩, h.ok, h.bal, h.wp, h.te, h.ns, h.bd, fun q hq hf => ?_, fun e b o l k e2 => hz b (h.sh e b o l k e2)⟩
  · rcases h.ps.st with ⟨h1, h2⟩ | ⟨h1, b, o, h2, h3⟩
    · exact .inl ⟨owns_of_block h1 (fun q hq => kp q (.inr (.inl (h2.symm.trans hq)))), h2⟩
    · exact .inr ⟨h1, b, o, h2, fun i hi => (World.cell?_of_block (a := ⟨b, o + i, none⟩) (hZ b (h.sh h1 b o _ _ h2))).trans (h3 i hi)⟩
  · rcases hF q hf with h9 | h9
    · exact h.off q hq h9
    · have := h.lt hq; omega
theorem insCP : ∀ (w : World) (Z F : Nat → Prop) c n tx (off : Nat) v ts, CrP w Z F c n tx → (∀ q, F q → q < w.heap.size) → (∀ q, Z q → F q) → HT w Z v ts → 0 < ts.length → off ≤ tx.length → tx.length + ts.length ≤ 8192 → n + ts.length ≤ 220000 →
    Calls Tryz.prog 238 #[.pointer (some ⟨c, 0, none⟩), .int .i64 off, v] w fun e w' => e = .returned (.tuple #[]) ∧ CrP w' Z F c (n + ts.length) (putT tx off ts) ∧ ChgP w w' (fun q => ¬ F q) := by
  rintro w Z F c n tx off v ts ⟨ob, sv, S, T, u, bs, h⟩ hF hZ hT h0 hof hb hn
  obtain ⟨bT, o, ct, rfl, t1, t2, t3, t4, t5⟩ := hT.parts
  obtain ⟨sa, sk, rfl⟩ : ∃ sa sk, sv = .slice sa S.length sk := by
    rcases h.ps.st with ⟨h1, h2⟩ | ⟨h1, b, o, h2, h3⟩
    · rcases h1.2 with ⟨e, e0⟩ | ⟨g', cap', cur, e, _⟩
      · exact ⟨none, 0, by rw [e, e0]⟩
      · exact ⟨_, _, e⟩
    · exact ⟨_, _, h2⟩
  have hrn : T.rns = (tx.length : Int) := by rw [← AT.tx_len h.wp, h.te]
  have hns := h.ns
  refine (insertO S ts T u bs 0 c ct sa sk ob off ⟨bT, o, none⟩ w h.ps h.ok h.bal h.wp (by omega) (by omega) (Nat.zero_le _) h0 (by omega) (by omega) (fun j x hj => by
    have hjl : j < ts.length := by have := (List.getElem?_eq_some_iff.1 hj).1; rw [ints_length] at this; exact this
    have h9 := t5 j hjl
    have e : x = .int .i32 (ts.getD j 0) := by
      simp only [ints, List.getElem?_map] at hj
      rw [List.getElem?_eq_getElem hjl] at hj
      simp at hj
      rw [← hj]; simp [List.getD_eq_getElem?_getD, hjl]
    rw [e]; first | exact h9 | (rw [addr_add]; exact h9) | simpa [Addr.add] using h9)).mono ?_
  rintro e w' ⟨rfl, u', bs', g, cap', hP, hsub, hg, hC⟩
  obtain ⟨r1, r2, _⟩ := insP_wp_rns (zs := S) (ts := ts) (T := T) (off := off) h.ok h.wp (by omega) (by omega) h0
  have r3 := insP_ok (S := S ++ ts) (n := S.length) (T := T) (off := off) h.ok (h.wp.app ts) (by omega) (by omega) (by simp; omega) (by simp; omega) (by simp; omega)
  have r4 := insP_bal (S := S ++ ts) (n := S.length) (T := T) (off := off) h.bal
  have r5 := insP_tx (zs := S) (ts := ts) (T := T) (off := off) h.ok h.wp (by omega) (by omega)
  rw [h.te, Int.toNat_natCast] at r5
  have fr : ∀ q, F q → q < w.heap.size := hF
  have nl : ∀ q, F q → q ∉ c :: (ob.toList ++ bs) := fun q hq h9 => by
    rcases List.mem_cons.1 h9 with h8 | h8
    · exact h.off q (.inl h8) hq
    · rcases List.mem_append.1 h8 with h7 | h7
      · exact h.off q (.inr (.inl (by simpa using h7))) hq
      · exact h.off q (.inr (.inr h7)) hq
  refine ⟨rfl, ⟨_, _, S ++ ts, _, u', bs', hP, r3, r4, r1, by rw [r5, putT]; simp, by simp; omega, by rw [putT]; simp; omega, fun q hq hf => ?_, fun e => by cases e⟩, hC.os, hC.tape, hC.output, hC.size, fun q hq hn => hC.block q hq (nl q (Classical.not_not.1 hn))⟩
  have hql := fr q hf
  rcases hq with rfl | hq | hq
  · exact h.off _ (.inl rfl) hf
  · rcases hg with h9 | h9
    · exact h.off q (.inr (.inl (h9.trans hq))) hf
    · simp at hq; omega
  · rcases hsub q hq with h9 | h9
    · exact h.off q (.inr (.inr h9)) hf
    · omega
theorem sliCP : ∀ (w : World) (Z F : Nat → Prop) c n tx (lo hi : Nat), CrP w Z F c n tx → tx ≠ [] → lo ≤ hi → hi ≤ tx.length →
    Calls Tryz.prog 246 #[.pointer (some ⟨c, 0, none⟩), .int .i64 lo, .int .i64 hi] w fun e w' => ∃ v, e = .returned v ∧ own32 w' w.heap.size v ((tx.take hi).drop lo) ∧ Below w.heap.size w w' := by
  rintro w Z F c n tx lo hi ⟨ob, sv, S, T, u, bs, h⟩ h0 h1 h2
  have hrn : T.rns = (tx.length : Int) := by rw [← AT.tx_len h.wp, h.te]
  have hns := h.ps.n
  have key : ∃ b o k, sv = .slice (some ⟨b, o, none⟩) S.length k ∧ At32 w b o S ∧ b < w.heap.size ∧ S.length ≤ k ∧ k ≤ maxLen := by
    rcases h.ps.st with ⟨h3, h4⟩ | ⟨h3, b, o, h4, h5⟩
    · rcases h3.2 with ⟨e, e0⟩ | ⟨g', cap', cur, e, _, e2, e3, e4, _⟩
      · exfalso
        have hS : S = [] := List.eq_nil_of_length_eq_zero e0
        apply h0
        rw [← h.te, hS]
        have hf := (wp_flat S T).1 h.wp
        have hfl : T.flat = [] := by
          cases hh : T.flat with
          | nil => rfl
          | cons p r =>
            have hm : p ∈ T.flat := by rw [hh]; simp
            have h7 := hf p hm
            have h8 := flat_pos h.ok p hm
            rw [hS] at h7
            obtain ⟨a1, a2, a3, _⟩ := h7
            simp at a3
            omega
        rw [tx_flat, hfl]; rfl
      · subst e
        exact ⟨g', 0, cap', rfl, fun i hi => by rw [Nat.zero_add]; exact owns_cell h3 i hi, (h3.lt g' rfl).2, e3, e4⟩
    · have hb : b < w.heap.size := by
        cases hS : S with
        | nil =>
          exfalso
          apply h0
          rw [← h.te]
          have hf := (wp_flat S T).1 h.wp
          have hfl : T.flat = [] := by
            cases hh : T.flat with
            | nil => rfl
            | cons p r =>
              have hm : p ∈ T.flat := by rw [hh]; simp
              have h7 := hf p hm
              have h8 := flat_pos h.ok p hm
              rw [hS] at h7
              obtain ⟨a1, a2, a3, _⟩ := h7
              simp at a3
              omega
          rw [tx_flat, hfl]; rfl
        | cons z r => exact World.block_lt_of_cell? w _ (h5 0 (by rw [hS]; simp))
      exact ⟨b, o, S.length, h4, h5, hb, Nat.le_refl _, by unfold maxLen; omega⟩
  obtain ⟨b, o, k, rfl, k1, k2, k3, k4⟩ := key
  refine (sliceN T 0 c b o k S lo hi w ⟨⟨u, bs, h.ps.k, h.ps.t⟩, k1, k2, h.ok, h.wp, by omega, k3, k4⟩ (by omega)).mono ?_
  rintro e w' ⟨v, rfl, hv, hb⟩
  refine ⟨v, rfl, ?_, hb⟩
  have e1 : cutT (T.tx S) lo hi = (tx.take hi).drop lo := by
    rw [h.te, cutT, Int.toNat_natCast, Int.toNat_natCast, List.drop_take]
  rw [← e1]; exact hv
set_option maxHeartbeats 1000000 in
theorem lenCP : ∀ (w : World) (Z F : Nat → Prop) c n tx, CrP w Z F c n tx → Calls Tryz.prog 239 #[.pointer (some ⟨c, 0, none⟩)] w fun e w' => e = .returned (.int .i64 (tx.length : Nat)) ∧ Below w.heap.size w w' := by
  rintro w Z F c n tx ⟨ob, sv, S, T, u, bs, h⟩
  have HR := hide (show T.rns = (tx.length : Int) by rw [← AT.tx_len h.wp, h.te])
  have c1 : w.cell? ⟨c, 1, none⟩ = some (.pointer u) := by rw [cell_of_row w _ 1 _ _ _ h.ps.k]; rfl
  have HA := hide (allN T u bs 0 w h.ps.t)
  clear h
  go_enter Tryz.func239, Tryz.ntmps239
  go_wp2_with fail
  refine HA.out.mono ?_
  rintro e w1 ⟨rfl, hb1⟩
  have HB1 := hide hb1
  have fl1 := Tryz.fld1
  unfold cnt
  clear hb1
  go_wp2
  go_ret
  exact ⟨by rw [← HR.out]; rfl, HB1.out⟩
set_option maxHeartbeats 1000000 in
theorem brkCP : ∀ (w : World) (Z F : Nat → Prop) c n tx, CrP w Z F c n tx → Calls Tryz.prog 237 #[.pointer (some ⟨c, 0, none⟩)] w fun e w' => e = .returned (.int .i64 (brk tx)) ∧ Below w.heap.size w w' := by
  rintro w Z F c n tx ⟨ob, sv, S, T, u, bs, h⟩
  have HR := hide (show brk tx = T.bks by rw [← h.te, AT.tx_brk h.wp])
  have c1 : w.cell? ⟨c, 1, none⟩ = some (.pointer u) := by rw [cell_of_row w _ 1 _ _ _ h.ps.k]; rfl
  have HA := hide (allN T u bs 0 w h.ps.t)
  clear h
  go_enter Tryz.func237, Tryz.ntmps237
  go_wp2_with fail
  refine HA.out.mono ?_
  rintro e w1 ⟨rfl, hb1⟩
  have HB1 := hide hb1
  have fl2 := Tryz.fld2
  unfold cnt
  clear hb1
  go_wp2
  go_ret
  exact ⟨by rw [HR.out]; rfl, HB1.out⟩
theorem loadCP : ∀ (w : World) (Z F : Nat → Prop) v ts, HT w Z v ts → (∀ q, F q → q < w.heap.size) → ts.length ≤ 8192 →
    Calls Tryz.prog 40 #[v] w fun e w' => ∃ c, e = .returned (.pointer (some ⟨c, 0, none⟩)) ∧ w.heap.size ≤ c ∧ CrP w' Z F c ts.length ts ∧ Below w.heap.size w w' := by
  rintro w Z F v ts ⟨b, ct, rfl, hT, hZ⟩ hF hl
  obtain ⟨_, _, _, e, t1, t2, _⟩ := HT.parts ⟨b, ct, rfl, hT, hZ⟩
  simp only [Value.slice.injEq, true_and] at e
  obtain ⟨_, rfl⟩ := e
  obtain ⟨a1, a2, a3, a4⟩ := ldT_all ts hl
  refine (loadN 0 ts b ct w hT ⟨t1, t2⟩ hl a1).mono ?_
  rintro e w' ⟨c, u, bs, rfl, hc1, hc2, hk, ht, hnd, hcb, hb⟩
  have hbw : b < w.heap.size := (hT.lt b rfl).2
  refine ⟨c, rfl, hc1, ⟨none, .slice (some ⟨b, 0, none⟩) ts.length ts.length, ts, ldT ts, u, bs, ⟨hk, Lies.base (Nat.zero_le _) ht, hnd, hcb, .inr ⟨rfl, b, 0, rfl, fun i hi => ?_⟩, (fun q hq => by cases hq), by omega⟩, a1, a2, a3, ldT_tx ts hl, Nat.le_refl _, hl, fun q hq hf => ?_, fun _ b' o' l' k' e' => ?_⟩, hb⟩
  · refine (hb.cell (p := ⟨b, 0 + i, none⟩) hbw).trans ?_
    rw [Nat.zero_add]; exact owns_cell hT i hi
  · have := hF q hf
    rcases hq with rfl | hq | hq
    · omega
    · cases hq
    · have := (ht.lt q hq).1; omega
  · simp only [Value.slice.injEq, Option.some.injEq, Addr.mk.injEq] at e'
    rw [← e'.1.1]; exact hZ
end Go.Proofs.YtbkcbhjejkicjaaGreatDoor

namespace Go.Proofs.YtbkcbhjejkicjaaGreatDoor
open Go Go.RowKit Go.Sort
set_option linter.unusedVariables false
theorem CrL.len {w : World} {Z F : Nat → Prop} {c n : Nat} {tx : List Int} (h : CrL w Z F c n tx) : tx.length ≤ 8192 ∧ c < w.heap.size := by
  obtain ⟨g, cap, n, a, b, mm, sv, vs, ps, h⟩ := h
  exact ⟨h.bd, h.cr.cos (.inl rfl)⟩
theorem CrP.len {w : World} {Z F : Nat → Prop} {c n : Nat} {tx : List Int} (h : CrP w Z F c n tx) : tx.length ≤ 8192 ∧ c < w.heap.size := by
  obtain ⟨ob, sv, S, T, u, bs, h⟩ := h
  exact ⟨h.bd, (Array.getElem?_eq_some_iff.1 h.ps.k).1⟩
/-- The line core. -/
def KL : Core where
  ty := 113
  live := 1
  fLen := 209
  fBrk := 207
  fIns := 208
  fSli := 216
  Cr := CrL
  mLen := fun c w => by kernel_rfl
  mBrk := fun c w => by kernel_rfl
  mIns := fun c w => by kernel_rfl
  mSli := fun c w => by kernel_rfl
  eLen := Go.Proofs.enters_of Tryz.func209 (by kernel_rfl) rfl
  eBrk := Go.Proofs.enters_of Tryz.func207 (by kernel_rfl) rfl
  eIns := Go.Proofs.enters_of Tryz.func208 (by kernel_rfl) rfl
  eSli := Go.Proofs.enters_of Tryz.func216 (by kernel_rfl) rfl
  step := fun h a b c d e => h.step a b c d e
  len := fun h => h.len
/-- The piece core. -/
def KP : Core where
  ty := 115
  live := 0
  fLen := 239
  fBrk := 237
  fIns := 238
  fSli := 246
  Cr := CrP
  mLen := fun c w => by kernel_rfl
  mBrk := fun c w => by kernel_rfl
  mIns := fun c w => by kernel_rfl
  mSli := fun c w => by kernel_rfl
  eLen := Go.Proofs.enters_of Tryz.func239 (by kernel_rfl) rfl
  eBrk := Go.Proofs.enters_of Tryz.func237 (by kernel_rfl) rfl
  eIns := Go.Proofs.enters_of Tryz.func238 (by kernel_rfl) rfl
  eSli := Go.Proofs.enters_of Tryz.func246 (by kernel_rfl) rfl
  step := fun h a b c d e => h.step a b c d e
  len := fun h => h.len
theorem askL : AskK KL := ⟨lenL, brkL⟩
theorem askP : AskK KP := ⟨lenCP, brkCP⟩
theorem insKL : InsK KL (fun ts => 10 ∉ ts) := insL
theorem insKP : InsK KP (fun _ => True) := fun w Z F c n tx off v ts h h1 h2 h3 _ => insCP w Z F c n tx off v ts h h1 h2 h3
theorem sliKL : SliK KL (fun tx => tx ≠ []) := sliL
theorem sliKP : SliK KP (fun tx => tx ≠ []) := sliCP
end Go.Proofs.YtbkcbhjejkicjaaGreatDoor

namespace Go.Proofs.YtbkcbhjejkicjaaGreatDoor
open Go Go.RowKit Go.Sort
set_option linter.unusedVariables false
set_option maxHeartbeats 2000000 in
set_option maxRecDepth 100000 in
theorem newEng (ty : TypeId) (p : Value) (h : Int) (w : World) :
    Calls Tryz.prog 23 #[.iface ty p, .int .i64 h] w fun e w' => e = .returned (.pointer (some ⟨w.heap.size, 0, none⟩)) ∧ w'.heap[w.heap.size]? = some (.cells #[.slice none 0 0, .slice none 0 0, .slice none 0 0, .int .i64 (min (max h 1) 1000), .bool false, .slice none 0 0, .iface ty p, .pointer none, .pointer none, .pointer none, .pointer none, .pointer none, .pointer none, .pointer none, .pointer none, .int .i64 0] 112 (0, 0)) ∧ w'.heap.size = w.heap.size + 1 ∧ Below w.heap.size w w' := by
  go_enter Tryz.func23, Tryz.ntmps23
  go_wp2
  go_ret
  exact ⟨rfl, heap_alloc_new _ _, by simp, bA (Below.refl _ w) _⟩
/-- A new engine's state. -/
def ens0 (tx : List Int) (lim : Nat) : Ens := ⟨tx, [], [], [], lim, false, [], [none, none, none, none, none, none, none, none], 0⟩
theorem EM.new {K : Core} {w w' : World} {Z F : Nat → Prop} {c n lim : Nat} {tx : List Int} (hc : K.Cr w Z F c n tx) (hn : n ≤ 8192) (hl : 1 ≤ lim ∧ lim ≤ 1000) (hZ : ∀ q, Z q → F q) (hF : ∀ q, F q → q < w.heap.size) (hb : Below w.heap.size w w') (hs : w'.heap.size = w.heap.size + 1)
    (hr : w'.heap[w.heap.size]? = some (.cells #[.slice none 0 0, .slice none 0 0, .slice none 0 0, .int .i64 (lim : Nat), .bool false, .slice none 0 0, .iface K.ty (.pointer (some ⟨c, 0, none⟩)), .pointer none, .pointer none, .pointer none, .pointer none, .pointer none, .pointer none, .pointer none, .pointer none, .int .i64 0] 112 (0, 0))) :
    EM K w' Z F w.heap.size c n (.slice none 0 0) (.slice none 0 0) (.slice none 0 0) (.slice none 0 0) [.pointer none, .pointer none, .pointer none, .pointer none, .pointer none, .pointer none, .pointer none, .pointer none] (fun q => F q ∨ q = w.heap.size) (ens0 tx lim) := by
  refine ⟨⟨_, _, _, _, _, _, _, _, rfl, hr⟩, HM.nil, SG.nil, SG.nil, fun h9 => (by cases h9), ⟨_, _, _, rfl⟩, ⟨rfl, rfl, fun i v k h1 h2 => ?_⟩, ?_, by simp [ens0]; omega, by simp [ens0], hl, by simp [ens0], ⟨?_, fun x hx => by cases hx⟩, hZ, fun q hq => .inl hq, fun q hq => ?_, ⟨.inr rfl, fun h9 => by have := hF _ h9; omega⟩, fun q hq => by simp [Value.ownBlock] at hq, fun q hq => by simp [Value.ownBlock] at hq, fun h9 => (by cases h9)⟩
  · match i, h1, h2 with
    | 0, h1, h2 | 1, h1, h2 | 2, h1, h2 | 3, h1, h2 | 4, h1, h2 | 5, h1, h2 | 6, h1, h2 | 7, h1, h2 => cases h1; cases h2; rfl
    | i + 8, h1, h2 => simp at h1
  · exact K.step hc (fun q hq => hb.block q (hF q (hZ q hq))) (fun q hq _ => hb.block q hq) hb.size (fun q hq => hq) (fun q hq => hq.imp id (fun e => by omega))
  · exact ⟨by simp [ens0], (fun x hx => by cases hx), .nil⟩
  · rcases hq with h9 | rfl
    · have := hF q h9; omega
    · omega
end Go.Proofs.YtbkcbhjejkicjaaGreatDoor

namespace Go.Proofs.YtbkcbhjejkicjaaGreatDoor
open Go Go.RowKit Go.Sort
set_option linter.unusedVariables false
theorem okNil : AT.nil.ok := ⟨(fun p hp => by simp [AT.flat] at hp), by simp [AT.rns]⟩
set_option maxHeartbeats 2000000 in
set_option maxRecDepth 100000 in
theorem loadP0 (w : World) (Z F : Nat → Prop) (hF : ∀ q, F q → q < w.heap.size) :
    Calls Tryz.prog 40 #[.slice none 0 0] w fun e w' => ∃ c, e = .returned (.pointer (some ⟨c, 0, none⟩)) ∧ w.heap.size ≤ c ∧ CrP w' Z F c 0 [] ∧ Below w.heap.size w w' := by
  have CL := hide (fun W => clip32N none 0 0 W (Nat.le_refl _) (Nat.zero_le _))
  have MD := hide (fun (W : World) => middledN 0 [] W.heap.size (.slice none 0 0) W (Nat.le_refl _) (OwP.rd (show OwP W W.heap.size (.slice none 0 0) [] from ⟨rfl, .inl ⟨rfl, rfl⟩⟩)) (Nat.le_refl _) (by simp) okNil)
  have HF := hide hF
  clear hF
  go_enter Tryz.func40, Tryz.ntmps40
  go_wp2_with fail
  refine (CL.out _).mono ?_
  rintro e w1 ⟨rfl, hw⟩
  subst hw
  have A0 := hide ((Below.refl w1.heap.size w1).alloc (Nat.le_refl _) (.cells #[.slice none 0 0, .pointer none] 152))
  have K0 := hide (show (w1.alloc (.cells #[.slice none 0 0, .pointer none] 152)).heap[w1.heap.size]? = some (.cells #[.slice none 0 0, .pointer none] 152 (0, 0)) from heap_alloc_new _ _)
  have hs0 : (w1.alloc (.cells #[.slice none 0 0, .pointer none] 152)).heap.size = w1.heap.size + 1 := by simp
  go_wp2_with fail
  generalize w1.alloc (.cells #[.slice none 0 0, .pointer none] 152) = w2 at *
  go_loopw [4, 5] (fun pv ov wr => pv = .slice none 0 0 ∧ ov = .int .i64 0 ∧ wr = w2) (fun _ _ _ => 0)
  case atStart => exact ⟨rfl, rfl, rfl⟩
  case round =>
    obtain ⟨rfl, rfl, rfl⟩ := hrel
    go_wp2_with fail
    refine (MD.out _).mono ?_
    rintro e x5 ⟨u5, bs5, rfl, hl5, hn5, hb5⟩
    obtain ⟨rfl, rfl⟩ := hl5
    have K5 := hide ((hb5.block w1.heap.size (by omega)).trans K0.out)
    have B5 := hide (A0.out.trans (hb5.mono (by omega)))
    have z5 := hb5.size
    have f5 := frozen_of_row x5 w1.heap.size 1 _ _ K5.out
    have c5 : x5.cell? ⟨w1.heap.size, 1, none⟩ = some (.pointer none) := by rw [cell_of_row x5 _ 1 _ _ _ K5.out]; rfl
    clear hb5 hn5
    go_wp2
    refine bodyPost_ret (v := .pointer (some ⟨w1.heap.size, 0, none⟩)) (by simp [results, Tryz.results40, go_sem]) rfl ⟨w1.heap.size, rfl, Nat.le_refl _, ⟨none, .slice none 0 0, [], .nil, none, [], ⟨?_, ⟨rfl, rfl⟩, List.nodup_nil, by simp, .inl ⟨⟨rfl, .inl ⟨rfl, rfl⟩⟩, rfl⟩, (fun q hq => by cases hq), by simp⟩, okNil, ?_, ?_, rfl, by simp, by simp, fun q hq hf => ?_, fun _ b o l k e => by cases e⟩, B5.out.setCell (Nat.le_refl _) _⟩
    · have h9 := heap_setCell_same x5 w1.heap.size 1 _ _ (.pointer none) K5.out
      simpa using h9
    · trivial
    · first | trivial | (simp [AT.wp])
    · have := HF.out q hf
      rcases hq with rfl | hq | hq
      · omega
      · cases hq
      · cases hq
end Go.Proofs.YtbkcbhjejkicjaaGreatDoor

namespace Go.Proofs.YtbkcbhjejkicjaaGreatDoor
open Go Go.RowKit Go.Sort
set_option linter.unusedVariables false
set_option maxHeartbeats 2000000 in
theorem loadC0 (w : World) (Z F : Nat → Prop) (hF : ∀ q, F q → q < w.heap.size) (live : Int) (hl : live ≠ 1) :
    Calls Tryz.prog 24 #[.int .i64 live, .slice none 0 0] w fun e w' => ∃ c, e = .returned (.iface KP.ty (.pointer (some ⟨c, 0, none⟩))) ∧ w.heap.size ≤ c ∧ KP.Cr w' Z F c 0 [] ∧ Below w.heap.size w w' := by
  have LP := hide (loadP0 w Z F hF)
  clear hF
  go_enter Tryz.func24, Tryz.ntmps24
  go_wp2_with fail
  all_goals
    refine LP.out.mono ?_
    rintro e w' ⟨c, rfl, h1, h2, h3⟩
    have R := hide (And.intro h1 (And.intro h2 h3))
    clear h1 h2 h3
    go_wp2
    go_ret
    exact ⟨c, rfl, R.out.1, R.out.2.1, R.out.2.2⟩
end Go.Proofs.YtbkcbhjejkicjaaGreatDoor

namespace Go.Proofs.YtbkcbhjejkicjaaGreatDoor
open Go Go.RowKit Go.Sort
set_option linter.unusedVariables false
set_option maxHeartbeats 2000000 in
set_option maxRecDepth 100000 in
theorem holdF (w : World) (f E : Nat) (cs : Array Value) (v0 v1 : Value) (h : w.heap[f]? = some (.cells cs 56 (0, 0))) (h0 : cs[0]? = some v0) (h1 : cs[1]? = some v1) :
    Calls Tryz.prog 22 #[.pointer (some ⟨f, 0, none⟩), .pointer (some ⟨E, 0, none⟩)] w fun e w' => e = .returned (.tuple #[]) ∧ w' = (w.setCell ⟨f, 0, none⟩ (.pointer (some ⟨E, 0, none⟩))).setCell ⟨f, 1, none⟩ (.func (.func 38) #[.pointer (some ⟨E, 0, none⟩)] #[]) := by
  have hsf := Tryz.stF
  have c0 : w.cell? ⟨f, 0, none⟩ = some v0 := by rw [cell_of_row _ _ 0 _ _ _ h]; exact h0
  have c1 : w.cell? ⟨f, 1, none⟩ = some v1 := by rw [cell_of_row _ _ 1 _ _ _ h]; exact h1
  have f0 := frozen_of_row w f 0 _ _ h
  have f1 := frozen_of_row w f 1 _ _ h
  clear h h0 h1
  go_enter Tryz.func22, Tryz.ntmps22
  go_wp2
  refine bodyPost_end (v := .tuple #[]) (by simp [results, Tryz.results22]) rfl ⟨rfl, rfl⟩
end Go.Proofs.YtbkcbhjejkicjaaGreatDoor

namespace Go.Proofs.YtbkcbhjejkicjaaGreatDoor
open Go Go.RowKit Go.Sort
set_option linter.unusedVariables false
theorem EM.c6 {K : Core} {w : World} {Z F FC : Nat → Prop} {E c n : Nat} {mv dv uv cv : Value} {ss : List Value} {M : Ens} (h : EM K w Z F E c n mv dv uv cv ss FC M) : w.cell? ⟨E, 6, none⟩ = some (.iface K.ty (.pointer (some ⟨c, 0, none⟩))) := by
  obtain ⟨s0, s1, s2, s3, s4, s5, s6, s7, hss, hb⟩ := h.blk
  rw [cell_of_row _ _ 6 _ _ _ hb]; rfl
set_option maxHeartbeats 2000000 in
set_option maxRecDepth 100000 in
theorem wholeE {K : Core} {P : List Int → Prop} {Z F FC : Nat → Prop} {E c n : Nat} {mv dv uv cv : Value} {ss : List Value} {M : Ens} {w : World} (hA : AskK K) (hS : SliK K P) (h : EM K w Z F E c n mv dv uv cv ss FC M) (hP : P M.tx) :
    Calls Tryz.prog 42 #[.pointer (some ⟨E, 0, none⟩)] w fun e w' => ∃ v, e = .returned v ∧ own32 w' w.heap.size v M.tx ∧ Below w.heap.size w w' := by
  have H := hide h
  have IC := hide (show ∀ y, Below w.heap.size w y → y.cell? ⟨E, 6, none⟩ = some (.iface K.ty (.pointer (some ⟨c, 0, none⟩))) from fun y hy => (h.below hy).c6)
  have AL := hide (fun (y : World) (hy : Below w.heap.size w y) => hA.len _ _ _ _ _ _ (h.below hy).cr)
  have AS := hide (fun (y : World) (hy : Below w.heap.size w y) => hS y Z FC c n M.tx 0 M.tx.length (h.below hy).cr hP (Nat.zero_le _) (Nat.le_refl _))
  have hm := K.mLen
  have he := K.eLen
  have hm2 := K.mSli
  have he2 := K.eSli
  clear h hA hS hP
  generalize hM : M.tx.length = m at *
  have HM := hide hM
  clear hM
  go_enter Tryz.func42, Tryz.ntmps42
  go_upto_region 1 with fail
  refine (wpIn_wide (n := 6)).1 ?_
  refine regionC (fun y => y.cell? ⟨E, 6, none⟩ = some (.iface K.ty (.pointer (some ⟨c, 0, none⟩)))) (by kernel_rfl) ?_
  refine tk 0 (.pointer (some ⟨E, 0, none⟩)) ?_ ?_
  · intro y hC; go_simp
  go_simp
  refine tk 1 (.pointer (some ⟨E, 0, none⟩)) ?_ ?_
  · intro y hC; go_simp
  go_simp
  refine tk 2 (.pointer (some ⟨E, 6, none⟩)) ?_ ?_
  · intro y hC; go_simp
  go_simp
  refine tk 3 (.iface K.ty (.pointer (some ⟨c, 0, none⟩))) ?_ ?_
  · intro y hC; go_simp
  go_simp
  refine tk 4 (.pointer (some ⟨E, 0, none⟩)) ?_ ?_
  · intro y hC; go_simp
  go_simp
  refine tk 5 (.pointer (some ⟨E, 0, none⟩)) ?_ ?_
  · intro y hC; go_simp
  go_simp
  refine tk 6 (.pointer (some ⟨E, 6, none⟩)) ?_ ?_
  · intro y hC; go_simp
  go_simp
  refine tk 7 (.iface K.ty (.pointer (some ⟨c, 0, none⟩))) ?_ ?_
  · intro y hC; go_simp
  go_simp
  refine tk 9 (.iface K.ty (.pointer (some ⟨c, 0, none⟩))) ?_ ?_
  · intro y hC; go_simp
  go_simp
  refine tk 10 (.iface K.ty (.pointer (some ⟨c, 0, none⟩))) ?_ ?_
  · intro y hC; go_simp
  go_simp
  obtain ⟨y0, hy⟩ : ∃ y, y = w.drew := ⟨_, rfl⟩
  rw [← hy]
  have BY0 := hide (show Below w.heap.size w y0 from by rw [hy]; exact drewB rfl rfl rfl rfl)
  clear hy
  refine on 8 (IC.out _ BY0.out) ?_
  gi_wp2_with fail
  refine ⟨trivial, (callsIn_wide.2 (AL.out _ BY0.out)).mono ?_⟩
  rintro e y1 ⟨rfl, hb1⟩
  have BY1 := hide (BY0.out.trans (hb1.mono BY0.out.size))
  clear hb1 BY0
  gi_wp2_with fail
  refine on 11 (IC.out _ BY1.out) ?_
  gi_wp2_with fail
  have SL := hide (AS.out _ BY1.out)
  refine ⟨trivial, (callsIn_wide.2 SL.out).mono ?_⟩
  rintro e y2 ⟨v, rfl, ho2, hb2⟩
  have O2 := hide (show own32 y2 w.heap.size v M.tx from by
    have h9 := owns_base ho2 BY1.out.size
    rw [show (M.tx.take m).drop 0 = M.tx from by rw [← HM.out, List.take_of_length_le (Nat.le_refl _)]; rfl] at h9
    exact h9)
  have BY2 := hide (BY1.out.trans (hb2.mono BY1.out.size))
  clear hb2 ho2 SL BY1 AS AL
  obtain ⟨va, vk, rfl⟩ := own32_val O2.out
  gi_wp2_with fail
  refine on 12 (IC.out _ BY2.out) ?_
  gi_wp2_with fail
  refine doneC (by kernel_rfl) (IC.out _ BY2.out) ?_ _
  go_wp2
  go_ret
  exact ⟨_, rfl, O2.out, BY2.out⟩
end Go.Proofs.YtbkcbhjejkicjaaGreatDoor

namespace Go.Proofs.YtbkcbhjejkicjaaGreatDoor
open Go Go.RowKit Go.Sort
set_option linter.unusedVariables false
theorem HS.ptr {w : World} {Z : Nat → Prop} {v : Value} : ∀ {k : Option Kpt}, HS w Z v k → ∃ p, v = .pointer p
  | none, h => ⟨_, h⟩
  | some k, ⟨p, tv, mv, dv, uv, e, _⟩ => ⟨_, e⟩
set_option maxHeartbeats 2000000 in
set_option maxRecDepth 100000 in
theorem overW (w : World) (E : Nat) (ma da ua ca : Option Addr) (ml dl ul cl mk dk uk ck : Nat) (lim sp : Int) (op : Bool) (ty ty' : TypeId) (p p' : Value) (s0 s1 s2 s3 s4 s5 s6 s7 : Option Addr)
    (h : w.heap[E]? = some (.cells #[.slice ma ml mk, .slice da dl dk, .slice ua ul uk, .int .i64 lim, .bool op, .slice ca cl ck, .iface ty p, .pointer s0, .pointer s1, .pointer s2, .pointer s3, .pointer s4, .pointer s5, .pointer s6, .pointer s7, .int .i64 sp] 112 (0, 0))) :
    Calls Tryz.prog 41 #[.pointer (some ⟨E, 0, none⟩), .iface ty' p'] w fun e w' => e = .returned (.pointer (some ⟨w.heap.size, 0, none⟩)) ∧ w'.heap[w.heap.size]? = some (.cells #[.slice ma ml mk, .slice da dl dk, .slice ua ul uk, .int .i64 lim, .bool op, .slice ca cl ck, .iface ty' p', .pointer s0, .pointer s1, .pointer s2, .pointer s3, .pointer s4, .pointer s5, .pointer s6, .pointer s7, .int .i64 sp] 112 (0, 0)) ∧ w'.heap.size = w.heap.size + 1 ∧ Below w.heap.size w w' := by
  have hl : E < w.heap.size := (Array.getElem?_eq_some_iff.1 h).1
  have x0 : w.cell? ⟨E, 0, none⟩ = some (.slice ma ml mk) := by rw [cell_of_row w E 0 _ _ _ h]; rfl
  have x1 : w.cell? ⟨E, 1, none⟩ = some (.slice da dl dk) := by rw [cell_of_row w E 1 _ _ _ h]; rfl
  have x2 : w.cell? ⟨E, 2, none⟩ = some (.slice ua ul uk) := by rw [cell_of_row w E 2 _ _ _ h]; rfl
  have x3 : w.cell? ⟨E, 3, none⟩ = some (.int .i64 lim) := by rw [cell_of_row w E 3 _ _ _ h]; rfl
  have x4 : w.cell? ⟨E, 4, none⟩ = some (.bool op) := by rw [cell_of_row w E 4 _ _ _ h]; rfl
  have x5 : w.cell? ⟨E, 5, none⟩ = some (.slice ca cl ck) := by rw [cell_of_row w E 5 _ _ _ h]; rfl
  have x6 : w.cell? ⟨E, 6, none⟩ = some (.iface ty p) := by rw [cell_of_row w E 6 _ _ _ h]; rfl
  have x7 : w.cell? ⟨E, 7, none⟩ = some (.pointer s0) := by rw [cell_of_row w E 7 _ _ _ h]; rfl
  have x8 : w.cell? ⟨E, 8, none⟩ = some (.pointer s1) := by rw [cell_of_row w E 8 _ _ _ h]; rfl
  have x9 : w.cell? ⟨E, 9, none⟩ = some (.pointer s2) := by rw [cell_of_row w E 9 _ _ _ h]; rfl
  have xa : w.cell? ⟨E, 10, none⟩ = some (.pointer s3) := by rw [cell_of_row w E 10 _ _ _ h]; rfl
  have xb : w.cell? ⟨E, 11, none⟩ = some (.pointer s4) := by rw [cell_of_row w E 11 _ _ _ h]; rfl
  have xc : w.cell? ⟨E, 12, none⟩ = some (.pointer s5) := by rw [cell_of_row w E 12 _ _ _ h]; rfl
  have xd : w.cell? ⟨E, 13, none⟩ = some (.pointer s6) := by rw [cell_of_row w E 13 _ _ _ h]; rfl
  have xe : w.cell? ⟨E, 14, none⟩ = some (.pointer s7) := by rw [cell_of_row w E 14 _ _ _ h]; rfl
  have xf : w.cell? ⟨E, 15, none⟩ = some (.int .i64 sp) := by rw [cell_of_row w E 15 _ _ _ h]; rfl
  clear h
  go_enter Tryz.func41, Tryz.ntmps41
  go_wp2
  go_ret
  exact ⟨rfl, heap_alloc_new _ _, by simp, bA (Below.refl _ w) _⟩
/-- The document over another core. -/
theorem overE {K K' : Core} {w : World} {Z F FC : Nat → Prop} {E c n : Nat} {mv dv uv cv : Value} {ss : List Value} {M : Ens} {tb c' m D D2 : Nat} (h : EM K w Z F E c n mv dv uv cv ss FC M) (hD : ∀ q, FC q → q < D) (ht : D ≤ tb ∧ tb < D2) (hD2 : D2 ≤ w.heap.size) (hc : K'.Cr w (fun q => Z q ∨ q = tb) (fun q => q < D2) c' m M.tx) (hm : m ≤ 8192) :
    Calls Tryz.prog 41 #[.pointer (some ⟨E, 0, none⟩), .iface K'.ty (.pointer (some ⟨c', 0, none⟩))] w fun e w' => e = .returned (.pointer (some ⟨w.heap.size, 0, none⟩)) ∧ EM K' w' (fun q => Z q ∨ q = tb) (fun q => F q ∨ q = tb) w.heap.size c' m mv dv uv cv ss (fun q => q < D2 ∨ q = w.heap.size) M ∧ Below w.heap.size w w' := by
  obtain ⟨s0, s1, s2, s3, s4, s5, s6, s7, hss, hb⟩ := h.blk
  obtain ⟨ma, mk, hmv⟩ := h.ms.val
  obtain ⟨da, dk, hdv⟩ := h.dn.sl
  obtain ⟨ua, uk, huv⟩ := h.ud.sl
  obtain ⟨ca, cl, ck, hcv⟩ := h.cvs
  have hp : ∀ (i : Nat) (v : Value), ss[i]? = some v → ∃ p, v = .pointer p := fun i v hv => by
    have hi : i < M.sl.length := by have := (List.getElem?_eq_some_iff.1 hv).1; rw [h.sl.2.1]; rw [h.sl.1] at this; exact this
    exact (h.sl.2.2 i v _ hv (List.getElem?_eq_getElem hi)).ptr
  obtain ⟨p0, hp0⟩ := hp 0 s0 (by rw [hss]; rfl)
  obtain ⟨p1, hp1⟩ := hp 1 s1 (by rw [hss]; rfl)
  obtain ⟨p2, hp2⟩ := hp 2 s2 (by rw [hss]; rfl)
  obtain ⟨p3, hp3⟩ := hp 3 s3 (by rw [hss]; rfl)
  obtain ⟨p4, hp4⟩ := hp 4 s4 (by rw [hss]; rfl)
  obtain ⟨p5, hp5⟩ := hp 5 s5 (by rw [hss]; rfl)
  obtain ⟨p6, hp6⟩ := hp 6 s6 (by rw [hss]; rfl)
  obtain ⟨p7, hp7⟩ := hp 7 s7 (by rw [hss]; rfl)
  subst hmv hdv huv hcv hp0 hp1 hp2 hp3 hp4 hp5 hp6 hp7
  refine (overW w E _ _ _ _ _ _ _ _ _ _ _ _ _ _ _ _ K'.ty _ (.pointer (some ⟨c', 0, none⟩)) _ _ _ _ _ _ _ _ hb).mono ?_
  rintro e w' ⟨rfl, hb', hs', hB⟩
  have hw : ∀ q, FC q → q < D := hD
  have kz : Kz Z w w' := fun q hq => hB.block q (h.fl q (h.ff q (h.zf q hq)))
  have zz : ∀ q, Z q → (Z q ∨ q = tb) := fun q hq => .inl hq
  have hsz := hB.size
  refine ⟨rfl, ⟨⟨_, _, _, _, _, _, _, _, hss, hb'⟩, h.ms.kept kz zz, h.dn.kept (fun q hq => hB.block q (h.dn.lt hq)) kz hsz zz, h.ud.kept (fun q hq => hB.block q (h.ud.lt hq)) kz hsz zz, fun ho => ?_, h.cvs, ⟨h.sl.1, h.sl.2.1, fun i v k hv hk => (h.sl.2.2 i v k hv hk).kept kz hsz zz⟩, ?_, by omega, h.sp, h.lm, h.ln, h.vd, ?_, ?_, ?_, ⟨.inr rfl, ?_⟩, ?_, ?_, ?_⟩, hB⟩
  · obtain ⟨xs, a1, a2, a3⟩ := h.cu ho
    exact ⟨xs, owns_of_block a1 (fun q hq => hB.block q (a1.lt q hq).2), a2.kept kz hsz zz, fun q hq h9 => h9.elim (a3 q hq) (fun e => by have := hw q (h.fc ho q hq).1; omega)⟩
  · refine K'.step hc (fun q hq => hB.block q ?_) (fun q hq _ => hB.block q hq) hsz (fun _ hq => hq) (fun q hq => hq.imp id (fun e => by omega))
    rcases hq with h9 | h9
    · exact h.fl q (h.ff q (h.zf q h9))
    · omega
  · exact fun q hq => hq.imp (h.zf q) id
  · intro q hq
    rcases hq with h9 | h9
    · have := hw q (h.ff q h9); exact .inl (by omega)
    · exact .inl (by omega)
  · intro q hq
    rcases hq with h9 | h9 <;> omega
  · intro h9
    rcases h9 with h9 | h9
    · have := hw _ (h.ff _ h9); omega
    · omega
  · intro q hq
    have h1 := hw q (h.fd q hq).1
    exact ⟨.inl (by omega), fun h9 => h9.elim (h.fd q hq).2 (fun e => by omega)⟩
  · intro q hq
    have h1 := hw q (h.fu q hq).1
    exact ⟨.inl (by omega), fun h9 => h9.elim (h.fu q hq).2.1 (fun e => by omega), (h.fu q hq).2.2⟩
  · intro ho q hq
    have h1 := hw q (h.fc ho q hq).1
    exact ⟨.inl (by omega), fun h9 => h9.elim (h.fc ho q hq).2 (fun e => by omega)⟩
set_option maxHeartbeats 2000000 in
theorem loadCL1 (w : World) (Z F : Nat → Prop) (v : Value) (ts : List Int) (hT : HT w Z v ts) (hF : ∀ q, F q → q < w.heap.size) (hl : ts.length ≤ 8192) :
    Calls Tryz.prog 24 #[.int .i64 1, v] w fun e w' => ∃ c, e = .returned (.iface KL.ty (.pointer (some ⟨c, 0, none⟩))) ∧ w.heap.size ≤ c ∧ KL.Cr w' Z F c ts.length ts ∧ Below w.heap.size w w' := by
  have LP := hide (loadCL w Z F v ts hT hF hl)
  clear hF hT
  go_enter Tryz.func24, Tryz.ntmps24
  go_wp2_with fail
  refine LP.out.mono ?_
  rintro e w' ⟨c, rfl, h1, h2, h3⟩
  have R := hide (And.intro h1 (And.intro h2 h3))
  clear h1 h2 h3
  go_wp2
  go_ret
  exact ⟨c, rfl, R.out.1, R.out.2.1, R.out.2.2⟩
set_option maxHeartbeats 2000000 in
theorem loadCP1 (w : World) (Z F : Nat → Prop) (v : Value) (ts : List Int) (hT : HT w Z v ts) (hF : ∀ q, F q → q < w.heap.size) (hl : ts.length ≤ 8192) :
    Calls Tryz.prog 24 #[.int .i64 0, v] w fun e w' => ∃ c, e = .returned (.iface KP.ty (.pointer (some ⟨c, 0, none⟩))) ∧ w.heap.size ≤ c ∧ KP.Cr w' Z F c ts.length ts ∧ Below w.heap.size w w' := by
  have LP := hide (loadCP w Z F v ts hT hF hl)
  clear hF hT
  go_enter Tryz.func24, Tryz.ntmps24
  go_wp2_with fail
  refine LP.out.mono ?_
  rintro e w' ⟨c, rfl, h1, h2, h3⟩
  have R := hide (And.intro h1 (And.intro h2 h3))
  clear h1 h2 h3
  go_wp2
  go_ret
  exact ⟨c, rfl, R.out.1, R.out.2.1, R.out.2.2⟩
end Go.Proofs.YtbkcbhjejkicjaaGreatDoor

