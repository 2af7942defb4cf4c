import Derived.Test.YtbgngikejgihgagGreatDoorMq33
import Derived.Test.YtbgngikejgihgagGreatDoorMq20
import Derived.Test.YtbgngikejgihgagGreatDoorMq08
import Derived.ArgAppend
import Derived.Deep.AppendLies
import Derived.Deep.QuietTactic
import Derived.BigQuiet
import Derived.Deep.Cut
import Derived.Deep.DeepCutAuto
namespace Go.Proofs.YtbgngikejgihgagGreatDoor
open Go Go.RowKit Go.Shelf Go.Sort
set_option linter.unusedVariables false

set_option maxHeartbeats 1000000 in
set_option maxRecDepth 100000 in
theorem cutB (c b o n cap r1 : Nat) (off x y pb r2 r3 r5 : Int) (u : Option Addr) (w : World) (hk : PK w c b o n cap u) 
    (HSK : Hid (Calls Tryz.prog 390 #[.pointer u, .int .i64 off, .func (.func 391) #[] #[]] w fun e w' => e = .returned (fndV x y pb (r1, r2, r3, 0, r5)) ∧ Below w.heap.size w w')) :
    Calls Tryz.prog 384 #[.pointer (some ⟨c, 0, none⟩), .int .i64 off] w fun e w' => e = .returned (.int .i64 (r1 : Int)) ∧ Below w.heap.size w w' := by
  have c1 := hk.c1
  clear hk
  go_enter Tryz.func384, Tryz.ntmps384
  go_wp2_with fail
  refine HSK.out.mono ?_
  rintro e wa ⟨rfl, hba⟩
  have HBB := hide (hba.alloc hba.size (.cells #[.int .i64 x, .int .i64 y, .int .i64 pb, .int .i64 (r1 : Int), .int .i64 r2, .int .i64 r3, .int .i64 0, .int .i64 r5] 477))
  have KF : (wa.alloc (.cells #[.int .i64 x, .int .i64 y, .int .i64 pb, .int .i64 (r1 : Int), .int .i64 r2, .int .i64 r3, .int .i64 0, .int .i64 r5] 477)).heap[wa.heap.size]? = some (.cells #[.int .i64 x, .int .i64 y, .int .i64 pb, .int .i64 (r1 : Int), .int .i64 r2, .int .i64 r3, .int .i64 0, .int .i64 r5] 477 (0, 0)) := heap_alloc_new _ _
  have HKF := hide KF
  clear hba HSK c1 KF
  unfold fndV
  simp only
  go_upto_region 2 with fail
  generalize wa.alloc (.cells #[.int .i64 x, .int .i64 y, .int .i64 pb, .int .i64 (r1 : Int), .int .i64 r2, .int .i64 r3, .int .i64 0, .int .i64 r5] 477) = wb at *
  generalize wa.heap.size = fb at *
  have f3 : wb.cell? ⟨fb, 3, none⟩ = some (.int .i64 (r1 : Int)) := by rw [cell_of_row wb _ 3 _ _ _ HKF.out]; rfl
  have f6 : wb.cell? ⟨fb, 6, none⟩ = some (.int .i64 0) := by rw [cell_of_row wb _ 6 _ _ _ HKF.out]; rfl
  go_wp2
  go_ret
  exact ⟨rfl, HBB.out⟩

theorem PM.below {w w' : World} {base c b o cap : Nat} {S : List Int} {T : AT} {u : Option Addr} {bs : List Nat} (h : PM w base c b o cap S T u bs) (hb : Below w.heap.size w w') : PM w' base c b o cap S T u bs :=
  ⟨h.k.below hb h.k.lt, h.t.below hb (Nat.le_refl _), h.nd, h.cb, h.bb, h.bc, fun i hi => (hb.cell (p := ⟨b, o + i, none⟩) h.lb).trans (h.rt i hi), Nat.lt_of_lt_of_le h.lb hb.size, h.cap1, h.cap2, h.n⟩
theorem pc_eta (p : Pc) (a b c : Int) (h1 : p.off = a) (h2 : p.len = b) (h3 : p.brk = c) : (Value.agg #[.int .i64 a, .int .i64 b, .int .i64 c]) = .agg #[.int .i64 p.off, .int .i64 p.len, .int .i64 p.brk] := by rw [h1, h2, h3]

set_option maxHeartbeats 1000000 in
theorem cutI (S : List Int) (T : AT) (u : Option Addr) (bs : List Nat) (base c b o cap : Nat) (off : Int) (w : World) (h : PM w base c b o cap S T u bs) (hok : T.ok) (hbal : T.bal) (hw : T.wp S) (h0 : 0 ≤ off) (h1 : off ≤ T.rns) (hbase : base ≤ w.heap.size) :
    Calls Tryz.prog 384 #[.pointer (some ⟨c, 0, none⟩), .int .i64 off] w fun e w' => e = .returned (.int .i64 (cutN T off : Nat)) ∧ ∃ u' bs', PM w' base c b o cap S (cutP S T off) u' bs' ∧ (∀ x ∈ bs', x ∈ bs ∨ w.heap.size ≤ x) ∧ Chg (c :: bs) w w' := by
  have hb8 := hok.bd
  obtain ⟨a, b1, cc⟩ := sk_at hok h0 h1
  have hsk := seekER T u bs base off w h.t hok (by omega)
  have hS := h.n
  by_cases hi : skI T off = 0
  · have hsk' : Calls Tryz.prog 390 #[.pointer u, .int .i64 off, .func (.func 391) #[] #[]] w fun e w' => e = .returned (fndV (seekP (fun p => p.len) T off).off (seekP (fun p => p.len) T off).len (seekP (fun p => p.len) T off).brk (skR T off, (seekT (fun p => p.len) T off).2.1, (seekT (fun p => p.len) T off).2.2.1, 0, (seekT (fun p => p.len) T off).2.2.2.2)) ∧ Below w.heap.size w w' := by
      have e : seekT (fun p => p.len) T off = (skR T off, (seekT (fun p => p.len) T off).2.1, (seekT (fun p => p.len) T off).2.2.1, 0, (seekT (fun p => p.len) T off).2.2.2.2) := by rw [← hi]; rfl
      rw [← e]; exact hsk
    refine (cutB c b o S.length cap (skR T off) off _ _ _ _ _ _ u w h.k (hide hsk')).mono ?_
    rintro e w' ⟨rfl, hb⟩
    refine ⟨by rw [cutN, if_pos hi]; rfl, u, bs, ?_, fun x hx => .inl hx, Chg.of_below hb⟩
    rw [cutP, if_pos hi]
    exact h.below hb
  · obtain ⟨c1, c2, c3⟩ := cc.resolve_left hi
    have hp := (wp_flat S T).1 hw _ (List.mem_of_getElem? c3)
    have hpk := hok.1 _ (List.mem_of_getElem? c3)
    simp only [pcOk, decide_eq_true_eq] at hpk
    have hp3 := hp.2.2.1
    have hrl := (split_at c3).2
    rw [AT.flat_its] at hrl
    have hok1 := cutP_ok hok hw hS h0 h1
    have hputok : (T.put (skR T off) (pcAt S (skP T off).off (skI T off))).ok := by
      have hf := put_flat' T (skR T off) (pcAt S (skP T off).off (skI T off)) _ c3
      refine ⟨fun q hq => ?_, ?_⟩
      · rw [hf] at hq
        simp only [List.mem_append, List.mem_cons] at hq
        rcases hq with hq | rfl | hq
        · exact hok.1 q (List.mem_of_mem_take hq)
        · exact pcAt_ok (by omega) (by omega) (by omega) (by omega) hS
        · exact hok.1 q (List.mem_of_mem_drop hq)
      · have h9 := hok.2
        rw [AT.rns_lsum] at h9 ⊢
        rw [hf, lsum_app, lsum_cons]
        have : lsum T.flat = lsum (T.flat.take (skR T off)) + ((skP T off).len + lsum (T.flat.drop (skR T off + 1))) := by
          conv => lhs; rw [(split_at c3).1]
          rw [lsum_app, lsum_cons]
        simp only [pcAt]
        omega
    obtain ⟨q, hq⟩ : ∃ q : Nat, (skP T off).off = q := ⟨(skP T off).off.toNat, by omega⟩
    obtain ⟨m, hm⟩ : ∃ m : Nat, (skP T off).len = m := ⟨(skP T off).len.toNat, by omega⟩
    obtain ⟨j, hj⟩ : ∃ j : Nat, skI T off = j := ⟨(skI T off).toNat, by omega⟩
    have hsk' : Calls Tryz.prog 390 #[.pointer u, .int .i64 off, .func (.func 391) #[] #[]] w fun e w' => e = .returned (fndV (q : Int) (m : Int) (skP T off).brk (skR T off, (seekT (fun p => p.len) T off).2.1, (seekT (fun p => p.len) T off).2.2.1, (j : Int), (seekT (fun p => p.len) T off).2.2.2.2)) ∧ Below w.heap.size w w' := by
      have e : seekT (fun p => p.len) T off = (skR T off, (seekT (fun p => p.len) T off).2.1, (seekT (fun p => p.len) T off).2.2.1, (j : Int), (seekT (fun p => p.len) T off).2.2.2.2) := by rw [← hj]; rfl
      rw [← e, ← hq, ← hm]; exact hsk
    have hbl : ∀ x ∈ bs, x < w.heap.size := fun x hx => (h.t.lt x hx).2
    have key := cutA c b o S.length cap q m j (skR T off) base off (skP T off).brk _ _ _ u (T.put (skR T off) (pcAt S (skP T off).off (skI T off))) (cutP S T off) bs (pcAt S (skP T off).off (skI T off)) (pcAt S ((skP T off).off + skI T off) ((skP T off).len - skI T off)) w h.k h.cb hbl (by omega) (by omega) (by omega) (by omega) (by omega) (by omega) hbase (hide hsk')
      (hide fun W hW => by
        have := measureN S c b o cap q j W (fun i hi => (hW.cell (p := ⟨b, o + i, none⟩) h.lb).trans (h.rt i hi)) ((hW.cell (p := ⟨c, 0, none⟩) h.k.lt).trans h.k.c0) (Nat.lt_of_lt_of_le h.lb hW.size) (Nat.lt_of_lt_of_le h.k.lt hW.size) (by omega) (by omega) h.cap1 h.cap2 (by omega)
        simp only [pcAt, hq, hj, Int.toNat_natCast]
        exact this)
      (hide fun W hW => replaceN T (skR T off) _ u bs base W hok hputok hrl (h.t.frame fun x hx => hW.block x (hbl x hx)) h.nd)
      (hide fun W hW => by
        have ek : PK W c b o S.length cap u := h.k.chg hW h.cb
        have er := h.rt.chg hW h.lb h.bb
        have := measureN S c b o cap (q + j) (m - j) W er ek.c0 (Nat.lt_of_lt_of_le h.lb hW.size) ek.lt (by omega) (by omega) h.cap1 h.cap2 (by omega)
        have e1 : ((q + j : Nat) : Int) = (q : Int) + (j : Int) := by omega
        have e2 : ((m - j : Nat) : Int) = (m : Int) - (j : Int) := by omega
        rw [e1, e2] at this
        simp only [pcAt, hq, hj, hm]
        rw [show ((q : Int) + (j : Int)).toNat = q + j by omega, show ((m : Int) - (j : Int)).toNat = m - j by omega]
        exact this)
      (hide fun W hl hbW => by
        have e3 : ((skR T off + 1 : Nat) : Int) = (skR T off : Int) + 1 := by omega
        rw [← e3]
        have hcp : cutP S T off = (T.put (skR T off) (pcAt S (skP T off).off (skI T off))).ins (skR T off + 1) (pcAt S ((skP T off).off + skI T off) ((skP T off).len - skI T off)) := by rw [cutP, if_neg hi]
        rw [hcp] at hok1 ⊢
        exact insertN (T.put (skR T off) (pcAt S (skP T off).off (skI T off))) (skR T off + 1) _ u bs base W (AT.put_bal _ _ _ hbal) hok1 (by rw [AT.put_its]; omega) hl h.nd hbW)
    refine key.mono ?_
    rintro e w' ⟨rfl, u', bs', k', t', nd', sub', ch'⟩
    refine ⟨by rw [cutN, if_neg hi]; rfl, u', bs', ⟨k', t', nd', ?_, ?_, h.bc, h.rt.chg ch' h.lb ?_, Nat.lt_of_lt_of_le h.lb ch'.size, h.cap1, h.cap2, h.n⟩, sub', ch'⟩
    · intro hc
      rcases sub' c hc with h9 | h9
      · exact h.cb h9
      · have := h.k.lt; omega
    · intro hc
      rcases sub' b hc with h9 | h9
      · exact h.bb h9
      · have := h.lb; omega
    · intro hc
      rcases List.mem_cons.1 hc with h9 | h9
      · exact h.bc h9
      · exact h.bb h9

theorem Tryz.fldE (x y z r s t u v : Value) (w : World) : (Instr.field 477 (.agg #[x, y, z, r, s, t, u, v]) 0).run Tryz.prog w = .ok (.agg #[x, y, z]) w := by kernel_rfl
set_option maxHeartbeats 1000000 in
set_option maxRecDepth 100000 in
theorem pieceN (T : AT) (u : Option Addr) (bs : List Nat) (base c b o n cap k : Nat) (p : Pc) (w : World) (hk : PK w c b o n cap u) (ht : Lies w base T u bs) (hok : T.ok) (hp : T.flat[k]? = some p) :
    Calls Tryz.prog 385 #[.pointer (some ⟨c, 0, none⟩), .int .i64 (k : Int)] w fun e w' => e = .returned (.agg #[.int .i64 p.off, .int .i64 p.len, .int .i64 p.brk]) ∧ Below w.heap.size w w' := by
  have hb := hok.bd
  have hlk := (split_at hp).2
  rw [AT.flat_its] at hlk
  have hr := seekP_one T k p hp
  have HB0 := hide ((Below.refl w.heap.size w).alloc (Nat.le_refl _) (.cells #[.int .i64 0, .int .i64 0, .int .i64 0] 143))
  have HSK := hide (seekEI T u bs base (k : Int) (w.alloc (.cells #[.int .i64 0, .int .i64 0, .int .i64 0] 143)) (ht.below HB0.out (Nat.le_refl _)) hok (by omega))
  rw [hr] at HSK
  generalize seekT (fun _ => 1) T (k : Int) = res at HSK
  have c1 := (HB0.out.cell (p := ⟨c, 1, none⟩) hk.lt).trans hk.c1
  have K0 : (w.alloc (.cells #[.int .i64 0, .int .i64 0, .int .i64 0] 143)).heap[w.heap.size]? = some (.cells #[.int .i64 0, .int .i64 0, .int .i64 0] 143 (0, 0)) := heap_alloc_new _ _
  have HK := hide K0
  have s0 : w.heap.size < (w.alloc (.cells #[.int .i64 0, .int .i64 0, .int .i64 0] 143)).heap.size := by simp
  clear K0 ht hk hp hr
  go_enter Tryz.func385, Tryz.ntmps385
  go_wp2_with fail
  generalize w.alloc (.cells #[.int .i64 0, .int .i64 0, .int .i64 0] 143) = w0 at *
  refine HSK.out.mono ?_
  rintro e w1 ⟨rfl, hb1⟩
  have k1 := (hb1.block w.heap.size s0).trans HK.out
  have d0 : w1.cell? ⟨w.heap.size, 0, none⟩ = some (.int .i64 0) := by rw [cell_of_row w1 _ 0 _ _ _ k1]; rfl
  have d1 : w1.cell? ⟨w.heap.size, 1, none⟩ = some (.int .i64 0) := by rw [cell_of_row w1 _ 1 _ _ _ k1]; rfl
  have d2 : w1.cell? ⟨w.heap.size, 2, none⟩ = some (.int .i64 0) := by rw [cell_of_row w1 _ 2 _ _ _ k1]; rfl
  have f0 := frozen_of_row w1 w.heap.size 0 _ _ k1
  have f1 := frozen_of_row w1 w.heap.size 1 _ _ k1
  have f2 := frozen_of_row w1 w.heap.size 2 _ _ k1
  have HB1 := hide (HB0.out.trans (hb1.mono (by omega)))
  clear HSK hb1 k1 c1
  unfold fndV
  simp only
  have fe := Tryz.fldE
  go_wp2
  refine bodyPost_ret (v := .agg #[.int .i64 p.off, .int .i64 p.len, .int .i64 p.brk]) (by simp [results, Tryz.results385, go_sem, d0, d1, d2]) rfl ⟨rfl, ?_⟩
  exact ((HB1.out.setCell (by simp) _).setCell (by simp) _).setCell (by simp) _
end Go.Proofs.YtbgngikejgihgagGreatDoor

namespace Go.Proofs.YtbgngikejgihgagGreatDoor
open Go Go.RowKit Go.Shelf Go.Sort
set_option linter.unusedVariables false

set_option maxHeartbeats 1000000 in
set_option maxRecDepth 100000 in
theorem meetsN (p q : Pc) (w : World) (hp : 0 ≤ p.off ∧ p.off ≤ 220000 ∧ 0 ≤ p.len ∧ p.len ≤ 8192) :
    Calls Tryz.prog 386 #[.agg #[.int .i64 p.off, .int .i64 p.len, .int .i64 p.brk], .agg #[.int .i64 q.off, .int .i64 q.len, .int .i64 q.brk]] w fun e w' => e = .returned (.bool (decide (p.off + p.len = q.off))) ∧ Below w.heap.size w w' := by
  obtain ⟨po, pl, pb⟩ := p
  obtain ⟨qo, ql, qb⟩ := q
  simp only at *
  have hwr : IntKind.i64.wrap (po + pl) = po + pl := i64w _ (by omega) (by omega)
  go_enter Tryz.func386, Tryz.ntmps386
  go_wp2
  go_ret
  refine ⟨?_, ((Below.refl _ _).alloc (Nat.le_refl _) _).alloc (by simp) _⟩
  first | rfl | simp [Int.beq_eq]

set_option maxHeartbeats 1000000 in
set_option maxRecDepth 100000 in
theorem withN (p q : Pc) (w : World) (hp : 0 ≤ p.len ∧ p.len ≤ 8192 ∧ 0 ≤ p.brk ∧ p.brk ≤ 8192) (hq : 0 ≤ q.len ∧ q.len ≤ 8192 ∧ 0 ≤ q.brk ∧ q.brk ≤ 8192) :
    Calls Tryz.prog 388 #[.agg #[.int .i64 p.off, .int .i64 p.len, .int .i64 p.brk], .agg #[.int .i64 q.off, .int .i64 q.len, .int .i64 q.brk]] w fun e w' => e = .returned (.agg #[.int .i64 p.off, .int .i64 (p.len + q.len), .int .i64 (p.brk + q.brk)]) ∧ Below w.heap.size w w' := by
  obtain ⟨po, pl, pb⟩ := p
  obtain ⟨qo, ql, qb⟩ := q
  simp only at *
  have w1 : IntKind.i64.wrap (pl + ql) = pl + ql := i64w _ (by omega) (by omega)
  have w2 : IntKind.i64.wrap (pb + qb) = pb + qb := i64w _ (by omega) (by omega)
  go_enter Tryz.func388, Tryz.ntmps388
  go_wp2
  refine bodyPost_ret (v := .agg #[.int .i64 po, .int .i64 (pl + ql), .int .i64 (pb + qb)]) (by simp [results, Tryz.results388, go_sem]) rfl ⟨rfl, ?_⟩
  exact (((Below.refl _ _).alloc (Nat.le_refl _) _).alloc (by simp) _).alloc (by simp; omega) _
end Go.Proofs.YtbgngikejgihgagGreatDoor

namespace Go.Proofs.YtbgngikejgihgagGreatDoor
open Go Go.RowKit Go.Shelf Go.Sort
set_option linter.unusedVariables false

theorem PK.set0 {w : World} {c b o n cap : Nat} {u : Option Addr} (h : PK w c b o n cap u) (b' o' n' cap' : Nat) : PK (w.setCell ⟨c, 0, none⟩ (.slice (some ⟨b', o', none⟩) n' cap')) c b' o' n' cap' u := by
  unfold PK at h ⊢; rw [heap_setCell_same w c 0 _ _ _ h]; rfl

def InsPM (w : World) (base c : Nat) (S : List Int) (T : AT) (bs : List Nat) (w' : World) : Prop :=
  ∃ u' bs' g cap', PM w' base c g 0 cap' S T u' bs' ∧ (∀ x ∈ bs', x ∈ bs ∨ w.heap.size ≤ x) ∧ Chg (c :: bs) w w'

set_option maxHeartbeats 4000000 in
set_option maxRecDepth 100000 in
theorem insertI (zs ts : List Int) (T : AT) (u : Option Addr) (bs : List Nat) (base c b o ct : Nat) (off : Int) (ad : Addr) (w : World) (h : PM w base c b o zs.length zs T u bs) (hok : T.ok) (hbal : T.bal) (hw : T.wp zs) (h0 : 0 ≤ off) (h1 : off ≤ T.rns) (hbase : base ≤ w.heap.size) (hm : 0 < ts.length) (hr : T.rns + ts.length ≤ 8192) (hS : zs.length + ts.length ≤ 220000)
    (hts : ∀ j v, (ints .i32 ts)[j]? = some v → w.cell? (ad.add j) = some v) :
    Calls Tryz.prog 375 #[.pointer (some ⟨c, 0, none⟩), .int .i64 off, .slice (some ad) ts.length ct] w fun e w' => e = .returned (.tuple #[]) ∧ InsPM w base c (zs ++ ts) (insP (zs ++ ts) zs.length T off) bs w' := by
  obtain ⟨i0, hi0, hz0, hz1, hz2⟩ := info_parts Tryz.info32T
  have HP := hide h
  have c0 := h.k.c0
  have f0 := h.k.fz 0
  have hclt := h.k.lt
  have bT := hok.bd
  have HOK := hide hok
  have HBAL := hide hbal
  have hSl : (zs ++ ts).length = zs.length + ts.length := List.length_append
  have HW := hide (hw.app ts)
  have HZ := hide (show ∀ j v, (ints .i32 zs)[j]? = some v → w.cell? ((⟨b, o, none⟩ : Addr).add j) = some v from (by
    have h9 := cut_cells (o := 0) (l := zs.length) h.rt
    simpa using h9))
  have HTS := hide hts
  have hbl : ∀ x ∈ bs, x < w.heap.size := fun x hx => (h.t.lt x hx).2
  have HAP := hide (fun (W : World) (v : Value) (ho : W.ownsRow w.heap.size 21 1 v (zs.length + ts.length) (ints .i32 zs ++ ints .i32 ts)) => show own32 W w.heap.size v (zs ++ ts) from own32_app rfl rfl ho)
  have HLZ := hide (show (ints .i32 zs).length = zs.length * 1 by rw [ints_length, Nat.mul_one])
  have HLT := hide (show (ints .i32 ts).length = ts.length * 1 by rw [ints_length, Nat.mul_one])
  have HRI := hide (show insP (zs ++ ts) zs.length T off = addP (zs ++ ts) zs.length (cutP (zs ++ ts) T off) (cutN T off) from rfl)
  generalize hS0 : zs ++ ts = S at *
  generalize hn0 : zs.length = n at *
  generalize hm0 : ts.length = m at *
  generalize hres : insP S n T off = RES at *
  clear h hok hbal hw hts hS0 hn0 hm0 hres
  go_enter Tryz.func375, Tryz.ntmps375
  go_wp2_with (at_builtin; refine wpList_append_grows _ rfl _ _ 36 rfl 21 i0 (.int .i32 0) 1 4 Tryz.underlying36 hi0 hz0 hz1 hz2 rfl (by decide) (some ⟨b, o, none⟩) n n (ints .i32 zs) rfl (by intro h; cases h) HLZ.out (by intro x hx; cases hx; exact HZ.out) ad m ct (ints .i32 ts) rfl HLT.out HTS.out (ints_one _ _) (by omega) (by unfold maxLen; omega) (by omega) ?_; intro v' w1 hown hgr; have HO1 := hide (HAP.out _ _ hown); rcases hown.2 with ⟨rfl, e9⟩ | ⟨g, cp, cur, rfl, hg1, hg2, hg3, hg4, _, _⟩; (exfalso; omega); have B1 := hide ((Below.refl w.heap.size w).grown hgr (Nat.le_refl _) (fun q hq => by cases hq)); have d0 := (B1.out.cell (p := ⟨c, 0, none⟩) hclt).trans c0; have K1 := hide (HP.out.k.below B1.out hclt); have z0 := K1.out.fz 0; clear hown hgr)
  have hgl : g < w1.heap.size := (Array.getElem?_eq_some_iff.1 hg2).1
  have hgc : g ≠ c := by omega
  have hgb : g ∉ bs := fun h9 => by have := hbl g h9; omega
  have s1 := B1.out.size
  have K2 := hide (K1.out.set0 g 0 (n + m) cp)
  have C2 := hide ((Chg.of_below (bs := [c]) B1.out).setCell ⟨c, 0, none⟩ (.slice (some ⟨g, 0, none⟩) (n + m) cp) (.inl (by simp)))
  have A1 : At32' w1 g 0 S := own32_at (base := w.heap.size) (cap := cp) (by rw [hSl]; exact HO1.out)
  have P2 := hide (show PM (w1.setCell ⟨c, 0, none⟩ (.slice (some ⟨g, 0, none⟩) (n + m) cp)) base c g 0 cp S T u bs from
    ⟨by rw [hSl]; exact K2.out, (HP.out.t.below B1.out (Nat.le_refl _)).other ⟨c, 0, none⟩ _ HP.out.cb, HP.out.nd, HP.out.cb, hgb, hgc,
      fun i hi => by rw [← A1 i hi]; unfold World.cell?; rw [heap_setCell_other w1 ⟨c, 0, none⟩ g _ hgc], Nat.lt_of_lt_of_le hgl (Nat.le_of_eq (by simp)), by omega, hg4, by omega⟩)
  have hs2 := C2.out.size
  have HRT := hide (cutN_at (S := S) HOK.out h0 h1)
  have HOK1 := hide (cutP_ok HOK.out HW.out (by omega) h0 h1)
  have HBAL1 := hide (cutP_bal (S := S) (off := off) HBAL.out)
  have HWP1 := hide (cutP_wp HOK.out HW.out h0 h1)
  have HRN1 := hide (show (cutP S T off).rns = T.rns by rw [AT.rns_lsum, cutP_len HOK.out h0 h1, ← AT.rns_lsum])
  have HCUT := hide (fun W (hp : PM W base c g 0 cp S T u bs) hb => cutI S T u bs base c g 0 cp off W hp HOK.out HBAL.out HW.out h0 h1 hb)
  have HMe := hide (measureN S c g 0 cp n m _ P2.out.rt P2.out.k.c0 P2.out.lb P2.out.k.lt (by omega) (by omega) P2.out.cap1 P2.out.cap2 (by omega))
  have hbf := brk_bdl ((S.drop n).take m)
  have hbl2 : ((S.drop n).take m).length ≤ m := by rw [List.length_take]; omega
  have HFR := hide (show pcAt S (n : Int) ((S.length : Int) - n) = ⟨(n : Int), (m : Int), brk ((S.drop n).take m)⟩ from (by
    unfold pcAt
    rw [show ((S.length : Int) - n) = (m : Int) by omega, Int.toNat_natCast, Int.toNat_natCast]))
  generalize hbf0 : brk ((S.drop n).take m) = bf at *
  have hbf1 : 0 ≤ bf ∧ bf ≤ 8192 := by omega
  have HADD := hide (show RES = addP S n (cutP S T off) (cutN T off) from HRI.out)
  generalize hT1 : cutP S T off = T1 at *
  generalize hR1 : cutN T off = R at *
  have hRt := HRT.out.1
  have b1 := HOK1.out.bd
  clear hT1 hR1 hbf hbl2 HP HOK HBAL HW HZ HTS HLZ HLT HAP HRI HRT K1 K2 A1 HO1 d0 z0 hg2 hg3 hg4
  generalize w1.setCell ⟨c, 0, none⟩ (.slice (some ⟨g, 0, none⟩) (n + m) cp) = w2 at *
  refine HMe.out.mono ?_
  rintro e w3 ⟨rfl, hb3⟩
  have P4 := hide ((P2.out.below hb3).below ((Below.refl w3.heap.size w3).alloc (Nat.le_refl _) (.cells #[.int .i64 (n : Int), .int .i64 (m : Int), .int .i64 bf] 143)))
  have B4 := hide (hb3.alloc hb3.size (.cells #[.int .i64 (n : Int), .int .i64 (m : Int), .int .i64 bf] 143))
  have F4 := hide (show (w3.alloc (.cells #[.int .i64 (n : Int), .int .i64 (m : Int), .int .i64 bf] 143)).heap[w3.heap.size]? = some (.cells #[.int .i64 (n : Int), .int .i64 (m : Int), .int .i64 bf] 143 (0, 0)) from heap_alloc_new _ _)
  have s3 := hb3.size
  have s4 : w3.heap.size < (w3.alloc (.cells #[.int .i64 (n : Int), .int .i64 (m : Int), .int .i64 bf] 143)).heap.size := by simp
  clear hb3 HMe P2
  go_wp2_with fail
  generalize w3.alloc (.cells #[.int .i64 (n : Int), .int .i64 (m : Int), .int .i64 bf] 143) = w4 at *
  generalize w3.heap.size = fb at *
  refine (HCUT.out _ P4.out (by omega)).mono ?_
  rintro e w5 ⟨rfl, u5, bs5, hp5, sub5, ch5⟩
  have P5 := hide hp5
  have nfb : fb ∉ c :: bs := fun h9 => by
    rcases List.mem_cons.1 h9 with h9 | h9
    · omega
    · have := hbl fb h9; omega
  have F5 := hide ((ch5.block fb s4 nfb).trans F4.out)
  have hf5 : fb < w5.heap.size := Nat.lt_of_lt_of_le s4 ch5.size
  have C5 := hide (((C2.out.trans (Chg.of_below (bs := []) B4.out) (fun x h9 _ => by simp at h9; simp [h9]) (fun x h9 _ => by cases h9) (ds := c :: bs)).trans ch5 (fun _ h9 _ => h9) (fun _ h9 _ => h9) (ds := c :: bs)))
  have SB5 := hide (show ∀ x ∈ bs5, x ∈ bs ∨ w.heap.size ≤ x from fun x hx => (sub5 x hx).imp id (fun h9 => by omega))
  have nfb5 : fb ∉ bs5 := fun h9 => by
    rcases sub5 fb h9 with h8 | h8
    · exact nfb (List.mem_cons_of_mem _ h8)
    · omega
  have s5 := ch5.size
  have sw5 := C5.out.size
  clear hp5 sub5 ch5 HCUT P4 F4 B4 C2
  have hwR : IntKind.i64.wrap ((R : Int) - 1) = (R : Int) - 1 := i64w _ (by omega) (by omega)
  go_upto_region 4 with fail
  go_cut [40] (fun x wc => x = .bool (meetB n T1 R) ∧ Below w5.heap.size w5 wc)
  case first =>
    have k5 := F5.out
    have e0 : w5.cell? ⟨fb, 0, none⟩ = some (.int .i64 (n : Int)) := by rw [cell_of_row w5 _ 0 _ _ _ k5]; rfl
    have e1 : w5.cell? ⟨fb, 1, none⟩ = some (.int .i64 (m : Int)) := by rw [cell_of_row w5 _ 1 _ _ _ k5]; rfl
    have e2 : w5.cell? ⟨fb, 2, none⟩ = some (.int .i64 bf) := by rw [cell_of_row w5 _ 2 _ _ _ k5]; rfl
    have q0 := fun d os => cell_regrown e0 d os
    have q1 := fun d os => cell_regrown e1 d os
    have q2 := fun d os => cell_regrown e2 d os
    by_cases hR0 : R = 0
    · subst hR0
      have hd : decide ((0 : Int) < ((0 : Nat) : Int)) = false := by simp
      clear e0 e1 e2 k5
      refine wp_region_quiet_below (by kernel_rfl) (by kernel_rfl) ?_
      repeat (quiet_step (fail))
      refine wpQuiet_nil ?_
      intro _ hw'
      obtain ⟨⟨dq, osq⟩, hw''⟩ := hw'
      subst hw''
      go_wp2_with fail
      go_meet
      exact ⟨by simp [meetB], below_regrown w5 dq osq⟩
    · have hd : decide ((0 : Int) < (R : Int)) = true := by simp; omega
      have hd2 : decide (0 < R) = true := by simp; omega
      have hd3 : 0 < R := by omega
      have ha := ahead_at (T := T1) (R := R) (by omega) hRt
      have hpk := HOK1.out.1 _ (List.mem_of_getElem? ha)
      simp only [pcOk, decide_eq_true_eq] at hpk
      have ec : (((R - 1 : Nat)) : Int) = (R : Int) - 1 := by omega
      have HPQ := hide (fun d os => Calls.regrown_of (w := w5) (d := d) (os := os) (pieceN T1 u5 bs5 base c g 0 S.length cp (R - 1) (ahead T1 R) (grow (redrawn w5 d) os) (P5.out.k.below (below_regrown w5 d os) P5.out.k.lt) (P5.out.t.below (below_regrown w5 d os) (Nat.le_refl _)) HOK1.out ha))
      have HMQ := hide (fun d os => Calls.regrown_of (w := w5) (d := d) (os := os) (meetsN (ahead T1 R) ⟨(n : Int), (m : Int), bf⟩ (grow (redrawn w5 d) os) (by omega)))
      rw [ec] at HPQ
      have HMB := hide (show meetB n T1 R = decide ((ahead T1 R).off + (ahead T1 R).len = (n : Int)) by simp only [meetB]; congr 1; simp; omega)
      generalize ahead T1 R = p at *
      clear e0 e1 e2 k5 ha ec
      refine wp_region_quiet_below (by kernel_rfl) (by kernel_rfl) ?_
      repeat (quiet_step (first | exact HPQ.out _ _ | exact HMQ.out _ _))
      refine wpQuiet_nil ?_
      intro _ hw'
      obtain ⟨⟨dq, osq⟩, hw''⟩ := hw'
      subst hw''
      go_wp2_with fail
      go_meet
      exact ⟨by rw [HMB.out], below_regrown w5 dq osq⟩
  case rest =>
    obtain ⟨rfl, hb6⟩ := hcut
    have P6 := hide (P5.out.below hb6)
    have F6 := hide ((hb6.block fb hf5).trans F5.out)
    have hf6 : fb < wc.heap.size := Nat.lt_of_lt_of_le hf5 hb6.size
    have C6 := hide (C5.out.trans (Chg.of_below (bs := []) hb6) (fun _ h9 _ => h9) (fun _ h9 _ => by cases h9) (ds := c :: bs))
    have s6 := hb6.size
    have sw6 := C6.out.size
    clear hb6 P5 F5 C5
    have k6 := F6.out
    have e0 : wc.cell? ⟨fb, 0, none⟩ = some (.int .i64 (n : Int)) := by rw [cell_of_row wc _ 0 _ _ _ k6]; rfl
    have e1 : wc.cell? ⟨fb, 1, none⟩ = some (.int .i64 (m : Int)) := by rw [cell_of_row wc _ 1 _ _ _ k6]; rfl
    have e2 : wc.cell? ⟨fb, 2, none⟩ = some (.int .i64 bf) := by rw [cell_of_row wc _ 2 _ _ _ k6]; rfl
    have e3 := P6.out.k.c1
    have q0 := fun d os => cell_regrown e0 d os
    have q1 := fun d os => cell_regrown e1 d os
    have q2 := fun d os => cell_regrown e2 d os
    have q3 := fun d os => cell_regrown e3 d os
    clear k6
    cases hmb : meetB n T1 R with
    | true =>
      have hm2 := hmb
      simp only [meetB, decide_eq_true_eq] at hm2
      have ha := ahead_at (T := T1) (R := R) hm2.1 hRt
      have hwpa := (wp_flat S T1).1 HWP1.out _ (List.mem_of_getElem? ha)
      have hpk := HOK1.out.1 _ (List.mem_of_getElem? ha)
      simp only [pcOk, decide_eq_true_eq] at hpk
      have ec : (((R - 1 : Nat)) : Int) = (R : Int) - 1 := by omega
      have HNW := hide (show (⟨(ahead T1 R).off, (ahead T1 R).len + (m : Int), (ahead T1 R).brk + bf⟩ : Pc) = pcAt S (ahead T1 R).off ((ahead T1 R).len + ((S.length : Int) - n)) by
        rw [show ((S.length : Int) - n) = (m : Int) by omega, ← pcAt_with hwpa hm2.2 (by omega), Int.toNat_natCast, Int.toNat_natCast, hbf0])
      have HRES := hide (show RES = T1.put (R - 1) ⟨(ahead T1 R).off, (ahead T1 R).len + (m : Int), (ahead T1 R).brk + bf⟩ by rw [HADD.out, addP, if_pos hmb, HNW.out])
      have HOKR := hide (show RES.ok by rw [HADD.out]; exact addP_ok HOK1.out HWP1.out hRt (by omega) (by omega) (by rw [HRN1.out]; omega))
      have HPQ := hide (fun d os => CallsIn.regrown_of (F := Fence.wide) (r := 5) (w := wc) (d := d) (os := os) (callsIn_wide.2 (pieceN T1 u5 bs5 base c g 0 S.length cp (R - 1) (ahead T1 R) (grow (redrawn wc d) os) (P6.out.k.below (below_regrown wc d os) P6.out.k.lt) (P6.out.t.below (below_regrown wc d os) (Nat.le_refl _)) HOK1.out ha)))
      have HWQ := hide (fun d os => CallsIn.regrown_of (F := Fence.wide) (r := 5) (w := wc) (d := d) (os := os) (callsIn_wide.2 (withN (ahead T1 R) ⟨(n : Int), (m : Int), bf⟩ (grow (redrawn wc d) os) (by omega) ⟨by simp only; omega, by simp only; omega, hbf1⟩)))
      rw [ec] at HPQ
      have HRP := hide (fun W (hl : Lies W base T1 u5 bs5) => replaceN T1 (R - 1) ⟨(ahead T1 R).off, (ahead T1 R).len + (m : Int), (ahead T1 R).brk + bf⟩ u5 bs5 base W HOK1.out (by rw [← HRES.out]; exact HOKR.out) (by omega) hl P6.out.nd)
      rw [ec] at HRP
      rw [← HRES.out] at HRP
      generalize ahead T1 R = p at *
      clear e0 e1 e2 e3 ha hmb ec
      go_upto_region 5 with fail
      refine (wpIn_wide (n := 6)).1 ?_
      refine wpIn_region_tailW 12 (by kernel_rfl) (by kernel_rfl) ?_
      simp only [List.take_succ_cons, List.take_zero, List.drop_succ_cons, List.drop_zero]
      repeat (refine wpQuietIn_step (fun _ _ _ _ => trivial) (fun K hK => ?_); go_simp; first | (refine hK _ ?_; clear hK K) | (apply Exists.intro; refine ⟨fun _ => ?_, hK _ ?_⟩; (first | exact ⟨trivial, HPQ.out _ _⟩ | exact HPQ.out _ _ | exact ⟨trivial, HWQ.out _ _⟩ | exact HWQ.out _ _); clear hK K))
      refine wpQuietIn_nil ?_
      intro _ hw'
      obtain ⟨⟨dq, osq⟩, hw''⟩ := hw'
      subst hw''
      have B7 := hide (below_regrown wc dq osq)
      clear q0 q1 q2 q3 HPQ HWQ
      generalize grow (redrawn wc dq) osq = w7 at *
      have P7 := hide (P6.out.below B7.out)
      have C7 := hide (C6.out.trans (Chg.of_below (bs := []) B7.out) (fun _ h9 _ => h9) (fun _ h9 _ => by cases h9) (ds := c :: bs))
      clear P6 C6 F6
      gi_wp2_with fail
      refine ⟨trivial, (callsIn_wide.2 (HRP.out _ P7.out.t)).mono ?_⟩
      rintro e w8 ⟨rfl, hl8, hc8⟩
      have P8 := hide (show PM w8 base c g 0 cp S RES u5 bs5 from ⟨P7.out.k.chg hc8 P7.out.cb, hl8, P7.out.nd, P7.out.cb, P7.out.bb, P7.out.bc, P7.out.rt.chg hc8 P7.out.lb P7.out.bb, Nat.lt_of_lt_of_le P7.out.lb hc8.size, P7.out.cap1, P7.out.cap2, P7.out.n⟩)
      have C8 := hide (C7.out.trans hc8 (fun _ h9 _ => h9) (fun x h9 h8 => by
        rcases SB5.out x h9 with h7 | h7
        · exact List.mem_cons_of_mem _ h7
        · omega) (ds := c :: bs))
      clear hl8 hc8 P7 C7 HRP
      gi_wp2_with fail
      go_wp2
      refine bodyPost_ret (v := .tuple #[]) (by simp [results, Tryz.results375]) rfl ⟨rfl, u5, bs5, g, cp, P8.out, SB5.out, C8.out⟩
    | false =>
      have HRES := hide (show RES = T1.ins R ⟨(n : Int), (m : Int), bf⟩ by rw [HADD.out, addP, if_neg (by rw [hmb]; simp), HFR.out])
      have HOKR := hide (show RES.ok by rw [HADD.out]; exact addP_ok HOK1.out HWP1.out hRt (by omega) (by omega) (by rw [HRN1.out]; omega))
      have HIN := hide (fun W (hl : Lies W base T1 u5 bs5) (hb : base ≤ W.heap.size) => insertN T1 R ⟨(n : Int), (m : Int), bf⟩ u5 bs5 base W HBAL1.out (by rw [← HRES.out]; exact HOKR.out) hRt hl P6.out.nd hb)
      rw [← HRES.out] at HIN
      unfold pcV at HIN
      clear e0 e1 e2 e3 hmb
      go_upto_region 6 with fail
      refine (wpIn_wide (n := 6)).1 ?_
      refine wpIn_region_tailM 6 (.pointer (some ⟨c, 0, none⟩)) (by kernel_rfl) (by kernel_rfl) (fun _ _ _ h => h) ⟨Or.inl ⟨by rfl, ?_⟩, fun w => by rfl⟩ ?_
      · intro w; go_simp
      simp only [List.take_succ_cons, List.take_zero, List.drop_succ_cons, List.drop_zero]
      repeat (refine wpQuietIn_step (fun _ _ _ _ => trivial) (fun K hK => ?_); go_simp; first | (refine hK _ ?_; clear hK K) | (apply Exists.intro; refine ⟨fun _ => ?_, hK _ ?_⟩; (fail); clear hK K))
      refine wpQuietIn_nil ?_
      intro _ hw'
      obtain ⟨⟨dq, osq⟩, hw''⟩ := hw'
      subst hw''
      have B7 := hide (below_regrown wc dq osq)
      clear q0 q1 q2 q3
      generalize grow (redrawn wc dq) osq = w7 at *
      have P7 := hide (P6.out.below B7.out)
      have C7 := hide (C6.out.trans (Chg.of_below (bs := []) B7.out) (fun _ h9 _ => h9) (fun _ h9 _ => by cases h9) (ds := c :: bs))
      have s7 := C7.out.size
      clear P6 C6 F6
      gi_wp2_with fail
      refine ⟨trivial, (callsIn_wide.2 (HIN.out _ P7.out.t (by omega))).mono ?_⟩
      rintro e w8 ⟨u8, bs8, rfl, hl8, nd8, sub8, hc8⟩
      have SB8 := hide (show ∀ x ∈ bs8, x ∈ bs ∨ w.heap.size ≤ x from fun x hx => by
        rcases sub8 x hx with h9 | h9
        · exact SB5.out x h9
        · exact .inr (by omega))
      have hP7c := P7.out.k.lt
      have hP7g := P7.out.lb
      have ncb : c ∉ bs8 := fun h9 => by
        rcases sub8 c h9 with h8 | h8
        · exact P7.out.cb h8
        · omega
      have ngb : g ∉ bs8 := fun h9 => by
        rcases sub8 g h9 with h8 | h8
        · exact P7.out.bb h8
        · omega
      have K8 := hide (P7.out.k.chg hc8 P7.out.cb)
      have R8 := hide (P7.out.rt.chg hc8 P7.out.lb P7.out.bb)
      have hg8 : g < w8.heap.size := Nat.lt_of_lt_of_le P7.out.lb hc8.size
      have L8 := hide hl8
      have C8 := hide (C7.out.trans hc8 (fun _ h9 _ => h9) (fun x h9 h8 => by
        rcases SB5.out x h9 with h7 | h7
        · exact List.mem_cons_of_mem _ h7
        · omega) (ds := c :: bs))
      have ND8 := hide nd8
      have d1 := K8.out.c1
      have z1 := K8.out.fz 1
      clear hl8 hc8 nd8 sub8 HIN
      gi_wp2_with fail
      go_wp2
      refine bodyPost_end (v := .tuple #[]) (by simp [results, Tryz.results375]) rfl ⟨rfl, u8, bs8, g, cp, ⟨K8.out.set1 u8, L8.out.other ⟨c, 1, none⟩ (.pointer u8) ncb, ND8.out, ncb, ngb, hgc, fun i hi => by rw [← R8.out i hi]; unfold World.cell?; rw [heap_setCell_other w8 ⟨c, 1, none⟩ g _ hgc], Nat.lt_of_lt_of_le hg8 (Nat.le_of_eq (by simp)), P7.out.cap1, P7.out.cap2, P7.out.n⟩, SB8.out, C8.out.setCell ⟨c, 1, none⟩ (.pointer u8) (.inl (by simp))⟩
end Go.Proofs.YtbgngikejgihgagGreatDoor
