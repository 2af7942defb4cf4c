import Derived.Test.YtbgngikejgihgahGreatDoorMq31
import Derived.Test.YtbgngikejgihgahGreatDoorMq14
import Derived.Test.YtbgngikejgihgahGreatDoorMq15
import Derived.ArgAppend
import Derived.Deep.AppendLies
namespace Go.Proofs.YtbgngikejgihgahGreatDoor
open Go Go.RowKit Go.Shelf Go.Sort
set_option linter.unusedVariables false

set_option maxHeartbeats 1000000 in
set_option maxRecDepth 100000 in
theorem cutB (c b o n cap r1 : Nat) (off x y pb r2 r3 r5 : Int) (u : Option Addr) (w : World) (hk : PK w c b o n cap u) 
    (HSK : Hid (Calls Tryz.prog 440 #[.pointer u, .int .i64 off, .func (.func 441) #[] #[]] w fun e w' => e = .returned (fndV x y pb (r1, r2, r3, 0, r5)) ∧ Below w.heap.size w w')) :
    Calls Tryz.prog 434 #[.pointer (some ⟨c, 0, none⟩), .int .i64 off] w fun e w' => e = .returned (.int .i64 (r1 : Int)) ∧ Below w.heap.size w w' := by
  have c1 := hk.c1
  clear hk
  go_enter Tryz.func434, Tryz.ntmps434
  go_wp2_with fail
  refine HSK.out.mono ?_
  rintro e wa ⟨rfl, hba⟩
  have HBB := hide (hba.alloc hba.size (.cells #[.int .i64 x, .int .i64 y, .int .i64 pb, .int .i64 (r1 : Int), .int .i64 r2, .int .i64 r3, .int .i64 0, .int .i64 r5] 552))
  have KF : (wa.alloc (.cells #[.int .i64 x, .int .i64 y, .int .i64 pb, .int .i64 (r1 : Int), .int .i64 r2, .int .i64 r3, .int .i64 0, .int .i64 r5] 552)).heap[wa.heap.size]? = some (.cells #[.int .i64 x, .int .i64 y, .int .i64 pb, .int .i64 (r1 : Int), .int .i64 r2, .int .i64 r3, .int .i64 0, .int .i64 r5] 552 (0, 0)) := heap_alloc_new _ _
  have HKF := hide KF
  clear hba HSK c1 KF
  unfold fndV
  simp only
  go_upto_region 2 with fail
  generalize wa.alloc (.cells #[.int .i64 x, .int .i64 y, .int .i64 pb, .int .i64 (r1 : Int), .int .i64 r2, .int .i64 r3, .int .i64 0, .int .i64 r5] 552) = wb at *
  generalize wa.heap.size = fb at *
  have f3 : wb.cell? ⟨fb, 3, none⟩ = some (.int .i64 (r1 : Int)) := by rw [cell_of_row wb _ 3 _ _ _ HKF.out]; rfl
  have f6 : wb.cell? ⟨fb, 6, none⟩ = some (.int .i64 0) := by rw [cell_of_row wb _ 6 _ _ _ HKF.out]; rfl
  go_wp2
  go_ret
  exact ⟨rfl, HBB.out⟩

theorem PM.below {w w' : World} {base c b o cap : Nat} {S : List Int} {T : AT} {u : Option Addr} {bs : List Nat} (h : PM w base c b o cap S T u bs) (hb : Below w.heap.size w w') : PM w' base c b o cap S T u bs :=
  ⟨h.k.below hb h.k.lt, h.t.below hb (Nat.le_refl _), h.nd, h.cb, h.bb, h.bc, fun i hi => (hb.cell (p := ⟨b, o + i, none⟩) h.lb).trans (h.rt i hi), Nat.lt_of_lt_of_le h.lb hb.size, h.cap1, h.cap2, h.n⟩
theorem pc_eta (p : Pc) (a b c : Int) (h1 : p.off = a) (h2 : p.len = b) (h3 : p.brk = c) : (Value.agg #[.int .i64 a, .int .i64 b, .int .i64 c]) = .agg #[.int .i64 p.off, .int .i64 p.len, .int .i64 p.brk] := by rw [h1, h2, h3]

set_option maxHeartbeats 1000000 in
theorem cutI (S : List Int) (T : AT) (u : Option Addr) (bs : List Nat) (base c b o cap : Nat) (off : Int) (w : World) (h : PM w base c b o cap S T u bs) (hok : T.ok) (hbal : T.bal) (hw : T.wp S) (h0 : 0 ≤ off) (h1 : off ≤ T.rns) (hbase : base ≤ w.heap.size) :
    Calls Tryz.prog 434 #[.pointer (some ⟨c, 0, none⟩), .int .i64 off] w fun e w' => e = .returned (.int .i64 (cutN T off : Nat)) ∧ ∃ u' bs', PM w' base c b o cap S (cutP S T off) u' bs' ∧ (∀ x ∈ bs', x ∈ bs ∨ w.heap.size ≤ x) ∧ Chg (c :: bs) w w' := by
  have hb8 := hok.bd
  obtain ⟨a, b1, cc⟩ := sk_at hok h0 h1
  have hsk := seekER T u bs base off w h.t hok (by omega)
  have hS := h.n
  by_cases hi : skI T off = 0
  · have hsk' : Calls Tryz.prog 440 #[.pointer u, .int .i64 off, .func (.func 441) #[] #[]] w fun e w' => e = .returned (fndV (seekP (fun p => p.len) T off).off (seekP (fun p => p.len) T off).len (seekP (fun p => p.len) T off).brk (skR T off, (seekT (fun p => p.len) T off).2.1, (seekT (fun p => p.len) T off).2.2.1, 0, (seekT (fun p => p.len) T off).2.2.2.2)) ∧ Below w.heap.size w w' := by
      have e : seekT (fun p => p.len) T off = (skR T off, (seekT (fun p => p.len) T off).2.1, (seekT (fun p => p.len) T off).2.2.1, 0, (seekT (fun p => p.len) T off).2.2.2.2) := by rw [← hi]; rfl
      rw [← e]; exact hsk
    refine (cutB c b o S.length cap (skR T off) off _ _ _ _ _ _ u w h.k (hide hsk')).mono ?_
    rintro e w' ⟨rfl, hb⟩
    refine ⟨by rw [cutN, if_pos hi]; rfl, u, bs, ?_, fun x hx => .inl hx, Chg.of_below hb⟩
    rw [cutP, if_pos hi]
    exact h.below hb
  · obtain ⟨c1, c2, c3⟩ := cc.resolve_left hi
    have hp := (wp_flat S T).1 hw _ (List.mem_of_getElem? c3)
    have hpk := hok.1 _ (List.mem_of_getElem? c3)
    simp only [pcOk, decide_eq_true_eq] at hpk
    have hp3 := hp.2.2.1
    have hrl := (split_at c3).2
    rw [AT.flat_its] at hrl
    have hok1 := cutP_ok hok hw hS h0 h1
    have hputok : (T.put (skR T off) (pcAt S (skP T off).off (skI T off))).ok := by
      have hf := put_flat' T (skR T off) (pcAt S (skP T off).off (skI T off)) _ c3
      refine ⟨fun q hq => ?_, ?_⟩
      · rw [hf] at hq
        simp only [List.mem_append, List.mem_cons] at hq
        rcases hq with hq | rfl | hq
        · exact hok.1 q (List.mem_of_mem_take hq)
        · exact pcAt_ok (by omega) (by omega) (by omega) (by omega) hS
        · exact hok.1 q (List.mem_of_mem_drop hq)
      · have h9 := hok.2
        rw [AT.rns_lsum] at h9 ⊢
        rw [hf, lsum_app, lsum_cons]
        have : lsum T.flat = lsum (T.flat.take (skR T off)) + ((skP T off).len + lsum (T.flat.drop (skR T off + 1))) := by
          conv => lhs; rw [(split_at c3).1]
          rw [lsum_app, lsum_cons]
        simp only [pcAt]
        omega
    obtain ⟨q, hq⟩ : ∃ q : Nat, (skP T off).off = q := ⟨(skP T off).off.toNat, by omega⟩
    obtain ⟨m, hm⟩ : ∃ m : Nat, (skP T off).len = m := ⟨(skP T off).len.toNat, by omega⟩
    obtain ⟨j, hj⟩ : ∃ j : Nat, skI T off = j := ⟨(skI T off).toNat, by omega⟩
    have hsk' : Calls Tryz.prog 440 #[.pointer u, .int .i64 off, .func (.func 441) #[] #[]] w fun e w' => e = .returned (fndV (q : Int) (m : Int) (skP T off).brk (skR T off, (seekT (fun p => p.len) T off).2.1, (seekT (fun p => p.len) T off).2.2.1, (j : Int), (seekT (fun p => p.len) T off).2.2.2.2)) ∧ Below w.heap.size w w' := by
      have e : seekT (fun p => p.len) T off = (skR T off, (seekT (fun p => p.len) T off).2.1, (seekT (fun p => p.len) T off).2.2.1, (j : Int), (seekT (fun p => p.len) T off).2.2.2.2) := by rw [← hj]; rfl
      rw [← e, ← hq, ← hm]; exact hsk
    have hbl : ∀ x ∈ bs, x < w.heap.size := fun x hx => (h.t.lt x hx).2
    have key := cutA c b o S.length cap q m j (skR T off) base off (skP T off).brk _ _ _ u (T.put (skR T off) (pcAt S (skP T off).off (skI T off))) (cutP S T off) bs (pcAt S (skP T off).off (skI T off)) (pcAt S ((skP T off).off + skI T off) ((skP T off).len - skI T off)) w h.k h.cb hbl (by omega) (by omega) (by omega) (by omega) (by omega) (by omega) hbase (hide hsk')
      (hide fun W hW => by
        have := measureN S c b o cap q j W (fun i hi => (hW.cell (p := ⟨b, o + i, none⟩) h.lb).trans (h.rt i hi)) ((hW.cell (p := ⟨c, 0, none⟩) h.k.lt).trans h.k.c0) (Nat.lt_of_lt_of_le h.lb hW.size) (Nat.lt_of_lt_of_le h.k.lt hW.size) (by omega) (by omega) h.cap1 h.cap2 (by omega)
        simp only [pcAt, hq, hj, Int.toNat_natCast]
        exact this)
      (hide fun W hW => replaceN T (skR T off) _ u bs base W hok hputok hrl (h.t.frame fun x hx => hW.block x (hbl x hx)) h.nd)
      (hide fun W hW => by
        have ek : PK W c b o S.length cap u := h.k.chg hW h.cb
        have er := h.rt.chg hW h.lb h.bb
        have := measureN S c b o cap (q + j) (m - j) W er ek.c0 (Nat.lt_of_lt_of_le h.lb hW.size) ek.lt (by omega) (by omega) h.cap1 h.cap2 (by omega)
        have e1 : ((q + j : Nat) : Int) = (q : Int) + (j : Int) := by omega
        have e2 : ((m - j : Nat) : Int) = (m : Int) - (j : Int) := by omega
        rw [e1, e2] at this
        simp only [pcAt, hq, hj, hm]
        rw [show ((q : Int) + (j : Int)).toNat = q + j by omega, show ((m : Int) - (j : Int)).toNat = m - j by omega]
        exact this)
      (hide fun W hl hbW => by
        have e3 : ((skR T off + 1 : Nat) : Int) = (skR T off : Int) + 1 := by omega
        rw [← e3]
        have hcp : cutP S T off = (T.put (skR T off) (pcAt S (skP T off).off (skI T off))).ins (skR T off + 1) (pcAt S ((skP T off).off + skI T off) ((skP T off).len - skI T off)) := by rw [cutP, if_neg hi]
        rw [hcp] at hok1 ⊢
        exact insertN (T.put (skR T off) (pcAt S (skP T off).off (skI T off))) (skR T off + 1) _ u bs base W (AT.put_bal _ _ _ hbal) hok1 (by rw [AT.put_its]; omega) hl h.nd hbW)
    refine key.mono ?_
    rintro e w' ⟨rfl, u', bs', k', t', nd', sub', ch'⟩
    refine ⟨by rw [cutN, if_neg hi]; rfl, u', bs', ⟨k', t', nd', ?_, ?_, h.bc, h.rt.chg ch' h.lb ?_, Nat.lt_of_lt_of_le h.lb ch'.size, h.cap1, h.cap2, h.n⟩, sub', ch'⟩
    · intro hc
      rcases sub' c hc with h9 | h9
      · exact h.cb h9
      · have := h.k.lt; omega
    · intro hc
      rcases sub' b hc with h9 | h9
      · exact h.bb h9
      · have := h.lb; omega
    · intro hc
      rcases List.mem_cons.1 hc with h9 | h9
      · exact h.bc h9
      · exact h.bb h9

theorem Tryz.fldE (x y z r s t u v : Value) (w : World) : (Instr.field 552 (.agg #[x, y, z, r, s, t, u, v]) 0).run Tryz.prog w = .ok (.agg #[x, y, z]) w := by kernel_rfl
set_option maxHeartbeats 1000000 in
set_option maxRecDepth 100000 in
theorem pieceN (T : AT) (u : Option Addr) (bs : List Nat) (base c b o n cap k : Nat) (p : Pc) (w : World) (hk : PK w c b o n cap u) (ht : Lies w base T u bs) (hok : T.ok) (hp : T.flat[k]? = some p) :
    Calls Tryz.prog 435 #[.pointer (some ⟨c, 0, none⟩), .int .i64 (k : Int)] w fun e w' => e = .returned (.agg #[.int .i64 p.off, .int .i64 p.len, .int .i64 p.brk]) ∧ Below w.heap.size w w' := by
  have hb := hok.bd
  have hlk := (split_at hp).2
  rw [AT.flat_its] at hlk
  have hr := seekP_one T k p hp
  have HB0 := hide ((Below.refl w.heap.size w).alloc (Nat.le_refl _) (.cells #[.int .i64 0, .int .i64 0, .int .i64 0] 130))
  have HSK := hide (seekEI T u bs base (k : Int) (w.alloc (.cells #[.int .i64 0, .int .i64 0, .int .i64 0] 130)) (ht.below HB0.out (Nat.le_refl _)) hok (by omega))
  rw [hr] at HSK
  generalize seekT (fun _ => 1) T (k : Int) = res at HSK
  have c1 := (HB0.out.cell (p := ⟨c, 1, none⟩) hk.lt).trans hk.c1
  have K0 : (w.alloc (.cells #[.int .i64 0, .int .i64 0, .int .i64 0] 130)).heap[w.heap.size]? = some (.cells #[.int .i64 0, .int .i64 0, .int .i64 0] 130 (0, 0)) := heap_alloc_new _ _
  have HK := hide K0
  have s0 : w.heap.size < (w.alloc (.cells #[.int .i64 0, .int .i64 0, .int .i64 0] 130)).heap.size := by simp
  clear K0 ht hk hp hr
  go_enter Tryz.func435, Tryz.ntmps435
  go_wp2_with fail
  generalize w.alloc (.cells #[.int .i64 0, .int .i64 0, .int .i64 0] 130) = w0 at *
  refine HSK.out.mono ?_
  rintro e w1 ⟨rfl, hb1⟩
  have k1 := (hb1.block w.heap.size s0).trans HK.out
  have d0 : w1.cell? ⟨w.heap.size, 0, none⟩ = some (.int .i64 0) := by rw [cell_of_row w1 _ 0 _ _ _ k1]; rfl
  have d1 : w1.cell? ⟨w.heap.size, 1, none⟩ = some (.int .i64 0) := by rw [cell_of_row w1 _ 1 _ _ _ k1]; rfl
  have d2 : w1.cell? ⟨w.heap.size, 2, none⟩ = some (.int .i64 0) := by rw [cell_of_row w1 _ 2 _ _ _ k1]; rfl
  have f0 := frozen_of_row w1 w.heap.size 0 _ _ k1
  have f1 := frozen_of_row w1 w.heap.size 1 _ _ k1
  have f2 := frozen_of_row w1 w.heap.size 2 _ _ k1
  have HB1 := hide (HB0.out.trans (hb1.mono (by omega)))
  clear HSK hb1 k1 c1
  unfold fndV
  simp only
  have fe := Tryz.fldE
  go_wp2
  refine bodyPost_ret (v := .agg #[.int .i64 p.off, .int .i64 p.len, .int .i64 p.brk]) (by simp [results, Tryz.results435, go_sem, d0, d1, d2]) rfl ⟨rfl, ?_⟩
  exact ((HB1.out.setCell (by simp) _).setCell (by simp) _).setCell (by simp) _
end Go.Proofs.YtbgngikejgihgahGreatDoor

namespace Go.Proofs.YtbgngikejgihgahGreatDoor
open Go Go.RowKit Go.Shelf Go.Sort
set_option linter.unusedVariables false

set_option maxHeartbeats 1000000 in
set_option maxRecDepth 100000 in
theorem meetsN (p q : Pc) (w : World) (hp : 0 ≤ p.off ∧ p.off ≤ 220000 ∧ 0 ≤ p.len ∧ p.len ≤ 8192) :
    Calls Tryz.prog 436 #[.agg #[.int .i64 p.off, .int .i64 p.len, .int .i64 p.brk], .agg #[.int .i64 q.off, .int .i64 q.len, .int .i64 q.brk]] w fun e w' => e = .returned (.bool (decide (p.off + p.len = q.off))) ∧ Below w.heap.size w w' := by
  obtain ⟨po, pl, pb⟩ := p
  obtain ⟨qo, ql, qb⟩ := q
  simp only at *
  have hwr : IntKind.i64.wrap (po + pl) = po + pl := i64w _ (by omega) (by omega)
  go_enter Tryz.func436, Tryz.ntmps436
  go_wp2
  go_ret
  refine ⟨?_, ((Below.refl _ _).alloc (Nat.le_refl _) _).alloc (by simp) _⟩
  first | rfl | simp [Int.beq_eq]

set_option maxHeartbeats 1000000 in
set_option maxRecDepth 100000 in
theorem withN (p q : Pc) (w : World) (hp : 0 ≤ p.len ∧ p.len ≤ 8192 ∧ 0 ≤ p.brk ∧ p.brk ≤ 8192) (hq : 0 ≤ q.len ∧ q.len ≤ 8192 ∧ 0 ≤ q.brk ∧ q.brk ≤ 8192) :
    Calls Tryz.prog 438 #[.agg #[.int .i64 p.off, .int .i64 p.len, .int .i64 p.brk], .agg #[.int .i64 q.off, .int .i64 q.len, .int .i64 q.brk]] w fun e w' => e = .returned (.agg #[.int .i64 p.off, .int .i64 (p.len + q.len), .int .i64 (p.brk + q.brk)]) ∧ Below w.heap.size w w' := by
  obtain ⟨po, pl, pb⟩ := p
  obtain ⟨qo, ql, qb⟩ := q
  simp only at *
  have w1 : IntKind.i64.wrap (pl + ql) = pl + ql := i64w _ (by omega) (by omega)
  have w2 : IntKind.i64.wrap (pb + qb) = pb + qb := i64w _ (by omega) (by omega)
  go_enter Tryz.func438, Tryz.ntmps438
  go_wp2
  refine bodyPost_ret (v := .agg #[.int .i64 po, .int .i64 (pl + ql), .int .i64 (pb + qb)]) (by simp [results, Tryz.results438, go_sem]) rfl ⟨rfl, ?_⟩
  exact (((Below.refl _ _).alloc (Nat.le_refl _) _).alloc (by simp) _).alloc (by simp; omega) _
end Go.Proofs.YtbgngikejgihgahGreatDoor
