import Derived.Test.YtbgngikejgihgagGreatDoorMq29
import Derived.Test.YtbgngikejgihgagGreatDoorMq30
import Derived.Test.YtbgngikejgihgagGreatDoorMq09
import Derived.Test.YtbgngikejgihgagGreatDoorMq31
import Derived.Test.YtbgngikejgihgagGreatDoorMq10
import Derived.Test.YtbgngikejgihgagGreatDoorMq32
import Derived.Test.YtbgngikejgihgagGreatDoorMq07
import Derived.Deep.LoopGhost
namespace Go.Proofs.YtbgngikejgihgagGreatDoor
open Go Go.RowKit Go.Shelf Go.Sort
set_option linter.unusedVariables false

/-- A core whose tree may be changed. -/
structure PM (w : World) (base c b o cap : Nat) (S : List Int) (T : AT) (u : Option Addr) (bs : List Nat) : Prop where
  k : PK w c b o S.length cap u
  t : Lies w base T u bs
  nd : bs.Nodup
  cb : c ∉ bs
  bb : b ∉ bs
  bc : b ≠ c
  rt : At32' w b o S
  lb : b < w.heap.size
  cap1 : S.length ≤ cap
  cap2 : cap ≤ maxLen
  n : S.length ≤ 220000

theorem PK.chg {w w' : World} {c b o n cap : Nat} {u : Option Addr} {bs : List Nat} (h : PK w c b o n cap u) (hc : Chg bs w w') (hn : c ∉ bs) : PK w' c b o n cap u := (hc.block c h.lt hn).trans h
theorem PK.set1 {w : World} {c b o n cap : Nat} {u : Option Addr} (h : PK w c b o n cap u) (u' : Option Addr) : PK (w.setCell ⟨c, 1, none⟩ (.pointer u')) c b o n cap u' := by
  unfold PK at h ⊢; rw [heap_setCell_same w c 1 _ _ _ h]; rfl
theorem PK.fz {w : World} {c b o n cap : Nat} {u : Option Addr} (h : PK w c b o n cap u) (j : Nat) : w.frozen? ⟨c, j, none⟩ = false := frozen_of_row w c j _ _ h
theorem At32'.chg {w w' : World} {b o : Nat} {zs : List Int} {bs : List Nat} (h : At32' w b o zs) (hc : Chg bs w w') (hb : b < w.heap.size) (hn : b ∉ bs) : At32' w' b o zs := fun i hi => by
  have := h i hi
  unfold World.cell? at this ⊢
  rw [hc.block b hb hn]; exact this

def CutPost (w : World) (base c b o n cap : Nat) (T : AT) (bs : List Nat) (w' : World) : Prop :=
  ∃ u' bs', PK w' c b o n cap u' ∧ Lies w' base T u' bs' ∧ bs'.Nodup ∧ (∀ x ∈ bs', x ∈ bs ∨ w.heap.size ≤ x) ∧ Chg (c :: bs) w w'

set_option maxHeartbeats 2000000 in
set_option maxRecDepth 100000 in
theorem cutA (c b o n cap q m j r1 base : Nat) (off pb r2 r3 r5 : Int) (u : Option Addr) (T1 T2 : AT) (bs : List Nat) (e1 e2 : Pc) (w : World) (hk : PK w c b o n cap u) (hcb : c ∉ bs) (hbs : ∀ x ∈ bs, x < w.heap.size) (hoff : 0 ≤ off ∧ off ≤ 8192) (hj : 0 < j) (hjm : j < m) (hm : m ≤ 8192) (hq : q ≤ 220000) (hr1 : r1 ≤ 8192) (hbase : base ≤ w.heap.size)
    (HSK : Hid (Calls Tryz.prog 390 #[.pointer u, .int .i64 off, .func (.func 391) #[] #[]] w fun e w' => e = .returned (fndV (q : Int) (m : Int) pb (r1, r2, r3, (j : Int), r5)) ∧ Below w.heap.size w w'))
    (HM1 : Hid (∀ W, Below w.heap.size w W → Calls Tryz.prog 180 #[.pointer (some ⟨c, 0, none⟩), .int .i64 (q : Int), .int .i64 (j : Int)] W fun e w' => e = .returned (.agg #[.int .i64 e1.off, .int .i64 e1.len, .int .i64 e1.brk]) ∧ Below W.heap.size W w'))
    (HRP : Hid (∀ W, Below w.heap.size w W → Calls Tryz.prog 387 #[.pointer u, .int .i64 (r1 : Int), .agg #[.int .i64 e1.off, .int .i64 e1.len, .int .i64 e1.brk]] W fun e w' => e = .returned (.tuple #[]) ∧ Lies w' base T1 u bs ∧ Chg bs W w'))
    (HM2 : Hid (∀ W, Chg bs w W → Calls Tryz.prog 180 #[.pointer (some ⟨c, 0, none⟩), .int .i64 ((q : Int) + (j : Int)), .int .i64 ((m : Int) - (j : Int))] W fun e w' => e = .returned (.agg #[.int .i64 e2.off, .int .i64 e2.len, .int .i64 e2.brk]) ∧ Below W.heap.size W w'))
    (HIN : Hid (∀ W, Lies W base T1 u bs → base ≤ W.heap.size → Calls Tryz.prog 389 #[.pointer u, .int .i64 ((r1 : Int) + 1), .agg #[.int .i64 e2.off, .int .i64 e2.len, .int .i64 e2.brk]] W (MutPost base T2 bs W))) :
    Calls Tryz.prog 384 #[.pointer (some ⟨c, 0, none⟩), .int .i64 off] w fun e w' => e = .returned (.int .i64 ((r1 : Int) + 1)) ∧ CutPost w base c b o n cap T2 bs w' := by
  have c1 := hk.c1
  have hclt := hk.lt
  have HK := hide hk
  clear hk
  go_enter Tryz.func384, Tryz.ntmps384
  go_wp2_with fail
  refine HSK.out.mono ?_
  rintro e wa ⟨rfl, hba⟩
  have HBB := hide (hba.alloc hba.size (.cells #[.int .i64 (q : Int), .int .i64 (m : Int), .int .i64 pb, .int .i64 (r1 : Int), .int .i64 r2, .int .i64 r3, .int .i64 (j : Int), .int .i64 r5] 477))
  have KF : (wa.alloc (.cells #[.int .i64 (q : Int), .int .i64 (m : Int), .int .i64 pb, .int .i64 (r1 : Int), .int .i64 r2, .int .i64 r3, .int .i64 (j : Int), .int .i64 r5] 477)).heap[wa.heap.size]? = some (.cells #[.int .i64 (q : Int), .int .i64 (m : Int), .int .i64 pb, .int .i64 (r1 : Int), .int .i64 r2, .int .i64 r3, .int .i64 (j : Int), .int .i64 r5] 477 (0, 0)) := heap_alloc_new _ _
  have HKF := hide KF
  have hsb : w.heap.size ≤ (wa.alloc (.cells #[.int .i64 (q : Int), .int .i64 (m : Int), .int .i64 pb, .int .i64 (r1 : Int), .int .i64 r2, .int .i64 r3, .int .i64 (j : Int), .int .i64 r5] 477)).heap.size := HBB.out.size
  have hfa := hba.size
  clear hba HSK c1 KF
  unfold fndV
  simp only
  go_upto_region 2 with fail
  generalize wa.alloc (.cells #[.int .i64 (q : Int), .int .i64 (m : Int), .int .i64 pb, .int .i64 (r1 : Int), .int .i64 r2, .int .i64 r3, .int .i64 (j : Int), .int .i64 r5] 477) = wb at *
  generalize wa.heap.size = fb at *
  have hfl : fb < wb.heap.size := (Array.getElem?_eq_some_iff.1 HKF.out).1
  have c1 := (HBB.out.cell (p := ⟨c, 1, none⟩) hclt).trans HK.out.c1
  have f0 : wb.cell? ⟨fb, 0, none⟩ = some (.int .i64 (q : Int)) := by rw [cell_of_row wb _ 0 _ _ _ HKF.out]; rfl
  have f3 : wb.cell? ⟨fb, 3, none⟩ = some (.int .i64 (r1 : Int)) := by rw [cell_of_row wb _ 3 _ _ _ HKF.out]; rfl
  have f6 : wb.cell? ⟨fb, 6, none⟩ = some (.int .i64 (j : Int)) := by rw [cell_of_row wb _ 6 _ _ _ HKF.out]; rfl
  have hj0 : ¬ (j : Int) = 0 := by omega
  have hj1 : ¬ j = 0 := by omega
  go_upto_region 5 with fail
  have q1 := fun d os => cell_regrown c1 d os
  have q0 := fun d os => cell_regrown f0 d os
  have q6 := fun d os => cell_regrown f6 d os
  have HMQ := hide (fun d os => CallsIn.regrown_of (F := Fence.wide) (r := 5) (w := wb) (d := d) (os := os) (callsIn_wide.2 (HM1.out _ (HBB.out.trans ((below_regrown wb d os).mono hsb)))))
  refine wpIn_wide.1 (wpIn_region_tailW (n := 6) 12 (by kernel_rfl) (by kernel_rfl) ?_)
  simp only [List.take_succ_cons, List.take_zero, List.drop_succ_cons, List.drop_zero]
  repeat (refine wpQuietIn_step (fun _ _ _ _ => trivial) (fun K hK => ?_); go_simp; first | (refine hK _ ?_; clear hK K) | (apply Exists.intro; refine ⟨fun _ => ?_, hK _ ?_⟩; (first | exact ⟨trivial, HMQ.out _ _⟩ | exact HMQ.out _ _); clear hK K))
  refine wpQuietIn_nil ?_
  intro _ hw'
  obtain ⟨⟨dq, osq⟩, hw''⟩ := hw'
  subst hw''
  have HBC := hide (HBB.out.trans ((below_regrown wb dq osq).mono hsb))
  have HKG := hide (((below_regrown wb dq osq).block fb hfl).trans HKF.out)
  have hfl2 := Nat.lt_of_lt_of_le hfl (below_regrown wb dq osq).size
  clear q0 q1 q6 HMQ f0 f3 f6 c1 HKF hfl
  generalize grow (redrawn wb dq) osq = wc at *
  have hsc := HBC.out.size
  gi_wp2_with fail
  refine ⟨trivial, (callsIn_wide.2 (HRP.out _ HBC.out)).mono ?_⟩
  rintro e wd ⟨rfl, hl4, hc4⟩
  have HL4 := hide hl4
  have HC4 := hide ((Chg.of_below (bs := bs) HBC.out).trans hc4 (fun _ h _ => h) (fun _ h _ => h) (ds := bs))
  have nfb : fb ∉ bs := fun h => by have := hbs fb h; omega
  have HKD := hide (HK.out.chg HC4.out hcb)
  have kf := (hc4.block fb hfl2 nfb).trans HKG.out
  have hfl4 : fb < wd.heap.size := Nat.lt_of_lt_of_le hfl2 hc4.size
  have f0 : wd.cell? ⟨fb, 0, none⟩ = some (.int .i64 (q : Int)) := by rw [cell_of_row wd _ 0 _ _ _ kf]; rfl
  have f1 : wd.cell? ⟨fb, 1, none⟩ = some (.int .i64 (m : Int)) := by rw [cell_of_row wd _ 1 _ _ _ kf]; rfl
  have f6 : wd.cell? ⟨fb, 6, none⟩ = some (.int .i64 (j : Int)) := by rw [cell_of_row wd _ 6 _ _ _ kf]; rfl
  have c1 := HKD.out.c1
  have hs4 := HC4.out.size
  clear hl4 hc4 kf HKG HBC HRP HM1 HBB
  gi_wp2_with fail
  go_upto_region 6 with fail
  have q1 := fun d os => cell_regrown c1 d os
  have q0 := fun d os => cell_regrown f0 d os
  have qm := fun d os => cell_regrown f1 d os
  have q6 := fun d os => cell_regrown f6 d os
  have w1 : IntKind.i64.wrap ((r1 : Int) + 1) = (r1 : Int) + 1 := i64w _ (by omega) (by omega)
  have w2 : IntKind.i64.wrap ((q : Int) + (j : Int)) = (q : Int) + (j : Int) := i64w _ (by omega) (by omega)
  have w3 : IntKind.i64.wrap ((m : Int) - (j : Int)) = (m : Int) - (j : Int) := i64w _ (by omega) (by omega)
  have HMQ := hide (fun d os => CallsIn.regrown_of (F := Fence.wide) (r := 5) (w := wd) (d := d) (os := os) (callsIn_wide.2 (HM2.out _ (HC4.out.trans (Chg.of_below (bs := []) (below_regrown wd d os)) (fun _ h _ => h) (fun _ h _ => by cases h)))))
  refine (wpIn_wide (n := 6)).1 ?_
  refine wpIn_region_tailM 20 (.pointer (some ⟨c, 0, none⟩)) (by kernel_rfl) (by kernel_rfl) (fun _ _ _ h => h) ⟨Or.inl ⟨by rfl, ?_⟩, fun w => by rfl⟩ ?_
  · intro w; go_simp
  simp only [List.take_succ_cons, List.take_zero, List.drop_succ_cons, List.drop_zero]
  repeat (refine wpQuietIn_step (fun _ _ _ _ => trivial) (fun K hK => ?_); go_simp; first | (refine hK _ ?_; clear hK K) | (apply Exists.intro; refine ⟨fun _ => ?_, hK _ ?_⟩; (first | exact ⟨trivial, HMQ.out _ _⟩ | exact HMQ.out _ _); clear hK K))
  refine wpQuietIn_nil ?_
  intro _ hw'
  obtain ⟨⟨dr, osr⟩, hw''⟩ := hw'
  subst hw''
  have HBR := hide (below_regrown wd dr osr)
  clear q0 q1 qm q6 HMQ f0 f1 f6 c1 w2 w3 HM2
  generalize grow (redrawn wd dr) osr = we at *
  have HLE := hide (HL4.out.below HBR.out (Nat.le_refl _))
  have HCE := hide (HC4.out.trans (Chg.of_below (bs := []) HBR.out) (fun _ h _ => h) (fun _ h _ => by cases h) (ds := bs))
  have hse := HCE.out.size
  have HKE := hide (HK.out.chg HCE.out hcb)
  clear HL4 HC4 HBR HKD
  gi_wp2_with fail
  refine ⟨trivial, (callsIn_wide.2 (HIN.out _ HLE.out (by omega))).mono ?_⟩
  rintro e wf ⟨u', bs', rfl, hT', nd', sub', ch'⟩
  have HKF := hide (HKE.out.chg ch' hcb)
  have HTF := hide hT'
  have ncb : c ∉ bs' := fun h => by
    rcases sub' c h with h | h
    · exact hcb h
    · omega
  have HSU := hide (show ∀ x ∈ bs', x ∈ bs ∨ w.heap.size ≤ x from fun x hx => (sub' x hx).imp id (fun h => by omega))
  have HCF := hide (HCE.out.trans ch' (fun _ h _ => h) (fun _ h _ => h) (ds := bs))
  have HND := hide nd'
  have d1 := HKF.out.c1
  have z1 := HKF.out.fz 1
  clear hT' nd' sub' ch' HCE HLE HKE HIN
  gi_wp2_with fail
  go_wp2
  go_ret
  exact ⟨rfl, u', bs', HKF.out.set1 u', HTF.out.other ⟨c, 1, none⟩ (.pointer u') ncb, HND.out, HSU.out, (HCF.out.trans (Chg.refl [] _) (fun x h _ => by simp [h]) (fun x h _ => by cases h) (ds := c :: bs)).setCell ⟨c, 1, none⟩ (.pointer u') (.inl (by simp))⟩
end Go.Proofs.YtbgngikejgihgagGreatDoor

namespace Go.Proofs.YtbgngikejgihgagGreatDoor
open Go Go.RowKit
set_option linter.unusedVariables false

set_option maxHeartbeats 1000000 in
theorem measI (i n k : Int) (w : World) : Calls Tryz.prog 398 #[cnt i n k] w fun e w' => e = .returned (.int .i64 i) ∧ Below w.heap.size w w' := by
  unfold cnt
  go_enter Tryz.func398, Tryz.ntmps398
  go_wp2
  go_ret
  exact ⟨rfl, (Below.refl _ _).alloc (Nat.le_refl _) _⟩

theorem sumM_one : ∀ xs : List It, sumM (fun _ => 1) xs = (xs.length : Int)
  | [] => rfl
  | x :: xs => by simp only [sumM, sumM_one xs, List.length_cons]; omega
theorem sumM_okI {T : AT} (h : T.ok) : sumM (fun _ => 1) (T.told 0) = (T.its : Int) := by
  rw [sumM_one, AT.told_length]

set_option maxHeartbeats 4000000 in
set_option maxRecDepth 100000 in
theorem seekEI (T : AT) (u : Option Addr) (bs : List Nat) (base : Nat) (k : Int) (w : World) (hT : Lies w base T u bs) (hok : T.ok) (hk : 0 ≤ k ∧ k ≤ 8192) :
    Calls Tryz.prog 390 #[.pointer u, .int .i64 k, .func (.func 398) #[] #[]] w fun e w' => e = .returned (fndV (seekP (fun _ => 1) T k).off (seekP (fun _ => 1) T k).len (seekP (fun _ => 1) T k).brk (seekT (fun _ => 1) T k)) ∧ Below w.heap.size w w' := by
  have HRES := hide (seekAdd_zero (fun _ => 1) T k)
  generalize seekT (fun _ => 1) T k = res at HRES ⊢
  generalize hpe : seekP (fun _ => 1) T k = pe
  have HPE := hide hpe.symm
  clear hpe
  have HT := hide hT
  have HOK := hide hok
  have bT := hok.bd
  have hhT : (T.ht : Int) ≤ 8192 := by have := ht_le_its T; omega
  have HB0 := hide (((Below.refl w.heap.size w).alloc (Nat.le_refl _) (.cells #[.int .i64 0, .int .i64 0, .int .i64 0, .int .i64 0, .int .i64 0, .int .i64 0, .int .i64 0, .int .i64 0] 477)).alloc (by simp) (.cells #[.int .i64 0, .int .i64 0, .int .i64 0, .int .i64 0, .int .i64 0, .int .i64 0, .int .i64 0, .int .i64 0] 477))
  have hF0 : Fnd ((w.alloc (.cells #[.int .i64 0, .int .i64 0, .int .i64 0, .int .i64 0, .int .i64 0, .int .i64 0, .int .i64 0, .int .i64 0] 477)).alloc (.cells #[.int .i64 0, .int .i64 0, .int .i64 0, .int .i64 0, .int .i64 0, .int .i64 0, .int .i64 0, .int .i64 0] 477)) (w.heap.size + 1) 0 0 0 0 0 0 0 0 := by
    have := heap_alloc_new (w.alloc (.cells #[.int .i64 0, .int .i64 0, .int .i64 0, .int .i64 0, .int .i64 0, .int .i64 0, .int .i64 0, .int .i64 0] 477)) (.cells #[.int .i64 0, .int .i64 0, .int .i64 0, .int .i64 0, .int .i64 0, .int .i64 0, .int .i64 0, .int .i64 0] 477)
    simpa [Fnd] using this
  have hG0 : Fnd ((w.alloc (.cells #[.int .i64 0, .int .i64 0, .int .i64 0, .int .i64 0, .int .i64 0, .int .i64 0, .int .i64 0, .int .i64 0] 477)).alloc (.cells #[.int .i64 0, .int .i64 0, .int .i64 0, .int .i64 0, .int .i64 0, .int .i64 0, .int .i64 0, .int .i64 0] 477)) w.heap.size 0 0 0 0 0 0 0 0 := by
    unfold Fnd; rw [Below.heap_alloc _ _ _ (by simp)]; exact heap_alloc_new _ _
  have HF0 := hide hF0
  have HG0 := hide hG0
  clear hT hok hF0 hG0
  go_enter Tryz.func390, Tryz.ntmps390
  go_wp2_with fail
  generalize (w.alloc (.cells #[.int .i64 0, .int .i64 0, .int .i64 0, .int .i64 0, .int .i64 0, .int .i64 0, .int .i64 0, .int .i64 0] 477)).alloc (.cells #[.int .i64 0, .int .i64 0, .int .i64 0, .int .i64 0, .int .i64 0, .int .i64 0, .int .i64 0, .int .i64 0] 477) = w0 at *
  go_loopg [0, 1] T.ht (fun g pv kv wr => ∃ (S : AT) (us : Option Addr) (cs : List Nat) (kk : Int) (i : Nat) (n b s : Int), pv = .pointer us ∧ kv = .int .i64 kk ∧ g = S.ht ∧ Lies w base S us cs ∧ S.ok ∧ (0 ≤ kk ∧ kk ≤ 8192) ∧
    ((i : Int) + S.its ≤ 8192 ∧ 0 ≤ n ∧ n + S.rns ≤ 8192 ∧ 0 ≤ b ∧ b + S.bks ≤ 8192 ∧ 0 ≤ s ∧ s + S.ht ≤ 8192) ∧ Fnd wr (w.heap.size + 1) 0 0 0 i n b 0 s ∧ Fnd wr w.heap.size 0 0 0 0 0 0 0 0 ∧ Below w.heap.size w wr ∧ res = seekAdd (fun _ => 1) S kk i n b s ∧ Hid (pe = seekP (fun _ => 1) S kk))
  case atStart => exact ⟨T, u, bs, k, 0, 0, 0, 0, rfl, rfl, rfl, HT.out, HOK.out, hk, by omega, HF0.out, HG0.out, HB0.out, HRES.out, HPE⟩
  case round =>
    obtain ⟨S, us, cs, kk, i, n, b, s, rfl, rfl, rfl, hS, hSok, hkk, hbd, hF, hG, hbw, heq, hpe⟩ := hrel
    clear HT HOK HRES HPE HB0 HF0 HG0 bT hhT
    have hFl := hF.lt
    have hGl := hG.lt
    cases S with
    | nil =>
      obtain ⟨rfl, rfl⟩ := hS
      rw [seekAdd_nil] at heq
      have HEQ := hide heq
      have HF := hide hF
      have HG := hide hG
      have HBW := hide hbw
      obtain ⟨p0, p1, p2, f0, f1, f2, f3, f4⟩ := hF.c
      obtain ⟨g0, g1, g2, g3, g4, g5, g6, g7⟩ := hG.c
      have ff3 := hF.fz 6
      have hz := fun j => hG.fz j
      have z0 := hz 0
      have z1 := hz 1
      have z2 := hz 2
      have z3 := hz 3
      have z4 := hz 4
      have z5 := hz 5
      have z6 := hz 6
      have z7 := hz 7
      clear heq hF hG hbw hbd hz
      go_wp2
      refine bodyPost_ret (v := fndV 0 0 0 (i, n, b, kk, s)) (by simp [results, Tryz.results390, go_sem, g0, g1, g2, g3, g4, g5, g6, g7]; rfl) rfl ⟨by rw [HEQ.out, hpe.out]; rfl, ?_⟩
      repeat (refine Below.setCell ?_ (by simp) _)
      exact HBW.out
    | node l p r =>
      obtain ⟨nb, ul, ur, bl, br, rfl, hbase, hnd, hl, hr, rfl⟩ := hS
      have bL := hSok.left.bd
      have bR := hSok.right.bd
      have bP := hSok.piece
      have hsl := sumM_okI hSok.left
      have hht : ((AT.node l p r).ht : Int) = 1 + max (l.ht : Int) r.ht := by simp only [AT.ht]; omega
      have hit : ((AT.node l p r).its : Int) = l.its + 1 + r.its := by simp only [AT.its]; omega
      have hrn : (AT.node l p r).rns = l.rns + p.len + r.rns := rfl
      have hbk : (AT.node l p r).bks = l.bks + p.brk + r.bks := rfl
      rw [hht, hit, hrn, hbk] at hbd
      have hms : 0 ≤ (l.its : Int) ∧ (l.its : Int) ≤ 8192 ∧ 0 ≤ 1 ∧ 1 ≤ 8192 := by omega
      have HTL : Hid (kk < sumM (fun _ => 1) (l.told 0) ↔ kk < (l.its : Int)) := by rw [hsl]; exact Iff.rfl
      have HSL := hide hsl
      have HEQ0 := hide heq
      have HL := hide hl
      have HR := hide hr
      have HND := hide hnd
      have HOK := hide hSok
      have hltb := hnd.lt
      have HF1 := hide (hF.set7 (s + 1))
      have HG1 := hide (show Fnd (wr.setCell ⟨w.heap.size + 1, 7, none⟩ (.int .i64 (s + 1))) w.heap.size 0 0 0 0 0 0 0 0 from by unfold Fnd; rw [heap_setCell_other _ _ _ _ (by simp)]; exact hG)
      have HB1 := hide (hbw.setCell (p := ⟨w.heap.size + 1, 7, none⟩) (by simp) (.int .i64 (s + 1)))
      obtain ⟨p0, p1, p2, f0, f1, f2, f3, f4⟩ := hF.c
      have ff4 := hF.fz 7
      have c3 := (hbw.cell (p := ⟨nb, 3, none⟩) hltb).trans hnd.c3
      have c3' : (wr.setCell ⟨w.heap.size + 1, 7, none⟩ (.int .i64 (s + 1))).cell? ⟨nb, 3, none⟩ = some (.pointer ul) := (HB1.out.cell (p := ⟨nb, 3, none⟩) hltb).trans hnd.c3
      clear heq hF hG hbw hl hr hnd hSok hsl hht hit hrn hbk
      go_wp2_with fail
      generalize wr.setCell ⟨w.heap.size + 1, 7, none⟩ (.int .i64 (s + 1)) = w1 at *
      have hlw1 := HF1.out.lt
      refine (allN l ul bl base w1 (HL.out.below HB1.out (Nat.le_refl _))).mono ?_
      rintro e w2 ⟨rfl, hb2⟩
      have HF2 := hide (HF1.out.below hb2 (by omega))
      have HG2 := hide (HG1.out.below hb2 (by omega))
      have HB2 := hide (HB1.out.trans (hb2.mono (by omega)))
      clear hb2 HF1 HG1 HB1 c3' c3 p0 p1 p2 f0 f1 f2 f3 f4 ff4
      have hlw2 := HF2.out.lt
      go_wp2_with fail
      refine (ownN p nb ul ur _ _ _ _ w2 ((HB2.out.block nb hltb).trans HND.out)).mono ?_
      rintro e w3 ⟨rfl, hb3⟩
      have hlw3 := hb3.size
      have HF3 := hide ((HF2.out.below hb3 (by omega)).below (((Below.refl w3.heap.size w3).alloc (Nat.le_refl _) (.cells #[.int .i64 l.its, .int .i64 l.rns, .int .i64 l.bks] 332)).alloc (by simp) (.cells #[.int .i64 1, .int .i64 p.len, .int .i64 p.brk] 332)) (by omega))
      have HG3 := hide ((HG2.out.below hb3 (by omega)).below (((Below.refl w3.heap.size w3).alloc (Nat.le_refl _) (.cells #[.int .i64 l.its, .int .i64 l.rns, .int .i64 l.bks] 332)).alloc (by simp) (.cells #[.int .i64 1, .int .i64 p.len, .int .i64 p.brk] 332)) (by omega))
      have HB3 := hide ((((HB2.out.trans (hb3.mono (by omega)))).alloc (by omega) (.cells #[.int .i64 l.its, .int .i64 l.rns, .int .i64 l.bks] 332)).alloc (by simp; omega) (.cells #[.int .i64 1, .int .i64 p.len, .int .i64 p.brk] 332))
      clear hb3 HF2 HG2 HB2
      have hA : ((w3.alloc (.cells #[.int .i64 l.its, .int .i64 l.rns, .int .i64 l.bks] 332)).alloc (.cells #[.int .i64 1, .int .i64 p.len, .int .i64 p.brk] 332)).heap[w3.heap.size]? = some (.cells #[.int .i64 l.its, .int .i64 l.rns, .int .i64 l.bks] 332 (0, 0)) := by
        rw [Below.heap_alloc _ _ _ (by simp)]; exact heap_alloc_new _ _
      have hO : ((w3.alloc (.cells #[.int .i64 l.its, .int .i64 l.rns, .int .i64 l.bks] 332)).alloc (.cells #[.int .i64 1, .int .i64 p.len, .int .i64 p.brk] 332)).heap[w3.heap.size + 1]? = some (.cells #[.int .i64 1, .int .i64 p.len, .int .i64 p.brk] 332 (0, 0)) := by
        have := heap_alloc_new (w3.alloc (.cells #[.int .i64 l.its, .int .i64 l.rns, .int .i64 l.bks] 332)) (.cells #[.int .i64 1, .int .i64 p.len, .int .i64 p.brk] 332)
        simpa using this
      have hs4 : ((w3.alloc (.cells #[.int .i64 l.its, .int .i64 l.rns, .int .i64 l.bks] 332)).alloc (.cells #[.int .i64 1, .int .i64 p.len, .int .i64 p.brk] 332)).heap.size = w3.heap.size + 2 := by simp
      have RN4 := hide (Rnd.mk HF3.out HG3.out HB3.out hA hO (by omega) (by omega))
      clear hA hO hs4 HF3 HG3 HB3
      unfold cnt
      go_wp2_with fail
      generalize (w3.alloc (.cells #[.int .i64 l.its, .int .i64 l.rns, .int .i64 l.bks] 332)).alloc (.cells #[.int .i64 1, .int .i64 p.len, .int .i64 p.brk] 332) = w4 at *
      generalize w3.heap.size = a at *
      have ha := RN4.out.lo
      refine (measI _ _ _ w4).mono ?_
      rintro e w5 ⟨rfl, hb5⟩
      have RN5 := hide (RN4.out.below hb5)
      clear hb5 RN4
      have c3 := (RN5.out.h.cell (p := ⟨nb, 3, none⟩) hltb).trans HND.out.c3
      have sz5 := RN5.out.sz
      by_cases hlt : kk < (l.its : Int)
      · have HEQ := hide (HEQ0.out.trans (seekAdd_left _ _ _ _ _ _ _ _ _ (HTL.out.2 hlt)))
        have HPL : Hid (pe = seekP (fun _ => 1) l kk) := hide (hpe.out.trans (by simp only [seekP]; rw [if_pos (HTL.out.2 hlt)]))
        clear HEQ0 HTL hpe
        go_wp2
        go_roundg l.ht
        case measure => simp only [AT.ht]; omega
        case rel => exact ⟨l, ul, bl, kk, i, n, b, s + 1, rfl, rfl, rfl, HL.out, HOK.out.left, hkk, by omega, RN5.out.f, RN5.out.g, RN5.out.h, HEQ.out, HPL⟩
      · have hnl := fun h => hlt (HTL.out.1 h)
        obtain ⟨l0, l1, l2⟩ := cc3 RN5.out.l
        go_wp2_with fail
        refine (measI _ _ _ w5).mono ?_
        rintro e w6 ⟨rfl, hb6⟩
        have RN6 := hide (RN5.out.below hb6)
        clear hb6 RN5 c3 l0 l1 l2
        obtain ⟨l0, l1, l2⟩ := cc3 RN6.out.l
        obtain ⟨p0, p1, p2, f0, f1, f2, f3, f4⟩ := RN6.out.f.c
        have sz6 := RN6.out.sz
        go_wp2_with fail
        refine (plusN _ _ _ _ _ _ w6 (by omega) (by omega) (by omega) (by omega) (by omega) (by omega)).mono ?_
        rintro e w7 ⟨rfl, hb7⟩
        have RN7 := hide (RN6.out.below hb7)
        clear hb7 RN6 l0 l1 l2 p0 p1 p2 f0 f1 f2 f3 f4
        obtain ⟨p0, p1, p2, f0, f1, f2, f3, f4⟩ := RN7.out.f.c
        have ff0 := RN7.out.f.fz 3
        have ff1 := RN7.out.f.fz 4
        have ff2 := RN7.out.f.fz 5
        have RN8 := hide (RN7.out.set345 (i + l.its) (n + l.rns) (b + l.bks))
        have sz7 := RN7.out.sz
        obtain ⟨o0, o1, o2⟩ := cc3 RN8.out.o
        unfold cnt
        go_wp2_with fail
        generalize ((w7.setCell ⟨w.heap.size + 1, 3, none⟩ (.int .i64 (i + l.its))).setCell ⟨w.heap.size + 1, 4, none⟩ (.int .i64 (n + l.rns))).setCell ⟨w.heap.size + 1, 5, none⟩ (.int .i64 (b + l.bks)) = w8 at *
        clear RN7 p0 p1 p2 f0 f1 f2 f3 f4 ff0 ff1 ff2
        refine (measI _ _ _ w8).mono ?_
        rintro e w9 ⟨rfl, hb9⟩
        have RN9 := hide (RN8.out.below hb9)
        clear hb9 RN8 o0 o1 o2
        have sz9 := RN9.out.sz
        by_cases hin : kk - (l.its : Int) < 1
        · have HEQ := hide (HEQ0.out.trans (seekAdd_here _ _ _ _ _ _ _ _ _ hnl (by rw [HSL.out]; exact hin)))
          have HPH : Hid (pe = p) := hide (hpe.out.trans (by simp only [seekP]; rw [if_neg hnl, if_pos (by rw [HSL.out]; exact hin)]))
          rw [HSL.out] at HEQ
          clear HEQ0 HTL HSL hnl hpe
          obtain ⟨p0, p1, p2, f0, f1, f2, f3, f4⟩ := RN9.out.f.c
          obtain ⟨g0, g1, g2, g3, g4, g5, g6, g7⟩ := RN9.out.g.c
          have ff3 := RN9.out.f.fz 6
          have z0 := RN9.out.g.fz 0
          have z1 := RN9.out.g.fz 1
          have z2 := RN9.out.g.fz 2
          have z3 := RN9.out.g.fz 3
          have z4 := RN9.out.g.fz 4
          have z5 := RN9.out.g.fz 5
          have z6 := RN9.out.g.fz 6
          have z7 := RN9.out.g.fz 7
          have e0 := RN9.out.f.fz 0
          have e1 := RN9.out.f.fz 1
          have e2 := RN9.out.f.fz 2
          have d0 := (RN9.out.h.cell (p := ⟨nb, 0, none⟩) hltb).trans HND.out.c0
          have d1 := (RN9.out.h.cell (p := ⟨nb, 1, none⟩) hltb).trans HND.out.c1
          have d2 := (RN9.out.h.cell (p := ⟨nb, 2, none⟩) hltb).trans HND.out.c2
          have hnb1 : nb ≠ w.heap.size + 1 := by omega
          have hnb0 : nb ≠ w.heap.size := by omega
          go_wp2
          refine bodyPost_ret (v := fndV p.off p.len p.brk (i + l.its, n + l.rns, b + l.bks, kk - (l.its : Int), s + 1)) (by simp [results, Tryz.results390, go_sem, g0, g1, g2, g3, g4, g5, g6, g7]; rfl) rfl ⟨by rw [HEQ.out, HPH.out], ?_⟩
          repeat (refine Below.setCell ?_ (by simp) _)
          exact RN9.out.h
        · have HEQ := hide (HEQ0.out.trans (seekAdd_right _ _ _ _ _ _ _ _ _ hnl (by rw [HSL.out]; exact hin)))
          have HPR : Hid (pe = seekP (fun _ => 1) r (kk - (l.its : Int) - 1)) := hide (hpe.out.trans (by simp only [seekP]; rw [if_neg hnl, if_neg (by rw [HSL.out]; exact hin), HSL.out]))
          rw [HSL.out] at HEQ
          clear HEQ0 HTL HSL hnl hpe
          obtain ⟨o0, o1, o2⟩ := cc3 RN9.out.o
          go_wp2_with fail
          refine (measI _ _ _ w9).mono ?_
          rintro e w10 ⟨rfl, hb10⟩
          have RN10 := hide (RN9.out.below hb10)
          clear hb10 RN9 o0 o1 o2
          obtain ⟨o0, o1, o2⟩ := cc3 RN10.out.o
          obtain ⟨p0, p1, p2, f0, f1, f2, f3, f4⟩ := RN10.out.f.c
          have sz10 := RN10.out.sz
          go_wp2_with fail
          refine (plusN _ _ _ _ _ _ w10 (by omega) (by omega) (by omega) (by omega) (by omega) (by omega)).mono ?_
          rintro e w11 ⟨rfl, hb11⟩
          have RN11 := hide (RN10.out.below hb11)
          clear hb11 RN10 o0 o1 o2 p0 p1 p2 f0 f1 f2 f3 f4
          obtain ⟨p0, p1, p2, f0, f1, f2, f3, f4⟩ := RN11.out.f.c
          have ff0 := RN11.out.f.fz 3
          have ff1 := RN11.out.f.fz 4
          have ff2 := RN11.out.f.fz 5
          have RN12 := hide (RN11.out.set345 (i + l.its + 1) (n + l.rns + p.len) (b + l.bks + p.brk))
          have sz11 := RN11.out.sz
          have c4 := (RN12.out.h.cell (p := ⟨nb, 4, none⟩) hltb).trans HND.out.c4
          unfold cnt
          go_wp2
          go_roundg r.ht
          case measure => simp only [AT.ht]; omega
          case rel => exact ⟨r, ur, br, kk - (l.its : Int) - 1, i + l.its + 1, n + l.rns + p.len, b + l.bks + p.brk, s + 1, rfl, rfl, rfl, HR.out, HOK.out.right, by omega, by omega, RN12.out.f, RN12.out.g, RN12.out.h, HEQ.out, HPR⟩
end Go.Proofs.YtbgngikejgihgagGreatDoor
