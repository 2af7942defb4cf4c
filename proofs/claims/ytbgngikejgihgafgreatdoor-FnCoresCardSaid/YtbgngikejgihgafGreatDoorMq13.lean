import Derived.Test.YtbgngikejgihgafGreatDoorMq12
import Derived.Laws.AppendOwnNone
import Derived.Test.YtbgngikejgihgafGreatDoorMq11
import Derived.ArgAppend
import Derived.Deep.AppendLies
namespace Go.Proofs.YtbgngikejgihgafGreatDoor
open Go Go.RowKit
set_option linter.unusedVariables false
set_option maxRecDepth 100000
set_option maxHeartbeats 8000000
def own32 (w : World) (base : Nat) (v : Value) (zs : List Int) : Prop := w.ownsRow base 21 1 v zs.length (ints .i32 zs)
theorem Tryz.info32T : (Tryz.prog.info? 21).map (fun i => (i.zero, i.size, i.bytes)) = some (some (.int .i32 0), 1, 4) := by kernel_rfl
theorem Y7 (w : World) : own32 (w.alloc (.cells #[] 21)) w.heap.size (.slice (some ⟨w.heap.size, 0, none⟩) 0 0) [] := by
 have := World.ownsRow_made (base := w.heap.size) (e := 21) (size := 1) w #[] 0 (by simp) (Nat.zero_le _) rfl
 simpa [own32, ints] using this
theorem Jt {W : World} {base : Nat} {v : Value} {E F : List Int} {n m : Nat} (hn : E.length = n) (hm : F.length = m) (h : W.ownsRow base 21 1 v (n + m) (ints .i32 E ++ ints .i32 F)) : own32 W base v (E ++ F) := by
 unfold own32;rw [List.length_append, hn, hm, zV];exact h
theorem zj {w : World} {base : Nat} {v : Value} {zs : List Int} (h : own32 w base v zs) : ∃ ao cap, v = .slice ao zs.length cap := by
 rcases h.2 with ⟨rfl, h0⟩ | ⟨g, cap, cur, rfl, _⟩
 ·exact ⟨none, 0, by rw [h0]⟩
 ·exact ⟨_, _, rfl⟩
theorem At32.app {w : World} {b o : Nat} {zs : List Int} (h : At32 w b o zs) (p l : Nat) (hp : p + l <= zs.length) : ∀ j u, (ints .i32 ((zs.drop p).take l))[j]? = some u -> w.cell? ((⟨b, o + p, none⟩ : Addr).add j) = some u := by
 intro j u hj
 have hjl : j < l := by
  rcases Nat.lt_or_ge j l with q | q
  ·exact q
  ·rw [List.getElem?_eq_none (by simp [ints]; omega)] at hj; cases hj
 have e : ((zs.drop p).take l)[j]? = some (zs.getD (p + j) 0) := by
  rw [List.getElem?_take, if_pos hjl, List.getElem?_drop]
  simp [List.getD_eq_getElem?_getD, List.getElem?_eq_getElem (show p + j < zs.length by omega)]
 simp only [ints, List.getElem?_map, e, Option.map_some, Option.some.injEq] at hj;subst hj
 have h9 := h (p + j) (by omega)
 rw [<- Nat.add_assoc] at h9;rw [jJ];exact h9
theorem zw {w : World} {base g cap : Nat} {zs : List Int} (h : own32 w base (.slice (some ⟨g, 0, none⟩) zs.length cap) zs) : At32 w g 0 zs := by
 intro i hi
 have := h.cellAt i (by omega)
 rw [Nat.zero_add, this];simp [ints, List.getElem?_eq_getElem hi]
theorem yd {w : World} {base g cap : Nat} {zs : List Int} (h : own32 w base (.slice (some ⟨g, 0, none⟩) zs.length cap) zs) : g < w.heap.size := (h.lt g rfl).2
end Go.Proofs.YtbgngikejgihgafGreatDoor
namespace Go.Proofs.YtbgngikejgihgafGreatDoor
open Go Go.RowKit Go.Shelf Go.Sort
set_option linter.unusedVariables false
set_option maxRecDepth 100000
set_option maxHeartbeats 8000000
theorem meetsN (p q : Pc) (w : World) (hp : 0 <= p.off ∧ p.off <= 220000 ∧ 0 <= p.len ∧ p.len <= 8192) :
  Calls Tryz.prog 168 #[.agg #[.int .i64 p.off, .int .i64 p.len, .int .i64 p.brk], .agg #[.int .i64 q.off, .int .i64 q.len, .int .i64 q.brk]] w fun e w' => e = .returned (.bool (decide (p.off + p.len = q.off))) ∧ Below w.heap.size w w' := by
 obtain ⟨po, pl, pb⟩ := p;obtain ⟨qo, ql, qb⟩ := q;simp only at *
 have hwr : IntKind.i64.wrap (po + pl) = po + pl := i64w _ (by omega) (by omega)
 go_enter Tryz.func168, Tryz.ntmps168;go_wp2;go_ret
 refine ⟨?_, ((Below.refl _ _).alloc lR _).alloc (by simp) _⟩
 first | rfl | simp [Int.beq_eq]
theorem withN (p q : Pc) (w : World) (hp : 0 <= p.len ∧ p.len <= 8192 ∧ 0 <= p.brk ∧ p.brk <= 8192) (hq : 0 <= q.len ∧ q.len <= 8192 ∧ 0 <= q.brk ∧ q.brk <= 8192) :
  Calls Tryz.prog 170 #[.agg #[.int .i64 p.off, .int .i64 p.len, .int .i64 p.brk], .agg #[.int .i64 q.off, .int .i64 q.len, .int .i64 q.brk]] w fun e w' => e = .returned (.agg #[.int .i64 p.off, .int .i64 (p.len + q.len), .int .i64 (p.brk + q.brk)]) ∧ Below w.heap.size w w' := by
 obtain ⟨po, pl, pb⟩ := p;obtain ⟨qo, ql, qb⟩ := q;simp only at *
 have w1 : IntKind.i64.wrap (pl + ql) = pl + ql := i64w _ (by omega) (by omega)
 have w2 : IntKind.i64.wrap (pb + qb) = pb + qb := i64w _ (by omega) (by omega)
 go_enter Tryz.func170, Tryz.ntmps170;go_wp2
 refine bodyPost_ret (v := .agg #[.int .i64 po, .int .i64 (pl + ql), .int .i64 (pb + qb)]) (by simp [results, Tryz.results170, go_sem]) rfl ⟨rfl, ?_⟩
 exact (((Below.refl _ _).alloc lR _).alloc (by simp) _).alloc (by simp; omega) _
theorem PK.set0 {w : World} {c b o n cap : Nat} {u : Option Addr} (h : PK w c b o n cap u) (b' o' n' cap' : Nat) : PK (w.setCell ⟨c, 0, none⟩ (.slice (some ⟨b', o', none⟩) n' cap')) c b' o' n' cap' u := by
 unfold PK at h |-; rw [heap_setCell_same w c 0 _ _ _ h]; rfl
def InsPM (w : World) (base c : Nat) (S : List Int) (T : AT) (bs : List Nat) (w' : World) : Prop :=
 ∃ u' bs' g cap', PM w' base c g 0 cap' S T u' bs' ∧ (∀ x ∈ bs', x ∈ bs ∨ w.heap.size <= x) ∧ Chg (c :: bs) w w'
theorem insertI (zs ts : List Int) (T : AT) (u : Option Addr) (bs : List Nat) (base c b o ct : Nat) (off : Int) (ad : Addr) (w : World) (h : PM w base c b o zs.length zs T u bs) (hok : T.ok) (hbal : T.bal) (hw : T.wp zs) (h0 : 0 <= off) (h1 : off <= T.rns) (hbase : base <= w.heap.size) (hm : 0 < ts.length) (hr : T.rns + ts.length <= 8192) (hS : zs.length + ts.length <= 220000)
  (hts : ∀ j v, (ints .i32 ts)[j]? = some v -> w.cell? (ad.add j) = some v) :
  Calls Tryz.prog 162 #[.pointer (some ⟨c, 0, none⟩), .int .i64 off, .slice (some ad) ts.length ct] w fun e w' => e = .returned (.tuple #[]) ∧ InsPM w base c (zs ++ ts) (insP (zs ++ ts) zs.length T off) bs w' := by
 obtain ⟨i0, hi0, hz0, hz1, hz2⟩ := info_parts Tryz.info32T;have HP := hide h;have c0 := h.k.c0;have f0 := h.k.fz 0;have hclt := h.k.lt;have bT := hok.bd;have HOK := hide hok;have HBAL := hide hbal;have hSl : (zs ++ ts).length = zs.length + ts.length := List.length_append;have HW := hide (hw.app ts)
 have HZ := hide (show ∀ j v, (ints .i32 zs)[j]? = some v -> w.cell? ((⟨b, o, none⟩ : Addr).add j) = some v from (by
  have h9 := jH (o := 0) (l := zs.length) h.rt
  simpa using h9))
 have HTS := hide hts
 have hbl : ∀ x ∈ bs, x < w.heap.size := fun x hx => (h.t.lt x hx).2
 have HAP := hide (fun (W : World) (v : Value) (ho : W.ownsRow w.heap.size 21 1 v (zs.length + ts.length) (ints .i32 zs ++ ints .i32 ts)) => show own32 W w.heap.size v (zs ++ ts) from Jt rfl rfl ho)
 have HLZ := hide (show (ints .i32 zs).length = zs.length * 1 by rw [zA, Nat.mul_one])
 have HLT := hide (show (ints .i32 ts).length = ts.length * 1 by rw [zA, Nat.mul_one])
 have HRI := hide (show insP (zs ++ ts) zs.length T off = addP (zs ++ ts) zs.length (cutP (zs ++ ts) T off) (cutN T off) from rfl)
 generalize hS0 : zs ++ ts = S at *;generalize hn0 : zs.length = n at *;generalize hm0 : ts.length = m at *;generalize hres : insP S n T off = RES at *;clear h hok hbal hw hts hS0 hn0 hm0 hres;go_enter Tryz.func162, Tryz.ntmps162
 go_wp2_with (at_builtin; refine wpList_append_grows _ rfl _ _ 25 rfl 21 i0 (.int .i32 0) 1 4 Tryz.underlying25 hi0 hz0 hz1 hz2 rfl (by decide) (some ⟨b, o, none⟩) n n (ints .i32 zs) rfl (by intro h; cases h) HLZ.out (by intro x hx; cases hx; exact HZ.out) ad m ct (ints .i32 ts) rfl HLT.out HTS.out (zG _ _) (by omega) (by unfold maxLen; omega) (by omega) ?_; intro v' w1 hown hgr; have HO1 := hide (HAP.out _ _ hown); rcases hown.2 with ⟨rfl, e9⟩ | ⟨g, cp, cur, rfl, hg1, hg2, hg3, hg4, _, _⟩; (exfalso; omega); have B1 := hide ((Below.refl w.heap.size w).grown hgr lR (fun q hq => by cases hq)); have d0 := (B1.out.cell (p := ⟨c, 0, none⟩) hclt).trans c0; have K1 := hide (HP.out.k.below B1.out hclt); have z0 := K1.out.fz 0; clear hown hgr)
 have hgl : g < w1.heap.size := (Array.getElem?_eq_some_iff.1 hg2).1
 have hgc : g ≠ c := by omega
 have hgb : g ∉ bs := fun h9 => by have := hbl g h9; omega
 have s1 := B1.out.size;have K2 := hide (K1.out.set0 g 0 (n + m) cp)
 have C2 := hide ((Chg.of_below (bs := [c]) B1.out).setCell ⟨c, 0, none⟩ (.slice (some ⟨g, 0, none⟩) (n + m) cp) (.inl (by simp)))
 have A1 : At32' w1 g 0 S := zw (base := w.heap.size) (cap := cp) (by rw [hSl]; exact HO1.out)
 have P2 := hide (show PM (w1.setCell ⟨c, 0, none⟩ (.slice (some ⟨g, 0, none⟩) (n + m) cp)) base c g 0 cp S T u bs from
  ⟨by rw [hSl]; exact K2.out, (HP.out.t.below B1.out lR).other ⟨c, 0, none⟩ _ HP.out.cb, HP.out.nd, HP.out.cb, hgb, hgc,
   fun i hi => by rw [<- A1 i hi]; unfold World.cell?; rw [heap_setCell_other w1 ⟨c, 0, none⟩ g _ hgc], Nat.lt_of_lt_of_le hgl (Nat.le_of_eq (by simp)), by omega, hg4, by omega⟩)
 have hs2 := C2.out.size;have HRT := hide (jD (S := S) HOK.out h0 h1)
 have HOK1 := hide (Za HOK.out HW.out (by omega) h0 h1)
 have HBAL1 := hide (YE (S := S) (off := off) HBAL.out);have HWP1 := hide (jj HOK.out HW.out h0 h1)
 have HRN1 := hide (show (cutP S T off).rns = T.rns by rw [AT.rns_lsum, ZL HOK.out h0 h1, <- AT.rns_lsum])
 have HCUT := hide (fun W (hp : PM W base c g 0 cp S T u bs) hb => cutI S T u bs base c g 0 cp off W hp HOK.out HBAL.out HW.out h0 h1 hb)
 have HMe := hide (ZO S c g 0 cp n m _ P2.out.rt P2.out.k.c0 P2.out.lb P2.out.k.lt (by omega) (by omega) P2.out.cap1 P2.out.cap2 (by omega))
 have hbf := XL ((S.drop n).take m)
 have hbl2 : ((S.drop n).take m).length <= m := by rw [List.length_take]; omega
 have HFR := hide (show pcAt S (n : Int) ((S.length : Int) - n) = ⟨(n : Int), (m : Int), brk ((S.drop n).take m)⟩ from (by
  unfold pcAt
  rw [show ((S.length : Int) - n) = (m : Int) by omega, Int.toNat_natCast, Int.toNat_natCast]))
 generalize hbf0 : brk ((S.drop n).take m) = bf at *
 have hbf1 : 0 <= bf ∧ bf <= 8192 := by omega
 have HADD := hide (show RES = addP S n (cutP S T off) (cutN T off) from HRI.out)
 generalize hT1 : cutP S T off = T1 at *;generalize hR1 : cutN T off = R at *;have hRt := HRT.out.1;have b1 := HOK1.out.bd;clear hT1 hR1 hbf hbl2 HP HOK HBAL HW HZ HTS HLZ HLT HAP HRI HRT K1 K2 A1 HO1 d0 z0 hg2 hg3 hg4;generalize w1.setCell ⟨c, 0, none⟩ (.slice (some ⟨g, 0, none⟩) (n + m) cp) = w2 at *;refine HMe.out.mono ?_;rintro e w3 ⟨rfl, hb3⟩;have P4 := hide ((P2.out.below hb3).below ((Below.refl w3.heap.size w3).alloc lR (.cells #[.int .i64 (n : Int), .int .i64 (m : Int), .int .i64 bf] 87)));have B4 := hide (hb3.alloc hb3.size (.cells #[.int .i64 (n : Int), .int .i64 (m : Int), .int .i64 bf] 87))
 have F4 := hide (show (w3.alloc (.cells #[.int .i64 (n : Int), .int .i64 (m : Int), .int .i64 bf] 87)).heap[w3.heap.size]? = some (.cells #[.int .i64 (n : Int), .int .i64 (m : Int), .int .i64 bf] 87 (0, 0)) from heap_alloc_new _ _)
 have s3 := hb3.size
 have s4 : w3.heap.size < (w3.alloc (.cells #[.int .i64 (n : Int), .int .i64 (m : Int), .int .i64 bf] 87)).heap.size := by simp
 clear hb3 HMe P2;go_wp2_with fail;generalize w3.alloc (.cells #[.int .i64 (n : Int), .int .i64 (m : Int), .int .i64 bf] 87) = w4 at *;generalize w3.heap.size = fb at *
 refine (HCUT.out _ P4.out (by omega)).mono ?_
 rintro e w5 ⟨rfl, u5, bs5, hp5, sub5, ch5⟩;have P5 := hide hp5
 have nfb : fb ∉ c :: bs := fun h9 => by
  rcases List.mem_cons.1 h9 with h9 | h9
  ·omega
  ·have := hbl fb h9; omega
 have F5 := hide ((ch5.block fb s4 nfb).trans F4.out);have hf5 : fb < w5.heap.size := Nat.lt_of_lt_of_le s4 ch5.size
 have C5 := hide (((C2.out.trans (Chg.of_below (bs := []) B4.out) (fun x h9 _ => by simp at h9; simp [h9]) (fun x h9 _ => by cases h9) (ds := c :: bs)).trans ch5 (fun _ h9 _ => h9) (fun _ h9 _ => h9) (ds := c :: bs)))
 have SB5 := hide (show ∀ x ∈ bs5, x ∈ bs ∨ w.heap.size <= x from fun x hx => (sub5 x hx).imp id (fun h9 => by omega))
 have nfb5 : fb ∉ bs5 := fun h9 => by
  rcases sub5 fb h9 with h8 | h8
  ·exact nfb (List.mem_cons_of_mem _ h8)
  ·omega
 have s5 := ch5.size;have sw5 := C5.out.size;clear hp5 sub5 ch5 HCUT P4 F4 B4 C2
 have hwR : IntKind.i64.wrap ((R : Int) - 1) = (R : Int) - 1 := i64w _ (by omega) (by omega)
 go_upto_region 4 with fail
 go_cut [40] (fun x wc => x = .bool (meetB n T1 R) ∧ Below w5.heap.size w5 wc)
 case first =>
  have k5 := F5.out
  have e0 : w5.cell? ⟨fb, 0, none⟩ = some (.int .i64 (n : Int)) := by rw [cell_of_row w5 _ 0 _ _ _ k5]; rfl
  have e1 : w5.cell? ⟨fb, 1, none⟩ = some (.int .i64 (m : Int)) := by rw [cell_of_row w5 _ 1 _ _ _ k5]; rfl
  have e2 : w5.cell? ⟨fb, 2, none⟩ = some (.int .i64 bf) := by rw [cell_of_row w5 _ 2 _ _ _ k5]; rfl
  have q0 := fun d os => cell_regrown e0 d os
  have q1 := fun d os => cell_regrown e1 d os
  have q2 := fun d os => cell_regrown e2 d os
  by_cases hR0 : R = 0
  ·subst hR0
   have hd : decide ((0 : Int) < ((0 : Nat) : Int)) = false := by simp
   clear e0 e1 e2 k5
   refine wp_region_quiet_below (by kernel_rfl) (by kernel_rfl) ?_
   repeat (quiet_step (fail))
   refine wpQuiet_nil ?_;intro _ hw';obtain ⟨⟨dq, osq⟩, hw''⟩ := hw';subst hw'';go_wp2_with fail;go_meet
   exact ⟨by simp [meetB], below_regrown w5 dq osq⟩
  ·have hd : decide ((0 : Int) < (R : Int)) = true := by simp; omega
   have hd2 : decide (0 < R) = true := by simp; omega
   have hd3 : 0 < R := by omega
   have ha := zu (T := T1) (R := R) (by omega) hRt
   have hpk := HOK1.out.1 _ (List.mem_of_getElem? ha);simp only [pcOk, decide_eq_true_eq] at hpk
   have ec : (((R - 1 : Nat)) : Int) = (R : Int) - 1 := by omega
   have HPQ := hide (fun d os => Calls.regrown_of (w := w5) (d := d) (os := os) (XW T1 u5 bs5 base c g 0 S.length cp (R - 1) (ahead T1 R) (grow (redrawn w5 d) os) (P5.out.k.below (below_regrown w5 d os) P5.out.k.lt) (P5.out.t.below (below_regrown w5 d os) lR) HOK1.out ha))
   have HMQ := hide (fun d os => Calls.regrown_of (w := w5) (d := d) (os := os) (meetsN (ahead T1 R) ⟨(n : Int), (m : Int), bf⟩ (grow (redrawn w5 d) os) (by omega)))
   rw [ec] at HPQ
   have HMB := hide (show meetB n T1 R = decide ((ahead T1 R).off + (ahead T1 R).len = (n : Int)) by simp only [meetB]; congr 1; simp; omega)
   generalize ahead T1 R = p at *;clear e0 e1 e2 k5 ha ec
   refine wp_region_quiet_below (by kernel_rfl) (by kernel_rfl) ?_
   repeat (quiet_step (first | exact HPQ.out _ _ | exact HMQ.out _ _))
   refine wpQuiet_nil ?_;intro _ hw';obtain ⟨⟨dq, osq⟩, hw''⟩ := hw';subst hw'';go_wp2_with fail;go_meet
   exact ⟨by rw [HMB.out], below_regrown w5 dq osq⟩
 case rest =>
  obtain ⟨rfl, hb6⟩ := hcut;have P6 := hide (P5.out.below hb6);have F6 := hide ((hb6.block fb hf5).trans F5.out);have hf6 : fb < wc.heap.size := Nat.lt_of_lt_of_le hf5 hb6.size
  have C6 := hide (C5.out.trans (Chg.of_below (bs := []) hb6) (fun _ h9 _ => h9) (fun _ h9 _ => by cases h9) (ds := c :: bs))
  have s6 := hb6.size;have sw6 := C6.out.size;clear hb6 P5 F5 C5;have k6 := F6.out
  have e0 : wc.cell? ⟨fb, 0, none⟩ = some (.int .i64 (n : Int)) := by rw [cell_of_row wc _ 0 _ _ _ k6]; rfl
  have e1 : wc.cell? ⟨fb, 1, none⟩ = some (.int .i64 (m : Int)) := by rw [cell_of_row wc _ 1 _ _ _ k6]; rfl
  have e2 : wc.cell? ⟨fb, 2, none⟩ = some (.int .i64 bf) := by rw [cell_of_row wc _ 2 _ _ _ k6]; rfl
  have e3 := P6.out.k.c1
  have q0 := fun d os => cell_regrown e0 d os
  have q1 := fun d os => cell_regrown e1 d os
  have q2 := fun d os => cell_regrown e2 d os
  have q3 := fun d os => cell_regrown e3 d os
  clear k6
  cases hmb : meetB n T1 R with
  | true =>
   have hm2 := hmb;simp only [meetB, decide_eq_true_eq] at hm2;have ha := zu (T := T1) (R := R) hm2.1 hRt;have hwpa := (zR S T1).1 HWP1.out _ (List.mem_of_getElem? ha);have hpk := HOK1.out.1 _ (List.mem_of_getElem? ha);simp only [pcOk, decide_eq_true_eq] at hpk
   have ec : (((R - 1 : Nat)) : Int) = (R : Int) - 1 := by omega
   have HNW := hide (show (⟨(ahead T1 R).off, (ahead T1 R).len + (m : Int), (ahead T1 R).brk + bf⟩ : Pc) = pcAt S (ahead T1 R).off ((ahead T1 R).len + ((S.length : Int) - n)) by
    rw [show ((S.length : Int) - n) = (m : Int) by omega, <- Jm hwpa hm2.2 (by omega), Int.toNat_natCast, Int.toNat_natCast, hbf0])
   have HRES := hide (show RES = T1.put (R - 1) ⟨(ahead T1 R).off, (ahead T1 R).len + (m : Int), (ahead T1 R).brk + bf⟩ by rw [HADD.out, addP, if_pos hmb, HNW.out])
   have HOKR := hide (show RES.ok by rw [HADD.out]; exact XM HOK1.out HWP1.out hRt (by omega) (by omega) (by rw [HRN1.out]; omega))
   have HPQ := hide (fun d os => CallsIn.regrown_of (F := Fence.wide) (r := 5) (w := wc) (d := d) (os := os) (callsIn_wide.2 (XW T1 u5 bs5 base c g 0 S.length cp (R - 1) (ahead T1 R) (grow (redrawn wc d) os) (P6.out.k.below (below_regrown wc d os) P6.out.k.lt) (P6.out.t.below (below_regrown wc d os) lR) HOK1.out ha)))
   have HWQ := hide (fun d os => CallsIn.regrown_of (F := Fence.wide) (r := 5) (w := wc) (d := d) (os := os) (callsIn_wide.2 (withN (ahead T1 R) ⟨(n : Int), (m : Int), bf⟩ (grow (redrawn wc d) os) (by omega) ⟨by simp only; omega, by simp only; omega, hbf1⟩)))
   rw [ec] at HPQ
   have HRP := hide (fun W (hl : Lies W base T1 u5 bs5) => KK T1 (R - 1) ⟨(ahead T1 R).off, (ahead T1 R).len + (m : Int), (ahead T1 R).brk + bf⟩ u5 bs5 base W HOK1.out (by rw [<- HRES.out]; exact HOKR.out) (by omega) hl P6.out.nd)
   rw [ec] at HRP;rw [<- HRES.out] at HRP;generalize ahead T1 R = p at *;clear e0 e1 e2 e3 ha hmb ec
   go_upto_region 5 with fail
   refine (wpIn_wide (n := 6)).1 ?_
   refine yC 12 (by kernel_rfl) (by kernel_rfl) ?_
   simp only [List.take_succ_cons, List.take_zero, List.drop_succ_cons, List.drop_zero]
   repeat (refine wpQuietIn_step (fun _ _ _ _ => trivial) (fun K hK => ?_); go_simp; first | (refine hK _ ?_; clear hK K) | (apply Exists.intro; refine ⟨fun _ => ?_, hK _ ?_⟩; (first | exact ⟨trivial, HPQ.out _ _⟩ | exact HPQ.out _ _ | exact ⟨trivial, HWQ.out _ _⟩ | exact HWQ.out _ _); clear hK K))
   refine wpQuietIn_nil ?_;intro _ hw';obtain ⟨⟨dq, osq⟩, hw''⟩ := hw';subst hw'';have B7 := hide (below_regrown wc dq osq);clear q0 q1 q2 q3 HPQ HWQ;generalize grow (redrawn wc dq) osq = w7 at *;have P7 := hide (P6.out.below B7.out)
   have C7 := hide (C6.out.trans (Chg.of_below (bs := []) B7.out) (fun _ h9 _ => h9) (fun _ h9 _ => by cases h9) (ds := c :: bs))
   clear P6 C6 F6
   gi_wp2_with fail
   refine ⟨trivial, (callsIn_wide.2 (HRP.out _ P7.out.t)).mono ?_⟩;rintro e w8 ⟨rfl, hl8, hc8⟩
   have P8 := hide (show PM w8 base c g 0 cp S RES u5 bs5 from ⟨P7.out.k.chg hc8 P7.out.cb, hl8, P7.out.nd, P7.out.cb, P7.out.bb, P7.out.bc, P7.out.rt.chg hc8 P7.out.lb P7.out.bb, Nat.lt_of_lt_of_le P7.out.lb hc8.size, P7.out.cap1, P7.out.cap2, P7.out.n⟩)
   have C8 := hide (C7.out.trans hc8 (fun _ h9 _ => h9) (fun x h9 h8 => by
    rcases SB5.out x h9 with h7 | h7
    ·exact List.mem_cons_of_mem _ h7
    ·omega) (ds := c :: bs))
   clear hl8 hc8 P7 C7 HRP
   gi_wp2_with fail
   go_wp2
   refine bodyPost_ret (v := .tuple #[]) (by simp [results, Tryz.results162]) rfl ⟨rfl, u5, bs5, g, cp, P8.out, SB5.out, C8.out⟩
  | false =>
   have HRES := hide (show RES = T1.ins R ⟨(n : Int), (m : Int), bf⟩ by rw [HADD.out, addP, if_neg (by rw [hmb]; simp), HFR.out])
   have HOKR := hide (show RES.ok by rw [HADD.out]; exact XM HOK1.out HWP1.out hRt (by omega) (by omega) (by rw [HRN1.out]; omega))
   have HIN := hide (fun W (hl : Lies W base T1 u5 bs5) (hb : base <= W.heap.size) => zBl T1 R ⟨(n : Int), (m : Int), bf⟩ u5 bs5 base W HBAL1.out (by rw [<- HRES.out]; exact HOKR.out) hRt hl P6.out.nd hb)
   rw [<- HRES.out] at HIN;unfold pcV at HIN;clear e0 e1 e2 e3 hmb
   go_upto_region 6 with fail
   refine (wpIn_wide (n := 6)).1 ?_
   refine jW 6 (.pointer (some ⟨c, 0, none⟩)) (by kernel_rfl) (by kernel_rfl) (fun _ _ _ h => h) ⟨Or.inl ⟨by rfl, ?_⟩, fun w => by rfl⟩ ?_
   ·intro w; go_simp
   simp only [List.take_succ_cons, List.take_zero, List.drop_succ_cons, List.drop_zero]
   repeat (refine wpQuietIn_step (fun _ _ _ _ => trivial) (fun K hK => ?_); go_simp; first | (refine hK _ ?_; clear hK K) | (apply Exists.intro; refine ⟨fun _ => ?_, hK _ ?_⟩; (fail); clear hK K))
   refine wpQuietIn_nil ?_;intro _ hw';obtain ⟨⟨dq, osq⟩, hw''⟩ := hw';subst hw'';have B7 := hide (below_regrown wc dq osq);clear q0 q1 q2 q3;generalize grow (redrawn wc dq) osq = w7 at *;have P7 := hide (P6.out.below B7.out)
   have C7 := hide (C6.out.trans (Chg.of_below (bs := []) B7.out) (fun _ h9 _ => h9) (fun _ h9 _ => by cases h9) (ds := c :: bs))
   have s7 := C7.out.size;clear P6 C6 F6
   gi_wp2_with fail
   refine ⟨trivial, (callsIn_wide.2 (HIN.out _ P7.out.t (by omega))).mono ?_⟩
   rintro e w8 ⟨u8, bs8, rfl, hl8, nd8, sub8, hc8⟩
   have SB8 := hide (show ∀ x ∈ bs8, x ∈ bs ∨ w.heap.size <= x from fun x hx => by
    rcases sub8 x hx with h9 | h9
    ·exact SB5.out x h9
    ·exact .inr (by omega))
   have hP7c := P7.out.k.lt;have hP7g := P7.out.lb
   have ncb : c ∉ bs8 := fun h9 => by
    rcases sub8 c h9 with h8 | h8
    ·exact P7.out.cb h8
    ·omega
   have ngb : g ∉ bs8 := fun h9 => by
    rcases sub8 g h9 with h8 | h8
    ·exact P7.out.bb h8
    ·omega
   have K8 := hide (P7.out.k.chg hc8 P7.out.cb);have R8 := hide (P7.out.rt.chg hc8 P7.out.lb P7.out.bb);have hg8 : g < w8.heap.size := Nat.lt_of_lt_of_le P7.out.lb hc8.size;have L8 := hide hl8
   have C8 := hide (C7.out.trans hc8 (fun _ h9 _ => h9) (fun x h9 h8 => by
    rcases SB5.out x h9 with h7 | h7
    ·exact List.mem_cons_of_mem _ h7
    ·omega) (ds := c :: bs))
   have ND8 := hide nd8;have d1 := K8.out.c1;have z1 := K8.out.fz 1;clear hl8 hc8 nd8 sub8 HIN
   gi_wp2_with fail
   go_wp2
   refine bodyPost_end (v := .tuple #[]) (by simp [results, Tryz.results162]) rfl ⟨rfl, u8, bs8, g, cp, ⟨K8.out.set1 u8, L8.out.other ⟨c, 1, none⟩ (.pointer u8) ncb, ND8.out, ncb, ngb, hgc, fun i hi => by rw [<- R8.out i hi]; unfold World.cell?; rw [heap_setCell_other w8 ⟨c, 1, none⟩ g _ hgc], Nat.lt_of_lt_of_le hg8 (Nat.le_of_eq (by simp)), P7.out.cap1, P7.out.cap2, P7.out.n⟩, SB8.out, C8.out.setCell ⟨c, 1, none⟩ (.pointer u8) (.inl (by simp))⟩
theorem JD (T : AT) (u : Option Addr) (bs : List Nat) (base c b o n cap : Nat) (w : World) (hk : PK w c b o n cap u) (ht : Lies w base T u bs) :
  Calls Tryz.prog 52 #[.pointer (some ⟨c, 0, none⟩)] w fun e w' => e = .returned (.int .i64 T.rns) ∧ Below w.heap.size w w' := by
 have c1 := hk.c1;have HA := hide (allN T u bs base w ht);clear hk ht;go_enter Tryz.func52, Tryz.ntmps52;go_wp2_with fail;refine HA.out.mono ?_;rintro e w1 ⟨rfl, hb1⟩;have HB1 := hide hb1;have fl1 := Tryz.fld1;unfold cnt;clear hb1;go_wp2;go_ret;exact ⟨rfl, HB1.out⟩
def roomV (r : Int) (n : Nat) : Int := if 220000 - (n : Int) < 8192 - r then 220000 - (n : Int) else 8192 - r
theorem roomV_le {r : Int} {n m : Nat} : ((m : Int) <= roomV r n) ↔ r + m <= 8192 ∧ n + m <= 220000 := by
 unfold roomV; split <;> omega
theorem roomN (T : AT) (u : Option Addr) (bs : List Nat) (base c b o n cap : Nat) (w : World) (hk : PK w c b o n cap u) (ht : Lies w base T u bs) (hok : T.ok) (hn : n <= 220000) :
  Calls Tryz.prog 165 #[.pointer (some ⟨c, 0, none⟩)] w fun e w' => e = .returned (.int .i64 (roomV T.rns n)) ∧ Below w.heap.size w w' := by
 have bT := hok.bd
 have HL := hide (fun d os => Calls.regrown_of (w := w) (d := d) (os := os) (JD T u bs base c b o n cap (grow (redrawn w d) os) (hk.below (below_regrown w d os) hk.lt) (ht.below (below_regrown w d os) lR)))
 have q0 := fun d os => cell_regrown hk.c0 d os
 have w1 : IntKind.i64.wrap (8192 - T.rns) = 8192 - T.rns := i64w _ (by omega) (by omega)
 have w2 : IntKind.i64.wrap (220000 - (n : Int)) = 220000 - (n : Int) := i64w _ (by omega) (by omega)
 unfold roomV;clear hk ht hok;generalize T.rns = r at *;go_enter Tryz.func165, Tryz.ntmps165
 go_upto_region 1 with fail
 refine wp_region_quiet_below (by kernel_rfl) (by kernel_rfl) ?_
 repeat (quiet_step (first | exact HL.out _ _))
 refine wpQuiet_nil ?_;intro _ hw';obtain ⟨⟨dq, osq⟩, hw''⟩ := hw';subst hw'';go_wp2
 all_goals (go_ret; exact ⟨rfl, below_regrown w dq osq⟩)
theorem Tryz.mLengthI (c : Option Addr) (w : World) : (Go.method 381 71 (.pointer c) "loop.example/s01685/impl.length").run Tryz.prog w = .ok (52, .pointer c) w := by kernel_rfl
theorem Tryz.mRoomI (c : Option Addr) (w : World) : (Go.method 381 71 (.pointer c) "loop.example/s01685/impl.room").run Tryz.prog w = .ok (165, .pointer c) w := by kernel_rfl
theorem Tryz.mInsertI (c : Option Addr) (w : World) : (Go.method 381 71 (.pointer c) "loop.example/s01685/impl.insert").run Tryz.prog w = .ok (162, .pointer c) w := by kernel_rfl
theorem insTextI (zs ts : List Int) (T : AT) (u : Option Addr) (bs : List Nat) (base c b o ct : Nat) (off : Int) (ad : Addr) (w : World) (h : PM w base c b o zs.length zs T u bs) (hok : T.ok) (hbal : T.bal) (hw : T.wp zs) (hoff : 0 <= off ∧ off <= T.rns) (hbase : base <= w.heap.size) (hm : 0 < ts.length) (hr : T.rns + ts.length <= 8192) (hS : zs.length + ts.length <= 220000)
  (had : ad.block < w.heap.size) (hts : ∀ j v, (ints .i32 ts)[j]? = some v -> w.cell? (ad.add j) = some v) :
  Calls Tryz.prog 41 #[.iface 71 (.pointer (some ⟨c, 0, none⟩)), .int .i64 off, .slice (some ad) ts.length ct] w fun e w' => e = .returned .nilIface ∧ InsPM w base c (zs ++ ts) (insP (zs ++ ts) zs.length T off) bs w' := by
 have mL := Tryz.mLengthI;have mR := Tryz.mRoomI;have mI := Tryz.mInsertI;have bT := hok.bd;have HL := hide (JD T u bs base c b o zs.length zs.length w h.k h.t)
 have HR := hide (fun W (hW : Below w.heap.size w W) => roomN T u bs base c b o zs.length zs.length W (h.k.below hW h.k.lt) (h.t.below hW lR) hok (by omega))
 have HKB := hide (fun w => yQ off 0 T.rns 2 w)
 rw [show decide (0 <= off ∧ off <= T.rns) = true by simpa using hoff] at HKB
 simp only [errV, if_true] at HKB
 have HKR := hide (fun w => yQ (ts.length : Int) 0 (roomV T.rns zs.length) 10 w)
 rw [show decide (0 <= (ts.length : Int) ∧ (ts.length : Int) <= roomV T.rns zs.length) = true by rw [decide_eq_true_eq, roomV_le]; omega] at HKR
 simp only [errV, if_true] at HKR
 have HIN := hide (fun W (hW : Below w.heap.size w W) => insertI zs ts T u bs base c b o ct off ad W (h.below hW) hok hbal hw hoff.1 hoff.2 (Nat.le_trans hbase hW.size) hm hr hS (fun j v hj => (hW.cell (p := ad.add j) (by unfold Addr.add; split <;> exact had)).trans (hts j v hj)))
 have HFI := hide (fun W W' (hW : Below w.heap.size w W) (hi : InsPM W base c (zs ++ ts) (insP (zs ++ ts) zs.length T off) bs W') => show InsPM w base c (zs ++ ts) (insP (zs ++ ts) zs.length T off) bs W' from (by
  obtain ⟨u', bs', g, cp, hp, hs, hc⟩ := hi
  exact ⟨u', bs', g, cp, hp, fun x hx => (hs x hx).imp id (fun h9 => Nat.le_trans hW.size h9), (Chg.of_below (bs := []) hW).trans hc (fun _ h9 _ => by cases h9) (fun _ h9 _ => h9)⟩))
 clear h hoff hok bT hbal hw hr hS hts;generalize insP (zs ++ ts) zs.length T off = RES at *;generalize roomV T.rns zs.length = rv at *;generalize T.rns = r at *;generalize zs ++ ts = S at *;generalize ts.length = m at *
 have hm' : (0 : Int) < (m : Int) := by omega
 go_enter Tryz.func41, Tryz.ntmps41;go_wp2_with fail;refine HL.out.mono ?_;rintro e w1 ⟨rfl, h1⟩;have B1 := hide h1;clear h1;go_wp2_with fail;refine (HKB.out _).mono ?_;rintro e wx ⟨rfl, hwx⟩;have hw2 := hwx.symm;subst hw2;go_wp2_with fail;refine (HR.out _ B1.out).mono ?_;rintro e w2 ⟨rfl, h2⟩;have B2 := hide (B1.out.trans (h2.mono B1.out.size));clear h2;go_wp2_with fail;refine (HKR.out _).mono ?_;rintro e wy ⟨rfl, hwy⟩;have hw3 := hwy.symm;subst hw3;go_wp2_with fail;refine (HIN.out _ B2.out).mono ?_;rintro e w4 ⟨rfl, hi4⟩;have HI4 := hide (HFI.out _ _ B2.out hi4);clear hi4;go_wp2;go_ret;exact ⟨rfl, HI4.out⟩
end Go.Proofs.YtbgngikejgihgafGreatDoor
namespace Go.Proofs.YtbgngikejgihgafGreatDoor
open Go Go.RowKit
set_option linter.unusedVariables false
set_option maxRecDepth 100000
set_option maxHeartbeats 8000000
def itV (x : It) : List Value := [.int .i64 x.pc.off, .int .i64 x.pc.len, .int .i64 x.pc.brk, .int .i64 x.lv]
def itVs (xs : List It) : List Value := xs.flatMap itV
theorem Yn (xs : List It) : (itVs xs).length = xs.length * 4 := by
 induction xs with
 | nil => rfl
 | cons x xs ih => simp only [itVs, List.flatMap_cons, List.length_append] at ih |-; rw [ih]; simp [itV]; omega
theorem KY (a b : List It) : itVs (a ++ b) = itVs a ++ itVs b := by simp [itVs]
theorem itVs_get (xs : List It) (i k : Nat) (x : It) (h : xs[i]? = some x) (hk : k < 4) : (itVs xs)[i * 4 + k]? = (itV x)[k]? := by
 induction xs generalizing i with
 | nil => simp at h
 | cons y ys ih =>
  cases i with
  | zero =>
   simp at h; subst h;simp only [itVs, List.flatMap_cons, Nat.zero_mul, Nat.zero_add]
   rw [List.getElem?_append_left (by simp [itV]; omega)]
  | succ i =>
   simp only [List.getElem?_cons_succ] at h;have := ih i h;simp only [itVs, List.flatMap_cons] at this |-
   rw [List.getElem?_append_right (by simp [itV]; omega)]
   rw [<- this]
   congr 1
   simp [itV]; omega
def OwI (w : World) (base : Nat) (v : Value) (xs : List It) : Prop := w.ownsRow base 89 4 v xs.length (itVs xs)
theorem OwI.rd {w : World} {base : Nat} {v : Value} {xs : List It} (h : OwI w base v xs) : RdI w.heap.size w v xs := by
 unfold OwI at h;have hlt := h.lt
 rcases h.2 with ⟨hv, hn⟩ | ⟨g, cap, cur, hv, hrest⟩
 ·left; exact ⟨none, 0, by rw [hv], by apply List.eq_nil_of_length_eq_zero; omega⟩
 ·obtain ⟨hb, hg, hcap, hcm, hsz, htk⟩ := hrest
  subst hv;have hgl := (hlt g rfl).2
  by_cases h0 : xs.length = 0
  ·left; rw [h0]; exact ⟨_, _, rfl, by apply List.eq_nil_of_length_eq_zero; exact h0⟩
  ·right
   refine ⟨g, 0, cap, rfl, ⟨by omega, hcap, hcm⟩, hgl, fun i x hx => ?_⟩
   have hil : i < xs.length := by
    rcases Nat.lt_or_ge i xs.length with q | q
    ·exact q
    ·rw [List.getElem?_eq_none q] at hx; cases hx
   have key : ∀ k, k < 4 -> w.cell? ⟨g, i * 4 + k, none⟩ = (itV x)[k]? := fun k hk => by
    rw [cell_of_row w g _ _ _ _ hg, <- itVs_get xs i k x hx hk, <- htk, List.getElem?_take, if_pos (by omega)]
    simp
   have k0 := key 0 (by omega)
   have k1 := key 1 (by omega)
   have k2 := key 2 (by omega)
   have k3 := key 3 (by omega)
   simp only [Nat.zero_add];exact ⟨k0, k1, k2, k3⟩
theorem OwI.below {w w' : World} {base B : Nat} {v : Value} {xs : List It} (h : OwI w base v xs) (hb : Below B w w') (hB : w.heap.size <= B) : OwI w' base v xs := zD h hb hB
theorem OwI.base {w : World} {base base' : Nat} {v : Value} {xs : List It} (h : OwI w base v xs) (hb : base' <= base) : OwI w base' v xs := zE h hb
theorem Tryz.infoIT : (Tryz.prog.info? 89).map (fun i => (i.zero, i.size, i.bytes)) = some (some (.agg #[.int .i64 0, .int .i64 0, .int .i64 0, .int .i64 0]), 4, 32) := by kernel_rfl
end Go.Proofs.YtbgngikejgihgafGreatDoor
