import Derived.Test.YtbgngikejgihgafGreatDoorMq06
namespace Go.Proofs.YtbgngikejgihgafGreatDoor
open Go Go.RowKit
set_option linter.unusedVariables false
set_option maxRecDepth 100000
set_option maxHeartbeats 8000000
def bnd (p : Pc) : Pc := ⟨min (max p.off 0) (220000 - min (max p.len 1) 8192), min (max p.len 1) 8192, min (max p.brk 0) (min (max p.len 1) 8192)⟩
theorem bnd_eq (p : Pc) : (bnd p = p) = (pcOk p = true) := by
 apply propext;obtain ⟨a, b, c⟩ := p;simp only [bnd, pcOk, decide_eq_true_eq, Pc.mk.injEq];omega
theorem pc3 {a b c a' b' c' : Int} (h1 : a = a') (h2 : b = b') (h3 : c = c') : Ending.returned (.agg #[.int .i64 a, .int .i64 b, .int .i64 c]) = Ending.returned (.agg #[.int .i64 a', .int .i64 b', .int .i64 c']) := by
 subst h1 h2 h3; rfl
theorem boundedI (p : Pc) (w : World) : Calls Tryz.prog 143 #[pcV p] w fun e w' => e = .returned (pcV (bnd p)) ∧ Below w.heap.size w w' := by
 obtain ⟨po, pl, pb⟩ := p;unfold pcV;simp only;go_enter Tryz.func143, Tryz.ntmps143;go_wp2
 all_goals (refine bodyPost_ret (v := cnt _ _ _) (by simp [results, Tryz.results143, go_sem]; rfl) rfl ?_; exact ⟨pc3 (by simp only [bnd]; omega) (by simp only [bnd]; omega) (by simp only [bnd]; omega), ((Below.refl _ _).alloc lR _).alloc (by simp) _⟩)
theorem pieceW (p q : Pc) (b : Bool) (w : World) (hK : ∀ w, Calls Tryz.prog 143 #[pcV p] w fun e w' => e = .returned (pcV q) ∧ Below w.heap.size w w')
  (hq : (b = true ∧ p.off = q.off ∧ p.len = q.len ∧ p.brk = q.brk) ∨ (b = false ∧ ¬ p.off = q.off) ∨ (b = false ∧ p.off = q.off ∧ ¬ p.len = q.len) ∨ (b = false ∧ p.off = q.off ∧ p.len = q.len ∧ ¬ p.brk = q.brk)) :
  Calls Tryz.prog 135 #[pcV p] w fun e w' => e = .returned (errV b 1) ∧ Below w.heap.size w w' := by
 have HB0 := hide ((Below.refl w.heap.size w).alloc lR (.cells #[.int .i64 p.off, .int .i64 p.len, .int .i64 p.brk] 87))
 have k0 : (w.alloc (.cells #[.int .i64 p.off, .int .i64 p.len, .int .i64 p.brk] 87)).cell? ⟨w.heap.size, 0, none⟩ = some (.int .i64 p.off) := by simp
 have k1 : (w.alloc (.cells #[.int .i64 p.off, .int .i64 p.len, .int .i64 p.brk] 87)).cell? ⟨w.heap.size, 1, none⟩ = some (.int .i64 p.len) := by simp
 have k2 : (w.alloc (.cells #[.int .i64 p.off, .int .i64 p.len, .int .i64 p.brk] 87)).cell? ⟨w.heap.size, 2, none⟩ = some (.int .i64 p.brk) := by simp
 have hl0 : w.heap.size < (w.alloc (.cells #[.int .i64 p.off, .int .i64 p.len, .int .i64 p.brk] 87)).heap.size := by simp
 have HK := hide hK;clear hK;obtain ⟨po, pl, pb⟩ := p;obtain ⟨qo, ql, qb⟩ := q;simp only at k0 k1 k2 hl0 HB0 hq;unfold pcV;go_enter Tryz.func135, Tryz.ntmps135
 go_upto_region 1 with fail
 generalize w.alloc (.cells #[.int .i64 po, .int .i64 pl, .int .i64 pb] 87) = w0 at *
 go_cut [6] (fun s6 wc => s6 = .bool (!b) ∧ Below w0.heap.size w0 wc)
 case first =>
  rcases hq with ⟨rfl, rfl, rfl, rfl⟩ | ⟨rfl, g0⟩ | ⟨rfl, rfl, g0⟩ | ⟨rfl, rfl, rfl, g0⟩
  all_goals (go_region_with (go_at_call 143; refine (HK.out _).mono ?_; rintro e w1 ⟨rfl, hb1⟩; have B1 := hide (show Below w0.heap.size w0 w1 from ⟨hb1.os, hb1.tape, hb1.output, hb1.size, hb1.block⟩); have d0 := (B1.out.cell (p := ⟨w.heap.size, 0, none⟩) hl0).trans k0; have d1 := (B1.out.cell (p := ⟨w.heap.size, 1, none⟩) hl0).trans k1; have d2 := (B1.out.cell (p := ⟨w.heap.size, 2, none⟩) hl0).trans k2; simp only [pcV]; clear hb1))
  all_goals (go_wp2_with fail; go_meet; exact ⟨rfl, B1.out⟩)
 case rest =>
  obtain ⟨rfl, hbc⟩ := hcut;have HBC := hide hbc;clear hbc k0 k1 k2 hq
  cases b with
  | true =>
   go_wp2;go_ret;exact ⟨rfl, HB0.out.trans (HBC.out.mono (Nat.le_of_lt hl0))⟩
  | false =>
   go_wp2;go_ret;exact ⟨rfl, HB0.out.trans (HBC.out.mono (Nat.le_of_lt hl0))⟩
theorem pieceI (p : Pc) (w : World) : Calls Tryz.prog 135 #[pcV p] w fun e w' => e = .returned (errV (pcOk p) 1) ∧ Below w.heap.size w w' := by
 refine pieceW p (bnd p) (pcOk p) w (boundedI p) ?_;have h := bnd_eq p
 cases hp : pcOk p with
 | true =>
  have e : bnd p = p := by rw [h]; exact hp
  left; rw [e]; simp
 | false =>
  right
  have e : ¬ bnd p = p := by rw [h, hp]; simp
  have e2 : ¬ (p.off = (bnd p).off ∧ p.len = (bnd p).len ∧ p.brk = (bnd p).brk) := by
   intro hh; apply e;generalize bnd p = q at hh;obtain ⟨a, b, c⟩ := p; obtain ⟨a', b', c'⟩ := q; simp at hh |-; omega
  by_cases g0 : p.off = (bnd p).off
  ·by_cases g1 : p.len = (bnd p).len
   ·exact .inr (.inr ⟨rfl, g0, g1, fun g2 => e2 ⟨g0, g1, g2⟩⟩)
   ·exact .inr (.inl ⟨rfl, g0, g1⟩)
  ·exact .inl ⟨rfl, g0⟩
theorem zBm (n : Nat) : okI n [] = true := by simp [okI, total]
theorem yM {xs : List It} {j : Nat} {x : It} (h : xs[j]? = some x) : xs.take (j + 1) = xs.take j ++ [x] := by
 rw [List.take_add_one, h]; rfl
theorem okI_snoc (n : Nat) (xs : List It) (x : It) (h : okI n xs = true) : okI n (xs ++ [x]) = (pcOk x.pc && decide (0 <= x.lv ∧ x.lv <= (n : Int) - 1) && decide (total xs + x.pc.len <= 8192)) := by
 simp only [okI, Bool.and_eq_true] at h;simp only [okI, List.all_append, h.1, Bool.true_and, zp, total, List.all_cons, List.all_nil, Bool.and_true];simp
theorem zA6 (n : Nat) (xs : List It) (j : Nat) (h : okI n xs = true) : okI n (xs.take j) = true := by
 simp only [okI, Bool.and_eq_true, decide_eq_true_eq] at h |-
 have hall : ∀ x ∈ xs, pcOk x.pc = true := fun x hx => by have := List.all_eq_true.1 h.1 x hx; simp only [Bool.and_eq_true] at this; exact this.1
 refine ⟨List.all_eq_true.2 fun x hx => List.all_eq_true.1 h.1 x (List.mem_of_mem_take hx), ?_⟩
 have e : total xs = total (xs.take j) + total (xs.drop j) := by rw [<- zp, List.take_append_drop]
 have h2 := yX (xs.drop j) (List.all_eq_true.2 fun x hx => hall x (List.mem_of_mem_drop hx))
 omega
theorem zCd {n : Nat} {xs : List It} (h : okI n xs = true) : 0 <= total xs ∧ total xs <= 8192 := by
 simp only [okI, Bool.and_eq_true, decide_eq_true_eq] at h
 have h2 := yX xs (List.all_eq_true.2 fun x hx => by have := List.all_eq_true.1 h.1 x hx; simp only [Bool.and_eq_true] at this; exact this.1)
 omega
theorem YI {B : Nat} {w : World} {b off cap : Nat} {xs : List It} (h : ∀ i x, xs[i]? = some x -> ItAt w b (off + i * 4) x) {j : Nat} (hj : j < xs.length) : ∃ x, xs[j]? = some x ∧ ItAt w b (off + j * 4) x :=
 ⟨xs[j], by simp [hj], h j _ (by simp [hj])⟩
theorem itemsI (B : Nat) (v : Value) (xs : List It) (w : World) (hr : RdI B w v xs) (hB : B <= w.heap.size) (hn : xs.length <= 1048576) :
  Calls Tryz.prog 115 #[v] w fun e w' => e = .returned (errV (okI xs.length xs) 1) ∧ Below w.heap.size w w' := by
 rcases hr with ⟨ao, cap, rfl, rfl⟩ | ⟨b, off, cap, rfl, ⟨hp0, hpc, hpm⟩, hb, hc⟩
 ·rw [zBm]
  go_enter Tryz.func115, Tryz.ntmps115;go_wp2_with fail
  go_loopw [3, 10] (fun s i wr => i = .int .i64 0 ∧ s = .int .i64 0 ∧ wr = w) (fun _ _ _ => 0)
  case atStart => exact ⟨rfl, rfl, rfl⟩
  case round =>
   obtain ⟨rfl, rfl, rfl⟩ := hrel;go_wp2;go_ret;exact ⟨rfl, Below.refl _ _⟩
 ·have hbl : b < w.heap.size := by omega
  have HC := hide hc
  have hn' : (xs.length : Int) <= 1048576 := by omega
  generalize hN : xs.length = n at *;generalize hres : okI n xs = res;have HRES := hide hres;unfold maxLen at hpm;clear hc hres;go_enter Tryz.func115, Tryz.ntmps115;go_wp2_with fail
  go_loopw [3, 10] (fun s i wr => ∃ j : Nat, j <= n ∧ i = .int .i64 j ∧ s = .int .i64 (total (xs.take j)) ∧ okI n (xs.take j) = true ∧ Below w.heap.size w wr) (fun _ i _ => n - (intOf i).toNat)
  case atStart => exact ⟨0, Nat.zero_le _, rfl, by simp [total], by simp [zBm], Below.refl _ _⟩
  case round =>
   obtain ⟨j, hj, rfl, rfl, hok, hbw⟩ := hrel;have HOK := hide hok;have HBW := hide hbw;have hsw := hbw.size;have hT := zCd hok;generalize hTT : total (xs.take j) = tt at *;have HTT := hide hTT;clear hok hbw hTT
   by_cases hjn : j < n
   ·obtain ⟨x, hx, a0, a1, a2, a3⟩ := YI (B := B) (cap := cap) HC.out (hN ▸ hjn)
    have hjn' : (j : Int) < n := by omega
    have hx' := hide hx;have e0 := (HBW.out.cell (p := ⟨b, off + j * 4, none⟩) hbl).trans a0;have e1 := (HBW.out.cell (p := ⟨b, off + j * 4 + 1, none⟩) hbl).trans a1;have e2 := (HBW.out.cell (p := ⟨b, off + j * 4 + 2, none⟩) hbl).trans a2;have e3 := (HBW.out.cell (p := ⟨b, off + j * 4 + 3, none⟩) hbl).trans a3
    have hbr : b < wr.heap.size := by omega
    clear a0 a1 a2 a3 hx;have HBA := hide ((Below.refl wr.heap.size wr).alloc lR (.cells #[.int .i64 x.pc.off, .int .i64 x.pc.len, .int .i64 x.pc.brk, .int .i64 x.lv] 89));have hkx : (wr.alloc (.cells #[.int .i64 x.pc.off, .int .i64 x.pc.len, .int .i64 x.pc.brk, .int .i64 x.lv] 89)).heap[wr.heap.size]? = some (.cells #[.int .i64 x.pc.off, .int .i64 x.pc.len, .int .i64 x.pc.brk, .int .i64 x.lv] 89 (0, 0)) := heap_alloc_new _ _
    have hlx : wr.heap.size < (wr.alloc (.cells #[.int .i64 x.pc.off, .int .i64 x.pc.len, .int .i64 x.pc.brk, .int .i64 x.lv] 89)).heap.size := by simp
    go_wp2_with fail;generalize wr.alloc (.cells #[.int .i64 x.pc.off, .int .i64 x.pc.len, .int .i64 x.pc.brk, .int .i64 x.lv] 89) = wa at *;refine (pieceI x.pc wa).mono ?_;rintro e w1 ⟨rfl, hb1⟩;have hk1 := (hb1.block _ hlx).trans hkx
    have d1 : w1.cell? ⟨wr.heap.size, 1, none⟩ = some (.int .i64 x.pc.len) := by rw [cell_of_row w1 _ 1 _ _ _ hk1]; rfl
    have d3 : w1.cell? ⟨wr.heap.size, 3, none⟩ = some (.int .i64 x.lv) := by rw [cell_of_row w1 _ 3 _ _ _ hk1]; rfl
    have hl1 : wr.heap.size < w1.heap.size := by have := hb1.size; omega
    have HB1 := hide (HBW.out.trans ((HBA.out.trans (hb1.mono (Nat.le_of_lt hlx))).mono hsw));have HS := hide (okI_snoc n (xs.take j) x HOK.out)
    have HP := hide (show okI n xs = true -> okI n (xs.take j ++ [x]) = true from fun h => by rw [<- yM hx'.out]; exact zA6 n xs (j + 1) h)
    rw [HTT.out] at HS;clear hb1 hk1 hkx hlx HBA e0 e1 e2 e3 HBW
    cases hpk : pcOk x.pc with
    | false =>
     have hbad : okI n xs = false := by
      cases hh : okI n xs with
      | false => rfl
      | true => have := HP.out hh; rw [HS.out, hpk] at this; simp at this
     have hr0 : res = false := HRES.out.symm.trans hbad;clear hbad;simp only [errV, Bool.false_eq_true, if_false];go_wp2;go_ret
     exact ⟨by first | rfl | (rw [hr0]; rfl), HB1.out⟩
    | true =>
     have hpk' := hpk;simp only [pcOk, decide_eq_true_eq] at hpk';simp only [errV, if_true]
     by_cases htot : 8192 < tt + x.pc.len
     ·have hbad : okI n xs = false := by
       cases hh : okI n xs with
       | false => rfl
       | true => have := HP.out hh; rw [HS.out] at this; simp at this; omega
      have hr0 : res = false := HRES.out.symm.trans hbad;clear hbad;go_wp2;go_ret
      exact ⟨by first | rfl | (rw [hr0]; rfl), HB1.out⟩
     ·have HKB := hide (yQ x.lv 0 ((n : Int) - 1) 1 w1)
      cases hlv : decide (0 <= x.lv ∧ x.lv <= (n : Int) - 1) with
      | false =>
       rw [hlv] at HKB
       have hbad : okI n xs = false := by
        cases hh : okI n xs with
        | false => rfl
        | true => have := HP.out hh; rw [HS.out, hlv] at this; simp at this
       have hr0 : res = false := HRES.out.symm.trans hbad;clear hpk hlv hbad;simp only [errV, Bool.false_eq_true, if_false] at HKB;go_wp2_with fail;refine HKB.out.mono ?_;rintro e w2 ⟨rfl, rfl⟩;go_wp2;go_ret
       exact ⟨by first | rfl | (rw [hr0]; rfl), HB1.out⟩
      | true =>
       rw [hlv] at HKB
       have HOK2 := hide (show okI n (xs.take j ++ [x]) = true by rw [HS.out, hpk, hlv]; simp; omega)
       clear hpk hlv;simp only [errV, if_true] at HKB;go_wp2_with fail;refine HKB.out.mono ?_;rintro e w2 ⟨rfl, rfl⟩;go_wp2;go_roundw
       case rel => exact ⟨j + 1, by omega, by go_num, by rw [yM hx'.out, zp, HTT.out]; simp [total], by rw [yM hx'.out]; exact HOK2.out, HB1.out⟩
       case measure => simp [intOf]; omega
   ·have hjn2 : j = n := by omega
    subst hjn2
    have hge : ¬ (j : Int) < (j : Int) := by omega
    have e : okI j xs = true := by
     have := HOK.out; rw [List.take_of_length_le (by omega)] at this; exact this
    have hr0 : res = true := HRES.out.symm.trans e;clear e;go_wp2;go_ret
    exact ⟨by first | rfl | (rw [hr0]; rfl), HBW.out⟩
def Fine (xs : List It) : Prop := (∀ x ∈ xs, pcOk x.pc = true ∧ 0 <= x.lv ∧ x.lv <= 8191) ∧ total xs <= 8192
theorem Fine.len {xs : List It} (h : Fine xs) : (xs.length : Int) <= total xs := yX xs (List.all_eq_true.2 fun x hx => (h.1 x hx).1)
theorem Fine.right {a b : List It} (h : Fine (a ++ b)) : Fine b := by
 have ha := yX a (List.all_eq_true.2 fun x hx => (h.1 x (by simp [hx])).1)
 refine ⟨fun x hx => h.1 x (by simp [hx]), ?_⟩
 have := h.2; rw [zp] at this; omega
theorem Fine.left {a b : List It} (h : Fine (a ++ b)) : Fine a := by
 have ha := yX b (List.all_eq_true.2 fun x hx => (h.1 x (by simp [hx])).1)
 refine ⟨fun x hx => h.1 x (by simp [hx]), ?_⟩
 have := h.2; rw [zp] at this; omega
theorem Y4 : ∀ (T : AT) (d : Int), T.flat = (T.told d).map (fun x => x.pc)
 | .nil, _ => rfl
 | .node l p r, d => by simp only [AT.flat, AT.told, List.map_append, List.map_cons, Y4 l (d + 1), Y4 r (d + 1)]
theorem Fine.ok {T : AT} {d : Int} (h : Fine (T.told d)) : T.ok := by
 refine ⟨fun p hp => ?_, by rw [<- AT.rns_told T d]; exact h.2⟩
 rw [Y4 T d, List.mem_map] at hp;obtain ⟨x, hx, rfl⟩ := hp;exact (h.1 x hx).1
def SubPost (B rb : Nat) (w : World) (r : Option (AT × List It)) (e : Ending) (w' : World) : Prop :=
 match r with
 | none => e = .returned (.tuple #[.pointer none, .iface 121 (.int .i64 1)]) ∧ Chg [rb] w w'
 | some (T, ys) => ∃ u bs v', e = .returned (.tuple #[.pointer u, .nilIface]) ∧ Lies w' w.heap.size T u bs ∧ bs.Nodup ∧ RdI B w' v' ys ∧ Rdr w' rb v' ∧ Chg [rb] w w'
theorem zCe {a b : List Nat} {m : Nat} (ha : a.Nodup) (hb : b.Nodup) (h1 : ∀ x ∈ a, x < m) (h2 : ∀ x ∈ b, m <= x) : (a ++ b).Nodup := by
 rw [List.nodup_append]
 refine ⟨ha, hb, fun x hx y hy e => ?_⟩
 subst e; have := h1 x hx; have := h2 x hy; omega
theorem sub_nil (B rb : Nat) (v : Value) (xs : List It) (lv : Int) (w : World) (hr : RdI B w v xs) (hv : Rdr w rb v) (hno : ∀ x xt, xs = x :: xt -> x.lv < lv) (hlen : xs.length <= 8192) :
  Calls Tryz.prog 116 #[.pointer (some ⟨rb, 0, none⟩), .int .i64 lv] w fun e w' => e = .returned (.tuple #[.pointer none, .nilIface]) ∧ w' = w := by
 have c := hv.c;have hlt := hv.lt
 cases xs with
 | nil =>
  obtain ⟨ao, cap, rfl⟩ := hr.val;simp only [List.length_nil] at c;clear hr hv hno;go_enter Tryz.func116, Tryz.ntmps116;go_wp2_with fail;go_ret2;exact ⟨rfl, rfl⟩
 | cons x xt =>
  obtain ⟨b, off, cap, rfl, hcap, hm, hb, ⟨a0, a1, a2, a3⟩, _⟩ := hr.head;have hne := hno x xt rfl;have hltb : b < w.heap.size := World.block_lt_of_cell? w _ a0;unfold maxLen at hm;clear hr hv hno;go_enter Tryz.func116, Tryz.ntmps116;go_wp2_with fail;go_ret2;exact ⟨rfl, rfl⟩
theorem subtreeN : ∀ (f : Nat) (lv : Int) (xs : List It) (B rb : Nat) (v : Value) (w : World), 0 <= lv -> lv + f = 8200 -> lv <= 8192 -> Fine xs -> RdI B w v xs -> Rdr w rb v -> B <= rb ->
  Calls Tryz.prog 116 #[.pointer (some ⟨rb, 0, none⟩), .int .i64 lv] w (SubPost B rb w (parse f lv xs)) := by
 intro f
 induction f with
 | zero => intro lv xs B rb v w h0 h1 h2; omega
 | succ f ih =>
  intro lv xs B rb v w h0 h1 h2 hF hr hv hB
  have hlen : xs.length <= 8192 := by have := hF.len; have := hF.2; omega
  by_cases hstop : ∀ x xt, xs = x :: xt -> x.lv < lv
  ·refine (sub_nil B rb v xs lv w hr hv hstop hlen).mono ?_
   rintro e w' ⟨rfl, rfl⟩
   have hp : parse (f + 1) lv xs = some (.nil, xs) := by
    cases xs with
    | nil => rfl
    | cons x xt => rw [parse, if_pos (hstop x xt rfl)]
   rw [hp];exact ⟨none, [], v, rfl, ⟨rfl, rfl⟩, List.nodup_nil, hr, hv, Chg.refl _ _⟩
  ·cases xs with
   | nil => exact absurd (fun x xt h => by cases h) hstop
   | cons x xt =>
    have hx : ¬ x.lv < lv := fun h => hstop (fun y yt e => by cases e; exact h)
    clear hstop
    have hxb := (hF.1 x (by simp)).2
    have IH1 := hide (ih (lv + 1) (x :: xt) B rb v w (by omega) (by omega) (by omega) hF hr hv hB)
    obtain ⟨b, off, cap, rfl, hcap, hm, hb, ⟨a0, a1, a2, a3⟩, _⟩ := hr.head;have hltb : b < w.heap.size := World.block_lt_of_cell? w _ a0;have c := hv.c;have hlt := hv.lt;unfold maxLen at hm
    have HP := hide (show parse (f + 1) lv (x :: xt) = _ by rw [parse, if_neg hx])
    generalize parse (f + 1) lv (x :: xt) = res at HP |-;have HF := hide hF;clear hr hv hF;go_enter Tryz.func116, Tryz.ntmps116;go_wp2_with fail;refine IH1.out.mono ?_;clear IH1
    cases hp1 : parse f (lv + 1) (x :: xt) with
    | none =>
     rintro e w1 ⟨rfl, hc1⟩;have HC1 := hide hc1;rw [hp1] at HP;clear hc1 hp1;go_wp2_with fail;go_ret2;rw [HP.out];exact ⟨rfl, HC1.out⟩
    | some q =>
     obtain ⟨L, ys⟩ := q;rintro e w1 ⟨ul, bl, v1, rfl, hL, ndl, hr1, hv1, hc1⟩;have HC1 := hide hc1;have HL := hide hL;have NDL := hide ndl;have HR1 := hide hr1;have HV1 := hide hv1;have ps1 := (yW _ _ _ _ _ hp1).1;have hlt1 := hv1.lt;have hs1 := hc1.size
     have FY := hide (show Fine (L.told (lv + 1) ++ ys) from ps1 ▸ HF.out)
     have hly : ys.length <= 8192 := by have := FY.out.right.len; have := FY.out.right.2; omega
     rw [hp1] at HP;clear hc1 hL ndl hr1 hv1 hp1 ps1 c hltb a0 a1 a2 a3
     by_cases hno : ∀ y yt, ys = y :: yt -> y.lv ≠ lv
     ·have HK := hide (zCc B rb v1 ys lv w1 HR1.out HV1.out hB hno hly)
      have HP2 := hide (show res = none by
       rw [HP.out]
       cases ys with
       | nil => rfl
       | cons y yt => simp only; rw [if_pos (hno y yt rfl)])
      clear HP hno;go_wp2_with fail;refine HK.out.mono ?_;rintro e w2 ⟨rfl, hb2⟩
      have HC2 := hide (HC1.out.trans (Chg.of_below (bs := [rb]) hb2) (fun _ h _ => h) (fun _ h _ => h))
      clear hb2 HK HC1;go_wp2_with fail;go_ret2;rw [HP2.out];exact ⟨rfl, HC2.out.alloc _⟩
     ·cases ys with
      | nil => exact absurd (fun y yt h => by cases h) hno
      | cons y zs =>
       have hy : y.lv = lv := Classical.byContradiction fun h => hno (fun y' yt e => by cases e; exact h)
       clear hno;subst hy;simp only [ne_eq, not_true_eq_false, if_false] at HP;simp only [List.length_cons] at hly
       have HK := hide (takeN_ok B rb v1 y zs w1 HR1.out HV1.out hB (by omega))
       clear HR1 HV1;go_wp2_with fail;refine HK.out.mono ?_;rintro e w2 ⟨rfl, v2, hr2, hv2, hc2⟩;have hs2 := hc2.size
       have HL2 := hide (HL.out.chg hc2 (fun k hk e => by have := (HL.out.lt k hk).1; simp at e; omega))
       have HLT := hide (fun k hk => (HL.out.lt k hk).2)
       have HC2 := hide ((HC1.out.trans hc2 (fun _ h _ => h) (fun _ h _ => h)).alloc (.cells #[.int .i64 y.pc.off, .int .i64 y.pc.len, .int .i64 y.pc.brk] 87))
       have HBA := hide ((Below.refl w2.heap.size w2).alloc lR (.cells #[.int .i64 y.pc.off, .int .i64 y.pc.len, .int .i64 y.pc.brk] 87))
       have FZ := hide (show Fine zs from (Fine.right (a := [y]) FY.out.right))
       have IH2 := hide (ih (y.lv + 1) zs B rb v2 (w2.alloc (.cells #[.int .i64 y.pc.off, .int .i64 y.pc.len, .int .i64 y.pc.brk] 87)) (by omega) (by omega) (by omega) FZ.out (hr2.below HBA.out (by omega)) (hv2.alloc _) hB)
       have hkp : (w2.alloc (.cells #[.int .i64 y.pc.off, .int .i64 y.pc.len, .int .i64 y.pc.brk] 87)).heap[w2.heap.size]? = some (.cells #[.int .i64 y.pc.off, .int .i64 y.pc.len, .int .i64 y.pc.brk] 87 (0, 0)) := heap_alloc_new _ _
       have hsa : (w2.alloc (.cells #[.int .i64 y.pc.off, .int .i64 y.pc.len, .int .i64 y.pc.brk] 87)).heap.size = w2.heap.size + 1 := by simp
       have HL3 := hide (HL2.out.below HBA.out lR);clear hr2 hv2 hc2 HK HC1 HL HL2 HBA;unfold pcV;go_wp2_with fail;generalize w2.alloc (.cells #[.int .i64 y.pc.off, .int .i64 y.pc.len, .int .i64 y.pc.brk] 87) = wa at *;refine IH2.out.mono ?_;clear IH2
       cases hp2 : parse f (y.lv + 1) zs with
       | none =>
        rintro e w3 ⟨rfl, hc3⟩
        have HC3 := hide (HC2.out.trans hc3 (fun _ h _ => h) (fun _ h _ => h))
        rw [hp2] at HP;clear hc3 hp2;go_wp2_with fail;go_ret2;rw [HP.out];exact ⟨rfl, HC3.out⟩
       | some q =>
        obtain ⟨R, us⟩ := q;rintro e w3 ⟨ur, br, v3, rfl, hR, ndr, hr3, hv3, hc3⟩;have hs3 := hc3.size;have ps2 := (yW _ _ _ _ _ hp2).1;rw [hp2] at HP
        have HL4 := hide (HL3.out.chg hc3 (fun k hk e => by have := (HL3.out.lt k hk).1; simp at e; omega))
        have HR4 := hide (hR.base (base' := w.heap.size) (by omega))
        have HRB := hide (fun k hk => (hR.lt k hk).1)
        have HRT := hide (fun k hk => (hR.lt k hk).2)
        have HC3 := hide (HC2.out.trans hc3 (fun _ h _ => h) (fun _ h _ => h))
        have hk3 := (hc3.block w2.heap.size (by omega) (by simp; omega)).trans hkp
        have d0 : w3.cell? ⟨w2.heap.size, 0, none⟩ = some (.int .i64 y.pc.off) := by rw [cell_of_row w3 _ 0 _ _ _ hk3]; rfl
        have d1 : w3.cell? ⟨w2.heap.size, 1, none⟩ = some (.int .i64 y.pc.len) := by rw [cell_of_row w3 _ 1 _ _ _ hk3]; rfl
        have d2 : w3.cell? ⟨w2.heap.size, 2, none⟩ = some (.int .i64 y.pc.brk) := by rw [cell_of_row w3 _ 2 _ _ _ hk3]; rfl
        have HOK : Hid (AT.node L y.pc R).ok := by
         have e1 : L.told (y.lv + 1) ++ y :: zs = (AT.node L y.pc R).told y.lv ++ us := by
          rw [ps2]; obtain ⟨yp, yl⟩ := y; simp [AT.told]
         exact Fine.ok (Fine.left (e1 ▸ FY.out))
        have bL := HOK.out.left.bd;have bR := HOK.out.right.bd
        have hhl : (L.ht : Int) <= 8192 := by have := zW L; omega
        have hhr : (R.ht : Int) <= 8192 := by have := zW R; omega
        have NDR := hide ndr;have HR3 := hide hr3;have HV3 := hide hv3
        have HKP := hide (XN L y.pc R ul ur bl br w.heap.size w3 HL4.out HR4.out HOK.out (by omega))
        clear hR ndr hr3 hv3 hc3 hk3 hkp hp2 ps2 HL3 HC2 FY FZ;go_wp2_with fail;refine HKP.out.mono ?_;clear HKP;rintro e w4 ⟨nb, rfl, hnb, hT, hb4⟩;have hs4 := hb4.size;have HT := hide hT
        have HC4 := hide (HC3.out.trans (Chg.of_below (bs := [rb]) hb4) (fun _ h _ => h) (fun _ h _ => h))
        have HR4' := hide (HR3.out.below hb4 (by omega))
        have HV4 := hide (HV3.out.below hb4 (by have := HV3.out.lt; omega))
        obtain ⟨b', ul', ur', bl', br', e1, e2, hnd, hl4, hr4, e3⟩ := hT;simp only [Option.some.injEq, Addr.mk.injEq] at e1;obtain ⟨rfl, _⟩ := e1;have HKL := hide (leanN L y.pc R nb ul' ur' bl' br' w.heap.size _ _ _ _ w4 hnd hl4 hr4 hhl hhr);clear hb4 hnd hl4 hr4 e2 e3 HL4 HR4 HC3 HR3 HV3 d0 d1 d2;go_wp2_with fail;refine HKL.out.mono ?_;rintro e w5 ⟨rfl, hc5⟩
        have HC5 := hide (HC4.out.trans hc5 (fun _ h _ => h) (fun _ h _ => by simp at h))
        have HT5 := hide (HT.out.chg hc5 (fun _ _ => by simp))
        have HR5 := hide (HR4'.out.below (hc5.below (B := B) (by omega) (by simp)) lR)
        have HV5 := hide (HV4.out.chg hc5 (by simp))
        have HKB := hide (yQ ((L.ht : Int) - R.ht) (-1) 1 1 w5);clear HKL hc5 HT HC4 HR4' HV4
        by_cases hbal : L.ht <= R.ht + 1 ∧ R.ht <= L.ht + 1
        ·have hd : decide (-1 <= (L.ht : Int) - R.ht ∧ (L.ht : Int) - R.ht <= 1) = true := by simp; omega
         rw [hd] at HKB;simp only [errV, if_true] at HKB;simp only [if_pos hbal] at HP;clear hd;go_wp2_with fail;refine HKB.out.mono ?_;rintro e w6 ⟨rfl, rfl⟩;go_wp2_with fail;go_ret2;rw [HP.out];refine ⟨_, _, _, rfl, HT5.out, ?_, HR5.out, HV5.out, HC5.out⟩;rw [List.nodup_cons]
         refine ⟨fun hm => ?_, zCe NDL.out NDR.out (m := wa.heap.size) (fun k hk => by have := HLT.out k hk; omega) (fun k hk => HRB.out k hk)⟩
         rcases List.mem_append.1 hm with hm | hm
         ·have := HLT.out nb hm; omega
         ·have := HRT.out nb hm; omega
        ·have hd : decide (-1 <= (L.ht : Int) - R.ht ∧ (L.ht : Int) - R.ht <= 1) = false := by simp; omega
         rw [hd] at HKB;simp only [errV, Bool.false_eq_true, if_false] at HKB;simp only [if_neg hbal] at HP;clear hd;go_wp2_with fail;refine HKB.out.mono ?_;rintro e w6 ⟨rfl, rfl⟩;go_wp2_with fail;go_ret2;rw [HP.out];exact ⟨rfl, HC5.out⟩
def msgItems : ByteArray := ⟨#[114, 101, 97, 100, 105, 110, 103, 32, 116, 104, 101, 32, 105, 116, 101, 109, 115, 32, 111, 102, 32, 97, 32, 116, 114, 101, 101]⟩
def KL : ByteArray := ⟨#[114, 101, 97, 100, 105, 110, 103, 32, 116, 104, 101, 32, 115, 104, 97, 112, 101, 32, 111, 102, 32, 97, 32, 116, 114, 101, 101]⟩
def ReadPost (w : World) (r : Option AT) (e : Ending) (w' : World) : Prop :=
 match r with
 | none => (∃ msg, e = .returned (.tuple #[.pointer none, .iface 120 (.agg #[.string msg, .iface 121 (.int .i64 1)])])) ∧ Below w.heap.size w w'
 | some T => ∃ u bs, e = .returned (.tuple #[.pointer u, .nilIface]) ∧ Lies w' w.heap.size T u bs ∧ bs.Nodup ∧ T.ok ∧ Below w.heap.size w w'
theorem zA7 {xs : List It} (h : okI xs.length xs = true) : Fine xs := by
 simp only [okI, Bool.and_eq_true, decide_eq_true_eq] at h
 have hl := yX xs (List.all_eq_true.2 fun x hx => by have := List.all_eq_true.1 h.1 x hx; simp only [Bool.and_eq_true] at this; exact this.1)
 refine ⟨fun x hx => ?_, h.2⟩
 have := List.all_eq_true.1 h.1 x hx;simp only [Bool.and_eq_true, decide_eq_true_eq] at this
 exact ⟨this.1, this.2.1, by omega⟩
theorem zCf (xs : List It) : readT xs = (if okI xs.length xs = true then (match parse 8200 0 xs with | some (T, []) => some T | _ => none) else none) := by
 unfold readT
 cases parse 8200 0 xs with
 | none => rfl
 | some q => obtain ⟨T, ys⟩ := q; cases ys <;> rfl
theorem zCg (B : Nat) (v : Value) (xs : List It) (w : World) (hr : RdI B w v xs) (hB : B <= w.heap.size) (hn : xs.length <= 1048576) :
  Calls Tryz.prog 85 #[.agg #[v]] w (ReadPost w (readT xs)) := by
 obtain ⟨ao, cap, rfl⟩ := hr.val;have HB0 := hide ((Below.refl w.heap.size w).alloc lR (.cells #[.slice ao xs.length cap] 31));have hk0 : (w.alloc (.cells #[.slice ao xs.length cap] 31)).heap[w.heap.size]? = some (.cells #[.slice ao xs.length cap] 31 (0, 0)) := heap_alloc_new _ _
 have hs0 : (w.alloc (.cells #[.slice ao xs.length cap] 31)).heap.size = w.heap.size + 1 := by simp
 have HR0 := hide (hr.below HB0.out hB)
 have HI := hide (itemsI B _ xs _ HR0.out (by omega) hn)
 have HX := hide (zCf xs);generalize readT xs = res at HX |-;generalize hN : xs.length = n at *;clear hr;go_enter Tryz.func85, Tryz.ntmps85;go_wp2_with fail;generalize w.alloc (.cells #[.slice ao n cap] 31) = w0 at *;refine HI.out.mono ?_;rintro e w1 ⟨rfl, hb1⟩;have hs1 := hb1.size
 have hk1 := (hb1.block w.heap.size (by omega)).trans hk0
 have c1 : w1.cell? ⟨w.heap.size, 0, none⟩ = some (.slice ao n cap) := by rw [cell_of_row w1 _ 0 _ _ _ hk1]; rfl
 have HB1 := hide (HB0.out.trans (hb1.mono (by omega)))
 have HR1 := hide (HR0.out.below hb1 (by omega))
 have hlw : w.heap.size < w1.heap.size := by omega
 clear hb1 hk1 hk0 HI HR0
 cases hok : okI n xs with
 | false =>
  rw [hok] at HX;simp only [Bool.false_eq_true, if_false] at HX;simp only [errV, Bool.false_eq_true, if_false];clear hok;go_wp2_with fail;go_ret2;rw [HX.out];exact ⟨⟨msgItems, rfl⟩, HB1.out⟩
 | true =>
  rw [hok] at HX;simp only [if_true] at HX
  have HF := hide (zA7 (xs := xs) (by rw [hN]; exact hok))
  have HBA := hide ((Below.refl w1.heap.size w1).alloc lR (.cells #[.slice ao n cap] 194));have hv2 : Rdr (w1.alloc (.cells #[.slice ao n cap] 194)) w1.heap.size (.slice ao n cap) := heap_alloc_new _ _
  have HS := hide (subtreeN 8200 0 xs B w1.heap.size _ _ (by omega) (by omega) (by omega) HF.out (HR1.out.below HBA.out (by omega)) hv2 (by omega))
  have hs2 : (w1.alloc (.cells #[.slice ao n cap] 194)).heap.size = w1.heap.size + 1 := by simp
  simp only [errV, if_true];clear hok hv2;go_wp2_with fail;generalize w1.alloc (.cells #[.slice ao n cap] 194) = w2 at *;refine HS.out.mono ?_;clear HS
  cases hp : parse 8200 0 xs with
  | none =>
   rw [hp] at HX;rintro e w3 ⟨rfl, hc3⟩
   have HB3 := hide (HB1.out.trans ((HBA.out.trans (hc3.below (by omega) (by simp))).mono (by omega)))
   clear hc3 hp;go_wp2_with fail;go_ret2;rw [HX.out];exact ⟨⟨KL, rfl⟩, HB3.out⟩
  | some q =>
   obtain ⟨T, ys⟩ := q;rw [hp] at HX;rintro e w3 ⟨u, bs, v3, rfl, hT, hnd, hr3, hv3, hc3⟩
   have HB3 := hide (HB1.out.trans ((HBA.out.trans (hc3.below (by omega) (by simp))).mono (by omega)))
   have HT := hide (hT.base (base' := w.heap.size) (by omega))
   have HND := hide hnd;have ps := (yW _ _ _ _ _ hp).1;have HOK := hide (Fine.ok (Fine.left (ps ▸ HF.out)));have hc := hv3.c;have hl3 := hv3.lt
   cases ys with
   | nil =>
    obtain ⟨ao3, cap3, rfl⟩ := hr3.val;simp only [List.length_nil] at hc;simp only at HX;clear hr3 hv3 hc3 hp hT hnd ps;go_wp2_with fail;go_ret2;rw [HX.out];exact ⟨u, bs, rfl, HT.out, HND.out, HOK.out, HB3.out⟩
   | cons y yt =>
    obtain ⟨ao3, cap3, rfl⟩ := hr3.val;simp only [List.length_cons] at hc;simp only at HX
    have hyl : yt.length <= 8192 := by
     have h1 := (Fine.right (ps ▸ HF.out)).len;have h2 := (Fine.right (ps ▸ HF.out)).2;simp only [List.length_cons] at h1; omega
    clear hr3 hv3 hc3 hp hT hnd ps;go_wp2_with fail;go_ret2;rw [HX.out];exact ⟨⟨KL, rfl⟩, HB3.out⟩
def Fnd (w : World) (b : Nat) (x y z i n k d s : Int) : Prop := w.heap[b]? = some (.cells #[.int .i64 x, .int .i64 y, .int .i64 z, .int .i64 i, .int .i64 n, .int .i64 k, .int .i64 d, .int .i64 s] 250 (0, 0))
theorem Fnd.c {w : World} {b : Nat} {x y z i n k d s : Int} (h : Fnd w b x y z i n k d s) : w.cell? ⟨b, 0, none⟩ = some (.int .i64 x) ∧ w.cell? ⟨b, 1, none⟩ = some (.int .i64 y) ∧ w.cell? ⟨b, 2, none⟩ = some (.int .i64 z) ∧ w.cell? ⟨b, 3, none⟩ = some (.int .i64 i) ∧ w.cell? ⟨b, 4, none⟩ = some (.int .i64 n) ∧ w.cell? ⟨b, 5, none⟩ = some (.int .i64 k) ∧ w.cell? ⟨b, 6, none⟩ = some (.int .i64 d) ∧ w.cell? ⟨b, 7, none⟩ = some (.int .i64 s) := by
 refine ⟨?_, ?_, ?_, ?_, ?_, ?_, ?_, ?_⟩ <;> rw [cell_of_row w b _ _ _ _ h] <;> rfl
theorem Fnd.fz {w : World} {b : Nat} {x y z i n k d s : Int} (h : Fnd w b x y z i n k d s) (j : Nat) : w.frozen? ⟨b, j, none⟩ = false := frozen_of_row w b j _ _ h
theorem Fnd.lt {w : World} {b : Nat} {x y z i n k d s : Int} (h : Fnd w b x y z i n k d s) : b < w.heap.size := by
 rcases Nat.lt_or_ge b w.heap.size with h' | h'
 ·exact h'
 ·unfold Fnd at h; rw [Array.getElem?_eq_none h'] at h; cases h
theorem Fnd.set7 {w : World} {b : Nat} {x y z i n k d s : Int} (h : Fnd w b x y z i n k d s) (u : Int) : Fnd (w.setCell ⟨b, 7, none⟩ (.int .i64 u)) b x y z i n k d u := by
 unfold Fnd at h |-; rw [heap_setCell_same w b 7 _ _ _ h]; rfl
theorem Fnd.set345 {w : World} {b : Nat} {x y z i n k d s : Int} (h : Fnd w b x y z i n k d s) (u v t : Int) : Fnd (((w.setCell ⟨b, 3, none⟩ (.int .i64 u)).setCell ⟨b, 4, none⟩ (.int .i64 v)).setCell ⟨b, 5, none⟩ (.int .i64 t)) b x y z u v t d s := by
 unfold Fnd at h |-;have h1 := heap_setCell_same w b 3 _ _ (.int .i64 u) h;have h2 := heap_setCell_same _ b 4 _ _ (.int .i64 v) h1;have h3 := heap_setCell_same _ b 5 _ _ (.int .i64 t) h2;rw [h3]; rfl
theorem Fnd.below {B : Nat} {w w' : World} {b : Nat} {x y z i n k d s : Int} (h : Fnd w b x y z i n k d s) (hb : Below B w w') (hB : b < B) : Fnd w' b x y z i n k d s := (hb.block b hB).trans h
def fndV (x y z : Int) (r : Nat × Int × Int × Int × Int) : Value := .agg #[.int .i64 x, .int .i64 y, .int .i64 z, .int .i64 r.1, .int .i64 r.2.1, .int .i64 r.2.2.1, .int .i64 r.2.2.2.1, .int .i64 r.2.2.2.2]
def zq (m : Pc -> Int) (T : AT) (k : Int) (i : Nat) (n b s : Int) : Nat × Int × Int × Int × Int :=
 ((seekT m T k).1 + i, (seekT m T k).2.1 + n, (seekT m T k).2.2.1 + b, (seekT m T k).2.2.2.1, (seekT m T k).2.2.2.2 + s)
theorem jo (m : Pc -> Int) (T : AT) (k : Int) : seekT m T k = zq m T k 0 0 0 0 := by simp [zq]
theorem ZM (m : Pc -> Int) (k : Int) (i : Nat) (n b s : Int) : zq m .nil k i n b s = (i, n, b, k, s) := by simp [zq, seekT]
theorem jp (m : Pc -> Int) (l : AT) (p : Pc) (r : AT) (k : Int) (i : Nat) (n b s : Int) (h : k < sumM m (l.told 0)) : zq m (.node l p r) k i n b s = zq m l k i n b (s + 1) := by
 simp only [zq, seekT, if_pos h]; simp; omega
theorem jq (m : Pc -> Int) (l : AT) (p : Pc) (r : AT) (k : Int) (i : Nat) (n b s : Int) (h : ¬ k < sumM m (l.told 0)) (h2 : k - sumM m (l.told 0) < m p) : zq m (.node l p r) k i n b s = (i + l.its, n + l.rns, b + l.bks, k - sumM m (l.told 0), s + 1) := by
 simp only [zq, seekT, if_neg h, if_pos h2]; simp; omega
theorem j5 (m : Pc -> Int) (l : AT) (p : Pc) (r : AT) (k : Int) (i : Nat) (n b s : Int) (h : ¬ k < sumM m (l.told 0)) (h2 : ¬ k - sumM m (l.told 0) < m p) : zq m (.node l p r) k i n b s = zq m r (k - sumM m (l.told 0) - m p) (i + l.its + 1) (n + l.rns + p.len) (b + l.bks + p.brk) (s + 1) := by
 simp only [zq, seekT, if_neg h, if_neg h2]; simp; omega
structure Rnd (w wx : World) (a : Nat) (i n b s li ln lb pl pb : Int) : Prop where
 f : Fnd wx (w.heap.size + 1) 0 0 0 i n b 0 s
 g : Fnd wx w.heap.size 0 0 0 0 0 0 0 0
 h : Below w.heap.size w wx
 l : wx.heap[a]? = some (.cells #[.int .i64 li, .int .i64 ln, .int .i64 lb] 159 (0, 0))
 o : wx.heap[a + 1]? = some (.cells #[.int .i64 1, .int .i64 pl, .int .i64 pb] 159 (0, 0))
 sz : a + 2 <= wx.heap.size
 lo : w.heap.size + 1 < a
theorem Rnd.below {w wx wy : World} {a : Nat} {i n b s li ln lb pl pb : Int} (r : Rnd w wx a i n b s li ln lb pl pb) (hb : Below wx.heap.size wx wy) : Rnd w wy a i n b s li ln lb pl pb := by
 have h1 := r.sz;have h2 := r.lo
 exact ⟨r.f.below hb (by omega), r.g.below hb (by omega), r.h.trans (hb.mono (by omega)), (hb.block a (by omega)).trans r.l, (hb.block (a + 1) (by omega)).trans r.o, by have := hb.size; omega, h2⟩
theorem Rnd.set345 {w wx : World} {a : Nat} {i n b s li ln lb pl pb : Int} (r : Rnd w wx a i n b s li ln lb pl pb) (x y z : Int) :
  Rnd w (((wx.setCell ⟨w.heap.size + 1, 3, none⟩ (.int .i64 x)).setCell ⟨w.heap.size + 1, 4, none⟩ (.int .i64 y)).setCell ⟨w.heap.size + 1, 5, none⟩ (.int .i64 z)) a x y z s li ln lb pl pb := by
 have h1 := r.sz;have h2 := r.lo
 have ho : ∀ k, k ≠ w.heap.size + 1 -> (((wx.setCell ⟨w.heap.size + 1, 3, none⟩ (.int .i64 x)).setCell ⟨w.heap.size + 1, 4, none⟩ (.int .i64 y)).setCell ⟨w.heap.size + 1, 5, none⟩ (.int .i64 z)).heap[k]? = wx.heap[k]? := fun k hk => by
  rw [heap_setCell_other _ _ _ _ hk, heap_setCell_other _ _ _ _ hk, heap_setCell_other _ _ _ _ hk]
 exact ⟨r.f.set345 x y z, (ho _ (by omega)).trans r.g, ((r.h.setCell (by simp) _).setCell (by simp) _).setCell (by simp) _, (ho _ (by omega)).trans r.l, (ho _ (by omega)).trans r.o, by simpa using h1, h2⟩
theorem cc3 {w : World} {b : Nat} {x y z : Int} {t : TypeId} (h : w.heap[b]? = some (.cells #[.int .i64 x, .int .i64 y, .int .i64 z] t (0, 0))) : w.cell? ⟨b, 0, none⟩ = some (.int .i64 x) ∧ w.cell? ⟨b, 1, none⟩ = some (.int .i64 y) ∧ w.cell? ⟨b, 2, none⟩ = some (.int .i64 z) := by
 refine ⟨?_, ?_, ?_⟩ <;> rw [cell_of_row w b _ _ _ _ h] <;> rfl
end Go.Proofs.YtbgngikejgihgafGreatDoor
