import Derived.Test.YtbgngikejgihgafGreatDoorMq18
import Derived.Test.YtbgngikejgihgafGreatDoorMq19
namespace Go.Proofs.YtbgngikejgihgafGreatDoor
open Go Go.RowKit Go.Shelf Go.Sort
set_option linter.unusedVariables false
set_option maxRecDepth 100000
set_option maxHeartbeats 8000000
theorem chgT {c : Nat} {bs ds : List Nat} {w w1 w2 : World} (C : Chg (c :: bs) w w1) (D : Chg ds w1 w2) (SD : ∀ x ∈ ds, x ∈ bs ∨ w.heap.size <= x) : Chg (c :: bs) w w2 :=
 C.trans D (fun _ h9 _ => h9) (fun x h9 h8 => by
  rcases SD x h9 with h7 | h7
  ·exact List.mem_cons_of_mem _ h7
  ·omega)
theorem notIn {x m : Nat} {bs ds : List Nat} (SD : ∀ y ∈ ds, y ∈ bs ∨ m <= y) (hx : x ∉ bs) (hl : x < m) : x ∉ ds := fun h9 => by
 rcases SD x h9 with h8 | h8
 ·exact hx h8
 ·omega
theorem zCu {A B C : List Nat} {m : Nat} (h : (A ++ B).Nodup) (hA : ∀ x ∈ A, x < m) (hC : C.Nodup) (hs : ∀ x ∈ C, x ∈ B ∨ m <= x) : (A ++ C).Nodup := by
 rw [List.nodup_append] at h |-
 refine ⟨h.1, hC, fun x hx y hy e => ?_⟩
 subst e
 rcases hs x hy with h9 | h9
 ·exact h.2.2 x hx x h9 rfl
 ·have := hA x hx; omega
theorem removeC (S : List Int) (T : AT) (u : Option Addr) (bs : List Nat) (base c b o cap m ct : Nat) (ao : Option Addr) (off : Int) (w : World) (h : PM w base c b o cap S T u bs) (hok : T.ok) (hbal : T.bal) (hw : T.wp S) (h0 : 0 <= off) (h1 : off + m <= T.rns) (hbase : base <= w.heap.size) :
  Calls Tryz.prog 164 #[.pointer (some ⟨c, 0, none⟩), .int .i64 off, .slice ao m ct] w fun e w' => e = .returned (.tuple #[]) ∧ JV w base c b o cap S (delP S T off (off + m)) bs w' := by
 have bT := hok.bd
 have HF := hide (delF hok hbal hw h.n h0 (show off <= off + m by omega) h1)
 have HC1 := hide (cutI S T u bs base c b o cap off w h hok hbal hw h0 (by omega) hbase)
 have HC2 := hide (fun W u1 bs1 (hp : PM W base c b o cap S (cutP S T off) u1 bs1) hb => cutI S (cutP S T off) u1 bs1 base c b o cap (off + m) W hp HF.out.ok1 HF.out.bal1 HF.out.wp1 (by omega) (by rw [HF.out.rn1]; exact h1) hb)
 have HS1 := hide (fun W u2 bs2 (hl : Lies W base (dl2 S T off (off + m)) u2 bs2) hnd hb => splitN (dl2 S T off (off + m)) (cutN T off) u2 bs2 base W HF.out.bal2 HF.out.ok2 HF.out.a2 hl hnd hb)
 have az := HF.out.az
 have hzc : (((dlZ S T off (off + m) - cutN T off : Nat)) : Int) = (dlZ S T off (off + m) : Int) - (cutN T off : Int) := by omega
 have HS2 := hide (fun W u2 bs2 (hl : Lies W base (dlY S T off (off + m)) u2 bs2) hnd hb => splitN (dlY S T off (off + m)) (dlZ S T off (off + m) - cutN T off) u2 bs2 base W HF.out.balY HF.out.okY (by rw [HF.out.yits]; have := HF.out.z2; omega) hl hnd hb)
 rw [hzc] at HS2
 have HJ := hide (fun W ux uw bx bw (hx : Lies W base (dlX S T off (off + m)) ux bx) (hl : Lies W base (dlW S T off (off + m)) uw bw) hnd hb => joinN (dlX S T off (off + m)) (dlW S T off (off + m)) ux uw bx bw base W HF.out.balX HF.out.balW HF.out.okX HF.out.okW HF.out.sum hx hl hnd hb)
 have HH := hide (fun W u5 bs5 (hp : PM W base c b o cap S (dlJ S T off (off + m)) u5 bs5) => healN S (dlJ S T off (off + m)) u5 bs5 base c b o cap (cutN T off) W hp HF.out.okJ HF.out.balJ HF.out.wpJ (by have h9 := HF.out.a2; have h8 := HF.out.ok2.bd; omega))
 have ha2 : cutN T off <= 8192 := by have h9 := HF.out.a2; have h8 := HF.out.ok2.bd; omega
 have hz2 : dlZ S T off (off + m) <= 8192 := by have h9 := HF.out.z2; have h8 := HF.out.ok2.bd; omega
 have wm : IntKind.i64.wrap (off + (m : Int)) = off + (m : Int) := i64w _ (by omega) (by omega)
 have wz : IntKind.i64.wrap ((dlZ S T off (off + m) : Int) - (cutN T off : Int)) = (dlZ S T off (off + m) : Int) - (cutN T off : Int) := i64w _ (by omega) (by omega)
 have hcb := h.cb;have hbb := h.bb;have hbc := h.bc;have hcl := h.k.lt;have hbl := h.lb;have HN := hide (And.intro h.cap1 (And.intro h.cap2 h.n))
 have HRES := hide (show healP S (dlJ S T off (off + m)) (cutN T off) = delP S T off (off + m) from rfl)
 rw [HRES.out] at HH;unfold Ju at HS1 HS2
 rw [show ((dl2 S T off (off + m)).split (cutN T off)).1 = dlX S T off (off + m) from rfl, show ((dl2 S T off (off + m)).split (cutN T off)).2 = dlY S T off (off + m) from rfl] at HS1
 rw [show ((dlY S T off (off + m)).split (dlZ S T off (off + m) - cutN T off)).2 = dlW S T off (off + m) from rfl] at HS2
 rw [show AT.join (dlX S T off (off + m)) (dlW S T off (off + m)) = dlJ S T off (off + m) from rfl] at HJ
 have HZD := hide (show dlZ S T off (off + m) = cutN (cutP S T off) (off + m) from rfl)
 rw [<- HZD.out, show cutP S (cutP S T off) (off + m) = dl2 S T off (off + m) from rfl] at HC2
 generalize ((dlY S T off (off + m)).split (dlZ S T off (off + m) - cutN T off)).1 = TU at *;clear HZD HRES;generalize delP S T off (off + m) = RES at *;generalize dlJ S T off (off + m) = TJ at *;generalize dlW S T off (off + m) = TW' at *;generalize dlX S T off (off + m) = TX at *;generalize dlY S T off (off + m) = TY at *;generalize dlZ S T off (off + m) = z at *;generalize dl2 S T off (off + m) = T2' at *;generalize cutN T off = a at *;generalize cutP S T off = T1 at *;clear h hok hbal hw HF hzc bT;go_enter Tryz.func164, Tryz.ntmps164;go_wp2_with fail;refine HC1.out.mono ?_;rintro e w1 ⟨rfl, u1, bs1, hp1, sb1, hc1⟩;have C1 := hide hc1;have SB1 := hide sb1;have s1 := hc1.size
 have X2 := hide (HC2.out w1 u1 bs1 hp1 (by omega))
 clear hp1 sb1 hc1 HC1 HC2;go_wp2_with fail;refine X2.out.mono ?_;rintro e w2 ⟨rfl, u2, bs2, hp2, sb2, hc2⟩;have s2 := hc2.size
 have SB2 := hide (show ∀ x ∈ bs2, x ∈ bs ∨ w.heap.size <= x from fun x hx => (sb2 x hx).elim (SB1.out x) (fun h9 => .inr (by omega)))
 have C2 := hide (show Chg (c :: bs) w w2 from C1.out.trans hc2 (fun _ h9 _ => h9) (fun x h9 h8 => by
  rcases List.mem_cons.1 h9 with h7 | h7
  ·rw [h7]; exact List.mem_cons_self
  ·rcases SB1.out x h7 with h6 | h6
   ·exact List.mem_cons_of_mem _ h6
   ·omega))
 have c1 := hp2.k.c1;have K2 := hide hp2.k;have R2 := hide hp2.rt
 have X3 := hide (HS1.out w2 u2 bs2 hp2.t hp2.nd (by omega))
 clear hp2 sb2 hc2 X2 HS1 C1 SB1;go_wp2_with fail;refine X3.out.mono ?_
 rintro e w3 ⟨ux, uy, bx, by', rfl, hx3, hy3, hnd3, sb3, hc3⟩
 have s3 := hc3.size
 have SB3 := hide (show ∀ x ∈ bx ++ by', x ∈ bs ∨ w.heap.size <= x from fun x hx => (sb3 x hx).elim (SB2.out x) (fun h9 => .inr (by omega)))
 have C3 := hide (chgT C2.out hc3 SB2.out);have K3 := hide (K2.out.chg hc3 (notIn SB2.out hcb hcl))
 have R3 := hide (R2.out.chg hc3 (by omega) (notIn SB2.out hbb hbl))
 have LX3 := hide hx3;have ND3 := hide hnd3
 have X4 := hide (HS2.out w3 uy by' hy3 (List.nodup_append.1 hnd3).2.1 (by omega))
 clear hx3 hy3 hnd3 sb3 hc3 c1 X3 HS2 C2 K2 R2;go_wp2_with fail;refine X4.out.mono ?_;rintro e w4 ⟨uu, uw, bu, bw, rfl, hu4, hw4, hnd4, sb4, hc4⟩;have s4 := hc4.size
 have SBY := hide (show ∀ x ∈ by', x ∈ bs ∨ w.heap.size <= x from fun x hx => SB3.out x (List.mem_append_right _ hx))
 have SBW := hide (show ∀ x ∈ bw, x ∈ by' ∨ w3.heap.size <= x from fun x hx => sb4 x (List.mem_append_right _ hx))
 have NDJ := hide (zCu ND3.out (fun x hx => (LX3.out.lt x hx).2) (List.nodup_append.1 hnd4).2.1 SBW.out)
 have SBJ := hide (show ∀ x ∈ bx ++ bw, x ∈ bs ∨ w.heap.size <= x from fun x hx => by
  rcases List.mem_append.1 hx with h9 | h9
  ·exact SB3.out x (List.mem_append_left _ h9)
  ·rcases SBW.out x h9 with h8 | h8
   ·exact SBY.out x h8
   ·exact .inr (by omega))
 have C4 := hide (chgT C3.out hc4 SBY.out);have K4 := hide (K3.out.chg hc4 (notIn SBY.out hcb hcl))
 have R4 := hide (R3.out.chg hc4 (by omega) (notIn SBY.out hbb hbl))
 have LX4 := hide (LX3.out.chg hc4 (fun x hx h9 => (List.nodup_append.1 ND3.out).2.2 x hx x h9 rfl))
 have X5 := hide (HJ.out w4 ux uw bx bw LX4.out hw4 NDJ.out (by omega))
 clear hu4 hw4 hnd4 sb4 hc4 X4 HJ C3 K3 R3 LX3 LX4 ND3 SB3 SBW;go_wp2_with fail;refine X5.out.mono ?_;rintro e w5 ⟨u5, bs5, rfl, hl5, nd5, sb5, hc5⟩;have s5 := hc5.size
 have SB5 := hide (show ∀ x ∈ bs5, x ∈ bs ∨ w.heap.size <= x from fun x hx => (sb5 x hx).elim (SBJ.out x) (fun h9 => .inr (by omega)))
 have C5 := hide (chgT C4.out hc5 SBJ.out);have K5 := hide (K4.out.chg hc5 (notIn SBJ.out hcb hcl))
 have R5 := hide (R4.out.chg hc5 (by omega) (notIn SBJ.out hbb hbl))
 have ncb := notIn SB5.out hcb hcl;have d1 := K5.out.c1;have z1 := K5.out.fz 1
 have P6 := hide (show PM (w5.setCell ⟨c, 1, none⟩ (.pointer u5)) base c b o cap S TJ u5 bs5 from
  ⟨K5.out.set1 u5, hl5.other ⟨c, 1, none⟩ (.pointer u5) ncb, nd5, ncb, notIn SB5.out hbb hbl, hbc, fun i hi => by rw [<- R5.out i hi]; unfold World.cell?; rw [heap_setCell_other w5 ⟨c, 1, none⟩ b _ hbc], Nat.lt_of_lt_of_le (show b < w5.heap.size by omega) (Nat.le_of_eq (by simp)), HN.out.1, HN.out.2.1, HN.out.2.2⟩)
 have C6 := hide (C5.out.setCell ⟨c, 1, none⟩ (.pointer u5) (.inl (by simp)))
 have X6 := hide (HH.out _ _ _ P6.out);clear hl5 nd5 sb5 hc5 X5 HH C4 K4 R4 C5 K5 R5 NDJ SBJ SBY;go_wp2_with fail;generalize w5.setCell ⟨c, 1, none⟩ (.pointer u5) = w6 at *;refine X6.out.mono ?_;rintro e w7 ⟨rfl, u7, bs7, hp7, sb7, hc7⟩;have s6 := C6.out.size;have P7 := hide hp7
 have SB7 := hide (show ∀ x ∈ bs7, x ∈ bs ∨ w.heap.size <= x from fun x hx => (sb7 x hx).elim (SB5.out x) (fun h9 => .inr (by omega)))
 have C7 := hide (show Chg (c :: bs) w w7 from C6.out.trans hc7 (fun _ h9 _ => h9) (fun x h9 h8 => by
  rcases List.mem_cons.1 h9 with h7 | h7
  ·rw [h7]; exact List.mem_cons_self
  ·rcases SB5.out x h7 with h6 | h6
   ·exact List.mem_cons_of_mem _ h6
   ·omega))
 clear hp7 sb7 hc7 X6;go_wp2
 refine bodyPost_end (v := .tuple #[]) (by simp [results, Tryz.results164]) rfl ⟨rfl, u7, bs7, P7.out, SB7.out, C7.out⟩
end Go.Proofs.YtbgngikejgihgafGreatDoor
namespace Go.Proofs.YtbgngikejgihgafGreatDoor
open Go Go.RowKit
set_option linter.unusedVariables false
set_option maxRecDepth 100000
set_option maxHeartbeats 8000000
def cutT (U : List Int) (a b : Int) : List Int := (U.drop a.toNat).take (b.toNat - a.toNat)
theorem Yp (A B : List Int) (a b : Int) (h : a <= b) : cutT (A ++ B) a b = cutT A a b ++ cutT B (a - A.length) (b - A.length) := by
 unfold cutT;rw [List.drop_append, List.take_append, List.length_drop]
 congr 1
 rw [show (a - (A.length : Int)).toNat = a.toNat - A.length by omega]
 congr 1
 omega
theorem Kf (U : List Int) (a b : Int) (h : b <= 0) : cutT U a b = [] := by
 unfold cutT; rw [show b.toNat - a.toNat = 0 by omega, List.take_zero]
theorem Jv (U : List Int) (a b : Int) (h : (U.length : Int) <= a) : cutT U a b = [] := by
 unfold cutT; rw [List.drop_of_length_le (by omega), List.take_nil]
def acr (lo hi : Int) : AT -> Int -> List (Int × Pc)
 | .nil, _ => []
 | .node l p r, s => if hi <= s ∨ s + (AT.node l p r).rns <= lo then [] else
  acr lo hi l s ++ ((if s + l.rns < hi ∧ lo < s + l.rns + p.len then [(s + l.rns, p)] else []) ++ acr lo hi r (s + l.rns + p.len))
def txA (zs : List Int) (lo hi : Int) : List (Int × Pc) -> List Int
 | [] => []
 | y :: ys => cutT (ptx zs y.2) (lo - y.1) (hi - y.1) ++ txA zs lo hi ys
theorem Zx (zs : List Int) (lo hi : Int) (a b : List (Int × Pc)) : txA zs lo hi (a ++ b) = txA zs lo hi a ++ txA zs lo hi b := by
 induction a with
 | nil => rfl
 | cons x a ih => simp [txA, ih]
theorem zAg (zs : List Int) (lo hi : Int) (hlh : lo <= hi) : ∀ (T : AT) (s : Int), T.wp zs -> txA zs lo hi (acr lo hi T s) = cutT (T.tx zs) (lo - s) (hi - s)
 | .nil, s, _ => by simp [acr, txA, cutT, AT.tx]
 | .node l p r, s, hw => by
  have hw' := hw;obtain ⟨hl, hp, hr⟩ := hw;have el := AT.tx_len hl;have ep := jB hp;have ea := AT.tx_len hw';unfold acr
  split
  ·rename_i hc
   rcases hc with hc | hc
   ·rw [Kf _ _ _ (by omega)]; rfl
   ·rw [Jv _ _ _ (by omega)]; rfl
  ·simp only [AT.tx]
   rw [Zx, Zx, zAg zs lo hi hlh l s hl, zAg zs lo hi hlh r _ hr, Yp _ _ _ _ (by omega), Yp _ _ _ _ (by omega), el, ep]
   congr 1
   rw [show lo - s - l.rns - p.len = lo - (s + l.rns + p.len) by omega, show hi - s - l.rns - p.len = hi - (s + l.rns + p.len) by omega]
   congr 1
   split
   ·simp only [txA, List.append_nil]
    rw [show lo - s - l.rns = lo - (s + l.rns) by omega, show hi - s - l.rns = hi - (s + l.rns) by omega]
   ·rename_i hn
    by_cases h1 : s + l.rns < hi
    ·rw [Jv _ _ _ (by omega)]; rfl
    ·rw [Kf _ _ _ (by omega)]; rfl
def AT.pos : AT -> Prop
 | .nil => True
 | .node l p r => l.pos ∧ 1 <= p.len ∧ r.pos
def AcQ (zs : List Int) (lo hi : Int) (y : Int × Pc) : Prop := WP zs y.2 ∧ 0 <= y.1 ∧ y.1 <= 8192 ∧ y.1 < hi ∧ lo < y.1 + y.2.len ∧ y.2.len <= 8192 ∧ 1 <= y.2.len
theorem acr_q (zs : List Int) (lo hi : Int) : ∀ (T : AT) (s : Int), T.wp zs -> T.pos -> 0 <= s -> s + T.rns <= 8192 -> ∀ y ∈ acr lo hi T s, AcQ zs lo hi y
 | .nil, s, _, _, _, _ => by simp [acr]
 | .node l p r, s, hw, hps, h0, h1 => by
  obtain ⟨hl, hp, hr⟩ := hw;obtain ⟨pl, pp, pr⟩ := hps;have el := AT.tx_len hl;have er := AT.tx_len hr;have hp2 := hp.2.1;simp only [AT.rns] at h1;intro y hy;unfold acr at hy
  split at hy
  ·cases hy
  ·rcases List.mem_append.1 hy with hy | hy
   ·exact acr_q zs lo hi l s hl pl h0 (by omega) y hy
   ·rcases List.mem_append.1 hy with hy | hy
    ·split at hy
     ·rename_i hc
      obtain rfl : y = (s + l.rns, p) := by simpa using hy
      exact ⟨hp, by simp only; omega, by simp only; omega, hc.1, hc.2, by simp only; omega, pp⟩
     ·cases hy
    ·exact acr_q zs lo hi r _ hr pr (by omega) (by omega) y hy
theorem Xh (lo hi : Int) : ∀ (T : AT) (s : Int), (acr lo hi T s).length <= T.its
 | .nil, _ => by simp [acr]
 | .node l p r, s => by
  have h1 := Xh lo hi l s;have h2 := Xh lo hi r (s + l.rns + p.len);unfold acr;simp only [AT.its]
  split
  ·simp
  ·split
   ·simp only [List.length_append, List.length_cons, List.length_nil]; omega
   ·simp only [List.length_append, List.length_nil]; omega
end Go.Proofs.YtbgngikejgihgafGreatDoor
namespace Go.Proofs.YtbgngikejgihgafGreatDoor
open Go Go.RowKit Go.Shelf
set_option linter.unusedVariables false
set_option maxRecDepth 100000
set_option maxHeartbeats 8000000
attribute [local go_sem] Oper.semAt_some
theorem IsT.more {n₀ : Nat} {W : World} {p : Option Addr} {l : AT} {q : Pc} {r : AT} (h : IsT n₀ W p (.node l q r)) : ∃ b pl pr base bl, p = some ⟨b, 0, none⟩ ∧ b < n₀ ∧ W.cell? ⟨b, 0, none⟩ = some (.int .i64 q.off) ∧ W.cell? ⟨b, 1, none⟩ = some (.int .i64 q.len) ∧ W.cell? ⟨b, 2, none⟩ = some (.int .i64 q.brk) ∧
  W.cell? ⟨b, 3, none⟩ = some (.pointer pl) ∧ W.cell? ⟨b, 4, none⟩ = some (.pointer pr) ∧ W.cell? ⟨b, 7, none⟩ = some (.int .i64 (AT.node l q r).rns) ∧ Lies W base l pl bl ∧ (∀ x ∈ bl, x < n₀) ∧ IsT n₀ W pl l ∧ IsT n₀ W pr r := by
 obtain ⟨base, bs, ⟨b, ul, ur, bl, br, rfl, hb, hn, hl, hr, rfl⟩, h2⟩ := h
 exact ⟨b, ul, ur, base, bl, rfl, h2 b (by simp), hn.c0, hn.c1, hn.c2, hn.c3, hn.c4, hn.c7, hl, fun x hx => h2 x (by simp [hx]), ⟨base, bl, hl, fun x hx => h2 x (by simp [hx])⟩, ⟨base, br, hr, fun x hx => h2 x (by simp [hx])⟩⟩
theorem Kg (Q : Int × Pc -> Prop) (lo hi : Int) (hlo : 0 <= lo ∧ lo <= 8192) (hhi : 0 <= hi ∧ hi <= 8192) (l n₀ N : Nat) (J Jx : List (Int × Pc) -> World -> Prop)
  (hJb : ∀ pre W W', J pre W -> Below W.heap.size W W' -> J pre W')
  (hY : ∀ m pre (y : Int × Pc) W, J pre W -> pre.length < N -> Q y -> YieldAt Fence.wide m Tryz.prog l #[.int .i64 y.1, .agg #[.int .i64 y.2.off, .int .i64 y.2.len, .int .i64 y.2.brk]] W fun e W' =>
   (e = .returned (.bool true) ∧ J (pre ++ [y]) W' ∧ Below n₀ W W') ∨ (e = .returned (.bool false) ∧ Jx (pre ++ [y]) W')) (T : AT) :
  ∀ (n : Nat) (p : Option Addr) (s : Int) (pre : List (Int × Pc)) (W : World), IsT n₀ W p T -> T.ok -> 0 <= s -> s + T.rns <= 8192 -> J pre W -> pre.length + T.its <= N -> (∀ y ∈ acr lo hi T s, Q y) -> n₀ <= W.heap.size ->
   CallsIn Fence.wide n Tryz.prog 122 #[.pointer p, .int .i64 s, .int .i64 lo, .int .i64 hi, .func (.yield l) #[] #[]] W fun e W' =>
    (e = .returned (.bool true) ∧ J (pre ++ acr lo hi T s) W' ∧ Below n₀ W W') ∨ (e = .returned (.bool false) ∧ ∃ q, q <+: acr lo hi T s ∧ Jx (pre ++ q) W') := by
 induction T with
 | nil =>
  intro n p s pre W ht _ h0 h1 hJ _ _ _;obtain ⟨base, bs, ⟨rfl, rfl⟩, _⟩ := ht;refine callsIn_of_wp Tryz.func122 rfl trivial ?_ rfl;simp only [Tryz.ntmps122, List.size_toArray, List.length_cons, List.length_nil, Nat.reduceAdd, Nat.reduceSub, Array.replicate_succ, Array.replicate_zero, List.push_toArray, List.append_toArray, List.nil_append, List.cons_append]
  gi_wp2_with fail
  go_ret
  exact .inl ⟨rfl, by simpa [acr] using hJ, Below.refl _ _⟩
 | node tl v tr ihl ihr =>
  intro n p s pre W ht hok h0 h1 hJ hN hQ hnW;obtain ⟨b, pl, pr, base, bl, rfl, hb, c0, c1, c2, c3, c4, c7, hLl, hbl, hl, hr⟩ := ht.more;have bL := hok.left.bd;have bR := hok.right.bd;have bP := hok.piece;have hrn : (AT.node tl v tr).rns = tl.rns + v.len + tr.rns := rfl;have hok1 := hok.left;have hok2 := hok.right
  have hrnI : s + tl.rns + v.len + tr.rns <= 8192 ∧ s + tl.rns <= 8192 := by omega
  generalize hRN : (AT.node tl v tr).rns = rn at *
  have hsn : IntKind.i64.wrap (s + rn) = s + rn := by rw [IntKind.wrap_i64]; omega
  have hlv := Xh lo hi tl s;have hlen1 : (acr lo hi tl s).length <= tl.its := hlv
  have HAC := hide (show acr lo hi (AT.node tl v tr) s = (if hi <= s ∨ s + (AT.node tl v tr).rns <= lo then [] else acr lo hi tl s ++ ((if s + tl.rns < hi ∧ lo < s + tl.rns + v.len then [(s + tl.rns, v)] else []) ++ acr lo hi tr (s + tl.rns + v.len))) from rfl)
  rw [hRN] at HAC;generalize acr lo hi (AT.node tl v tr) s = TD at HAC hQ |-;simp only [AT.its] at hN
  by_cases k1 : hi <= s
  ·rw [if_pos (.inl k1)] at HAC
   refine callsIn_of_wp Tryz.func122 rfl trivial ?_ rfl;simp only [Tryz.ntmps122, List.size_toArray, List.length_cons, List.length_nil, Nat.reduceAdd, Nat.reduceSub, Array.replicate_succ, Array.replicate_zero, List.push_toArray, List.append_toArray, List.nil_append, List.cons_append]
   gi_wp2_with fail
   go_ret
   exact .inl ⟨rfl, by rw [HAC.out]; simpa using hJ, Below.refl _ _⟩
  by_cases k2 : s + rn <= lo
  ·rw [if_pos (.inr k2)] at HAC
   have k1' : ¬ s >= hi := by omega
   refine callsIn_of_wp Tryz.func122 rfl trivial ?_ rfl;simp only [Tryz.ntmps122, List.size_toArray, List.length_cons, List.length_nil, Nat.reduceAdd, Nat.reduceSub, Array.replicate_succ, Array.replicate_zero, List.push_toArray, List.append_toArray, List.nil_append, List.cons_append]
   gi_wp2_with fail
   go_ret
   exact .inl ⟨rfl, by rw [HAC.out]; simpa using hJ, Below.refl _ _⟩
  rw [if_neg (by omega)] at HAC
  have k1' : ¬ s >= hi := by omega
  have hQl : ∀ y ∈ acr lo hi tl s, Q y := fun y hy => hQ y (by rw [HAC.out]; simp [hy])
  have hQr : ∀ y ∈ acr lo hi tr (s + tl.rns + v.len), Q y := fun y hy => hQ y (by rw [HAC.out]; simp [hy])
  have hQm : (s + tl.rns < hi ∧ lo < s + tl.rns + v.len) -> Q (s + tl.rns, v) := fun hc => hQ _ (by rw [HAC.out, if_pos hc]; simp)
  clear hQ;have HQR := hide hQr;have HQM := hide hQm;have mR := Tryz.methodRunes;have fl1 := Tryz.fld1
  have HAll := hide (fun W' (hW : Below n₀ W W') => allN tl pl bl base W' (hLl.frame fun x hx => hW.block x (hbl x hx)))
  have HRn := hide (fun W' => pRunes v W')
  have HIL := hide (fun W' (hW : Below W.heap.size W W') => ihl (n - 1) pl s pre W' (hl.below (hW.mono hnW)) hok1 h0 (by omega) (hJb pre W W' hJ hW) (by omega) hQl (Nat.le_trans hnW hW.size))
  have HC := hide (And.intro c0 (And.intro c1 (And.intro c2 (And.intro c3 c4))));clear hQr hQm hLl hQl hok hok1 hrn ihl
  have hbW : b < W.heap.size := by omega
  by_cases hc : s + tl.rns < hi ∧ lo < s + tl.rns + v.len
  ·rw [if_pos hc] at HAC
   have hcA := hc.1;have hcB := hc.2
   have HYY := hide (fun W' (h : J (pre ++ acr lo hi tl s) W') => hY (n - 1) (pre ++ acr lo hi tl s) (s + tl.rns, v) W' h (by rw [List.length_append]; omega) (HQM.out hc))
   have HIR := hide (fun W' (hW : Below n₀ W W') (hJ' : J (pre ++ acr lo hi tl s ++ [(s + tl.rns, v)]) W') => ihr (n - 1) pr (s + tl.rns + v.len) (pre ++ acr lo hi tl s ++ [(s + tl.rns, v)]) W' (hr.below hW) hok2 (by omega) (by omega) hJ' (by simp only [List.length_append, List.length_cons, List.length_nil]; omega) HQR.out (Nat.le_trans hnW hW.size))
   clear ihr hY hc;refine callsIn_of_wp Tryz.func122 rfl trivial ?_ rfl;simp only [Tryz.ntmps122, List.size_toArray, List.length_cons, List.length_nil, Nat.reduceAdd, Nat.reduceSub, Array.replicate_succ, Array.replicate_zero, List.push_toArray, List.append_toArray, List.nil_append, List.cons_append]
   gi_wp2_with (first
    | (refine ⟨trivial, fun h => (by cases h), ?_⟩; refine (callsIn_wide.2 (HAll.out W (Below.refl _ _))).mono ?_; rintro e W1 ⟨rfl, hb1⟩; have B1 := hide hb1; have s1 := hb1.size; obtain ⟨c0', c1', c2', c3', c4'⟩ := HC.out; have e0 := (hb1.cell (p := ⟨b, 0, none⟩) hbW).trans c0'; have e1 := (hb1.cell (p := ⟨b, 1, none⟩) hbW).trans c1'; have e2 := (hb1.cell (p := ⟨b, 2, none⟩) hbW).trans c2'; clear hb1 c0' c1' c2' c3' c4' c0 c1 c2 c3 c4 c7; simp only [cnt])
    | (refine ⟨trivial, fun h => (by cases h), ?_⟩; refine (callsIn_wide.2 (HRn.out _)).mono ?_; rintro e W2 ⟨rfl, hb2⟩; have B2 := hide (B1.out.trans (hb2.mono s1)); have s2 := B2.out.size; obtain ⟨c0', c1', c2', c3', c4'⟩ := HC.out; have e3 := (B2.out.cell (p := ⟨b, 3, none⟩) hbW).trans c3'; clear hb2 c0' c1' c2' c3' c4' e0 e1 e2)
    | (refine ⟨trivial, fun h => (by cases h), ?_⟩; refine (HIL.out _ B2.out).mono ?_; clear HIL; rintro e W3 (⟨rfl, hJ3, hb3⟩ | ⟨rfl, q, hq, hx3⟩); rotate_left; skip; rotate_left; have B3 := hide ((B2.out.mono hnW).trans hb3); have J3 := hide hJ3; obtain ⟨c0', c1', c2', c3', c4'⟩ := HC.out; have g0 := (B3.out.cell (p := ⟨b, 0, none⟩) hb).trans c0'; have g1 := (B3.out.cell (p := ⟨b, 1, none⟩) hb).trans c1'; have g2 := (B3.out.cell (p := ⟨b, 2, none⟩) hb).trans c2'; have g4 := (B3.out.cell (p := ⟨b, 4, none⟩) hb).trans c4'; clear hb3 hJ3 c0' c1' c2' c3' c4' e3; obtain ⟨fn, tmps, assign, body, hy, hR⟩ := HYY.out W3 J3.out; have HR := hide hR; clear hR)
    | ((try refine ⟨trivial, ?_⟩); (try refine ⟨fun h => (by cases h), ?_⟩); refine HR.out.mono ?_; clear HR; rintro e W4 (⟨rfl, hJ4, hb4⟩ | ⟨rfl, hx4⟩); rotate_left; skip; rotate_left; have B4 := hide (B3.out.trans hb4); have J4 := hide hJ4; obtain ⟨c0', c1', c2', c3', c4'⟩ := HC.out; have h4 := (B4.out.cell (p := ⟨b, 4, none⟩) hb).trans c4'; clear hb4 hJ4 c0' c1' c2' c3' c4' g0 g1 g2 g4)
    | (refine ⟨trivial, fun h => (by cases h), ?_⟩; refine (HIR.out _ B4.out J4.out).mono ?_; rintro e W5 (⟨rfl, hJ5, hb5⟩ | ⟨rfl, q, hq, hx5⟩)))
   all_goals first
    | (go_ret; exact .inl ⟨rfl, by rw [HAC.out]; simpa [List.append_assoc] using hJ5, B4.out.trans hb5⟩)
    | (go_ret; obtain ⟨r', hr'⟩ := hq; exact .inr ⟨rfl, acr lo hi tl s ++ ((s + tl.rns, v) :: q), ⟨r', by rw [HAC.out]; simp [<- hr']⟩, by simpa [List.append_assoc] using hx5⟩)
    | (go_ret; exact .inr ⟨rfl, acr lo hi tl s ++ [(s + tl.rns, v)], ⟨acr lo hi tr (s + tl.rns + v.len), by rw [HAC.out]; simp⟩, by simpa [List.append_assoc] using hx4⟩)
    | (go_ret; exact .inr ⟨rfl, q, hq.trans (by rw [HAC.out]; simp), hx3⟩)
    | done
  ·rw [if_neg hc, List.nil_append] at HAC
   have HIR := hide (fun W' (hW : Below n₀ W W') (hJ' : J (pre ++ acr lo hi tl s) W') => ihr (n - 1) pr (s + tl.rns + v.len) (pre ++ acr lo hi tl s) W' (hr.below hW) hok2 (by omega) (by omega) hJ' (by simp only [List.length_append]; omega) HQR.out (Nat.le_trans hnW hW.size))
   clear ihr hY
   have hnf : ∀ f : FuncId, (none : Option FuncId) = some f -> Fence.wide.fn f := fun f h => by cases h
   by_cases hcA : s + tl.rns < hi
   ·have hcB : ¬ lo < s + tl.rns + v.len := fun h => hc ⟨hcA, h⟩
    clear hc;refine callsIn_of_wp Tryz.func122 rfl trivial ?_ rfl;simp only [Tryz.ntmps122, List.size_toArray, List.length_cons, List.length_nil, Nat.reduceAdd, Nat.reduceSub, Array.replicate_succ, Array.replicate_zero, List.push_toArray, List.append_toArray, List.nil_append, List.cons_append]
    gi_wp2_with (first
    | (refine ⟨trivial, fun h => (by cases h), ?_⟩; refine (callsIn_wide.2 (HAll.out W (Below.refl _ _))).mono ?_; rintro e W1 ⟨rfl, hb1⟩; have B1 := hide hb1; have s1 := hb1.size; obtain ⟨c0', c1', c2', c3', c4'⟩ := HC.out; have e0 := (hb1.cell (p := ⟨b, 0, none⟩) hbW).trans c0'; have e1 := (hb1.cell (p := ⟨b, 1, none⟩) hbW).trans c1'; have e2 := (hb1.cell (p := ⟨b, 2, none⟩) hbW).trans c2'; clear hb1 c0' c1' c2' c3' c4' c0 c1 c2 c3 c4 c7; simp only [cnt])
    | (refine ⟨trivial, fun h => (by cases h), ?_⟩; refine (callsIn_wide.2 (HRn.out _)).mono ?_; rintro e W2 ⟨rfl, hb2⟩; have B2 := hide (B1.out.trans (hb2.mono s1)); have s2 := B2.out.size; obtain ⟨c0', c1', c2', c3', c4'⟩ := HC.out; have e3 := (B2.out.cell (p := ⟨b, 3, none⟩) hbW).trans c3'; clear hb2 c0' c1' c2' c3' c4' e0 e1 e2)
    | (refine ⟨trivial, fun h => (by cases h), ?_⟩; refine (HIL.out _ B2.out).mono ?_; clear HIL; rintro e W3 (⟨rfl, hJ3, hb3⟩ | ⟨rfl, q, hq, hx3⟩); rotate_left; skip; rotate_left; have B3 := hide ((B2.out.mono hnW).trans hb3); have J3 := hide hJ3; obtain ⟨c0', c1', c2', c3', c4'⟩ := HC.out; have g0 := (B3.out.cell (p := ⟨b, 0, none⟩) hb).trans c0'; have g1 := (B3.out.cell (p := ⟨b, 1, none⟩) hb).trans c1'; have g2 := (B3.out.cell (p := ⟨b, 2, none⟩) hb).trans c2'; have g4 := (B3.out.cell (p := ⟨b, 4, none⟩) hb).trans c4'; clear hb3 hJ3 c0' c1' c2' c3' c4' e3)
     | fail)
    all_goals first
     | (go_ret; exact .inr ⟨rfl, q, hq.trans (by rw [HAC.out]; simp), hx3⟩)
     | skip
    refine ⟨hnf, ?_⟩
    gi_wp2_with (refine ⟨trivial, fun h => (by cases h), ?_⟩; refine (HIR.out _ B3.out J3.out).mono ?_; rintro e W5 (⟨rfl, hJ5, hb5⟩ | ⟨rfl, q, hq, hx5⟩))
    all_goals first
     | (go_ret; exact .inl ⟨rfl, by rw [HAC.out]; simpa [List.append_assoc] using hJ5, B3.out.trans hb5⟩)
     | (go_ret; obtain ⟨r', hr'⟩ := hq; exact .inr ⟨rfl, acr lo hi tl s ++ q, ⟨r', by rw [HAC.out]; simp [<- hr']⟩, by simpa [List.append_assoc] using hx5⟩)
     | done
   ·clear hc
    refine callsIn_of_wp Tryz.func122 rfl trivial ?_ rfl;simp only [Tryz.ntmps122, List.size_toArray, List.length_cons, List.length_nil, Nat.reduceAdd, Nat.reduceSub, Array.replicate_succ, Array.replicate_zero, List.push_toArray, List.append_toArray, List.nil_append, List.cons_append]
    gi_wp2_with (first
    | (refine ⟨trivial, fun h => (by cases h), ?_⟩; refine (callsIn_wide.2 (HAll.out W (Below.refl _ _))).mono ?_; rintro e W1 ⟨rfl, hb1⟩; have B1 := hide hb1; have s1 := hb1.size; obtain ⟨c0', c1', c2', c3', c4'⟩ := HC.out; have e0 := (hb1.cell (p := ⟨b, 0, none⟩) hbW).trans c0'; have e1 := (hb1.cell (p := ⟨b, 1, none⟩) hbW).trans c1'; have e2 := (hb1.cell (p := ⟨b, 2, none⟩) hbW).trans c2'; clear hb1 c0' c1' c2' c3' c4' c0 c1 c2 c3 c4 c7; simp only [cnt])
    | (refine ⟨trivial, fun h => (by cases h), ?_⟩; refine (callsIn_wide.2 (HRn.out _)).mono ?_; rintro e W2 ⟨rfl, hb2⟩; have B2 := hide (B1.out.trans (hb2.mono s1)); have s2 := B2.out.size; obtain ⟨c0', c1', c2', c3', c4'⟩ := HC.out; have e3 := (B2.out.cell (p := ⟨b, 3, none⟩) hbW).trans c3'; clear hb2 c0' c1' c2' c3' c4' e0 e1 e2)
    | (refine ⟨trivial, fun h => (by cases h), ?_⟩; refine (HIL.out _ B2.out).mono ?_; clear HIL; rintro e W3 (⟨rfl, hJ3, hb3⟩ | ⟨rfl, q, hq, hx3⟩); rotate_left; skip; rotate_left; have B3 := hide ((B2.out.mono hnW).trans hb3); have J3 := hide hJ3; obtain ⟨c0', c1', c2', c3', c4'⟩ := HC.out; have g0 := (B3.out.cell (p := ⟨b, 0, none⟩) hb).trans c0'; have g1 := (B3.out.cell (p := ⟨b, 1, none⟩) hb).trans c1'; have g2 := (B3.out.cell (p := ⟨b, 2, none⟩) hb).trans c2'; have g4 := (B3.out.cell (p := ⟨b, 4, none⟩) hb).trans c4'; clear hb3 hJ3 c0' c1' c2' c3' c4' e3)
     | fail)
    all_goals first
     | (go_ret; exact .inr ⟨rfl, q, hq.trans (by rw [HAC.out]; simp), hx3⟩)
     | skip
    refine ⟨hnf, ?_⟩
    gi_wp2_with (refine ⟨trivial, fun h => (by cases h), ?_⟩; refine (HIR.out _ B3.out J3.out).mono ?_; rintro e W5 (⟨rfl, hJ5, hb5⟩ | ⟨rfl, q, hq, hx5⟩))
    all_goals first
     | (go_ret; exact .inl ⟨rfl, by rw [HAC.out]; simpa [List.append_assoc] using hJ5, B3.out.trans hb5⟩)
     | (go_ret; obtain ⟨r', hr'⟩ := hq; exact .inr ⟨rfl, acr lo hi tl s ++ q, ⟨r', by rw [HAC.out]; simp [<- hr']⟩, by simpa [List.append_assoc] using hx5⟩)
     | done
theorem zAh (Q : Int × Pc -> Prop) (lo hi : Int) (hlo : 0 <= lo ∧ lo <= 8192) (hhi : 0 <= hi ∧ hi <= 8192) (n : Nat) (l Bt Bl Bh n₀ : Nat) (p0 : Option Addr) (T : AT) (hok : T.ok) (hQ : ∀ y ∈ acr lo hi T 0, Q y) (J Jx : List {y : Int × Pc // Q y} -> World -> Prop) (hJb : ∀ pre W W', J pre W -> Below W.heap.size W W' -> J pre W')
  (hY : ∀ pre (y : {y : Int × Pc // Q y}) W, J pre W -> pre.length < T.its -> YieldAt Fence.wide (n - 1) Tryz.prog l #[.int .i64 y.1.1, .agg #[.int .i64 y.1.2.off, .int .i64 y.1.2.len, .int .i64 y.1.2.brk]] W fun e W' =>
   (e = .returned (.bool true) ∧ J (pre ++ [y]) W' ∧ Below n₀ W W') ∨ (e = .returned (.bool false) ∧ Jx (pre ++ [y]) W'))
  (W : World) (hBt : W.cell? ⟨Bt, 0, none⟩ = some (.pointer p0)) (hBl : W.cell? ⟨Bl, 0, none⟩ = some (.int .i64 lo)) (hBh : W.cell? ⟨Bh, 0, none⟩ = some (.int .i64 hi)) (hT : IsT n₀ W p0 T) (hnW : n₀ <= W.heap.size) (h0 : J [] W) :
  CallsIn Fence.wide n Tryz.prog 121 #[.func (.yield l) #[] #[], .pointer (some ⟨Bt, 0, none⟩), .pointer (some ⟨Bl, 0, none⟩), .pointer (some ⟨Bh, 0, none⟩)] W fun e W' => (∃ v, e = .returned v) ∧
   ((∃ ys : List {y : Int × Pc // Q y}, ys.map (·.1) = acr lo hi T 0 ∧ J ys W') ∨ (∃ pre : List {y : Int × Pc // Q y}, pre.map (·.1) <+: acr lo hi T 0 ∧ Jx pre W')) := by
 have bT := hok.bd
 have hp := Kg Q lo hi hlo hhi l n₀ T.its (fun pre W => ∃ p : List {y : Int × Pc // Q y}, p.map (·.1) = pre ∧ J p W) (fun pre W => ∃ p : List {y : Int × Pc // Q y}, p.map (·.1) = pre ∧ Jx p W) (fun pre W W' ⟨p, hp, hj⟩ hb => ⟨p, hp, hJb p W W' hj hb⟩) (fun m pre x W hj hl hq => by
   obtain ⟨p, hp, hj⟩ := hj;subst hp
   refine ZN rfl m (YieldAt.mono (hY p ⟨x, hq⟩ W hj (by simpa using hl)) fun e W' h => h.elim (fun ⟨he, h1, h2⟩ => .inl ⟨he, ⟨_, by simp, h1⟩, h2⟩) (fun ⟨he, h1⟩ => .inr ⟨he, ⟨_, by simp, h1⟩⟩))) T (n - 1) p0 0 [] W hT hok (by omega) (by omega) ⟨[], rfl, h0⟩ (by simp) hQ hnW
 refine callsIn_of_wp Tryz.func121 rfl trivial ?_ rfl;simp only [Tryz.ntmps121, List.size_toArray, List.length_cons, List.length_nil, Nat.reduceAdd, Nat.reduceSub, Array.replicate_succ, Array.replicate_zero, List.push_toArray, List.append_toArray, List.nil_append, List.cons_append]
 gi_wp2_with (refine ⟨trivial, fun h => (by cases h), ?_⟩; refine hp.mono ?_; clear hp; rintro e W1 (⟨rfl, ⟨ys, hys, hJ1⟩, _⟩ | ⟨rfl, q, hq, ys, hys, hx⟩))
 ·go_end0
  exact ⟨⟨_, rfl⟩, .inl ⟨ys, by simpa using hys, hJ1⟩⟩
 ·go_end0
  exact ⟨⟨_, rfl⟩, .inr ⟨ys, by rw [hys]; simpa using hq, hx⟩⟩
theorem Xi (Q : Int × Pc -> Prop) (lo hi : Int) (hlo : 0 <= lo ∧ lo <= 8192) (hhi : 0 <= hi ∧ hi <= 8192) (n : Nat) (Bt Bl Bh n₀ : Nat) (p0 : Option Addr) (T : AT) (hok : T.ok) (hQ : ∀ y ∈ acr lo hi T 0, Q y) (w : World) (hBt : Bt < w.heap.size) (hBl : Bl < w.heap.size) (hBh : Bh < w.heap.size) (hn₀ : n₀ <= w.heap.size)
  (hc : w.cell? ⟨Bt, 0, none⟩ = some (.pointer p0)) (hc2 : w.cell? ⟨Bl, 0, none⟩ = some (.int .i64 lo)) (hc3 : w.cell? ⟨Bh, 0, none⟩ = some (.int .i64 hi)) (hT : IsT n₀ w p0 T) :
  SeqStopsK Fence.wide n Tryz.prog 121 #[.pointer (some ⟨Bt, 0, none⟩), .pointer (some ⟨Bl, 0, none⟩), .pointer (some ⟨Bh, 0, none⟩)] (fun y : {y : Int × Pc // Q y} => #[Value.int .i64 y.1.1, .agg #[.int .i64 y.1.2.off, .int .i64 y.1.2.len, .int .i64 y.1.2.brk]]) (Below n₀) (fun ys => ys.map (·.1) = acr lo hi T 0) (fun pre => pre.map (·.1) <+: acr lo hi T 0) T.its w := fun l J Jx W hW hJ _ hY h0 =>
 zAh Q lo hi hlo hhi n l Bt Bl Bh n₀ p0 T hok hQ J Jx (fun pre A B hj hb => hJ pre A B none hj ⟨hb.os, hb.tape, hb.output, hb.size, fun k hk _ => hb.block k hk⟩ (fun r e => by cases e)) hY W ((hW.cell (p := ⟨Bt, 0, none⟩) hBt).trans hc) ((hW.cell (p := ⟨Bl, 0, none⟩) hBl).trans hc2) ((hW.cell (p := ⟨Bh, 0, none⟩) hBh).trans hc3) (hT.below (hW.mono hn₀)) (Nat.le_trans hn₀ hW.size) h0
theorem zCv (n : Nat) (p0 : Option Addr) (lo hi : Int) (w : World) :
  CallsIn Fence.wide n Tryz.prog 95 #[.pointer p0, .int .i64 lo, .int .i64 hi] w fun e w' => e = .returned (.func (.func 121) #[] #[.pointer (some ⟨w.heap.size, 0, none⟩), .pointer (some ⟨w.heap.size + 1, 0, none⟩), .pointer (some ⟨w.heap.size + 1 + 1, 0, none⟩)]) ∧ w' = ((w.alloc (.cells #[.pointer p0] 124)).alloc (.cells #[.int .i64 lo] 3)).alloc (.cells #[.int .i64 hi] 3) := by
 refine callsIn_of_wp Tryz.func95 rfl trivial ?_ rfl;simp only [Tryz.ntmps95, List.size_toArray, List.length_cons, List.length_nil, Nat.reduceAdd, Nat.reduceSub, Array.replicate_succ, Array.replicate_zero, List.push_toArray, List.append_toArray, List.nil_append, List.cons_append]
 gi_wp2
 go_ret;exact ⟨rfl, rfl⟩
end Go.Proofs.YtbgngikejgihgafGreatDoor
