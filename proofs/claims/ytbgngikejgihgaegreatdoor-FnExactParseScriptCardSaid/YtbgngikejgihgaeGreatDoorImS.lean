import Derived.Test.YtbgngikejgihgaeGreatDoorImN
import Derived.Test.YtbgngikejgihgaeGreatDoorExD
import Derived.Test.YtbgngikejgihgaeGreatDoorSame
import Derived.Lib.Bytes
import Derived.Deep.Cut
namespace Go.Proofs.YtbgngikejgihgaeGreatDoor
open Go Go.RowKit
set_option linter.unusedVariables false

/-- What l5Number answers. -/
def nmV (l : List UInt8) : Value := .tuple #[.int .i64 ((numU l 18).getD 0), .bool (numU l 18).isSome]
theorem nmV_no {l : List UInt8} (h : (dropM l).length < 1 ∨ 18 < (dropM l).length) : nmV l = .tuple #[.int .i64 0, .bool false] := by
  have h1 : numU l 18 = none := by unfold numU; rw [if_neg (by omega)]
  unfold nmV; rw [h1]; rfl
theorem bts_inj {a b : List UInt8} (h : bts a = bts b) : a = b := by
  have h1 := congrArg Lib.bytesOf h
  have e : ∀ l : List UInt8, Lib.bytesOf (bts l) = l := fun l => by
    unfold Lib.bytesOf bts
    rw [List.map_map]
    conv => rhs; rw [← List.map_id l]
    exact List.map_congr_left fun x _ => by simp
  rwa [e, e] at h1
/-- What the digits come to, as int64 goes. -/
def wfD (d : List UInt8) : Int := wrap64 (foldD 0 d)
theorem wfD_nil : wfD [] = 0 := by simp [wfD, foldD, wrap64]
theorem wrap_bd (x : Int) : -9223372036854775808 ≤ wrap64 x ∧ wrap64 x ≤ 9223372036854775807 := by unfold wrap64; omega
theorem wrap_lin (x z : Int) : wrap64 (wrap64 (wrap64 (wrap64 x * 10) + z) - 48) = wrap64 (x * 10 + z - 48) := by unfold wrap64; omega
theorem wrap_neg (x : Int) : wrap64 (-(wrap64 x)) = wrap64 (-x) := by unfold wrap64; omega
theorem digits_big (k : Nat) : ∀ u, 10 ^ (k + 1) ≤ u → k + 1 < (Lib.decDigits u).length := by
  induction k with
  | zero => intro u h; rw [digits_step (by simpa using h), List.length_append]; have := digits_ne (u / 10); have h9 := List.length_pos_iff.2 this; simp; omega
  | succ k ih =>
    intro u h
    have h10 : 10 ≤ u := by
      have : 10 ^ 1 ≤ 10 ^ (k + 1 + 1) := Nat.pow_le_pow_right (by omega) (by omega)
      omega
    rw [digits_step h10, List.length_append]
    have := ih (u / 10) (by rw [Nat.pow_succ] at h; omega)
    simp only [List.length_singleton]; omega
theorem num_same {l : List UInt8} (h2 : (dropM l).length ≤ 18) (h : Lib.itoa (valU l) = l) : wrap64 (valU l) = valU l := by
  have h3 : (dropM l).length = (Lib.decDigits (valU l).natAbs).length := by
    conv => lhs; rw [← h]
    rw [dropM_itoa]
  have h4 : (valU l).natAbs < 10 ^ 18 := by
    rcases Nat.lt_or_ge (valU l).natAbs (10 ^ 18) with q | q
    · exact q
    · have := digits_big 17 _ q; omega
  unfold wrap64
  simp at h4
  omega
theorem nmV_bad {l : List UInt8} (h2 : (dropM l).length ≤ 18) (h : bts (Lib.itoa (wrap64 (valU l))) ≠ bts l) : nmV l = .tuple #[.int .i64 0, .bool false] := by
  have h1 : numU l 18 = none := by
    unfold numU
    rw [if_neg]
    intro e
    rw [num_same h2 e.2.2] at h
    exact h (by rw [e.2.2])
  unfold nmV; rw [h1]; rfl
theorem nmV_ok {l : List UInt8} (h1 : 1 ≤ (dropM l).length) (h2 : (dropM l).length ≤ 18) (h : bts (Lib.itoa (wrap64 (valU l))) = bts l) : nmV l = .tuple #[.int .i64 (wrap64 (valU l)), .bool true] := by
  have e := bts_inj h
  have hv : valU l = wrap64 (valU l) := by
    conv => lhs; rw [← e]
    exact val_itoa _
  have h1 : numU l 18 = some (valU l) := by unfold numU; rw [if_pos ⟨h1, h2, by rw [← hv] at e; exact e⟩]
  unfold nmV; rw [h1, ← hv]; rfl
theorem bts_bytes (l : List UInt8) : bytes (bts l) := fun z hz => by
  obtain ⟨x, _, rfl⟩ := List.mem_map.1 hz
  have := x.toNat_lt
  omega
theorem fold_step (d : List UInt8) (k : Nat) (h : k < d.length) : foldD 0 (d.take (k + 1)) = foldD 0 (d.take k) * 10 + (bts d).getD k 0 - 48 := by
  rw [List.take_succ_eq_append_getElem h, foldD_app, foldD_one]
  congr 2
  unfold bts
  simp [List.getD_eq_getElem?_getD, h]
theorem fold_stepW (d : List UInt8) (k : Nat) (h : k < d.length) : wfD (d.take (k + 1)) = wrap64 (wrap64 (wrap64 (wfD (d.take k) * 10) + (bts d).getD k 0) - 48) := by
  unfold wfD
  rw [wrap_lin, fold_step d k h]
theorem byte_bd (d : List UInt8) (k : Nat) : 0 ≤ (bts d).getD k 0 ∧ (bts d).getD k 0 ≤ 255 := by
  rw [List.getD_eq_getElem?_getD]
  cases h : (bts d)[k]? with
  | none => simp
  | some z =>
    have := bts_bytes d z (List.mem_of_getElem? h)
    simp; omega
theorem w64 {x : Int} (h0 : -9000000000000000000 ≤ x) (h1 : x ≤ 9000000000000000000) : wrap64 x = x := by unfold wrap64; omega

set_option maxHeartbeats 400000 in
set_option maxRecDepth 100000 in
theorem numPos (x : UInt8) (t : List UInt8) (hx : x ≠ 45) (b off cap : Nat) (w : World) (hc : ∀ i, i < (x :: t).length → w.cell? ⟨b, off + i, none⟩ = some (.int .u8 ((bts (x :: t)).getD i 0))) (hcap : (x :: t).length ≤ cap) (hm : cap ≤ maxLen) (h0 : 1 ≤ (x :: t).length) (h10 : (x :: t).length ≤ 18) :
    Calls Tryz.prog 23 #[.slice (some ⟨b, off, none⟩) (x :: t).length cap, .int .i64 18] w fun e w' => e = .returned (nmV (x :: t)) ∧ Below w.heap.size w w' := by
  have RD := hide (show Rd .u8 w (.slice (some ⟨b, off, none⟩) (x :: t).length cap) (bts (x :: t)) from .inr ⟨b, off, cap, by rw [bts_length], by rw [bts_length]; exact ⟨by simp, hcap, hm⟩, by rw [bts_length]; exact hc⟩)
  have VU := hide (show valU (x :: t) = foldD 0 (x :: t) by unfold valU; rw [if_neg (by simpa using hx)])
  have DM := hide (show dropM (x :: t) = (x :: t) by unfold dropM; rw [if_neg (by simpa using hx)])
  have c0 := hc 0 (by simp)
  have hx0 : (bts (x :: t)).getD 0 0 = (x.toNat : Int) := rfl
  rw [hx0, Nat.add_zero] at c0
  have CC : Hid (∀ i, i < (x :: t).length → w.cell? ⟨b, off + i, none⟩ = some (.int .u8 ((bts (x :: t)).getD i 0))) := hide fun i hi => by
    exact hc i hi
  have hxx : ((x.toNat : Int) == 45) = false := by rw [beq_eq_false_iff_ne]; exact fun e => hx (UInt8.toNat_inj.1 (by have h8 : (45 : UInt8).toNat = 45 := rfl; omega))
  have YB := hide (byte_bd (x :: t))
  have FS := hide (fold_stepW (x :: t))
  have HTL : (x :: t).length = t.length + 1 := rfl
  rw [HTL] at hcap RD
  rw [HTL]
  clear hc hm
  skip
  have DL := hide (show (x :: t).length = (t.length + 1) from rfl)
  have g1 : (1 : Int) ≤ ((t.length + 1) : Int) := by have := DL.out; omega
  have g2 : ((t.length + 1) : Int) ≤ 18 := by have := DL.out; omega
  go_enter Tryz.func23, Tryz.ntmps23
  go_wp2_with fail
  skip
  go_loop [7, 33] (fun v i => ∃ k : Nat, k ≤ (t.length + 1) ∧ i = .int .i64 k ∧ v = .int .i64 (wfD ((x :: t).take k))) (fun _ i => (t.length + 1) - (intOf i).toNat)
  case atStart => exact ⟨0, Nat.zero_le _, rfl, by rw [List.take_zero, wfD_nil]⟩
  case round =>
    obtain ⟨k, hk, rfl, rfl⟩ := hrel
    by_cases hlt : k < (t.length + 1)
    · have ck := CC.out k hlt
      have fs := FS.out k hlt
      have yb := YB.out k
      have EK := hide (w64 (x := (k : Int) + 1) (by omega) (by omega))
      generalize wfD ((x :: t).take k) = f at *
      generalize (bts (x :: t)).getD k 0 = z at *
      have E0 := hide (w64 (x := z) (by omega) (by omega))
      obtain ⟨p1, e1⟩ : ∃ p1, wrap64 (f * 10) = p1 := ⟨_, rfl⟩
      rw [e1] at fs
      obtain ⟨p2, e2⟩ : ∃ p2, wrap64 (p1 + z) = p2 := ⟨_, rfl⟩
      rw [e2] at fs
      obtain ⟨p3, e3⟩ : ∃ p3, wrap64 (p2 - 48) = p3 := ⟨_, rfl⟩
      rw [e3] at fs
      have HS := hide fs
      have E1 := hide e1
      have E2 := hide e2
      have E3 := hide e3
      have HT := hide hlt
      clear fs yb hx hxx c0 CC YB FS RD VU DM hcap h0 h10 g1 g2 DL hk HTL hx0 e1 e2 e3
      go_upto_region 10 with fail
      clear hlt ck
      have e1 := E1.out
      have e2 := E2.out
      have e3 := E3.out
      have ek := EK.out
      go_wp2_with fail
      have hlt := HT.out
      go_round
      case rel => exact ⟨k + 1, by omega, by (try rw [EK.out]); rw [Int.natCast_add]; rfl, by rw [HS.out]; (try rw [E0.out]); (try rw [E2.out]); (try rw [E3.out])⟩
      case measure => (try rw [EK.out]); simp [intOf]; omega
    · obtain rfl : k = (t.length + 1) := by omega
      rw [show (x :: t).take (t.length + 1) = (x :: t) from List.take_of_length_le (Nat.le_refl _)]
      have bw := wrap_bd (valU (x :: t))
      have DC := hide (fun W => decL (wrap64 (valU (x :: t))) W bw)
      have NB := hide (nmV_bad (l := x :: t) (by rw [DM.out]; exact h10))
      have NK := hide (nmV_ok (l := x :: t) (by rw [DM.out]; exact h0) (by rw [DM.out]; exact h10))
      have WV : wfD (x :: t) = wrap64 (valU (x :: t)) := by rw [VU.out]; rfl
      rw [WV]
      generalize wrap64 (valU (x :: t)) = f at *
      clear hlt hk YB FS CC c0 VU hcap h0 h10 g1 g2 DL HTL hx0 hxx hx bw WV
      go_wp2_with fail
      refine (DC.out _).mono ?_
      rintro e w1 ⟨v1, rfl, ho1, hb1⟩
      have SM := hide (l1Same _ _ _ _ w1 ho1.rd (RD.out.below hb1) (bts_bytes _) (bts_bytes _) (itoa_pos _) (by rw [bts_length]; simp))
      have B1 := hide hb1
      clear ho1 hb1 DC
      by_cases he : bts (Lib.itoa f) = bts (x :: t)
      · rw [decide_eq_true he] at SM
        have NV := hide (NK.out he)
        clear he NB NK
        go_wp2_with fail
        refine SM.out.mono ?_
        rintro e w2 ⟨rfl, hw2⟩
        subst w2
        go_wp2
        exact bodyPost_ret (v := .tuple #[.int .i64 f, .bool true]) (by simp [results, Tryz.results23, go_sem]) rfl ⟨by rw [NV.out], B1.out⟩
      · rw [decide_eq_false he] at SM
        have NV := hide (NB.out he)
        clear he NB NK
        go_wp2_with fail
        refine SM.out.mono ?_
        rintro e w2 ⟨rfl, hw2⟩
        subst w2
        go_wp2
        exact bodyPost_ret (v := .tuple #[.int .i64 0, .bool false]) (by simp [results, Tryz.results23, go_sem]) rfl ⟨by rw [NV.out], B1.out⟩

set_option maxHeartbeats 400000 in
set_option maxRecDepth 100000 in
theorem numNeg (x : UInt8) (t : List UInt8) (hx : x = 45) (b off cap : Nat) (w : World) (hc : ∀ i, i < (x :: t).length → w.cell? ⟨b, off + i, none⟩ = some (.int .u8 ((bts (x :: t)).getD i 0))) (hcap : (x :: t).length ≤ cap) (hm : cap ≤ maxLen) (h0 : 1 ≤ t.length) (h10 : t.length ≤ 18) :
    Calls Tryz.prog 23 #[.slice (some ⟨b, off, none⟩) (x :: t).length cap, .int .i64 18] w fun e w' => e = .returned (nmV (x :: t)) ∧ Below w.heap.size w w' := by
  have RD := hide (show Rd .u8 w (.slice (some ⟨b, off, none⟩) (x :: t).length cap) (bts (x :: t)) from .inr ⟨b, off, cap, by rw [bts_length], by rw [bts_length]; exact ⟨by simp, hcap, hm⟩, by rw [bts_length]; exact hc⟩)
  have VU := hide (show valU (x :: t) = - foldD 0 t by unfold valU; rw [hx]; rfl)
  have DM := hide (show dropM (x :: t) = t by unfold dropM; rw [hx]; rfl)
  have c0 := hc 0 (by simp)
  have hx0 : (bts (x :: t)).getD 0 0 = (x.toNat : Int) := rfl
  rw [hx0, Nat.add_zero] at c0
  have CC : Hid (∀ i, i < t.length → w.cell? ⟨b, off + 1 + i, none⟩ = some (.int .u8 ((bts t).getD i 0))) := hide fun i hi => by
    have h9 := hc (i + 1) (by simp; omega)
    rw [show off + (i + 1) = off + 1 + i by omega] at h9
    rw [h9]; rfl
  have hxx : ((x.toNat : Int) == 45) = true := by rw [hx]; rfl
  have YB := hide (byte_bd t)
  have FS := hide (fold_stepW t)
  have HTL : (x :: t).length = t.length + 1 := rfl
  rw [HTL] at hcap RD
  rw [HTL]
  clear hc hm
  have hcp : ¬ cap = 1 := by omega
  have hc1 : (1 : Int) ≤ (cap : Int) := by omega
  have DL := hide (show t.length = t.length from rfl)
  have g1 : (1 : Int) ≤ (t.length : Int) := by have := DL.out; omega
  have g2 : (t.length : Int) ≤ 18 := by have := DL.out; omega
  go_enter Tryz.func23, Tryz.ntmps23
  go_wp2_with fail
  generalize off + 1 = o1 at *
  generalize cap - 1 = cp at *
  go_loop [7, 33] (fun v i => ∃ k : Nat, k ≤ t.length ∧ i = .int .i64 k ∧ v = .int .i64 (wfD (t.take k))) (fun _ i => t.length - (intOf i).toNat)
  case atStart => exact ⟨0, Nat.zero_le _, rfl, by rw [List.take_zero, wfD_nil]⟩
  case round =>
    obtain ⟨k, hk, rfl, rfl⟩ := hrel
    by_cases hlt : k < t.length
    · have ck := CC.out k hlt
      have fs := FS.out k hlt
      have yb := YB.out k
      have EK := hide (w64 (x := (k : Int) + 1) (by omega) (by omega))
      generalize wfD (t.take k) = f at *
      generalize (bts t).getD k 0 = z at *
      have E0 := hide (w64 (x := z) (by omega) (by omega))
      obtain ⟨p1, e1⟩ : ∃ p1, wrap64 (f * 10) = p1 := ⟨_, rfl⟩
      rw [e1] at fs
      obtain ⟨p2, e2⟩ : ∃ p2, wrap64 (p1 + z) = p2 := ⟨_, rfl⟩
      rw [e2] at fs
      obtain ⟨p3, e3⟩ : ∃ p3, wrap64 (p2 - 48) = p3 := ⟨_, rfl⟩
      rw [e3] at fs
      have HS := hide fs
      have E1 := hide e1
      have E2 := hide e2
      have E3 := hide e3
      have HT := hide hlt
      clear fs yb hx hxx c0 CC YB FS RD VU DM hcap h0 h10 g1 g2 DL hk HTL hx0 e1 e2 e3 hcp hc1
      go_upto_region 10 with fail
      clear hlt ck
      have e1 := E1.out
      have e2 := E2.out
      have e3 := E3.out
      have ek := EK.out
      go_wp2_with fail
      have hlt := HT.out
      go_round
      case rel => exact ⟨k + 1, by omega, by (try rw [EK.out]); rw [Int.natCast_add]; rfl, by rw [HS.out]; (try rw [E0.out]); (try rw [E2.out]); (try rw [E3.out])⟩
      case measure => (try rw [EK.out]); simp [intOf]; omega
    · obtain rfl : k = t.length := by omega
      rw [show t.take t.length = t from List.take_of_length_le (Nat.le_refl _)]
      have bw := wrap_bd (valU (x :: t))
      have en : wrap64 (-(wfD t)) = wrap64 (valU (x :: t)) := by rw [VU.out]; unfold wfD; exact wrap_neg _
      have DC := hide (fun W => decL (wrap64 (valU (x :: t))) W bw)
      have NB := hide (nmV_bad (l := x :: t) (by rw [DM.out]; exact h10))
      have NK := hide (nmV_ok (l := x :: t) (by rw [DM.out]; exact h0) (by rw [DM.out]; exact h10))
      generalize wrap64 (valU (x :: t)) = f at *
      generalize wfD t = g at *
      clear hlt hk YB FS CC c0 VU hcap h0 h10 g1 g2 DL HTL hx0 hxx hx bw hcp hc1
      go_wp2_with fail
      refine (DC.out _).mono ?_
      rintro e w1 ⟨v1, rfl, ho1, hb1⟩
      have SM := hide (l1Same _ _ _ _ w1 ho1.rd (RD.out.below hb1) (bts_bytes _) (bts_bytes _) (itoa_pos _) (by rw [bts_length]; simp))
      have B1 := hide hb1
      clear ho1 hb1 DC
      by_cases he : bts (Lib.itoa f) = bts (x :: t)
      · rw [decide_eq_true he] at SM
        have NV := hide (NK.out he)
        clear he NB NK
        go_wp2_with fail
        refine SM.out.mono ?_
        rintro e w2 ⟨rfl, hw2⟩
        subst w2
        go_wp2
        exact bodyPost_ret (v := .tuple #[.int .i64 f, .bool true]) (by simp [results, Tryz.results23, go_sem]) rfl ⟨by rw [NV.out], B1.out⟩
      · rw [decide_eq_false he] at SM
        have NV := hide (NB.out he)
        clear he NB NK
        go_wp2_with fail
        refine SM.out.mono ?_
        rintro e w2 ⟨rfl, hw2⟩
        subst w2
        go_wp2
        exact bodyPost_ret (v := .tuple #[.int .i64 0, .bool false]) (by simp [results, Tryz.results23, go_sem]) rfl ⟨by rw [NV.out], B1.out⟩

set_option maxHeartbeats 1000000 in
set_option maxRecDepth 100000 in
theorem numNone (l : List UInt8) (v : Value) (w : World) (h : Rd .u8 w v (bts l)) (hl : l.length ≤ 16384) (hd : (dropM l).length < 1 ∨ 18 < (dropM l).length) :
    Calls Tryz.prog 23 #[v, .int .i64 18] w fun e w' => e = .returned (nmV l) ∧ Below w.heap.size w w' := by
  rw [nmV_no hd]
  rcases h with ⟨ao, c, rfl, e⟩ | ⟨b, off, cap, rfl, hp, hc⟩
  · go_enter Tryz.func23, Tryz.ntmps23
    go_wp2
    exact bodyPost_ret (v := .tuple #[.int .i64 0, .bool false]) (by simp [results, Tryz.results23, go_sem]) rfl ⟨rfl, Below.refl _ _⟩
  · rw [bts_length] at hp hc ⊢
    match l, hp, hc, hd, hl with
    | x :: t, hp, hc, hd, hl =>
      have c0 := hc 0 (by simp)
      rw [show (bts (x :: t)).getD 0 0 = (x.toNat : Int) from rfl, Nat.add_zero] at c0
      have h1 := hp.2.1
      have hl1 : t.length + 1 ≤ 16384 := hl
      rw [show (x :: t).length = t.length + 1 from rfl] at h1 ⊢
      clear hc hp hl
      by_cases hx : x = 45
      · subst hx
        have hd2 : t.length < 1 ∨ 18 < t.length := hd
        have c0 : w.cell? ⟨b, off, none⟩ = some (.int .u8 45) := c0
        have hcc : (1 : Int) ≤ (cap : Int) := by omega
        have hdd : (decide ((t.length : Int) < 1) || decide ((18 : Int) < (t.length : Int))) = true := by
          rcases hd2 with q | q
          · rw [decide_eq_true (by omega : (t.length : Int) < 1)]; rfl
          · rw [decide_eq_true (by omega : (18 : Int) < (t.length : Int)), Bool.or_true]
        generalize t.length = n at *
        rcases Nat.lt_or_ge n 1 with q | q
        · obtain rfl : n = 0 := by omega
          clear hd hd2 hdd
          go_enter Tryz.func23, Tryz.ntmps23
          go_wp2
          all_goals exact bodyPost_ret (v := .tuple #[.int .i64 0, .bool false]) (by simp [results, Tryz.results23, go_sem]) rfl ⟨rfl, Below.refl _ _⟩
        · have q2 : 18 < n := by omega
          have hcp : ¬ cap = 1 := by omega
          have hd3 : ¬ ((n : Int) < 1) := by omega
          have hd4 : (18 : Int) < (n : Int) := by omega
          clear hd hd2 hdd hl1 q q2
          go_enter Tryz.func23, Tryz.ntmps23
          go_wp2
          all_goals exact bodyPost_ret (v := .tuple #[.int .i64 0, .bool false]) (by simp [results, Tryz.results23, go_sem]) rfl ⟨rfl, Below.refl _ _⟩
      · have hd2 : t.length + 1 < 1 ∨ 18 < t.length + 1 := by
          have e : dropM (x :: t) = x :: t := by unfold dropM; rw [if_neg (by simpa using hx)]
          rw [e] at hd; exact hd
        have hxx : ((x.toNat : Int) == 45) = false := by rw [beq_eq_false_iff_ne]; exact fun e => hx (UInt8.toNat_inj.1 (by have h8 : (45 : UInt8).toNat = 45 := rfl; omega))
        have hd4 : (18 : Int) < (t.length : Int) + 1 := by omega
        generalize t.length = n at *
        clear hd hd2 hl1 hx
        go_enter Tryz.func23, Tryz.ntmps23
        go_wp2
        all_goals exact bodyPost_ret (v := .tuple #[.int .i64 0, .bool false]) (by simp [results, Tryz.results23, go_sem]) rfl ⟨rfl, Below.refl _ _⟩

/-- spec.l5Number. -/
theorem numberL (l : List UInt8) (v : Value) (w : World) (h : Rd .u8 w v (bts l)) (hl : l.length ≤ 16384) :
    Calls Tryz.prog 23 #[v, .int .i64 18] w fun e w' => e = .returned (nmV l) ∧ Below w.heap.size w w' := by
  by_cases hd : (dropM l).length < 1 ∨ 18 < (dropM l).length
  · exact numNone l v w h hl hd
  · rcases h with ⟨ao, c, rfl, e⟩ | ⟨b, off, cap, rfl, hp, hc⟩
    · have : l = [] := by have := congrArg List.length e; rw [bts_length] at this; exact List.eq_nil_of_length_eq_zero this
      subst this; exact absurd (.inl (by decide)) hd
    · rw [bts_length] at hp hc ⊢
      match l, hp, hc, hd with
      | x :: t, hp, hc, hd =>
        by_cases hx : x = 45
        · have e : dropM (x :: t) = t := by unfold dropM; rw [hx]; rfl
          rw [e] at hd
          exact numNeg x t hx b off cap w hc hp.2.1 hp.2.2 (by omega) (by omega)
        · have e : dropM (x :: t) = x :: t := by unfold dropM; rw [if_neg (by simpa using hx)]
          rw [e] at hd
          exact numPos x t hx b off cap w hc hp.2.1 hp.2.2 (by omega) (by omega)
end Go.Proofs.YtbgngikejgihgaeGreatDoor
