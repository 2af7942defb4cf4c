import Derived.RangeFuncNested
import Derived.RangeFuncBound
import Derived.RangeFuncCalls
import Derived.RangeFuncLeaves
import Derived.Shelf.Abstract
import Derived.Shelf.RegionOpen
import Derived.WalkKit
import Derived.OwnWalkIn
import Derived.TacticsInMore
import Derived.LoopNIn
import Derived.LoopIn
import Derived.Shelf.Bytes.IndexByte
import Derived.Lib.IndexBytes
import Derived.Test.YtbgngikejgihgadGreatDoorMq01
import Derived.Test.YtbgngikejgihgadGreatDoorMq11
import Derived.Test.YtbgngikejgihgadGreatDoorMq02
import Derived.Test.YtbgngikejgihgadGreatDoorMq12
import Derived.Test.YtbgngikejgihgadGreatDoorProg
import Derived.Test.YtbgngikejgihgadGreatDoorMq05
import Derived.WalkLawsBesides
import Derived.OrdersIn
namespace Go.Proofs.YtbgngikejgihgadGreatDoor
open Go Go.RowKit Go.Shelf
set_option linter.unusedVariables false
attribute [local go_sem] Oper.semAt_some

theorem bytes_bts (l : List UInt8) : Lib.bytesOf (bts l) = l := by
  unfold Lib.bytesOf bts
  rw [List.map_map]
  conv => rhs; rw [← List.map_id l]
  exact List.map_congr_left fun x _ => by simp
theorem ixL (l : List UInt8) (b o c : Nat) (w : World) (hc : ∀ i, i < l.length → w.cell? ⟨b, o + i, none⟩ = some (.int .u8 ((bts l).getD i 0))) :
    Calls Tryz.prog 31 #[.slice (some ⟨b, o, none⟩) l.length c, .int .u8 10] w fun e w' => e = .returned (.int .i64 (Lib.index l [10])) ∧ w' = w := by
  have h := Any.bytes_IndexByte Tryz.ixLays b o l.length c (bts l) 10 w (bts_length l) hc
  rw [bytes_bts, ← Lib.index_one] at h
  exact h

/-- What is left of a text, from a place on. -/
def SV (L : List UInt8) (b off cap i : Nat) (v : Value) : Prop := (L.drop i = [] ∧ ∃ ao c, v = .slice ao 0 c) ∨ (i < L.length ∧ v = .slice (some ⟨b, off + i, none⟩) (L.length - i) (cap - i))
def boxLen (w : World) (bx : Nat) : Nat := match w.cell? ⟨bx, 0, none⟩ with
  | some (.slice _ n _) => n
  | _ => 0
theorem boxLen_eq {w : World} {bx : Nat} {ao : Option Addr} {n c : Nat} {t : TypeId} (h : Boxed w bx t (.slice ao n c)) : boxLen w bx = n := by
  unfold boxLen; rw [h.cell]

theorem SVn1 {L : List UInt8} {i q k : Nat} (hq : L.length - i = q) (h1 : k + 1 ≤ q) : i + (k + 1) ≤ L.length := by omega
theorem SVn {L : List UInt8} {b off cap i q cp k : Nat} {pp : Option Addr} (hq : L.length - i = q) (hcp : cap - i = cp) (h1 : k + 1 ≤ q) (h2 : q ≤ cp) (hpp : (if cp = k + 1 then some (⟨b, off + i, none⟩ : Addr) else some ⟨b, off + i + (k + 1), none⟩) = pp) : SV L b off cap (i + (k + 1)) (.slice pp (q - (k + 1)) (cp - (k + 1))) := by
  by_cases h : q = k + 1
  · refine .inl ⟨List.drop_eq_nil_of_le (by omega), pp, cp - (k + 1), by rw [h, Nat.sub_self]⟩
  · refine .inr ⟨by omega, ?_⟩
    rw [if_neg (by omega)] at hpp
    rw [← hpp, show L.length - (i + (k + 1)) = q - (k + 1) by omega, show cap - (i + (k + 1)) = cp - (k + 1) by omega, show off + (i + (k + 1)) = off + i + (k + 1) by omega]
theorem wrapk (k : Nat) (h : k ≤ 100000) : wrap64 ((k : Int) + 1) = (k : Int) + 1 := by unfold wrap64; omega
theorem wrapki (k : Nat) (h : k ≤ 100000) : IntKind.i64.wrap ((k : Int) + 1) = (k : Int) + 1 := by rw [IntKind.wrap_i64]; omega

set_option maxRecDepth 100000 in
set_option maxHeartbeats 1000000 in
theorem linesIt (L : List UInt8) (b off cap n₀ bx n : Nat) (w : World) (hL : L.length ≤ 8192) (hcap : L.length ≤ cap) (hb : b < n₀) (hbx : n₀ ≤ bx) (hlt : bx < w.heap.size)
    (hc : ∀ i, i < L.length → w.cell? ⟨b, off + i, none⟩ = some (.int .u8 ((bts L).getD i 0))) (v : Value) (hv : Boxed w bx 22 v) (hs : SV L b off cap 0 v) :
    SeqCell Fence.wide n Tryz.prog 30 #[.pointer (some ⟨bx, 0, none⟩)] (fun x : Ln L => #[Value.slice (some ⟨b, off + x.1.1, none⟩) x.1.2 x.1.2]) (fun A B => Below n₀ A B ∧ B.heap[bx]? = A.heap[bx]?) (fun ys => ys.map Ln.tx = lnsU L) (fun pre => pre.map Ln.tx <+: lnsU L) bx w := by
  intro l J Jx W hW hJg hJs hY h0

  refine callsIn_of_wp Tryz.func30 rfl trivial ?_ rfl
  simp only [Tryz.ntmps30, List.size_toArray, List.length_cons, List.length_nil, Nat.reduceAdd, Nat.reduceSub, Array.replicate_succ, Array.replicate_zero, List.push_toArray, List.append_toArray, List.nil_append, List.cons_append]
  gi_wp2_with fail
  gi_loopw [] (fun wr => ∃ (i : Nat) (pre : List (Ln L)) (v : Value), i ≤ L.length ∧ Boxed wr bx 22 v ∧ SV L b off cap i v ∧ (∀ k, k < L.length → wr.cell? ⟨b, off + k, none⟩ = some (.int .u8 ((bts L).getD k 0))) ∧ pre.map Ln.tx ++ lnsU (L.drop i) = lnsU L ∧ J pre wr) (fun wr => boxLen wr bx)
  case atStart =>
    exact ⟨0, [], v, Nat.zero_le _, (hW.block bx hlt).trans hv, hs, fun k hk => (hW.cell (p := ⟨b, off + k, none⟩) (by show b < _; omega)).trans (hc k hk), rfl, h0⟩
  case round =>
    obtain ⟨i, pre, u, hi, hB, hSV, hcc, hpre, hJ⟩ := hrel
    rcases hSV with ⟨hd, ao, c, rfl⟩ | ⟨hil, rfl⟩
    · have c0 := hB.cell
      gi_wp2
      go_end0
      exact ⟨⟨_, rfl⟩, .inl ⟨pre, by rw [← hpre, hd, lnsU_nil, List.append_nil], hJ⟩⟩
    · have c0 := hB.cell
      have fz := hB.frozen
      have ML := hide (boxLen_eq hB)
      have hdl : (L.drop i).length = L.length - i := List.length_drop
      have IX := hide (ixL (L.drop i) b (off + i) (cap - i) wr (fun k hk => by
        have h9 := hcc (i + k) (by omega)
        rw [show off + (i + k) = off + i + k by omega] at h9
        rw [h9]
        unfold bts
        rw [List.map_drop]
        simp [List.getD_eq_getElem?_getD]))
      rw [hdl] at IX
      rcases index_one 10 (L.drop i) with ⟨hno, hix⟩ | ⟨k, hk, hix, hno, heq⟩
      · rw [hix] at IX
        have LN := hide (lnsU_last hno (by intro e; rw [e] at hdl; simp at hdl; omega))
        have J1 := hJs pre wr (.slice none 0 0) hJ
        obtain ⟨x, hX1, hX2, hTX⟩ : ∃ x : Ln L, x.1.1 = i ∧ x.1.2 = L.length - i ∧ x.tx = L.drop i := ⟨⟨(i, L.length - i), by simp; omega⟩, rfl, rfl, by unfold Ln.tx; exact List.take_of_length_le (by simp)⟩
        have YY := hide (hY pre x _ J1)
        rw [hX1, hX2] at YY
        have TX := hide hTX
        have KB := hide hB
        have KC := hide hcc
        obtain ⟨fn, tmps, assign, body, hy, hR⟩ := YY.out
        clear hX1 hX2 hTX YY
        generalize hq : L.length - i = q at *
        have hq0 : (0 : Int) < q := by omega
        clear hcc hY hc hv hs
        gi_wp2_with fail
        refine ⟨trivial, fun h => (by cases h), ?_⟩
        refine (callsIn_wide.2 IX.out).mono ?_
        clear IX
        rintro e w1 ⟨rfl, hw1⟩
        subst w1
        gi_wp2_with fail
        refine ⟨fun h => (by cases h), ?_⟩
        refine hR.mono ?_
        clear hR
        have KW := hide ((Below.refl n₀ wr).setCell (p := ⟨bx, 0, none⟩) hbx (.slice none 0 0))
        rintro e W3 (⟨rfl, hJ3, hk3, hx3⟩ | ⟨rfl, hJx3⟩)
        · gi_wp2
          go_roundw
          case rel => exact ⟨L.length, pre ++ [x], .slice none 0 0, Nat.le_refl _, hx3.trans (KB.out.set _), .inl ⟨by simp, _, _, rfl⟩, fun k hk => ((KW.out.trans hk3).cell (p := ⟨b, off + k, none⟩) hb).trans (KC.out k hk), by rw [List.map_append, List.append_assoc, List.map_cons, List.map_nil, TX.out, ← hpre, LN.out, List.drop_length, lnsU_nil]; rfl, hJ3⟩
          case measure =>
            rw [ML.out, boxLen_eq (hx3.trans (KB.out.set _))]; omega
        · gi_wp2
          refine bodyPost_ret (results_none rfl _ _ _) rfl ?_
          exact ⟨⟨_, rfl⟩, .inr ⟨pre ++ [x], ⟨[], by rw [List.map_append, List.append_assoc, List.map_cons, List.map_nil, TX.out, ← hpre, LN.out]; rfl⟩, hJx3⟩⟩
      · rw [hix] at IX
        rw [hdl] at hk
        have LN := hide (show lnsU (L.drop i) = ((L.drop i).take k ++ [10]) :: lnsU (L.drop (i + (k + 1))) by
          conv => lhs; rw [heq]
          rw [lnsU_hit _ hno, List.drop_drop])
        obtain ⟨x, hX1, hX2, hTX⟩ : ∃ x : Ln L, x.1.1 = i ∧ x.1.2 = k + 1 ∧ x.tx = (L.drop i).take k ++ [10] := ⟨⟨(i, k + 1), by simp; omega⟩, rfl, rfl, by
          unfold Ln.tx
          show (L.drop i).take (k + 1) = _
          have h9 : ((L.drop i).take k).length = k := by rw [List.length_take]; omega
          conv => lhs; rw [heq]
          rw [List.take_append, h9, List.take_of_length_le (by omega)]
          simp⟩
        have YF := hide (fun W1 hJ1 => hY pre x W1 hJ1)
        rw [hX1, hX2] at YF
        have TX := hide hTX
        have KB := hide hB
        have KC := hide hcc
        have KJ := hide hJ
        clear hX1 hX2 hTX
        generalize hq : L.length - i = q at *
        have hle1 : k + 1 ≤ q := hk
        have hle2 : q ≤ cap - i := hq ▸ Nat.sub_le_sub_right hcap i
        have hle3 : k + 1 ≤ cap - i := Nat.le_trans hle1 hle2
        have hq0 : 0 < q := Nat.lt_of_le_of_lt (Nat.zero_le k) hk
        have hw := wrapk k (Nat.le_trans (Nat.le_of_lt hk) (Nat.le_trans (hq ▸ Nat.sub_le L.length i) (Nat.le_trans hL (by decide))))
        clear hcc hY hc hv hs hno heq hix hJ
        gi_wp2_with fail
        refine ⟨trivial, fun h => (by cases h), ?_⟩
        refine (callsIn_wide.2 IX.out).mono ?_
        clear IX
        rintro e w1 ⟨rfl, hw1⟩
        subst w1
        gi_wp2_with fail
        have q1 := fun d os => cell_regrown c0 d os
        generalize hcp : cap - i = cp at *
        have HQ := hide hq
        have HCP := hide hcp
        clear hq hcp
        have hi3 : (k : Int) + 1 ≤ (cp : Int) := by exact_mod_cast hle3
        have hi1 : (k : Int) + 1 ≤ (q : Int) := by exact_mod_cast hle1
        have hi2 : (q : Int) ≤ (cp : Int) := by exact_mod_cast hle2
        have hwI : IntKind.i64.wrap ((k : Int) + 1) = (k : Int) + 1 := wrapki k (Nat.le_trans (Nat.le_of_lt hk) (Nat.le_trans (HQ.out ▸ Nat.sub_le L.length i) (Nat.le_trans hL (by decide))))
        have htn : ((k : Int) + 1).toNat = k + 1 := rfl
        have hk1 : (0 : Int) ≤ (k : Int) + 1 := Int.natCast_nonneg (k + 1)
        have hk2 : ¬ ((k : Int) + 1 < 0) := Int.not_lt.2 hk1
        refine wpIn_region_tailW 9 (by kernel_rfl) (by kernel_rfl) ?_
        simp only [List.take_succ_cons, List.take_zero, List.drop_succ_cons, List.drop_zero]
        repeat (refine wpQuietIn_step (fun _ _ _ _ => trivial) (fun K hK => ?_); go_simp; first | (refine hK _ ?_; clear hK K) | (apply Exists.intro; refine ⟨fun _ => ?_, hK _ ?_⟩; (fail); clear hK K))
        refine wpQuietIn_nil ?_
        intro _ hw'
        obtain ⟨⟨dq, osq⟩, hw''⟩ := hw'
        subst hw''
        have B1 := hide (below_regrown wr dq osq)
        clear q1
        generalize Go.Sort.grow (redrawn wr dq) osq = wq at *
        have BX1 := hide (show Boxed wq bx 22 _ from (B1.out.block bx KB.out.lt).trans KB.out)
        have c1 := BX1.out.cell
        have f1 := BX1.out.frozen
        generalize hpp : (if cp = k + 1 then some (⟨b, off + i, none⟩ : Addr) else some ⟨b, off + i + (k + 1), none⟩) = pp
        have PP := hide hpp
        clear hpp
        have J1 := hJs pre wq (.slice pp (q - (k + 1)) (cp - (k + 1))) (hJg pre wr wq KJ.out ⟨B1.out.os, B1.out.tape, B1.out.output, B1.out.size, fun r hr _ => B1.out.block r hr⟩)
        obtain ⟨fn, tmps, assign, body, hy, hR⟩ := YF.out _ J1
        clear YF
        gi_wp2_with fail
        refine ⟨fun h => (by cases h), ?_⟩
        refine hR.mono ?_
        clear hR
        have KW := hide (((B1.out.mono (Nat.le_of_lt (Nat.lt_of_le_of_lt hbx KB.out.lt))).setCell (p := ⟨bx, 0, none⟩) hbx (.slice pp (q - (k + 1)) (cp - (k + 1)))))
        have NX := hide (BX1.out.set (.slice pp (q - (k + 1)) (cp - (k + 1))))
        rintro e W3 (⟨rfl, hJ3, hk3, hx3⟩ | ⟨rfl, hJx3⟩)
        · gi_wp2
          go_roundw
          case rel => exact ⟨i + (k + 1), pre ++ [x], .slice pp (q - (k + 1)) (cp - (k + 1)), SVn1 HQ.out hle1, hx3.trans NX.out, SVn HQ.out HCP.out hle1 hle2 PP.out, fun j hj => ((KW.out.trans hk3).cell (p := ⟨b, off + j, none⟩) hb).trans (KC.out j hj), by rw [List.map_append, List.append_assoc, List.map_cons, List.map_nil, TX.out, ← hpre, LN.out]; rfl, hJ3⟩
          case measure =>
            rw [ML.out, boxLen_eq (hx3.trans NX.out)]
            exact Nat.sub_lt hq0 (Nat.succ_pos k)
        · gi_wp2
          refine bodyPost_ret (results_none rfl _ _ _) rfl ?_
          exact ⟨⟨_, rfl⟩, .inr ⟨pre ++ [x], ⟨lnsU (L.drop (i + (k + 1))), by rw [List.map_append, List.append_assoc, List.map_cons, List.map_nil, TX.out, ← hpre, LN.out]; rfl⟩, hJx3⟩⟩
end Go.Proofs.YtbgngikejgihgadGreatDoor

namespace Go.Proofs.YtbgngikejgihgadGreatDoor
open Go Go.RowKit

set_option maxHeartbeats 1000000 in
theorem codeOf (msg : ByteArray) (n : Int) (w : World) (hg : w.cell? ⟨0, 0, none⟩ = some (.iface 112 (.agg #[.pointer (some ⟨9, 42, none⟩)]))) :
    Calls Tryz.prog 23 #[.iface 63 (.agg #[.string msg, .iface 61 (.int .i64 n)])] w fun e w' => e = .returned (.int .i64 n) ∧ Below w.heap.size w w' := by
  have hlt : 0 < w.heap.size := World.block_lt_of_cell? w _ hg
  have hgA : (w.alloc (.cells #[.int .i64 0] 61)).cell? ⟨0, 0, none⟩ = some (.iface 112 (.agg #[.pointer (some ⟨9, 42, none⟩)])) := by
    rw [World.cell?_alloc_lt _ _ ⟨0, 0, none⟩ hlt]; exact hg
  have htA : (w.alloc (.cells #[.int .i64 0] 61)).cell? ⟨w.heap.size, 0, none⟩ = some (.int .i64 0) := by simp
  have hfA : (w.alloc (.cells #[.int .i64 0] 61)).frozen? ⟨w.heap.size, 0, none⟩ = false := by simp
  have HA := hide (as_chain msg n ⟨w.heap.size, 0, none⟩ (.int .i64 0) (w.alloc (.cells #[.int .i64 0] 61)) hgA htA hfA)
  clear hgA htA hfA hg
  go_enter Tryz.func23, Tryz.ntmps23
  go_wp2_with fail
  refine HA.out.mono ?_
  rintro e w1 ⟨rfl, w0, hb, rfl⟩
  have hb0 : Below w.heap.size w w0 := ((Below.refl _ _).alloc (Nat.le_refl _) _).trans (hb.mono (by simp))
  have hb1 : Below w.heap.size w (w0.setCell ⟨w.heap.size, 0, none⟩ (.int .i64 n)) := hb0.setCell (Nat.le_refl _) _
  have hc0 : w0.cell? ⟨w.heap.size, 0, none⟩ = some (.int .i64 0) := by
    rw [hb.cell (p := ⟨w.heap.size, 0, none⟩) (by simp)]; simp
  have hc : (w0.setCell ⟨w.heap.size, 0, none⟩ (.int .i64 n)).cell? ⟨w.heap.size, 0, none⟩ = some (.int .i64 n) := World.cell?_setCell_same _ _ _ hc0
  have HB := hide hb1
  clear hb hb0 hb1 hc0
  generalize w0.setCell ⟨w.heap.size, 0, none⟩ (.int .i64 n) = w2 at *
  go_wp2
  go_ret
  exact ⟨rfl, HB.out⟩

end Go.Proofs.YtbgngikejgihgadGreatDoor

namespace Go.Proofs.YtbgngikejgihgadGreatDoor
open Go Go.Sort Go.RowKit
set_option linter.unusedVariables false

section
variable {F : Fence} {n : Nat} {P : Program} {ops : Array Oper} {md : Region.Mode} {C : World → Prop}

/-- The first s have come up, and what has come up has all behind which it stands. -/
def CloS (md : Region.Mode) (ops : Array Oper) (s : Nat) (listed : Array Bool) : Prop := Clo md ops listed ∧ ∀ i, i < s → listed.getD i false = true
theorem CloS.set {s : Nat} {listed : Array Bool} (h : CloS md ops s listed) {j : Nat} (hj : j ∈ Region.ready md ops listed) : CloS md ops s (listed.setIfInBounds j true) := ⟨h.1.set hj, fun i hi => getD_set_true (h.2 i hi)⟩
end

end Go.Proofs.YtbgngikejgihgadGreatDoor

namespace Go.Proofs.YtbgngikejgihgadGreatDoor
open Go Go.Sort Go.RowKit
set_option linter.unusedVariables false

section
variable {F : Fence} {n : Nat} {P : Program} {ops : Array Oper} {md : Region.Mode}

/-- These operations come up in this order, and none besides. -/
def seqI (md : Region.Mode) (ops : Array Oper) : List Nat → Array Bool → Bool
  | [], listed => (Region.ready md ops listed).isEmpty
  | k :: is, listed => (Region.ready md ops listed) == [k] && seqI md ops is (listed.setIfInBounds k true)

theorem wpAnyIn_of_idx {Q : Exit → Act → World → Prop} : ∀ (is : List Nat) (l : List Oper) (listed : Array Bool) (a : Act) (w : World), is.map (fun i => ops[i]?) = l.map some → seqI md ops is listed = true → wpListIn F n P ops Q l a w → wpAnyIn F n P md ops Q l.length listed a w
  | [], [], listed, a, w, _, hS, h => ⟨by simpa [seqI] using hS, h⟩
  | [], _ :: _, _, _, _, he, _, _ => by simp at he
  | _ :: _, [], _, _, _, he, _, _ => by simp at he
  | k :: is, o :: l, listed, a, w, he, hS, h => by
    simp only [List.map_cons, List.cons.injEq] at he
    have h0 : ops[k]? = some o := he.1
    simp only [seqI, Bool.and_eq_true, beq_iff_eq] at hS
    have ih := fun a w => wpAnyIn_of_idx (Q := Q) is l (listed.setIfInBounds k true) a w he.2 hS.2
    refine ⟨fun h1 => (by rw [hS.1] at h1; cases h1), fun i hi => ?_⟩
    rw [hS.1] at hi
    obtain rfl : i = k := by simpa using hi
    unfold wpOpIn
    unfold wpListIn at h
    simp only [h0]
    split at h
    · rename_i hw
      rw [if_pos hw]
      exact Oper.wpIn_mono (fun a w h => ih a w h) h
    · rename_i hw
      rw [if_neg hw]
      exact ⟨h.1, ih _ _ h.2⟩
end
end Go.Proofs.YtbgngikejgihgadGreatDoor

namespace Go.Proofs.YtbgngikejgihgadGreatDoor
open Go Go.Sort Go.RowKit
set_option linter.unusedVariables false

section
variable {F : Fence} {n : Nat} {P : Program} {ops : Array Oper} {md : Region.Mode} {Q : Exit → Act → World → Prop} {a : Act} {w : World}

theorem wpIn_then {o : Oper} {K : Act → World → Prop} (h : o.wpIn F n P a w K (Exit.then K Q)) : o.wpIn F n P a w K Q := by
  unfold Oper.wpIn at *
  refine ⟨h.1, ?_⟩
  have hh := h.2
  generalize (o.semAt F.round a.eval).run P w = r at *
  cases r with
  | ok x w' =>
    cases x <;> simp only [Oper.uponIn] at hh ⊢ <;>
      first
        | exact hh
        | exact ⟨hh.1, CallsIn.mono hh.2 (fun e w'' he => by cases e <;> exact he)⟩
        | exact ⟨hh.1, RoundIn.mono hh.2 (fun e w'' he => by cases e <;> exact he)⟩
  | halt x w' => cases x <;> simp only [Oper.uponIn] at hh ⊢ <;> exact hh
theorem wpOpIn_of_list {i : Nat} {o : Oper} {K : Act → World → Prop} (h0 : ops[i]? = some o) (h : wpListIn F n P ops (Exit.then K Q) [o] a w) : wpOpIn F n P ops Q i K a w := by
  unfold wpListIn at h
  unfold wpOpIn
  simp only [h0]
  split at h
  · rename_i hw
    rw [if_pos hw]
    exact wpIn_then (Oper.wpIn_mono (fun a w h => h) h)
  · rename_i hw
    rw [if_neg hw]
    exact h
/-- One of two operations comes up. -/
theorem wpAnyIn_pick {i j fuel : Nat} {oi oj : Oper} {listed : Array Bool} (hr : (Region.ready md ops listed == [i, j]) = true) (hi : ops[i]? = some oi) (hj : ops[j]? = some oj)
    (h1 : wpListIn F n P ops (Exit.then (wpAnyIn F n P md ops Q fuel (listed.setIfInBounds i true)) Q) [oi] a w) (h2 : wpListIn F n P ops (Exit.then (wpAnyIn F n P md ops Q fuel (listed.setIfInBounds j true)) Q) [oj] a w) : wpAnyIn F n P md ops Q (fuel + 1) listed a w := by
  have hr' : Region.ready md ops listed = [i, j] := by simpa using hr
  refine ⟨fun h => (by rw [hr'] at h; cases h), fun k hk => ?_⟩
  rw [hr'] at hk
  simp only [List.mem_cons, List.not_mem_nil, or_false] at hk
  rcases hk with rfl | rfl
  · exact wpOpIn_of_list hi h1
  · exact wpOpIn_of_list hj h2
end
end Go.Proofs.YtbgngikejgihgadGreatDoor
