import Derived.Test.YtbgngikejgihgagGreatDoorMq48
import Derived.Test.YtbgngikejgihgagGreatDoorMq22
import Derived.Test.YtbgngikejgihgagGreatDoorMq23
namespace Go.Proofs.YtbgngikejgihgagGreatDoor
open Go Go.RowKit
set_option linter.unusedVariables false

theorem flat_tat {T : AT} {r : Nat} {y : It} (h : (T.told 0)[r]? = some y) : T.flat[r]? = some y.pc := by
  rw [← AT.flat_of T 0, List.getElem?_map, h]; rfl

set_option maxHeartbeats 1000000 in
/-- l4PieceDelete. -/
theorem delS (zs : List Int) (T : AT) (b o cap base : Nat) (at' : Option Addr) (ct : Nat) (lo hi : Int) (w : World) (hc : cells32 w b o zs) (hb : b < w.heap.size) (ho : OwI w base (.slice at' T.its ct) (T.told 0)) (hok : T.ok) (hbal : T.bal) (hw : T.wp zs) (h0 : 0 ≤ lo) (hlh : lo ≤ hi) (h1 : hi ≤ T.rns) (hs : zs.length ≤ 220000) :
    Calls Tryz.prog 90 #[.agg #[.slice (some ⟨b, o, none⟩) zs.length cap, .slice at' T.its ct], .int .i64 lo, .int .i64 hi] w (InsPost w zs ((if lo = hi then T else delP zs T lo hi).told 0)) := by
  have hlen := AT.told_length T 0
  have bd := hok.bd
  obtain ⟨hcp, hcm⟩ : T.its ≤ ct ∧ ct ≤ maxLen := by
    rcases ho.2 with ⟨h1, h2⟩ | ⟨g, cp, cur, h1, _, _, h2, h3, _⟩
    · simp only [Value.slice.injEq] at h1; exact ⟨by omega, by unfold maxLen; omega⟩
    · rw [hlen] at h1 h2; cases h1; exact ⟨h2, h3⟩
  have F := delF hok hbal hw hs h0 hlh h1
  have b2 := F.ok2.bd
  have b1 := F.ok1.bd
  have bJ := F.okJ.bd
  have bX := F.okX.bd
  have bY := F.okY.bd
  have bW := F.okW.bd
  have a2 := F.a2
  have z2 := F.z2
  have az := F.az
  have hwJ := (wp_flat zs _).1 F.wpJ
  have hzc : (((dlZ zs T lo hi - cutN T lo : Nat)) : Int) = (dlZ zs T lo hi : Int) - (cutN T lo : Int) := by omega
  have key : ∀ (r : Nat) (y1 y2 : It), cutN T lo = r + 1 → ((dlJ zs T lo hi).told 0)[r]? = some y1 → ((dlJ zs T lo hi).told 0)[r + 1]? = some y2 → ahead (dlJ zs T lo hi) (cutN T lo) = y1.pc ∧ atP (dlJ zs T lo hi) (cutN T lo) = y2.pc := by
    intro r y1 y2 hr e1 e2
    rw [hr, ahead, atP, Nat.add_sub_cancel, List.getD_eq_getElem?_getD, List.getD_eq_getElem?_getD, flat_tat e1, flat_tat e2]
    exact ⟨rfl, rfl⟩
  refine delSA zs (T.told 0) ((cutP zs T lo).told 0) ((dl2 zs T lo hi).told 0) ((dlX zs T lo hi).told 0) ((dlY zs T lo hi).told 0) ((dlW zs T lo hi).told 0) ((dlJ zs T lo hi).told 0) _ zs.length T.its (cutP zs T lo).its (dl2 zs T lo hi).its (dlJ zs T lo hi).its (cutN T lo) (dlZ zs T lo hi) b o cap at' ct lo hi w (hide rfl) (hide hlen) (hide (AT.told_length _ _)) hs (by omega) (by omega) (by omega) (by omega) az hcp hcm ⟨h0, by omega⟩ ⟨hlh, by omega⟩ (hide hc) hb (hide ?_) (hide ?_) (hide ?_) (hide ?_) (hide ?_) (hide ?_) (hide ?_) (hide ?_) (hide ?_) (hide ?_) (hide ?_) (hide ?_) (hide ?_) (hide ?_)
  · intro j y hy
    have hmem := List.mem_of_getElem? (flat_tat hy)
    have hk := F.okJ.1 _ hmem
    simp only [pcOk, decide_eq_true_eq] at hk
    have := (hwJ _ hmem).2.2.1
    omega
  · intro W hW
    have h9 := copyA (T.told 0) _ base W (OwI.below ho hW (Nat.le_refl _)) (by omega)
    rw [hlen] at h9; exact h9
  · intro W base' gs cs gi ci hcW hgs hcs hcsm hoW hbW
    exact cutS zs T lo gs 0 cs base' gi ci W hcW hgs hcs hcsm hs hok hbal hw h0 (by omega) hoW hbW
  · intro W base' gs cs gi ci hcW hgs hcs hcsm hoW hbW
    exact cutS zs (cutP zs T lo) hi gs 0 cs base' gi ci W hcW hgs hcs hcsm hs F.ok1 F.bal1 F.wp1 (by omega) (by rw [F.rn1]; exact h1) hoW hbW
  · intro W base' gi ci hoW
    have h9 := rankS W.heap.size _ ((dl2 zs T lo hi).told 0) lo W (OwI.rd hoW) (by rw [AT.told_length]; omega) (told_okp F.ok2)
    rw [F.ra] at h9; exact h9
  · intro W base' gi ci hoW
    have h9 := rankS W.heap.size _ ((dl2 zs T lo hi).told 0) hi W (OwI.rd hoW) (by rw [AT.told_length]; omega) (told_okp F.ok2)
    rw [F.rz] at h9; exact h9
  · intro W base' gi ci hoW
    exact splitS (dl2 zs T lo hi) (cutN T lo) _ base' W F.bal2 (by omega) a2 hoW
  · intro W base' v hoW
    have h9 := splitS (dlY zs T lo hi) (dlZ zs T lo hi - cutN T lo) v base' W F.balY (by omega) (by rw [F.yits]; omega) hoW
    rw [hzc] at h9
    refine h9.mono ?_
    rintro e w' ⟨x, y, rfl, _, hy, hb'⟩
    exact ⟨x, y, rfl, hy, hb'⟩
  · intro W base' v base'' v' hoW hoW'
    exact bothS (dlX zs T lo hi) (dlW zs T lo hi) base' base'' v v' W F.balX F.balW F.its hoW hoW'
  · intro W gs cs y1 y2 hcW hgs hcs hcsm hq hl1 hl2 hme hle
    exact specPieceI zs gs 0 cs y1.pc.off (y1.pc.len + y2.pc.len) W hcW hgs hq (by omega) (by omega) hcs hcsm (by omega)
  · intro hEq
    rw [if_pos hEq]
  · intro hNe hin
    rw [if_neg hNe, delP, healP, if_neg]
    simp only [healB, decide_eq_true_eq]
    exact fun h9 => hin h9.1
  · intro r y1 y2 hNe hr e1 e2 hme
    obtain ⟨k1, k2⟩ := key r y1 y2 hr e1 e2
    rw [if_neg hNe, delP, healP, if_neg]
    simp only [healB, decide_eq_true_eq, k1, k2]
    exact fun h9 => hme h9.2
  · intro r y1 y2 hNe hr hlt2 e1 e2 hme W base' g c hoW
    obtain ⟨k1, k2⟩ := key r y1 y2 hr e1 e2
    have hput := AT.put_told (dlJ zs T lo hi) r (pcAt zs y1.pc.off (y1.pc.len + y2.pc.len)) 0 y1 e1
    have hRES : delP zs T lo hi = ((dlJ zs T lo hi).put r (pcAt zs y1.pc.off (y1.pc.len + y2.pc.len))).rem (r + 1) := by
      rw [delP, healP, if_pos, k1, k2, hr, Nat.add_sub_cancel]
      simp only [healB, decide_eq_true_eq, k1, k2]
      exact ⟨by omega, hme⟩
    have hto : OwI W base' (.slice (some ⟨g, 0, none⟩) (dlJ zs T lo hi).its c) (((dlJ zs T lo hi).put r (pcAt zs y1.pc.off (y1.pc.len + y2.pc.len))).told 0) := by
      unfold OwI
      rw [AT.told_length, AT.put_its, hput]
      exact hoW
    have h9 := deleteS ((dlJ zs T lo hi).put r (pcAt zs y1.pc.off (y1.pc.len + y2.pc.len))) (r + 1) base' g c W (AT.put_bal _ _ _ F.balJ) (by rw [AT.put_its]; omega) (by rw [AT.put_its]; exact hlt2) (by rw [AT.put_its]; exact hto)
    rw [AT.put_its] at h9
    rw [if_neg hNe, hRES]
    exact h9

end Go.Proofs.YtbgngikejgihgagGreatDoor

namespace Go.Proofs.YtbgngikejgihgagGreatDoor
open Go Go.Sort Go.RowKit
set_option linter.unusedVariables false

section
variable {F : Fence} {n : Nat} {P : Program} {ops : Array Oper} {md : Region.Mode}

/-- These operations come up in this order, and none besides. -/
def seqI (md : Region.Mode) (ops : Array Oper) : List Nat → Array Bool → Bool
  | [], listed => (Region.ready md ops listed).isEmpty
  | k :: is, listed => (Region.ready md ops listed) == [k] && seqI md ops is (listed.setIfInBounds k true)

theorem wpAnyIn_of_idx {Q : Exit → Act → World → Prop} : ∀ (is : List Nat) (l : List Oper) (listed : Array Bool) (a : Act) (w : World), is.map (fun i => ops[i]?) = l.map some → seqI md ops is listed = true → wpListIn F n P ops Q l a w → wpAnyIn F n P md ops Q l.length listed a w
  | [], [], listed, a, w, _, hS, h => ⟨by simpa [seqI] using hS, h⟩
  | [], _ :: _, _, _, _, he, _, _ => by simp at he
  | _ :: _, [], _, _, _, he, _, _ => by simp at he
  | k :: is, o :: l, listed, a, w, he, hS, h => by
    simp only [List.map_cons, List.cons.injEq] at he
    have h0 : ops[k]? = some o := he.1
    simp only [seqI, Bool.and_eq_true, beq_iff_eq] at hS
    have ih := fun a w => wpAnyIn_of_idx (Q := Q) is l (listed.setIfInBounds k true) a w he.2 hS.2
    refine ⟨fun h1 => (by rw [hS.1] at h1; cases h1), fun i hi => ?_⟩
    rw [hS.1] at hi
    obtain rfl : i = k := by simpa using hi
    unfold wpOpIn
    unfold wpListIn at h
    simp only [h0]
    split at h
    · rename_i hw
      rw [if_pos hw]
      exact Oper.wpIn_mono (fun a w h => ih a w h) h
    · rename_i hw
      rw [if_neg hw]
      exact ⟨h.1, ih _ _ h.2⟩
end
end Go.Proofs.YtbgngikejgihgagGreatDoor

namespace Go.Proofs.YtbgngikejgihgagGreatDoor
open Go Go.Sort Go.RowKit
set_option linter.unusedVariables false

section
variable {F : Fence} {n : Nat} {P : Program} {ops : Array Oper} {md : Region.Mode}
theorem wpAnyIn_of_three {Q : Exit → Act → World → Prop} {i1 i2 i3 : Nat} {o1 o2 o3 : Oper} {listed : Array Bool} {a : Act} {w : World} (h1 : ops[i1]? = some o1) (h2 : ops[i2]? = some o2) (h3 : ops[i3]? = some o3) (hS : seqI md ops [i1, i2, i3] listed = true) (h : wpListIn F n P ops Q [o1, o2, o3] a w) : wpAnyIn F n P md ops Q 3 listed a w :=
  wpAnyIn_of_idx [i1, i2, i3] [o1, o2, o3] listed a w (by simp [h1, h2, h3]) hS h
theorem wpAnyIn_of_four {Q : Exit → Act → World → Prop} {i1 i2 i3 i4 : Nat} {o1 o2 o3 o4 : Oper} {listed : Array Bool} {a : Act} {w : World} (h1 : ops[i1]? = some o1) (h2 : ops[i2]? = some o2) (h3 : ops[i3]? = some o3) (h4 : ops[i4]? = some o4) (hS : seqI md ops [i1, i2, i3, i4] listed = true) (h : wpListIn F n P ops Q [o1, o2, o3, o4] a w) : wpAnyIn F n P md ops Q 4 listed a w :=
  wpAnyIn_of_idx [i1, i2, i3, i4] [o1, o2, o3, o4] listed a w (by simp [h1, h2, h3, h4]) hS h
theorem wpAnyIn_of_five {Q : Exit → Act → World → Prop} {i1 i2 i3 i4 i5 : Nat} {o1 o2 o3 o4 o5 : Oper} {listed : Array Bool} {a : Act} {w : World} (h1 : ops[i1]? = some o1) (h2 : ops[i2]? = some o2) (h3 : ops[i3]? = some o3) (h4 : ops[i4]? = some o4) (h5 : ops[i5]? = some o5) (hS : seqI md ops [i1, i2, i3, i4, i5] listed = true) (h : wpListIn F n P ops Q [o1, o2, o3, o4, o5] a w) : wpAnyIn F n P md ops Q 5 listed a w :=
  wpAnyIn_of_idx [i1, i2, i3, i4, i5] [o1, o2, o3, o4, o5] listed a w (by simp [h1, h2, h3, h4, h5]) hS h
end
end Go.Proofs.YtbgngikejgihgagGreatDoor
