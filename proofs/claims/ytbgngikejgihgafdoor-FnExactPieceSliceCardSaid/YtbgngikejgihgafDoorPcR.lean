import Derived.Test.YtbgngikejgihgafDoorPcC
import Derived.Test.YtbgngikejgihgafDoorPcV
import Derived.Test.YtbgngikejgihgafDoorTReadT
import Derived.Test.YtbgngikejgihgafDoorChkB
namespace Go.Proofs.YtbgngikejgihgafDoor
open Go Go.RowKit
set_option linter.unusedVariables false

/-- What readPieces answers. -/
def PReadPost (w : World) (b o : Nat) (zs : List Int) : Option AT → Ending → World → Prop
  | none, e, w' => (∃ msg, e = .returned (.tuple #[.pointer none, .iface 132 (.agg #[.string msg, .iface 130 (.int .i64 1)])])) ∧ Below w.heap.size w w'
  | some T, e, w' => ∃ c u bs, e = .returned (.tuple #[.pointer (some ⟨c, 0, none⟩), .nilIface]) ∧ w.heap.size ≤ c ∧ PK w' c b o zs.length zs.length u ∧ Lies w' w.heap.size T u bs ∧ bs.Nodup ∧ c ∉ bs ∧ T.ok ∧ Below w.heap.size w w'

def msgStore : ByteArray := ⟨#[114, 101, 97, 100, 105, 110, 103, 32, 97, 32, 115, 116, 111, 114, 101]⟩
def msgPieces : ByteArray := ⟨#[114, 101, 97, 100, 105, 110, 103, 32, 112, 105, 101, 99, 101, 115, 32, 111, 102, 32, 97, 32, 115, 116, 111, 114, 101]⟩

set_option maxHeartbeats 2000000 in
set_option maxRecDepth 100000 in
theorem readPiecesN (B : Nat) (zs : List Int) (b o cap : Nat) (v : Value) (xs : List It) (w : World) (hc : At32 w b o zs) (hb : b < w.heap.size) (hz : zs.length ≤ 1048576) (hcap : zs.length ≤ cap) (hm : cap ≤ maxLen) (hr : RdI B w v xs) (hB : B ≤ w.heap.size) (hn : xs.length ≤ 1048576) :
    Calls Tryd.prog 50 #[.agg #[.slice (some ⟨b, o, none⟩) zs.length cap, v]] w (PReadPost w b o zs (pRead zs xs)) := by
  obtain ⟨ao, cap', rfl⟩ := hr.val
  have HX := hide (show pRead zs xs = (match readT xs with | none => none | some T => if zs.length ≤ 220000 ∧ wps zs xs = true then some T else none) from rfl)
  generalize pRead zs xs = res at HX ⊢
  have HB0 := hide ((Below.refl w.heap.size w).alloc (Nat.le_refl _) (.cells #[.slice (some ⟨b, o, none⟩) zs.length cap, .slice ao xs.length cap'] 45))
  have HR0 := hide (hr.below HB0.out hB)
  have HC0 := hide (hc.below HB0.out hb)
  have hs0 : (w.alloc (.cells #[.slice (some ⟨b, o, none⟩) zs.length cap, .slice ao xs.length cap'] 45)).heap.size = w.heap.size + 1 := by simp
  have hk0 : (w.alloc (.cells #[.slice (some ⟨b, o, none⟩) zs.length cap, .slice ao xs.length cap'] 45)).heap[w.heap.size]? = some (.cells #[.slice (some ⟨b, o, none⟩) zs.length cap, .slice ao xs.length cap'] 45 (0, 0)) := heap_alloc_new _ _
  have HK0 := hide hk0
  have HT := hide (readTreeN B _ xs _ HR0.out (by omega) hn)
  have HKB := hide (fun w => boundsI (zs.length : Int) 0 220000 1 w)
  have c0 : (w.alloc (.cells #[.slice (some ⟨b, o, none⟩) zs.length cap, .slice ao xs.length cap'] 45)).cell? ⟨w.heap.size, 1, none⟩ = some (.slice ao xs.length cap') := by rw [cell_of_row _ _ 1 _ _ _ hk0]; rfl
  have HCL := hide (fun w => clip32N (some ⟨b, o, none⟩) zs.length cap w hcap hm)
  have hZ : (zs.length : Int) ≤ 1048576 := by omega
  generalize hN : xs.length = n at *
  clear hr hc hk0
  by_cases hbig : zs.length ≤ 220000
  · have hd : decide ((0 : Int) ≤ (zs.length : Int) ∧ (zs.length : Int) ≤ 220000) = true := by simp; omega
    rw [hd] at HKB
    simp only [errV, if_true] at HKB
    have HBG := hide hbig
    clear hd hbig
    go_enter Tryd.func50, Tryd.ntmps50
    go_wp2_with fail
    generalize w.alloc (.cells #[.slice (some ⟨b, o, none⟩) zs.length cap, .slice ao n cap'] 45) = w0 at *
    refine (HKB.out _).mono ?_
    rintro e wx ⟨rfl, hwx⟩
    subst hwx
    go_wp2_with fail
    refine HT.out.mono ?_
    clear HT
    cases hT : readT xs with
    | none =>
      rw [hT] at HX
      simp only at HX
      clear hT
      rintro e w1 ⟨⟨msg, rfl⟩, hb1⟩
      have HB1 := hide (HB0.out.trans (hb1.mono (by omega)))
      clear hb1
      go_wp2
      go_ret2
      rw [HX.out]
      exact ⟨⟨msg, rfl⟩, HB1.out⟩
    | some T =>
      rw [hT] at HX
      simp only at HX
      have hxs := (readT_some hT).2.2.1
      have HXS := hide hxs
      clear hT hxs
      rintro e w1 ⟨u, bs, rfl, hL, hnd, hok, hb1⟩
      have HB1 := hide (HB0.out.trans (hb1.mono (by omega)))
      have s1 := hb1.size
      have HC1 := hide (HC0.out.below hb1 (by omega))
      have HL1 := hide (hL.base (base' := w.heap.size) (by omega))
      have HND := hide hnd
      have HOK := hide hok
      have hk1 := (hb1.block w.heap.size (by omega)).trans HK0.out
      have c1 : w1.cell? ⟨w.heap.size, 0, none⟩ = some (.slice (some ⟨b, o, none⟩) zs.length cap) := by rw [cell_of_row w1 _ 0 _ _ _ hk1]; rfl
      have hlw : w.heap.size < w1.heap.size := by omega
      clear hb1 hL hnd hok HC0 HR0 hk1 c0
      go_wp2_with fail
      refine (HCL.out _).mono ?_
      rintro e wx ⟨rfl, hwx⟩
      subst hwx
      have HA := hide ((Below.refl wx.heap.size wx).alloc (Nat.le_refl _) (.cells #[.slice (some ⟨b, o, none⟩) zs.length zs.length, .pointer u] 145))
      have HP2 := hide (show PK (wx.alloc (.cells #[.slice (some ⟨b, o, none⟩) zs.length zs.length, .pointer u] 145)) wx.heap.size b o zs.length zs.length u from heap_alloc_new _ _)
      have HL2 := hide (HL1.out.below HA.out (Nat.le_refl _))
      have HC2 := hide (HC1.out.below HA.out (by omega))
      have HB2 := hide (HB1.out.trans (HA.out.mono (by omega)))
      have hs2 : (wx.alloc (.cells #[.slice (some ⟨b, o, none⟩) zs.length zs.length, .pointer u] 145)).heap.size = wx.heap.size + 1 := by simp
      have HCK := hide (checkPN zs T u bs w.heap.size wx.heap.size b o zs.length _ HC2.out (by omega) hz (Nat.le_refl _) (by unfold maxLen; omega) HL2.out HOK.out HP2.out)
      have HNC : Hid (wx.heap.size ∉ bs) := hide fun h => by have := (HL1.out.lt _ h).2; omega
      clear HL1 HC1 HCL
      go_wp2_with fail
      generalize wx.alloc (.cells #[.slice (some ⟨b, o, none⟩) zs.length zs.length, .pointer u] 145) = w2 at *
      refine HCK.out.mono ?_
      rintro e w3 ⟨rfl, hb3⟩
      have HB3 := hide (HB2.out.trans (hb3.mono (by omega)))
      have HP3 := hide (HP2.out.below hb3 (by omega))
      have HL3 := hide (HL2.out.below hb3 (Nat.le_refl _))
      rw [← HXS.out]
      clear hb3 HCK
      cases hw : wps zs xs with
      | true =>
        rw [hw, if_pos ⟨HBG.out, rfl⟩] at HX
        simp only [if_true]
        clear hw
        go_wp2_with fail
        go_ret2
        rw [HX.out]
        exact ⟨_, u, bs, rfl, by omega, HP3.out, HL3.out, HND.out, HNC.out, HOK.out, HB3.out⟩
      | false =>
        rw [hw, if_neg (by simp)] at HX
        simp only [Bool.false_eq_true, if_false]
        clear hw
        go_wp2_with fail
        go_ret2
        rw [HX.out]
        exact ⟨⟨msgPieces, rfl⟩, HB3.out⟩
  · have hd : decide ((0 : Int) ≤ (zs.length : Int) ∧ (zs.length : Int) ≤ 220000) = false := by simp; omega
    rw [hd] at HKB
    simp only [errV, Bool.false_eq_true, if_false] at HKB
    have HE := hide (show res = none by rw [HX.out]; cases readT xs with | none => rfl | some T => simp only; rw [if_neg (fun h => hbig h.1)])
    clear hd
    go_enter Tryd.func50, Tryd.ntmps50
    go_wp2_with fail
    generalize w.alloc (.cells #[.slice (some ⟨b, o, none⟩) zs.length cap, .slice ao n cap'] 45) = w0 at *
    refine (HKB.out _).mono ?_
    rintro e wx ⟨rfl, hwx⟩
    subst hwx
    go_wp2
    go_ret2
    rw [HE.out]
    exact ⟨⟨msgStore, rfl⟩, HB0.out⟩
end Go.Proofs.YtbgngikejgihgafDoor
