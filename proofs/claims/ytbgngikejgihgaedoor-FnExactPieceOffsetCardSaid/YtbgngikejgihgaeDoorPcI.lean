import Derived.Test.YtbgngikejgihgaeDoorPcG
import Derived.Test.YtbgngikejgihgaeDoorCodeOf
import Derived.OwnWalk
namespace Go.Proofs.YtbgngikejgihgaeDoor
open Go Go.RowKit
set_option linter.unusedVariables false

set_option maxHeartbeats 1000000 in
theorem asNil (v : Value) (w : World) : Calls Tryd.prog 72 #[.nilIface, v] w fun e w' => e = .returned (.bool false) ∧ w' = w := by
  go_enter Tryd.func72, Tryd.ntmps72
  go_wp2
  go_ret
  exact ⟨rfl, rfl⟩
set_option maxHeartbeats 1000000 in
theorem codeNil (w : World) : Calls Tryd.prog 40 #[.nilIface] w fun e w' => e = .returned (.int .i64 0) ∧ Below w.heap.size w w' := by
  have HB := hide ((Below.refl w.heap.size w).alloc (Nat.le_refl _) (.cells #[.int .i64 0] 118))
  go_enter Tryd.func40, Tryd.ntmps40
  go_wp2_with fail
  refine (asNil _ _).mono ?_
  rintro e w1 ⟨rfl, hw1⟩
  have hw2 := hw1.symm
  subst hw2
  go_wp2
  go_ret
  exact ⟨rfl, HB.out⟩

theorem Tryd.mLength (c : Option Addr) (w : World) : (Go.method 365 71 (.pointer c) "loop.example/s01685/impl.length").run Tryd.prog w = .ok (163, .pointer c) w := by kernel_rfl
theorem Tryd.mLineCol (c : Option Addr) (w : World) : (Go.method 365 71 (.pointer c) "loop.example/s01685/impl.lineCol").run Tryd.prog w = .ok (164, .pointer c) w := by kernel_rfl

/-- What placeOf answers. -/
def PlacePost (w : World) (tx : List Int) (off : Int) (e : Ending) (w' : World) : Prop :=
  (if 0 ≤ off ∧ off ≤ tx.length then e = .returned (.tuple #[.int .i64 (lcL tx off.toNat), .int .i64 (lcC tx off.toNat), .nilIface])
   else ∃ msg, e = .returned (.tuple #[.int .i64 0, .int .i64 0, .iface 120 (.agg #[.string msg, .iface 118 (.int .i64 2)])])) ∧ Below w.heap.size w w'
def msgPlacing : ByteArray := ⟨#[112, 108, 97, 99, 105, 110, 103, 32, 97, 110, 32, 111, 102, 102, 115, 101, 116]⟩

set_option maxHeartbeats 1000000 in
set_option maxRecDepth 100000 in
theorem placeN (T : AT) (base c b o cap : Nat) (zs : List Int) (off : Int) (w : World) (h : PCore w base c b o cap zs T) :
    Calls Tryd.prog 41 #[.iface 71 (.pointer (some ⟨c, 0, none⟩)), .int .i64 off] w (PlacePost w (T.tx zs) off) := by
  have htl := AT.tx_len h.wp
  have bT := h.ok.bd
  have HL := hide (lengthN T base c b o cap zs w h)
  have HCL := hide (fun (k : Nat) hk W (hW : Below w.heap.size w W) => lineColN T base c b o cap zs k W (h.below hW (Nat.le_refl _)) hk)
  have mL := Tryd.mLength
  have mC := Tryd.mLineCol
  have HKB := hide (fun w => boundsI off 0 T.rns 2 w)
  have HLEN := hide htl
  generalize T.tx zs = tx at *
  clear h htl
  by_cases hoff : 0 ≤ off ∧ off ≤ T.rns
  · have hd : decide (0 ≤ off ∧ off ≤ T.rns) = true := by simpa using hoff
    rw [hd] at HKB
    simp only [errV, if_true] at HKB
    have HP := hide (show ∀ e w', PlacePost w tx off e w' = (e = .returned (.tuple #[.int .i64 (lcL tx off.toNat), .int .i64 (lcC tx off.toNat), .nilIface]) ∧ Below w.heap.size w w') from fun e w' => by unfold PlacePost; rw [if_pos ⟨hoff.1, by rw [HLEN.out]; exact hoff.2⟩])
    obtain ⟨k, rfl⟩ : ∃ k : Nat, off = k := ⟨off.toNat, by omega⟩
    have HC2 := hide (HCL.out k (by have := HLEN.out; omega))
    simp only [Int.toNat_natCast] at HP
    clear HCL hd
    go_enter Tryd.func41, Tryd.ntmps41
    go_wp2_with fail
    refine HL.out.mono ?_
    rintro e w1 ⟨rfl, hb1⟩
    have HB1 := hide hb1
    clear hb1
    go_wp2_with fail
    refine (HKB.out _).mono ?_
    rintro e wx ⟨rfl, hwx⟩
    have hw2 := hwx.symm
    subst hw2
    have HC3 := hide (HC2.out _ HB1.out)
    clear HC2
    go_wp2_with fail
    refine HC3.out.mono ?_
    rintro e w3 ⟨rfl, hb3⟩
    have HB3 := hide (HB1.out.trans (hb3.mono HB1.out.size))
    clear hb3 HC3
    generalize lcL tx k = x at *
    generalize lcC tx k = y at *
    go_wp2
    go_ret3
    rw [HP.out]
    exact ⟨rfl, HB3.out⟩
  · have hd : decide (0 ≤ off ∧ off ≤ T.rns) = false := by simpa using hoff
    rw [hd] at HKB
    simp only [errV, Bool.false_eq_true, if_false] at HKB
    have HP := hide (show ∀ e w', PlacePost w tx off e w' = ((∃ msg, e = .returned (.tuple #[.int .i64 0, .int .i64 0, .iface 120 (.agg #[.string msg, .iface 118 (.int .i64 2)])])) ∧ Below w.heap.size w w') from fun e w' => by unfold PlacePost; rw [if_neg (fun g => hoff ⟨g.1, by rw [← HLEN.out]; exact g.2⟩)])
    clear HCL hd hoff
    go_enter Tryd.func41, Tryd.ntmps41
    go_wp2_with fail
    refine HL.out.mono ?_
    rintro e w1 ⟨rfl, hb1⟩
    have HB1 := hide hb1
    clear hb1
    go_wp2_with fail
    refine (HKB.out _).mono ?_
    rintro e wx ⟨rfl, hwx⟩
    have hw2 := hwx.symm
    subst hw2
    go_wp2
    go_ret3
    rw [HP.out]
    exact ⟨⟨msgPlacing, rfl⟩, HB1.out⟩

/-- What PieceLineCol answers. -/
def lcOut (zs : List Int) (xs : List It) (off : Int) : Int × Int × Int :=
  match pRead zs xs with
  | none => (0, 0, 1)
  | some T => if 0 ≤ off ∧ off ≤ (T.tx zs).length then (lcL (T.tx zs) off.toNat, lcC (T.tx zs) off.toNat, 0) else (0, 0, 2)

set_option maxHeartbeats 1000000 in
set_option maxRecDepth 100000 in
theorem implLC (B : Nat) (zs : List Int) (b o cap : Nat) (v : Value) (xs : List It) (off : Int) (w : World) (hc : At32 w b o zs) (hb : b < w.heap.size) (hz : zs.length ≤ 1048576) (hcap : zs.length ≤ cap) (hm : cap ≤ maxLen) (hr : RdI B w v xs) (hB : B ≤ w.heap.size) (hn : xs.length ≤ 1048576) (hg : w.cell? ⟨0, 0, none⟩ = some (.iface 199 (.agg #[.pointer (some ⟨4, 73, none⟩)]))) :
    Calls Tryd.prog 11 #[.agg #[.slice (some ⟨b, o, none⟩) zs.length cap, v], .int .i64 off] w fun e w' => e = .returned (.tuple #[.int .i64 (lcOut zs xs off).1, .int .i64 (lcOut zs xs off).2.1, .int .i64 (lcOut zs xs off).2.2]) ∧ Below w.heap.size w w' := by
  obtain ⟨ao, cap', rfl⟩ := hr.val
  have hlt0 : 0 < w.heap.size := World.block_lt_of_cell? w _ hg
  have HX := hide (show lcOut zs xs off = (match pRead zs xs with | none => (0, 0, 1) | some T => if 0 ≤ off ∧ off ≤ (T.tx zs).length then (lcL (T.tx zs) off.toNat, lcC (T.tx zs) off.toNat, 0) else (0, 0, 2)) from rfl)
  generalize lcOut zs xs off = res at HX ⊢
  have HB0 := hide ((Below.refl w.heap.size w).alloc (Nat.le_refl _) (.cells #[.slice (some ⟨b, o, none⟩) zs.length cap, .slice ao xs.length cap'] 35))
  have HRP := hide (readPiecesN B zs b o cap _ xs _ (hc.below HB0.out hb) (by simp; omega) hz hcap hm (hr.below HB0.out hB) (by simp; omega) hn)
  have HC0 := hide (hc.below HB0.out hb)
  have hs0 : (w.alloc (.cells #[.slice (some ⟨b, o, none⟩) zs.length cap, .slice ao xs.length cap'] 35)).heap.size = w.heap.size + 1 := by simp
  have HG0 := hide ((HB0.out.cell (p := ⟨0, 0, none⟩) hlt0).trans hg)
  generalize hN : xs.length = n at *
  clear hr hc hg
  go_enter Tryd.func11, Tryd.ntmps11
  go_wp2_with fail
  generalize w.alloc (.cells #[.slice (some ⟨b, o, none⟩) zs.length cap, .slice ao n cap'] 35) = w0 at *
  refine HRP.out.mono ?_
  clear HRP
  cases hT : pRead zs xs with
  | none =>
    rw [hT] at HX
    simp only at HX
    clear hT
    rintro e w1 ⟨⟨msg, rfl⟩, hb1⟩
    have HB1 := hide (HB0.out.trans (hb1.mono (by omega)))
    have HG1 := hide ((hb1.cell (p := ⟨0, 0, none⟩) (by show 0 < w0.heap.size; omega)).trans HG0.out)
    clear hb1
    go_wp2_with fail
    refine (codeOf msg 1 w1 HG1.out).mono ?_
    rintro e w3 ⟨rfl, hb3⟩
    have HB3 := hide (HB1.out.trans (hb3.mono HB1.out.size))
    clear hb3
    go_wp2
    go_ret3
    rw [HX.out]
    exact ⟨rfl, HB3.out⟩
  | some T =>
    rw [hT] at HX
    simp only at HX
    have hps := pRead_some hT
    clear hT
    rintro e w1 ⟨c, u, bs, rfl, hcb, hpk, hL, hnd, hnc, hok, hb1⟩
    have s1 := hb1.size
    have HCO := hide (show PCore w1 w0.heap.size c b o zs.length zs T from ⟨⟨u, bs, hpk, hL⟩, HC0.out.below hb1 (by omega), by omega, hok, hps.2.2.1, ⟨hz, Nat.le_refl _, by unfold maxLen; omega⟩⟩)
    have HPN := hide (placeN T w0.heap.size c b o zs.length zs off w1 HCO.out)
    have HB1 := hide (HB0.out.trans (hb1.mono (by omega)))
    have HG1 := hide ((hb1.cell (p := ⟨0, 0, none⟩) (by show 0 < w0.heap.size; omega)).trans HG0.out)
    clear hb1 hpk hL hnd hnc hok hps HCO HC0
    generalize T.tx zs = tx at *
    go_wp2_with fail
    refine HPN.out.mono ?_
    clear HPN
    by_cases hoff : 0 ≤ off ∧ off ≤ (tx.length : Int)
    · rw [if_pos hoff] at HX
      rintro e w2 ⟨he, hb2⟩
      rw [if_pos hoff] at he
      subst he
      have HB2 := hide (HB1.out.trans (hb2.mono HB1.out.size))
      clear hb2
      generalize lcL tx off.toNat = x at *
      generalize lcC tx off.toNat = y at *
      go_wp2_with fail
      refine (codeNil _).mono ?_
      rintro e w3 ⟨rfl, hb3⟩
      have HB3 := hide (HB2.out.trans (hb3.mono HB2.out.size))
      clear hb3
      go_wp2
      go_ret3
      rw [HX.out]
      exact ⟨rfl, HB3.out⟩
    · rw [if_neg hoff] at HX
      rintro e w2 ⟨he, hb2⟩
      rw [if_neg hoff] at he
      obtain ⟨msg, he⟩ := he
      subst he
      have HB2 := hide (HB1.out.trans (hb2.mono HB1.out.size))
      have HG2 := hide ((hb2.cell (p := ⟨0, 0, none⟩) (by show 0 < w1.heap.size; omega)).trans HG1.out)
      clear hb2
      go_wp2_with fail
      refine (codeOf msg 2 _ HG2.out).mono ?_
      rintro e w3 ⟨rfl, hb3⟩
      have HB3 := hide (HB2.out.trans (hb3.mono HB2.out.size))
      clear hb3
      go_wp2
      go_ret3
      rw [HX.out]
      exact ⟨rfl, HB3.out⟩
end Go.Proofs.YtbgngikejgihgaeDoor
