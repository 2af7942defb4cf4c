import Derived.Test.YtbgngikejgihgagGreatDoorMq27
import Derived.Test.YtbgngikejgihgagGreatDoorMq05
import Derived.Deep.QuietTactic
import Derived.BigQuiet
import Derived.Test.YtbgngikejgihgagGreatDoorMq14
import Derived.Laws.AppendOwnNone
namespace Go.Proofs.YtbgngikejgihgagGreatDoor
open Go Go.RowKit
set_option linter.unusedVariables false

set_option maxHeartbeats 1000000 in
theorem breaksN (T : AT) (base c b o cap : Nat) (zs : List Int) (w : World) (h : PCore w base c b o cap zs T) :
    Calls Tryz.prog 374 #[.pointer (some ⟨c, 0, none⟩)] w fun e w' => e = .returned (.int .i64 T.bks) ∧ Below w.heap.size w w' := by
  obtain ⟨⟨u, bs, h1, h2⟩, _⟩ := h
  have c1 := h1.c1
  have HA := hide (allN T u bs base w h2)
  clear h1 h2
  go_enter Tryz.func374, Tryz.ntmps374
  go_wp2_with fail
  refine HA.out.mono ?_
  rintro e w1 ⟨rfl, hb1⟩
  have HB1 := hide hb1
  have fl1 := Tryz.fld2
  unfold cnt
  clear hb1
  go_wp2
  go_ret
  exact ⟨rfl, HB1.out⟩

set_option maxHeartbeats 1000000 in
set_option maxRecDepth 100000 in
theorem lineLengthN (T : AT) (base c b o cap : Nat) (zs : List Int) (l : Nat) (w : World) (h : PCore w base c b o cap zs T) (hl : l ≤ bkn (T.tx zs)) :
    Calls Tryz.prog 378 #[.pointer (some ⟨c, 0, none⟩), .int .i64 (l : Int)] w fun e w' => e = .returned (.int .i64 (((le (T.tx zs) l : Nat) : Int) - (ls (T.tx zs) l : Nat))) ∧ Below w.heap.size w w' := by
  have hbb := AT.tx_brk h.wp
  rw [brk_bkn] at hbb
  have htl := AT.tx_len h.wp
  have bT := h.ok.bd
  have HL := hide (lengthN T base c b o cap zs w h)
  have HBK := hide (fun W (hW : Below w.heap.size w W) => breaksN T base c b o cap zs W (h.below hW (Nat.le_refl _)))
  have HLS := hide (fun (k : Nat) hk W (hW : Below w.heap.size w W) => lineStartN T base c b o cap zs k W (h.below hW (Nat.le_refl _)) hk)
  have hls := ls_le (T.tx zs) l
  clear h
  by_cases hlt : l < bkn (T.tx zs)
  · have hle : le (T.tx zs) l = bb (T.tx zs) l - 1 := by unfold le; rw [if_pos hlt]
    have hb1 := bb_pos (T.tx zs) l hlt
    have hb2 := bb_le (T.tx zs) l
    rw [hle]
    have HS1 := hide (HLS.out (l + 1) (by omega))
    rw [ls_succ] at HS1
    have HS2 := hide (HLS.out l hl)
    have hlt' : (l : Int) < T.bks := by omega
    generalize bb (T.tx zs) l = R at *
    generalize ls (T.tx zs) l = S at *
    have HE := hide (show ((R - 1 : Nat) : Int) - (S : Int) = (R : Int) - 1 - (S : Int) by omega)
    have HE1 := hide (show (((l + 1 : Nat) : Int)) = (l : Int) + 1 by omega)
    rw [HE1.out] at HS1
    rw [HE.out]
    have hRS : R ≤ 8192 ∧ S ≤ 8192 := by omega
    clear hle hls HLS hbb htl
    go_enter Tryz.func378, Tryz.ntmps378
    go_wp2_with fail
    refine HL.out.mono ?_
    rintro e w1 ⟨rfl, h1⟩
    have B1 := hide h1
    clear h1
    go_wp2_with fail
    refine (HBK.out _ B1.out).mono ?_
    rintro e w2 ⟨rfl, h2⟩
    have B2 := hide (B1.out.trans (h2.mono B1.out.size))
    clear h2
    go_wp2_with fail
    refine (HS1.out _ B2.out).mono ?_
    rintro e w3 ⟨rfl, h3⟩
    have B3 := hide (B2.out.trans (h3.mono B2.out.size))
    clear h3
    go_wp2_with fail
    refine (HS2.out _ B3.out).mono ?_
    rintro e w4 ⟨rfl, h4⟩
    have B4 := hide (B3.out.trans (h4.mono B3.out.size))
    clear h4
    go_wp2
    go_ret
    exact ⟨rfl, B4.out⟩
  · have hle : le (T.tx zs) l = (T.tx zs).length := by unfold le; rw [if_neg hlt]
    rw [hle]
    have HS2 := hide (HLS.out l hl)
    have hlt' : ¬ (l : Int) < T.bks := by omega
    generalize ls (T.tx zs) l = S at *
    rw [htl]
    have hRS : S ≤ 8192 := by omega
    clear hle hls HLS hbb htl
    go_enter Tryz.func378, Tryz.ntmps378
    go_wp2_with fail
    refine HL.out.mono ?_
    rintro e w1 ⟨rfl, h1⟩
    have B1 := hide h1
    clear h1
    go_wp2_with fail
    refine (HBK.out _ B1.out).mono ?_
    rintro e w2 ⟨rfl, h2⟩
    have B2 := hide (B1.out.trans (h2.mono B1.out.size))
    clear h2
    go_wp2_with fail
    refine (HS2.out _ B2.out).mono ?_
    rintro e w4 ⟨rfl, h4⟩
    have B4 := hide (B2.out.trans (h4.mono B2.out.size))
    clear h4
    go_wp2
    go_ret
    exact ⟨rfl, B4.out⟩

set_option maxHeartbeats 1000000 in
theorem offsetN (T : AT) (base c b o cap : Nat) (zs : List Int) (l : Nat) (col : Int) (w : World) (h : PCore w base c b o cap zs T) (hl : l ≤ bkn (T.tx zs)) (hc : 0 ≤ col ∧ col ≤ 8192) :
    Calls Tryz.prog 380 #[.pointer (some ⟨c, 0, none⟩), .int .i64 (l : Int), .int .i64 col] w fun e w' => e = .returned (.int .i64 (((ls (T.tx zs) l : Nat) : Int) + col)) ∧ Below w.heap.size w w' := by
  have htl := AT.tx_len h.wp
  have bT := h.ok.bd
  have HS2 := hide (lineStartN T base c b o cap zs l w h hl)
  have hls := ls_le (T.tx zs) l
  have hS : ls (T.tx zs) l ≤ 8192 := by omega
  generalize ls (T.tx zs) l = S at *
  clear h htl hls
  go_enter Tryz.func380, Tryz.ntmps380
  go_wp2_with fail
  refine HS2.out.mono ?_
  rintro e w1 ⟨rfl, h1⟩
  have B1 := hide h1
  clear h1
  go_wp2
  go_ret
  exact ⟨rfl, B1.out⟩

theorem Tryz.mBreaks (c : Option Addr) (w : World) : (Go.method 605 130 (.pointer c) "loop.example/s01685/impl.breaks").run Tryz.prog w = .ok (374, .pointer c) w := by kernel_rfl
theorem Tryz.mLineLength (c : Option Addr) (w : World) : (Go.method 605 130 (.pointer c) "loop.example/s01685/impl.lineLength").run Tryz.prog w = .ok (378, .pointer c) w := by kernel_rfl
theorem Tryz.mOffset (c : Option Addr) (w : World) : (Go.method 605 130 (.pointer c) "loop.example/s01685/impl.offset").run Tryz.prog w = .ok (380, .pointer c) w := by kernel_rfl

/-- What offsetOf answers. -/
def OffPost (w : World) (tx : List Int) (line col : Int) (e : Ending) (w' : World) : Prop :=
  (if 0 ≤ offL tx line col then e = .returned (.tuple #[.int .i64 (offL tx line col), .nilIface])
   else ∃ msg, e = .returned (.tuple #[.int .i64 0, .iface 172 (.agg #[.string msg, .iface 181 (.int .i64 3)])])) ∧ Below w.heap.size w w'
def msgFinding : ByteArray := ⟨#[102, 105, 110, 100, 105, 110, 103, 32, 97, 32, 112, 108, 97, 99, 101]⟩

theorem OffPost.bad {w : World} {tx : List Int} {line col : Int} {w' : World} {msg : ByteArray} (h : ¬ (0 ≤ line ∧ line ≤ brk tx ∧ 0 ≤ col ∧ (ls tx line.toNat : Int) + col ≤ (le tx line.toNat : Nat))) (hb : Below w.heap.size w w') : OffPost w tx line col (.returned (.tuple #[.int .i64 0, .iface 172 (.agg #[.string msg, .iface 181 (.int .i64 3)])])) w' := by
  have e : offL tx line col = -1 := by unfold offL; rw [if_neg h]
  unfold OffPost
  rw [e, if_neg (by omega)]
  exact ⟨⟨_, rfl⟩, hb⟩
theorem OffPost.good {w : World} {tx : List Int} {l : Nat} {col : Int} {w' : World} (h1 : (l : Int) ≤ brk tx) (h2 : 0 ≤ col) (h3 : (ls tx l : Int) + col ≤ (le tx l : Nat)) (hb : Below w.heap.size w w') : OffPost w tx l col (.returned (.tuple #[.int .i64 (((ls tx l : Nat) : Int) + col), .nilIface])) w' := by
  have e : offL tx l col = ((ls tx l : Nat) : Int) + col := by unfold offL; rw [Int.toNat_natCast, if_pos ⟨by omega, h1, h2, h3⟩]
  unfold OffPost
  rw [e, if_pos (by omega)]
  exact ⟨rfl, hb⟩

set_option maxHeartbeats 2000000 in
set_option maxRecDepth 100000 in
theorem offsetOfN (T : AT) (base c b o cap : Nat) (zs : List Int) (line col : Int) (w : World) (h : PCore w base c b o cap zs T) :
    Calls Tryz.prog 99 #[.iface 130 (.pointer (some ⟨c, 0, none⟩)), .int .i64 line, .int .i64 col] w (OffPost w (T.tx zs) line col) := by
  have hbb := AT.tx_brk h.wp
  have htl := AT.tx_len h.wp
  have bT := h.ok.bd
  have mB := Tryz.mBreaks
  have mL := Tryz.mLineLength
  have mO := Tryz.mOffset
  have HBK := hide (breaksN T base c b o cap zs w h)
  have HKB := hide (fun w => boundsI line 0 T.bks 3 w)
  by_cases hline : 0 ≤ line ∧ line ≤ T.bks
  · have hd : decide (0 ≤ line ∧ line ≤ T.bks) = true := by simpa using hline
    rw [hd] at HKB
    simp only [errV, if_true] at HKB
    obtain ⟨l, rfl⟩ : ∃ l : Nat, line = l := ⟨line.toNat, by omega⟩
    have hlb : l ≤ bkn (T.tx zs) := by rw [brk_bkn] at hbb; omega
    have HLL := hide (fun W (hW : Below w.heap.size w W) => lineLengthN T base c b o cap zs l W (h.below hW (Nat.le_refl _)) hlb)
    have HOF := hide (fun hc W (hW : Below w.heap.size w W) => offsetN T base c b o cap zs l col W (h.below hW (Nat.le_refl _)) hlb hc)
    have hle : le (T.tx zs) l ≤ (T.tx zs).length := by
      unfold le; split
      · have := bb_le (T.tx zs) l; omega
      · exact Nat.le_refl _
    have HKC := hide (fun w => boundsI col 0 (((le (T.tx zs) l : Nat) : Int) - (ls (T.tx zs) l : Nat)) 3 w)
    have HG := hide (fun h2 h3 W (hb : Below w.heap.size w W) => OffPost.good (tx := T.tx zs) (l := l) (col := col) (by rw [hbb]; exact hline.2) h2 h3 hb)
    have HBD := hide (fun (h2 : ¬ (0 ≤ col ∧ (ls (T.tx zs) l : Int) + col ≤ (le (T.tx zs) l : Nat))) W (hb : Below w.heap.size w W) => OffPost.bad (tx := T.tx zs) (line := (l : Int)) (col := col) (msg := msgFinding) (fun g => h2 ⟨g.2.2.1, by have := g.2.2.2; rw [Int.toNat_natCast] at this; exact this⟩) hb)
    clear h hd hlb
    by_cases hcol : 0 ≤ col ∧ col ≤ (((le (T.tx zs) l : Nat) : Int) - (ls (T.tx zs) l : Nat))
    · have hd : decide (0 ≤ col ∧ col ≤ (((le (T.tx zs) l : Nat) : Int) - (ls (T.tx zs) l : Nat))) = true := by simpa using hcol
      rw [hd] at HKC
      simp only [errV, if_true] at HKC
      have HO2 := hide (HOF.out ⟨hcol.1, by omega⟩)
      have HG2 := hide (HG.out hcol.1 (by omega))
      clear hd HG HOF HBD hcol hle hbb htl
      generalize OffPost w (T.tx zs) (l : Int) col = PO at *
      generalize ls (T.tx zs) l = S at *
      generalize le (T.tx zs) l = E at *
      go_enter Tryz.func99, Tryz.ntmps99
      go_wp2_with fail
      refine HBK.out.mono ?_
      rintro e w1 ⟨rfl, h1⟩
      have B1 := hide h1
      clear h1
      go_wp2_with fail
      refine (HKB.out _).mono ?_
      rintro e wx ⟨rfl, hwx⟩
      have hw2 := hwx.symm
      subst hw2
      go_wp2_with fail
      refine (HLL.out _ B1.out).mono ?_
      rintro e w2 ⟨rfl, h2⟩
      have B2 := hide (B1.out.trans (h2.mono B1.out.size))
      clear h2
      go_wp2_with fail
      refine (HKC.out _).mono ?_
      rintro e wy ⟨rfl, hwy⟩
      have hw3 := hwy.symm
      subst hw3
      go_wp2_with fail
      refine (HO2.out _ B2.out).mono ?_
      rintro e w3 ⟨rfl, h3⟩
      have B3 := hide (B2.out.trans (h3.mono B2.out.size))
      clear h3
      go_wp2
      exact HG2.out _ B3.out
    · have hd : decide (0 ≤ col ∧ col ≤ (((le (T.tx zs) l : Nat) : Int) - (ls (T.tx zs) l : Nat))) = false := by simpa using hcol
      rw [hd] at HKC
      simp only [errV, Bool.false_eq_true, if_false] at HKC
      have HB2 := hide (HBD.out (fun g => hcol ⟨g.1, by omega⟩))
      clear hd HG HOF HBD hcol hle hbb htl
      generalize OffPost w (T.tx zs) (l : Int) col = PO at *
      generalize ls (T.tx zs) l = S at *
      generalize le (T.tx zs) l = E at *
      go_enter Tryz.func99, Tryz.ntmps99
      go_wp2_with fail
      refine HBK.out.mono ?_
      rintro e w1 ⟨rfl, h1⟩
      have B1 := hide h1
      clear h1
      go_wp2_with fail
      refine (HKB.out _).mono ?_
      rintro e wx ⟨rfl, hwx⟩
      have hw2 := hwx.symm
      subst hw2
      go_wp2_with fail
      refine (HLL.out _ B1.out).mono ?_
      rintro e w2 ⟨rfl, h2⟩
      have B2 := hide (B1.out.trans (h2.mono B1.out.size))
      clear h2
      go_wp2_with fail
      refine (HKC.out _).mono ?_
      rintro e wy ⟨rfl, hwy⟩
      have hw3 := hwy.symm
      subst hw3
      go_wp2
      exact HB2.out _ B2.out
  · have hd : decide (0 ≤ line ∧ line ≤ T.bks) = false := by simpa using hline
    rw [hd] at HKB
    simp only [errV, Bool.false_eq_true, if_false] at HKB
    have HB2 := hide (fun W (hb : Below w.heap.size w W) => OffPost.bad (tx := T.tx zs) (line := line) (col := col) (msg := msgFinding) (fun g => hline ⟨g.1, by rw [← hbb]; exact g.2.1⟩) hb)
    clear h hd hbb htl hline
    generalize OffPost w (T.tx zs) line col = PO at *
    go_enter Tryz.func99, Tryz.ntmps99
    go_wp2_with fail
    refine HBK.out.mono ?_
    rintro e w1 ⟨rfl, h1⟩
    have B1 := hide h1
    clear h1
    go_wp2_with fail
    refine (HKB.out _).mono ?_
    rintro e wx ⟨rfl, hwx⟩
    have hw2 := hwx.symm
    subst hw2
    go_wp2
    exact HB2.out _ B1.out
end Go.Proofs.YtbgngikejgihgagGreatDoor

namespace Go.Proofs.YtbgngikejgihgagGreatDoor
open Go Go.RowKit
set_option linter.unusedVariables false

/-- What PieceOffset answers. -/
def poOut (zs : List Int) (xs : List It) (line col : Int) : Int × Int :=
  match pRead zs xs with
  | none => (0, 1)
  | some T => if 0 ≤ offL (T.tx zs) line col then (offL (T.tx zs) line col, 0) else (0, 3)

set_option maxHeartbeats 1000000 in
set_option maxRecDepth 100000 in
theorem implPO (B : Nat) (zs : List Int) (b o cap : Nat) (v : Value) (xs : List It) (line col : Int) (w : World) (hc : At32 w b o zs) (hb : b < w.heap.size) (hz : zs.length ≤ 1048576) (hcap : zs.length ≤ cap) (hm : cap ≤ maxLen) (hr : RdI B w v xs) (hB : B ≤ w.heap.size) (hn : xs.length ≤ 1048576) (hg : w.cell? ⟨0, 0, none⟩ = some (.iface 307 (.agg #[.pointer (some ⟨2, 100, none⟩)]))) :
    Calls Tryz.prog 45 #[.agg #[.slice (some ⟨b, o, none⟩) zs.length cap, v], .int .i64 line, .int .i64 col] w fun e w' => e = .returned (.tuple #[.int .i64 (poOut zs xs line col).1, .int .i64 (poOut zs xs line col).2]) ∧ Below w.heap.size w w' := by
  obtain ⟨ao, cap', rfl⟩ := hr.val
  have hlt0 : 0 < w.heap.size := World.block_lt_of_cell? w _ hg
  have HX := hide (show poOut zs xs line col = (match pRead zs xs with | none => (0, 1) | some T => if 0 ≤ offL (T.tx zs) line col then (offL (T.tx zs) line col, 0) else (0, 3)) from rfl)
  generalize poOut zs xs line col = res at HX ⊢
  have HB0 := hide ((Below.refl w.heap.size w).alloc (Nat.le_refl _) (.cells #[.slice (some ⟨b, o, none⟩) zs.length cap, .slice ao xs.length cap'] 69))
  have HRP := hide (readPiecesN B zs b o cap _ xs _ (hc.below HB0.out hb) (by simp; omega) hz hcap hm (hr.below HB0.out hB) (by simp; omega) hn)
  have HC0 := hide (hc.below HB0.out hb)
  have hs0 : (w.alloc (.cells #[.slice (some ⟨b, o, none⟩) zs.length cap, .slice ao xs.length cap'] 69)).heap.size = w.heap.size + 1 := by simp
  have HG0 := hide ((HB0.out.cell (p := ⟨0, 0, none⟩) hlt0).trans hg)
  generalize hN : xs.length = n at *
  clear hr hc hg
  go_enter Tryz.func45, Tryz.ntmps45
  go_wp2_with fail
  generalize w.alloc (.cells #[.slice (some ⟨b, o, none⟩) zs.length cap, .slice ao n cap'] 69) = w0 at *
  refine HRP.out.mono ?_
  clear HRP
  cases hT : pRead zs xs with
  | none =>
    rw [hT] at HX
    simp only at HX
    clear hT
    rintro e w1 ⟨⟨msg, rfl⟩, hb1⟩
    have HB1 := hide (HB0.out.trans (hb1.mono (by omega)))
    have HG1 := hide ((hb1.cell (p := ⟨0, 0, none⟩) (by show 0 < w0.heap.size; omega)).trans HG0.out)
    clear hb1
    go_wp2_with fail
    refine (codeOf msg 1 w1 HG1.out).mono ?_
    rintro e w3 ⟨rfl, hb3⟩
    have HB3 := hide (HB1.out.trans (hb3.mono HB1.out.size))
    clear hb3
    go_wp2
    go_ret2
    rw [HX.out]
    exact ⟨rfl, HB3.out⟩
  | some T =>
    rw [hT] at HX
    simp only at HX
    have hps := pRead_some hT
    clear hT
    rintro e w1 ⟨c, u, bs, rfl, hcb, hpk, hL, hnd, hnc, hok, hb1⟩
    have s1 := hb1.size
    have HCO := hide (show PCore w1 w0.heap.size c b o zs.length zs T from ⟨⟨u, bs, hpk, hL⟩, HC0.out.below hb1 (by omega), by omega, hok, hps.2.2.1, ⟨hz, Nat.le_refl _, by unfold maxLen; omega⟩⟩)
    have HPN := hide (offsetOfN T w0.heap.size c b o zs.length zs line col w1 HCO.out)
    have HB1 := hide (HB0.out.trans (hb1.mono (by omega)))
    have HG1 := hide ((hb1.cell (p := ⟨0, 0, none⟩) (by show 0 < w0.heap.size; omega)).trans HG0.out)
    clear hb1 hpk hL hnd hnc hok hps HCO HC0
    unfold OffPost at HPN
    generalize offL (T.tx zs) line col = z at *
    go_wp2_with fail
    refine HPN.out.mono ?_
    clear HPN
    by_cases hoff : 0 ≤ z
    · rw [if_pos hoff] at HX
      rintro e w2 ⟨he, hb2⟩
      rw [if_pos hoff] at he
      subst he
      have HB2 := hide (HB1.out.trans (hb2.mono HB1.out.size))
      clear hb2
      go_wp2_with fail
      refine (codeNil _).mono ?_
      rintro e w3 ⟨rfl, hb3⟩
      have HB3 := hide (HB2.out.trans (hb3.mono HB2.out.size))
      clear hb3
      go_wp2
      go_ret2
      rw [HX.out]
      exact ⟨rfl, HB3.out⟩
    · rw [if_neg hoff] at HX
      rintro e w2 ⟨he, hb2⟩
      rw [if_neg hoff] at he
      obtain ⟨msg, he⟩ := he
      subst he
      have HB2 := hide (HB1.out.trans (hb2.mono HB1.out.size))
      have HG2 := hide ((hb2.cell (p := ⟨0, 0, none⟩) (by show 0 < w1.heap.size; omega)).trans HG1.out)
      clear hb2
      go_wp2_with fail
      refine (codeOf msg 3 _ HG2.out).mono ?_
      rintro e w3 ⟨rfl, hb3⟩
      have HB3 := hide (HB2.out.trans (hb3.mono HB2.out.size))
      clear hb3
      go_wp2
      go_ret2
      rw [HX.out]
      exact ⟨rfl, HB3.out⟩

end Go.Proofs.YtbgngikejgihgagGreatDoor

namespace Go.Proofs.YtbgngikejgihgagGreatDoor
open Go Go.RowKit
set_option linter.unusedVariables false

set_option maxHeartbeats 400000 in
theorem cpTextN (zs : List Int) (b o cap : Nat) (w : World) (h : At32 w b o zs) (hb : b < w.heap.size) (hn : zs.length ≤ 1048576) :
    Calls Tryz.prog 37 #[.slice (some ⟨b, o, none⟩) zs.length cap] w fun e w' => ∃ b cap, e = .returned (.slice (some ⟨b, 0, none⟩) zs.length cap) ∧ own32 w' w.heap.size (.slice (some ⟨b, 0, none⟩) zs.length cap) zs ∧ Below w.heap.size w w' := by
  obtain ⟨i0, hi, hz0, hz1, hz2⟩ := info_parts Tryz.info32T
  have HO0 := hide (show (w.alloc (.cells #[] 21)).ownsRow w.heap.size 21 1 (.slice (some ⟨w.heap.size, 0, none⟩) 0 0) 0 [] from World.ownsRow_made w #[] 0 (Nat.le_refl _) (Nat.zero_le _) rfl)
  have HB0 := hide ((Below.refl w.heap.size w).alloc (Nat.le_refl _) (.cells #[] 21))
  have HC := hide (by have h9 := (h.below HB0.out hb).app 0 zs.length (by omega); simpa using h9 : ∀ j u, (ints .i32 zs)[j]? = some u → (w.alloc (.cells #[] 21)).cell? ((⟨b, o, none⟩ : Addr).add j) = some u)
  go_enter Tryz.func37, Tryz.ntmps37
  go_wp2_with (at_builtin; refine wpList_append_own _ rfl _ _ 36 rfl w.heap.size 21 i0 (.int .i32 0) 1 4 Tryz.underlying36 hi hz0 hz1 hz2 rfl (by decide) _ _ _ rfl HO0.out ⟨b, o, none⟩ zs.length cap (ints .i32 zs) rfl (by rw [ints_length, Nat.mul_one]) HC.out (ints_one _ _) (by unfold maxLen; omega) (by omega) (by simp) ?_; intro v2 w2 ho2 hg2 hn2)
  have hnn : v2 ≠ .slice none 0 0 := fun e => by have := (hn2.1 e).1; cases this
  rw [List.nil_append, Nat.zero_add] at ho2
  obtain ⟨b2, cap2, rfl⟩ : ∃ b cap, v2 = .slice (some ⟨b, 0, none⟩) zs.length cap := by
    rcases ho2.2 with ⟨e, _⟩ | ⟨g, cap', cur, e, _⟩
    · exact absurd e hnn
    · exact ⟨_, _, e⟩
  have HO2 := hide ho2
  have HB2 := hide (HB0.out.grown hg2 (by simp) (fun q hq => (HO0.out.lt q hq).1))
  clear ho2 hg2 hn2 hnn
  go_wp2
  go_ret
  exact ⟨_, _, rfl, HO2.out, HB2.out⟩

set_option maxHeartbeats 400000 in
theorem smText (xs : List Int) (v u : Value) (w : World) (h1 : Rd .i32 w v xs) (h2 : Rd .i32 w u xs) (hn : xs.length ≤ 1099511627776) :
    Calls Tryz.prog 40 #[v, u] w fun e w' => e = .returned (.bool true) ∧ ∃ n, w' = w.drewN n := by
  by_cases h0 : xs.length = 0
  · have e0 : xs = [] := List.eq_nil_of_length_eq_zero h0
    subst e0
    obtain ⟨ao, cap, rfl⟩ : ∃ ao cap, v = .slice ao 0 cap := by
      rcases h1 with ⟨ao, cap, rfl, _⟩ | ⟨_, _, _, _, hp, _⟩
      · exact ⟨_, _, rfl⟩
      · simp at hp
    obtain ⟨ao', cap', rfl⟩ : ∃ ao cap, u = .slice ao 0 cap := by
      rcases h2 with ⟨ao, cap, rfl, _⟩ | ⟨_, _, _, _, hp, _⟩
      · exact ⟨_, _, rfl⟩
      · simp at hp
    clear h1 h2
    go_enter Tryz.func40, Tryz.ntmps40
    go_wp2
    refine wp_loop_rounds 1 ?_
    rw [rounds_succ]
    go_wp2
    go_ret
    exact ⟨rfl, 0, rfl⟩
  · obtain ⟨b, off, cap, rfl, hc⟩ : ∃ b off cap, v = .slice (some ⟨b, off, none⟩) xs.length cap ∧ ∀ i, i < xs.length → w.cell? ⟨b, off + i, none⟩ = some (.int .i32 (xs.getD i 0)) := by
      rcases h1 with ⟨ao, cap, _, e⟩ | ⟨b, off, cap, e, hp, hc⟩
      · subst e; simp at h0
      · exact ⟨b, off, cap, e, hc⟩
    obtain ⟨b', off', cap', rfl, hc'⟩ : ∃ b off cap, u = .slice (some ⟨b, off, none⟩) xs.length cap ∧ ∀ i, i < xs.length → w.cell? ⟨b, off + i, none⟩ = some (.int .i32 (xs.getD i 0)) := by
      rcases h2 with ⟨ao, cap, _, e⟩ | ⟨b, off, cap, e, hp, hc⟩
      · subst e; simp at h0
      · exact ⟨b, off, cap, e, hc⟩
    clear h1 h2
    generalize hl : xs.length = n at *
    clear hl
    have hne : ((n : Int) != (n : Int)) = false := by simp
    have HC := hide hc
    have HC' := hide hc'
    clear hc hc'
    go_enter Tryz.func40, Tryz.ntmps40
    go_wp2
    go_loopw [13] (fun i wr => ∃ k nq : Nat, k ≤ n ∧ i = .int .i64 k ∧ wr = w.drewN nq) (fun i _ => n - (intOf i).toNat)
    case atStart => exact ⟨0, 0, Nat.zero_le _, rfl, rfl⟩
    case round =>
      obtain ⟨k, nq, hk, rfl, rfl⟩ := hrel
      by_cases hlt : k < n
      · have hx := HC.out k hlt
        have hy := HC'.out k hlt
        generalize xs.getD k 0 = z at hx hy
        have hz : (z != z) = false := by simp
        go_wp2
        go_quiet (fail)
        go_wp2
        go_roundw
        case rel => exact ⟨k + 1, _, by omega, by go_num, rfl⟩
        case measure => simp [intOf]; omega
      · go_wp2
        go_ret
        exact ⟨rfl, _, rfl⟩
end Go.Proofs.YtbgngikejgihgagGreatDoor

namespace Go.Proofs.YtbgngikejgihgagGreatDoor
open Go Go.RowKit
set_option linter.unusedVariables false

set_option maxHeartbeats 2000000 in
set_option maxRecDepth 100000 in
theorem cpTreeL (xs : List It) (v : Value) (B : Nat) (w : World) (h : OwI w B v xs) (hn : xs.length ≤ 1048576) :
    Calls Tryz.prog 98 #[.agg #[v]] w fun e w' => ∃ v', e = .returned (.agg #[v']) ∧ OwI w' w.heap.size v' xs ∧ Below w.heap.size w w' := by
  obtain ⟨i0, hi, hz0, hz1, hz2⟩ := info_parts Tryz.infoIT
  have HO := hide h
  rcases h.shape with ⟨rfl, rfl⟩ | ⟨g, cap, rfl, hc, hm, hb, hl⟩
  · clear h
    go_enter Tryz.func98, Tryz.ntmps98
    go_wp2_with fail
    refine bodyPost_ret (v := .agg #[.slice (some ⟨w.heap.size + 1 + 1, 0, none⟩) 0 0]) (by simp [results, Tryz.results98, go_sem]) rfl ⟨_, rfl, ?_, ((((Below.refl _ _).alloc (Nat.le_refl _) _).alloc (by simp) _).alloc (by simp; omega) _)⟩
    exact ⟨rfl, .inr ⟨_, 0, #[], rfl, by omega, by have := heap_alloc_new ((w.alloc (.cells #[.slice none 0 0] 67)).alloc (.cells #[.slice (some ⟨w.heap.size + 1 + 1, 0, none⟩) 0 0] 67)) (.cells #[] 145); simpa using this, Nat.le_refl _, by unfold maxLen; omega, rfl, rfl⟩⟩
  · unfold maxLen at hm
    clear h
    have HB0 := hide ((((Below.refl w.heap.size w).alloc (Nat.le_refl _) (.cells #[.slice (some ⟨g, 0, none⟩) xs.length cap] 67)).alloc (by simp) (.cells #[.slice none 0 0] 67)).alloc (by simp; omega) (.cells #[] 145))
    have hk1 : (((w.alloc (.cells #[.slice (some ⟨g, 0, none⟩) xs.length cap] 67)).alloc (.cells #[.slice none 0 0] 67)).alloc (.cells #[] 145)).heap[w.heap.size + 1]? = some (.cells #[.slice none 0 0] 67 (0, 0)) := by
      rw [Below.heap_alloc _ _ _ (by simp)]
      have := heap_alloc_new (w.alloc (.cells #[.slice (some ⟨g, 0, none⟩) xs.length cap] 67)) (.cells #[.slice none 0 0] 67)
      simpa using this
    have hk2 : (((w.alloc (.cells #[.slice (some ⟨g, 0, none⟩) xs.length cap] 67)).alloc (.cells #[.slice none 0 0] 67)).alloc (.cells #[] 145)).heap[w.heap.size + 1 + 1]? = some (.cells #[] 145 (0, 0)) := by
      have := heap_alloc_new ((w.alloc (.cells #[.slice (some ⟨g, 0, none⟩) xs.length cap] 67)).alloc (.cells #[.slice none 0 0] 67)) (.cells #[] 145)
      simpa using this
    have O1 := hide (show (((w.alloc (.cells #[.slice (some ⟨g, 0, none⟩) xs.length cap] 67)).alloc (.cells #[.slice none 0 0] 67)).alloc (.cells #[] 145)).ownsRow w.heap.size 145 4 (.slice (some ⟨w.heap.size + 1 + 1, 0, none⟩) 0 0) 0 [] from ⟨rfl, .inr ⟨_, 0, #[], rfl, by omega, hk2, Nat.le_refl _, by unfold maxLen; omega, rfl, rfl⟩⟩)
    have RC := hide (OwI.cells (show OwI (((w.alloc (.cells #[.slice (some ⟨g, 0, none⟩) xs.length cap] 67)).alloc (.cells #[.slice none 0 0] 67)).alloc (.cells #[] 145)) B (.slice (some ⟨g, 0, none⟩) xs.length cap) xs from ((World.ownsRow.alloc HO.out _).alloc _).alloc _))
    have hs0 : (((w.alloc (.cells #[.slice (some ⟨g, 0, none⟩) xs.length cap] 67)).alloc (.cells #[.slice none 0 0] 67)).alloc (.cells #[] 145)).heap.size = w.heap.size + 3 := by simp
    have HK1 := hide hk1
    clear hk1 hk2
    go_enter Tryz.func98, Tryz.ntmps98
    go_wp2_with (at_builtin; refine wpList_append_own _ rfl _ _ 65 rfl w.heap.size 145 i0 (.agg #[.int .i64 0, .int .i64 0, .int .i64 0, .int .i64 0]) 4 32 Tryz.underlying65 hi hz0 hz1 hz2 rfl (by decide) _ _ _ rfl (by exact O1.out) ⟨g, 0, none⟩ xs.length cap (itVs xs) rfl (itVs_length xs) (by exact RC.out) (itVs_one xs) (by unfold maxLen; omega) (by omega) (by omega) ?_; intro v4 w4 ho4 hg4 _; have B4 := hide (HB0.out.trans ((Below.refl w.heap.size _).grown hg4 (by omega) (own_row2 O1.out))); have K4 := (hg4.block (w.heap.size + 1) (by omega) (own_off2 O1.out HK1.out (by decide))).trans HK1.out; have k0 : w4.cell? ⟨w.heap.size + 1, 0, none⟩ = some (.slice none 0 0) := (by rw [cell_of_row w4 _ 0 _ _ _ K4]; rfl); have f0 := frozen_of_row w4 (w.heap.size + 1) 0 _ _ K4; have HK4 := hide K4; have O4 := hide ho4; obtain ⟨ao4, n4, c4, rfl⟩ := own_sl ho4; clear ho4 hg4 K4)
    refine bodyPost_ret (v := .agg #[.slice ao4 n4 c4]) (by simp [results, Tryz.results98, go_sem, k0]) rfl ⟨_, rfl, ?_, B4.out.setCell (by simp) _⟩
    have h8 : OwI w4 w.heap.size (.slice ao4 n4 c4) xs := by
      have h9 := O4.out
      rw [Nat.zero_add, List.nil_append] at h9
      exact h9
    refine owns_of_block h8 fun k hk => heap_setCell_other _ _ _ _ (fun e => ?_)
    have e' : k = w.heap.size + 1 := e
    subst e'
    exact own_off2 h8 HK4.out (by decide) hk.symm

end Go.Proofs.YtbgngikejgihgagGreatDoor
