import Derived.Test.YtbgngikejgihgaeDoorPcU
namespace Go.Proofs.YtbgngikejgihgaeDoor
open Go Go.RowKit
set_option linter.unusedVariables false

set_option maxHeartbeats 1000000 in
theorem breaksN (T : AT) (base c b o cap : Nat) (zs : List Int) (w : World) (h : PCore w base c b o cap zs T) :
    Calls Tryd.prog 162 #[.pointer (some ⟨c, 0, none⟩)] w fun e w' => e = .returned (.int .i64 T.bks) ∧ Below w.heap.size w w' := by
  obtain ⟨⟨u, bs, h1, h2⟩, _⟩ := h
  have c1 := h1.c1
  have HA := hide (allN T u bs base w h2)
  clear h1 h2
  go_enter Tryd.func162, Tryd.ntmps162
  go_wp2_with fail
  refine HA.out.mono ?_
  rintro e w1 ⟨rfl, hb1⟩
  have HB1 := hide hb1
  have fl1 := Tryd.fld2
  unfold cnt
  clear hb1
  go_wp2
  go_ret
  exact ⟨rfl, HB1.out⟩

set_option maxHeartbeats 1000000 in
set_option maxRecDepth 100000 in
theorem lineLengthN (T : AT) (base c b o cap : Nat) (zs : List Int) (l : Nat) (w : World) (h : PCore w base c b o cap zs T) (hl : l ≤ bkn (T.tx zs)) :
    Calls Tryd.prog 165 #[.pointer (some ⟨c, 0, none⟩), .int .i64 (l : Int)] w fun e w' => e = .returned (.int .i64 (((le (T.tx zs) l : Nat) : Int) - (ls (T.tx zs) l : Nat))) ∧ Below w.heap.size w w' := by
  have hbb := AT.tx_brk h.wp
  rw [brk_bkn] at hbb
  have htl := AT.tx_len h.wp
  have bT := h.ok.bd
  have HL := hide (lengthN T base c b o cap zs w h)
  have HBK := hide (fun W (hW : Below w.heap.size w W) => breaksN T base c b o cap zs W (h.below hW (Nat.le_refl _)))
  have HLS := hide (fun (k : Nat) hk W (hW : Below w.heap.size w W) => lineStartN T base c b o cap zs k W (h.below hW (Nat.le_refl _)) hk)
  have hls := ls_le (T.tx zs) l
  clear h
  by_cases hlt : l < bkn (T.tx zs)
  · have hle : le (T.tx zs) l = bb (T.tx zs) l - 1 := by unfold le; rw [if_pos hlt]
    have hb1 := bb_pos (T.tx zs) l hlt
    have hb2 := bb_le (T.tx zs) l
    rw [hle]
    have HS1 := hide (HLS.out (l + 1) (by omega))
    rw [ls_succ] at HS1
    have HS2 := hide (HLS.out l hl)
    have hlt' : (l : Int) < T.bks := by omega
    generalize bb (T.tx zs) l = R at *
    generalize ls (T.tx zs) l = S at *
    have HE := hide (show ((R - 1 : Nat) : Int) - (S : Int) = (R : Int) - 1 - (S : Int) by omega)
    have HE1 := hide (show (((l + 1 : Nat) : Int)) = (l : Int) + 1 by omega)
    rw [HE1.out] at HS1
    rw [HE.out]
    have hRS : R ≤ 8192 ∧ S ≤ 8192 := by omega
    clear hle hls HLS hbb htl
    go_enter Tryd.func165, Tryd.ntmps165
    go_wp2_with fail
    refine HL.out.mono ?_
    rintro e w1 ⟨rfl, h1⟩
    have B1 := hide h1
    clear h1
    go_wp2_with fail
    refine (HBK.out _ B1.out).mono ?_
    rintro e w2 ⟨rfl, h2⟩
    have B2 := hide (B1.out.trans (h2.mono B1.out.size))
    clear h2
    go_wp2_with fail
    refine (HS1.out _ B2.out).mono ?_
    rintro e w3 ⟨rfl, h3⟩
    have B3 := hide (B2.out.trans (h3.mono B2.out.size))
    clear h3
    go_wp2_with fail
    refine (HS2.out _ B3.out).mono ?_
    rintro e w4 ⟨rfl, h4⟩
    have B4 := hide (B3.out.trans (h4.mono B3.out.size))
    clear h4
    go_wp2
    go_ret
    exact ⟨rfl, B4.out⟩
  · have hle : le (T.tx zs) l = (T.tx zs).length := by unfold le; rw [if_neg hlt]
    rw [hle]
    have HS2 := hide (HLS.out l hl)
    have hlt' : ¬ (l : Int) < T.bks := by omega
    generalize ls (T.tx zs) l = S at *
    rw [htl]
    have hRS : S ≤ 8192 := by omega
    clear hle hls HLS hbb htl
    go_enter Tryd.func165, Tryd.ntmps165
    go_wp2_with fail
    refine HL.out.mono ?_
    rintro e w1 ⟨rfl, h1⟩
    have B1 := hide h1
    clear h1
    go_wp2_with fail
    refine (HBK.out _ B1.out).mono ?_
    rintro e w2 ⟨rfl, h2⟩
    have B2 := hide (B1.out.trans (h2.mono B1.out.size))
    clear h2
    go_wp2_with fail
    refine (HS2.out _ B2.out).mono ?_
    rintro e w4 ⟨rfl, h4⟩
    have B4 := hide (B2.out.trans (h4.mono B2.out.size))
    clear h4
    go_wp2
    go_ret
    exact ⟨rfl, B4.out⟩

set_option maxHeartbeats 1000000 in
theorem offsetN (T : AT) (base c b o cap : Nat) (zs : List Int) (l : Nat) (col : Int) (w : World) (h : PCore w base c b o cap zs T) (hl : l ≤ bkn (T.tx zs)) (hc : 0 ≤ col ∧ col ≤ 8192) :
    Calls Tryd.prog 166 #[.pointer (some ⟨c, 0, none⟩), .int .i64 (l : Int), .int .i64 col] w fun e w' => e = .returned (.int .i64 (((ls (T.tx zs) l : Nat) : Int) + col)) ∧ Below w.heap.size w w' := by
  have htl := AT.tx_len h.wp
  have bT := h.ok.bd
  have HS2 := hide (lineStartN T base c b o cap zs l w h hl)
  have hls := ls_le (T.tx zs) l
  have hS : ls (T.tx zs) l ≤ 8192 := by omega
  generalize ls (T.tx zs) l = S at *
  clear h htl hls
  go_enter Tryd.func166, Tryd.ntmps166
  go_wp2_with fail
  refine HS2.out.mono ?_
  rintro e w1 ⟨rfl, h1⟩
  have B1 := hide h1
  clear h1
  go_wp2
  go_ret
  exact ⟨rfl, B1.out⟩

theorem Tryd.mBreaks (c : Option Addr) (w : World) : (Go.method 365 71 (.pointer c) "loop.example/s01685/impl.breaks").run Tryd.prog w = .ok (162, .pointer c) w := by kernel_rfl
theorem Tryd.mLineLength (c : Option Addr) (w : World) : (Go.method 365 71 (.pointer c) "loop.example/s01685/impl.lineLength").run Tryd.prog w = .ok (165, .pointer c) w := by kernel_rfl
theorem Tryd.mOffset (c : Option Addr) (w : World) : (Go.method 365 71 (.pointer c) "loop.example/s01685/impl.offset").run Tryd.prog w = .ok (166, .pointer c) w := by kernel_rfl

/-- What offsetOf answers. -/
def OffPost (w : World) (tx : List Int) (line col : Int) (e : Ending) (w' : World) : Prop :=
  (if 0 ≤ offL tx line col then e = .returned (.tuple #[.int .i64 (offL tx line col), .nilIface])
   else ∃ msg, e = .returned (.tuple #[.int .i64 0, .iface 120 (.agg #[.string msg, .iface 118 (.int .i64 3)])])) ∧ Below w.heap.size w w'
def msgFinding : ByteArray := ⟨#[102, 105, 110, 100, 105, 110, 103, 32, 97, 32, 112, 108, 97, 99, 101]⟩

theorem OffPost.bad {w : World} {tx : List Int} {line col : Int} {w' : World} {msg : ByteArray} (h : ¬ (0 ≤ line ∧ line ≤ brk tx ∧ 0 ≤ col ∧ (ls tx line.toNat : Int) + col ≤ (le tx line.toNat : Nat))) (hb : Below w.heap.size w w') : OffPost w tx line col (.returned (.tuple #[.int .i64 0, .iface 120 (.agg #[.string msg, .iface 118 (.int .i64 3)])])) w' := by
  have e : offL tx line col = -1 := by unfold offL; rw [if_neg h]
  unfold OffPost
  rw [e, if_neg (by omega)]
  exact ⟨⟨_, rfl⟩, hb⟩
theorem OffPost.good {w : World} {tx : List Int} {l : Nat} {col : Int} {w' : World} (h1 : (l : Int) ≤ brk tx) (h2 : 0 ≤ col) (h3 : (ls tx l : Int) + col ≤ (le tx l : Nat)) (hb : Below w.heap.size w w') : OffPost w tx l col (.returned (.tuple #[.int .i64 (((ls tx l : Nat) : Int) + col), .nilIface])) w' := by
  have e : offL tx l col = ((ls tx l : Nat) : Int) + col := by unfold offL; rw [Int.toNat_natCast, if_pos ⟨by omega, h1, h2, h3⟩]
  unfold OffPost
  rw [e, if_pos (by omega)]
  exact ⟨rfl, hb⟩

set_option maxHeartbeats 2000000 in
set_option maxRecDepth 100000 in
theorem offsetOfN (T : AT) (base c b o cap : Nat) (zs : List Int) (line col : Int) (w : World) (h : PCore w base c b o cap zs T) :
    Calls Tryd.prog 44 #[.iface 71 (.pointer (some ⟨c, 0, none⟩)), .int .i64 line, .int .i64 col] w (OffPost w (T.tx zs) line col) := by
  have hbb := AT.tx_brk h.wp
  have htl := AT.tx_len h.wp
  have bT := h.ok.bd
  have mB := Tryd.mBreaks
  have mL := Tryd.mLineLength
  have mO := Tryd.mOffset
  have HBK := hide (breaksN T base c b o cap zs w h)
  have HKB := hide (fun w => boundsI line 0 T.bks 3 w)
  by_cases hline : 0 ≤ line ∧ line ≤ T.bks
  · have hd : decide (0 ≤ line ∧ line ≤ T.bks) = true := by simpa using hline
    rw [hd] at HKB
    simp only [errV, if_true] at HKB
    obtain ⟨l, rfl⟩ : ∃ l : Nat, line = l := ⟨line.toNat, by omega⟩
    have hlb : l ≤ bkn (T.tx zs) := by rw [brk_bkn] at hbb; omega
    have HLL := hide (fun W (hW : Below w.heap.size w W) => lineLengthN T base c b o cap zs l W (h.below hW (Nat.le_refl _)) hlb)
    have HOF := hide (fun hc W (hW : Below w.heap.size w W) => offsetN T base c b o cap zs l col W (h.below hW (Nat.le_refl _)) hlb hc)
    have hle : le (T.tx zs) l ≤ (T.tx zs).length := by
      unfold le; split
      · have := bb_le (T.tx zs) l; omega
      · exact Nat.le_refl _
    have HKC := hide (fun w => boundsI col 0 (((le (T.tx zs) l : Nat) : Int) - (ls (T.tx zs) l : Nat)) 3 w)
    have HG := hide (fun h2 h3 W (hb : Below w.heap.size w W) => OffPost.good (tx := T.tx zs) (l := l) (col := col) (by rw [hbb]; exact hline.2) h2 h3 hb)
    have HBD := hide (fun (h2 : ¬ (0 ≤ col ∧ (ls (T.tx zs) l : Int) + col ≤ (le (T.tx zs) l : Nat))) W (hb : Below w.heap.size w W) => OffPost.bad (tx := T.tx zs) (line := (l : Int)) (col := col) (msg := msgFinding) (fun g => h2 ⟨g.2.2.1, by have := g.2.2.2; rw [Int.toNat_natCast] at this; exact this⟩) hb)
    clear h hd hlb
    by_cases hcol : 0 ≤ col ∧ col ≤ (((le (T.tx zs) l : Nat) : Int) - (ls (T.tx zs) l : Nat))
    · have hd : decide (0 ≤ col ∧ col ≤ (((le (T.tx zs) l : Nat) : Int) - (ls (T.tx zs) l : Nat))) = true := by simpa using hcol
      rw [hd] at HKC
      simp only [errV, if_true] at HKC
      have HO2 := hide (HOF.out ⟨hcol.1, by omega⟩)
      have HG2 := hide (HG.out hcol.1 (by omega))
      clear hd HG HOF HBD hcol hle hbb htl
      generalize OffPost w (T.tx zs) (l : Int) col = PO at *
      generalize ls (T.tx zs) l = S at *
      generalize le (T.tx zs) l = E at *
      go_enter Tryd.func44, Tryd.ntmps44
      go_wp2_with fail
      refine HBK.out.mono ?_
      rintro e w1 ⟨rfl, h1⟩
      have B1 := hide h1
      clear h1
      go_wp2_with fail
      refine (HKB.out _).mono ?_
      rintro e wx ⟨rfl, hwx⟩
      have hw2 := hwx.symm
      subst hw2
      go_wp2_with fail
      refine (HLL.out _ B1.out).mono ?_
      rintro e w2 ⟨rfl, h2⟩
      have B2 := hide (B1.out.trans (h2.mono B1.out.size))
      clear h2
      go_wp2_with fail
      refine (HKC.out _).mono ?_
      rintro e wy ⟨rfl, hwy⟩
      have hw3 := hwy.symm
      subst hw3
      go_wp2_with fail
      refine (HO2.out _ B2.out).mono ?_
      rintro e w3 ⟨rfl, h3⟩
      have B3 := hide (B2.out.trans (h3.mono B2.out.size))
      clear h3
      go_wp2
      exact HG2.out _ B3.out
    · have hd : decide (0 ≤ col ∧ col ≤ (((le (T.tx zs) l : Nat) : Int) - (ls (T.tx zs) l : Nat))) = false := by simpa using hcol
      rw [hd] at HKC
      simp only [errV, Bool.false_eq_true, if_false] at HKC
      have HB2 := hide (HBD.out (fun g => hcol ⟨g.1, by omega⟩))
      clear hd HG HOF HBD hcol hle hbb htl
      generalize OffPost w (T.tx zs) (l : Int) col = PO at *
      generalize ls (T.tx zs) l = S at *
      generalize le (T.tx zs) l = E at *
      go_enter Tryd.func44, Tryd.ntmps44
      go_wp2_with fail
      refine HBK.out.mono ?_
      rintro e w1 ⟨rfl, h1⟩
      have B1 := hide h1
      clear h1
      go_wp2_with fail
      refine (HKB.out _).mono ?_
      rintro e wx ⟨rfl, hwx⟩
      have hw2 := hwx.symm
      subst hw2
      go_wp2_with fail
      refine (HLL.out _ B1.out).mono ?_
      rintro e w2 ⟨rfl, h2⟩
      have B2 := hide (B1.out.trans (h2.mono B1.out.size))
      clear h2
      go_wp2_with fail
      refine (HKC.out _).mono ?_
      rintro e wy ⟨rfl, hwy⟩
      have hw3 := hwy.symm
      subst hw3
      go_wp2
      exact HB2.out _ B2.out
  · have hd : decide (0 ≤ line ∧ line ≤ T.bks) = false := by simpa using hline
    rw [hd] at HKB
    simp only [errV, Bool.false_eq_true, if_false] at HKB
    have HB2 := hide (fun W (hb : Below w.heap.size w W) => OffPost.bad (tx := T.tx zs) (line := line) (col := col) (msg := msgFinding) (fun g => hline ⟨g.1, by rw [← hbb]; exact g.2.1⟩) hb)
    clear h hd hbb htl hline
    generalize OffPost w (T.tx zs) line col = PO at *
    go_enter Tryd.func44, Tryd.ntmps44
    go_wp2_with fail
    refine HBK.out.mono ?_
    rintro e w1 ⟨rfl, h1⟩
    have B1 := hide h1
    clear h1
    go_wp2_with fail
    refine (HKB.out _).mono ?_
    rintro e wx ⟨rfl, hwx⟩
    have hw2 := hwx.symm
    subst hw2
    go_wp2
    exact HB2.out _ B1.out

/-- What PieceOffset answers. -/
def poOut (zs : List Int) (xs : List It) (line col : Int) : Int × Int :=
  match pRead zs xs with
  | none => (0, 1)
  | some T => if 0 ≤ offL (T.tx zs) line col then (offL (T.tx zs) line col, 0) else (0, 3)

set_option maxHeartbeats 1000000 in
set_option maxRecDepth 100000 in
theorem implPO (B : Nat) (zs : List Int) (b o cap : Nat) (v : Value) (xs : List It) (line col : Int) (w : World) (hc : At32 w b o zs) (hb : b < w.heap.size) (hz : zs.length ≤ 1048576) (hcap : zs.length ≤ cap) (hm : cap ≤ maxLen) (hr : RdI B w v xs) (hB : B ≤ w.heap.size) (hn : xs.length ≤ 1048576) (hg : w.cell? ⟨0, 0, none⟩ = some (.iface 199 (.agg #[.pointer (some ⟨4, 73, none⟩)]))) :
    Calls Tryd.prog 14 #[.agg #[.slice (some ⟨b, o, none⟩) zs.length cap, v], .int .i64 line, .int .i64 col] w fun e w' => e = .returned (.tuple #[.int .i64 (poOut zs xs line col).1, .int .i64 (poOut zs xs line col).2]) ∧ Below w.heap.size w w' := by
  obtain ⟨ao, cap', rfl⟩ := hr.val
  have hlt0 : 0 < w.heap.size := World.block_lt_of_cell? w _ hg
  have HX := hide (show poOut zs xs line col = (match pRead zs xs with | none => (0, 1) | some T => if 0 ≤ offL (T.tx zs) line col then (offL (T.tx zs) line col, 0) else (0, 3)) from rfl)
  generalize poOut zs xs line col = res at HX ⊢
  have HB0 := hide ((Below.refl w.heap.size w).alloc (Nat.le_refl _) (.cells #[.slice (some ⟨b, o, none⟩) zs.length cap, .slice ao xs.length cap'] 35))
  have HRP := hide (readPiecesN B zs b o cap _ xs _ (hc.below HB0.out hb) (by simp; omega) hz hcap hm (hr.below HB0.out hB) (by simp; omega) hn)
  have HC0 := hide (hc.below HB0.out hb)
  have hs0 : (w.alloc (.cells #[.slice (some ⟨b, o, none⟩) zs.length cap, .slice ao xs.length cap'] 35)).heap.size = w.heap.size + 1 := by simp
  have HG0 := hide ((HB0.out.cell (p := ⟨0, 0, none⟩) hlt0).trans hg)
  generalize hN : xs.length = n at *
  clear hr hc hg
  go_enter Tryd.func14, Tryd.ntmps14
  go_wp2_with fail
  generalize w.alloc (.cells #[.slice (some ⟨b, o, none⟩) zs.length cap, .slice ao n cap'] 35) = w0 at *
  refine HRP.out.mono ?_
  clear HRP
  cases hT : pRead zs xs with
  | none =>
    rw [hT] at HX
    simp only at HX
    clear hT
    rintro e w1 ⟨⟨msg, rfl⟩, hb1⟩
    have HB1 := hide (HB0.out.trans (hb1.mono (by omega)))
    have HG1 := hide ((hb1.cell (p := ⟨0, 0, none⟩) (by show 0 < w0.heap.size; omega)).trans HG0.out)
    clear hb1
    go_wp2_with fail
    refine (codeOf msg 1 w1 HG1.out).mono ?_
    rintro e w3 ⟨rfl, hb3⟩
    have HB3 := hide (HB1.out.trans (hb3.mono HB1.out.size))
    clear hb3
    go_wp2
    go_ret2
    rw [HX.out]
    exact ⟨rfl, HB3.out⟩
  | some T =>
    rw [hT] at HX
    simp only at HX
    have hps := pRead_some hT
    clear hT
    rintro e w1 ⟨c, u, bs, rfl, hcb, hpk, hL, hnd, hnc, hok, hb1⟩
    have s1 := hb1.size
    have HCO := hide (show PCore w1 w0.heap.size c b o zs.length zs T from ⟨⟨u, bs, hpk, hL⟩, HC0.out.below hb1 (by omega), by omega, hok, hps.2.2.1, ⟨hz, Nat.le_refl _, by unfold maxLen; omega⟩⟩)
    have HPN := hide (offsetOfN T w0.heap.size c b o zs.length zs line col w1 HCO.out)
    have HB1 := hide (HB0.out.trans (hb1.mono (by omega)))
    have HG1 := hide ((hb1.cell (p := ⟨0, 0, none⟩) (by show 0 < w0.heap.size; omega)).trans HG0.out)
    clear hb1 hpk hL hnd hnc hok hps HCO HC0
    unfold OffPost at HPN
    generalize offL (T.tx zs) line col = z at *
    go_wp2_with fail
    refine HPN.out.mono ?_
    clear HPN
    by_cases hoff : 0 ≤ z
    · rw [if_pos hoff] at HX
      rintro e w2 ⟨he, hb2⟩
      rw [if_pos hoff] at he
      subst he
      have HB2 := hide (HB1.out.trans (hb2.mono HB1.out.size))
      clear hb2
      go_wp2_with fail
      refine (codeNil _).mono ?_
      rintro e w3 ⟨rfl, hb3⟩
      have HB3 := hide (HB2.out.trans (hb3.mono HB2.out.size))
      clear hb3
      go_wp2
      go_ret2
      rw [HX.out]
      exact ⟨rfl, HB3.out⟩
    · rw [if_neg hoff] at HX
      rintro e w2 ⟨he, hb2⟩
      rw [if_neg hoff] at he
      obtain ⟨msg, he⟩ := he
      subst he
      have HB2 := hide (HB1.out.trans (hb2.mono HB1.out.size))
      have HG2 := hide ((hb2.cell (p := ⟨0, 0, none⟩) (by show 0 < w1.heap.size; omega)).trans HG1.out)
      clear hb2
      go_wp2_with fail
      refine (codeOf msg 3 _ HG2.out).mono ?_
      rintro e w3 ⟨rfl, hb3⟩
      have HB3 := hide (HB2.out.trans (hb3.mono HB2.out.size))
      clear hb3
      go_wp2
      go_ret2
      rw [HX.out]
      exact ⟨rfl, HB3.out⟩

set_option maxHeartbeats 1000000 in
set_option maxRecDepth 100000 in
theorem specPO (B : Nat) (zs : List Int) (b o cap : Nat) (v : Value) (xs : List It) (line col : Int) (w : World) (hc : At32 w b o zs) (hb : b < w.heap.size) (hz : zs.length ≤ 1048576) (hcap : zs.length ≤ cap) (hm : cap ≤ maxLen) (hr : RdI B w v xs) (hB : B ≤ w.heap.size) (hn : xs.length ≤ 1048576) :
    Calls Tryd.prog 13 #[.agg #[.slice (some ⟨b, o, none⟩) zs.length cap, v], .int .i64 line, .int .i64 col] w fun e w' => e = .returned (.tuple #[.int .i64 (poOut zs xs line col).1, .int .i64 (poOut zs xs line col).2]) ∧ Below w.heap.size w w' := by
  obtain ⟨ao, cap', rfl⟩ := hr.val
  have HX := hide (show poOut zs xs line col = (match pRead zs xs with | none => (0, 1) | some T => if 0 ≤ offL (T.tx zs) line col then (offL (T.tx zs) line col, 0) else (0, 3)) from rfl)
  generalize poOut zs xs line col = res at HX ⊢
  have HB0 := hide ((Below.refl w.heap.size w).alloc (Nat.le_refl _) (.cells #[.slice (some ⟨b, o, none⟩) zs.length cap, .slice ao xs.length cap'] 35))
  have HPV := hide (pvalidS B zs b o cap _ xs _ (hc.below HB0.out hb) (by simp; omega) hz hcap hm (hr.below HB0.out hB) (by simp; omega) hn)
  have hs0 : (w.alloc (.cells #[.slice (some ⟨b, o, none⟩) zs.length cap, .slice ao xs.length cap'] 35)).heap.size = w.heap.size + 1 := by simp
  have HK0 := hide (show (w.alloc (.cells #[.slice (some ⟨b, o, none⟩) zs.length cap, .slice ao xs.length cap'] 35)).heap[w.heap.size]? = some (.cells #[.slice (some ⟨b, o, none⟩) zs.length cap, .slice ao xs.length cap'] 35 (0, 0)) from heap_alloc_new _ _)
  have HPT := hide (fun W (hW : Below w.heap.size w W) h1 h2 h3 => ptextS B zs b o cap _ xs W (hc.below hW hb) (by have := hW.size; omega) hz hcap hm (hr.below hW hB) (by have := hW.size; omega) h1 h2 h3)
  generalize hN : xs.length = n at *
  clear hr hc
  cases hT : pRead zs xs with
  | none =>
    rw [hT] at HX HPV
    simp only [Option.isSome] at HX HPV
    clear hT
    go_enter Tryd.func13, Tryd.ntmps13
    go_wp2_with fail
    generalize w.alloc (.cells #[.slice (some ⟨b, o, none⟩) zs.length cap, .slice ao n cap'] 35) = w0 at *
    refine HPV.out.mono ?_
    rintro e w1 ⟨rfl, hb1⟩
    have HB1 := hide (HB0.out.trans (hb1.mono (by omega)))
    clear hb1
    go_wp2
    go_ret2
    rw [HX.out]
    exact ⟨rfl, HB1.out⟩
  | some T =>
    have hpt := pRead_text hT
    rw [hT] at HX HPV
    simp only [Option.isSome] at HX HPV
    have HPT2 := hide (fun W hW => HPT.out W hW (by omega) hpt.1 hpt.2.1)
    have htl := hpt.2.1
    rw [hpt.2.2.2] at HPT2 htl
    clear hT hpt HPT
    generalize T.tx zs = tx at *
    have HLC := hide (fun v W h => offS tx v line col W h htl)
    generalize offL tx line col = z at *
    go_enter Tryd.func13, Tryd.ntmps13
    go_wp2_with fail
    generalize w.alloc (.cells #[.slice (some ⟨b, o, none⟩) zs.length cap, .slice ao n cap'] 35) = w0 at *
    refine HPV.out.mono ?_
    rintro e w1 ⟨rfl, hb1⟩
    have HB1 := hide (HB0.out.trans (hb1.mono (by omega)))
    have s1 := hb1.size
    have hk1 := (hb1.block w.heap.size (by omega)).trans HK0.out
    have c0 : w1.cell? ⟨w.heap.size, 0, none⟩ = some (.slice (some ⟨b, o, none⟩) zs.length cap) := by rw [cell_of_row w1 _ 0 _ _ _ hk1]; rfl
    have c1 : w1.cell? ⟨w.heap.size, 1, none⟩ = some (.slice ao n cap') := by rw [cell_of_row w1 _ 1 _ _ _ hk1]; rfl
    have HPT3 := hide (HPT2.out _ HB1.out)
    clear hb1 hk1 HPT2 HPV
    go_wp2_with fail
    refine HPT3.out.mono ?_
    rintro e w2 ⟨vt, rfl, hot, hb2⟩
    have HB2 := hide (HB1.out.trans (hb2.mono HB1.out.size))
    have hRT := Rd.of_owns (k := .i32) hot
    obtain ⟨at', ct, rfl⟩ := own32_val hot
    have HLC2 := hide (HLC.out _ w2 hRT)
    clear hb2 hot HPT3 HLC hRT c0 c1
    go_wp2_with fail
    refine HLC2.out.mono ?_
    rintro e w3 ⟨rfl, hw3⟩
    have hw4 := hw3.symm
    subst hw4
    by_cases hoff : 0 ≤ z
    · rw [if_pos hoff] at HX
      have o1 : ¬ z < 0 := by omega
      go_wp2
      go_ret2
      rw [HX.out]
      exact ⟨rfl, HB2.out⟩
    · rw [if_neg hoff] at HX
      have o1 : z < 0 := by omega
      go_wp2
      go_ret2
      rw [HX.out]
      exact ⟨rfl, HB2.out⟩
end Go.Proofs.YtbgngikejgihgaeDoor
