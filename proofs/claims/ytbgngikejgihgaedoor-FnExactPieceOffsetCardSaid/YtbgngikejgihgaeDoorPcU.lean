import Derived.Test.YtbgngikejgihgaeDoorPcS
import Derived.Test.YtbgngikejgihgaeDoorPcI
namespace Go.Proofs.YtbgngikejgihgaeDoor
open Go Go.RowKit
set_option linter.unusedVariables false

theorem pRead_text {zs : List Int} {xs : List It} {T : AT} (h : pRead zs xs = some T) : (∀ x ∈ xs, WP zs x.pc ∧ 1 ≤ x.pc.len) ∧ (txt zs xs).length ≤ 8192 ∧ xs.length ≤ 8192 ∧ txt zs xs = T.tx zs := by
  obtain ⟨h1, h2, h3, h4⟩ := pRead_some h
  obtain ⟨k1, k2, k3, _⟩ := okT_pcs (readT_some h1).1
  have hw : ∀ x ∈ xs, WP zs x.pc := h4 ▸ (wp_told zs T 0).2 h3
  refine ⟨fun x hx => ⟨hw x hx, ?_⟩, ?_, k2, by rw [h4, txt_told]⟩
  · have := k1 x hx
    simp only [pcOk, decide_eq_true_eq] at this
    exact this.1
  · have := txt_len hw; omega

set_option maxHeartbeats 1000000 in
set_option maxRecDepth 100000 in
theorem specLC (B : Nat) (zs : List Int) (b o cap : Nat) (v : Value) (xs : List It) (off : Int) (w : World) (hc : At32 w b o zs) (hb : b < w.heap.size) (hz : zs.length ≤ 1048576) (hcap : zs.length ≤ cap) (hm : cap ≤ maxLen) (hr : RdI B w v xs) (hB : B ≤ w.heap.size) (hn : xs.length ≤ 1048576) :
    Calls Tryd.prog 9 #[.agg #[.slice (some ⟨b, o, none⟩) zs.length cap, v], .int .i64 off] w fun e w' => e = .returned (.tuple #[.int .i64 (lcOut zs xs off).1, .int .i64 (lcOut zs xs off).2.1, .int .i64 (lcOut zs xs off).2.2]) ∧ Below w.heap.size w w' := by
  obtain ⟨ao, cap', rfl⟩ := hr.val
  have HX := hide (show lcOut zs xs off = (match pRead zs xs with | none => (0, 0, 1) | some T => if 0 ≤ off ∧ off ≤ (T.tx zs).length then (lcL (T.tx zs) off.toNat, lcC (T.tx zs) off.toNat, 0) else (0, 0, 2)) from rfl)
  generalize lcOut zs xs off = res at HX ⊢
  have HB0 := hide ((Below.refl w.heap.size w).alloc (Nat.le_refl _) (.cells #[.slice (some ⟨b, o, none⟩) zs.length cap, .slice ao xs.length cap'] 35))
  have HPV := hide (pvalidS B zs b o cap _ xs _ (hc.below HB0.out hb) (by simp; omega) hz hcap hm (hr.below HB0.out hB) (by simp; omega) hn)
  have hs0 : (w.alloc (.cells #[.slice (some ⟨b, o, none⟩) zs.length cap, .slice ao xs.length cap'] 35)).heap.size = w.heap.size + 1 := by simp
  have HK0 := hide (show (w.alloc (.cells #[.slice (some ⟨b, o, none⟩) zs.length cap, .slice ao xs.length cap'] 35)).heap[w.heap.size]? = some (.cells #[.slice (some ⟨b, o, none⟩) zs.length cap, .slice ao xs.length cap'] 35 (0, 0)) from heap_alloc_new _ _)
  have HPT := hide (fun W (hW : Below w.heap.size w W) h1 h2 h3 => ptextS B zs b o cap _ xs W (hc.below hW hb) (by have := hW.size; omega) hz hcap hm (hr.below hW hB) (by have := hW.size; omega) h1 h2 h3)
  generalize hN : xs.length = n at *
  clear hr hc
  cases hT : pRead zs xs with
  | none =>
    rw [hT] at HX HPV
    simp only [Option.isSome] at HX HPV
    clear hT
    go_enter Tryd.func9, Tryd.ntmps9
    go_wp2_with fail
    generalize w.alloc (.cells #[.slice (some ⟨b, o, none⟩) zs.length cap, .slice ao n cap'] 35) = w0 at *
    refine HPV.out.mono ?_
    rintro e w1 ⟨rfl, hb1⟩
    have HB1 := hide (HB0.out.trans (hb1.mono (by omega)))
    clear hb1
    go_wp2
    go_ret3
    rw [HX.out]
    exact ⟨rfl, HB1.out⟩
  | some T =>
    have hpt := pRead_text hT
    rw [hT] at HX HPV
    simp only [Option.isSome] at HX HPV
    have HPT2 := hide (fun W hW => HPT.out W hW (by omega) hpt.1 hpt.2.1)
    have htl := hpt.2.1
    rw [hpt.2.2.2] at HPT2 htl
    clear hT hpt HPT
    generalize T.tx zs = tx at *
    have HLC := hide (fun v (k : Nat) W h hk => lcS tx v k W h htl hk)
    go_enter Tryd.func9, Tryd.ntmps9
    go_wp2_with fail
    generalize w.alloc (.cells #[.slice (some ⟨b, o, none⟩) zs.length cap, .slice ao n cap'] 35) = w0 at *
    refine HPV.out.mono ?_
    rintro e w1 ⟨rfl, hb1⟩
    have HB1 := hide (HB0.out.trans (hb1.mono (by omega)))
    have s1 := hb1.size
    have hk1 := (hb1.block w.heap.size (by omega)).trans HK0.out
    have c0 : w1.cell? ⟨w.heap.size, 0, none⟩ = some (.slice (some ⟨b, o, none⟩) zs.length cap) := by rw [cell_of_row w1 _ 0 _ _ _ hk1]; rfl
    have c1 : w1.cell? ⟨w.heap.size, 1, none⟩ = some (.slice ao n cap') := by rw [cell_of_row w1 _ 1 _ _ _ hk1]; rfl
    have HPT3 := hide (HPT2.out _ HB1.out)
    clear hb1 hk1 HPT2 HPV
    go_wp2_with fail
    refine HPT3.out.mono ?_
    rintro e w2 ⟨vt, rfl, hot, hb2⟩
    have HB2 := hide (HB1.out.trans (hb2.mono HB1.out.size))
    have hRT := Rd.of_owns (k := .i32) hot
    obtain ⟨at', ct, rfl⟩ := own32_val hot
    have HLC2 := hide (fun (k : Nat) hk => HLC.out _ k w2 hRT hk)
    clear hb2 hot HPT3 HLC hRT c0 c1
    by_cases hoff : 0 ≤ off ∧ off ≤ (tx.length : Int)
    · rw [if_pos hoff] at HX
      obtain ⟨k, rfl⟩ : ∃ k : Nat, off = k := ⟨off.toNat, by omega⟩
      have HL3 := hide (HLC2.out k (by omega))
      simp only [Int.toNat_natCast] at HX
      have o1 : ¬ ((k : Int) < 0) := by omega
      have o2 : ¬ ((k : Int) > (tx.length : Int)) := by omega
      generalize lcL tx k = x at *
      generalize lcC tx k = y at *
      generalize tx.length = nt at *
      clear HLC2
      go_wp2_with fail
      refine HL3.out.mono ?_
      rintro e w3 ⟨rfl, hw3⟩
      have hw4 := hw3.symm
      subst hw4
      go_wp2
      go_ret3
      rw [HX.out]
      exact ⟨rfl, HB2.out⟩
    · rw [if_neg hoff] at HX
      clear HLC2
      by_cases o1 : off < 0
      · go_wp2
        go_ret3
        rw [HX.out]
        exact ⟨rfl, HB2.out⟩
      · have o2 : off > (tx.length : Int) := by omega
        go_wp2
        go_ret3
        rw [HX.out]
        exact ⟨rfl, HB2.out⟩
end Go.Proofs.YtbgngikejgihgaeDoor
