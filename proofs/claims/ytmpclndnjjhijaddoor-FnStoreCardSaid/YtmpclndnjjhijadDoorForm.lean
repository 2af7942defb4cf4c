import Derived.Test.YtmpclndnjjhijadDoorProg
import Derived.Test.YtmpclndnjjhijadDoorSame
import Derived.Test.YtmpclndnjjhijadDoorL1b
import Derived.WalkKit
import Derived.WalkLawsBesides
import Derived.Deep.QuietTactic
import Derived.BigQuiet
namespace Go.Proofs.YtmpclndnjjhijadDoor
open Go Go.RowKit
set_option linter.unusedVariables false

theorem encZ_bytes (r : Int) : bytes (encZ r) := by
  intro z hz
  rcases encZ_cases r with h | h | h | h | h | h
  · rw [encZ_bad h] at hz; simp at hz; omega
  · rw [encZ_one h.1 h.2] at hz; simp at hz; omega
  · rw [encZ_two h.1 h.2] at hz; simp at hz; omega
  · rw [encZ_three h.1 (by omega) (.inl h.2)] at hz; simp at hz; omega
  · rw [encZ_three (by omega) h.2 (.inr h.1)] at hz; simp at hz; omega
  · rw [encZ_four h.1 h.2] at hz; simp at hz; omega

/-- spec.l1Bytes, for a reader. -/
theorem l1bR (r : Int) (w : World) (h1 : -2147483648 ≤ r) (h2 : r < 2147483648) :
    Calls Tryd.prog 28 #[.int .i64 r] w fun e w' => ∃ v', e = .returned v' ∧ Rd .u8 w' v' (encZ r) ∧ Below w.heap.size w w' :=
  (l1b r w h1 h2).mono fun e w' ⟨he, hw⟩ => by
    subst hw
    refine ⟨_, he, ?_, (Below.refl _ _).alloc (Nat.le_refl _) _⟩
    have hl := encZ_length r
    refine .inr ⟨w.heap.size, 0, (encZ r).length, rfl, ⟨by omega, Nat.le_refl _, by unfold maxLen; omega⟩, fun i hi => ?_⟩
    have := newcells w 5 (ints .u8 (encZ r)) i (.int .u8 ((encZ r).getD i 0)) (by simp [ints, List.getElem?_eq_getElem hi])
    rw [addr_add] at this
    exact this

set_option maxHeartbeats 1000000 in
set_option maxRecDepth 100000 in
theorem l1Form1 (a : Int) (v : Value) (w : World) (h : Rd .u8 w v [a]) (hb : bytes [a]) :
    Calls Tryd.prog 34 #[v] w fun e w' => ∃ n, e = .returned (.tuple #[.int .i64 n, .bool (formOk [a])]) ∧ (formOk [a] = true → n = numZ [a]) ∧ Below w.heap.size w w' := by
  obtain ⟨ha0, ha1⟩ := hb a (by simp)
  have H := hide h
  have HB := hide hb
  rcases h with ⟨_, _, _, e⟩ | ⟨bk, off, cap, rfl, hp, hc⟩
  · cases e
  · simp only [List.length_cons, List.length_nil] at *
    have c0 : w.cell? ⟨bk, off, none⟩ = some (.int .u8 a) := hc 0 (by simp)
    clear hc hp hb
    have hv : ¬ a < 0 := by omega
    have hok : decide (encZ (a) = [a]) = formOk [a] := by
      rw [Bool.eq_iff_iff, formOk_iff, decide_eq_true_iff]; simp only [numZ]
      exact ⟨fun h => ⟨by omega, h⟩, fun h => h.2⟩
    have hnum : numZ [a] = a := rfl
    rw [← hok, hnum]
    clear hok hnum
    have hbe := encZ_bytes (a)
    have hle := encZ_length (a)
    obtain ⟨nn, hn⟩ : ∃ nn, nn = a := ⟨_, rfl⟩
    subst hn
    have hn1 : 0 ≤ nn := by omega
    have hn2 : nn < 2147483648 := by omega
    have g : ¬ nn < 0 := by omega
    clear hv
    have HL := hide hle
    have HE := hide hbe
    clear hle hbe
    go_enter Tryd.func34, Tryd.ntmps34
    go_wp2_with fail
    refine (l1bR nn _ (by omega) hn2).mono ?_
    rintro e w1 ⟨v', rfl, hr, hb1⟩
    have HR := hide hr
    have H1 := hide ((H.out.cells (w' := w) rfl).below hb1)
    have hbw : Below w.heap.size w w1 := ⟨hb1.os, hb1.tape, hb1.output, hb1.size, hb1.block⟩
    have HBW := hide hbw
    clear hr hb1 hbw
    go_wp2_with fail
    refine (l1Same (encZ nn) [nn] _ _ _ HR.out H1.out HE.out HB.out (by have := HL.out; omega) (by simp)).mono ?_
    rintro e w2 ⟨rfl, rfl⟩
    go_wp2
    go_ret2
    exact ⟨_, rfl, fun _ => rfl, HBW.out⟩

set_option maxHeartbeats 1000000 in
set_option maxRecDepth 100000 in
theorem l1Form2 (a b : Int) (v : Value) (w : World) (h : Rd .u8 w v [a, b]) (hb : bytes [a, b]) :
    Calls Tryd.prog 34 #[v] w fun e w' => ∃ n, e = .returned (.tuple #[.int .i64 n, .bool (formOk [a, b])]) ∧ (formOk [a, b] = true → n = numZ [a, b]) ∧ Below w.heap.size w w' := by
  obtain ⟨ha0, ha1⟩ := hb a (by simp)
  obtain ⟨hb0, hb1⟩ := hb b (by simp)
  have H := hide h
  have HB := hide hb
  rcases h with ⟨_, _, _, e⟩ | ⟨bk, off, cap, rfl, hp, hc⟩
  · cases e
  · simp only [List.length_cons, List.length_nil] at *
    have c0 : w.cell? ⟨bk, off, none⟩ = some (.int .u8 a) := hc 0 (by simp)
    have c1 : w.cell? ⟨bk, off + 1, none⟩ = some (.int .u8 b) := hc 1 (by simp)
    clear hc hp hb
    by_cases hv : (a - 192) * 64 + b - 128 < 0
    · have hok : formOk [a, b] = false := by
        rw [Bool.eq_false_iff, ne_eq, formOk_iff]; simp only [numZ]; omega
      rw [hok]
      go_enter Tryd.func34, Tryd.ntmps34
      go_wp2
      go_quiet (fail)
      go_wp2
      go_ret2
      exact ⟨_, rfl, (fun h => by cases h), ⟨rfl, rfl, rfl, Nat.le_refl _, fun _ _ => rfl⟩⟩
    · have hok : decide (encZ ((a - 192) * 64 + b - 128) = [a, b]) = formOk [a, b] := by
        rw [Bool.eq_iff_iff, formOk_iff, decide_eq_true_iff]; simp only [numZ]
        exact ⟨fun h => ⟨by omega, h⟩, fun h => h.2⟩
      have hnum : numZ [a, b] = (a - 192) * 64 + b - 128 := rfl
      rw [← hok, hnum]
      clear hok hnum
      have hbe := encZ_bytes ((a - 192) * 64 + b - 128)
      have hle := encZ_length ((a - 192) * 64 + b - 128)
      generalize hn : (a - 192) * 64 + b - 128 = nn at *
      have HN := hide hn
      have hn1 : 0 ≤ nn := by omega
      have hn2 : nn < 2147483648 := by omega
      have g : ¬ (a - 192) * 64 + b - 128 < 0 := by omega
      clear hv
      have HL := hide hle
      have HE := hide hbe
      clear hle hbe
      go_enter Tryd.func34, Tryd.ntmps34
      go_wp2_with fail
      go_quiet (fail)
      go_wp2_with fail
      refine (l1bR nn _ (by omega) hn2).mono ?_
      rintro e w1 ⟨v', rfl, hr, hb1⟩
      have HR := hide hr
      have H1 := hide ((H.out.cells (w' := w.drewN nq) rfl).below hb1)
      have hbw : Below w.heap.size w w1 := ⟨hb1.os, hb1.tape, hb1.output, hb1.size, hb1.block⟩
      have HBW := hide hbw
      clear hr hb1 hbw
      go_wp2_with fail
      refine (l1Same (encZ nn) [a, b] _ _ _ HR.out H1.out HE.out HB.out (by have := HL.out; omega) (by simp)).mono ?_
      rintro e w2 ⟨rfl, rfl⟩
      go_wp2
      go_ret2
      exact ⟨_, rfl, fun _ => rfl, HBW.out⟩

set_option maxHeartbeats 1000000 in
set_option maxRecDepth 100000 in
theorem l1Form3 (a b c : Int) (v : Value) (w : World) (h : Rd .u8 w v [a, b, c]) (hb : bytes [a, b, c]) :
    Calls Tryd.prog 34 #[v] w fun e w' => ∃ n, e = .returned (.tuple #[.int .i64 n, .bool (formOk [a, b, c])]) ∧ (formOk [a, b, c] = true → n = numZ [a, b, c]) ∧ Below w.heap.size w w' := by
  obtain ⟨ha0, ha1⟩ := hb a (by simp)
  obtain ⟨hb0, hb1⟩ := hb b (by simp)
  obtain ⟨hc0, hc1⟩ := hb c (by simp)
  have H := hide h
  have HB := hide hb
  rcases h with ⟨_, _, _, e⟩ | ⟨bk, off, cap, rfl, hp, hc⟩
  · cases e
  · simp only [List.length_cons, List.length_nil] at *
    have c0 : w.cell? ⟨bk, off, none⟩ = some (.int .u8 a) := hc 0 (by simp)
    have c1 : w.cell? ⟨bk, off + 1, none⟩ = some (.int .u8 b) := hc 1 (by simp)
    have c2 : w.cell? ⟨bk, off + 2, none⟩ = some (.int .u8 c) := hc 2 (by simp)
    clear hc hp hb
    by_cases hv : (a - 224) * 4096 + (b - 128) * 64 + c - 128 < 0
    · have hok : formOk [a, b, c] = false := by
        rw [Bool.eq_false_iff, ne_eq, formOk_iff]; simp only [numZ]; omega
      rw [hok]
      go_enter Tryd.func34, Tryd.ntmps34
      go_wp2
      go_quiet (fail)
      go_wp2
      go_ret2
      exact ⟨_, rfl, (fun h => by cases h), ⟨rfl, rfl, rfl, Nat.le_refl _, fun _ _ => rfl⟩⟩
    · have hok : decide (encZ ((a - 224) * 4096 + (b - 128) * 64 + c - 128) = [a, b, c]) = formOk [a, b, c] := by
        rw [Bool.eq_iff_iff, formOk_iff, decide_eq_true_iff]; simp only [numZ]
        exact ⟨fun h => ⟨by omega, h⟩, fun h => h.2⟩
      have hnum : numZ [a, b, c] = (a - 224) * 4096 + (b - 128) * 64 + c - 128 := rfl
      rw [← hok, hnum]
      clear hok hnum
      have hbe := encZ_bytes ((a - 224) * 4096 + (b - 128) * 64 + c - 128)
      have hle := encZ_length ((a - 224) * 4096 + (b - 128) * 64 + c - 128)
      generalize hn : (a - 224) * 4096 + (b - 128) * 64 + c - 128 = nn at *
      have HN := hide hn
      have hn1 : 0 ≤ nn := by omega
      have hn2 : nn < 2147483648 := by omega
      have g : ¬ (a - 224) * 4096 + (b - 128) * 64 + c - 128 < 0 := by omega
      clear hv
      have HL := hide hle
      have HE := hide hbe
      clear hle hbe
      go_enter Tryd.func34, Tryd.ntmps34
      go_wp2_with fail
      go_quiet (fail)
      go_wp2_with fail
      refine (l1bR nn _ (by omega) hn2).mono ?_
      rintro e w1 ⟨v', rfl, hr, hb1⟩
      have HR := hide hr
      have H1 := hide ((H.out.cells (w' := w.drewN nq) rfl).below hb1)
      have hbw : Below w.heap.size w w1 := ⟨hb1.os, hb1.tape, hb1.output, hb1.size, hb1.block⟩
      have HBW := hide hbw
      clear hr hb1 hbw
      go_wp2_with fail
      refine (l1Same (encZ nn) [a, b, c] _ _ _ HR.out H1.out HE.out HB.out (by have := HL.out; omega) (by simp)).mono ?_
      rintro e w2 ⟨rfl, rfl⟩
      go_wp2
      go_ret2
      exact ⟨_, rfl, fun _ => rfl, HBW.out⟩

set_option maxHeartbeats 1000000 in
set_option maxRecDepth 100000 in
theorem l1Form4 (a b c d : Int) (v : Value) (w : World) (h : Rd .u8 w v [a, b, c, d]) (hb : bytes [a, b, c, d]) :
    Calls Tryd.prog 34 #[v] w fun e w' => ∃ n, e = .returned (.tuple #[.int .i64 n, .bool (formOk [a, b, c, d])]) ∧ (formOk [a, b, c, d] = true → n = numZ [a, b, c, d]) ∧ Below w.heap.size w w' := by
  obtain ⟨ha0, ha1⟩ := hb a (by simp)
  obtain ⟨hb0, hb1⟩ := hb b (by simp)
  obtain ⟨hc0, hc1⟩ := hb c (by simp)
  obtain ⟨hd0, hd1⟩ := hb d (by simp)
  have H := hide h
  have HB := hide hb
  rcases h with ⟨_, _, _, e⟩ | ⟨bk, off, cap, rfl, hp, hc⟩
  · cases e
  · simp only [List.length_cons, List.length_nil] at *
    have c0 : w.cell? ⟨bk, off, none⟩ = some (.int .u8 a) := hc 0 (by simp)
    have c1 : w.cell? ⟨bk, off + 1, none⟩ = some (.int .u8 b) := hc 1 (by simp)
    have c2 : w.cell? ⟨bk, off + 2, none⟩ = some (.int .u8 c) := hc 2 (by simp)
    have c3 : w.cell? ⟨bk, off + 3, none⟩ = some (.int .u8 d) := hc 3 (by simp)
    clear hc hp hb
    by_cases hv : (a - 240) * 262144 + (b - 128) * 4096 + (c - 128) * 64 + d - 128 < 0
    · have hok : formOk [a, b, c, d] = false := by
        rw [Bool.eq_false_iff, ne_eq, formOk_iff]; simp only [numZ]; omega
      rw [hok]
      go_enter Tryd.func34, Tryd.ntmps34
      go_wp2
      go_quiet (fail)
      go_wp2
      go_ret2
      exact ⟨_, rfl, (fun h => by cases h), ⟨rfl, rfl, rfl, Nat.le_refl _, fun _ _ => rfl⟩⟩
    · have hok : decide (encZ ((a - 240) * 262144 + (b - 128) * 4096 + (c - 128) * 64 + d - 128) = [a, b, c, d]) = formOk [a, b, c, d] := by
        rw [Bool.eq_iff_iff, formOk_iff, decide_eq_true_iff]; simp only [numZ]
        exact ⟨fun h => ⟨by omega, h⟩, fun h => h.2⟩
      have hnum : numZ [a, b, c, d] = (a - 240) * 262144 + (b - 128) * 4096 + (c - 128) * 64 + d - 128 := rfl
      rw [← hok, hnum]
      clear hok hnum
      have hbe := encZ_bytes ((a - 240) * 262144 + (b - 128) * 4096 + (c - 128) * 64 + d - 128)
      have hle := encZ_length ((a - 240) * 262144 + (b - 128) * 4096 + (c - 128) * 64 + d - 128)
      generalize hn : (a - 240) * 262144 + (b - 128) * 4096 + (c - 128) * 64 + d - 128 = nn at *
      have HN := hide hn
      have hn1 : 0 ≤ nn := by omega
      have hn2 : nn < 2147483648 := by omega
      have g : ¬ (a - 240) * 262144 + (b - 128) * 4096 + (c - 128) * 64 + d - 128 < 0 := by omega
      clear hv
      have HL := hide hle
      have HE := hide hbe
      clear hle hbe
      go_enter Tryd.func34, Tryd.ntmps34
      go_wp2_with fail
      go_quiet (fail)
      go_wp2_with fail
      refine (l1bR nn _ (by omega) hn2).mono ?_
      rintro e w1 ⟨v', rfl, hr, hb1⟩
      have HR := hide hr
      have H1 := hide ((H.out.cells (w' := w.drewN nq) rfl).below hb1)
      have hbw : Below w.heap.size w w1 := ⟨hb1.os, hb1.tape, hb1.output, hb1.size, hb1.block⟩
      have HBW := hide hbw
      clear hr hb1 hbw
      go_wp2_with fail
      refine (l1Same (encZ nn) [a, b, c, d] _ _ _ HR.out H1.out HE.out HB.out (by have := HL.out; omega) (by simp)).mono ?_
      rintro e w2 ⟨rfl, rfl⟩
      go_wp2
      go_ret2
      exact ⟨_, rfl, fun _ => rfl, HBW.out⟩

theorem l1Form (q : List Int) (v : Value) (w : World) (h : Rd .u8 w v q) (hb : bytes q) (h1 : 1 ≤ q.length) (h4 : q.length ≤ 4) :
    Calls Tryd.prog 34 #[v] w fun e w' => ∃ n, e = .returned (.tuple #[.int .i64 n, .bool (formOk q)]) ∧ (formOk q = true → n = numZ q) ∧ Below w.heap.size w w' := by
  have hne : q ≠ [] := by rintro rfl; simp at h1
  rcases shape hne with ⟨a, rfl⟩ | ⟨a, b, rfl⟩ | ⟨a, b, c, rfl⟩ | ⟨a, b, c, d, r, rfl⟩
  · exact l1Form1 a v w h hb
  · exact l1Form2 a b v w h hb
  · exact l1Form3 a b c v w h hb
  · obtain rfl : r = [] := by apply List.eq_nil_of_length_eq_zero; simp only [List.length_cons] at h4; omega
    exact l1Form4 a b c d v w h hb
end Go.Proofs.YtmpclndnjjhijadDoor
