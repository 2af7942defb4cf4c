import Derived.Test.YtmpclndnjjhijaaDoorRead
import Derived.Test.YtmpclndnjjhijaaDoorSpecRead
namespace Go.Proofs.YtmpclndnjjhijaaDoor
open Go Go.RowKit
set_option linter.unusedVariables false

/-- What StoreRead answers. -/
def readOut (zs : List Int) (o l : Int) : List Int × Int × Int :=
  if 0 ≤ o ∧ o ≤ zs.length ∧ 0 ≤ l ∧ l ≤ zs.length - o then ((zs.drop o.toNat).take l.toNat, brk ((zs.drop o.toNat).take l.toNat), 0) else ([], 0, 2)

theorem readOut_len (zs : List Int) (o l : Int) : (readOut zs o l).1.length ≤ zs.length := by
  unfold readOut
  split
  · simp; omega
  · simp

theorem specRead (zs : List Int) (b off cap : Nat) (o l : Int) (w : World) (hc : ∀ i, i < zs.length → w.cell? ⟨b, off + i, none⟩ = some (.int .i32 (zs.getD i 0))) (hcp : zs.length ≤ cap) (hcm : cap ≤ maxLen) (hbB : b < w.heap.size) (hn : zs.length ≤ 1048576) :
    Calls Tryd.prog 5 #[.slice (some ⟨b, off, none⟩) zs.length cap, .agg #[.int .i64 o, .int .i64 l]] w fun e w' => ∃ v', e = .returned (.tuple #[v', .int .i64 (readOut zs o l).2.1, .int .i64 (readOut zs o l).2.2]) ∧ w'.ownsRow w.heap.size 21 1 v' (readOut zs o l).1.length (ints .i32 (readOut zs o l).1) ∧ Below w.heap.size w w' := by
  by_cases h : 0 ≤ o ∧ o ≤ zs.length ∧ 0 ≤ l ∧ l ≤ zs.length - o
  · obtain ⟨o, rfl⟩ := Int.eq_ofNat_of_zero_le h.1
    obtain ⟨l, rfl⟩ := Int.eq_ofNat_of_zero_le h.2.2.1
    have hl : o + l ≤ zs.length := by omega
    rw [readOut, if_pos h]
    simp only [Int.toNat_natCast]
    have e : ((zs.drop o).take l).length = l := by simp; omega
    rw [e]
    exact specRead_ok zs b off cap o l w hc hcp hcm hbB hl hn
  · rw [readOut, if_neg h]
    exact (specRead_bad b off cap zs.length o l w h hn).mono fun e w' ⟨he, hb⟩ => ⟨_, he, World.ownsRow_nil _ _ _ _, hb⟩

theorem implRead (zs : List Int) (b off cap : Nat) (o l : Int) (w : World) (hg : w.cell? ⟨0, 0, none⟩ = some (.iface 80 (.agg #[.pointer (some ⟨2, 41, none⟩)]))) (hc : ∀ i, i < zs.length → w.cell? ⟨b, off + i, none⟩ = some (.int .i32 (zs.getD i 0))) (hcp : zs.length ≤ cap) (hcm : cap ≤ maxLen) (hbB : b < w.heap.size) (hn : zs.length ≤ 1048576) :
    Calls Tryd.prog 8 #[.slice (some ⟨b, off, none⟩) zs.length cap, .agg #[.int .i64 o, .int .i64 l]] w fun e w' => ∃ v', e = .returned (.tuple #[v', .int .i64 (readOut zs o l).2.1, .int .i64 (readOut zs o l).2.2]) ∧ w'.ownsRow w.heap.size 21 1 v' (readOut zs o l).1.length (ints .i32 (readOut zs o l).1) ∧ Below w.heap.size w w' := by
  by_cases h : 0 ≤ o ∧ o ≤ zs.length ∧ 0 ≤ l ∧ l ≤ zs.length - o
  · obtain ⟨o, rfl⟩ := Int.eq_ofNat_of_zero_le h.1
    obtain ⟨l, rfl⟩ := Int.eq_ofNat_of_zero_le h.2.2.1
    have hl : o + l ≤ zs.length := by omega
    rw [readOut, if_pos h]
    simp only [Int.toNat_natCast]
    have e : ((zs.drop o).take l).length = l := by simp; omega
    rw [e]
    exact implRead_ok zs b off cap o l w hc hcp hcm hbB hl hn
  · rw [readOut, if_neg h]
    exact (implRead_bad b off cap zs.length o l w hg h hn).mono fun e w' ⟨he, hb⟩ => ⟨_, he, World.ownsRow_nil _ _ _ _, hb⟩

/-- Over a row that the call owns. -/
theorem specReadO (zs : List Int) (g base : Nat) (o l : Int) (w : World) (h : w.ownsRow base 21 1 (.slice (some ⟨g, 0, none⟩) zs.length zs.length) zs.length (ints .i32 zs)) (hn : zs.length ≤ 1048576) :
    Calls Tryd.prog 5 #[.slice (some ⟨g, 0, none⟩) zs.length zs.length, .agg #[.int .i64 o, .int .i64 l]] w fun e w' => ∃ v', e = .returned (.tuple #[v', .int .i64 (readOut zs o l).2.1, .int .i64 (readOut zs o l).2.2]) ∧ w'.ownsRow w.heap.size 21 1 v' (readOut zs o l).1.length (ints .i32 (readOut zs o l).1) ∧ Below w.heap.size w w' :=
  specRead zs g 0 zs.length o l w (fun i hi => by rw [Nat.zero_add]; exact owns_cell h i hi) (Nat.le_refl _) (by unfold maxLen; omega) (h.lt g rfl).2 hn
theorem implReadO (zs : List Int) (g base : Nat) (o l : Int) (w : World) (hg : w.cell? ⟨0, 0, none⟩ = some (.iface 80 (.agg #[.pointer (some ⟨2, 41, none⟩)]))) (h : w.ownsRow base 21 1 (.slice (some ⟨g, 0, none⟩) zs.length zs.length) zs.length (ints .i32 zs)) (hn : zs.length ≤ 1048576) :
    Calls Tryd.prog 8 #[.slice (some ⟨g, 0, none⟩) zs.length zs.length, .agg #[.int .i64 o, .int .i64 l]] w fun e w' => ∃ v', e = .returned (.tuple #[v', .int .i64 (readOut zs o l).2.1, .int .i64 (readOut zs o l).2.2]) ∧ w'.ownsRow w.heap.size 21 1 v' (readOut zs o l).1.length (ints .i32 (readOut zs o l).1) ∧ Below w.heap.size w w' :=
  implRead zs g 0 zs.length o l w hg (fun i hi => by rw [Nat.zero_add]; exact owns_cell h i hi) (Nat.le_refl _) (by unfold maxLen; omega) (h.lt g rfl).2 hn
end Go.Proofs.YtmpclndnjjhijaaDoor
