import Derived.Test.YtbgngikejgihgaeGreatDoorProg
import Derived.Test.YtbgngikejgihgaeGreatDoorStep
import Derived.WalkKit
import Derived.WalkLawsBesides
import Derived.Laws.BytesString
import Derived.Laws.Cells
namespace Go.Proofs.YtbgngikejgihgaeGreatDoor
open Go Go.RowKit
set_option linter.unusedVariables false

def strOf (ns : List Int) : ByteArray := ns.foldl (fun r n => r.push (UInt8.ofNat n.toNat)) ByteArray.empty

theorem strOf_data (ns : List Int) (s : ByteArray) : (ns.foldl (fun r n => r.push (UInt8.ofNat n.toNat)) s).data.toList = s.data.toList ++ ns.map fun n => UInt8.ofNat n.toNat := by
  induction ns generalizing s with
  | nil => simp
  | cons n ns ih => rw [List.foldl_cons, ih]; simp [ByteArray.push]

theorem strOf_list (ns : List Int) : (strOf ns).data.toList = ns.map fun n => UInt8.ofNat n.toNat := by
  unfold strOf
  rw [strOf_data]; rfl

theorem map_inj {xs ys : List Int} (hx : bytes xs) (hy : bytes ys) (h : (xs.map fun n => UInt8.ofNat n.toNat) = ys.map fun n => UInt8.ofNat n.toNat) : xs = ys := by
  induction xs generalizing ys with
  | nil => cases ys with
    | nil => rfl
    | cons y ys => simp at h
  | cons x xs ih => cases ys with
    | nil => simp at h
    | cons y ys =>
      simp only [List.map_cons, List.cons.injEq] at h
      have h1 := hx x (by simp)
      have h2 := hy y (by simp)
      have e : x = y := by
        have := congrArg UInt8.toNat h.1
        simp at this
        omega
      rw [e, ih (fun z hz => hx z (by simp [hz])) (fun z hz => hy z (by simp [hz])) h.2]

theorem toList_data (s : ByteArray) : s.toList = s.data.toList := by
  exact ByteArray.toList_eq s

theorem same_iff {xs ys : List Int} (hx : bytes xs) (hy : bytes ys) : ((strOf xs).toList == (strOf ys).toList) = decide (xs = ys) := by
  rw [toList_data, toList_data, strOf_list, strOf_list]
  by_cases h : xs = ys
  · subst h; simp
  · rw [decide_eq_false h, beq_eq_false_iff_ne]
    exact fun e => h (map_inj hx hy e)

theorem conv_str {w : World} {v : Value} {zs : List Int} (h : Rd .u8 w v zs) (hp : 0 < zs.length) : (convert 22 9 v).run Tryz.prog w = .ok (.string (strOf zs)) w := by
  rcases h with ⟨_, _, _, rfl⟩ | ⟨b, off, cap, rfl, _, hc⟩
  · simp at hp
  · rw [run_convert_bytes_string w 22 9 5 (some ⟨b, off, none⟩) zs.length cap Tryz.underlying22 Tryz.underlying5 Tryz.underlying9]
    refine run_bytesToString w ⟨b, off, none⟩ zs.length cap zs ?_
    have h1 := run_loadCells_list (P := Tryz.prog) (w := w) ⟨b, off, none⟩ (zs.map (Value.int .u8)) (fun j u hj => by
      rw [addr_add]
      simp only [List.getElem?_map, Option.map_eq_some_iff] at hj
      obtain ⟨z, hz, rfl⟩ := hj
      have hlt : j < zs.length := by
        rcases Nat.lt_or_ge j zs.length with h | h
        · exact h
        · rw [List.getElem?_eq_none h] at hz; cases hz
      rw [hc j hlt, List.getD_eq_getElem?_getD, hz]; rfl)
    simpa using h1

set_option maxHeartbeats 400000 in
theorem l1Same (xs ys : List Int) (v u : Value) (w : World) (h1 : Rd .u8 w v xs) (h2 : Rd .u8 w u ys) (hx : bytes xs) (hy : bytes ys) (hpx : 0 < xs.length) (hpy : 0 < ys.length) :
    Calls Tryz.prog 35 #[v, u] w fun e w' => e = .returned (.bool (decide (xs = ys))) ∧ w' = w := by
  have c1 := conv_str h1 hpx
  have c2 := conv_str h2 hpy
  rw [← same_iff hx hy]
  generalize strOf xs = sx at *
  generalize strOf ys = sy at *
  clear h1 h2
  go_enter Tryz.func35, Tryz.ntmps35
  go_wp2
  go_ret
  exact ⟨rfl, rfl⟩
end Go.Proofs.YtbgngikejgihgaeGreatDoor
