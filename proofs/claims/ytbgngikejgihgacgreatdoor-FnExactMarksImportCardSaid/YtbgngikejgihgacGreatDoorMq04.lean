import Derived.Test.YtbgngikejgihgacGreatDoorProg
import Derived.Test.YtbgngikejgihgacGreatDoorMq03
import Derived.WalkKit
import Derived.WalkLawsBesides
import Derived.Laws.BytesString
import Derived.Laws.Cells
import Derived.Test.YtbgngikejgihgacGreatDoorMq02
import Derived.Laws.Rows
import Derived.Deep.RegionWith
import Derived.Deep.Cut
import Derived.Deep.CutRange
import Derived.Deep.CutBlock
import Derived.Deep.DeepCutAuto
import Derived.LaidEql
import Derived.Stop.Asserts
import Derived.RowKitTokens
namespace Go.Proofs.YtbgngikejgihgacGreatDoor
open Go Go.RowKit
set_option linter.unusedVariables false

def strOf (ns : List Int) : ByteArray := ns.foldl (fun r n => r.push (UInt8.ofNat n.toNat)) ByteArray.empty

theorem strOf_data (ns : List Int) (s : ByteArray) : (ns.foldl (fun r n => r.push (UInt8.ofNat n.toNat)) s).data.toList = s.data.toList ++ ns.map fun n => UInt8.ofNat n.toNat := by
  induction ns generalizing s with
  | nil => simp
  | cons n ns ih => rw [List.foldl_cons, ih]; simp [ByteArray.push]

theorem strOf_list (ns : List Int) : (strOf ns).data.toList = ns.map fun n => UInt8.ofNat n.toNat := by
  unfold strOf
  rw [strOf_data]; rfl

theorem map_inj {xs ys : List Int} (hx : bytes xs) (hy : bytes ys) (h : (xs.map fun n => UInt8.ofNat n.toNat) = ys.map fun n => UInt8.ofNat n.toNat) : xs = ys := by
  induction xs generalizing ys with
  | nil => cases ys with
    | nil => rfl
    | cons y ys => simp at h
  | cons x xs ih => cases ys with
    | nil => simp at h
    | cons y ys =>
      simp only [List.map_cons, List.cons.injEq] at h
      have h1 := hx x (by simp)
      have h2 := hy y (by simp)
      have e : x = y := by
        have := congrArg UInt8.toNat h.1
        simp at this
        omega
      rw [e, ih (fun z hz => hx z (by simp [hz])) (fun z hz => hy z (by simp [hz])) h.2]

theorem toList_data (s : ByteArray) : s.toList = s.data.toList := by
  exact ByteArray.toList_eq s

theorem same_iff {xs ys : List Int} (hx : bytes xs) (hy : bytes ys) : ((strOf xs).toList == (strOf ys).toList) = decide (xs = ys) := by
  rw [toList_data, toList_data, strOf_list, strOf_list]
  by_cases h : xs = ys
  · subst h; simp
  · rw [decide_eq_false h, beq_eq_false_iff_ne]
    exact fun e => h (map_inj hx hy e)

theorem conv_str {w : World} {v : Value} {zs : List Int} (h : Rd .u8 w v zs) (hp : 0 < zs.length) : (convert 22 9 v).run Tryz.prog w = .ok (.string (strOf zs)) w := by
  rcases h with ⟨_, _, _, rfl⟩ | ⟨b, off, cap, rfl, _, hc⟩
  · simp at hp
  · rw [run_convert_bytes_string w 22 9 5 (some ⟨b, off, none⟩) zs.length cap Tryz.underlying22 Tryz.underlying5 Tryz.underlying9]
    refine run_bytesToString w ⟨b, off, none⟩ zs.length cap zs ?_
    have h1 := run_loadCells_list (P := Tryz.prog) (w := w) ⟨b, off, none⟩ (zs.map (Value.int .u8)) (fun j u hj => by
      rw [addr_add]
      simp only [List.getElem?_map, Option.map_eq_some_iff] at hj
      obtain ⟨z, hz, rfl⟩ := hj
      have hlt : j < zs.length := by
        rcases Nat.lt_or_ge j zs.length with h | h
        · exact h
        · rw [List.getElem?_eq_none h] at hz; cases hz
      rw [hc j hlt, List.getD_eq_getElem?_getD, hz]; rfl)
    simpa using h1

set_option maxHeartbeats 400000 in
theorem l1Same (xs ys : List Int) (v u : Value) (w : World) (h1 : Rd .u8 w v xs) (h2 : Rd .u8 w u ys) (hx : bytes xs) (hy : bytes ys) (hpx : 0 < xs.length) (hpy : 0 < ys.length) :
    Calls Tryz.prog 26 #[v, u] w fun e w' => e = .returned (.bool (decide (xs = ys))) ∧ w' = w := by
  have c1 := conv_str h1 hpx
  have c2 := conv_str h2 hpy
  rw [← same_iff hx hy]
  generalize strOf xs = sx at *
  generalize strOf ys = sy at *
  clear h1 h2
  go_enter Tryz.func26, Tryz.ntmps26
  go_wp2
  go_ret
  exact ⟨rfl, rfl⟩
end Go.Proofs.YtbgngikejgihgacGreatDoor

namespace Go.Proofs.YtbgngikejgihgacGreatDoor
open Go Go.RowKit
set_option linter.unusedVariables false

def mkV (x : Mk) : List Value := [.int .i64 x.1, .int .i64 x.2.1, .int .i64 x.2.2]
def mkA (x : Mk) : Value := .agg #[.int .i64 x.1, .int .i64 x.2.1, .int .i64 x.2.2]
def mkVs (xs : List Mk) : List Value := xs.flatMap mkV
theorem mkVs_length (xs : List Mk) : (mkVs xs).length = xs.length * 3 := by
  induction xs with
  | nil => rfl
  | cons x xs ih => simp only [mkVs, List.flatMap_cons, List.length_append] at ih ⊢; rw [ih]; simp [mkV]; omega
theorem mkVs_append (a b : List Mk) : mkVs (a ++ b) = mkVs a ++ mkVs b := by simp [mkVs]
theorem mkVs_get (xs : List Mk) (i k : Nat) (x : Mk) (h : xs[i]? = some x) (hk : k < 3) : (mkVs xs)[i * 3 + k]? = (mkV x)[k]? := by
  induction xs generalizing i with
  | nil => simp at h
  | cons y ys ih =>
    cases i with
    | zero =>
      simp at h; subst h
      simp only [mkVs, List.flatMap_cons, Nat.zero_mul, Nat.zero_add]
      rw [List.getElem?_append_left (by simp [mkV]; omega)]
    | succ i =>
      simp only [List.getElem?_cons_succ] at h
      have := ih i h
      simp only [mkVs, List.flatMap_cons] at this ⊢
      rw [List.getElem?_append_right (by simp [mkV]; omega)]
      rw [← this]
      congr 1
      simp [mkV]; omega
theorem mkVs_set (a : List Mk) (y x : Mk) (b : List Mk) : (((mkVs (a ++ y :: b)).set (a.length * 3) (.int .i64 x.1)).set (a.length * 3 + 1) (.int .i64 x.2.1)).set (a.length * 3 + 2) (.int .i64 x.2.2) = mkVs (a ++ x :: b) := by
  have e : ∀ z : Mk, mkVs (a ++ z :: b) = mkVs a ++ ([.int .i64 z.1, .int .i64 z.2.1, .int .i64 z.2.2] ++ mkVs b) := fun z => by simp [mkVs, mkV]
  have hl := mkVs_length a
  rw [e, e]
  rw [List.set_append_right _ _ (by omega), List.set_append_right _ _ (by omega), List.set_append_right _ _ (by omega), hl]
  rw [Nat.sub_self, show a.length * 3 + 1 - a.length * 3 = 1 by omega, show a.length * 3 + 2 - a.length * 3 = 2 by omega]
  rfl
/-- A mark lies at a place. -/
def MkAt (w : World) (b o : Nat) (x : Mk) : Prop :=
  w.cell? ⟨b, o, none⟩ = some (.int .i64 x.1) ∧ w.cell? ⟨b, o + 1, none⟩ = some (.int .i64 x.2.1) ∧ w.cell? ⟨b, o + 2, none⟩ = some (.int .i64 x.2.2)

/-- A slice value that reads as these marks, in a block below B. -/
def RdM (B : Nat) (w : World) (v : Value) (xs : List Mk) : Prop :=
  (∃ ao cap, v = .slice ao 0 cap ∧ xs = []) ∨
  (∃ b off cap, v = .slice (some ⟨b, off, none⟩) xs.length cap ∧ (0 < xs.length ∧ xs.length ≤ cap ∧ cap ≤ maxLen) ∧ b < B ∧ ∀ i x, xs[i]? = some x → MkAt w b (off + i * 3) x)

theorem RdM.below {B B' : Nat} {w w' : World} {v : Value} {xs : List Mk} (h : RdM B w v xs) (hb : Below B' w w') (hB : B ≤ B') : RdM B w' v xs := by
  rcases h with h | ⟨b, off, cap, hv, hp, hl, hc⟩
  · exact .inl h
  · refine .inr ⟨b, off, cap, hv, hp, hl, fun i x hx => ?_⟩
    have hk : ∀ o, w'.cell? ⟨b, o, none⟩ = w.cell? ⟨b, o, none⟩ := fun o => hb.cell (p := ⟨b, o, none⟩) (by show b < B'; omega)
    have := hc i x hx
    unfold MkAt at this ⊢
    rw [hk, hk, hk]; exact this
theorem RdM.heap {B : Nat} {w w' : World} {v : Value} {xs : List Mk} (h : RdM B w v xs) (hb : w'.heap = w.heap) : RdM B w' v xs := by
  rcases h with h | ⟨b, off, cap, hv, hp, hl, hc⟩
  · exact .inl h
  · refine .inr ⟨b, off, cap, hv, hp, hl, fun i x hx => ?_⟩
    have hk : ∀ o, w'.cell? ⟨b, o, none⟩ = w.cell? ⟨b, o, none⟩ := fun o => World.cell?_of_block (w := w) (by rw [hb])
    have := hc i x hx
    unfold MkAt at this ⊢
    rw [hk, hk, hk]; exact this
theorem RdM.mono {B B' : Nat} {w : World} {v : Value} {xs : List Mk} (h : RdM B w v xs) (hB : B ≤ B') : RdM B' w v xs := by
  rcases h with h | ⟨b, off, cap, hv, hp, hl, hc⟩
  · exact .inl h
  · exact .inr ⟨b, off, cap, hv, hp, by omega, hc⟩
theorem RdM.val {B : Nat} {w : World} {v : Value} {xs : List Mk} (h : RdM B w v xs) : ∃ ao cap, v = .slice ao xs.length cap := by
  rcases h with ⟨ao, cap, rfl, rfl⟩ | ⟨b, off, cap, rfl, _⟩
  · exact ⟨_, _, rfl⟩
  · exact ⟨_, _, rfl⟩
theorem RdM.at {B : Nat} {w : World} {v : Value} {xs : List Mk} (h : RdM B w v xs) (h0 : xs ≠ []) : ∃ b off cap, v = .slice (some ⟨b, off, none⟩) xs.length cap ∧ (0 < xs.length ∧ xs.length ≤ cap ∧ cap ≤ maxLen) ∧ b < B ∧ ∀ i x, xs[i]? = some x → MkAt w b (off + i * 3) x := by
  rcases h with ⟨ao, cap, rfl, rfl⟩ | h
  · exact absurd rfl h0
  · exact h

/-- The call's own marks. -/
def OwM (w : World) (base : Nat) (v : Value) (xs : List Mk) : Prop := w.ownsRow base 35 3 v xs.length (mkVs xs)

theorem OwM.rd {w : World} {base : Nat} {v : Value} {xs : List Mk} (h : OwM w base v xs) : RdM w.heap.size w v xs := by
  unfold OwM at h
  have hlt := h.lt
  rcases h.2 with ⟨hv, hn⟩ | ⟨g, cap, cur, hv, hrest⟩
  · left; exact ⟨none, 0, by rw [hv], by apply List.eq_nil_of_length_eq_zero; omega⟩
  · obtain ⟨hb, hg, hcap, hcm, hsz, htk⟩ := hrest
    subst hv
    have hgl := (hlt g rfl).2
    by_cases h0 : xs.length = 0
    · left; rw [h0]; exact ⟨_, _, rfl, by apply List.eq_nil_of_length_eq_zero; exact h0⟩
    · right
      refine ⟨g, 0, cap, rfl, ⟨by omega, hcap, hcm⟩, hgl, fun i x hx => ?_⟩
      have hil : i < xs.length := by
        rcases Nat.lt_or_ge i xs.length with q | q
        · exact q
        · rw [List.getElem?_eq_none q] at hx; cases hx
      have key : ∀ k, k < 3 → w.cell? ⟨g, i * 3 + k, none⟩ = (mkV x)[k]? := fun k hk => by
        rw [cell_of_row w g _ _ _ _ hg, ← mkVs_get xs i k x hx hk, ← htk, List.getElem?_take, if_pos (by omega)]
        simp
      have k0 := key 0 (by omega)
      have k1 := key 1 (by omega)
      have k2 := key 2 (by omega)
      simp only [Nat.zero_add]
      exact ⟨k0, k1, k2⟩
theorem OwM.below {w w' : World} {base B : Nat} {v : Value} {xs : List Mk} (h : OwM w base v xs) (hb : Below B w w') (hB : w.heap.size ≤ B) : OwM w' base v xs := owns_below h hb hB
theorem OwM.base {w : World} {base base' : Nat} {v : Value} {xs : List Mk} (h : OwM w base v xs) (hb : base' ≤ base) : OwM w base' v xs := owns_base h hb
theorem OwM.shape {w : World} {base : Nat} {v : Value} {xs : List Mk} (h : OwM w base v xs) : (v = .slice none 0 0 ∧ xs = []) ∨ ∃ g cap, v = .slice (some ⟨g, 0, none⟩) xs.length cap ∧ xs.length ≤ cap ∧ cap ≤ maxLen ∧ base ≤ g ∧ g < w.heap.size := by
  rcases h.2 with ⟨h1, h2⟩ | ⟨g, cap, cur, h1, h2, h3, h4, h5, _⟩
  · exact .inl ⟨h1, List.eq_nil_of_length_eq_zero h2⟩
  · exact .inr ⟨g, cap, h1, h4, h5, h2, (h.lt g (by rw [h1]; rfl)).2⟩
theorem OwM.cells {w : World} {base g cap : Nat} {xs : List Mk} (h : OwM w base (.slice (some ⟨g, 0, none⟩) xs.length cap) xs) : ∀ j u, (mkVs xs)[j]? = some u → w.cell? ((⟨g, 0, none⟩ : Addr).add j) = some u := by
  intro j u hj
  have h1 := h.cellAt j (by have := (List.getElem?_eq_some_iff.1 hj).1; rw [mkVs_length] at this; omega)
  rw [Addr.add_lit, Nat.zero_add, h1, hj]
theorem OwM.val {w : World} {base : Nat} {v : Value} {xs : List Mk} (h : OwM w base v xs) : ∃ ao cap, v = .slice ao xs.length cap := h.rd.val

theorem mkAt_of {w : World} {b off : Nat} {xs : List Mk} (h : ∀ i x, xs[i]? = some x → MkAt w b (off + i * 3) x) {j : Nat} (hj : j < xs.length) : ∃ x, xs[j]? = some x ∧ MkAt w b (off + j * 3) x :=
  ⟨xs[j], by simp [hj], h j _ (by simp [hj])⟩
theorem own_cell3 {w : World} {base g cap n : Nat} {e : TypeId} {xs : List Value} (h : w.ownsRow base e 3 (.slice (some ⟨g, 0, none⟩) n cap) n xs) (j : Nat) (hj : j < n * 3) : ∃ v, w.cell? ⟨g, j, none⟩ = some v := by
  have h1 := h.cellAt j hj
  have hl := h.1
  refine ⟨xs[j]'(by omega), ?_⟩
  rw [h1, List.getElem?_eq_getElem (by omega)]

theorem own_offM {w : World} {base b n : Nat} {e t : TypeId} {size : Nat} {v : Value} {xs : List Value} {cs : Array Value} {fz : Nat × Nat} (ho : w.ownsRow base e size v n xs) (hb : w.heap[b]? = some (.cells cs t fz)) (hne : e ≠ t) : some b ≠ v.ownBlock := by
  rcases ho.2 with ⟨rfl, _⟩ | ⟨g', cap', cur, rfl, _, hg, _⟩
  · simp [Value.ownBlock]
  · intro h
    simp only [Value.ownBlock, Option.some.injEq] at h
    subst h
    rw [hb] at hg
    cases hg
    exact hne rfl

theorem Tryz.infoMK : (Tryz.prog.info? 35).map (fun i => (i.zero, i.size, i.bytes)) = some (some (.agg #[.int .i64 0, .int .i64 0, .int .i64 0]), 3, 24) := by kernel_rfl
/-- The marks that the laws write. -/
def mmk (k0 : Int) (n : Nat) : List Mk := (List.range n).map fun i : Nat => (k0 + 3 * (i : Int), k0 + 3 * (i : Int) + 1, k0 + 3 * (i : Int) + 1 + 1)
theorem mmk_length (k0 : Int) (n : Nat) : (mmk k0 n).length = n := by simp [mmk]
theorem mmk_get {k0 : Int} {n i : Nat} (h : i < n) : (mmk k0 n)[i]? = some (k0 + 3 * (i : Int), k0 + 3 * (i : Int) + 1, k0 + 3 * (i : Int) + 1 + 1) := by simp [mmk, h]
theorem mmk_set {k0 : Int} {j : Nat} {xs : List Mk} (h : j < xs.length) : (((mkVs (mmk k0 j ++ xs.drop j)).set (j * 3) (.int .i64 (k0 + 3 * j))).set (j * 3 + 1) (.int .i64 (k0 + 3 * j + 1))).set (j * 3 + 2) (.int .i64 (k0 + 3 * j + 1 + 1)) = mkVs (mmk k0 (j + 1) ++ xs.drop (j + 1)) := by
  rw [List.drop_eq_getElem_cons h]
  have e := mkVs_set (mmk k0 j) xs[j] (k0 + 3 * (j : Int), k0 + 3 * (j : Int) + 1, k0 + 3 * (j : Int) + 1 + 1) (xs.drop (j + 1))
  rw [mmk_length] at e
  simp only at e
  rw [e]
  congr 1
  simp [mmk, List.range_succ]

end Go.Proofs.YtbgngikejgihgacGreatDoor

namespace Go.Proofs.YtbgngikejgihgacGreatDoor
open Go.RowKit Go.Extern.Stop Go.Stop Go.Extern

theorem Tryz.valueOfP (t : Addr) (w : World) : (ReflectliteValue.unpack (.iface 59 (.pointer (some t)))).run Tryz.prog w
    = .ok (.agg #[.pointer (some ⟨9, 59, none⟩), .pointer (some ⟨w.heap.size, 0, none⟩), .int .u64 150]) (w.alloc (.cells #[.pointer (some t)] 59)) := by kernel_rfl
theorem Tryz.typeP (a : Addr) (w : World) : (ReflectliteValue.methodAny (ReflectliteValue.valueError "reflectlite.Value.Type" 0) (fun t _ _ _ => ReflectliteType.toType t) #[.agg #[.pointer (some ⟨9, 59, none⟩), .pointer (some a), .int .u64 150]]).run Tryz.prog w
    = .ok (.iface 96 (.agg #[.pointer (some ⟨9, 59, none⟩)])) w := by kernel_rfl
theorem Tryz.kindP (w : World) : ((ReflectliteType.abiMethod fun t => (fun a : Nat => Value.int IntKind.u8 (a : Int)) <$> Rtype.kind t) #[.pointer (some ⟨9, 59, none⟩)]).run Tryz.prog w = .ok (.int .u8 22) w := by kernel_rfl
theorem Tryz.kindF (w : World) : ((ReflectliteType.abiMethod fun t => (fun a : Nat => Value.int IntKind.u8 (a : Int)) <$> Rtype.kind t) #[.pointer (some ⟨9, 57, none⟩)]).run Tryz.prog w = .ok (.int .u8 2) w := by kernel_rfl
theorem Tryz.partsP (a : Addr) (w : World) : (ReflectliteValue.parts (.agg #[.pointer (some ⟨9, 59, none⟩), .pointer (some a), .int .u64 150])).run Tryz.prog w = .ok (some (59, a, 150)) w := by kernel_rfl
theorem Tryz.elemP (w : World) : (ReflectliteType.method ReflectliteType.elem #[.agg #[.pointer (some ⟨9, 59, none⟩)]]).run Tryz.prog w = .ok (.iface 96 (.agg #[.pointer (some ⟨9, 57, none⟩)])) w := by kernel_rfl
theorem Tryz.implementsF (w : World) : (ReflectliteType.relation "Implements" ReflectliteType.implements_ #[.agg #[.pointer (some ⟨9, 57, none⟩)], .iface 96 (.agg #[.pointer (some ⟨9, 45, none⟩)])]).run Tryz.prog w = .ok (.bool true) w := by kernel_rfl
theorem Tryz.typeOfW (v : Value) (w : World) : (ReflectliteType.typeOf #[.iface 55 v]).run Tryz.prog w = .ok (.iface 96 (.agg #[.pointer (some ⟨9, 55, none⟩)])) w := by kernel_rfl
theorem Tryz.typeOfF (v : Value) (w : World) : (ReflectliteType.typeOf #[.iface 57 v]).run Tryz.prog w = .ok (.iface 96 (.agg #[.pointer (some ⟨9, 57, none⟩)])) w := by kernel_rfl
theorem Tryz.assignableW (w : World) : (ReflectliteType.relation "AssignableTo" ReflectliteType.assignableTo #[.agg #[.pointer (some ⟨9, 55, none⟩)], .iface 96 (.agg #[.pointer (some ⟨9, 57, none⟩)])]).run Tryz.prog w = .ok (.bool false) w := by kernel_rfl
theorem Tryz.assignableF (w : World) : (ReflectliteType.relation "AssignableTo" ReflectliteType.assignableTo #[.agg #[.pointer (some ⟨9, 57, none⟩)], .iface 96 (.agg #[.pointer (some ⟨9, 57, none⟩)])]).run Tryz.prog w = .ok (.bool true) w := by kernel_rfl
theorem Tryz.valueOfF (n : Int) (w : World) : (ReflectliteValue.unpack (.iface 57 (.int .i64 n))).run Tryz.prog w
    = .ok (.agg #[.pointer (some ⟨9, 57, none⟩), .pointer (some ⟨w.heap.size, 0, none⟩), .int .u64 130]) (w.alloc (.cells #[.int .i64 n] 57)) := by kernel_rfl
theorem Tryz.elemOfP (w : World) : (Rtype.elem? 59).run Tryz.prog w = .ok (some 57) w := by kernel_rfl
theorem Tryz.mkF (p : Addr) (w : World) : (ReflectliteValue.mk 57 p ReflectliteValue.flagAddr).run Tryz.prog w = .ok (.agg #[.pointer (some ⟨9, 57, none⟩), .pointer (some p), .int .u64 386]) w := by kernel_rfl
theorem Tryz.partsFa (a : Addr) (w : World) : (ReflectliteValue.parts (.agg #[.pointer (some ⟨9, 57, none⟩), .pointer (some a), .int .u64 386])).run Tryz.prog w = .ok (some (57, a, 386)) w := by kernel_rfl
theorem Tryz.partsF (a : Addr) (w : World) : (ReflectliteValue.parts (.agg #[.pointer (some ⟨9, 57, none⟩), .pointer (some a), .int .u64 130])).run Tryz.prog w = .ok (some (57, a, 130)) w := by kernel_rfl
theorem Tryz.directF (w : World) : (Rtype.directlyAssignable 57 57).run Tryz.prog w = .ok true w := by kernel_rfl
end Go.Proofs.YtbgngikejgihgacGreatDoor

namespace Go.Proofs.YtbgngikejgihgacGreatDoor
open Go.RowKit Go.Extern.Stop Go.Stop Go.Extern

theorem Tryz.isNilP (a p : Addr) (W : World) (ha : W.cell? a = some (.pointer (some p))) :
    (ReflectliteValue.method (ReflectliteValue.valueError "reflectlite.Value.IsNil" 0) ReflectliteValue.isNil #[.agg #[.pointer (some ⟨9, 59, none⟩), .pointer (some a), .int .u64 150]]).run Tryz.prog W = .ok (.bool false) W := by
  show (Bind.bind (ReflectliteValue.parts (.agg #[.pointer (some ⟨9, 59, none⟩), .pointer (some a), .int .u64 150])) _ : Sem Value).run Tryz.prog W = _
  simp only [Sem.run_bind, Tryz.partsP, Result.andThen]
  simp [ReflectliteValue.isNil, loadVar, isAgg, underlying, Tryz.underlying59, ha, Result.andThen]
theorem Tryz.elemVP (a p : Addr) (W : World) (ha : W.cell? a = some (.pointer (some p))) :
    (ReflectliteValue.method (ReflectliteValue.valueError "reflectlite.Value.Elem" 0) ReflectliteValue.elem #[.agg #[.pointer (some ⟨9, 59, none⟩), .pointer (some a), .int .u64 150]]).run Tryz.prog W
      = .ok (.agg #[.pointer (some ⟨9, 57, none⟩), .pointer (some p), .int .u64 386]) W := by
  show (Bind.bind (ReflectliteValue.parts (.agg #[.pointer (some ⟨9, 59, none⟩), .pointer (some a), .int .u64 150])) _ : Sem Value).run Tryz.prog W = _
  simp only [Sem.run_bind, Tryz.partsP, Result.andThen]
  simp [ReflectliteValue.elem, loadVar, isAgg, underlying, Tryz.underlying59, ha, Result.andThen, Tryz.elemOfP, Tryz.mkF]
theorem Tryz.setF (ta b : Addr) (n : Int) (old : Value) (W : World) (hb : W.cell? b = some (.int .i64 n)) (ht : W.cell? ta = some old) (hf : W.frozen? ta = false) :
    (ReflectliteValue.set #[.agg #[.pointer (some ⟨9, 57, none⟩), .pointer (some ta), .int .u64 386], .agg #[.pointer (some ⟨9, 57, none⟩), .pointer (some b), .int .u64 130]]).run Tryz.prog W
      = .ok (.tuple #[]) (W.setCell ta (.int .i64 n)) := by
  show (Bind.bind (ReflectliteValue.parts (.agg #[.pointer (some ⟨9, 57, none⟩), .pointer (some ta), .int .u64 386])) _ : Sem Value).run Tryz.prog W = _
  rw [Sem.run_bind, Tryz.partsFa]
  simp only [Result.andThen]
  show (Bind.bind (ReflectliteValue.parts (.agg #[.pointer (some ⟨9, 57, none⟩), .pointer (some b), .int .u64 130])) _ : Sem Value).run Tryz.prog W = _
  rw [Sem.run_bind, Tryz.partsF]
  simp only [Result.andThen]
  simp [ReflectliteValue.flagAddr, loadVar, isAgg, underlying, Tryz.underlying57, hb, Result.andThen, Tryz.directF, storeVar, Value.cells, storeCells, Addr.add]
  rw [run_store Tryz.prog W ta _ _ (by rfl)]
  simp [ht, hf]
end Go.Proofs.YtbgngikejgihgacGreatDoor
