import Derived.Test.YtdjdkgidihhkfabDoorMkCmp
import Derived.Test.YtdjdkgidihhkfabDoorMkLay
import Derived.Shelf.SlSortCmp.NoneTotal
import Derived.Shelf.Abstract
namespace Go.Proofs.YtdjdkgidihhkfabDoor
open Go Go.RowKit Go.Lib Go.Sort Go.Shelf
set_option linter.unusedVariables false

theorem flat_toList (ys : List Mk) : (flatK mkV 3 ys.toArray).toList = mkVs ys := by
  apply List.ext_getElem?
  intro t
  by_cases ht : t < ys.length * 3
  · have hq : t / 3 < ys.length := by omega
    have hx : ys[t / 3]? = some ys[t / 3] := by simp [hq]
    have hg := mkVs_get ys (t / 3) (t % 3) _ hx (by omega)
    rw [show t / 3 * 3 + t % 3 = t by omega] at hg
    rw [hg]
    have hs : t < (flatK mkV 3 ys.toArray).size := by rw [size_flatK]; simpa using ht
    have e1 := get_flatK mkV 3 ys.toArray t (by simpa using ht)
    rw [getElem!_pos _ t hs] at e1
    rw [Array.getElem?_toList, Array.getElem?_eq_getElem hs, e1]
    have e2 : ys.toArray[t / 3]! = ys[t / 3] := by rw [getElem!_pos _ _ (by simpa using hq)]; simp
    rw [e2]
    have h3 : t % 3 = 0 ∨ t % 3 = 1 ∨ t % 3 = 2 := by omega
    rcases h3 with e | e | e <;> rw [e] <;> rfl
  · have e1 : (mkVs ys)[t]? = none := List.getElem?_eq_none (by rw [mkVs_length]; omega)
    have e2 : (flatK mkV 3 ys.toArray).toList[t]? = none := List.getElem?_eq_none (by rw [Array.length_toList, size_flatK]; simp; omega)
    rw [e1, e2]

theorem holds_own {w : World} {base g cap : Nat} {xs : List Mk} (h : OwM w base (.slice (some ⟨g, 0, none⟩) xs.length cap) xs) : HoldsK mkV 3 w g 0 xs.toArray := by
  intro j hj
  rw [size_flatK] at hj
  have hj' : j < xs.length * 3 := by simpa using hj
  have h1 := h.cellAt j hj'
  have h2 : w.frozen? ⟨g, j, none⟩ = false := h.frozenAt j
  rw [Nat.zero_add]
  refine ⟨?_, h2⟩
  rw [h1, ← flat_toList]
  have hs : j < (flatK mkV 3 xs.toArray).size := by rw [size_flatK]; exact hj
  rw [Array.getElem?_toList, Array.getElem?_eq_getElem hs, getElem!_pos _ j hs]
  rfl

theorem own_put {w : World} {base g cap : Nat} {xs ys : List Mk} (h : OwM w base (.slice (some ⟨g, 0, none⟩) xs.length cap) xs) (hy : ys.length = xs.length) (q : Nat) (os : Array Obj) :
    OwM (sortWorldK mkV 3 w g 0 q ys.toArray os) base (.slice (some ⟨g, 0, none⟩) xs.length cap) ys := by
  have hlt := (h.lt g rfl).2
  rcases h.2 with ⟨e0, _⟩ | ⟨g', cap', cur, e0, hb, hg, hn, hm, hs, ht⟩
  · cases e0
  · cases e0
    unfold OwM
    rw [hy]
    refine ⟨by rw [mkVs_length, hy], .inr ⟨g, cap, putCells id 0 (flatK mkV 3 ys.toArray) cur, rfl, hb, ?_, hn, hm, by simpa [putCells] using hs, ?_⟩⟩
    · unfold sortWorldK grow putRowK
      show ((putRow id (Sort.ahead w q) g 0 (flatK mkV 3 ys.toArray)).heap ++ os)[g]? = _
      rw [Array.getElem?_append_left (by simpa [putRow, mapBlock, Sort.ahead] using hlt)]
      simp [putRow, mapBlock, Sort.ahead, Array.getElem?_modify, hg, onCells]
    · rw [← flat_toList]
      apply List.ext_getElem?
      intro j
      rw [List.getElem?_take, Array.getElem?_toList, Array.getElem?_toList]
      by_cases hj : j < xs.length * 3
      · have hjc : j < cur.size := by
          have := Nat.mul_le_mul_right 3 hn
          omega
        have hs2 : j < (flatK mkV 3 ys.toArray).size := by rw [size_flatK]; simp; omega
        rw [if_pos hj]
        simp only [putCells, Array.getElem?_mapIdx, Array.getElem?_eq_getElem hjc, Option.map_some]
        rw [if_pos (by omega), Array.getElem?_eq_getElem hs2, Nat.sub_zero, getElem!_pos _ j hs2]
        rfl
      · rw [if_neg hj, Array.getElem?_eq_none (by rw [size_flatK]; simp; omega)]

theorem put_grown (w : World) (g : Nat) (d : Array Mk) (q : Nat) (os : Array Obj) : w.grownBy (sortWorldK mkV 3 w g 0 q d os) (some g) := by
  refine ⟨rfl, rfl, rfl, ?_, fun k hk hne => ?_⟩
  · show w.heap.size ≤ ((putRow id (Sort.ahead w q) g 0 (flatK mkV 3 d)).heap ++ os).size
    simp [putRow, mapBlock, Sort.ahead]
  · show ((putRow id (Sort.ahead w q) g 0 (flatK mkV 3 d)).heap ++ os)[k]? = w.heap[k]?
    rw [Array.getElem?_append_left (by simpa [putRow, mapBlock, Sort.ahead] using hk)]
    have hne' : g ≠ k := fun e => hne (by rw [e])
    simp [putRow, mapBlock, Sort.ahead, Array.getElem?_modify, hne']

theorem ltM (x y : Mk) : ltOf cmpM x y = bef x y := by
  unfold ltOf
  cases h : bef x y with
  | true => exact decide_eq_true ((cmpM_neg x y).2 h)
  | false => exact decide_eq_false fun q => by rw [(cmpM_neg x y).1 q] at h; cases h
theorem swoM : SWO (ltOf cmpM) where
  irrefl x := by rw [ltM]; exact bef_irrefl x
  trans x y z h1 h2 := by rw [ltM] at *; exact bef_trans h1 h2
  ntrans x y z h1 h2 := by
    rw [ltM] at *
    have a1 : ¬ (x.2.1 < y.2.1 ∨ (x.2.1 = y.2.1 ∧ x.1 < y.1)) := by rw [← bef_iff, h1]; simp
    have a2 : ¬ (y.2.1 < z.2.1 ∨ (y.2.1 = z.2.1 ∧ y.1 < z.1)) := by rw [← bef_iff, h2]; simp
    cases h3 : bef x z with
    | false => rfl
    | true => rw [bef_iff] at h3; omega

theorem entersBP : ∀ args w, (callFunc 96 args).run Tryd.prog w = .ok (.enter 96 args) w := Go.Proofs.enters_of Tryd.func96 (by kernel_rfl) rfl

theorem cmpLaysM (blk off size : Nat) (w : World) : CmpLays Tryd.prog 96 #[] mkV 3 cmpM blk off size w :=
  fun _ _ _ _ x y => byPlaceL x y _

theorem sorted_pairwise {d : Array Mk} (h : SortedIn (ltOf cmpM) 0 d.size d) : d.toList.Pairwise fun a b => bef b a = false := by
  rw [List.pairwise_iff_getElem]
  intro i j hi hj hij
  have hi' : i < d.size := by simpa using hi
  have hj' : j < d.size := by simpa using hj
  have := h i j (Nat.zero_le _) hij hj'
  rw [ltM, getElem!_pos d j hj', getElem!_pos d i hi'] at this
  simpa using this

set_option maxHeartbeats 1000000 in
/-- The library's sort, on a row of one's own whose ids are all different. -/
theorem sortFuncL (base : Nat) (xs : List Mk) (v : Value) (w : World) (h : OwM w base v xs) (hn : xs.length ≤ 4096) (hd : xs.Pairwise fun a b => a.1 ≠ b.1) :
    Calls Tryd.prog 98 #[v, .func (.func 96) #[] #[]] w fun e w' => e = .returned (.tuple #[]) ∧ OwM w' base v (srt xs) ∧ w.grownBy w' v.ownBlock := by
  rcases h.shape with ⟨rfl, rfl⟩ | ⟨g, cap, rfl, hcap, hcm, hbg, hgl⟩
  · have hc := AnyF.slices_SortFunc_none Tryd.sortM none 0 (.func (.func 96) #[] #[]) w
    change Calls Tryd.prog 98 _ _ _ at hc
    refine hc.mono ?_
    rintro e w' ⟨rfl, rfl⟩
    exact ⟨rfl, h, grown_refl _ _⟩
  · have hc := AnyQ.slices_SortFunc Tryd.sortM 3 Tryd.isAgg41 Tryd.sizeOf41 mkV (fun _ => rfl) (fun x v hv => by simp [mkV] at hv; rcases hv with rfl | rfl | rfl <;> rfl) cmpM swoM 96 #[] g 0 cap xs.toArray w entersBP (cmpLaysM _ _ _ _) (holds_own h) hgl (by simp; omega)
    change Calls Tryd.prog 98 _ _ _ at hc
    have hsz : xs.toArray.size = xs.length := by simp
    rw [hsz] at hc
    refine hc.mono ?_
    rintro e w' ⟨rfl, d', n, os, hp, hs, rfl⟩
    have hpl : d'.toList.Perm xs := by
      obtain ⟨hz, _, hperm⟩ := hp
      have hz' : d'.size = xs.length := by simpa using hz
      have e1 : d'.extract 0 xs.length = d' := by rw [← hz']; exact Array.extract_size
      have e2 : xs.toArray.extract 0 xs.length = xs.toArray := by rw [← hsz]; exact Array.extract_size
      rw [e1, e2] at hperm
      simpa using hperm
    have hlen : d'.toList.length = xs.length := hpl.length_eq
    have hse : d'.toList = srt xs := srt_uniq hpl (sorted_pairwise (by rw [show d'.size = xs.length by simpa using hlen]; exact hs)) hd
    have hda : d' = d'.toList.toArray := by simp
    rw [hda, hse]
    exact ⟨rfl, own_put h (srt_length xs) n os, put_grown _ _ _ _ _⟩

end Go.Proofs.YtdjdkgidihhkfabDoor
