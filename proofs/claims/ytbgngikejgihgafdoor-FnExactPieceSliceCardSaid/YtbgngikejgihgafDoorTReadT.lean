import Derived.Test.YtbgngikejgihgafDoorTSub
namespace Go.Proofs.YtbgngikejgihgafDoor
open Go Go.RowKit
set_option linter.unusedVariables false

def msgItems : ByteArray := ⟨#[114, 101, 97, 100, 105, 110, 103, 32, 116, 104, 101, 32, 105, 116, 101, 109, 115, 32, 111, 102, 32, 97, 32, 116, 114, 101, 101]⟩
def msgShape : ByteArray := ⟨#[114, 101, 97, 100, 105, 110, 103, 32, 116, 104, 101, 32, 115, 104, 97, 112, 101, 32, 111, 102, 32, 97, 32, 116, 114, 101, 101]⟩

/-- What readTree answers. -/
def ReadPost (w : World) (r : Option AT) (e : Ending) (w' : World) : Prop :=
  match r with
  | none => (∃ msg, e = .returned (.tuple #[.pointer none, .iface 132 (.agg #[.string msg, .iface 130 (.int .i64 1)])])) ∧ Below w.heap.size w w'
  | some T => ∃ u bs, e = .returned (.tuple #[.pointer u, .nilIface]) ∧ Lies w' w.heap.size T u bs ∧ bs.Nodup ∧ T.ok ∧ Below w.heap.size w w'

theorem readT_fine {xs : List It} (h : okI xs.length xs = true) : Fine xs := by
  simp only [okI, Bool.and_eq_true, decide_eq_true_eq] at h
  have hl := total_len xs (List.all_eq_true.2 fun x hx => by have := List.all_eq_true.1 h.1 x hx; simp only [Bool.and_eq_true] at this; exact this.1)
  refine ⟨fun x hx => ?_, h.2⟩
  have := List.all_eq_true.1 h.1 x hx
  simp only [Bool.and_eq_true, decide_eq_true_eq] at this
  exact ⟨this.1, this.2.1, by omega⟩

theorem readT_def (xs : List It) : readT xs = (if okI xs.length xs = true then (match parse 8200 0 xs with | some (T, []) => some T | _ => none) else none) := by
  unfold readT
  cases parse 8200 0 xs with
  | none => rfl
  | some q => obtain ⟨T, ys⟩ := q; cases ys <;> rfl

set_option maxHeartbeats 2000000 in
set_option maxRecDepth 100000 in
theorem readTreeN (B : Nat) (v : Value) (xs : List It) (w : World) (hr : RdI B w v xs) (hB : B ≤ w.heap.size) (hn : xs.length ≤ 1048576) :
    Calls Tryd.prog 77 #[.agg #[v]] w (ReadPost w (readT xs)) := by
  obtain ⟨ao, cap, rfl⟩ := hr.val
  have HB0 := hide ((Below.refl w.heap.size w).alloc (Nat.le_refl _) (.cells #[.slice ao xs.length cap] 28))
  have hk0 : (w.alloc (.cells #[.slice ao xs.length cap] 28)).heap[w.heap.size]? = some (.cells #[.slice ao xs.length cap] 28 (0, 0)) := heap_alloc_new _ _
  have hs0 : (w.alloc (.cells #[.slice ao xs.length cap] 28)).heap.size = w.heap.size + 1 := by simp
  have HR0 := hide (hr.below HB0.out hB)
  have HI := hide (itemsI B _ xs _ HR0.out (by omega) hn)
  have HX := hide (readT_def xs)
  generalize readT xs = res at HX ⊢
  generalize hN : xs.length = n at *
  clear hr
  go_enter Tryd.func77, Tryd.ntmps77
  go_wp2_with fail
  generalize w.alloc (.cells #[.slice ao n cap] 28) = w0 at *
  refine HI.out.mono ?_
  rintro e w1 ⟨rfl, hb1⟩
  have hs1 := hb1.size
  have hk1 := (hb1.block w.heap.size (by omega)).trans hk0
  have c1 : w1.cell? ⟨w.heap.size, 0, none⟩ = some (.slice ao n cap) := by rw [cell_of_row w1 _ 0 _ _ _ hk1]; rfl
  have HB1 := hide (HB0.out.trans (hb1.mono (by omega)))
  have HR1 := hide (HR0.out.below hb1 (by omega))
  have hlw : w.heap.size < w1.heap.size := by omega
  clear hb1 hk1 hk0 HI HR0
  cases hok : okI n xs with
  | false =>
    rw [hok] at HX
    simp only [Bool.false_eq_true, if_false] at HX
    simp only [errV, Bool.false_eq_true, if_false]
    clear hok
    go_wp2_with fail
    go_ret2
    rw [HX.out]
    exact ⟨⟨msgItems, rfl⟩, HB1.out⟩
  | true =>
    rw [hok] at HX
    simp only [if_true] at HX
    have HF := hide (readT_fine (xs := xs) (by rw [hN]; exact hok))
    have HBA := hide ((Below.refl w1.heap.size w1).alloc (Nat.le_refl _) (.cells #[.slice ao n cap] 180))
    have hv2 : Rdr (w1.alloc (.cells #[.slice ao n cap] 180)) w1.heap.size (.slice ao n cap) := heap_alloc_new _ _
    have HS := hide (subtreeN 8200 0 xs B w1.heap.size _ _ (by omega) (by omega) (by omega) HF.out (HR1.out.below HBA.out (by omega)) hv2 (by omega))
    have hs2 : (w1.alloc (.cells #[.slice ao n cap] 180)).heap.size = w1.heap.size + 1 := by simp
    simp only [errV, if_true]
    clear hok hv2
    go_wp2_with fail
    generalize w1.alloc (.cells #[.slice ao n cap] 180) = w2 at *
    refine HS.out.mono ?_
    clear HS
    cases hp : parse 8200 0 xs with
    | none =>
      rw [hp] at HX
      rintro e w3 ⟨rfl, hc3⟩
      have HB3 := hide (HB1.out.trans ((HBA.out.trans (hc3.below (by omega) (by simp))).mono (by omega)))
      clear hc3 hp
      go_wp2_with fail
      go_ret2
      rw [HX.out]
      exact ⟨⟨msgShape, rfl⟩, HB3.out⟩
    | some q =>
      obtain ⟨T, ys⟩ := q
      rw [hp] at HX
      rintro e w3 ⟨u, bs, v3, rfl, hT, hnd, hr3, hv3, hc3⟩
      have HB3 := hide (HB1.out.trans ((HBA.out.trans (hc3.below (by omega) (by simp))).mono (by omega)))
      have HT := hide (hT.base (base' := w.heap.size) (by omega))
      have HND := hide hnd
      have ps := (parse_sound _ _ _ _ _ hp).1
      have HOK := hide (Fine.ok (Fine.left (ps ▸ HF.out)))
      have hc := hv3.c
      have hl3 := hv3.lt
      cases ys with
      | nil =>
        obtain ⟨ao3, cap3, rfl⟩ := hr3.val
        simp only [List.length_nil] at hc
        simp only at HX
        clear hr3 hv3 hc3 hp hT hnd ps
        go_wp2_with fail
        go_ret2
        rw [HX.out]
        exact ⟨u, bs, rfl, HT.out, HND.out, HOK.out, HB3.out⟩
      | cons y yt =>
        obtain ⟨ao3, cap3, rfl⟩ := hr3.val
        simp only [List.length_cons] at hc
        simp only at HX
        have hyl : yt.length ≤ 8192 := by
          have h1 := (Fine.right (ps ▸ HF.out)).len
          have h2 := (Fine.right (ps ▸ HF.out)).2
          simp only [List.length_cons] at h1; omega
        clear hr3 hv3 hc3 hp hT hnd ps
        go_wp2_with fail
        go_ret2
        rw [HX.out]
        exact ⟨⟨msgShape, rfl⟩, HB3.out⟩
end Go.Proofs.YtbgngikejgihgafDoor
