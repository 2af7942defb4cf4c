import Derived.Test.YtbgngikejgihgaeDoorObA
import Derived.Test.YtbgngikejgihgaeDoorObC
namespace Go.Proofs.YtbgngikejgihgaeDoor
open Go Go.RowKit
set_option linter.unusedVariables false

set_option maxHeartbeats 4000000 in
set_option maxRecDepth 100000 in
theorem implTell (xs : List Ob) (v : Value) (w : World) (h : RdO w v xs) (hok : ∀ x ∈ xs, OkO x) (hs : szOs xs ≤ 1048576) (htab : Tab w.heap.size w) :
    Calls Tryd.prog 18 #[v] w fun e w' => ∃ v', e = .returned v' ∧ OwB w' w.heap.size v' (obsB xs) ∧ Below w.heap.size w w' := by
  obtain ⟨ao, cap, hv⟩ := h.val
  subst hv
  have AT := hide (fun k x (hk : xs[k]? = some x) => h.at hk)
  have AP := hide (fun (n : Nat) (x : Ob) (vt vm sv : Value) (ys : List Value) (W : World) (hx : x ∈ xs) (hb : Below w.heap.size w W) ho hn ht hm h1 h2 => appendObsL w n x vt vm sv ys W hb ho hn ht hm (hok x hx) h1 h2 htab)
  have OKL := hide (fun k => obsB_length (xs.take k) (fun y hy => hok y (List.mem_of_mem_take hy)))
  have SZT := hide (fun k => szOs_take xs k)
  have GET := hide (show ∀ k, k < xs.length → ∃ y, xs[k]? = some y from fun k hk => ⟨_, List.getElem?_eq_getElem hk⟩)
  have SZS := hide (fun k x (hk : xs[k]? = some x) => szOs_take_succ hk)
  have MEM := hide (fun k x (hk : xs[k]? = some x) => (List.mem_of_getElem? hk))
  have TN := hide (show xs.take xs.length = xs from List.take_length)
  have SN := hide (fun k x (hk : xs[k]? = some x) => (show obsB (xs.take (k + 1)) = obsB (xs.take k) ++ obB x by rw [take_snoc hk, obsB_snoc]))
  generalize hN : xs.length = nn at *
  have HNN := hide hN
  clear h hok htab hN
  go_enter Tryd.func18, Tryd.ntmps18
  go_wp2_with fail
  go_loopw [3, 8] (fun bv iv wr => ∃ k : Nat, k ≤ nn ∧ iv = .int .i64 k ∧ OwB wr w.heap.size bv (obsB (xs.take k)) ∧ Below w.heap.size w wr) (fun _ iv _ => nn - (intOf iv).toNat)
  case atStart => exact ⟨0, Nat.zero_le _, rfl, World.ownsRow_nil _ _ _ _, Below.refl _ _⟩
  case round =>
    obtain ⟨k, hk, rfl, hob, hbw⟩ := hrel
    have HOB := hide hob
    have HBW := hide hbw
    have hsw := hbw.size
    by_cases hkn : k < nn
    · have hkn' : (k : Int) < (nn : Int) := by omega
      obtain ⟨x, hx⟩ := GET.out k hkn
      obtain ⟨b, off, cap2, hva, hcp, hat⟩ := AT.out k x hx
      obtain ⟨rfl, rfl⟩ : ao = some ⟨b, off, none⟩ ∧ cap = cap2 := by
        simp only [Value.slice.injEq] at hva; exact ⟨hva.1, hva.2.2⟩
      have hbl := hat.lt
      obtain ⟨vt, vm, ⟨a0, a1, a2, a3, a4, a5, a6, a7, a8, a9⟩, ⟨ta, tc, hvt⟩, ⟨ma, mc, hvm⟩, ht, hm, h1, h2⟩ := hat.cells
      have kc := fun o => hbw.cell (p := ⟨b, o, none⟩) hbl
      have e0 := (kc _).trans a0
      have e1 := (kc _).trans a1
      have e2 := (kc _).trans a2
      have e3 := (kc _).trans a3
      have e4 := (kc _).trans a4
      have e5 := (kc _).trans a5
      have e6 := (kc _).trans a6
      have e7 := (kc _).trans a7
      have e8 := (kc _).trans a8
      have e9 := (kc _).trans a9
      have z1 := SZS.out k x hx
      have z2 := SZT.out (k + 1)
      have z3 := OKL.out k
      have z4 : (obsB (xs.take k)).length ≤ 187695104 := by omega
      have hb2 : b < wr.heap.size := by omega
      have z5 : x.t.length ≤ 1048576 ∧ x.m.length ≤ 1048576 := by unfold szO at z1; omega
      have hcp2 : nn ≤ cap ∧ cap ≤ 9223372036854775807 := by have h9 := hcp; unfold maxLen at h9; omega
      have NX := hide (SN.out k x hx)
      have A3 := hide (HBW.out.alloc hsw (ObK x vt vm))
      have O3 := hide (World.ownsRow.alloc (show wr.ownsRow w.heap.size 5 1 _ (obsB (xs.take k)).length (ints .u8 (obsB (xs.take k))) from HOB.out) (ObK x vt vm))
      have CA := hide (AP.out _ x vt vm _ _ (wr.alloc (ObK x vt vm)) (MEM.out k x hx) A3.out O3.out (by omega) ht hm z5.1 z5.2)
      subst hvt hvm
      unfold ObK at *
      generalize hE : obsB (xs.take k) = E at *
      have HE := hide hE
      clear hva hcp a0 a1 a2 a3 a4 a5 a6 a7 a8 a9 kc hx hbw hob z1 z2 z3 ht hm h1 h2 hE
      go_wp2_with fail
      refine CA.out.mono ?_
      rintro e w4 ⟨v4, rfl, ho4, hb4⟩
      have O4 := hide ho4
      have B4 := hide hb4
      clear ho4 hb4
      go_wp2
      go_roundw
      case rel =>
        refine ⟨k + 1, by omega, by go_num, ?_, B4.out⟩
        rw [NX.out]
        exact OwB.snoc O4.out
      case measure => simp [intOf]; omega
    · obtain rfl : k = nn := by omega
      have hge : ¬ (k : Int) < (k : Int) := by omega
      rw [TN.out] at HOB
      clear hob hbw
      go_wp2
      go_ret
      exact ⟨_, rfl, HOB.out, HBW.out⟩
end Go.Proofs.YtbgngikejgihgaeDoor
