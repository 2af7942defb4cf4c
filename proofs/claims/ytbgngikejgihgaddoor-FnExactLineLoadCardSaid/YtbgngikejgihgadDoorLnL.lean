import Derived.Test.YtbgngikejgihgadDoorLnR
import Derived.Test.YtbgngikejgihgadDoorLnT
import Derived.Test.YtbgngikejgihgadDoorLnJ
import Derived.Deep.RegionWith
import Derived.Deep.Cut
import Derived.Deep.AppendLies
namespace Go.Proofs.YtbgngikejgihgadDoor
open Go Go.RowKit
set_option linter.unusedVariables false

/-- A line core as it lies. -/
structure LCr (w : World) (lo hi c : Nat) (rv sv : Value) (vs : List Value) (gs : List Gr) (a b : Nat) (rn : Int) (st : List Int) : Prop where
  blk : w.heap[c]? = some (.cells #[rv, .int .i64 a, .int .i64 b, .int .i64 rn, sv] 146 (0, 0))
  rows : OwG 143 w lo hi rv vs gs
  starts : o64 w lo sv st
  sbl : bel hi sv
theorem LCr.frame {w w' : World} {lo hi c : Nat} {rv sv : Value} {vs : List Value} {gs : List Gr} {a b : Nat} {rn : Int} {st : List Int} (h : LCr w lo hi c rv sv vs gs a b rn st) (hc : c < hi) (hl : lo ≤ c) (hf : ∀ q, lo ≤ q → q < hi → w'.heap[q]? = w.heap[q]?) : LCr w' lo hi c rv sv vs gs a b rn st :=
  ⟨(hf c hl hc).trans h.blk, h.rows.frame hf, owns_in h.starts h.sbl hf, h.sbl⟩

theorem plR_nil {L : List (List Int)} (h : L ≠ []) : plR L [] = L.map plG := by
  have e := List.dropLast_concat_getLast h
  have e2 : L.getLastD [] = L.getLast h := by rw [List.getLastD_eq_getLast?, List.getLast?_eq_some_getLast h]; rfl
  rw [plR, List.append_nil, e2]
  conv => rhs; rw [← e]
  simp
theorem lns_each {zs l : List Int} (h : l ∈ lns zs) : l.length ≤ zs.length := by
  obtain ⟨i, hi⟩ := List.getElem?_of_mem h
  have h1 := smL_get hi
  have h2 := lns_sm zs
  have h3 := (lns_len zs).1
  omega

set_option maxHeartbeats 2000000 in
set_option maxRecDepth 100000 in
theorem loadL (zs : List Int) (b o cap : Nat) (w : World) (hc : ∀ i, i < zs.length → w.cell? ⟨b, o + i, none⟩ = some (.int .i32 (zs.getD i 0))) (hb : b < w.heap.size) (hn : zs.length ≤ 8192) (hcap : zs.length ≤ cap) (hm : cap ≤ maxLen) :
    Calls Tryd.prog 47 #[.slice (some ⟨b, o, none⟩) zs.length cap] w fun e w' => ∃ c g sv vs, e = .returned (.pointer (some ⟨c, 0, none⟩)) ∧ w.heap.size ≤ c ∧ c < w'.heap.size ∧ LCr w' w.heap.size w'.heap.size c (.slice (some ⟨g, 0, none⟩) (lns zs).length (lns zs).length) sv vs ((lns zs).map plG) (lns zs).length (lns zs).length zs.length [0] ∧ Below w.heap.size w w' := by
  have CU := hide (cutL zs b o cap w hc hb (by omega) hcap hm)
  have LL := lns_len zs
  have LE := hide (fun l (h : l ∈ lns zs) => lns_each h)
  have NE := hide (lns_ne zs)
  generalize hL : lns zs = L at *
  obtain ⟨m, hmL⟩ : ∃ m, L.length = m + 1 := ⟨L.length - 1, by omega⟩
  generalize hN : zs.length = n at *
  have HM := hide hmL
  rw [hmL] at LL CU ⊢
  clear hL hN hmL hc
  go_enter Tryd.func47, Tryd.ntmps47
  go_wp2_with fail
  refine CU.out.mono ?_
  rintro e w1 ⟨v1, vals, rfl, ho1, hat1, hb1⟩
  rcases ho1.2 with ⟨_, q⟩ | ⟨gl, cl, cur, rfl, _⟩
  · omega
  have PR := hide (plainRowsN L [] w.heap.size gl cl vals (.slice none 0 0) w1 m HM.out ho1 (hat1.below hb1) (.inl ⟨rfl, rfl⟩) (by omega) (fun l hl => by have := LE.out l hl; omega) (by simp))
  have B1 := hide hb1
  have s1 := hb1.size
  clear ho1 hat1 hb1 CU
  go_wp2_with fail
  refine PR.out.mono ?_
  rintro e w2 ⟨vs, rfl, hG2, hb2⟩
  have G2 := hide hG2
  have B2 := hide (B1.out.trans (hb2.mono s1))
  have s2 := hb2.size
  clear hG2 hb2 PR
  go_wp2_with fail
  refine (plainRN _ _ _ w2).mono ?_
  rintro e w3 ⟨rfl, hb3⟩
  have G3 := hide (G2.out.frame (w' := w3) (fun q _ hq => hb3.block q hq))
  have B3 := hide (B2.out.trans (hb3.mono (by omega)))
  have s3 := hb3.size
  clear hb3 G2
  have W4 := hide ((Below.refl w3.heap.size w3).alloc (Nat.le_refl _) (.cells #[.int .i64 0] 3))
  have W5 := hide (W4.out.alloc (by simp) (.cells #[.slice (some ⟨w1.heap.size, 0, none⟩) (m + 1) (m + 1), .int .i64 ((m + 1 : Nat) : Int), .int .i64 ((m + 1 : Nat) : Int), .int .i64 (n : Int), .slice (some ⟨w3.heap.size, 0, none⟩) 1 1] 146))
  go_wp2
  go_ret
  refine ⟨_, w1.heap.size, .slice (some ⟨w3.heap.size, 0, none⟩) 1 1, vs, rfl, ?_, ?_, ⟨?_, ?_, ?_, ?_⟩, ?_⟩
  · first | omega | (simp; omega)
  · first | omega | simp
  · have h9 := heap_alloc_new (w3.alloc (.cells #[.int .i64 0] 3)) (.cells #[.slice (some ⟨w1.heap.size, 0, none⟩) (m + 1) (m + 1), .int .i64 ((m + 1 : Nat) : Int), .int .i64 ((m + 1 : Nat) : Int), .int .i64 (n : Int), .slice (some ⟨w3.heap.size, 0, none⟩) 1 1] 146)
    first | exact h9 | simpa using h9
  · rw [← plR_nil NE.out]
    exact (G3.out.frame (fun q _ hq => W5.out.block q (by omega))).mono (by omega) (by simp; omega)
  · exact (World.ownsRow_lit w3 #[.int .i64 0] 1 (by omega) (by unfold maxLen; omega) rfl).alloc _
  · intro q hq
    simp only [Value.ownBlock, Option.some.injEq] at hq
    simp; omega
  · exact B3.out.trans (W5.out.mono (by omega))
end Go.Proofs.YtbgngikejgihgadDoor
