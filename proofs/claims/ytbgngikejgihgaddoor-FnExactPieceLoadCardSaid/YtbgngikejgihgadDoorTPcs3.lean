import Derived.Test.YtbgngikejgihgadDoorTPcs2
namespace Go.Proofs.YtbgngikejgihgadDoor
open Go Go.RowKit
set_option linter.unusedVariables false

def PcAt (w : World) (b o : Nat) (q : Pc) : Prop :=
  w.cell? ⟨b, o, none⟩ = some (.int .i64 q.off) ∧ w.cell? ⟨b, o + 1, none⟩ = some (.int .i64 q.len) ∧ w.cell? ⟨b, o + 2, none⟩ = some (.int .i64 q.brk)
/-- A slice value that reads as these pieces, in a block below B. -/
def RdP (B : Nat) (w : World) (v : Value) (qs : List Pc) : Prop :=
  (∃ ao cap, v = .slice ao 0 cap ∧ qs = []) ∨
  (∃ b off cap, v = .slice (some ⟨b, off, none⟩) qs.length cap ∧ (0 < qs.length ∧ qs.length ≤ cap ∧ cap ≤ maxLen) ∧ b < B ∧ ∀ i q, qs[i]? = some q → PcAt w b (off + i * 3) q)
theorem RdP.below {B B' : Nat} {w w' : World} {v : Value} {qs : List Pc} (h : RdP B w v qs) (hb : Below B' w w') (hB : B ≤ B') : RdP B w' v qs := by
  rcases h with h | ⟨b, off, cap, hv, hp, hl, hc⟩
  · exact .inl h
  · refine .inr ⟨b, off, cap, hv, hp, hl, fun i q hq => ?_⟩
    obtain ⟨a0, a1, a2⟩ := hc i q hq
    exact ⟨(hb.cell (p := ⟨b, off + i * 3, none⟩) (by show b < B'; omega)).trans a0, (hb.cell (p := ⟨b, off + i * 3 + 1, none⟩) (by show b < B'; omega)).trans a1, (hb.cell (p := ⟨b, off + i * 3 + 2, none⟩) (by show b < B'; omega)).trans a2⟩
theorem RdP.heap {B : Nat} {w w' : World} {v : Value} {qs : List Pc} (h : RdP B w v qs) (e : w'.heap = w.heap) : RdP B w' v qs := by
  rcases h with h | ⟨b, off, cap, hv, hp, hl, hc⟩
  · exact .inl h
  · refine .inr ⟨b, off, cap, hv, hp, hl, fun i q hq => ?_⟩
    obtain ⟨a0, a1, a2⟩ := hc i q hq
    refine ⟨?_, ?_, ?_⟩
    · rw [World.cell?_of_block (w := w) (by rw [e])]; exact a0
    · rw [World.cell?_of_block (w := w) (by rw [e])]; exact a1
    · rw [World.cell?_of_block (w := w) (by rw [e])]; exact a2
theorem RdP.mono {B B' : Nat} {w : World} {v : Value} {qs : List Pc} (h : RdP B w v qs) (hB : B ≤ B') : RdP B' w v qs := by
  rcases h with h | ⟨b, off, cap, hv, hp, hl, hc⟩
  · exact .inl h
  · exact .inr ⟨b, off, cap, hv, hp, by omega, hc⟩
theorem OwP.rd {w : World} {base : Nat} {v : Value} {qs : List Pc} (h : OwP w base v qs) : RdP w.heap.size w v qs := by
  unfold OwP at h
  rcases h.2 with ⟨rfl, h0⟩ | ⟨g, cap, cur, rfl, hb, _, hc, hm, _⟩
  · exact .inl ⟨_, _, rfl, List.eq_nil_of_length_eq_zero h0⟩
  · rcases Nat.eq_zero_or_pos qs.length with h0 | h0
    · exact .inl ⟨_, _, by rw [h0], List.eq_nil_of_length_eq_zero h0⟩
    · refine .inr ⟨g, 0, cap, rfl, ⟨h0, hc, hm⟩, (h.lt g rfl).2, fun i q hq => ?_⟩
      have hi : i < qs.length := (List.getElem?_eq_some_iff.1 hq).1
      refine ⟨?_, ?_, ?_⟩
      · have := h.cellAt (0 + i * 3) (by omega)
        rw [this, Nat.zero_add]; exact (pcCs_get qs i 0 q hq (by omega)).trans rfl
      · have := h.cellAt (0 + i * 3 + 1) (by omega)
        rw [this, Nat.zero_add]; exact (pcCs_get qs i 1 q hq (by omega)).trans rfl
      · have := h.cellAt (0 + i * 3 + 2) (by omega)
        rw [this, Nat.zero_add]; exact (pcCs_get qs i 2 q hq (by omega)).trans rfl
theorem pcAt_of {w : World} {b off : Nat} {qs : List Pc} (h : ∀ i q, qs[i]? = some q → PcAt w b (off + i * 3) q) {j : Nat} {q : Pc} (hj : qs[j]? = some q) : PcAt w b (off + j * 3) q := h j q hj

set_option maxHeartbeats 4000000 in
set_option maxRecDepth 100000 in
theorem smPiecesL (qs : List Pc) (v u : Value) (B C : Nat) (w : World) (h1 : RdP B w v qs) (h2 : RdP C w u qs) (hB : B ≤ w.heap.size) (hC : C ≤ w.heap.size) (hn : qs.length ≤ 8192) :
    Calls Tryd.prog 32 #[v, u] w fun e w' => e = .returned (.bool true) ∧ Below w.heap.size w w' := by
  rcases h1 with ⟨a1, c1, rfl, rfl⟩ | ⟨b, o, cap, rfl, hp, hb, hc⟩
  · rcases h2 with ⟨a2, c2, rfl, _⟩ | ⟨_, _, _, _, hp, _⟩
    · go_enter Tryd.func32, Tryd.ntmps32
      go_wp2_with fail
      refine wp_loop_rounds 1 ?_
      rw [rounds_succ]
      go_wp2
      go_ret
      exact ⟨rfl, Below.refl _ _⟩
    · simp at hp
  · rcases h2 with ⟨_, _, _, h0⟩ | ⟨b', o', cap', rfl, hp', hb', hc'⟩
    · rw [h0] at hp; simp at hp
    · unfold maxLen at hp hp'
      have HC := hide hc
      have HC' := hide hc'
      have hNN : ((qs.length : Int) != (qs.length : Int)) = false := by simp
      clear hc hc'
      go_enter Tryd.func32, Tryd.ntmps32
      go_wp2_with fail
      go_loopw [5, 13] (fun s5 i wr => ∃ k : Nat, k ≤ qs.length ∧ i = .int .i64 k ∧ Below w.heap.size w wr) (fun _ i _ => qs.length - (intOf i).toNat)
      case atStart => exact ⟨0, Nat.zero_le _, rfl, Below.refl _ _⟩
      case round =>
        obtain ⟨k, hk, rfl, hbw⟩ := hrel
        have HBW := hide hbw
        have hsw := hbw.size
        by_cases hkl : k < qs.length
        · obtain ⟨q, hq⟩ : ∃ q, qs[k]? = some q := ⟨_, List.getElem?_eq_getElem hkl⟩
          obtain ⟨a0, a1, a2⟩ := HC.out k q hq
          obtain ⟨d0, d1, d2⟩ := HC'.out k q hq
          have hbl : b < w.heap.size := by omega
          have hbl' : b' < w.heap.size := by omega
          have e0 := (hbw.cell (p := ⟨b, o + k * 3, none⟩) hbl).trans a0
          have e1 := (hbw.cell (p := ⟨b, o + k * 3 + 1, none⟩) hbl).trans a1
          have e2 := (hbw.cell (p := ⟨b, o + k * 3 + 2, none⟩) hbl).trans a2
          have g0 := (hbw.cell (p := ⟨b', o' + k * 3, none⟩) hbl').trans d0
          have g1 := (hbw.cell (p := ⟨b', o' + k * 3 + 1, none⟩) hbl').trans d1
          have g2 := (hbw.cell (p := ⟨b', o' + k * 3 + 2, none⟩) hbl').trans d2
          have hlt' : (k : Int) < qs.length := by omega
          have hk0 : ¬ (k : Int) < 0 := by omega
          clear a0 a1 a2 d0 d1 d2 hq hbw
          go_upto_region 6 with fail
          go_cut [24] from 14 to 25 (fun s24 wc => s24 = .bool false ∧ Below wr.heap.size wr wc)
          case first =>
            go_region
            all_goals (go_wp2_with fail; go_meet; exact ⟨by simp, ⟨rfl, rfl, rfl, Nat.le_refl _, fun _ _ => rfl⟩⟩)
          case rest =>
            obtain ⟨rfl, hbc⟩ := hcut
            have HBC := hide (HBW.out.trans (hbc.mono hsw))
            clear hbc
            go_wp2
            go_roundw
            case rel => exact ⟨k + 1, by omega, by go_num, HBC.out⟩
            case measure => simp [intOf]; omega
        · obtain rfl : k = qs.length := by omega
          have hge : ¬ (qs.length : Int) < (qs.length : Int) := by omega
          clear hbw
          go_wp2
          go_ret
          exact ⟨rfl, HBW.out⟩
end Go.Proofs.YtbgngikejgihgadDoor
