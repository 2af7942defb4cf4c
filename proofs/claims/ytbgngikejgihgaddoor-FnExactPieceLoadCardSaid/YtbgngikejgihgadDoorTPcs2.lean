import Derived.Test.YtbgngikejgihgadDoorTPcs
namespace Go.Proofs.YtbgngikejgihgadDoor
open Go Go.RowKit
set_option linter.unusedVariables false

def pcC (q : Pc) : List Value := [.int .i64 q.off, .int .i64 q.len, .int .i64 q.brk]
def pcCs (qs : List Pc) : List Value := qs.flatMap pcC
theorem pcCs_length (qs : List Pc) : (pcCs qs).length = qs.length * 3 := by
  induction qs with
  | nil => rfl
  | cons a t ih => simp only [pcCs, List.flatMap_cons, List.length_append, List.length_cons] at ih ⊢; rw [ih]; simp [pcC]; omega
theorem pcCs_append (a b : List Pc) : pcCs (a ++ b) = pcCs a ++ pcCs b := by simp [pcCs]
theorem pcCs_get (qs : List Pc) (i k : Nat) (q : Pc) (h : qs[i]? = some q) (hk : k < 3) : (pcCs qs)[i * 3 + k]? = (pcC q)[k]? := by
  induction qs generalizing i with
  | nil => simp at h
  | cons a t ih =>
    have e : pcCs (a :: t) = pcC a ++ pcCs t := by simp [pcCs]
    rw [e]
    cases i with
    | zero => simp at h; subst h; rw [List.getElem?_append_left (by simp [pcC]; omega)]; simp
    | succ i =>
      rw [List.getElem?_append_right (by simp [pcC]; omega)]
      have := ih i (by simpa using h)
      rw [← this]
      congr 1
      simp [pcC]; omega

theorem Tryd.infoPC : (Tryd.prog.info? 52).map (fun i => (i.zero, i.size, i.bytes)) = some (some (.agg #[.int .i64 0, .int .i64 0, .int .i64 0]), 3, 24) := by kernel_rfl

/-- An owned row of pieces. -/
def OwP (w : World) (base : Nat) (v : Value) (qs : List Pc) : Prop := w.ownsRow base 52 3 v qs.length (pcCs qs)

set_option maxHeartbeats 4000000 in
set_option maxRecDepth 100000 in
theorem piecesL (xs : List It) (v : Value) (B : Nat) (w : World) (h : OwI w B v xs) (hn : xs.length ≤ 8192) :
    Calls Tryd.prog 23 #[.agg #[v]] w fun e w' => ∃ v', e = .returned v' ∧ OwP w' w.heap.size v' (xs.map It.pc) ∧ Below w.heap.size w w' := by
  obtain ⟨i0, hi, hz0, hz1, hz2⟩ := info_parts Tryd.infoPC
  have HO := hide h
  obtain ⟨ao, cap, rfl⟩ : ∃ ao cap, v = .slice ao xs.length cap := by
    rcases h.shape with ⟨rfl, rfl⟩ | ⟨g, cap, rfl, _⟩
    · exact ⟨_, _, rfl⟩
    · exact ⟨_, _, rfl⟩
  clear h
  go_enter Tryd.func23, Tryd.ntmps23
  go_wp2_with fail
  have HB0 := hide (((Below.refl w.heap.size w).alloc (Nat.le_refl _) (.cells #[.slice ao xs.length cap] 37)).alloc (by simp) (.cells #[] 52))
  have O0 := hide (show ((w.alloc (.cells #[.slice ao xs.length cap] 37)).alloc (.cells #[] 52)).ownsRow w.heap.size 52 3 (.slice (some ⟨w.heap.size + 1, 0, none⟩) 0 0) 0 [] from ⟨rfl, .inr ⟨_, 0, #[], rfl, by omega, by have := heap_alloc_new (w.alloc (.cells #[.slice ao xs.length cap] 37)) (.cells #[] 52); simpa using this, Nat.le_refl _, by unfold maxLen; omega, rfl, rfl⟩⟩)
  generalize (w.alloc (.cells #[.slice ao xs.length cap] 37)).alloc (.cells #[] 52) = w0 at *
  go_loopw [3, 5, 10] (fun s3 s5 i wr => ∃ (k : Nat) (v : Value), k ≤ xs.length ∧ i = .int .i64 k ∧ s3 = v ∧ wr.ownsRow w.heap.size 52 3 v k (pcCs ((xs.take k).map It.pc)) ∧ Below w.heap.size w wr)
    (fun _ _ i _ => xs.length - (intOf i).toNat)
  case atStart => exact ⟨0, _, Nat.zero_le _, rfl, rfl, O0.out, HB0.out⟩
  case round =>
    obtain ⟨k, v, hk, rfl, rfl, hown, hb⟩ := hrel
    have HOW := hide hown
    have HB := hide hb
    have zr := hb.size
    by_cases hkl : k < xs.length
    · rcases HO.out.rd with ⟨_, _, _, h0⟩ | ⟨b, off, cap', hv, hp, hbw, hc⟩
      · rw [h0] at hkl; simp at hkl
      · simp only [Value.slice.injEq, true_and] at hv
        obtain ⟨rfl, rfl⟩ := hv
        obtain ⟨x, hx, a0, a1, a2, a3⟩ := itAt_of' hc hkl
        have e0 := (hb.cell (p := ⟨b, off + k * 4, none⟩) hbw).trans a0
        have e1 := (hb.cell (p := ⟨b, off + k * 4 + 1, none⟩) hbw).trans a1
        have e2 := (hb.cell (p := ⟨b, off + k * 4 + 2, none⟩) hbw).trans a2
        have e3 := (hb.cell (p := ⟨b, off + k * 4 + 3, none⟩) hbw).trans a3
        have hlt' : (k : Int) < xs.length := by omega
        have hbr : b < wr.heap.size := by omega
        have HX := hide hx
        unfold maxLen at hp
        clear a0 a1 a2 a3 hx hown hb hc
        go_wp2_with (at_builtin; refine wpList_append_own _ rfl _ _ 48 rfl w.heap.size 52 i0 (.agg #[.int .i64 0, .int .i64 0, .int .i64 0]) 3 24 Tryd.underlying48 hi hz0 hz1 hz2 rfl (by decide) _ _ _ rfl (by exact (HOW.out.alloc _).alloc _) ⟨wr.heap.size + 1, 0, none⟩ 1 1 [.int .i64 x.pc.off, .int .i64 x.pc.len, .int .i64 x.pc.brk] rfl rfl (by have := newcells (wr.alloc (.cells #[.int .i64 x.pc.off, .int .i64 x.pc.len, .int .i64 x.pc.brk, .int .i64 x.lv] 58)) 52 [.int .i64 x.pc.off, .int .i64 x.pc.len, .int .i64 x.pc.brk]; simpa using this) (by simp [Value.oneCell']) (by unfold maxLen; omega) (by omega) (by simp; omega) ?_; intro v4 w4 ho4 hg4 _; have B4 := hide ((HB.out.trans (((Below.refl w.heap.size wr).alloc (by omega) _).alloc (by simp; omega) _)).grown hg4 (by simp; omega) (own_row2 HOW.out)); have O4 := hide ho4; clear ho4 hg4)
        go_roundw
        case rel =>
          refine ⟨k + 1, v4, by omega, by go_num, rfl, ?_, B4.out⟩
          have h9 := O4.out
          rw [List.take_add_one, HX.out, List.map_append, pcCs_append]
          simpa [pcCs, pcC] using h9
        case measure => simp [intOf]; omega
    · obtain rfl : k = xs.length := by omega
      have hge : ¬ (xs.length : Int) < (xs.length : Int) := by omega
      clear hown hb
      go_wp2
      go_ret
      refine ⟨_, rfl, ?_, HB.out⟩
      have h9 := HOW.out
      rw [List.take_length] at h9
      unfold OwP
      rw [List.length_map]
      exact h9
end Go.Proofs.YtbgngikejgihgadDoor
