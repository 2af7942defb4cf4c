import Derived.Test.YtbgngikejgihgaeGreatDoorImC
import Derived.Lib.FieldsP
import Derived.Lib.SpaceUEq
namespace Go.Proofs.YtbgngikejgihgaeGreatDoor
open Go Go.RowKit
set_option linter.unusedVariables false

/-- What stands between words. -/
def blk (b : UInt8) : Bool := b == 32 || b == 9
def blkN (r : Nat) : Bool := r == 32 || r == 9
theorem blkN_byte (b : UInt8) : blkN b.toNat = blk b := by
  unfold blkN blk
  have h : ∀ c : UInt8, (b.toNat == c.toNat) = (b == c) := fun c => by
    rw [Bool.eq_iff_iff]; simp only [beq_iff_eq]; exact ⟨fun e => UInt8.toNat.inj e, fun e => by rw [e]⟩
  exact congr (congrArg or (h 32)) (h 9)
/-- Words, byte by byte. -/
def wdGo : List UInt8 → List UInt8 → List (List UInt8)
  | cur, [] => if cur = [] then [] else [cur]
  | cur, b :: l => if blk b = true then (if cur = [] then wdGo [] l else cur :: wdGo [] l) else wdGo (cur ++ [b]) l
def wdU (l : List UInt8) : List (List UInt8) := wdGo [] l
theorem wdGo_blk {b : UInt8} (h : blk b = true) (cur l : List UInt8) : wdGo cur (b :: l) = if cur = [] then wdGo [] l else cur :: wdGo [] l := by rw [wdGo, if_pos h]
theorem wdGo_cut {x : UInt8} (hx : blk x = true) (b : List UInt8) : ∀ (a cur : List UInt8), wdGo cur (a ++ x :: b) = wdGo cur a ++ wdGo [] b
  | [], cur => by
    rw [List.nil_append, wdGo_blk hx, wdGo]
    split <;> simp
  | y :: a, cur => by
    simp only [List.cons_append, wdGo]
    split
    · split
      · exact wdGo_cut hx b a []
      · rw [wdGo_cut hx b a []]; rfl
    · exact wdGo_cut hx b a (cur ++ [y])
theorem wdGo_none : ∀ (a cur : List UInt8), (∀ x ∈ a, blk x = false) → wdGo cur a = if cur ++ a = [] then [] else [cur ++ a]
  | [], cur, _ => by simp [wdGo]
  | y :: a, cur, h => by
    rw [wdGo, if_neg (by rw [h y (by simp)]; simp), wdGo_none a (cur ++ [y]) (fun x hx => h x (by simp [hx]))]
    simp
theorem wdGo_skip : ∀ (k : Nat) (l cur : List UInt8), k ≤ l.length → (∀ x ∈ l.take k, blk x = false) → wdGo cur l = wdGo (cur ++ l.take k) (l.drop k)
  | 0, l, cur, _, _ => by simp
  | k + 1, [], cur, h, _ => by simp at h
  | k + 1, y :: l, cur, h, hz => by
    rw [wdGo, if_neg (by rw [hz y (by simp)]; simp), wdGo_skip k l (cur ++ [y]) (by simpa using h) (fun x hx => hz x (by simp [hx]))]
    simp
/-- A list is cut at its first c. -/
theorem cut_first (c : UInt8) : ∀ l : List UInt8, c ∉ l ∨ ∃ a b, l = a ++ c :: b ∧ c ∉ a
  | [] => .inl (by simp)
  | x :: l => by
    by_cases h : x = c
    · exact .inr ⟨[], l, by rw [h]; rfl, by simp⟩
    · rcases cut_first c l with h1 | ⟨a, b, rfl, h1⟩
      · exact .inl (by simp only [List.mem_cons, not_or]; exact ⟨fun e => h e.symm, h1⟩)
      · exact .inr ⟨x :: a, b, rfl, by simp only [List.mem_cons, not_or]; exact ⟨fun e => h e.symm, h1⟩⟩
theorem wd_tab : ∀ (n : Nat) (p : List UInt8), p.length ≤ n → (32 : UInt8) ∉ p → wdU p = (cutU 9 p).filter (fun w => decide (w ≠ []))
  | n, p, hn, h32 => by
    rcases cut_first 9 p with h9 | ⟨a, b, rfl, h9⟩
    · rw [cutU_none h9]
      unfold wdU
      rw [wdGo_none p [] (fun x hx => by
        have e1 : x ≠ 32 := fun e => h32 (e ▸ hx)
        have e2 : x ≠ 9 := fun e => h9 (e ▸ hx)
        simp [blk, e1, e2])]
      by_cases h0 : p = []
      · subst h0; simp
      · simp [h0]
    · have hb : wdU b = (cutU 9 b).filter (fun w => decide (w ≠ [])) := by
        cases n with
        | zero => simp at hn
        | succ n => exact wd_tab n b (by simp at hn; omega) (fun e => h32 (by simp [e]))
      have ha : wdGo [] a = if a = [] then [] else [a] := by
        rw [wdGo_none a [] (fun x hx => by
          have e1 : x ≠ 32 := fun e => h32 (by simp [← e, hx])
          have e2 : x ≠ 9 := fun e => h9 (e ▸ hx)
          simp [blk, e1, e2])]
        simp
      rw [cutU_hit b h9]
      unfold wdU at hb ⊢
      rw [wdGo_cut (by decide), ha, hb, List.filter_cons]
      by_cases h0 : a = []
      · subst h0; simp
      · simp [h0]
/-- The specification's words. -/
theorem wd_spec : ∀ (n : Nat) (l : List UInt8), l.length ≤ n → wdU l = (cutU 32 l).flatMap fun p => (cutU 9 p).filter (fun w => decide (w ≠ []))
  | n, l, hn => by
    rcases cut_first 32 l with h | ⟨a, b, rfl, h⟩
    · rw [cutU_none h, wd_tab l.length l (Nat.le_refl _) h]; simp
    · have hb : wdU b = (cutU 32 b).flatMap fun p => (cutU 9 p).filter (fun w => decide (w ≠ [])) := by
        cases n with
        | zero => simp at hn
        | succ n => exact wd_spec n b (by simp at hn; omega)
      rw [cutU_hit b h, List.flatMap_cons, ← wd_tab a.length a (Nat.le_refl _) h, ← hb]
      unfold wdU
      exact wdGo_cut (by decide) b a []
theorem wdGo_ne : ∀ (l cur : List UInt8), ∀ w ∈ wdGo cur l, w ≠ []
  | [], cur, w, h => by
    rw [wdGo] at h
    split at h
    · cases h
    · rename_i hc
      obtain rfl := List.mem_singleton.1 h
      exact hc
  | b :: l, cur, w, h => by
    rw [wdGo] at h
    split at h
    · split at h
      · exact wdGo_ne l [] w h
      · rename_i hc
        rcases List.mem_cons.1 h with rfl | h
        · exact hc
        · exact wdGo_ne l [] w h
    · exact wdGo_ne l (cur ++ [b]) w h
theorem wdGo_len : ∀ (l cur : List UInt8), ∀ w ∈ wdGo cur l, w.length ≤ cur.length + l.length
  | [], cur, w, h => by
    rw [wdGo] at h
    split at h
    · cases h
    · obtain rfl := List.mem_singleton.1 h; simp
  | b :: l, cur, w, h => by
    rw [wdGo] at h
    split at h
    · split at h
      · have := wdGo_len l [] w h; simp at this ⊢; omega
      · rcases List.mem_cons.1 h with rfl | h
        · omega
        · have := wdGo_len l [] w h; simp at this ⊢; omega
    · have := wdGo_len l (cur ++ [b]) w h; simp at this ⊢; omega

/-- A rune that is no blank: none of its bytes is. -/
theorem rune_bytes (s : ByteArray) (pos : Nat) (h : pos < s.size) : pos + (Utf8.decode s pos).2 ≤ s.size ∧ 1 ≤ (Utf8.decode s pos).2 ∧
    ((blk (s.data.toList.getD pos 0) = true ∧ blkN (Utf8.decode s pos).1 = true ∧ (Utf8.decode s pos).2 = 1) ∨ (blkN (Utf8.decode s pos).1 = false ∧ ∀ x ∈ (s.data.toList.drop pos).take (Utf8.decode s pos).2, blk x = false)) := by
  have hsz : s.data.toList.length = s.size := rfl
  rw [Lib.decode_N]
  obtain ⟨b0, e0⟩ : ∃ b, s.data.toList.getD pos 0 = b := ⟨_, rfl⟩
  obtain ⟨b1, e1⟩ : ∃ b, s.data.toList.getD (pos + 1) 0 = b := ⟨_, rfl⟩
  obtain ⟨b2, e2⟩ : ∃ b, s.data.toList.getD (pos + 2) 0 = b := ⟨_, rfl⟩
  obtain ⟨b3, e3⟩ : ∃ b, s.data.toList.getD (pos + 3) 0 = b := ⟨_, rfl⟩
  rw [e0, e1, e2, e3]
  generalize hn : s.data.toList.length - pos = n
  have hn1 : 1 ≤ n := by omega
  have hle := Lib.decodeN_le_n' n b0.toNat b1.toNat b2.toNat b3.toNat hn1
  have hge := Lib.decodeN_ge1 n b0.toNat b1.toNat b2.toNat b3.toNat
  refine ⟨by omega, hge, ?_⟩
  by_cases ha : b0.toNat < 128
  · rw [Lib.decodeN_ascii _ _ _ _ _ ha]
    simp only
    cases hb : blk b0 with
    | true => exact .inl ⟨rfl, by rw [blkN_byte]; exact hb, trivial⟩
    | false =>
      refine .inr ⟨by rw [blkN_byte]; exact hb, fun x hx => ?_⟩
      have hlt : pos < s.data.toList.length := by omega
      rw [List.drop_eq_getElem_cons hlt, List.take_succ_cons, List.take_zero] at hx
      obtain rfl := List.mem_singleton.1 hx
      have : s.data.toList[pos] = b0 := by rw [← e0, List.getD_eq_getElem?_getD, List.getElem?_eq_getElem hlt]; rfl
      rw [this]; exact hb
  · have hc := Lib.decodeN_conts n b0.toNat b1.toNat b2.toNat b3.toNat
    have hr : 128 ≤ (Lib.decodeN n b0.toNat b1.toNat b2.toNat b3.toNat).1 := by
      rcases Lib.decodeN_cases n b0.toNat b1.toNat b2.toNat b3.toNat with h | h | h | h | h
      · omega
      · rw [h.2.2.2.2]; exact h.2.2.2.1
      · rw [h.2.2.2.2.2]; have := h.2.2.2.2.1; simp only; omega
      · omega
      · rw [h]; simp only; omega
    generalize Lib.decodeN n b0.toNat b1.toNat b2.toNat b3.toNat = q at *
    obtain ⟨r, k⟩ := q
    simp only at hc hr hle hge ⊢
    right
    refine ⟨by simp [blkN]; omega, fun x hx => ?_⟩
    have hx2 : 128 ≤ x.toNat := by
      obtain ⟨j, hj, rfl⟩ := List.getElem_of_mem hx
      rw [List.length_take, List.length_drop] at hj
      have hk : k ≤ 4 := hc.2.2.2
      have ev : ((s.data.toList.drop pos).take k)[j] = s.data.toList.getD (pos + j) 0 := by
        rw [List.getElem_take, List.getElem_drop, List.getD_eq_getElem?_getD, List.getElem?_eq_getElem (by omega)]; rfl
      rw [ev]
      have hj4 : j = 0 ∨ j = 1 ∨ j = 2 ∨ j = 3 := by omega
      rcases hj4 with rfl | rfl | rfl | rfl
      · rw [Nat.add_zero, e0]; omega
      · rw [e1]; have := hc.1 (by omega); omega
      · rw [e2]; have := hc.2.1 (by omega); omega
      · rw [e3]; have := hc.2.2.1 (by omega); omega
    have : x ≠ 32 ∧ x ≠ 9 := ⟨fun e => by rw [e] at hx2; exact absurd hx2 (by decide), fun e => by rw [e] at hx2; exact absurd hx2 (by decide)⟩
    simp [blk, this.1, this.2]

theorem spansP_eq (s : ByteArray) : ∀ (f pos : Nat) (st : Option Nat) (acc : List (Nat × Nat)), s.size ≤ pos + f → pos ≤ s.size → (∀ a, st = some a → a < pos) →
    (Lib.closeSpans s (Lib.spansFromP blkN s f pos st acc)).map (fun p => Lib.pieceU s.data.toList p.1 p.2) = acc.map (fun p => Lib.pieceU s.data.toList p.1 p.2) ++ wdGo (Lib.openPiece s.data.toList st pos) (s.data.toList.drop pos) := by
  have hsz : s.data.toList.length = s.size := rfl
  have fin : ∀ (f : Nat) (st : Option Nat) (acc : List (Nat × Nat)), (∀ a, st = some a → a < s.size) → (Lib.closeSpans s (acc, st)).map (fun p => Lib.pieceU s.data.toList p.1 p.2) = acc.map (fun p => Lib.pieceU s.data.toList p.1 p.2) ++ wdGo (Lib.openPiece s.data.toList st s.size) (s.data.toList.drop s.size) := by
    intro f st acc hst
    have hd : s.data.toList.drop s.size = [] := List.drop_eq_nil_of_le (by omega)
    rw [hd, wdGo]
    cases st with
    | none => simp [Lib.closeSpans, Lib.openPiece]
    | some a =>
      have := Lib.pieceU_ne s.data.toList a s.size (hst a rfl) (by omega)
      simp [Lib.closeSpans, Lib.openPiece, this]
  intro f
  induction f with
  | zero =>
    intro pos st acc h hp hst
    obtain rfl : pos = s.size := by omega
    exact fin 0 st acc hst
  | succ f ih =>
    intro pos st acc h hp hst
    by_cases hlt : pos < s.size
    · obtain ⟨hwn, hw1, hor⟩ := rune_bytes s pos hlt
      simp only [Lib.spansFromP, if_pos hlt]
      rcases hor with ⟨h1, h2, h3⟩ | ⟨h1, h2⟩
      · rw [h2, h3]
        simp only [if_true]
        have hd : s.data.toList.drop pos = s.data.toList.getD pos 0 :: s.data.toList.drop (pos + 1) := by
          rw [List.drop_eq_getElem_cons (by omega), List.getD_eq_getElem?_getD, List.getElem?_eq_getElem (by omega)]; rfl
        rw [hd, wdGo_blk h1]
        cases st with
        | none =>
          have := ih (pos + 1) none acc (by omega) (by omega) (fun a h => by cases h)
          simpa [Lib.openPiece] using this
        | some a =>
          have hpn := Lib.pieceU_ne s.data.toList a pos (hst a rfl) (by omega)
          have := ih (pos + 1) none (acc ++ [(a, pos)]) (by omega) (by omega) (fun a h => by cases h)
          simpa [Lib.openPiece, hpn] using this
      · rw [h1]
        simp only [Bool.false_eq_true, if_false]
        rw [wdGo_skip (Utf8.decode s pos).2 (s.data.toList.drop pos) _ (by rw [List.length_drop]; omega) h2, List.drop_drop]
        cases st with
        | none =>
          have h9 := ih (pos + (Utf8.decode s pos).2) (some pos) acc (by omega) hwn (fun a h => by cases h; omega)
          have e : ([] : List UInt8) ++ (s.data.toList.drop pos).take (Utf8.decode s pos).2 = Lib.pieceU s.data.toList pos (pos + (Utf8.decode s pos).2) := by
            unfold Lib.pieceU
            rw [List.nil_append, Nat.add_sub_cancel_left]
          simp only [Lib.openPiece] at h9 ⊢
          rw [e]
          exact h9
        | some a =>
          have h9 := ih (pos + (Utf8.decode s pos).2) (some a) acc (by omega) hwn (fun b h => by cases h; have := hst a rfl; omega)
          simp only [Lib.openPiece] at h9 ⊢
          rw [Lib.pieceU_grow _ _ _ _ (Nat.le_of_lt (hst a rfl))]
          exact h9
    · obtain rfl : pos = s.size := by omega
      rw [Lib.spansFromP_end _ _ _ _ _ _ hlt]
      exact fin 0 st acc hst
/-- The library's words. -/
theorem fields_wd (s : ByteArray) : (Lib.goFieldsP blkN s).map (·.data.toList) = wdU s.data.toList := by
  have h := spansP_eq s s.size 0 none [] (by omega) (by omega) (fun a h => by cases h)
  simp only [List.map_nil, List.nil_append, Lib.openPiece, List.drop_zero] at h
  unfold Lib.goFieldsP Lib.spansOfP wdU
  rw [← h, List.map_map]
  refine List.map_congr_left fun x _ => ?_
  simp [Function.comp, Lib.pieceU, ByteArray.data_extract]
end Go.Proofs.YtbgngikejgihgaeGreatDoor
