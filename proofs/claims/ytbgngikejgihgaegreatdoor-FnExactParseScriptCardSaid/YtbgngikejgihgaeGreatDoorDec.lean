import Derived.Test.YtbgngikejgihgaeGreatDoorEnc
namespace Go.Proofs.YtbgngikejgihgaeGreatDoor
open Go Go.RowKit

/-- The number that the bytes could mean. -/
def numZ : List Int → Int
  | [a] => a
  | [a, b] => (a - 192) * 64 + b - 128
  | [a, b, c] => (a - 224) * 4096 + (b - 128) * 64 + c - 128
  | [a, b, c, d] => (a - 240) * 262144 + (b - 128) * 4096 + (c - 128) * 64 + d - 128
  | _ => -1

def formOk (q : List Int) : Bool := decide (0 ≤ numZ q ∧ encZ (numZ q) = q)

theorem formOk_iff (q : List Int) : formOk q = true ↔ 0 ≤ numZ q ∧ encZ (numZ q) = q := by unfold formOk; exact decide_eq_true_iff

def bytes (q : List Int) : Prop := ∀ z ∈ q, 0 ≤ z ∧ z ≤ 255

theorem form1 {a : Int} (ha : 0 ≤ a) : formOk [a] = true ↔ a < 128 := by
  rw [formOk_iff]
  simp only [numZ]
  constructor
  · rintro ⟨_, h⟩
    rcases encZ_cases a with c | c | c | c | c | c
    · rw [encZ_bad c] at h; simp at h
    · exact c.2
    · rw [encZ_two c.1 c.2] at h; simp at h
    · rw [encZ_three c.1 (by omega) (.inl c.2)] at h; simp at h
    · rw [encZ_three (by omega) c.2 (.inr c.1)] at h; simp at h
    · rw [encZ_four c.1 c.2] at h; simp at h
  · intro h; exact ⟨ha, encZ_one ha h⟩

theorem form2 {a b : Int} (ha : 0 ≤ a ∧ a ≤ 255) (hb : 0 ≤ b ∧ b ≤ 255) : formOk [a, b] = true ↔ (194 ≤ a ∧ a ≤ 223) ∧ (128 ≤ b ∧ b ≤ 191) := by
  rw [formOk_iff]
  simp only [numZ]
  generalize hv : (a - 192) * 64 + b - 128 = v
  constructor
  · rintro ⟨h0, h⟩
    rcases encZ_cases v with c | c | c | c | c | c
    · rw [encZ_bad c] at h; simp at h
    · rw [encZ_one c.1 c.2] at h; simp at h
    · rw [encZ_two c.1 c.2] at h; simp at h; omega
    · rw [encZ_three c.1 (by omega) (.inl c.2)] at h; simp at h
    · rw [encZ_three (by omega) c.2 (.inr c.1)] at h; simp at h
    · rw [encZ_four c.1 c.2] at h; simp at h
  · intro h
    refine ⟨by omega, ?_⟩
    rw [encZ_two (by omega) (by omega)]
    have h1 : 192 + v / 64 = a := by omega
    have h2 : 128 + v % 64 = b := by omega
    rw [h1, h2]

theorem form3 {a b c : Int} (ha : 0 ≤ a ∧ a ≤ 255) (hb : 0 ≤ b ∧ b ≤ 255) (hc : 0 ≤ c ∧ c ≤ 255) : formOk [a, b, c] = true ↔
    ((a = 224 ∧ 160 ≤ b ∧ b ≤ 191) ∨ (a = 237 ∧ 128 ≤ b ∧ b ≤ 159) ∨ ((225 ≤ a ∧ a ≤ 236 ∨ a = 238 ∨ a = 239) ∧ 128 ≤ b ∧ b ≤ 191)) ∧ (128 ≤ c ∧ c ≤ 191) := by
  rw [formOk_iff]
  simp only [numZ]
  generalize hv : (a - 224) * 4096 + (b - 128) * 64 + c - 128 = v
  constructor
  · rintro ⟨h0, h⟩
    rcases encZ_cases v with e | e | e | e | e | e
    · rw [encZ_bad e] at h; simp at h; omega
    · rw [encZ_one e.1 e.2] at h; simp at h
    · rw [encZ_two e.1 e.2] at h; simp at h
    · rw [encZ_three e.1 (by omega) (.inl e.2)] at h; simp at h; omega
    · rw [encZ_three (by omega) e.2 (.inr e.1)] at h; simp at h; omega
    · rw [encZ_four e.1 e.2] at h; simp at h
  · intro h
    refine ⟨by omega, ?_⟩
    rw [encZ_three (by omega) (by omega) (by omega)]
    have h1 : 224 + v / 4096 = a := by omega
    have h2 : 128 + v / 64 % 64 = b := by omega
    have h3 : 128 + v % 64 = c := by omega
    rw [h1, h2, h3]

theorem form4 {a b c d : Int} (ha : 0 ≤ a ∧ a ≤ 255) (hb : 0 ≤ b ∧ b ≤ 255) (hc : 0 ≤ c ∧ c ≤ 255) (hd : 0 ≤ d ∧ d ≤ 255) : formOk [a, b, c, d] = true ↔
    ((a = 240 ∧ 144 ≤ b ∧ b ≤ 191) ∨ (a = 244 ∧ 128 ≤ b ∧ b ≤ 143) ∨ (241 ≤ a ∧ a ≤ 243 ∧ 128 ≤ b ∧ b ≤ 191)) ∧ (128 ≤ c ∧ c ≤ 191) ∧ (128 ≤ d ∧ d ≤ 191) := by
  rw [formOk_iff]
  simp only [numZ]
  generalize hv : (a - 240) * 262144 + (b - 128) * 4096 + (c - 128) * 64 + d - 128 = v
  constructor
  · rintro ⟨h0, h⟩
    rcases encZ_cases v with e | e | e | e | e | e
    · rw [encZ_bad e] at h; simp at h
    · rw [encZ_one e.1 e.2] at h; simp at h
    · rw [encZ_two e.1 e.2] at h; simp at h
    · rw [encZ_three e.1 (by omega) (.inl e.2)] at h; simp at h
    · rw [encZ_three (by omega) e.2 (.inr e.1)] at h; simp at h
    · rw [encZ_four e.1 e.2] at h; simp at h; omega
  · intro h
    refine ⟨by omega, ?_⟩
    rw [encZ_four (by omega) (by omega)]
    have h1 : 240 + v / 262144 = a := by omega
    have h2 : 128 + v / 4096 % 64 = b := by omega
    have h3 : 128 + v / 64 % 64 = c := by omega
    have h4 : 128 + v % 64 = d := by omega
    rw [h1, h2, h3, h4]

theorem form_long {q : List Int} (h : 4 < q.length) : formOk q = false := by
  match q, h with
  | a :: b :: c :: d :: e :: r, _ => simp [formOk, numZ]
theorem form_nil : formOk [] = false := by simp [formOk, numZ]
end Go.Proofs.YtbgngikejgihgaeGreatDoor
