import Derived.Test.YtbgngikejgihgaeGreatDoorPsX
namespace Go.Proofs.YtbgngikejgihgaeGreatDoor
open Go Go.RowKit Go.Sort
set_option linter.unusedVariables false

/-- The specification's form of a command. -/
def fmL (form : List UInt8) : List UInt8 := form.map fun c => if c = 84 then 104 else 110
def fmV (x : List UInt8) : Value := match cmdU x with
  | some (k, form) => .tuple #[.string ⟨(fmL form).toArray⟩, .int .i64 (if k = -1 then 0 else k), .bool true]
  | none => .tuple #[.string ⟨#[]⟩, .int .i64 0, .bool false]
theorem ba_litP (s : ByteArray) (l : List UInt8) : (s.toList == l) = decide (s.data.toList = l) := by
  rw [ByteArray.toList_eq]
  by_cases h : s.data.toList = l
  · rw [h]; simp
  · rw [decide_eq_false h, beq_eq_false_iff_ne]; exact h

set_option maxHeartbeats 4000000 in
set_option maxRecDepth 100000 in
theorem formS (x : ByteArray) (w : World) : Calls Tryz.prog 21 #[.string x] w fun e w' => e = .returned (fmV x.data.toList) ∧ w' = w := by
  have q0 := ba_litP x [105, 110, 115]
  have q1 := ba_litP x [100, 101, 108]
  have q2 := ba_litP x [103, 101, 116]
  have q3 := ba_litP x [119, 104, 101, 114, 101]
  have q4 := ba_litP x [97, 116]
  have q5 := ba_litP x [109, 97, 114, 107]
  have q6 := ba_litP x [100, 114, 111, 112]
  have q7 := ba_litP x [108, 111, 111, 107]
  have q8 := ba_litP x [117, 110, 100, 111]
  have q9 := ba_litP x [114, 101, 100, 111]
  have q10 := ba_litP x [98, 101, 103, 105, 110]
  have q11 := ba_litP x [101, 110, 100]
  have q12 := ba_litP x [115, 110, 97, 112]
  have q13 := ba_litP x [98, 97, 99, 107]
  have q14 := ba_litP x [109, 111, 118, 101]
  have q15 := ba_litP x [100, 117, 109, 112]
  have q16 := ba_litP x [111, 112]
  have q17 := ba_litP x [99, 97, 112]
  have q18 := ba_litP x [112, 111, 108, 105, 99, 121]
  by_cases h0 : x.data.toList = [105, 110, 115]
  · rw [decide_eq_true h0] at q0
    have FV := hide (show fmV x.data.toList = .tuple #[.string ⟨#[110, 104]⟩, .int .i64 1, .bool true] by rw [h0]; rfl)
    clear h0 q1 q2 q3 q4 q5 q6 q7 q8 q9 q10 q11 q12 q13 q14 q15 q16 q17 q18
    go_enter Tryz.func21, Tryz.ntmps21
    go_wp2
    exact bodyPost_ret (v := .tuple #[.string ⟨#[110, 104]⟩, .int .i64 1, .bool true]) (by simp [results, Tryz.results21, go_sem]) rfl ⟨by rw [FV.out], rfl⟩
  rw [decide_eq_false h0] at q0
  by_cases h1 : x.data.toList = [100, 101, 108]
  · rw [decide_eq_true h1] at q1
    have FV := hide (show fmV x.data.toList = .tuple #[.string ⟨#[110, 110]⟩, .int .i64 2, .bool true] by rw [h1]; rfl)
    clear h0 h1 q2 q3 q4 q5 q6 q7 q8 q9 q10 q11 q12 q13 q14 q15 q16 q17 q18
    go_enter Tryz.func21, Tryz.ntmps21
    go_wp2
    exact bodyPost_ret (v := .tuple #[.string ⟨#[110, 110]⟩, .int .i64 2, .bool true]) (by simp [results, Tryz.results21, go_sem]) rfl ⟨by rw [FV.out], rfl⟩
  rw [decide_eq_false h1] at q1
  by_cases h2 : x.data.toList = [103, 101, 116]
  · rw [decide_eq_true h2] at q2
    have FV := hide (show fmV x.data.toList = .tuple #[.string ⟨#[110, 110]⟩, .int .i64 3, .bool true] by rw [h2]; rfl)
    clear h0 h1 h2 q3 q4 q5 q6 q7 q8 q9 q10 q11 q12 q13 q14 q15 q16 q17 q18
    go_enter Tryz.func21, Tryz.ntmps21
    go_wp2
    exact bodyPost_ret (v := .tuple #[.string ⟨#[110, 110]⟩, .int .i64 3, .bool true]) (by simp [results, Tryz.results21, go_sem]) rfl ⟨by rw [FV.out], rfl⟩
  rw [decide_eq_false h2] at q2
  by_cases h3 : x.data.toList = [119, 104, 101, 114, 101]
  · rw [decide_eq_true h3] at q3
    have FV := hide (show fmV x.data.toList = .tuple #[.string ⟨#[110]⟩, .int .i64 4, .bool true] by rw [h3]; rfl)
    clear h0 h1 h2 h3 q4 q5 q6 q7 q8 q9 q10 q11 q12 q13 q14 q15 q16 q17 q18
    go_enter Tryz.func21, Tryz.ntmps21
    go_wp2
    exact bodyPost_ret (v := .tuple #[.string ⟨#[110]⟩, .int .i64 4, .bool true]) (by simp [results, Tryz.results21, go_sem]) rfl ⟨by rw [FV.out], rfl⟩
  rw [decide_eq_false h3] at q3
  by_cases h4 : x.data.toList = [97, 116]
  · rw [decide_eq_true h4] at q4
    have FV := hide (show fmV x.data.toList = .tuple #[.string ⟨#[110, 110]⟩, .int .i64 5, .bool true] by rw [h4]; rfl)
    clear h0 h1 h2 h3 h4 q5 q6 q7 q8 q9 q10 q11 q12 q13 q14 q15 q16 q17 q18
    go_enter Tryz.func21, Tryz.ntmps21
    go_wp2
    exact bodyPost_ret (v := .tuple #[.string ⟨#[110, 110]⟩, .int .i64 5, .bool true]) (by simp [results, Tryz.results21, go_sem]) rfl ⟨by rw [FV.out], rfl⟩
  rw [decide_eq_false h4] at q4
  by_cases h5 : x.data.toList = [109, 97, 114, 107]
  · rw [decide_eq_true h5] at q5
    have FV := hide (show fmV x.data.toList = .tuple #[.string ⟨#[110, 110, 110]⟩, .int .i64 6, .bool true] by rw [h5]; rfl)
    clear h0 h1 h2 h3 h4 h5 q6 q7 q8 q9 q10 q11 q12 q13 q14 q15 q16 q17 q18
    go_enter Tryz.func21, Tryz.ntmps21
    go_wp2
    exact bodyPost_ret (v := .tuple #[.string ⟨#[110, 110, 110]⟩, .int .i64 6, .bool true]) (by simp [results, Tryz.results21, go_sem]) rfl ⟨by rw [FV.out], rfl⟩
  rw [decide_eq_false h5] at q5
  by_cases h6 : x.data.toList = [100, 114, 111, 112]
  · rw [decide_eq_true h6] at q6
    have FV := hide (show fmV x.data.toList = .tuple #[.string ⟨#[110]⟩, .int .i64 7, .bool true] by rw [h6]; rfl)
    clear h0 h1 h2 h3 h4 h5 h6 q7 q8 q9 q10 q11 q12 q13 q14 q15 q16 q17 q18
    go_enter Tryz.func21, Tryz.ntmps21
    go_wp2
    exact bodyPost_ret (v := .tuple #[.string ⟨#[110]⟩, .int .i64 7, .bool true]) (by simp [results, Tryz.results21, go_sem]) rfl ⟨by rw [FV.out], rfl⟩
  rw [decide_eq_false h6] at q6
  by_cases h7 : x.data.toList = [108, 111, 111, 107]
  · rw [decide_eq_true h7] at q7
    have FV := hide (show fmV x.data.toList = .tuple #[.string ⟨#[110]⟩, .int .i64 8, .bool true] by rw [h7]; rfl)
    clear h0 h1 h2 h3 h4 h5 h6 h7 q8 q9 q10 q11 q12 q13 q14 q15 q16 q17 q18
    go_enter Tryz.func21, Tryz.ntmps21
    go_wp2
    exact bodyPost_ret (v := .tuple #[.string ⟨#[110]⟩, .int .i64 8, .bool true]) (by simp [results, Tryz.results21, go_sem]) rfl ⟨by rw [FV.out], rfl⟩
  rw [decide_eq_false h7] at q7
  by_cases h8 : x.data.toList = [117, 110, 100, 111]
  · rw [decide_eq_true h8] at q8
    have FV := hide (show fmV x.data.toList = .tuple #[.string ⟨#[]⟩, .int .i64 9, .bool true] by rw [h8]; rfl)
    clear h0 h1 h2 h3 h4 h5 h6 h7 h8 q9 q10 q11 q12 q13 q14 q15 q16 q17 q18
    go_enter Tryz.func21, Tryz.ntmps21
    go_wp2
    exact bodyPost_ret (v := .tuple #[.string ⟨#[]⟩, .int .i64 9, .bool true]) (by simp [results, Tryz.results21, go_sem]) rfl ⟨by rw [FV.out], rfl⟩
  rw [decide_eq_false h8] at q8
  by_cases h9 : x.data.toList = [114, 101, 100, 111]
  · rw [decide_eq_true h9] at q9
    have FV := hide (show fmV x.data.toList = .tuple #[.string ⟨#[]⟩, .int .i64 10, .bool true] by rw [h9]; rfl)
    clear h0 h1 h2 h3 h4 h5 h6 h7 h8 h9 q10 q11 q12 q13 q14 q15 q16 q17 q18
    go_enter Tryz.func21, Tryz.ntmps21
    go_wp2
    exact bodyPost_ret (v := .tuple #[.string ⟨#[]⟩, .int .i64 10, .bool true]) (by simp [results, Tryz.results21, go_sem]) rfl ⟨by rw [FV.out], rfl⟩
  rw [decide_eq_false h9] at q9
  by_cases h10 : x.data.toList = [98, 101, 103, 105, 110]
  · rw [decide_eq_true h10] at q10
    have FV := hide (show fmV x.data.toList = .tuple #[.string ⟨#[]⟩, .int .i64 11, .bool true] by rw [h10]; rfl)
    clear h0 h1 h2 h3 h4 h5 h6 h7 h8 h9 h10 q11 q12 q13 q14 q15 q16 q17 q18
    go_enter Tryz.func21, Tryz.ntmps21
    go_wp2
    exact bodyPost_ret (v := .tuple #[.string ⟨#[]⟩, .int .i64 11, .bool true]) (by simp [results, Tryz.results21, go_sem]) rfl ⟨by rw [FV.out], rfl⟩
  rw [decide_eq_false h10] at q10
  by_cases h11 : x.data.toList = [101, 110, 100]
  · rw [decide_eq_true h11] at q11
    have FV := hide (show fmV x.data.toList = .tuple #[.string ⟨#[]⟩, .int .i64 12, .bool true] by rw [h11]; rfl)
    clear h0 h1 h2 h3 h4 h5 h6 h7 h8 h9 h10 h11 q12 q13 q14 q15 q16 q17 q18
    go_enter Tryz.func21, Tryz.ntmps21
    go_wp2
    exact bodyPost_ret (v := .tuple #[.string ⟨#[]⟩, .int .i64 12, .bool true]) (by simp [results, Tryz.results21, go_sem]) rfl ⟨by rw [FV.out], rfl⟩
  rw [decide_eq_false h11] at q11
  by_cases h12 : x.data.toList = [115, 110, 97, 112]
  · rw [decide_eq_true h12] at q12
    have FV := hide (show fmV x.data.toList = .tuple #[.string ⟨#[110]⟩, .int .i64 13, .bool true] by rw [h12]; rfl)
    clear h0 h1 h2 h3 h4 h5 h6 h7 h8 h9 h10 h11 h12 q13 q14 q15 q16 q17 q18
    go_enter Tryz.func21, Tryz.ntmps21
    go_wp2
    exact bodyPost_ret (v := .tuple #[.string ⟨#[110]⟩, .int .i64 13, .bool true]) (by simp [results, Tryz.results21, go_sem]) rfl ⟨by rw [FV.out], rfl⟩
  rw [decide_eq_false h12] at q12
  by_cases h13 : x.data.toList = [98, 97, 99, 107]
  · rw [decide_eq_true h13] at q13
    have FV := hide (show fmV x.data.toList = .tuple #[.string ⟨#[110]⟩, .int .i64 14, .bool true] by rw [h13]; rfl)
    clear h0 h1 h2 h3 h4 h5 h6 h7 h8 h9 h10 h11 h12 h13 q14 q15 q16 q17 q18
    go_enter Tryz.func21, Tryz.ntmps21
    go_wp2
    exact bodyPost_ret (v := .tuple #[.string ⟨#[110]⟩, .int .i64 14, .bool true]) (by simp [results, Tryz.results21, go_sem]) rfl ⟨by rw [FV.out], rfl⟩
  rw [decide_eq_false h13] at q13
  by_cases h14 : x.data.toList = [109, 111, 118, 101]
  · rw [decide_eq_true h14] at q14
    have FV := hide (show fmV x.data.toList = .tuple #[.string ⟨#[110]⟩, .int .i64 15, .bool true] by rw [h14]; rfl)
    clear h0 h1 h2 h3 h4 h5 h6 h7 h8 h9 h10 h11 h12 h13 h14 q15 q16 q17 q18
    go_enter Tryz.func21, Tryz.ntmps21
    go_wp2
    exact bodyPost_ret (v := .tuple #[.string ⟨#[110]⟩, .int .i64 15, .bool true]) (by simp [results, Tryz.results21, go_sem]) rfl ⟨by rw [FV.out], rfl⟩
  rw [decide_eq_false h14] at q14
  by_cases h15 : x.data.toList = [100, 117, 109, 112]
  · rw [decide_eq_true h15] at q15
    have FV := hide (show fmV x.data.toList = .tuple #[.string ⟨#[]⟩, .int .i64 16, .bool true] by rw [h15]; rfl)
    clear h0 h1 h2 h3 h4 h5 h6 h7 h8 h9 h10 h11 h12 h13 h14 h15 q16 q17 q18
    go_enter Tryz.func21, Tryz.ntmps21
    go_wp2
    exact bodyPost_ret (v := .tuple #[.string ⟨#[]⟩, .int .i64 16, .bool true]) (by simp [results, Tryz.results21, go_sem]) rfl ⟨by rw [FV.out], rfl⟩
  rw [decide_eq_false h15] at q15
  by_cases h16 : x.data.toList = [111, 112]
  · rw [decide_eq_true h16] at q16
    have FV := hide (show fmV x.data.toList = .tuple #[.string ⟨#[110]⟩, .int .i64 0, .bool true] by rw [h16]; rfl)
    clear h0 h1 h2 h3 h4 h5 h6 h7 h8 h9 h10 h11 h12 h13 h14 h15 h16 q17 q18
    go_enter Tryz.func21, Tryz.ntmps21
    go_wp2
    exact bodyPost_ret (v := .tuple #[.string ⟨#[110]⟩, .int .i64 0, .bool true]) (by simp [results, Tryz.results21, go_sem]) rfl ⟨by rw [FV.out], rfl⟩
  rw [decide_eq_false h16] at q16
  by_cases h17 : x.data.toList = [99, 97, 112]
  · rw [decide_eq_true h17] at q17
    have FV := hide (show fmV x.data.toList = .tuple #[.string ⟨#[110]⟩, .int .i64 0, .bool true] by rw [h17]; rfl)
    clear h0 h1 h2 h3 h4 h5 h6 h7 h8 h9 h10 h11 h12 h13 h14 h15 h16 h17 q18
    go_enter Tryz.func21, Tryz.ntmps21
    go_wp2
    exact bodyPost_ret (v := .tuple #[.string ⟨#[110]⟩, .int .i64 0, .bool true]) (by simp [results, Tryz.results21, go_sem]) rfl ⟨by rw [FV.out], rfl⟩
  rw [decide_eq_false h17] at q17
  by_cases h18 : x.data.toList = [112, 111, 108, 105, 99, 121]
  · rw [decide_eq_true h18] at q18
    have FV := hide (show fmV x.data.toList = .tuple #[.string ⟨#[110, 110, 110]⟩, .int .i64 0, .bool true] by rw [h18]; rfl)
    clear h0 h1 h2 h3 h4 h5 h6 h7 h8 h9 h10 h11 h12 h13 h14 h15 h16 h17 h18
    go_enter Tryz.func21, Tryz.ntmps21
    go_wp2
    exact bodyPost_ret (v := .tuple #[.string ⟨#[110, 110, 110]⟩, .int .i64 0, .bool true]) (by simp [results, Tryz.results21, go_sem]) rfl ⟨by rw [FV.out], rfl⟩
  rw [decide_eq_false h18] at q18
  have FV := hide (show fmV x.data.toList = .tuple #[.string ⟨#[]⟩, .int .i64 0, .bool false] from (by
    have hN : cmdU x.data.toList = none := cmdU_none (fun j hj => by
      have hj' : j = 0 ∨ j = 1 ∨ j = 2 ∨ j = 3 ∨ j = 4 ∨ j = 5 ∨ j = 6 ∨ j = 7 ∨ j = 8 ∨ j = 9 ∨ j = 10 ∨ j = 11 ∨ j = 12 ∨ j = 13 ∨ j = 14 ∨ j = 15 ∨ j = 16 ∨ j = 17 ∨ j = 18 := by omega
      rcases hj' with rfl | rfl | rfl | rfl | rfl | rfl | rfl | rfl | rfl | rfl | rfl | rfl | rfl | rfl | rfl | rfl | rfl | rfl | rfl
      · exact fun e => h0 e.symm
      · exact fun e => h1 e.symm
      · exact fun e => h2 e.symm
      · exact fun e => h3 e.symm
      · exact fun e => h4 e.symm
      · exact fun e => h5 e.symm
      · exact fun e => h6 e.symm
      · exact fun e => h7 e.symm
      · exact fun e => h8 e.symm
      · exact fun e => h9 e.symm
      · exact fun e => h10 e.symm
      · exact fun e => h11 e.symm
      · exact fun e => h12 e.symm
      · exact fun e => h13 e.symm
      · exact fun e => h14 e.symm
      · exact fun e => h15 e.symm
      · exact fun e => h16 e.symm
      · exact fun e => h17 e.symm
      · exact fun e => h18 e.symm)
    unfold fmV
    rw [hN]))
  clear h0 h1 h2 h3 h4 h5 h6 h7 h8 h9 h10 h11 h12 h13 h14 h15 h16 h17 h18
  go_enter Tryz.func21, Tryz.ntmps21
  go_wp2
  exact bodyPost_ret (v := .tuple #[.string ⟨#[]⟩, .int .i64 0, .bool false]) (by simp [results, Tryz.results21, go_sem]) rfl ⟨by rw [FV.out], rfl⟩
end Go.Proofs.YtbgngikejgihgaeGreatDoor
