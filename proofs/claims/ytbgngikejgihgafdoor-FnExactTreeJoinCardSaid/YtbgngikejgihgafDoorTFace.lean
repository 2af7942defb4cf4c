import Derived.Test.YtbgngikejgihgafDoorTTell
import Derived.Test.YtbgngikejgihgafDoorTReadT
namespace Go.Proofs.YtbgngikejgihgafDoor
open Go Go.RowKit
set_option linter.unusedVariables false

theorem told_mem {T : AT} {d : Int} {x : It} (h : x ∈ T.told d) : x.pc ∈ T.flat := by
  rw [flat_told T d, List.mem_map]; exact ⟨x, h, rfl⟩
theorem readT_told (T : AT) (hb : T.bal) (hok : T.ok) : readT (T.told 0) = some T := by
  have hits : (T.told 0).length = T.its := AT.told_length T 0
  have bd := hok.bd
  have hp := parse_complete T 8200 0 [] hb (by have := AT.bal_low T hb (by omega); omega) (fun y yt h => by cases h)
  rw [List.append_nil] at hp
  unfold readT
  rw [if_pos, hp]
  simp only [okI, Bool.and_eq_true, decide_eq_true_eq]
  refine ⟨List.all_eq_true.2 fun x hx => ?_, by rw [AT.rns_told]; exact hok.2⟩
  have h1 := hok.1 x.pc (told_mem hx)
  have h2 := AT.told_lv T 0 x hx
  have h3 := AT.ht_its T
  simp only [Bool.and_eq_true, decide_eq_true_eq]
  exact ⟨h1, by omega, by omega⟩
theorem okT_told (T : AT) (hb : T.bal) (hok : T.ok) : okT (T.told 0) = true := (readT_some (readT_told T hb hok)).1

set_option maxHeartbeats 1000000 in
set_option maxRecDepth 100000 in
theorem readOk (B : Nat) (v : Value) (T : AT) (w : World) (hb : T.bal) (hok : T.ok) (hr : RdI B w v (T.told 0)) (hB : B ≤ w.heap.size) :
    Calls Tryd.prog 77 #[.agg #[v]] w fun e w' => ∃ u bs, e = .returned (.tuple #[.pointer u, .nilIface]) ∧ Lies w' w.heap.size T u bs ∧ bs.Nodup ∧ Below w.heap.size w w' := by
  refine (readTreeN B v (T.told 0) w hr hB (by rw [AT.told_length]; have := hok.bd; omega)).mono ?_
  rw [readT_told T hb hok]
  rintro e w' ⟨u, bs, h1, h2, h3, h4, h5⟩
  exact ⟨u, bs, h1, h2, h3, h5⟩

set_option maxHeartbeats 1000000 in
set_option maxRecDepth 100000 in
theorem answerOk (T : AT) (u : Option Addr) (bs : List Nat) (base : Nat) (w : World) (hT : Lies w base T u bs) (hok : T.ok) :
    Calls Tryd.prog 44 #[.pointer u, .nilIface] w fun e w' => ∃ v, e = .returned (.tuple #[.agg #[v], .int .i64 0]) ∧ OwI w' w.heap.size v (T.told 0) ∧ Below w.heap.size w w' := by
  have HB0 := hide ((Below.refl w.heap.size w).alloc (Nat.le_refl _) (.cells #[.slice none 0 0] 28))
  have hk0 := Boxed.new w 28 (.slice none 0 0)
  have hs0 : (w.alloc (.cells #[.slice none 0 0] 28)).heap.size = w.heap.size + 1 := by simp
  have HK := hide (tellN T u bs base _ (hT.below HB0.out (Nat.le_refl _)) hok)
  clear hT
  go_enter Tryd.func44, Tryd.ntmps44
  go_wp2_with fail
  generalize w.alloc (.cells #[.slice none 0 0] 28) = w0 at *
  refine HK.out.mono ?_
  rintro e w1 ⟨v, rfl, ho, hb1⟩
  have hk1 : Boxed w1 w.heap.size 28 (.slice none 0 0) := (hb1.block _ (by omega)).trans hk0
  have hv : ∃ ao ln cap, v = .slice ao ln cap := by
    rcases ho.2 with ⟨rfl, _⟩ | ⟨g, cap, cur, rfl, _⟩
    · exact ⟨_, _, _, rfl⟩
    · exact ⟨_, _, _, rfl⟩
  obtain ⟨ao, ln, cap, rfl⟩ := hv
  have c := hk1.cell
  have f := hk1.frozen
  have l := hk1.lt
  have HB1 := hide ((HB0.out.trans (hb1.mono (by omega))).setCell (p := ⟨w.heap.size, 0, none⟩) (Nat.le_refl _) (.slice ao ln cap))
  have HO := hide ((show OwI w1 w0.heap.size (.slice ao ln cap) (T.told 0) from ho).base (show w.heap.size ≤ w0.heap.size by omega))
  have HO2 := hide (show OwI (w1.setCell ⟨w.heap.size, 0, none⟩ (.slice ao ln cap)) w.heap.size (.slice ao ln cap) (T.told 0) from HO.out.kept (grownBy_setCell' w1 w.heap.size (.slice ao ln cap)) (.inr (hk1.not_row (by decide) HO.out).symm))
  have c2 := (hk1.set (.slice ao ln cap)).cell
  clear ho hb1 hk1 HK HO
  go_wp2
  refine bodyPost_ret (v := .tuple #[.agg #[.slice ao ln cap], .int .i64 0]) (by simp [results, Tryd.results44, go_sem, c2]) rfl ⟨_, rfl, HO2.out, HB1.out⟩

set_option maxHeartbeats 1000000 in
theorem roomOk (a b : Int) (w : World) (h1 : 0 ≤ a ∧ a ≤ 8192) (h2 : 0 ≤ b) (h3 : a + b ≤ 8192) :
    Calls Tryd.prog 86 #[.int .i64 a, .int .i64 b, .int .i64 8192] w fun e w' => e = .returned .nilIface ∧ w' = w := by
  have g1 : ¬ a > 8192 := by omega
  have g2 : ¬ b > 8192 - a := by omega
  go_enter Tryd.func86, Tryd.ntmps86
  go_wp2
  go_ret
  exact ⟨rfl, rfl⟩
end Go.Proofs.YtbgngikejgihgafDoor
