import Derived.Test.YtbgngikejgihgagGreatDoorMq21
import Derived.Test.YtbgngikejgihgagGreatDoorMq28
import Derived.Test.YtbgngikejgihgagGreatDoorMq36
import Derived.Test.YtbgngikejgihgagGreatDoorMq08
namespace Go.Proofs.YtbgngikejgihgagGreatDoor
open Go Go.RowKit
set_option linter.unusedVariables false

/-- The piece is put behind the one that ends where the store ended. -/
theorem insP_meet {S : List Int} {n : Nat} {T : AT} {off : Int} {r : Nat} {y : It} (h : T.ok) (h0 : 0 ≤ off) (h1 : off ≤ T.rns) (hR : cutN T off = r + 1) (hy : (T.told 0)[r]? = some y) (ht : total ((T.told 0).take (cutN T off)) = off) (hm : y.pc.off + y.pc.len = (n : Int)) :
    insP S n T off = T.put r (pcAt S y.pc.off (y.pc.len + ((S.length : Int) - n))) := by
  obtain ⟨a, s, c⟩ := sk_at h h0 h1
  have hi : skI T off = 0 := by
    rcases Decidable.em (skI T off = 0) with hi | hi
    · exact hi
    · exfalso
      obtain ⟨c1, c2, c3⟩ := c.resolve_left hi
      rw [cutN, if_neg hi, total_take] at ht
      have e4 := (split_at c3).1
      rw [e4, take_mid _ _ _ _ (by rw [List.length_take]; have := (split_at c3).2; omega), lsum_app, lsum_cons, lsum_nil, s] at ht
      omega
  have hf : T.flat[r]? = some y.pc := by rw [← AT.flat_of T 0, List.getElem?_map, hy]; rfl
  have ha : ahead T (r + 1) = y.pc := by rw [ahead, Nat.add_sub_cancel, List.getD_eq_getElem?_getD, hf]; rfl
  rw [insP, hR, cutP, if_pos hi, addP, if_pos (by rw [meetB, decide_eq_true_eq, ha]; exact ⟨by omega, hm⟩), ha, Nat.add_sub_cancel]
/-- One more piece. -/
theorem insP_more {S : List Int} {n : Nat} {T : AT} {off : Int} (h : T.ok) (hw : ∀ p ∈ T.flat, p.off + p.len ≤ (n : Int)) (h0 : 0 ≤ off) (h1 : off ≤ T.rns) (hno : ¬ (∃ r y, cutN T off = r + 1 ∧ (T.told 0)[r]? = some y ∧ total ((T.told 0).take (cutN T off)) = off ∧ y.pc.off + y.pc.len = (n : Int))) :
    insP S n T off = (cutP S T off).ins (cutN T off) (pcAt S n ((S.length : Int) - n)) := by
  obtain ⟨a, s, c⟩ := sk_at h h0 h1
  rw [insP, addP, if_neg]
  intro hmt
  simp only [meetB, decide_eq_true_eq] at hmt
  obtain ⟨m1, m2⟩ := hmt
  by_cases hi : skI T off = 0
  · refine hno ?_
    have e1 : cutN T off = skR T off := by rw [cutN, if_pos hi]; omega
    rw [cutP, if_pos hi] at m2
    obtain ⟨r, hr⟩ : ∃ r, cutN T off = r + 1 := ⟨cutN T off - 1, by omega⟩
    have ha := ahead_at (T := T) (R := cutN T off) m1 (by omega)
    obtain ⟨y, hy, hyp⟩ := told_at ha
    refine ⟨r, y, hr, by rw [← hy, hr]; rfl, ?_, by rw [hyp]; exact m2⟩
    rw [total_take, e1, s, hi]; omega
  · obtain ⟨c1, c2, c3⟩ := c.resolve_left hi
    have e1 : cutN T off = skR T off + 1 := by rw [cutN, if_neg hi]
    have hw' := hw _ (List.mem_of_getElem? c3)
    have ha : ahead (cutP S T off) (cutN T off) = pcAt S (skP T off).off (skI T off) := by
      rw [ahead, e1, Nat.add_sub_cancel, List.getD_eq_getElem?_getD, cutP_flat h h0 h1 hi, List.getElem?_append_right (by rw [List.length_take]; omega)]
      have : skR T off - (T.flat.take (skR T off)).length = 0 := by rw [List.length_take]; have := (split_at c3).2; omega
      rw [this]; rfl
    rw [ha] at m2
    simp only [pcAt] at m2
    omega

/-- l4PieceInsert. -/
theorem insS (zs ts : List Int) (T : AT) (b o cap base : Nat) (at' : Option Addr) (ct bx ox cx : Nat) (off : Int) (w : World) (hc : cells32 w b o zs) (hb : b < w.heap.size) (ht : cells32 w bx ox ts) (hbx : bx < w.heap.size) (ho : OwI w base (.slice at' T.its ct) (T.told 0)) (hok : T.ok) (hbal : T.bal) (hw : T.wp zs) (h0 : 0 ≤ off) (h1 : off ≤ T.rns) (hr : T.rns + ts.length ≤ 8192) (hs : zs.length + ts.length ≤ 220000) :
    Calls Tryz.prog 76 #[.agg #[.slice (some ⟨b, o, none⟩) zs.length cap, .slice at' T.its ct], .int .i64 off, .slice (some ⟨bx, ox, none⟩) ts.length cx] w (InsPost w (zs ++ ts) ((if ts.length = 0 then T else insP (zs ++ ts) zs.length T off).told 0)) := by
  have hlen := AT.told_length T 0
  have bd := hok.bd
  obtain ⟨hcp, hcm⟩ : T.its ≤ ct ∧ ct ≤ maxLen := by
    rcases ho.2 with ⟨h1, h2⟩ | ⟨g, cp, cur, h1, _, _, h2, h3, _⟩
    · simp only [Value.slice.injEq] at h1; exact ⟨by omega, by unfold maxLen; omega⟩
    · rw [hlen] at h1 h2; cases h1; exact ⟨h2, h3⟩
  have hS : (zs ++ ts).length = zs.length + ts.length := List.length_append
  have hwS := hw.app ts
  have hwp := (wp_flat zs T).1 hw
  have hco := cutP_ok (S := zs ++ ts) hok hwS (by omega) h0 h1
  have hcb := hco.bd
  have hRk := (cutN_at (S := zs ++ ts) hok h0 h1).1
  obtain ⟨hRk0, _⟩ : cutN T off ≤ T.its ∧ True := by
    obtain ⟨a, s, c⟩ := sk_at hok h0 h1
    refine ⟨?_, trivial⟩
    by_cases hi : skI T off = 0
    · rw [cutN, if_pos hi]; omega
    · obtain ⟨c1, c2, c3⟩ := c.resolve_left hi
      have := (split_at c3).2
      rw [AT.flat_its] at this
      rw [cutN, if_neg hi]; omega
  have hmS : ((zs ++ ts).length : Int) - (zs.length : Int) = (ts.length : Int) := by omega
  refine insSA zs ts (zs ++ ts) (T.told 0) _ ((cutP (zs ++ ts) T off).told 0) zs.length ts.length T.its (cutP (zs ++ ts) T off).its (cutN T off) b o cap at' ct bx ox cx off (total ((T.told 0).take (cutN T off))) (pcAt (zs ++ ts) (zs.length : Int) (ts.length : Int)).brk w (hide rfl) (hide rfl) (hide rfl) (hide hlen) (by omega) (by omega) hs (by omega) hRk0 hcp hcm ⟨h0, by omega⟩ (hide hc) hb (hide ht) hbx (hide ?_) (hide ?_) (hide ?_) (hide ?_) (hide ?_) (hide ?_) (hide ?_) (hide ?_) (hide ?_) (hide ?_) (hide ?_)
  · intro j y hy
    have hmem : y.pc ∈ T.flat := by rw [← AT.flat_of T 0]; exact List.mem_map.2 ⟨y, List.mem_iff_getElem?.2 ⟨j, hy⟩, rfl⟩
    have hk := hok.1 _ hmem
    simp only [pcOk, decide_eq_true_eq] at hk
    have := (hwp _ hmem).2.2.1
    omega
  · intro W hW
    have h9 := copyA (T.told 0) _ base W (OwI.below ho hW (Nat.le_refl _)) (by omega)
    rw [hlen] at h9; exact h9
  · intro W base' gi ci hoW
    have h9 := rankS W.heap.size _ (T.told 0) off W (OwI.rd hoW) (by omega) (told_okp hok)
    rw [← cutN_rank hok h0 h1] at h9; exact h9
  · intro W base' gi ci hoW
    have h9 := rankS W.heap.size _ ((cutP (zs ++ ts) T off).told 0) off W (OwI.rd hoW) (by rw [AT.told_length]; omega) (told_okp hco)
    rw [cut_rank hok hwS (by omega) h0 h1] at h9; exact h9
  · intro W base' gi ci hoW
    exact totalS W.heap.size _ _ W ((OwI.rd hoW).takeX hlen _ hRk0) (Nat.le_refl _) (by rw [List.length_take]; omega) (fun x hx => told_okp hok x (List.mem_of_mem_take hx))
  · intro W base' gs cs gi ci hcW hgs hcs hcsm hoW hbW
    have h9 := cutS (zs ++ ts) T off gs 0 cs base' gi ci W hcW hgs (by omega) hcsm (by omega) hok hbal hwS h0 h1 hoW hbW
    rw [hS] at h9; exact h9
  · intro W gs cs hcW hgs hcs hcsm hm0
    have h9 := specPieceI (zs ++ ts) gs 0 cs (zs.length : Int) (ts.length : Int) W hcW hgs (by omega) (by omega) (by omega) (by omega) hcsm (by omega)
    rw [hS] at h9; exact h9
  · intro W gs cs y hcW hgs hcs hcsm hq hl hme
    have h9 := specPieceI (zs ++ ts) gs 0 cs y.pc.off (y.pc.len + (ts.length : Int)) W hcW hgs hq (by omega) (by omega) (by omega) hcsm (by omega)
    rw [hS] at h9; exact h9
  · intro W base' g c hno hm0 hoW
    have h9 := insertS (cutP (zs ++ ts) T off) (cutN T off) (pcAt (zs ++ ts) (zs.length : Int) (ts.length : Int)) base' g c W (cutP_bal hbal) (by omega) hRk hoW
    rw [if_neg (by omega), insP_more hok (fun p hp => (hwp p hp).2.2.1) h0 h1 hno, hmS]
    exact h9
  · intro r y hR hy ht' hme hm0
    rw [if_neg (by omega), insP_meet hok h0 h1 hR hy ht' hme, hmS]
    exact AT.put_told T r _ 0 y hy
  · intro hm0
    rw [if_pos hm0]

set_option maxHeartbeats 2000000 in
set_option maxRecDepth 100000 in
theorem spI0 (n m k b o cap bt ct bx ox cx : Nat) (off rn : Int) (vb : Bool) (w : World) (hvb : vb = false)
    (HPV : Hid (Calls Tryz.prog 38 #[.agg #[.slice (some ⟨b, o, none⟩) n cap, .slice (some ⟨bt, 0, none⟩) k ct]] ((w.alloc (.cells #[.slice (some ⟨b, o, none⟩) n cap, .slice (some ⟨bt, 0, none⟩) k ct] 69)).alloc (.cells #[.slice none 0 0, .slice none 0 0] 69)) fun e w' => e = .returned (.bool vb) ∧ Below ((w.alloc (.cells #[.slice (some ⟨b, o, none⟩) n cap, .slice (some ⟨bt, 0, none⟩) k ct] 69)).alloc (.cells #[.slice none 0 0, .slice none 0 0] 69)).heap.size ((w.alloc (.cells #[.slice (some ⟨b, o, none⟩) n cap, .slice (some ⟨bt, 0, none⟩) k ct] 69)).alloc (.cells #[.slice none 0 0, .slice none 0 0] 69)) w')) :
    Calls Tryz.prog 28 #[.agg #[.slice (some ⟨b, o, none⟩) n cap, .slice (some ⟨bt, 0, none⟩) k ct], .int .i64 off, .slice (some ⟨bx, ox, none⟩) m cx] w (TellPost w [] [] 1) := by
  have A0 := hide (((Below.refl w.heap.size w).alloc (Nat.le_refl _) (.cells #[.slice (some ⟨b, o, none⟩) n cap, .slice (some ⟨bt, 0, none⟩) k ct] 69)).alloc (by simp) (.cells #[.slice none 0 0, .slice none 0 0] 69))
  have KB := hide (show ((w.alloc (.cells #[.slice (some ⟨b, o, none⟩) n cap, .slice (some ⟨bt, 0, none⟩) k ct] 69)).alloc (.cells #[.slice none 0 0, .slice none 0 0] 69)).heap[w.heap.size]? = some (.cells #[.slice (some ⟨b, o, none⟩) n cap, .slice (some ⟨bt, 0, none⟩) k ct] 69 (0, 0)) by
    rw [Below.heap_alloc _ _ _ (by simp)]; exact heap_alloc_new _ _)
  have KR := hide (show ((w.alloc (.cells #[.slice (some ⟨b, o, none⟩) n cap, .slice (some ⟨bt, 0, none⟩) k ct] 69)).alloc (.cells #[.slice none 0 0, .slice none 0 0] 69)).heap[w.heap.size + 1]? = some (.cells #[.slice none 0 0, .slice none 0 0] 69 (0, 0)) by
    have := heap_alloc_new (w.alloc (.cells #[.slice (some ⟨b, o, none⟩) n cap, .slice (some ⟨bt, 0, none⟩) k ct] 69)) (.cells #[.slice none 0 0, .slice none 0 0] 69)
    rw [show (w.alloc (.cells #[.slice (some ⟨b, o, none⟩) n cap, .slice (some ⟨bt, 0, none⟩) k ct] 69)).heap.size = w.heap.size + 1 by simp] at this; exact this)
  have s0 : w.heap.size + 2 ≤ ((w.alloc (.cells #[.slice (some ⟨b, o, none⟩) n cap, .slice (some ⟨bt, 0, none⟩) k ct] 69)).alloc (.cells #[.slice none 0 0, .slice none 0 0] 69)).heap.size := by simp
  go_enter Tryz.func28, Tryz.ntmps28
  go_wp2_with fail
  generalize (w.alloc (.cells #[.slice (some ⟨b, o, none⟩) n cap, .slice (some ⟨bt, 0, none⟩) k ct] 69)).alloc (.cells #[.slice none 0 0, .slice none 0 0] 69) = w0 at *
  refine HPV.out.mono ?_
  rintro e w1 ⟨rfl, hb1⟩
  have s1 := hb1.size
  have A1 := hide (A0.out.trans (hb1.mono (by omega)))
  have KR1 := hide ((hb1.block (w.heap.size + 1) (by omega)).trans KR.out)
  have k1 := (hb1.block w.heap.size (by omega)).trans KB.out
  have b0 : w1.cell? ⟨w.heap.size, 0, none⟩ = some (.slice (some ⟨b, o, none⟩) n cap) := by rw [cell_of_row w1 _ 0 _ _ _ k1]; rfl
  have b1 : w1.cell? ⟨w.heap.size, 1, none⟩ = some (.slice (some ⟨bt, 0, none⟩) k ct) := by rw [cell_of_row w1 _ 1 _ _ _ k1]; rfl
  clear hb1 HPV KR KB
  have A9 := A1
  have k9 := KR1.out
  subst hvb
  have c0 : w1.cell? ⟨w.heap.size + 1, 0, none⟩ = some (.slice none 0 0) := by rw [cell_of_row w1 _ 0 _ _ _ k9]; rfl
  have c1 : w1.cell? ⟨w.heap.size + 1, 1, none⟩ = some (.slice none 0 0) := by rw [cell_of_row w1 _ 1 _ _ _ k9]; rfl
  have f0 := frozen_of_row w1 (w.heap.size + 1) 0 _ _ k9
  have f1 := frozen_of_row w1 (w.heap.size + 1) 1 _ _ k9
  clear k9
  go_wp2
  refine bodyPost_ret (v := .tuple #[.agg #[.slice none 0 0, .slice none 0 0], .int .i64 1]) (by simp [results, Tryz.results28, go_sem, c0, c1]) rfl ⟨_, _, rfl, own32_nil _ _, ownI_nil _ _, ?_⟩
  exact (A9.out.setCell (by simp) _).setCell (by simp) _

set_option maxHeartbeats 2000000 in
set_option maxRecDepth 100000 in
theorem spI1 (n m k b o cap bt ct bx ox cx : Nat) (off rn : Int) (vb : Bool) (w : World) (hvb : vb = true) (hlo : off < 0)
    (HTO : Hid (∀ W, Below w.heap.size w W → Calls Tryz.prog 75 #[.slice (some ⟨bt, 0, none⟩) k ct] W fun e w' => e = .returned (.int .i64 rn) ∧ Below W.heap.size W w'))
    (HPV : Hid (Calls Tryz.prog 38 #[.agg #[.slice (some ⟨b, o, none⟩) n cap, .slice (some ⟨bt, 0, none⟩) k ct]] ((w.alloc (.cells #[.slice (some ⟨b, o, none⟩) n cap, .slice (some ⟨bt, 0, none⟩) k ct] 69)).alloc (.cells #[.slice none 0 0, .slice none 0 0] 69)) fun e w' => e = .returned (.bool vb) ∧ Below ((w.alloc (.cells #[.slice (some ⟨b, o, none⟩) n cap, .slice (some ⟨bt, 0, none⟩) k ct] 69)).alloc (.cells #[.slice none 0 0, .slice none 0 0] 69)).heap.size ((w.alloc (.cells #[.slice (some ⟨b, o, none⟩) n cap, .slice (some ⟨bt, 0, none⟩) k ct] 69)).alloc (.cells #[.slice none 0 0, .slice none 0 0] 69)) w')) :
    Calls Tryz.prog 28 #[.agg #[.slice (some ⟨b, o, none⟩) n cap, .slice (some ⟨bt, 0, none⟩) k ct], .int .i64 off, .slice (some ⟨bx, ox, none⟩) m cx] w (TellPost w [] [] 2) := by
  have A0 := hide (((Below.refl w.heap.size w).alloc (Nat.le_refl _) (.cells #[.slice (some ⟨b, o, none⟩) n cap, .slice (some ⟨bt, 0, none⟩) k ct] 69)).alloc (by simp) (.cells #[.slice none 0 0, .slice none 0 0] 69))
  have KB := hide (show ((w.alloc (.cells #[.slice (some ⟨b, o, none⟩) n cap, .slice (some ⟨bt, 0, none⟩) k ct] 69)).alloc (.cells #[.slice none 0 0, .slice none 0 0] 69)).heap[w.heap.size]? = some (.cells #[.slice (some ⟨b, o, none⟩) n cap, .slice (some ⟨bt, 0, none⟩) k ct] 69 (0, 0)) by
    rw [Below.heap_alloc _ _ _ (by simp)]; exact heap_alloc_new _ _)
  have KR := hide (show ((w.alloc (.cells #[.slice (some ⟨b, o, none⟩) n cap, .slice (some ⟨bt, 0, none⟩) k ct] 69)).alloc (.cells #[.slice none 0 0, .slice none 0 0] 69)).heap[w.heap.size + 1]? = some (.cells #[.slice none 0 0, .slice none 0 0] 69 (0, 0)) by
    have := heap_alloc_new (w.alloc (.cells #[.slice (some ⟨b, o, none⟩) n cap, .slice (some ⟨bt, 0, none⟩) k ct] 69)) (.cells #[.slice none 0 0, .slice none 0 0] 69)
    rw [show (w.alloc (.cells #[.slice (some ⟨b, o, none⟩) n cap, .slice (some ⟨bt, 0, none⟩) k ct] 69)).heap.size = w.heap.size + 1 by simp] at this; exact this)
  have s0 : w.heap.size + 2 ≤ ((w.alloc (.cells #[.slice (some ⟨b, o, none⟩) n cap, .slice (some ⟨bt, 0, none⟩) k ct] 69)).alloc (.cells #[.slice none 0 0, .slice none 0 0] 69)).heap.size := by simp
  go_enter Tryz.func28, Tryz.ntmps28
  go_wp2_with fail
  generalize (w.alloc (.cells #[.slice (some ⟨b, o, none⟩) n cap, .slice (some ⟨bt, 0, none⟩) k ct] 69)).alloc (.cells #[.slice none 0 0, .slice none 0 0] 69) = w0 at *
  refine HPV.out.mono ?_
  rintro e w1 ⟨rfl, hb1⟩
  have s1 := hb1.size
  have A1 := hide (A0.out.trans (hb1.mono (by omega)))
  have KR1 := hide ((hb1.block (w.heap.size + 1) (by omega)).trans KR.out)
  have k1 := (hb1.block w.heap.size (by omega)).trans KB.out
  have b0 : w1.cell? ⟨w.heap.size, 0, none⟩ = some (.slice (some ⟨b, o, none⟩) n cap) := by rw [cell_of_row w1 _ 0 _ _ _ k1]; rfl
  have b1 : w1.cell? ⟨w.heap.size, 1, none⟩ = some (.slice (some ⟨bt, 0, none⟩) k ct) := by rw [cell_of_row w1 _ 1 _ _ _ k1]; rfl
  clear hb1 HPV KR KB
  subst hvb
  have T1 := hide (HTO.out w1 A1.out)
  clear HTO
  go_wp2_with fail
  refine T1.out.mono ?_
  rintro e w2 ⟨rfl, hb2⟩
  have s2 := hb2.size
  have A9 := hide (A1.out.trans (hb2.mono (by omega)))
  have k9 := (hb2.block (w.heap.size + 1) (by omega)).trans KR1.out
  have b02 := (hb2.cell (p := ⟨w.heap.size, 0, none⟩) (by show w.heap.size < _; omega)).trans b0
  have b12 := (hb2.cell (p := ⟨w.heap.size, 1, none⟩) (by show w.heap.size < _; omega)).trans b1
  clear hb2 b0 b1 A1 KR1 T1
  have c0 : w2.cell? ⟨w.heap.size + 1, 0, none⟩ = some (.slice none 0 0) := by rw [cell_of_row w2 _ 0 _ _ _ k9]; rfl
  have c1 : w2.cell? ⟨w.heap.size + 1, 1, none⟩ = some (.slice none 0 0) := by rw [cell_of_row w2 _ 1 _ _ _ k9]; rfl
  have f0 := frozen_of_row w2 (w.heap.size + 1) 0 _ _ k9
  have f1 := frozen_of_row w2 (w.heap.size + 1) 1 _ _ k9
  clear k9
  go_wp2
  refine bodyPost_ret (v := .tuple #[.agg #[.slice none 0 0, .slice none 0 0], .int .i64 2]) (by simp [results, Tryz.results28, go_sem, c0, c1]) rfl ⟨_, _, rfl, own32_nil _ _, ownI_nil _ _, ?_⟩
  exact (A9.out.setCell (by simp) _).setCell (by simp) _

set_option maxHeartbeats 2000000 in
set_option maxRecDepth 100000 in
theorem spI2 (n m k b o cap bt ct bx ox cx : Nat) (off rn : Int) (vb : Bool) (w : World) (hvb : vb = true) (hlo : ¬ off < 0) (hhi : rn < off)
    (HTO : Hid (∀ W, Below w.heap.size w W → Calls Tryz.prog 75 #[.slice (some ⟨bt, 0, none⟩) k ct] W fun e w' => e = .returned (.int .i64 rn) ∧ Below W.heap.size W w'))
    (HPV : Hid (Calls Tryz.prog 38 #[.agg #[.slice (some ⟨b, o, none⟩) n cap, .slice (some ⟨bt, 0, none⟩) k ct]] ((w.alloc (.cells #[.slice (some ⟨b, o, none⟩) n cap, .slice (some ⟨bt, 0, none⟩) k ct] 69)).alloc (.cells #[.slice none 0 0, .slice none 0 0] 69)) fun e w' => e = .returned (.bool vb) ∧ Below ((w.alloc (.cells #[.slice (some ⟨b, o, none⟩) n cap, .slice (some ⟨bt, 0, none⟩) k ct] 69)).alloc (.cells #[.slice none 0 0, .slice none 0 0] 69)).heap.size ((w.alloc (.cells #[.slice (some ⟨b, o, none⟩) n cap, .slice (some ⟨bt, 0, none⟩) k ct] 69)).alloc (.cells #[.slice none 0 0, .slice none 0 0] 69)) w')) :
    Calls Tryz.prog 28 #[.agg #[.slice (some ⟨b, o, none⟩) n cap, .slice (some ⟨bt, 0, none⟩) k ct], .int .i64 off, .slice (some ⟨bx, ox, none⟩) m cx] w (TellPost w [] [] 2) := by
  have A0 := hide (((Below.refl w.heap.size w).alloc (Nat.le_refl _) (.cells #[.slice (some ⟨b, o, none⟩) n cap, .slice (some ⟨bt, 0, none⟩) k ct] 69)).alloc (by simp) (.cells #[.slice none 0 0, .slice none 0 0] 69))
  have KB := hide (show ((w.alloc (.cells #[.slice (some ⟨b, o, none⟩) n cap, .slice (some ⟨bt, 0, none⟩) k ct] 69)).alloc (.cells #[.slice none 0 0, .slice none 0 0] 69)).heap[w.heap.size]? = some (.cells #[.slice (some ⟨b, o, none⟩) n cap, .slice (some ⟨bt, 0, none⟩) k ct] 69 (0, 0)) by
    rw [Below.heap_alloc _ _ _ (by simp)]; exact heap_alloc_new _ _)
  have KR := hide (show ((w.alloc (.cells #[.slice (some ⟨b, o, none⟩) n cap, .slice (some ⟨bt, 0, none⟩) k ct] 69)).alloc (.cells #[.slice none 0 0, .slice none 0 0] 69)).heap[w.heap.size + 1]? = some (.cells #[.slice none 0 0, .slice none 0 0] 69 (0, 0)) by
    have := heap_alloc_new (w.alloc (.cells #[.slice (some ⟨b, o, none⟩) n cap, .slice (some ⟨bt, 0, none⟩) k ct] 69)) (.cells #[.slice none 0 0, .slice none 0 0] 69)
    rw [show (w.alloc (.cells #[.slice (some ⟨b, o, none⟩) n cap, .slice (some ⟨bt, 0, none⟩) k ct] 69)).heap.size = w.heap.size + 1 by simp] at this; exact this)
  have s0 : w.heap.size + 2 ≤ ((w.alloc (.cells #[.slice (some ⟨b, o, none⟩) n cap, .slice (some ⟨bt, 0, none⟩) k ct] 69)).alloc (.cells #[.slice none 0 0, .slice none 0 0] 69)).heap.size := by simp
  go_enter Tryz.func28, Tryz.ntmps28
  go_wp2_with fail
  generalize (w.alloc (.cells #[.slice (some ⟨b, o, none⟩) n cap, .slice (some ⟨bt, 0, none⟩) k ct] 69)).alloc (.cells #[.slice none 0 0, .slice none 0 0] 69) = w0 at *
  refine HPV.out.mono ?_
  rintro e w1 ⟨rfl, hb1⟩
  have s1 := hb1.size
  have A1 := hide (A0.out.trans (hb1.mono (by omega)))
  have KR1 := hide ((hb1.block (w.heap.size + 1) (by omega)).trans KR.out)
  have k1 := (hb1.block w.heap.size (by omega)).trans KB.out
  have b0 : w1.cell? ⟨w.heap.size, 0, none⟩ = some (.slice (some ⟨b, o, none⟩) n cap) := by rw [cell_of_row w1 _ 0 _ _ _ k1]; rfl
  have b1 : w1.cell? ⟨w.heap.size, 1, none⟩ = some (.slice (some ⟨bt, 0, none⟩) k ct) := by rw [cell_of_row w1 _ 1 _ _ _ k1]; rfl
  clear hb1 HPV KR KB
  subst hvb
  have T1 := hide (HTO.out w1 A1.out)
  clear HTO
  go_wp2_with fail
  refine T1.out.mono ?_
  rintro e w2 ⟨rfl, hb2⟩
  have s2 := hb2.size
  have A9 := hide (A1.out.trans (hb2.mono (by omega)))
  have k9 := (hb2.block (w.heap.size + 1) (by omega)).trans KR1.out
  have b02 := (hb2.cell (p := ⟨w.heap.size, 0, none⟩) (by show w.heap.size < _; omega)).trans b0
  have b12 := (hb2.cell (p := ⟨w.heap.size, 1, none⟩) (by show w.heap.size < _; omega)).trans b1
  clear hb2 b0 b1 A1 KR1 T1
  have c0 : w2.cell? ⟨w.heap.size + 1, 0, none⟩ = some (.slice none 0 0) := by rw [cell_of_row w2 _ 0 _ _ _ k9]; rfl
  have c1 : w2.cell? ⟨w.heap.size + 1, 1, none⟩ = some (.slice none 0 0) := by rw [cell_of_row w2 _ 1 _ _ _ k9]; rfl
  have f0 := frozen_of_row w2 (w.heap.size + 1) 0 _ _ k9
  have f1 := frozen_of_row w2 (w.heap.size + 1) 1 _ _ k9
  clear k9
  go_wp2
  refine bodyPost_ret (v := .tuple #[.agg #[.slice none 0 0, .slice none 0 0], .int .i64 2]) (by simp [results, Tryz.results28, go_sem, c0, c1]) rfl ⟨_, _, rfl, own32_nil _ _, ownI_nil _ _, ?_⟩
  exact (A9.out.setCell (by simp) _).setCell (by simp) _

set_option maxHeartbeats 2000000 in
set_option maxRecDepth 100000 in
theorem spI3 (n m k b o cap bt ct bx ox cx : Nat) (off rn : Int) (vb : Bool) (w : World) (hvb : vb = true) (hlo : ¬ off < 0) (hhi : ¬ rn < off) (hm : (0 : Int) < (m : Int)) (hrn : 0 ≤ rn ∧ rn ≤ 8192) (hmm : m ≤ 1048576) (hfu : (8192 : Int) < rn + (m : Int))
    (HTO : Hid (∀ W, Below w.heap.size w W → Calls Tryz.prog 75 #[.slice (some ⟨bt, 0, none⟩) k ct] W fun e w' => e = .returned (.int .i64 rn) ∧ Below W.heap.size W w'))
    (HPV : Hid (Calls Tryz.prog 38 #[.agg #[.slice (some ⟨b, o, none⟩) n cap, .slice (some ⟨bt, 0, none⟩) k ct]] ((w.alloc (.cells #[.slice (some ⟨b, o, none⟩) n cap, .slice (some ⟨bt, 0, none⟩) k ct] 69)).alloc (.cells #[.slice none 0 0, .slice none 0 0] 69)) fun e w' => e = .returned (.bool vb) ∧ Below ((w.alloc (.cells #[.slice (some ⟨b, o, none⟩) n cap, .slice (some ⟨bt, 0, none⟩) k ct] 69)).alloc (.cells #[.slice none 0 0, .slice none 0 0] 69)).heap.size ((w.alloc (.cells #[.slice (some ⟨b, o, none⟩) n cap, .slice (some ⟨bt, 0, none⟩) k ct] 69)).alloc (.cells #[.slice none 0 0, .slice none 0 0] 69)) w')) :
    Calls Tryz.prog 28 #[.agg #[.slice (some ⟨b, o, none⟩) n cap, .slice (some ⟨bt, 0, none⟩) k ct], .int .i64 off, .slice (some ⟨bx, ox, none⟩) m cx] w (TellPost w [] [] 10) := by
  have A0 := hide (((Below.refl w.heap.size w).alloc (Nat.le_refl _) (.cells #[.slice (some ⟨b, o, none⟩) n cap, .slice (some ⟨bt, 0, none⟩) k ct] 69)).alloc (by simp) (.cells #[.slice none 0 0, .slice none 0 0] 69))
  have KB := hide (show ((w.alloc (.cells #[.slice (some ⟨b, o, none⟩) n cap, .slice (some ⟨bt, 0, none⟩) k ct] 69)).alloc (.cells #[.slice none 0 0, .slice none 0 0] 69)).heap[w.heap.size]? = some (.cells #[.slice (some ⟨b, o, none⟩) n cap, .slice (some ⟨bt, 0, none⟩) k ct] 69 (0, 0)) by
    rw [Below.heap_alloc _ _ _ (by simp)]; exact heap_alloc_new _ _)
  have KR := hide (show ((w.alloc (.cells #[.slice (some ⟨b, o, none⟩) n cap, .slice (some ⟨bt, 0, none⟩) k ct] 69)).alloc (.cells #[.slice none 0 0, .slice none 0 0] 69)).heap[w.heap.size + 1]? = some (.cells #[.slice none 0 0, .slice none 0 0] 69 (0, 0)) by
    have := heap_alloc_new (w.alloc (.cells #[.slice (some ⟨b, o, none⟩) n cap, .slice (some ⟨bt, 0, none⟩) k ct] 69)) (.cells #[.slice none 0 0, .slice none 0 0] 69)
    rw [show (w.alloc (.cells #[.slice (some ⟨b, o, none⟩) n cap, .slice (some ⟨bt, 0, none⟩) k ct] 69)).heap.size = w.heap.size + 1 by simp] at this; exact this)
  have s0 : w.heap.size + 2 ≤ ((w.alloc (.cells #[.slice (some ⟨b, o, none⟩) n cap, .slice (some ⟨bt, 0, none⟩) k ct] 69)).alloc (.cells #[.slice none 0 0, .slice none 0 0] 69)).heap.size := by simp
  go_enter Tryz.func28, Tryz.ntmps28
  go_wp2_with fail
  generalize (w.alloc (.cells #[.slice (some ⟨b, o, none⟩) n cap, .slice (some ⟨bt, 0, none⟩) k ct] 69)).alloc (.cells #[.slice none 0 0, .slice none 0 0] 69) = w0 at *
  refine HPV.out.mono ?_
  rintro e w1 ⟨rfl, hb1⟩
  have s1 := hb1.size
  have A1 := hide (A0.out.trans (hb1.mono (by omega)))
  have KR1 := hide ((hb1.block (w.heap.size + 1) (by omega)).trans KR.out)
  have k1 := (hb1.block w.heap.size (by omega)).trans KB.out
  have b0 : w1.cell? ⟨w.heap.size, 0, none⟩ = some (.slice (some ⟨b, o, none⟩) n cap) := by rw [cell_of_row w1 _ 0 _ _ _ k1]; rfl
  have b1 : w1.cell? ⟨w.heap.size, 1, none⟩ = some (.slice (some ⟨bt, 0, none⟩) k ct) := by rw [cell_of_row w1 _ 1 _ _ _ k1]; rfl
  clear hb1 HPV KR KB
  subst hvb
  have T1 := hide (HTO.out w1 A1.out)
  clear HTO
  go_wp2_with fail
  refine T1.out.mono ?_
  rintro e w2 ⟨rfl, hb2⟩
  have s2 := hb2.size
  have A9 := hide (A1.out.trans (hb2.mono (by omega)))
  have k9 := (hb2.block (w.heap.size + 1) (by omega)).trans KR1.out
  have b02 := (hb2.cell (p := ⟨w.heap.size, 0, none⟩) (by show w.heap.size < _; omega)).trans b0
  have b12 := (hb2.cell (p := ⟨w.heap.size, 1, none⟩) (by show w.heap.size < _; omega)).trans b1
  clear hb2 b0 b1 A1 KR1 T1
  have c0 : w2.cell? ⟨w.heap.size + 1, 0, none⟩ = some (.slice none 0 0) := by rw [cell_of_row w2 _ 0 _ _ _ k9]; rfl
  have c1 : w2.cell? ⟨w.heap.size + 1, 1, none⟩ = some (.slice none 0 0) := by rw [cell_of_row w2 _ 1 _ _ _ k9]; rfl
  have f0 := frozen_of_row w2 (w.heap.size + 1) 0 _ _ k9
  have f1 := frozen_of_row w2 (w.heap.size + 1) 1 _ _ k9
  clear k9
  go_wp2
  refine bodyPost_ret (v := .tuple #[.agg #[.slice none 0 0, .slice none 0 0], .int .i64 10]) (by simp [results, Tryz.results28, go_sem, c0, c1]) rfl ⟨_, _, rfl, own32_nil _ _, ownI_nil _ _, ?_⟩
  exact (A9.out.setCell (by simp) _).setCell (by simp) _

set_option maxHeartbeats 2000000 in
set_option maxRecDepth 100000 in
theorem spI4 (n m k b o cap bt ct bx ox cx : Nat) (off rn : Int) (vb : Bool) (w : World) (hvb : vb = true) (hlo : ¬ off < 0) (hhi : ¬ rn < off) (hm : (0 : Int) < (m : Int)) (hrn : 0 ≤ rn ∧ rn ≤ 8192) (hmm : m ≤ 1048576) (hnn : n ≤ 220000) (hfu : ¬ (8192 : Int) < rn + (m : Int)) (hfs : (220000 : Int) < (n : Int) + (m : Int))
    (HTO : Hid (∀ W, Below w.heap.size w W → Calls Tryz.prog 75 #[.slice (some ⟨bt, 0, none⟩) k ct] W fun e w' => e = .returned (.int .i64 rn) ∧ Below W.heap.size W w'))
    (HPV : Hid (Calls Tryz.prog 38 #[.agg #[.slice (some ⟨b, o, none⟩) n cap, .slice (some ⟨bt, 0, none⟩) k ct]] ((w.alloc (.cells #[.slice (some ⟨b, o, none⟩) n cap, .slice (some ⟨bt, 0, none⟩) k ct] 69)).alloc (.cells #[.slice none 0 0, .slice none 0 0] 69)) fun e w' => e = .returned (.bool vb) ∧ Below ((w.alloc (.cells #[.slice (some ⟨b, o, none⟩) n cap, .slice (some ⟨bt, 0, none⟩) k ct] 69)).alloc (.cells #[.slice none 0 0, .slice none 0 0] 69)).heap.size ((w.alloc (.cells #[.slice (some ⟨b, o, none⟩) n cap, .slice (some ⟨bt, 0, none⟩) k ct] 69)).alloc (.cells #[.slice none 0 0, .slice none 0 0] 69)) w')) :
    Calls Tryz.prog 28 #[.agg #[.slice (some ⟨b, o, none⟩) n cap, .slice (some ⟨bt, 0, none⟩) k ct], .int .i64 off, .slice (some ⟨bx, ox, none⟩) m cx] w (TellPost w [] [] 10) := by
  have A0 := hide (((Below.refl w.heap.size w).alloc (Nat.le_refl _) (.cells #[.slice (some ⟨b, o, none⟩) n cap, .slice (some ⟨bt, 0, none⟩) k ct] 69)).alloc (by simp) (.cells #[.slice none 0 0, .slice none 0 0] 69))
  have KB := hide (show ((w.alloc (.cells #[.slice (some ⟨b, o, none⟩) n cap, .slice (some ⟨bt, 0, none⟩) k ct] 69)).alloc (.cells #[.slice none 0 0, .slice none 0 0] 69)).heap[w.heap.size]? = some (.cells #[.slice (some ⟨b, o, none⟩) n cap, .slice (some ⟨bt, 0, none⟩) k ct] 69 (0, 0)) by
    rw [Below.heap_alloc _ _ _ (by simp)]; exact heap_alloc_new _ _)
  have KR := hide (show ((w.alloc (.cells #[.slice (some ⟨b, o, none⟩) n cap, .slice (some ⟨bt, 0, none⟩) k ct] 69)).alloc (.cells #[.slice none 0 0, .slice none 0 0] 69)).heap[w.heap.size + 1]? = some (.cells #[.slice none 0 0, .slice none 0 0] 69 (0, 0)) by
    have := heap_alloc_new (w.alloc (.cells #[.slice (some ⟨b, o, none⟩) n cap, .slice (some ⟨bt, 0, none⟩) k ct] 69)) (.cells #[.slice none 0 0, .slice none 0 0] 69)
    rw [show (w.alloc (.cells #[.slice (some ⟨b, o, none⟩) n cap, .slice (some ⟨bt, 0, none⟩) k ct] 69)).heap.size = w.heap.size + 1 by simp] at this; exact this)
  have s0 : w.heap.size + 2 ≤ ((w.alloc (.cells #[.slice (some ⟨b, o, none⟩) n cap, .slice (some ⟨bt, 0, none⟩) k ct] 69)).alloc (.cells #[.slice none 0 0, .slice none 0 0] 69)).heap.size := by simp
  go_enter Tryz.func28, Tryz.ntmps28
  go_wp2_with fail
  generalize (w.alloc (.cells #[.slice (some ⟨b, o, none⟩) n cap, .slice (some ⟨bt, 0, none⟩) k ct] 69)).alloc (.cells #[.slice none 0 0, .slice none 0 0] 69) = w0 at *
  refine HPV.out.mono ?_
  rintro e w1 ⟨rfl, hb1⟩
  have s1 := hb1.size
  have A1 := hide (A0.out.trans (hb1.mono (by omega)))
  have KR1 := hide ((hb1.block (w.heap.size + 1) (by omega)).trans KR.out)
  have k1 := (hb1.block w.heap.size (by omega)).trans KB.out
  have b0 : w1.cell? ⟨w.heap.size, 0, none⟩ = some (.slice (some ⟨b, o, none⟩) n cap) := by rw [cell_of_row w1 _ 0 _ _ _ k1]; rfl
  have b1 : w1.cell? ⟨w.heap.size, 1, none⟩ = some (.slice (some ⟨bt, 0, none⟩) k ct) := by rw [cell_of_row w1 _ 1 _ _ _ k1]; rfl
  clear hb1 HPV KR KB
  subst hvb
  have T1 := hide (HTO.out w1 A1.out)
  clear HTO
  go_wp2_with fail
  refine T1.out.mono ?_
  rintro e w2 ⟨rfl, hb2⟩
  have s2 := hb2.size
  have A9 := hide (A1.out.trans (hb2.mono (by omega)))
  have k9 := (hb2.block (w.heap.size + 1) (by omega)).trans KR1.out
  have b02 := (hb2.cell (p := ⟨w.heap.size, 0, none⟩) (by show w.heap.size < _; omega)).trans b0
  have b12 := (hb2.cell (p := ⟨w.heap.size, 1, none⟩) (by show w.heap.size < _; omega)).trans b1
  clear hb2 b0 b1 A1 KR1 T1
  have c0 : w2.cell? ⟨w.heap.size + 1, 0, none⟩ = some (.slice none 0 0) := by rw [cell_of_row w2 _ 0 _ _ _ k9]; rfl
  have c1 : w2.cell? ⟨w.heap.size + 1, 1, none⟩ = some (.slice none 0 0) := by rw [cell_of_row w2 _ 1 _ _ _ k9]; rfl
  have f0 := frozen_of_row w2 (w.heap.size + 1) 0 _ _ k9
  have f1 := frozen_of_row w2 (w.heap.size + 1) 1 _ _ k9
  clear k9
  go_wp2
  refine bodyPost_ret (v := .tuple #[.agg #[.slice none 0 0, .slice none 0 0], .int .i64 10]) (by simp [results, Tryz.results28, go_sem, c0, c1]) rfl ⟨_, _, rfl, own32_nil _ _, ownI_nil _ _, ?_⟩
  exact (A9.out.setCell (by simp) _).setCell (by simp) _

set_option maxHeartbeats 2000000 in
set_option maxRecDepth 100000 in
theorem spI5 (n m k b o cap bt ct bx ox cx : Nat) (off rn : Int) (vb : Bool) (w : World) (RS : List Int) (RI : List It) (hvb : vb = true) (hlo : ¬ off < 0) (hhi : ¬ rn < off) (hm : ¬ (0 : Int) < (m : Int))
    (HTO : Hid (∀ W, Below w.heap.size w W → Calls Tryz.prog 75 #[.slice (some ⟨bt, 0, none⟩) k ct] W fun e w' => e = .returned (.int .i64 rn) ∧ Below W.heap.size W w'))
    (HIS : Hid (∀ W, Below w.heap.size w W → Calls Tryz.prog 76 #[.agg #[.slice (some ⟨b, o, none⟩) n cap, .slice (some ⟨bt, 0, none⟩) k ct], .int .i64 off, .slice (some ⟨bx, ox, none⟩) m cx] W (InsPost W RS RI)))
    (HPV : Hid (Calls Tryz.prog 38 #[.agg #[.slice (some ⟨b, o, none⟩) n cap, .slice (some ⟨bt, 0, none⟩) k ct]] ((w.alloc (.cells #[.slice (some ⟨b, o, none⟩) n cap, .slice (some ⟨bt, 0, none⟩) k ct] 69)).alloc (.cells #[.slice none 0 0, .slice none 0 0] 69)) fun e w' => e = .returned (.bool vb) ∧ Below ((w.alloc (.cells #[.slice (some ⟨b, o, none⟩) n cap, .slice (some ⟨bt, 0, none⟩) k ct] 69)).alloc (.cells #[.slice none 0 0, .slice none 0 0] 69)).heap.size ((w.alloc (.cells #[.slice (some ⟨b, o, none⟩) n cap, .slice (some ⟨bt, 0, none⟩) k ct] 69)).alloc (.cells #[.slice none 0 0, .slice none 0 0] 69)) w')) :
    Calls Tryz.prog 28 #[.agg #[.slice (some ⟨b, o, none⟩) n cap, .slice (some ⟨bt, 0, none⟩) k ct], .int .i64 off, .slice (some ⟨bx, ox, none⟩) m cx] w (TellPost w RS RI 0) := by
  have A0 := hide (((Below.refl w.heap.size w).alloc (Nat.le_refl _) (.cells #[.slice (some ⟨b, o, none⟩) n cap, .slice (some ⟨bt, 0, none⟩) k ct] 69)).alloc (by simp) (.cells #[.slice none 0 0, .slice none 0 0] 69))
  have KB := hide (show ((w.alloc (.cells #[.slice (some ⟨b, o, none⟩) n cap, .slice (some ⟨bt, 0, none⟩) k ct] 69)).alloc (.cells #[.slice none 0 0, .slice none 0 0] 69)).heap[w.heap.size]? = some (.cells #[.slice (some ⟨b, o, none⟩) n cap, .slice (some ⟨bt, 0, none⟩) k ct] 69 (0, 0)) by
    rw [Below.heap_alloc _ _ _ (by simp)]; exact heap_alloc_new _ _)
  have KR := hide (show ((w.alloc (.cells #[.slice (some ⟨b, o, none⟩) n cap, .slice (some ⟨bt, 0, none⟩) k ct] 69)).alloc (.cells #[.slice none 0 0, .slice none 0 0] 69)).heap[w.heap.size + 1]? = some (.cells #[.slice none 0 0, .slice none 0 0] 69 (0, 0)) by
    have := heap_alloc_new (w.alloc (.cells #[.slice (some ⟨b, o, none⟩) n cap, .slice (some ⟨bt, 0, none⟩) k ct] 69)) (.cells #[.slice none 0 0, .slice none 0 0] 69)
    rw [show (w.alloc (.cells #[.slice (some ⟨b, o, none⟩) n cap, .slice (some ⟨bt, 0, none⟩) k ct] 69)).heap.size = w.heap.size + 1 by simp] at this; exact this)
  have s0 : w.heap.size + 2 ≤ ((w.alloc (.cells #[.slice (some ⟨b, o, none⟩) n cap, .slice (some ⟨bt, 0, none⟩) k ct] 69)).alloc (.cells #[.slice none 0 0, .slice none 0 0] 69)).heap.size := by simp
  go_enter Tryz.func28, Tryz.ntmps28
  go_wp2_with fail
  generalize (w.alloc (.cells #[.slice (some ⟨b, o, none⟩) n cap, .slice (some ⟨bt, 0, none⟩) k ct] 69)).alloc (.cells #[.slice none 0 0, .slice none 0 0] 69) = w0 at *
  refine HPV.out.mono ?_
  rintro e w1 ⟨rfl, hb1⟩
  have s1 := hb1.size
  have A1 := hide (A0.out.trans (hb1.mono (by omega)))
  have KR1 := hide ((hb1.block (w.heap.size + 1) (by omega)).trans KR.out)
  have k1 := (hb1.block w.heap.size (by omega)).trans KB.out
  have b0 : w1.cell? ⟨w.heap.size, 0, none⟩ = some (.slice (some ⟨b, o, none⟩) n cap) := by rw [cell_of_row w1 _ 0 _ _ _ k1]; rfl
  have b1 : w1.cell? ⟨w.heap.size, 1, none⟩ = some (.slice (some ⟨bt, 0, none⟩) k ct) := by rw [cell_of_row w1 _ 1 _ _ _ k1]; rfl
  clear hb1 HPV KR KB
  subst hvb
  have T1 := hide (HTO.out w1 A1.out)
  clear HTO
  go_wp2_with fail
  refine T1.out.mono ?_
  rintro e w2 ⟨rfl, hb2⟩
  have s2 := hb2.size
  have A9 := hide (A1.out.trans (hb2.mono (by omega)))
  have k9 := (hb2.block (w.heap.size + 1) (by omega)).trans KR1.out
  have b02 := (hb2.cell (p := ⟨w.heap.size, 0, none⟩) (by show w.heap.size < _; omega)).trans b0
  have b12 := (hb2.cell (p := ⟨w.heap.size, 1, none⟩) (by show w.heap.size < _; omega)).trans b1
  clear hb2 b0 b1 A1 KR1 T1
  have I2 := hide (HIS.out w2 A9.out)
  have K9 := hide k9
  clear HIS k9
  go_wp2_with fail
  refine I2.out.mono ?_
  rintro e w3 ⟨vs, vi, rfl, ho, hi, hb3, _⟩
  obtain ⟨as1, cs1, rfl⟩ := own32_val ho
  obtain ⟨ai1, ci1, rfl⟩ := ownI_val hi
  have O1 := hide ho
  have I1 := hide hi
  have s3 := hb3.size
  have A3 := hide (A9.out.trans (hb3.mono (by omega)))
  have k3 := (hb3.block (w.heap.size + 1) (by omega)).trans K9.out
  have c0 : w3.cell? ⟨w.heap.size + 1, 0, none⟩ = some (.slice none 0 0) := by rw [cell_of_row w3 _ 0 _ _ _ k3]; rfl
  have c1 : w3.cell? ⟨w.heap.size + 1, 1, none⟩ = some (.slice none 0 0) := by rw [cell_of_row w3 _ 1 _ _ _ k3]; rfl
  have f0 := frozen_of_row w3 (w.heap.size + 1) 0 _ _ k3
  have f1 := frozen_of_row w3 (w.heap.size + 1) 1 _ _ k3
  clear hb3 k3 ho hi I2 b02 b12
  generalize RS.length = zl at *
  generalize RI.length = tl' at *
  go_wp2
  refine bodyPost_ret (v := .tuple #[.agg #[.slice as1 zl cs1, .slice ai1 tl' ci1], .int .i64 0]) (by simp [results, Tryz.results28, go_sem, c0, c1]) rfl ⟨_, _, rfl, ?_, ?_, ?_⟩
  · exact owns_of_block (owns_base O1.out (by omega)) (fun k hk => by have h1 := O1.out.lt k hk; rw [Below.heap_setCell _ _ _ _ (by simp; omega), Below.heap_setCell _ _ _ _ (by simp; omega)])
  · exact owns_of_block (owns_base I1.out (by omega)) (fun k hk => by have h1 := I1.out.lt k hk; rw [Below.heap_setCell _ _ _ _ (by simp; omega), Below.heap_setCell _ _ _ _ (by simp; omega)])
  · exact (A3.out.setCell (by simp) _).setCell (by simp) _
set_option maxHeartbeats 2000000 in
set_option maxRecDepth 100000 in
theorem spI6 (n m k b o cap bt ct bx ox cx : Nat) (off rn : Int) (vb : Bool) (w : World) (RS : List Int) (RI : List It) (hvb : vb = true) (hlo : ¬ off < 0) (hhi : ¬ rn < off) (hm : (0 : Int) < (m : Int)) (hrn : 0 ≤ rn ∧ rn ≤ 8192) (hmm : m ≤ 1048576) (hnn : n ≤ 220000) (hfu : ¬ (8192 : Int) < rn + (m : Int)) (hfs : ¬ (220000 : Int) < (n : Int) + (m : Int))
    (HTO : Hid (∀ W, Below w.heap.size w W → Calls Tryz.prog 75 #[.slice (some ⟨bt, 0, none⟩) k ct] W fun e w' => e = .returned (.int .i64 rn) ∧ Below W.heap.size W w'))
    (HIS : Hid (∀ W, Below w.heap.size w W → Calls Tryz.prog 76 #[.agg #[.slice (some ⟨b, o, none⟩) n cap, .slice (some ⟨bt, 0, none⟩) k ct], .int .i64 off, .slice (some ⟨bx, ox, none⟩) m cx] W (InsPost W RS RI)))
    (HPV : Hid (Calls Tryz.prog 38 #[.agg #[.slice (some ⟨b, o, none⟩) n cap, .slice (some ⟨bt, 0, none⟩) k ct]] ((w.alloc (.cells #[.slice (some ⟨b, o, none⟩) n cap, .slice (some ⟨bt, 0, none⟩) k ct] 69)).alloc (.cells #[.slice none 0 0, .slice none 0 0] 69)) fun e w' => e = .returned (.bool vb) ∧ Below ((w.alloc (.cells #[.slice (some ⟨b, o, none⟩) n cap, .slice (some ⟨bt, 0, none⟩) k ct] 69)).alloc (.cells #[.slice none 0 0, .slice none 0 0] 69)).heap.size ((w.alloc (.cells #[.slice (some ⟨b, o, none⟩) n cap, .slice (some ⟨bt, 0, none⟩) k ct] 69)).alloc (.cells #[.slice none 0 0, .slice none 0 0] 69)) w')) :
    Calls Tryz.prog 28 #[.agg #[.slice (some ⟨b, o, none⟩) n cap, .slice (some ⟨bt, 0, none⟩) k ct], .int .i64 off, .slice (some ⟨bx, ox, none⟩) m cx] w (TellPost w RS RI 0) := by
  have A0 := hide (((Below.refl w.heap.size w).alloc (Nat.le_refl _) (.cells #[.slice (some ⟨b, o, none⟩) n cap, .slice (some ⟨bt, 0, none⟩) k ct] 69)).alloc (by simp) (.cells #[.slice none 0 0, .slice none 0 0] 69))
  have KB := hide (show ((w.alloc (.cells #[.slice (some ⟨b, o, none⟩) n cap, .slice (some ⟨bt, 0, none⟩) k ct] 69)).alloc (.cells #[.slice none 0 0, .slice none 0 0] 69)).heap[w.heap.size]? = some (.cells #[.slice (some ⟨b, o, none⟩) n cap, .slice (some ⟨bt, 0, none⟩) k ct] 69 (0, 0)) by
    rw [Below.heap_alloc _ _ _ (by simp)]; exact heap_alloc_new _ _)
  have KR := hide (show ((w.alloc (.cells #[.slice (some ⟨b, o, none⟩) n cap, .slice (some ⟨bt, 0, none⟩) k ct] 69)).alloc (.cells #[.slice none 0 0, .slice none 0 0] 69)).heap[w.heap.size + 1]? = some (.cells #[.slice none 0 0, .slice none 0 0] 69 (0, 0)) by
    have := heap_alloc_new (w.alloc (.cells #[.slice (some ⟨b, o, none⟩) n cap, .slice (some ⟨bt, 0, none⟩) k ct] 69)) (.cells #[.slice none 0 0, .slice none 0 0] 69)
    rw [show (w.alloc (.cells #[.slice (some ⟨b, o, none⟩) n cap, .slice (some ⟨bt, 0, none⟩) k ct] 69)).heap.size = w.heap.size + 1 by simp] at this; exact this)
  have s0 : w.heap.size + 2 ≤ ((w.alloc (.cells #[.slice (some ⟨b, o, none⟩) n cap, .slice (some ⟨bt, 0, none⟩) k ct] 69)).alloc (.cells #[.slice none 0 0, .slice none 0 0] 69)).heap.size := by simp
  go_enter Tryz.func28, Tryz.ntmps28
  go_wp2_with fail
  generalize (w.alloc (.cells #[.slice (some ⟨b, o, none⟩) n cap, .slice (some ⟨bt, 0, none⟩) k ct] 69)).alloc (.cells #[.slice none 0 0, .slice none 0 0] 69) = w0 at *
  refine HPV.out.mono ?_
  rintro e w1 ⟨rfl, hb1⟩
  have s1 := hb1.size
  have A1 := hide (A0.out.trans (hb1.mono (by omega)))
  have KR1 := hide ((hb1.block (w.heap.size + 1) (by omega)).trans KR.out)
  have k1 := (hb1.block w.heap.size (by omega)).trans KB.out
  have b0 : w1.cell? ⟨w.heap.size, 0, none⟩ = some (.slice (some ⟨b, o, none⟩) n cap) := by rw [cell_of_row w1 _ 0 _ _ _ k1]; rfl
  have b1 : w1.cell? ⟨w.heap.size, 1, none⟩ = some (.slice (some ⟨bt, 0, none⟩) k ct) := by rw [cell_of_row w1 _ 1 _ _ _ k1]; rfl
  clear hb1 HPV KR KB
  subst hvb
  have T1 := hide (HTO.out w1 A1.out)
  clear HTO
  go_wp2_with fail
  refine T1.out.mono ?_
  rintro e w2 ⟨rfl, hb2⟩
  have s2 := hb2.size
  have A9 := hide (A1.out.trans (hb2.mono (by omega)))
  have k9 := (hb2.block (w.heap.size + 1) (by omega)).trans KR1.out
  have b02 := (hb2.cell (p := ⟨w.heap.size, 0, none⟩) (by show w.heap.size < _; omega)).trans b0
  have b12 := (hb2.cell (p := ⟨w.heap.size, 1, none⟩) (by show w.heap.size < _; omega)).trans b1
  clear hb2 b0 b1 A1 KR1 T1
  have I2 := hide (HIS.out w2 A9.out)
  have K9 := hide k9
  clear HIS k9
  go_wp2_with fail
  refine I2.out.mono ?_
  rintro e w3 ⟨vs, vi, rfl, ho, hi, hb3, _⟩
  obtain ⟨as1, cs1, rfl⟩ := own32_val ho
  obtain ⟨ai1, ci1, rfl⟩ := ownI_val hi
  have O1 := hide ho
  have I1 := hide hi
  have s3 := hb3.size
  have A3 := hide (A9.out.trans (hb3.mono (by omega)))
  have k3 := (hb3.block (w.heap.size + 1) (by omega)).trans K9.out
  have c0 : w3.cell? ⟨w.heap.size + 1, 0, none⟩ = some (.slice none 0 0) := by rw [cell_of_row w3 _ 0 _ _ _ k3]; rfl
  have c1 : w3.cell? ⟨w.heap.size + 1, 1, none⟩ = some (.slice none 0 0) := by rw [cell_of_row w3 _ 1 _ _ _ k3]; rfl
  have f0 := frozen_of_row w3 (w.heap.size + 1) 0 _ _ k3
  have f1 := frozen_of_row w3 (w.heap.size + 1) 1 _ _ k3
  clear hb3 k3 ho hi I2 b02 b12
  generalize RS.length = zl at *
  generalize RI.length = tl' at *
  go_wp2
  refine bodyPost_ret (v := .tuple #[.agg #[.slice as1 zl cs1, .slice ai1 tl' ci1], .int .i64 0]) (by simp [results, Tryz.results28, go_sem, c0, c1]) rfl ⟨_, _, rfl, ?_, ?_, ?_⟩
  · exact owns_of_block (owns_base O1.out (by omega)) (fun k hk => by have h1 := O1.out.lt k hk; rw [Below.heap_setCell _ _ _ _ (by simp; omega), Below.heap_setCell _ _ _ _ (by simp; omega)])
  · exact owns_of_block (owns_base I1.out (by omega)) (fun k hk => by have h1 := I1.out.lt k hk; rw [Below.heap_setCell _ _ _ _ (by simp; omega), Below.heap_setCell _ _ _ _ (by simp; omega)])
  · exact (A3.out.setCell (by simp) _).setCell (by simp) _
set_option maxHeartbeats 1000000 in
/-- spec.PieceInsert. -/
theorem specPI (zs ts : List Int) (b o cap : Nat) (base bt ct : Nat) (xs : List It) (off : Int) (bx ox cx : Nat) (w : World) (hc : At32 w b o zs) (hb : b < w.heap.size) (hz : zs.length ≤ 1048576) (hcap : zs.length ≤ cap) (hm : cap ≤ maxLen) (ho : OwI w base (.slice (some ⟨bt, 0, none⟩) xs.length ct) xs) (hn : xs.length ≤ 1048576) (ht : At32 w bx ox ts) (hbt : bx < w.heap.size) (htl : ts.length ≤ 1048576) :
    Calls Tryz.prog 28 #[.agg #[.slice (some ⟨b, o, none⟩) zs.length cap, .slice (some ⟨bt, 0, none⟩) xs.length ct], .int .i64 off, .slice (some ⟨bx, ox, none⟩) ts.length cx] w (TellPost w (piS zs xs off ts) (piI zs xs off ts) (piC zs xs off ts)) := by
  have hr := OwI.rd ho
  have B0 := ((Below.refl w.heap.size w).alloc (Nat.le_refl _) (.cells #[.slice (some ⟨b, o, none⟩) zs.length cap, .slice (some ⟨bt, 0, none⟩) xs.length ct] 69)).alloc (by simp) (.cells #[.slice none 0 0, .slice none 0 0] 69)
  have s0 : ((w.alloc (.cells #[.slice (some ⟨b, o, none⟩) zs.length cap, .slice (some ⟨bt, 0, none⟩) xs.length ct] 69)).alloc (.cells #[.slice none 0 0, .slice none 0 0] 69)).heap.size = w.heap.size + 2 := by simp
  have HPV := pvalidS w.heap.size zs b o cap _ xs _ (hc.below B0 hb) (by omega) hz hcap hm (hr.below B0 (Nat.le_refl _)) (by omega) hn
  cases hT : pRead zs xs with
  | none =>
    rw [hT] at HPV
    have e1 : piT zs xs off ts = none := by unfold piT; rw [hT]
    have e2 : piC zs xs off ts = 1 := by unfold piC; rw [hT]
    rw [show piS zs xs off ts = [] by unfold piS; rw [e1]; rfl, show piI zs xs off ts = [] by unfold piI; rw [e1], e2]
    exact spI0 _ _ _ b o cap bt ct bx ox cx off 0 false w rfl (hide HPV)
  | some T =>
    rw [hT] at HPV
    obtain ⟨hp1, hp2, hp3, hp4⟩ := pRead_some hT
    have hbal := (readT_some hp1).2.1
    have hxs : xs = T.told 0 := hp4
    have hpc := okT_pcs (readT_some hp1).1
    have hok : T.ok := ⟨fun p hp => (by
      rw [← AT.flat_of T 0, ← hxs] at hp
      obtain ⟨x, hx, rfl⟩ := List.mem_map.1 hp
      exact hpc.1 x hx), (by have h9 := hpc.2.2.1; rw [hxs, AT.rns_told] at h9; exact h9)⟩
    have bd := hok.bd
    have HTO : ∀ W, Below w.heap.size w W → Calls Tryz.prog 75 #[.slice (some ⟨bt, 0, none⟩) xs.length ct] W fun e w' => e = .returned (.int .i64 T.rns) ∧ Below W.heap.size W w' := by
      intro W hW
      have h9 := totalS w.heap.size _ xs W (hr.below hW (Nat.le_refl _)) hW.size hn hpc.1
      rw [show total xs = T.rns by rw [hxs, AT.rns_told]] at h9
      exact h9
    have hits : xs.length = T.its := by rw [hxs, AT.told_length]
    have HIS : ∀ (h0 : 0 ≤ off) (h1 : off ≤ T.rns) (hr : T.rns + ts.length ≤ 8192) (hs : zs.length + ts.length ≤ 220000) W, Below w.heap.size w W → Calls Tryz.prog 76 #[.agg #[.slice (some ⟨b, o, none⟩) zs.length cap, .slice (some ⟨bt, 0, none⟩) xs.length ct], .int .i64 off, .slice (some ⟨bx, ox, none⟩) ts.length cx] W (InsPost W (zs ++ ts) ((if ts.length = 0 then T else insP (zs ++ ts) zs.length T off).told 0)) := by
      intro h0 h1 hr' hs W hW
      have sW := hW.size
      rw [hits]
      have ho' := OwI.below ho hW (Nat.le_refl _)
      rw [hits, hxs] at ho'
      exact insS zs ts T b o cap base (some ⟨bt, 0, none⟩) ct bx ox cx off W (hc.below hW hb) (by omega) (ht.below hW hbt) (by omega) ho' hok hbal hp3 h0 h1 hr' hs
    by_cases hlo : off < 0
    · have e1 : piT zs xs off ts = none := by unfold piT; rw [hT]; exact if_neg (fun h => by omega)
      have e2 : piC zs xs off ts = 2 := by unfold piC; rw [hT]; exact if_neg (fun h => by omega)
      rw [show piS zs xs off ts = [] by unfold piS; rw [e1]; rfl, show piI zs xs off ts = [] by unfold piI; rw [e1], e2]
      exact spI1 _ _ _ b o cap bt ct bx ox cx off T.rns true w rfl hlo (hide HTO) (hide HPV)
    by_cases hhi : T.rns < off
    · have e1 : piT zs xs off ts = none := by unfold piT; rw [hT]; exact if_neg (fun h => by omega)
      have e2 : piC zs xs off ts = 2 := by unfold piC; rw [hT]; exact if_neg (fun h => by omega)
      rw [show piS zs xs off ts = [] by unfold piS; rw [e1]; rfl, show piI zs xs off ts = [] by unfold piI; rw [e1], e2]
      exact spI2 _ _ _ b o cap bt ct bx ox cx off T.rns true w rfl hlo hhi (hide HTO) (hide HPV)
    by_cases hroom : T.rns + ts.length ≤ 8192 ∧ zs.length + ts.length ≤ 220000
    · have e1 : piT zs xs off ts = some (if ts.length = 0 then T else insP (zs ++ ts) zs.length T off) := by unfold piT; rw [hT]; exact if_pos ⟨by omega, hroom⟩
      have e2 : piC zs xs off ts = 0 := by unfold piC; rw [hT]; exact (if_pos (by omega)).trans (if_pos hroom)
      rw [show piS zs xs off ts = zs ++ ts by unfold piS; rw [e1]; rfl, show piI zs xs off ts = (if ts.length = 0 then T else insP (zs ++ ts) zs.length T off).told 0 by unfold piI; rw [e1], e2]
      have HI := HIS (by omega) (by omega) hroom.1 hroom.2
      by_cases hm0 : (0 : Int) < (ts.length : Int)
      · exact spI6 _ _ _ b o cap bt ct bx ox cx off T.rns true w _ _ rfl hlo hhi hm0 ⟨by omega, by omega⟩ htl hp2 (by omega) (by omega) (hide HTO) (hide HI) (hide HPV)
      · exact spI5 _ _ _ b o cap bt ct bx ox cx off T.rns true w _ _ rfl hlo hhi hm0 (hide HTO) (hide HI) (hide HPV)
    · have e1 : piT zs xs off ts = none := by unfold piT; rw [hT]; exact if_neg (fun h => hroom h.2)
      have e2 : piC zs xs off ts = 10 := by unfold piC; rw [hT]; exact (if_pos (by omega)).trans (if_neg hroom)
      rw [show piS zs xs off ts = [] by unfold piS; rw [e1]; rfl, show piI zs xs off ts = [] by unfold piI; rw [e1], e2]
      by_cases hfu : (8192 : Int) < T.rns + (ts.length : Int)
      · exact spI3 _ _ _ b o cap bt ct bx ox cx off T.rns true w rfl hlo hhi (by omega) ⟨by omega, by omega⟩ htl hfu (hide HTO) (hide HPV)
      · exact spI4 _ _ _ b o cap bt ct bx ox cx off T.rns true w rfl hlo hhi (by omega) ⟨by omega, by omega⟩ htl hp2 hfu (by omega) (hide HTO) (hide HPV)
end Go.Proofs.YtbgngikejgihgagGreatDoor
