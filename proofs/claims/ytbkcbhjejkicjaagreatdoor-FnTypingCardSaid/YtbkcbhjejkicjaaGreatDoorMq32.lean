import Derived.Test.YtbkcbhjejkicjaaGreatDoorMq31
import Derived.Lib.QuietBelow
namespace Go.Proofs.YtbkcbhjejkicjaaGreatDoor
open Go Go.RowKit Go.Sort
set_option linter.unusedVariables false

def NotePost (w : World) (E : Nat) (mv dv : Value) (lim : Nat) (cv tv s0 s1 s2 s3 s4 s5 s6 s7 : Value) (sp : Int) (vs : List Value) (r0 r1 r2 r3 r4 : Value) (w' : World) : Prop :=
  ∃ gb, w.heap.size ≤ gb ∧ gb < w'.heap.size ∧ w'.heap[gb]? = some (.cells #[r0, r1, r2, r3, r4] 218 (0, 0)) ∧ PushPost w E mv dv (.slice none 0 0) lim false cv tv s0 s1 s2 s3 s4 s5 s6 s7 sp (pushV lim vs (.slice (some ⟨gb, 0, none⟩) 1 1)) w'
set_option maxHeartbeats 4000000 in
set_option maxRecDepth 100000 in
theorem noteG (E lim : Nat) (mv dv uv cv tv s0 s1 s2 s3 s4 s5 s6 s7 : Value) (sp : Int) (vs : List Value) (k off : Int) (a1 a2 a3 : Option Addr) (l1 l2 l3 k1 k2 k3 : Nat) (w : World) (h : EB16 w E mv dv uv lim false cv tv s0 s1 s2 s3 s4 s5 s6 s7 sp) (hd : w.ownsRow 0 106 1 dv vs.length vs) (hs : ∀ v ∈ vs, ∃ a l k, v = .slice a l k) (hn : vs.length ≤ 1000) (hl : lim ≤ 1000) :
    Calls Tryz.prog 132 #[.pointer (some ⟨E, 1, none⟩), .agg #[.int .i64 k, .int .i64 off, .slice a1 l1 k1, .slice a2 l2 k2, .slice a3 l3 k3]] w fun e w' => e = .returned (.tuple #[]) ∧ NotePost w E mv dv lim cv tv s0 s1 s2 s3 s4 s5 s6 s7 sp vs (.int .i64 k) (.int .i64 off) (.slice a1 l1 k1) (.slice a2 l2 k2) (.slice a3 l3 k3) w' := by
  have hE := h.lt
  obtain ⟨_, _, d2, _, _⟩ := h.c
  have g2 := h.f 2
  have hne : ¬ w.heap.size = E := by omega
  have hne' : ¬ E = w.heap.size := by omega
  have sz : (w.setCell ⟨E, 2, none⟩ (.slice none 0 0)).heap.size = w.heap.size := by simp
  have BA := hide ((Below.refl (w.setCell ⟨E, 2, none⟩ (.slice none 0 0)).heap.size (w.setCell ⟨E, 2, none⟩ (.slice none 0 0))).alloc (Nat.le_refl _) (.cells #[.int .i64 k, .int .i64 off, .slice a1 l1 k1, .slice a2 l2 k2, .slice a3 l3 k3] 218))
  have E2 := hide ((h.set2 (.slice none 0 0)).same (BA.out.block E (by omega)))
  obtain ⟨_, _, _, _, e4, _⟩ := E2.out.c
  have C2 := hide (((ChgP.reflS w (fun q => q = E ∨ dv.ownBlock = some q)).setS ⟨E, 2, none⟩ (.slice none 0 0) (.inl (.inl rfl))).allocS (.cells #[.int .i64 k, .int .i64 off, .slice a1 l1 k1, .slice a2 l2 k2, .slice a3 l3 k3] 218))
  have OFF := hide (fun q hq => h.off hd (by decide) (q := q) hq)
  have OL := hide (fun q hq => hd.lt q hq)
  have O2 := hide (show ((w.setCell ⟨E, 2, none⟩ (.slice none 0 0)).alloc (.cells #[.int .i64 k, .int .i64 off, .slice a1 l1 k1, .slice a2 l2 k2, .slice a3 l3 k3] 218)).ownsRow 0 106 1 dv vs.length vs from World.ownsRow.alloc (owns_of_block hd (fun q hq => heap_setCell_other _ ⟨E, 2, none⟩ q _ (OFF.out q hq))) _)
  have B2 := hide (show ((w.setCell ⟨E, 2, none⟩ (.slice none 0 0)).alloc (.cells #[.int .i64 k, .int .i64 off, .slice a1 l1 k1, .slice a2 l2 k2, .slice a3 l3 k3] 218)).heap[w.heap.size]? = some (.cells #[.int .i64 k, .int .i64 off, .slice a1 l1 k1, .slice a2 l2 k2, .slice a3 l3 k3] 218 (0, 0)) from by rw [← sz]; exact heap_alloc_new _ _)
  have HPU := hide (fun (W : World) (gb : Nat) (hW : EB16 W E mv dv (.slice none 0 0) lim false cv tv s0 s1 s2 s3 s4 s5 s6 s7 sp) (ho : W.ownsRow 0 106 1 dv vs.length vs) => pushG E lim mv dv (.slice none 0 0) false cv tv s0 s1 s2 s3 s4 s5 s6 s7 sp vs (some ⟨gb, 0, none⟩) 1 1 W hW ho hs hn hl)
  have y2 : w.heap.size < ((w.setCell ⟨E, 2, none⟩ (.slice none 0 0)).alloc (.cells #[.int .i64 k, .int .i64 off, .slice a1 l1 k1, .slice a2 l2 k2, .slice a3 l3 k3] 218)).heap.size := by simp
  have b0 : ((w.setCell ⟨E, 2, none⟩ (.slice none 0 0)).alloc (.cells #[.int .i64 k, .int .i64 off, .slice a1 l1 k1, .slice a2 l2 k2, .slice a3 l3 k3] 218)).cell? ⟨w.heap.size, 0, none⟩ = some (.int .i64 k) := by rw [cell_of_row _ _ 0 _ _ _ B2.out]; rfl
  have b1 : ((w.setCell ⟨E, 2, none⟩ (.slice none 0 0)).alloc (.cells #[.int .i64 k, .int .i64 off, .slice a1 l1 k1, .slice a2 l2 k2, .slice a3 l3 k3] 218)).cell? ⟨w.heap.size, 1, none⟩ = some (.int .i64 off) := by rw [cell_of_row _ _ 1 _ _ _ B2.out]; rfl
  have b2 : ((w.setCell ⟨E, 2, none⟩ (.slice none 0 0)).alloc (.cells #[.int .i64 k, .int .i64 off, .slice a1 l1 k1, .slice a2 l2 k2, .slice a3 l3 k3] 218)).cell? ⟨w.heap.size, 2, none⟩ = some (.slice a1 l1 k1) := by rw [cell_of_row _ _ 2 _ _ _ B2.out]; rfl
  have b3 : ((w.setCell ⟨E, 2, none⟩ (.slice none 0 0)).alloc (.cells #[.int .i64 k, .int .i64 off, .slice a1 l1 k1, .slice a2 l2 k2, .slice a3 l3 k3] 218)).cell? ⟨w.heap.size, 3, none⟩ = some (.slice a2 l2 k2) := by rw [cell_of_row _ _ 3 _ _ _ B2.out]; rfl
  have b4 : ((w.setCell ⟨E, 2, none⟩ (.slice none 0 0)).alloc (.cells #[.int .i64 k, .int .i64 off, .slice a1 l1 k1, .slice a2 l2 k2, .slice a3 l3 k3] 218)).cell? ⟨w.heap.size, 4, none⟩ = some (.slice a3 l3 k3) := by rw [cell_of_row _ _ 4 _ _ _ B2.out]; rfl
  clear h hd hs BA sz
  go_enter Tryz.func132, Tryz.ntmps132
  go_upto_region 2 with fail
  clear d2 g2
  generalize (w.setCell ⟨E, 2, none⟩ (.slice none 0 0)).alloc (.cells #[.int .i64 k, .int .i64 off, .slice a1 l1 k1, .slice a2 l2 k2, .slice a3 l3 k3] 218) = w2 at *
  have A3 := hide ((Below.refl w2.heap.size w2).alloc (Nat.le_refl _) (.cells #[.int .i64 k, .int .i64 off, .slice a1 l1 k1, .slice a2 l2 k2, .slice a3 l3 k3] 218))
  have G3 := hide (show (w2.alloc (.cells #[.int .i64 k, .int .i64 off, .slice a1 l1 k1, .slice a2 l2 k2, .slice a3 l3 k3] 218)).heap[w2.heap.size]? = some (.cells #[.int .i64 k, .int .i64 off, .slice a1 l1 k1, .slice a2 l2 k2, .slice a3 l3 k3] 218 (0, 0)) from heap_alloc_new _ _)
  have y3 : w2.heap.size < (w2.alloc (.cells #[.int .i64 k, .int .i64 off, .slice a1 l1 k1, .slice a2 l2 k2, .slice a3 l3 k3] 218)).heap.size := by simp
  have PU := hide (HPU.out (w2.alloc (.cells #[.int .i64 k, .int .i64 off, .slice a1 l1 k1, .slice a2 l2 k2, .slice a3 l3 k3] 218)) w2.heap.size (E2.out.same (A3.out.block E E2.out.lt)) (O2.out.alloc _))
  have C3 := hide (C2.out.allocS (.cells #[.int .i64 k, .int .i64 off, .slice a1 l1 k1, .slice a2 l2 k2, .slice a3 l3 k3] 218))
  have hE3 := E2.out.lt
  clear HPU A3 C2 O2
  go_wp2_with fail
  generalize w2.alloc (.cells #[.int .i64 k, .int .i64 off, .slice a1 l1 k1, .slice a2 l2 k2, .slice a3 l3 k3] 218) = w3 at *
  refine PU.out.mono ?_
  rintro e w4 ⟨rfl, dv', ho, he, hc, hq⟩
  have Z4 := hide (show NotePost w E mv dv lim cv tv s0 s1 s2 s3 s4 s5 s6 s7 sp vs (.int .i64 k) (.int .i64 off) (.slice a1 l1 k1) (.slice a2 l2 k2) (.slice a3 l3 k3) w4 from by
    refine ⟨w2.heap.size, by omega, by have := hc.size; omega, (hc.block w2.heap.size (by omega) (fun h9 => ?_)).trans G3.out, dv', ho, he, C3.out.transS hc (fun q hq => .inl hq), fun q hq' => (hq q hq').imp id (fun h9 => by omega)⟩
    rcases h9 with h9 | h9
    · omega
    · have := (OL.out _ h9).2; omega)
  clear ho he hc hq PU
  go_wp2
  go_end0
  exact ⟨rfl, Z4.out⟩
theorem EB16.tb {w : World} {E : Nat} {mv dv uv : Value} {lim : Int} {op : Bool} {cv tv s0 s1 s2 s3 s4 s5 s6 s7 : Value} {sp : Int} (h : EB16 w E mv dv uv lim op cv tv s0 s1 s2 s3 s4 s5 s6 s7 sp) : TbE [dv, uv, .int .i64 lim, .bool op, cv, tv, s0, s1, s2, s3, s4, s5, s6, s7, .int .i64 sp] 112 w E mv := h
theorem EB16.of_tb {w : World} {E : Nat} {mv dv uv : Value} {lim : Int} {op : Bool} {cv tv s0 s1 s2 s3 s4 s5 s6 s7 : Value} {sp : Int} (h : TbE [dv, uv, .int .i64 lim, .bool op, cv, tv, s0, s1, s2, s3, s4, s5, s6, s7, .int .i64 sp] 112 w E mv) : EB16 w E mv dv uv lim op cv tv s0 s1 s2 s3 s4 s5 s6 s7 sp := h
def CarryPost (K : Core) (w : World) (Z FC : Nat → Prop) (E c n : Nat) (tx : List Int) (ms : List Mk) (dv uv : Value) (lim : Int) (op : Bool) (cv s0 s1 s2 s3 s4 s5 s6 s7 : Value) (sp : Int) (w' : World) : Prop :=
  ∃ mv', EB16 w' E mv' dv uv lim op cv (.iface K.ty (.pointer (some ⟨c, 0, none⟩))) s0 s1 s2 s3 s4 s5 s6 s7 sp ∧ K.Cr w' Z (fun q => FC q ∨ mv'.ownBlock = some q) c n tx ∧ OwM w' w.heap.size mv' ms ∧ ChgP w w' (fun q => ¬ FC q ∨ q = E)
set_option maxHeartbeats 8000000 in
set_option maxRecDepth 100000 in
theorem carryI (K : Core) (P : List Int → Prop) (hI : InsK K P) (Z FC : Nat → Prop) (E c n off : Nat) (tx ts : List Int) (ms : List Mk) (mv dv uv : Value) (lim : Int) (op : Bool) (cv s0 s1 s2 s3 s4 s5 s6 s7 : Value) (sp : Int) (a1 a2 a3 : Option Addr) (l1 l2 l3 k1 k2 k3 : Nat) (w : World)
    (h : EB16 w E mv dv uv lim op cv (.iface K.ty (.pointer (some ⟨c, 0, none⟩))) s0 s1 s2 s3 s4 s5 s6 s7 sp) (hcr : K.Cr w Z FC c n tx) (hFl : ∀ q, FC q → q < w.heap.size) (hZF : ∀ q, Z q → FC q) (hE : FC E) (hEZ : ¬ Z E) (hT : HT w Z (.slice a1 l1 k1) ts) (hP : P ts) (h0 : 0 < ts.length) (hof : off ≤ tx.length) (hb : tx.length + ts.length ≤ 8192) (hn : n + ts.length ≤ 220000) (hM : OwM w 0 mv ms) (hMZ : ∀ q, mv.ownBlock = some q → Z q) (hV : Vd ms) :
    Calls Tryz.prog 115 #[.pointer (some ⟨E, 0, none⟩), .agg #[mIns, fPush], .agg #[.int .i64 1, .int .i64 off, .slice a1 l1 k1, .slice a2 l2 k2, .slice a3 l3 k3]] w fun e w' => e = .returned (.tuple #[]) ∧ CarryPost K w Z FC E c (n + ts.length) (putT tx off ts) (srt (ms.map (mov (pushF off ts.length)))) dv uv lim op cv s0 s1 s2 s3 s4 s5 s6 s7 sp w' := by
  have hm := K.mIns
  have he := K.eIns
  have h6 := h.c.2.2.2.2.2.2.1
  have hEl := h.lt
  have hl1 : l1 = ts.length := by
    obtain ⟨b, ct, e, _⟩ := hT
    simp only [Value.slice.injEq] at e
    exact e.2.1
  have hl8 : l1 ≤ 8192 := by omega
  have HL1 := hide hl1
  clear hl1
  have KB := hide (show ((w.alloc (.cells #[mIns, fPush] 223)).alloc (.cells #[.int .i64 1, .int .i64 off, .slice a1 l1 k1, .slice a2 l2 k2, .slice a3 l3 k3] 218)).heap[w.heap.size]? = some (.cells #[mIns, fPush] 223 (0, 0)) from (((Below.refl (w.alloc (.cells #[mIns, fPush] 223)).heap.size (w.alloc (.cells #[mIns, fPush] 223))).alloc (Nat.le_refl _) _).block w.heap.size (by simp)).trans (heap_alloc_new _ _))
  have KR := hide (show ((w.alloc (.cells #[mIns, fPush] 223)).alloc (.cells #[.int .i64 1, .int .i64 off, .slice a1 l1 k1, .slice a2 l2 k2, .slice a3 l3 k3] 218)).heap[w.heap.size + 1]? = some (.cells #[.int .i64 1, .int .i64 off, .slice a1 l1 k1, .slice a2 l2 k2, .slice a3 l3 k3] 218 (0, 0)) from by
    have h9 := heap_alloc_new (w.alloc (.cells #[mIns, fPush] 223)) (.cells #[.int .i64 1, .int .i64 off, .slice a1 l1 k1, .slice a2 l2 k2, .slice a3 l3 k3] 218)
    rw [World.size_alloc] at h9; exact h9)
  have BB := hide (bA (bA (Below.refl w.heap.size w) (.cells #[mIns, fPush] 223)) (.cells #[.int .i64 1, .int .i64 off, .slice a1 l1 k1, .slice a2 l2 k2, .slice a3 l3 k3] 218))
  have H := hide h
  have HCR := hide hcr
  have HT := hide hT
  have HFL := hide hFl
  have HZF := hide hZF
  have HM := hide hM
  have HMZ := hide hMZ
  have HII := hide hI
  have y2 : w.heap.size + 1 < ((w.alloc (.cells #[mIns, fPush] 223)).alloc (.cells #[.int .i64 1, .int .i64 off, .slice a1 l1 k1, .slice a2 l2 k2, .slice a3 l3 k3] 218)).heap.size := by simp
  clear h hcr hT hFl hZF hM hMZ hI
  unfold mIns fPush at *
  go_enter Tryz.func115, Tryz.ntmps115
  go_upto_region 1 with fail
  generalize (w.alloc (.cells #[.func (.methodOf 73 "loop.example/s01685/impl.insert") #[] #[], .func (.func 141) #[] #[]] 223)).alloc (.cells #[.int .i64 1, .int .i64 off, .slice a1 l1 k1, .slice a2 l2 k2, .slice a3 l3 k3] 218) = wA at *
  have b0 : wA.cell? ⟨w.heap.size, 0, none⟩ = some (.func (.methodOf 73 "loop.example/s01685/impl.insert") #[] #[]) := by rw [cell_of_row _ _ 0 _ _ _ KB.out]; rfl
  have b1 : wA.cell? ⟨w.heap.size + 1, 1, none⟩ = some (.int .i64 off) := by rw [cell_of_row _ _ 1 _ _ _ KR.out]; rfl
  have b2 : wA.cell? ⟨w.heap.size + 1, 2, none⟩ = some (.slice a1 l1 k1) := by rw [cell_of_row _ _ 2 _ _ _ KR.out]; rfl
  have q0 := fun d os => cell_regrown b0 d os
  have q1 := fun d os => cell_regrown b1 d os
  have q2 := fun d os => cell_regrown b2 d os
  have q6 := fun d os => cell_regrown ((BB.out.cell (p := ⟨E, 6, none⟩) hEl).trans h6) d os
  refine (wpIn_wide (n := 6)).1 ?_
  refine wpIn_region_tailW 10 (by kernel_rfl) (by kernel_rfl) ?_
  simp only [List.take_succ_cons, List.take_zero, List.drop_succ_cons, List.drop_zero]
  clear b0 b1 b2
  repeat (refine wpQuietIn_step (fun _ _ _ _ => trivial) (fun K hK => ?_); go_simp; first | (refine hK _ ?_; clear hK K) | (apply Exists.intro; refine ⟨fun _ => ?_, hK _ ?_⟩; (fail); clear hK K))
  refine wpQuietIn_nil ?_
  intro _ hw'
  obtain ⟨⟨dq, osq⟩, hw''⟩ := hw'
  subst hw''
  have BQ := hide (below_regrown wA dq osq)
  clear q0 q1 q2 q6
  generalize grow (redrawn wA dq) osq = wq at *
  have yq := BQ.out.size
  have B3 := hide (BB.out.trans (BQ.out.mono (by omega)))
  have KB3 := hide ((BQ.out.block w.heap.size (by omega)).trans KB.out)
  have KR3 := hide ((BQ.out.block (w.heap.size + 1) (by omega)).trans KR.out)
  have CR3 := hide (show K.Cr wq Z (fun q => FC q ∨ (w.heap.size ≤ q ∧ q < wq.heap.size)) c n tx from K.step HCR.out (fun q hq => B3.out.block q (HFL.out q (HZF.out q hq))) (fun q hq _ => B3.out.block q hq) B3.out.size (fun q hq => hq) (fun q hq => hq.imp id (fun h9 => h9.1)))
  have HI3 := hide (HII.out wq Z (fun q => FC q ∨ (w.heap.size ≤ q ∧ q < wq.heap.size)) c n tx off (.slice a1 l1 k1) ts CR3.out (fun q hq => by
    rcases hq with h9 | h9
    · have := HFL.out q h9; omega
    · exact h9.2) (fun q hq => .inl (HZF.out q hq)) (HT.out.kept (fun q hq => B3.out.block q (HFL.out q (HZF.out q hq))) B3.out.size (fun q hq => hq)) hP h0 hof hb hn)
  clear BQ KB KR CR3
  gi_wp2_with fail
  refine ⟨trivial, (callsIn_wide.2 HI3.out).mono ?_⟩
  rintro e w1 ⟨rfl, hcr1, hc1⟩
  have CR1 := hide hcr1
  have C1 := hide hc1
  have y1 := hc1.size
  have KP := hide (fun q (hq : FC q ∨ (w.heap.size ≤ q ∧ q < wq.heap.size)) => (show w1.heap[q]? = wq.heap[q]? from hc1.block q (by
    rcases hq with h9 | h9
    · have := HFL.out q h9; omega
    · exact h9.2) (fun h9 => h9 hq)))
  have E1 := hide (show EB16 w1 E mv dv uv lim op cv (.iface K.ty (.pointer (some ⟨c, 0, none⟩))) s0 s1 s2 s3 s4 s5 s6 s7 sp from ((KP.out E (.inl hE)).trans (B3.out.block E hEl)).trans H.out)
  have KB1 := hide ((KP.out w.heap.size (.inr ⟨Nat.le_refl _, by omega⟩)).trans KB3.out)
  have KR1 := hide ((KP.out (w.heap.size + 1) (.inr ⟨by omega, by omega⟩)).trans KR3.out)
  have M1 := hide (show OwM w1 0 mv ms from owns_of_block HM.out (fun q hq => (KP.out q (.inl (HZF.out q (HMZ.out q hq)))).trans (B3.out.block q (HFL.out q (HZF.out q (HMZ.out q hq))))))
  clear hcr1 hc1 HI3 KB3 KR3
  gi_wp2_with fail
  have b0 : w1.cell? ⟨w.heap.size, 1, none⟩ = some (.func (.func 141) #[] #[]) := by rw [cell_of_row _ _ 1 _ _ _ KB1.out]; rfl
  have b1 : w1.cell? ⟨w.heap.size + 1, 1, none⟩ = some (.int .i64 off) := by rw [cell_of_row _ _ 1 _ _ _ KR1.out]; rfl
  have b2 : w1.cell? ⟨w.heap.size + 1, 2, none⟩ = some (.slice a1 l1 k1) := by rw [cell_of_row _ _ 2 _ _ _ KR1.out]; rfl
  have q0 := fun d os => cell_regrown b0 d os
  have q1 := fun d os => cell_regrown b1 d os
  have q2 := fun d os => cell_regrown b2 d os
  refine (wpIn_wide (n := 6)).1 ?_
  refine wpIn_region_tailW 10 (by kernel_rfl) (by kernel_rfl) ?_
  simp only [List.take_succ_cons, List.take_zero, List.drop_succ_cons, List.drop_zero]
  clear b0 b1 b2
  repeat (refine wpQuietIn_step (fun _ _ _ _ => trivial) (fun K hK => ?_); go_simp; first | (refine hK _ ?_; clear hK K) | (apply Exists.intro; refine ⟨fun _ => ?_, hK _ ?_⟩; (fail); clear hK K))
  refine wpQuietIn_nil ?_
  intro _ hw'
  obtain ⟨⟨dq2, osq2⟩, hw''⟩ := hw'
  subst hw''
  have BQ := hide (below_regrown w1 dq2 osq2)
  clear q0 q1 q2
  generalize grow (redrawn w1 dq2) osq2 = w2 at *
  have yw2 := BQ.out.size
  have PM := hide (pushMarksE [dv, uv, .int .i64 lim, .bool op, cv, .iface K.ty (.pointer (some ⟨c, 0, none⟩)), s0, s1, s2, s3, s4, s5, s6, s7, .int .i64 sp] 112 (by decide) E off l1 ms mv 0 w2 (E1.out.tb.below BQ.out E1.out.lt) (M1.out.below BQ.out (Nat.le_refl _)) hV (by omega))
  gi_wp2_with fail
  refine ⟨trivial, (callsIn_wide.2 PM.out).mono ?_⟩
  rintro e w3 ⟨rfl, mv', x, hbx, hw3, htb, hom⟩
  have Z3 := hide (show CarryPost K w Z FC E c (n + ts.length) (putT tx off ts) (srt (ms.map (mov (pushF off ts.length)))) dv uv lim op cv s0 s1 s2 s3 s4 s5 s6 s7 sp w3 from by
    have bx : Below w1.heap.size w1 x := BQ.out.trans (hbx.mono yw2)
    have hx := bx.size
    have cx : ChgP w x (fun q => ¬ FC q ∨ q = E) := ((ChgP.of_below (S := fun q => ¬ FC q ∨ q = E) B3.out (Nat.le_refl _)).transS C1.out (fun q hq => .inl (.inl (fun h9 => hq (.inl h9))))).belowS bx (by omega)
    refine ⟨mv', EB16.of_tb htb, ?_, ?_, ?_⟩
    · refine K.step CR1.out (fun q hq => ?_) (fun q hq hn => ?_) ?_ (fun q hq => hq) (fun q hq => hq.elim (fun h9 => .inl (.inl h9)) (fun h9 => .inr (by have := (hom.lt q h9).1; omega)))
      · rw [hw3, heap_setCell_other x ⟨E, 0, none⟩ q _ (fun e => by have e' : q = E := e; subst e'; exact hEZ hq)]
        exact bx.block q (by have := HFL.out q (HZF.out q hq); omega)
      · rw [hw3, heap_setCell_other x ⟨E, 0, none⟩ q _ (fun e => by have e' : q = E := e; subst e'; exact hn (.inl hE))]
        exact bx.block q hq
      · rw [hw3]; simp; exact hx
    · rw [HL1.out] at hom
      exact hom.base (by omega)
    · rw [hw3]; exact cx.setS ⟨E, 0, none⟩ _ (.inl (.inr rfl)))
  clear hbx hw3 htb hom
  gi_wp2_with fail
  refine bodyPost_end (v := .tuple #[]) (by simp [results, Tryz.results115]) rfl ⟨rfl, Z3.out⟩
end Go.Proofs.YtbkcbhjejkicjaaGreatDoor

namespace Go.Proofs.YtbkcbhjejkicjaaGreatDoor
open Go Go.RowKit Go.Sort
set_option linter.unusedVariables false

def EditPost (K : Core) (w : World) (Z FC : Nat → Prop) (E c n lim : Nat) (tx : List Int) (ms : List Mk) (mv dv tv cv s0 s1 s2 s3 s4 s5 s6 s7 : Value) (sp : Int) (off : Nat) (vs : List Value) (w' : World) : Prop :=
  ∃ mv' gb dv', EB16 w' E mv' dv' (.slice none 0 0) lim false cv (.iface K.ty (.pointer (some ⟨c, 0, none⟩))) s0 s1 s2 s3 s4 s5 s6 s7 sp ∧ K.Cr w' Z (fun q => FC q ∨ mv'.ownBlock = some q ∨ q = gb ∨ dv'.ownBlock = some q) c n tx ∧ OwM w' w.heap.size mv' ms ∧ w.heap.size ≤ gb ∧ gb < w'.heap.size ∧ w'.heap[gb]? = some (.cells #[.int .i64 1, .int .i64 off, tv, mv, mv'] 218 (0, 0)) ∧ w'.ownsRow 0 106 1 dv' (pushV lim vs (.slice (some ⟨gb, 0, none⟩) 1 1)).length (pushV lim vs (.slice (some ⟨gb, 0, none⟩) 1 1)) ∧ ChgP w w' (fun q => ¬ FC q ∨ q = E ∨ dv.ownBlock = some q) ∧ ∀ q, dv'.ownBlock = some q → dv.ownBlock = some q ∨ w.heap.size ≤ q
theorem Tryz.fldC (a b c d : Value) (w : World) : (Instr.field 225 (.agg #[a, b, c, d]) 0).run Tryz.prog w = .ok (.agg #[a, b]) w := by kernel_rfl
set_option maxHeartbeats 8000000 in
set_option maxRecDepth 100000 in
theorem editI (K : Core) (P : List Int → Prop) (hI : InsK K P) (Z FC : Nat → Prop) (E c n off lim : Nat) (tx ts : List Int) (ms : List Mk) (dv uv : Value) (cv s0 s1 s2 s3 s4 s5 s6 s7 : Value) (sp : Int) (vs : List Value) (a1 a2 : Option Addr) (l1 l2 k1 k2 : Nat) (w : World)
    (h : EB16 w E (.slice a2 l2 k2) dv uv lim false cv (.iface K.ty (.pointer (some ⟨c, 0, none⟩))) s0 s1 s2 s3 s4 s5 s6 s7 sp) (hcr : K.Cr w Z FC c n tx) (hFl : ∀ q, FC q → q < w.heap.size) (hZF : ∀ q, Z q → FC q) (hE : FC E) (hEZ : ¬ Z E) (hT : HT w Z (.slice a1 l1 k1) ts) (hP : P ts) (h0 : 0 < ts.length) (hof : off ≤ tx.length) (hb : tx.length + ts.length ≤ 8192) (hn : n + ts.length ≤ 220000) (hM : OwM w 0 (.slice a2 l2 k2) ms) (hMZ : ∀ q, (Value.slice a2 l2 k2).ownBlock = some q → Z q) (hV : Vd ms)
    (hd : w.ownsRow 0 106 1 dv vs.length vs) (hs : ∀ v ∈ vs, ∃ a l k, v = .slice a l k) (hvn : vs.length ≤ 1000) (hl : lim ≤ 1000) (hdF : ∀ q, dv.ownBlock = some q → FC q ∧ ¬ Z q) :
    Calls Tryz.prog 105 #[.pointer (some ⟨E, 0, none⟩), .int .i64 1, .int .i64 off, .slice a1 l1 k1] w fun e w' => e = .returned (.tuple #[]) ∧ EditPost K w Z FC E c (n + ts.length) lim (putT tx off ts) (srt (ms.map (mov (pushF off ts.length)))) (.slice a2 l2 k2) dv (.slice a1 l1 k1) cv s0 s1 s2 s3 s4 s5 s6 s7 sp off vs w' := by
  have fl := Tryz.fldC
  have hEl := h.lt
  have e0 := h.c.1
  have KR := hide (show (w.alloc (.cells #[.int .i64 1, .int .i64 off, .slice a1 l1 k1, .slice a2 l2 k2, .slice none 0 0] 218)).heap[w.heap.size]? = some (.cells #[.int .i64 1, .int .i64 off, .slice a1 l1 k1, .slice a2 l2 k2, .slice none 0 0] 218 (0, 0)) from heap_alloc_new _ _)
  have BB := hide (bA (Below.refl w.heap.size w) (.cells #[.int .i64 1, .int .i64 off, .slice a1 l1 k1, .slice a2 l2 k2, .slice none 0 0] 218))
  have y2 : w.heap.size < (w.alloc (.cells #[.int .i64 1, .int .i64 off, .slice a1 l1 k1, .slice a2 l2 k2, .slice none 0 0] 218)).heap.size := by simp
  have H := hide h
  have HFL := hide hFl
  have HZF := hide hZF
  have HDF := hide hdF
  have HD := hide hd
  have OFF := hide (fun q hq => h.off hd (by decide) (q := q) hq)
  have HCA := hide (fun (W : World) (hB : Below w.heap.size w W) => carryI K P hI Z (fun q => FC q ∨ (w.heap.size ≤ q ∧ q < W.heap.size)) E c n off tx ts ms (.slice a2 l2 k2) dv uv lim false cv s0 s1 s2 s3 s4 s5 s6 s7 sp a1 a2 none l1 l2 0 k1 k2 0 W (h.same (hB.block E hEl)) (K.step hcr (fun q hq => hB.block q (hFl q (hZF q hq))) (fun q hq _ => hB.block q hq) hB.size (fun q hq => hq) (fun q hq => hq.imp id (fun h9 => h9.1))) (fun q hq => by
      rcases hq with h9 | h9
      · have := hFl q h9; have := hB.size; omega
      · exact h9.2) (fun q hq => .inl (hZF q hq)) (.inl hE) hEZ (hT.kept (fun q hq => hB.block q (hFl q (hZF q hq))) hB.size (fun q hq => hq)) hP h0 hof hb hn (hM.below hB (Nat.le_refl _)) hMZ hV)
  have HNO := hide (fun (W : World) (mv : Value) (a3 : Option Addr) (l3 k3 : Nat) (hW : EB16 W E mv dv uv lim false cv (.iface K.ty (.pointer (some ⟨c, 0, none⟩))) s0 s1 s2 s3 s4 s5 s6 s7 sp) (ho : W.ownsRow 0 106 1 dv vs.length vs) => noteG E lim mv dv uv cv (.iface K.ty (.pointer (some ⟨c, 0, none⟩))) s0 s1 s2 s3 s4 s5 s6 s7 sp vs 1 off a1 a2 a3 l1 l2 l3 k1 k2 k3 W hW ho hs hvn hl)
  clear h hcr hFl hZF hT hM hMZ hI hd hs hdF
  generalize putT tx off ts = TX at *
  generalize srt (ms.map (mov (pushF off ts.length))) = MS at *
  generalize n + ts.length = n' at *
  go_enter Tryz.func105, Tryz.ntmps105
  go_upto_region 1 with fail
  generalize w.alloc (.cells #[.int .i64 1, .int .i64 off, .slice a1 l1 k1, .slice a2 l2 k2, .slice none 0 0] 218) = wA at *
  have b0 : wA.cell? ⟨w.heap.size, 0, none⟩ = some (.int .i64 1) := by rw [cell_of_row _ _ 0 _ _ _ KR.out]; rfl
  have b1 : wA.cell? ⟨w.heap.size, 1, none⟩ = some (.int .i64 off) := by rw [cell_of_row _ _ 1 _ _ _ KR.out]; rfl
  have b2 : wA.cell? ⟨w.heap.size, 2, none⟩ = some (.slice a1 l1 k1) := by rw [cell_of_row _ _ 2 _ _ _ KR.out]; rfl
  have b3 : wA.cell? ⟨w.heap.size, 3, none⟩ = some (.slice a2 l2 k2) := by rw [cell_of_row _ _ 3 _ _ _ KR.out]; rfl
  have b4 : wA.cell? ⟨w.heap.size, 4, none⟩ = some (.slice none 0 0) := by rw [cell_of_row _ _ 4 _ _ _ KR.out]; rfl
  have q0 := fun d os => cell_regrown b0 d os
  have q1 := fun d os => cell_regrown b1 d os
  have q2 := fun d os => cell_regrown b2 d os
  have q3 := fun d os => cell_regrown b3 d os
  have q4 := fun d os => cell_regrown b4 d os
  have HPQ := hide (fun d os => CallsIn.regrown_of (F := Fence.wide) (r := 5) (w := wA) (d := d) (os := os) (callsIn_wide.2 (course1 off a1 a2 none l1 l2 0 k1 k2 0 (grow (redrawn wA d) os))))
  refine (wpIn_wide (n := 6)).1 ?_
  refine wpIn_region_tailW 5 (by kernel_rfl) (by kernel_rfl) ?_
  simp only [List.take_succ_cons, List.take_zero, List.drop_succ_cons, List.drop_zero]
  clear b0 b1 b2 b3 b4
  repeat (refine wpQuietIn_step (fun _ _ _ _ => trivial) (fun K hK => ?_); go_simp; first | (refine hK _ ?_; clear hK K) | (apply Exists.intro; refine ⟨fun _ => ?_, hK _ ?_⟩; (first | exact ⟨trivial, HPQ.out _ _⟩ | exact HPQ.out _ _); clear hK K))
  refine wpQuietIn_nil ?_
  intro _ hw'
  obtain ⟨⟨dq, osq⟩, hw''⟩ := hw'
  subst hw''
  have BQ := hide (below_regrown wA dq osq)
  clear q0 q1 q2 q3 q4 HPQ
  generalize grow (redrawn wA dq) osq = wq at *
  have yq := BQ.out.size
  have B3 := hide (BB.out.trans (BQ.out.mono (by omega)))
  have KR3 := hide ((BQ.out.block w.heap.size (by omega)).trans KR.out)
  have CA := hide (HCA.out wq B3.out)
  clear BQ KR HCA BB
  gi_wp2_with fail
  refine ⟨trivial, (callsIn_wide.2 CA.out).mono ?_⟩
  rintro e w1 ⟨rfl, mv', he1, hcr1, hm1, hc1⟩
  have y1 := hc1.size
  have KP := hide (fun q (hq : FC q ∨ (w.heap.size ≤ q ∧ q < wq.heap.size)) (hne : q ≠ E) => (show w1.heap[q]? = wq.heap[q]? from hc1.block q (by
    rcases hq with h9 | h9
    · have := HFL.out q h9; omega
    · exact h9.2) (fun h9 => by rcases h9 with h9 | h9; exact h9 hq; exact hne h9)))
  have KR1 := hide ((KP.out w.heap.size (.inr ⟨Nat.le_refl _, by omega⟩) (by omega)).trans KR3.out)
  have E1 := hide he1
  have CR1 := hide hcr1
  have M1 := hide hm1
  have C1 := hide (show ChgP w w1 (fun q => ¬ FC q ∨ q = E ∨ dv.ownBlock = some q) from (ChgP.of_below B3.out (Nat.le_refl _)).transS hc1 (fun q hq => by
    rcases hq with h9 | h9
    · exact .inl (.inl (fun h8 => h9 (.inl h8)))
    · exact .inl (.inr (.inl h9))))
  have D1 := hide (show w1.ownsRow 0 106 1 dv vs.length vs from owns_of_block HD.out (fun q hq => (KP.out q (.inl (HDF.out q hq).1) (OFF.out q hq)).trans (B3.out.block q (HFL.out q (HDF.out q hq).1))))
  obtain ⟨a3, k3, hmv⟩ := hm1.val
  generalize MS.length = l3 at hmv
  subst hmv
  have f0 := he1.c.1
  have g4 := frozen_of_row w1 w.heap.size 4 _ _ KR1.out
  have p4 : w1.cell? ⟨w.heap.size, 4, none⟩ = some (.slice none 0 0) := by rw [cell_of_row _ _ 4 _ _ _ KR1.out]; rfl
  clear he1 hcr1 hm1 hc1 CA KR3
  gi_wp2_with fail
  have KR2 := hide (show (w1.setCell ⟨w.heap.size, 4, none⟩ (.slice a3 l3 k3)).heap[w.heap.size]? = some (.cells #[.int .i64 1, .int .i64 off, .slice a1 l1 k1, .slice a2 l2 k2, .slice a3 l3 k3] 218 (0, 0)) from by rw [heap_setCell_same w1 w.heap.size 4 _ _ _ KR1.out]; rfl)
  have E2 := hide (E1.out.same (w' := w1.setCell ⟨w.heap.size, 4, none⟩ (.slice a3 l3 k3)) (heap_setCell_other w1 ⟨w.heap.size, 4, none⟩ E _ (by show E ≠ w.heap.size; omega)))
  have D2 := hide (show (w1.setCell ⟨w.heap.size, 4, none⟩ (.slice a3 l3 k3)).ownsRow 0 106 1 dv vs.length vs from owns_of_block D1.out (fun q hq => heap_setCell_other w1 ⟨w.heap.size, 4, none⟩ q _ (by show q ≠ w.heap.size; have := HFL.out q (HDF.out q hq).1; omega)))
  have C2 := hide (C1.out.setS ⟨w.heap.size, 4, none⟩ (.slice a3 l3 k3) (.inr (Nat.le_refl _)))
  have CR2 := hide (show K.Cr (w1.setCell ⟨w.heap.size, 4, none⟩ (.slice a3 l3 k3)) Z (fun q => (FC q ∨ (w.heap.size ≤ q ∧ q < wq.heap.size)) ∨ (Value.slice a3 l3 k3).ownBlock = some q) c n' TX from K.step CR1.out (fun q hq => heap_setCell_other w1 ⟨w.heap.size, 4, none⟩ q _ (by show q ≠ w.heap.size; have := HFL.out q (HZF.out q hq); omega)) (fun q hq hn => heap_setCell_other w1 ⟨w.heap.size, 4, none⟩ q _ (fun e => hn (.inl (.inr (by have e' : q = w.heap.size := e; omega))))) (by simp) (fun q hq => hq) (fun q hq => .inl hq))
  have M2 := hide (show OwM (w1.setCell ⟨w.heap.size, 4, none⟩ (.slice a3 l3 k3)) wq.heap.size (.slice a3 l3 k3) MS from owns_of_block M1.out (fun q hq => heap_setCell_other w1 ⟨w.heap.size, 4, none⟩ q _ (by show q ≠ w.heap.size; have := (M1.out.lt q hq).1; omega)))
  have y5 : w1.heap.size ≤ (w1.setCell ⟨w.heap.size, 4, none⟩ (.slice a3 l3 k3)).heap.size := by simp
  go_upto_region 3 with fail
  clear p4 g4 f0 E1 D1 C1 CR1 M1 KR1
  generalize w1.setCell ⟨w.heap.size, 4, none⟩ (.slice a3 l3 k3) = w2 at *
  have b0 : w2.cell? ⟨w.heap.size, 0, none⟩ = some (.int .i64 1) := by rw [cell_of_row _ _ 0 _ _ _ KR2.out]; rfl
  have b1 : w2.cell? ⟨w.heap.size, 1, none⟩ = some (.int .i64 off) := by rw [cell_of_row _ _ 1 _ _ _ KR2.out]; rfl
  have b2 : w2.cell? ⟨w.heap.size, 2, none⟩ = some (.slice a1 l1 k1) := by rw [cell_of_row _ _ 2 _ _ _ KR2.out]; rfl
  have b3 : w2.cell? ⟨w.heap.size, 3, none⟩ = some (.slice a2 l2 k2) := by rw [cell_of_row _ _ 3 _ _ _ KR2.out]; rfl
  have b4 : w2.cell? ⟨w.heap.size, 4, none⟩ = some (.slice a3 l3 k3) := by rw [cell_of_row _ _ 4 _ _ _ KR2.out]; rfl
  have q0 := fun d os => cell_regrown b0 d os
  have q1 := fun d os => cell_regrown b1 d os
  have q2 := fun d os => cell_regrown b2 d os
  have q3 := fun d os => cell_regrown b3 d os
  have q4 := fun d os => cell_regrown b4 d os
  refine (wpIn_wide (n := 6)).1 ?_
  refine wpIn_region_tailW 4 (by kernel_rfl) (by kernel_rfl) ?_
  simp only [List.take_succ_cons, List.take_zero, List.drop_succ_cons, List.drop_zero]
  clear b0 b1 b2 b3 b4
  repeat (refine wpQuietIn_step (fun _ _ _ _ => trivial) (fun K hK => ?_); go_simp; first | (refine hK _ ?_; clear hK K) | (apply Exists.intro; refine ⟨fun _ => ?_, hK _ ?_⟩; (fail); clear hK K))
  refine wpQuietIn_nil ?_
  intro _ hw'
  obtain ⟨⟨dq2, osq2⟩, hw''⟩ := hw'
  subst hw''
  have BQ := hide (below_regrown w2 dq2 osq2)
  clear q0 q1 q2 q3 q4
  generalize grow (redrawn w2 dq2) osq2 = w3 at *
  have yw3 := BQ.out.size
  have hE2 := E2.out.lt
  have NO := hide (HNO.out w3 (.slice a3 l3 k3) a3 l3 k3 (E2.out.same (BQ.out.block E hE2)) (owns_below D2.out BQ.out (Nat.le_refl _)))
  clear HNO
  gi_wp2_with fail
  refine ⟨trivial, (callsIn_wide.2 NO.out).mono ?_⟩
  rintro e w4 ⟨rfl, gb, hg1, hg2, hg3, dv', ho4, he4, hc4, hq4⟩
  have Z4 := hide (show EditPost K w Z FC E c n' lim TX MS (.slice a2 l2 k2) dv (.slice a1 l1 k1) cv s0 s1 s2 s3 s4 s5 s6 s7 sp off vs w4 from by
    have c4 : ChgP w2 w4 (fun q => q = E ∨ dv.ownBlock = some q) := (ChgP.of_below BQ.out (Nat.le_refl _)).transS hc4 (fun q hq => .inl hq)
    refine ⟨.slice a3 l3 k3, gb, dv', he4, ?_, ?_, by omega, hg2, hg3, ho4, C2.out.transS c4 (fun q hq => .inl (.inr hq)), fun q hq => (hq4 q hq).imp id (fun h9 => by omega)⟩
    · refine K.step CR2.out (fun q hq => c4.block q (by have := HFL.out q (HZF.out q hq); omega) (fun h9 => ?_)) (fun q hq hn => c4.block q hq (fun h9 => hn ?_)) c4.size (fun q hq => hq) (fun q hq => ?_)
      · rcases h9 with h9 | h9
        · rw [h9] at hq; exact hEZ hq
        · exact (HDF.out q h9).2 hq
      · rcases h9 with h9 | h9
        · rw [h9]; exact .inl (.inl hE)
        · exact .inl (.inl (HDF.out q h9).1)
      · rcases hq with h9 | h9 | h9 | h9
        · exact .inl (.inl (.inl h9))
        · exact .inl (.inr h9)
        · exact .inr (by omega)
        · rcases hq4 q h9 with h8 | h8
          · exact .inl (.inl (.inl (HDF.out q h8).1))
          · exact .inr (by omega)
    · refine (show OwM w4 wq.heap.size (.slice a3 l3 k3) MS from owns_of_block M2.out (fun q hq => c4.block q (M2.out.lt q hq).2 (fun h9 => ?_))).base (by omega)
      rcases h9 with h9 | h9
      · have := (M2.out.lt q hq).1; omega
      · have := (M2.out.lt q hq).1; have := HFL.out q (HDF.out q h9).1; omega)
  clear hg1 hg2 hg3 ho4 he4 hc4 hq4
  gi_wp2_with fail
  refine bodyPost_end (v := .tuple #[]) (by simp [results, Tryz.results105]) rfl ⟨rfl, Z4.out⟩
end Go.Proofs.YtbkcbhjejkicjaaGreatDoor

