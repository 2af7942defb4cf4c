import Derived.Test.YtbkcbhjejkicjaaGreatDoorMq43
import Derived.Test.YtbkcbhjejkicjaaGreatDoorMq26
namespace Go.Proofs.YtbkcbhjejkicjaaGreatDoor
open Go Go.RowKit Go.Sort
set_option linter.unusedVariables false
/-- Which core is live. -/
def KOk (K : Core) (live : Int) : Prop := K = KP ∧ live = 0 ∨ K = KL ∧ live = 1
theorem KOk.ask {K : Core} {live : Int} (h : KOk K live) : AskK K := by
  rcases h with ⟨rfl, _⟩ | ⟨rfl, _⟩
  · exact askP
  · exact askL
theorem KOk.ins {K : Core} {live : Int} (h : KOk K live) : InsK K (fun ts => 10 ∉ ts) := by
  rcases h with ⟨rfl, _⟩ | ⟨rfl, _⟩
  · exact fun w Z F c n tx off v ts a1 a2 a3 a4 _ => insKP w Z F c n tx off v ts a1 a2 a3 a4 trivial
  · exact insKL
theorem KOk.sli {K : Core} {live : Int} (h : KOk K live) : SliK K (fun tx => tx ≠ []) := by
  rcases h with ⟨rfl, _⟩ | ⟨rfl, _⟩
  · exact sliKP
  · exact sliKL
/-- An engine's state while one types. -/
structure TyM (M : Ens) (cs : List Int) (k : Nat) : Prop where
  tx : M.tx = cs.take k
  opn : M.opn = false
  ms : M.ms = []
  sp : M.sp = k
  dn : M.dn.length = min k 9
  lim : M.lim = 9
theorem Vd0 : Vd [] := ⟨by simp, (fun x hx => by cases hx), .nil⟩
theorem pushL_len {lim : Nat} {gs : List (List Rc)} {g : List Rc} (h : gs.length ≤ lim) : (pushL lim gs g).length = min (gs.length + 1) lim := by
  unfold pushL
  split <;> simp <;> omega
theorem putT_step {cs : List Int} {k : Nat} (hk : k < cs.length) : putT (cs.take k) k [cs.getD k 0] = cs.take (k + 1) := by
  have h := take_step hk
  rw [← List.append_assoc] at h
  exact h
theorem TyM.step {M : Ens} {cs : List Int} {k : Nat} (h : TyM M cs k) (hk : k < cs.length) : TyM (insE M k [cs.getD k 0]) cs (k + 1) := by
  refine ⟨?_, h.opn, ?_, ?_, ?_, h.lim⟩
  · show putT M.tx k _ = _
    rw [h.tx, putT_step hk]
  · show srt (M.ms.map _) = []
    rw [h.ms, srt0]
  · show M.sp + _ = _
    rw [h.sp]; rfl
  · show (pushL M.lim M.dn _).length = _
    rw [pushL_len (by rw [h.dn, h.lim]; omega), h.dn, h.lim]; omega
/-- The live engine while one types: B is what was there before, H what its owner writes. -/
def TE (w : World) (B : Nat) (H : Nat → Prop) (live : Int) (E : Nat) (cs : List Int) (k : Nat) : Prop :=
  ∃ K Z F FC c n mv dv uv cv ss M, KOk K live ∧ EM K w Z F E c n mv dv uv cv ss FC M ∧ TyM M cs k ∧ (∀ q, q < B → F q) ∧ (∀ q, H q → F q ∧ ¬ Z q) ∧ Tab w ∧ 1 < B
theorem Tab.same {w w' : World} (h : Tab w) (e : w'.heap[1]? = w.heap[1]?) : Tab w' := by
  obtain ⟨t, fr, h9⟩ := h
  exact ⟨t, fr, e.trans h9⟩
section
variable {w w' : World} {B E k : Nat} {H H' : Nat → Prop} {live : Int} {cs : List Int}
theorem TE.mono (h : TE w B H live E cs k) (hH : ∀ q, H' q → H q) : TE w B H' live E cs k := by
  obtain ⟨K, Z, F, FC, c, n, mv, dv, uv, cv, ss, M, h1, h2, h3, h4, h5, h6⟩ := h
  exact ⟨K, Z, F, FC, c, n, mv, dv, uv, cv, ss, M, h1, h2, h3, h4, fun q hq => h5 q (hH q hq), h6⟩
theorem TE.lt (h : TE w B H live E cs k) : (∀ q, H q → q < w.heap.size) ∧ B ≤ w.heap.size ∧ 1 < B ∧ E < w.heap.size ∧ ¬ H E ∧ ¬ E < B := by
  obtain ⟨K, Z, F, FC, c, n, mv, dv, uv, cv, ss, M, h1, h2, h3, h4, h5, h6⟩ := h
  refine ⟨fun q hq => h2.fl q (h2.ff q (h5 q hq).1), ?_, h6.2, h2.fl E h2.fe.1, fun h9 => h2.fe.2 (h5 E h9).1, fun h9 => h2.fe.2 (h4 E h9)⟩
  rcases Nat.lt_or_ge w.heap.size B with h9 | h9
  · have := h2.fl _ (h2.ff _ (h4 _ h9)); omega
  · exact h9
theorem TE.chg (h : TE w B H live E cs k) (hc : ChgP w w' H) (hB : ∀ q, H q → B ≤ q) : TE w' B H live E cs k := by
  have hl := h.lt
  obtain ⟨K, Z, F, FC, c, n, mv, dv, uv, cv, ss, M, h1, h2, h3, h4, h5, h6, h7⟩ := h
  refine ⟨K, Z, F, FC, c, n, mv, dv, uv, cv, ss, M, h1, h2.chg hc (fun q _ hq => ⟨h2.ff q (h5 q hq).1, (h5 q hq).2, fun e => h2.fe.2 (by rw [← e]; exact (h5 q hq).1), fun e => (h2.fd q e).2 (h5 q hq).1, fun e => (h2.fu q e).2.1 (h5 q hq).1, fun ho e => (h2.fc ho q e).2 (h5 q hq).1⟩), h3, h4, h5, h6.same (hc.block 1 (by omega) (fun h9 => by have := hB 1 h9; omega)), h7⟩
theorem TE.wide (h : TE w B H live E cs k) (hb : Below w.heap.size w w') : TE w' B (fun q => H q ∨ (w.heap.size ≤ q ∧ q < w'.heap.size)) live E cs k := by
  have hl := h.lt
  obtain ⟨K, Z, F, FC, c, n, mv, dv, uv, cv, ss, M, h1, h2, h3, h4, h5, h6, h7⟩ := h
  refine ⟨K, Z, _, _, c, n, mv, dv, uv, cv, ss, M, h1, h2.wide hb, h3, fun q hq => .inl (h4 q hq), fun q hq => ?_, h6.same (hb.block 1 (by omega)), h7⟩
  rcases hq with h9 | h9
  · exact ⟨.inl (h5 q h9).1, (h5 q h9).2⟩
  · exact ⟨.inr h9, fun h8 => by have := h2.fl q (h2.ff q (h2.zf q h8)); omega⟩
theorem TE.below (h : TE w B H live E cs k) (hb : Below w.heap.size w w') : TE w' B H live E cs k := (h.wide hb).mono (fun q hq => .inl hq)
end
theorem stepT (B E k : Nat) (H : Nat → Prop) (live : Int) (cs : List Int) (ta : Option Addr) (tq : Nat) (w : World) (h : TE w B H live E cs k) (hrd : Rd .u8 w (.slice ta 1 tq) [cs.getD k 0]) (hl : Letters cs) (hk : k < cs.length) (hn : cs.length ≤ 100) (n1 u1 : Nat) (hn1 : n1 = k + 1) (hu1 : u1 = min (k + 1) 9) :
    Calls Tryz.prog 38 #[.pointer (some ⟨E, 0, none⟩), .agg #[.int .i64 1, .int .i64 k, .int .i64 0, .int .i64 0, .slice ta 1 tq]] w fun e w' => e = .returned (.agg #[.int .i64 0, .int .i64 1, .int .i64 0, .slice none 0 0, .slice none 0 0, .int .i64 (n1 : Nat), .int .i64 1, .int .i64 (u1 : Nat), .int .i64 0, .int .i64 0]) ∧ TE w' B H live E cs (k + 1) ∧ ChgP w w' (fun q => ¬ (q < B ∨ H q)) := by
  subst hn1 hu1
  have hlt := h.lt
  obtain ⟨K, Z, F, FC, c, n, mv, dv, uv, cv, ss, M, h1, h2, h3, h4, h5, h6, h7⟩ := h
  have hc := hl.at hk
  have hd : decs [cs.getD k 0] = [cs.getD k 0] := decs1 _ (by omega)
  have hlen : M.tx.length = k := by rw [h3.tx, List.length_take]; omega
  have ok : InsOk K (fun ts => 10 ∉ ts) w M k [cs.getD k 0] (.slice ta 1 tq) := by
    refine ⟨h1.ask, h1.ins, h3.opn, hrd, fun z hz => by rw [List.mem_singleton] at hz; omega, h6, by simp, ?_, by rw [hd]; simp, by omega, by rw [hlen, hd]; simp; omega, by rw [hd, h3.sp]; simp; omega, ?_⟩
    · rw [hd]; intro h9; rw [List.mem_singleton] at h9; omega
    · rw [h3.ms, srt0]
      exact ⟨Vd0, fun x hx => by cases hx⟩
  refine (stepI 0 0 h2 ok).mono ?_
  rw [hd]
  rintro e w' ⟨rfl, Z', F', FC', mv', dv', g1, g2, g3, g4, g5, g6⟩
  have hst := h3.step hk
  refine ⟨?_, ⟨K, Z', F', FC', c, _, mv', dv', _, cv, ss, _, h1, g1, hst, fun q hq => g2 q (h4 q hq), fun q hq => ⟨g2 q (h5 q hq).1, fun h9 => ?_⟩, h6.same (g6.block 1 (by omega) (fun h9 => h9 (h4 1 (by omega)))), h7⟩, (ChgP.reflS w _).transS g6 (fun q hq => .inl (fun h9 => hq (h9.elim (h4 q) (fun h8 => (h5 q h8).1))))⟩
  · unfold insO obV
    rw [hst.tx, hl.brk, hst.dn, show (cs.take (k + 1)).length = k + 1 by rw [List.length_take]; omega]
    rfl
  · rcases g5 q h9 with h8 | h8
    · exact (h5 q hq).2 h8
    · have := hlt.1 q hq; omega
end Go.Proofs.YtbkcbhjejkicjaaGreatDoor

namespace Go.Proofs.YtbkcbhjejkicjaaGreatDoor
open Go Go.RowKit Go.Sort
set_option linter.unusedVariables false
/-- The front end's block. -/
def FB (w : World) (f E : Nat) (big near run live moves last nr : Int) : Prop := w.heap[f]? = some (.cells #[.pointer (some ⟨E, 0, none⟩), .func (.func 38) #[.pointer (some ⟨E, 0, none⟩)] #[], .int .i64 big, .int .i64 near, .int .i64 run, .int .i64 live, .int .i64 moves, .int .i64 last, .int .i64 nr] 56 (0, 0))
theorem TE.moves {w : World} {B E k : Nat} {H : Nat → Prop} {live : Int} {cs : List Int} (h : TE w B H live E cs k) (hk : 0 < k) (hkc : k ≤ cs.length) (hn : cs.length ≤ 100) (l : Int) (hl : l = 0 ∨ l = 1) : ∃ (ty : TypeId) (LP : World → Nat → Prop),
    (∀ y, Below w.heap.size w y → Calls Tryz.prog 42 #[.pointer (some ⟨E, 0, none⟩)] y fun e y' => ∃ tb ct, e = .returned (.slice (some ⟨tb, 0, none⟩) k ct) ∧ own32 y' y.heap.size (.slice (some ⟨tb, 0, none⟩) k ct) (cs.take k) ∧ Below y.heap.size y y') ∧
    (∀ y tb ct D, Below w.heap.size w y → w.heap.size ≤ D → own32 y D (.slice (some ⟨tb, 0, none⟩) k ct) (cs.take k) → Calls Tryz.prog 24 #[.int .i64 l, .slice (some ⟨tb, 0, none⟩) k ct] y fun e y' => ∃ c, e = .returned (.iface ty (.pointer (some ⟨c, 0, none⟩))) ∧ LP y' c ∧ Below y.heap.size y y') ∧
    (∀ y c, LP y c → Calls Tryz.prog 41 #[.pointer (some ⟨E, 0, none⟩), .iface ty (.pointer (some ⟨c, 0, none⟩))] y fun e y' => ∃ E', e = .returned (.pointer (some ⟨E', 0, none⟩)) ∧ TE y' B H l E' cs k ∧ Below y.heap.size y y') := by
  have hlt := h.lt
  obtain ⟨K, Z, F, FC, c0, n, mv, dv, uv, cv, ss, M, h1, h2, h3, h4, h5, h6, h7⟩ := h
  have hlen : (cs.take k).length = k := by rw [List.length_take]; omega
  have hne : cs.take k ≠ [] := fun e => by rw [e] at hlen; simp at hlen; omega
  obtain ⟨K', hK', hld⟩ : ∃ K' : Core, KOk K' l ∧ ∀ (y : World) (Z F : Nat → Prop) (v : Value) (ts : List Int), HT y Z v ts → (∀ q, F q → q < y.heap.size) → ts.length ≤ 8192 → Calls Tryz.prog 24 #[.int .i64 l, v] y fun e w' => ∃ c, e = .returned (.iface K'.ty (.pointer (some ⟨c, 0, none⟩))) ∧ y.heap.size ≤ c ∧ K'.Cr w' Z F c ts.length ts ∧ Below y.heap.size y w' := by
    rcases hl with rfl | rfl
    · exact ⟨KP, .inl ⟨rfl, rfl⟩, loadCP1⟩
    · exact ⟨KL, .inr ⟨rfl, rfl⟩, loadCL1⟩
  refine ⟨K'.ty, fun y c => ∃ tb D2, w.heap.size ≤ tb ∧ tb < D2 ∧ D2 ≤ y.heap.size ∧ Below w.heap.size w y ∧ K'.Cr y (fun q => Z q ∨ q = tb) (fun q => q < D2) c k (cs.take k), fun y hy => ?_, fun y tb ct D hy hD ho => ?_, fun y c hLP => ?_⟩
  · refine (wholeE h1.ask h1.sli (h2.below hy) (by rw [h3.tx]; exact hne)).mono ?_
    rintro e y' ⟨v, rfl, ho, hb⟩
    rw [h3.tx] at ho
    rcases ho.2 with ⟨e, e0⟩ | ⟨g, cap, cur, e, _⟩
    · rw [hlen] at e0; omega
    · subst e
      rw [hlen] at ho ⊢
      exact ⟨g, cap, rfl, ho, hb⟩
  · have htb := ho.lt tb rfl
    have hT : HT y (fun q => Z q ∨ q = tb) (.slice (some ⟨tb, 0, none⟩) k ct) (cs.take k) := ⟨tb, ct, by rw [hlen], owns_base ho (Nat.zero_le _), .inr rfl⟩
    refine (hld y (fun q => Z q ∨ q = tb) (fun q => q < y.heap.size) _ _ hT (fun q hq => hq) (by rw [hlen]; omega)).mono ?_
    rintro e y' ⟨c, rfl, hc1, hc2, hb⟩
    rw [hlen] at hc2
    exact ⟨c, rfl, ⟨tb, y.heap.size, by omega, htb.2, hb.size, hy.trans (hb.mono hy.size), hc2⟩, hb⟩
  · obtain ⟨tb, D2, a1, a2, a3, a4, a5⟩ := hLP
    rw [← h3.tx] at a5
    refine (overE (h2.below a4) h2.fl ⟨a1, a2⟩ a3 a5 (by omega)).mono ?_
    rintro e y' ⟨rfl, hE, hb⟩
    refine ⟨_, rfl, ⟨K', _, _, _, _, _, _, _, _, _, _, M, hK', hE, h3, fun q hq => .inl (h4 q hq), fun q hq => ⟨.inl (h5 q hq).1, fun h9 => h9.elim (h5 q hq).2 (fun e => by have := hlt.1 q hq; omega)⟩, h6.same ((hb.block 1 (by have := a4.size; omega)).trans (a4.block 1 (by omega))), h7⟩, hb⟩
theorem FB.c {w : World} {f E : Nat} {big near run live moves last nr : Int} (h : FB w f E big near run live moves last nr) : w.cell? ⟨f, 0, none⟩ = some (.pointer (some ⟨E, 0, none⟩)) ∧ w.cell? ⟨f, 1, none⟩ = some (.func (.func 38) #[.pointer (some ⟨E, 0, none⟩)] #[]) ∧ w.cell? ⟨f, 2, none⟩ = some (.int .i64 big) ∧ w.cell? ⟨f, 3, none⟩ = some (.int .i64 near) ∧ w.cell? ⟨f, 4, none⟩ = some (.int .i64 run) ∧ w.cell? ⟨f, 5, none⟩ = some (.int .i64 live) ∧ w.cell? ⟨f, 6, none⟩ = some (.int .i64 moves) ∧ w.cell? ⟨f, 7, none⟩ = some (.int .i64 last) ∧ w.cell? ⟨f, 8, none⟩ = some (.int .i64 nr) := by
  refine ⟨?_, ?_, ?_, ?_, ?_, ?_, ?_, ?_, ?_⟩
  · rw [cell_of_row w f 0 _ _ _ h]; rfl
  · rw [cell_of_row w f 1 _ _ _ h]; rfl
  · rw [cell_of_row w f 2 _ _ _ h]; rfl
  · rw [cell_of_row w f 3 _ _ _ h]; rfl
  · rw [cell_of_row w f 4 _ _ _ h]; rfl
  · rw [cell_of_row w f 5 _ _ _ h]; rfl
  · rw [cell_of_row w f 6 _ _ _ h]; rfl
  · rw [cell_of_row w f 7 _ _ _ h]; rfl
  · rw [cell_of_row w f 8 _ _ _ h]; rfl
theorem FB.f {w : World} {f E : Nat} {big near run live moves last nr : Int} (h : FB w f E big near run live moves last nr) (j : Nat) : w.frozen? ⟨f, j, none⟩ = false := frozen_of_row w f j _ _ h
theorem FB.lt {w : World} {f E : Nat} {big near run live moves last nr : Int} (h : FB w f E big near run live moves last nr) : f < w.heap.size := (Array.getElem?_eq_some_iff.1 h).1
def MovePost (w : World) (B f : Nat) (H : Nat → Prop) (big near run live moves last nr : Int) (cs : List Int) (k : Nat) (w' : World) : Prop := ∃ E', FB w' f E' big near run live moves last nr ∧ TE w' B H live E' cs k ∧ ChgP w w' (fun q => q = f)
theorem FB.held {w : World} {f E : Nat} {big near run live moves last nr : Int} (h : FB w f E big near run live moves last nr) (E' : Nat) : FB ((w.setCell ⟨f, 0, none⟩ (.pointer (some ⟨E', 0, none⟩))).setCell ⟨f, 1, none⟩ (.func (.func 38) #[.pointer (some ⟨E', 0, none⟩)] #[])) f E' big near run live moves last nr := by
  have h1 := heap_setCell_same w f 0 _ _ (.pointer (some ⟨E', 0, none⟩)) h
  have h2 := heap_setCell_same _ f 1 _ _ (.func (.func 38) #[.pointer (some ⟨E', 0, none⟩)] #[]) h1
  exact h2
theorem moveFin {w0 w : World} {B f E k : Nat} {H : Nat → Prop} {big near run live moves last nr : Int} {cs : List Int} {lv : Int} (h : FB w f E big near run live moves last nr) (hT : TE w B H lv E cs k) (hc : ChgP w0 w (fun q => q = f)) (hH : H f) (hB : ∀ q, H q → B ≤ q) (l : Int) (hl : lv = l := by rfl) : MovePost w0 B f H big near run l (moves + 1) last 0 cs k (((w.setCell ⟨f, 5, none⟩ (.int .i64 l)).setCell ⟨f, 8, none⟩ (.int .i64 0)).setCell ⟨f, 6, none⟩ (.int .i64 (moves + 1))) := by
  subst hl
  have h1 := heap_setCell_same w f 5 _ _ (.int .i64 lv) h
  have h2 := heap_setCell_same _ f 8 _ _ (.int .i64 0) h1
  have h3 := heap_setCell_same _ f 6 _ _ (.int .i64 (moves + 1)) h2
  exact ⟨E, h3, hT.chg ((((ChgP.reflS w H).setS ⟨f, 5, none⟩ _ (.inl hH)).setS ⟨f, 8, none⟩ _ (.inl hH)).setS ⟨f, 6, none⟩ _ (.inl hH)) hB, ((hc.setS ⟨f, 5, none⟩ _ (.inl rfl)).setS ⟨f, 8, none⟩ _ (.inl rfl)).setS ⟨f, 6, none⟩ _ (.inl rfl)⟩
set_option maxHeartbeats 4000000 in
set_option maxRecDepth 100000 in
theorem moveT (w : World) (B f E k : Nat) (H : Nat → Prop) (big near run live moves last nr l : Int) (cs : List Int) (hF : FB w f E big near run live moves last nr) (h : TE w B H live E cs k) (hHf : H f) (hHB : ∀ q, H q → B ≤ q) (hk : 0 < k) (hkc : k ≤ cs.length) (hn : cs.length ≤ 100) (hl : l = 0 ∨ l = 1) (hne : ¬ l = live) (hm : 0 ≤ moves ∧ moves ≤ 1000) :
    Calls Tryz.prog 25 #[.pointer (some ⟨f, 0, none⟩), .int .i64 l] w fun e w' => e = .returned (.tuple #[]) ∧ MovePost w B f H big near run l (moves + 1) last 0 cs k w' := by
  obtain ⟨ty, LP, hWH, hLD, hOV⟩ := h.moves hk hkc hn l hl
  have WH := hide hWH
  have LD := hide hLD
  have OV := hide hOV
  have HHB := hide hHB
  have HFB := hide hF
  obtain ⟨cf, _, _, _, _, c5, _⟩ := hF.c
  have hfl := hF.lt
  have hne' : (l == live) = false := by simpa using hne
  clear hWH hLD hOV hHB hF h
  go_enter Tryz.func25, Tryz.ntmps25
  go_upto_region 1 with fail
  refine (wpIn_wide (n := 6)).1 ?_
  refine regionC (fun _ => True) (by kernel_rfl) ?_
  refine tk 0 (.pointer (some ⟨f, 0, none⟩)) ?_ ?_
  · intro y hC; go_simp
  go_simp
  refine tk 1 (.pointer (some ⟨f, 0, none⟩)) ?_ ?_
  · intro y hC; go_simp
  go_simp
  refine tk 2 (.pointer (some ⟨f, 0, none⟩)) ?_ ?_
  · intro y hC; go_simp
  go_simp
  refine tk 3 (.pointer (some ⟨f, 0, none⟩)) ?_ ?_
  · intro y hC; go_simp
  go_simp
  refine tk 5 (.int .i64 l) ?_ ?_
  · intro y hC; go_simp
  go_simp
  refine tk 6 (.pointer (some ⟨f, 0, none⟩)) ?_ ?_
  · intro y hC; go_simp
  go_simp
  refine tk 7 (.pointer (some ⟨f, 0, none⟩)) ?_ ?_
  · intro y hC; go_simp
  go_simp
  refine tk 8 (.pointer (some ⟨f, 0, none⟩)) ?_ ?_
  · intro y hC; go_simp
  go_simp
  obtain ⟨y0, hy⟩ : ∃ y, y = w.drew := ⟨_, rfl⟩
  rw [← hy]
  have BYy0 := hide (show Below w.heap.size w y0 from by rw [hy]; exact drewB rfl rfl rfl rfl)
  have c0 : y0.cell? ⟨f, 0, none⟩ = some (.pointer (some ⟨E, 0, none⟩)) := (BYy0.out.cell (p := ⟨f, 0, none⟩) hfl).trans cf
  clear hy
  refine tw 4 9 trivial ?_ ?_
  · gi_wp2_with fail
    refine on 9 trivial ?_
    gi_wp2_with fail
    refine on 10 trivial ?_
    gi_wp2_with fail
    refine ⟨trivial, (callsIn_wide.2 (WH.out _ BYy0.out)).mono ?_⟩
    rintro e y1 ⟨tb, ct, rfl, ho1, hb1⟩
    have BYy1 := hide (BYy0.out.trans (hb1.mono BYy0.out.size))
    have c1 : y1.cell? ⟨f, 0, none⟩ = some (.pointer (some ⟨E, 0, none⟩)) := (BYy1.out.cell (p := ⟨f, 0, none⟩) hfl).trans cf
    have O1 := hide (owns_base ho1 BYy0.out.size)
    clear hb1 ho1
    gi_wp2_with fail
    refine on 11 trivial ?_
    gi_wp2_with fail
    refine ⟨trivial, (callsIn_wide.2 (LD.out _ _ _ w.heap.size BYy1.out (Nat.le_refl _) O1.out)).mono ?_⟩
    rintro e y2 ⟨c, rfl, hLP, hb2⟩
    have BYy2 := hide (BYy1.out.trans (hb2.mono BYy1.out.size))
    have c2 : y2.cell? ⟨f, 0, none⟩ = some (.pointer (some ⟨E, 0, none⟩)) := (BYy2.out.cell (p := ⟨f, 0, none⟩) hfl).trans cf
    have LP2 := hide hLP
    clear hb2 hLP
    gi_wp2_with fail
    refine on 12 trivial ?_
    gi_wp2_with fail
    refine ⟨trivial, (callsIn_wide.2 (OV.out _ _ LP2.out)).mono ?_⟩
    rintro e y3 ⟨E', rfl, hT3, hb3⟩
    have BYy3 := hide (BYy2.out.trans (hb3.mono BYy2.out.size))
    have T3 := hide hT3
    have F3 := hide (show FB y3 f E big near run live moves last nr from (BYy3.out.block f hfl).trans HFB.out)
    clear hb3 hT3
    gi_wp2_with fail
    refine on 13 trivial ?_
    gi_wp2_with fail
    refine ⟨trivial, (callsIn_wide.2 (holdF y3 f E' _ _ _ F3.out rfl rfl)).mono ?_⟩
    rintro e y4 ⟨rfl, rfl⟩
    have F4 := hide (FB.held F3.out E')
    have C4 := hide (show ChgP w _ (fun q => q = f) from ((ChgP.of_below (S := fun q => q = f) BYy3.out (Nat.le_refl _)).setS ⟨f, 0, none⟩ (.pointer (some ⟨E', 0, none⟩)) (.inl rfl)).setS ⟨f, 1, none⟩ (.func (.func 38) #[.pointer (some ⟨E', 0, none⟩)] #[]) (.inl rfl))
    have T4 := hide (show TE _ B H l E' cs k from T3.out.chg (((ChgP.reflS y3 H).setS ⟨f, 0, none⟩ (.pointer (some ⟨E', 0, none⟩)) (.inl hHf)).setS ⟨f, 1, none⟩ (.func (.func 38) #[.pointer (some ⟨E', 0, none⟩)] #[]) (.inl hHf)) HHB.out)
    gi_wp2_with fail
    refine doneC (by kernel_rfl) trivial ?_ _
    generalize (y3.setCell ⟨f, 0, none⟩ (.pointer (some ⟨E', 0, none⟩))).setCell ⟨f, 1, none⟩ (.func (.func 38) #[.pointer (some ⟨E', 0, none⟩)] #[]) = w4 at *
    have d5 := F4.out.c.2.2.2.2.2.1
    have d6 := F4.out.c.2.2.2.2.2.2.1
    have d8 := F4.out.c.2.2.2.2.2.2.2.2
    have g5 := F4.out.f 5
    have g6 := F4.out.f 6
    have g8 := F4.out.f 8
    clear c0 c1 c2 cf c5
    go_wp2
    go_end0
    exact ⟨rfl, moveFin F4.out T4.out C4.out hHf HHB.out l⟩
  · skip
    gi_wp2_with fail
    refine tw 4 10 trivial ?_ ?_
    · gi_wp2_with fail
      refine on 10 trivial ?_
      gi_wp2_with fail
      refine ⟨trivial, (callsIn_wide.2 (WH.out _ BYy0.out)).mono ?_⟩
      rintro e y1 ⟨tb, ct, rfl, ho1, hb1⟩
      have BYy1 := hide (BYy0.out.trans (hb1.mono BYy0.out.size))
      have c1 : y1.cell? ⟨f, 0, none⟩ = some (.pointer (some ⟨E, 0, none⟩)) := (BYy1.out.cell (p := ⟨f, 0, none⟩) hfl).trans cf
      have O1 := hide (owns_base ho1 BYy0.out.size)
      clear hb1 ho1
      gi_wp2_with fail
      refine on 11 trivial ?_
      gi_wp2_with fail
      refine ⟨trivial, (callsIn_wide.2 (LD.out _ _ _ w.heap.size BYy1.out (Nat.le_refl _) O1.out)).mono ?_⟩
      rintro e y2 ⟨c, rfl, hLP, hb2⟩
      have BYy2 := hide (BYy1.out.trans (hb2.mono BYy1.out.size))
      have c2 : y2.cell? ⟨f, 0, none⟩ = some (.pointer (some ⟨E, 0, none⟩)) := (BYy2.out.cell (p := ⟨f, 0, none⟩) hfl).trans cf
      have LP2 := hide hLP
      clear hb2 hLP
      gi_wp2_with fail
      refine on 12 trivial ?_
      gi_wp2_with fail
      refine ⟨trivial, (callsIn_wide.2 (OV.out _ _ LP2.out)).mono ?_⟩
      rintro e y3 ⟨E', rfl, hT3, hb3⟩
      have BYy3 := hide (BYy2.out.trans (hb3.mono BYy2.out.size))
      have T3 := hide hT3
      have F3 := hide (show FB y3 f E big near run live moves last nr from (BYy3.out.block f hfl).trans HFB.out)
      clear hb3 hT3
      gi_wp2_with fail
      refine on 13 trivial ?_
      gi_wp2_with fail
      refine ⟨trivial, (callsIn_wide.2 (holdF y3 f E' _ _ _ F3.out rfl rfl)).mono ?_⟩
      rintro e y4 ⟨rfl, rfl⟩
      have F4 := hide (FB.held F3.out E')
      have C4 := hide (show ChgP w _ (fun q => q = f) from ((ChgP.of_below (S := fun q => q = f) BYy3.out (Nat.le_refl _)).setS ⟨f, 0, none⟩ (.pointer (some ⟨E', 0, none⟩)) (.inl rfl)).setS ⟨f, 1, none⟩ (.func (.func 38) #[.pointer (some ⟨E', 0, none⟩)] #[]) (.inl rfl))
      have T4 := hide (show TE _ B H l E' cs k from T3.out.chg (((ChgP.reflS y3 H).setS ⟨f, 0, none⟩ (.pointer (some ⟨E', 0, none⟩)) (.inl hHf)).setS ⟨f, 1, none⟩ (.func (.func 38) #[.pointer (some ⟨E', 0, none⟩)] #[]) (.inl hHf)) HHB.out)
      gi_wp2_with fail
      refine doneC (by kernel_rfl) trivial ?_ _
      generalize (y3.setCell ⟨f, 0, none⟩ (.pointer (some ⟨E', 0, none⟩))).setCell ⟨f, 1, none⟩ (.func (.func 38) #[.pointer (some ⟨E', 0, none⟩)] #[]) = w4 at *
      have d5 := F4.out.c.2.2.2.2.2.1
      have d6 := F4.out.c.2.2.2.2.2.2.1
      have d8 := F4.out.c.2.2.2.2.2.2.2.2
      have g5 := F4.out.f 5
      have g6 := F4.out.f 6
      have g8 := F4.out.f 8
      clear c0 c1 c2 cf c5
      go_wp2
      go_end0
      exact ⟨rfl, moveFin F4.out T4.out C4.out hHf HHB.out l⟩
    · skip
      gi_wp2_with fail
      refine ⟨trivial, (callsIn_wide.2 (WH.out _ BYy0.out)).mono ?_⟩
      rintro e y1 ⟨tb, ct, rfl, ho1, hb1⟩
      have BYy1 := hide (BYy0.out.trans (hb1.mono BYy0.out.size))
      have c1 : y1.cell? ⟨f, 0, none⟩ = some (.pointer (some ⟨E, 0, none⟩)) := (BYy1.out.cell (p := ⟨f, 0, none⟩) hfl).trans cf
      have O1 := hide (owns_base ho1 BYy0.out.size)
      clear hb1 ho1
      gi_wp2_with fail
      refine tw 4 11 trivial ?_ ?_
      · gi_wp2_with fail
        refine on 11 trivial ?_
        gi_wp2_with fail
        refine ⟨trivial, (callsIn_wide.2 (LD.out _ _ _ w.heap.size BYy1.out (Nat.le_refl _) O1.out)).mono ?_⟩
        rintro e y2 ⟨c, rfl, hLP, hb2⟩
        have BYy2 := hide (BYy1.out.trans (hb2.mono BYy1.out.size))
        have c2 : y2.cell? ⟨f, 0, none⟩ = some (.pointer (some ⟨E, 0, none⟩)) := (BYy2.out.cell (p := ⟨f, 0, none⟩) hfl).trans cf
        have LP2 := hide hLP
        clear hb2 hLP
        gi_wp2_with fail
        refine on 12 trivial ?_
        gi_wp2_with fail
        refine ⟨trivial, (callsIn_wide.2 (OV.out _ _ LP2.out)).mono ?_⟩
        rintro e y3 ⟨E', rfl, hT3, hb3⟩
        have BYy3 := hide (BYy2.out.trans (hb3.mono BYy2.out.size))
        have T3 := hide hT3
        have F3 := hide (show FB y3 f E big near run live moves last nr from (BYy3.out.block f hfl).trans HFB.out)
        clear hb3 hT3
        gi_wp2_with fail
        refine on 13 trivial ?_
        gi_wp2_with fail
        refine ⟨trivial, (callsIn_wide.2 (holdF y3 f E' _ _ _ F3.out rfl rfl)).mono ?_⟩
        rintro e y4 ⟨rfl, rfl⟩
        have F4 := hide (FB.held F3.out E')
        have C4 := hide (show ChgP w _ (fun q => q = f) from ((ChgP.of_below (S := fun q => q = f) BYy3.out (Nat.le_refl _)).setS ⟨f, 0, none⟩ (.pointer (some ⟨E', 0, none⟩)) (.inl rfl)).setS ⟨f, 1, none⟩ (.func (.func 38) #[.pointer (some ⟨E', 0, none⟩)] #[]) (.inl rfl))
        have T4 := hide (show TE _ B H l E' cs k from T3.out.chg (((ChgP.reflS y3 H).setS ⟨f, 0, none⟩ (.pointer (some ⟨E', 0, none⟩)) (.inl hHf)).setS ⟨f, 1, none⟩ (.func (.func 38) #[.pointer (some ⟨E', 0, none⟩)] #[]) (.inl hHf)) HHB.out)
        gi_wp2_with fail
        refine doneC (by kernel_rfl) trivial ?_ _
        generalize (y3.setCell ⟨f, 0, none⟩ (.pointer (some ⟨E', 0, none⟩))).setCell ⟨f, 1, none⟩ (.func (.func 38) #[.pointer (some ⟨E', 0, none⟩)] #[]) = w4 at *
        have d5 := F4.out.c.2.2.2.2.2.1
        have d6 := F4.out.c.2.2.2.2.2.2.1
        have d8 := F4.out.c.2.2.2.2.2.2.2.2
        have g5 := F4.out.f 5
        have g6 := F4.out.f 6
        have g8 := F4.out.f 8
        clear c0 c1 c2 cf c5
        go_wp2
        go_end0
        exact ⟨rfl, moveFin F4.out T4.out C4.out hHf HHB.out l⟩
      · skip
        gi_wp2_with fail
        refine ⟨trivial, (callsIn_wide.2 (LD.out _ _ _ w.heap.size BYy1.out (Nat.le_refl _) O1.out)).mono ?_⟩
        rintro e y2 ⟨c, rfl, hLP, hb2⟩
        have BYy2 := hide (BYy1.out.trans (hb2.mono BYy1.out.size))
        have c2 : y2.cell? ⟨f, 0, none⟩ = some (.pointer (some ⟨E, 0, none⟩)) := (BYy2.out.cell (p := ⟨f, 0, none⟩) hfl).trans cf
        have LP2 := hide hLP
        clear hb2 hLP
        gi_wp2_with fail
        refine on 4 trivial ?_
        gi_wp2_with fail
        refine on 12 trivial ?_
        gi_wp2_with fail
        refine ⟨trivial, (callsIn_wide.2 (OV.out _ _ LP2.out)).mono ?_⟩
        rintro e y3 ⟨E', rfl, hT3, hb3⟩
        have BYy3 := hide (BYy2.out.trans (hb3.mono BYy2.out.size))
        have T3 := hide hT3
        have F3 := hide (show FB y3 f E big near run live moves last nr from (BYy3.out.block f hfl).trans HFB.out)
        clear hb3 hT3
        gi_wp2_with fail
        refine on 13 trivial ?_
        gi_wp2_with fail
        refine ⟨trivial, (callsIn_wide.2 (holdF y3 f E' _ _ _ F3.out rfl rfl)).mono ?_⟩
        rintro e y4 ⟨rfl, rfl⟩
        have F4 := hide (FB.held F3.out E')
        have C4 := hide (show ChgP w _ (fun q => q = f) from ((ChgP.of_below (S := fun q => q = f) BYy3.out (Nat.le_refl _)).setS ⟨f, 0, none⟩ (.pointer (some ⟨E', 0, none⟩)) (.inl rfl)).setS ⟨f, 1, none⟩ (.func (.func 38) #[.pointer (some ⟨E', 0, none⟩)] #[]) (.inl rfl))
        have T4 := hide (show TE _ B H l E' cs k from T3.out.chg (((ChgP.reflS y3 H).setS ⟨f, 0, none⟩ (.pointer (some ⟨E', 0, none⟩)) (.inl hHf)).setS ⟨f, 1, none⟩ (.func (.func 38) #[.pointer (some ⟨E', 0, none⟩)] #[]) (.inl hHf)) HHB.out)
        gi_wp2_with fail
        refine doneC (by kernel_rfl) trivial ?_ _
        generalize (y3.setCell ⟨f, 0, none⟩ (.pointer (some ⟨E', 0, none⟩))).setCell ⟨f, 1, none⟩ (.func (.func 38) #[.pointer (some ⟨E', 0, none⟩)] #[]) = w4 at *
        have d5 := F4.out.c.2.2.2.2.2.1
        have d6 := F4.out.c.2.2.2.2.2.2.1
        have d8 := F4.out.c.2.2.2.2.2.2.2.2
        have g5 := F4.out.f 5
        have g6 := F4.out.f 6
        have g8 := F4.out.f 8
        clear c0 c1 c2 cf c5
        go_wp2
        go_end0
        exact ⟨rfl, moveFin F4.out T4.out C4.out hHf HHB.out l⟩
end Go.Proofs.YtbkcbhjejkicjaaGreatDoor

namespace Go.Proofs.YtbkcbhjejkicjaaGreatDoor
open Go Go.RowKit Go.Sort
set_option linter.unusedVariables false
/-- Which engine is live behind insertion k, by the law. -/
def lvN (big run : Int) (k : Nat) : Int := if run ≤ k ∧ (k : Int) + 1 < big then 1 else 0
def wasN (big run : Int) : Nat → Int
  | 0 => 0
  | k + 1 => lvN big run k
def mvN (big run : Int) : Nat → Int
  | 0 => 0
  | k + 1 => mvN big run k + if lvN big run k = wasN big run k then 0 else 1
theorem mvN_bd (big run : Int) : ∀ k, 0 ≤ mvN big run k ∧ mvN big run k ≤ k
  | 0 => by simp [mvN]
  | k + 1 => by
    have := mvN_bd big run k
    simp only [mvN]
    split <;> omega
theorem lvN_01 (big run : Int) (k : Nat) : lvN big run k = 0 ∨ lvN big run k = 1 := by unfold lvN; split <;> simp
/-- What is known of the number of near edits. -/
def NrI (run : Int) (k : Nat) (nr : Int) : Prop := 0 ≤ nr ∧ nr ≤ k ∧ ((k : Int) ≤ run → k = 0 ∨ nr = (k : Int) - 1)
def nrN (k : Nat) (nr : Int) : Int := if k = 0 then 0 else nr + 1
def wantV (len big nr run live : Int) : Int := if big ≤ len then 0 else if run ≤ nr then 1 else live
theorem want_lv {big run nr : Int} {k : Nat} (h : NrI run k nr) (hr : 1 ≤ run) : wantV ((k : Int) + 1) big (nrN k nr) run (wasN big run k) = lvN big run k := by
  obtain ⟨h0, h1, h2⟩ := h
  unfold wantV nrN
  cases k with
  | zero =>
    simp only [wasN, lvN]
    repeat' split
    all_goals simp_all
    all_goals omega
  | succ k =>
    simp only [wasN, lvN]
    repeat' split
    all_goals simp_all
    all_goals omega
theorem lv_low {big run : Int} {k : Nat} (h : (k : Int) < run) : lvN big run k = 0 := by unfold lvN; rw [if_neg (by omega)]
theorem was_low {big run : Int} {k : Nat} (h : (k : Int) ≤ run) : wasN big run k = 0 := by
  cases k with
  | zero => rfl
  | succ k => exact lv_low (by omega)
theorem NrI.next {big run nr : Int} {k : Nat} (h : NrI run k nr) (hr : 1 ≤ run) : NrI run (k + 1) (if lvN big run k = wasN big run k then nrN k nr else 0) := by
  obtain ⟨h0, h1, h2⟩ := h
  have hnn : 0 ≤ nrN k nr ∧ nrN k nr ≤ (k : Int) + 1 := by unfold nrN; split <;> omega
  by_cases e : lvN big run k = wasN big run k
  · rw [if_pos e]
    refine ⟨hnn.1, by omega, fun h9 => .inr ?_⟩
    unfold nrN
    rcases h2 (by omega) with h8 | h8
    · rw [if_pos h8]; omega
    · split <;> omega
  · rw [if_neg e]
    refine ⟨by omega, by omega, fun h9 => absurd ?_ e⟩
    rw [lv_low (by omega), was_low (by omega)]
def lastN (k : Nat) : Int := if k = 0 then -1 else k
set_option maxHeartbeats 2000000 in
set_option maxRecDepth 100000 in
theorem moveSame (w : World) (f E : Nat) (big near run live moves last nr : Int) (hF : FB w f E big near run live moves last nr) :
    Calls Tryz.prog 25 #[.pointer (some ⟨f, 0, none⟩), .int .i64 live] w fun e w' => e = .returned (.tuple #[]) ∧ w' = w := by
  obtain ⟨cf, _, _, _, _, c5, _⟩ := hF.c
  have hne' : (live == live) = true := by simp
  clear hF
  go_enter Tryz.func25, Tryz.ntmps25
  go_wp2
  exact bodyPost_ret (v := .tuple #[]) (by simp [results, Tryz.results25]) rfl ⟨rfl, rfl⟩
set_option maxHeartbeats 2000000 in
set_option maxRecDepth 100000 in
theorem wantT (w : World) (f E : Nat) (len big near run live moves last nr : Int) (hF : FB w f E big near run live moves last nr) :
    Calls Tryz.prog 28 #[.pointer (some ⟨f, 0, none⟩), .int .i64 len] w fun e w' => e = .returned (.int .i64 (wantV len big nr run live)) ∧ ∃ q, w' = w.drewN q := by
  obtain ⟨c0, c1, c2, c3, c4, c5, c6, c7, c8⟩ := hF.c
  unfold wantV
  clear hF
  by_cases h1 : big ≤ len
  · rw [if_pos h1]
    go_enter Tryz.func28, Tryz.ntmps28
    go_wp2
    go_ret
    exact ⟨rfl, 0, rfl⟩
  · rw [if_neg h1]
    have h1' : len < big := by omega
    by_cases h2 : run ≤ nr
    · rw [if_pos h2]
      go_enter Tryz.func28, Tryz.ntmps28
      go_upto_region 3 with fail
      go_quiet (fail)
      go_wp2
      go_ret
      exact ⟨rfl, _, rfl⟩
    · rw [if_neg h2]
      have h2' : nr < run := by omega
      go_enter Tryz.func28, Tryz.ntmps28
      go_upto_region 3 with fail
      go_quiet (fail)
      go_wp2
      go_ret
      exact ⟨rfl, _, rfl⟩
end Go.Proofs.YtbkcbhjejkicjaaGreatDoor

