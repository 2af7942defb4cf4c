import Derived.Test.YtbgngikejgihgagGreatDoorMq10
import Derived.Test.YtbgngikejgihgagGreatDoorMq11
import Derived.Test.YtbgngikejgihgagGreatDoorMq08
namespace Go.Proofs.YtbgngikejgihgagGreatDoor
open Go Go.RowKit
set_option linter.unusedVariables false

/-- Rows as elements of three cells. -/
def trs : List Value → List Gr → List T3v
  | v :: vs, g :: gs => (v, .int .i64 g.lo, .int .i64 g.hi) :: trs vs gs
  | _, _ => []
theorem grVs_fl3 : ∀ (vs : List Value) (gs : List Gr), grVs vs gs = fl3 (trs vs gs)
  | [], gs => by cases gs <;> rfl
  | v :: vs, [] => rfl
  | v :: vs, g :: gs => by simp only [grVs, trs, fl3]; rw [grVs_fl3 vs gs]
theorem trs_len : ∀ {vs : List Value} {gs : List Gr}, vs.length = gs.length → (trs vs gs).length = gs.length
  | [], [], _ => rfl
  | [], g :: gs, h => by simp at h
  | v :: vs, [], h => by simp at h
  | v :: vs, g :: gs, h => by simp only [trs, List.length_cons] at *; rw [trs_len (by omega)]
theorem trs_app : ∀ {vs us : List Value} {gs hs : List Gr}, vs.length = gs.length → trs (vs ++ us) (gs ++ hs) = trs vs gs ++ trs us hs
  | [], us, [], hs, _ => rfl
  | [], us, g :: gs, hs, h => by simp at h
  | v :: vs, us, [], hs, h => by simp at h
  | v :: vs, us, g :: gs, hs, h => by
    simp only [List.length_cons] at h
    simp only [List.cons_append, trs]
    rw [trs_app (by omega)]
theorem trs_take : ∀ {vs : List Value} {gs : List Gr} (n : Nat), (trs vs gs).take n = trs (vs.take n) (gs.take n)
  | vs, gs, 0 => by simp [trs]
  | [], gs, n + 1 => by simp [trs]
  | v :: vs, [], n + 1 => by simp [trs]
  | v :: vs, g :: gs, n + 1 => by simp only [trs, List.take_succ_cons]; rw [trs_take n]
theorem trs_drop : ∀ {vs : List Value} {gs : List Gr} (n : Nat), (trs vs gs).drop n = trs (vs.drop n) (gs.drop n)
  | vs, gs, 0 => by simp
  | [], gs, n + 1 => by simp [trs]
  | v :: vs, [], n + 1 => by
    simp [trs]
  | v :: vs, g :: gs, n + 1 => by simp only [trs, List.drop_succ_cons]; rw [trs_drop n]
theorem trs_one : ∀ {vs : List Value} {gs : List Gr}, (∀ v ∈ vs, v.oneCell' = true) → One3 (trs vs gs)
  | [], gs, _ => fun x hx => by simp [trs] at hx
  | v :: vs, [], _ => fun x hx => by simp [trs] at hx
  | v :: vs, g :: gs, h => fun x hx => by
    simp only [trs, List.mem_cons] at hx
    rcases hx with rfl | hx
    · exact ⟨h v (by simp), rfl, rfl⟩
    · exact trs_one (fun u hu => h u (List.mem_cons_of_mem _ hu)) x hx
theorem trs_rep (n : Nat) : trs (List.replicate n (.slice none 0 0)) (List.replicate n nilG) = List.replicate n (.slice none 0 0, .int .i64 0, .int .i64 0) := by
  induction n with
  | zero => rfl
  | succ n ih => simp only [List.replicate_succ, trs, ih]; rfl
theorem trs_lay {vs : List Value} {gs : List Gr} (p N : Nat) (h : vs.length = gs.length) : glayA (.slice none 0 0, .int .i64 0, .int .i64 0) (trs vs gs) p N = trs (glayA (.slice none 0 0) vs p N) (glayA nilG gs p N) := by
  unfold glayA
  rw [trs_take, trs_drop, trs_len h, h, trs_app (by simp [h]), trs_app (by simp), trs_rep]

/-- Rows beside rows. -/
theorem Nest.app {w : World} {lo hi : Nat} {A B : List Value} {la lb : List (List Int)} (h : Nest w lo hi A la) (k : Nest w lo hi B lb) (hd : ∀ u ∈ A, ∀ v ∈ B, ∀ q, u.ownBlock = some q → v.ownBlock ≠ some q) : Nest w lo hi (A ++ B) (la ++ lb) := by
  have part : ∀ {α : Type} {xs ys : List α} {i : Nat} {y : α}, (xs ++ ys)[i]? = some y → (i < xs.length ∧ xs[i]? = some y) ∨ (xs.length ≤ i ∧ ys[i - xs.length]? = some y) := by
    intro α xs ys i y hy
    rcases Nat.lt_or_ge i xs.length with q | q
    · rw [List.getElem?_append_left q] at hy; exact .inl ⟨q, hy⟩
    · rw [List.getElem?_append_right q] at hy; exact .inr ⟨q, hy⟩
  refine ⟨by simp [h.len, k.len], ?_, ?_, ?_⟩
  · intro i v l hv hl
    have e := h.len
    rcases part hv with ⟨q, a⟩ | ⟨q, a⟩
    · rcases part hl with ⟨q', b⟩ | ⟨q', b⟩
      · exact h.own i v l a b
      · omega
    · rcases part hl with ⟨q', b⟩ | ⟨q', b⟩
      · omega
      · rw [← e] at b; exact k.own _ v l a b
  · intro v hv
    rcases List.mem_append.1 hv with q | q
    · exact h.bl v q
    · exact k.bl v q
  · intro i j u v q hij hu hv hq
    rcases part hu with ⟨i1, a⟩ | ⟨i1, a⟩
    · rcases part hv with ⟨j1, b⟩ | ⟨j1, b⟩
      · exact h.ne i j u v q hij a b hq
      · exact hd u (List.mem_of_getElem? a) v (List.mem_of_getElem? b) q hq
    · rcases part hv with ⟨j1, b⟩ | ⟨j1, b⟩
      · exact fun hq' => hd v (List.mem_of_getElem? b) u (List.mem_of_getElem? a) q hq' hq
      · exact k.ne _ _ u v q (by omega) a b hq
theorem Nest.take {w : World} {lo hi : Nat} {A : List Value} {la : List (List Int)} (h : Nest w lo hi A la) (n : Nat) : Nest w lo hi (A.take n) (la.take n) := by
  have g : ∀ {α : Type} {xs : List α} {i : Nat} {y : α}, (xs.take n)[i]? = some y → xs[i]? = some y := by
    intro α xs i y hy
    rw [List.getElem?_take] at hy
    split at hy
    · exact hy
    · cases hy
  exact ⟨by simp [h.len], fun i v l a b => h.own i v l (g a) (g b), fun v hv => h.bl v (List.mem_of_mem_take hv), fun i j u v q hij a b => h.ne i j u v q hij (g a) (g b)⟩
theorem Nest.drop {w : World} {lo hi : Nat} {A : List Value} {la : List (List Int)} (h : Nest w lo hi A la) (n : Nat) : Nest w lo hi (A.drop n) (la.drop n) := by
  have g : ∀ {α : Type} {xs : List α} {i : Nat} {y : α}, (xs.drop n)[i]? = some y → xs[n + i]? = some y := by
    intro α xs i y hy
    rw [List.getElem?_drop] at hy; exact hy
  exact ⟨by simp [h.len], fun i v l a b => h.own _ v l (g a) (g b), fun v hv => h.bl v (List.mem_of_mem_drop hv), fun i j u v q hij a b => h.ne _ _ u v q (by omega) (g a) (g b)⟩
/-- Rows in two parts lie apart. -/
theorem Nest.parts {w : World} {lo hi : Nat} {A : List Value} {la : List (List Int)} (h : Nest w lo hi A la) (n m : Nat) (hnm : n ≤ m) : ∀ u ∈ A.take n, ∀ v ∈ A.drop m, ∀ q, u.ownBlock = some q → v.ownBlock ≠ some q := by
  intro u hu v hv q hq
  obtain ⟨i, hi⟩ := List.getElem?_of_mem hu
  obtain ⟨j, hj⟩ := List.getElem?_of_mem hv
  rw [List.getElem?_take] at hi
  split at hi
  · rw [List.getElem?_drop] at hj
    exact h.ne i (m + j) u v q (by omega) hi hj hq
  · cases hi
end Go.Proofs.YtbgngikejgihgagGreatDoor

namespace Go.Proofs.YtbgngikejgihgagGreatDoor
open Go Go.RowKit
set_option linter.unusedVariables false

set_option maxHeartbeats 2000000 in
set_option maxRecDepth 100000 in
theorem copyGap_some (zs : List Int) (lo g0 n cap : Nat) (xl xh : Int) (w : World) (h : w.ownsRow lo 21 1 (.slice (some ⟨g0, 0, none⟩) n cap) n (ints .i32 zs)) (hn : 0 < n) (hm : n ≤ 1048576) :
    Calls Tryz.prog 193 #[.agg #[.slice (some ⟨g0, 0, none⟩) n cap, .int .i64 xl, .int .i64 xh]] w fun e w' => ∃ g c, e = .returned (.agg #[.slice (some ⟨g, 0, none⟩) n c, .int .i64 xl, .int .i64 xh]) ∧ w'.ownsRow w.heap.size 21 1 (.slice (some ⟨g, 0, none⟩) n c) n (ints .i32 zs) ∧ Below w.heap.size w w' := by
  obtain ⟨i0, hi0, hz0, hz1, hz2⟩ := info_parts Tryz.infoG
  have hgl := (h.lt g0 rfl).2
  have A0 := hide (((Below.refl w.heap.size w).alloc (Nat.le_refl _) (.cells #[.slice (some ⟨g0, 0, none⟩) n cap, .int .i64 xl, .int .i64 xh] 152)).alloc (by simp) (.cells #[.slice none 0 0, .int .i64 0, .int .i64 0] 152))
  have QP := hide ((Q3.new w (.slice (some ⟨g0, 0, none⟩) n cap) (.int .i64 xl) (.int .i64 xh) 152).below ((Below.refl _ _).alloc (Nat.le_refl _) (.cells #[.slice none 0 0, .int .i64 0, .int .i64 0] 152)) (by simp))
  have QR := hide (Q3.new (w.alloc (.cells #[.slice (some ⟨g0, 0, none⟩) n cap, .int .i64 xl, .int .i64 xh] 152)) (.slice none 0 0) (.int .i64 0) (.int .i64 0) 152)
  have es : (w.alloc (.cells #[.slice (some ⟨g0, 0, none⟩) n cap, .int .i64 xl, .int .i64 xh] 152)).heap.size = w.heap.size + 1 := by simp
  rw [es] at QR
  have es2 : ((w.alloc (.cells #[.slice (some ⟨g0, 0, none⟩) n cap, .int .i64 xl, .int .i64 xh] 152)).alloc (.cells #[.slice none 0 0, .int .i64 0, .int .i64 0] 152)).heap.size = w.heap.size + 2 := by simp
  have O0 := hide (owns_below h A0.out (Nat.le_refl _))
  have LN := hide h.1
  clear h es
  go_enter Tryz.func193, Tryz.ntmps193
  go_upto_region 1 with fail
  generalize (w.alloc (.cells #[.slice (some ⟨g0, 0, none⟩) n cap, .int .i64 xl, .int .i64 xh] 152)).alloc (.cells #[.slice none 0 0, .int .i64 0, .int .i64 0] 152) = w0 at *
  obtain ⟨p0, p1, p2⟩ := QP.out.c
  have lp : w.heap.size < w0.heap.size := by omega
  have np : w.heap.size ≠ w0.heap.size := by omega
  have lp2 : w.heap.size + 1 < w0.heap.size := by omega
  have np2 : w.heap.size + 1 ≠ w0.heap.size := by omega
  clear es2
  go_region_law (refine step_append_lies _ rfl _ _ 36 rfl w0.heap.size 21 i0 (.int .i32 0) 1 4 Tryz.underlying36 hi0 hz0 hz1 hz2 rfl (by decide) _ 0 [] rfl (by exact own_newT w0 21) ⟨g0, 0, none⟩ n cap (ints .i32 zs) rfl LN.out (by exact (O0.out.alloc _).cells rfl) (ints_one _ _) (by omega) (by unfold maxLen; omega) (by omega) (by simp) (w0.heap.size + 1) (by simp) ?_; intro g5 cap5 x8 ho5 hg5 _ hgl5; have B8 : Below w0.heap.size w0 x8 := ((Below.refl w0.heap.size w0).alloc (Nat.le_refl _) (.cells #[] 21)).trans (Below.grown (Below.refl _ _) (⟨hg5.os, hg5.tape, hg5.output, hg5.size, hg5.block⟩) (by simp) (fun q hq => by have hq' : (Value.slice (some ⟨w0.heap.size, 0, none⟩) 0 0).ownBlock = some q := hq; simp only [Value.ownBlock, Option.some.injEq] at hq'; omega)); have P8 := hide (QP.out.below B8 (by omega)); have R8 := hide (QR.out.below B8 (by omega)); have t0 := P8.out.c.1; have t1 := P8.out.c.2.1; have t2 := P8.out.c.2.2; have u0 := R8.out.c.1; have u1 := R8.out.c.2.1; have u2 := R8.out.c.2.2; have f0 := R8.out.fz 0; have f1 := R8.out.fz 1; have f2 := R8.out.fz 2; have O8 := hide ho5; have BB8 := hide (A0.out.trans (B8.mono (by omega))); clear ho5 hg5 B8)
  all_goals
    go_wp2
    refine bodyPost_ret (v := .agg #[.slice (some ⟨g5, 0, none⟩) n cap5, .int .i64 xl, .int .i64 xh]) (by simp [results, Tryz.results193, go_sem, u0, u1, u2]) rfl ?_
    refine ⟨g5, cap5, rfl, ?_, ((BB8.out.setCell (by simp) _).setCell (by simp) _).setCell (by simp) _⟩
    have h9 := O8.out
    rw [Nat.zero_add, List.nil_append] at h9
    refine owns_base (owns_of_block h9 fun q hq => ?_) (by omega)
    have := (h9.lt q hq).1
    rw [heap_setCell_other _ _ _ _ (by show q ≠ w.heap.size + 1; omega), heap_setCell_other _ _ _ _ (by show q ≠ w.heap.size + 1; omega), heap_setCell_other _ _ _ _ (by show q ≠ w.heap.size + 1; omega)]
end Go.Proofs.YtbgngikejgihgagGreatDoor

namespace Go.Proofs.YtbgngikejgihgagGreatDoor
open Go Go.RowKit
set_option linter.unusedVariables false

set_option maxHeartbeats 2000000 in
set_option maxRecDepth 100000 in
theorem copyGap_zero (ao : Option Addr) (cap : Nat) (xl xh : Int) (w : World) (hao : ao = none ∧ cap = 0 ∨ ∃ g0, ao = some ⟨g0, 0, none⟩) :
    Calls Tryz.prog 193 #[.agg #[.slice ao 0 cap, .int .i64 xl, .int .i64 xh]] w fun e w' => ∃ g c, e = .returned (.agg #[.slice (some ⟨g, 0, none⟩) 0 c, .int .i64 xl, .int .i64 xh]) ∧ w'.ownsRow w.heap.size 21 1 (.slice (some ⟨g, 0, none⟩) 0 c) 0 (ints .i32 []) ∧ Below w.heap.size w w' := by
  obtain ⟨i0, hi0, hz0, hz1, hz2⟩ := info_parts Tryz.infoG
  have A0 := hide (((Below.refl w.heap.size w).alloc (Nat.le_refl _) (.cells #[.slice ao 0 cap, .int .i64 xl, .int .i64 xh] 152)).alloc (by simp) (.cells #[.slice none 0 0, .int .i64 0, .int .i64 0] 152))
  have QP := hide ((Q3.new w (.slice ao 0 cap) (.int .i64 xl) (.int .i64 xh) 152).below ((Below.refl _ _).alloc (Nat.le_refl _) (.cells #[.slice none 0 0, .int .i64 0, .int .i64 0] 152)) (by simp))
  have QR := hide (Q3.new (w.alloc (.cells #[.slice ao 0 cap, .int .i64 xl, .int .i64 xh] 152)) (.slice none 0 0) (.int .i64 0) (.int .i64 0) 152)
  have es : (w.alloc (.cells #[.slice ao 0 cap, .int .i64 xl, .int .i64 xh] 152)).heap.size = w.heap.size + 1 := by simp
  rw [es] at QR
  have es2 : ((w.alloc (.cells #[.slice ao 0 cap, .int .i64 xl, .int .i64 xh] 152)).alloc (.cells #[.slice none 0 0, .int .i64 0, .int .i64 0] 152)).heap.size = w.heap.size + 2 := by simp
  clear es
  go_enter Tryz.func193, Tryz.ntmps193
  go_upto_region 1 with fail
  generalize (w.alloc (.cells #[.slice ao 0 cap, .int .i64 xl, .int .i64 xh] 152)).alloc (.cells #[.slice none 0 0, .int .i64 0, .int .i64 0] 152) = w0 at *
  obtain ⟨p0, p1, p2⟩ := QP.out.c
  obtain ⟨r0, r1, r2⟩ := QR.out.c
  have f0 := QR.out.fz 0
  have f1 := QR.out.fz 1
  have f2 := QR.out.fz 2
  have lp : w.heap.size < w0.heap.size := by omega
  have np : w.heap.size ≠ w0.heap.size := by omega
  have lp2 : w.heap.size + 1 < w0.heap.size := by omega
  have np2 : w.heap.size + 1 ≠ w0.heap.size := by omega
  have O8 := hide (own_newT w0 21)
  have BB := hide (A0.out.alloc (by omega) (.cells #[] 21))
  clear es2
  rcases hao with ⟨rfl, rfl⟩ | ⟨g0, rfl⟩
  · go_region
    all_goals
      go_wp2
      refine bodyPost_ret (v := .agg #[.slice (some ⟨w0.heap.size, 0, none⟩) 0 0, .int .i64 xl, .int .i64 xh]) (by simp [results, Tryz.results193, go_sem, r0, r1, r2, lp2]) rfl ?_
      refine ⟨w0.heap.size, 0, rfl, ?_, ?_⟩
      · have h9 := own_newT (((w0.setCell ⟨w.heap.size + 1, 0, none⟩ (.slice (some ⟨w0.heap.size, 0, none⟩) 0 0)).setCell ⟨w.heap.size + 1, 1, none⟩ (.int .i64 xl)).setCell ⟨w.heap.size + 1, 2, none⟩ (.int .i64 xh)) 21
        have hz : (((w0.setCell ⟨w.heap.size + 1, 0, none⟩ (.slice (some ⟨w0.heap.size, 0, none⟩) 0 0)).setCell ⟨w.heap.size + 1, 1, none⟩ (.int .i64 xl)).setCell ⟨w.heap.size + 1, 2, none⟩ (.int .i64 xh)).heap.size = w0.heap.size := by simp
        rw [hz] at h9
        exact owns_base h9 (by omega)
      · have h9 := ((((A0.out.setCell (p := ⟨w.heap.size + 1, 0, none⟩) (by simp) (.slice (some ⟨w0.heap.size, 0, none⟩) 0 0)).setCell (p := ⟨w.heap.size + 1, 1, none⟩) (by simp) (.int .i64 xl)).setCell (p := ⟨w.heap.size + 1, 2, none⟩) (by simp) (.int .i64 xh)).alloc (by simp; omega) (.cells #[] 21))
        exact ⟨h9.os, h9.tape, h9.output, h9.size, h9.block⟩
  · go_region
    all_goals
      go_wp2
      refine bodyPost_ret (v := .agg #[.slice (some ⟨w0.heap.size, 0, none⟩) 0 0, .int .i64 xl, .int .i64 xh]) (by simp [results, Tryz.results193, go_sem, r0, r1, r2, lp2]) rfl ?_
      refine ⟨w0.heap.size, 0, rfl, ?_, ?_⟩
      · have h9 := own_newT (((w0.setCell ⟨w.heap.size + 1, 0, none⟩ (.slice (some ⟨w0.heap.size, 0, none⟩) 0 0)).setCell ⟨w.heap.size + 1, 1, none⟩ (.int .i64 xl)).setCell ⟨w.heap.size + 1, 2, none⟩ (.int .i64 xh)) 21
        have hz : (((w0.setCell ⟨w.heap.size + 1, 0, none⟩ (.slice (some ⟨w0.heap.size, 0, none⟩) 0 0)).setCell ⟨w.heap.size + 1, 1, none⟩ (.int .i64 xl)).setCell ⟨w.heap.size + 1, 2, none⟩ (.int .i64 xh)).heap.size = w0.heap.size := by simp
        rw [hz] at h9
        exact owns_base h9 (by omega)
      · have h9 := ((((A0.out.setCell (p := ⟨w.heap.size + 1, 0, none⟩) (by simp) (.slice (some ⟨w0.heap.size, 0, none⟩) 0 0)).setCell (p := ⟨w.heap.size + 1, 1, none⟩) (by simp) (.int .i64 xl)).setCell (p := ⟨w.heap.size + 1, 2, none⟩) (by simp) (.int .i64 xh)).alloc (by simp; omega) (.cells #[] 21))
        exact ⟨h9.os, h9.tape, h9.output, h9.size, h9.block⟩
end Go.Proofs.YtbgngikejgihgagGreatDoor

namespace Go.Proofs.YtbgngikejgihgagGreatDoor
open Go Go.RowKit
set_option linter.unusedVariables false

theorem copyGapS (zs : List Int) (lo : Nat) (v : Value) (xl xh : Int) (w : World) (h : o32 w lo v zs) (hm : zs.length ≤ 1048576) :
    Calls Tryz.prog 193 #[.agg #[v, .int .i64 xl, .int .i64 xh]] w fun e w' => ∃ g c, e = .returned (.agg #[.slice (some ⟨g, 0, none⟩) zs.length c, .int .i64 xl, .int .i64 xh]) ∧ o32 w' w.heap.size (.slice (some ⟨g, 0, none⟩) zs.length c) zs ∧ Below w.heap.size w w' := by
  by_cases h0 : zs.length = 0
  · have e0 : zs = [] := List.eq_nil_of_length_eq_zero h0
    subst e0
    have hv : ∃ ao cap, v = .slice ao 0 cap ∧ (ao = none ∧ cap = 0 ∨ ∃ g0, ao = some ⟨g0, 0, none⟩) := by
      rcases h.2 with ⟨q, _⟩ | ⟨g, cap, cur, q, _⟩
      · exact ⟨none, 0, q, .inl ⟨rfl, rfl⟩⟩
      · exact ⟨_, cap, q, .inr ⟨g, rfl⟩⟩
    obtain ⟨ao, cap, rfl, hao⟩ := hv
    exact copyGap_zero ao cap xl xh w hao
  · rcases h.2 with ⟨_, q⟩ | ⟨g, cap, cur, q, _⟩
    · exact absurd q h0
    subst q
    exact copyGap_some zs lo g zs.length cap xl xh w h (by omega) hm

theorem Nest.keptY {w w' : World} {lo hi B' e' size' n' : Nat} {v' : Value} {vs : List Value} {ls : List (List Int)} {xs' : List Value} (h : Nest w lo hi vs ls) (h' : w.ownsRow B' e' size' v' n' xs') (h2 : 21 ≠ e') (hg : w.grownBy w' v'.ownBlock) : Nest w' lo hi vs ls :=
  ⟨h.len, fun i u l hu hl => own_kept (h.own i u l hu hl) h' h2 hg, h.bl, h.ne⟩
theorem own_new3 (w : World) (e : TypeId) : (w.alloc (.cells #[] e)).ownsRow w.heap.size e 3 (.slice (some ⟨w.heap.size, 0, none⟩) 0 0) 0 [] := by
  have := World.ownsRow_made (base := w.heap.size) (e := e) (size := 3) w #[] 0 (by simp) (Nat.zero_le _) rfl
  simpa using this

set_option maxHeartbeats 2000000 in
set_option maxRecDepth 100000 in
theorem copyRowsS (gs : List Gr) (vs : List Value) (g0 cap n lo hi : Nat) (w : World) (h : OwG 152 w lo hi (.slice (some ⟨g0, 0, none⟩) n cap) vs gs) (hN : gs.length = n) (hh : hi ≤ w.heap.size) (hn : n ≤ 8193) (hs : ∀ x ∈ gs, x.cells.length ≤ 1048576) :
    Calls Tryz.prog 157 #[.slice (some ⟨g0, 0, none⟩) n cap] w fun e w' => ∃ v us, e = .returned v ∧ OwG 152 w' w.heap.size w'.heap.size v us gs ∧ Below w.heap.size w w' := by
  obtain ⟨i0, hi0, hz0, hz1, hz2⟩ := info_parts Tryz.infoGPT
  have A0 := hide ((Below.refl w.heap.size w).alloc (Nat.le_refl _) (.cells #[] 152))
  have E0 := hide (own_new3 w 152)
  have es : (w.alloc (.cells #[] 152)).heap.size = w.heap.size + 1 := by simp
  have F := hide (fun (w' : World) (hb : Below w.heap.size w w') => h.frame (w' := w') (fun q _ hq => hb.block q (by omega)))
  have GET := hide (fun (k : Nat) (hk : k < n) => h.get (i := k) (by rw [hN]; exact hk))
  have HS := hide (fun (i : Nat) (x : Gr) (hx : gs[i]? = some x) => hs x (List.mem_of_getElem? hx))
  have hcl : n ≤ cap ∧ cap ≤ maxLen := by
    have hr := h.row
    rw [hN] at hr
    rcases hr.2 with ⟨q, _⟩ | ⟨g', cap', cur, q, _, _, c1, c2, _⟩
    · cases q
    · simp only [Value.slice.injEq, Option.some.injEq, Addr.mk.injEq, and_true, true_and] at q
      obtain ⟨_, rfl⟩ := q
      exact ⟨c1, c2⟩
  obtain ⟨cc1, cc2⟩ := hcl
  unfold maxLen at cc2
  have HN := hide hN
  clear h hs hN
  go_enter Tryz.func157, Tryz.ntmps157
  go_wp2_with fail
  generalize w.alloc (.cells #[] 152) = w0 at *
  go_loopw [3, 9] (fun out i wr => ∃ (k : Nat) (us : List Value) (ao : Option Addr) (co : Nat), k ≤ n ∧ i = .int .i64 k ∧ out = .slice ao k co ∧ Below w.heap.size w wr ∧ wr.ownsRow w.heap.size 152 3 out k (grVs us (gs.take k)) ∧ Nest wr w.heap.size wr.heap.size us ((gs.take k).map Gr.cells))
    (fun _ i _ => n - (intOf i).toNat)
  case atStart => exact ⟨0, [], _, _, Nat.zero_le _, rfl, rfl, A0.out, by simpa [grVs] using E0.out, Nest.nil _ _ _⟩
  case round =>
    obtain ⟨k, us, ao, co, hk, rfl, rfl, hb, hown, hns⟩ := hrel
    have HB := hide hb
    have OW := hide hown
    have NS := hide hns
    have hsz := hb.size
    by_cases hlt : k < n
    · obtain ⟨x, u, hx, hu⟩ := GET.out k hlt
      have FR := F.out wr hb
      obtain ⟨y0, y1, y2⟩ := FR.cells HN.out hx hu
      obtain ⟨au, cu, hu'⟩ := o32_val (FR.inner hx hu)
      have hxs := HS.out k x hx
      have CG := hide (fun (W : World) (hW : Below w.heap.size w W) => copyGapS x.cells lo u x.lo x.hi W ((F.out W hW).inner hx hu) hxs)
      have TS := hide (show gs.take (k + 1) = gs.take k ++ [x] by rw [List.take_add_one, hx]; rfl)
      have ULN := hide (show us.length = (gs.take k).length by have := NS.out.len; simpa using this)
      generalize hxl : x.lo = xl at *
      generalize hxh : x.hi = xh at *
      generalize hxc : x.cells.length = xc at *
      have HXL := hide hxl
      have HXH := hide hxh
      have HXC := hide hxc
      have hlt' : (k : Int) < n := by omega
      subst hu'
      clear hb hown hns FR hx hu hxl hxh hxc
      have A4 := hide ((Below.refl wr.heap.size wr).alloc (Nat.le_refl _) (.cells #[.slice au xc cu, .int .i64 xl, .int .i64 xh] 152))
      have Q4 := hide (Q3.new wr (.slice au xc cu) (.int .i64 xl) (.int .i64 xh) 152)
      have z4 : (wr.alloc (.cells #[.slice au xc cu, .int .i64 xl, .int .i64 xh] 152)).heap.size = wr.heap.size + 1 := by simp
      have O4 := hide (owns_below OW.out A4.out (Nat.le_refl _))
      have B4 := hide (HB.out.trans (A4.out.mono hsz))
      have N4 := hide (NS.out.frame (w' := wr.alloc (.cells #[.slice au xc cu, .int .i64 xl, .int .i64 xh] 152)) (fun q _ hq => A4.out.block q hq))
      go_upto_region 5 with fail
      generalize wr.alloc (.cells #[.slice au xc cu, .int .i64 xl, .int .i64 xh] 152) = x4 at *
      obtain ⟨r0, r1, r2⟩ := Q4.out.c
      go_wp2_with fail
      refine (CG.out _ B4.out).mono ?_
      rintro e x5 ⟨g5, c5, rfl, ho5, hb5⟩
      have s5 := hb5.size
      have O5 := hide (owns_below O4.out hb5 (Nat.le_refl _))
      have B5 := hide (B4.out.trans (hb5.mono (by omega)))
      have N5 := hide ((N4.out.frame (w' := x5) (fun q _ hq => hb5.block q (by omega))).snoc (hi' := x5.heap.size) (owns_base ho5 (by omega)) (fun q hq => by have := (ho5.lt q hq).1; omega) (fun q hq => (ho5.lt q hq).2) (by omega))
      have NC := hide (newcells x5 152 [.slice (some ⟨g5, 0, none⟩) xc c5, .int .i64 xl, .int .i64 xh])
      clear ho5 hb5 N4 O4
      go_wp2_with (at_builtin; refine wpList_append_own _ rfl _ _ 27 rfl w.heap.size 152 i0 (.agg #[.slice none 0 0, .int .i64 0, .int .i64 0]) 3 40 Tryz.underlying27 hi0 hz0 hz1 hz2 rfl (by decide) _ _ _ rfl (O5.out.alloc _) ⟨x5.heap.size, 0, none⟩ 1 1 [.slice (some ⟨g5, 0, none⟩) xc c5, .int .i64 xl, .int .i64 xh] rfl rfl NC.out (by intro u hu; simp at hu; rcases hu with rfl | rfl | rfl <;> rfl) (by unfold maxLen; omega) (by omega) (by simp; omega) ?_; intro v6 x6 ho6 hg6 _)
      obtain ⟨a6, c6, hv6⟩ := own_valT ho6
      subst hv6
      have B6 := hide ((B5.out.alloc (by omega) (.cells #[.slice (some ⟨g5, 0, none⟩) xc c5, .int .i64 xl, .int .i64 xh] 152)).grown hg6 (by simp; omega) (fun q hq => (O5.out.lt q hq).1))
      have N6 := hide ((N5.out.frame (w' := x5.alloc (.cells #[.slice (some ⟨g5, 0, none⟩) xc c5, .int .i64 xl, .int .i64 xh] 152)) (fun q _ hq => ((Below.refl x5.heap.size x5).alloc (Nat.le_refl _) (.cells #[.slice (some ⟨g5, 0, none⟩) xc c5, .int .i64 xl, .int .i64 xh] 152)).block q hq)).keptY (O5.out.alloc (.cells #[.slice (some ⟨g5, 0, none⟩) xc c5, .int .i64 xl, .int .i64 xh] 152)) (by decide) hg6)
      have O6 := hide ho6
      have s6 : x5.heap.size + 1 ≤ x6.heap.size := by have := hg6.size; simp at this; omega
      clear ho6 hg6
      go_wp2
      go_roundw
      case rel =>
        refine ⟨k + 1, us ++ [.slice (some ⟨g5, 0, none⟩) xc c5], _, _, by omega, by go_num, rfl, B6.out, ?_, ?_⟩
        · rw [TS.out, grVs_app ULN.out]
          simpa [grVs, HXL.out, HXH.out] using O6.out
        · rw [TS.out, List.map_append]
          exact N6.out.mono (Nat.le_refl _) (by omega)
      case measure => simp [intOf]; omega
    · obtain rfl : k = n := by omega
      have hlt' : ¬ (k : Int) < k := by omega
      rw [List.take_of_length_le (by rw [HN.out]; exact Nat.le_refl _)] at OW NS
      clear hb hown hns
      go_wp2
      go_ret
      have FIN : OwG 152 wr w.heap.size wr.heap.size (.slice ao k co) us gs := ⟨by rw [HN.out]; exact OW.out, fun q hq => (OW.out.lt q hq).2, NS.out⟩
      first | exact ⟨_, us, rfl, FIN, HB.out⟩ | exact ⟨_, rfl, ⟨us, FIN⟩, HB.out⟩
end Go.Proofs.YtbgngikejgihgagGreatDoor
