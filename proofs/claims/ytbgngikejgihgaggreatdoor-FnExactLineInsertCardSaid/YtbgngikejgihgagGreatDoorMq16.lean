import Derived.Test.YtbgngikejgihgagGreatDoorMq15
import Derived.Test.YtbgngikejgihgagGreatDoorProg
import Derived.Test.YtbgngikejgihgagGreatDoorMq05
import Derived.WalkKit
import Derived.WalkLawsBesides
import Derived.Lib.AppendZeros
import Derived.Lib.Walk
import Derived.Lib.SliceRun
import Derived.Laws.AppendOwnNone
namespace Go.Proofs.YtbgngikejgihgagGreatDoor
open Go Go.RowKit
set_option linter.unusedVariables false

theorem own_notD' {w : World} {B e size n q L : Nat} {v : Value} {xs : List Value} {cs : Array Value} {t : TypeId} {fz : Nat × Nat} (h : w.ownsRow B e size v n xs) (hd : w.heap[L]? = some (.cells cs t fz)) (hne : e ≠ t) (hq : v.ownBlock = some q) : q ≠ L := by
  intro e1
  subst e1
  rcases h.2 with ⟨rfl, _⟩ | ⟨g, cap, cur, rfl, _, hgb, _⟩
  · simp [Value.ownBlock] at hq
  · simp only [Value.ownBlock, Option.some.injEq] at hq
    subst hq
    rw [hgb] at hd
    simp only [Option.some.injEq] at hd
    injection hd with _ h2 _
    exact hne h2
/-- The rows while they are put together, behind a place of their own. -/
structure MidB (w2 : World) (B : Nat) (wc : World) (us ws : List Value) (gs xs : List Gr) (k : Nat) (v : Value) : Prop where
  row : wc.ownsRow B 152 3 v (k + xs.length) (grVs (us.take k ++ ws) (gs.take k ++ xs))
  nest : Nest wc B wc.heap.size ws (xs.map Gr.cells)
  b : Below w2.heap.size w2 wc
  le : w2.heap.size ≤ B ∧ B ≤ wc.heap.size
theorem MidB.start {w2 X wc : World} {B : Nat} {us : List Value} {gs : List Gr} {k : Nat} {v0 v : Value} (hb : Below w2.heap.size w2 X) (hB : w2.heap.size ≤ B) (hBX : B ≤ X.heap.size) (ho0 : X.ownsRow B 152 3 v0 0 []) (hg : X.grownBy wc v0.ownBlock) (ho : wc.ownsRow B 152 3 v k (grVs (us.take k) (gs.take k))) : MidB w2 B wc us [] gs [] k v := by
  have s := hg.size
  refine ⟨?_, Nest.nil _ _ _, hb.grown hg hb.size (fun q hq => Nat.le_trans hB (ho0.lt q hq).1), hB, by omega⟩
  simpa using ho
theorem MidB.row0 {w2 wc : World} {B : Nat} {us : List Value} {gs : List Gr} {k : Nat} {v : Value} (h : MidB w2 B wc us [] gs [] k v) : wc.ownsRow B 152 3 v k (grVs (us.take k) (gs.take k)) := by simpa using h.row
/-- One row more. -/
theorem MidB.put {w2 wc X wd : World} {B : Nat} {us ws : List Value} {gs xs : List Gr} {k : Nat} {v v' u : Value} {x : Gr} (h : MidB w2 B wc us ws gs xs k v) (hl : us.length = gs.length) (hb : Below wc.heap.size wc X) (hu : o32 X wc.heap.size u x.cells) (hg : (X.alloc (.cells #[u, .int .i64 x.lo, .int .i64 x.hi] 152)).grownBy wd v.ownBlock)
    (ho : wd.ownsRow B 152 3 v' (k + xs.length + 1) (grVs (us.take k ++ ws) (gs.take k ++ xs) ++ [u, .int .i64 x.lo, .int .i64 x.hi])) : MidB w2 B wd us (ws ++ [u]) gs (xs ++ [x]) k v' := by
  have s1 := h.b.size
  have s2 := hb.size
  have s3 := hg.size
  have le := h.le
  rw [World.size_alloc] at s3
  have A := (Below.refl X.heap.size X).alloc (Nat.le_refl _) (.cells #[u, .int .i64 x.lo, .int .i64 x.hi] 152)
  have hrow : (X.alloc (.cells #[u, .int .i64 x.lo, .int .i64 x.hi] 152)).ownsRow B 152 3 v (k + xs.length) (grVs (us.take k ++ ws) (gs.take k ++ xs)) := owns_below (owns_below h.row hb (Nat.le_refl _)) A (Nat.le_refl _)
  have N1 : Nest X B X.heap.size (ws ++ [u]) ((xs ++ [x]).map Gr.cells) := by
    rw [List.map_append]
    exact (h.nest.frame (w' := X) (fun q _ hq => hb.block q hq)).snoc (hi' := X.heap.size) (owns_base hu (by omega)) (fun q hq => (hu.lt q hq).1) (fun q hq => (hu.lt q hq).2) s2
  have N2 := (N1.frame (w' := X.alloc (.cells #[u, .int .i64 x.lo, .int .i64 x.hi] 152)) (fun q _ hq => A.block q hq)).keptY hrow (by decide) hg
  refine ⟨?_, N2.mono (Nat.le_refl _) (by omega), ?_, le.1, by omega⟩
  · have hln := h.nest.len
    rw [List.length_map] at hln
    have e1 : grVs (us.take k ++ (ws ++ [u])) (gs.take k ++ (xs ++ [x])) = grVs (us.take k ++ ws) (gs.take k ++ xs) ++ [u, .int .i64 x.lo, .int .i64 x.hi] := by
      rw [← List.append_assoc, ← List.append_assoc, grVs_app (by simp [hl, hln])]
      rfl
    rw [e1, List.length_append]
    exact ho
  · have hB := (h.b.trans (hb.mono s1)).trans (A.mono (by omega))
    exact hB.grown hg (by rw [World.size_alloc]; omega) (fun q hq => Nat.le_trans le.1 (hrow.lt q hq).1)
theorem MidB.put0 {w2 wc X wd : World} {B : Nat} {us : List Value} {gs : List Gr} {k : Nat} {v v' u : Value} {x : Gr} (h : MidB w2 B wc us [] gs [] k v) (hl : us.length = gs.length) (hb : Below wc.heap.size wc X) (hu : o32 X wc.heap.size u x.cells) (hg : (X.alloc (.cells #[u, .int .i64 x.lo, .int .i64 x.hi] 152)).grownBy wd v.ownBlock)
    (ho : wd.ownsRow B 152 3 v' (k + 1) (grVs (us.take k) (gs.take k) ++ [u, .int .i64 x.lo, .int .i64 x.hi])) : MidB w2 B wd us [u] gs [x] k v' :=
  h.put hl hb hu hg (by simpa using ho)
/-- The rest of the rows. -/
theorem MidB.fin {w2 wc wd : World} {B lo j k n : Nat} {v0 v v' : Value} {us ws : List Value} {gs xs : List Gr} (h : MidB w2 B wc us ws gs xs k v) (G : OwG 152 w2 lo w2.heap.size v0 us gs) (hn : gs.length = n) (hlo : lo ≤ w2.heap.size) (hkj : k ≤ j) (hj : j ≤ n) (hg : wc.grownBy wd v.ownBlock)
    (ho : wd.ownsRow B 152 3 v' (k + xs.length + (n - j)) (grVs (us.take k ++ ws) (gs.take k ++ xs) ++ grVs (us.drop j) (gs.drop j))) : OwG 152 wd lo wd.heap.size v' (us.take k ++ ws ++ us.drop j) (gs.take k ++ xs ++ gs.drop j) ∧ Below w2.heap.size w2 wd := by
  have s1 := h.b.size
  have s3 := hg.size
  have le := h.le
  have hl := G.len
  have hln := h.nest.len
  rw [List.length_map] at hln
  have hb2 : Below w2.heap.size w2 wd := h.b.grown hg s1 (fun q hq => Nat.le_trans le.1 (h.row.lt q hq).1)
  refine ⟨fin_rows G hb2 hlo hkj (owns_base ?_ le.1) ((h.nest.keptY h.row (by decide) hg).mono le.1 s3), hb2⟩
  rw [grVs_app (by simp [hl, hln])]
  rw [show (gs.take k ++ xs ++ gs.drop j).length = k + xs.length + (n - j) by simp [hn]; omega]
  exact ho
/-- A row of runes below the place grows, and a cell of another kind is written. -/
theorem MidB.other {w2 wc wd we : World} {B : Nat} {us ws : List Value} {gs xs : List Gr} {k n base : Nat} {v vp : Value} {zs : List Value} (h : MidB w2 B wc us ws gs xs k v) (hp : wc.ownsRow base 21 1 vp n zs) (hpb : w2.heap.size ≤ base) (hpl : ∀ q, vp.ownBlock = some q → q < B) (hg : wc.grownBy wd vp.ownBlock)
    {gl : Nat} {cs : Array Value} {fz : Nat × Nat} (hd : wd.heap[gl]? = some (.cells cs 36 fz)) (hgl : w2.heap.size ≤ gl) (hs : we.heap.size = wd.heap.size) (hf : ∀ q, q ≠ gl → we.heap[q]? = wd.heap[q]?) (hbe : Below w2.heap.size wd we) : MidB w2 B we us ws gs xs k v := by
  have s1 := h.b.size
  have s3 := hg.size
  have le := h.le
  have r1 : wd.ownsRow B 152 3 v (k + xs.length) (grVs (us.take k ++ ws) (gs.take k ++ xs)) := own_kept h.row hp (by decide) hg
  have n1 : Nest wd B wc.heap.size ws (xs.map Gr.cells) := ⟨h.nest.len, fun i u l hu hl => owns_of_block (h.nest.own i u l hu hl) (fun q hq => hg.block q ((h.nest.own i u l hu hl).lt q hq).2 (fun e => by
    have h1 := ((h.nest.own i u l hu hl).lt q hq).1
    have h2 := hpl q e.symm
    omega)), h.nest.bl, h.nest.ne⟩
  refine ⟨owns_of_block r1 (fun q hq => hf q (own_notD' r1 hd (by decide) hq)), ?_, (h.b.grown hg s1 (fun q hq => Nat.le_trans hpb (hp.lt q hq).1)).trans hbe, le.1, by omega⟩
  refine Nest.mono (hi := wc.heap.size) ⟨n1.len, fun i u l hu hl => owns_of_block (n1.own i u l hu hl) (fun q hq => hf q (own_notD' (n1.own i u l hu hl) hd (by decide) hq)), n1.bl, n1.ne⟩ (Nat.le_refl _) (by omega)

theorem addr_addJ (g p j : Nat) : (⟨g, p, none⟩ : Addr).add j = ⟨g, p + j, none⟩ := by
  unfold Addr.add
  split
  · rename_i h; subst h; rfl
  · rfl
theorem MidB.drew {w2 wc : World} {B : Nat} {us ws : List Value} {gs xs : List Gr} {k : Nat} {v : Value} (h : MidB w2 B wc us ws gs xs k v) : MidB w2 B wc.drew us ws gs xs k v :=
  ⟨owns_of_block h.row (fun _ _ => rfl), h.nest.frame (fun _ _ _ => rfl), ⟨h.b.os, h.b.tape, h.b.output, h.b.size, h.b.block⟩, h.le⟩
/-- The last part has got its tail. -/
theorem last_fin {x2 x4 W x8 : World} {us ws : List Value} {gs ys : List Gr} {q gl cl n k ga n' c' g5 nn c5 : Nat} {v : Value} {vals : List Value} {l z : List Int} (hM : MidB x2 x4.heap.size W us ws gs ys q v) (hPV : W.ownsRow x2.heap.size 36 1 (.slice (some ⟨gl, 0, none⟩) n cl) n vals) (hk : k < n) (hrow : W.ownsRow x2.heap.size 21 1 (.slice (some ⟨ga, 0, none⟩) n' c') n' (ints .i32 l)) (hga : ga < x4.heap.size) (hg : W.grownBy x8 (some ga)) (ho : x8.ownsRow x2.heap.size 21 1 (.slice (some ⟨g5, 0, none⟩) nn c5) nn (ints .i32 z)) (hz : z.length = nn) :
    (x8.setCell ⟨gl, k, none⟩ (.slice (some ⟨g5, 0, none⟩) nn c5)).cell? ⟨gl, k, none⟩ = some (.slice (some ⟨g5, 0, none⟩) nn c5) ∧ o32 (x8.setCell ⟨gl, k, none⟩ (.slice (some ⟨g5, 0, none⟩) nn c5)) x2.heap.size (.slice (some ⟨g5, 0, none⟩) nn c5) z ∧ MidB x2 x4.heap.size (x8.setCell ⟨gl, k, none⟩ (.slice (some ⟨g5, 0, none⟩) nn c5)) us ws gs ys q v := by
  have P8 : x8.ownsRow x2.heap.size 36 1 (.slice (some ⟨gl, 0, none⟩) n cl) n vals := own_kept hPV hrow (by decide) hg
  have hgl0 := (hPV.lt gl rfl).1
  have hblk : ∃ cs fz, x8.heap[gl]? = some (.cells cs 36 fz) := by
    rcases P8.2 with ⟨e, _⟩ | ⟨g', cap', cur, e, _, hb, _⟩
    · cases e
    · simp only [Value.slice.injEq, Option.some.injEq, Addr.mk.injEq, and_true, true_and] at e
      obtain ⟨rfl, _⟩ := e
      exact ⟨_, _, hb⟩
  obtain ⟨cs, fz, hb⟩ := hblk
  have hc := P8.cellAt k (by omega)
  have hvl : vals.length = n := by have := hPV.1; omega
  have hf : ∀ q, q ≠ gl → (x8.setCell ⟨gl, k, none⟩ (.slice (some ⟨g5, 0, none⟩) nn c5)).heap[q]? = x8.heap[q]? := fun q hq => Go.heap_setCell_other _ _ _ _ (by show q ≠ gl; exact hq)
  refine ⟨World.cell?_setCell_same _ _ _ (u := vals[k]) (by rw [hc]; simp [hvl, hk]), ?_, ?_⟩
  · unfold o32
    rw [hz]
    exact owns_of_block ho (fun q hq => hf q (own_notD' ho hb (by decide) hq))
  · exact hM.other hrow (Nat.le_refl _) (fun q hq => by simp only [Value.ownBlock, Option.some.injEq] at hq; omega) hg hb hgl0 (by simp) hf ((Below.refl _ _).setCell hgl0 _)
/-- What the parts stand on. -/
structure PS (x4 wc : World) (gw lx cw : Nat) (tx : List Int) : Prop where
  b : Below x4.heap.size x4 wc
  wh : wc.ownsRow x4.heap.size 21 1 (.slice (some ⟨gw, 0, none⟩) lx cw) lx (ints .i32 tx)
theorem PS.below {x4 wc X : World} {gw lx cw : Nat} {tx : List Int} (h : PS x4 wc gw lx cw tx) (hb : Below wc.heap.size wc X) : PS x4 X gw lx cw tx :=
  ⟨h.b.trans (hb.mono h.b.size), owns_below h.wh hb (Nat.le_refl _)⟩
theorem PS.grow {x4 X wd : World} {gw lx cw n : Nat} {tx : List Int} {o : Obj} {v : Value} {xs : List Value} (h : PS x4 X gw lx cw tx) (hr : (X.alloc o).ownsRow x4.heap.size 152 3 v n xs) (hg : (X.alloc o).grownBy wd v.ownBlock) : PS x4 wd gw lx cw tx := by
  have s := h.b.size
  have A := (Below.refl X.heap.size X).alloc (Nat.le_refl _) o
  have hb : Below x4.heap.size x4 (X.alloc o) := h.b.trans (A.mono s)
  exact ⟨hb.grown hg hb.size (fun q hq => (hr.lt q hq).1), own_kept (owns_below h.wh A (Nat.le_refl _)) hr (by decide) hg⟩
end Go.Proofs.YtbgngikejgihgagGreatDoor

namespace Go.Proofs.YtbgngikejgihgagGreatDoor
open Go Go.RowKit
set_option linter.unusedVariables false


set_option maxHeartbeats 1000000 in
set_option maxRecDepth 100000 in
theorem growNil (n : Nat) (w : World) (hn : n ≤ 1099511627776) :
    Calls Tryz.prog 217 #[.slice none 0 0, .int .i64 n] w fun e w' => ∃ v', e = .returned v' ∧ w'.ownsRow w.heap.size 21 1 v' 0 [] ∧ Below w.heap.size w w' := by
  obtain ⟨i0, hi, hz0, hz1, hz2⟩ := info_parts Tryz.infoG
  by_cases h0 : n = 0
  · subst h0
    go_enter Tryz.func217, Tryz.ntmps217
    go_wp2
    go_ret
    exact ⟨_, rfl, World.ownsRow_nil _ _ _ _, Below.refl _ _⟩
  · have hrz := fun ty => Lib.run_append_nil_zeros (P := Tryz.prog) w 36 3 ty 21 i0 (.int .i32 0) .i64 .i64 Tryz.underlying36 Tryz.underlying3 hi hz0 n (by omega) (by omega) (by omega) (by rw [hz2]; omega)
    have hG1 : n ≤ grownCap w n 0 21 := grownCap_ge w _ _ _
    have hG2 : grownCap w n 0 21 ≤ maxLen := grownCap_le_maxLen w n 0 21 (by unfold maxLen; omega)
    have hsz : (Builtin.zeroCells (Value.int .i32 0).cells n ++ Builtin.zeroCells (Value.int .i32 0).cells (grownCap w n 0 21 - n)).size = grownCap w n 0 21 := by
      have e : (Value.int .i32 0).cells = #[Value.int .i32 0] := rfl
      rw [e]
      simp [Builtin.zeroCells]
      omega
    generalize grownCap w n 0 21 = G at *
    generalize Builtin.zeroCells (Value.int .i32 0).cells n ++ Builtin.zeroCells (Value.int .i32 0).cells (G - n) = cs at *
    have HSZ := hide hsz
    have HG2 := hide hG2
    unfold maxLen at hG2
    have hp : (0 : Int) < (n : Int) := by omega
    clear hsz
    go_enter Tryz.func217, Tryz.ntmps217
    go_wp2_with (at_builtin; refine Lib.wpList_append_run _ rfl _ _ _ _ rfl _ _ rfl rfl _ _ (hrz _) ?_)
    go_ret
    refine ⟨_, rfl, ?_, ?_⟩
    · refine ⟨by simp, .inr ⟨w.heap.size, G, cs, rfl, Nat.le_refl _, ?_, Nat.zero_le _, HG2.out, by rw [HSZ.out, Nat.mul_one], by simp⟩⟩
      exact heap_alloc_new _ _
    · exact ((Below.refl w.heap.size w).drew).alloc (Nat.le_refl _) _
end Go.Proofs.YtbgngikejgihgagGreatDoor

namespace Go.Proofs.YtbgngikejgihgagGreatDoor
open Go Go.RowKit
set_option linter.unusedVariables false

set_option maxHeartbeats 2000000 in
set_option maxRecDepth 100000 in
theorem concat (xs ys : List Int) (vs vt : Value) (B : Nat) (w : World) (hS : Sl .i32 w vs xs) (hT : Sl .i32 w vt ys) (hB : B < w.heap.size) (k0 : w.cell? ⟨B, 0, none⟩ = some vs) (k1 : w.cell? ⟨B, 1, none⟩ = some vt) (hx : xs.length ≤ 1048576) (hy : ys.length ≤ 1048576) :
    Calls Tryz.prog 189 #[.slice (some ⟨B, 0, none⟩) 2 2] w fun e w' => ∃ v', e = .returned v' ∧ w'.ownsRow w.heap.size 21 1 v' (xs ++ ys).length (ints .i32 (xs ++ ys)) ∧ Below w.heap.size w w' := by
  obtain ⟨i0, hi, hz0, hz1, hz2⟩ := info_parts Tryz.infoG
  have HS := hide hS
  have HT := hide hT
  rcases hS with ⟨rfl, rfl⟩ | ⟨b, off, cap, rfl, _, _⟩
  · rcases hT with ⟨rfl, rfl⟩ | ⟨b2, off2, cap2, rfl, _, _⟩
    · skip
      go_enter Tryz.func189, Tryz.ntmps189
      go_wp2
      refine wp_loop_rounds 3 ?_
      rw [rounds_succ]
      go_wp2
      rw [rounds_succ]
      go_wp2
      rw [rounds_succ]
      go_wp2_with fail
      refine (growNil 0 _ (by omega)).mono ?_
      rintro e w1 ⟨v1, rfl, ho, hb⟩
      have HO1 := hide ho
      have HB1 := hide hb
      have hs1 := hb.size
      have e0 := (hb.cell (p := ⟨B, 0, none⟩) hB).trans k0
      have e1 := (hb.cell (p := ⟨B, 1, none⟩) hB).trans k1
      clear ho hb
      go_wp2_with fail
      refine wp_loop_rounds 3 ?_
      rw [rounds_succ]
      go_wp2_with (at_builtin; refine wpList_append_own_none rfl _ _ 36 rfl w.heap.size 21 i0 1 Tryz.underlying36 hi _ _ _ rfl HO1.out rfl ?_)
      rw [rounds_succ]
      go_wp2_with (at_builtin; refine wpList_append_own_none rfl _ _ 36 rfl w.heap.size 21 i0 1 Tryz.underlying36 hi _ _ _ rfl HO1.out rfl ?_)
      rw [rounds_succ]
      go_wp2
      go_ret
      exact ⟨_, rfl, by simpa [ints, Nat.add_assoc] using HO1.out, HB1.out⟩
    · skip
      go_enter Tryz.func189, Tryz.ntmps189
      go_wp2
      refine wp_loop_rounds 3 ?_
      rw [rounds_succ]
      go_wp2
      rw [rounds_succ]
      go_wp2
      rw [rounds_succ]
      go_wp2_with fail
      refine (growNil ys.length _ (by omega)).mono ?_
      rintro e w1 ⟨v1, rfl, ho, hb⟩
      have HO1 := hide ho
      have HB1 := hide hb
      have hs1 := hb.size
      have e0 := (hb.cell (p := ⟨B, 0, none⟩) hB).trans k0
      have e1 := (hb.cell (p := ⟨B, 1, none⟩) hB).trans k1
      clear ho hb
      go_wp2_with fail
      refine wp_loop_rounds 3 ?_
      rw [rounds_succ]
      go_wp2_with (at_builtin; refine wpList_append_own_none rfl _ _ 36 rfl w.heap.size 21 i0 1 Tryz.underlying36 hi _ _ _ rfl HO1.out rfl ?_)
      rw [rounds_succ]
      have HC3 := hide (HT.out.below HB1.out |>.rd rfl)
      go_wp2_with (at_builtin; refine wpList_append_own _ rfl _ _ 36 rfl w.heap.size 21 i0 (.int .i32 0) 1 4 Tryz.underlying36 hi hz0 hz1 hz2 rfl (by decide) _ _ _ rfl HO1.out ⟨b2, off2, none⟩ ys.length cap2 (ints .i32 ys) rfl (by rw [ints_length, Nat.mul_one]) HC3.out (ints_one _ _) (by unfold maxLen; omega) (by omega) hs1 ?_; intro v3 w3 ho3 hg3 _)
      have HO3 := hide ho3
      have HB3 := hide (HB1.out.grown hg3 hs1 (fun q hq => (HO1.out.lt q hq).1))
      have hs3 := HB3.out.size
      have f03 := (HB3.out.cell (p := ⟨B, 0, none⟩) hB).trans k0
      have f13 := (HB3.out.cell (p := ⟨B, 1, none⟩) hB).trans k1
      clear ho3 hg3
      go_wp2
      rw [rounds_succ]
      go_wp2
      go_ret
      exact ⟨_, rfl, by simpa [ints, Nat.add_assoc] using HO3.out, HB3.out⟩
  · rcases hT with ⟨rfl, rfl⟩ | ⟨b2, off2, cap2, rfl, _, _⟩
    · skip
      go_enter Tryz.func189, Tryz.ntmps189
      go_wp2
      refine wp_loop_rounds 3 ?_
      rw [rounds_succ]
      go_wp2
      rw [rounds_succ]
      go_wp2
      rw [rounds_succ]
      go_wp2_with fail
      refine (growNil xs.length _ (by omega)).mono ?_
      rintro e w1 ⟨v1, rfl, ho, hb⟩
      have HO1 := hide ho
      have HB1 := hide hb
      have hs1 := hb.size
      have e0 := (hb.cell (p := ⟨B, 0, none⟩) hB).trans k0
      have e1 := (hb.cell (p := ⟨B, 1, none⟩) hB).trans k1
      clear ho hb
      go_wp2_with fail
      refine wp_loop_rounds 3 ?_
      rw [rounds_succ]
      have HC2 := hide (HS.out.below HB1.out |>.rd rfl)
      go_wp2_with (at_builtin; refine wpList_append_own _ rfl _ _ 36 rfl w.heap.size 21 i0 (.int .i32 0) 1 4 Tryz.underlying36 hi hz0 hz1 hz2 rfl (by decide) _ _ _ rfl HO1.out ⟨b, off, none⟩ xs.length cap (ints .i32 xs) rfl (by rw [ints_length, Nat.mul_one]) HC2.out (ints_one _ _) (by unfold maxLen; omega) (by omega) hs1 ?_; intro v2 w2 ho2 hg2 _)
      have HO2 := hide ho2
      have HB2 := hide (HB1.out.grown hg2 hs1 (fun q hq => (HO1.out.lt q hq).1))
      have hs2 := HB2.out.size
      have f02 := (HB2.out.cell (p := ⟨B, 0, none⟩) hB).trans k0
      have f12 := (HB2.out.cell (p := ⟨B, 1, none⟩) hB).trans k1
      clear ho2 hg2
      go_wp2
      rw [rounds_succ]
      go_wp2_with (at_builtin; refine wpList_append_own_none rfl _ _ 36 rfl w.heap.size 21 i0 1 Tryz.underlying36 hi _ _ _ rfl HO2.out rfl ?_)
      rw [rounds_succ]
      go_wp2
      go_ret
      exact ⟨_, rfl, by simpa [ints, Nat.add_assoc] using HO2.out, HB2.out⟩
    · skip
      go_enter Tryz.func189, Tryz.ntmps189
      go_wp2
      refine wp_loop_rounds 3 ?_
      rw [rounds_succ]
      go_wp2
      rw [rounds_succ]
      go_wp2
      rw [rounds_succ]
      go_wp2_with fail
      rw [show (xs.length : Int) + (ys.length : Int) = ((xs.length + ys.length : Nat) : Int) by omega]
      refine (growNil (xs.length + ys.length) _ (by omega)).mono ?_
      rintro e w1 ⟨v1, rfl, ho, hb⟩
      have HO1 := hide ho
      have HB1 := hide hb
      have hs1 := hb.size
      have e0 := (hb.cell (p := ⟨B, 0, none⟩) hB).trans k0
      have e1 := (hb.cell (p := ⟨B, 1, none⟩) hB).trans k1
      clear ho hb
      go_wp2_with fail
      refine wp_loop_rounds 3 ?_
      rw [rounds_succ]
      have HC2 := hide (HS.out.below HB1.out |>.rd rfl)
      go_wp2_with (at_builtin; refine wpList_append_own _ rfl _ _ 36 rfl w.heap.size 21 i0 (.int .i32 0) 1 4 Tryz.underlying36 hi hz0 hz1 hz2 rfl (by decide) _ _ _ rfl HO1.out ⟨b, off, none⟩ xs.length cap (ints .i32 xs) rfl (by rw [ints_length, Nat.mul_one]) HC2.out (ints_one _ _) (by unfold maxLen; omega) (by omega) hs1 ?_; intro v2 w2 ho2 hg2 _)
      have HO2 := hide ho2
      have HB2 := hide (HB1.out.grown hg2 hs1 (fun q hq => (HO1.out.lt q hq).1))
      have hs2 := HB2.out.size
      have f02 := (HB2.out.cell (p := ⟨B, 0, none⟩) hB).trans k0
      have f12 := (HB2.out.cell (p := ⟨B, 1, none⟩) hB).trans k1
      clear ho2 hg2
      go_wp2
      rw [rounds_succ]
      have HC3 := hide (HT.out.below HB2.out |>.rd rfl)
      go_wp2_with (at_builtin; refine wpList_append_own _ rfl _ _ 36 rfl w.heap.size 21 i0 (.int .i32 0) 1 4 Tryz.underlying36 hi hz0 hz1 hz2 rfl (by decide) _ _ _ rfl HO2.out ⟨b2, off2, none⟩ ys.length cap2 (ints .i32 ys) rfl (by rw [ints_length, Nat.mul_one]) HC3.out (ints_one _ _) (by unfold maxLen; omega) (by omega) hs2 ?_; intro v3 w3 ho3 hg3 _)
      have HO3 := hide ho3
      have HB3 := hide (HB2.out.grown hg3 hs2 (fun q hq => (HO2.out.lt q hq).1))
      have hs3 := HB3.out.size
      have f03 := (HB3.out.cell (p := ⟨B, 0, none⟩) hB).trans k0
      have f13 := (HB3.out.cell (p := ⟨B, 1, none⟩) hB).trans k1
      clear ho3 hg3
      go_wp2
      rw [rounds_succ]
      go_wp2
      go_ret
      exact ⟨_, rfl, by simpa [ints, Nat.add_assoc] using HO3.out, HB3.out⟩
end Go.Proofs.YtbgngikejgihgagGreatDoor
