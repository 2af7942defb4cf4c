import Derived.Test.YtbgngikejgihgagGreatDoorMq17
import Derived.Laws.AppendOwnNone
import Derived.Test.YtbgngikejgihgagGreatDoorMq11
import Derived.Test.YtbgngikejgihgagGreatDoorMq20
import Derived.Deep.RegionWith
import Derived.Deep.Cut
import Derived.Deep.CutRange
import Derived.Deep.CutBlock
import Derived.Deep.DeepCutAuto
import Derived.Test.YtbgngikejgihgagGreatDoorMq10
import Derived.Test.YtbgngikejgihgagGreatDoorMq04
namespace Go.Proofs.YtbgngikejgihgagGreatDoor
open Go Go.RowKit
set_option linter.unusedVariables false

set_option maxHeartbeats 1000000 in
set_option maxRecDepth 100000 in
/-- l2Copy of no list. -/
theorem copyS0 (w : World) : Calls Tryz.prog 129 #[.slice none 0 0] w fun e w' => ∃ g cp, e = .returned (.slice (some ⟨g, 0, none⟩) 0 cp) ∧ OwI w' w.heap.size (.slice (some ⟨g, 0, none⟩) 0 cp) [] ∧ Below w.heap.size w w' := by
  obtain ⟨i0, hi, hz0, hz1, hz2⟩ := info_parts Tryz.infoIT
  have O0 := hide (show (w.alloc (.cells #[] 145)).ownsRow w.heap.size 145 4 (.slice (some ⟨w.heap.size, 0, none⟩) 0 0) 0 [] from ⟨rfl, .inr ⟨_, 0, #[], rfl, Nat.le_refl _, heap_alloc_new _ _, Nat.le_refl _, by unfold maxLen; omega, rfl, rfl⟩⟩)
  have B0 := hide ((Below.refl w.heap.size w).alloc (Nat.le_refl _) (.cells #[] 145))
  go_enter Tryz.func129, Tryz.ntmps129
  go_wp2_with (at_builtin; refine wpList_append_own_none rfl _ _ 65 rfl w.heap.size 145 i0 4 Tryz.underlying65 hi _ _ _ rfl O0.out rfl ?_)
  go_ret
  exact ⟨_, _, rfl, O0.out, B0.out⟩
/-- l2Copy of an owned list, nil or not. -/
theorem copyA (ys : List It) (v : Value) (base : Nat) (w : World) (h : OwI w base v ys) (hn : ys.length ≤ 1048576) :
    Calls Tryz.prog 129 #[v] w fun e w' => ∃ g cp, e = .returned (.slice (some ⟨g, 0, none⟩) ys.length cp) ∧ OwI w' w.heap.size (.slice (some ⟨g, 0, none⟩) ys.length cp) ys ∧ Below w.heap.size w w' := by
  rcases h.shape with ⟨rfl, rfl⟩ | ⟨g, cap, rfl, _, _, _, hg⟩
  · exact copyS0 w
  · exact copyS ys g 0 cap w (fun j u hj => h.cells j u hj) hg hn
end Go.Proofs.YtbgngikejgihgagGreatDoor

namespace Go.Proofs.YtbgngikejgihgagGreatDoor
open Go Go.RowKit
set_option linter.unusedVariables false

end Go.Proofs.YtbgngikejgihgagGreatDoor

namespace Go.Proofs.YtbgngikejgihgagGreatDoor
open Go Go.RowKit
set_option linter.unusedVariables false

theorem Chg.heap {bs : List Nat} {a b c : World} (h : Chg bs a b) (e1 : c.os = b.os) (e2 : c.tape = b.tape) (e3 : c.output = b.output) (e4 : c.heap = b.heap) : Chg bs a c := h.drawn e1 e2 e3 e4
theorem Lies.heap {w w' : World} {base : Nat} {T : AT} {u : Option Addr} {bs : List Nat} (h : Lies w base T u bs) (e : w'.heap = w.heap) : Lies w' base T u bs := h.frame (fun _ _ => by rw [e])

theorem MutPost.drawn {base : Nat} {T : AT} {bs : List Nat} {W w : World} {e : Ending} {w' : World} (h : MutPost base T bs W e w') (e1 : W.os = w.os) (e2 : W.tape = w.tape) (e3 : W.output = w.output) (e4 : W.heap = w.heap) : MutPost base T bs w e w' := by
  obtain ⟨u', bs', h1, h2, h3, h4, h5⟩ := h
  exact ⟨u', bs', h1, h2, h3, by rw [← e4]; exact h4, h5.os.trans e1, h5.tape.trans e2, h5.output.trans e3, by rw [← e4]; exact h5.size, by rw [← e4]; exact h5.block⟩

end Go.Proofs.YtbgngikejgihgagGreatDoor

namespace Go.Proofs.YtbgngikejgihgagGreatDoor
open Go Go.RowKit
set_option linter.unusedVariables false

end Go.Proofs.YtbgngikejgihgagGreatDoor

namespace Go.Proofs.YtbgngikejgihgagGreatDoor
open Go Go.RowKit
set_option linter.unusedVariables false

end Go.Proofs.YtbgngikejgihgagGreatDoor

namespace Go.Proofs.YtbgngikejgihgagGreatDoor
open Go Go.RowKit
set_option linter.unusedVariables false

/-- What the reader may be given. -/
def Fine (xs : List It) : Prop := (∀ x ∈ xs, pcOk x.pc = true ∧ 0 ≤ x.lv ∧ x.lv ≤ 8191) ∧ total xs ≤ 8192

theorem Fine.len {xs : List It} (h : Fine xs) : (xs.length : Int) ≤ total xs := total_len xs (List.all_eq_true.2 fun x hx => (h.1 x hx).1)
theorem Fine.right {a b : List It} (h : Fine (a ++ b)) : Fine b := by
  have ha := total_len a (List.all_eq_true.2 fun x hx => (h.1 x (by simp [hx])).1)
  refine ⟨fun x hx => h.1 x (by simp [hx]), ?_⟩
  have := h.2; rw [total_append] at this; omega
theorem Fine.left {a b : List It} (h : Fine (a ++ b)) : Fine a := by
  have ha := total_len b (List.all_eq_true.2 fun x hx => (h.1 x (by simp [hx])).1)
  refine ⟨fun x hx => h.1 x (by simp [hx]), ?_⟩
  have := h.2; rw [total_append] at this; omega
theorem flat_told : ∀ (T : AT) (d : Int), T.flat = (T.told d).map (fun x => x.pc)
  | .nil, _ => rfl
  | .node l p r, d => by simp only [AT.flat, AT.told, List.map_append, List.map_cons, flat_told l (d + 1), flat_told r (d + 1)]
theorem Fine.ok {T : AT} {d : Int} (h : Fine (T.told d)) : T.ok := by
  refine ⟨fun p hp => ?_, by rw [← AT.rns_told T d]; exact h.2⟩
  rw [flat_told T d, List.mem_map] at hp
  obtain ⟨x, hx, rfl⟩ := hp
  exact (h.1 x hx).1

/-- What a call of subtree answers. -/
def SubPost (B rb : Nat) (w : World) (r : Option (AT × List It)) (e : Ending) (w' : World) : Prop :=
  match r with
  | none => e = .returned (.tuple #[.pointer none, .iface 181 (.int .i64 1)]) ∧ Chg [rb] w w'
  | some (T, ys) => ∃ u bs v', e = .returned (.tuple #[.pointer u, .nilIface]) ∧ Lies w' w.heap.size T u bs ∧ bs.Nodup ∧ RdI B w' v' ys ∧ Rdr w' rb v' ∧ Chg [rb] w w'

theorem nodup_app {a b : List Nat} {m : Nat} (ha : a.Nodup) (hb : b.Nodup) (h1 : ∀ x ∈ a, x < m) (h2 : ∀ x ∈ b, m ≤ x) : (a ++ b).Nodup := by
  rw [List.nodup_append]
  refine ⟨ha, hb, fun x hx y hy e => ?_⟩
  subst e; have := h1 x hx; have := h2 x hy; omega

set_option maxHeartbeats 2000000 in
set_option maxRecDepth 100000 in
theorem sub_nil (B rb : Nat) (v : Value) (xs : List It) (lv : Int) (w : World) (hr : RdI B w v xs) (hv : Rdr w rb v) (hno : ∀ x xt, xs = x :: xt → x.lv < lv) (hlen : xs.length ≤ 8192) :
    Calls Tryz.prog 178 #[.pointer (some ⟨rb, 0, none⟩), .int .i64 lv] w fun e w' => e = .returned (.tuple #[.pointer none, .nilIface]) ∧ w' = w := by
  have c := hv.c
  have hlt := hv.lt
  cases xs with
  | nil =>
    obtain ⟨ao, cap, rfl⟩ := hr.val
    simp only [List.length_nil] at c
    clear hr hv hno
    go_enter Tryz.func178, Tryz.ntmps178
    go_wp2_with fail
    go_ret2
    exact ⟨rfl, rfl⟩
  | cons x xt =>
    obtain ⟨b, off, cap, rfl, hcap, hm, hb, ⟨a0, a1, a2, a3⟩, _⟩ := hr.head
    have hne := hno x xt rfl
    have hltb : b < w.heap.size := World.block_lt_of_cell? w _ a0
    unfold maxLen at hm
    clear hr hv hno
    go_enter Tryz.func178, Tryz.ntmps178
    go_wp2_with fail
    go_ret2
    exact ⟨rfl, rfl⟩

set_option maxHeartbeats 4000000 in
set_option maxRecDepth 100000 in
theorem subtreeN : ∀ (f : Nat) (lv : Int) (xs : List It) (B rb : Nat) (v : Value) (w : World), 0 ≤ lv → lv + f = 8200 → lv ≤ 8192 → Fine xs → RdI B w v xs → Rdr w rb v → B ≤ rb →
    Calls Tryz.prog 178 #[.pointer (some ⟨rb, 0, none⟩), .int .i64 lv] w (SubPost B rb w (parse f lv xs)) := by
  intro f
  induction f with
  | zero => intro lv xs B rb v w h0 h1 h2; omega
  | succ f ih =>
    intro lv xs B rb v w h0 h1 h2 hF hr hv hB
    have hlen : xs.length ≤ 8192 := by have := hF.len; have := hF.2; omega
    by_cases hstop : ∀ x xt, xs = x :: xt → x.lv < lv
    · refine (sub_nil B rb v xs lv w hr hv hstop hlen).mono ?_
      rintro e w' ⟨rfl, rfl⟩
      have hp : parse (f + 1) lv xs = some (.nil, xs) := by
        cases xs with
        | nil => rfl
        | cons x xt => rw [parse, if_pos (hstop x xt rfl)]
      rw [hp]
      exact ⟨none, [], v, rfl, ⟨rfl, rfl⟩, List.nodup_nil, hr, hv, Chg.refl _ _⟩
    · cases xs with
      | nil => exact absurd (fun x xt h => by cases h) hstop
      | cons x xt =>
        have hx : ¬ x.lv < lv := fun h => hstop (fun y yt e => by cases e; exact h)
        clear hstop
        have hxb := (hF.1 x (by simp)).2
        have IH1 := hide (ih (lv + 1) (x :: xt) B rb v w (by omega) (by omega) (by omega) hF hr hv hB)
        obtain ⟨b, off, cap, rfl, hcap, hm, hb, ⟨a0, a1, a2, a3⟩, _⟩ := hr.head
        have hltb : b < w.heap.size := World.block_lt_of_cell? w _ a0
        have c := hv.c
        have hlt := hv.lt
        unfold maxLen at hm
        have HP := hide (show parse (f + 1) lv (x :: xt) = _ by rw [parse, if_neg hx])
        generalize parse (f + 1) lv (x :: xt) = res at HP ⊢
        have HF := hide hF
        clear hr hv hF
        go_enter Tryz.func178, Tryz.ntmps178
        go_wp2_with fail
        refine IH1.out.mono ?_
        clear IH1
        cases hp1 : parse f (lv + 1) (x :: xt) with
        | none =>
          rintro e w1 ⟨rfl, hc1⟩
          have HC1 := hide hc1
          rw [hp1] at HP
          clear hc1 hp1
          go_wp2_with fail
          go_ret2
          rw [HP.out]
          exact ⟨rfl, HC1.out⟩
        | some q =>
          obtain ⟨L, ys⟩ := q
          rintro e w1 ⟨ul, bl, v1, rfl, hL, ndl, hr1, hv1, hc1⟩
          have HC1 := hide hc1
          have HL := hide hL
          have NDL := hide ndl
          have HR1 := hide hr1
          have HV1 := hide hv1
          have ps1 := (parse_sound _ _ _ _ _ hp1).1
          have hlt1 := hv1.lt
          have hs1 := hc1.size
          have FY := hide (show Fine (L.told (lv + 1) ++ ys) from ps1 ▸ HF.out)
          have hly : ys.length ≤ 8192 := by have := FY.out.right.len; have := FY.out.right.2; omega
          rw [hp1] at HP
          clear hc1 hL ndl hr1 hv1 hp1 ps1 c hltb a0 a1 a2 a3
          by_cases hno : ∀ y yt, ys = y :: yt → y.lv ≠ lv
          · have HK := hide (takeN_bad B rb v1 ys lv w1 HR1.out HV1.out hB hno hly)
            have HP2 := hide (show res = none by
              rw [HP.out]
              cases ys with
              | nil => rfl
              | cons y yt => simp only; rw [if_pos (hno y yt rfl)])
            clear HP hno
            go_wp2_with fail
            refine HK.out.mono ?_
            rintro e w2 ⟨rfl, hb2⟩
            have HC2 := hide (HC1.out.trans (Chg.of_below (bs := [rb]) hb2) (fun _ h _ => h) (fun _ h _ => h))
            clear hb2 HK HC1
            go_wp2_with fail
            go_ret2
            rw [HP2.out]
            exact ⟨rfl, HC2.out.alloc _⟩
          · cases ys with
            | nil => exact absurd (fun y yt h => by cases h) hno
            | cons y zs =>
              have hy : y.lv = lv := Classical.byContradiction fun h => hno (fun y' yt e => by cases e; exact h)
              clear hno
              subst hy
              simp only [ne_eq, not_true_eq_false, if_false] at HP
              simp only [List.length_cons] at hly
              have HK := hide (takeN_ok B rb v1 y zs w1 HR1.out HV1.out hB (by omega))
              clear HR1 HV1
              go_wp2_with fail
              refine HK.out.mono ?_
              rintro e w2 ⟨rfl, v2, hr2, hv2, hc2⟩
              have hs2 := hc2.size
              have HL2 := hide (HL.out.chg hc2 (fun k hk e => by have := (HL.out.lt k hk).1; simp at e; omega))
              have HLT := hide (fun k hk => (HL.out.lt k hk).2)
              have HC2 := hide ((HC1.out.trans hc2 (fun _ h _ => h) (fun _ h _ => h)).alloc (.cells #[.int .i64 y.pc.off, .int .i64 y.pc.len, .int .i64 y.pc.brk] 143))
              have HBA := hide ((Below.refl w2.heap.size w2).alloc (Nat.le_refl _) (.cells #[.int .i64 y.pc.off, .int .i64 y.pc.len, .int .i64 y.pc.brk] 143))
              have FZ := hide (show Fine zs from (Fine.right (a := [y]) FY.out.right))
              have IH2 := hide (ih (y.lv + 1) zs B rb v2 (w2.alloc (.cells #[.int .i64 y.pc.off, .int .i64 y.pc.len, .int .i64 y.pc.brk] 143)) (by omega) (by omega) (by omega) FZ.out (hr2.below HBA.out (by omega)) (hv2.alloc _) hB)
              have hkp : (w2.alloc (.cells #[.int .i64 y.pc.off, .int .i64 y.pc.len, .int .i64 y.pc.brk] 143)).heap[w2.heap.size]? = some (.cells #[.int .i64 y.pc.off, .int .i64 y.pc.len, .int .i64 y.pc.brk] 143 (0, 0)) := heap_alloc_new _ _
              have hsa : (w2.alloc (.cells #[.int .i64 y.pc.off, .int .i64 y.pc.len, .int .i64 y.pc.brk] 143)).heap.size = w2.heap.size + 1 := by simp
              have HL3 := hide (HL2.out.below HBA.out (Nat.le_refl _))
              clear hr2 hv2 hc2 HK HC1 HL HL2 HBA
              unfold pcV
              go_wp2_with fail
              generalize w2.alloc (.cells #[.int .i64 y.pc.off, .int .i64 y.pc.len, .int .i64 y.pc.brk] 143) = wa at *
              refine IH2.out.mono ?_
              clear IH2
              cases hp2 : parse f (y.lv + 1) zs with
              | none =>
                rintro e w3 ⟨rfl, hc3⟩
                have HC3 := hide (HC2.out.trans hc3 (fun _ h _ => h) (fun _ h _ => h))
                rw [hp2] at HP
                clear hc3 hp2
                go_wp2_with fail
                go_ret2
                rw [HP.out]
                exact ⟨rfl, HC3.out⟩
              | some q =>
                obtain ⟨R, us⟩ := q
                rintro e w3 ⟨ur, br, v3, rfl, hR, ndr, hr3, hv3, hc3⟩
                have hs3 := hc3.size
                have ps2 := (parse_sound _ _ _ _ _ hp2).1
                rw [hp2] at HP
                have HL4 := hide (HL3.out.chg hc3 (fun k hk e => by have := (HL3.out.lt k hk).1; simp at e; omega))
                have HR4 := hide (hR.base (base' := w.heap.size) (by omega))
                have HRB := hide (fun k hk => (hR.lt k hk).1)
                have HRT := hide (fun k hk => (hR.lt k hk).2)
                have HC3 := hide (HC2.out.trans hc3 (fun _ h _ => h) (fun _ h _ => h))
                have hk3 := (hc3.block w2.heap.size (by omega) (by simp; omega)).trans hkp
                have d0 : w3.cell? ⟨w2.heap.size, 0, none⟩ = some (.int .i64 y.pc.off) := by rw [cell_of_row w3 _ 0 _ _ _ hk3]; rfl
                have d1 : w3.cell? ⟨w2.heap.size, 1, none⟩ = some (.int .i64 y.pc.len) := by rw [cell_of_row w3 _ 1 _ _ _ hk3]; rfl
                have d2 : w3.cell? ⟨w2.heap.size, 2, none⟩ = some (.int .i64 y.pc.brk) := by rw [cell_of_row w3 _ 2 _ _ _ hk3]; rfl
                have HOK : Hid (AT.node L y.pc R).ok := by
                  have e1 : L.told (y.lv + 1) ++ y :: zs = (AT.node L y.pc R).told y.lv ++ us := by
                    rw [ps2]; obtain ⟨yp, yl⟩ := y; simp [AT.told]
                  exact Fine.ok (Fine.left (e1 ▸ FY.out))
                have bL := HOK.out.left.bd
                have bR := HOK.out.right.bd
                have hhl : (L.ht : Int) ≤ 8192 := by have := ht_le_its L; omega
                have hhr : (R.ht : Int) ≤ 8192 := by have := ht_le_its R; omega
                have NDR := hide ndr
                have HR3 := hide hr3
                have HV3 := hide hv3
                have HKP := hide (plantN L y.pc R ul ur bl br w.heap.size w3 HL4.out HR4.out HOK.out (by omega))
                clear hR ndr hr3 hv3 hc3 hk3 hkp hp2 ps2 HL3 HC2 FY FZ
                go_wp2_with fail
                refine HKP.out.mono ?_
                clear HKP
                rintro e w4 ⟨nb, rfl, hnb, hT, hb4⟩
                have hs4 := hb4.size
                have HT := hide hT
                have HC4 := hide (HC3.out.trans (Chg.of_below (bs := [rb]) hb4) (fun _ h _ => h) (fun _ h _ => h))
                have HR4' := hide (HR3.out.below hb4 (by omega))
                have HV4 := hide (HV3.out.below hb4 (by have := HV3.out.lt; omega))
                obtain ⟨b', ul', ur', bl', br', e1, e2, hnd, hl4, hr4, e3⟩ := hT
                simp only [Option.some.injEq, Addr.mk.injEq] at e1
                obtain ⟨rfl, _⟩ := e1
                have HKL := hide (leanN L y.pc R nb ul' ur' bl' br' w.heap.size _ _ _ _ w4 hnd hl4 hr4 hhl hhr)
                clear hb4 hnd hl4 hr4 e2 e3 HL4 HR4 HC3 HR3 HV3 d0 d1 d2
                go_wp2_with fail
                refine HKL.out.mono ?_
                rintro e w5 ⟨rfl, hc5⟩
                have HC5 := hide (HC4.out.trans hc5 (fun _ h _ => h) (fun _ h _ => by simp at h))
                have HT5 := hide (HT.out.chg hc5 (fun _ _ => by simp))
                have HR5 := hide (HR4'.out.below (hc5.below (B := B) (by omega) (by simp)) (Nat.le_refl _))
                have HV5 := hide (HV4.out.chg hc5 (by simp))
                have HKB := hide (boundsI ((L.ht : Int) - R.ht) (-1) 1 1 w5)
                clear HKL hc5 HT HC4 HR4' HV4
                by_cases hbal : L.ht ≤ R.ht + 1 ∧ R.ht ≤ L.ht + 1
                · have hd : decide (-1 ≤ (L.ht : Int) - R.ht ∧ (L.ht : Int) - R.ht ≤ 1) = true := by simp; omega
                  rw [hd] at HKB
                  simp only [errV, if_true] at HKB
                  simp only [if_pos hbal] at HP
                  clear hd
                  go_wp2_with fail
                  refine HKB.out.mono ?_
                  rintro e w6 ⟨rfl, rfl⟩
                  go_wp2_with fail
                  go_ret2
                  rw [HP.out]
                  refine ⟨_, _, _, rfl, HT5.out, ?_, HR5.out, HV5.out, HC5.out⟩
                  rw [List.nodup_cons]
                  refine ⟨fun hm => ?_, nodup_app NDL.out NDR.out (m := wa.heap.size) (fun k hk => by have := HLT.out k hk; omega) (fun k hk => HRB.out k hk)⟩
                  rcases List.mem_append.1 hm with hm | hm
                  · have := HLT.out nb hm; omega
                  · have := HRT.out nb hm; omega
                · have hd : decide (-1 ≤ (L.ht : Int) - R.ht ∧ (L.ht : Int) - R.ht ≤ 1) = false := by simp; omega
                  rw [hd] at HKB
                  simp only [errV, Bool.false_eq_true, if_false] at HKB
                  simp only [if_neg hbal] at HP
                  clear hd
                  go_wp2_with fail
                  refine HKB.out.mono ?_
                  rintro e w6 ⟨rfl, rfl⟩
                  go_wp2_with fail
                  go_ret2
                  rw [HP.out]
                  exact ⟨rfl, HC5.out⟩
end Go.Proofs.YtbgngikejgihgagGreatDoor

namespace Go.Proofs.YtbgngikejgihgagGreatDoor
open Go Go.RowKit
set_option linter.unusedVariables false

def msgItems : ByteArray := ⟨#[114, 101, 97, 100, 105, 110, 103, 32, 116, 104, 101, 32, 105, 116, 101, 109, 115, 32, 111, 102, 32, 97, 32, 116, 114, 101, 101]⟩
def msgShape : ByteArray := ⟨#[114, 101, 97, 100, 105, 110, 103, 32, 116, 104, 101, 32, 115, 104, 97, 112, 101, 32, 111, 102, 32, 97, 32, 116, 114, 101, 101]⟩

/-- What readTree answers. -/
def ReadPost (w : World) (r : Option AT) (e : Ending) (w' : World) : Prop :=
  match r with
  | none => (∃ msg, e = .returned (.tuple #[.pointer none, .iface 172 (.agg #[.string msg, .iface 181 (.int .i64 1)])])) ∧ Below w.heap.size w w'
  | some T => ∃ u bs, e = .returned (.tuple #[.pointer u, .nilIface]) ∧ Lies w' w.heap.size T u bs ∧ bs.Nodup ∧ T.ok ∧ Below w.heap.size w w'

theorem readT_fine {xs : List It} (h : okI xs.length xs = true) : Fine xs := by
  simp only [okI, Bool.and_eq_true, decide_eq_true_eq] at h
  have hl := total_len xs (List.all_eq_true.2 fun x hx => by have := List.all_eq_true.1 h.1 x hx; simp only [Bool.and_eq_true] at this; exact this.1)
  refine ⟨fun x hx => ?_, h.2⟩
  have := List.all_eq_true.1 h.1 x hx
  simp only [Bool.and_eq_true, decide_eq_true_eq] at this
  exact ⟨this.1, this.2.1, by omega⟩

theorem readT_def (xs : List It) : readT xs = (if okI xs.length xs = true then (match parse 8200 0 xs with | some (T, []) => some T | _ => none) else none) := by
  unfold readT
  cases parse 8200 0 xs with
  | none => rfl
  | some q => obtain ⟨T, ys⟩ := q; cases ys <;> rfl

set_option maxHeartbeats 2000000 in
set_option maxRecDepth 100000 in
theorem readTreeN (B : Nat) (v : Value) (xs : List It) (w : World) (hr : RdI B w v xs) (hB : B ≤ w.heap.size) (hn : xs.length ≤ 1048576) :
    Calls Tryz.prog 135 #[.agg #[v]] w (ReadPost w (readT xs)) := by
  obtain ⟨ao, cap, rfl⟩ := hr.val
  have HB0 := hide ((Below.refl w.heap.size w).alloc (Nat.le_refl _) (.cells #[.slice ao xs.length cap] 67))
  have hk0 : (w.alloc (.cells #[.slice ao xs.length cap] 67)).heap[w.heap.size]? = some (.cells #[.slice ao xs.length cap] 67 (0, 0)) := heap_alloc_new _ _
  have hs0 : (w.alloc (.cells #[.slice ao xs.length cap] 67)).heap.size = w.heap.size + 1 := by simp
  have HR0 := hide (hr.below HB0.out hB)
  have HI := hide (itemsI B _ xs _ HR0.out (by omega) hn)
  have HX := hide (readT_def xs)
  generalize readT xs = res at HX ⊢
  generalize hN : xs.length = n at *
  clear hr
  go_enter Tryz.func135, Tryz.ntmps135
  go_wp2_with fail
  generalize w.alloc (.cells #[.slice ao n cap] 67) = w0 at *
  refine HI.out.mono ?_
  rintro e w1 ⟨rfl, hb1⟩
  have hs1 := hb1.size
  have hk1 := (hb1.block w.heap.size (by omega)).trans hk0
  have c1 : w1.cell? ⟨w.heap.size, 0, none⟩ = some (.slice ao n cap) := by rw [cell_of_row w1 _ 0 _ _ _ hk1]; rfl
  have HB1 := hide (HB0.out.trans (hb1.mono (by omega)))
  have HR1 := hide (HR0.out.below hb1 (by omega))
  have hlw : w.heap.size < w1.heap.size := by omega
  clear hb1 hk1 hk0 HI HR0
  cases hok : okI n xs with
  | false =>
    rw [hok] at HX
    simp only [Bool.false_eq_true, if_false] at HX
    simp only [errV, Bool.false_eq_true, if_false]
    clear hok
    go_wp2_with fail
    go_ret2
    rw [HX.out]
    exact ⟨⟨msgItems, rfl⟩, HB1.out⟩
  | true =>
    rw [hok] at HX
    simp only [if_true] at HX
    have HF := hide (readT_fine (xs := xs) (by rw [hN]; exact hok))
    have HBA := hide ((Below.refl w1.heap.size w1).alloc (Nat.le_refl _) (.cells #[.slice ao n cap] 288))
    have hv2 : Rdr (w1.alloc (.cells #[.slice ao n cap] 288)) w1.heap.size (.slice ao n cap) := heap_alloc_new _ _
    have HS := hide (subtreeN 8200 0 xs B w1.heap.size _ _ (by omega) (by omega) (by omega) HF.out (HR1.out.below HBA.out (by omega)) hv2 (by omega))
    have hs2 : (w1.alloc (.cells #[.slice ao n cap] 288)).heap.size = w1.heap.size + 1 := by simp
    simp only [errV, if_true]
    clear hok hv2
    go_wp2_with fail
    generalize w1.alloc (.cells #[.slice ao n cap] 288) = w2 at *
    refine HS.out.mono ?_
    clear HS
    cases hp : parse 8200 0 xs with
    | none =>
      rw [hp] at HX
      rintro e w3 ⟨rfl, hc3⟩
      have HB3 := hide (HB1.out.trans ((HBA.out.trans (hc3.below (by omega) (by simp))).mono (by omega)))
      clear hc3 hp
      go_wp2_with fail
      go_ret2
      rw [HX.out]
      exact ⟨⟨msgShape, rfl⟩, HB3.out⟩
    | some q =>
      obtain ⟨T, ys⟩ := q
      rw [hp] at HX
      rintro e w3 ⟨u, bs, v3, rfl, hT, hnd, hr3, hv3, hc3⟩
      have HB3 := hide (HB1.out.trans ((HBA.out.trans (hc3.below (by omega) (by simp))).mono (by omega)))
      have HT := hide (hT.base (base' := w.heap.size) (by omega))
      have HND := hide hnd
      have ps := (parse_sound _ _ _ _ _ hp).1
      have HOK := hide (Fine.ok (Fine.left (ps ▸ HF.out)))
      have hc := hv3.c
      have hl3 := hv3.lt
      cases ys with
      | nil =>
        obtain ⟨ao3, cap3, rfl⟩ := hr3.val
        simp only [List.length_nil] at hc
        simp only at HX
        clear hr3 hv3 hc3 hp hT hnd ps
        go_wp2_with fail
        go_ret2
        rw [HX.out]
        exact ⟨u, bs, rfl, HT.out, HND.out, HOK.out, HB3.out⟩
      | cons y yt =>
        obtain ⟨ao3, cap3, rfl⟩ := hr3.val
        simp only [List.length_cons] at hc
        simp only at HX
        have hyl : yt.length ≤ 8192 := by
          have h1 := (Fine.right (ps ▸ HF.out)).len
          have h2 := (Fine.right (ps ▸ HF.out)).2
          simp only [List.length_cons] at h1; omega
        clear hr3 hv3 hc3 hp hT hnd ps
        go_wp2_with fail
        go_ret2
        rw [HX.out]
        exact ⟨⟨msgShape, rfl⟩, HB3.out⟩
end Go.Proofs.YtbgngikejgihgagGreatDoor
