import Derived.Lib.QuietBelowIn
import Derived.RangeFuncCalls
import Derived.WalkKit
import Derived.Test.YtbgngikejgihgagGreatDoorMq19
import Derived.Test.YtbgngikejgihgagGreatDoorMq05
import Derived.Test.YtbgngikejgihgagGreatDoorProg
import Derived.Test.YtbgngikejgihgagGreatDoorMq07
import Derived.Maps.AppendAt
import Derived.Lib.SliceRun
import Derived.Deep.RegionWith
import Derived.Deep.Cut
namespace Go.Proofs.YtbgngikejgihgagGreatDoor
open Go Go.Sort Go.RowKit

/-- In a round an operation that defers nothing does what it does outside. -/
theorem wpAnyIn_round {n : Nat} {P : Program} {md : Region.Mode} {ops : Array Oper} {Q : Exit → Act → World → Prop} (l : Nat) (hd : ∀ o ∈ ops.toList, ∀ c, o.op ≠ .defer c) :
    ∀ (fuel : Nat) (listed : Array Bool) (a : Act) (w : World), wpAnyIn Fence.wide n P md ops Q fuel listed a w → wpAnyIn (Fence.wide.inRound l) n P md ops Q fuel listed a w
  | 0, _, _, _, h => h
  | fuel + 1, listed, a, w, h => by
    refine ⟨h.1, fun i hi => ?_⟩
    have h2 := h.2 i hi
    unfold wpOpIn at h2 ⊢
    cases ho : ops[i]? with
    | none => rw [ho] at h2; exact wpAnyIn_round l hd fuel _ _ _ h2
    | some o =>
      rw [ho] at h2
      simp only at h2 ⊢
      have hm : o ∈ ops.toList := by
        have := Array.mem_of_getElem? ho
        exact Array.mem_toList_iff.2 this
      split at h2
      · rename_i hw
        rw [if_pos hw]
        have h3 := Oper.wpIn_mono (fun a w => wpAnyIn_round l hd fuel _ a w) h2
        unfold Oper.wpIn at h3 ⊢
        refine ⟨h3.1, ?_⟩
        have e1 : Oper.semAt (Fence.wide.inRound l).round a.eval o = Oper.semAt Fence.wide.round a.eval o := (Oper.semAt_some l _ _ (hd o hm)).trans (Oper.semAt_none _ _).symm
        rw [e1]
        exact h3.2
      · rename_i hw
        rw [if_neg hw]
        exact ⟨h2.1, wpAnyIn_round l hd fuel _ _ _ h2.2⟩

theorem wpIn_region_round {n : Nat} {P : Program} {id l : Nat} {Q : Exit → Act → World → Prop} {a : Act} {w : World} {L : List Oper} (hm : P.follows .mixedOrders = true) (hB : Region.lexB .any L.toArray = true) (hd : ∀ o ∈ L, ∀ c, o.op ≠ .defer c)
    (h : wpQuietIn Fence.wide n P L.toArray (fun w' => ∃ p : Regrown, w' = grow (redrawn w p.d) p.os) (fun a' => ∀ w', (∃ p : Regrown, w' = grow (redrawn w p.d) p.os) → Q .normal a' w') L a) : (Code.region id L.toArray true).wpIn (Fence.wide.inRound l) n P Q a w := by
  simp only [Region.lexB, Bool.and_eq_true] at hB
  refine wpIn_region_any hm (wpAnyIn_round l (by simpa using hd) _ _ _ _ (wpAnyIn_of_quiet (C := fun w' => ∃ p : Regrown, w' = grow (redrawn w p.d) p.os) (Q := fun a' => ∀ w', (∃ p : Regrown, w' = grow (redrawn w p.d) p.os) → Q .normal a' w') rfl (fun _ w' hw' h => h w' hw') _ _ _ _ ⟨⟨w.drawn + 1, #[]⟩, by rw [grow_empty]; rfl⟩ ?_))
  have := wpAnyQIn_lex (F := Fence.wide) (n := n) (C := fun w' => ∃ p : Regrown, w' = grow (redrawn w p.d) p.os) (md := .any) hB.1 L.toArray.toList 0 (Array.replicate L.toArray.size false) a (by simp) (by simpa using hB.2) (by simpa using h)
  simpa using this

def noDefer (o : Oper) : Bool := match o.op with | .defer _ => false | _ => true
theorem noDefer_all {L : List Oper} (h : L.all noDefer = true) : ∀ o ∈ L, ∀ c, o.op ≠ .defer c := by
  intro o ho c hc
  have := List.all_eq_true.1 h o ho
  simp [noDefer, hc] at this
end Go.Proofs.YtbgngikejgihgagGreatDoor

namespace Go.Proofs.YtbgngikejgihgagGreatDoor
open Go Go.RowKit Go.Shelf Go.Sort
set_option linter.unusedVariables false
attribute [local go_sem] Oper.semAt_some

/-- A core as it lies: a store and a root. -/
def PK (w : World) (c b o n cap : Nat) (u : Option Addr) : Prop := w.heap[c]? = some (.cells #[.slice (some ⟨b, o, none⟩) n cap, .pointer u] 216 (0, 0))
theorem PK.below {B : Nat} {w w' : World} {c b o n cap : Nat} {u : Option Addr} (h : PK w c b o n cap u) (hb : Below B w w') (hB : c < B) : PK w' c b o n cap u := (hb.block c hB).trans h
theorem PK.lt {w : World} {c b o n cap : Nat} {u : Option Addr} (h : PK w c b o n cap u) : c < w.heap.size := (Array.getElem?_eq_some_iff.1 h).1
theorem PK.c0 {w : World} {c b o n cap : Nat} {u : Option Addr} (h : PK w c b o n cap u) : w.cell? ⟨c, 0, none⟩ = some (.slice (some ⟨b, o, none⟩) n cap) := by rw [cell_of_row w _ 0 _ _ _ h]; rfl
theorem PK.c1 {w : World} {c b o n cap : Nat} {u : Option Addr} (h : PK w c b o n cap u) : w.cell? ⟨c, 1, none⟩ = some (.pointer u) := by rw [cell_of_row w _ 1 _ _ _ h]; rfl

def At32' (w : World) (b o : Nat) (zs : List Int) : Prop := ∀ i, i < zs.length → w.cell? ⟨b, o + i, none⟩ = some (.int .i32 (zs.getD i 0))
theorem KeepsOthers.of_below {W W' : World} (hb : Below W.heap.size W W') : KeepsOthers W W' := ⟨hb.size, fun k o hk _ => (hb.block k (Array.getElem?_eq_some_iff.1 hk).1).trans hk⟩
set_option maxRecDepth 100000 in
set_option maxHeartbeats 4000000 in
theorem checkPN (zs : List Int) (T : AT) (u : Option Addr) (bs : List Nat) (base c b o cap : Nat) (w : World) (hc : ∀ i, i < zs.length → w.cell? ⟨b, o + i, none⟩ = some (.int .i32 (zs.getD i 0))) (hb : b < w.heap.size) (hn : zs.length ≤ 1048576) (hcap : zs.length ≤ cap) (hm : cap ≤ maxLen) (hT : Lies w base T u bs) (hok : T.ok) (hk : PK w c b o zs.length cap u) :
    Calls Tryz.prog 137 #[.pointer (some ⟨c, 0, none⟩)] w fun e w' => e = .returned (if wps zs (T.told 0) then .nilIface else .iface 181 (.int .i64 1)) ∧ Below w.heap.size w w' := by
  obtain ⟨res, hres⟩ : ∃ res, res = (if wps zs (T.told 0) then Value.nilIface else .iface 181 (.int .i64 1)) := ⟨_, rfl⟩
  rw [← hres]
  have HRES := hide hres
  clear hres
  have bT := hok.bd
  have hht : (T.ht : Int) ≤ 8192 := by have := ht_le_its T; omega
  have HIT := hide (show IsT w.heap.size w u T from ⟨base, bs, hT, fun x hx => (hT.lt x hx).2⟩)
  have HPC : Hid (∀ x ∈ T.told 0, pcOk x.pc = true) := hide fun x hx => hok.1 _ (by rw [← told_pcs T 0]; exact List.mem_map.2 ⟨x, hx, rfl⟩)
  have hclt := hk.lt
  have HK := hide hk
  have HCC := hide hc
  have HB0 := hide ((((Below.refl w.heap.size w).alloc (Nat.le_refl _) (.cells #[.pointer (some ⟨c, 0, none⟩)] 130)).alloc (by simp) (.cells #[.nilIface] 100)))
  have c1 := (HB0.out.cell (p := ⟨c, 1, none⟩) hclt).trans hk.c1
  have P0 := (Boxed.new w 130 (.pointer (some ⟨c, 0, none⟩))).alloc (.cells #[.nilIface] 100)
  have R0 := Boxed.new (w.alloc (.cells #[.pointer (some ⟨c, 0, none⟩)] 130)) 100 .nilIface
  rw [World.size_alloc] at R0
  have p0c := P0.cell
  have hs0 : ((w.alloc (.cells #[.pointer (some ⟨c, 0, none⟩)] 130)).alloc (.cells #[.nilIface] 100)).heap.size = w.heap.size + 2 := by simp
  clear hT hk hc
  refine (callsIn_wide (n := 5)).1 ?_
  refine callsIn_of_wp_marks Tryz.func137 rfl trivial ?_ rfl
  simp only [Tryz.ntmps137, List.size_toArray, List.length_cons, List.length_nil, Nat.reduceAdd, Nat.reduceSub, Array.replicate_succ, Array.replicate_zero, List.push_toArray, List.append_toArray, List.nil_append, List.cons_append]
  gi_wp2_with ((try refine ⟨trivial, ?_⟩); gi_at_call 179; refine (all_in Fence.wide _ trivial rfl _ _).mono ?_; rintro e w3 ⟨rfl, rfl⟩)
  have hI0 := (P0.alloc (.cells #[.pointer u] 212)).alloc (.cells #[.int .i64 0] 3)
  have hR0 := (R0.alloc (.cells #[.pointer u] 212)).alloc (.cells #[.int .i64 0] 3)
  have hN0 := (Boxed.new ((w.alloc (.cells #[.pointer (some ⟨c, 0, none⟩)] 130)).alloc (.cells #[.nilIface] 100)) 212 (.pointer u)).alloc (.cells #[.int .i64 0] 3)
  have hV0 := Boxed.new (((w.alloc (.cells #[.pointer (some ⟨c, 0, none⟩)] 130)).alloc (.cells #[.nilIface] 100)).alloc (.cells #[.pointer u] 212)) 3 (.int .i64 0)
  have hBW := (HB0.out.alloc (by omega) (.cells #[.pointer u] 212)).alloc (by simp; omega) (.cells #[.int .i64 0] 3)
  have hs3 : ((((w.alloc (.cells #[.pointer (some ⟨c, 0, none⟩)] 130)).alloc (.cells #[.nilIface] 100)).alloc (.cells #[.pointer u] 212)).alloc (.cells #[.int .i64 0] 3)).heap.size = w.heap.size + 4 := by simp
  rw [World.size_alloc, World.size_alloc] at hN0
  rw [World.size_alloc, World.size_alloc, World.size_alloc] at hV0
  obtain ⟨W0, hW0⟩ : ∃ W0, (((w.alloc (.cells #[.pointer (some ⟨c, 0, none⟩)] 130)).alloc (.cells #[.nilIface] 100)).alloc (.cells #[.pointer u] 212)).alloc (.cells #[.int .i64 0] 3) = W0 := ⟨_, rfl⟩
  rw [hW0] at hI0 hN0 hV0 hR0 hBW hs3 ⊢
  refine wpIn_rangeFunc_ownH rfl (by omega) (gf := 212) (lb := #[.pointer (some ⟨w.heap.size + 1 + 1, 0, none⟩), .pointer (some ⟨w.heap.size + 1 + 1 + 1, 0, none⟩)]) rfl trivial (enters_of Tryz.func212 (by kernel_rfl) rfl)
    (all_stopsQ (fun x => pcOk x.pc = true) Fence.wide rfl _ trivial trivial rfl (w.heap.size + 1 + 1) (w.heap.size + 1 + 1 + 1) w.heap.size u T (by omega) HPC.out W0 (by omega) (by omega) (by omega) hN0.cell hV0.cell (HIT.out.below hBW)) belowK_t (belowK_b (by omega)) (Below.refl _ _) (fun _ => rfl)
    (fun pre W => wps zs (pre.map (·.1)) = true ∧ (Boxed W w.heap.size 130 (.pointer (some ⟨c, 0, none⟩)) ∧ (Boxed W (w.heap.size + 1) 100 .nilIface ∧ Below w.heap.size w W)))
    (fun cd pre W => (cd = .ret ∧ wps zs (pre.map (·.1)) = false) ∧ (Boxed W (w.heap.size + 1) 100 (.iface 181 (.int .i64 1)) ∧ Below w.heap.size w W))
    (OwnFrom.and (fun _ _ _ _ hs _ _ => hs) (OwnFrom.and (Own.from (boxed_own w.heap.size 130 (fun _ => .pointer (some ⟨c, 0, none⟩))) _) (OwnFrom.and (Own.from (boxed_own (w.heap.size + 1) 100 (fun _ => .nilIface)) _) (ownFrom_below (Nat.le_refl _) (by omega)))))
    (fun _ => OwnFrom.and (fun _ _ _ _ hs _ _ => hs) (OwnFrom.and (Own.from (boxed_own (w.heap.size + 1) 100 (fun _ => .iface 181 (.int .i64 1))) _) (ownFrom_below (Nat.le_refl _) (by omega))))
    ⟨rfl, hI0, hR0, hBW⟩
    (fun x a' W => ∃ Bx, True ∧ W.heap[Bx]? = some (.cells #[.int .i64 x.1.pc.off, .int .i64 x.1.pc.len, .int .i64 x.1.pc.brk] 143 (0, 0)) ∧ a' = { tmps := #[.pointer (some ⟨c, 0, none⟩), .pointer (some ⟨w.heap.size, 0, none⟩), .pointer (some ⟨w.heap.size + 1, 0, none⟩), undef, .pointer (some ⟨Bx, 0, none⟩), .pointer (some ⟨c, 0, none⟩), .pointer (some ⟨c, 0, none⟩), .pointer (some ⟨c, 1, none⟩), .pointer u, .func (.func 212) #[] #[.pointer (some ⟨w.heap.size + 1 + 1, 0, none⟩), .pointer (some ⟨w.heap.size + 1 + 1 + 1, 0, none⟩)], .int .i64 x.1.lv, .agg #[.int .i64 x.1.pc.off, .int .i64 x.1.pc.len, .int .i64 x.1.pc.brk], undef, undef, undef, undef, undef, undef, undef, undef, undef, undef, undef, undef, undef, undef, undef, undef, undef, undef, undef, undef, undef, undef], defers := [] })
    (fun x a' _ W W' row hs hg hr => by
      obtain ⟨Bx, h1, h2, h3⟩ := hs
      refine ⟨Bx, h1, (hg.block Bx (Array.getElem?_eq_some_iff.1 h2).1 (fun e => ?_)).trans h2, h3⟩
      obtain ⟨_, o, ho, hc⟩ := hr Bx e.symm
      rw [h2] at ho; cases ho; cases hc)
    ?assign ?body ?done ?stop
  case assign =>
    rintro l pre x W K ⟨hps, hP, hR, hbW⟩ hK
    gi_wp2
    have hle := hbW.size
    refine hK _ _ ((KeepsOthers.alloc _ _).from _) ((Below.refl _ W).alloc hle _) ⟨hps, hP.alloc _, hR.alloc _, hbW.alloc hle _⟩ ⟨W.heap.size, trivial, heap_alloc_new _ _, rfl⟩
  case body =>
    rintro l pre ⟨x, hpx0⟩ a' W hl ⟨r, hr⟩ ⟨hps, hP, hR, hbW⟩ ⟨Bx, _, hkx, rfl⟩ hlt
    have hpx := hpx0
    simp only [pcOk, decide_eq_true_eq] at hpx
    have HSN := hide (show wps zs (List.map (fun x => x.1) (pre ++ [⟨x, hpx0⟩])) = (wps zs (List.map (fun x => x.1) pre) && wpB zs x.pc) by rw [List.map_append, List.map_cons, List.map_nil, wps_snoc])
    have hc := hP.cell
    have k0 : W.cell? ⟨Bx, 0, none⟩ = some (.int .i64 x.pc.off) := by rw [cell_of_row W _ 0 _ _ _ hkx]; rfl
    have k1 : W.cell? ⟨Bx, 1, none⟩ = some (.int .i64 x.pc.len) := by rw [cell_of_row W _ 1 _ _ _ hkx]; rfl
    have k2 : W.cell? ⟨Bx, 2, none⟩ = some (.int .i64 x.pc.brk) := by rw [cell_of_row W _ 2 _ _ _ hkx]; rfl
    have hlx : Bx < W.heap.size := (Array.getElem?_eq_some_iff.1 hkx).1
    have hle := hbW.size
    have HR := hide hr
    have HL := hide hl
    have HPS := hide hps
    have HPB := hide hP
    have HRB := hide hR
    have HBW := hide hbW
    have hcs := (hbW.cell (p := ⟨c, 0, none⟩) hclt).trans HK.out.c0
    have HCW : Hid (At32' W b o zs) := hide fun i hi => (hbW.cell (p := ⟨b, o + i, none⟩) hb).trans (HCC.out i hi)
    clear hr hl hkx hps hP hR hbW
    obtain ⟨⟨po, pl, pb⟩, lv⟩ := x
    simp only at *
    have hwr : IntKind.i64.wrap (po + pl) = po + pl := by rw [IntKind.wrap_i64]; omega
    have q0 := fun d os => cell_regrown k0 d os
    have q1 := fun d os => cell_regrown k1 d os
    have q2 := fun d os => cell_regrown k2 d os
    have qc := fun d os => cell_regrown hc d os
    have qs := fun d os => cell_regrown hcs d os
    by_cases hfit : po + pl > (zs.length : Int)
    · have hd : decide ((zs.length : Int) < po + pl) = true := by simp; omega
      have HWF := hide (show wpB zs ⟨po, pl, pb⟩ = false by simp only [wpB, Bool.and_eq_false_iff, decide_eq_false_iff_not]; left; omega)
      clear k0 k1 k2 hc hcs
      gi_wp2_with fail
      refine wpIn_region_round (by kernel_rfl) (by kernel_rfl) (noDefer_all (by kernel_rfl)) ?_
      repeat (refine wpQuietIn_step (fun _ _ _ _ => trivial) (fun K hK => ?_); go_simp; first | (refine hK _ ?_; clear hK K) | (apply Exists.intro; refine ⟨fun _ => ?_, hK _ ?_⟩; (fail); clear hK K))
      refine wpQuietIn_nil ?_
      intro _ hw'
      obtain ⟨⟨dq, osq⟩, hw''⟩ := hw'
      subst hw''
      have HB1 := hide (below_regrown W dq osq)
      clear q0 q1 q2 qc qs
      generalize grow (redrawn W dq) osq = W1 at *
      have HRB1 := hide (show Boxed W1 _ _ _ from (HB1.out.block _ HRB.out.lt).trans HRB.out)
      have hcr1 := HRB1.out.cell
      have hfr1 := HRB1.out.frozen
      gi_wp2_with fail
      exact ⟨((KeepsOthers.of_below HB1.out).trans (KeepsOthers.setCell _ _ _)).from _, ⟨rfl, HSN.out.trans (by rw [HWF.out, Bool.and_false])⟩, HRB1.out.set _, (HBW.out.trans (HB1.out.mono hle)).setCell (by simp) _⟩
    · have hd : decide ((zs.length : Int) < po + pl) = false := by simp; omega
      obtain ⟨q, rfl⟩ : ∃ q : Nat, po = q := ⟨po.toNat, by omega⟩
      obtain ⟨m, rfl⟩ : ∃ m : Nat, pl = m := ⟨pl.toNat, by omega⟩
      have HWF := hide (show wpB zs ⟨(q : Int), (m : Int), pb⟩ = decide (pb = brk ((zs.drop q).take m)) by unfold wpB ptx; rw [decide_eq_true (Int.not_lt.1 hfit), Bool.true_and]; rfl)
      have HMQ := hide (fun d os => CallsIn.regrown_of (F := Fence.wide) (r := 5 - 1 - 1 - 1) (callsIn_wide.2 (measureN zs c b o cap q m (grow (redrawn W d) os) (fun i hi => cell_regrown (HCW.out i hi) d os) (qs d os) (Nat.lt_of_lt_of_le hb (Nat.le_trans hle (below_regrown W d os).size)) (Nat.lt_of_lt_of_le hclt (Nat.le_trans hle (below_regrown W d os).size)) (by omega) (by omega) hcap hm hn)))
      generalize brk ((zs.drop q).take m) = br at *
      clear k0 k1 k2 hc hcs
      gi_wp2_with fail
      refine wpIn_region_round (by kernel_rfl) (by kernel_rfl) (noDefer_all (by kernel_rfl)) ?_
      by_cases hq : pb = br
      · subst hq
        repeat (refine wpQuietIn_step (fun _ _ _ _ => trivial) (fun K hK => ?_); go_simp; first | (refine hK _ ?_; clear hK K) | (apply Exists.intro; refine ⟨fun _ => ?_, hK _ ?_⟩; (first | exact ⟨trivial, HMQ.out _ _⟩ | exact HMQ.out _ _); clear hK K))
        refine wpQuietIn_nil ?_
        intro _ hw'
        obtain ⟨⟨dq, osq⟩, hw''⟩ := hw'
        subst hw''
        have HB1 := hide (below_regrown W dq osq)
        clear q0 q1 q2 qc qs HMQ
        generalize grow (redrawn W dq) osq = W1 at *
        gi_wp2_with fail
        exact ⟨(KeepsOthers.of_below HB1.out).from _, HB1.out.mono hle, HSN.out.trans (by rw [HPS.out, HWF.out]; simp), (HB1.out.block _ HPB.out.lt).trans HPB.out, (HB1.out.block _ HRB.out.lt).trans HRB.out, HBW.out.trans (HB1.out.mono hle)⟩
      · have hqd : decide (pb = br) = false := decide_eq_false hq
        repeat (refine wpQuietIn_step (fun _ _ _ _ => trivial) (fun K hK => ?_); go_simp; first | (refine hK _ ?_; clear hK K) | (apply Exists.intro; refine ⟨fun _ => ?_, hK _ ?_⟩; (first | exact ⟨trivial, HMQ.out _ _⟩ | exact HMQ.out _ _); clear hK K))
        refine wpQuietIn_nil ?_
        intro _ hw'
        obtain ⟨⟨dq, osq⟩, hw''⟩ := hw'
        subst hw''
        have HB1 := hide (below_regrown W dq osq)
        clear q0 q1 q2 qc qs HMQ
        generalize grow (redrawn W dq) osq = W1 at *
        have HRB1 := hide (show Boxed W1 _ _ _ from (HB1.out.block _ HRB.out.lt).trans HRB.out)
        have hcr1 := HRB1.out.cell
        have hfr1 := HRB1.out.frozen
        gi_wp2_with fail
        exact ⟨((KeepsOthers.of_below HB1.out).trans (KeepsOthers.setCell _ _ _)).from _, ⟨rfl, HSN.out.trans (by rw [HWF.out, hqd, Bool.and_false])⟩, HRB1.out.set _, (HBW.out.trans (HB1.out.mono hle)).setCell (by simp) _⟩
  case done =>
    rintro D ys W hD hys ⟨hps, hP, hR, hbW⟩ hK
    have hcr := hR.cell
    have hfr := hR.frozen
    rw [hys] at hps
    have HPS := hide hps
    have HBW2 := hide hbW
    have HR2 := hide hR
    have HKD := hide hK
    have HD := hide hD
    clear hps hbW hR hK hD
    gi_wp2
    have hDn : D ≠ w.heap.size + 1 := by have := HD.out; omega
    have hK' : (W.setCell ⟨w.heap.size + 1, 0, none⟩ .nilIface).heap[D]? = some (.deferred (some [])) := (heap_setCell_other W ⟨w.heap.size + 1, 0, none⟩ D _ hDn).trans HKD.out
    have bR4 := HR2.out.set .nilIface
    have bW4 := HBW2.out.setCell (p := ⟨w.heap.size + 1, 0, none⟩) (by simp) .nilIface
    refine ⟨by simp, .inl ⟨_, _, rfl, run_takeDeferred hK', ?_⟩⟩
    have bR5 := bR4.kept (grownBy_putObj' _ D (.deferred none)) (fun e => hDn (by cases e; rfl))
    have bW5 := bW4.trans (belowK_b (w := w) (Nat.le_refl _) _ D _ (.deferred none) (by have := HD.out; omega) hK' rfl rfl)
    have hc5 := bR5.cell
    exact ⟨.nilIface, by simp [results, Tryz.results137, go_sem, hc5], by rw [HRES.out, HPS.out]; rfl, bW5⟩
  case stop =>
    rintro D cd pre W hD hpre ⟨⟨rfl, hps⟩, hR, hbW⟩ hK
    have HPS := hide (wps_prefix hpre hps)
    have hDn : D ≠ w.heap.size + 1 := by omega
    gi_wp2
    refine ⟨by simp, .inl ⟨_, _, rfl, run_takeDeferred hK, ?_⟩⟩
    have bR5 := hR.kept (grownBy_putObj' _ D (.deferred none)) (fun e => hDn (by cases e; rfl))
    have bW5 := hbW.trans (belowK_b (w := w) (Nat.le_refl _) _ D _ (.deferred none) (by omega) hK rfl rfl)
    have hc5 := bR5.cell
    exact ⟨.iface 181 (.int .i64 1), by simp [results, Tryz.results137, go_sem, hc5], by rw [HRES.out, HPS.out]; rfl, bW5⟩
end Go.Proofs.YtbgngikejgihgagGreatDoor

namespace Go.Proofs.YtbgngikejgihgagGreatDoor
open Go Go.RowKit

theorem Tryz.fld1 (a b c : Value) (w : World) : (Instr.field 332 (.agg #[a, b, c]) 1).run Tryz.prog w = .ok b w := by kernel_rfl
theorem Tryz.fld2 (a b c : Value) (w : World) : (Instr.field 332 (.agg #[a, b, c]) 2).run Tryz.prog w = .ok c w := by kernel_rfl
end Go.Proofs.YtbgngikejgihgagGreatDoor

namespace Go.Proofs.YtbgngikejgihgagGreatDoor
open Go Go.RowKit Go.Shelf
set_option linter.unusedVariables false
attribute [local go_sem] Oper.semAt_some

end Go.Proofs.YtbgngikejgihgagGreatDoor

namespace Go.Proofs.YtbgngikejgihgagGreatDoor
open Go Go.RowKit
set_option linter.unusedVariables false

theorem ownI_val {w : World} {base : Nat} {v : Value} {xs : List It} (h : OwI w base v xs) : ∃ ao cap, v = .slice ao xs.length cap := by
  rcases h.2 with ⟨rfl, h0⟩ | ⟨g, cap, cur, rfl, _⟩
  · exact ⟨none, 0, by rw [h0]⟩
  · exact ⟨_, _, rfl⟩
end Go.Proofs.YtbgngikejgihgagGreatDoor
