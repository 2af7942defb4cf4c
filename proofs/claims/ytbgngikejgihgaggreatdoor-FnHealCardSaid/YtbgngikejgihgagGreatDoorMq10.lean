import Derived.Test.YtbgngikejgihgagGreatDoorMq09
import Derived.Lib.QuietBelowIn
import Derived.RangeFuncCalls
import Derived.WalkKit
import Derived.Test.YtbgngikejgihgagGreatDoorMq05
import Derived.Test.YtbgngikejgihgagGreatDoorMq07
import Derived.Test.YtbgngikejgihgagGreatDoorProg
namespace Go.Proofs.YtbgngikejgihgagGreatDoor
open Go Go.RowKit Go.Shelf
set_option linter.unusedVariables false
attribute [local go_sem] Oper.semAt_some

set_option maxRecDepth 100000 in
set_option maxHeartbeats 4000000 in
theorem walk_inQ (Q : It → Prop) (F : Fence) (hd : F.depth = none) (h6 : F.fn 213) (hro : F.round = none) (l n₀ N : Nat) (J Jx : List It → World → Prop)
    (hY : ∀ m pre (x : It) W, J pre W → pre.length < N → Q x → YieldAt F m Tryz.prog l #[.int .i64 x.lv, .agg #[.int .i64 x.pc.off, .int .i64 x.pc.len, .int .i64 x.pc.brk]] W fun e W' =>
      (e = .returned (.bool true) ∧ J (pre ++ [x]) W' ∧ Below n₀ W W') ∨ (e = .returned (.bool false) ∧ Jx (pre ++ [x]) W')) (T : AT) :
    ∀ (n : Nat) (p : Option Addr) (lv : Int) (pre : List It) (W : World), IsT n₀ W p T → 0 ≤ lv → lv + T.ht ≤ 1048576 → J pre W → pre.length + T.its ≤ N → (∀ x ∈ T.told lv, Q x) →
      CallsIn F n Tryz.prog 213 #[.pointer p, .int .i64 lv, .func (.yield l) #[] #[]] W fun e W' =>
        (e = .returned (.bool true) ∧ J (pre ++ T.told lv) W' ∧ Below n₀ W W') ∨ (e = .returned (.bool false) ∧ ∃ q, q <+: T.told lv ∧ Jx (pre ++ q) W') := by
  induction T with
  | nil =>
    intro n p lv pre W ht h0 h1 hJ _ _
    obtain ⟨base, bs, ⟨rfl, rfl⟩, _⟩ := ht
    refine callsIn_of_wp Tryz.func213 rfl h6 ?_ hro
    simp only [Tryz.ntmps213, List.size_toArray, List.length_cons, List.length_nil, Nat.reduceAdd, Nat.reduceSub, Array.replicate_succ, Array.replicate_zero, List.push_toArray, List.append_toArray, List.nil_append, List.cons_append]
    have hU : undef = Value.tuple #[] := rfl
    gi_wp2_with fail
    go_ret
    exact .inl ⟨rfl, by simpa [AT.told] using hJ, Below.refl _ _⟩
  | node tl v tr ihl ihr =>
    intro n p lv pre W ht h0 h1 hJ hN hQ
    have hQl : ∀ x ∈ tl.told (lv + 1), Q x := fun x hx => hQ x (by simp [AT.told, hx])
    have hQr : ∀ x ∈ tr.told (lv + 1), Q x := fun x hx => hQ x (by simp [AT.told, hx])
    have hQv : Q ⟨v, lv⟩ := hQ _ (by simp [AT.told])
    clear hQ
    obtain ⟨b, pl, pr, rfl, hb, c0, c1, c2, c3, c4, hl, hr⟩ := ht.parts
    have hdd : ∀ k : Nat, (F.depth.isSome = true → 1 ≤ k) := fun k h => by rw [hd] at h; cases h
    have hht : ((AT.node tl v tr).ht : Int) = 1 + max (tl.ht : Int) tr.ht := by simp only [AT.ht]; omega
    have hll : (tl.told (lv + 1)).length = tl.its := AT.told_length _ _
    rw [hht] at h1
    simp only [AT.its] at hN
    have hU : undef = Value.tuple #[] := rfl
    have HTD := hide (show (AT.node tl v tr).told lv = tl.told (lv + 1) ++ ⟨v, lv⟩ :: tr.told (lv + 1) from rfl)
    generalize (AT.node tl v tr).told lv = TD at HTD ⊢
    have hy2 : ∀ W1, J (pre ++ tl.told (lv + 1)) W1 → Below n₀ W W1 → YieldAt F (n - 1) Tryz.prog l #[.int .i64 lv, .agg #[.int .i64 v.off, .int .i64 v.len, .int .i64 v.brk]] W1 fun e W2 =>
        (e = .returned (.bool true) ∧ J (pre ++ tl.told (lv + 1) ++ [⟨v, lv⟩]) W2 ∧ Below n₀ W W2 ∧ W2.cell? ⟨b, 4, none⟩ = some (.pointer pr) ∧ IsT n₀ W2 pr tr) ∨ (e = .returned (.bool false) ∧ Jx (pre ++ tl.told (lv + 1) ++ [⟨v, lv⟩]) W2) := fun W1 hJ1 hb1 =>
      YieldAt.mono (hY (n - 1) _ ⟨v, lv⟩ W1 hJ1 (by simp [hll]; omega) hQv) fun e W2 h => h.elim
        (fun ⟨he, hj, hb2⟩ => .inl ⟨he, hj, hb1.trans hb2, ((hb1.trans hb2).cell (p := ⟨b, 4, none⟩) hb).trans c4, hr.below (hb1.trans hb2)⟩) .inr
    have ih1 := (ihl (n - 1) pl (lv + 1) pre W hl (by omega) (by omega) hJ (by omega) hQl).mono (R' := fun e W1 =>
        (e = .returned (.bool true) ∧ W1.cell? ⟨b, 0, none⟩ = some (.int .i64 v.off) ∧ W1.cell? ⟨b, 1, none⟩ = some (.int .i64 v.len) ∧ W1.cell? ⟨b, 2, none⟩ = some (.int .i64 v.brk) ∧ YieldAt F (n - 1) Tryz.prog l #[.int .i64 lv, .agg #[.int .i64 v.off, .int .i64 v.len, .int .i64 v.brk]] W1 fun e W2 =>
          (e = .returned (.bool true) ∧ J (pre ++ tl.told (lv + 1) ++ [⟨v, lv⟩]) W2 ∧ Below n₀ W W2 ∧ W2.cell? ⟨b, 4, none⟩ = some (.pointer pr) ∧ IsT n₀ W2 pr tr) ∨ (e = .returned (.bool false) ∧ Jx (pre ++ tl.told (lv + 1) ++ [⟨v, lv⟩]) W2)) ∨
        (e = .returned (.bool false) ∧ ∃ q, q <+: tl.told (lv + 1) ∧ Jx (pre ++ q) W1))
      (fun e W1 h => h.elim (fun ⟨he, hj, hb1⟩ => .inl ⟨he, (hb1.cell (p := ⟨b, 0, none⟩) hb).trans c0, (hb1.cell (p := ⟨b, 1, none⟩) hb).trans c1, (hb1.cell (p := ⟨b, 2, none⟩) hb).trans c2, hy2 W1 hj hb1⟩) .inr)
    clear hy2 ihl
    refine callsIn_of_wp Tryz.func213 rfl h6 ?_ hro
    simp only [Tryz.ntmps213, List.size_toArray, List.length_cons, List.length_nil, Nat.reduceAdd, Nat.reduceSub, Array.replicate_succ, Array.replicate_zero, List.push_toArray, List.append_toArray, List.nil_append, List.cons_append]
    gi_wp2_with (first
      | ((try refine ⟨hdd _, ?_⟩); gi_at_call 213; refine ih1.mono ?_; clear ih1; rintro e W1 (⟨rfl, c0', c1', c2', fn, tmps, assign, body, hy, hR⟩ | ⟨rfl, q, hq, hx1⟩))
      | ((try refine ⟨hdd _, ?_⟩); refine hR.mono ?_; clear hR; rintro e W2 (⟨rfl, hJ2, hb2, c4', hr2⟩ | ⟨rfl, hx2⟩))
      | ((try refine ⟨hdd _, ?_⟩); gi_at_call 213; refine (ihr (n - 1) pr (lv + 1) _ _ hr2 (by omega) (by omega) hJ2 (by simp [hll]; omega) hQr).mono ?_; rintro e W3 (⟨rfl, hJ3, hb3⟩ | ⟨rfl, q, hq, hx3⟩)))
    · go_ret
      exact .inl ⟨rfl, by rw [HTD.out]; simpa [List.append_assoc] using hJ3, hb2.trans hb3⟩
    · go_ret
      obtain ⟨r, hr'⟩ := hq
      exact .inr ⟨rfl, tl.told (lv + 1) ++ ⟨v, lv⟩ :: q, ⟨r, by rw [HTD.out]; simp [← hr']⟩, by simpa [List.append_assoc] using hx3⟩
    · go_ret
      exact .inr ⟨rfl, tl.told (lv + 1) ++ [⟨v, lv⟩], ⟨tr.told (lv + 1), by rw [HTD.out]; simp⟩, by simpa [List.append_assoc] using hx2⟩
    · go_ret
      exact .inr ⟨rfl, q, hq.trans (by rw [HTD.out]; simp), hx1⟩


set_option maxHeartbeats 1000000 in
theorem all1_inQ (Q : It → Prop) (F : Fence) (hd : F.depth = none) (n : Nat) (h5 : F.fn 212) (h6 : F.fn 213) (hro : F.round = none) (l Bt Bl n₀ : Nat) (p0 : Option Addr) (T : AT) (hht : (T.ht : Int) ≤ 1048576) (hQ : ∀ x ∈ T.told 0, Q x) (J Jx : List {x : It // Q x} → World → Prop)
    (hY : ∀ pre (x : {x : It // Q x}) W, J pre W → pre.length < T.its → YieldAt F (n - 1) Tryz.prog l #[.int .i64 x.1.lv, .agg #[.int .i64 x.1.pc.off, .int .i64 x.1.pc.len, .int .i64 x.1.pc.brk]] W fun e W' =>
      (e = .returned (.bool true) ∧ J (pre ++ [x]) W' ∧ Below n₀ W W') ∨ (e = .returned (.bool false) ∧ Jx (pre ++ [x]) W'))
    (W : World) (hBt : W.cell? ⟨Bt, 0, none⟩ = some (.pointer p0)) (hBl : W.cell? ⟨Bl, 0, none⟩ = some (.int .i64 0)) (hT : IsT n₀ W p0 T) (h0 : J [] W) :
    CallsIn F n Tryz.prog 212 #[.func (.yield l) #[] #[], .pointer (some ⟨Bt, 0, none⟩), .pointer (some ⟨Bl, 0, none⟩)] W fun e W' => (∃ v, e = .returned v) ∧
      ((∃ ys : List {x : It // Q x}, ys.map (·.1) = T.told 0 ∧ J ys W') ∨ (∃ pre : List {x : It // Q x}, pre.map (·.1) <+: T.told 0 ∧ Jx pre W')) := by
  have hdd : ∀ k : Nat, (F.depth.isSome = true → 1 ≤ k) := fun k h => by rw [hd] at h; cases h
  have hp := walk_inQ Q F hd h6 hro l n₀ T.its (fun pre W => ∃ p : List {x : It // Q x}, p.map (·.1) = pre ∧ J p W) (fun pre W => ∃ p : List {x : It // Q x}, p.map (·.1) = pre ∧ Jx p W) (fun m pre x W hj hl hq => by
      obtain ⟨p, hp, hj⟩ := hj
      subst hp
      refine yieldAt_any hd m (YieldAt.mono (hY p ⟨x, hq⟩ W hj (by simpa using hl)) fun e W' h => h.elim (fun ⟨he, h1, h2⟩ => .inl ⟨he, ⟨_, by simp, h1⟩, h2⟩) (fun ⟨he, h1⟩ => .inr ⟨he, ⟨_, by simp, h1⟩⟩))) T (n - 1) p0 0 [] W hT (by omega) (by omega) ⟨[], rfl, h0⟩ (by simp) hQ
  refine callsIn_of_wp Tryz.func212 rfl h5 ?_ hro
  simp only [Tryz.ntmps212, List.size_toArray, List.length_cons, List.length_nil, Nat.reduceAdd, Nat.reduceSub, Array.replicate_succ, Array.replicate_zero, List.push_toArray, List.append_toArray, List.nil_append, List.cons_append]
  gi_wp2_with ((try refine ⟨hdd _, ?_⟩); gi_at_call 213; refine hp.mono ?_; clear hp; rintro e W1 (⟨rfl, ⟨ys, hys, hJ1⟩, _⟩ | ⟨rfl, q, hq, ys, hys, hx⟩))
  · go_end0
    exact ⟨⟨_, rfl⟩, .inl ⟨ys, by simpa using hys, hJ1⟩⟩
  · go_end0
    exact ⟨⟨_, rfl⟩, .inr ⟨ys, by rw [hys]; simpa using hq, hx⟩⟩

theorem all_stopsQ (Q : It → Prop) (F : Fence) (hd : F.depth = none) (n : Nat) (h5 : F.fn 212) (h6 : F.fn 213) (hro : F.round = none) (Bt Bl n₀ : Nat) (p0 : Option Addr) (T : AT) (hht : (T.ht : Int) ≤ 1048576) (hQ : ∀ x ∈ T.told 0, Q x) (w : World) (hBt : Bt < w.heap.size) (hBl : Bl < w.heap.size) (hn₀ : n₀ ≤ w.heap.size)
    (hc : w.cell? ⟨Bt, 0, none⟩ = some (.pointer p0)) (hc2 : w.cell? ⟨Bl, 0, none⟩ = some (.int .i64 0)) (hT : IsT n₀ w p0 T) :
    SeqStopsK F n Tryz.prog 212 #[.pointer (some ⟨Bt, 0, none⟩), .pointer (some ⟨Bl, 0, none⟩)] (fun x : {x : It // Q x} => #[Value.int .i64 x.1.lv, .agg #[.int .i64 x.1.pc.off, .int .i64 x.1.pc.len, .int .i64 x.1.pc.brk]]) (Below n₀) (fun ys => ys.map (·.1) = T.told 0) (fun pre => pre.map (·.1) <+: T.told 0) T.its w := fun l J Jx W hW _ _ hY h0 =>
  all1_inQ Q F hd n h5 h6 hro l Bt Bl n₀ p0 T hht hQ J Jx hY W ((hW.cell (p := ⟨Bt, 0, none⟩) hBt).trans hc) ((hW.cell (p := ⟨Bl, 0, none⟩) hBl).trans hc2) (hT.below (hW.mono hn₀)) h0
end Go.Proofs.YtbgngikejgihgagGreatDoor

namespace Go.Proofs.YtbgngikejgihgagGreatDoor
open Go Go.Sort Go.RowKit

/-- In a round an operation that defers nothing does what it does outside. -/
theorem wpAnyIn_round {n : Nat} {P : Program} {md : Region.Mode} {ops : Array Oper} {Q : Exit → Act → World → Prop} (l : Nat) (hd : ∀ o ∈ ops.toList, ∀ c, o.op ≠ .defer c) :
    ∀ (fuel : Nat) (listed : Array Bool) (a : Act) (w : World), wpAnyIn Fence.wide n P md ops Q fuel listed a w → wpAnyIn (Fence.wide.inRound l) n P md ops Q fuel listed a w
  | 0, _, _, _, h => h
  | fuel + 1, listed, a, w, h => by
    refine ⟨h.1, fun i hi => ?_⟩
    have h2 := h.2 i hi
    unfold wpOpIn at h2 ⊢
    cases ho : ops[i]? with
    | none => rw [ho] at h2; exact wpAnyIn_round l hd fuel _ _ _ h2
    | some o =>
      rw [ho] at h2
      simp only at h2 ⊢
      have hm : o ∈ ops.toList := by
        have := Array.mem_of_getElem? ho
        exact Array.mem_toList_iff.2 this
      split at h2
      · rename_i hw
        rw [if_pos hw]
        have h3 := Oper.wpIn_mono (fun a w => wpAnyIn_round l hd fuel _ a w) h2
        unfold Oper.wpIn at h3 ⊢
        refine ⟨h3.1, ?_⟩
        have e1 : Oper.semAt (Fence.wide.inRound l).round a.eval o = Oper.semAt Fence.wide.round a.eval o := (Oper.semAt_some l _ _ (hd o hm)).trans (Oper.semAt_none _ _).symm
        rw [e1]
        exact h3.2
      · rename_i hw
        rw [if_neg hw]
        exact ⟨h2.1, wpAnyIn_round l hd fuel _ _ _ h2.2⟩

theorem wpIn_region_round {n : Nat} {P : Program} {id l : Nat} {Q : Exit → Act → World → Prop} {a : Act} {w : World} {L : List Oper} (hm : P.follows .mixedOrders = true) (hB : Region.lexB .any L.toArray = true) (hd : ∀ o ∈ L, ∀ c, o.op ≠ .defer c)
    (h : wpQuietIn Fence.wide n P L.toArray (fun w' => ∃ p : Regrown, w' = grow (redrawn w p.d) p.os) (fun a' => ∀ w', (∃ p : Regrown, w' = grow (redrawn w p.d) p.os) → Q .normal a' w') L a) : (Code.region id L.toArray true).wpIn (Fence.wide.inRound l) n P Q a w := by
  simp only [Region.lexB, Bool.and_eq_true] at hB
  refine wpIn_region_any hm (wpAnyIn_round l (by simpa using hd) _ _ _ _ (wpAnyIn_of_quiet (C := fun w' => ∃ p : Regrown, w' = grow (redrawn w p.d) p.os) (Q := fun a' => ∀ w', (∃ p : Regrown, w' = grow (redrawn w p.d) p.os) → Q .normal a' w') rfl (fun _ w' hw' h => h w' hw') _ _ _ _ ⟨⟨w.drawn + 1, #[]⟩, by rw [grow_empty]; rfl⟩ ?_))
  have := wpAnyQIn_lex (F := Fence.wide) (n := n) (C := fun w' => ∃ p : Regrown, w' = grow (redrawn w p.d) p.os) (md := .any) hB.1 L.toArray.toList 0 (Array.replicate L.toArray.size false) a (by simp) (by simpa using hB.2) (by simpa using h)
  simpa using this

def noDefer (o : Oper) : Bool := match o.op with | .defer _ => false | _ => true
theorem noDefer_all {L : List Oper} (h : L.all noDefer = true) : ∀ o ∈ L, ∀ c, o.op ≠ .defer c := by
  intro o ho c hc
  have := List.all_eq_true.1 h o ho
  simp [noDefer, hc] at this
end Go.Proofs.YtbgngikejgihgagGreatDoor

namespace Go.Proofs.YtbgngikejgihgagGreatDoor
open Go Go.RowKit Go.Shelf Go.Sort
set_option linter.unusedVariables false
attribute [local go_sem] Oper.semAt_some

/-- A core as it lies: a store and a root. -/
def PK (w : World) (c b o n cap : Nat) (u : Option Addr) : Prop := w.heap[c]? = some (.cells #[.slice (some ⟨b, o, none⟩) n cap, .pointer u] 216 (0, 0))
theorem PK.below {B : Nat} {w w' : World} {c b o n cap : Nat} {u : Option Addr} (h : PK w c b o n cap u) (hb : Below B w w') (hB : c < B) : PK w' c b o n cap u := (hb.block c hB).trans h
theorem PK.lt {w : World} {c b o n cap : Nat} {u : Option Addr} (h : PK w c b o n cap u) : c < w.heap.size := (Array.getElem?_eq_some_iff.1 h).1
theorem PK.c0 {w : World} {c b o n cap : Nat} {u : Option Addr} (h : PK w c b o n cap u) : w.cell? ⟨c, 0, none⟩ = some (.slice (some ⟨b, o, none⟩) n cap) := by rw [cell_of_row w _ 0 _ _ _ h]; rfl
theorem PK.c1 {w : World} {c b o n cap : Nat} {u : Option Addr} (h : PK w c b o n cap u) : w.cell? ⟨c, 1, none⟩ = some (.pointer u) := by rw [cell_of_row w _ 1 _ _ _ h]; rfl

def At32' (w : World) (b o : Nat) (zs : List Int) : Prop := ∀ i, i < zs.length → w.cell? ⟨b, o + i, none⟩ = some (.int .i32 (zs.getD i 0))
theorem KeepsOthers.of_below {W W' : World} (hb : Below W.heap.size W W') : KeepsOthers W W' := ⟨hb.size, fun k o hk _ => (hb.block k (Array.getElem?_eq_some_iff.1 hk).1).trans hk⟩
/-- The piece that is measured is the piece, or not. -/
theorem pc_ne (zs : List Int) (p : Pc) (h : p.off + p.len ≤ zs.length) (h0 : 0 ≤ p.off) (h1 : 0 ≤ p.len) : wpB zs p = decide (p.brk = brk ((zs.drop p.off.toNat).take p.len.toNat)) := by
  unfold wpB ptx
  rw [decide_eq_true h, Bool.true_and]

set_option maxRecDepth 100000 in
set_option maxHeartbeats 4000000 in
theorem checkPN (zs : List Int) (T : AT) (u : Option Addr) (bs : List Nat) (base c b o cap : Nat) (w : World) (hc : ∀ i, i < zs.length → w.cell? ⟨b, o + i, none⟩ = some (.int .i32 (zs.getD i 0))) (hb : b < w.heap.size) (hn : zs.length ≤ 1048576) (hcap : zs.length ≤ cap) (hm : cap ≤ maxLen) (hT : Lies w base T u bs) (hok : T.ok) (hk : PK w c b o zs.length cap u) :
    Calls Tryz.prog 137 #[.pointer (some ⟨c, 0, none⟩)] w fun e w' => e = .returned (if wps zs (T.told 0) then .nilIface else .iface 181 (.int .i64 1)) ∧ Below w.heap.size w w' := by
  obtain ⟨res, hres⟩ : ∃ res, res = (if wps zs (T.told 0) then Value.nilIface else .iface 181 (.int .i64 1)) := ⟨_, rfl⟩
  rw [← hres]
  have HRES := hide hres
  clear hres
  have bT := hok.bd
  have hht : (T.ht : Int) ≤ 8192 := by have := ht_le_its T; omega
  have HIT := hide (show IsT w.heap.size w u T from ⟨base, bs, hT, fun x hx => (hT.lt x hx).2⟩)
  have HPC : Hid (∀ x ∈ T.told 0, pcOk x.pc = true) := hide fun x hx => hok.1 _ (by rw [← told_pcs T 0]; exact List.mem_map.2 ⟨x, hx, rfl⟩)
  have hclt := hk.lt
  have HK := hide hk
  have HCC := hide hc
  have HB0 := hide ((((Below.refl w.heap.size w).alloc (Nat.le_refl _) (.cells #[.pointer (some ⟨c, 0, none⟩)] 130)).alloc (by simp) (.cells #[.nilIface] 100)))
  have c1 := (HB0.out.cell (p := ⟨c, 1, none⟩) hclt).trans hk.c1
  have P0 := (Boxed.new w 130 (.pointer (some ⟨c, 0, none⟩))).alloc (.cells #[.nilIface] 100)
  have R0 := Boxed.new (w.alloc (.cells #[.pointer (some ⟨c, 0, none⟩)] 130)) 100 .nilIface
  rw [World.size_alloc] at R0
  have p0c := P0.cell
  have hs0 : ((w.alloc (.cells #[.pointer (some ⟨c, 0, none⟩)] 130)).alloc (.cells #[.nilIface] 100)).heap.size = w.heap.size + 2 := by simp
  clear hT hk hc
  refine (callsIn_wide (n := 5)).1 ?_
  refine callsIn_of_wp_marks Tryz.func137 rfl trivial ?_ rfl
  simp only [Tryz.ntmps137, List.size_toArray, List.length_cons, List.length_nil, Nat.reduceAdd, Nat.reduceSub, Array.replicate_succ, Array.replicate_zero, List.push_toArray, List.append_toArray, List.nil_append, List.cons_append]
  gi_wp2_with ((try refine ⟨trivial, ?_⟩); gi_at_call 179; refine (all_in Fence.wide _ trivial rfl _ _).mono ?_; rintro e w3 ⟨rfl, rfl⟩)
  have hI0 := (P0.alloc (.cells #[.pointer u] 212)).alloc (.cells #[.int .i64 0] 3)
  have hR0 := (R0.alloc (.cells #[.pointer u] 212)).alloc (.cells #[.int .i64 0] 3)
  have hN0 := (Boxed.new ((w.alloc (.cells #[.pointer (some ⟨c, 0, none⟩)] 130)).alloc (.cells #[.nilIface] 100)) 212 (.pointer u)).alloc (.cells #[.int .i64 0] 3)
  have hV0 := Boxed.new (((w.alloc (.cells #[.pointer (some ⟨c, 0, none⟩)] 130)).alloc (.cells #[.nilIface] 100)).alloc (.cells #[.pointer u] 212)) 3 (.int .i64 0)
  have hBW := (HB0.out.alloc (by omega) (.cells #[.pointer u] 212)).alloc (by simp; omega) (.cells #[.int .i64 0] 3)
  have hs3 : ((((w.alloc (.cells #[.pointer (some ⟨c, 0, none⟩)] 130)).alloc (.cells #[.nilIface] 100)).alloc (.cells #[.pointer u] 212)).alloc (.cells #[.int .i64 0] 3)).heap.size = w.heap.size + 4 := by simp
  rw [World.size_alloc, World.size_alloc] at hN0
  rw [World.size_alloc, World.size_alloc, World.size_alloc] at hV0
  obtain ⟨W0, hW0⟩ : ∃ W0, (((w.alloc (.cells #[.pointer (some ⟨c, 0, none⟩)] 130)).alloc (.cells #[.nilIface] 100)).alloc (.cells #[.pointer u] 212)).alloc (.cells #[.int .i64 0] 3) = W0 := ⟨_, rfl⟩
  rw [hW0] at hI0 hN0 hV0 hR0 hBW hs3 ⊢
  refine wpIn_rangeFunc_ownH rfl (by omega) (gf := 212) (lb := #[.pointer (some ⟨w.heap.size + 1 + 1, 0, none⟩), .pointer (some ⟨w.heap.size + 1 + 1 + 1, 0, none⟩)]) rfl trivial (enters_of Tryz.func212 (by kernel_rfl) rfl)
    (all_stopsQ (fun x => pcOk x.pc = true) Fence.wide rfl _ trivial trivial rfl (w.heap.size + 1 + 1) (w.heap.size + 1 + 1 + 1) w.heap.size u T (by omega) HPC.out W0 (by omega) (by omega) (by omega) hN0.cell hV0.cell (HIT.out.below hBW)) belowK_t (belowK_b (by omega)) (Below.refl _ _) (fun _ => rfl)
    (fun pre W => wps zs (pre.map (·.1)) = true ∧ (Boxed W w.heap.size 130 (.pointer (some ⟨c, 0, none⟩)) ∧ (Boxed W (w.heap.size + 1) 100 .nilIface ∧ Below w.heap.size w W)))
    (fun cd pre W => (cd = .ret ∧ wps zs (pre.map (·.1)) = false) ∧ (Boxed W (w.heap.size + 1) 100 (.iface 181 (.int .i64 1)) ∧ Below w.heap.size w W))
    (OwnFrom.and (fun _ _ _ _ hs _ _ => hs) (OwnFrom.and (Own.from (boxed_own w.heap.size 130 (fun _ => .pointer (some ⟨c, 0, none⟩))) _) (OwnFrom.and (Own.from (boxed_own (w.heap.size + 1) 100 (fun _ => .nilIface)) _) (ownFrom_below (Nat.le_refl _) (by omega)))))
    (fun _ => OwnFrom.and (fun _ _ _ _ hs _ _ => hs) (OwnFrom.and (Own.from (boxed_own (w.heap.size + 1) 100 (fun _ => .iface 181 (.int .i64 1))) _) (ownFrom_below (Nat.le_refl _) (by omega))))
    ⟨rfl, hI0, hR0, hBW⟩
    (fun x a' W => ∃ Bx, True ∧ W.heap[Bx]? = some (.cells #[.int .i64 x.1.pc.off, .int .i64 x.1.pc.len, .int .i64 x.1.pc.brk] 143 (0, 0)) ∧ a' = { tmps := #[.pointer (some ⟨c, 0, none⟩), .pointer (some ⟨w.heap.size, 0, none⟩), .pointer (some ⟨w.heap.size + 1, 0, none⟩), undef, .pointer (some ⟨Bx, 0, none⟩), .pointer (some ⟨c, 0, none⟩), .pointer (some ⟨c, 0, none⟩), .pointer (some ⟨c, 1, none⟩), .pointer u, .func (.func 212) #[] #[.pointer (some ⟨w.heap.size + 1 + 1, 0, none⟩), .pointer (some ⟨w.heap.size + 1 + 1 + 1, 0, none⟩)], .int .i64 x.1.lv, .agg #[.int .i64 x.1.pc.off, .int .i64 x.1.pc.len, .int .i64 x.1.pc.brk], undef, undef, undef, undef, undef, undef, undef, undef, undef, undef, undef, undef, undef, undef, undef, undef, undef, undef, undef, undef, undef, undef], defers := [] })
    (fun x a' _ W W' row hs hg hr => by
      obtain ⟨Bx, h1, h2, h3⟩ := hs
      refine ⟨Bx, h1, (hg.block Bx (Array.getElem?_eq_some_iff.1 h2).1 (fun e => ?_)).trans h2, h3⟩
      obtain ⟨_, o, ho, hc⟩ := hr Bx e.symm
      rw [h2] at ho; cases ho; cases hc)
    ?assign ?body ?done ?stop
  case assign =>
    rintro l pre x W K ⟨hps, hP, hR, hbW⟩ hK
    gi_wp2
    have hle := hbW.size
    refine hK _ _ ((KeepsOthers.alloc _ _).from _) ((Below.refl _ W).alloc hle _) ⟨hps, hP.alloc _, hR.alloc _, hbW.alloc hle _⟩ ⟨W.heap.size, trivial, heap_alloc_new _ _, rfl⟩
  case body =>
    rintro l pre ⟨x, hpx0⟩ a' W hl ⟨r, hr⟩ ⟨hps, hP, hR, hbW⟩ ⟨Bx, _, hkx, rfl⟩ hlt
    have hpx := hpx0
    simp only [pcOk, decide_eq_true_eq] at hpx
    have HSN := hide (show wps zs (List.map (fun x => x.1) (pre ++ [⟨x, hpx0⟩])) = (wps zs (List.map (fun x => x.1) pre) && wpB zs x.pc) by rw [List.map_append, List.map_cons, List.map_nil, wps_snoc])
    have hc := hP.cell
    have k0 : W.cell? ⟨Bx, 0, none⟩ = some (.int .i64 x.pc.off) := by rw [cell_of_row W _ 0 _ _ _ hkx]; rfl
    have k1 : W.cell? ⟨Bx, 1, none⟩ = some (.int .i64 x.pc.len) := by rw [cell_of_row W _ 1 _ _ _ hkx]; rfl
    have k2 : W.cell? ⟨Bx, 2, none⟩ = some (.int .i64 x.pc.brk) := by rw [cell_of_row W _ 2 _ _ _ hkx]; rfl
    have hlx : Bx < W.heap.size := (Array.getElem?_eq_some_iff.1 hkx).1
    have hle := hbW.size
    have HR := hide hr
    have HL := hide hl
    have HPS := hide hps
    have HPB := hide hP
    have HRB := hide hR
    have HBW := hide hbW
    have hcs := (hbW.cell (p := ⟨c, 0, none⟩) hclt).trans HK.out.c0
    have HCW : Hid (At32' W b o zs) := hide fun i hi => (hbW.cell (p := ⟨b, o + i, none⟩) hb).trans (HCC.out i hi)
    clear hr hl hkx hps hP hR hbW
    obtain ⟨⟨po, pl, pb⟩, lv⟩ := x
    simp only at *
    have hwr : IntKind.i64.wrap (po + pl) = po + pl := by rw [IntKind.wrap_i64]; omega
    have q0 := fun d os => cell_regrown k0 d os
    have q1 := fun d os => cell_regrown k1 d os
    have q2 := fun d os => cell_regrown k2 d os
    have qc := fun d os => cell_regrown hc d os
    have qs := fun d os => cell_regrown hcs d os
    by_cases hfit : po + pl > (zs.length : Int)
    · have hd : decide ((zs.length : Int) < po + pl) = true := by simp; omega
      have HWF := hide (show wpB zs ⟨po, pl, pb⟩ = false by simp only [wpB, Bool.and_eq_false_iff, decide_eq_false_iff_not]; left; omega)
      clear k0 k1 k2 hc hcs
      gi_wp2_with fail
      refine wpIn_region_round (by kernel_rfl) (by kernel_rfl) (noDefer_all (by kernel_rfl)) ?_
      repeat (refine wpQuietIn_step (fun _ _ _ _ => trivial) (fun K hK => ?_); go_simp; first | (refine hK _ ?_; clear hK K) | (apply Exists.intro; refine ⟨fun _ => ?_, hK _ ?_⟩; (fail); clear hK K))
      refine wpQuietIn_nil ?_
      intro _ hw'
      obtain ⟨⟨dq, osq⟩, hw''⟩ := hw'
      subst hw''
      have HB1 := hide (below_regrown W dq osq)
      clear q0 q1 q2 qc qs
      generalize grow (redrawn W dq) osq = W1 at *
      have HRB1 := hide (show Boxed W1 _ _ _ from (HB1.out.block _ HRB.out.lt).trans HRB.out)
      have hcr1 := HRB1.out.cell
      have hfr1 := HRB1.out.frozen
      gi_wp2_with fail
      exact ⟨((KeepsOthers.of_below HB1.out).trans (KeepsOthers.setCell _ _ _)).from _, ⟨rfl, HSN.out.trans (by rw [HWF.out, Bool.and_false])⟩, HRB1.out.set _, (HBW.out.trans (HB1.out.mono hle)).setCell (by simp) _⟩
    · have hd : decide ((zs.length : Int) < po + pl) = false := by simp; omega
      obtain ⟨q, rfl⟩ : ∃ q : Nat, po = q := ⟨po.toNat, by omega⟩
      obtain ⟨m, rfl⟩ : ∃ m : Nat, pl = m := ⟨pl.toNat, by omega⟩
      have HWF := hide (show wpB zs ⟨(q : Int), (m : Int), pb⟩ = decide (pb = brk ((zs.drop q).take m)) by unfold wpB ptx; rw [decide_eq_true (Int.not_lt.1 hfit), Bool.true_and]; rfl)
      have HMQ := hide (fun d os => CallsIn.regrown_of (F := Fence.wide) (r := 5 - 1 - 1 - 1) (callsIn_wide.2 (measureN zs c b o cap q m (grow (redrawn W d) os) (fun i hi => cell_regrown (HCW.out i hi) d os) (qs d os) (Nat.lt_of_lt_of_le hb (Nat.le_trans hle (below_regrown W d os).size)) (Nat.lt_of_lt_of_le hclt (Nat.le_trans hle (below_regrown W d os).size)) (by omega) (by omega) hcap hm hn)))
      generalize brk ((zs.drop q).take m) = br at *
      clear k0 k1 k2 hc hcs
      gi_wp2_with fail
      refine wpIn_region_round (by kernel_rfl) (by kernel_rfl) (noDefer_all (by kernel_rfl)) ?_
      by_cases hq : pb = br
      · subst hq
        repeat (refine wpQuietIn_step (fun _ _ _ _ => trivial) (fun K hK => ?_); go_simp; first | (refine hK _ ?_; clear hK K) | (apply Exists.intro; refine ⟨fun _ => ?_, hK _ ?_⟩; (first | exact ⟨trivial, HMQ.out _ _⟩ | exact HMQ.out _ _); clear hK K))
        refine wpQuietIn_nil ?_
        intro _ hw'
        obtain ⟨⟨dq, osq⟩, hw''⟩ := hw'
        subst hw''
        have HB1 := hide (below_regrown W dq osq)
        clear q0 q1 q2 qc qs HMQ
        generalize grow (redrawn W dq) osq = W1 at *
        gi_wp2_with fail
        exact ⟨(KeepsOthers.of_below HB1.out).from _, HB1.out.mono hle, HSN.out.trans (by rw [HPS.out, HWF.out]; simp), (HB1.out.block _ HPB.out.lt).trans HPB.out, (HB1.out.block _ HRB.out.lt).trans HRB.out, HBW.out.trans (HB1.out.mono hle)⟩
      · have hqd : decide (pb = br) = false := decide_eq_false hq
        repeat (refine wpQuietIn_step (fun _ _ _ _ => trivial) (fun K hK => ?_); go_simp; first | (refine hK _ ?_; clear hK K) | (apply Exists.intro; refine ⟨fun _ => ?_, hK _ ?_⟩; (first | exact ⟨trivial, HMQ.out _ _⟩ | exact HMQ.out _ _); clear hK K))
        refine wpQuietIn_nil ?_
        intro _ hw'
        obtain ⟨⟨dq, osq⟩, hw''⟩ := hw'
        subst hw''
        have HB1 := hide (below_regrown W dq osq)
        clear q0 q1 q2 qc qs HMQ
        generalize grow (redrawn W dq) osq = W1 at *
        have HRB1 := hide (show Boxed W1 _ _ _ from (HB1.out.block _ HRB.out.lt).trans HRB.out)
        have hcr1 := HRB1.out.cell
        have hfr1 := HRB1.out.frozen
        gi_wp2_with fail
        exact ⟨((KeepsOthers.of_below HB1.out).trans (KeepsOthers.setCell _ _ _)).from _, ⟨rfl, HSN.out.trans (by rw [HWF.out, hqd, Bool.and_false])⟩, HRB1.out.set _, (HBW.out.trans (HB1.out.mono hle)).setCell (by simp) _⟩
  case done =>
    rintro D ys W hD hys ⟨hps, hP, hR, hbW⟩ hK
    have hcr := hR.cell
    have hfr := hR.frozen
    rw [hys] at hps
    have HPS := hide hps
    have HBW2 := hide hbW
    have HR2 := hide hR
    have HKD := hide hK
    have HD := hide hD
    clear hps hbW hR hK hD
    gi_wp2
    have hDn : D ≠ w.heap.size + 1 := by have := HD.out; omega
    have hK' : (W.setCell ⟨w.heap.size + 1, 0, none⟩ .nilIface).heap[D]? = some (.deferred (some [])) := (heap_setCell_other W ⟨w.heap.size + 1, 0, none⟩ D _ hDn).trans HKD.out
    have bR4 := HR2.out.set .nilIface
    have bW4 := HBW2.out.setCell (p := ⟨w.heap.size + 1, 0, none⟩) (by simp) .nilIface
    refine ⟨by simp, .inl ⟨_, _, rfl, run_takeDeferred hK', ?_⟩⟩
    have bR5 := bR4.kept (grownBy_putObj' _ D (.deferred none)) (fun e => hDn (by cases e; rfl))
    have bW5 := bW4.trans (belowK_b (w := w) (Nat.le_refl _) _ D _ (.deferred none) (by have := HD.out; omega) hK' rfl rfl)
    have hc5 := bR5.cell
    exact ⟨.nilIface, by simp [results, Tryz.results137, go_sem, hc5], by rw [HRES.out, HPS.out]; rfl, bW5⟩
  case stop =>
    rintro D cd pre W hD hpre ⟨⟨rfl, hps⟩, hR, hbW⟩ hK
    have HPS := hide (wps_prefix hpre hps)
    have hDn : D ≠ w.heap.size + 1 := by omega
    gi_wp2
    refine ⟨by simp, .inl ⟨_, _, rfl, run_takeDeferred hK, ?_⟩⟩
    have bR5 := hR.kept (grownBy_putObj' _ D (.deferred none)) (fun e => hDn (by cases e; rfl))
    have bW5 := hbW.trans (belowK_b (w := w) (Nat.le_refl _) _ D _ (.deferred none) (by omega) hK rfl rfl)
    have hc5 := bR5.cell
    exact ⟨.iface 181 (.int .i64 1), by simp [results, Tryz.results137, go_sem, hc5], by rw [HRES.out, HPS.out]; rfl, bW5⟩
end Go.Proofs.YtbgngikejgihgagGreatDoor

namespace Go.Proofs.YtbgngikejgihgagGreatDoor
open Go Go.RowKit

theorem Tryz.fld0 (a b c : Value) (w : World) : (Instr.field 332 (.agg #[a, b, c]) 0).run Tryz.prog w = .ok a w := by kernel_rfl
theorem Tryz.fld1 (a b c : Value) (w : World) : (Instr.field 332 (.agg #[a, b, c]) 1).run Tryz.prog w = .ok b w := by kernel_rfl
theorem Tryz.fld2 (a b c : Value) (w : World) : (Instr.field 332 (.agg #[a, b, c]) 2).run Tryz.prog w = .ok c w := by kernel_rfl
end Go.Proofs.YtbgngikejgihgagGreatDoor
