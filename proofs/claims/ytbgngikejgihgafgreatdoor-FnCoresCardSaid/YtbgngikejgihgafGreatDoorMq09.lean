import Derived.Lib.QuietBelowIn
import Derived.RangeFuncCalls
import Derived.Test.YtbgngikejgihgafGreatDoorMq08
namespace Go.Proofs.YtbgngikejgihgafGreatDoor
open Go Go.RowKit
set_option linter.unusedVariables false
set_option maxRecDepth 100000
set_option maxHeartbeats 8000000
theorem JM (zs : List Int) (v : Value) (w : World) (h : Rd .i32 w v zs) (hn : zs.length <= 1099511627776) :
  Calls Tryz.prog 47 #[v] w fun e w' => e = .returned (.int .i64 (brk zs)) ∧ w' = w := by
 rcases h with ⟨ao, cap, rfl, rfl⟩ | ⟨b, off, cap, rfl, hp, hc⟩
 ·go_enter Tryz.func47, Tryz.ntmps47
  go_wp2;refine wp_loop_rounds 1 ?_;rw [rounds_succ];go_wp2;go_ret;exact ⟨rfl, rfl⟩
 ·have HC := hide hc
  clear hc hp;go_enter Tryz.func47, Tryz.ntmps47;go_wp2
  go_loop [3, 8] (fun n i => ∃ k : Nat, k <= zs.length ∧ i = .int .i64 k ∧ n = .int .i64 (brk (zs.take k))) (fun _ i => zs.length - (intOf i).toNat)
  case atStart => exact ⟨0, Nat.zero_le _, rfl, rfl⟩
  case round =>
   obtain ⟨k, hk, rfl, rfl⟩ := hrel;have hbd := Zr (zs.take k);have hle : (zs.take k).length <= k := List.length_take_le _ _
   by_cases hlt : k < zs.length
   ·have hx := HC.out k hlt
    have hsn := JJ zs k hlt;generalize zs.getD k 0 = z at hx hsn
    by_cases hz : z = 10
    ·rw [if_pos hz] at hsn
     subst hz;have HS := hide hsn;clear hsn;go_wp2;go_round
     case rel => exact ⟨k + 1, by omega, by go_num, by rw [HS.out]⟩
     case measure => simp [intOf]; omega
    ·rw [if_neg hz] at hsn
     have hz' : (z == 10) = false := by simp [hz]
     have HS := hide hsn;clear hsn hz;go_wp2;go_round
     case rel => exact ⟨k + 1, by omega, by go_num, by rw [HS.out, Int.add_zero]⟩
     case measure => simp [intOf]; omega
   ·obtain rfl : k = zs.length := by omega
    go_wp2;go_ret;exact ⟨rfl, rfl⟩
theorem JO (zs : List Int) (v : Value) (w : World) (h : Rd .i32 w v zs) (hn : zs.length <= 1099511627776) :
  Calls Tryz.prog 107 #[v] w fun e w' => e = .returned (.int .i64 (brk zs)) ∧ w' = w := by
 rcases h with ⟨ao, cap, rfl, rfl⟩ | ⟨b, off, cap, rfl, hp, hc⟩
 ·go_enter Tryz.func107, Tryz.ntmps107
  go_wp2;refine wp_loop_rounds 1 ?_;rw [rounds_succ];go_wp2;go_ret;exact ⟨rfl, rfl⟩
 ·have HC := hide hc
  clear hc hp;go_enter Tryz.func107, Tryz.ntmps107;go_wp2
  go_loop [3, 8] (fun n i => ∃ k : Nat, k <= zs.length ∧ i = .int .i64 k ∧ n = .int .i64 (brk (zs.take k))) (fun _ i => zs.length - (intOf i).toNat)
  case atStart => exact ⟨0, Nat.zero_le _, rfl, rfl⟩
  case round =>
   obtain ⟨k, hk, rfl, rfl⟩ := hrel;have hbd := Zr (zs.take k);have hle : (zs.take k).length <= k := List.length_take_le _ _
   by_cases hlt : k < zs.length
   ·have hx := HC.out k hlt
    have hsn := JJ zs k hlt;generalize zs.getD k 0 = z at hx hsn
    by_cases hz : z = 10
    ·rw [if_pos hz] at hsn
     subst hz;have HS := hide hsn;clear hsn;go_wp2;go_round
     case rel => exact ⟨k + 1, by omega, by go_num, by rw [HS.out]⟩
     case measure => simp [intOf]; omega
    ·rw [if_neg hz] at hsn
     have hz' : (z == 10) = false := by simp [hz]
     have HS := hide hsn;clear hsn hz;go_wp2;go_round
     case rel => exact ⟨k + 1, by omega, by go_num, by rw [HS.out, Int.add_zero]⟩
     case measure => simp [intOf]; omega
   ·obtain rfl : k = zs.length := by omega
    go_wp2;go_ret;exact ⟨rfl, rfl⟩
theorem Y5 (B : Nat) (w : World) (n : Nat) : Below B w (w.drewN n) := by
 induction n generalizing w with
 | zero => exact Below.refl _ _
 | succ n ih => exact ⟨(ih w.drew).os, (ih w.drew).tape, (ih w.drew).output, (ih w.drew).size, (ih w.drew).block⟩
theorem JP : ∀ (T : AT) (d : Int), (T.told d).map It.pc = T.flat
 | .nil, _ => rfl
 | .node l p r, d => by simp only [AT.told, List.map_append, List.map_cons, AT.flat, JP l, JP r]
theorem rd_cut {w : World} {b o cap : Nat} {zs : List Int} (hc : ∀ i, i < zs.length -> w.cell? ⟨b, o + i, none⟩ = some (.int .i32 (zs.getD i 0))) (k l : Nat) (hkl : k + l <= zs.length) (h0 : 0 < l) (hcap : zs.length <= cap) (hm : cap <= maxLen) :
  Rd .i32 w (.slice (some ⟨b, o + k, none⟩) l (cap - k)) ((zs.drop k).take l) := by
 have hl : ((zs.drop k).take l).length = l := by rw [List.length_take, List.length_drop]; omega
 refine .inr ⟨b, o + k, cap - k, by rw [hl], ⟨by omega, by omega, by omega⟩, fun i hi => ?_⟩
 rw [hl] at hi
 rw [show o + k + i = o + (k + i) by omega, hc (k + i) (by omega)]
 congr 2
 simp only [List.getD_eq_getElem?_getD, List.getElem?_take, List.getElem?_drop];rw [if_pos hi]
theorem zBn (ao : Option Addr) (n cap : Nat) (w : World) (hn : n <= cap) (hm : cap <= maxLen) :
  Calls Tryz.prog 73 #[.slice ao n cap] w fun e w' => e = .returned (.slice ao n n) ∧ w' = w := by
 have g1 : (n : Int) <= (cap : Int) := by omega
 go_enter Tryz.func73, Tryz.ntmps73;go_wp2;go_ret;exact ⟨rfl, rfl⟩
theorem ZO (zs : List Int) (c b o cap k l : Nat) (w : World) (hc : ∀ i, i < zs.length -> w.cell? ⟨b, o + i, none⟩ = some (.int .i32 (zs.getD i 0))) (hs : w.cell? ⟨c, 0, none⟩ = some (.slice (some ⟨b, o, none⟩) zs.length cap)) (hb : b < w.heap.size) (hcw : c < w.heap.size) (hkl : k + l <= zs.length) (h0 : 0 < l) (hcap : zs.length <= cap) (hm : cap <= maxLen) (hn : zs.length <= 1048576) :
  Calls Tryz.prog 74 #[.pointer (some ⟨c, 0, none⟩), .int .i64 (k : Int), .int .i64 (l : Int)] w fun e w' => e = .returned (.agg #[.int .i64 (k : Int), .int .i64 (l : Int), .int .i64 (brk ((zs.drop k).take l))]) ∧ Below w.heap.size w w' := by
 have B0 := hide ((Below.refl w.heap.size w).alloc lR (.cells #[.int .i64 0, .int .i64 0, .int .i64 0] 87))
 have HB := hide (JO ((zs.drop k).take l) _ (w.alloc (.cells #[.int .i64 0, .int .i64 0, .int .i64 0] 87)) (rd_cut (fun i hi => (B0.out.cell (p := ⟨b, o + i, none⟩) hb).trans (hc i hi)) k l hkl h0 hcap hm) (by rw [List.length_take, List.length_drop]; omega))
 have hs0 := (B0.out.cell (p := ⟨c, 0, none⟩) hcw).trans hs;have K0 : (w.alloc (.cells #[.int .i64 0, .int .i64 0, .int .i64 0] 87)).heap[w.heap.size]? = some (.cells #[.int .i64 0, .int .i64 0, .int .i64 0] 87 (0, 0)) := heap_alloc_new _ _;have HK := hide K0;generalize brk ((zs.drop k).take l) = br at *;generalize zs.length = n at *;unfold maxLen at hm
 have g1 : (k : Int) <= (k : Int) + (l : Int) := by omega
 have g2 : (k : Int) + (l : Int) <= (cap : Int) := by omega
 have g4 : (0 : Int) <= (k : Int) + (l : Int) := by omega
 have g3 : ¬ cap = k := by omega
 clear hc K0;go_enter Tryz.func74, Tryz.ntmps74;go_wp2_with fail;generalize w.alloc (.cells #[.int .i64 0, .int .i64 0, .int .i64 0] 87) = w0 at *;refine HB.out.mono ?_;rintro e w1 ⟨rfl, hw1⟩;have hw2 := hw1.symm;subst hw2
 have c0 : w0.cell? ⟨w.heap.size, 0, none⟩ = some (.int .i64 0) := by rw [cell_of_row w0 _ 0 _ _ _ HK.out]; rfl
 have c1 : w0.cell? ⟨w.heap.size, 1, none⟩ = some (.int .i64 0) := by rw [cell_of_row w0 _ 1 _ _ _ HK.out]; rfl
 have c2 : w0.cell? ⟨w.heap.size, 2, none⟩ = some (.int .i64 0) := by rw [cell_of_row w0 _ 2 _ _ _ HK.out]; rfl
 have f0 := frozen_of_row w0 w.heap.size 0 _ _ HK.out;have f1 := frozen_of_row w0 w.heap.size 1 _ _ HK.out;have f2 := frozen_of_row w0 w.heap.size 2 _ _ HK.out;go_wp2
 refine bodyPost_ret (v := .agg #[.int .i64 (k : Int), .int .i64 (l : Int), .int .i64 br]) (by simp [results, Tryz.results74, go_sem, c0, c1, c2]) rfl ⟨rfl, ?_⟩
 exact ((B0.out.setCell (by simp) _).setCell (by simp) _).setCell (by simp) _
def wpB (zs : List Int) (p : Pc) : Bool := decide (p.off + p.len <= zs.length) && decide (p.brk = brk (ptx zs p))
theorem zBo {zs : List Int} {p : Pc} (h : pcOk p = true) : wpB zs p = true ↔ WP zs p := by
 simp only [pcOk, decide_eq_true_eq] at h;simp only [wpB, Bool.and_eq_true, decide_eq_true_eq, WP];constructor
 ·rintro ⟨a, b⟩; exact ⟨by omega, by omega, a, b⟩
 ·rintro ⟨_, _, a, b⟩; exact ⟨a, b⟩
def wps (zs : List Int) (xs : List It) : Bool := xs.all fun x => wpB zs x.pc
theorem KS (zs : List Int) (xs : List It) (x : It) : wps zs (xs ++ [x]) = (wps zs xs && wpB zs x.pc) := by simp [wps]
theorem zA9 {zs : List Int} {p xs : List It} (h : p <+: xs) (hp : wps zs p = false) : wps zs xs = false := by
 obtain ⟨r, rfl⟩ := h;simp only [wps, List.all_append, Bool.and_eq_false_iff];exact .inl hp
def pRead (zs : List Int) (xs : List It) : Option AT :=
 match readT xs with
 | none => none
 | some T => if zs.length <= 220000 ∧ wps zs xs = true then some T else none
theorem jr {zs : List Int} {xs : List It} {T : AT} (h : pRead zs xs = some T) : readT xs = some T ∧ zs.length <= 220000 ∧ T.wp zs ∧ xs = T.told 0 := by
 unfold pRead at h
 cases hr : readT xs with
 | none => rw [hr] at h; cases h
 | some U =>
  rw [hr] at h;simp only at h
  split at h
  ·rename_i hc
   cases h;obtain ⟨h1, _, h3, _⟩ := yk hr
   refine ⟨rfl, hc.1, (YD zs T 0).1 fun x hx => ?_, h3⟩
   have hp : pcOk x.pc = true := by
    simp only [okT, Bool.and_eq_true, List.all_eq_true] at h1;exact h1.1.1.2 x (h3 ▸ hx)
   exact (zBo hp).1 (List.all_eq_true.1 hc.2 x (h3 ▸ hx))
  ·cases h
theorem XT (zs : List Int) (xs : List It) : (pRead zs xs).isSome = (decide (zs.length <= 220000) && okT xs && wps zs xs) := by
 unfold pRead
 cases hr : readT xs with
 | none => simp [zA4 hr]
 | some U =>
  have h1 := (yk hr).1;simp only [h1, Bool.and_true]
  by_cases h2 : zs.length <= 220000 <;> cases h3 : wps zs xs <;> simp [h2]
end Go.Proofs.YtbgngikejgihgafGreatDoor
namespace Go.Proofs.YtbgngikejgihgafGreatDoor
open Go Go.Sort Go.RowKit
set_option linter.unusedVariables false
set_option maxRecDepth 100000
set_option maxHeartbeats 8000000
theorem yN {n : Nat} {P : Program} {md : Region.Mode} {ops : Array Oper} {Q : Exit -> Act -> World -> Prop} (l : Nat) (hd : ∀ o ∈ ops.toList, ∀ c, o.op ≠ .defer c) :
  ∀ (fuel : Nat) (listed : Array Bool) (a : Act) (w : World), wpAnyIn Fence.wide n P md ops Q fuel listed a w -> wpAnyIn (Fence.wide.inRound l) n P md ops Q fuel listed a w
 | 0, _, _, _, h => h
 | fuel + 1, listed, a, w, h => by
  refine ⟨h.1, fun i hi => ?_⟩
  have h2 := h.2 i hi;unfold wpOpIn at h2 |-
  cases ho : ops[i]? with
  | none => rw [ho] at h2; exact yN l hd fuel _ _ _ h2
  | some o =>
   rw [ho] at h2;simp only at h2 |-
   have hm : o ∈ ops.toList := by
    have := Array.mem_of_getElem? ho;exact Array.mem_toList_iff.2 this
   split at h2
   ·rename_i hw
    rw [if_pos hw]
    have h3 := Oper.wpIn_mono (fun a w => yN l hd fuel _ a w) h2
    unfold Oper.wpIn at h3 |-;refine ⟨h3.1, ?_⟩;have e1 : Oper.semAt (Fence.wide.inRound l).round a.eval o = Oper.semAt Fence.wide.round a.eval o := (Oper.semAt_some l _ _ (hd o hm)).trans (Oper.semAt_none _ _).symm;rw [e1];exact h3.2
   ·rename_i hw
    rw [if_neg hw];exact ⟨h2.1, yN l hd fuel _ _ _ h2.2⟩
theorem jV {n : Nat} {P : Program} {id l : Nat} {Q : Exit -> Act -> World -> Prop} {a : Act} {w : World} {L : List Oper} (hm : P.follows .mixedOrders = true) (hB : Region.lexB .any L.toArray = true) (hd : ∀ o ∈ L, ∀ c, o.op ≠ .defer c)
  (h : wpQuietIn Fence.wide n P L.toArray (fun w' => ∃ p : Regrown, w' = grow (redrawn w p.d) p.os) (fun a' => ∀ w', (∃ p : Regrown, w' = grow (redrawn w p.d) p.os) -> Q .normal a' w') L a) : (Code.region id L.toArray true).wpIn (Fence.wide.inRound l) n P Q a w := by
 simp only [Region.lexB, Bool.and_eq_true] at hB
 refine wpIn_region_any hm (yN l (by simpa using hd) _ _ _ _ (wpAnyIn_of_quiet (C := fun w' => ∃ p : Regrown, w' = grow (redrawn w p.d) p.os) (Q := fun a' => ∀ w', (∃ p : Regrown, w' = grow (redrawn w p.d) p.os) -> Q .normal a' w') rfl (fun _ w' hw' h => h w' hw') _ _ _ _ ⟨⟨w.drawn + 1, #[]⟩, by rw [grow_empty]; rfl⟩ ?_))
 have := wpAnyQIn_lex (F := Fence.wide) (n := n) (C := fun w' => ∃ p : Regrown, w' = grow (redrawn w p.d) p.os) (md := .any) hB.1 L.toArray.toList 0 (Array.replicate L.toArray.size false) a (by simp) (by simpa using hB.2) (by simpa using h)
 simpa using this
def XU (o : Oper) : Bool := match o.op with | .defer _ => false | _ => true
theorem ZP {L : List Oper} (h : L.all XU = true) : ∀ o ∈ L, ∀ c, o.op ≠ .defer c := by
 intro o ho c hc;have := List.all_eq_true.1 h o ho;simp [XU, hc] at this
end Go.Proofs.YtbgngikejgihgafGreatDoor
namespace Go.Proofs.YtbgngikejgihgafGreatDoor
open Go Go.RowKit Go.Shelf Go.Sort
set_option linter.unusedVariables false
set_option maxRecDepth 100000
set_option maxHeartbeats 8000000
attribute [local go_sem] Oper.semAt_some
def PK (w : World) (c b o n cap : Nat) (u : Option Addr) : Prop := w.heap[c]? = some (.cells #[.slice (some ⟨b, o, none⟩) n cap, .pointer u] 126 (0, 0))
theorem PK.below {B : Nat} {w w' : World} {c b o n cap : Nat} {u : Option Addr} (h : PK w c b o n cap u) (hb : Below B w w') (hB : c < B) : PK w' c b o n cap u := (hb.block c hB).trans h
theorem PK.lt {w : World} {c b o n cap : Nat} {u : Option Addr} (h : PK w c b o n cap u) : c < w.heap.size := (Array.getElem?_eq_some_iff.1 h).1
theorem PK.c0 {w : World} {c b o n cap : Nat} {u : Option Addr} (h : PK w c b o n cap u) : w.cell? ⟨c, 0, none⟩ = some (.slice (some ⟨b, o, none⟩) n cap) := by rw [cell_of_row w _ 0 _ _ _ h]; rfl
theorem PK.c1 {w : World} {c b o n cap : Nat} {u : Option Addr} (h : PK w c b o n cap u) : w.cell? ⟨c, 1, none⟩ = some (.pointer u) := by rw [cell_of_row w _ 1 _ _ _ h]; rfl
def At32' (w : World) (b o : Nat) (zs : List Int) : Prop := ∀ i, i < zs.length -> w.cell? ⟨b, o + i, none⟩ = some (.int .i32 (zs.getD i 0))
theorem KeepsOthers.of_below {W W' : World} (hb : Below W.heap.size W W') : KeepsOthers W W' := ⟨hb.size, fun k o hk _ => (hb.block k (Array.getElem?_eq_some_iff.1 hk).1).trans hk⟩
theorem checkPN (zs : List Int) (T : AT) (u : Option Addr) (bs : List Nat) (base c b o cap : Nat) (w : World) (hc : ∀ i, i < zs.length -> w.cell? ⟨b, o + i, none⟩ = some (.int .i32 (zs.getD i 0))) (hb : b < w.heap.size) (hn : zs.length <= 1048576) (hcap : zs.length <= cap) (hm : cap <= maxLen) (hT : Lies w base T u bs) (hok : T.ok) (hk : PK w c b o zs.length cap u) :
  Calls Tryz.prog 86 #[.pointer (some ⟨c, 0, none⟩)] w fun e w' => e = .returned (if wps zs (T.told 0) then .nilIface else .iface 121 (.int .i64 1)) ∧ Below w.heap.size w w' := by
 obtain ⟨res, hres⟩ : ∃ res, res = (if wps zs (T.told 0) then Value.nilIface else .iface 121 (.int .i64 1)) := ⟨_, rfl⟩
 rw [<- hres];have HRES := hide hres;clear hres;have bT := hok.bd
 have hht : (T.ht : Int) <= 8192 := by have := zW T; omega
 have HIT := hide (show IsT w.heap.size w u T from ⟨base, bs, hT, fun x hx => (hT.lt x hx).2⟩)
 have HPC : Hid (∀ x ∈ T.told 0, pcOk x.pc = true) := hide fun x hx => hok.1 _ (by rw [<- JP T 0]; exact List.mem_map.2 ⟨x, hx, rfl⟩)
 have hclt := hk.lt;have HK := hide hk;have HCC := hide hc
 have HB0 := hide ((((Below.refl w.heap.size w).alloc lR (.cells #[.pointer (some ⟨c, 0, none⟩)] 71)).alloc (by simp) (.cells #[.nilIface] 68)))
 have c1 := (HB0.out.cell (p := ⟨c, 1, none⟩) hclt).trans hk.c1;have P0 := (Boxed.new w 71 (.pointer (some ⟨c, 0, none⟩))).alloc (.cells #[.nilIface] 68);have R0 := Boxed.new (w.alloc (.cells #[.pointer (some ⟨c, 0, none⟩)] 71)) 68 .nilIface;rw [World.size_alloc] at R0;have p0c := P0.cell
 have hs0 : ((w.alloc (.cells #[.pointer (some ⟨c, 0, none⟩)] 71)).alloc (.cells #[.nilIface] 68)).heap.size = w.heap.size + 2 := by simp
 clear hT hk hc;refine (callsIn_wide (n := 5)).1 ?_;refine callsIn_of_wp_marks Tryz.func86 rfl trivial ?_ rfl;simp only [Tryz.ntmps86, List.size_toArray, List.length_cons, List.length_nil, Nat.reduceAdd, Nat.reduceSub, Array.replicate_succ, Array.replicate_zero, List.push_toArray, List.append_toArray, List.nil_append, List.cons_append]
 gi_wp2_with ((try refine ⟨trivial, ?_⟩); gi_at_call 109; refine (all_in Fence.wide _ trivial rfl _ _).mono ?_; rintro e w3 ⟨rfl, rfl⟩)
 have hI0 := (P0.alloc (.cells #[.pointer u] 124)).alloc (.cells #[.int .i64 0] 3);have hR0 := (R0.alloc (.cells #[.pointer u] 124)).alloc (.cells #[.int .i64 0] 3);have hN0 := (Boxed.new ((w.alloc (.cells #[.pointer (some ⟨c, 0, none⟩)] 71)).alloc (.cells #[.nilIface] 68)) 124 (.pointer u)).alloc (.cells #[.int .i64 0] 3);have hV0 := Boxed.new (((w.alloc (.cells #[.pointer (some ⟨c, 0, none⟩)] 71)).alloc (.cells #[.nilIface] 68)).alloc (.cells #[.pointer u] 124)) 3 (.int .i64 0)
 have hBW := (HB0.out.alloc (by omega) (.cells #[.pointer u] 124)).alloc (by simp; omega) (.cells #[.int .i64 0] 3)
 have hs3 : ((((w.alloc (.cells #[.pointer (some ⟨c, 0, none⟩)] 71)).alloc (.cells #[.nilIface] 68)).alloc (.cells #[.pointer u] 124)).alloc (.cells #[.int .i64 0] 3)).heap.size = w.heap.size + 4 := by simp
 rw [World.size_alloc, World.size_alloc] at hN0;rw [World.size_alloc, World.size_alloc, World.size_alloc] at hV0;obtain ⟨W0, hW0⟩ : ∃ W0, (((w.alloc (.cells #[.pointer (some ⟨c, 0, none⟩)] 71)).alloc (.cells #[.nilIface] 68)).alloc (.cells #[.pointer u] 124)).alloc (.cells #[.int .i64 0] 3) = W0 := ⟨_, rfl⟩;rw [hW0] at hI0 hN0 hV0 hR0 hBW hs3 |-
 refine wpIn_rangeFunc_ownH rfl (by omega) (gf := 131) (lb := #[.pointer (some ⟨w.heap.size + 1 + 1, 0, none⟩), .pointer (some ⟨w.heap.size + 1 + 1 + 1, 0, none⟩)]) rfl trivial (enters_of Tryz.func131 (by kernel_rfl) rfl)
  (zA8 (fun x => pcOk x.pc = true) Fence.wide rfl _ trivial trivial rfl (w.heap.size + 1 + 1) (w.heap.size + 1 + 1 + 1) w.heap.size u T (by omega) HPC.out W0 (by omega) (by omega) (by omega) hN0.cell hV0.cell (HIT.out.below hBW)) belowK_t (belowK_b (by omega)) (Below.refl _ _) (fun _ => rfl)
  (fun pre W => wps zs (pre.map (·.1)) = true ∧ (Boxed W w.heap.size 71 (.pointer (some ⟨c, 0, none⟩)) ∧ (Boxed W (w.heap.size + 1) 68 .nilIface ∧ Below w.heap.size w W)))
  (fun cd pre W => (cd = .ret ∧ wps zs (pre.map (·.1)) = false) ∧ (Boxed W (w.heap.size + 1) 68 (.iface 121 (.int .i64 1)) ∧ Below w.heap.size w W))
  (OwnFrom.and (fun _ _ _ _ hs _ _ => hs) (OwnFrom.and (Own.from (boxed_own w.heap.size 71 (fun _ => .pointer (some ⟨c, 0, none⟩))) _) (OwnFrom.and (Own.from (boxed_own (w.heap.size + 1) 68 (fun _ => .nilIface)) _) (ownFrom_below lR (by omega)))))
  (fun _ => OwnFrom.and (fun _ _ _ _ hs _ _ => hs) (OwnFrom.and (Own.from (boxed_own (w.heap.size + 1) 68 (fun _ => .iface 121 (.int .i64 1))) _) (ownFrom_below lR (by omega))))
  ⟨rfl, hI0, hR0, hBW⟩
  (fun x a' W => ∃ Bx, True ∧ W.heap[Bx]? = some (.cells #[.int .i64 x.1.pc.off, .int .i64 x.1.pc.len, .int .i64 x.1.pc.brk] 87 (0, 0)) ∧ a' = { tmps := #[.pointer (some ⟨c, 0, none⟩), .pointer (some ⟨w.heap.size, 0, none⟩), .pointer (some ⟨w.heap.size + 1, 0, none⟩), undef, .pointer (some ⟨Bx, 0, none⟩), .pointer (some ⟨c, 0, none⟩), .pointer (some ⟨c, 0, none⟩), .pointer (some ⟨c, 1, none⟩), .pointer u, .func (.func 131) #[] #[.pointer (some ⟨w.heap.size + 1 + 1, 0, none⟩), .pointer (some ⟨w.heap.size + 1 + 1 + 1, 0, none⟩)], .int .i64 x.1.lv, .agg #[.int .i64 x.1.pc.off, .int .i64 x.1.pc.len, .int .i64 x.1.pc.brk], undef, undef, undef, undef, undef, undef, undef, undef, undef, undef, undef, undef, undef, undef, undef, undef, undef, undef, undef, undef, undef, undef], defers := [] })
  (fun x a' _ W W' row hs hg hr => by
   obtain ⟨Bx, h1, h2, h3⟩ := hs
   refine ⟨Bx, h1, (hg.block Bx (Array.getElem?_eq_some_iff.1 h2).1 (fun e => ?_)).trans h2, h3⟩
   obtain ⟨_, o, ho, hc⟩ := hr Bx e.symm
   rw [h2] at ho; cases ho; cases hc)
  ?assign ?body ?done ?stop
 case assign =>
  rintro l pre x W K ⟨hps, hP, hR, hbW⟩ hK
  gi_wp2
  have hle := hbW.size
  refine hK _ _ ((KeepsOthers.alloc _ _).from _) ((Below.refl _ W).alloc hle _) ⟨hps, hP.alloc _, hR.alloc _, hbW.alloc hle _⟩ ⟨W.heap.size, trivial, heap_alloc_new _ _, rfl⟩
 case body =>
  rintro l pre ⟨x, hpx0⟩ a' W hl ⟨r, hr⟩ ⟨hps, hP, hR, hbW⟩ ⟨Bx, _, hkx, rfl⟩ hlt;have hpx := hpx0;simp only [pcOk, decide_eq_true_eq] at hpx
  have HSN := hide (show wps zs (List.map (fun x => x.1) (pre ++ [⟨x, hpx0⟩])) = (wps zs (List.map (fun x => x.1) pre) && wpB zs x.pc) by rw [List.map_append, List.map_cons, List.map_nil, KS])
  have hc := hP.cell
  have k0 : W.cell? ⟨Bx, 0, none⟩ = some (.int .i64 x.pc.off) := by rw [cell_of_row W _ 0 _ _ _ hkx]; rfl
  have k1 : W.cell? ⟨Bx, 1, none⟩ = some (.int .i64 x.pc.len) := by rw [cell_of_row W _ 1 _ _ _ hkx]; rfl
  have k2 : W.cell? ⟨Bx, 2, none⟩ = some (.int .i64 x.pc.brk) := by rw [cell_of_row W _ 2 _ _ _ hkx]; rfl
  have hlx : Bx < W.heap.size := (Array.getElem?_eq_some_iff.1 hkx).1;have hle := hbW.size;have HR := hide hr;have HL := hide hl;have HPS := hide hps;have HPB := hide hP;have HRB := hide hR;have HBW := hide hbW;have hcs := (hbW.cell (p := ⟨c, 0, none⟩) hclt).trans HK.out.c0
  have HCW : Hid (At32' W b o zs) := hide fun i hi => (hbW.cell (p := ⟨b, o + i, none⟩) hb).trans (HCC.out i hi)
  clear hr hl hkx hps hP hR hbW;obtain ⟨⟨po, pl, pb⟩, lv⟩ := x;simp only at *
  have hwr : IntKind.i64.wrap (po + pl) = po + pl := by rw [IntKind.wrap_i64]; omega
  have q0 := fun d os => cell_regrown k0 d os
  have q1 := fun d os => cell_regrown k1 d os
  have q2 := fun d os => cell_regrown k2 d os
  have qc := fun d os => cell_regrown hc d os
  have qs := fun d os => cell_regrown hcs d os
  by_cases hfit : po + pl > (zs.length : Int)
  ·have hd : decide ((zs.length : Int) < po + pl) = true := by simp; omega
   have HWF := hide (show wpB zs ⟨po, pl, pb⟩ = false by simp only [wpB, Bool.and_eq_false_iff, decide_eq_false_iff_not]; left; omega)
   clear k0 k1 k2 hc hcs
   gi_wp2_with fail
   refine jV (by kernel_rfl) (by kernel_rfl) (ZP (by kernel_rfl)) ?_
   repeat (refine wpQuietIn_step (fun _ _ _ _ => trivial) (fun K hK => ?_); go_simp; first | (refine hK _ ?_; clear hK K) | (apply Exists.intro; refine ⟨fun _ => ?_, hK _ ?_⟩; (fail); clear hK K))
   refine wpQuietIn_nil ?_;intro _ hw';obtain ⟨⟨dq, osq⟩, hw''⟩ := hw';subst hw'';have HB1 := hide (below_regrown W dq osq);clear q0 q1 q2 qc qs;generalize grow (redrawn W dq) osq = W1 at *
   have HRB1 := hide (show Boxed W1 _ _ _ from (HB1.out.block _ HRB.out.lt).trans HRB.out)
   have hcr1 := HRB1.out.cell;have hfr1 := HRB1.out.frozen
   gi_wp2_with fail
   exact ⟨((KeepsOthers.of_below HB1.out).trans (KeepsOthers.setCell _ _ _)).from _, ⟨rfl, HSN.out.trans (by rw [HWF.out, Bool.and_false])⟩, HRB1.out.set _, (HBW.out.trans (HB1.out.mono hle)).setCell (by simp) _⟩
  ·have hd : decide ((zs.length : Int) < po + pl) = false := by simp; omega
   obtain ⟨q, rfl⟩ : ∃ q : Nat, po = q := ⟨po.toNat, by omega⟩
   obtain ⟨m, rfl⟩ : ∃ m : Nat, pl = m := ⟨pl.toNat, by omega⟩
   have HWF := hide (show wpB zs ⟨(q : Int), (m : Int), pb⟩ = decide (pb = brk ((zs.drop q).take m)) by unfold wpB ptx; rw [decide_eq_true (Int.not_lt.1 hfit), Bool.true_and]; rfl)
   have HMQ := hide (fun d os => CallsIn.regrown_of (F := Fence.wide) (r := 5 - 1 - 1 - 1) (callsIn_wide.2 (ZO zs c b o cap q m (grow (redrawn W d) os) (fun i hi => cell_regrown (HCW.out i hi) d os) (qs d os) (Nat.lt_of_lt_of_le hb (Nat.le_trans hle (below_regrown W d os).size)) (Nat.lt_of_lt_of_le hclt (Nat.le_trans hle (below_regrown W d os).size)) (by omega) (by omega) hcap hm hn)))
   generalize brk ((zs.drop q).take m) = br at *;clear k0 k1 k2 hc hcs
   gi_wp2_with fail
   refine jV (by kernel_rfl) (by kernel_rfl) (ZP (by kernel_rfl)) ?_
   by_cases hq : pb = br
   ·subst hq
    repeat (refine wpQuietIn_step (fun _ _ _ _ => trivial) (fun K hK => ?_); go_simp; first | (refine hK _ ?_; clear hK K) | (apply Exists.intro; refine ⟨fun _ => ?_, hK _ ?_⟩; (first | exact ⟨trivial, HMQ.out _ _⟩ | exact HMQ.out _ _); clear hK K))
    refine wpQuietIn_nil ?_;intro _ hw';obtain ⟨⟨dq, osq⟩, hw''⟩ := hw';subst hw'';have HB1 := hide (below_regrown W dq osq);clear q0 q1 q2 qc qs HMQ;generalize grow (redrawn W dq) osq = W1 at *
    gi_wp2_with fail
    exact ⟨(KeepsOthers.of_below HB1.out).from _, HB1.out.mono hle, HSN.out.trans (by rw [HPS.out, HWF.out]; simp), (HB1.out.block _ HPB.out.lt).trans HPB.out, (HB1.out.block _ HRB.out.lt).trans HRB.out, HBW.out.trans (HB1.out.mono hle)⟩
   ·have hqd : decide (pb = br) = false := decide_eq_false hq
    repeat (refine wpQuietIn_step (fun _ _ _ _ => trivial) (fun K hK => ?_); go_simp; first | (refine hK _ ?_; clear hK K) | (apply Exists.intro; refine ⟨fun _ => ?_, hK _ ?_⟩; (first | exact ⟨trivial, HMQ.out _ _⟩ | exact HMQ.out _ _); clear hK K))
    refine wpQuietIn_nil ?_;intro _ hw';obtain ⟨⟨dq, osq⟩, hw''⟩ := hw';subst hw'';have HB1 := hide (below_regrown W dq osq);clear q0 q1 q2 qc qs HMQ;generalize grow (redrawn W dq) osq = W1 at *
    have HRB1 := hide (show Boxed W1 _ _ _ from (HB1.out.block _ HRB.out.lt).trans HRB.out)
    have hcr1 := HRB1.out.cell;have hfr1 := HRB1.out.frozen
    gi_wp2_with fail
    exact ⟨((KeepsOthers.of_below HB1.out).trans (KeepsOthers.setCell _ _ _)).from _, ⟨rfl, HSN.out.trans (by rw [HWF.out, hqd, Bool.and_false])⟩, HRB1.out.set _, (HBW.out.trans (HB1.out.mono hle)).setCell (by simp) _⟩
 case done =>
  rintro D ys W hD hys ⟨hps, hP, hR, hbW⟩ hK;have hcr := hR.cell;have hfr := hR.frozen;rw [hys] at hps;have HPS := hide hps;have HBW2 := hide hbW;have HR2 := hide hR;have HKD := hide hK;have HD := hide hD;clear hps hbW hR hK hD
  gi_wp2
  have hDn : D ≠ w.heap.size + 1 := by have := HD.out; omega
  have hK' : (W.setCell ⟨w.heap.size + 1, 0, none⟩ .nilIface).heap[D]? = some (.deferred (some [])) := (heap_setCell_other W ⟨w.heap.size + 1, 0, none⟩ D _ hDn).trans HKD.out;have bR4 := HR2.out.set .nilIface
  have bW4 := HBW2.out.setCell (p := ⟨w.heap.size + 1, 0, none⟩) (by simp) .nilIface
  refine ⟨by simp, .inl ⟨_, _, rfl, run_takeDeferred hK', ?_⟩⟩
  have bR5 := bR4.kept (grownBy_putObj' _ D (.deferred none)) (fun e => hDn (by cases e; rfl))
  have bW5 := bW4.trans (belowK_b (w := w) lR _ D _ (.deferred none) (by have := HD.out; omega) hK' rfl rfl)
  have hc5 := bR5.cell
  exact ⟨.nilIface, by simp [results, Tryz.results86, go_sem, hc5], by rw [HRES.out, HPS.out]; rfl, bW5⟩
 case stop =>
  rintro D cd pre W hD hpre ⟨⟨rfl, hps⟩, hR, hbW⟩ hK;have HPS := hide (zA9 hpre hps)
  have hDn : D ≠ w.heap.size + 1 := by omega
  gi_wp2
  refine ⟨by simp, .inl ⟨_, _, rfl, run_takeDeferred hK, ?_⟩⟩
  have bR5 := hR.kept (grownBy_putObj' _ D (.deferred none)) (fun e => hDn (by cases e; rfl))
  have bW5 := hbW.trans (belowK_b (w := w) lR _ D _ (.deferred none) (by omega) hK rfl rfl)
  have hc5 := bR5.cell
  exact ⟨.iface 121 (.int .i64 1), by simp [results, Tryz.results86, go_sem, hc5], by rw [HRES.out, HPS.out]; rfl, bW5⟩
end Go.Proofs.YtbgngikejgihgafGreatDoor
