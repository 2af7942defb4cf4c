import Derived.Test.YtbgngikejgihgagGreatDoorMq10
import Derived.Test.YtbgngikejgihgagGreatDoorMq25
import Derived.Test.YtbgngikejgihgagGreatDoorMq27
import Derived.Test.YtbgngikejgihgagGreatDoorMq28
import Derived.Test.YtbgngikejgihgagGreatDoorMq31
import Derived.Test.YtbgngikejgihgagGreatDoorMq35
import Derived.Test.YtbgngikejgihgagGreatDoorMq36
import Derived.Test.YtbgngikejgihgagGreatDoorMq37
namespace Go.Proofs.YtbgngikejgihgagGreatDoor
open Go Go.RowKit
set_option linter.unusedVariables false

/-- A buffer that is valid: its store and its tree. -/
structure BFr (S : List Int) (T : AT) : Prop where
  ok : T.ok
  bal : T.bal
  wp : T.wp S
  len : S.length ≤ 220000
theorem BFr.read {S : List Int} {T : AT} (h : BFr S T) : pRead S (T.told 0) = some T := pRead_told h.bal h.ok h.wp h.len
theorem BFr.its {S : List Int} {T : AT} (h : BFr S T) : (T.told 0).length ≤ 8192 := by
  have h1 : (T.told 0).length = T.its := AT.told_length T 0
  have h2 := h.ok.bd
  omega
theorem BFr.pcs {S : List Int} {T : AT} (h : BFr S T) : ∀ x ∈ T.told 0, WP S x.pc ∧ 1 ≤ x.pc.len := fun x hx => by
  have hm := told_memH hx
  exact ⟨(wp_flat S T).1 h.wp _ hm, flat_pos h.ok _ hm⟩
theorem BFr.txl {S : List Int} {T : AT} (h : BFr S T) : ((T.tx S).length : Int) = T.rns := by
  rw [← txt_told S T 0, txt_len (fun x hx => (h.pcs x hx).1), AT.rns_told]
theorem BFr.txl2 {S : List Int} {T : AT} (h : BFr S T) : (T.tx S).length ≤ 8192 := by
  have h1 := h.txl
  have h2 := h.ok.2
  omega
theorem own32_capR {w : World} {base g n cap : Nat} {zs : List Int} (h : own32 w base (.slice (some ⟨g, 0, none⟩) n cap) zs) : zs.length ≤ cap ∧ cap ≤ maxLen := by
  rcases h.2 with ⟨e, _⟩ | ⟨g', cap', cur, e, _, _, h2, h3, _⟩
  · cases e
  · simp only [Value.slice.injEq] at e
    obtain ⟨_, _, rfl⟩ := e
    exact ⟨h2, h3⟩

set_option maxHeartbeats 400000 in
theorem cpTextNil (w : World) :
    Calls Tryz.prog 37 #[.slice none 0 0] w fun e w' => ∃ b cap, e = .returned (.slice (some ⟨b, 0, none⟩) 0 cap) ∧ own32 w' w.heap.size (.slice (some ⟨b, 0, none⟩) 0 cap) [] ∧ Below w.heap.size w w' := by
  have O0 := hide (own32_new w)
  have B0 := hide ((Below.refl w.heap.size w).alloc (Nat.le_refl _) (.cells #[] 21))
  go_enter Tryz.func37, Tryz.ntmps37
  go_wp2
  go_ret
  exact ⟨_, _, rfl, O0.out, B0.out⟩
theorem cpTextR {base : Nat} {v : Value} {tx : List Int} {W : World} (h : own32 W base v tx) (hn : tx.length ≤ 1048576) :
    Calls Tryz.prog 37 #[v] W fun e w' => ∃ g c, e = .returned (.slice (some ⟨g, 0, none⟩) tx.length c) ∧ own32 w' W.heap.size (.slice (some ⟨g, 0, none⟩) tx.length c) tx ∧ Below W.heap.size W w' := by
  rcases h.2 with ⟨rfl, e⟩ | ⟨g, cap, cur, rfl, _⟩
  · have e0 : tx = [] := List.eq_nil_of_length_eq_zero e
    subst e0
    exact cpTextNil W
  · exact cpTextN tx g 0 cap W (own32_at h) (own32_lt h) hn

section
variable {base base' g c : Nat} {zs : List Int} {vi : Value} {T : AT} {W : World}
theorem txtR (ho : own32 W base (.slice (some ⟨g, 0, none⟩) zs.length c) zs) (hi : OwI W base' vi (T.told 0)) (hF : BFr zs T) :
    Calls Tryz.prog 35 #[.agg #[.slice (some ⟨g, 0, none⟩) zs.length c, vi]] W fun e w' => ∃ v', e = .returned v' ∧ own32 w' W.heap.size v' (T.tx zs) ∧ Below W.heap.size W w' := by
  have hc := own32_capR ho
  have hl := hF.len
  have h2 := hF.txl2
  rw [← txt_told zs T 0] at h2 ⊢
  exact ptextS W.heap.size zs g 0 c vi _ W (own32_at ho) (own32_lt ho) (by omega) hc.1 hc.2 hi.rd (Nat.le_refl _) hF.its hF.pcs h2
theorem plOkR {k : Nat} (ho : own32 W base (.slice (some ⟨g, 0, none⟩) zs.length c) zs) (hi : OwI W base' vi (T.told 0)) (hF : BFr zs T) (hk : k ≤ (T.tx zs).length) (hg : W.cell? ⟨0, 0, none⟩ = some (.iface 307 (.agg #[.pointer (some ⟨2, 100, none⟩)]))) :
    Calls Tryz.prog 43 #[.agg #[.slice (some ⟨g, 0, none⟩) zs.length c, vi], .int .i64 k] W fun e w' => e = .returned (.tuple #[.int .i64 (lcL (T.tx zs) k), .int .i64 (lcC (T.tx zs) k), .int .i64 0]) ∧ Below W.heap.size W w' := by
  have hc := own32_capR ho
  have hl := hF.len
  have h9 := implLC W.heap.size zs g 0 c vi (T.told 0) k W (own32_at ho) (own32_lt ho) (by omega) hc.1 hc.2 hi.rd (Nat.le_refl _) (by have := hF.its; omega) hg
  have e : lcOut zs (T.told 0) k = (lcL (T.tx zs) k, lcC (T.tx zs) k, 0) := by
    unfold lcOut; rw [hF.read]; simp only; rw [if_pos (by omega), Int.toNat_natCast]
  rw [e] at h9
  exact h9
theorem plBadR (ho : own32 W base (.slice (some ⟨g, 0, none⟩) zs.length c) zs) (hi : OwI W base' vi (T.told 0)) (hF : BFr zs T) (hg : W.cell? ⟨0, 0, none⟩ = some (.iface 307 (.agg #[.pointer (some ⟨2, 100, none⟩)]))) :
    Calls Tryz.prog 43 #[.agg #[.slice (some ⟨g, 0, none⟩) zs.length c, vi], .int .i64 (((T.tx zs).length : Int) + 1)] W fun e w' => e = .returned (.tuple #[.int .i64 0, .int .i64 0, .int .i64 2]) ∧ Below W.heap.size W w' := by
  have hc := own32_capR ho
  have hl := hF.len
  have h9 := implLC W.heap.size zs g 0 c vi (T.told 0) (((T.tx zs).length : Int) + 1) W (own32_at ho) (own32_lt ho) (by omega) hc.1 hc.2 hi.rd (Nat.le_refl _) (by have := hF.its; omega) hg
  have e : lcOut zs (T.told 0) (((T.tx zs).length : Int) + 1) = (0, 0, 2) := by
    unfold lcOut; rw [hF.read]; simp only; rw [if_neg (by omega)]
  rw [e] at h9
  exact h9
theorem poOkR {k : Nat} {line col : Int} (ho : own32 W base (.slice (some ⟨g, 0, none⟩) zs.length c) zs) (hi : OwI W base' vi (T.told 0)) (hF : BFr zs T) (hk : offL (T.tx zs) line col = k) (hg : W.cell? ⟨0, 0, none⟩ = some (.iface 307 (.agg #[.pointer (some ⟨2, 100, none⟩)]))) :
    Calls Tryz.prog 45 #[.agg #[.slice (some ⟨g, 0, none⟩) zs.length c, vi], .int .i64 line, .int .i64 col] W fun e w' => e = .returned (.tuple #[.int .i64 k, .int .i64 0]) ∧ Below W.heap.size W w' := by
  have hc := own32_capR ho
  have hl := hF.len
  have h9 := implPO W.heap.size zs g 0 c vi (T.told 0) line col W (own32_at ho) (own32_lt ho) (by omega) hc.1 hc.2 hi.rd (Nat.le_refl _) (by have := hF.its; omega) hg
  have e : poOut zs (T.told 0) line col = ((k : Int), 0) := by
    unfold poOut; rw [hF.read]; simp only; rw [hk, if_pos (by omega)]
  rw [e] at h9
  exact h9
theorem poBadR {line col : Int} (ho : own32 W base (.slice (some ⟨g, 0, none⟩) zs.length c) zs) (hi : OwI W base' vi (T.told 0)) (hF : BFr zs T) (hk : offL (T.tx zs) line col = -1) (hg : W.cell? ⟨0, 0, none⟩ = some (.iface 307 (.agg #[.pointer (some ⟨2, 100, none⟩)]))) :
    Calls Tryz.prog 45 #[.agg #[.slice (some ⟨g, 0, none⟩) zs.length c, vi], .int .i64 line, .int .i64 col] W fun e w' => e = .returned (.tuple #[.int .i64 0, .int .i64 3]) ∧ Below W.heap.size W w' := by
  have hc := own32_capR ho
  have hl := hF.len
  have h9 := implPO W.heap.size zs g 0 c vi (T.told 0) line col W (own32_at ho) (own32_lt ho) (by omega) hc.1 hc.2 hi.rd (Nat.le_refl _) (by have := hF.its; omega) hg
  have e : poOut zs (T.told 0) line col = (0, 3) := by
    unfold poOut; rw [hF.read]; simp only; rw [hk, if_neg (by omega)]
  rw [e] at h9
  exact h9
set_option maxHeartbeats 2000000 in
set_option maxRecDepth 100000 in
theorem cpPieceR {a : Option Addr} {tl k : Nat} (ho : own32 W base (.slice (some ⟨g, 0, none⟩) zs.length c) zs) (hi : OwI W base' (.slice a tl k) (T.told 0)) (hF : BFr zs T) (htl : (T.told 0).length = tl) :
    Calls Tryz.prog 44 #[.agg #[.slice (some ⟨g, 0, none⟩) zs.length c, .slice a tl k]] W fun e w' => ∃ g' c' a' k', e = .returned (.agg #[.slice (some ⟨g', 0, none⟩) zs.length c', .slice a' tl k']) ∧ own32 w' W.heap.size (.slice (some ⟨g', 0, none⟩) zs.length c') zs ∧ OwI w' W.heap.size (.slice a' tl k') (T.told 0) ∧ Below W.heap.size W w' := by
  have hl := hF.len
  have hit := hF.its
  have A0 := hide (((Below.refl W.heap.size W).alloc (Nat.le_refl _) (.cells #[.slice (some ⟨g, 0, none⟩) zs.length c, .slice a tl k] 69)).alloc (by simp) (.cells #[.slice none 0 0, .slice none 0 0] 69))
  have KP := hide ((D2.new W (.slice (some ⟨g, 0, none⟩) zs.length c) (.slice a tl k) 69).below ((Below.refl _ _).alloc (Nat.le_refl _) (.cells #[.slice none 0 0, .slice none 0 0] 69)) (by simp))
  have KR := hide (D2.new (W.alloc (.cells #[.slice (some ⟨g, 0, none⟩) zs.length c, .slice a tl k] 69)) (.slice none 0 0) (.slice none 0 0) 69)
  have es : (W.alloc (.cells #[.slice (some ⟨g, 0, none⟩) zs.length c, .slice a tl k] 69)).heap.size = W.heap.size + 1 := by simp
  rw [es] at KR
  have es2 : ((W.alloc (.cells #[.slice (some ⟨g, 0, none⟩) zs.length c, .slice a tl k] 69)).alloc (.cells #[.slice none 0 0, .slice none 0 0] 69)).heap.size = W.heap.size + 2 := by simp
  have CT := hide (fun (X : World) (hX : Below W.heap.size W X) => cpTextR (W := X) (owns_below ho hX (Nat.le_refl _)) (by omega))
  have CR := hide (fun (X : World) (hX : Below W.heap.size W X) => cpTreeL (T.told 0) (.slice a tl k) base' X (OwI.below hi hX (Nat.le_refl _)) (by omega))
  have HTL := hide htl
  generalize hzl : zs.length = zl at *
  clear ho hi es hzl htl
  go_enter Tryz.func44, Tryz.ntmps44
  go_upto_region 1 with fail
  generalize hw0 : (W.alloc (.cells #[.slice (some ⟨g, 0, none⟩) zl c, .slice a tl k] 69)).alloc (.cells #[.slice none 0 0, .slice none 0 0] 69) = w0 at *
  clear hw0
  have p0 := KP.out.c.1
  have p1 := KP.out.c.2
  have hsz : W.heap.size + 1 < w0.heap.size := by omega
  have hsz0 : W.heap.size < w0.heap.size := by omega
  clear es2
  go_region_with (first
    | (go_at_call 37; refine (CT.out _ (by exact (show Below W.heap.size W _ from ⟨A0.out.os, A0.out.tape, A0.out.output, A0.out.size, A0.out.block⟩))).mono ?_; rintro e x1 ⟨g1, c1, rfl, ho1, hb1⟩; have B1 : Hid (Below w0.heap.size w0 x1) := hide (show Below w0.heap.size w0 x1 from ⟨hb1.os, hb1.tape, hb1.output, hb1.size, hb1.block⟩); have s1 := B1.out.size; have P1 := KP.out.below B1.out hsz0; have u0 := P1.c.1; have u1 := P1.c.2; have O1 := hide (show own32 x1 w0.heap.size _ zs from ho1); clear ho1 hb1 P1)
    | (go_at_call 98; refine (CR.out _ (by first | exact (show Below W.heap.size W _ from ⟨(A0.out.trans (B1.out.mono (by omega))).os, (A0.out.trans (B1.out.mono (by omega))).tape, (A0.out.trans (B1.out.mono (by omega))).output, (A0.out.trans (B1.out.mono (by omega))).size, (A0.out.trans (B1.out.mono (by omega))).block⟩))).mono ?_; rintro e x2 ⟨v2, rfl, hi2, hb2⟩; have B2 : Hid (Below x1.heap.size x1 x2) := hide (show Below x1.heap.size x1 x2 from ⟨hb2.os, hb2.tape, hb2.output, hb2.size, hb2.block⟩); have s2 := B2.out.size; obtain ⟨a2, k2, hv2⟩ := ownI_val hi2; rw [HTL.out] at hv2; subst hv2; have O2 := hide (show own32 x2 w0.heap.size _ zs from owns_below O1.out B2.out (Nat.le_refl _)); have I2 := hide (show OwI x2 x1.heap.size _ (T.told 0) from hi2); have R2 := KR.out.below (B1.out.trans (B2.out.mono s1)) hsz; have e0 := R2.c.1; have e1 := R2.c.2; have f0 := R2.fz 0; have f1 := R2.fz 1; have BB := hide (A0.out.trans ((B1.out.trans (B2.out.mono s1)).mono (by omega))); have R3 := hide R2; clear hi2 hb2 R2))
  all_goals (
    go_wp2_with fail
    refine bodyPost_ret (v := .agg #[.slice (some ⟨g1, 0, none⟩) zl c1, .slice a2 tl k2]) (by simp [results, Tryz.results44, go_sem, e0, e1]) rfl ⟨_, _, _, _, rfl, ?_, ?_, ?_⟩
    · refine owns_base (owns_of_block O2.out (fun q hq => ?_)) (by omega)
      have h9 := own_notE O2.out R3.out (by decide) hq
      rw [Go.heap_setCell_other _ _ _ _ (by show q ≠ W.heap.size + 1; exact h9), Go.heap_setCell_other _ _ _ _ (by show q ≠ W.heap.size + 1; exact h9)]
    · refine owns_base (owns_of_block I2.out (fun q hq => ?_)) (by omega)
      have h9 := own_notE I2.out R3.out (by decide) hq
      rw [Go.heap_setCell_other _ _ _ _ (by show q ≠ W.heap.size + 1; exact h9), Go.heap_setCell_other _ _ _ _ (by show q ≠ W.heap.size + 1; exact h9)]
    · exact (BB.out.setCell (by simp) _).setCell (by simp) _)
end

section
variable {tx : List Int} {s lo hi : Nat} {vr vst : Value} {W : World}
theorem llR {base g c : Nat} (h : own32 W base (.slice (some ⟨g, 0, none⟩) tx.length c) tx) (hn : tx.length ≤ 8192) (hg : W.cell? ⟨0, 0, none⟩ = some (.iface 307 (.agg #[.pointer (some ⟨2, 100, none⟩)]))) :
    Calls Tryz.prog 41 #[.slice (some ⟨g, 0, none⟩) tx.length c] W fun e w' => ∃ a1 c1 a2 c2, e = .returned (.tuple #[.agg #[.slice a1 (lns tx).length c1, .slice a2 1 c2], .int .i64 0]) ∧ OwL w' W.heap.size w'.heap.size (.slice a1 (lns tx).length c1) (.slice a2 1 c2) ((lns tx).map plG) ((stL (lns tx)).take 1) ∧ Below W.heap.size W w' := by
  refine (implLl base tx g c W h (by omega) (own32_capR h) hg).mono ?_
  rintro e w' ⟨vr, vt, rfl, ho, hb⟩
  rw [llG, llS, if_pos hn, if_pos hn] at ho
  obtain ⟨a1, c1, a2, c2, rfl, rfl⟩ := ho.val
  rw [List.length_map] at ho
  rw [stL_oneR (lns_ne tx)]
  exact ⟨a1, c1, a2, c2, by rw [llC, if_pos hn, List.length_map]; rfl, ho, hb⟩
theorem ltR (h : OwL W lo hi vr vst ((lns tx).map plG) ((stL (lns tx)).take s)) (hh : hi ≤ W.heap.size) (h1 : 1 ≤ s) (h2 : s ≤ (lns tx).length) (hn : tx.length ≤ 8192) :
    Calls Tryz.prog 42 #[.agg #[vr, vst]] W fun e w' => ∃ v', e = .returned v' ∧ own32 w' W.heap.size v' tx ∧ Below W.heap.size W w' := by
  have hv := LV_load hn h1 h2
  have hs := lns_sm tx
  have h9 := lineTextS _ _ vr vst lo hi W h hh hv.1.2.1 hv.1.1 (fun x hx => (hv.2.1 x hx).1) (by rw [map_grT, List.length_map]; omega)
  rw [map_grT, jn_lns] at h9
  exact h9
theorem lcR {k : Nat} (h : OwL W lo hi vr vst ((lns tx).map plG) ((stL (lns tx)).take s)) (hh : hi ≤ W.heap.size) (h1 : 1 ≤ s) (h2 : s ≤ (lns tx).length) (hn : tx.length ≤ 8192) (hk : k ≤ tx.length) (hg : W.cell? ⟨0, 0, none⟩ = some (.iface 307 (.agg #[.pointer (some ⟨2, 100, none⟩)]))) :
    Calls Tryz.prog 46 #[.agg #[vr, vst], .int .i64 k] W fun e w' => ∃ a1 c1 a2 c2 m, e = .returned (.tuple #[.agg #[.slice a1 (lns tx).length c1, .slice a2 m c2], .int .i64 (lcL tx k), .int .i64 (lcC tx k), .int .i64 0]) ∧ (s ≤ m ∧ m ≤ (lns tx).length ∧ (k = tx.length → m = (lns tx).length)) ∧ OwL w' W.heap.size w'.heap.size (.slice a1 (lns tx).length c1) (.slice a2 m c2) ((lns tx).map plG) ((stL (lns tx)).take m) ∧ Below W.heap.size W w' := by
  have hv := LV_load hn h1 h2
  have hsl : ((stL (lns tx)).take s).length = s := by rw [List.length_take, stL_len]; omega
  have hl := lns_len tx
  obtain ⟨m, hm⟩ := Kn.ex (lns tx) s k h2
  have hA : LcAns ((lns tx).map plG) ((stL (lns tx)).take s) (k : Int) ((lns tx).map plG) ((stL (lns tx)).take m) (lcL tx k) (lcC tx k) 0 := by
    refine .inl ⟨hv, ⟨by omega, by rw [map_grT, jn_lns]; omega⟩, rfl, ⟨m, ?_, by rw [map_grT]⟩, ?_, ?_, rfl⟩
    · rw [map_grT, hsl, Int.toNat_natCast]; exact hm
    · rw [map_grT, jn_lns, Int.toNat_natCast]
    · rw [map_grT, jn_lns, Int.toNat_natCast]
  refine (implLc _ _ _ vr vst lo hi W _ _ _ _ _ hA h hh (fun x hx => ?_) (by rw [List.length_map]; omega) (by rw [hsl]; omega) hg).mono ?_
  · obtain ⟨l, hl1, rfl⟩ := List.mem_map.1 hx
    have := lns_each hl1
    show l.length ≤ 1048576
    omega
  · rintro e w' ⟨vr', vt', rfl, ho, hb⟩
    obtain ⟨a1, c1, a2, c2, rfl, rfl⟩ := ho.val
    have hml : ((stL (lns tx)).take m).length = m := by rw [List.length_take, stL_len]; have := hm.2.1; omega
    rw [List.length_map, hml] at ho
    refine ⟨a1, c1, a2, c2, m, by rw [List.length_map, hml], ⟨hm.1, hm.2.1, fun e => ?_⟩, ho, hb⟩
    subst e
    have h9 := hm
    rw [← congrArg List.length (jn_lns tx)] at h9
    exact h9.end (lns_ne tx)
theorem plOk_iff {line col : Int} (hn : tx.length ≤ 8192) : plOk ((lns tx).map plG) line col ↔ ∃ k : Nat, offL tx line col = k := by
  have e := offL_jn (lns_ne tx) (lns_no10 tx) line col
  rw [jn_lns] at e
  rw [e]
  have e2 : plOk ((lns tx).map plG) line col ↔ 0 ≤ line ∧ line < ((lns tx).length : Nat) ∧ 0 ≤ col ∧ col ≤ ((lns tx).getD line.toNat []).length := by
    unfold plOk; rw [map_grT, List.length_map]
  rw [e2]
  unfold offG
  constructor
  · intro h
    rw [if_pos h]
    exact ⟨smL ((lns tx).take line.toNat) + line.toNat + col.toNat, by omega⟩
  · rintro ⟨k, hk⟩
    by_cases h : 0 ≤ line ∧ line < ((lns tx).length : Nat) ∧ 0 ≤ col ∧ col ≤ ((lns tx).getD line.toNat []).length
    · exact h
    · rw [if_neg h] at hk; omega
theorem loOkR {k : Nat} {line col : Int} (h : OwL W lo hi vr vst ((lns tx).map plG) ((stL (lns tx)).take s)) (hh : hi ≤ W.heap.size) (h1 : 1 ≤ s) (h2 : s ≤ (lns tx).length) (hn : tx.length ≤ 8192) (hk : offL tx line col = k) (hg : W.cell? ⟨0, 0, none⟩ = some (.iface 307 (.agg #[.pointer (some ⟨2, 100, none⟩)]))) :
    Calls Tryz.prog 47 #[.agg #[vr, vst], .int .i64 line, .int .i64 col] W fun e w' => ∃ a1 c1 a2 c2 m, e = .returned (.tuple #[.agg #[.slice a1 (lns tx).length c1, .slice a2 m c2], .int .i64 k, .int .i64 0]) ∧ (s ≤ m ∧ m ≤ (lns tx).length) ∧ OwL w' W.heap.size w'.heap.size (.slice a1 (lns tx).length c1) (.slice a2 m c2) ((lns tx).map plG) ((stL (lns tx)).take m) ∧ Below W.heap.size W w' := by
  have hv := LV_load hn h1 h2
  have hsl : ((stL (lns tx)).take s).length = s := by rw [List.length_take, stL_len]; omega
  have hl := lns_len tx
  have hp := (plOk_iff (line := line) (col := col) hn).2 ⟨k, hk⟩
  have hp2 : line < ((lns tx).length : Nat) ∧ 0 ≤ line := by have := hp; unfold plOk at this; rw [map_grT, List.length_map] at this; omega
  have eO : (k : Int) = ((smL ((((lns tx).map plG).map grT).take line.toNat) + line.toNat : Nat) : Int) + col := by
    have e := offL_jn (lns_ne tx) (lns_no10 tx) line col
    rw [jn_lns, hk] at e
    unfold offG at e
    rw [map_grT]
    split at e
    · exact e
    · omega
  have hA : LoAns ((lns tx).map plG) ((stL (lns tx)).take s) line col ((lns tx).map plG) ((stL (lns tx)).take (max s (line.toNat + 1))) k 0 :=
    .inl ⟨hv, hp, rfl, by rw [map_grT, hsl], eO, rfl⟩
  refine (implLo _ _ _ _ vr vst lo hi W _ _ _ _ hA h hh (fun x hx => ?_) (by rw [List.length_map]; omega) (by rw [hsl]; omega) hg).mono ?_
  · obtain ⟨l, hl1, rfl⟩ := List.mem_map.1 hx
    have := lns_each hl1
    show l.length ≤ 1048576
    omega
  · rintro e w' ⟨vr', vt', rfl, ho, hb⟩
    obtain ⟨a1, c1, a2, c2, rfl, rfl⟩ := ho.val
    have hml : ((stL (lns tx)).take (max s (line.toNat + 1))).length = max s (line.toNat + 1) := by rw [List.length_take, stL_len]; omega
    rw [List.length_map, hml] at ho
    exact ⟨a1, c1, a2, c2, max s (line.toNat + 1), by rw [List.length_map, hml], ⟨by omega, by omega⟩, ho, hb⟩
theorem loBadR {line col : Int} (h : OwL W lo hi vr vst ((lns tx).map plG) ((stL (lns tx)).take s)) (hh : hi ≤ W.heap.size) (h1 : 1 ≤ s) (h2 : s ≤ (lns tx).length) (hn : tx.length ≤ 8192) (hk : offL tx line col = -1) (hg : W.cell? ⟨0, 0, none⟩ = some (.iface 307 (.agg #[.pointer (some ⟨2, 100, none⟩)]))) :
    Calls Tryz.prog 47 #[.agg #[vr, vst], .int .i64 line, .int .i64 col] W fun e w' => ∃ a1 c1 a2 c2, e = .returned (.tuple #[.agg #[.slice a1 0 c1, .slice a2 0 c2], .int .i64 0, .int .i64 3]) ∧ Below W.heap.size W w' := by
  have hv := LV_load hn h1 h2
  have hsl : ((stL (lns tx)).take s).length = s := by rw [List.length_take, stL_len]; omega
  have hl := lns_len tx
  have hp : ¬ plOk ((lns tx).map plG) line col := fun q => by
    obtain ⟨k, hk2⟩ := (plOk_iff (line := line) (col := col) hn).1 q
    omega
  have hA : LoAns ((lns tx).map plG) ((stL (lns tx)).take s) line col [] [] 0 3 := .inr (.inl ⟨hv, hp, rfl, rfl, rfl, rfl⟩)
  refine (implLo _ _ _ _ vr vst lo hi W _ _ _ _ hA h hh (fun x hx => ?_) (by rw [List.length_map]; omega) (by rw [hsl]; omega) hg).mono ?_
  · obtain ⟨l, hl1, rfl⟩ := List.mem_map.1 hx
    have := lns_each hl1
    show l.length ≤ 1048576
    omega
  · rintro e w' ⟨vr', vt', rfl, ho, hb⟩
    obtain ⟨a1, c1, a2, c2, rfl, rfl⟩ := ho.val
    exact ⟨a1, c1, a2, c2, rfl, hb⟩
end
end Go.Proofs.YtbgngikejgihgagGreatDoor
