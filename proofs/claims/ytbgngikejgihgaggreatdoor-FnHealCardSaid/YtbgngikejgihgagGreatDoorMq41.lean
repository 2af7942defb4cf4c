import Derived.Test.YtbgngikejgihgagGreatDoorMq29
import Derived.Test.YtbgngikejgihgagGreatDoorMq30
import Derived.Deep.CutBlock
import Derived.Deep.LoopGhost
import Derived.Deep.RegionWith
namespace Go.Proofs.YtbgngikejgihgagGreatDoor
open Go Go.RowKit
set_option linter.unusedVariables false

def AT.okw (T : AT) : Prop := (∀ p ∈ T.flat, pcOk p = true) ∧ T.rns ≤ 16384

theorem AT.okw.bd {T : AT} (h : T.okw) : (T.its : Int) ≤ 16384 ∧ 0 ≤ T.rns ∧ T.rns ≤ 16384 ∧ 0 ≤ T.bks ∧ T.bks ≤ 16384 := by
  have := rns_flat T h.1; have := h.2; omega

theorem AT.okw.left {l : AT} {p : Pc} {r : AT} (h : (AT.node l p r).okw) : l.okw := by
  have hr := rns_flat r (fun q hq => h.1 q (by simp [flat, hq]))
  have hp := h.1 p (by simp [flat])
  simp only [pcOk, decide_eq_true_eq] at hp
  refine ⟨fun q hq => h.1 q (by simp [flat, hq]), ?_⟩
  have := h.2; simp only [rns] at this; omega

theorem AT.okw.right {l : AT} {p : Pc} {r : AT} (h : (AT.node l p r).okw) : r.okw := by
  have hr := rns_flat l (fun q hq => h.1 q (by simp [flat, hq]))
  have hp := h.1 p (by simp [flat])
  simp only [pcOk, decide_eq_true_eq] at hp
  refine ⟨fun q hq => h.1 q (by simp [flat, hq]), ?_⟩
  have := h.2; simp only [rns] at this; omega

theorem AT.okw.piece {l : AT} {p : Pc} {r : AT} (h : (AT.node l p r).okw) : 0 ≤ p.off ∧ p.off ≤ 220000 ∧ 1 ≤ p.len ∧ p.len ≤ 8192 ∧ 0 ≤ p.brk ∧ p.brk ≤ 8192 := by
  have hp := h.1 p (by simp [flat])
  simp only [pcOk, decide_eq_true_eq] at hp
  omega

theorem AT.okw.of_flat {T S : AT} (h : T.okw) (e : S.flat = T.flat) : S.okw := ⟨fun p hp => h.1 p (e ▸ hp), by rw [rns_of_flat, e, ← rns_of_flat]; exact h.2⟩

set_option maxHeartbeats 4000000 in
set_option maxRecDepth 100000 in
theorem recountNW (L : AT) (p : Pc) (R : AT) (b : Nat) (ul ur : Option Addr) (bl br : List Nat) (base : Nat) (h i n k : Int) (w : World) (hn : Nd w b p ul ur h i n k)
    (hL : Lies w base L ul bl) (hR : Lies w base R ur br) (nl : b ∉ bl) (nr : b ∉ br) (hok : (AT.node L p R).okw) :
    Calls Tryz.prog 232 #[.pointer (some ⟨b, 0, none⟩)] w fun e w' => e = .returned (.tuple #[]) ∧ Nd w' b p ul ur (1 + max (L.ht : Int) R.ht) (L.its + 1 + R.its) (L.rns + p.len + R.rns) (L.bks + p.brk + R.bks) ∧ Chg [b] w w' := by
  have c3 := hn.c3
  have c4 := hn.c4
  have c5 := hn.c5
  have f5 := hn.fz 5
  have hlt := hn.lt
  have bL := hok.left.bd
  have bR := hok.right.bd
  have bP := hok.piece
  have hhl : (L.ht : Int) ≤ 16384 := by have := ht_le_its L; omega
  have hhr : (R.ht : Int) ≤ 16384 := by have := ht_le_its R; omega
  have HN := hide hn
  have HL := hide hL
  have HR := hide hR
  have NL := hide nl
  have NR := hide nr
  clear hn hL hR nl nr hok
  go_enter Tryz.func232, Tryz.ntmps232
  go_upto_region 0 with fail
  go_cut [] (fun wc => Nd wc b p ul ur (1 + max (L.ht : Int) R.ht) i n k ∧ Chg [b] w wc)
  case first =>
    go_region_with (first
      | (go_at_call_of 233 (Value.pointer ul); refine (heightN L ul bl base _ (by exact HL.out.frame (fun _ _ => rfl))).mono ?_; rintro e w1 ⟨rfl, rfl⟩)
      | (go_at_call_of 233 (Value.pointer ur); refine (heightN R ur br base _ (by exact HR.out.frame (fun _ _ => rfl))).mono ?_; rintro e w2 ⟨rfl, rfl⟩))
    all_goals ((go_wp2_with fail) <;> go_meet <;> exact ⟨((HN.out.set5 _).heap rfl).cong5 (by rw [i64w _ (by omega) (by omega)]; omega), ((Chg.refl [b] w).setCell ⟨b, 5, none⟩ _ (.inl (by simp))).drawn rfl rfl rfl rfl⟩)
  case rest =>
    obtain ⟨hn, hcc⟩ := hcut
    have N0 := hide hn
    have C0 := hide hcc
    have L0 := hide (HL.out.chg hcc (fun x hx e => NL.out (by simp at e; exact e ▸ hx)))
    have R0 := hide (HR.out.chg hcc (fun x hx e => NR.out (by simp at e; exact e ▸ hx)))
    have d3 := hn.c3
    have d4 := hn.c4
    have hltc := hn.lt
    clear hn hcc HN HL HR c3 c4 c5 f5
    go_upto_region 1 with fail
    go_region_with (first
      | (go_at_call_of 215 (Value.pointer ul); refine (allN L ul bl base _ (by exact L0.out.frame (fun _ _ => rfl))).mono ?_; rintro e w1 ⟨rfl, hb1⟩; have C1 := hide (C0.out.trans (show Chg [b] wc w1 from .of_below ⟨hb1.os, hb1.tape, hb1.output, hb1.size, hb1.block⟩) (fun _ h _ => h) (fun _ h _ => h)); have N1 := hide (show Nd w1 b p ul ur (1 + max (L.ht : Int) R.ht) i n k from (hb1.block b (by exact hltc)).trans N0.out); have R1 := hide (R0.out.frame (w' := w1) (fun x hx => hb1.block x (by exact (R0.out.lt x hx).2))); have d3 := N1.out.c3; have d4 := N1.out.c4; have hl1 := N1.out.lt; clear hb1 N0 C0 L0 R0)
      | (go_at_call_of 256 (Value.pointer (some ⟨b, 0, none⟩)); refine (ownN p b ul ur _ _ _ _ _ (by exact N1.out.heap rfl)).mono ?_; rintro e w2 ⟨rfl, hb2⟩; have C2 := hide (C1.out.trans (show Chg [b] w1 w2 from .of_below ⟨hb2.os, hb2.tape, hb2.output, hb2.size, hb2.block⟩) (fun _ h _ => h) (fun _ h _ => h)); have N2 := hide (show Nd w2 b p ul ur (1 + max (L.ht : Int) R.ht) i n k from (hb2.block b (by exact hl1)).trans N1.out); have R2 := hide (R1.out.frame (w' := w2) (fun x hx => hb2.block x (by exact (R1.out.lt x hx).2))); have d3 := N2.out.c3; have d4 := N2.out.c4; have hl2 := N2.out.lt; clear hb2 N1 C1 R1)
      | (go_at_call_of 255 (cnt 1 p.len p.brk); refine (plusN _ _ _ _ _ _ _ (by omega) (by omega) (by omega) (by omega) (by omega) (by omega)).mono ?_; rintro e w3 ⟨rfl, hb3⟩; have C3 := hide (C2.out.trans (show Chg [b] w2 w3 from .of_below ⟨hb3.os, hb3.tape, hb3.output, hb3.size, hb3.block⟩) (fun _ h _ => h) (fun _ h _ => h)); have N3 := hide (show Nd w3 b p ul ur (1 + max (L.ht : Int) R.ht) i n k from (hb3.block b (by exact hl2)).trans N2.out); have R3 := hide (R2.out.frame (w' := w3) (fun x hx => hb3.block x (by exact (R2.out.lt x hx).2))); have d3 := N3.out.c3; have d4 := N3.out.c4; have hl3 := N3.out.lt; clear hb3 N2 C2 R2)
      | (go_at_call_of 215 (Value.pointer ur); refine (allN R ur br base _ (by exact R3.out.frame (fun _ _ => rfl))).mono ?_; rintro e w4 ⟨rfl, hb4⟩; have C4 := hide (C3.out.trans (show Chg [b] w3 w4 from .of_below ⟨hb4.os, hb4.tape, hb4.output, hb4.size, hb4.block⟩) (fun _ h _ => h) (fun _ h _ => h)); have N4 := hide (show Nd w4 b p ul ur (1 + max (L.ht : Int) R.ht) i n k from (hb4.block b (by exact hl3)).trans N3.out); have hl4 := N4.out.lt; clear hb4 N3 C3 R3)
      | (go_at_call_of 255 (cnt (R.its : Int) R.rns R.bks); refine (plusN _ _ _ _ _ _ _ (by omega) (by omega) (by omega) (by omega) (by omega) (by omega)).mono ?_; rintro e w5 ⟨rfl, hb5⟩; have C5 := hide (C4.out.trans (show Chg [b] w4 w5 from .of_below ⟨hb5.os, hb5.tape, hb5.output, hb5.size, hb5.block⟩) (fun _ h _ => h) (fun _ h _ => h)); have N5 := hide (show Nd w5 b p ul ur (1 + max (L.ht : Int) R.ht) i n k from (hb5.block b (by exact hl4)).trans N4.out); have d6 := N5.out.c6; have d7 := N5.out.c7; have d8 := N5.out.c8; have f6 := N5.out.fz 6; have f7 := N5.out.fz 7; have f8 := N5.out.fz 8; simp only [cnt]; clear hb5 N4 C4))
    all_goals (refine bodyPost_end (v := .tuple #[]) (by simp [results, Tryz.results232]) rfl ⟨rfl, N5.out.set678 _ _ _, ?_⟩; exact ((C5.out.setCell ⟨b, 6, none⟩ _ (.inl (by simp))).setCell ⟨b, 7, none⟩ _ (.inl (by simp))).setCell ⟨b, 8, none⟩ _ (.inl (by simp)))

set_option maxHeartbeats 1000000 in
set_option maxRecDepth 100000 in
theorem leanNW (L : AT) (p : Pc) (R : AT) (b : Nat) (ul ur : Option Addr) (bl br : List Nat) (base : Nat) (h i n k : Int) (w : World) (hn : Nd w b p ul ur h i n k)
    (hL : Lies w base L ul bl) (hR : Lies w base R ur br) (h1 : (L.ht : Int) ≤ 16384) (h2 : (R.ht : Int) ≤ 16384) :
    Calls Tryz.prog 211 #[.pointer (some ⟨b, 0, none⟩)] w fun e w' => e = .returned (.int .i64 ((L.ht : Int) - R.ht)) ∧ Chg [] w w' := by
  have c3 := hn.c3
  have c4 := hn.c4
  have hlt := hn.lt
  have HL := hide hL
  have HR := hide hR
  clear hn hL hR
  have hw : IntKind.i64.wrap ((L.ht : Int) - R.ht) = (L.ht : Int) - R.ht := i64w _ (by omega) (by omega)
  go_enter Tryz.func211, Tryz.ntmps211
  go_upto_region 1 with fail
  go_region_with (first
      | (go_at_call_of 233 (Value.pointer ul); refine (heightN L ul bl base _ (by exact HL.out.frame (fun _ _ => rfl))).mono ?_; rintro e w1 ⟨rfl, rfl⟩)
      | (go_at_call_of 233 (Value.pointer ur); refine (heightN R ur br base _ (by exact HR.out.frame (fun _ _ => rfl))).mono ?_; rintro e w2 ⟨rfl, rfl⟩))
  all_goals (go_wp2; go_ret; exact ⟨by first | rfl | simp [hw], (Chg.refl _ _).drawn rfl rfl rfl rfl⟩)

set_option maxHeartbeats 2000000 in
set_option maxRecDepth 100000 in
theorem turnRNW (A : AT) (q : Pc) (S : AT) (p : Pc) (R : AT) (b c : Nat) (ua us ur : Option Addr) (ba bs br : List Nat) (base : Nat) (h i n k h' i' n' k' : Int) (w : World)
    (hb : Nd w b p (some ⟨c, 0, none⟩) ur h i n k) (hc : Nd w c q ua us h' i' n' k') (hA : Lies w base A ua ba) (hS : Lies w base S us bs) (hR : Lies w base R ur br) (h1 : base ≤ b) (h2 : base ≤ c)
    (hnd : (b :: c :: (ba ++ (bs ++ br))).Nodup) (hok : (AT.node A q (AT.node S p R)).okw) :
    Calls Tryz.prog 408 #[.pointer (some ⟨b, 0, none⟩)] w fun e w' => e = .returned (.pointer (some ⟨c, 0, none⟩)) ∧ NdT w' c A q (AT.node S p R) ua (some ⟨b, 0, none⟩) ∧ Lies w' base A ua ba ∧ Lies w' base (AT.node S p R) (some ⟨b, 0, none⟩) (b :: (bs ++ br)) ∧ Chg [b, c] w w' := by
  simp only [List.nodup_cons, List.mem_cons, List.mem_append, not_or] at hnd
  obtain ⟨⟨nbc, nba, nbs, nbr⟩, ⟨nca, ncs, ncr⟩, _⟩ := hnd
  have b3 := hb.c3
  have b4 := hb.c4
  have c4 := hc.c4
  have fb3 := hb.fz 3
  have fc4 := hc.fz 4
  have lb := hb.lt
  have lc := hc.lt
  have ncb : ¬ c = b := fun e => nbc e.symm
  have HB1 := hide ((hb.set3 us).other ⟨c, 4, none⟩ (.pointer (some ⟨b, 0, none⟩)) nbc)
  have HC1 := hide ((hc.other ⟨b, 3, none⟩ (.pointer us) ncb).set4 (some ⟨b, 0, none⟩))
  have HA1 := hide ((hA.other ⟨b, 3, none⟩ (.pointer us) nba).other ⟨c, 4, none⟩ (.pointer (some ⟨b, 0, none⟩)) nca)
  have HS1 := hide ((hS.other ⟨b, 3, none⟩ (.pointer us) nbs).other ⟨c, 4, none⟩ (.pointer (some ⟨b, 0, none⟩)) ncs)
  have HR1 := hide ((hR.other ⟨b, 3, none⟩ (.pointer us) nbr).other ⟨c, 4, none⟩ (.pointer (some ⟨b, 0, none⟩)) ncr)
  have CH1 := hide (((Chg.refl [b, c] w).setCell ⟨b, 3, none⟩ (.pointer us) (.inl (by simp))).setCell ⟨c, 4, none⟩ (.pointer (some ⟨b, 0, none⟩)) (.inl (by simp)))
  have HK := hide (recountNW S p R b us ur bs br base h i n k _ HB1.out HS1.out HR1.out nbs nbr hok.right)
  have HX := hide (And.intro nba (And.intro nbs (And.intro nbr (And.intro nca (And.intro ncs ncr)))))
  have HOK := hide hok
  clear hb hc hA hS hR hok nba nbs nbr nca ncs ncr
  go_enter Tryz.func408, Tryz.ntmps408
  go_wp2_with fail
  generalize (w.setCell ⟨b, 3, none⟩ (.pointer us)).setCell ⟨c, 4, none⟩ (.pointer (some ⟨b, 0, none⟩)) = w1 at *
  refine HK.out.mono ?_
  rintro e w2 ⟨rfl, hn2, hc2⟩
  obtain ⟨nba, nbs, nbr, nca, ncs, ncr⟩ := HX.out
  have HC2 := hide (HC1.out.chg hc2 (by simpa using ncb))
  have HA2 := hide (HA1.out.chg hc2 (fun x hx e => nba (by simp at e; exact e ▸ hx)))
  have HS2 := hide (HS1.out.chg hc2 (fun x hx e => nbs (by simp at e; exact e ▸ hx)))
  have HR2 := hide (HR1.out.chg hc2 (fun x hx e => nbr (by simp at e; exact e ▸ hx)))
  have HT2 := hide (show Lies w2 base (AT.node S p R) (some ⟨b, 0, none⟩) (b :: (bs ++ br)) from ⟨b, us, ur, bs, br, rfl, h1, hn2, HS2.out, HR2.out, rfl⟩)
  have CH2 := hide (CH1.out.trans hc2 (fun _ h _ => h) (fun x h _ => by simp at h; simp [h]) (ds := [b, c]))
  have HK2 := hide (recountNW A q (AT.node S p R) c ua (some ⟨b, 0, none⟩) ba (b :: (bs ++ br)) base h' i' n' k' w2 HC2.out HA2.out HT2.out nca (by simp [ncb, ncs, ncr]) HOK.out)
  clear hn2 hc2 HK HB1 HC1 HA1 HS1 HR1 CH1 nba nbs nbr nca ncs ncr
  go_wp2_with fail
  refine HK2.out.mono ?_
  rintro e w3 ⟨rfl, hn3, hc3⟩
  obtain ⟨nba, nbs, nbr, nca, ncs, ncr⟩ := HX.out
  have HA3 := hide (HA2.out.chg hc3 (fun x hx e => nca (by simp at e; exact e ▸ hx)))
  have HT3 := hide (HT2.out.chg hc3 (fun x hx e => by
    simp at e; subst e
    simp only [List.mem_cons, List.mem_append] at hx
    rcases hx with hx | hx | hx
    · exact ncb hx
    · exact ncs hx
    · exact ncr hx))
  have CH3 := hide (CH2.out.trans hc3 (fun _ h _ => h) (fun x h _ => by simp at h; simp [h]) (ds := [b, c]))
  have HN3 := hide hn3
  clear hn3 hc3 HK2 HX
  go_wp2
  go_ret
  exact ⟨rfl, HN3.out, HA3.out, HT3.out, CH3.out⟩

set_option maxHeartbeats 2000000 in
set_option maxRecDepth 100000 in
theorem turnLNW (L : AT) (p : Pc) (S : AT) (q : Pc) (D : AT) (b c : Nat) (ul us ud : Option Addr) (bl bs bd : List Nat) (base : Nat) (h i n k h' i' n' k' : Int) (w : World)
    (hb : Nd w b p ul (some ⟨c, 0, none⟩) h i n k) (hc : Nd w c q us ud h' i' n' k') (hL : Lies w base L ul bl) (hS : Lies w base S us bs) (hD : Lies w base D ud bd) (h1 : base ≤ b) (h2 : base ≤ c)
    (hnd : (b :: c :: (bl ++ (bs ++ bd))).Nodup) (hok : (AT.node (AT.node L p S) q D).okw) :
    Calls Tryz.prog 407 #[.pointer (some ⟨b, 0, none⟩)] w fun e w' => e = .returned (.pointer (some ⟨c, 0, none⟩)) ∧ NdT w' c (AT.node L p S) q D (some ⟨b, 0, none⟩) ud ∧ Lies w' base (AT.node L p S) (some ⟨b, 0, none⟩) (b :: (bl ++ bs)) ∧ Lies w' base D ud bd ∧ Chg [b, c] w w' := by
  simp only [List.nodup_cons, List.mem_cons, List.mem_append, not_or] at hnd
  obtain ⟨⟨nbc, nbl, nbs, nbd⟩, ⟨ncl, ncs, ncd⟩, _⟩ := hnd
  have b3 := hb.c3
  have b4 := hb.c4
  have c3 := hc.c3
  have fb4 := hb.fz 4
  have fc3 := hc.fz 3
  have lb := hb.lt
  have lc := hc.lt
  have ncb : ¬ c = b := fun e => nbc e.symm
  have HB1 := hide ((hb.set4 us).other ⟨c, 3, none⟩ (.pointer (some ⟨b, 0, none⟩)) nbc)
  have HC1 := hide ((hc.other ⟨b, 4, none⟩ (.pointer us) ncb).set3 (some ⟨b, 0, none⟩))
  have HL1 := hide ((hL.other ⟨b, 4, none⟩ (.pointer us) nbl).other ⟨c, 3, none⟩ (.pointer (some ⟨b, 0, none⟩)) ncl)
  have HS1 := hide ((hS.other ⟨b, 4, none⟩ (.pointer us) nbs).other ⟨c, 3, none⟩ (.pointer (some ⟨b, 0, none⟩)) ncs)
  have HD1 := hide ((hD.other ⟨b, 4, none⟩ (.pointer us) nbd).other ⟨c, 3, none⟩ (.pointer (some ⟨b, 0, none⟩)) ncd)
  have CH1 := hide (((Chg.refl [b, c] w).setCell ⟨b, 4, none⟩ (.pointer us) (.inl (by simp))).setCell ⟨c, 3, none⟩ (.pointer (some ⟨b, 0, none⟩)) (.inl (by simp)))
  have HK := hide (recountNW L p S b ul us bl bs base h i n k _ HB1.out HL1.out HS1.out nbl nbs hok.left)
  have HX := hide (And.intro nbl (And.intro nbs (And.intro nbd (And.intro ncl (And.intro ncs ncd)))))
  have HOK := hide hok
  clear hb hc hL hS hD hok nbl nbs nbd ncl ncs ncd
  go_enter Tryz.func407, Tryz.ntmps407
  go_wp2_with fail
  generalize (w.setCell ⟨b, 4, none⟩ (.pointer us)).setCell ⟨c, 3, none⟩ (.pointer (some ⟨b, 0, none⟩)) = w1 at *
  refine HK.out.mono ?_
  rintro e w2 ⟨rfl, hn2, hc2⟩
  obtain ⟨nbl, nbs, nbd, ncl, ncs, ncd⟩ := HX.out
  have HC2 := hide (HC1.out.chg hc2 (by simpa using ncb))
  have HL2 := hide (HL1.out.chg hc2 (fun x hx e => nbl (by simp at e; exact e ▸ hx)))
  have HS2 := hide (HS1.out.chg hc2 (fun x hx e => nbs (by simp at e; exact e ▸ hx)))
  have HD2 := hide (HD1.out.chg hc2 (fun x hx e => nbd (by simp at e; exact e ▸ hx)))
  have HT2 := hide (show Lies w2 base (AT.node L p S) (some ⟨b, 0, none⟩) (b :: (bl ++ bs)) from ⟨b, ul, us, bl, bs, rfl, h1, hn2, HL2.out, HS2.out, rfl⟩)
  have CH2 := hide (CH1.out.trans hc2 (fun _ h _ => h) (fun x h _ => by simp at h; simp [h]) (ds := [b, c]))
  have HK2 := hide (recountNW (AT.node L p S) q D c (some ⟨b, 0, none⟩) ud (b :: (bl ++ bs)) bd base h' i' n' k' w2 HC2.out HT2.out HD2.out (by simp [ncb, ncs, ncl]) ncd HOK.out)
  clear hn2 hc2 HK HB1 HC1 HL1 HS1 HD1 CH1 nbl nbs nbd ncl ncs ncd
  go_wp2_with fail
  refine HK2.out.mono ?_
  rintro e w3 ⟨rfl, hn3, hc3⟩
  obtain ⟨nbl, nbs, nbd, ncl, ncs, ncd⟩ := HX.out
  have HD3 := hide (HD2.out.chg hc3 (fun x hx e => ncd (by simp at e; exact e ▸ hx)))
  have HT3 := hide (HT2.out.chg hc3 (fun x hx e => by
    simp at e; subst e
    simp only [List.mem_cons, List.mem_append] at hx
    rcases hx with hx | hx | hx
    · exact ncb hx
    · exact ncl hx
    · exact ncs hx))
  have CH3 := hide (CH2.out.trans hc3 (fun _ h _ => h) (fun x h _ => by simp at h; simp [h]) (ds := [b, c]))
  have HN3 := hide hn3
  clear hn3 hc3 HK2 HX
  go_wp2
  go_ret
  exact ⟨rfl, HN3.out, HT3.out, HD3.out, CH3.out⟩

theorem ok_turnRW {A : AT} {q : Pc} {S : AT} {p : Pc} {R : AT} (h : (AT.node (AT.node A q S) p R).okw) : (AT.node A q (AT.node S p R)).okw := h.of_flat (by simp [AT.flat])

theorem ok_turnLW {L : AT} {p : Pc} {S : AT} {q : Pc} {D : AT} (h : (AT.node L p (AT.node S q D)).okw) : (AT.node (AT.node L p S) q D).okw := h.of_flat (by simp [AT.flat])

set_option maxHeartbeats 4000000 in
set_option maxRecDepth 100000 in
theorem repairNW (L : AT) (p : Pc) (R : AT) (b : Nat) (ul ur : Option Addr) (bl br : List Nat) (base : Nat) (h i n k : Int) (w : World) (hb : Nd w b p ul ur h i n k)
    (hL : Lies w base L ul bl) (hR : Lies w base R ur br) (hbase : base ≤ b) (hnd : (b :: (bl ++ br)).Nodup) (hok : (AT.node L p R).okw) (hd1 : L.ht ≤ R.ht + 2) (hd2 : R.ht ≤ L.ht + 2) :
    Calls Tryz.prog 399 #[.pointer (some ⟨b, 0, none⟩)] w (RepPost base (AT.rep L p R) (b :: (bl ++ br)) w) := by
  have hnd' := hnd
  simp only [List.nodup_cons, List.mem_append, not_or] at hnd'
  obtain ⟨⟨nbl, nbr⟩, _⟩ := hnd'
  have HK := hide (recountNW L p R b ul ur bl br base h i n k w hb hL hR nbl nbr hok)
  have HL := hide hL
  have HR := hide hR
  have HOK := hide hok
  have HND := hide hnd
  have HN1 := hide nbl
  have HN2 := hide nbr
  have bL := hok.left.bd
  have bR := hok.right.bd
  have hhl : (L.ht : Int) ≤ 16384 := by have := ht_le_its L; omega
  have hhr : (R.ht : Int) ≤ 16384 := by have := ht_le_its R; omega
  have HREP := hide (show AT.rep L p R = _ from rfl)
  generalize hres : AT.rep L p R = res
  have HRES := hide hres
  clear hb hL hR hok hnd nbl nbr hres HREP
  go_enter Tryz.func399, Tryz.ntmps399
  go_wp2_with fail
  refine HK.out.mono ?_
  rintro e w1 ⟨rfl, hn1, hc1⟩
  have HL1 := hide (HL.out.chg hc1 (fun x hx e => HN1.out (by simp at e; exact e ▸ hx)))
  have HR1 := hide (HR.out.chg hc1 (fun x hx e => HN2.out (by simp at e; exact e ▸ hx)))
  have HB1 := hide hn1
  have CH1 := hide (hc1.trans (Chg.refl [b] w1) (fun x h _ => by simp at h; simp [h]) (fun x h _ => by simp at h; simp [h]) (ds := b :: (bl ++ br)))
  have HK1 := hide (leanNW L p R b ul ur bl br base _ _ _ _ w1 hn1 HL1.out HR1.out hhl hhr)
  clear hn1 hc1 HK HL HR
  go_wp2_with fail
  refine HK1.out.mono ?_
  rintro e w2 ⟨rfl, hc2⟩
  have HL2 := hide (HL1.out.chg hc2 (fun _ _ => by simp))
  have HR2 := hide (HR1.out.chg hc2 (fun _ _ => by simp))
  have HB2 := hide (HB1.out.chg hc2 (by simp))
  have CH2 := hide (CH1.out.trans hc2 (fun _ h _ => h) (fun x h _ => by simp at h) (ds := b :: (bl ++ br)))
  have c3 := HB2.out.c3
  have c4 := HB2.out.c4
  have lb := HB2.out.lt
  clear hc2 HK1 HL1 HR1 HB1 CH1
  by_cases hd : (L.ht : Int) - R.ht = 2
  · have hde : (((L.ht : Int) - R.ht) == 2) = true := by rw [hd]; rfl
    cases L with
    | nil => simp [AT.ht] at hd; omega
    | node A q S =>
      obtain ⟨c, ua, us, ba, bs, rfl, hbc, hndc, hA, hS, rfl⟩ := HL2.out
      have bA := HOK.out.left.left.bd
      have bS := HOK.out.left.right.bd
      have hha : (A.ht : Int) ≤ 16384 := by have := ht_le_its A; omega
      have hhs : (S.ht : Int) ≤ 16384 := by have := ht_le_its S; omega
      have HK3 := hide (leanNW A q S c ua us ba bs base _ _ _ _ w2 hndc hA hS hha hhs)
      have HA2 := hide hA
      have HS2 := hide hS
      have HC2 := hide hndc
      clear hA hS hndc
      go_wp2_with fail
      refine HK3.out.mono ?_
      rintro e w3 ⟨rfl, hc3⟩
      have HA3 := hide (HA2.out.chg hc3 (fun _ _ => by simp))
      have HS3 := hide (HS2.out.chg hc3 (fun _ _ => by simp))
      have HC3 := hide (HC2.out.chg hc3 (by simp))
      have HR3 := hide (HR2.out.chg hc3 (fun _ _ => by simp))
      have HB3 := hide (HB2.out.chg hc3 (by simp))
      have CH3 := hide (CH2.out.trans hc3 (fun _ h _ => h) (fun x h _ => by simp at h) (ds := b :: ((c :: (ba ++ bs)) ++ br)))
      clear hc3 HK3 HA2 HS2 HC2 HR2 HB2 CH2 HL2 c3 c4
      have c3 := HB3.out.c3
      have lb3 := HB3.out.lt
      have fb3 := HB3.out.fz 3
      by_cases hln : (A.ht : Int) - S.ht < 0
      · cases S with
        | nil => simp [AT.ht] at hln; omega
        | node C s D =>
          obtain ⟨g, uc, ud, bc, bd, rfl, hbg, hndg, hC, hD, rfl⟩ := HS3.out
          have HREP : Hid (res = AT.node (AT.node A q C) s (AT.node D p R)) := by
            rw [← HRES.out]
            unfold AT.rep
            rw [if_pos hd, if_pos (show (AT.node A q (AT.node C s D)).lean < 0 from hln)]
            rfl
          have hndL : (c :: g :: (ba ++ (bc ++ bd))).Nodup := by
            have h0 := HND.out
            simp only [List.nodup_cons] at h0
            have h1 := (List.nodup_append.1 h0.2).1
            have h2 : (c :: (ba ++ g :: (bc ++ bd))).Perm (c :: g :: (ba ++ (bc ++ bd))) := List.perm_middle.cons c
            exact h2.nodup_iff.1 h1
          have HK4 := hide (turnLNW A q C s D c g ua uc ud ba bc bd base _ _ _ _ _ _ _ _ w3 HC3.out hndg HA3.out hC hD hbc hbg hndL (ok_turnLW HOK.out.left))
          have HP4 := hide (permL c g ba bc bd)
          clear hndg hC hD hndL HRES
          go_wp2_with fail
          refine HK4.out.mono ?_
          rintro e w4 ⟨rfl, hg4, hT4, hD4, hc4⟩
          have hbn : b ∉ [c, g] := by
            have h0 := HND.out
            simp only [List.nodup_cons, List.mem_append, List.mem_cons, not_or] at h0
            simp only [List.mem_cons, List.not_mem_nil, or_false, not_or]
            exact ⟨h0.1.1.1, h0.1.1.2.2.1⟩
          have hrn : ∀ x ∈ br, x ∉ [c, g] := by
            intro x hx e
            have h0 := HND.out
            simp only [List.nodup_cons] at h0
            have h1 := (List.nodup_append.1 h0.2).2.2
            simp only [List.mem_cons, List.not_mem_nil, or_false] at e
            rcases e with rfl | rfl
            · exact h1 x (by simp) x hx rfl
            · exact h1 x (by simp) x hx rfl
          have HB4 := hide (HB3.out.chg hc4 hbn)
          have HR4 := hide (HR3.out.chg hc4 hrn)
          have CH4 := hide (CH3.out.trans hc4 (fun _ h _ => h) (fun x h _ => by simp at h; rcases h with rfl | rfl <;> simp) (ds := b :: ((c :: (ba ++ (g :: (bc ++ bd)))) ++ br)))
          have HND2 := hide (show (b :: ((g :: ((c :: (ba ++ bc)) ++ bd)) ++ br)).Nodup from ((HP4.out.append_right br).cons b).nodup_iff.2 HND.out)
          have b3 := HB4.out.c3
          have fb4 := HB4.out.fz 3
          have lb4 := HB4.out.lt
          have bnb : b ∉ g :: ((c :: (ba ++ bc)) ++ bd) := fun hm => by
            have := (List.nodup_cons.1 HND2.out).1; exact this (List.mem_append_left _ hm)
          have HB5 := hide (HB4.out.set3 (some ⟨g, 0, none⟩))
          have bnb1 : b ∉ c :: (ba ++ bc) := fun hm => bnb (by simp at hm ⊢; rcases hm with h | h | h <;> simp [h])
          have bnb2 : b ∉ bd := fun hm => bnb (by simp [hm])
          have bng : b ≠ g := fun e => bnb (by simp [e])
          have HT5 := hide (hT4.other ⟨b, 3, none⟩ (.pointer (some ⟨g, 0, none⟩)) bnb1)
          have HD5 := hide (hD4.other ⟨b, 3, none⟩ (.pointer (some ⟨g, 0, none⟩)) bnb2)
          have HG5 := hide (Nd.other hg4 ⟨b, 3, none⟩ (.pointer (some ⟨g, 0, none⟩)) (fun e => bng e.symm))
          have HR5 := hide (HR4.out.other ⟨b, 3, none⟩ (.pointer (some ⟨g, 0, none⟩)) HN2.out)
          have CH5 := hide (CH4.out.setCell ⟨b, 3, none⟩ (.pointer (some ⟨g, 0, none⟩)) (.inl (by simp)))
          clear hT4 hD4 hg4 hc4 HK4 bnb1 bnb2 bng HA3 HS3 HC3 HR3 HB3 CH3 HB4 HR4 CH4 hbn hrn bnb c3
          go_wp2_with fail
          generalize w4.setCell ⟨b, 3, none⟩ (.pointer (some ⟨g, 0, none⟩)) = w5 at *
          have HK6 := hide (turnRNW (AT.node A q C) s D p R b g (some ⟨c, 0, none⟩) ud ur (c :: (ba ++ bc)) bd br base _ _ _ _ _ _ _ _ w5 HB5.out HG5.out HT5.out HD5.out HR5.out hbase hbg (by have := HND2.out; simpa [List.append_assoc] using this) (HOK.out.of_flat (by simp [AT.flat])))
          go_wp2_with fail
          refine HK6.out.mono ?_
          rintro e w6 ⟨rfl, hg6, hT6, hD6, hc6⟩
          have HT6 := hide (Lies.mk hbg hg6 hT6 hD6)
          have CH6 := hide (CH5.out.trans hc6 (fun _ h _ => h) (fun x h _ => by simp at h; rcases h with rfl | rfl <;> simp) (ds := b :: ((c :: (ba ++ (g :: (bc ++ bd)))) ++ br)))
          clear hT6 hc6 hg6 hD6 HK6
          go_wp2
          go_ret
          rw [HREP.out]
          exact RepPost.mk _ _ HT6.out ((permR b g (c :: (ba ++ bc)) bd br).trans ((HP4.out.append_right br).cons b)) CH6.out
      · have HREP : Hid (res = AT.node A q (AT.node S p R)) := by
          rw [← HRES.out]
          unfold AT.rep
          rw [if_pos hd, if_neg (show ¬ (AT.node A q S).lean < 0 from hln)]
          rfl
        have HK6 := hide (turnRNW A q S p R b c ua us ur ba bs br base _ _ _ _ _ _ _ _ w3 HB3.out HC3.out HA3.out HS3.out HR3.out hbase hbc (by have := HND.out; simpa [List.append_assoc] using this) (ok_turnRW HOK.out))
        clear HRES
        go_wp2_with fail
        refine HK6.out.mono ?_
        rintro e w6 ⟨rfl, hg6, hT6, hD6, hc6⟩
        have HT6 := hide (Lies.mk hbc hg6 hT6 hD6)
        have CH6 := hide (CH3.out.trans hc6 (fun _ h _ => h) (fun x h _ => by simp at h; rcases h with rfl | rfl <;> simp) (ds := b :: ((c :: (ba ++ bs)) ++ br)))
        clear hT6 hc6 hg6 hD6 HK6
        go_wp2
        go_ret
        rw [HREP.out]
        exact RepPost.mk _ _ HT6.out (permR b c ba bs br) CH6.out
  · have hde : (((L.ht : Int) - R.ht) == 2) = false := by simpa using hd
    by_cases hd' : (L.ht : Int) - R.ht = -2
    · have hde' : (((L.ht : Int) - R.ht) == -2) = true := by rw [hd']; rfl
      cases R with
      | nil => simp [AT.ht] at hd'
      | node S q D =>
        obtain ⟨c, us, ud, bs, bd, rfl, hbc, hndc, hS, hD, rfl⟩ := HR2.out
        have bS := HOK.out.right.left.bd
        have bD := HOK.out.right.right.bd
        have hhs : (S.ht : Int) ≤ 16384 := by have := ht_le_its S; omega
        have hhd : (D.ht : Int) ≤ 16384 := by have := ht_le_its D; omega
        have HK3 := hide (leanNW S q D c us ud bs bd base _ _ _ _ w2 hndc hS hD hhs hhd)
        have HS2 := hide hS
        have HD2 := hide hD
        have HC2 := hide hndc
        clear hS hD hndc
        go_wp2_with fail
        refine HK3.out.mono ?_
        rintro e w3 ⟨rfl, hc3⟩
        have HS3 := hide (HS2.out.chg hc3 (fun _ _ => by simp))
        have HD3 := hide (HD2.out.chg hc3 (fun _ _ => by simp))
        have HC3 := hide (HC2.out.chg hc3 (by simp))
        have HL3 := hide (HL2.out.chg hc3 (fun _ _ => by simp))
        have HB3 := hide (HB2.out.chg hc3 (by simp))
        have CH3 := hide (CH2.out.trans hc3 (fun _ h _ => h) (fun x h _ => by simp at h) (ds := b :: (bl ++ (c :: (bs ++ bd)))))
        clear hc3 HK3 HS2 HD2 HC2 HR2 HB2 CH2 HL2 c3 c4
        have c4 := HB3.out.c4
        have lb3 := HB3.out.lt
        have fb4 := HB3.out.fz 4
        by_cases hln : (S.ht : Int) - D.ht > 0
        · cases S with
          | nil => simp [AT.ht] at hln; omega
          | node C s E =>
            obtain ⟨g, uc, ue, bc, be, rfl, hbg, hndg, hC, hE, rfl⟩ := HS3.out
            have HREP : Hid (res = AT.node (AT.node L p C) s (AT.node E q D)) := by
              rw [← HRES.out]
              unfold AT.rep
              rw [if_neg hd, if_pos hd', if_pos (show 0 < (AT.node (AT.node C s E) q D).lean from hln)]
              rfl
            have hndL : (c :: g :: (bc ++ (be ++ bd))).Nodup := by
              have h0 := HND.out
              simp only [List.nodup_cons] at h0
              have h1 := (List.nodup_append.1 h0.2).2.1
              simpa [List.append_assoc] using h1
            have HK4 := hide (turnRNW C s E q D c g uc ue ud bc be bd base _ _ _ _ _ _ _ _ w3 HC3.out hndg hC hE HD3.out hbc hbg hndL (ok_turnRW HOK.out.right))
            have HP4 := hide (permR c g bc be bd)
            clear hndg hC hE hndL HRES
            go_wp2_with fail
            refine HK4.out.mono ?_
            rintro e w4 ⟨rfl, hg4, hC4, hT4, hc4⟩
            have hbn : b ∉ [c, g] := by
              have h0 := HND.out
              simp only [List.nodup_cons, List.mem_append, List.mem_cons, not_or] at h0
              simp only [List.mem_cons, List.not_mem_nil, or_false, not_or]
              exact ⟨h0.1.2.1, h0.1.2.2.1.1⟩
            have hrn : ∀ x ∈ bl, x ∉ [c, g] := by
              intro x hx e
              have h0 := HND.out
              simp only [List.nodup_cons] at h0
              have h1 := (List.nodup_append.1 h0.2).2.2
              simp only [List.mem_cons, List.not_mem_nil, or_false] at e
              rcases e with rfl | rfl
              · exact h1 x hx x (by simp) rfl
              · exact h1 x hx x (by simp) rfl
            have HB4 := hide (HB3.out.chg hc4 hbn)
            have HL4 := hide (HL3.out.chg hc4 hrn)
            have CH4 := hide (CH3.out.trans hc4 (fun _ h _ => h) (fun x h _ => by simp at h; rcases h with rfl | rfl <;> simp) (ds := b :: (bl ++ (c :: ((g :: (bc ++ be)) ++ bd)))))
            have HND2 := hide (show (b :: (bl ++ (g :: (bc ++ (c :: (be ++ bd)))))).Nodup from ((HP4.out.append_left bl).cons b).nodup_iff.2 HND.out)
            have b4 := HB4.out.c4
            have fb4' := HB4.out.fz 4
            have lb4 := HB4.out.lt
            have bnb : b ∉ g :: (bc ++ (c :: (be ++ bd))) := fun hm => by
              have := (List.nodup_cons.1 HND2.out).1; exact this (List.mem_append_right _ hm)
            have bnb1 : b ∉ c :: (be ++ bd) := fun hm => bnb (by simp at hm ⊢; rcases hm with h | h | h <;> simp [h])
            have bnb2 : b ∉ bc := fun hm => bnb (by simp [hm])
            have bng : b ≠ g := fun e => bnb (by simp [e])
            have HB5 := hide (HB4.out.set4 (some ⟨g, 0, none⟩))
            have HT5 := hide (hT4.other ⟨b, 4, none⟩ (.pointer (some ⟨g, 0, none⟩)) bnb1)
            have HC5 := hide (hC4.other ⟨b, 4, none⟩ (.pointer (some ⟨g, 0, none⟩)) bnb2)
            have HG5 := hide (Nd.other hg4 ⟨b, 4, none⟩ (.pointer (some ⟨g, 0, none⟩)) (fun e => bng e.symm))
            have HL5 := hide (HL4.out.other ⟨b, 4, none⟩ (.pointer (some ⟨g, 0, none⟩)) HN1.out)
            have CH5 := hide (CH4.out.setCell ⟨b, 4, none⟩ (.pointer (some ⟨g, 0, none⟩)) (.inl (by simp)))
            have HND3 := hide (show (b :: g :: (bl ++ (bc ++ (c :: (be ++ bd))))).Nodup from (List.perm_middle.cons b).nodup_iff.1 HND2.out)
            clear hT4 hC4 hg4 hc4 HK4 bnb1 bnb2 bng HS3 HD3 HC3 HL3 HB3 CH3 HB4 HL4 CH4 hbn hrn bnb c4
            go_wp2_with fail
            generalize w4.setCell ⟨b, 4, none⟩ (.pointer (some ⟨g, 0, none⟩)) = w5 at *
            have HK6 := hide (turnLNW L p C s (AT.node E q D) b g ul uc (some ⟨c, 0, none⟩) bl bc (c :: (be ++ bd)) base _ _ _ _ _ _ _ _ w5 HB5.out HG5.out HL5.out HC5.out HT5.out hbase hbg HND3.out (HOK.out.of_flat (by simp [AT.flat])))
            go_wp2_with fail
            refine HK6.out.mono ?_
            rintro e w6 ⟨rfl, hg6, hT6, hD6, hc6⟩
            have HT6 := hide (Lies.mk hbg hg6 hT6 hD6)
            have CH6 := hide (CH5.out.trans hc6 (fun _ h _ => h) (fun x h _ => by simp at h; rcases h with rfl | rfl <;> simp) (ds := b :: (bl ++ (c :: ((g :: (bc ++ be)) ++ bd)))))
            clear hT6 hc6 hg6 hD6 HK6
            go_wp2
            go_ret
            rw [HREP.out]
            exact RepPost.mk _ _ HT6.out ((permL b g bl bc (c :: (be ++ bd))).trans ((HP4.out.append_left bl).cons b)) CH6.out
        · have HREP : Hid (res = AT.node (AT.node L p S) q D) := by
            rw [← HRES.out]
            unfold AT.rep
            rw [if_neg hd, if_pos hd', if_neg (show ¬ 0 < (AT.node S q D).lean from hln)]
            rfl
          have HND3 := hide (show (b :: c :: (bl ++ (bs ++ bd))).Nodup from (List.perm_middle.cons b).nodup_iff.1 HND.out)
          have HK6 := hide (turnLNW L p S q D b c ul us ud bl bs bd base _ _ _ _ _ _ _ _ w3 HB3.out HC3.out HL3.out HS3.out HD3.out hbase hbc HND3.out (ok_turnLW HOK.out))
          clear HRES
          go_wp2_with fail
          refine HK6.out.mono ?_
          rintro e w6 ⟨rfl, hg6, hT6, hD6, hc6⟩
          have HT6 := hide (Lies.mk hbc hg6 hT6 hD6)
          have CH6 := hide (CH3.out.trans hc6 (fun _ h _ => h) (fun x h _ => by simp at h; rcases h with rfl | rfl <;> simp) (ds := b :: (bl ++ (c :: (bs ++ bd)))))
          clear hT6 hc6 hg6 hD6 HK6
          go_wp2
          go_ret
          rw [HREP.out]
          exact RepPost.mk _ _ HT6.out (permL b c bl bs bd) CH6.out
    · have hde' : (((L.ht : Int) - R.ht) == -2) = false := by simpa using hd'
      have HREP : Hid (res = AT.node L p R) := by
        rw [← HRES.out]
        unfold AT.rep
        rw [if_neg hd, if_neg hd']
        exact rfl
      clear HRES c3 c4
      go_wp2
      go_ret
      rw [HREP.out]
      exact RepPost.mk _ _ (Lies.mk hbase HB2.out HL2.out HR2.out) (List.Perm.refl _) CH2.out

theorem AT.okw.sub {S T : AT} (h : T.okw) (hs : S.flat.Sublist T.flat) : S.okw :=
  ⟨fun p hp => h.1 p (hs.subset hp), by have h1 := sum_sub hs h.1; have h2 := h.2; rw [AT.rns_of_flat] at h2 ⊢; omega⟩

set_option maxHeartbeats 4000000 in
set_option maxRecDepth 100000 in
theorem removeNW : ∀ (T : AT) (k : Nat) (u : Option Addr) (bs : List Nat) (base : Nat) (w : World), T.bal → T.okw → k < T.its → Lies w base T u bs → bs.Nodup →
    Calls Tryz.prog 404 #[.pointer u, .int .i64 k] w (MutPost base (T.rem k) bs w) := by
  intro T
  induction T with
  | nil => intro k u bs base w _ _ hk; simp [AT.its] at hk
  | node l p r ihl ihr =>
    intro k u bs base w hbal hok hk hT hnd
    have hTlt := hT.lt
    obtain ⟨b, ul, ur, bl, br, rfl, hbase, hb, hL, hR, rfl⟩ := hT
    obtain ⟨bl_, br_, ht1, ht2⟩ := AT.bal_hts hbal
    have hnd' := hnd
    simp only [List.nodup_cons, List.nodup_append, List.mem_append, not_or] at hnd'
    obtain ⟨⟨nbl, nbr⟩, ndl, ndr, ndlr⟩ := hnd'
    have dlr : ∀ x ∈ br, x ∉ bl := fun x hx hm => ndlr x hm x hx rfl
    have drl : ∀ x ∈ bl, x ∉ br := fun x hx hm => ndlr x hx x hm rfl
    have bT := hok.bd
    have hits : ((AT.node l p r).its : Int) = l.its + 1 + r.its := by simp only [AT.its]; omega
    have hits' : (AT.node l p r).its = l.its + 1 + r.its := rfl
    have c3 := hb.c3
    have lb := hb.lt
    have HK := hide (allN l ul bl base w hL)
    have HX := hide (show (AT.node l p r).rem k = _ from rfl)
    generalize hres : (AT.node l p r).rem k = res
    have HRES := hide hres
    have HL := hide hL
    have HR := hide hR
    have HB := hide hb
    have HND := hide hnd
    have HOK := hide hok
    have HLT := hide hTlt
    have HD := hide (And.intro nbl (And.intro nbr (And.intro ndl (And.intro ndr (And.intro dlr drl)))))
    have IHL := hide ihl
    have IHR := hide ihr
    have HBB := hide (And.intro bl_ br_)
    have f0 := Tryz.fld0
    clear hb hL hR hres HX hnd hok hTlt nbl nbr ndl ndr ndlr dlr drl ihl ihr hbal bl_ br_
    go_enter Tryz.func404, Tryz.ntmps404
    go_wp2_with fail
    refine HK.out.mono ?_
    rintro e w1 ⟨rfl, hb1⟩
    have s1 := hb1.size
    have HL1 := hide (HL.out.below hb1 (Nat.le_refl _))
    have HR1 := hide (HR.out.below hb1 (Nat.le_refl _))
    have HB1 := hide (Nd.chg (cs := []) HB.out (Chg.of_below hb1) (by simp))
    have CH1 := hide (Chg.of_below (bs := b :: (bl ++ br)) hb1)
    have HLT1 := hide (fun x hx => Nat.lt_of_lt_of_le (HLT.out x hx).2 s1)
    clear hb1 HK HL HR HB c3
    have c3 := HB1.out.c3
    have c4 := HB1.out.c4
    have lb1 := HB1.out.lt
    unfold cnt
    by_cases hk1 : k < l.its
    · have hk1' : (k : Int) < l.its := by omega
      have HREP : Hid (res = AT.rep (l.rem k) p r) := by
        rw [← HRES.out, AT.rem_lt _ _ _ _ hk1]; exact rfl
      have rb := AT.rem_bal l k HBB.out.1 hk1
      have IH := hide (IHL.out k ul bl base w1 HBB.out.1 HOK.out.left hk1 HL1.out HD.out.2.2.1)
      clear HRES
      go_wp2_with fail
      refine IH.out.mono ?_
      rintro e w2 ⟨u2, bl2, rfl, hT2, nd2, sub2, ch2⟩
      have HB2 := hide (HB1.out.chg ch2 HD.out.1)
      have HR2 := hide (HR1.out.chg ch2 HD.out.2.2.2.2.1)
      have ND2 := hide (nd_left HND.out HLT1.out nd2 sub2)
      have nb2 : b ∉ bl2 := fun hm => (List.nodup_cons.1 ND2.out).1 (List.mem_append_left _ hm)
      have b3 := HB2.out.c3
      have fb3 := HB2.out.fz 3
      have lb2 := HB2.out.lt
      have CH2 := hide (CH1.out.trans ch2 (fun _ h _ => h) (fun x h _ => by simp [h]) (ds := b :: (bl ++ br)))
      have HB3 := hide (HB2.out.set3 u2)
      have HT3 := hide (hT2.other ⟨b, 3, none⟩ (.pointer u2) nb2)
      have HR3 := hide (HR2.out.other ⟨b, 3, none⟩ (.pointer u2) HD.out.2.1)
      have CH3 := hide (CH2.out.setCell ⟨b, 3, none⟩ (.pointer u2) (.inl (by simp)))
      have SUB := hide (show ∀ x ∈ b :: (bl2 ++ br), x ∈ b :: (bl ++ br) ∨ w.heap.size ≤ x from fun x hx => by
        simp only [List.mem_cons, List.mem_append] at hx ⊢
        rcases hx with h | h | h
        · exact .inl (.inl h)
        · rcases sub2 x h with h | h
          · exact .inl (.inr (.inl h))
          · exact .inr (by omega)
        · exact .inl (.inr (.inr h)))
      have HOK3 := hide (show (AT.node (l.rem k) p r).okw from HOK.out.sub (by rw [flat_node, flat_node]; exact (AT.rem_sub l k hk1).append_right _))
      have HK3 := hide (repairNW (l.rem k) p r b u2 ur bl2 br base _ _ _ _ _ HB3.out HT3.out HR3.out hbase ND2.out HOK3.out (by omega) (by omega))
      clear hT2 nd2 sub2 ch2 nb2 IH HB2 HR2 CH2 HB1 HL1 HR1 CH1 c3 c4 HB3 HT3 HR3
      go_wp2_with fail
      generalize w2.setCell ⟨b, 3, none⟩ (.pointer u2) = w3 at *
      refine HK3.out.mono ?_
      intro e w4 hrp
      have HM := hide (mut_end CH3.out SUB.out ND2.out hrp)
      obtain ⟨u4, bs4, rfl, _⟩ := hrp
      clear HK3
      go_wp2
      go_ret
      rw [HREP.out]
      exact HM.out
    · by_cases hk2 : l.its < k
      · have hk1' : ¬ (k : Int) < l.its := by omega
        have hk2' : (k : Int) > l.its := by omega
        have HREP : Hid (res = AT.rep l p (r.rem (k - l.its - 1))) := by
          rw [← HRES.out, AT.rem_gt _ _ _ _ hk1 hk2]; exact rfl
        have hkr : k - l.its - 1 < r.its := by omega
        have rb := AT.rem_bal r (k - l.its - 1) HBB.out.2 hkr
        have IH := hide (IHR.out (k - l.its - 1) ur br base w1 HBB.out.2 HOK.out.right hkr HR1.out HD.out.2.2.2.1)
        have ecast : ((k - l.its - 1 : Nat) : Int) = (k : Int) - l.its - 1 := by omega
        rw [ecast] at IH
        clear HRES ecast
        go_wp2_with fail
        refine IH.out.mono ?_
        rintro e w2 ⟨u2, br2, rfl, hT2, nd2, sub2, ch2⟩
        have HB2 := hide (HB1.out.chg ch2 HD.out.2.1)
        have HL2 := hide (HL1.out.chg ch2 HD.out.2.2.2.2.2)
        have ND2 := hide (nd_right HND.out HLT1.out nd2 sub2)
        have nb2 : b ∉ br2 := fun hm => (List.nodup_cons.1 ND2.out).1 (List.mem_append_right _ hm)
        have b4 := HB2.out.c4
        have fb4 := HB2.out.fz 4
        have lb2 := HB2.out.lt
        have CH2 := hide (CH1.out.trans ch2 (fun _ h _ => h) (fun x h _ => by simp [h]) (ds := b :: (bl ++ br)))
        have HB3 := hide (HB2.out.set4 u2)
        have HT3 := hide (hT2.other ⟨b, 4, none⟩ (.pointer u2) nb2)
        have HL3 := hide (HL2.out.other ⟨b, 4, none⟩ (.pointer u2) HD.out.1)
        have CH3 := hide (CH2.out.setCell ⟨b, 4, none⟩ (.pointer u2) (.inl (by simp)))
        have SUB := hide (show ∀ x ∈ b :: (bl ++ br2), x ∈ b :: (bl ++ br) ∨ w.heap.size ≤ x from fun x hx => by
          simp only [List.mem_cons, List.mem_append] at hx ⊢
          rcases hx with h | h | h
          · exact .inl (.inl h)
          · exact .inl (.inr (.inl h))
          · rcases sub2 x h with h | h
            · exact .inl (.inr (.inr h))
            · exact .inr (by omega))
        have HOK3 := hide (show (AT.node l p (r.rem (k - l.its - 1))).okw from HOK.out.sub (by rw [flat_node, flat_node]; exact ((AT.rem_sub r _ hkr).cons_cons p).append_left _))
        have HK3 := hide (repairNW l p (r.rem (k - l.its - 1)) b ul u2 bl br2 base _ _ _ _ _ HB3.out HL3.out HT3.out hbase ND2.out HOK3.out (by omega) (by omega))
        clear hT2 nd2 sub2 ch2 nb2 IH HB2 HL2 CH2 HB1 HL1 HR1 CH1 c3 c4 HB3 HT3 HL3
        go_wp2_with fail
        generalize w2.setCell ⟨b, 4, none⟩ (.pointer u2) = w3 at *
        refine HK3.out.mono ?_
        intro e w4 hrp
        have HM := hide (mut_end CH3.out SUB.out ND2.out hrp)
        obtain ⟨u4, bs4, rfl, _⟩ := hrp
        clear HK3
        go_wp2
        go_ret
        rw [HREP.out]
        exact HM.out
      · have hke : k = l.its := by omega
        have hk1' : ¬ (k : Int) < l.its := by omega
        have hk2' : ¬ (k : Int) > l.its := by omega
        cases l with
        | nil =>
          obtain ⟨rfl, rfl⟩ := HL1.out
          have HREP : Hid (res = r) := by
            rw [← HRES.out, AT.rem, if_neg hk1, if_neg hk2]; exact rfl
          clear HRES
          go_wp2
          go_ret
          rw [HREP.out]
          exact ⟨ur, br, rfl, HR1.out, HD.out.2.2.2.1, fun x hx => .inl (by simp [hx]), CH1.out⟩
        | node A q S =>
          have HLL := hide HL1.out
          obtain ⟨c, ua, us, ba, bs, rfl, _⟩ := HL1.out
          cases r with
          | nil =>
            obtain ⟨rfl, rfl⟩ := HR1.out
            have HREP : Hid (res = AT.node A q S) := by
              rw [← HRES.out, AT.rem, if_neg hk1, if_neg hk2]; exact rfl
            clear HRES
            go_wp2
            go_ret
            rw [HREP.out]
            exact ⟨_, bl, rfl, HLL.out, HD.out.2.2.1, fun x hx => .inl (by simp [hx]), CH1.out⟩
          | node C s D =>
            have HRR := hide HR1.out
            obtain ⟨g, uc, ud, bc, bd, rfl, _⟩ := HR1.out
            have HREP : Hid (res = AT.rep (AT.node A q S) (AT.first (AT.node C s D)) ((AT.node C s D).rem 0)) := by
              rw [← HRES.out, AT.rem, if_neg hk1, if_neg hk2]; exact rfl
            have hr0 : 0 < (AT.node C s D).its := by simp only [AT.its]; omega
            have rb := AT.rem_bal (AT.node C s D) 0 HBB.out.2 hr0
            have HKF := hide (firstN (AT.node C s D) _ br base w1 HRR.out (by simp))
            obtain ⟨ft, hft⟩ := AT.first_flat (AT.node C s D) (by simp)
            have HFT := hide hft
            generalize hF : (AT.node C s D).first = F at *
            clear HRES hft
            go_wp2_with fail
            refine HKF.out.mono ?_
            rintro e w2 ⟨rfl, hb2⟩
            have s2 := hb2.size
            have HB2 := hide (Nd.chg (cs := []) HB1.out (Chg.of_below hb2) (by simp))
            have HLL2 := hide (HLL.out.below hb2 (Nat.le_refl _))
            have HRR2 := hide (HRR.out.below hb2 (Nat.le_refl _))
            have CH2 := hide (CH1.out.trans (Chg.of_below (bs := b :: (bl ++ br)) hb2) (fun _ h _ => h) (fun _ h _ => h))
            have e0 := HB2.out.c0
            have e1 := HB2.out.c1
            have e2 := HB2.out.c2
            have fe0 := HB2.out.fz 0
            have fe1 := HB2.out.fz 1
            have fe2 := HB2.out.fz 2
            have lb2 := HB2.out.lt
            have HB3 := hide (HB2.out.set012 F)
            have HLL3 := hide (((HLL2.out.other ⟨b, 0, none⟩ (.int .i64 F.off) HD.out.1).other ⟨b, 1, none⟩ (.int .i64 F.len) HD.out.1).other ⟨b, 2, none⟩ (.int .i64 F.brk) HD.out.1)
            have HRR3 := hide (((HRR2.out.other ⟨b, 0, none⟩ (.int .i64 F.off) HD.out.2.1).other ⟨b, 1, none⟩ (.int .i64 F.len) HD.out.2.1).other ⟨b, 2, none⟩ (.int .i64 F.brk) HD.out.2.1)
            have CH3 := hide (((CH2.out.setCell ⟨b, 0, none⟩ (.int .i64 F.off) (.inl (by simp))).setCell ⟨b, 1, none⟩ (.int .i64 F.len) (.inl (by simp))).setCell ⟨b, 2, none⟩ (.int .i64 F.brk) (.inl (by simp)))
            have g4 := HB3.out.c4
            have lb3 := HB3.out.lt
            have IH := hide (IHR.out 0 _ br base _ HBB.out.2 HOK.out.right hr0 HRR3.out HD.out.2.2.2.1)
            have s3 : w1.heap.size ≤ (((w2.setCell ⟨b, 0, none⟩ (.int .i64 F.off)).setCell ⟨b, 1, none⟩ (.int .i64 F.len)).setCell ⟨b, 2, none⟩ (.int .i64 F.brk)).heap.size := by simpa using s2
            simp only [Int.natCast_zero] at IH
            clear hb2 HKF HB1 HB2 HLL2 HRR2 CH2 HLL HRR CH1 c3 c4
            unfold pcV
            go_wp2_with fail
            generalize ((w2.setCell ⟨b, 0, none⟩ (.int .i64 F.off)).setCell ⟨b, 1, none⟩ (.int .i64 F.len)).setCell ⟨b, 2, none⟩ (.int .i64 F.brk) = w3 at *
            refine IH.out.mono ?_
            rintro e w4 ⟨u4, br4, rfl, hT4, nd4, sub4, ch4⟩
            have HB4 := hide (HB3.out.chg ch4 HD.out.2.1)
            have HL4 := hide (HLL3.out.chg ch4 HD.out.2.2.2.2.2)
            have sub4' : ∀ x ∈ br4, x ∈ br ∨ w1.heap.size ≤ x := fun x hx => by
              rcases sub4 x hx with h | h
              · exact .inl h
              · exact .inr (by omega)
            have ND4 := hide (nd_right HND.out HLT1.out nd4 sub4')
            have nb4 : b ∉ br4 := fun hm => (List.nodup_cons.1 ND4.out).1 (List.mem_append_right _ hm)
            have b4 := HB4.out.c4
            have fb4 := HB4.out.fz 4
            have lb4 := HB4.out.lt
            have CH4 := hide (CH3.out.trans ch4 (fun _ h _ => h) (fun x h _ => by simp [h]) (ds := b :: (bl ++ br)))
            have HB5 := hide (HB4.out.set4 u4)
            have HT5 := hide (hT4.other ⟨b, 4, none⟩ (.pointer u4) nb4)
            have HL5 := hide (HL4.out.other ⟨b, 4, none⟩ (.pointer u4) HD.out.1)
            have CH5 := hide (CH4.out.setCell ⟨b, 4, none⟩ (.pointer u4) (.inl (by simp)))
            have SUB := hide (show ∀ x ∈ b :: (bl ++ br4), x ∈ b :: (bl ++ br) ∨ w.heap.size ≤ x from fun x hx => by
              simp only [List.mem_cons, List.mem_append] at hx ⊢
              rcases hx with h | h | h
              · exact .inl (.inl h)
              · exact .inl (.inr (.inl h))
              · rcases sub4' x h with h | h
                · exact .inl (.inr (.inr h))
                · exact .inr (by omega))
            have HOK5 := hide (show (AT.node (AT.node A q S) F ((AT.node C s D).rem 0)).okw from HOK.out.sub (by
              rw [flat_node, flat_node (AT.node A q S), AT.rem_flat _ 0 hr0, HFT.out]
              simp only [List.take_zero, List.nil_append, Nat.zero_add, List.drop_succ_cons, List.drop_zero]
              exact ((List.Sublist.refl _).cons p).append_left _))
            have HK5 := hide (repairNW (AT.node A q S) F ((AT.node C s D).rem 0) b _ u4 bl br4 base _ _ _ _ _ HB5.out HL5.out HT5.out hbase ND4.out HOK5.out (by omega) (by omega))
            clear hT4 nd4 sub4 sub4' ch4 nb4 IH HB4 HL4 CH4 HB3 HLL3 HRR3 CH3 HB5 HT5 HL5 g4
            go_wp2_with fail
            generalize w4.setCell ⟨b, 4, none⟩ (.pointer u4) = w5 at *
            refine HK5.out.mono ?_
            intro e w6 hrp
            have HM := hide (mut_end CH5.out SUB.out ND4.out hrp)
            obtain ⟨u6, bs6, rfl, _⟩ := hrp
            clear HK5
            go_wp2
            go_ret
            rw [HREP.out]
            exact HM.out

set_option maxHeartbeats 16000000 in
set_option maxRecDepth 100000 in
theorem replaceNW : ∀ (T : AT) (k : Nat) (e : Pc) (u : Option Addr) (bs : List Nat) (base : Nat) (w : World), T.okw → (T.put k e).okw → k < T.its → Lies w base T u bs → bs.Nodup →
    Calls Tryz.prog 387 #[.pointer u, .int .i64 (k : Int), .agg #[.int .i64 e.off, .int .i64 e.len, .int .i64 e.brk]] w fun ev w' => ev = .returned (.tuple #[]) ∧ Lies w' base (T.put k e) u bs ∧ Chg bs w w' := by
  intro T
  induction T with
  | nil => intro k e u bs base w _ _ hk; simp [AT.its] at hk
  | node l p r ihl ihr =>
    intro k e u bs base w hok hok2 hk hT hnd
    have hTlt := hT.lt
    obtain ⟨b, ul, ur, bl, br, rfl, hbase, hb, hL, hR, rfl⟩ := hT
    have hnd' := hnd
    simp only [List.nodup_cons, List.nodup_append, List.mem_append, not_or] at hnd'
    obtain ⟨⟨nbl, nbr⟩, ndl, ndr, ndlr⟩ := hnd'
    have dlr : ∀ x ∈ br, x ∉ bl := fun x hx hm => ndlr x hm x hx rfl
    have drl : ∀ x ∈ bl, x ∉ br := fun x hx hm => ndlr x hx x hm rfl
    have bT := hok.bd
    have hits : ((AT.node l p r).its : Int) ≤ l.its + 1 + r.its ∧ (l.its : Int) + 1 + r.its ≤ (AT.node l p r).its := by simp only [AT.its]; omega
    have HB0 := hide ((Below.refl w.heap.size w).alloc (Nat.le_refl _) (.cells #[.int .i64 e.off, .int .i64 e.len, .int .i64 e.brk] 143))
    have K0 := hide (show (w.alloc (.cells #[.int .i64 e.off, .int .i64 e.len, .int .i64 e.brk] 143)).heap[w.heap.size]? = some (.cells #[.int .i64 e.off, .int .i64 e.len, .int .i64 e.brk] 143 (0, 0)) from heap_alloc_new _ _)
    have hs0 : w.heap.size + 1 ≤ (w.alloc (.cells #[.int .i64 e.off, .int .i64 e.len, .int .i64 e.brk] 143)).heap.size := by simp
    have N0 := hide (Nd.chg (cs := []) hb (Chg.of_below HB0.out) (by simp))
    have L0 := hide (hL.below HB0.out (Nat.le_refl _))
    have R0 := hide (hR.below HB0.out (Nat.le_refl _))
    generalize hres : (AT.node l p r).put k e = res at *
    have HRES := hide hres
    have HOK := hide (And.intro hok hok2)
    have HD := hide (And.intro nbl (And.intro nbr (And.intro ndl (And.intro ndr (And.intro dlr drl)))))
    have HLT := hide hTlt
    have c3 := N0.out.c3
    have lb := N0.out.lt
    have f0 := Tryz.fld0
    have IHL := hide ihl
    have IHR := hide ihr
    have hkk : k < l.its + 1 + r.its := hk
    clear hres hb hL hR hok hok2 nbl nbr ndl ndr ndlr dlr drl hnd hTlt ihl ihr
    go_enter Tryz.func387, Tryz.ntmps387
    go_wp2_with fail
    generalize w.alloc (.cells #[.int .i64 e.off, .int .i64 e.len, .int .i64 e.brk] 143) = w0 at *
    refine (allN l ul bl base w0 L0.out).mono ?_
    rintro ev w1 ⟨rfl, hb1⟩
    have s1 := hb1.size
    have N1 := hide (Nd.chg (cs := []) N0.out (Chg.of_below hb1) (by simp))
    have L1 := hide (L0.out.below hb1 (Nat.le_refl _))
    have R1 := hide (R0.out.below hb1 (Nat.le_refl _))
    have B1 := hide (HB0.out.trans (hb1.mono (by omega)))
    have k1 := (hb1.block w.heap.size (by omega)).trans K0.out
    have e0 : w1.cell? ⟨w.heap.size, 0, none⟩ = some (.int .i64 e.off) := by rw [cell_of_row w1 _ 0 _ _ _ k1]; rfl
    have e1 : w1.cell? ⟨w.heap.size, 1, none⟩ = some (.int .i64 e.len) := by rw [cell_of_row w1 _ 1 _ _ _ k1]; rfl
    have e2 : w1.cell? ⟨w.heap.size, 2, none⟩ = some (.int .i64 e.brk) := by rw [cell_of_row w1 _ 2 _ _ _ k1]; rfl
    have le : w.heap.size < w1.heap.size := by omega
    clear hb1 k1 N0 L0 R0 HB0 K0 c3 lb
    have c3 := N1.out.c3
    have c4 := N1.out.c4
    have lb := N1.out.lt
    unfold cnt
    by_cases hk1 : k < l.its
    · have hk1' : (k : Int) < l.its := by omega
      have HP := hide (show res = AT.node (l.put k e) p r from HRES.out.symm.trans (AT.put_lt l p r k e hk1))
      rw [HP.out] at HOK
      have IH := hide (fun W h => IHL.out k e ul bl base W HOK.out.1.left HOK.out.2.left hk1 h HD.out.2.2.1)
      clear HRES IHL IHR
      go_upto_block 0 with fail
      go_cut [] (fun wc => Lies wc base (l.put k e) ul bl ∧ Chg bl w1 wc)
      case first =>
        go_upto_region 4 with fail
        go_region_with (go_at_call 387; refine (IH.out _ (by exact L1.out.frame (fun _ _ => rfl))).mono ?_; rintro ev w2 ⟨rfl, hl2, hc2⟩; have Z2 := hide hl2; have Z3 := hide (show Chg bl w1 w2 from ⟨hc2.os, hc2.tape, hc2.output, hc2.size, hc2.block⟩); clear hl2 hc2)
        all_goals (go_wp2_with fail; go_meet; exact ⟨Z2.out, Z3.out⟩)
      case rest =>
        have Z2 := hide hcut.1
        have Z3 := hide hcut.2
        clear hcut
        have N2 := hide (N1.out.chg Z3.out HD.out.1)
        have Z4 := hide (R1.out.chg Z3.out HD.out.2.2.2.2.1)
        have HRC := hide (recountNW (l.put k e) p r b ul ur bl br base _ _ _ _ _ N2.out Z2.out Z4.out HD.out.1 HD.out.2.1 HOK.out.2)
        go_wp2_with fail
        refine HRC.out.mono ?_
        rintro ev w3 ⟨rfl, hn3, hc3⟩
        have HLF := hide (show Lies w3 base (AT.node (l.put k e) p r) (some ⟨b, 0, none⟩) (b :: (bl ++ br)) from ⟨b, ul, ur, bl, br, rfl, hbase, hn3, Z2.out.chg hc3 (fun x hx e9 => HD.out.1 (by simp at e9; exact e9 ▸ hx)), Z4.out.chg hc3 (fun x hx e9 => HD.out.2.1 (by simp at e9; exact e9 ▸ hx)), rfl⟩)
        have HCF := hide (((Chg.of_below (bs := b :: (bl ++ br)) B1.out).trans Z3.out (fun _ h _ => h) (fun x h _ => by simp [h]) (ds := b :: (bl ++ br))).trans hc3 (fun _ h _ => h) (fun x h _ => by simp at h; simp [h]) (ds := b :: (bl ++ br)))
        clear hn3 hc3
        go_wp2
        refine bodyPost_end (v := .tuple #[]) (by simp [results, Tryz.results387]) rfl ⟨rfl, by rw [HP.out]; exact HLF.out, HCF.out⟩
    · by_cases hk2 : l.its < k
      · have hk1' : ¬ (k : Int) < l.its := by omega
        have hk2' : (l.its : Int) < (k : Int) := by omega
        have HP := hide (show res = AT.node l p (r.put (k - l.its - 1) e) from HRES.out.symm.trans (AT.put_gt l p r k e hk2))
        rw [HP.out] at HOK
        have IH := hide (fun W h => IHR.out (k - l.its - 1) e ur br base W HOK.out.1.right HOK.out.2.right (by omega) h HD.out.2.2.2.1)
        have hke : (k : Int) - (l.its : Int) - 1 = ((k - l.its - 1 : Nat) : Int) := by omega
        rw [← hke] at IH
        have hw1 : IntKind.i64.wrap ((k : Int) - l.its) = (k : Int) - l.its := i64w _ (by omega) (by omega)
        have hw2 : IntKind.i64.wrap ((k : Int) - l.its - 1) = (k : Int) - l.its - 1 := i64w _ (by omega) (by omega)
        clear HRES IHL IHR hke
        go_upto_block 0 with fail
        go_cut [] (fun wc => Lies wc base (r.put (k - l.its - 1) e) ur br ∧ Chg br w1 wc)
        case first =>
          go_upto_region 6 with fail
          go_region_with (go_at_call 387; refine (IH.out _ (by exact R1.out.frame (fun _ _ => rfl))).mono ?_; rintro ev w2 ⟨rfl, hl2, hc2⟩; have Z4 := hide hl2; have Z3 := hide (show Chg br w1 w2 from ⟨hc2.os, hc2.tape, hc2.output, hc2.size, hc2.block⟩); clear hl2 hc2)
          all_goals (go_wp2_with fail; go_meet; exact ⟨Z4.out, Z3.out⟩)
        case rest =>
          have Z4 := hide hcut.1
          have Z3 := hide hcut.2
          clear hcut
          have N2 := hide (N1.out.chg Z3.out HD.out.2.1)
          have Z2 := hide (L1.out.chg Z3.out HD.out.2.2.2.2.2)
          have HRC := hide (recountNW l p (r.put (k - l.its - 1) e) b ul ur bl br base _ _ _ _ _ N2.out Z2.out Z4.out HD.out.1 HD.out.2.1 HOK.out.2)
          go_wp2_with fail
          refine HRC.out.mono ?_
          rintro ev w3 ⟨rfl, hn3, hc3⟩
          have HLF := hide (show Lies w3 base (AT.node l p (r.put (k - l.its - 1) e)) (some ⟨b, 0, none⟩) (b :: (bl ++ br)) from ⟨b, ul, ur, bl, br, rfl, hbase, hn3, Z2.out.chg hc3 (fun x hx e9 => HD.out.1 (by simp at e9; exact e9 ▸ hx)), Z4.out.chg hc3 (fun x hx e9 => HD.out.2.1 (by simp at e9; exact e9 ▸ hx)), rfl⟩)
          have HCF := hide (((Chg.of_below (bs := b :: (bl ++ br)) B1.out).trans Z3.out (fun _ h _ => h) (fun x h _ => by simp [h]) (ds := b :: (bl ++ br))).trans hc3 (fun _ h _ => h) (fun x h _ => by simp at h; simp [h]) (ds := b :: (bl ++ br)))
          clear hn3 hc3
          go_wp2
          refine bodyPost_end (v := .tuple #[]) (by simp [results, Tryz.results387]) rfl ⟨rfl, by rw [HP.out]; exact HLF.out, HCF.out⟩
      · obtain rfl : k = l.its := by omega
        have hk1' : ¬ ((l.its : Nat) : Int) < ((l.its : Nat) : Int) := by omega
        have HP := hide (show res = AT.node l e r from HRES.out.symm.trans (AT.put_eq l p r e))
        rw [HP.out] at HOK
        have N2 := hide (N1.out.set012 e)
        have Z2 := hide (((L1.out.other ⟨b, 0, none⟩ (.int .i64 e.off) HD.out.1).other ⟨b, 1, none⟩ (.int .i64 e.len) HD.out.1).other ⟨b, 2, none⟩ (.int .i64 e.brk) HD.out.1)
        have Z4 := hide (((R1.out.other ⟨b, 0, none⟩ (.int .i64 e.off) HD.out.2.1).other ⟨b, 1, none⟩ (.int .i64 e.len) HD.out.2.1).other ⟨b, 2, none⟩ (.int .i64 e.brk) HD.out.2.1)
        have Z3 := hide ((((Chg.refl [b] w1).setCell ⟨b, 0, none⟩ (.int .i64 e.off) (.inl (by simp))).setCell ⟨b, 1, none⟩ (.int .i64 e.len) (.inl (by simp))).setCell ⟨b, 2, none⟩ (.int .i64 e.brk) (.inl (by simp)))
        have HRC := hide (recountNW l e r b ul ur bl br base _ _ _ _ _ N2.out Z2.out Z4.out HD.out.1 HD.out.2.1 HOK.out.2)
        have p0 := N1.out.c0
        have p1 := N1.out.c1
        have p2 := N1.out.c2
        have z0 := N1.out.fz 0
        have z1 := N1.out.fz 1
        have z2 := N1.out.fz 2
        clear HRES IHL IHR
        go_wp2_with fail
        refine HRC.out.mono ?_
        rintro ev w3 ⟨rfl, hn3, hc3⟩
        have HLF := hide (show Lies w3 base (AT.node l e r) (some ⟨b, 0, none⟩) (b :: (bl ++ br)) from ⟨b, ul, ur, bl, br, rfl, hbase, hn3, Z2.out.chg hc3 (fun x hx e9 => HD.out.1 (by simp at e9; exact e9 ▸ hx)), Z4.out.chg hc3 (fun x hx e9 => HD.out.2.1 (by simp at e9; exact e9 ▸ hx)), rfl⟩)
        have HCF := hide (((Chg.of_below (bs := b :: (bl ++ br)) B1.out).trans Z3.out (fun _ h _ => h) (fun x h _ => by simp at h; simp [h]) (ds := b :: (bl ++ br))).trans hc3 (fun _ h _ => h) (fun x h _ => by simp at h; simp [h]) (ds := b :: (bl ++ br)))
        clear hn3 hc3
        go_wp2
        refine bodyPost_end (v := .tuple #[]) (by simp [results, Tryz.results387]) rfl ⟨rfl, by rw [HP.out]; exact HLF.out, HCF.out⟩
theorem AT.ok.w {T : AT} (h : T.ok) : T.okw := ⟨h.1, by have := h.2; omega⟩
end Go.Proofs.YtbgngikejgihgagGreatDoor
