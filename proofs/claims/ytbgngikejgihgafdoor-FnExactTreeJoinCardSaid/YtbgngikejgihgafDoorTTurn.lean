import Derived.Test.YtbgngikejgihgafDoorTPlant
namespace Go.Proofs.YtbgngikejgihgafDoor
open Go Go.RowKit
set_option linter.unusedVariables false

theorem Nd.set3 {w : World} {b : Nat} {p : Pc} {l r : Option Addr} {h i n k : Int} (hn : Nd w b p l r h i n k) (l' : Option Addr) : Nd (w.setCell ⟨b, 3, none⟩ (.pointer l')) b p l' r h i n k := by
  unfold Nd at hn ⊢; rw [heap_setCell_same w b 3 _ _ _ hn]; rfl
theorem Nd.set4 {w : World} {b : Nat} {p : Pc} {l r : Option Addr} {h i n k : Int} (hn : Nd w b p l r h i n k) (r' : Option Addr) : Nd (w.setCell ⟨b, 4, none⟩ (.pointer r')) b p l r' h i n k := by
  unfold Nd at hn ⊢; rw [heap_setCell_same w b 4 _ _ _ hn]; rfl
theorem Nd.set012 {w : World} {b : Nat} {p : Pc} {l r : Option Addr} {h i n k : Int} (hn : Nd w b p l r h i n k) (q : Pc) : Nd (((w.setCell ⟨b, 0, none⟩ (.int .i64 q.off)).setCell ⟨b, 1, none⟩ (.int .i64 q.len)).setCell ⟨b, 2, none⟩ (.int .i64 q.brk)) b q l r h i n k := by
  unfold Nd at hn ⊢
  have h1 := heap_setCell_same w b 0 _ _ (.int .i64 q.off) hn
  have h2 := heap_setCell_same _ b 1 _ _ (.int .i64 q.len) h1
  have h3 := heap_setCell_same _ b 2 _ _ (.int .i64 q.brk) h2
  rw [h3]; rfl
theorem Nd.other {w : World} {b : Nat} {p : Pc} {l r : Option Addr} {h i n k : Int} (hn : Nd w b p l r h i n k) (a : Addr) (v : Value) (hne : b ≠ a.block) : Nd (w.setCell a v) b p l r h i n k := by
  unfold Nd at hn ⊢; rw [heap_setCell_other _ _ _ _ hne]; exact hn
theorem Lies.other {w : World} {base : Nat} {T : AT} {u : Option Addr} {bs : List Nat} (h : Lies w base T u bs) (a : Addr) (v : Value) (hne : a.block ∉ bs) : Lies (w.setCell a v) base T u bs :=
  h.frame fun b hb => heap_setCell_other _ _ _ _ (fun e => hne (e ▸ hb))

/-- A node that counts what it holds. -/
def NdT (w : World) (b : Nat) (L : AT) (p : Pc) (R : AT) (l r : Option Addr) : Prop := Nd w b p l r (1 + max (L.ht : Int) R.ht) (L.its + 1 + R.its) (L.rns + p.len + R.rns) (L.bks + p.brk + R.bks)
theorem Lies.mk {w : World} {base b : Nat} {L : AT} {p : Pc} {R : AT} {ul ur : Option Addr} {bl br : List Nat} (hb : base ≤ b) (h : NdT w b L p R ul ur) (hL : Lies w base L ul bl) (hR : Lies w base R ur br) : Lies w base (.node L p R) (some ⟨b, 0, none⟩) (b :: (bl ++ br)) :=
  ⟨b, ul, ur, bl, br, rfl, hb, h, hL, hR, rfl⟩

set_option maxHeartbeats 2000000 in
set_option maxRecDepth 100000 in
theorem turnRN (A : AT) (q : Pc) (S : AT) (p : Pc) (R : AT) (b c : Nat) (ua us ur : Option Addr) (ba bs br : List Nat) (base : Nat) (h i n k h' i' n' k' : Int) (w : World)
    (hb : Nd w b p (some ⟨c, 0, none⟩) ur h i n k) (hc : Nd w c q ua us h' i' n' k') (hA : Lies w base A ua ba) (hS : Lies w base S us bs) (hR : Lies w base R ur br) (h1 : base ≤ b) (h2 : base ≤ c)
    (hnd : (b :: c :: (ba ++ (bs ++ br))).Nodup) (hok : (AT.node A q (AT.node S p R)).ok) :
    Calls Tryd.prog 153 #[.pointer (some ⟨b, 0, none⟩)] w fun e w' => e = .returned (.pointer (some ⟨c, 0, none⟩)) ∧ NdT w' c A q (AT.node S p R) ua (some ⟨b, 0, none⟩) ∧ Lies w' base A ua ba ∧ Lies w' base (AT.node S p R) (some ⟨b, 0, none⟩) (b :: (bs ++ br)) ∧ Chg [b, c] w w' := by
  simp only [List.nodup_cons, List.mem_cons, List.mem_append, not_or] at hnd
  obtain ⟨⟨nbc, nba, nbs, nbr⟩, ⟨nca, ncs, ncr⟩, _⟩ := hnd
  have b3 := hb.c3
  have b4 := hb.c4
  have c4 := hc.c4
  have fb3 := hb.fz 3
  have fc4 := hc.fz 4
  have lb := hb.lt
  have lc := hc.lt
  have ncb : ¬ c = b := fun e => nbc e.symm
  have HB1 := hide ((hb.set3 us).other ⟨c, 4, none⟩ (.pointer (some ⟨b, 0, none⟩)) nbc)
  have HC1 := hide ((hc.other ⟨b, 3, none⟩ (.pointer us) ncb).set4 (some ⟨b, 0, none⟩))
  have HA1 := hide ((hA.other ⟨b, 3, none⟩ (.pointer us) nba).other ⟨c, 4, none⟩ (.pointer (some ⟨b, 0, none⟩)) nca)
  have HS1 := hide ((hS.other ⟨b, 3, none⟩ (.pointer us) nbs).other ⟨c, 4, none⟩ (.pointer (some ⟨b, 0, none⟩)) ncs)
  have HR1 := hide ((hR.other ⟨b, 3, none⟩ (.pointer us) nbr).other ⟨c, 4, none⟩ (.pointer (some ⟨b, 0, none⟩)) ncr)
  have CH1 := hide (((Chg.refl [b, c] w).setCell ⟨b, 3, none⟩ (.pointer us) (.inl (by simp))).setCell ⟨c, 4, none⟩ (.pointer (some ⟨b, 0, none⟩)) (.inl (by simp)))
  have HK := hide (recountN S p R b us ur bs br base h i n k _ HB1.out HS1.out HR1.out nbs nbr hok.right)
  have HX := hide (And.intro nba (And.intro nbs (And.intro nbr (And.intro nca (And.intro ncs ncr)))))
  have HOK := hide hok
  clear hb hc hA hS hR hok nba nbs nbr nca ncs ncr
  go_enter Tryd.func153, Tryd.ntmps153
  go_wp2_with fail
  generalize (w.setCell ⟨b, 3, none⟩ (.pointer us)).setCell ⟨c, 4, none⟩ (.pointer (some ⟨b, 0, none⟩)) = w1 at *
  refine HK.out.mono ?_
  rintro e w2 ⟨rfl, hn2, hc2⟩
  obtain ⟨nba, nbs, nbr, nca, ncs, ncr⟩ := HX.out
  have HC2 := hide (HC1.out.chg hc2 (by simpa using ncb))
  have HA2 := hide (HA1.out.chg hc2 (fun x hx e => nba (by simp at e; exact e ▸ hx)))
  have HS2 := hide (HS1.out.chg hc2 (fun x hx e => nbs (by simp at e; exact e ▸ hx)))
  have HR2 := hide (HR1.out.chg hc2 (fun x hx e => nbr (by simp at e; exact e ▸ hx)))
  have HT2 := hide (show Lies w2 base (AT.node S p R) (some ⟨b, 0, none⟩) (b :: (bs ++ br)) from ⟨b, us, ur, bs, br, rfl, h1, hn2, HS2.out, HR2.out, rfl⟩)
  have CH2 := hide (CH1.out.trans hc2 (fun _ h _ => h) (fun x h _ => by simp at h; simp [h]) (ds := [b, c]))
  have HK2 := hide (recountN A q (AT.node S p R) c ua (some ⟨b, 0, none⟩) ba (b :: (bs ++ br)) base h' i' n' k' w2 HC2.out HA2.out HT2.out nca (by simp [ncb, ncs, ncr]) HOK.out)
  clear hn2 hc2 HK HB1 HC1 HA1 HS1 HR1 CH1 nba nbs nbr nca ncs ncr
  go_wp2_with fail
  refine HK2.out.mono ?_
  rintro e w3 ⟨rfl, hn3, hc3⟩
  obtain ⟨nba, nbs, nbr, nca, ncs, ncr⟩ := HX.out
  have HA3 := hide (HA2.out.chg hc3 (fun x hx e => nca (by simp at e; exact e ▸ hx)))
  have HT3 := hide (HT2.out.chg hc3 (fun x hx e => by
    simp at e; subst e
    simp only [List.mem_cons, List.mem_append] at hx
    rcases hx with hx | hx | hx
    · exact ncb hx
    · exact ncs hx
    · exact ncr hx))
  have CH3 := hide (CH2.out.trans hc3 (fun _ h _ => h) (fun x h _ => by simp at h; simp [h]) (ds := [b, c]))
  have HN3 := hide hn3
  clear hn3 hc3 HK2 HX
  go_wp2
  go_ret
  exact ⟨rfl, HN3.out, HA3.out, HT3.out, CH3.out⟩

set_option maxHeartbeats 2000000 in
set_option maxRecDepth 100000 in
theorem turnLN (L : AT) (p : Pc) (S : AT) (q : Pc) (D : AT) (b c : Nat) (ul us ud : Option Addr) (bl bs bd : List Nat) (base : Nat) (h i n k h' i' n' k' : Int) (w : World)
    (hb : Nd w b p ul (some ⟨c, 0, none⟩) h i n k) (hc : Nd w c q us ud h' i' n' k') (hL : Lies w base L ul bl) (hS : Lies w base S us bs) (hD : Lies w base D ud bd) (h1 : base ≤ b) (h2 : base ≤ c)
    (hnd : (b :: c :: (bl ++ (bs ++ bd))).Nodup) (hok : (AT.node (AT.node L p S) q D).ok) :
    Calls Tryd.prog 152 #[.pointer (some ⟨b, 0, none⟩)] w fun e w' => e = .returned (.pointer (some ⟨c, 0, none⟩)) ∧ NdT w' c (AT.node L p S) q D (some ⟨b, 0, none⟩) ud ∧ Lies w' base (AT.node L p S) (some ⟨b, 0, none⟩) (b :: (bl ++ bs)) ∧ Lies w' base D ud bd ∧ Chg [b, c] w w' := by
  simp only [List.nodup_cons, List.mem_cons, List.mem_append, not_or] at hnd
  obtain ⟨⟨nbc, nbl, nbs, nbd⟩, ⟨ncl, ncs, ncd⟩, _⟩ := hnd
  have b3 := hb.c3
  have b4 := hb.c4
  have c3 := hc.c3
  have fb4 := hb.fz 4
  have fc3 := hc.fz 3
  have lb := hb.lt
  have lc := hc.lt
  have ncb : ¬ c = b := fun e => nbc e.symm
  have HB1 := hide ((hb.set4 us).other ⟨c, 3, none⟩ (.pointer (some ⟨b, 0, none⟩)) nbc)
  have HC1 := hide ((hc.other ⟨b, 4, none⟩ (.pointer us) ncb).set3 (some ⟨b, 0, none⟩))
  have HL1 := hide ((hL.other ⟨b, 4, none⟩ (.pointer us) nbl).other ⟨c, 3, none⟩ (.pointer (some ⟨b, 0, none⟩)) ncl)
  have HS1 := hide ((hS.other ⟨b, 4, none⟩ (.pointer us) nbs).other ⟨c, 3, none⟩ (.pointer (some ⟨b, 0, none⟩)) ncs)
  have HD1 := hide ((hD.other ⟨b, 4, none⟩ (.pointer us) nbd).other ⟨c, 3, none⟩ (.pointer (some ⟨b, 0, none⟩)) ncd)
  have CH1 := hide (((Chg.refl [b, c] w).setCell ⟨b, 4, none⟩ (.pointer us) (.inl (by simp))).setCell ⟨c, 3, none⟩ (.pointer (some ⟨b, 0, none⟩)) (.inl (by simp)))
  have HK := hide (recountN L p S b ul us bl bs base h i n k _ HB1.out HL1.out HS1.out nbl nbs hok.left)
  have HX := hide (And.intro nbl (And.intro nbs (And.intro nbd (And.intro ncl (And.intro ncs ncd)))))
  have HOK := hide hok
  clear hb hc hL hS hD hok nbl nbs nbd ncl ncs ncd
  go_enter Tryd.func152, Tryd.ntmps152
  go_wp2_with fail
  generalize (w.setCell ⟨b, 4, none⟩ (.pointer us)).setCell ⟨c, 3, none⟩ (.pointer (some ⟨b, 0, none⟩)) = w1 at *
  refine HK.out.mono ?_
  rintro e w2 ⟨rfl, hn2, hc2⟩
  obtain ⟨nbl, nbs, nbd, ncl, ncs, ncd⟩ := HX.out
  have HC2 := hide (HC1.out.chg hc2 (by simpa using ncb))
  have HL2 := hide (HL1.out.chg hc2 (fun x hx e => nbl (by simp at e; exact e ▸ hx)))
  have HS2 := hide (HS1.out.chg hc2 (fun x hx e => nbs (by simp at e; exact e ▸ hx)))
  have HD2 := hide (HD1.out.chg hc2 (fun x hx e => nbd (by simp at e; exact e ▸ hx)))
  have HT2 := hide (show Lies w2 base (AT.node L p S) (some ⟨b, 0, none⟩) (b :: (bl ++ bs)) from ⟨b, ul, us, bl, bs, rfl, h1, hn2, HL2.out, HS2.out, rfl⟩)
  have CH2 := hide (CH1.out.trans hc2 (fun _ h _ => h) (fun x h _ => by simp at h; simp [h]) (ds := [b, c]))
  have HK2 := hide (recountN (AT.node L p S) q D c (some ⟨b, 0, none⟩) ud (b :: (bl ++ bs)) bd base h' i' n' k' w2 HC2.out HT2.out HD2.out (by simp [ncb, ncs, ncl]) ncd HOK.out)
  clear hn2 hc2 HK HB1 HC1 HL1 HS1 HD1 CH1 nbl nbs nbd ncl ncs ncd
  go_wp2_with fail
  refine HK2.out.mono ?_
  rintro e w3 ⟨rfl, hn3, hc3⟩
  obtain ⟨nbl, nbs, nbd, ncl, ncs, ncd⟩ := HX.out
  have HD3 := hide (HD2.out.chg hc3 (fun x hx e => ncd (by simp at e; exact e ▸ hx)))
  have HT3 := hide (HT2.out.chg hc3 (fun x hx e => by
    simp at e; subst e
    simp only [List.mem_cons, List.mem_append] at hx
    rcases hx with hx | hx | hx
    · exact ncb hx
    · exact ncl hx
    · exact ncs hx))
  have CH3 := hide (CH2.out.trans hc3 (fun _ h _ => h) (fun x h _ => by simp at h; simp [h]) (ds := [b, c]))
  have HN3 := hide hn3
  clear hn3 hc3 HK2 HX
  go_wp2
  go_ret
  exact ⟨rfl, HN3.out, HT3.out, HD3.out, CH3.out⟩
end Go.Proofs.YtbgngikejgihgafDoor
