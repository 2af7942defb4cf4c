import Derived.Test.YtbgngikejgihgafGreatDoorMq03
import Derived.Deep.LoopGhost
namespace Go.Proofs.YtbgngikejgihgafGreatDoor
open Go Go.RowKit
set_option linter.unusedVariables false
set_option maxRecDepth 100000
set_option maxHeartbeats 8000000
theorem Nd.set3 {w : World} {b : Nat} {p : Pc} {l r : Option Addr} {h i n k : Int} (hn : Nd w b p l r h i n k) (l' : Option Addr) : Nd (w.setCell ⟨b, 3, none⟩ (.pointer l')) b p l' r h i n k := by
 unfold Nd at hn |-; rw [heap_setCell_same w b 3 _ _ _ hn]; rfl
theorem Nd.set4 {w : World} {b : Nat} {p : Pc} {l r : Option Addr} {h i n k : Int} (hn : Nd w b p l r h i n k) (r' : Option Addr) : Nd (w.setCell ⟨b, 4, none⟩ (.pointer r')) b p l r' h i n k := by
 unfold Nd at hn |-; rw [heap_setCell_same w b 4 _ _ _ hn]; rfl
theorem Nd.set012 {w : World} {b : Nat} {p : Pc} {l r : Option Addr} {h i n k : Int} (hn : Nd w b p l r h i n k) (q : Pc) : Nd (((w.setCell ⟨b, 0, none⟩ (.int .i64 q.off)).setCell ⟨b, 1, none⟩ (.int .i64 q.len)).setCell ⟨b, 2, none⟩ (.int .i64 q.brk)) b q l r h i n k := by
 unfold Nd at hn |-;have h1 := heap_setCell_same w b 0 _ _ (.int .i64 q.off) hn;have h2 := heap_setCell_same _ b 1 _ _ (.int .i64 q.len) h1;have h3 := heap_setCell_same _ b 2 _ _ (.int .i64 q.brk) h2;rw [h3]; rfl
theorem Nd.other {w : World} {b : Nat} {p : Pc} {l r : Option Addr} {h i n k : Int} (hn : Nd w b p l r h i n k) (a : Addr) (v : Value) (hne : b ≠ a.block) : Nd (w.setCell a v) b p l r h i n k := by
 unfold Nd at hn |-; rw [heap_setCell_other _ _ _ _ hne]; exact hn
theorem Lies.other {w : World} {base : Nat} {T : AT} {u : Option Addr} {bs : List Nat} (h : Lies w base T u bs) (a : Addr) (v : Value) (hne : a.block ∉ bs) : Lies (w.setCell a v) base T u bs :=
 h.frame fun b hb => heap_setCell_other _ _ _ _ (fun e => hne (e ▸ hb))
def NdT (w : World) (b : Nat) (L : AT) (p : Pc) (R : AT) (l r : Option Addr) : Prop := Nd w b p l r (1 + max (L.ht : Int) R.ht) (L.its + 1 + R.its) (L.rns + p.len + R.rns) (L.bks + p.brk + R.bks)
theorem Lies.mk {w : World} {base b : Nat} {L : AT} {p : Pc} {R : AT} {ul ur : Option Addr} {bl br : List Nat} (hb : base <= b) (h : NdT w b L p R ul ur) (hL : Lies w base L ul bl) (hR : Lies w base R ur br) : Lies w base (.node L p R) (some ⟨b, 0, none⟩) (b :: (bl ++ br)) :=
 ⟨b, ul, ur, bl, br, rfl, hb, h, hL, hR, rfl⟩
theorem Yz (A : AT) (q : Pc) (S : AT) (p : Pc) (R : AT) (b c : Nat) (ua us ur : Option Addr) (ba bs br : List Nat) (base : Nat) (h i n k h' i' n' k' : Int) (w : World)
  (hb : Nd w b p (some ⟨c, 0, none⟩) ur h i n k) (hc : Nd w c q ua us h' i' n' k') (hA : Lies w base A ua ba) (hS : Lies w base S us bs) (hR : Lies w base R ur br) (h1 : base <= b) (h2 : base <= c)
  (hnd : (b :: c :: (ba ++ (bs ++ br))).Nodup) (hok : (AT.node A q (AT.node S p R)).okw) :
  Calls Tryz.prog 186 #[.pointer (some ⟨b, 0, none⟩)] w fun e w' => e = .returned (.pointer (some ⟨c, 0, none⟩)) ∧ NdT w' c A q (AT.node S p R) ua (some ⟨b, 0, none⟩) ∧ Lies w' base A ua ba ∧ Lies w' base (AT.node S p R) (some ⟨b, 0, none⟩) (b :: (bs ++ br)) ∧ Chg [b, c] w w' := by
 simp only [List.nodup_cons, List.mem_cons, List.mem_append, not_or] at hnd;obtain ⟨⟨nbc, nba, nbs, nbr⟩, ⟨nca, ncs, ncr⟩, _⟩ := hnd;have b3 := hb.c3;have b4 := hb.c4;have c4 := hc.c4;have fb3 := hb.fz 3;have fc4 := hc.fz 4;have lb := hb.lt;have lc := hc.lt
 have ncb : ¬ c = b := fun e => nbc e.symm
 have HB1 := hide ((hb.set3 us).other ⟨c, 4, none⟩ (.pointer (some ⟨b, 0, none⟩)) nbc);have HC1 := hide ((hc.other ⟨b, 3, none⟩ (.pointer us) ncb).set4 (some ⟨b, 0, none⟩));have HA1 := hide ((hA.other ⟨b, 3, none⟩ (.pointer us) nba).other ⟨c, 4, none⟩ (.pointer (some ⟨b, 0, none⟩)) nca);have HS1 := hide ((hS.other ⟨b, 3, none⟩ (.pointer us) nbs).other ⟨c, 4, none⟩ (.pointer (some ⟨b, 0, none⟩)) ncs);have HR1 := hide ((hR.other ⟨b, 3, none⟩ (.pointer us) nbr).other ⟨c, 4, none⟩ (.pointer (some ⟨b, 0, none⟩)) ncr)
 have CH1 := hide (((Chg.refl [b, c] w).setCell ⟨b, 3, none⟩ (.pointer us) (.inl (by simp))).setCell ⟨c, 4, none⟩ (.pointer (some ⟨b, 0, none⟩)) (.inl (by simp)))
 have HK := hide (yK S p R b us ur bs br base h i n k _ HB1.out HS1.out HR1.out nbs nbr hok.right);have HX := hide (And.intro nba (And.intro nbs (And.intro nbr (And.intro nca (And.intro ncs ncr)))));have HOK := hide hok;clear hb hc hA hS hR hok nba nbs nbr nca ncs ncr;go_enter Tryz.func186, Tryz.ntmps186;go_wp2_with fail;generalize (w.setCell ⟨b, 3, none⟩ (.pointer us)).setCell ⟨c, 4, none⟩ (.pointer (some ⟨b, 0, none⟩)) = w1 at *;refine HK.out.mono ?_;rintro e w2 ⟨rfl, hn2, hc2⟩;obtain ⟨nba, nbs, nbr, nca, ncs, ncr⟩ := HX.out
 have HC2 := hide (HC1.out.chg hc2 (by simpa using ncb))
 have HA2 := hide (HA1.out.chg hc2 (fun x hx e => nba (by simp at e; exact e ▸ hx)))
 have HS2 := hide (HS1.out.chg hc2 (fun x hx e => nbs (by simp at e; exact e ▸ hx)))
 have HR2 := hide (HR1.out.chg hc2 (fun x hx e => nbr (by simp at e; exact e ▸ hx)))
 have HT2 := hide (show Lies w2 base (AT.node S p R) (some ⟨b, 0, none⟩) (b :: (bs ++ br)) from ⟨b, us, ur, bs, br, rfl, h1, hn2, HS2.out, HR2.out, rfl⟩)
 have CH2 := hide (CH1.out.trans hc2 (fun _ h _ => h) (fun x h _ => by simp at h; simp [h]) (ds := [b, c]))
 have HK2 := hide (yK A q (AT.node S p R) c ua (some ⟨b, 0, none⟩) ba (b :: (bs ++ br)) base h' i' n' k' w2 HC2.out HA2.out HT2.out nca (by simp [ncb, ncs, ncr]) HOK.out)
 clear hn2 hc2 HK HB1 HC1 HA1 HS1 HR1 CH1 nba nbs nbr nca ncs ncr;go_wp2_with fail;refine HK2.out.mono ?_;rintro e w3 ⟨rfl, hn3, hc3⟩;obtain ⟨nba, nbs, nbr, nca, ncs, ncr⟩ := HX.out
 have HA3 := hide (HA2.out.chg hc3 (fun x hx e => nca (by simp at e; exact e ▸ hx)))
 have HT3 := hide (HT2.out.chg hc3 (fun x hx e => by
  simp at e; subst e;simp only [List.mem_cons, List.mem_append] at hx
  rcases hx with hx | hx | hx
  ·exact ncb hx
  ·exact ncs hx
  ·exact ncr hx))
 have CH3 := hide (CH2.out.trans hc3 (fun _ h _ => h) (fun x h _ => by simp at h; simp [h]) (ds := [b, c]))
 have HN3 := hide hn3;clear hn3 hc3 HK2 HX;go_wp2;go_ret;exact ⟨rfl, HN3.out, HA3.out, HT3.out, CH3.out⟩
theorem turnRN (A : AT) (q : Pc) (S : AT) (p : Pc) (R : AT) (b c : Nat) (ua us ur : Option Addr) (ba bs br : List Nat) (base : Nat) (h i n k h' i' n' k' : Int) (w : World)
  (hb : Nd w b p (some ⟨c, 0, none⟩) ur h i n k) (hc : Nd w c q ua us h' i' n' k') (hA : Lies w base A ua ba) (hS : Lies w base S us bs) (hR : Lies w base R ur br) (h1 : base <= b) (h2 : base <= c)
  (hnd : (b :: c :: (ba ++ (bs ++ br))).Nodup) (hok : (AT.node A q (AT.node S p R)).ok) :
  Calls Tryz.prog 186 #[.pointer (some ⟨b, 0, none⟩)] w fun e w' => e = .returned (.pointer (some ⟨c, 0, none⟩)) ∧ NdT w' c A q (AT.node S p R) ua (some ⟨b, 0, none⟩) ∧ Lies w' base A ua ba ∧ Lies w' base (AT.node S p R) (some ⟨b, 0, none⟩) (b :: (bs ++ br)) ∧ Chg [b, c] w w' :=
 Yz A q S p R b c ua us ur ba bs br base h i n k h' i' n' k' w hb hc hA hS hR h1 h2 hnd hok.w
theorem JA (L : AT) (p : Pc) (S : AT) (q : Pc) (D : AT) (b c : Nat) (ul us ud : Option Addr) (bl bs bd : List Nat) (base : Nat) (h i n k h' i' n' k' : Int) (w : World)
  (hb : Nd w b p ul (some ⟨c, 0, none⟩) h i n k) (hc : Nd w c q us ud h' i' n' k') (hL : Lies w base L ul bl) (hS : Lies w base S us bs) (hD : Lies w base D ud bd) (h1 : base <= b) (h2 : base <= c)
  (hnd : (b :: c :: (bl ++ (bs ++ bd))).Nodup) (hok : (AT.node (AT.node L p S) q D).okw) :
  Calls Tryz.prog 185 #[.pointer (some ⟨b, 0, none⟩)] w fun e w' => e = .returned (.pointer (some ⟨c, 0, none⟩)) ∧ NdT w' c (AT.node L p S) q D (some ⟨b, 0, none⟩) ud ∧ Lies w' base (AT.node L p S) (some ⟨b, 0, none⟩) (b :: (bl ++ bs)) ∧ Lies w' base D ud bd ∧ Chg [b, c] w w' := by
 simp only [List.nodup_cons, List.mem_cons, List.mem_append, not_or] at hnd;obtain ⟨⟨nbc, nbl, nbs, nbd⟩, ⟨ncl, ncs, ncd⟩, _⟩ := hnd;have b3 := hb.c3;have b4 := hb.c4;have c3 := hc.c3;have fb4 := hb.fz 4;have fc3 := hc.fz 3;have lb := hb.lt;have lc := hc.lt
 have ncb : ¬ c = b := fun e => nbc e.symm
 have HB1 := hide ((hb.set4 us).other ⟨c, 3, none⟩ (.pointer (some ⟨b, 0, none⟩)) nbc);have HC1 := hide ((hc.other ⟨b, 4, none⟩ (.pointer us) ncb).set3 (some ⟨b, 0, none⟩));have HL1 := hide ((hL.other ⟨b, 4, none⟩ (.pointer us) nbl).other ⟨c, 3, none⟩ (.pointer (some ⟨b, 0, none⟩)) ncl);have HS1 := hide ((hS.other ⟨b, 4, none⟩ (.pointer us) nbs).other ⟨c, 3, none⟩ (.pointer (some ⟨b, 0, none⟩)) ncs);have HD1 := hide ((hD.other ⟨b, 4, none⟩ (.pointer us) nbd).other ⟨c, 3, none⟩ (.pointer (some ⟨b, 0, none⟩)) ncd)
 have CH1 := hide (((Chg.refl [b, c] w).setCell ⟨b, 4, none⟩ (.pointer us) (.inl (by simp))).setCell ⟨c, 3, none⟩ (.pointer (some ⟨b, 0, none⟩)) (.inl (by simp)))
 have HK := hide (yK L p S b ul us bl bs base h i n k _ HB1.out HL1.out HS1.out nbl nbs hok.left);have HX := hide (And.intro nbl (And.intro nbs (And.intro nbd (And.intro ncl (And.intro ncs ncd)))));have HOK := hide hok;clear hb hc hL hS hD hok nbl nbs nbd ncl ncs ncd;go_enter Tryz.func185, Tryz.ntmps185;go_wp2_with fail;generalize (w.setCell ⟨b, 4, none⟩ (.pointer us)).setCell ⟨c, 3, none⟩ (.pointer (some ⟨b, 0, none⟩)) = w1 at *;refine HK.out.mono ?_;rintro e w2 ⟨rfl, hn2, hc2⟩;obtain ⟨nbl, nbs, nbd, ncl, ncs, ncd⟩ := HX.out
 have HC2 := hide (HC1.out.chg hc2 (by simpa using ncb))
 have HL2 := hide (HL1.out.chg hc2 (fun x hx e => nbl (by simp at e; exact e ▸ hx)))
 have HS2 := hide (HS1.out.chg hc2 (fun x hx e => nbs (by simp at e; exact e ▸ hx)))
 have HD2 := hide (HD1.out.chg hc2 (fun x hx e => nbd (by simp at e; exact e ▸ hx)))
 have HT2 := hide (show Lies w2 base (AT.node L p S) (some ⟨b, 0, none⟩) (b :: (bl ++ bs)) from ⟨b, ul, us, bl, bs, rfl, h1, hn2, HL2.out, HS2.out, rfl⟩)
 have CH2 := hide (CH1.out.trans hc2 (fun _ h _ => h) (fun x h _ => by simp at h; simp [h]) (ds := [b, c]))
 have HK2 := hide (yK (AT.node L p S) q D c (some ⟨b, 0, none⟩) ud (b :: (bl ++ bs)) bd base h' i' n' k' w2 HC2.out HT2.out HD2.out (by simp [ncb, ncs, ncl]) ncd HOK.out)
 clear hn2 hc2 HK HB1 HC1 HL1 HS1 HD1 CH1 nbl nbs nbd ncl ncs ncd;go_wp2_with fail;refine HK2.out.mono ?_;rintro e w3 ⟨rfl, hn3, hc3⟩;obtain ⟨nbl, nbs, nbd, ncl, ncs, ncd⟩ := HX.out
 have HD3 := hide (HD2.out.chg hc3 (fun x hx e => ncd (by simp at e; exact e ▸ hx)))
 have HT3 := hide (HT2.out.chg hc3 (fun x hx e => by
  simp at e; subst e;simp only [List.mem_cons, List.mem_append] at hx
  rcases hx with hx | hx | hx
  ·exact ncb hx
  ·exact ncl hx
  ·exact ncs hx))
 have CH3 := hide (CH2.out.trans hc3 (fun _ h _ => h) (fun x h _ => by simp at h; simp [h]) (ds := [b, c]))
 have HN3 := hide hn3;clear hn3 hc3 HK2 HX;go_wp2;go_ret;exact ⟨rfl, HN3.out, HT3.out, HD3.out, CH3.out⟩
theorem turnLN (L : AT) (p : Pc) (S : AT) (q : Pc) (D : AT) (b c : Nat) (ul us ud : Option Addr) (bl bs bd : List Nat) (base : Nat) (h i n k h' i' n' k' : Int) (w : World)
  (hb : Nd w b p ul (some ⟨c, 0, none⟩) h i n k) (hc : Nd w c q us ud h' i' n' k') (hL : Lies w base L ul bl) (hS : Lies w base S us bs) (hD : Lies w base D ud bd) (h1 : base <= b) (h2 : base <= c)
  (hnd : (b :: c :: (bl ++ (bs ++ bd))).Nodup) (hok : (AT.node (AT.node L p S) q D).ok) :
  Calls Tryz.prog 185 #[.pointer (some ⟨b, 0, none⟩)] w fun e w' => e = .returned (.pointer (some ⟨c, 0, none⟩)) ∧ NdT w' c (AT.node L p S) q D (some ⟨b, 0, none⟩) ud ∧ Lies w' base (AT.node L p S) (some ⟨b, 0, none⟩) (b :: (bl ++ bs)) ∧ Lies w' base D ud bd ∧ Chg [b, c] w w' :=
 JA L p S q D b c ul us ud bl bs bd base h i n k h' i' n' k' w hb hc hL hS hD h1 h2 hnd hok.w
theorem permR (b c : Nat) (ba bs br : List Nat) : (c :: (ba ++ (b :: (bs ++ br)))).Perm (b :: ((c :: (ba ++ bs)) ++ br)) := by
 have h : ((c :: ba) ++ b :: (bs ++ br)).Perm (b :: ((c :: ba) ++ (bs ++ br))) := List.perm_middle;simpa [List.append_assoc] using h
theorem permL (b c : Nat) (bl bs bd : List Nat) : (c :: ((b :: (bl ++ bs)) ++ bd)).Perm (b :: (bl ++ (c :: (bs ++ bd)))) := by
 have h1 : (c :: b :: (bl ++ (bs ++ bd))).Perm (b :: c :: (bl ++ (bs ++ bd))) := List.Perm.swap b c _;have h2 : (bl ++ c :: (bs ++ bd)).Perm (c :: (bl ++ (bs ++ bd))) := List.perm_middle;have h3 := h1.trans (h2.symm.cons b);simpa [List.append_assoc] using h3
def RepPost (base : Nat) (T : AT) (bs : List Nat) (w : World) (e : Ending) (w' : World) : Prop :=
 ∃ u' bs', e = .returned (.pointer u') ∧ Lies w' base T u' bs' ∧ bs'.Perm bs ∧ Chg bs w w'
theorem RepPost.mk {base : Nat} {T : AT} {bs : List Nat} {w w' : World} (u' : Option Addr) (bs' : List Nat) (h1 : Lies w' base T u' bs') (h2 : bs'.Perm bs) (h3 : Chg bs w w') : RepPost base T bs w (.returned (.pointer u')) w' := ⟨u', bs', rfl, h1, h2, h3⟩
theorem ok_turnR {A : AT} {q : Pc} {S : AT} {p : Pc} {R : AT} (h : (AT.node (AT.node A q S) p R).ok) : (AT.node A q (AT.node S p R)).ok := h.of_flat (by simp [AT.flat])
theorem Jn {A : AT} {q : Pc} {S : AT} {p : Pc} {R : AT} (h : (AT.node (AT.node A q S) p R).okw) : (AT.node A q (AT.node S p R)).okw := h.of_flat (by simp [AT.flat])
theorem ok_turnL {L : AT} {p : Pc} {S : AT} {q : Pc} {D : AT} (h : (AT.node L p (AT.node S q D)).ok) : (AT.node (AT.node L p S) q D).ok := h.of_flat (by simp [AT.flat])
theorem Jp {L : AT} {p : Pc} {S : AT} {q : Pc} {D : AT} (h : (AT.node L p (AT.node S q D)).okw) : (AT.node (AT.node L p S) q D).okw := h.of_flat (by simp [AT.flat])
theorem YF (L : AT) (p : Pc) (R : AT) (b : Nat) (ul ur : Option Addr) (bl br : List Nat) (base : Nat) (h i n k : Int) (w : World) (hb : Nd w b p ul ur h i n k)
  (hL : Lies w base L ul bl) (hR : Lies w base R ur br) (hbase : base <= b) (hnd : (b :: (bl ++ br)).Nodup) (hok : (AT.node L p R).okw) (hd1 : L.ht <= R.ht + 2) (hd2 : R.ht <= L.ht + 2) :
  Calls Tryz.prog 179 #[.pointer (some ⟨b, 0, none⟩)] w (RepPost base (AT.rep L p R) (b :: (bl ++ br)) w) := by
 have hnd' := hnd;simp only [List.nodup_cons, List.mem_append, not_or] at hnd';obtain ⟨⟨nbl, nbr⟩, _⟩ := hnd';have HK := hide (yK L p R b ul ur bl br base h i n k w hb hL hR nbl nbr hok);have HL := hide hL;have HR := hide hR;have HOK := hide hok;have HND := hide hnd;have HN1 := hide nbl;have HN2 := hide nbr;have bL := hok.left.bd;have bR := hok.right.bd
 have hhl : (L.ht : Int) <= 16384 := by have := zW L; omega
 have hhr : (R.ht : Int) <= 16384 := by have := zW R; omega
 have HREP := hide (show AT.rep L p R = _ from rfl)
 generalize hres : AT.rep L p R = res;have HRES := hide hres;clear hb hL hR hok hnd nbl nbr hres HREP;go_enter Tryz.func179, Tryz.ntmps179;go_wp2_with fail;refine HK.out.mono ?_;rintro e w1 ⟨rfl, hn1, hc1⟩
 have HL1 := hide (HL.out.chg hc1 (fun x hx e => HN1.out (by simp at e; exact e ▸ hx)))
 have HR1 := hide (HR.out.chg hc1 (fun x hx e => HN2.out (by simp at e; exact e ▸ hx)))
 have HB1 := hide hn1
 have CH1 := hide (hc1.trans (Chg.refl [b] w1) (fun x h _ => by simp at h; simp [h]) (fun x h _ => by simp at h; simp [h]) (ds := b :: (bl ++ br)))
 have HK1 := hide (XO L p R b ul ur bl br base _ _ _ _ w1 hn1 HL1.out HR1.out hhl hhr);clear hn1 hc1 HK HL HR;go_wp2_with fail;refine HK1.out.mono ?_;rintro e w2 ⟨rfl, hc2⟩
 have HL2 := hide (HL1.out.chg hc2 (fun _ _ => by simp))
 have HR2 := hide (HR1.out.chg hc2 (fun _ _ => by simp))
 have HB2 := hide (HB1.out.chg hc2 (by simp))
 have CH2 := hide (CH1.out.trans hc2 (fun _ h _ => h) (fun x h _ => by simp at h) (ds := b :: (bl ++ br)))
 have c3 := HB2.out.c3;have c4 := HB2.out.c4;have lb := HB2.out.lt;clear hc2 HK1 HL1 HR1 HB1 CH1
 by_cases hd : (L.ht : Int) - R.ht = 2
 ·have hde : (((L.ht : Int) - R.ht) == 2) = true := by rw [hd]; rfl
  cases L with
  | nil => simp [AT.ht] at hd; omega
  | node A q S =>
   obtain ⟨c, ua, us, ba, bs, rfl, hbc, hndc, hA, hS, rfl⟩ := HL2.out;have bA := HOK.out.left.left.bd;have bS := HOK.out.left.right.bd
   have hha : (A.ht : Int) <= 16384 := by have := zW A; omega
   have hhs : (S.ht : Int) <= 16384 := by have := zW S; omega
   have HK3 := hide (XO A q S c ua us ba bs base _ _ _ _ w2 hndc hA hS hha hhs);have HA2 := hide hA;have HS2 := hide hS;have HC2 := hide hndc;clear hA hS hndc;go_wp2_with fail;refine HK3.out.mono ?_;rintro e w3 ⟨rfl, hc3⟩
   have HA3 := hide (HA2.out.chg hc3 (fun _ _ => by simp))
   have HS3 := hide (HS2.out.chg hc3 (fun _ _ => by simp))
   have HC3 := hide (HC2.out.chg hc3 (by simp))
   have HR3 := hide (HR2.out.chg hc3 (fun _ _ => by simp))
   have HB3 := hide (HB2.out.chg hc3 (by simp))
   have CH3 := hide (CH2.out.trans hc3 (fun _ h _ => h) (fun x h _ => by simp at h) (ds := b :: ((c :: (ba ++ bs)) ++ br)))
   clear hc3 HK3 HA2 HS2 HC2 HR2 HB2 CH2 HL2 c3 c4;have c3 := HB3.out.c3;have lb3 := HB3.out.lt;have fb3 := HB3.out.fz 3
   by_cases hln : (A.ht : Int) - S.ht < 0
   ·cases S with
    | nil => simp [AT.ht] at hln; omega
    | node C s D =>
     obtain ⟨g, uc, ud, bc, bd, rfl, hbg, hndg, hC, hD, rfl⟩ := HS3.out
     have HREP : Hid (res = AT.node (AT.node A q C) s (AT.node D p R)) := by
      rw [<- HRES.out];unfold AT.rep
      rw [if_pos hd, if_pos (show (AT.node A q (AT.node C s D)).lean < 0 from hln)]
      rfl
     have hndL : (c :: g :: (ba ++ (bc ++ bd))).Nodup := by
      have h0 := HND.out;simp only [List.nodup_cons] at h0;have h1 := (List.nodup_append.1 h0.2).1;have h2 : (c :: (ba ++ g :: (bc ++ bd))).Perm (c :: g :: (ba ++ (bc ++ bd))) := List.perm_middle.cons c;exact h2.nodup_iff.1 h1
     have HK4 := hide (JA A q C s D c g ua uc ud ba bc bd base _ _ _ _ _ _ _ _ w3 HC3.out hndg HA3.out hC hD hbc hbg hndL (Jp HOK.out.left));have HP4 := hide (permL c g ba bc bd);clear hndg hC hD hndL HRES;go_wp2_with fail;refine HK4.out.mono ?_;rintro e w4 ⟨rfl, hg4, hT4, hD4, hc4⟩
     have hbn : b ∉ [c, g] := by
      have h0 := HND.out;simp only [List.nodup_cons, List.mem_append, List.mem_cons, not_or] at h0;simp only [List.mem_cons, List.not_mem_nil, or_false, not_or];exact ⟨h0.1.1.1, h0.1.1.2.2.1⟩
     have hrn : ∀ x ∈ br, x ∉ [c, g] := by
      intro x hx e;have h0 := HND.out;simp only [List.nodup_cons] at h0;have h1 := (List.nodup_append.1 h0.2).2.2;simp only [List.mem_cons, List.not_mem_nil, or_false] at e
      rcases e with rfl | rfl
      ·exact h1 x (by simp) x hx rfl
      ·exact h1 x (by simp) x hx rfl
     have HB4 := hide (HB3.out.chg hc4 hbn);have HR4 := hide (HR3.out.chg hc4 hrn)
     have CH4 := hide (CH3.out.trans hc4 (fun _ h _ => h) (fun x h _ => by simp at h; rcases h with rfl | rfl <;> simp) (ds := b :: ((c :: (ba ++ (g :: (bc ++ bd)))) ++ br)))
     have HND2 := hide (show (b :: ((g :: ((c :: (ba ++ bc)) ++ bd)) ++ br)).Nodup from ((HP4.out.append_right br).cons b).nodup_iff.2 HND.out)
     have b3 := HB4.out.c3;have fb4 := HB4.out.fz 3;have lb4 := HB4.out.lt
     have bnb : b ∉ g :: ((c :: (ba ++ bc)) ++ bd) := fun hm => by
      have := (List.nodup_cons.1 HND2.out).1; exact this (List.mem_append_left _ hm)
     have HB5 := hide (HB4.out.set3 (some ⟨g, 0, none⟩))
     have bnb1 : b ∉ c :: (ba ++ bc) := fun hm => bnb (by simp at hm |-; rcases hm with h | h | h <;> simp [h])
     have bnb2 : b ∉ bd := fun hm => bnb (by simp [hm])
     have bng : b ≠ g := fun e => bnb (by simp [e])
     have HT5 := hide (hT4.other ⟨b, 3, none⟩ (.pointer (some ⟨g, 0, none⟩)) bnb1);have HD5 := hide (hD4.other ⟨b, 3, none⟩ (.pointer (some ⟨g, 0, none⟩)) bnb2)
     have HG5 := hide (Nd.other hg4 ⟨b, 3, none⟩ (.pointer (some ⟨g, 0, none⟩)) (fun e => bng e.symm))
     have HR5 := hide (HR4.out.other ⟨b, 3, none⟩ (.pointer (some ⟨g, 0, none⟩)) HN2.out)
     have CH5 := hide (CH4.out.setCell ⟨b, 3, none⟩ (.pointer (some ⟨g, 0, none⟩)) (.inl (by simp)))
     clear hT4 hD4 hg4 hc4 HK4 bnb1 bnb2 bng HA3 HS3 HC3 HR3 HB3 CH3 HB4 HR4 CH4 hbn hrn bnb c3;go_wp2_with fail;generalize w4.setCell ⟨b, 3, none⟩ (.pointer (some ⟨g, 0, none⟩)) = w5 at *
     have HK6 := hide (Yz (AT.node A q C) s D p R b g (some ⟨c, 0, none⟩) ud ur (c :: (ba ++ bc)) bd br base _ _ _ _ _ _ _ _ w5 HB5.out HG5.out HT5.out HD5.out HR5.out hbase hbg (by have := HND2.out; simpa [List.append_assoc] using this) (HOK.out.of_flat (by simp [AT.flat])))
     go_wp2_with fail;refine HK6.out.mono ?_;rintro e w6 ⟨rfl, hg6, hT6, hD6, hc6⟩;have HT6 := hide (Lies.mk hbg hg6 hT6 hD6)
     have CH6 := hide (CH5.out.trans hc6 (fun _ h _ => h) (fun x h _ => by simp at h; rcases h with rfl | rfl <;> simp) (ds := b :: ((c :: (ba ++ (g :: (bc ++ bd)))) ++ br)))
     clear hT6 hc6 hg6 hD6 HK6;go_wp2;go_ret;rw [HREP.out];exact RepPost.mk _ _ HT6.out ((permR b g (c :: (ba ++ bc)) bd br).trans ((HP4.out.append_right br).cons b)) CH6.out
   ·have HREP : Hid (res = AT.node A q (AT.node S p R)) := by
     rw [<- HRES.out];unfold AT.rep
     rw [if_pos hd, if_neg (show ¬ (AT.node A q S).lean < 0 from hln)]
     rfl
    have HK6 := hide (Yz A q S p R b c ua us ur ba bs br base _ _ _ _ _ _ _ _ w3 HB3.out HC3.out HA3.out HS3.out HR3.out hbase hbc (by have := HND.out; simpa [List.append_assoc] using this) (Jn HOK.out))
    clear HRES;go_wp2_with fail;refine HK6.out.mono ?_;rintro e w6 ⟨rfl, hg6, hT6, hD6, hc6⟩;have HT6 := hide (Lies.mk hbc hg6 hT6 hD6)
    have CH6 := hide (CH3.out.trans hc6 (fun _ h _ => h) (fun x h _ => by simp at h; rcases h with rfl | rfl <;> simp) (ds := b :: ((c :: (ba ++ bs)) ++ br)))
    clear hT6 hc6 hg6 hD6 HK6;go_wp2;go_ret;rw [HREP.out];exact RepPost.mk _ _ HT6.out (permR b c ba bs br) CH6.out
 ·have hde : (((L.ht : Int) - R.ht) == 2) = false := by simpa using hd
  by_cases hd' : (L.ht : Int) - R.ht = -2
  ·have hde' : (((L.ht : Int) - R.ht) == -2) = true := by rw [hd']; rfl
   cases R with
   | nil => simp [AT.ht] at hd'
   | node S q D =>
    obtain ⟨c, us, ud, bs, bd, rfl, hbc, hndc, hS, hD, rfl⟩ := HR2.out;have bS := HOK.out.right.left.bd;have bD := HOK.out.right.right.bd
    have hhs : (S.ht : Int) <= 16384 := by have := zW S; omega
    have hhd : (D.ht : Int) <= 16384 := by have := zW D; omega
    have HK3 := hide (XO S q D c us ud bs bd base _ _ _ _ w2 hndc hS hD hhs hhd);have HS2 := hide hS;have HD2 := hide hD;have HC2 := hide hndc;clear hS hD hndc;go_wp2_with fail;refine HK3.out.mono ?_;rintro e w3 ⟨rfl, hc3⟩
    have HS3 := hide (HS2.out.chg hc3 (fun _ _ => by simp))
    have HD3 := hide (HD2.out.chg hc3 (fun _ _ => by simp))
    have HC3 := hide (HC2.out.chg hc3 (by simp))
    have HL3 := hide (HL2.out.chg hc3 (fun _ _ => by simp))
    have HB3 := hide (HB2.out.chg hc3 (by simp))
    have CH3 := hide (CH2.out.trans hc3 (fun _ h _ => h) (fun x h _ => by simp at h) (ds := b :: (bl ++ (c :: (bs ++ bd)))))
    clear hc3 HK3 HS2 HD2 HC2 HR2 HB2 CH2 HL2 c3 c4;have c4 := HB3.out.c4;have lb3 := HB3.out.lt;have fb4 := HB3.out.fz 4
    by_cases hln : (S.ht : Int) - D.ht > 0
    ·cases S with
     | nil => simp [AT.ht] at hln; omega
     | node C s E =>
      obtain ⟨g, uc, ue, bc, be, rfl, hbg, hndg, hC, hE, rfl⟩ := HS3.out
      have HREP : Hid (res = AT.node (AT.node L p C) s (AT.node E q D)) := by
       rw [<- HRES.out];unfold AT.rep
       rw [if_neg hd, if_pos hd', if_pos (show 0 < (AT.node (AT.node C s E) q D).lean from hln)]
       rfl
      have hndL : (c :: g :: (bc ++ (be ++ bd))).Nodup := by
       have h0 := HND.out;simp only [List.nodup_cons] at h0;have h1 := (List.nodup_append.1 h0.2).2.1;simpa [List.append_assoc] using h1
      have HK4 := hide (Yz C s E q D c g uc ue ud bc be bd base _ _ _ _ _ _ _ _ w3 HC3.out hndg hC hE HD3.out hbc hbg hndL (Jn HOK.out.right));have HP4 := hide (permR c g bc be bd);clear hndg hC hE hndL HRES;go_wp2_with fail;refine HK4.out.mono ?_;rintro e w4 ⟨rfl, hg4, hC4, hT4, hc4⟩
      have hbn : b ∉ [c, g] := by
       have h0 := HND.out;simp only [List.nodup_cons, List.mem_append, List.mem_cons, not_or] at h0;simp only [List.mem_cons, List.not_mem_nil, or_false, not_or];exact ⟨h0.1.2.1, h0.1.2.2.1.1⟩
      have hrn : ∀ x ∈ bl, x ∉ [c, g] := by
       intro x hx e;have h0 := HND.out;simp only [List.nodup_cons] at h0;have h1 := (List.nodup_append.1 h0.2).2.2;simp only [List.mem_cons, List.not_mem_nil, or_false] at e
       rcases e with rfl | rfl
       ·exact h1 x hx x (by simp) rfl
       ·exact h1 x hx x (by simp) rfl
      have HB4 := hide (HB3.out.chg hc4 hbn);have HL4 := hide (HL3.out.chg hc4 hrn)
      have CH4 := hide (CH3.out.trans hc4 (fun _ h _ => h) (fun x h _ => by simp at h; rcases h with rfl | rfl <;> simp) (ds := b :: (bl ++ (c :: ((g :: (bc ++ be)) ++ bd)))))
      have HND2 := hide (show (b :: (bl ++ (g :: (bc ++ (c :: (be ++ bd)))))).Nodup from ((HP4.out.append_left bl).cons b).nodup_iff.2 HND.out)
      have b4 := HB4.out.c4;have fb4' := HB4.out.fz 4;have lb4 := HB4.out.lt
      have bnb : b ∉ g :: (bc ++ (c :: (be ++ bd))) := fun hm => by
       have := (List.nodup_cons.1 HND2.out).1; exact this (List.mem_append_right _ hm)
      have bnb1 : b ∉ c :: (be ++ bd) := fun hm => bnb (by simp at hm |-; rcases hm with h | h | h <;> simp [h])
      have bnb2 : b ∉ bc := fun hm => bnb (by simp [hm])
      have bng : b ≠ g := fun e => bnb (by simp [e])
      have HB5 := hide (HB4.out.set4 (some ⟨g, 0, none⟩));have HT5 := hide (hT4.other ⟨b, 4, none⟩ (.pointer (some ⟨g, 0, none⟩)) bnb1);have HC5 := hide (hC4.other ⟨b, 4, none⟩ (.pointer (some ⟨g, 0, none⟩)) bnb2)
      have HG5 := hide (Nd.other hg4 ⟨b, 4, none⟩ (.pointer (some ⟨g, 0, none⟩)) (fun e => bng e.symm))
      have HL5 := hide (HL4.out.other ⟨b, 4, none⟩ (.pointer (some ⟨g, 0, none⟩)) HN1.out)
      have CH5 := hide (CH4.out.setCell ⟨b, 4, none⟩ (.pointer (some ⟨g, 0, none⟩)) (.inl (by simp)))
      have HND3 := hide (show (b :: g :: (bl ++ (bc ++ (c :: (be ++ bd))))).Nodup from (List.perm_middle.cons b).nodup_iff.1 HND2.out)
      clear hT4 hC4 hg4 hc4 HK4 bnb1 bnb2 bng HS3 HD3 HC3 HL3 HB3 CH3 HB4 HL4 CH4 hbn hrn bnb c4;go_wp2_with fail;generalize w4.setCell ⟨b, 4, none⟩ (.pointer (some ⟨g, 0, none⟩)) = w5 at *
      have HK6 := hide (JA L p C s (AT.node E q D) b g ul uc (some ⟨c, 0, none⟩) bl bc (c :: (be ++ bd)) base _ _ _ _ _ _ _ _ w5 HB5.out HG5.out HL5.out HC5.out HT5.out hbase hbg HND3.out (HOK.out.of_flat (by simp [AT.flat])))
      go_wp2_with fail;refine HK6.out.mono ?_;rintro e w6 ⟨rfl, hg6, hT6, hD6, hc6⟩;have HT6 := hide (Lies.mk hbg hg6 hT6 hD6)
      have CH6 := hide (CH5.out.trans hc6 (fun _ h _ => h) (fun x h _ => by simp at h; rcases h with rfl | rfl <;> simp) (ds := b :: (bl ++ (c :: ((g :: (bc ++ be)) ++ bd)))))
      clear hT6 hc6 hg6 hD6 HK6;go_wp2;go_ret;rw [HREP.out];exact RepPost.mk _ _ HT6.out ((permL b g bl bc (c :: (be ++ bd))).trans ((HP4.out.append_left bl).cons b)) CH6.out
    ·have HREP : Hid (res = AT.node (AT.node L p S) q D) := by
      rw [<- HRES.out];unfold AT.rep
      rw [if_neg hd, if_pos hd', if_neg (show ¬ 0 < (AT.node S q D).lean from hln)]
      rfl
     have HND3 := hide (show (b :: c :: (bl ++ (bs ++ bd))).Nodup from (List.perm_middle.cons b).nodup_iff.1 HND.out)
     have HK6 := hide (JA L p S q D b c ul us ud bl bs bd base _ _ _ _ _ _ _ _ w3 HB3.out HC3.out HL3.out HS3.out HD3.out hbase hbc HND3.out (Jp HOK.out));clear HRES;go_wp2_with fail;refine HK6.out.mono ?_;rintro e w6 ⟨rfl, hg6, hT6, hD6, hc6⟩;have HT6 := hide (Lies.mk hbc hg6 hT6 hD6)
     have CH6 := hide (CH3.out.trans hc6 (fun _ h _ => h) (fun x h _ => by simp at h; rcases h with rfl | rfl <;> simp) (ds := b :: (bl ++ (c :: (bs ++ bd)))))
     clear hT6 hc6 hg6 hD6 HK6;go_wp2;go_ret;rw [HREP.out];exact RepPost.mk _ _ HT6.out (permL b c bl bs bd) CH6.out
  ·have hde' : (((L.ht : Int) - R.ht) == -2) = false := by simpa using hd'
   have HREP : Hid (res = AT.node L p R) := by
    rw [<- HRES.out];unfold AT.rep;rw [if_neg hd, if_neg hd'];exact rfl
   clear HRES c3 c4;go_wp2;go_ret;rw [HREP.out];exact RepPost.mk _ _ (Lies.mk hbase HB2.out HL2.out HR2.out) (List.Perm.refl _) CH2.out
theorem JC (L : AT) (p : Pc) (R : AT) (b : Nat) (ul ur : Option Addr) (bl br : List Nat) (base : Nat) (h i n k : Int) (w : World) (hb : Nd w b p ul ur h i n k)
  (hL : Lies w base L ul bl) (hR : Lies w base R ur br) (hbase : base <= b) (hnd : (b :: (bl ++ br)).Nodup) (hok : (AT.node L p R).ok) (hd1 : L.ht <= R.ht + 2) (hd2 : R.ht <= L.ht + 2) :
  Calls Tryz.prog 179 #[.pointer (some ⟨b, 0, none⟩)] w (RepPost base (AT.rep L p R) (b :: (bl ++ br)) w) :=
 YF L p R b ul ur bl br base h i n k w hb hL hR hbase hnd hok.w hd1 hd2
def MutPost (base : Nat) (T : AT) (bs : List Nat) (w : World) (e : Ending) (w' : World) : Prop :=
 ∃ u' bs', e = .returned (.pointer u') ∧ Lies w' base T u' bs' ∧ bs'.Nodup ∧ (∀ x ∈ bs', x ∈ bs ∨ w.heap.size <= x) ∧ Chg bs w w'
theorem XP {b m : Nat} {bl br bl' : List Nat} (hnd : (b :: (bl ++ br)).Nodup) (hlt : ∀ x ∈ b :: (bl ++ br), x < m) (h1 : bl'.Nodup) (h2 : ∀ x ∈ bl', x ∈ bl ∨ m <= x) : (b :: (bl' ++ br)).Nodup := by
 simp only [List.nodup_cons, List.nodup_append, List.mem_append, not_or] at hnd |-;obtain ⟨⟨n1, n2⟩, n3, n4, n5⟩ := hnd
 refine ⟨⟨fun hm => ?_, n2⟩, h1, n4, fun x hx y hy e => ?_⟩
 ·rcases h2 b hm with h | h
  ·exact n1 h
  ·have := hlt b (by simp); omega
 ·subst e
  rcases h2 x hx with h | h
  ·exact n5 x h x hy rfl
  ·have := hlt x (by simp [hy]); omega
theorem YG {b m : Nat} {bl br br' : List Nat} (hnd : (b :: (bl ++ br)).Nodup) (hlt : ∀ x ∈ b :: (bl ++ br), x < m) (h1 : br'.Nodup) (h2 : ∀ x ∈ br', x ∈ br ∨ m <= x) : (b :: (bl ++ br')).Nodup := by
 simp only [List.nodup_cons, List.nodup_append, List.mem_append, not_or] at hnd |-;obtain ⟨⟨n1, n2⟩, n3, n4, n5⟩ := hnd
 refine ⟨⟨n1, fun hm => ?_⟩, n3, h1, fun x hx y hy e => ?_⟩
 ·rcases h2 b hm with h | h
  ·exact n2 h
  ·have := hlt b (by simp); omega
 ·subst e
  rcases h2 x hy with h | h
  ·exact n5 x hx x h rfl
  ·have := hlt x (by simp [hx]); omega
theorem zBj {a b : List Pc} (h : a.Sublist b) (hp : ∀ p ∈ b, pcOk p = true) : (a.map (fun p => p.len)).sum <= (b.map (fun p => p.len)).sum := by
 induction h with
 | slnil => simp
 | cons x h ih =>
  have := ih (fun p hq => hp p (by simp [hq]))
  have hx := hp x (by simp)
  simp only [pcOk, decide_eq_true_eq] at hx;simp only [List.map_cons, List.sum_cons]; omega
 | cons_cons x h ih =>
  have := ih (fun p hq => hp p (by simp [hq]))
  simp only [List.map_cons, List.sum_cons]; omega
theorem AT.ok.sub {S T : AT} (h : T.ok) (hs : S.flat.Sublist T.flat) : S.ok :=
 ⟨fun p hp => h.1 p (hs.subset hp), by have h1 := zBj hs h.1; have h2 := h.2; rw [AT.rns_of_flat] at h2 |-; omega⟩
theorem AT.okw.sub {S T : AT} (h : T.okw) (hs : S.flat.Sublist T.flat) : S.okw :=
 ⟨fun p hp => h.1 p (hs.subset hp), by have h1 := zBj hs h.1; have h2 := h.2; rw [AT.rns_of_flat] at h2 |-; omega⟩
theorem AT.rem_sub (T : AT) (k : Nat) (hk : k < T.its) : (T.rem k).flat.Sublist T.flat := by
 rw [AT.rem_flat T k hk]
 have e : T.flat.drop k = (T.flat.drop k).take 1 ++ T.flat.drop (k + 1) := by
  rw [<- List.drop_drop, List.take_append_drop]
 have h : (T.flat.take k ++ T.flat.drop (k + 1)).Sublist (T.flat.take k ++ T.flat.drop k) := by
  apply List.Sublist.append_left;rw [e];exact List.sublist_append_right _ _
 rwa [List.take_append_drop] at h
theorem firstN (T : AT) (u : Option Addr) (bs : List Nat) (base : Nat) (w : World) (hT : Lies w base T u bs) (hne : T ≠ .nil) :
  Calls Tryz.prog 183 #[.pointer u] w fun e w' => e = .returned (pcV T.first) ∧ Below w.heap.size w w' := by
 have HT := hide hT;have HNE := hide hne;have HB0 := hide ((Below.refl w.heap.size w).alloc lR (.cells #[.int .i64 0, .int .i64 0, .int .i64 0] 87));have hk0 : (w.alloc (.cells #[.int .i64 0, .int .i64 0, .int .i64 0] 87)).heap[w.heap.size]? = some (.cells #[.int .i64 0, .int .i64 0, .int .i64 0] 87 (0, 0)) := heap_alloc_new _ _
 have hs0 : (w.alloc (.cells #[.int .i64 0, .int .i64 0, .int .i64 0] 87)).heap.size = w.heap.size + 1 := by simp
 generalize hres : T.first = res
 have HRES := hide hres;clear hT hne hres;go_enter Tryz.func183, Tryz.ntmps183;go_wp2_with fail;generalize w.alloc (.cells #[.int .i64 0, .int .i64 0, .int .i64 0] 87) = w0 at *
 go_loopg [0] T.ht (fun g pv wr => ∃ (S : AT) (us : Option Addr) (cs : List Nat), pv = .pointer us ∧ g = S.ht ∧ Lies w base S us cs ∧ S ≠ .nil ∧ S.first = res ∧ wr = w0)
 case atStart => exact ⟨T, u, bs, rfl, rfl, HT.out, HNE.out, HRES.out, rfl⟩
 case round =>
  obtain ⟨S, us, cs, rfl, rfl, hS, hSn, hSf, rfl⟩ := hrel;clear HT HNE HRES
  cases S with
  | nil => exact absurd rfl hSn
  | node l p r =>
   obtain ⟨b, ul, ur, bl, br, rfl, hbase, hnd, hl, hr, rfl⟩ := hS;have hltb := hnd.lt;have c0 := (HB0.out.cell (p := ⟨b, 0, none⟩) hltb).trans hnd.c0;have c1 := (HB0.out.cell (p := ⟨b, 1, none⟩) hltb).trans hnd.c1;have c2 := (HB0.out.cell (p := ⟨b, 2, none⟩) hltb).trans hnd.c2;have c3 := (HB0.out.cell (p := ⟨b, 3, none⟩) hltb).trans hnd.c3
   have hltb' : b < wr.heap.size := by omega
   cases l with
   | nil =>
    obtain ⟨rfl, rfl⟩ := hl
    have HF := hide (show p = res from hSf)
    have z0 : wr.cell? ⟨w.heap.size, 0, none⟩ = some (.int .i64 0) := by rw [cell_of_row wr _ 0 _ _ _ hk0]; rfl
    have z1 : wr.cell? ⟨w.heap.size, 1, none⟩ = some (.int .i64 0) := by rw [cell_of_row wr _ 1 _ _ _ hk0]; rfl
    have z2 : wr.cell? ⟨w.heap.size, 2, none⟩ = some (.int .i64 0) := by rw [cell_of_row wr _ 2 _ _ _ hk0]; rfl
    have y0 := frozen_of_row wr w.heap.size 0 _ _ hk0;have y1 := frozen_of_row wr w.heap.size 1 _ _ hk0;have y2 := frozen_of_row wr w.heap.size 2 _ _ hk0
    have hnb : ¬ b = w.heap.size := by omega
    clear hnd hr hSn hSf hk0;go_wp2
    refine bodyPost_ret (v := pcV p) (by simp [results, Tryz.results183, go_sem, z0, z1, z2]; rfl) rfl ⟨by rw [HF.out], ((HB0.out.setCell (by simp) _).setCell (by simp) _).setCell (by simp) _⟩
   | node A q S =>
    have HL := hide hl;obtain ⟨c, ua, us, ba, bs', rfl, _⟩ := hl
    have HF := hide (show (AT.node A q S).first = res from hSf)
    clear hnd hr hSn hSf;go_wp2;go_roundg (AT.node A q S).ht
    case measure => simp only [AT.ht]; omega
    case rel => exact ⟨AT.node A q S, _, _, rfl, rfl, HL.out, by simp, HF.out, by first | rfl | trivial⟩
end Go.Proofs.YtbgngikejgihgafGreatDoor
