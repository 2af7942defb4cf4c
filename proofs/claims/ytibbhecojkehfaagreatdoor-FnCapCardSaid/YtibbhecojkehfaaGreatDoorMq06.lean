import Derived.Test.YtibbhecojkehfaaGreatDoorMq05
import Derived.Deep.LoopGhost
set_option linter.all false
set_option maxRecDepth 100000
set_option maxHeartbeats 16000000
namespace Go.Proofs.YtibbhecojkehfaaGreatDoor
open Go Go.RowKit
theorem permR (b c:Nat) (ba bs br:List Nat):(c::(ba++(b::(bs++br)))).Perm (b::((c::(ba++bs))++br)):=by
 have h:((c::ba)++b::(bs++br)).Perm (b::((c::ba)++(bs++br))):=List.perm_middle;simpa [List.append_assoc]using h
theorem permL (b c:Nat) (bl bs bd:List Nat):(c::((b::(bl++bs))++bd)).Perm (b::(bl++(c::(bs++bd)))):=by
 have h1:(c::b::(bl++(bs++bd))).Perm (b::c::(bl++(bs++bd))):=List.Perm.swap b c _;have h2:(bl++c::(bs++bd)).Perm (c::(bl++(bs++bd))):=List.perm_middle;have h3:=h1.trans (h2.symm.cons b);simpa [List.append_assoc]using h3
def RepPost (base:Nat) (T:AT) (bs:List Nat) (w:World) (e:Ending) (w':World):Prop:=
 ∃u' bs',e= .returned (.pointer u')∧Lies w' base T u' bs'∧bs'.Perm bs∧Chg bs w w'
theorem RepPost.mk {base:Nat} {T:AT} {bs:List Nat} {w w':World} (u':Option Addr) (bs':List Nat) (h1:Lies w' base T u' bs') (h2:bs'.Perm bs) (h3:Chg bs w w'):RepPost base T bs w (.returned (.pointer u')) w':=⟨u',bs',rfl,h1,h2,h3⟩
theorem Y3 {A:AT} {q:Pc} {S:AT} {p:Pc} {R:AT} (h:(AT.node (AT.node A q S) p R).okw):(AT.node A q (AT.node S p R)).okw:=h.of_flat (by simp [AT.flat])
theorem Y4 {L:AT} {p:Pc} {S:AT} {q:Pc} {D:AT} (h:(AT.node L p (AT.node S q D)).okw):(AT.node (AT.node L p S) q D).okw:=h.of_flat (by simp [AT.flat])
theorem jy (L:AT) (p:Pc) (R:AT) (b:Nat) (ul ur:Option Addr) (bl br:List Nat) (base:Nat) (h i n k:Int) (w:World) (hb:Nd w b p ul ur h i n k)
  (hL:Lies w base L ul bl) (hR:Lies w base R ur br) (hbase:base<=b) (hnd:(b::(bl++br)).Nodup) (hok:(AT.node L p R).okw) (hd1:L.ht<=R.ht+2) (hd2:R.ht<=L.ht+2):
  Calls Tryz.prog 207 #[.pointer (some ⟨b,0,none⟩)] w (RepPost base (AT.rep L p R) (b::(bl++br)) w):=by
 have hnd':=hnd;simp only [List.nodup_cons,List.mem_append,not_or]at hnd';obtain⟨⟨nbl,nbr⟩,_⟩:=hnd';have HK:=hide (zw L p R b ul ur bl br base h i n k w hb hL hR nbl nbr hok);have HL:=hide hL;have HR:=hide hR;have HOK:=hide hok;have HND:=hide hnd;have HN1:=hide nbl;have HN2:=hide nbr;have bL:=hok.left.bd;have bR:=hok.right.bd
 have hhl:(L.ht:Int)<=16384:=by have:=zi L;omega
 have hhr:(R.ht:Int)<=16384:=by have:=zi R;omega
 have HREP:=hide (show AT.rep L p R=_ from rfl)
 generalize hres:AT.rep L p R=res;have HRES:=hide hres;clear hb hL hR hok hnd nbl nbr hres HREP;go_enter Tryz.func207,Tryz.ntmps207;go_wp2_with fail;refine HK.out.mono ?_;rintro e w1 ⟨rfl,hn1,hc1⟩
 have HL1:=hide (HL.out.chg hc1 (fun x hx e=>HN1.out (by simp at e;exact e▸hx)))
 have HR1:=hide (HR.out.chg hc1 (fun x hx e=>HN2.out (by simp at e;exact e▸hx)))
 have HB1:=hide hn1
 have CH1:=hide (hc1.trans (Chg.refl [b] w1) (fun x h _=>by simp at h;simp [h]) (fun x h _=>by simp at h;simp [h]) (ds:=b::(bl++br)))
 have HK1:=hide (XJ L p R b ul ur bl br base _ _ _ _ w1 hn1 HL1.out HR1.out hhl hhr);clear hn1 hc1 HK HL HR;go_wp2_with fail;refine HK1.out.mono ?_;rintro e w2 ⟨rfl,hc2⟩
 have HL2:=hide (HL1.out.chg hc2 (fun _ _=>by simp))
 have HR2:=hide (HR1.out.chg hc2 (fun _ _=>by simp))
 have HB2:=hide (HB1.out.chg hc2 (by simp))
 have CH2:=hide (CH1.out.trans hc2 (fun _ h _=>h) (fun x h _=>by simp at h) (ds:=b::(bl++br)))
 have c3:=HB2.out.c3;have c4:=HB2.out.c4;have lb:=HB2.out.lt;clear hc2 HK1 HL1 HR1 HB1 CH1
 by_cases hd:(L.ht:Int) - R.ht=2
 ·have hde:(((L.ht:Int) - R.ht)==2)=true:=by rw [hd];rfl
  cases L with
  | nil=>simp [AT.ht]at hd;omega
  | node A q S=>
   obtain⟨c,ua,us,ba,bs,rfl,hbc,hndc,hA,hS,rfl⟩:=HL2.out;have bA:=HOK.out.left.left.bd;have bS:=HOK.out.left.right.bd
   have hha:(A.ht:Int)<=16384:=by have:=zi A;omega
   have hhs:(S.ht:Int)<=16384:=by have:=zi S;omega
   have HK3:=hide (XJ A q S c ua us ba bs base _ _ _ _ w2 hndc hA hS hha hhs);have HA2:=hide hA;have HS2:=hide hS;have HC2:=hide hndc;clear hA hS hndc;go_wp2_with fail;refine HK3.out.mono ?_;rintro e w3 ⟨rfl,hc3⟩
   have HA3:=hide (HA2.out.chg hc3 (fun _ _=>by simp))
   have HS3:=hide (HS2.out.chg hc3 (fun _ _=>by simp))
   have HC3:=hide (HC2.out.chg hc3 (by simp))
   have HR3:=hide (HR2.out.chg hc3 (fun _ _=>by simp))
   have HB3:=hide (HB2.out.chg hc3 (by simp))
   have CH3:=hide (CH2.out.trans hc3 (fun _ h _=>h) (fun x h _=>by simp at h) (ds:=b::((c::(ba++bs))++br)))
   clear hc3 HK3 HA2 HS2 HC2 HR2 HB2 CH2 HL2 c3 c4;have c3:=HB3.out.c3;have lb3:=HB3.out.lt;have fb3:=HB3.out.fz 3
   by_cases hln:(A.ht:Int) - S.ht<0
   ·cases S with
    | nil=>simp [AT.ht]at hln;omega
    | node C s D=>
     obtain⟨g,uc,ud,bc,bd,rfl,hbg,hndg,hC,hD,rfl⟩:=HS3.out
     have HREP:Hid (res=AT.node (AT.node A q C) s (AT.node D p R)):=by
      rw [<- HRES.out];unfold AT.rep
      rw [if_pos hd,if_pos (show(AT.node A q (AT.node C s D)).lean<0 from hln)]
      rfl
     have hndL:(c::g::(ba++(bc++bd))).Nodup:=by
      have h0:=HND.out;simp only [List.nodup_cons]at h0;have h1:=(List.nodup_append.1 h0.2).1;have h2:(c::(ba++g::(bc++bd))).Perm (c::g::(ba++(bc++bd))):=List.perm_middle.cons c;exact h2.nodup_iff.1 h1
     have HK4:=hide (Yn A q C s D c g ua uc ud ba bc bd base _ _ _ _ _ _ _ _ w3 HC3.out hndg HA3.out hC hD hbc hbg hndL (Y4 HOK.out.left));have HP4:=hide (permL c g ba bc bd);clear hndg hC hD hndL HRES;go_wp2_with fail;refine HK4.out.mono ?_;rintro e w4 ⟨rfl,hg4,hT4,hD4,hc4⟩
     have hbn:b∉ [c,g]:=by
      have h0:=HND.out;simp only [List.nodup_cons,List.mem_append,List.mem_cons,not_or]at h0;simp only [List.mem_cons,List.not_mem_nil,or_false,not_or];exact⟨h0.1.1.1,h0.1.1.2.2.1⟩
     have hrn:∀x∈br,x∉ [c,g]:=by
      intro x hx e;have h0:=HND.out;simp only [List.nodup_cons]at h0;have h1:=(List.nodup_append.1 h0.2).2.2;simp only [List.mem_cons,List.not_mem_nil,or_false]at e
      rcases e with rfl | rfl
      ·exact h1 x (by simp) x hx rfl
      exact h1 x (by simp) x hx rfl
     have HB4:=hide (HB3.out.chg hc4 hbn);have HR4:=hide (HR3.out.chg hc4 hrn)
     have CH4:=hide (CH3.out.trans hc4 (fun _ h _=>h) (fun x h _=>by simp at h;rcases h with rfl | rfl<;>simp) (ds:=b::((c::(ba++(g::(bc++bd))))++br)))
     have HND2:=hide (show(b::((g::((c::(ba++bc))++bd))++br)).Nodup from((HP4.out.append_right br).cons b).nodup_iff.2 HND.out)
     have b3:=HB4.out.c3;have fb4:=HB4.out.fz 3;have lb4:=HB4.out.lt
     have bnb:b∉g::((c::(ba++bc))++bd):=fun hm=>by
      have:=(List.nodup_cons.1 HND2.out).1;exact this (List.mem_append_left _ hm)
     have HB5:=hide (HB4.out.set3 (some ⟨g,0,none⟩))
     have bnb1:b∉c::(ba++bc):=fun hm=>bnb (by simp at hm |-;rcases hm with h | h | h<;>simp [h])
     have bnb2:b∉bd:=fun hm=>bnb (by simp [hm])
     have bng:b≠g:=fun e=>bnb (by simp [e])
     have HT5:=hide (hT4.other ⟨b,3,none⟩ (.pointer (some ⟨g,0,none⟩)) bnb1);have HD5:=hide (hD4.other ⟨b,3,none⟩ (.pointer (some ⟨g,0,none⟩)) bnb2)
     have HG5:=hide (Nd.other hg4 ⟨b,3,none⟩ (.pointer (some ⟨g,0,none⟩)) (fun e=>bng e.symm))
     have HR5:=hide (HR4.out.other ⟨b,3,none⟩ (.pointer (some ⟨g,0,none⟩)) HN2.out)
     have CH5:=hide (CH4.out.setCell ⟨b,3,none⟩ (.pointer (some ⟨g,0,none⟩)) (.inl (by simp)))
     clear hT4 hD4 hg4 hc4 HK4 bnb1 bnb2 bng HA3 HS3 HC3 HR3 HB3 CH3 HB4 HR4 CH4 hbn hrn bnb c3;go_wp2_with fail;generalize w4.setCell ⟨b,3,none⟩ (.pointer (some ⟨g,0,none⟩))=w5 at *
     have HK6:=hide (Ym (AT.node A q C) s D p R b g (some ⟨c,0,none⟩) ud ur (c::(ba++bc)) bd br base _ _ _ _ _ _ _ _ w5 HB5.out HG5.out HT5.out HD5.out HR5.out hbase hbg (by have:=HND2.out;simpa [List.append_assoc]using this) (HOK.out.of_flat (by simp [AT.flat])))
     go_wp2_with fail;refine HK6.out.mono ?_;rintro e w6 ⟨rfl,hg6,hT6,hD6,hc6⟩;have HT6:=hide (Lies.mk hbg hg6 hT6 hD6)
     have CH6:=hide (CH5.out.trans hc6 (fun _ h _=>h) (fun x h _=>by simp at h;rcases h with rfl | rfl<;>simp) (ds:=b::((c::(ba++(g::(bc++bd))))++br)))
     clear hT6 hc6 hg6 hD6 HK6;go_wp2;go_ret;rw [HREP.out];exact RepPost.mk _ _ HT6.out ((permR b g (c::(ba++bc)) bd br).trans ((HP4.out.append_right br).cons b)) CH6.out
   have HREP:Hid (res=AT.node A q (AT.node S p R)):=by
    rw [<- HRES.out];unfold AT.rep
    rw [if_pos hd,if_neg (show ¬ (AT.node A q S).lean<0 from hln)]
    rfl
   have HK6:=hide (Ym A q S p R b c ua us ur ba bs br base _ _ _ _ _ _ _ _ w3 HB3.out HC3.out HA3.out HS3.out HR3.out hbase hbc (by have:=HND.out;simpa [List.append_assoc]using this) (Y3 HOK.out))
   clear HRES;go_wp2_with fail;refine HK6.out.mono ?_;rintro e w6 ⟨rfl,hg6,hT6,hD6,hc6⟩;have HT6:=hide (Lies.mk hbc hg6 hT6 hD6)
   have CH6:=hide (CH3.out.trans hc6 (fun _ h _=>h) (fun x h _=>by simp at h;rcases h with rfl | rfl<;>simp) (ds:=b::((c::(ba++bs))++br)))
   clear hT6 hc6 hg6 hD6 HK6;go_wp2;go_ret;rw [HREP.out];exact RepPost.mk _ _ HT6.out (permR b c ba bs br) CH6.out
 have hde:(((L.ht:Int) - R.ht)==2)=false:=by simpa using hd
 by_cases hd':(L.ht:Int) - R.ht= -2
 ·have hde':(((L.ht:Int) - R.ht)== -2)=true:=by rw [hd'];rfl
  cases R with
  | nil=>simp [AT.ht]at hd'
  | node S q D=>
   obtain⟨c,us,ud,bs,bd,rfl,hbc,hndc,hS,hD,rfl⟩:=HR2.out;have bS:=HOK.out.right.left.bd;have bD:=HOK.out.right.right.bd
   have hhs:(S.ht:Int)<=16384:=by have:=zi S;omega
   have hhd:(D.ht:Int)<=16384:=by have:=zi D;omega
   have HK3:=hide (XJ S q D c us ud bs bd base _ _ _ _ w2 hndc hS hD hhs hhd);have HS2:=hide hS;have HD2:=hide hD;have HC2:=hide hndc;clear hS hD hndc;go_wp2_with fail;refine HK3.out.mono ?_;rintro e w3 ⟨rfl,hc3⟩
   have HS3:=hide (HS2.out.chg hc3 (fun _ _=>by simp))
   have HD3:=hide (HD2.out.chg hc3 (fun _ _=>by simp))
   have HC3:=hide (HC2.out.chg hc3 (by simp))
   have HL3:=hide (HL2.out.chg hc3 (fun _ _=>by simp))
   have HB3:=hide (HB2.out.chg hc3 (by simp))
   have CH3:=hide (CH2.out.trans hc3 (fun _ h _=>h) (fun x h _=>by simp at h) (ds:=b::(bl++(c::(bs++bd)))))
   clear hc3 HK3 HS2 HD2 HC2 HR2 HB2 CH2 HL2 c3 c4;have c4:=HB3.out.c4;have lb3:=HB3.out.lt;have fb4:=HB3.out.fz 4
   by_cases hln:(S.ht:Int) - D.ht > 0
   ·cases S with
    | nil=>simp [AT.ht]at hln;omega
    | node C s E=>
     obtain⟨g,uc,ue,bc,be,rfl,hbg,hndg,hC,hE,rfl⟩:=HS3.out
     have HREP:Hid (res=AT.node (AT.node L p C) s (AT.node E q D)):=by
      rw [<- HRES.out];unfold AT.rep
      rw [if_neg hd,if_pos hd',if_pos (show 0<(AT.node (AT.node C s E) q D).lean from hln)]
      rfl
     have hndL:(c::g::(bc++(be++bd))).Nodup:=by
      have h0:=HND.out;simp only [List.nodup_cons]at h0;have h1:=(List.nodup_append.1 h0.2).2.1;simpa [List.append_assoc]using h1
     have HK4:=hide (Ym C s E q D c g uc ue ud bc be bd base _ _ _ _ _ _ _ _ w3 HC3.out hndg hC hE HD3.out hbc hbg hndL (Y3 HOK.out.right));have HP4:=hide (permR c g bc be bd);clear hndg hC hE hndL HRES;go_wp2_with fail;refine HK4.out.mono ?_;rintro e w4 ⟨rfl,hg4,hC4,hT4,hc4⟩
     have hbn:b∉ [c,g]:=by
      have h0:=HND.out;simp only [List.nodup_cons,List.mem_append,List.mem_cons,not_or]at h0;simp only [List.mem_cons,List.not_mem_nil,or_false,not_or];exact⟨h0.1.2.1,h0.1.2.2.1.1⟩
     have hrn:∀x∈bl,x∉ [c,g]:=by
      intro x hx e;have h0:=HND.out;simp only [List.nodup_cons]at h0;have h1:=(List.nodup_append.1 h0.2).2.2;simp only [List.mem_cons,List.not_mem_nil,or_false]at e
      rcases e with rfl | rfl
      ·exact h1 x hx x (by simp) rfl
      exact h1 x hx x (by simp) rfl
     have HB4:=hide (HB3.out.chg hc4 hbn);have HL4:=hide (HL3.out.chg hc4 hrn)
     have CH4:=hide (CH3.out.trans hc4 (fun _ h _=>h) (fun x h _=>by simp at h;rcases h with rfl | rfl<;>simp) (ds:=b::(bl++(c::((g::(bc++be))++bd)))))
     have HND2:=hide (show(b::(bl++(g::(bc++(c::(be++bd)))))).Nodup from((HP4.out.append_left bl).cons b).nodup_iff.2 HND.out)
     have b4:=HB4.out.c4;have fb4':=HB4.out.fz 4;have lb4:=HB4.out.lt
     have bnb:b∉g::(bc++(c::(be++bd))):=fun hm=>by
      have:=(List.nodup_cons.1 HND2.out).1;exact this (List.mem_append_right _ hm)
     have bnb1:b∉c::(be++bd):=fun hm=>bnb (by simp at hm |-;rcases hm with h | h | h<;>simp [h])
     have bnb2:b∉bc:=fun hm=>bnb (by simp [hm])
     have bng:b≠g:=fun e=>bnb (by simp [e])
     have HB5:=hide (HB4.out.set4 (some ⟨g,0,none⟩));have HT5:=hide (hT4.other ⟨b,4,none⟩ (.pointer (some ⟨g,0,none⟩)) bnb1);have HC5:=hide (hC4.other ⟨b,4,none⟩ (.pointer (some ⟨g,0,none⟩)) bnb2)
     have HG5:=hide (Nd.other hg4 ⟨b,4,none⟩ (.pointer (some ⟨g,0,none⟩)) (fun e=>bng e.symm))
     have HL5:=hide (HL4.out.other ⟨b,4,none⟩ (.pointer (some ⟨g,0,none⟩)) HN1.out)
     have CH5:=hide (CH4.out.setCell ⟨b,4,none⟩ (.pointer (some ⟨g,0,none⟩)) (.inl (by simp)))
     have HND3:=hide (show(b::g::(bl++(bc++(c::(be++bd))))).Nodup from(List.perm_middle.cons b).nodup_iff.1 HND2.out)
     clear hT4 hC4 hg4 hc4 HK4 bnb1 bnb2 bng HS3 HD3 HC3 HL3 HB3 CH3 HB4 HL4 CH4 hbn hrn bnb c4;go_wp2_with fail;generalize w4.setCell ⟨b,4,none⟩ (.pointer (some ⟨g,0,none⟩))=w5 at *
     have HK6:=hide (Yn L p C s (AT.node E q D) b g ul uc (some ⟨c,0,none⟩) bl bc (c::(be++bd)) base _ _ _ _ _ _ _ _ w5 HB5.out HG5.out HL5.out HC5.out HT5.out hbase hbg HND3.out (HOK.out.of_flat (by simp [AT.flat])))
     go_wp2_with fail;refine HK6.out.mono ?_;rintro e w6 ⟨rfl,hg6,hT6,hD6,hc6⟩;have HT6:=hide (Lies.mk hbg hg6 hT6 hD6)
     have CH6:=hide (CH5.out.trans hc6 (fun _ h _=>h) (fun x h _=>by simp at h;rcases h with rfl | rfl<;>simp) (ds:=b::(bl++(c::((g::(bc++be))++bd)))))
     clear hT6 hc6 hg6 hD6 HK6;go_wp2;go_ret;rw [HREP.out];exact RepPost.mk _ _ HT6.out ((permL b g bl bc (c::(be++bd))).trans ((HP4.out.append_left bl).cons b)) CH6.out
   have HREP:Hid (res=AT.node (AT.node L p S) q D):=by
    rw [<- HRES.out];unfold AT.rep
    rw [if_neg hd,if_pos hd',if_neg (show ¬0<(AT.node S q D).lean from hln)]
    rfl
   have HND3:=hide (show(b::c::(bl++(bs++bd))).Nodup from(List.perm_middle.cons b).nodup_iff.1 HND.out)
   have HK6:=hide (Yn L p S q D b c ul us ud bl bs bd base _ _ _ _ _ _ _ _ w3 HB3.out HC3.out HL3.out HS3.out HD3.out hbase hbc HND3.out (Y4 HOK.out));clear HRES;go_wp2_with fail;refine HK6.out.mono ?_;rintro e w6 ⟨rfl,hg6,hT6,hD6,hc6⟩;have HT6:=hide (Lies.mk hbc hg6 hT6 hD6)
   have CH6:=hide (CH3.out.trans hc6 (fun _ h _=>h) (fun x h _=>by simp at h;rcases h with rfl | rfl<;>simp) (ds:=b::(bl++(c::(bs++bd)))))
   clear hT6 hc6 hg6 hD6 HK6;go_wp2;go_ret;rw [HREP.out];exact RepPost.mk _ _ HT6.out (permL b c bl bs bd) CH6.out
 have hde':(((L.ht:Int) - R.ht)== -2)=false:=by simpa using hd'
 have HREP:Hid (res=AT.node L p R):=by
  rw [<- HRES.out];unfold AT.rep;rw [if_neg hd,if_neg hd'];exact rfl
 clear HRES c3 c4;go_wp2;go_ret;rw [HREP.out];exact RepPost.mk _ _ (Lies.mk hbase HB2.out HL2.out HR2.out) (List.Perm.refl _) CH2.out
theorem Zp (L:AT) (p:Pc) (R:AT) (b:Nat) (ul ur:Option Addr) (bl br:List Nat) (base:Nat) (h i n k:Int) (w:World) (hb:Nd w b p ul ur h i n k)
  (hL:Lies w base L ul bl) (hR:Lies w base R ur br) (hbase:base<=b) (hnd:(b::(bl++br)).Nodup) (hok:(AT.node L p R).ok) (hd1:L.ht<=R.ht+2) (hd2:R.ht<=L.ht+2):
  Calls Tryz.prog 207 #[.pointer (some ⟨b,0,none⟩)] w (RepPost base (AT.rep L p R) (b::(bl++br)) w):=
 jy L p R b ul ur bl br base h i n k w hb hL hR hbase hnd hok.w hd1 hd2
def MutPost (base:Nat) (T:AT) (bs:List Nat) (w:World) (e:Ending) (w':World):Prop:=
 ∃u' bs',e= .returned (.pointer u')∧Lies w' base T u' bs'∧bs'.Nodup∧(∀x∈bs',x∈bs∨w.heap.size<=x)∧Chg bs w w'
theorem Yo {b m:Nat} {bl br bl':List Nat} (hnd:(b::(bl++br)).Nodup) (hlt:∀x∈b::(bl++br),x<m) (h1:bl'.Nodup) (h2:∀x∈bl',x∈bl∨m<=x):(b::(bl'++br)).Nodup:=by
 simp only [List.nodup_cons,List.nodup_append,List.mem_append,not_or]at hnd |-;obtain⟨⟨n1,n2⟩,n3,n4,n5⟩:=hnd
 refine⟨⟨fun hm=>?_,n2⟩,h1,n4,fun x hx y hy e=>?_⟩
 ·rcases h2 b hm with h | h
  ·exact n1 h
  have:=hlt b (by simp);omega
 subst e
 rcases h2 x hx with h | h
 ·exact n5 x h x hy rfl
 have:=hlt x (by simp [hy]);omega
theorem jz {b m:Nat} {bl br br':List Nat} (hnd:(b::(bl++br)).Nodup) (hlt:∀x∈b::(bl++br),x<m) (h1:br'.Nodup) (h2:∀x∈br',x∈br∨m<=x):(b::(bl++br')).Nodup:=by
 simp only [List.nodup_cons,List.nodup_append,List.mem_append,not_or]at hnd |-;obtain⟨⟨n1,n2⟩,n3,n4,n5⟩:=hnd
 refine⟨⟨n1,fun hm=>?_⟩,n3,h1,fun x hx y hy e=>?_⟩
 ·rcases h2 b hm with h | h
  ·exact n2 h
  have:=hlt b (by simp);omega
 subst e
 rcases h2 x hy with h | h
 ·exact n5 x hx x h rfl
 have:=hlt x (by simp [hx]);omega
theorem Xx {a b:List Pc} (h:a.Sublist b) (hp:∀p∈b,pcOk p=true):(a.map (fun p=>p.len)).sum<=(b.map (fun p=>p.len)).sum:=by
 induction h with
 | slnil=>simp
 | cons x h ih=>
  have:=ih (fun p hq=>hp p (by simp [hq]))
  have hx:=hp x (by simp)
  simp only [pcOk,decide_eq_true_eq]at hx;simp only [List.map_cons,List.sum_cons];omega
 | cons_cons x h ih=>
  have:=ih (fun p hq=>hp p (by simp [hq]))
  simp only [List.map_cons,List.sum_cons];omega
theorem AT.ok.sub {S T:AT} (h:T.ok) (hs:S.flat.Sublist T.flat):S.ok:=
 ⟨fun p hp=>h.1 p (hs.subset hp),by have h1:=Xx hs h.1;have h2:=h.2;rw [AT.rns_of_flat]at h2 |-;omega⟩
theorem AT.okw.sub {S T:AT} (h:T.okw) (hs:S.flat.Sublist T.flat):S.okw:=
 ⟨fun p hp=>h.1 p (hs.subset hp),by have h1:=Xx hs h.1;have h2:=h.2;rw [AT.rns_of_flat]at h2 |-;omega⟩
theorem AT.rem_sub (T:AT) (k:Nat) (hk:k<T.its):(T.rem k).flat.Sublist T.flat:=by
 rw [AT.rem_flat T k hk]
 have e:T.flat.drop k=(T.flat.drop k).take 1++T.flat.drop (k+1):=by
  rw [<- List.drop_drop,List.take_append_drop]
 have h:(T.flat.take k++T.flat.drop (k+1)).Sublist (T.flat.take k++T.flat.drop k):=by
  apply List.Sublist.append_left;rw [e];exact List.sublist_append_right _ _
 rwa [List.take_append_drop]at h
theorem firstN (T:AT) (u:Option Addr) (bs:List Nat) (base:Nat) (w:World) (hT:Lies w base T u bs) (hne:T≠ .nil):
  Calls Tryz.prog 211 #[.pointer u] w fun e w'=>e= .returned (pcV T.first)∧Below w.heap.size w w':=by
 have HT:=hide hT;have HNE:=hide hne;have HB0:=hide ((Below.refl w.heap.size w).alloc lR (.cells #[.int .i64 0,.int .i64 0,.int .i64 0] 89));have hk0:(w.alloc (.cells #[.int .i64 0,.int .i64 0,.int .i64 0] 89)).heap[w.heap.size]? =some (.cells #[.int .i64 0,.int .i64 0,.int .i64 0] 89 (0,0)):=heap_alloc_new _ _
 have hs0:(w.alloc (.cells #[.int .i64 0,.int .i64 0,.int .i64 0] 89)).heap.size=w.heap.size+1:=by simp
 generalize hres:T.first=res
 have HRES:=hide hres;clear hT hne hres;go_enter Tryz.func211,Tryz.ntmps211;go_wp2_with fail;generalize w.alloc (.cells #[.int .i64 0,.int .i64 0,.int .i64 0] 89)=w0 at *
 go_loopg [0] T.ht (fun g pv wr=>∃ (S:AT) (us:Option Addr) (cs:List Nat),pv= .pointer us∧g=S.ht∧Lies w base S us cs∧S≠ .nil∧S.first=res∧wr=w0)
 case atStart=>exact⟨T,u,bs,rfl,rfl,HT.out,HNE.out,HRES.out,rfl⟩
 obtain⟨S,us,cs,rfl,rfl,hS,hSn,hSf,rfl⟩:=hrel;clear HT HNE HRES
 cases S with
 | nil=>exact absurd rfl hSn
 | node l p r=>
  obtain⟨b,ul,ur,bl,br,rfl,hbase,hnd,hl,hr,rfl⟩:=hS;have hltb:=hnd.lt;have c0:=(HB0.out.cell (p:=⟨b,0,none⟩) hltb).trans hnd.c0;have c1:=(HB0.out.cell (p:=⟨b,1,none⟩) hltb).trans hnd.c1;have c2:=(HB0.out.cell (p:=⟨b,2,none⟩) hltb).trans hnd.c2;have c3:=(HB0.out.cell (p:=⟨b,3,none⟩) hltb).trans hnd.c3
  have hltb':b<wr.heap.size:=by omega
  cases l with
  | nil=>
   obtain⟨rfl,rfl⟩:=hl
   have HF:=hide (show p=res from hSf)
   have z0:wr.cell? ⟨w.heap.size,0,none⟩=some (.int .i64 0):=by rw [cell_of_row wr _ 0 _ _ _ hk0];rfl
   have z1:wr.cell? ⟨w.heap.size,1,none⟩=some (.int .i64 0):=by rw [cell_of_row wr _ 1 _ _ _ hk0];rfl
   have z2:wr.cell? ⟨w.heap.size,2,none⟩=some (.int .i64 0):=by rw [cell_of_row wr _ 2 _ _ _ hk0];rfl
   have y0:=frozen_of_row wr w.heap.size 0 _ _ hk0;have y1:=frozen_of_row wr w.heap.size 1 _ _ hk0;have y2:=frozen_of_row wr w.heap.size 2 _ _ hk0
   have hnb:¬b=w.heap.size:=by omega
   clear hnd hr hSn hSf hk0;go_wp2
   refine bodyPost_ret (v:=pcV p) (by simp [results,Tryz.results211,go_sem,z0,z1,z2];rfl) rfl ⟨by rw [HF.out],((HB0.out.setCell (by simp) _).setCell (by simp) _).setCell (by simp) _⟩
  | node A q S=>
   have HL:=hide hl;obtain⟨c,ua,us,ba,bs',rfl,_⟩:=hl
   have HF:=hide (show(AT.node A q S).first=res from hSf)
   clear hnd hr hSn hSf;go_wp2;go_roundg (AT.node A q S).ht
   case measure=>simp only [AT.ht];omega
   exact⟨AT.node A q S,_,_,rfl,rfl,HL.out,by simp,HF.out,by first | rfl | trivial⟩
theorem Tryz.fld0 (a b c:Value) (w:World):(Instr.field 152 (.agg #[a,b,c]) 0).run Tryz.prog w= .ok a w:=by kernel_rfl
theorem Tryz.fld1 (a b c:Value) (w:World):(Instr.field 152 (.agg #[a,b,c]) 1).run Tryz.prog w= .ok b w:=by kernel_rfl
theorem Tryz.fld2 (a b c:Value) (w:World):(Instr.field 152 (.agg #[a,b,c]) 2).run Tryz.prog w= .ok c w:=by kernel_rfl
theorem AT.rem_lt (l:AT) (p:Pc) (r:AT) (k:Nat) (h:k<l.its):(AT.node l p r).rem k=AT.rep (l.rem k) p r:=by
 rw [AT.rem.eq_def];simp only [if_pos h]
theorem AT.rem_gt (l:AT) (p:Pc) (r:AT) (k:Nat) (h:¬k<l.its) (h2:l.its<k):(AT.node l p r).rem k=AT.rep l p (r.rem (k - l.its - 1)):=by
 rw [AT.rem.eq_def];simp only [if_neg h,if_pos h2]
theorem zk (l:AT) (p:Pc) (r:AT):(AT.node l p r).flat=l.flat++p::r.flat:=rfl
theorem AT.bal_hts {l:AT} {p:Pc} {r:AT} (h:(AT.node l p r).bal):l.bal∧r.bal∧l.ht<=r.ht+1∧r.ht<=l.ht+1:=h
theorem yw {base:Nat} {T:AT} {bs cs:List Nat} {w w3 w4:World} {e:Ending} (hc:Chg bs w w3) (hsub:∀x∈cs,x∈bs∨w.heap.size<=x) (hnd:cs.Nodup) (h:RepPost base T cs w3 e w4):MutPost base T bs w e w4:=by
 obtain⟨u',bs',rfl,h1,h2,h3⟩:=h
 refine⟨u',bs',rfl,h1,h2.nodup_iff.2 hnd,fun x hx=>hsub x (h2.mem_iff.1 hx),hc.trans h3 (fun _ h _=>h) (fun x hx hl=>?_)⟩
 rcases hsub x hx with h | h
 ·exact h
 omega
theorem JU:∀ (T:AT) (k:Nat) (u:Option Addr) (bs:List Nat) (base:Nat) (w:World),T.bal->T.okw->k<T.its->Lies w base T u bs->bs.Nodup->
  Calls Tryz.prog 212 #[.pointer u,.int .i64 k] w (MutPost base (T.rem k) bs w):=by
 intro T
 induction T with
 | nil=>intro k u bs base w _ _ hk;simp [AT.its]at hk
 | node l p r ihl ihr=>
  intro k u bs base w hbal hok hk hT hnd;have hTlt:=hT.lt;obtain⟨b,ul,ur,bl,br,rfl,hbase,hb,hL,hR,rfl⟩:=hT;obtain⟨bl_,br_,ht1,ht2⟩:=AT.bal_hts hbal;have hnd':=hnd;simp only [List.nodup_cons,List.nodup_append,List.mem_append,not_or]at hnd';obtain⟨⟨nbl,nbr⟩,ndl,ndr,ndlr⟩:=hnd'
  have dlr:∀x∈br,x∉bl:=fun x hx hm=>ndlr x hm x hx rfl
  have drl:∀x∈bl,x∉br:=fun x hx hm=>ndlr x hx x hm rfl
  have bT:=hok.bd
  have hits:((AT.node l p r).its:Int)=l.its+1+r.its:=by simp only [AT.its];omega
  have hits':(AT.node l p r).its=l.its+1+r.its:=rfl;have c3:=hb.c3;have lb:=hb.lt;have HK:=hide (allN l ul bl base w hL)
  have HX:=hide (show(AT.node l p r).rem k=_ from rfl)
  generalize hres:(AT.node l p r).rem k=res;have HRES:=hide hres;have HL:=hide hL;have HR:=hide hR;have HB:=hide hb;have HND:=hide hnd;have HOK:=hide hok;have HLT:=hide hTlt;have HD:=hide (And.intro nbl (And.intro nbr (And.intro ndl (And.intro ndr (And.intro dlr drl)))));have IHL:=hide ihl;have IHR:=hide ihr;have HBB:=hide (And.intro bl_ br_);have f0:=Tryz.fld0;clear hb hL hR hres HX hnd hok hTlt nbl nbr ndl ndr ndlr dlr drl ihl ihr hbal bl_ br_;go_enter Tryz.func212,Tryz.ntmps212;go_wp2_with fail;refine HK.out.mono ?_;rintro e w1 ⟨rfl,hb1⟩;have s1:=hb1.size;have HL1:=hide (HL.out.below hb1 lR);have HR1:=hide (HR.out.below hb1 lR)
  have HB1:=hide (Nd.chg (cs:=[]) HB.out (Chg.of_below hb1) (by simp))
  have CH1:=hide (Chg.of_below (bs:=b::(bl++br)) hb1)
  have HLT1:=hide (fun x hx=>Nat.lt_of_lt_of_le (HLT.out x hx).2 s1)
  clear hb1 HK HL HR HB c3;have c3:=HB1.out.c3;have c4:=HB1.out.c4;have lb1:=HB1.out.lt;unfold cnt
  by_cases hk1:k<l.its
  ·have hk1':(k:Int)<l.its:=by omega
   have HREP:Hid (res=AT.rep (l.rem k) p r):=by
    rw [<- HRES.out,AT.rem_lt _ _ _ _ hk1];exact rfl
   have rb:=AT.rem_bal l k HBB.out.1 hk1;have IH:=hide (IHL.out k ul bl base w1 HBB.out.1 HOK.out.left hk1 HL1.out HD.out.2.2.1);clear HRES;go_wp2_with fail;refine IH.out.mono ?_;rintro e w2 ⟨u2,bl2,rfl,hT2,nd2,sub2,ch2⟩;have HB2:=hide (HB1.out.chg ch2 HD.out.1);have HR2:=hide (HR1.out.chg ch2 HD.out.2.2.2.2.1);have ND2:=hide (Yo HND.out HLT1.out nd2 sub2)
   have nb2:b∉bl2:=fun hm=>(List.nodup_cons.1 ND2.out).1 (List.mem_append_left _ hm)
   have b3:=HB2.out.c3;have fb3:=HB2.out.fz 3;have lb2:=HB2.out.lt
   have CH2:=hide (CH1.out.trans ch2 (fun _ h _=>h) (fun x h _=>by simp [h]) (ds:=b::(bl++br)))
   have HB3:=hide (HB2.out.set3 u2);have HT3:=hide (hT2.other ⟨b,3,none⟩ (.pointer u2) nb2);have HR3:=hide (HR2.out.other ⟨b,3,none⟩ (.pointer u2) HD.out.2.1)
   have CH3:=hide (CH2.out.setCell ⟨b,3,none⟩ (.pointer u2) (.inl (by simp)))
   have SUB:=hide (show ∀x∈b::(bl2++br),x∈b::(bl++br)∨w.heap.size<=x from fun x hx=>by
    simp only [List.mem_cons,List.mem_append]at hx |-
    rcases hx with h | h | h
    ·exact .inl (.inl h)
    ·rcases sub2 x h with h | h
     ·exact .inl (.inr (.inl h))
     exact .inr (by omega)
    exact .inl (.inr (.inr h)))
   have HOK3:=hide (show(AT.node (l.rem k) p r).okw from HOK.out.sub (by rw [zk,zk];exact(AT.rem_sub l k hk1).append_right _))
   have HK3:=hide (jy (l.rem k) p r b u2 ur bl2 br base _ _ _ _ _ HB3.out HT3.out HR3.out hbase ND2.out HOK3.out (by omega) (by omega))
   clear hT2 nd2 sub2 ch2 nb2 IH HB2 HR2 CH2 HB1 HL1 HR1 CH1 c3 c4 HB3 HT3 HR3;go_wp2_with fail;generalize w2.setCell ⟨b,3,none⟩ (.pointer u2)=w3 at *;refine HK3.out.mono ?_;intro e w4 hrp;have HM:=hide (yw CH3.out SUB.out ND2.out hrp);obtain⟨u4,bs4,rfl,_⟩:=hrp;clear HK3;go_wp2;go_ret;rw [HREP.out];exact HM.out
  by_cases hk2:l.its<k
  ·have hk1':¬ (k:Int)<l.its:=by omega
   have hk2':(k:Int) > l.its:=by omega
   have HREP:Hid (res=AT.rep l p (r.rem (k - l.its - 1))):=by
    rw [<- HRES.out,AT.rem_gt _ _ _ _ hk1 hk2];exact rfl
   have hkr:k - l.its - 1<r.its:=by omega
   have rb:=AT.rem_bal r (k - l.its - 1) HBB.out.2 hkr;have IH:=hide (IHR.out (k - l.its - 1) ur br base w1 HBB.out.2 HOK.out.right hkr HR1.out HD.out.2.2.2.1)
   have ecast:((k - l.its - 1:Nat):Int)=(k:Int) - l.its - 1:=by omega
   rw [ecast]at IH;clear HRES ecast;go_wp2_with fail;refine IH.out.mono ?_;rintro e w2 ⟨u2,br2,rfl,hT2,nd2,sub2,ch2⟩;have HB2:=hide (HB1.out.chg ch2 HD.out.2.1);have HL2:=hide (HL1.out.chg ch2 HD.out.2.2.2.2.2);have ND2:=hide (jz HND.out HLT1.out nd2 sub2)
   have nb2:b∉br2:=fun hm=>(List.nodup_cons.1 ND2.out).1 (List.mem_append_right _ hm)
   have b4:=HB2.out.c4;have fb4:=HB2.out.fz 4;have lb2:=HB2.out.lt
   have CH2:=hide (CH1.out.trans ch2 (fun _ h _=>h) (fun x h _=>by simp [h]) (ds:=b::(bl++br)))
   have HB3:=hide (HB2.out.set4 u2);have HT3:=hide (hT2.other ⟨b,4,none⟩ (.pointer u2) nb2);have HL3:=hide (HL2.out.other ⟨b,4,none⟩ (.pointer u2) HD.out.1)
   have CH3:=hide (CH2.out.setCell ⟨b,4,none⟩ (.pointer u2) (.inl (by simp)))
   have SUB:=hide (show ∀x∈b::(bl++br2),x∈b::(bl++br)∨w.heap.size<=x from fun x hx=>by
    simp only [List.mem_cons,List.mem_append]at hx |-
    rcases hx with h | h | h
    ·exact .inl (.inl h)
    ·exact .inl (.inr (.inl h))
    rcases sub2 x h with h | h
    ·exact .inl (.inr (.inr h))
    exact .inr (by omega))
   have HOK3:=hide (show(AT.node l p (r.rem (k - l.its - 1))).okw from HOK.out.sub (by rw [zk,zk];exact((AT.rem_sub r _ hkr).cons_cons p).append_left _))
   have HK3:=hide (jy l p (r.rem (k - l.its - 1)) b ul u2 bl br2 base _ _ _ _ _ HB3.out HL3.out HT3.out hbase ND2.out HOK3.out (by omega) (by omega))
   clear hT2 nd2 sub2 ch2 nb2 IH HB2 HL2 CH2 HB1 HL1 HR1 CH1 c3 c4 HB3 HT3 HL3;go_wp2_with fail;generalize w2.setCell ⟨b,4,none⟩ (.pointer u2)=w3 at *;refine HK3.out.mono ?_;intro e w4 hrp;have HM:=hide (yw CH3.out SUB.out ND2.out hrp);obtain⟨u4,bs4,rfl,_⟩:=hrp;clear HK3;go_wp2;go_ret;rw [HREP.out];exact HM.out
  have hke:k=l.its:=by omega
  have hk1':¬ (k:Int)<l.its:=by omega
  have hk2':¬ (k:Int) > l.its:=by omega
  cases l with
  | nil=>
   obtain⟨rfl,rfl⟩:=HL1.out
   have HREP:Hid (res=r):=by
    rw [<- HRES.out,AT.rem,if_neg hk1,if_neg hk2];exact rfl
   clear HRES;go_wp2;go_ret;rw [HREP.out]
   exact⟨ur,br,rfl,HR1.out,HD.out.2.2.2.1,fun x hx=>.inl (by simp [hx]),CH1.out⟩
  | node A q S=>
   have HLL:=hide HL1.out;obtain⟨c,ua,us,ba,bs,rfl,_⟩:=HL1.out
   cases r with
   | nil=>
    obtain⟨rfl,rfl⟩:=HR1.out
    have HREP:Hid (res=AT.node A q S):=by
     rw [<- HRES.out,AT.rem,if_neg hk1,if_neg hk2];exact rfl
    clear HRES;go_wp2;go_ret;rw [HREP.out]
    exact⟨_,bl,rfl,HLL.out,HD.out.2.2.1,fun x hx=>.inl (by simp [hx]),CH1.out⟩
   | node C s D=>
    have HRR:=hide HR1.out;obtain⟨g,uc,ud,bc,bd,rfl,_⟩:=HR1.out
    have HREP:Hid (res=AT.rep (AT.node A q S) (AT.first (AT.node C s D)) ((AT.node C s D).rem 0)):=by
     rw [<- HRES.out,AT.rem,if_neg hk1,if_neg hk2];exact rfl
    have hr0:0<(AT.node C s D).its:=by simp only [AT.its];omega
    have rb:=AT.rem_bal (AT.node C s D) 0 HBB.out.2 hr0
    have HKF:=hide (firstN (AT.node C s D) _ br base w1 HRR.out (by simp))
    obtain⟨ft,hft⟩:=AT.first_flat (AT.node C s D) (by simp)
    have HFT:=hide hft
    generalize hF:(AT.node C s D).first=F at *
    clear HRES hft;go_wp2_with fail;refine HKF.out.mono ?_;rintro e w2 ⟨rfl,hb2⟩;have s2:=hb2.size
    have HB2:=hide (Nd.chg (cs:=[]) HB1.out (Chg.of_below hb2) (by simp))
    have HLL2:=hide (HLL.out.below hb2 lR);have HRR2:=hide (HRR.out.below hb2 lR)
    have CH2:=hide (CH1.out.trans (Chg.of_below (bs:=b::(bl++br)) hb2) (fun _ h _=>h) (fun _ h _=>h))
    have e0:=HB2.out.c0;have e1:=HB2.out.c1;have e2:=HB2.out.c2;have fe0:=HB2.out.fz 0;have fe1:=HB2.out.fz 1;have fe2:=HB2.out.fz 2;have lb2:=HB2.out.lt;have HB3:=hide (HB2.out.set012 F);have HLL3:=hide (((HLL2.out.other ⟨b,0,none⟩ (.int .i64 F.off) HD.out.1).other ⟨b,1,none⟩ (.int .i64 F.len) HD.out.1).other ⟨b,2,none⟩ (.int .i64 F.brk) HD.out.1);have HRR3:=hide (((HRR2.out.other ⟨b,0,none⟩ (.int .i64 F.off) HD.out.2.1).other ⟨b,1,none⟩ (.int .i64 F.len) HD.out.2.1).other ⟨b,2,none⟩ (.int .i64 F.brk) HD.out.2.1)
    have CH3:=hide (((CH2.out.setCell ⟨b,0,none⟩ (.int .i64 F.off) (.inl (by simp))).setCell ⟨b,1,none⟩ (.int .i64 F.len) (.inl (by simp))).setCell ⟨b,2,none⟩ (.int .i64 F.brk) (.inl (by simp)))
    have g4:=HB3.out.c4;have lb3:=HB3.out.lt;have IH:=hide (IHR.out 0 _ br base _ HBB.out.2 HOK.out.right hr0 HRR3.out HD.out.2.2.2.1)
    have s3:w1.heap.size<=(((w2.setCell ⟨b,0,none⟩ (.int .i64 F.off)).setCell ⟨b,1,none⟩ (.int .i64 F.len)).setCell ⟨b,2,none⟩ (.int .i64 F.brk)).heap.size:=by simpa using s2
    simp only [Int.natCast_zero]at IH;clear hb2 HKF HB1 HB2 HLL2 HRR2 CH2 HLL HRR CH1 c3 c4;unfold pcV;go_wp2_with fail;generalize ((w2.setCell ⟨b,0,none⟩ (.int .i64 F.off)).setCell ⟨b,1,none⟩ (.int .i64 F.len)).setCell ⟨b,2,none⟩ (.int .i64 F.brk)=w3 at *;refine IH.out.mono ?_;rintro e w4 ⟨u4,br4,rfl,hT4,nd4,sub4,ch4⟩;have HB4:=hide (HB3.out.chg ch4 HD.out.2.1);have HL4:=hide (HLL3.out.chg ch4 HD.out.2.2.2.2.2)
    have sub4':∀x∈br4,x∈br∨w1.heap.size<=x:=fun x hx=>by
     rcases sub4 x hx with h | h
     ·exact .inl h
     exact .inr (by omega)
    have ND4:=hide (jz HND.out HLT1.out nd4 sub4')
    have nb4:b∉br4:=fun hm=>(List.nodup_cons.1 ND4.out).1 (List.mem_append_right _ hm)
    have b4:=HB4.out.c4;have fb4:=HB4.out.fz 4;have lb4:=HB4.out.lt
    have CH4:=hide (CH3.out.trans ch4 (fun _ h _=>h) (fun x h _=>by simp [h]) (ds:=b::(bl++br)))
    have HB5:=hide (HB4.out.set4 u4);have HT5:=hide (hT4.other ⟨b,4,none⟩ (.pointer u4) nb4);have HL5:=hide (HL4.out.other ⟨b,4,none⟩ (.pointer u4) HD.out.1)
    have CH5:=hide (CH4.out.setCell ⟨b,4,none⟩ (.pointer u4) (.inl (by simp)))
    have SUB:=hide (show ∀x∈b::(bl++br4),x∈b::(bl++br)∨w.heap.size<=x from fun x hx=>by
     simp only [List.mem_cons,List.mem_append]at hx |-
     rcases hx with h | h | h
     ·exact .inl (.inl h)
     ·exact .inl (.inr (.inl h))
     rcases sub4' x h with h | h
     ·exact .inl (.inr (.inr h))
     exact .inr (by omega))
    have HOK5:=hide (show(AT.node (AT.node A q S) F ((AT.node C s D).rem 0)).okw from HOK.out.sub (by
     rw [zk,zk (AT.node A q S),AT.rem_flat _ 0 hr0,HFT.out];simp only [List.take_zero,List.nil_append,Nat.zero_add,List.drop_succ_cons,List.drop_zero]
     exact((List.Sublist.refl _).cons p).append_left _))
    have HK5:=hide (jy (AT.node A q S) F ((AT.node C s D).rem 0) b _ u4 bl br4 base _ _ _ _ _ HB5.out HL5.out HT5.out hbase ND4.out HOK5.out (by omega) (by omega))
    clear hT4 nd4 sub4 sub4' ch4 nb4 IH HB4 HL4 CH4 HB3 HLL3 HRR3 CH3 HB5 HT5 HL5 g4;go_wp2_with fail;generalize w4.setCell ⟨b,4,none⟩ (.pointer u4)=w5 at *;refine HK5.out.mono ?_;intro e w6 hrp;have HM:=hide (yw CH5.out SUB.out ND4.out hrp);obtain⟨u6,bs6,rfl,_⟩:=hrp;clear HK5;go_wp2;go_ret;rw [HREP.out];exact HM.out
theorem removeN:∀ (T:AT) (k:Nat) (u:Option Addr) (bs:List Nat) (base:Nat) (w:World),T.bal->T.ok->k<T.its->Lies w base T u bs->bs.Nodup->
  Calls Tryz.prog 212 #[.pointer u,.int .i64 k] w (MutPost base (T.rem k) bs w):=
 fun T k u bs base w a b c d e=>JU T k u bs base w a b.w c d e
theorem AT.spl_gt (l:AT) (p:Pc) (r:AT) (e:Pc) (B:AT) (h:(AT.node l p r).ht > B.ht+1):AT.spl (.node l p r) e B=AT.rep l p (AT.spl r e B):=by
 rw [AT.spl.eq_def];simp only [if_pos h]
theorem AT.spl_lt (A:AT) (e:Pc) (l:AT) (p:Pc) (r:AT) (h1:¬A.ht > (AT.node l p r).ht+1) (h:(AT.node l p r).ht > A.ht+1):AT.spl A e (.node l p r)=AT.rep (AT.spl A e l) p r:=by
 rw [AT.spl.eq_def];simp only [if_neg h1,if_pos h]
theorem AT.spl_eq (A:AT) (e:Pc) (B:AT) (h1:¬A.ht > B.ht+1) (h:¬B.ht > A.ht+1):AT.spl A e B= .node A e B:=by
 rw [AT.spl.eq_def];simp only [if_neg h1,if_neg h]
def CutR (base b m:Nat) (l:AT) (p:Pc) (S:AT) (ul:Option Addr) (bl cs ds:List Nat) (h i n k:Int) (w wc:World):Prop:=
 ∃u2 bs2,Nd wc b p ul u2 h i n k∧Lies wc base S u2 bs2∧Lies wc base l ul bl∧(b::(bl++bs2)).Nodup∧(∀x∈bs2,x∈cs∨m<=x)∧Chg ds w wc
def CutL (base b m:Nat) (r:AT) (p:Pc) (S:AT) (ur:Option Addr) (br cs ds:List Nat) (h i n k:Int) (w wc:World):Prop:=
 ∃u2 bs2,Nd wc b p u2 ur h i n k∧Lies wc base S u2 bs2∧Lies wc base r ur br∧(b::(bs2++br)).Nodup∧(∀x∈bs2,x∈cs∨m<=x)∧Chg ds w wc
theorem Lies.heap {w w':World} {base:Nat} {T:AT} {u:Option Addr} {bs:List Nat} (h:Lies w base T u bs) (e:w'.heap=w.heap):Lies w' base T u bs:=h.frame (fun _ _=>by rw [e])
theorem MutPost.drawn {base:Nat} {T:AT} {bs:List Nat} {W w:World} {e:Ending} {w':World} (h:MutPost base T bs W e w') (e1:W.os=w.os) (e2:W.tape=w.tape) (e3:W.output=w.output) (e4:W.heap=w.heap):MutPost base T bs w e w':=by
 obtain⟨u',bs',h1,h2,h3,h4,h5⟩:=h
 exact⟨u',bs',h1,h2,h3,by rw [<- e4];exact h4,h5.os.trans e1,h5.tape.trans e2,h5.output.trans e3,by rw [<- e4];exact h5.size,by rw [<- e4];exact h5.block⟩
end Go.Proofs.YtibbhecojkehfaaGreatDoor
