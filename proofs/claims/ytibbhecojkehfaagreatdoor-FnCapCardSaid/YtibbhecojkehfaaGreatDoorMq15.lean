import Derived.Test.YtibbhecojkehfaaGreatDoorMq14
set_option linter.all false
set_option maxRecDepth 100000
set_option maxHeartbeats 16000000
namespace Go.Proofs.YtibbhecojkehfaaGreatDoor
open Go Go.RowKit
theorem joinN (A B:AT) (ua ub:Option Addr) (ba bb:List Nat) (base:Nat) (w:World) (hbA:A.bal) (hbB:B.bal) (hokA:A.ok) (hokB:B.ok) (hsum:A.rns+B.rns<=8192) (hA:Lies w base A ua ba) (hB:Lies w base B ub bb) (hnd:(ba++bb).Nodup) (hbase:base<=w.heap.size):
  Calls Tryz.prog 203 #[.pointer ua,.pointer ub] w (MutPost base (AT.join A B) (ba++bb) w):=by
 generalize hres:AT.join A B=res
 cases A with
 | nil=>
  obtain⟨rfl,rfl⟩:=hA
  have HREP:=hide (show res=B from hres.symm)
  have HB:=hide hB;have HND:=hide hnd;clear hB hnd hres;go_enter Tryz.func203,Tryz.ntmps203;go_wp2_with fail;go_ret;rw [HREP.out]
  exact⟨ub,bb,rfl,HB.out,by simpa using HND.out,fun x hx=>.inl (by simpa using hx),Chg.refl _ _⟩
 | node la pa ra=>
  have HA:=hide hA;obtain⟨a,u1,u2,b1,b2,rfl,_⟩:=hA
  cases B with
  | nil=>
   obtain⟨rfl,rfl⟩:=hB
   have HREP:=hide (show res=AT.node la pa ra from hres.symm)
   have HND:=hide hnd;clear hnd hres;go_enter Tryz.func203,Tryz.ntmps203;go_wp2_with fail;go_ret;rw [HREP.out]
   exact⟨_,ba,rfl,HA.out,by simpa using HND.out,fun x hx=>.inl (by simpa using hx),Chg.refl _ _⟩
  | node lb pb rb=>
   have HB:=hide hB;obtain⟨b,v1,v2,c1,c2,rfl,_⟩:=hB
   have hr0:0<(AT.node lb pb rb).its:=by simp only [AT.its];omega
   have HREP:=hide (show res=AT.spl (AT.node la pa ra) (AT.node lb pb rb).first ((AT.node lb pb rb).rem 0)from hres.symm)
   obtain⟨ft,hft⟩:=AT.first_flat (AT.node lb pb rb) (by simp)
   have rbal:=AT.rem_bal (AT.node lb pb rb) 0 hbB hr0
   have hrf:((AT.node lb pb rb).rem 0).flat=ft:=by rw [AT.rem_flat _ 0 hr0,hft];simp
   have HOK:=hide (show(AT.node (AT.node la pa ra) (AT.node lb pb rb).first ((AT.node lb pb rb).rem 0)).ok from by
    refine⟨fun p hp=>?_,?_⟩
    ·rw [zk,hrf,<- hft,List.mem_append]at hp
     rcases hp with hp | hp
     ·exact hokA.1 p hp
     exact hokB.1 p hp
    have e:(AT.node (AT.node la pa ra) (AT.node lb pb rb).first ((AT.node lb pb rb).rem 0)).flat=(AT.node la pa ra).flat++(AT.node lb pb rb).flat:=by rw [zk,hrf,<- hft]
    rw [AT.rns_of_flat,e,List.map_append,List.sum_append,<- AT.rns_of_flat,<- AT.rns_of_flat];exact hsum)
   have HKF:=hide (firstN (AT.node lb pb rb) _ bb base w HB.out (by simp))
   have nda:ba.Nodup:=(List.nodup_append.1 hnd).1;have ndb:bb.Nodup:=(List.nodup_append.1 hnd).2.1
   have dab:∀x∈ba,x∉bb:=fun x hx hm=>(List.nodup_append.1 hnd).2.2 x hx x hm rfl
   have HD:=hide (And.intro nda (And.intro ndb dab));have HBAL:=hide (And.intro hbA (And.intro hbB rbal.1));have HOKB:=hide hokB
   generalize (AT.node lb pb rb).first=F at *
   clear hnd hres nda ndb dab hbA hbB rbal hokA hokB hft hrf;go_enter Tryz.func203,Tryz.ntmps203;go_wp2_with fail;refine HKF.out.mono ?_;rintro e w1 ⟨rfl,hb1⟩;have s1:=hb1.size;have HBA:=hide (hb1.alloc s1 (.cells #[.int .i64 F.off,.int .i64 F.len,.int .i64 F.brk] 89));have hk:(w1.alloc (.cells #[.int .i64 F.off,.int .i64 F.len,.int .i64 F.brk] 89)).heap[w1.heap.size]? =some (.cells #[.int .i64 F.off,.int .i64 F.len,.int .i64 F.brk] 89 (0,0)):=heap_alloc_new _ _
   have hs2:(w1.alloc (.cells #[.int .i64 F.off,.int .i64 F.len,.int .i64 F.brk] 89)).heap.size=w1.heap.size+1:=by simp
   clear hb1 HKF;unfold pcV
   go_upto_region 6 with fail
   generalize w1.alloc (.cells #[.int .i64 F.off,.int .i64 F.len,.int .i64 F.brk] 89)=w2 at *;have HA2:=hide (HA.out.below HBA.out lR);have HB2:=hide (HB.out.below HBA.out lR)
   have k0:w2.cell? ⟨w1.heap.size,0,none⟩=some (.int .i64 F.off):=by rw [cell_of_row w2 _ 0 _ _ _ hk];rfl
   have k1:w2.cell? ⟨w1.heap.size,1,none⟩=some (.int .i64 F.len):=by rw [cell_of_row w2 _ 1 _ _ _ hk];rfl
   have k2:w2.cell? ⟨w1.heap.size,2,none⟩=some (.int .i64 F.brk):=by rw [cell_of_row w2 _ 2 _ _ _ hk];rfl
   have lk:w1.heap.size<w2.heap.size:=by omega
   have HLA:=hide (fun x hx=>(HA.out.lt x hx).2)
   have HLB:=hide (fun x hx=>(HB.out.lt x hx).2)
   have HK2:=hide hk
   have R1:=hide (fun(W:World) (eW:W.heap=w2.heap)=>removeN (AT.node lb pb rb) 0 _ bb base W HBAL.out.2.1 HOKB.out hr0 (HB2.out.heap eW) HD.out.2.1)
   simp only [Int.natCast_zero]at R1;have CH2:=hide (Chg.of_below (bs:=ba++bb) HBA.out);clear hk HA HB HBA
   go_region_with (first
    | (go_at_call 212;refine(R1.out _ (by exact rfl)).mono ?_;intro e3 w3 hp3;obtain⟨u3,bs3,rfl,hT3,nd3,sub3,ch3⟩:=hp3.drawn (w:=w2) rfl rfl rfl rfl;have s3:=ch3.size;have HA3:=hide (HA2.out.chg ch3 HD.out.2.2);have HT3:=hide hT3;have ND3:=hide (show(ba++bs3).Nodup from(List.nodup_append.2 ⟨HD.out.1,nd3,fun x hx y hy e=>(by subst e;rcases sub3 x hy with h | h;exact HD.out.2.2 x hx h;have:=HLA.out x hx;omega)⟩));have SB3:=hide sub3;have CH3:=hide (CH2.out.trans ch3 (fun _ h _=>h) (fun x h _=>(by simp [h])) (ds:=ba++bb));have nk:w1.heap.size∉bb:=(fun hm=>(by have:=HLB.out _ hm;omega));have hk3:=(ch3.block w1.heap.size lk nk).trans HK2.out;have m0:w3.cell? ⟨w1.heap.size,0,none⟩=some (.int .i64 F.off):=(by rw [cell_of_row w3 _ 0 _ _ _ hk3];rfl);have m1:w3.cell? ⟨w1.heap.size,1,none⟩=some (.int .i64 F.len):=(by rw [cell_of_row w3 _ 1 _ _ _ hk3];rfl);have m2:w3.cell? ⟨w1.heap.size,2,none⟩=some (.int .i64 F.brk):=(by rw [cell_of_row w3 _ 2 _ _ _ hk3];rfl);have lk3:w1.heap.size<w3.heap.size:=(by omega);clear hp3 hT3 nd3 sub3 ch3 nk hk3)
    | (go_at_call 210;refine(JD _ (AT.node la pa ra) F ((AT.node lb pb rb).rem 0) _ u3 ba bs3 base _ (by exact Nat.lt_succ_self _) (by exact HBAL.out.1) (by exact HBAL.out.2.2) (by exact HOK.out) (by exact HA3.out.heap rfl) (by exact HT3.out.heap rfl) (by exact ND3.out) (by show base<=w3.heap.size;omega)).mono ?_;intro e4 w4 hp4;have HP4:=hide (hp4.drawn (w:=w3) rfl rfl rfl rfl);obtain⟨u4,bs4,rfl,_⟩:=hp4))
   all_goals (
    go_wp2;go_ret;obtain⟨u5,bs5,e5,hT5,nd5,sub5,ch5⟩:=HP4.out;rw [HREP.out]
    refine⟨u5,bs5,e5,hT5,nd5,fun x hx=>?_,CH3.out.trans ch5 (fun _ h _=>h) (fun x hx hl=>?_)⟩
    ·rcases sub5 x hx with h | h
     ·rcases List.mem_append.1 h with h | h
      ·exact .inl (List.mem_append_left _ h)
      rcases SB3.out x h with h | h
      ·exact .inl (List.mem_append_right _ h)
      exact .inr (by omega)
     exact .inr (by omega)
    rcases List.mem_append.1 hx with h | h
    ·exact List.mem_append_left _ h
    rcases SB3.out x h with h | h
    ·exact List.mem_append_right _ h
    omega)
end Go.Proofs.YtibbhecojkehfaaGreatDoor
namespace Go.Proofs.YtibbhecojkehfaaGreatDoor
open Go Go.RowKit Go.Shelf Go.Sort
theorem chgT {c:Nat} {bs ds:List Nat} {w w1 w2:World} (C:Chg (c::bs) w w1) (D:Chg ds w1 w2) (SD:∀x∈ds,x∈bs∨w.heap.size<=x):Chg (c::bs) w w2:=
 C.trans D (fun _ h9 _=>h9) (fun x h9 h8=>by
  rcases SD x h9 with h7 | h7
  ·exact List.mem_cons_of_mem _ h7
  omega)
theorem notIn {x m:Nat} {bs ds:List Nat} (SD:∀y∈ds,y∈bs∨m<=y) (hx:x∉bs) (hl:x<m):x∉ds:=fun h9=>by
 rcases SD x h9 with h8 | h8
 ·exact hx h8
 omega
theorem zA3 {A B C:List Nat} {m:Nat} (h:(A++B).Nodup) (hA:∀x∈A,x<m) (hC:C.Nodup) (hs:∀x∈C,x∈B∨m<=x):(A++C).Nodup:=by
 rw [List.nodup_append]at h |-
 refine⟨h.1,hC,fun x hx y hy e=>?_⟩
 subst e
 rcases hs x hy with h9 | h9
 ·exact h.2.2 x hx x h9 rfl
 have:=hA x hx;omega
theorem removeC (S:List Int) (T:AT) (u:Option Addr) (bs:List Nat) (base c b o cap m ct:Nat) (ao:Option Addr) (off:Int) (w:World) (h:PM w base c b o cap S T u bs) (hok:T.ok) (hbal:T.bal) (hw:T.wp S) (h0:0<=off) (h1:off+m<=T.rns) (hbase:base<=w.heap.size):
  Calls Tryz.prog 190 #[.pointer (some ⟨c,0,none⟩),.int .i64 off,.slice ao m ct] w fun e w'=>e= .returned (.tuple #[])∧CorePM w base c b o cap S (delP S T off (off+m)) bs w':=by
 have bT:=hok.bd
 have HF:=hide (delF hok hbal hw h.n h0 (show off<=off+m by omega) h1)
 have HC1:=hide (cutI S T u bs base c b o cap off w h hok hbal hw h0 (by omega) hbase)
 have HC2:=hide (fun W u1 bs1 (hp:PM W base c b o cap S (cutP S T off) u1 bs1) hb=>cutI S (cutP S T off) u1 bs1 base c b o cap (off+m) W hp HF.out.ok1 HF.out.bal1 HF.out.wp1 (by omega) (by rw [HF.out.rn1];exact h1) hb)
 have HS1:=hide (fun W u2 bs2 (hl:Lies W base (dl2 S T off (off+m)) u2 bs2) hnd hb=>splitN (dl2 S T off (off+m)) (cutN T off) u2 bs2 base W HF.out.bal2 HF.out.ok2 HF.out.a2 hl hnd hb)
 have az:=HF.out.az
 have hzc:(((dlZ S T off (off+m) - cutN T off:Nat)):Int)=(dlZ S T off (off+m):Int) - (cutN T off:Int):=by omega
 have HS2:=hide (fun W u2 bs2 (hl:Lies W base (dlY S T off (off+m)) u2 bs2) hnd hb=>splitN (dlY S T off (off+m)) (dlZ S T off (off+m) - cutN T off) u2 bs2 base W HF.out.balY HF.out.okY (by rw [HF.out.yits];have:=HF.out.z2;omega) hl hnd hb)
 rw [hzc]at HS2
 have HJ:=hide (fun W ux uw bx bw (hx:Lies W base (dlX S T off (off+m)) ux bx) (hl:Lies W base (dlW S T off (off+m)) uw bw) hnd hb=>joinN (dlX S T off (off+m)) (dlW S T off (off+m)) ux uw bx bw base W HF.out.balX HF.out.balW HF.out.okX HF.out.okW HF.out.sum hx hl hnd hb)
 have HH:=hide (fun W u5 bs5 (hp:PM W base c b o cap S (dlJ S T off (off+m)) u5 bs5)=>healN S (dlJ S T off (off+m)) u5 bs5 base c b o cap (cutN T off) W hp HF.out.okJ HF.out.balJ HF.out.wpJ (by have h9:=HF.out.a2;have h8:=HF.out.ok2.bd;omega))
 have ha2:cutN T off<=8192:=by have h9:=HF.out.a2;have h8:=HF.out.ok2.bd;omega
 have hz2:dlZ S T off (off+m)<=8192:=by have h9:=HF.out.z2;have h8:=HF.out.ok2.bd;omega
 have wm:IntKind.i64.wrap (off+(m:Int))=off+(m:Int):=i64w _ (by omega) (by omega)
 have wz:IntKind.i64.wrap ((dlZ S T off (off+m):Int) - (cutN T off:Int))=(dlZ S T off (off+m):Int) - (cutN T off:Int):=i64w _ (by omega) (by omega)
 have hcb:=h.cb;have hbb:=h.bb;have hbc:=h.bc;have hcl:=h.k.lt;have hbl:=h.lb;have HN:=hide (And.intro h.cap1 (And.intro h.cap2 h.n))
 have HRES:=hide (show healP S (dlJ S T off (off+m)) (cutN T off)=delP S T off (off+m)from rfl)
 rw [HRES.out]at HH;unfold Y9 at HS1 HS2
 rw [show((dl2 S T off (off+m)).split (cutN T off)).1=dlX S T off (off+m)from rfl,show((dl2 S T off (off+m)).split (cutN T off)).2=dlY S T off (off+m)from rfl]at HS1
 rw [show((dlY S T off (off+m)).split (dlZ S T off (off+m) - cutN T off)).2=dlW S T off (off+m)from rfl]at HS2
 rw [show AT.join (dlX S T off (off+m)) (dlW S T off (off+m))=dlJ S T off (off+m)from rfl]at HJ
 have HZD:=hide (show dlZ S T off (off+m)=cutN (cutP S T off) (off+m)from rfl)
 rw [<- HZD.out,show cutP S (cutP S T off) (off+m)=dl2 S T off (off+m)from rfl]at HC2
 generalize ((dlY S T off (off+m)).split (dlZ S T off (off+m) - cutN T off)).1=TU at *;clear HZD HRES;generalize delP S T off (off+m)=RES at *;generalize dlJ S T off (off+m)=TJ at *;generalize dlW S T off (off+m)=TW' at *;generalize dlX S T off (off+m)=TX at *;generalize dlY S T off (off+m)=TY at *;generalize dlZ S T off (off+m)=z at *;generalize dl2 S T off (off+m)=T2' at *;generalize cutN T off=a at *;generalize cutP S T off=T1 at *;clear h hok hbal hw HF hzc bT;go_enter Tryz.func190,Tryz.ntmps190;go_wp2_with fail;refine HC1.out.mono ?_;rintro e w1 ⟨rfl,u1,bs1,hp1,sb1,hc1⟩;have C1:=hide hc1;have SB1:=hide sb1;have s1:=hc1.size
 have X2:=hide (HC2.out w1 u1 bs1 hp1 (by omega))
 clear hp1 sb1 hc1 HC1 HC2;go_wp2_with fail;refine X2.out.mono ?_;rintro e w2 ⟨rfl,u2,bs2,hp2,sb2,hc2⟩;have s2:=hc2.size
 have SB2:=hide (show ∀x∈bs2,x∈bs∨w.heap.size<=x from fun x hx=>(sb2 x hx).elim (SB1.out x) (fun h9=>.inr (by omega)))
 have C2:=hide (show Chg (c::bs) w w2 from C1.out.trans hc2 (fun _ h9 _=>h9) (fun x h9 h8=>by
  rcases List.mem_cons.1 h9 with h7 | h7
  ·rw [h7];exact List.mem_cons_self
  rcases SB1.out x h7 with h6 | h6
  ·exact List.mem_cons_of_mem _ h6
  omega))
 have c1:=hp2.k.c1;have K2:=hide hp2.k;have R2:=hide hp2.rt
 have X3:=hide (HS1.out w2 u2 bs2 hp2.t hp2.nd (by omega))
 clear hp2 sb2 hc2 X2 HS1 C1 SB1;go_wp2_with fail;refine X3.out.mono ?_
 rintro e w3 ⟨ux,uy,bx,by',rfl,hx3,hy3,hnd3,sb3,hc3⟩
 have s3:=hc3.size
 have SB3:=hide (show ∀x∈bx++by',x∈bs∨w.heap.size<=x from fun x hx=>(sb3 x hx).elim (SB2.out x) (fun h9=>.inr (by omega)))
 have C3:=hide (chgT C2.out hc3 SB2.out);have K3:=hide (K2.out.chg hc3 (notIn SB2.out hcb hcl))
 have R3:=hide (R2.out.chg hc3 (by omega) (notIn SB2.out hbb hbl))
 have LX3:=hide hx3;have ND3:=hide hnd3
 have X4:=hide (HS2.out w3 uy by' hy3 (List.nodup_append.1 hnd3).2.1 (by omega))
 clear hx3 hy3 hnd3 sb3 hc3 c1 X3 HS2 C2 K2 R2;go_wp2_with fail;refine X4.out.mono ?_;rintro e w4 ⟨uu,uw,bu,bw,rfl,hu4,hw4,hnd4,sb4,hc4⟩;have s4:=hc4.size
 have SBY:=hide (show ∀x∈by',x∈bs∨w.heap.size<=x from fun x hx=>SB3.out x (List.mem_append_right _ hx))
 have SBW:=hide (show ∀x∈bw,x∈by'∨w3.heap.size<=x from fun x hx=>sb4 x (List.mem_append_right _ hx))
 have NDJ:=hide (zA3 ND3.out (fun x hx=>(LX3.out.lt x hx).2) (List.nodup_append.1 hnd4).2.1 SBW.out)
 have SBJ:=hide (show ∀x∈bx++bw,x∈bs∨w.heap.size<=x from fun x hx=>by
  rcases List.mem_append.1 hx with h9 | h9
  ·exact SB3.out x (List.mem_append_left _ h9)
  rcases SBW.out x h9 with h8 | h8
  ·exact SBY.out x h8
  exact .inr (by omega))
 have C4:=hide (chgT C3.out hc4 SBY.out);have K4:=hide (K3.out.chg hc4 (notIn SBY.out hcb hcl))
 have R4:=hide (R3.out.chg hc4 (by omega) (notIn SBY.out hbb hbl))
 have LX4:=hide (LX3.out.chg hc4 (fun x hx h9=>(List.nodup_append.1 ND3.out).2.2 x hx x h9 rfl))
 have X5:=hide (HJ.out w4 ux uw bx bw LX4.out hw4 NDJ.out (by omega))
 clear hu4 hw4 hnd4 sb4 hc4 X4 HJ C3 K3 R3 LX3 LX4 ND3 SB3 SBW;go_wp2_with fail;refine X5.out.mono ?_;rintro e w5 ⟨u5,bs5,rfl,hl5,nd5,sb5,hc5⟩;have s5:=hc5.size
 have SB5:=hide (show ∀x∈bs5,x∈bs∨w.heap.size<=x from fun x hx=>(sb5 x hx).elim (SBJ.out x) (fun h9=>.inr (by omega)))
 have C5:=hide (chgT C4.out hc5 SBJ.out);have K5:=hide (K4.out.chg hc5 (notIn SBJ.out hcb hcl))
 have R5:=hide (R4.out.chg hc5 (by omega) (notIn SBJ.out hbb hbl))
 have ncb:=notIn SB5.out hcb hcl;have d1:=K5.out.c1;have z1:=K5.out.fz 1
 have P6:=hide (show PM (w5.setCell ⟨c,1,none⟩ (.pointer u5)) base c b o cap S TJ u5 bs5 from
  ⟨K5.out.set1 u5,hl5.other ⟨c,1,none⟩ (.pointer u5) ncb,nd5,ncb,notIn SB5.out hbb hbl,hbc,fun i hi=>by rw [<- R5.out i hi];unfold World.cell?;rw [heap_setCell_other w5 ⟨c,1,none⟩ b _ hbc],Nat.lt_of_lt_of_le (show b<w5.heap.size by omega) (Nat.le_of_eq (by simp)),HN.out.1,HN.out.2.1,HN.out.2.2⟩)
 have C6:=hide (C5.out.setCell ⟨c,1,none⟩ (.pointer u5) (.inl (by simp)))
 have X6:=hide (HH.out _ _ _ P6.out);clear hl5 nd5 sb5 hc5 X5 HH C4 K4 R4 C5 K5 R5 NDJ SBJ SBY;go_wp2_with fail;generalize w5.setCell ⟨c,1,none⟩ (.pointer u5)=w6 at *;refine X6.out.mono ?_;rintro e w7 ⟨rfl,u7,bs7,hp7,sb7,hc7⟩;have s6:=C6.out.size;have P7:=hide hp7
 have SB7:=hide (show ∀x∈bs7,x∈bs∨w.heap.size<=x from fun x hx=>(sb7 x hx).elim (SB5.out x) (fun h9=>.inr (by omega)))
 have C7:=hide (show Chg (c::bs) w w7 from C6.out.trans hc7 (fun _ h9 _=>h9) (fun x h9 h8=>by
  rcases List.mem_cons.1 h9 with h7 | h7
  ·rw [h7];exact List.mem_cons_self
  rcases SB5.out x h7 with h6 | h6
  ·exact List.mem_cons_of_mem _ h6
  omega))
 clear hp7 sb7 hc7 X6;go_wp2
 refine bodyPost_end (v:=.tuple #[]) (by simp [results,Tryz.results190]) rfl ⟨rfl,u7,bs7,P7.out,SB7.out,C7.out⟩
end Go.Proofs.YtibbhecojkehfaaGreatDoor
namespace Go.Proofs.YtibbhecojkehfaaGreatDoor
open Go Go.RowKit
variable {F:Fence} {n:Nat} {P:Program}
theorem zA4 {α:Type} {g:Operand} {ps:Array Tmp} {assign body:Code} {Q:Exit->Act->World->Prop} {a:Act} {w:World}
  (hro:F.round=none) (h1:1<=n) {gf:Nat} {lb:Array Value} (hg:a.eval g= .func (.func gf) #[] lb) (hFg:F.fn gf) (eg:∀args w,(callFunc gf args).run P w= .ok (.enter gf args) w)
  {encs:α->Array Value} {Kp:World->World->Prop} {S:List α->Prop} {OK:List α->α->Prop}
  (hseq:∀ (l:Nat) (J:List α->World->Prop) (W:World),Below w.heap.size w W->
   (∀pre x W1,J pre W1->OK pre x->YieldAt F (n - 1 - 1) P l (encs x) W1 fun e W'=>e= .returned (.bool true)∧J (pre++ [x]) W'∧Kp W1 W')->J [] W->
   CallsIn F (n - 1) P gf (#[.func (.yield l) #[] #[]]++lb) W fun e W'=>(∃v,e= .returned v)∧∃xs,S xs∧J xs W')
  (hKt:∀ {A B C:World},Kp A B->Kp B C->Kp A C) (hKb:∀ (W:World) (o:Obj),Kp W (W.putObj (w.heap.size+1) o)) (hps:∀x,(encs x).size=ps.size)
  (I:List α->World->Prop) (Ax:List α->α->Act->World->Prop)
  (hI:∀s W o,w.heap.size+1<W.heap.size->I s W->I s (W.putObj (w.heap.size+1) o)) (hAx:∀s x a W o,w.heap.size+1<W.heap.size->Ax s x a W->Ax s x a (W.putObj (w.heap.size+1) o))
  (h0:∀o o',I [] ((w.alloc o).alloc o'))
  (hassign:∀ (l:Nat) (pre:List α) (x:α) (W:World) (K:Act->World->Prop),w.heap.size+1<W.heap.size->I pre W->OK pre x->(∀a' W2,W2.heap[w.heap.size]? =W.heap[w.heap.size]?->W2.heap[w.heap.size+1]? =W.heap[w.heap.size+1]?->Kp W W2->Ax pre x a' W2->K a' W2)->
   assign.wpIn (F.inRound l) (n - 1 - 1) P (Exit.then K (fun _ _ _=>False)) {tmps:=(ps.zip (encs x)).foldl (fun t (p,v)=>t.setIfInBounds p v) a.tmps,defers:=[]} W)
  (hbody:∀ (l:Nat) (pre:List α) (x:α) (a':Act) (W:World),w.heap.size+1<W.heap.size->OK pre x->Ax pre x a' W->body.wpIn (F.inRound l) (n - 1 - 1) P (fun e _ U=>e= .normal∧U.heap[w.heap.size]? =W.heap[w.heap.size]?∧U.heap[w.heap.size+1]? =W.heap[w.heap.size+1]?∧Kp W U∧I (pre++ [x]) U) a' W)
  (hdone:∀ (xs:List α) (W:World),S xs->I xs W->W.heap[w.heap.size]? =some (.deferred (some []))->Q .normal {a with defers:={target:=.collected w.heap.size,args:=#[]}::a.defers} W):
  (Code.rangeFunc g ps assign body).wpIn F n P Q a w:=by
 refine wpIn_rangeFunc fun fn hfn=>?_
 rw [hro];generalize hD:w.heap.size=D at *
 obtain⟨R,hR⟩:∃R:LoopState->Option Code->Loop,R=fun st pe=>{state:=st,pending:=pe,fn,tmps:=a.tmps,params:=ps,assign,body,defers:=D}:=⟨_,rfl⟩
 obtain⟨V,hV⟩:∃V,(w.alloc (.deferred (some []))).alloc (.loop (R .ready none))=V:=⟨_,rfl⟩
 have bV:Below D w V:=by
  rw [<- hV];exact((Below.refl _ w).alloc (by omega) _).alloc (by simp;omega) _
 have lV:V.heap[D+1]? =some (.loop (R .ready none)):=by
  have:=World.alloc_heap_new (w.alloc (.deferred (some []))) (.loop (R .ready none))
  rwa [World.size_alloc,hD,hV]at this
 have dV:V.heap[D]? =some (.deferred (some [])):=by
  have h2:=World.alloc_heap_new w (.deferred (some []));rw [hD]at h2;rw [<- hV]
  exact(Below.heap_alloc _ _ _ (by simp;omega)).trans h2
 have iV:I [] V:=by rw [<- hV];exact h0 _ _
 refine⟨D+1,[{target:=.collected D,args:=#[]}],V,{target:=.fn (.func gf) lb,args:=#[.func (.yield (D+1)) #[] #[]]},V,gf,#[.func (.yield (D+1)) #[] #[]]++lb,V,?_,?_,?_,?_,fun _=>h1,?_⟩
 ·rw [<- hV,hR,<- hD];exact run_enterLoop_outer _ _ _ _ _
 ·simp only [resolve,hg]
  simp [go_sem]
 ·intro f' hf';simp [Target.leads]at hf';subst hf';exact hFg
 ·simp [invoke,go_sem,eg]
 refine(hseq (D+1) (fun pre W=>I pre W∧W.heap[D+1]? =some (.loop (R .ready none))∧W.heap[D]? =some (.deferred (some []))) V bV ?_ ⟨iV,lV,dV⟩).mono ?_
 ·rintro pre x W ⟨hi,hl,hk⟩ hN
  have hlt:D+1<W.heap.size:=(Array.getElem?_eq_some_iff.1 hl).1
  have hy:=run_yield (P:=P) (args:=encs x) hl (by rw [hR];exact hps x)
  rw [hR]at hy
  refine⟨fn,_,assign,body,hy,roundIn_of_wpIn hfn (hassign _ pre x W _ hlt hi hN (fun a' W2 g1 g2 g3 g4=>?_))⟩
  have hl':=g2.trans hl;have hk':=g1.trans hk;have hlt2:D+1<W2.heap.size:=(Array.getElem?_eq_some_iff.1 hl').1
  refine⟨_,run_beginRound hl' (by rw [hR]),?_⟩
  have hl2:(W2.putObj (D+1) (.loop {R .ready none with state:=.busy})).heap[D+1]? =some (.loop {R .ready none with state:=.busy}):=World.putObj_heap_same hlt2
  have hk2:(W2.putObj (D+1) (.loop {R .ready none with state:=.busy})).heap[D]? =some (.deferred (some [])):=(World.putObj_heap_other (by omega)).trans hk'
  refine wpIn_mono (hbody _ pre x _ _ ((Array.getElem?_eq_some_iff.1 hl2).1) hN (hAx _ _ _ _ _ hlt2 g4)) ?_;rintro e a3 U ⟨rfl,u1,u2,u3,u4⟩;have h3:=u2.trans hl2;have h4:=run_endRound (P:=P) none h3;rw [hR]at h4;have hlt3:D+1<U.heap.size:=(Array.getElem?_eq_some_iff.1 h3).1;refine⟨_,_,h4,rfl,⟨hI _ _ _ hlt3 u4,?_,?_⟩,hKt (hKt (hKt g3 (hKb _ _)) u3) (hKb _ _)⟩
  ·rw [hR];exact World.putObj_heap_same hlt3
  exact(World.putObj_heap_other (by omega)).trans (u1.trans hk2)
 rintro e U ⟨⟨v,rfl⟩,xs,hS,hi,hl,hk⟩
 refine⟨none,_,by have:=run_endLoop (P:=P) hl (by rw [hR];simp);rw [hR]at this;exact this,hdone xs _ hS (hI _ _ _ (Array.getElem?_eq_some_iff.1 hl).1 hi) ((World.putObj_heap_other (by omega)).trans hk)⟩
def encZ (r:Int):List Int:=
 if r<0∨1114111<r∨(55296<=r∧r<=57343)then [239,191,189]
 else if r<128 then [r]
 else if r<2048 then [192+r/64,128+r%64]
 else if r<65536 then [224+r/4096,128+r/64%64,128+r%64]
 else [240+r/262144,128+r/4096%64,128+r/64%64,128+r%64]
def encs (zs:List Int):List Int:=zs.flatMap encZ
def numZ:List Int->Int
 | [a]=>a
 | [a,b]=>(a - 192)*64+b - 128
 | [a,b,c]=>(a - 224)*4096+(b - 128)*64+c - 128
 | [a,b,c,d]=>(a - 240)*262144+(b - 128)*4096+(c - 128)*64+d - 128
 | _=> -1
def bytes (q:List Int):Prop:=∀z∈q,0<=z∧z<=255
def ok3 (a b:Int):Prop:=(a=224∧160<=b∧b<=191)∨(a=237∧128<=b∧b<=159)∨((225<=a∧a<=236∨a=238∨a=239)∧128<=b∧b<=191)
def ok4 (a b:Int):Prop:=(a=240∧144<=b∧b<=191)∨(a=244∧128<=b∧b<=143)∨(241<=a∧a<=243∧128<=b∧b<=191)
instance (a b:Int):Decidable (ok3 a b):=by unfold ok3;infer_instance
instance (a b:Int):Decidable (ok4 a b):=by unfold ok4;infer_instance
def step:List Int->Int×Nat
 | []=>(65533,1)
 | [a]=>if a<128 then(a,1)else(65533,1)
 | [a,b]=>if a<128 then(a,1)else if(194<=a∧a<=223)∧128<=b∧b<=191 then(numZ [a,b],2)else if ok3 a b∨ok4 a b then(65533,2)else(65533,1)
 | [a,b,c]=>if a<128 then(a,1)else if(194<=a∧a<=223)∧128<=b∧b<=191 then(numZ [a,b],2)
   else if ok3 a b then(if 128<=c∧c<=191 then(numZ [a,b,c],3)else(65533,2))
   else if ok4 a b then(if 128<=c∧c<=191 then(65533,3)else(65533,2))else(65533,1)
 | a::b::c::d::_=>if a<128 then(a,1)else if(194<=a∧a<=223)∧128<=b∧b<=191 then(numZ [a,b],2)
   else if ok3 a b then(if 128<=c∧c<=191 then(numZ [a,b,c],3)else(65533,2))
   else if ok4 a b then(if 128<=c∧c<=191 then(if 128<=d∧d<=191 then(numZ [a,b,c,d],4)else(65533,3))else(65533,2))else(65533,1)
theorem shape {bs:List Int} (h:bs≠ []):(∃a,bs= [a])∨(∃a b,bs= [a,b])∨(∃a b c,bs= [a,b,c])∨∃a b c d r,bs=a::b::c::d::r:=by
 match bs,h with
 | [a],_=>exact .inl ⟨a,rfl⟩
 | [a,b],_=>exact .inr (.inl ⟨a,b,rfl⟩)
 | [a,b,c],_=>exact .inr (.inr (.inl ⟨a,b,c,rfl⟩))
 | a::b::c::d::r,_=>exact .inr (.inr (.inr ⟨a,b,c,d,r,rfl⟩))
theorem ZY (bs:List Int) (h:bs≠ []):1<=(step bs).2∧(step bs).2<=bs.length:=by
 rcases shape h with ⟨a,rfl⟩ | ⟨a,b,rfl⟩ | ⟨a,b,c,rfl⟩ | ⟨a,b,c,d,r,rfl⟩
 all_goals
  simp only [step]
  repeat' split
  all_goals simp
def decs (bs:List Int):List Int:=
 if h:bs= []then []else(step bs).1::decs (bs.drop (step bs).2)
termination_by bs.length
decreasing_by
 have:=ZY bs h;rw [List.length_drop];have:0<bs.length:=List.length_pos_iff.2 h;omega
theorem ZG:decs []= []:=by rw [decs];simp
theorem ZZ {bs:List Int} (h:bs≠ []):decs bs=(step bs).1::decs (bs.drop (step bs).2):=by rw [decs,dif_neg h]
theorem Zd (bs:List Int):(decs bs).length<=bs.length:=by
 by_cases h:bs= []
 ·subst h;simp [ZG]
 have hs:=ZY bs h;have hp:0<bs.length:=List.length_pos_iff.2 h;have ih:=Zd (bs.drop (step bs).2);rw [ZZ h];simp only [List.length_cons,List.length_drop]at ih |-;omega
termination_by bs.length
decreasing_by
 rw [List.length_drop];omega
def tA:List Int:=[0,194,224,225,237,238,240,241,244]
def tB:List Int:=[127,223,224,236,237,239,240,243,244]
def tC:List Int:=[0,128,160,128,128,128,144,128,128]
def tD:List Int:=[0,191,191,191,159,191,191,191,143]
def tE:List Int:=[1,2,3,3,3,3,4,4,4]
def tF:List Int:=[127,31,15,15,15,15,7,7,7]
def fA (k:Nat):Int:=tA.getD k 0
def fB (k:Nat):Int:=tB.getD k 0
def fC (k:Nat):Int:=tC.getD k 0
def fD (k:Nat):Int:=tD.getD k 0
def fE (k:Nat):Int:=tE.getD k 0
def fF (k:Nat):Int:=tF.getD k 0
def rowV (k:Nat):Array Value:=#[.int .u8 (fA k),.int .u8 (fB k),.int .u8 (fC k),.int .u8 (fD k),.int .i64 (fE k),.int .u8 (fF k)]
def tab:Array Value:=rowV 0++rowV 1++rowV 2++rowV 3++rowV 4++rowV 5++rowV 6++rowV 7++rowV 8
def zeroV:Array Value:=#[.int .u8 0,.int .u8 0,.int .u8 0,.int .u8 0,.int .i64 0,.int .u8 0]
theorem idx0 (w:World):(Instr.index 268 (.agg tab) (.int .i64 0)).run Tryz.prog w= .ok (.agg (rowV 0)) w:=by kernel_rfl
theorem idx1 (w:World):(Instr.index 268 (.agg tab) (.int .i64 1)).run Tryz.prog w= .ok (.agg (rowV 1)) w:=by kernel_rfl
theorem idx2 (w:World):(Instr.index 268 (.agg tab) (.int .i64 2)).run Tryz.prog w= .ok (.agg (rowV 2)) w:=by kernel_rfl
theorem idx3 (w:World):(Instr.index 268 (.agg tab) (.int .i64 3)).run Tryz.prog w= .ok (.agg (rowV 3)) w:=by kernel_rfl
theorem idx4 (w:World):(Instr.index 268 (.agg tab) (.int .i64 4)).run Tryz.prog w= .ok (.agg (rowV 4)) w:=by kernel_rfl
theorem idx5 (w:World):(Instr.index 268 (.agg tab) (.int .i64 5)).run Tryz.prog w= .ok (.agg (rowV 5)) w:=by kernel_rfl
theorem idx6 (w:World):(Instr.index 268 (.agg tab) (.int .i64 6)).run Tryz.prog w= .ok (.agg (rowV 6)) w:=by kernel_rfl
theorem idx7 (w:World):(Instr.index 268 (.agg tab) (.int .i64 7)).run Tryz.prog w= .ok (.agg (rowV 7)) w:=by kernel_rfl
theorem idx8 (w:World):(Instr.index 268 (.agg tab) (.int .i64 8)).run Tryz.prog w= .ok (.agg (rowV 8)) w:=by kernel_rfl
theorem idx (k:Nat) (hk:k<9) (w:World):(Instr.index 268 (.agg tab) (.int .i64 (k:Int))).run Tryz.prog w= .ok (.agg (rowV k)) w:=by
 have hk':k=0∨k=1∨k=2∨k=3∨k=4∨k=5∨k=6∨k=7∨k=8:=by omega
 rcases hk' with rfl | rfl | rfl | rfl | rfl | rfl | rfl | rfl | rfl
 ·exact idx0 w
 ·exact idx1 w
 ·exact idx2 w
 ·exact idx3 w
 ·exact idx4 w
 ·exact idx5 w
 ·exact idx6 w
 ·exact idx7 w
 exact idx8 w
theorem Ze (a lo hi:Int) (w:World) (h0:lo<=a) (h1:a<=hi):Calls Tryz.prog 145 #[.int .u8 a,.int .u8 lo,.int .u8 hi] w fun e w'=>e= .returned (.bool true)∧w'=w:=by
 go_enter Tryz.func145,Tryz.ntmps145;go_wp2;go_ret;exact⟨rfl,rfl⟩
theorem jl (a lo hi:Int) (w:World) (h:¬ (lo<=a∧a<=hi)):Calls Tryz.prog 145 #[.int .u8 a,.int .u8 lo,.int .u8 hi] w fun e w'=>e= .returned (.bool false)∧w'=w:=by
 by_cases h0:lo<=a
 ·have h1:¬a<=hi:=fun g=>h ⟨h0,g⟩
  clear h;go_enter Tryz.func145,Tryz.ntmps145;go_wp2;go_ret;exact⟨rfl,rfl⟩
 clear h;go_enter Tryz.func145,Tryz.ntmps145;go_wp2;go_ret;exact⟨rfl,rfl⟩
def Tab (w:World):Prop:=∃t fr,w.heap[1]? =some (.cells tab t fr)
theorem XP (a:Int) (k:Nat) (hk:k<9) (w:World) (hT:Tab w) (ha:fA k<=a∧a<=fB k) (hno:∀j,j<k->¬ (fA j<=a∧a<=fB j)):
  Calls Tryz.prog 130 #[.int .u8 a] w fun e w'=>e= .returned (.tuple #[.agg (rowV k),.bool true])∧Below w.heap.size w w':=by
 obtain⟨tt,fr,hg⟩:=hT
 have hlt:1<w.heap.size:=by
  rcases Nat.lt_or_ge 1 w.heap.size with h | h
  ·exact h
  rw [Array.getElem?_eq_none h]at hg;cases hg
 have hg1:(w.alloc (.cells #[.int .u8 0,.int .u8 0,.int .u8 0,.int .u8 0,.int .i64 0,.int .u8 0] 255)).heap[1]? =some (.cells tab tt fr):=by
  rw [Below.heap_alloc _ _ _ hlt];exact hg
 have HG:=hide hg1;clear hg hg1;go_enter Tryz.func130,Tryz.ntmps130
 go_wp2_with (refine wpList_load_row rfl 268 _ rfl 1 rfl tt tab fr _ HG.out Tryz.underlying268 rfl (by kernel_rfl) ?_)
 generalize hw0:w.alloc (.cells #[.int .u8 0,.int .u8 0,.int .u8 0,.int .u8 0,.int .i64 0,.int .u8 0] 255)=w0
 have hsz0:w.heap.size<w0.heap.size:=by rw [<- hw0];simp
 have hbk:w0.heap[w.heap.size]? =some (.cells #[.int .u8 0,.int .u8 0,.int .u8 0,.int .u8 0,.int .i64 0,.int .u8 0] 255 (0,0)):=by rw [<- hw0];exact heap_alloc_new _ _
 have hb0:Below w.heap.size w w0:=by rw [<- hw0];exact(Below.refl _ _).alloc lR _
 have HBK:=hide hbk;have HB0:=hide hb0;have HNO:=hide hno;have HA:=hide ha;clear hw0 hbk hb0 hno ha HG
 go_loopw [7] (fun i wr=>∃j:Nat,j<=k∧i= .int .i64 j∧Below w0.heap.size w0 wr) (fun i _=>9 - (intOf i).toNat)
 case atStart=>exact⟨0,Nat.zero_le _,rfl,Below.refl _ _⟩
 obtain⟨j,hj,rfl,hbw⟩:=hrel
 have hj9:(j:Int)<9:=by omega
 have hix:=fun W=>idx j (by omega) W
 have hrow:rowV j= #[.int .u8 (fA j),.int .u8 (fB j),.int .u8 (fC j),.int .u8 (fD j),.int .i64 (fE j),.int .u8 (fF j)]:=rfl;simp only [hrow]at hix;have HBW:=hide hbw;have hsw:=hbw.size;clear hbw hrow
 by_cases hjk:j=k
 ·subst hjk
  have hbk':wr.heap[w.heap.size]? =some (.cells #[.int .u8 0,.int .u8 0,.int .u8 0,.int .u8 0,.int .i64 0,.int .u8 0] 255 (0,0)):=(HBW.out.block _ hsz0).trans HBK.out
  have c0:wr.cell? ⟨w.heap.size,0,none⟩=some (.int .u8 0):=by rw [cell_of_row wr w.heap.size 0 _ _ _ hbk'];rfl
  have c1:wr.cell? ⟨w.heap.size,1,none⟩=some (.int .u8 0):=by rw [cell_of_row wr w.heap.size 1 _ _ _ hbk'];rfl
  have c2:wr.cell? ⟨w.heap.size,2,none⟩=some (.int .u8 0):=by rw [cell_of_row wr w.heap.size 2 _ _ _ hbk'];rfl
  have c3:wr.cell? ⟨w.heap.size,3,none⟩=some (.int .u8 0):=by rw [cell_of_row wr w.heap.size 3 _ _ _ hbk'];rfl
  have c4:wr.cell? ⟨w.heap.size,4,none⟩=some (.int .i64 0):=by rw [cell_of_row wr w.heap.size 4 _ _ _ hbk'];rfl
  have c5:wr.cell? ⟨w.heap.size,5,none⟩=some (.int .u8 0):=by rw [cell_of_row wr w.heap.size 5 _ _ _ hbk'];rfl
  have f0:wr.frozen? ⟨w.heap.size,0,none⟩=false:=frozen_of_row wr w.heap.size 0 _ _ hbk';have f1:wr.frozen? ⟨w.heap.size,1,none⟩=false:=frozen_of_row wr w.heap.size 1 _ _ hbk';have f2:wr.frozen? ⟨w.heap.size,2,none⟩=false:=frozen_of_row wr w.heap.size 2 _ _ hbk';have f3:wr.frozen? ⟨w.heap.size,3,none⟩=false:=frozen_of_row wr w.heap.size 3 _ _ hbk';have f4:wr.frozen? ⟨w.heap.size,4,none⟩=false:=frozen_of_row wr w.heap.size 4 _ _ hbk';have f5:wr.frozen? ⟨w.heap.size,5,none⟩=false:=frozen_of_row wr w.heap.size 5 _ _ hbk'
  have hlw:w.heap.size<wr.heap.size:=by omega
  have hnw:¬wr.heap.size=w.heap.size:=by omega
  clear hbk';go_wp2_with fail;refine(Ze a (fA j) (fB j) _ HA.out.1 HA.out.2).mono ?_;rintro e w1 ⟨rfl,rfl⟩;go_wp2;have HBA:=hide (HB0.out.trans (HBW.out.mono (Nat.le_of_lt hsz0)))
  refine bodyPost_ret (v:=.tuple #[.agg (rowV j),.bool true]) (by simp [results,Tryz.results130,go_sem,c0,c1,c2,c3,c4,c5,hlw,rowV]) rfl ⟨rfl,?_⟩
  exact((((((HBA.out.setCell lR _).setCell lR _).setCell lR _).setCell lR _).setCell lR _).setCell lR _).alloc (by simp;omega) _
 have HN:=hide (HNO.out j (by omega))
 go_wp2_with fail;refine(jl a (fA j) (fB j) _ HN.out).mono ?_;rintro e w1 ⟨rfl,rfl⟩;go_wp2;go_roundw
 case rel=>exact⟨j+1,by omega,by go_num,HBW.out.alloc hsw _⟩
 simp [intOf];omega
theorem Jd (a:Int) (w:World) (hT:Tab w) (hno:∀j,j<9->¬ (fA j<=a∧a<=fB j)):
  Calls Tryz.prog 130 #[.int .u8 a] w fun e w'=>e= .returned (.tuple #[.agg zeroV,.bool false])∧Below w.heap.size w w':=by
 obtain⟨tt,fr,hg⟩:=hT
 have hlt:1<w.heap.size:=by
  rcases Nat.lt_or_ge 1 w.heap.size with h | h
  ·exact h
  rw [Array.getElem?_eq_none h]at hg;cases hg
 have hg1:(w.alloc (.cells #[.int .u8 0,.int .u8 0,.int .u8 0,.int .u8 0,.int .i64 0,.int .u8 0] 255)).heap[1]? =some (.cells tab tt fr):=by
  rw [Below.heap_alloc _ _ _ hlt];exact hg
 have HG:=hide hg1;clear hg hg1;go_enter Tryz.func130,Tryz.ntmps130
 go_wp2_with (refine wpList_load_row rfl 268 _ rfl 1 rfl tt tab fr _ HG.out Tryz.underlying268 rfl (by kernel_rfl) ?_)
 generalize hw0:w.alloc (.cells #[.int .u8 0,.int .u8 0,.int .u8 0,.int .u8 0,.int .i64 0,.int .u8 0] 255)=w0
 have hsz0:w.heap.size<w0.heap.size:=by rw [<- hw0];simp
 have hbk:w0.heap[w.heap.size]? =some (.cells #[.int .u8 0,.int .u8 0,.int .u8 0,.int .u8 0,.int .i64 0,.int .u8 0] 255 (0,0)):=by rw [<- hw0];exact heap_alloc_new _ _
 have hb0:Below w.heap.size w w0:=by rw [<- hw0];exact(Below.refl _ _).alloc lR _
 have HBK:=hide hbk;have HB0:=hide hb0;have HNO:=hide hno;clear hw0 hbk hb0 hno HG
 go_loopw [7] (fun i wr=>∃j:Nat,j<=9∧i= .int .i64 j∧Below w0.heap.size w0 wr) (fun i _=>9 - (intOf i).toNat)
 case atStart=>exact⟨0,Nat.zero_le _,rfl,Below.refl _ _⟩
 obtain⟨j,hj,rfl,hbw⟩:=hrel;have HBW:=hide hbw;have hsw:=hbw.size;clear hbw
 by_cases hj9':j<9
 ·have hj9:(j:Int)<9:=by omega
  have hix:=fun W=>idx j hj9' W
  have hrow:rowV j= #[.int .u8 (fA j),.int .u8 (fB j),.int .u8 (fC j),.int .u8 (fD j),.int .i64 (fE j),.int .u8 (fF j)]:=rfl;simp only [hrow]at hix;clear hrow;have HN:=hide (HNO.out j hj9');go_wp2_with fail;refine(jl a (fA j) (fB j) _ HN.out).mono ?_;rintro e w1 ⟨rfl,rfl⟩;go_wp2;go_roundw
  case rel=>exact⟨j+1,by omega,by go_num,HBW.out.alloc hsw _⟩
  simp [intOf];omega
 obtain rfl:j=9:=by omega
 have hbk':wr.heap[w.heap.size]? =some (.cells #[.int .u8 0,.int .u8 0,.int .u8 0,.int .u8 0,.int .i64 0,.int .u8 0] 255 (0,0)):=(HBW.out.block _ hsz0).trans HBK.out
 have c0:wr.cell? ⟨w.heap.size,0,none⟩=some (.int .u8 0):=by rw [cell_of_row wr w.heap.size 0 _ _ _ hbk'];rfl
 have c1:wr.cell? ⟨w.heap.size,1,none⟩=some (.int .u8 0):=by rw [cell_of_row wr w.heap.size 1 _ _ _ hbk'];rfl
 have c2:wr.cell? ⟨w.heap.size,2,none⟩=some (.int .u8 0):=by rw [cell_of_row wr w.heap.size 2 _ _ _ hbk'];rfl
 have c3:wr.cell? ⟨w.heap.size,3,none⟩=some (.int .u8 0):=by rw [cell_of_row wr w.heap.size 3 _ _ _ hbk'];rfl
 have c4:wr.cell? ⟨w.heap.size,4,none⟩=some (.int .i64 0):=by rw [cell_of_row wr w.heap.size 4 _ _ _ hbk'];rfl
 have c5:wr.cell? ⟨w.heap.size,5,none⟩=some (.int .u8 0):=by rw [cell_of_row wr w.heap.size 5 _ _ _ hbk'];rfl
 have f0:wr.frozen? ⟨w.heap.size,0,none⟩=false:=frozen_of_row wr w.heap.size 0 _ _ hbk';have f1:wr.frozen? ⟨w.heap.size,1,none⟩=false:=frozen_of_row wr w.heap.size 1 _ _ hbk';have f2:wr.frozen? ⟨w.heap.size,2,none⟩=false:=frozen_of_row wr w.heap.size 2 _ _ hbk';have f3:wr.frozen? ⟨w.heap.size,3,none⟩=false:=frozen_of_row wr w.heap.size 3 _ _ hbk';have f4:wr.frozen? ⟨w.heap.size,4,none⟩=false:=frozen_of_row wr w.heap.size 4 _ _ hbk';have f5:wr.frozen? ⟨w.heap.size,5,none⟩=false:=frozen_of_row wr w.heap.size 5 _ _ hbk'
 have hlw:w.heap.size<wr.heap.size:=by omega
 clear hbk';go_wp2;have HBA:=hide (HB0.out.trans (HBW.out.mono (Nat.le_of_lt hsz0)))
 refine bodyPost_ret (v:=.tuple #[.agg zeroV,.bool false]) (by simp [results,Tryz.results130,go_sem,c0,c1,c2,c3,c4,c5,zeroV]) rfl ⟨rfl,?_⟩
 exact(((((HBA.out.setCell lR _).setCell lR _).setCell lR _).setCell lR _).setCell lR _).setCell lR _
end Go.Proofs.YtibbhecojkehfaaGreatDoor
