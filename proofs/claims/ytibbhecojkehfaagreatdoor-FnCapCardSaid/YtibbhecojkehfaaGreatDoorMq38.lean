import Derived.Test.YtibbhecojkehfaaGreatDoorMq37
set_option linter.all false
set_option maxRecDepth 100000
set_option maxHeartbeats 16000000
namespace Go.Proofs.YtibbhecojkehfaaGreatDoor
open Go Go.RowKit Go.Sort
theorem EM.c6 {K:Core} {w:World} {Z F FC:Nat->Prop} {E c n:Nat} {mv dv uv cv:Value} {ss:List Value} {M:Ens} (h:EM K w Z F E c n mv dv uv cv ss FC M):w.cell? ⟨E,6,none⟩=some (.iface K.ty (.pointer (some ⟨c,0,none⟩))):=by
 obtain⟨s0,s1,s2,s3,s4,s5,s6,s7,hss,hb⟩:=h.blk;rw [cell_of_row _ _ 6 _ _ _ hb];rfl
theorem wholeE {K:Core} {P:List Int->Prop} {Z F FC:Nat->Prop} {E c n:Nat} {mv dv uv cv:Value} {ss:List Value} {M:Ens} {w:World} (hA:AskK K) (hS:SliK K P) (h:EM K w Z F E c n mv dv uv cv ss FC M) (hP:P M.tx):
  Calls Tryz.prog 62 #[.pointer (some ⟨E,0,none⟩)] w fun e w'=>∃v,e= .returned v∧own32 w' w.heap.size v M.tx∧Below w.heap.size w w':=by
 have H:=hide h
 have IC:=hide (show ∀y,Below w.heap.size w y->y.cell? ⟨E,6,none⟩=some (.iface K.ty (.pointer (some ⟨c,0,none⟩)))from fun y hy=>(h.below hy).c6)
 have AL:=hide (fun(y:World) (hy:Below w.heap.size w y)=>hA.len _ _ _ _ _ _ (h.below hy).cr)
 have AS:=hide (fun(y:World) (hy:Below w.heap.size w y)=>hS y Z FC c n M.tx 0 M.tx.length (h.below hy).cr hP (Nat.zero_le _) lR)
 have hm:=K.mLen;have he:=K.eLen;have hm2:=K.mSli;have he2:=K.eSli;clear h hA hS hP;generalize hM:M.tx.length=m at *;have HM:=hide hM;clear hM;go_enter Tryz.func62,Tryz.ntmps62
 go_upto_region 1 with fail
 refine(wpIn_wide (n:=6)).1 ?_
 refine zn (fun y=>y.cell? ⟨E,6,none⟩=some (.iface K.ty (.pointer (some ⟨c,0,none⟩)))) (by kernel_rfl) ?_
 refine tk 0 (.pointer (some ⟨E,0,none⟩)) ?_ ?_
 ·intro y hC;go_simp
 go_simp;refine tk 1 (.pointer (some ⟨E,0,none⟩)) ?_ ?_
 ·intro y hC;go_simp
 go_simp;refine tk 2 (.pointer (some ⟨E,6,none⟩)) ?_ ?_
 ·intro y hC;go_simp
 go_simp;refine tk 3 (.iface K.ty (.pointer (some ⟨c,0,none⟩))) ?_ ?_
 ·intro y hC;go_simp
 go_simp;refine tk 4 (.pointer (some ⟨E,0,none⟩)) ?_ ?_
 ·intro y hC;go_simp
 go_simp;refine tk 5 (.pointer (some ⟨E,0,none⟩)) ?_ ?_
 ·intro y hC;go_simp
 go_simp;refine tk 6 (.pointer (some ⟨E,6,none⟩)) ?_ ?_
 ·intro y hC;go_simp
 go_simp;refine tk 7 (.iface K.ty (.pointer (some ⟨c,0,none⟩))) ?_ ?_
 ·intro y hC;go_simp
 go_simp;refine tk 9 (.iface K.ty (.pointer (some ⟨c,0,none⟩))) ?_ ?_
 ·intro y hC;go_simp
 go_simp;refine tk 10 (.iface K.ty (.pointer (some ⟨c,0,none⟩))) ?_ ?_
 ·intro y hC;go_simp
 go_simp;obtain⟨y0,hy⟩:∃y,y=w.drew:=⟨_,rfl⟩;rw [<- hy]
 have BY0:=hide (show Below w.heap.size w y0 from by rw [hy];exact drewB rfl rfl rfl rfl)
 clear hy;refine on 8 (IC.out _ BY0.out) ?_
 gi_wp2_with fail
 refine⟨trivial,(callsIn_wide.2 (AL.out _ BY0.out)).mono ?_⟩;rintro e y1 ⟨rfl,hb1⟩;have BY1:=hide (BY0.out.trans (hb1.mono BY0.out.size));clear hb1 BY0
 gi_wp2_with fail
 refine on 11 (IC.out _ BY1.out) ?_
 gi_wp2_with fail
 have SL:=hide (AS.out _ BY1.out);refine⟨trivial,(callsIn_wide.2 SL.out).mono ?_⟩;rintro e y2 ⟨v,rfl,ho2,hb2⟩
 have O2:=hide (show own32 y2 w.heap.size v M.tx from by
  have h9:=zG ho2 BY1.out.size
  rw [show(M.tx.take m).drop 0=M.tx from by rw [<- HM.out,List.take_of_length_le lR];rfl]at h9
  exact h9)
 have BY2:=hide (BY1.out.trans (hb2.mono BY1.out.size));clear hb2 ho2 SL BY1 AS AL;obtain⟨va,vk,rfl⟩:=yS O2.out
 gi_wp2_with fail
 refine on 12 (IC.out _ BY2.out) ?_
 gi_wp2_with fail
 refine doneC (by kernel_rfl) (IC.out _ BY2.out) ?_ _
 go_wp2;go_ret;exact⟨_,rfl,O2.out,BY2.out⟩
def spE (M:Ens) (k:Nat):Ens:={M with sp:=M.sp+k}
theorem EM.spent {K:Core} {w:World} {Z F FC:Nat->Prop} {E c n:Nat} {mv dv uv cv:Value} {ss:List Value} {M:Ens} (h:EM K w Z F E c n mv dv uv cv ss FC M) (k:Nat) (hk:M.sp+k<=200000):
  EM K (w.setCell ⟨E,15,none⟩ (.int .i64 ((M.sp:Int)+(k:Nat)))) Z F E c n mv dv uv cv ss FC (spE M k):=by
 obtain⟨s0,s1,s2,s3,s4,s5,s6,s7,hss,hblk⟩:=h.blk;have hb2:EB16 w E mv dv uv M.lim M.opn cv (.iface K.ty (.pointer (some ⟨c,0,none⟩))) s0 s1 s2 s3 s4 s5 s6 s7 M.sp:=hblk
 have hz:(w.setCell ⟨E,15,none⟩ (.int .i64 ((M.sp:Int)+(k:Nat)))).heap.size=w.heap.size:=by simp
 have ko:∀q,q≠E->(w.setCell ⟨E,15,none⟩ (.int .i64 ((M.sp:Int)+(k:Nat)))).heap[q]? =w.heap[q]?:=fun q hq=>heap_setCell_other w ⟨E,15,none⟩ q _ hq
 have zE:∀q,Z q->q≠E:=fun q hq e=>h.fe.2 (by rw [<- e];exact h.zf q hq)
 have kz:Kz Z w (w.setCell ⟨E,15,none⟩ (.int .i64 ((M.sp:Int)+(k:Nat)))):=fun q hq=>ko q (zE q hq)
 have hs:w.heap.size<=(w.setCell ⟨E,15,none⟩ (.int .i64 ((M.sp:Int)+(k:Nat)))).heap.size:=by omega
 have nd:(129:Nat)≠135:=by decide
 have nr:(217:Nat)≠135:=by decide
 refine⟨⟨s0,s1,s2,s3,s4,s5,s6,s7,hss,?_⟩,h.ms.kept kz (fun q hq=>hq),?_,?_,fun ho=>?_,h.cvs,⟨h.sl.1,h.sl.2.1,fun i v k' h1 h2=>(h.sl.2.2 i v k' h1 h2).kept kz hs (fun q hq=>hq)⟩,?_,?_,hk,h.lm,h.ln,h.vd,h.zf,h.ff,fun q hq=>by rw [hz];exact h.fl q hq,h.fe,h.fd,h.fu,h.fc⟩
 ·have h9:=hb2.set15 ((M.sp:Int)+(k:Nat))
  unfold EB16 at h9;rw [h9];simp only [spE,Int.natCast_add]
 ·obtain⟨vs,h1,h2⟩:=h.dn
  exact⟨vs,zB h1 (fun q hq=>ko q (hb2.off h1 nd hq)),h2.kept kz hs (fun q hq=>hq)⟩
 ·obtain⟨vs,h1,h2⟩:=h.ud
  exact⟨vs,zB h1 (fun q hq=>ko q (hb2.off h1 nd hq)),h2.kept kz hs (fun q hq=>hq)⟩
 ·obtain⟨xs,h1,h2,h3⟩:=h.cu ho
  exact⟨xs,zB h1 (fun q hq=>ko q (hb2.off h1 nr hq)),h2.kept kz hs (fun q hq=>hq),h3⟩
 ·exact K.step h.cr kz (fun q hq hn=>ko q (fun e=>hn (e▸h.fe.1))) hs (fun q hq=>hq) (fun q hq=>.inl hq)
 have:=h.n
 show n<=8192+(M.sp+k)
 omega
theorem EM.c0 {K:Core} {w:World} {Z F FC:Nat->Prop} {E c n:Nat} {mv dv uv cv:Value} {ss:List Value} {M:Ens} (h:EM K w Z F E c n mv dv uv cv ss FC M):w.cell? ⟨E,0,none⟩=some mv∧w.cell? ⟨E,15,none⟩=some (.int .i64 (M.sp:Nat))∧w.frozen? ⟨E,15,none⟩=false:=by
 obtain⟨s0,s1,s2,s3,s4,s5,s6,s7,hss,hb⟩:=h.blk
 exact⟨by rw [cell_of_row _ _ 0 _ _ _ hb];rfl,by rw [cell_of_row _ _ 15 _ _ _ hb];rfl,frozen_of_row w E 15 _ _ hb⟩
theorem dumpC {K:Core} {P:List Int->Prop} {Z F FC:Nat->Prop} {E c n:Nat} {mv dv uv cv:Value} {ss:List Value} {M:Ens} {kd b0 b1 b2:Int} {ta:Option Addr} {tl tq:Nat} {w:World} (hA:AskK K) (hS:SliK K P) (h:EM K w Z F E c n mv dv uv cv ss FC M) (hP:P M.tx) (hml:M.ms.length<=1048576) (hsp:M.sp+(M.tx.length+M.ms.length)<=200000):
  AnsC K 90 kd b0 b1 b2 ta tl tq 0 0 0 M.tx M.ms Z F E c n (spE M (M.tx.length+M.ms.length)) w:=by
 unfold AnsC;obtain⟨mb,mq,rfl⟩:=h.ms.val;have BB:=hide (bA (bA (Below.refl w.heap.size w) (.cells #[.int .i64 kd,.int .i64 b0,.int .i64 b1,.int .i64 b2,.slice ta tl tq] 30)) (.cells #[.int .i64 0,.int .i64 0,.int .i64 0,.slice none 0 0,.slice none 0 0,.int .i64 0,.int .i64 0,.int .i64 0,.int .i64 0,.int .i64 0] 37));have RS:=hide (heap2 w (.cells #[.int .i64 kd,.int .i64 b0,.int .i64 b1,.int .i64 b2,.slice ta tl tq] 30) #[.int .i64 0,.int .i64 0,.int .i64 0,.slice none 0 0,.slice none 0 0,.int .i64 0,.int .i64 0,.int .i64 0,.int .i64 0,.int .i64 0] 37)
 have yA:w.heap.size+1<((w.alloc (.cells #[.int .i64 kd,.int .i64 b0,.int .i64 b1,.int .i64 b2,.slice ta tl tq] 30)).alloc (.cells #[.int .i64 0,.int .i64 0,.int .i64 0,.slice none 0 0,.slice none 0 0,.int .i64 0,.int .i64 0,.int .i64 0,.int .i64 0,.int .i64 0] 37)).heap.size:=by simp
 have HH:=hide (fun W (hW:Below w.heap.size w W)=>h.wide hW)
 have HEl:=hide (h.fl E h.fe.1)
 have HZL:=hide (fun q (hq:Z q)=>h.fl q (h.ff q (h.zf q hq)))
 have HSP:=hide (And.intro hsp h.sp);have hm:=K.mLen;have he:=K.eLen;have HA:=hide hA;have HS:=hide (And.intro hS hP);have hlen:=(K.len h.cr).1;clear h hA hS hP;generalize hM1:M.tx.length=tn at *;generalize hM2:M.ms.length=mn at *;have HM1:=hide hM1;have HM2:=hide hM2;clear hM1 hM2;go_enter Tryz.func90,Tryz.ntmps90
 go_upto_region 1 with fail
 generalize (w.alloc (.cells #[.int .i64 kd,.int .i64 b0,.int .i64 b1,.int .i64 b2,.slice ta tl tq] 30)).alloc (.cells #[.int .i64 0,.int .i64 0,.int .i64 0,.slice none 0 0,.slice none 0 0,.int .i64 0,.int .i64 0,.int .i64 0,.int .i64 0,.int .i64 0] 37)=wA at *;have EA:=hide (HH.out wA BB.out);clear HH
 generalize hFA:(fun q=>F q∨(w.heap.size<=q∧q<wA.heap.size))=FA at *
 generalize hFC:(fun q=>FC q∨(w.heap.size<=q∧q<wA.heap.size))=FCA at *
 have HFA:=hide hFA;clear hFA hFC
 have IC:=hide (show ∀y,Below wA.heap.size wA y->y.cell? ⟨E,6,none⟩=some (.iface K.ty (.pointer (some ⟨c,0,none⟩)))∧y.cell? ⟨E,0,none⟩=some (.slice mb mn mq)from fun y hy=>⟨(EA.out.below hy).c6,(EA.out.below hy).c0.1⟩)
 refine(wpIn_wide (n:=6)).1 ?_
 refine zn (fun y=>y.cell? ⟨E,6,none⟩=some (.iface K.ty (.pointer (some ⟨c,0,none⟩)))∧y.cell? ⟨E,0,none⟩=some (.slice mb mn mq)) (by kernel_rfl) ?_
 refine tk 0 (.pointer (some ⟨E,0,none⟩)) ?_ ?_
 ·intro y hC;obtain⟨hC1,hC2⟩:=hC;go_simp
 go_simp;refine tk 1 (.pointer (some ⟨E,0,none⟩)) ?_ ?_
 ·intro y hC;obtain⟨hC1,hC2⟩:=hC;go_simp
 go_simp;refine tk 2 (.pointer (some ⟨E,0,none⟩)) ?_ ?_
 ·intro y hC;obtain⟨hC1,hC2⟩:=hC;go_simp
 go_simp;refine tk 3 (.pointer (some ⟨E,6,none⟩)) ?_ ?_
 ·intro y hC;obtain⟨hC1,hC2⟩:=hC;go_simp
 go_simp;refine tk 4 (.iface K.ty (.pointer (some ⟨c,0,none⟩))) ?_ ?_
 ·intro y hC;obtain⟨hC1,hC2⟩:=hC;go_simp
 go_simp;refine tk 6 (.pointer (some ⟨E,0,none⟩)) ?_ ?_
 ·intro y hC;obtain⟨hC1,hC2⟩:=hC;go_simp
 go_simp;refine tk 7 (.pointer (some ⟨E,0,none⟩)) ?_ ?_
 ·intro y hC;obtain⟨hC1,hC2⟩:=hC;go_simp
 go_simp;refine tk 8 (.pointer (some ⟨E,0,none⟩)) ?_ ?_
 ·intro y hC;obtain⟨hC1,hC2⟩:=hC;go_simp
 go_simp;refine tk 9 (.pointer (some ⟨E,0,none⟩)) ?_ ?_
 ·intro y hC;obtain⟨hC1,hC2⟩:=hC;go_simp
 go_simp;refine tk 10 (.slice mb mn mq) ?_ ?_
 ·intro y hC;obtain⟨hC1,hC2⟩:=hC;go_simp
 go_simp;refine tk 11 (.int .i64 (mn:Nat)) ?_ ?_
 ·intro y hC;obtain⟨hC1,hC2⟩:=hC;go_simp
 go_simp;obtain⟨y0,hy⟩:∃y,y=wA.drew:=⟨_,rfl⟩;rw [<- hy]
 have BY0:=hide (show Below wA.heap.size wA y0 from by rw [hy];exact drewB rfl rfl rfl rfl)
 clear hy;refine on 5 (IC.out _ BY0.out) ?_;have CL:=hide (HA.out.len _ _ _ _ _ _ (EA.out.below BY0.out).cr);rw [HM1.out]at CL
 gi_wp2_with fail
 refine⟨trivial,(callsIn_wide.2 CL.out).mono ?_⟩;rintro e y1 ⟨rfl,hb1⟩;have BY1:=hide (BY0.out.trans (hb1.mono BY0.out.size));clear hb1 CL BY0
 gi_wp2_with fail
 have wS:IntKind.i64.wrap ((tn:Int)+(mn:Int))=(tn:Int)+(mn:Int):=by rw [IntKind.wrap_i64];omega
 refine tk 12 (.int .i64 ((tn:Int)+(mn:Int))) ?_ ?_
 ·intro y hC;obtain⟨hC1,hC2⟩:=hC;go_simp
 go_simp;refine on 13 (IC.out _ BY1.out) ?_;have E1:=hide (EA.out.below BY1.out)
 have SP:=hide (XW E (M.sp:Nat) ((tn:Int)+(mn:Int)) y1 E1.out.c0.2.1 E1.out.c0.2.2 (by have:=HSP.out;omega) (by have:=HSP.out;omega))
 gi_wp2_with fail
 refine⟨trivial,(callsIn_wide.2 SP.out).mono ?_⟩;rintro e y2 ⟨rfl,hy2⟩
 have E2:=hide (E1.out.spent (tn+mn) (by have:=HSP.out;omega))
 have C2:=hide ((ChgP.reflS y1 (fun q=>q=E)).setS ⟨E,15,none⟩ (.int .i64 ((M.sp:Int)+((tn:Int)+(mn:Int)))) (.inl rfl))
 rw [show((tn+mn:Nat):Int)=(tn:Int)+(mn:Int)by omega]at E2
 rw [<- hy2]at E2 C2;clear hy2 SP E1;have yB:=BY1.out.size;have yC:=C2.out.size
 have RS2:=hide ((C2.out.block (w.heap.size+1) (by omega) (fun h9=>by have:=HEl.out;omega)).trans ((BY1.out.block (w.heap.size+1) (by omega)).trans RS.out))
 have CW:=hide (((ChgP.of_below (S:=fun q=>¬F q) BB.out lR).belowS BY1.out (by have:=BB.out.size;omega)).transS C2.out (fun q hq=>.inl (fun h9=>EA.out.fe.2 (by rw [<- HFA.out,<- hq];exact .inl h9))))
 have IC2:=hide (show ∀y,Below y2.heap.size y2 y->y.cell? ⟨E,6,none⟩=some (.iface K.ty (.pointer (some ⟨c,0,none⟩)))∧y.cell? ⟨E,0,none⟩=some (.slice mb mn mq)from fun y hy=>⟨(E2.out.below hy).c6,(E2.out.below hy).c0.1⟩)
 clear IC BY1 C2 RS BB
 gi_wp2_with fail
 refine on 14 (IC2.out _ (Below.refl _ _)) ?_
 gi_wp2_with fail
 refine doneC (by kernel_rfl) (IC2.out _ (Below.refl _ _)) ?_ _
 go_upto_region 4 with fail
 refine(wpIn_wide (n:=6)).1 ?_
 refine zn (fun y=>y.cell? ⟨E,6,none⟩=some (.iface K.ty (.pointer (some ⟨c,0,none⟩)))∧y.cell? ⟨E,0,none⟩=some (.slice mb mn mq)) (by kernel_rfl) ?_
 refine tk 0 (.pointer (some ⟨E,0,none⟩)) ?_ ?_
 ·intro y hC;obtain⟨hC1,hC2⟩:=hC;go_simp
 go_simp;refine tk 2 (.pointer (some ⟨E,0,none⟩)) ?_ ?_
 ·intro y hC;obtain⟨hC1,hC2⟩:=hC;go_simp
 go_simp;refine tk 3 (.pointer (some ⟨E,0,none⟩)) ?_ ?_
 ·intro y hC;obtain⟨hC1,hC2⟩:=hC;go_simp
 go_simp;refine tk 4 (.pointer (some ⟨E,0,none⟩)) ?_ ?_
 ·intro y hC;obtain⟨hC1,hC2⟩:=hC;go_simp
 go_simp;refine tk 5 (.pointer (some ⟨E,0,none⟩)) ?_ ?_
 ·intro y hC;obtain⟨hC1,hC2⟩:=hC;go_simp
 go_simp;refine tk 6 (.slice mb mn mq) ?_ ?_
 ·intro y hC;obtain⟨hC1,hC2⟩:=hC;go_simp
 go_simp;obtain⟨y3,hy⟩:∃y,y=y2.drew:=⟨_,rfl⟩;rw [<- hy]
 have BY3:=hide (show Below y2.heap.size y2 y3 from by rw [hy];exact drewB rfl rfl rfl rfl)
 clear hy;refine on 1 (IC2.out _ BY3.out) ?_;have WH:=hide (wholeE HA.out HS.out.1 (E2.out.below BY3.out) HS.out.2)
 gi_wp2_with fail
 refine⟨trivial,(callsIn_wide.2 WH.out).mono ?_⟩;rintro e y4 ⟨v,rfl,ho4,hb4⟩
 change own32 y4 y3.heap.size v M.tx at ho4
 obtain⟨ua,uk,rfl⟩:=yS ho4;have O4:=hide (zG ho4 BY3.out.size);have BY4:=hide (BY3.out.trans (hb4.mono BY3.out.size));clear hb4 ho4 WH BY3
 gi_wp2_with fail
 refine on 7 (IC2.out _ BY4.out) ?_
 have CM:=hide (KO 0 M.ms _ y4 (E2.out.below BY4.out).ms.1 (by rw [HM2.out];exact hml))
 gi_wp2_with fail
 refine⟨trivial,(callsIn_wide.2 CM.out).mono ?_⟩;rintro e y5 ⟨v,rfl,ho5,hb5⟩;obtain⟨ma,mk,rfl⟩:=ho5.val;have O5:=hide (zG ho5 BY4.out.size);have O45:=hide (zF O4.out (hb5.mono lR) lR);have BY5:=hide (BY4.out.trans (hb5.mono BY4.out.size));clear hb5 ho5 CM BY4 O4
 have RS5:=hide ((BY5.out.block (w.heap.size+1) (by omega)).trans RS2.out)
 have OT5:=hide (show OT y5 y2.heap.size (fun q=>FA q∨(y2.heap.size<=q∧q<y5.heap.size)) (.slice ua tn uk) M.tx from⟨by rw [<- HM1.out];exact O45.out,fun q hq=>by rw [<- HM1.out]at hq;exact .inr (O45.out.lt q hq)⟩)
 have OM5:=hide (show OM y5 y2.heap.size (fun q=>FA q∨(y2.heap.size<=q∧q<y5.heap.size)) (.slice ma mn mk) M.ms from⟨by rw [<- HM2.out];exact O5.out,fun q hq=>by rw [<- HM2.out]at hq;exact .inr (O5.out.lt q hq)⟩)
 clear O45 O5
 gi_wp2_with fail
 generalize M.tx.length=ul at *;generalize M.ms.length=ml at *;have hul:=HM1.out;subst hul;have hml2:=HM2.out;subst hml2;refine tk 8 (.agg #[.int .i64 0,.int .i64 0,.int .i64 0,.slice ua ul uk,.slice ma ml mk,.int .i64 0,.int .i64 0,.int .i64 0,.int .i64 0,.int .i64 0]) ?_ ?_
 ·intro y hC;obtain⟨hC1,hC2⟩:=hC;go_simp
 go_simp;refine on 9 (IC2.out _ BY5.out) ?_
 refine yb rfl 37 _ _ rfl (w.heap.size+1) _ #[.int .i64 0,.int .i64 0,.int .i64 0,.slice ua ul uk,.slice ma ml mk,.int .i64 0,.int .i64 0,.int .i64 0,.int .i64 0,.int .i64 0] 37 rfl rfl RS5.out (by kernel_rfl) rfl (by simp [Value.oneCell']) ?_
 have RW:=hide (show(y5.setRow (w.heap.size+1) #[.int .i64 0,.int .i64 0,.int .i64 0,.slice ua ul uk,.slice ma ml mk,.int .i64 0,.int .i64 0,.int .i64 0,.int .i64 0,.int .i64 0]).heap[w.heap.size+1]? =some (.cells #[.int .i64 0,.int .i64 0,.int .i64 0,.slice ua ul uk,.slice ma ml mk,.int .i64 0,.int .i64 0,.int .i64 0,.int .i64 0,.int .i64 0] 37 (0,0))from setRow_heap _ _ _ _ _ _ RS5.out)
 have C5:=hide (show ChgP y5 (y5.setRow (w.heap.size+1) #[.int .i64 0,.int .i64 0,.int .i64 0,.slice ua ul uk,.slice ma ml mk,.int .i64 0,.int .i64 0,.int .i64 0,.int .i64 0,.int .i64 0]) (fun q=>q=w.heap.size+1)from(ChgP.reflS y5 _).row _ _ (.inl rfl))
 generalize y5.setRow (w.heap.size+1) #[.int .i64 0,.int .i64 0,.int .i64 0,.slice ua ul uk,.slice ma ml mk,.int .i64 0,.int .i64 0,.int .i64 0,.int .i64 0,.int .i64 0]=y6 at *;refine wpListIn_nil ?_;go_simp;have E5:=hide (E2.out.wide BY5.out)
 have FR:=hide (show FA (w.heap.size+1)∧¬Z (w.heap.size+1)from⟨by rw [<- HFA.out];exact .inr ⟨by omega,yA⟩,fun h9=>by have:=HZL.out _ h9;omega⟩)
 have E6:=hide (E5.out.chg C5.out (fun q _ hq=>by
  subst hq
  have hF:(fun q=>FA q∨(y2.heap.size<=q∧q<y5.heap.size)) (w.heap.size+1):=.inl FR.out.1
  exact⟨E5.out.ff _ hF,FR.out.2,by have:=HEl.out;omega,fun h9=>(E5.out.fd _ h9).2 hF,fun h9=>(E5.out.fu _ h9).2.1 hF,fun h8 h9=>(E5.out.fc h8 _ h9).2 hF⟩))
 have y6s:=C5.out.size;have y5s:=BY5.out.size
 have KK:=hide (show ∀q,(fun q=>FA q∨(y2.heap.size<=q∧q<y5.heap.size)) q->y2.heap.size<=q->q<y5.heap.size->y6.heap[q]? =y5.heap[q]? from fun q _ h1 h2=>C5.out.block q h2 (fun h9=>by omega))
 refine on 10 ⟨E6.out.c6,E6.out.c0.1⟩ ?_
 gi_wp2_with fail
 refine doneC (by kernel_rfl) ⟨E6.out.c6,E6.out.c0.1⟩ ?_ _
 go_wp2
 have g0:=cR (i:=0) RW.out rfl
 have g1:=cR (i:=1) RW.out rfl
 have g2:=cR (i:=2) RW.out rfl
 have g3:=cR (i:=3) RW.out rfl
 have g4:=cR (i:=4) RW.out rfl
 have g5:=cR (i:=5) RW.out rfl
 have g6:=cR (i:=6) RW.out rfl
 have g7:=cR (i:=7) RW.out rfl
 have g8:=cR (i:=8) RW.out rfl
 have g9:=cR (i:=9) RW.out rfl
 refine bodyPost_ret (v:=.tuple #[.agg #[.int .i64 0,.int .i64 0,.int .i64 0,.slice ua ul uk,.slice ma ml mk,.int .i64 0,.int .i64 0,.int .i64 0,.int .i64 0,.int .i64 0],.nilIface]) (by simp [results,Tryz.results90,go_sem,g0,g1,g2,g3,g4,g5,g6,g7,g8,g9]) rfl ⟨ua,ul,uk,ma,ml,mk,rfl,Z,_,_,_,dv,uv,cv,ss,E6.out,fun q hq=>.inl (by rw [<- HFA.out];exact .inl hq),fun q hq=>hq,fun q hq=>?_,fun q hq=>.inl hq,(CW.out.belowS BY5.out (by omega)).transS C5.out (fun q hq=>.inr (by omega)),OT5.out.kept KK.out (by omega) (fun q hq=>hq),OM5.out.kept KK.out (by omega) (fun q hq=>hq)⟩
 rcases hq with h9 | h9
 ·rw [<- HFA.out]at h9
  exact h9.imp id (fun h8=>h8.1)
 exact .inr (by omega)
section
variable {K:Core} {Z F FC:Nat->Prop} {E c n:Nat} {mv dv uv cv:Value} {ss:List Value} {M:Ens} {ta:Option Addr} {tl tq:Nat} {w:World}
theorem insAC {P:List Int->Prop} {off:Nat} {bs:List Int} (kd b1 b2:Int) (h:EM K w Z F E c n mv dv uv cv ss FC M) (o:InsOk K P w M off bs (.slice ta tl tq)):
  AnsC K 75 kd off b1 b2 ta tl tq 0 (decs bs).length 0 [] [] Z F E c (n+(decs bs).length) (insE M off (decs bs)) w:=by
 refine(ansI kd b1 b2 h o).mono ?_;rintro e w' ⟨he,Z',F',FC',mv',dv',h1,h2,h3,h4,h5,h6⟩;exact⟨none,0,0,none,0,0,he,Z',F',FC',mv',dv',_,cv,ss,h1,h2,h3,h4,h5,h6,OT.nil,OM.nil⟩
theorem stepInsC {P:List Int->Prop} {off:Nat} {bs:List Int} (b1 b2:Int) (h:EM K w Z F E c n mv dv uv cv ss FC M) (o:InsOk K P w M off bs (.slice ta tl tq)):
  StC K 1 off b1 b2 ta tl tq 0 (decs bs).length 0 [] [] Z F E c (n+(decs bs).length) (insE M off (decs bs)) w:=
 stepG o.ask h (show(insE M off (decs bs)).opn=false from o.opn) (fun W hW=>Kd aerIns (h.wide hW) (fun W2 hW2=>insAC 1 b1 b2 ((h.wide hW).wide hW2) ((o.below hW).below hW2)))
theorem undC {RM:RemM K} {P Q:List Int->Prop} {D:List (List Rc)} {g:List Rc} {kd b0 b1 b2:Int} (hI:InsK K P) (hR:RemK K RM Q) (h:EM K w Z F E c n mv dv uv cv ss FC M) (hop:M.opn=false) (hD:M.dn=D++ [g])
  (hok:∀k r,g.reverse[k]? =some r->okB P Q r (stU g k (M.tx,M.ms,n)).1 (stU g k (M.tx,M.ms,n)).2.1 (stU g k (M.tx,M.ms,n)).2.2) (hgn:g.length<=1000000000)
  (hn:(stU g g.length (M.tx,M.ms,n)).2.2<=8192+(M.sp+rnsG false g)) (hsp:M.sp+rnsG false g<=200000) (hul:M.ud.length+1<=1000)
  (hvd:Vd (stU g g.length (M.tx,M.ms,n)).2.1∧∀x∈(stU g g.length (M.tx,M.ms,n)).2.1,x.2.1<=(stU g g.length (M.tx,M.ms,n)).1.length):
  AnsC K 83 kd b0 b1 b2 ta tl tq 0 g.length 0 [] [] Z F E c (stU g g.length (M.tx,M.ms,n)).2.2 (undE n M D g) w:=by
 refine(ansUnd K RM P Q hI hR Z F FC E c n mv dv uv cv ss M D g kd b0 b1 b2 ta tl tq w h hop hD hok hgn hn hsp hul hvd).mono ?_;rintro e w' ⟨he,Z',F',FC',mv',dv',uv',h1,h2,h3,h4,h5,h6⟩;exact⟨none,0,0,none,0,0,he,Z',F',FC',mv',dv',uv',cv,ss,h1,h2,h3,h4,h5,h6,OT.nil,OM.nil⟩
theorem stepUndC {RM:RemM K} {P Q:List Int->Prop} {D:List (List Rc)} {g:List Rc} {b0 b1 b2:Int} (ask:AskK K) (hI:InsK K P) (hR:RemK K RM Q) (h:EM K w Z F E c n mv dv uv cv ss FC M) (hop:M.opn=false) (hD:M.dn=D++ [g])
  (hok:∀k r,g.reverse[k]? =some r->okB P Q r (stU g k (M.tx,M.ms,n)).1 (stU g k (M.tx,M.ms,n)).2.1 (stU g k (M.tx,M.ms,n)).2.2) (hgn:g.length<=1000000000)
  (hn:(stU g g.length (M.tx,M.ms,n)).2.2<=8192+(M.sp+rnsG false g)) (hsp:M.sp+rnsG false g<=200000) (hul:M.ud.length+1<=1000)
  (hvd:Vd (stU g g.length (M.tx,M.ms,n)).2.1∧∀x∈(stU g g.length (M.tx,M.ms,n)).2.1,x.2.1<=(stU g g.length (M.tx,M.ms,n)).1.length):
  StC K 9 b0 b1 b2 ta tl tq 0 g.length 0 [] [] Z F E c (stU g g.length (M.tx,M.ms,n)).2.2 (undE n M D g) w:=
 stepG ask h hop (fun W hW=>Kd Kc (h.wide hW) (fun W2 hW2=>undC hI hR ((h.wide hW).wide hW2) hop hD hok hgn hn hsp hul hvd))
theorem stepUndB {b0 b1 b2:Int} (ask:AskK K) (h:EM K w Z F E c n mv dv uv cv ss FC M) (hop:M.opn=false) (hD:M.dn= []) (hg:ErT w):StC K 9 b0 b1 b2 ta tl tq 6 0 0 [] [] Z F E c n M w:=by
 refine stepB ask h hop hg (ws:=⟨#[85,110,100,111]⟩) (fun W hW=>answerB Kc (fun W2 hW2=>?_))
 have h2:=(h.wide hW).wide hW2;obtain⟨s0,s1,s2,s3,s4,s5,s6,s7,hss,hblk⟩:=h2.blk;obtain⟨vs,hrow,hgg⟩:=h2.dn;have hl:=hgg.len;rw [hD]at hl hrow;obtain rfl:vs= []:=List.eq_nil_of_length_eq_zero hl
 exact undoBad E M.lim mv dv uv M.opn cv (.iface K.ty (.pointer (some ⟨c,0,none⟩))) s0 s1 s2 s3 s4 s5 s6 s7 M.sp [] 6 9 b0 b1 b2 ta tl tq W2 hblk hrow (fun v hv=>by cases hv) (by simp) (by simp [nextV,hop,errV])
theorem stepDmpC {P:List Int->Prop} {b0 b1 b2:Int} (ask:AskK K) (hS:SliK K P) (h:EM K w Z F E c n mv dv uv cv ss FC M) (hop:M.opn=false) (hP:P M.tx) (hml:M.ms.length<=1048576) (hsp:M.sp+(M.tx.length+M.ms.length)<=200000):
  StC K 16 b0 b1 b2 ta tl tq 0 0 0 M.tx M.ms Z F E c n (spE M (M.tx.length+M.ms.length)) w:=
 stepG ask h hop (fun W hW=>Kd aerDump (h.wide hW) (fun W2 hW2=>dumpC ask hS ((h.wide hW).wide hW2) hP hml hsp))
end
def recI (off:Nat) (ch:Int):Rc:=⟨true,off,[ch],[],[]⟩
def Bk:List Int->List (List Rc)->List Int->Prop
 | tx,[],t0=>tx=t0
 | tx,g::r,t0=>∃off ch,g= [recI off ch]∧off<tx.length∧Bk (delT tx off 1) r t0
theorem Bk.app:∀ {tx:List Int} {a b:List (List Rc)} {t:List Int},Bk tx (a++b) t↔∃m,Bk tx a m∧Bk m b t
 | tx,[],b,t=>⟨fun h=>⟨tx,rfl,h⟩,fun⟨m,h1,h2⟩=>by cases h1;exact h2⟩
 | tx,g::a,b,t=>by
  constructor
  ·rintro ⟨off,ch,e,h1,h2⟩
   obtain⟨m,h3,h4⟩:=Bk.app.1 h2;exact⟨m,⟨off,ch,e,h1,h3⟩,h4⟩
  rintro ⟨m,⟨off,ch,e,h1,h3⟩,h4⟩;exact⟨off,ch,e,h1,Bk.app.2 ⟨m,h3,h4⟩⟩
theorem Ke {tx:List Int} {off:Nat} {ch:Int} (h:off<=tx.length):delT (putT tx off [ch]) off 1=tx:=by
 unfold delT putT
 have e1:(tx.take off).length=off:=by rw [List.length_take];omega
 rw [List.take_append_of_le_length (by simp;omega),List.take_append_of_le_length (by omega),List.take_take,Nat.min_self,List.drop_append,List.drop_eq_nil_of_le (by simp;omega),List.nil_append,show off+1 - (List.take off tx++ [ch]).length=0 by simp;omega,List.drop_zero,List.take_append_drop]
theorem YS {tx:List Int} {off:Nat} {ch:Int}:(putT tx off [ch]).length=tx.length+1:=by
 unfold putT;simp only [List.length_append,List.length_take,List.length_drop,List.length_singleton];omega
theorem mem_putT {tx:List Int} {off:Nat} {ch x:Int} (h:x∈putT tx off [ch]):x∈tx∨x=ch:=by
 unfold putT at h
 rcases List.mem_append.1 h with h | h
 ·rcases List.mem_append.1 h with h | h
  ·exact .inl (List.mem_of_mem_take h)
  exact .inr (List.mem_singleton.1 h)
 exact .inl (List.mem_of_mem_drop h)
theorem mem_delT {tx:List Int} {off m:Nat} {x:Int} (h:x∈delT tx off m):x∈tx:=by
 unfold delT at h
 rcases List.mem_append.1 h with h | h
 ·exact List.mem_of_mem_take h
 exact List.mem_of_mem_drop h
theorem Vd0':Vd []:=⟨by simp,(fun x hx=>by cases hx),.nil⟩
theorem srtE (f:Mk->Int):srt (([]:List Mk).map (mov f))= []:=by simp [srt,sel]
structure CM (M:Ens) (lim:Nat):Prop where
 opn:M.opn=false
 ms:M.ms= []
 li:M.lim=lim
 l1:1<=lim∧lim<=1000
 ln:M.dn.length<=lim
 no:10∉M.tx
 st:∃t,Bk M.tx M.dn.reverse t
def Tp (M:Ens) (j:Nat) (t0:List Int):Prop:=∃top rest,M.dn.reverse=top++rest∧top.length=j∧Bk M.tx top t0
theorem JK {M:Ens} {off:Nat} {ch:Int} {lim:Nat} (hm:M.ms= []) (hl:M.lim=lim):(insE M off [ch]).dn=pushL lim M.dn [recI off ch]:=by
 show pushL M.lim M.dn _=_
 rw [hl,hm,srtE];rfl
theorem Jr {lim:Nat} {gs:List (List Rc)} {g:List Rc}:(pushL lim gs g).reverse=if lim<gs.length+1 then(g::gs.reverse).dropLast else g::gs.reverse:=by
 unfold pushL
 split
 ·rw [List.drop_one,<- List.dropLast_reverse];simp
 simp
theorem CM.ins {M:Ens} {lim off:Nat} {ch:Int} (h:CM M lim) (ho:off<=M.tx.length) (hc:ch≠10):CM (insE M off [ch]) lim:=by
 have hl:=h.ln;have h1:=h.l1;refine⟨h.opn,?_,h.li,h.l1,?_,?_,?_⟩
 ·show srt (M.ms.map _)= []
  rw [h.ms,srtE]
 ·rw [JK h.ms h.li]
  unfold pushL
  split<;>simp<;>omega
 ·intro h9
  rcases mem_putT h9 with h9 | h9
  ·exact h.no h9
  exact hc h9.symm
 obtain⟨t,ht⟩:=h.st
 have hb:Bk (putT M.tx off [ch]) ([recI off ch]::M.dn.reverse) t:=⟨off,ch,rfl,by rw [YS];omega,by rw [Ke ho];exact ht⟩
 rw [JK h.ms h.li,Jr]
 split
 ·have e: [recI off ch]::M.dn.reverse=([recI off ch]::M.dn.reverse).dropLast++ [([recI off ch]::M.dn.reverse).getLast (by simp)]:=(List.dropLast_concat_getLast _).symm
  rw [e]at hb;obtain⟨m,h2,_⟩:=Bk.app.1 hb;exact⟨m,h2⟩
 exact⟨t,hb⟩
theorem CM.tpI {M:Ens} {lim off j:Nat} {ch:Int} {t0:List Int} (h:CM M lim) (ho:off<=M.tx.length) (hj:j<lim) (ht:Tp M j t0):Tp (insE M off [ch]) (j+1) t0:=by
 obtain⟨top,rest,h1,h2,h3⟩:=ht
 have hb:Bk (putT M.tx off [ch]) ([recI off ch]::top) t0:=⟨off,ch,rfl,by rw [YS];omega,by rw [Ke ho];exact h3⟩
 have hl:=h.ln
 have hr:M.dn.length=j+rest.length:=by rw [<- List.length_reverse,h1,List.length_append,h2]
 unfold Tp;rw [JK h.ms h.li,Jr]
 split
 ·refine⟨[recI off ch]::top,rest.dropLast,?_,by simp [h2],hb⟩
  rw [h1,<- List.cons_append,List.dropLast_append_of_ne_nil (fun e=>by rw [e]at hr;simp at hr;omega)]
 exact⟨[recI off ch]::top,rest,by rw [h1];rfl,by simp [h2],hb⟩
theorem CM.top {M:Ens} {lim:Nat} (h:CM M lim) (hne:M.dn≠ []):∃D off ch,M.dn=D++ [[recI off ch]]∧off<M.tx.length:=by
 obtain⟨t,ht⟩:=h.st
 cases hr:M.dn.reverse with
 | nil=>exact absurd (List.reverse_eq_nil_iff.1 hr) hne
 | cons g r=>
  rw [hr]at ht;obtain⟨off,ch,rfl,h1,_⟩:=ht;refine⟨r.reverse,off,ch,?_,h1⟩;rw [<- List.reverse_reverse M.dn,hr];simp
theorem stU1 (tx:List Int) (n off:Nat) (ch:Int):stU [recI off ch] 1 (tx,[],n)=(delT tx off 1,[],n):=by
 unfold stU;simp only [List.reverse_cons,List.reverse_nil,List.nil_append,List.take_succ_cons,List.take_zero,List.foldl_cons,List.foldl_nil];unfold unS bkT bkM bkN recI;simp only [if_true,List.length_singleton];rw [srtE,srtE]
theorem Z7 {M:Ens} {n off:Nat} {ch:Int} {D:List (List Rc)} (hm:M.ms= []):undE n M D [recI off ch]={M with tx:=delT M.tx off 1,ms:=[],dn:=D,ud:=M.ud++ [[recI off ch]],sp:=M.sp}:=by
 unfold undE
 rw [hm,show([recI off ch]:List Rc).length=1 from rfl,stU1]
 rfl
theorem CM.und {M:Ens} {lim n off:Nat} {ch:Int} {D:List (List Rc)} (h:CM M lim) (hD:M.dn=D++ [[recI off ch]]):CM (undE n M D [recI off ch]) lim:=by
 have hl:=h.ln;rw [hD]at hl;simp at hl;rw [Z7 h.ms]
 refine⟨h.opn,rfl,h.li,h.l1,by show D.length<=lim;omega,fun h9=>h.no (mem_delT h9),?_⟩
 obtain⟨t,ht⟩:=h.st;rw [hD,List.reverse_append]at ht;obtain⟨off',ch',e,h1,h2⟩:=ht
 have e2:off'=off:=by
  have:=congrArg (fun g:List Rc=>(g.map Rc.off)) e
  simp [recI]at this;exact this.symm
 subst e2;exact⟨t,h2⟩
theorem CM.tpU {M:Ens} {lim n off j:Nat} {ch:Int} {D:List (List Rc)} {t0:List Int} (h:CM M lim) (hD:M.dn=D++ [[recI off ch]]) (ht:Tp M (j+1) t0):Tp (undE n M D [recI off ch]) j t0:=by
 rw [Z7 h.ms];obtain⟨top,rest,h1,h2,h3⟩:=ht;rw [hD,List.reverse_append]at h1
 cases top with
 | nil=>simp at h2
 | cons g top=>
  simp only [List.reverse_cons,List.reverse_nil,List.nil_append,List.cons_append,List.cons.injEq]at h1;obtain⟨rfl,h1⟩:=h1;obtain⟨off',ch',e,_,h4⟩:=h3
  have e2:off'=off:=by
   have:=congrArg (fun g:List Rc=>(g.map Rc.off)) e
   simp [recI]at this;exact this.symm
  subst e2
  exact⟨top,rest,h1,by simpa using h2,h4⟩
theorem okB1 {P:List Int->Prop} {M:Ens} {lim n off:Nat} {ch:Int} (h:CM M lim) (hx:M.tx.length<=8192) (ho:off<M.tx.length):∀k r,([recI off ch]:List Rc).reverse[k]? =some r->okB P (fun tx=>10∉tx) r (stU [recI off ch] k (M.tx,M.ms,n)).1 (stU [recI off ch] k (M.tx,M.ms,n)).2.1 (stU [recI off ch] k (M.tx,M.ms,n)).2.2:=by
 intro k r hr
 cases k with
 | succ k=>simp at hr
 | zero=>
  simp at hr;subst hr;rw [h.ms]
  show okB P _ (recI off ch) M.tx [] n
  refine⟨by simp [recI],by simp [recI],Vd0',?_,hx,?_⟩
  ·unfold bkM recI
   simp only [if_true];rw [srtE];exact Vd0'
  simp only [recI,if_true]
  exact⟨h.no,by simp;omega⟩
end Go.Proofs.YtibbhecojkehfaaGreatDoor
