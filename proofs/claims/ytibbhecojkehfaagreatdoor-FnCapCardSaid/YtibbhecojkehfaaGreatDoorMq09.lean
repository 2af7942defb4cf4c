import Derived.Test.YtibbhecojkehfaaGreatDoorMq08
set_option linter.all false
set_option maxRecDepth 100000
set_option maxHeartbeats 16000000
namespace Go.Proofs.YtibbhecojkehfaaGreatDoor
open Go Go.RowKit Go.Shelf Go.Sort
structure PM (w:World) (base c b o cap:Nat) (S:List Int) (T:AT) (u:Option Addr) (bs:List Nat):Prop where
 k:PK w c b o S.length cap u
 t:Lies w base T u bs
 nd:bs.Nodup
 cb:c∉bs
 bb:b∉bs
 bc:b≠c
 rt:At32' w b o S
 lb:b<w.heap.size
 cap1:S.length<=cap
 cap2:cap<=maxLen
 n:S.length<=220000
theorem PK.chg {w w':World} {c b o n cap:Nat} {u:Option Addr} {bs:List Nat} (h:PK w c b o n cap u) (hc:Chg bs w w') (hn:c∉bs):PK w' c b o n cap u:=(hc.block c h.lt hn).trans h
theorem PK.set1 {w:World} {c b o n cap:Nat} {u:Option Addr} (h:PK w c b o n cap u) (u':Option Addr):PK (w.setCell ⟨c,1,none⟩ (.pointer u')) c b o n cap u':=by
 unfold PK at h |-;rw [heap_setCell_same w c 1 _ _ _ h];rfl
theorem PK.fz {w:World} {c b o n cap:Nat} {u:Option Addr} (h:PK w c b o n cap u) (j:Nat):w.frozen? ⟨c,j,none⟩=false:=frozen_of_row w c j _ _ h
theorem At32'.chg {w w':World} {b o:Nat} {zs:List Int} {bs:List Nat} (h:At32' w b o zs) (hc:Chg bs w w') (hb:b<w.heap.size) (hn:b∉bs):At32' w' b o zs:=fun i hi=>by
 have:=h i hi;unfold World.cell? at this |-;rw [hc.block b hb hn];exact this
def CutPost (w:World) (base c b o n cap:Nat) (T:AT) (bs:List Nat) (w':World):Prop:=
 ∃u' bs',PK w' c b o n cap u'∧Lies w' base T u' bs'∧bs'.Nodup∧(∀x∈bs',x∈bs∨w.heap.size<=x)∧Chg (c::bs) w w'
theorem cutA (c b o n cap q m j r1 base:Nat) (off pb r2 r3 r5:Int) (u:Option Addr) (T1 T2:AT) (bs:List Nat) (e1 e2:Pc) (w:World) (hk:PK w c b o n cap u) (hcb:c∉bs) (hbs:∀x∈bs,x<w.heap.size) (hoff:0<=off∧off<=8192) (hj:0<j) (hjm:j<m) (hm:m<=8192) (hq:q<=220000) (hr1:r1<=8192) (hbase:base<=w.heap.size)
  (HSK:Hid (Calls Tryz.prog 198 #[.pointer u,.int .i64 off,.func (.func 199) #[] #[]] w fun e w'=>e= .returned (fndV (q:Int) (m:Int) pb (r1,r2,r3,(j:Int),r5))∧Below w.heap.size w w'))
  (HM1:Hid (∀W,Below w.heap.size w W->Calls Tryz.prog 26 #[.pointer (some ⟨c,0,none⟩),.int .i64 (q:Int),.int .i64 (j:Int)] W fun e w'=>e= .returned (.agg #[.int .i64 e1.off,.int .i64 e1.len,.int .i64 e1.brk])∧Below W.heap.size W w'))
  (HRP:Hid (∀W,Below w.heap.size w W->Calls Tryz.prog 195 #[.pointer u,.int .i64 (r1:Int),.agg #[.int .i64 e1.off,.int .i64 e1.len,.int .i64 e1.brk]] W fun e w'=>e= .returned (.tuple #[])∧Lies w' base T1 u bs∧Chg bs W w'))
  (HM2:Hid (∀W,Chg bs w W->Calls Tryz.prog 26 #[.pointer (some ⟨c,0,none⟩),.int .i64 ((q:Int)+(j:Int)),.int .i64 ((m:Int) - (j:Int))] W fun e w'=>e= .returned (.agg #[.int .i64 e2.off,.int .i64 e2.len,.int .i64 e2.brk])∧Below W.heap.size W w'))
  (HIN:Hid (∀W,Lies W base T1 u bs->base<=W.heap.size->Calls Tryz.prog 197 #[.pointer u,.int .i64 ((r1:Int)+1),.agg #[.int .i64 e2.off,.int .i64 e2.len,.int .i64 e2.brk]] W (MutPost base T2 bs W))):
  Calls Tryz.prog 192 #[.pointer (some ⟨c,0,none⟩),.int .i64 off] w fun e w'=>e= .returned (.int .i64 ((r1:Int)+1))∧CutPost w base c b o n cap T2 bs w':=by
 have c1:=hk.c1;have hclt:=hk.lt;have HK:=hide hk;clear hk;go_enter Tryz.func192,Tryz.ntmps192;go_wp2_with fail;refine HSK.out.mono ?_;rintro e wa ⟨rfl,hba⟩;have HBB:=hide (hba.alloc hba.size (.cells #[.int .i64 (q:Int),.int .i64 (m:Int),.int .i64 pb,.int .i64 (r1:Int),.int .i64 r2,.int .i64 r3,.int .i64 (j:Int),.int .i64 r5] 315));have KF:(wa.alloc (.cells #[.int .i64 (q:Int),.int .i64 (m:Int),.int .i64 pb,.int .i64 (r1:Int),.int .i64 r2,.int .i64 r3,.int .i64 (j:Int),.int .i64 r5] 315)).heap[wa.heap.size]? =some (.cells #[.int .i64 (q:Int),.int .i64 (m:Int),.int .i64 pb,.int .i64 (r1:Int),.int .i64 r2,.int .i64 r3,.int .i64 (j:Int),.int .i64 r5] 315 (0,0)):=heap_alloc_new _ _;have HKF:=hide KF;have hsb:w.heap.size<=(wa.alloc (.cells #[.int .i64 (q:Int),.int .i64 (m:Int),.int .i64 pb,.int .i64 (r1:Int),.int .i64 r2,.int .i64 r3,.int .i64 (j:Int),.int .i64 r5] 315)).heap.size:=HBB.out.size;have hfa:=hba.size;clear hba HSK c1 KF;unfold fndV;simp only
 go_upto_region 2 with fail
 generalize wa.alloc (.cells #[.int .i64 (q:Int),.int .i64 (m:Int),.int .i64 pb,.int .i64 (r1:Int),.int .i64 r2,.int .i64 r3,.int .i64 (j:Int),.int .i64 r5] 315)=wb at *;generalize wa.heap.size=fb at *;have hfl:fb<wb.heap.size:=(Array.getElem?_eq_some_iff.1 HKF.out).1;have c1:=(HBB.out.cell (p:=⟨c,1,none⟩) hclt).trans HK.out.c1
 have f0:wb.cell? ⟨fb,0,none⟩=some (.int .i64 (q:Int)):=by rw [cell_of_row wb _ 0 _ _ _ HKF.out];rfl
 have f3:wb.cell? ⟨fb,3,none⟩=some (.int .i64 (r1:Int)):=by rw [cell_of_row wb _ 3 _ _ _ HKF.out];rfl
 have f6:wb.cell? ⟨fb,6,none⟩=some (.int .i64 (j:Int)):=by rw [cell_of_row wb _ 6 _ _ _ HKF.out];rfl
 have hj0:¬ (j:Int)=0:=by omega
 have hj1:¬j=0:=by omega
 go_upto_region 5 with fail
 have q1:=fun d os=>cell_regrown c1 d os
 have q0:=fun d os=>cell_regrown f0 d os
 have q6:=fun d os=>cell_regrown f6 d os
 have HMQ:=hide (fun d os=>CallsIn.regrown_of (F:=Fence.wide) (r:=5) (w:=wb) (d:=d) (os:=os) (callsIn_wide.2 (HM1.out _ (HBB.out.trans ((below_regrown wb d os).mono hsb)))))
 refine wpIn_wide.1 (zJ (n:=6) 12 (by kernel_rfl) (by kernel_rfl) ?_)
 simp only [List.take_succ_cons,List.take_zero,List.drop_succ_cons,List.drop_zero]
 repeat (refine wpQuietIn_step (fun _ _ _ _=>trivial) (fun K hK=>?_);go_simp;first | (refine hK _ ?_;clear hK K) | (apply Exists.intro;refine⟨fun _=>?_,hK _ ?_⟩;(first | exact⟨trivial,HMQ.out _ _⟩ | exact HMQ.out _ _);clear hK K))
 refine wpQuietIn_nil ?_;intro _ hw';obtain⟨⟨dq,osq⟩,hw''⟩:=hw';subst hw'';have HBC:=hide (HBB.out.trans ((below_regrown wb dq osq).mono hsb));have HKG:=hide (((below_regrown wb dq osq).block fb hfl).trans HKF.out);have hfl2:=Nat.lt_of_lt_of_le hfl (below_regrown wb dq osq).size;clear q0 q1 q6 HMQ f0 f3 f6 c1 HKF hfl;generalize grow (redrawn wb dq) osq=wc at *;have hsc:=HBC.out.size
 gi_wp2_with fail
 refine⟨trivial,(callsIn_wide.2 (HRP.out _ HBC.out)).mono ?_⟩;rintro e wd ⟨rfl,hl4,hc4⟩;have HL4:=hide hl4
 have HC4:=hide ((Chg.of_below (bs:=bs) HBC.out).trans hc4 (fun _ h _=>h) (fun _ h _=>h) (ds:=bs))
 have nfb:fb∉bs:=fun h=>by have:=hbs fb h;omega
 have HKD:=hide (HK.out.chg HC4.out hcb);have kf:=(hc4.block fb hfl2 nfb).trans HKG.out;have hfl4:fb<wd.heap.size:=Nat.lt_of_lt_of_le hfl2 hc4.size
 have f0:wd.cell? ⟨fb,0,none⟩=some (.int .i64 (q:Int)):=by rw [cell_of_row wd _ 0 _ _ _ kf];rfl
 have f1:wd.cell? ⟨fb,1,none⟩=some (.int .i64 (m:Int)):=by rw [cell_of_row wd _ 1 _ _ _ kf];rfl
 have f6:wd.cell? ⟨fb,6,none⟩=some (.int .i64 (j:Int)):=by rw [cell_of_row wd _ 6 _ _ _ kf];rfl
 have c1:=HKD.out.c1;have hs4:=HC4.out.size;clear hl4 hc4 kf HKG HBC HRP HM1 HBB
 gi_wp2_with fail
 go_upto_region 6 with fail
 have q1:=fun d os=>cell_regrown c1 d os
 have q0:=fun d os=>cell_regrown f0 d os
 have qm:=fun d os=>cell_regrown f1 d os
 have q6:=fun d os=>cell_regrown f6 d os
 have w1:IntKind.i64.wrap ((r1:Int)+1)=(r1:Int)+1:=i64w _ (by omega) (by omega)
 have w2:IntKind.i64.wrap ((q:Int)+(j:Int))=(q:Int)+(j:Int):=i64w _ (by omega) (by omega)
 have w3:IntKind.i64.wrap ((m:Int) - (j:Int))=(m:Int) - (j:Int):=i64w _ (by omega) (by omega)
 have HMQ:=hide (fun d os=>CallsIn.regrown_of (F:=Fence.wide) (r:=5) (w:=wd) (d:=d) (os:=os) (callsIn_wide.2 (HM2.out _ (HC4.out.trans (Chg.of_below (bs:=[]) (below_regrown wd d os)) (fun _ h _=>h) (fun _ h _=>by cases h)))))
 refine(wpIn_wide (n:=6)).1 ?_
 refine yg 20 (.pointer (some ⟨c,0,none⟩)) (by kernel_rfl) (by kernel_rfl) (fun _ _ _ h=>h) ⟨Or.inl ⟨by rfl,?_⟩,fun w=>by rfl⟩ ?_
 ·intro w;go_simp
 simp only [List.take_succ_cons,List.take_zero,List.drop_succ_cons,List.drop_zero]
 repeat (refine wpQuietIn_step (fun _ _ _ _=>trivial) (fun K hK=>?_);go_simp;first | (refine hK _ ?_;clear hK K) | (apply Exists.intro;refine⟨fun _=>?_,hK _ ?_⟩;(first | exact⟨trivial,HMQ.out _ _⟩ | exact HMQ.out _ _);clear hK K))
 refine wpQuietIn_nil ?_;intro _ hw';obtain⟨⟨dr,osr⟩,hw''⟩:=hw';subst hw'';have HBR:=hide (below_regrown wd dr osr);clear q0 q1 qm q6 HMQ f0 f1 f6 c1 w2 w3 HM2;generalize grow (redrawn wd dr) osr=we at *;have HLE:=hide (HL4.out.below HBR.out lR)
 have HCE:=hide (HC4.out.trans (Chg.of_below (bs:=[]) HBR.out) (fun _ h _=>h) (fun _ h _=>by cases h) (ds:=bs))
 have hse:=HCE.out.size;have HKE:=hide (HK.out.chg HCE.out hcb);clear HL4 HC4 HBR HKD
 gi_wp2_with fail
 refine⟨trivial,(callsIn_wide.2 (HIN.out _ HLE.out (by omega))).mono ?_⟩
 rintro e wf ⟨u',bs',rfl,hT',nd',sub',ch'⟩;have HKF:=hide (HKE.out.chg ch' hcb);have HTF:=hide hT'
 have ncb:c∉bs':=fun h=>by
  rcases sub' c h with h | h
  ·exact hcb h
  omega
 have HSU:=hide (show ∀x∈bs',x∈bs∨w.heap.size<=x from fun x hx=>(sub' x hx).imp id (fun h=>by omega))
 have HCF:=hide (HCE.out.trans ch' (fun _ h _=>h) (fun _ h _=>h) (ds:=bs))
 have HND:=hide nd';have d1:=HKF.out.c1;have z1:=HKF.out.fz 1;clear hT' nd' sub' ch' HCE HLE HKE HIN
 gi_wp2_with fail
 go_wp2;go_ret
 exact⟨rfl,u',bs',HKF.out.set1 u',HTF.out.other ⟨c,1,none⟩ (.pointer u') ncb,HND.out,HSU.out,(HCF.out.trans (Chg.refl [] _) (fun x h _=>by simp [h]) (fun x h _=>by cases h) (ds:=c::bs)).setCell ⟨c,1,none⟩ (.pointer u') (.inl (by simp))⟩
end Go.Proofs.YtibbhecojkehfaaGreatDoor
namespace Go.Proofs.YtibbhecojkehfaaGreatDoor
open Go Go.RowKit
theorem yz {F:List Pc} (h:∀p∈F,1<=p.len):0<=lsum F:=by
 induction F with
 | nil=>simp [lsum]
 | cons p F ih=>rw [zI];have:=h p (by simp);have:=ih (fun q hq=>h q (by simp [hq]));omega
theorem JY {F:List Pc} {r:Nat} {p:Pc} (h:∀p∈F,1<=p.len) (hr:F[r]? =some p):p.len<=lsum F:=by
 have e:=(zX hr).1
 have h1:=yz (F:=F.take r) (fun q hq=>h q (List.mem_of_mem_take hq))
 have h2:=yz (F:=F.drop (r+1)) (fun q hq=>h q (List.mem_of_mem_drop hq))
 have:lsum F=lsum (F.take r)+(p.len+lsum (F.drop (r+1))):=by
  conv=>lhs;rw [e]
  rw [zL,zI]
 omega
theorem ZU:∀ (T:AT) (k:Nat) (p:Pc),T.flat[k]? =some p->seekP (fun _=>1) T (k:Int)=p
 | .nil,k,p,h=>by simp [AT.flat]at h
 | .node l q r,k,p,h=>by
  have e0:sumM (fun _=>1) (l.told 0)=(l.its:Int):=by
   have:∀xs:List It,sumM (fun _=>1) xs=(xs.length:Int):=by
    intro xs
    induction xs with
    | nil=>rfl
    | cons x xs ih=>simp only [sumM,ih,List.length_cons];omega
   rw [this,AT.told_length]
  have hl:=AT.flat_its l;simp only [AT.flat]at h;simp only [seekP,e0]
  by_cases c1:(k:Int)<l.its
  ·rw [if_pos c1]
   rw [List.getElem?_append_left (by omega)]at h
   exact ZU l k p h
  rw [if_neg c1]
  rw [List.getElem?_append_right (by omega)]at h
  by_cases c2:(k:Int) - l.its<1
  ·rw [if_pos c2]
   rw [show k - l.flat.length=0 by omega,List.getElem?_cons_zero]at h
   exact Option.some.inj h
  rw [if_neg c2]
  rw [show k - l.flat.length=(k - l.its - 1)+1 by omega,List.getElem?_cons_succ]at h
  rw [show(k:Int) - (l.its:Int) - 1=((k - l.its - 1:Nat):Int)by omega]
  exact ZU r _ p h
def ahead (T:AT) (R:Nat):Pc:=T.flat.getD (R - 1) ⟨0,0,0⟩
theorem zq {T:AT} {R:Nat} (h0:0<R) (h:R<=T.its):T.flat[R - 1]? =some (ahead T R):=by
 have:=AT.flat_its T
 rw [ahead,List.getD_eq_getElem?_getD,List.getElem?_eq_getElem (by omega)]
 rfl
def meetB (n:Nat) (T:AT) (R:Nat):Bool:=decide (0<R∧(ahead T R).off+(ahead T R).len=(n:Int))
def addP (S:List Int) (n:Nat) (T:AT) (R:Nat):AT:=
 if meetB n T R=true then T.put (R - 1) (pcAt S (ahead T R).off ((ahead T R).len+((S.length:Int) - n)))else T.ins R (pcAt S n ((S.length:Int) - n))
def insP (S:List Int) (n:Nat) (T:AT) (off:Int):AT:=addP S n (cutP S T off) (cutN T off)
theorem Ys {S:List Int} {n:Nat} {T:AT} {R:Nat} (h:T.ok) (hw:T.wp S) (hR:R<=T.its) (hn:n<S.length) (hS:S.length<=220000) (hr:T.rns+((S.length:Int) - n)<=8192):(addP S n T R).ok:=by
 have hp:=zp h;have hnn:=yz hp;rw [AT.rns_lsum]at hr;unfold addP
 split
 ·rename_i hm
  simp only [meetB,decide_eq_true_eq]at hm;have ha:=zq hm.1 hR;have hlen:=JY hp ha;have hk:=h.1 _ (List.mem_of_getElem? ha);simp only [pcOk,decide_eq_true_eq]at hk;have hf:=zx T (R - 1) (pcAt S (ahead T R).off ((ahead T R).len+((S.length:Int) - n))) _ ha
  refine⟨fun q hq=>?_,?_⟩
  ·rw [hf]at hq
   simp only [List.mem_append,List.mem_cons]at hq
   rcases hq with hq | rfl | hq
   ·exact h.1 q (List.mem_of_mem_take hq)
   ·exact jW (by omega) (by omega) (by omega) (by omega) hS
   exact h.1 q (List.mem_of_mem_drop hq)
  rw [AT.rns_lsum,hf,zL,zI];have e:=(zX ha).1
  have:lsum T.flat=lsum (T.flat.take (R - 1))+((ahead T R).len+lsum (T.flat.drop (R - 1+1))):=by
   conv=>lhs;rw [e]
   rw [zL,zI]
  simp only [pcAt];omega
 refine⟨fun q hq=>?_,?_⟩
 ·rw [AT.ins_flat _ _ _ hR]at hq
  simp only [List.mem_append,List.mem_cons]at hq
  rcases hq with hq | rfl | hq
  ·exact h.1 q (List.mem_of_mem_take hq)
  ·exact jW (by omega) (by omega) (by omega) (by omega) hS
  exact h.1 q (List.mem_of_mem_drop hq)
 rw [AT.rns_lsum,AT.ins_flat _ _ _ hR,zL,zI]
 have:lsum T.flat=lsum (T.flat.take R)+lsum (T.flat.drop R):=by rw [<- zL,List.take_append_drop]
 simp only [pcAt];omega
theorem addP_bal {S:List Int} {n:Nat} {T:AT} {R:Nat} (hb:T.bal):(addP S n T R).bal:=by
 unfold addP
 split
 ·exact AT.put_bal _ _ _ hb
 exact(AT.ins_bal _ _ _ hb).1
theorem insP_ok {S:List Int} {n:Nat} {T:AT} {off:Int} (h:T.ok) (hw:T.wp S) (h0:0<=off) (h1:off<=T.rns) (hn:n<S.length) (hS:S.length<=220000) (hr:T.rns+((S.length:Int) - n)<=8192):(insP S n T off).ok:=
 Ys (jX h hw hS h0 h1) (yy h hw h0 h1) (y9 h h0 h1).1 hn hS (by rw [AT.rns_lsum,jQ h h0 h1,<- AT.rns_lsum];exact hr)
theorem insP_bal {S:List Int} {n:Nat} {T:AT} {off:Int} (hb:T.bal):(insP S n T off).bal:=addP_bal (ZA hb)
theorem measI (i n k:Int) (w:World):Calls Tryz.prog 206 #[cnt i n k] w fun e w'=>e= .returned (.int .i64 i)∧Below w.heap.size w w':=by
 unfold cnt;go_enter Tryz.func206,Tryz.ntmps206;go_wp2;go_ret;exact⟨rfl,(Below.refl _ _).alloc lR _⟩
theorem JZ:∀xs:List It,sumM (fun _=>1) xs=(xs.length:Int)
 | []=>rfl
 | x::xs=>by simp only [sumM,JZ xs,List.length_cons];omega
theorem sumM_okI {T:AT} (h:T.ok):sumM (fun _=>1) (T.told 0)=(T.its:Int):=by
 rw [JZ,AT.told_length]
theorem seekEI (T:AT) (u:Option Addr) (bs:List Nat) (base:Nat) (k:Int) (w:World) (hT:Lies w base T u bs) (hok:T.ok) (hk:0<=k∧k<=8192):
  Calls Tryz.prog 198 #[.pointer u,.int .i64 k,.func (.func 206) #[] #[]] w fun e w'=>e= .returned (fndV (seekP (fun _=>1) T k).off (seekP (fun _=>1) T k).len (seekP (fun _=>1) T k).brk (seekT (fun _=>1) T k))∧Below w.heap.size w w':=by
 have HRES:=hide (ZB (fun _=>1) T k)
 generalize seekT (fun _=>1) T k=res at HRES |-
 generalize hpe:seekP (fun _=>1) T k=pe
 have HPE:=hide hpe.symm;clear hpe;have HT:=hide hT;have HOK:=hide hok;have bT:=hok.bd
 have hhT:(T.ht:Int)<=8192:=by have:=zi T;omega
 have HB0:=hide (((Below.refl w.heap.size w).alloc lR (.cells #[.int .i64 0,.int .i64 0,.int .i64 0,.int .i64 0,.int .i64 0,.int .i64 0,.int .i64 0,.int .i64 0] 315)).alloc (by simp) (.cells #[.int .i64 0,.int .i64 0,.int .i64 0,.int .i64 0,.int .i64 0,.int .i64 0,.int .i64 0,.int .i64 0] 315))
 have hF0:Fnd ((w.alloc (.cells #[.int .i64 0,.int .i64 0,.int .i64 0,.int .i64 0,.int .i64 0,.int .i64 0,.int .i64 0,.int .i64 0] 315)).alloc (.cells #[.int .i64 0,.int .i64 0,.int .i64 0,.int .i64 0,.int .i64 0,.int .i64 0,.int .i64 0,.int .i64 0] 315)) (w.heap.size+1) 0 0 0 0 0 0 0 0:=by
  have:=heap_alloc_new (w.alloc (.cells #[.int .i64 0,.int .i64 0,.int .i64 0,.int .i64 0,.int .i64 0,.int .i64 0,.int .i64 0,.int .i64 0] 315)) (.cells #[.int .i64 0,.int .i64 0,.int .i64 0,.int .i64 0,.int .i64 0,.int .i64 0,.int .i64 0,.int .i64 0] 315);simpa [Fnd]using this
 have hG0:Fnd ((w.alloc (.cells #[.int .i64 0,.int .i64 0,.int .i64 0,.int .i64 0,.int .i64 0,.int .i64 0,.int .i64 0,.int .i64 0] 315)).alloc (.cells #[.int .i64 0,.int .i64 0,.int .i64 0,.int .i64 0,.int .i64 0,.int .i64 0,.int .i64 0,.int .i64 0] 315)) w.heap.size 0 0 0 0 0 0 0 0:=by
  unfold Fnd;rw [Below.heap_alloc _ _ _ (by simp)];exact heap_alloc_new _ _
 have HF0:=hide hF0;have HG0:=hide hG0;clear hT hok hF0 hG0;go_enter Tryz.func198,Tryz.ntmps198;go_wp2_with fail;generalize (w.alloc (.cells #[.int .i64 0,.int .i64 0,.int .i64 0,.int .i64 0,.int .i64 0,.int .i64 0,.int .i64 0,.int .i64 0] 315)).alloc (.cells #[.int .i64 0,.int .i64 0,.int .i64 0,.int .i64 0,.int .i64 0,.int .i64 0,.int .i64 0,.int .i64 0] 315)=w0 at *
 go_loopg [0,1] T.ht (fun g pv kv wr=>∃ (S:AT) (us:Option Addr) (cs:List Nat) (kk:Int) (i:Nat) (n b s:Int),pv= .pointer us∧kv= .int .i64 kk∧g=S.ht∧Lies w base S us cs∧S.ok∧(0<=kk∧kk<=8192)∧
  ((i:Int)+S.its<=8192∧0<=n∧n+S.rns<=8192∧0<=b∧b+S.bks<=8192∧0<=s∧s+S.ht<=8192)∧Fnd wr (w.heap.size+1) 0 0 0 i n b 0 s∧Fnd wr w.heap.size 0 0 0 0 0 0 0 0∧Below w.heap.size w wr∧res=zr (fun _=>1) S kk i n b s∧Hid (pe=seekP (fun _=>1) S kk))
 case atStart=>exact⟨T,u,bs,k,0,0,0,0,rfl,rfl,rfl,HT.out,HOK.out,hk,by omega,HF0.out,HG0.out,HB0.out,HRES.out,HPE⟩
 obtain⟨S,us,cs,kk,i,n,b,s,rfl,rfl,rfl,hS,hSok,hkk,hbd,hF,hG,hbw,heq,hpe⟩:=hrel;clear HT HOK HRES HPE HB0 HF0 HG0 bT hhT;have hFl:=hF.lt;have hGl:=hG.lt
 cases S with
 | nil=>
  obtain⟨rfl,rfl⟩:=hS;rw [Za]at heq;have HEQ:=hide heq;have HF:=hide hF;have HG:=hide hG;have HBW:=hide hbw;obtain⟨p0,p1,p2,f0,f1,f2,f3,f4⟩:=hF.c;obtain⟨g0,g1,g2,g3,g4,g5,g6,g7⟩:=hG.c;have ff3:=hF.fz 6
  have hz:=fun j=>hG.fz j
  have z0:=hz 0;have z1:=hz 1;have z2:=hz 2;have z3:=hz 3;have z4:=hz 4;have z5:=hz 5;have z6:=hz 6;have z7:=hz 7;clear heq hF hG hbw hbd hz;go_wp2
  refine bodyPost_ret (v:=fndV 0 0 0 (i,n,b,kk,s)) (by simp [results,Tryz.results198,go_sem,g0,g1,g2,g3,g4,g5,g6,g7];rfl) rfl ⟨by rw [HEQ.out,hpe.out];rfl,?_⟩
  repeat (refine Below.setCell ?_ (by simp) _)
  exact HBW.out
 | node l p r=>
  obtain⟨nb,ul,ur,bl,br,rfl,hbase,hnd,hl,hr,rfl⟩:=hS;have bL:=hSok.left.bd;have bR:=hSok.right.bd;have bP:=hSok.piece;have hsl:=sumM_okI hSok.left
  have hht:((AT.node l p r).ht:Int)=1+max (l.ht:Int) r.ht:=by simp only [AT.ht];omega
  have hit:((AT.node l p r).its:Int)=l.its+1+r.its:=by simp only [AT.its];omega
  have hrn:(AT.node l p r).rns=l.rns+p.len+r.rns:=rfl;have hbk:(AT.node l p r).bks=l.bks+p.brk+r.bks:=rfl;rw [hht,hit,hrn,hbk]at hbd
  have hms:0<=(l.its:Int)∧(l.its:Int)<=8192∧0<=1∧1<=8192:=by omega
  have HTL:Hid (kk<sumM (fun _=>1) (l.told 0)↔kk<(l.its:Int)):=by rw [hsl];exact Iff.rfl
  have HSL:=hide hsl;have HEQ0:=hide heq;have HL:=hide hl;have HR:=hide hr;have HND:=hide hnd;have HOK:=hide hSok;have hltb:=hnd.lt;have HF1:=hide (hF.set7 (s+1))
  have HG1:=hide (show Fnd (wr.setCell ⟨w.heap.size+1,7,none⟩ (.int .i64 (s+1))) w.heap.size 0 0 0 0 0 0 0 0 from by unfold Fnd;rw [heap_setCell_other _ _ _ _ (by simp)];exact hG)
  have HB1:=hide (hbw.setCell (p:=⟨w.heap.size+1,7,none⟩) (by simp) (.int .i64 (s+1)))
  obtain⟨p0,p1,p2,f0,f1,f2,f3,f4⟩:=hF.c;have ff4:=hF.fz 7;have c3:=(hbw.cell (p:=⟨nb,3,none⟩) hltb).trans hnd.c3;have c3':(wr.setCell ⟨w.heap.size+1,7,none⟩ (.int .i64 (s+1))).cell? ⟨nb,3,none⟩=some (.pointer ul):=(HB1.out.cell (p:=⟨nb,3,none⟩) hltb).trans hnd.c3;clear heq hF hG hbw hl hr hnd hSok hsl hht hit hrn hbk;go_wp2_with fail;generalize wr.setCell ⟨w.heap.size+1,7,none⟩ (.int .i64 (s+1))=w1 at *;have hlw1:=HF1.out.lt;refine(allN l ul bl base w1 (HL.out.below HB1.out lR)).mono ?_;rintro e w2 ⟨rfl,hb2⟩
  have HF2:=hide (HF1.out.below hb2 (by omega))
  have HG2:=hide (HG1.out.below hb2 (by omega))
  have HB2:=hide (HB1.out.trans (hb2.mono (by omega)))
  clear hb2 HF1 HG1 HB1 c3' c3 p0 p1 p2 f0 f1 f2 f3 f4 ff4;have hlw2:=HF2.out.lt;go_wp2_with fail;refine(ownN p nb ul ur _ _ _ _ w2 ((HB2.out.block nb hltb).trans HND.out)).mono ?_;rintro e w3 ⟨rfl,hb3⟩;have hlw3:=hb3.size
  have HF3:=hide ((HF2.out.below hb3 (by omega)).below (((Below.refl w3.heap.size w3).alloc lR (.cells #[.int .i64 l.its,.int .i64 l.rns,.int .i64 l.bks] 152)).alloc (by simp) (.cells #[.int .i64 1,.int .i64 p.len,.int .i64 p.brk] 152)) (by omega))
  have HG3:=hide ((HG2.out.below hb3 (by omega)).below (((Below.refl w3.heap.size w3).alloc lR (.cells #[.int .i64 l.its,.int .i64 l.rns,.int .i64 l.bks] 152)).alloc (by simp) (.cells #[.int .i64 1,.int .i64 p.len,.int .i64 p.brk] 152)) (by omega))
  have HB3:=hide ((((HB2.out.trans (hb3.mono (by omega)))).alloc (by omega) (.cells #[.int .i64 l.its,.int .i64 l.rns,.int .i64 l.bks] 152)).alloc (by simp;omega) (.cells #[.int .i64 1,.int .i64 p.len,.int .i64 p.brk] 152))
  clear hb3 HF2 HG2 HB2
  have hA:((w3.alloc (.cells #[.int .i64 l.its,.int .i64 l.rns,.int .i64 l.bks] 152)).alloc (.cells #[.int .i64 1,.int .i64 p.len,.int .i64 p.brk] 152)).heap[w3.heap.size]? =some (.cells #[.int .i64 l.its,.int .i64 l.rns,.int .i64 l.bks] 152 (0,0)):=by
   rw [Below.heap_alloc _ _ _ (by simp)];exact heap_alloc_new _ _
  have hO:((w3.alloc (.cells #[.int .i64 l.its,.int .i64 l.rns,.int .i64 l.bks] 152)).alloc (.cells #[.int .i64 1,.int .i64 p.len,.int .i64 p.brk] 152)).heap[w3.heap.size+1]? =some (.cells #[.int .i64 1,.int .i64 p.len,.int .i64 p.brk] 152 (0,0)):=by
   have:=heap_alloc_new (w3.alloc (.cells #[.int .i64 l.its,.int .i64 l.rns,.int .i64 l.bks] 152)) (.cells #[.int .i64 1,.int .i64 p.len,.int .i64 p.brk] 152);simpa using this
  have hs4:((w3.alloc (.cells #[.int .i64 l.its,.int .i64 l.rns,.int .i64 l.bks] 152)).alloc (.cells #[.int .i64 1,.int .i64 p.len,.int .i64 p.brk] 152)).heap.size=w3.heap.size+2:=by simp
  have RN4:=hide (Rnd.mk HF3.out HG3.out HB3.out hA hO (by omega) (by omega))
  clear hA hO hs4 HF3 HG3 HB3;unfold cnt;go_wp2_with fail;generalize (w3.alloc (.cells #[.int .i64 l.its,.int .i64 l.rns,.int .i64 l.bks] 152)).alloc (.cells #[.int .i64 1,.int .i64 p.len,.int .i64 p.brk] 152)=w4 at *;generalize w3.heap.size=a at *;have ha:=RN4.out.lo;refine(measI _ _ _ w4).mono ?_;rintro e w5 ⟨rfl,hb5⟩;have RN5:=hide (RN4.out.below hb5);clear hb5 RN4;have c3:=(RN5.out.h.cell (p:=⟨nb,3,none⟩) hltb).trans HND.out.c3;have sz5:=RN5.out.sz
  by_cases hlt:kk<(l.its:Int)
  ·have HEQ:=hide (HEQ0.out.trans (ZC _ _ _ _ _ _ _ _ _ (HTL.out.2 hlt)))
   have HPL:Hid (pe=seekP (fun _=>1) l kk):=hide (hpe.out.trans (by simp only [seekP];rw [if_pos (HTL.out.2 hlt)]))
   clear HEQ0 HTL hpe;go_wp2;go_roundg l.ht
   case measure=>simp only [AT.ht];omega
   exact⟨l,ul,bl,kk,i,n,b,s+1,rfl,rfl,rfl,HL.out,HOK.out.left,hkk,by omega,RN5.out.f,RN5.out.g,RN5.out.h,HEQ.out,HPL⟩
  have hnl:=fun h=>hlt (HTL.out.1 h)
  obtain⟨l0,l1,l2⟩:=cc3 RN5.out.l;go_wp2_with fail;refine(measI _ _ _ w5).mono ?_;rintro e w6 ⟨rfl,hb6⟩;have RN6:=hide (RN5.out.below hb6);clear hb6 RN5 c3 l0 l1 l2;obtain⟨l0,l1,l2⟩:=cc3 RN6.out.l;obtain⟨p0,p1,p2,f0,f1,f2,f3,f4⟩:=RN6.out.f.c;have sz6:=RN6.out.sz;go_wp2_with fail
  refine(plusN _ _ _ _ _ _ w6 (by omega) (by omega) (by omega) (by omega) (by omega) (by omega)).mono ?_
  rintro e w7 ⟨rfl,hb7⟩;have RN7:=hide (RN6.out.below hb7);clear hb7 RN6 l0 l1 l2 p0 p1 p2 f0 f1 f2 f3 f4;obtain⟨p0,p1,p2,f0,f1,f2,f3,f4⟩:=RN7.out.f.c;have ff0:=RN7.out.f.fz 3;have ff1:=RN7.out.f.fz 4;have ff2:=RN7.out.f.fz 5;have RN8:=hide (RN7.out.set345 (i+l.its) (n+l.rns) (b+l.bks));have sz7:=RN7.out.sz;obtain⟨o0,o1,o2⟩:=cc3 RN8.out.o;unfold cnt;go_wp2_with fail;generalize ((w7.setCell ⟨w.heap.size+1,3,none⟩ (.int .i64 (i+l.its))).setCell ⟨w.heap.size+1,4,none⟩ (.int .i64 (n+l.rns))).setCell ⟨w.heap.size+1,5,none⟩ (.int .i64 (b+l.bks))=w8 at *;clear RN7 p0 p1 p2 f0 f1 f2 f3 f4 ff0 ff1 ff2;refine(measI _ _ _ w8).mono ?_;rintro e w9 ⟨rfl,hb9⟩;have RN9:=hide (RN8.out.below hb9);clear hb9 RN8 o0 o1 o2;have sz9:=RN9.out.sz
  by_cases hin:kk - (l.its:Int)<1
  ·have HEQ:=hide (HEQ0.out.trans (ZD _ _ _ _ _ _ _ _ _ hnl (by rw [HSL.out];exact hin)))
   have HPH:Hid (pe=p):=hide (hpe.out.trans (by simp only [seekP];rw [if_neg hnl,if_pos (by rw [HSL.out];exact hin)]))
   rw [HSL.out]at HEQ;clear HEQ0 HTL HSL hnl hpe;obtain⟨p0,p1,p2,f0,f1,f2,f3,f4⟩:=RN9.out.f.c;obtain⟨g0,g1,g2,g3,g4,g5,g6,g7⟩:=RN9.out.g.c;have ff3:=RN9.out.f.fz 6;have z0:=RN9.out.g.fz 0;have z1:=RN9.out.g.fz 1;have z2:=RN9.out.g.fz 2;have z3:=RN9.out.g.fz 3;have z4:=RN9.out.g.fz 4;have z5:=RN9.out.g.fz 5;have z6:=RN9.out.g.fz 6;have z7:=RN9.out.g.fz 7;have e0:=RN9.out.f.fz 0;have e1:=RN9.out.f.fz 1;have e2:=RN9.out.f.fz 2;have d0:=(RN9.out.h.cell (p:=⟨nb,0,none⟩) hltb).trans HND.out.c0;have d1:=(RN9.out.h.cell (p:=⟨nb,1,none⟩) hltb).trans HND.out.c1;have d2:=(RN9.out.h.cell (p:=⟨nb,2,none⟩) hltb).trans HND.out.c2
   have hnb1:nb≠w.heap.size+1:=by omega
   have hnb0:nb≠w.heap.size:=by omega
   go_wp2
   refine bodyPost_ret (v:=fndV p.off p.len p.brk (i+l.its,n+l.rns,b+l.bks,kk - (l.its:Int),s+1)) (by simp [results,Tryz.results198,go_sem,g0,g1,g2,g3,g4,g5,g6,g7];rfl) rfl ⟨by rw [HEQ.out,HPH.out],?_⟩
   repeat (refine Below.setCell ?_ (by simp) _)
   exact RN9.out.h
  have HEQ:=hide (HEQ0.out.trans (jc _ _ _ _ _ _ _ _ _ hnl (by rw [HSL.out];exact hin)))
  have HPR:Hid (pe=seekP (fun _=>1) r (kk - (l.its:Int) - 1)):=hide (hpe.out.trans (by simp only [seekP];rw [if_neg hnl,if_neg (by rw [HSL.out];exact hin),HSL.out]))
  rw [HSL.out]at HEQ;clear HEQ0 HTL HSL hnl hpe;obtain⟨o0,o1,o2⟩:=cc3 RN9.out.o;go_wp2_with fail;refine(measI _ _ _ w9).mono ?_;rintro e w10 ⟨rfl,hb10⟩;have RN10:=hide (RN9.out.below hb10);clear hb10 RN9 o0 o1 o2;obtain⟨o0,o1,o2⟩:=cc3 RN10.out.o;obtain⟨p0,p1,p2,f0,f1,f2,f3,f4⟩:=RN10.out.f.c;have sz10:=RN10.out.sz;go_wp2_with fail
  refine(plusN _ _ _ _ _ _ w10 (by omega) (by omega) (by omega) (by omega) (by omega) (by omega)).mono ?_
  rintro e w11 ⟨rfl,hb11⟩;have RN11:=hide (RN10.out.below hb11);clear hb11 RN10 o0 o1 o2 p0 p1 p2 f0 f1 f2 f3 f4;obtain⟨p0,p1,p2,f0,f1,f2,f3,f4⟩:=RN11.out.f.c;have ff0:=RN11.out.f.fz 3;have ff1:=RN11.out.f.fz 4;have ff2:=RN11.out.f.fz 5;have RN12:=hide (RN11.out.set345 (i+l.its+1) (n+l.rns+p.len) (b+l.bks+p.brk));have sz11:=RN11.out.sz;have c4:=(RN12.out.h.cell (p:=⟨nb,4,none⟩) hltb).trans HND.out.c4;unfold cnt;go_wp2;go_roundg r.ht
  case measure=>simp only [AT.ht];omega
  exact⟨r,ur,br,kk - (l.its:Int) - 1,i+l.its+1,n+l.rns+p.len,b+l.bks+p.brk,s+1,rfl,rfl,rfl,HR.out,HOK.out.right,by omega,by omega,RN12.out.f,RN12.out.g,RN12.out.h,HEQ.out,HPR⟩
end Go.Proofs.YtibbhecojkehfaaGreatDoor
namespace Go.Proofs.YtibbhecojkehfaaGreatDoor
open Go Go.RowKit Go.Shelf Go.Sort
theorem cutB (c b o n cap r1:Nat) (off x y pb r2 r3 r5:Int) (u:Option Addr) (w:World) (hk:PK w c b o n cap u)
  (HSK:Hid (Calls Tryz.prog 198 #[.pointer u,.int .i64 off,.func (.func 199) #[] #[]] w fun e w'=>e= .returned (fndV x y pb (r1,r2,r3,0,r5))∧Below w.heap.size w w')):
  Calls Tryz.prog 192 #[.pointer (some ⟨c,0,none⟩),.int .i64 off] w fun e w'=>e= .returned (.int .i64 (r1:Int))∧Below w.heap.size w w':=by
 have c1:=hk.c1;clear hk;go_enter Tryz.func192,Tryz.ntmps192;go_wp2_with fail;refine HSK.out.mono ?_;rintro e wa ⟨rfl,hba⟩;have HBB:=hide (hba.alloc hba.size (.cells #[.int .i64 x,.int .i64 y,.int .i64 pb,.int .i64 (r1:Int),.int .i64 r2,.int .i64 r3,.int .i64 0,.int .i64 r5] 315));have KF:(wa.alloc (.cells #[.int .i64 x,.int .i64 y,.int .i64 pb,.int .i64 (r1:Int),.int .i64 r2,.int .i64 r3,.int .i64 0,.int .i64 r5] 315)).heap[wa.heap.size]? =some (.cells #[.int .i64 x,.int .i64 y,.int .i64 pb,.int .i64 (r1:Int),.int .i64 r2,.int .i64 r3,.int .i64 0,.int .i64 r5] 315 (0,0)):=heap_alloc_new _ _;have HKF:=hide KF;clear hba HSK c1 KF;unfold fndV;simp only
 go_upto_region 2 with fail
 generalize wa.alloc (.cells #[.int .i64 x,.int .i64 y,.int .i64 pb,.int .i64 (r1:Int),.int .i64 r2,.int .i64 r3,.int .i64 0,.int .i64 r5] 315)=wb at *;generalize wa.heap.size=fb at *
 have f3:wb.cell? ⟨fb,3,none⟩=some (.int .i64 (r1:Int)):=by rw [cell_of_row wb _ 3 _ _ _ HKF.out];rfl
 have f6:wb.cell? ⟨fb,6,none⟩=some (.int .i64 0):=by rw [cell_of_row wb _ 6 _ _ _ HKF.out];rfl
 go_wp2;go_ret;exact⟨rfl,HBB.out⟩
theorem PM.below {w w':World} {base c b o cap:Nat} {S:List Int} {T:AT} {u:Option Addr} {bs:List Nat} (h:PM w base c b o cap S T u bs) (hb:Below w.heap.size w w'):PM w' base c b o cap S T u bs:=
 ⟨h.k.below hb h.k.lt,h.t.below hb lR,h.nd,h.cb,h.bb,h.bc,fun i hi=>(hb.cell (p:=⟨b,o+i,none⟩) h.lb).trans (h.rt i hi),Nat.lt_of_lt_of_le h.lb hb.size,h.cap1,h.cap2,h.n⟩
theorem cutI (S:List Int) (T:AT) (u:Option Addr) (bs:List Nat) (base c b o cap:Nat) (off:Int) (w:World) (h:PM w base c b o cap S T u bs) (hok:T.ok) (hbal:T.bal) (hw:T.wp S) (h0:0<=off) (h1:off<=T.rns) (hbase:base<=w.heap.size):
  Calls Tryz.prog 192 #[.pointer (some ⟨c,0,none⟩),.int .i64 off] w fun e w'=>e= .returned (.int .i64 (cutN T off:Nat))∧∃u' bs',PM w' base c b o cap S (cutP S T off) u' bs'∧(∀x∈bs',x∈bs∨w.heap.size<=x)∧Chg (c::bs) w w':=by
 have hb8:=hok.bd;obtain⟨a,b1,cc⟩:=sk_at hok h0 h1
 have hsk:=seekER T u bs base off w h.t hok (by omega)
 have hS:=h.n
 by_cases hi:skI T off=0
 ·have hsk':Calls Tryz.prog 198 #[.pointer u,.int .i64 off,.func (.func 199) #[] #[]] w fun e w'=>e= .returned (fndV (seekP (fun p=>p.len) T off).off (seekP (fun p=>p.len) T off).len (seekP (fun p=>p.len) T off).brk (skR T off,(seekT (fun p=>p.len) T off).2.1,(seekT (fun p=>p.len) T off).2.2.1,0,(seekT (fun p=>p.len) T off).2.2.2.2))∧Below w.heap.size w w':=by
   have e:seekT (fun p=>p.len) T off=(skR T off,(seekT (fun p=>p.len) T off).2.1,(seekT (fun p=>p.len) T off).2.2.1,0,(seekT (fun p=>p.len) T off).2.2.2.2):=by rw [<- hi];rfl
   rw [<- e];exact hsk
  refine(cutB c b o S.length cap (skR T off) off _ _ _ _ _ _ u w h.k (hide hsk')).mono ?_;rintro e w' ⟨rfl,hb⟩
  refine⟨by rw [cutN,if_pos hi];rfl,u,bs,?_,fun x hx=>.inl hx,Chg.of_below hb⟩
  rw [cutP,if_pos hi];exact h.below hb
 obtain⟨c1,c2,c3⟩:=cc.resolve_left hi;have hp:=(zQ S T).1 hw _ (List.mem_of_getElem? c3);have hpk:=hok.1 _ (List.mem_of_getElem? c3);simp only [pcOk,decide_eq_true_eq]at hpk;have hp3:=hp.2.2.1;have hrl:=(zX c3).2;rw [AT.flat_its]at hrl;have hok1:=jX hok hw hS h0 h1
 have hputok:(T.put (skR T off) (pcAt S (skP T off).off (skI T off))).ok:=by
  have hf:=zx T (skR T off) (pcAt S (skP T off).off (skI T off)) _ c3
  refine⟨fun q hq=>?_,?_⟩
  ·rw [hf]at hq
   simp only [List.mem_append,List.mem_cons]at hq
   rcases hq with hq | rfl | hq
   ·exact hok.1 q (List.mem_of_mem_take hq)
   ·exact jW (by omega) (by omega) (by omega) (by omega) hS
   exact hok.1 q (List.mem_of_mem_drop hq)
  have h9:=hok.2;rw [AT.rns_lsum]at h9 |-;rw [hf,zL,zI]
  have:lsum T.flat=lsum (T.flat.take (skR T off))+((skP T off).len+lsum (T.flat.drop (skR T off+1))):=by
   conv=>lhs;rw [(zX c3).1]
   rw [zL,zI]
  simp only [pcAt];omega
 obtain⟨q,hq⟩:∃q:Nat,(skP T off).off=q:=⟨(skP T off).off.toNat,by omega⟩
 obtain⟨m,hm⟩:∃m:Nat,(skP T off).len=m:=⟨(skP T off).len.toNat,by omega⟩
 obtain⟨j,hj⟩:∃j:Nat,skI T off=j:=⟨(skI T off).toNat,by omega⟩
 have hsk':Calls Tryz.prog 198 #[.pointer u,.int .i64 off,.func (.func 199) #[] #[]] w fun e w'=>e= .returned (fndV (q:Int) (m:Int) (skP T off).brk (skR T off,(seekT (fun p=>p.len) T off).2.1,(seekT (fun p=>p.len) T off).2.2.1,(j:Int),(seekT (fun p=>p.len) T off).2.2.2.2))∧Below w.heap.size w w':=by
  have e:seekT (fun p=>p.len) T off=(skR T off,(seekT (fun p=>p.len) T off).2.1,(seekT (fun p=>p.len) T off).2.2.1,(j:Int),(seekT (fun p=>p.len) T off).2.2.2.2):=by rw [<- hj];rfl
  rw [<- e,<- hq,<- hm];exact hsk
 have hbl:∀x∈bs,x<w.heap.size:=fun x hx=>(h.t.lt x hx).2
 have key:=cutA c b o S.length cap q m j (skR T off) base off (skP T off).brk _ _ _ u (T.put (skR T off) (pcAt S (skP T off).off (skI T off))) (cutP S T off) bs (pcAt S (skP T off).off (skI T off)) (pcAt S ((skP T off).off+skI T off) ((skP T off).len - skI T off)) w h.k h.cb hbl (by omega) (by omega) (by omega) (by omega) (by omega) (by omega) hbase (hide hsk')
  (hide fun W hW=>by
   have:=ZE S c b o cap q j W (fun i hi=>(hW.cell (p:=⟨b,o+i,none⟩) h.lb).trans (h.rt i hi)) ((hW.cell (p:=⟨c,0,none⟩) h.k.lt).trans h.k.c0) (Nat.lt_of_lt_of_le h.lb hW.size) (Nat.lt_of_lt_of_le h.k.lt hW.size) (by omega) (by omega) h.cap1 h.cap2 (by omega)
   simp only [pcAt,hq,hj,Int.toNat_natCast]
   exact this)
  (hide fun W hW=>JV T (skR T off) _ u bs base W hok hputok hrl (h.t.frame fun x hx=>hW.block x (hbl x hx)) h.nd)
  (hide fun W hW=>by
   have ek:PK W c b o S.length cap u:=h.k.chg hW h.cb;have er:=h.rt.chg hW h.lb h.bb
   have:=ZE S c b o cap (q+j) (m - j) W er ek.c0 (Nat.lt_of_lt_of_le h.lb hW.size) ek.lt (by omega) (by omega) h.cap1 h.cap2 (by omega)
   have e1:((q+j:Nat):Int)=(q:Int)+(j:Int):=by omega
   have e2:((m - j:Nat):Int)=(m:Int) - (j:Int):=by omega
   rw [e1,e2]at this;simp only [pcAt,hq,hj,hm]
   rw [show((q:Int)+(j:Int)).toNat=q+j by omega,show((m:Int) - (j:Int)).toNat=m - j by omega]
   exact this)
  (hide fun W hl hbW=>by
   have e3:((skR T off+1:Nat):Int)=(skR T off:Int)+1:=by omega
   rw [<- e3]
   have hcp:cutP S T off=(T.put (skR T off) (pcAt S (skP T off).off (skI T off))).ins (skR T off+1) (pcAt S ((skP T off).off+skI T off) ((skP T off).len - skI T off)):=by rw [cutP,if_neg hi]
   rw [hcp]at hok1 |-
   exact Xy (T.put (skR T off) (pcAt S (skP T off).off (skI T off))) (skR T off+1) _ u bs base W (AT.put_bal _ _ _ hbal) hok1 (by rw [AT.put_its];omega) hl h.nd hbW)
 refine key.mono ?_;rintro e w' ⟨rfl,u',bs',k',t',nd',sub',ch'⟩
 refine⟨by rw [cutN,if_neg hi];rfl,u',bs',⟨k',t',nd',?_,?_,h.bc,h.rt.chg ch' h.lb ?_,Nat.lt_of_lt_of_le h.lb ch'.size,h.cap1,h.cap2,h.n⟩,sub',ch'⟩
 ·intro hc
  rcases sub' c hc with h9 | h9
  ·exact h.cb h9
  have:=h.k.lt;omega
 ·intro hc
  rcases sub' b hc with h9 | h9
  ·exact h.bb h9
  have:=h.lb;omega
 intro hc
 rcases List.mem_cons.1 hc with h9 | h9
 ·exact h.bc h9
 exact h.bb h9
theorem Tryz.fldE (x y z r s t u v:Value) (w:World):(Instr.field 315 (.agg #[x,y,z,r,s,t,u,v]) 0).run Tryz.prog w= .ok (.agg #[x,y,z]) w:=by kernel_rfl
theorem Yu (T:AT) (u:Option Addr) (bs:List Nat) (base c b o n cap k:Nat) (p:Pc) (w:World) (hk:PK w c b o n cap u) (ht:Lies w base T u bs) (hok:T.ok) (hp:T.flat[k]? =some p):
  Calls Tryz.prog 193 #[.pointer (some ⟨c,0,none⟩),.int .i64 (k:Int)] w fun e w'=>e= .returned (.agg #[.int .i64 p.off,.int .i64 p.len,.int .i64 p.brk])∧Below w.heap.size w w':=by
 have hb:=hok.bd;have hlk:=(zX hp).2;rw [AT.flat_its]at hlk;have hr:=ZU T k p hp;have HB0:=hide ((Below.refl w.heap.size w).alloc lR (.cells #[.int .i64 0,.int .i64 0,.int .i64 0] 89))
 have HSK:=hide (seekEI T u bs base (k:Int) (w.alloc (.cells #[.int .i64 0,.int .i64 0,.int .i64 0] 89)) (ht.below HB0.out lR) hok (by omega))
 rw [hr]at HSK
 generalize seekT (fun _=>1) T (k:Int)=res at HSK
 have c1:=(HB0.out.cell (p:=⟨c,1,none⟩) hk.lt).trans hk.c1;have K0:(w.alloc (.cells #[.int .i64 0,.int .i64 0,.int .i64 0] 89)).heap[w.heap.size]? =some (.cells #[.int .i64 0,.int .i64 0,.int .i64 0] 89 (0,0)):=heap_alloc_new _ _;have HK:=hide K0
 have s0:w.heap.size<(w.alloc (.cells #[.int .i64 0,.int .i64 0,.int .i64 0] 89)).heap.size:=by simp
 clear K0 ht hk hp hr;go_enter Tryz.func193,Tryz.ntmps193;go_wp2_with fail;generalize w.alloc (.cells #[.int .i64 0,.int .i64 0,.int .i64 0] 89)=w0 at *;refine HSK.out.mono ?_;rintro e w1 ⟨rfl,hb1⟩;have k1:=(hb1.block w.heap.size s0).trans HK.out
 have d0:w1.cell? ⟨w.heap.size,0,none⟩=some (.int .i64 0):=by rw [cell_of_row w1 _ 0 _ _ _ k1];rfl
 have d1:w1.cell? ⟨w.heap.size,1,none⟩=some (.int .i64 0):=by rw [cell_of_row w1 _ 1 _ _ _ k1];rfl
 have d2:w1.cell? ⟨w.heap.size,2,none⟩=some (.int .i64 0):=by rw [cell_of_row w1 _ 2 _ _ _ k1];rfl
 have f0:=frozen_of_row w1 w.heap.size 0 _ _ k1;have f1:=frozen_of_row w1 w.heap.size 1 _ _ k1;have f2:=frozen_of_row w1 w.heap.size 2 _ _ k1
 have HB1:=hide (HB0.out.trans (hb1.mono (by omega)))
 clear HSK hb1 k1 c1;unfold fndV;simp only;have fe:=Tryz.fldE;go_wp2
 refine bodyPost_ret (v:=.agg #[.int .i64 p.off,.int .i64 p.len,.int .i64 p.brk]) (by simp [results,Tryz.results193,go_sem,d0,d1,d2]) rfl ⟨rfl,?_⟩
 exact((HB1.out.setCell (by simp) _).setCell (by simp) _).setCell (by simp) _
end Go.Proofs.YtibbhecojkehfaaGreatDoor
