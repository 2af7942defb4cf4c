import Derived.Test.YtibbhecojkehfaaGreatDoorMq16
set_option linter.all false
set_option maxRecDepth 100000
set_option maxHeartbeats 16000000
namespace Go.Proofs.YtibbhecojkehfaaGreatDoor
open Go Go.RowKit
theorem Tryz.infoE:(Tryz.prog.info? 21).map (fun i=>(i.zero,i.size,i.bytes))=some (some (.int .i32 0),1,4):=by kernel_rfl
theorem YE {bs:List Int} (h:bytes bs) (k:Nat):bytes (bs.drop k):=fun z hz=>h z (List.mem_of_mem_drop hz)
theorem rd_drop {w:World} {b off cap k:Nat} {bs:List Int} (hc:∀i,i<bs.length->w.cell? ⟨b,off+i,none⟩=some (.int .u8 (bs.getD i 0))) (hk:k<bs.length) (hcp:bs.length<=cap) (hcm:cap<=maxLen):Rd .u8 w (.slice (some ⟨b,off+k,none⟩) (bs.length - k) (cap - k)) (bs.drop k):=by
 have hl:(bs.drop k).length=bs.length - k:=by rw [List.length_drop]
 refine .inr ⟨b,off+k,cap - k,by rw [hl],⟨by omega,by omega,by omega⟩,fun i hi=>?_⟩
 rw [Nat.add_assoc,hc (k+i) (by omega),List.getD_eq_getElem?_getD,List.getD_eq_getElem?_getD,List.getElem?_drop]
theorem zA7 {bs:List Int} {k:Nat} {xs:List Int} (h:decs bs=xs++decs (bs.drop k)) (hk:k<bs.length):
  decs bs=(xs++ [(step (bs.drop k)).1])++decs (bs.drop (k+(step (bs.drop k)).2))∧k+(step (bs.drop k)).2<=bs.length∧1<=(step (bs.drop k)).2:=by
 have hne:bs.drop k≠ []:=by
  intro e;have:=congrArg List.length e;simp at this;omega
 have hs:=ZY _ hne;rw [List.length_drop]at hs
 refine⟨?_,by omega,hs.1⟩
 rw [h,ZZ hne,List.drop_drop];simp
theorem step_bd {bs:List Int} (hb:bytes bs) (hne:bs≠ []):0<=(step bs).1∧(step bs).1<=1114111:=by
 rcases shape hne with ⟨a,rfl⟩ | ⟨a,b,rfl⟩ | ⟨a,b,c,rfl⟩ | ⟨a,b,c,d,r,rfl⟩
 ·have ha:=hb a (by simp)
  simp only [step]
  repeat' split
  all_goals simp only
  all_goals omega
 ·have ha:=hb a (by simp)
  have hb':=hb b (by simp)
  simp only [step,numZ]
  repeat' split
  all_goals simp only
  all_goals omega
 ·have ha:=hb a (by simp)
  have hb':=hb b (by simp)
  have hc:=hb c (by simp)
  simp only [step,numZ]
  repeat' split
  all_goals simp only
  all_goals (try unfold ok3 at *)
  all_goals (try unfold ok4 at *)
  all_goals omega
 have ha:=hb a (by simp)
 have hb':=hb b (by simp)
 have hc:=hb c (by simp)
 have hd:=hb d (by simp)
 simp only [step,numZ]
 repeat' split
 all_goals simp only
 all_goals (try unfold ok3 at *)
 all_goals (try unfold ok4 at *)
 all_goals omega
theorem implDec (bs:List Int) (v:Value) (w:World) (h:Rd .u8 w v bs) (hb:bytes bs) (hT:Tab w) (hn:bs.length<=1048576):
  Calls Tryz.prog 91 #[v] w fun e w'=>∃v',e= .returned v'∧w'.ownsRow w.heap.size 21 1 v' (decs bs).length (ints .i32 (decs bs))∧Below w.heap.size w w':=by
 obtain⟨i0,hi,hz0,hz1,hz2⟩:=info_parts Tryz.infoE
 rcases h with ⟨ao,cap,rfl,rfl⟩ | ⟨b,off,cap,rfl,⟨hp,hcp,hcm⟩,hc⟩
 ·go_enter Tryz.func91,Tryz.ntmps91
  go_wp2_with (at_make;refine wpList_make_own _ rfl _ _ 34 rfl w.heap.size 21 i0 (.int .i32 0) 1 Tryz.underlying34 hi hz0 hz1 .i64 .i64 _ 0 rfl rfl (by omega) (by rw [hz2];omega) (by unfold maxLen;omega) lR ?_;intro w1 hown hgrow)
  have HO:=hide hown;clear hown;refine wp_loop_rounds 1 ?_;rw [rounds_succ];go_wp2;go_ret
  exact⟨_,rfl,by rw [ZG];exact HO.out,(Below.refl _ _).grown hgrow lR (fun k hk=>by cases hk)⟩
 have hcB:b<w.heap.size:=World.block_lt_of_cell? w _ (hc 0 hp)
 have HRD:=hide (fun(W:World) (hW:Below w.heap.size w W) (k:Nat) (hk:k<bs.length)=>rd_drop (w:=W) (k:=k) (fun i hi=>(hW.cell (p:=⟨b,off+i,none⟩) hcB).trans (hc i hi)) hk hcp hcm)
 have HBY:=hide hb;have HDL:=hide (Zd bs);unfold maxLen at hcm;have HT:=hide hT;clear hc hb hT;go_enter Tryz.func91,Tryz.ntmps91
 go_wp2_with (at_make;refine wpList_make_own _ rfl _ _ 34 rfl w.heap.size 21 i0 (.int .i32 0) 1 Tryz.underlying34 hi hz0 hz1 .i64 .i64 _ bs.length rfl rfl (by omega) (by rw [hz2];omega) (by unfold maxLen;omega) lR ?_;intro wm hown hgrow)
 have HO:=hide hown
 have HBM:=hide ((Below.refl w.heap.size w).grown hgrow lR (fun k hk=>by cases hk))
 clear hown hgrow
 go_loopw [3,4] (fun out i wr=>∃ (k:Nat) (xs:List Int),k<=bs.length∧i= .int .i64 k∧decs bs=xs++decs (bs.drop k)∧wr.ownsRow w.heap.size 21 1 out xs.length (ints .i32 xs)∧Below w.heap.size w wr)
  (fun _ i _=>bs.length - (intOf i).toNat)
 case atStart=>exact⟨0,[],Nat.zero_le _,rfl,by simp,by simpa [ints]using HO.out,HBM.out⟩
 obtain⟨k,xs,hk,rfl,hd,hown,hbw⟩:=hrel;have HD:=hide hd;have HOW:=hide hown;have HBW:=hide hbw;have hsz:=hbw.size
 have hxl:xs.length<=1048576:=by have h1:=HDL.out;rw [hd,List.length_append]at h1;omega
 clear hd hown hbw
 by_cases hlt:k<bs.length
 ·have hcapk:¬cap=k:=by omega
  obtain⟨hd2,hle2,hst1⟩:=zA7 HD.out hlt
  have hne:bs.drop k≠ []:=by intro e;have:=congrArg List.length e;simp at this;omega
  obtain⟨hbd0,hbd1⟩:=step_bd (YE HBY.out k) hne
  have HST:=hide (readRune (bs.drop k) _ wr (HRD.out wr HBW.out k hlt) (YE HBY.out k) (zA5 HT.out HBW.out lR) hne (by rw [List.length_drop];omega))
  have HD2:=hide hd2;clear hd2 hne;generalize (step (bs.drop k)).1=r at *;generalize (step (bs.drop k)).2=m at *;go_wp2_with fail;refine HST.out.mono ?_;rintro e w1 ⟨rfl,hb1⟩;have HO1:=hide (zF HOW.out hb1 lR);have HB1:=hide (HBW.out.trans (hb1.mono hsz));have hs1:=HB1.out.size;clear hb1 HST
  go_wp2_with (at_builtin;refine wpList_append_own _ rfl _ _ 34 rfl w.heap.size 21 i0 (.int .i32 0) 1 4 Tryz.underlying34 hi hz0 hz1 hz2 rfl (by decide) _ _ _ rfl (HO1.out.alloc _) ⟨w1.heap.size,0,none⟩ 1 1 [.int .i32 r] rfl rfl (zY w1 21 [.int .i32 r]) (zR .i32 [r]) (by unfold maxLen;omega) (by omega) (by simp;omega) ?_;intro v2 w2 ho2 hg2 _)
  have HB2:=hide ((HB1.out.alloc hs1 _).grown hg2 (by simp;omega) (fun q hq=>(HO1.out.lt q hq).1))
  have HO2:=hide (show w2.ownsRow w.heap.size 21 1 v2 (xs++ [r]).length (ints .i32 (xs++ [r]))by
   rw [List.length_append,yI];exact ho2)
  clear ho2 hg2;go_wp2;go_roundw
  case rel=>exact⟨k+m,xs++ [r],by omega,by go_num,HD2.out,HO2.out,HB2.out⟩
  simp [intOf];omega
 obtain rfl:k=bs.length:=by omega
 have HE:=hide (show decs bs=xs by rw [HD.out,List.drop_length,ZG,List.append_nil])
 clear HD;go_wp2;go_ret
 exact⟨_,rfl,by rw [HE.out];exact HOW.out,HBW.out⟩
end Go.Proofs.YtibbhecojkehfaaGreatDoor
namespace Go.Proofs.YtibbhecojkehfaaGreatDoor
open Go Go.Sort Go.RowKit
section
variable {F:Fence} {n:Nat} {P:Program} {ops:Array Oper} {md:Region.Mode}
end
section
variable {F:Fence} {n:Nat} {P:Program} {ops:Array Oper} {md:Region.Mode} {Q:Exit->Act->World->Prop}
theorem jC {o:Oper} {K K':Act->World->Prop} {a:Act} {w:World} (h:o.wpIn F n P a w K (Exit.then K' Q)):o.wpIn F n P a w K Q:=by
 unfold Oper.wpIn at *;refine⟨h.1,?_⟩;have hh:=h.2;generalize (o.semAt F.round a.eval).run P w=r at *
 cases r with
 | ok x w'=>
  cases x<;>simp only [Oper.uponIn]at hh |- <;>
   first
    | exact hh
    | exact⟨hh.1,CallsIn.mono hh.2 (fun e w'' he=>by cases e<;>exact he)⟩
    | exact⟨hh.1,RoundIn.mono hh.2 (fun e w'' he=>by cases e<;>exact he)⟩
 | halt x w'=>cases x<;>simp only [Oper.uponIn]at hh |- <;>exact hh
end
section
variable {F:Fence} {n:Nat} {P:Program} {ops:Array Oper} {md:Region.Mode} {Q:Exit->Act->World->Prop} {C:World->Prop}
def zc (C:World->Prop) (F:Fence) (n:Nat) (P:Program) (md:Region.Mode) (ops:Array Oper) (Q:Exit->Act->World->Prop):Nat->Array Bool->Act->World->Prop
 | 0,listed,a,w=>C w∧Region.ready md ops listed= []∧Q .normal a w
 | fuel+1,listed,a,w=>C w∧(Region.ready md ops listed= []->Q .normal a w)∧∀i∈Region.ready md ops listed,wpOpIn F n P ops Q i (zc C F n P md ops Q fuel (listed.setIfInBounds i true)) a w
theorem KI:∀ (fuel:Nat) (listed:Array Bool) (a:Act) (w:World),zc C F n P md ops Q fuel listed a w->wpAnyIn F n P md ops Q fuel listed a w
 | 0,_,_,_,h=>h.2
 | fuel+1,_,_,_,h=>⟨h.2.1,fun i hi=>wpOpIn_mono (fun a w=>KI fuel _ a w) (h.2.2 i hi)⟩
def YC (C:World->Prop) (P:Program) (ops:Array Oper) (o:Oper) (v:Value) (a:Act):Prop:=
 (Region.wanted o (yielded ops a.tmps)=true∧∀w,C w->(execOp a.eval o).run P w= .ok (.value v) w)∧∀w,o.about P w a.eval=none
theorem YC.op {i:Nat} {o:Oper} {v:Value} {a:Act} {w:World} {K:Act->World->Prop} (hro:F.round=none) (hi:ops[i]? =some o) (hy:YC C P ops o v a) (hC:C w) (h:K (a.put o.dst v) w):wpOpIn F n P ops Q i K a w:=by
 unfold wpOpIn;simp only [hi,hy.1.1,if_true,Oper.wpIn,hro,Oper.semAt_none,hy.1.2 w hC,Oper.uponIn]
 exact⟨fun f hf=>(by rw [hy.2 w]at hf;cases hf),h⟩
theorem opPut {Y:Act->Prop} {j:Nat} {oi oj:Oper} {v:Value} {K:Act->World->Prop} {a:Act} {w:World} (hro:F.round=none) (hj:ops[j]? =some oj) (hap:oi.apart ops oj=true) (hsj:∀cs b,oj.op≠ .select cs b)
  (hQ:∀c a w,Q (.panic c) (a.put oi.dst v) w->Q (.panic c) a w) (kp:∀a u,Y a->Y (a.put oj.dst u)) (kd:∀a d,Y a->Y {a with defers:=d::a.defers}) (hy:Y a) (h:wpOpIn F n P ops Q j K (a.put oi.dst v) w):
  wpOpIn F n P ops Q j (fun a' w'=>Y a'∧K (a'.put oi.dst v) w') a w:=by
 obtain⟨h1,h2,h3⟩:=Oper.apart_spec hap
 have pc:=fun u=>Act.put_comm a v u h2
 unfold wpOpIn at h |-;simp only [hj]at h |-;rw [wanted_put oj a oi.dst v h1,about_put oj w a oi.dst v h1]at h
 by_cases hw:Region.wanted oj (yielded ops a.tmps)=true
 ·rw [if_pos hw]at h |-
  unfold Oper.wpIn at h |-;rw [about_put oj w a oi.dst v h1,hro,Oper.semAt_none,execOp_put oj hsj a oi.dst v h1]at h;rw [hro,Oper.semAt_none];refine⟨h.1,?_⟩
  replace h:=h.2
  generalize (execOp a.eval oj).run P w=r at h |-
  cases r with
  | halt x w'=>cases x<;>simp only [Oper.uponIn]at h |-;exact hQ _ _ _ h
  | ok x w'=>
   cases x<;>simp only [Oper.uponIn]at h |-
   case value u=>exact⟨kp _ _ hy,by rw [<- pc];exact h⟩
   case skip=>exact⟨kp _ _ hy,by rw [<- pc];exact h⟩
   case defer d=>
    refine⟨kp _ _ (kd _ _ hy),?_⟩;rw [<- Act.put_comm _ v undef h2,<- Act.put_defers];exact h
   case row row args=>exact⟨h.1,RowsIn.mono h.2 fun u w'' he=>⟨kp _ _ hy,by rw [<- pc];exact he⟩⟩
   case enter f args=>
    refine⟨h.1,CallsIn.mono h.2 fun e w'' he=>?_⟩
    cases e with
    | returned u=>exact⟨kp _ _ hy,by rw [<- pc];exact he⟩
    | panicked c=>exact hQ _ _ _ he
    | outgrown=>exact he
   case round l f tmps assign body=>
    refine⟨h.1,RoundIn.mono h.2 fun e w'' he=>?_⟩
    cases e with
    | returned u=>exact⟨kp _ _ hy,by rw [<- pc];exact he⟩
    | panicked c=>exact hQ _ _ _ he
    | outgrown=>exact he
 rw [if_neg hw]at h |-
 exact⟨h.1,kp _ _ hy,by rw [<- pc];exact h.2⟩
theorem firstC {i:Nat} {oi:Oper} {v:Value} (hro:F.round=none) (hi:ops[i]? =some oi) (hsel:∀ (j:Nat) (o:Oper) cs b,ops[j]? =some o->o.op≠ .select cs b) (hQ:∀c a w,Q (.panic c) (a.put oi.dst v) w->Q (.panic c) a w):
  ∀ (fuel:Nat) (listed:Array Bool) (a:Act) (w:World),
   (∀j oj,ops[j]? =some oj->j≠i->listed.getD j true=false->(∀e∈oj.after,Region.binds md e=true->e.on≠i)->oi.apart ops oj=true)->
   i∈Region.ready md ops listed->YC C P ops oi v a->zc C F n P md ops Q fuel (listed.setIfInBounds i true) (a.put oi.dst v) w->zc C F n P md ops Q (fuel+1) listed a w:=by
 intro fuel
 induction fuel with
 | zero=>
  intro listed a w _ hr hy H
  refine⟨H.1,fun h=>(by rw [h]at hr;cases hr),fun j hj=>?_⟩
  by_cases hji:j=i
  ·subst hji;exact hy.op hro hi H.1 H
  have h9:=ready_mono hj hji;rw [H.2.1]at h9;cases h9
 | succ fuel ih=>
  intro listed a w hfree hr hy H
  refine⟨H.1,fun h=>(by rw [h]at hr;cases hr),fun j hj=>?_⟩
  by_cases hji:j=i
  ·subst hji;exact hy.op hro hi H.1 H
  have h1:=H.2.2 j (ready_mono hj hji);obtain⟨hjun,oj,hoj,hall⟩:=mem_ready.1 hj
  have hnot:∀e∈oj.after,Region.binds md e=true->e.on≠i:=fun e he hb heq=>by
   have h1:=hall e he hb;have h0:=(mem_ready.1 hr).1;rw [heq]at h1
   rcases Nat.lt_or_ge i listed.size with h' | h'
   ·simp [h']at h0 h1;rw [h0]at h1;cases h1
   simp [Array.getElem?_eq_none h']at h1
  have hap:=hfree j oj hoj hji hjun hnot;obtain⟨_,_,h3⟩:=Oper.apart_spec hap
  have hsi:=fun cs b=>hsel i oi cs b hi
  have same:∀ {x y:Act},execOp y.eval oi=execOp x.eval oi->Region.wanted oi (yielded ops y.tmps)=Region.wanted oi (yielded ops x.tmps)->(∀w,oi.about P w y.eval=oi.about P w x.eval)->YC C P ops oi v x->YC C P ops oi v y:=
   fun e1 e2 e3 hx=>⟨⟨e2.trans hx.1.1,fun w hw=>by rw [e1];exact hx.1.2 w hw⟩,fun w=>(e3 w).trans (hx.2 w)⟩
  have h2:=opPut (Y:=YC C P ops oi v) hro hoj hap (fun cs b=>hsel j oj cs b hoj) hQ (fun a u ha=>same (execOp_put oi hsi a oj.dst u h3) (wanted_put oi a oj.dst u h3) (fun w=>about_put oi w a oj.dst u h3) ha) (fun a d ha=>same rfl rfl (fun _=>rfl) ha) hy h1
  refine wpOpIn_mono (fun a' w' h4=>ih (listed.setIfInBounds j true) a' w' (fun k ok hk hki hun hno=>?_) (ready_mono hr (Ne.symm hji)) h4.1 ?_) h2
  ·refine hfree k ok hk hki ?_ hno
   by_cases hjk:j=k
   ·subst hjk;exact hjun
   rw [getD_set_ne true hjk]at hun;exact hun
  rw [Array.setIfInBounds_comm _ _ hji];exact h4.2
theorem takeC {i fuel:Nat} {oi:Oper} {v:Value} {listed:Array Bool} {a:Act} {w:World} (hro:F.round=none) (hi:ops[i]? =some oi) (hs:Region.noSelect ops=true) (hf:Region.free md ops listed i=true) (hr:(Region.ready md ops listed).contains i=true)
  (hQ:∀c a w,Q (.panic c) (a.put oi.dst v) w->Q (.panic c) a w) (hy:YC C P ops oi v a) (h:zc C F n P md ops Q fuel (listed.setIfInBounds i true) (a.put oi.dst v) w):zc C F n P md ops Q (fuel+1) listed a w:=
 firstC hro hi (Region.noSelect_spec hs) hQ fuel listed a w (Region.free_spec hi hf) (by simpa using hr) hy h
theorem oneC {i fuel:Nat} {o:Oper} {listed:Array Bool} {a:Act} {w:World} (hi:ops[i]? =some o) (hr:(Region.ready md ops listed== [i])=true) (hC:C w)
  (h:wpListIn F n P ops (Exit.then (zc C F n P md ops Q fuel (listed.setIfInBounds i true)) Q) [o] a w):zc C F n P md ops Q (fuel+1) listed a w:=by
 have hr':Region.ready md ops listed= [i]:=by simpa using hr
 refine⟨hC,fun h=>(by rw [hr']at h;cases h),fun k hk=>?_⟩
 rw [hr']at hk
 obtain rfl:k=i:=by simpa using hk
 unfold wpListIn at h;unfold wpOpIn;simp only [hi]
 split at h
 ·rename_i hw;rw [if_pos hw];exact Oper.wpIn_mono (fun a w h=>h) (jC h)
 rename_i hw;rw [if_neg hw];exact h
theorem twoC {i j fuel:Nat} {oi oj:Oper} {listed:Array Bool} {a:Act} {w:World} (hi:ops[i]? =some oi) (hj:ops[j]? =some oj) (hr:(Region.ready md ops listed== [i,j])=true) (hC:C w)
  (h1:wpListIn F n P ops (Exit.then (zc C F n P md ops Q fuel (listed.setIfInBounds i true)) Q) [oi] a w) (h2:wpListIn F n P ops (Exit.then (zc C F n P md ops Q fuel (listed.setIfInBounds j true)) Q) [oj] a w):zc C F n P md ops Q (fuel+1) listed a w:=by
 have hr':Region.ready md ops listed= [i,j]:=by simpa using hr
 refine⟨hC,fun h=>(by rw [hr']at h;cases h),fun k hk=>?_⟩
 rw [hr']at hk;simp only [List.mem_cons,List.not_mem_nil,or_false]at hk
 rcases hk with rfl | rfl
 ·unfold wpListIn at h1
  unfold wpOpIn;simp only [hi]
  split at h1
  ·rename_i hw;rw [if_pos hw];exact Oper.wpIn_mono (fun a w h=>h) (jC h1)
  rename_i hw;rw [if_neg hw];exact h1
 unfold wpListIn at h2;unfold wpOpIn;simp only [hj]
 split at h2
 ·rename_i hw;rw [if_pos hw];exact Oper.wpIn_mono (fun a w h=>h) (jC h2)
 rename_i hw;rw [if_neg hw];exact h2
theorem doneC {listed:Array Bool} {a:Act} {w:World} (hr:(Region.ready md ops listed).isEmpty=true) (hC:C w) (h:Q .normal a w):∀fuel,zc C F n P md ops Q fuel listed a w
 | 0=>⟨hC,by simpa using hr,h⟩
 | _+1=>⟨hC,fun _=>h,by rw [show Region.ready md ops listed= []by simpa using hr];simp⟩
theorem zn {id:Nat} {a:Act} {w:World} (C:World->Prop) (hm:P.follows .mixedOrders=true) (h:zc C F n P .any ops Q ops.size (Array.replicate ops.size false) a {w with drawn:=w.drawn+1}):(Code.region id ops true).wpIn F n P Q a w:=
 wpIn_region_any hm (KI _ _ _ _ h)
theorem tk {fuel:Nat} {oi:Oper} {listed:Array Bool} {a:Act} {w:World} (i:Nat) (v:Value) (hy:∀w,C w->(execOp a.eval oi).run P w= .ok (.value v) w) (h:zc C F n P md ops Q fuel (listed.setIfInBounds i true) (a.put oi.dst v) w)
  (hro:F.round=none:=by rfl) (hi:ops[i]? =some oi:=by rfl) (hs:Region.noSelect ops=true:=by kernel_rfl) (hf:Region.free md ops listed i=true:=by kernel_rfl) (hr:(Region.ready md ops listed).contains i=true:=by kernel_rfl)
  (hQ:∀c a w,Q (.panic c) (a.put oi.dst v) w->Q (.panic c) a w:=by exact fun _ _ _ h=>h) (hw:Region.wanted oi (yielded ops a.tmps)=true:=by rfl) (hb:∀w,oi.about P w a.eval=none:=by exact fun _=>rfl):zc C F n P md ops Q (fuel+1) listed a w:=
 takeC hro hi hs hf hr hQ ⟨⟨hw,hy⟩,hb⟩ h
theorem on {fuel:Nat} {o:Oper} {listed:Array Bool} {a:Act} {w:World} (i:Nat) (hC:C w) (h:wpListIn F n P ops (Exit.then (zc C F n P md ops Q fuel (listed.setIfInBounds i true)) Q) [o] a w) (hi:ops[i]? =some o:=by rfl) (hr:(Region.ready md ops listed== [i])=true:=by kernel_rfl):zc C F n P md ops Q (fuel+1) listed a w:=oneC hi hr hC h
theorem tw {fuel:Nat} {oi oj:Oper} {listed:Array Bool} {a:Act} {w:World} (i j:Nat) (hC:C w)
  (h1:wpListIn F n P ops (Exit.then (zc C F n P md ops Q fuel (listed.setIfInBounds i true)) Q) [oi] a w) (h2:wpListIn F n P ops (Exit.then (zc C F n P md ops Q fuel (listed.setIfInBounds j true)) Q) [oj] a w) (hi:ops[i]? =some oi:=by rfl) (hj:ops[j]? =some oj:=by rfl) (hr:(Region.ready md ops listed== [i,j])=true:=by kernel_rfl):zc C F n P md ops Q (fuel+1) listed a w:=twoC hi hj hr hC h1 h2
end
end Go.Proofs.YtibbhecojkehfaaGreatDoor
namespace Go.Proofs.YtibbhecojkehfaaGreatDoor
open Go Go.RowKit
theorem yb {F:Fence} {n:Nat} {P:Program} {ops:Array Oper} {rest:List Oper} {op:Oper} {a:Act} {w:World} {Q:Exit->Act->World->Prop} (hgd:op.guard=none) (ty:TypeId) (x y:Operand) (ho:op.op= .store ty x y)
  (b:Nat) (c c':Array Value) (t:TypeId) (hx:a.eval x= .pointer (some ⟨b,0,none⟩)) (hy:a.eval y= .agg c') (hb:w.heap[b]? =some (.cells c t (0,0))) (hi:(P.info? ty).map (·.size)=some c'.size) (hs:c.size=c'.size) (h1:c'.all (·.oneCell')=true)
  (h:wpListIn F n P ops Q rest (a.put op.dst undef) (w.setRow b c')):wpListIn F n P ops Q (op::rest) a w:=by
 refine wpListIn_plain hgd fun K hK'=>?_
 unfold Oper.wpIn;refine⟨?_,?_⟩
 ·simp [Oper.about,ho]
 rw [Oper.semAt_plain F _ _ (by rw [ho];intro c hc';cases hc')]
 simp only [execOp,ho,hx,hy,Instr.storeAt,Instr.sureAddr,Sem.run_bind,Sem.run_pure,Result.andThen_ok,run_storeVar_row w b t ty c c' hb hi hs h1];exact hK' _ _ h
theorem codeOf (msg:ByteArray) (n:Int) (w:World) (hg:w.cell? ⟨0,0,none⟩=some (.iface 175 (.agg #[.pointer (some ⟨2,67,none⟩)]))):
  Calls Tryz.prog 18 #[.iface 116 (.agg #[.string msg,.iface 95 (.int .i64 n)])] w fun e w'=>e= .returned (.int .i64 n)∧Below w.heap.size w w':=by
 have hlt:0<w.heap.size:=World.block_lt_of_cell? w _ hg
 have hgA:(w.alloc (.cells #[.int .i64 0] 95)).cell? ⟨0,0,none⟩=some (.iface 175 (.agg #[.pointer (some ⟨2,67,none⟩)])):=by
  rw [World.cell?_alloc_lt _ _ ⟨0,0,none⟩ hlt];exact hg
 have htA:(w.alloc (.cells #[.int .i64 0] 95)).cell? ⟨w.heap.size,0,none⟩=some (.int .i64 0):=by simp
 have hfA:(w.alloc (.cells #[.int .i64 0] 95)).frozen? ⟨w.heap.size,0,none⟩=false:=by simp
 have HA:=hide (as_chain msg n ⟨w.heap.size,0,none⟩ (.int .i64 0) (w.alloc (.cells #[.int .i64 0] 95)) hgA htA hfA);clear hgA htA hfA hg;go_enter Tryz.func18,Tryz.ntmps18;go_wp2_with fail;refine HA.out.mono ?_;rintro e w1 ⟨rfl,w0,hb,rfl⟩
 have hb0:Below w.heap.size w w0:=((Below.refl _ _).alloc lR _).trans (hb.mono (by simp))
 have hb1:Below w.heap.size w (w0.setCell ⟨w.heap.size,0,none⟩ (.int .i64 n)):=hb0.setCell lR _
 have hc0:w0.cell? ⟨w.heap.size,0,none⟩=some (.int .i64 0):=by
  rw [hb.cell (p:=⟨w.heap.size,0,none⟩) (by simp)];simp
 have hc:(w0.setCell ⟨w.heap.size,0,none⟩ (.int .i64 n)).cell? ⟨w.heap.size,0,none⟩=some (.int .i64 n):=World.cell?_setCell_same _ _ _ hc0;have HB:=hide hb1;clear hb hb0 hb1 hc0;generalize w0.setCell ⟨w.heap.size,0,none⟩ (.int .i64 n)=w2 at *;go_wp2;go_ret;exact⟨rfl,HB.out⟩
end Go.Proofs.YtibbhecojkehfaaGreatDoor
namespace Go.Proofs.YtibbhecojkehfaaGreatDoor
open Go Go.RowKit Go.Sort
theorem zj {w:World} {base:Nat} {t:TypeId} {size n:Nat} {v:Value} {xs:List Value} (ho:w.ownsRow base t size v n xs) {q:Nat} (hq:v.ownBlock=some q):∃cs fr,w.heap[q]? =some (.cells cs t fr):=by
 rcases ho.2 with ⟨e,_⟩ | ⟨g',cap',cur,e,_,hb,_⟩
 ·rw [e]at hq;cases hq
 rw [e]at hq;simp only [Value.ownBlock,Option.some.injEq]at hq;subst hq;exact⟨_,_,hb⟩
theorem ty_ne {w:World} {q:Nat} {cs cs':Array Value} {t t':TypeId} {fr fr':Nat×Nat} (h1:w.heap[q]? =some (.cells cs t fr)) (h2:w.heap[q]? =some (.cells cs' t' fr')) (hne:t≠t'):False:=by
 rw [h1]at h2;simp only [Option.some.injEq,Obj.cells.injEq]at h2;exact hne h2.2.1
theorem Tryz.infoI64:(Tryz.prog.info? 3).map (fun i=>(i.zero,i.size,i.bytes))=some (some (.int .i64 0),1,8):=by kernel_rfl
theorem Tryz.infoOB:(Tryz.prog.info? 37).map (fun i=>(i.zero,i.size,i.bytes))=some (some (.agg #[.int .i64 0,.int .i64 0,.int .i64 0,.slice none 0 0,.slice none 0 0,.int .i64 0,.int .i64 0,.int .i64 0,.int .i64 0,.int .i64 0]),10,112):=by kernel_rfl
theorem Z1 {P:Program} {ops:Array Oper} {rest:List Oper} {op:Oper} {a:Act} {w:World} {Q:Exit->Act->World->Prop} (hgd:op.guard=none) (ty:TypeId) (x y:Operand) (ho:op.op= .store ty x y)
  (b o:Nat) (cells:Array Value) (hx:a.eval x= .pointer (some ⟨b,o,none⟩)) (hy:a.eval y= .agg cells)
  (ht:w.there b o cells.size) (hi:(P.info? ty).map (·.size)=some cells.size) (h1:cells.all (·.oneCell')=true)
  (h:wpList P ops Q rest (a.put op.dst undef) (w.setCells b o cells.toList)):wpList P ops Q (op::rest) a w:=
 wpList_plain hgd fun _ hK=>by
  unfold Oper.wp execOp;simp only [ho,hx,hy,Instr.storeAt,Instr.sureAddr,Sem.run_bind,Sem.run_pure,Result.andThen_ok,run_storeVar_mid w b o ty cells ht hi h1];exact hK _ _ h
theorem zO {F:Fence} {n:Nat} {P:Program} (w:World) {ops:Array Oper} {rest:List Oper} {o:Oper} {a:Act} {Q:Exit->Act->World->Prop}
  (hg:o.guard=none) (l c:Operand) (t:TypeId) (hop:o.op=Op.makeSlice t l c)
  (base:Nat) (e:TypeId) (i:TypeInfo) (z:Value) (size:Nat) (h1:P.underlying t=some (.slice e)) (h2:P.info? e=some i) (h3:i.zero=some z) (h4:i.size=size)
  (kl kc:IntKind) (L C:Int) (m:Nat) (hl:a.eval l= .int kl L) (hc:a.eval c= .int kc C) (hL:L=(m:Int)) (hC:C=(m:Int)) (b2:i.bytes*m<=281474976710656) (b3:m<=maxLen) (b4:base<=w.heap.size)
  (hK:∀w',w'.ownsRow base e size (.slice (some ⟨w.heap.size,0,none⟩) m m) m (madeCells z.cells (m*size)).toList->w.grownBy w' none->wpListIn F n P ops Q rest (a.put o.dst (.slice (some ⟨w.heap.size,0,none⟩) m m)) w'):
  wpListIn F n P ops Q (o::rest) a w:=by
 refine wpListIn_plain hg fun K hK'=>?_
 obtain⟨w',hrun,r1,r2⟩:=run_make_full (P:=P) w base t e i z size h1 h2 h3 h4 kl kc m b2 b3 b4;subst hL;subst hC;unfold Oper.wpIn;refine⟨?_,?_⟩
 ·simp [Oper.about,hop]
 rw [Oper.semAt_plain F _ _ (by rw [hop];intro c hc';cases hc')]
 simp [execOp,hop,hl,hc,hrun,Result.andThen];exact hK' _ _ (hK w' r1 r2)
theorem zV {F:Fence} {n:Nat} {P:Program} {ops:Array Oper} {rest:List Oper} {op:Oper} {a:Act} {w:World} {Q:Exit->Act->World->Prop} (hgd:op.guard=none) (ty:TypeId) (x y:Operand) (ho:op.op= .store ty x y)
  (b o:Nat) (cells:Array Value) (hx:a.eval x= .pointer (some ⟨b,o,none⟩)) (hy:a.eval y= .agg cells)
  (ht:w.there b o cells.size) (hi:(P.info? ty).map (·.size)=some cells.size) (h1:cells.all (·.oneCell')=true)
  (h:wpListIn F n P ops Q rest (a.put op.dst undef) (w.setCells b o cells.toList)):wpListIn F n P ops Q (op::rest) a w:=by
 refine wpListIn_plain hgd fun K hK'=>?_
 unfold Oper.wpIn;refine⟨?_,?_⟩
 ·simp [Oper.about,ho]
 rw [Oper.semAt_plain F _ _ (by rw [ho];intro c hc';cases hc')]
 simp only [execOp,ho,hx,hy,Instr.storeAt,Instr.sureAddr,Sem.run_bind,Sem.run_pure,Result.andThen_ok,run_storeVar_mid w b o ty cells ht hi h1];exact hK' _ _ h
theorem th {F:Fence} {n:Nat} {P:Program} {ops:Array Oper} {md:Region.Mode} {Q:Exit->Act->World->Prop} {C:World->Prop} {fuel:Nat} {oi oj ok:Oper} {listed:Array Bool} {a:Act} {w:World} (i j k:Nat) (hC:C w)
  (h1:wpListIn F n P ops (Exit.then (zc C F n P md ops Q fuel (listed.setIfInBounds i true)) Q) [oi] a w) (h2:wpListIn F n P ops (Exit.then (zc C F n P md ops Q fuel (listed.setIfInBounds j true)) Q) [oj] a w) (h3:wpListIn F n P ops (Exit.then (zc C F n P md ops Q fuel (listed.setIfInBounds k true)) Q) [ok] a w)
  (hi:ops[i]? =some oi:=by rfl) (hj:ops[j]? =some oj:=by rfl) (hk:ops[k]? =some ok:=by rfl) (hr:(Region.ready md ops listed== [i,j,k])=true:=by kernel_rfl):zc C F n P md ops Q (fuel+1) listed a w:=by
 have hr':Region.ready md ops listed= [i,j,k]:=by simpa using hr
 have one:∀ (x:Nat) (o:Oper),ops[x]? =some o->wpListIn F n P ops (Exit.then (zc C F n P md ops Q fuel (listed.setIfInBounds x true)) Q) [o] a w->wpOpIn F n P ops Q x (zc C F n P md ops Q fuel (listed.setIfInBounds x true)) a w:=fun x o hx h=>by
  unfold wpListIn at h;unfold wpOpIn;simp only [hx]
  split at h
  ·rename_i hw;rw [if_pos hw];exact Oper.wpIn_mono (fun a w h=>h) (jC h)
  rename_i hw;rw [if_neg hw];exact h
 refine⟨hC,fun h=>(by rw [hr']at h;cases h),fun x hx=>?_⟩
 rw [hr']at hx;simp only [List.mem_cons,List.not_mem_nil,or_false]at hx
 rcases hx with rfl | rfl | rfl
 ·exact one _ _ hi h1
 ·exact one _ _ hj h2
 exact one _ _ hk h3
def setL:List Value->Nat->List Value->List Value
 | xs,_,[]=>xs
 | xs,o,v::vs=>setL (xs.set o v) (o+1) vs
theorem YF:∀ (vs A Z:List Value),vs.length<=Z.length->setL (A++Z) A.length vs=A++vs++Z.drop vs.length
 | [],A,Z,_=>by simp [setL]
 | v::vs,A,[],h=>by simp at h
 | v::vs,A,z::Z,h=>by
  simp only [setL];rw [List.set_append_right _ _ lR,Nat.sub_self,List.set_cons_zero]
  have:=YF vs (A++ [v]) Z (by simpa using h)
  rw [List.length_append,List.length_singleton,List.append_assoc,List.singleton_append]at this;rw [this];simp
theorem ym {base:Nat} {e:TypeId} {size g cap n:Nat}:∀ (vs:List Value) (o:Nat) (xs:List Value) (w:World),w.ownsRow base e size (.slice (some ⟨g,0,none⟩) n cap) n xs->(w.setCells g o vs).ownsRow base e size (.slice (some ⟨g,0,none⟩) n cap) n (setL xs o vs)∧w.grownBy (w.setCells g o vs) (some g)
 | [],o,xs,w,h=>⟨h,jd w _⟩
 | v::vs,o,xs,w,h=>by
  have h1:=h.stored o v;have h2:=ym vs (o+1) (xs.set o v) _ h1.1;exact⟨h2.1,za h1.2 h2.2⟩
end Go.Proofs.YtibbhecojkehfaaGreatDoor
namespace Go.Proofs.YtibbhecojkehfaaGreatDoor
open Go Go.RowKit
theorem ownI_val {w:World} {base:Nat} {v:Value} {xs:List It} (h:OwI w base v xs):∃ao cap,v= .slice ao xs.length cap:=by
 rcases h.2 with ⟨rfl,h0⟩ | ⟨g,cap,cur,rfl,_⟩
 ·exact⟨none,0,by rw [h0]⟩
 exact⟨_,_,rfl⟩
theorem cloneN (zs:List Int) (b o cap:Nat) (w:World) (hc:∀i,i<zs.length->w.cell? ⟨b,o+i,none⟩=some (.int .i32 (zs.getD i 0))) (hb:b<w.heap.size) (hn:zs.length<=1048576):
  Calls Tryz.prog 31 #[.slice (some ⟨b,o,none⟩) zs.length cap] w fun e w'=>∃v',e= .returned v'∧own32 w' w.heap.size v' zs∧Below w.heap.size w w':=by
 obtain⟨i0,hi,hz0,hz1,hz2⟩:=info_parts Tryz.info32T
 have hown0:(w.alloc (.cells #[] 21)).ownsRow w.heap.size 21 1 (.slice (some ⟨w.heap.size,0,none⟩) 0 0) 0 []:=by
  have:=World.ownsRow_made (base:=w.heap.size) (e:=21) (size:=1) w #[] 0 (by simp) (Nat.zero_le _) rfl
  simpa using this
 have H0:=hide hown0;have HB1:=hide ((Below.refl w.heap.size w).alloc lR (.cells #[] 21))
 have HC:=hide (show ∀j u,(ints .i32 zs)[j]? =some u->(w.alloc (.cells #[] 21)).cell? ((⟨b,o,none⟩:Addr).add j)=some u from(by
  have h9:=yn (o:=0) (l:=zs.length) (fun i hi=>(HB1.out.cell (p:=⟨b,o+i,none⟩) hb).trans (hc i hi))
  simpa using h9))
 have hq:=fun w:World=>Lib.run_eql_slice_nil (P:=Tryz.prog) w 34 21 (some ⟨b,o,none⟩) zs.length cap 0 0 Tryz.underlying34
 simp only [Option.isNone_some]at hq;clear hown0 hc;go_enter Tryz.func31,Tryz.ntmps31
 go_wp2_with (at_builtin;refine wpList_append_own _ rfl _ _ 34 rfl w.heap.size 21 i0 (.int .i32 0) 1 4 Tryz.underlying34 hi hz0 hz1 hz2 rfl (by decide) _ 0 [] rfl H0.out ⟨b,o,none⟩ zs.length cap (ints .i32 zs) rfl (by rw [zC,Nat.mul_one]) HC.out (zR _ _) (by unfold maxLen;omega) (by omega) HB1.out.size ?_;intro v3 w3 ho3 hg3 _)
 rw [Nat.zero_add,List.nil_append]at ho3;have HO3:=hide ho3
 have HB3:=hide (HB1.out.grown hg3 HB1.out.size (fun q hq=>by cases hq;exact lR))
 clear ho3 hg3;go_wp2;go_ret;exact⟨_,rfl,HO3.out,HB3.out⟩
theorem tellPM (zs:List Int) (T:AT) (u:Option Addr) (bs:List Nat) (base c b o cap:Nat) (w:World) (hc:∀i,i<zs.length->w.cell? ⟨b,o+i,none⟩=some (.int .i32 (zs.getD i 0))) (hb:b<w.heap.size) (hn:zs.length<=1048576) (hT:Lies w base T u bs) (hok:T.ok) (hk:w.heap[c]? =some (.cells #[.slice (some ⟨b,o,none⟩) zs.length cap,.pointer u] 86 (0,0))):
  Calls Tryz.prog 19 #[.pointer (some ⟨c,0,none⟩)] w fun e w'=>∃vs vi,e= .returned (.agg #[vs,vi])∧own32 w' w.heap.size vs zs∧OwI w' w.heap.size vi (T.told 0)∧Below w.heap.size w w':=by
 have hcl:c<w.heap.size:=(Array.getElem?_eq_some_iff.1 hk).1;have B0:=hide ((Below.refl w.heap.size w).alloc lR (.cells #[.slice none 0 0,.slice none 0 0] 45))
 have HK0:=hide (show(w.alloc (.cells #[.slice none 0 0,.slice none 0 0] 45)).heap[w.heap.size]? =some (.cells #[.slice none 0 0,.slice none 0 0] 45 (0,0))from heap_alloc_new _ _)
 have hs0:w.heap.size<(w.alloc (.cells #[.slice none 0 0,.slice none 0 0] 45)).heap.size:=by simp
 have hk0:=(B0.out.block c hcl).trans hk
 have c0:(w.alloc (.cells #[.slice none 0 0,.slice none 0 0] 45)).cell? ⟨c,0,none⟩=some (.slice (some ⟨b,o,none⟩) zs.length cap):=by rw [cell_of_row _ _ 0 _ _ _ hk0];rfl
 have c1:(w.alloc (.cells #[.slice none 0 0,.slice none 0 0] 45)).cell? ⟨c,1,none⟩=some (.pointer u):=by rw [cell_of_row _ _ 1 _ _ _ hk0];rfl
 have CL:=hide (fun W (hc:∀i,i<zs.length->W.cell? ⟨b,o+i,none⟩=some (.int .i32 (zs.getD i 0))) (hb:b<W.heap.size)=>cloneN zs b o cap W hc hb hn)
 have SC:=hide (fun i hi=>(B0.out.cell (p:=⟨b,o+i,none⟩) hb).trans (hc i hi))
 have hbl:b<(w.alloc (.cells #[.slice none 0 0,.slice none 0 0] 45)).heap.size:=by omega
 have hcl0:c<(w.alloc (.cells #[.slice none 0 0,.slice none 0 0] 45)).heap.size:=by omega
 have L0:=hide (hT.below B0.out lR)
 have TL:=hide (fun W (h:Lies W base T u bs)=>tellN T u bs base W h hok)
 have FR:=hide (fun(W W':World) (h:Lies W base T u bs) (e:W'.heap=W.heap)=>h.frame (w':=W') (fun q hq=>by rw [e]))
 clear hk hk0 hT hok hc;go_enter Tryz.func19,Tryz.ntmps19
 go_upto_region 1 with fail
 generalize w.alloc (.cells #[.slice none 0 0,.slice none 0 0] 45)=w0 at *
 have e00:w0.cell? ⟨w.heap.size,0,none⟩=some (.slice none 0 0):=by rw [cell_of_row w0 _ 0 _ _ _ HK0.out];rfl
 go_region_with (first
  | (go_at_call 31;refine(CL.out _ (by exact SC.out) (by exact hbl)).mono ?_;rintro e w1 ⟨vs,rfl,ho1,hb1⟩;obtain⟨as1,cs1,rfl⟩:=yS ho1;have C1:Below w0.heap.size w0 w1:=⟨hb1.os,hb1.tape,hb1.output,hb1.size,hb1.block⟩;have BB1:=hide C1;have O1:=hide (show own32 w1 w0.heap.size (.slice as1 zs.length cs1) zs from ho1);have L1:=hide (L0.out.below C1 lR);have d1:w1.cell? ⟨c,1,none⟩=some (.pointer u):=(C1.cell (p:=⟨c,1,none⟩) hcl0).trans c1;clear ho1 hb1 C1)
  | (go_at_call 32;refine(TL.out _ (by exact FR.out _ _ L1.out rfl)).mono ?_;rintro e w2 ⟨vi,rfl,ho2,hb2⟩;obtain⟨ai1,ci1,rfl⟩:=ownI_val ho2;have C2:Below w1.heap.size w1 w2:=⟨hb2.os,hb2.tape,hb2.output,hb2.size,hb2.block⟩;have BB2:=hide (BB1.out.trans (C2.mono BB1.out.size));have O1':=hide (zF O1.out C2 lR);have O2:=hide (show OwI w2 w1.heap.size (.slice ai1 (T.told 0).length ci1) (T.told 0)from ho2);have s12:=C2.size;have s01:=BB1.out.size;have K2:=(BB2.out.block w.heap.size hs0).trans HK0.out;have g0:w2.cell? ⟨w.heap.size,0,none⟩=some (.slice none 0 0):=(by rw [cell_of_row w2 _ 0 _ _ _ K2];rfl);have g1:w2.cell? ⟨w.heap.size,1,none⟩=some (.slice none 0 0):=(by rw [cell_of_row w2 _ 1 _ _ _ K2];rfl);have f0:=frozen_of_row w2 w.heap.size 0 _ _ K2;have f1:=frozen_of_row w2 w.heap.size 1 _ _ K2;clear ho2 hb2 C2 K2))
 all_goals
  go_wp2
  refine bodyPost_ret (v:=.agg #[.slice as1 zs.length cs1,.slice ai1 (T.told 0).length ci1]) (by simp [results,Tryz.results19,go_sem,g0,g1]) rfl ⟨_,_,rfl,?_,?_,?_⟩
  ·exact zB (zG O1'.out (by omega)) (fun k hk=>by have h1:=O1'.out.lt k hk;rw [Below.heap_setCell _ _ _ _ (by simp;omega),Below.heap_setCell _ _ _ _ (by simp;omega)];try rfl)
  ·exact zB (zG O2.out (by omega)) (fun k hk=>by have h1:=O2.out.lt k hk;rw [Below.heap_setCell _ _ _ _ (by simp;omega),Below.heap_setCell _ _ _ _ (by simp;omega)];try rfl)
  exact((⟨(B0.out.trans (BB2.out.mono (by omega))).os,(B0.out.trans (BB2.out.mono (by omega))).tape,(B0.out.trans (BB2.out.mono (by omega))).output,(B0.out.trans (BB2.out.mono (by omega))).size,(B0.out.trans (BB2.out.mono (by omega))).block⟩:Below w.heap.size w _).setCell lR _).setCell lR _
end Go.Proofs.YtibbhecojkehfaaGreatDoor
