import Derived.Maps.AppendAt
import Derived.Test.YtibbhecojkehfaaGreatDoorMq10
import Derived.Lib.Hide
set_option linter.all false
set_option maxRecDepth 100000
set_option maxHeartbeats 16000000
namespace Go.Proofs.YtibbhecojkehfaaGreatDoor
open Go Go.RowKit
def itV (x:It):List Value:=[.int .i64 x.pc.off,.int .i64 x.pc.len,.int .i64 x.pc.brk,.int .i64 x.lv]
def itVs (xs:List It):List Value:=xs.flatMap itV
theorem J5 (a b:List It):itVs (a++b)=itVs a++itVs b:=by simp [itVs]
def OwI (w:World) (base:Nat) (v:Value) (xs:List It):Prop:=w.ownsRow base 158 4 v xs.length (itVs xs)
theorem Tryz.infoIT:(Tryz.prog.info? 158).map (fun i=>(i.zero,i.size,i.bytes))=some (some (.agg #[.int .i64 0,.int .i64 0,.int .i64 0,.int .i64 0]),4,32):=by kernel_rfl
end Go.Proofs.YtibbhecojkehfaaGreatDoor
namespace Go.Proofs.YtibbhecojkehfaaGreatDoor
open Go Go.RowKit Go.Shelf
attribute [local go_sem] Oper.semAt_some
theorem tellN (T:AT) (u:Option Addr) (bs:List Nat) (base:Nat) (w:World) (hT:Lies w base T u bs) (hok:T.ok):
  Calls Tryz.prog 32 #[.pointer u] w fun e w'=>∃v,e= .returned (.agg #[v])∧OwI w' w.heap.size v (T.told 0)∧Below w.heap.size w w':=by
 obtain⟨i0,hi,hz0,hz1,hz2⟩:=info_parts Tryz.infoIT;have bT:=hok.bd
 have hht:(T.ht:Int)<=8192:=by have:=zi T;omega
 have HIT:=hide (show IsT w.heap.size w u T from⟨base,bs,hT,fun x hx=>(hT.lt x hx).2⟩)
 have HB0:=hide ((Below.refl w.heap.size w).alloc lR (.cells #[.slice none 0 0] 43));have HL0:=hide (hT.below HB0.out lR)
 have hs0:(w.alloc (.cells #[.slice none 0 0] 43)).heap.size=w.heap.size+1:=by simp
 have bR0:=Boxed.new w 43 (.slice none 0 0);have f0:=Tryz.fld0;clear hT;refine(callsIn_wide (n:=5)).1 ?_;refine callsIn_of_wp_marks Tryz.func32 rfl trivial ?_ rfl;simp only [Tryz.ntmps32,List.size_toArray,List.length_cons,List.length_nil,Nat.reduceAdd,Nat.reduceSub,Array.replicate_succ,Array.replicate_zero,List.push_toArray,List.append_toArray,List.nil_append,List.cons_append]
 gi_wp2_with (first
  | ((try refine⟨trivial,?_⟩);gi_at_call 53;refine(callsIn_wide.2 (allN T u bs base _ HL0.out)).mono ?_;rintro e w1 ⟨rfl,hb1⟩;have s1:=hb1.size;have B1:=hide (HB0.out.trans (hb1.mono (by omega)));have bR1:Boxed w1 w.heap.size 43 (.slice none 0 0):=(hb1.block w.heap.size (by omega)).trans bR0;clear hb1;simp only [cnt])
  | (gi_at_make;refine wpListIn_make_own _ rfl _ _ 41 rfl w.heap.size 158 i0 (.agg #[.int .i64 0,.int .i64 0,.int .i64 0,.int .i64 0]) 4 Tryz.underlying41 hi hz0 hz1 _ _ _ T.its rfl rfl (by first | rfl | assumption) (by rw [hz2];omega) (by unfold maxLen;omega) (by omega) ?_;intro w2 hown2 hg2)
  | ((try refine⟨trivial,?_⟩);gi_at_call 54;refine(all_in Fence.wide _ trivial rfl _ _).mono ?_;rintro e w3 ⟨rfl,rfl⟩))
 have s2:=hg2.size
 have B2:=hide (B1.out.grown hg2 B1.out.size (fun k hk=>by cases hk))
 have bR2:Boxed w2 w.heap.size 43 (.slice none 0 0):=bR1.kept hg2 (by simp)
 have hI0:=((Boxed.new w2 41 (.slice (some ⟨w1.heap.size,0,none⟩) 0 T.its)).alloc (.cells #[.pointer u] 84)).alloc (.cells #[.int .i64 0] 3);have hN0:=(Boxed.new (w2.alloc (.cells #[.slice (some ⟨w1.heap.size,0,none⟩) 0 T.its] 41)) 84 (.pointer u)).alloc (.cells #[.int .i64 0] 3);have hV0:=Boxed.new ((w2.alloc (.cells #[.slice (some ⟨w1.heap.size,0,none⟩) 0 T.its] 41)).alloc (.cells #[.pointer u] 84)) 3 (.int .i64 0);have hR0:=((bR2.alloc (.cells #[.slice (some ⟨w1.heap.size,0,none⟩) 0 T.its] 41)).alloc (.cells #[.pointer u] 84)).alloc (.cells #[.int .i64 0] 3);have hO0:=((hown2.alloc (.cells #[.slice (some ⟨w1.heap.size,0,none⟩) 0 T.its] 41)).alloc (.cells #[.pointer u] 84)).alloc (.cells #[.int .i64 0] 3)
 have hBW:=((B2.out.alloc B2.out.size (.cells #[.slice (some ⟨w1.heap.size,0,none⟩) 0 T.its] 41)).alloc (by have:=B2.out.size;simp;omega) (.cells #[.pointer u] 84)).alloc (by have:=B2.out.size;simp;omega) (.cells #[.int .i64 0] 3)
 have hs3:(((w2.alloc (.cells #[.slice (some ⟨w1.heap.size,0,none⟩) 0 T.its] 41)).alloc (.cells #[.pointer u] 84)).alloc (.cells #[.int .i64 0] 3)).heap.size=w2.heap.size+3:=by simp
 rw [World.size_alloc]at hN0;rw [World.size_alloc,World.size_alloc]at hV0;obtain⟨W0,hW0⟩:∃W0,((w2.alloc (.cells #[.slice (some ⟨w1.heap.size,0,none⟩) 0 T.its] 41)).alloc (.cells #[.pointer u] 84)).alloc (.cells #[.int .i64 0] 3)=W0:=⟨_,rfl⟩;rw [hW0]at hI0 hN0 hV0 hR0 hO0 hBW hs3 |-;have hlen:=AT.told_length T 0
 refine wpIn_rangeFunc_ownH rfl (by omega) (gf:=68) (lb:=#[.pointer (some ⟨w2.heap.size+1,0,none⟩),.pointer (some ⟨w2.heap.size+1+1,0,none⟩)]) rfl trivial (enters_of Tryz.func68 (by kernel_rfl) rfl)
  (Ku Fence.wide rfl _ trivial trivial rfl (w2.heap.size+1) (w2.heap.size+1+1) w.heap.size u T (by omega) W0 (by omega) (by omega) (by omega) hN0.cell hV0.cell (HIT.out.below hBW)) belowK_t (belowK_b (by omega)) (Below.refl _ _) (fun _=>rfl)
  (fun pre W=>(∃v,Boxed W w2.heap.size 41 v∧W.ownsRow w.heap.size 158 4 v pre.length (itVs pre)∧True)∧(Boxed W w.heap.size 43 (.slice none 0 0)∧Below w.heap.size w W))
  (fun _ _ _=>False)
  (OwnFrom.and (Own.from (holdsRow_own w.heap.size w2.heap.size 41 158 4 (fun pre=>pre.length) (fun pre=>itVs pre) (fun _ _=>True)) _) (OwnFrom.and (Own.from (boxed_own w.heap.size 43 (fun _=>.slice none 0 0)) _) (ownFrom_below lR (by omega))))
  (fun _ _ _ _ _ hs _ _=>hs)
  ⟨⟨_,hI0,by simpa [itVs]using hO0,trivial⟩,hR0,hBW⟩
  (fun x a' W=>∃Bx,True∧W.heap[Bx]? =some (.cells #[.int .i64 x.pc.off,.int .i64 x.pc.len,.int .i64 x.pc.brk] 89 (0,0))∧a'={tmps:=#[.pointer u,undef,.pointer (some ⟨w.heap.size,0,none⟩),.pointer (some ⟨w2.heap.size,0,none⟩),.int .i64 x.lv,.pointer (some ⟨Bx,0,none⟩),.pointer u,.agg #[.int .i64 T.its,.int .i64 T.rns,.int .i64 T.bks],.int .i64 T.its,.slice (some ⟨w1.heap.size,0,none⟩) 0 T.its,.pointer u,.func (.func 68) #[] #[.pointer (some ⟨w2.heap.size+1,0,none⟩),.pointer (some ⟨w2.heap.size+1+1,0,none⟩)],.int .i64 x.lv,.agg #[.int .i64 x.pc.off,.int .i64 x.pc.len,.int .i64 x.pc.brk],undef,undef,undef,undef,undef,undef,undef,undef],defers:=[]})
  (fun x a' _ W W' row hs hg hr=>by
   obtain⟨Bx,h1,h2,h3⟩:=hs
   refine⟨Bx,h1,(hg.block Bx (Array.getElem?_eq_some_iff.1 h2).1 (fun e=>?_)).trans h2,h3⟩
   obtain⟨_,o,ho,hc⟩:=hr Bx e.symm
   rw [h2]at ho;cases ho;cases hc)
  ?assign ?body ?done ?stop
 case assign=>
  rintro l pre x W K ⟨⟨v,hv,hrow,_⟩,hbR,hbW⟩ hK
  gi_wp2
  have hle:=hbW.size
  refine hK _ _ ((KeepsOthers.alloc _ _).from _) ((Below.refl _ W).alloc hle _) ⟨⟨v,hv.alloc _,hrow.alloc _,trivial⟩,hbR.alloc _,hbW.alloc hle _⟩ ⟨W.heap.size,trivial,heap_alloc_new _ _,rfl⟩
 case body=>
  rintro l pre x a' W hl ⟨r,hr⟩ ⟨⟨v,hv,hrow,_⟩,hbR,hbW⟩ ⟨Bx,_,hkx,rfl⟩ hlt;have hc:=hv.cell
  have k0:W.cell? ⟨Bx,0,none⟩=some (.int .i64 x.pc.off):=by rw [cell_of_row W _ 0 _ _ _ hkx];rfl
  have k1:W.cell? ⟨Bx,1,none⟩=some (.int .i64 x.pc.len):=by rw [cell_of_row W _ 1 _ _ _ hkx];rfl
  have k2:W.cell? ⟨Bx,2,none⟩=some (.int .i64 x.pc.brk):=by rw [cell_of_row W _ 2 _ _ _ hkx];rfl
  have hlx:Bx<W.heap.size:=(Array.getElem?_eq_some_iff.1 hkx).1;have hle:=hbW.size;have HR:=hide hr;have HL:=hide hl;clear hr hl hkx
  gi_wp2_with (gi_at_builtin;refine wpListIn_append_own _ rfl _ _ 41 rfl w.heap.size 158 i0 (.agg #[.int .i64 0,.int .i64 0,.int .i64 0,.int .i64 0]) 4 32 Tryz.underlying41 hi hz0 hz1 hz2 rfl (by decide) _ _ _ rfl (hrow.alloc _) ⟨W.heap.size,0,none⟩ 1 1 (itV x) rfl rfl (zY _ _ _) (by simp [itV,Value.oneCell']) (by unfold maxLen;omega) (by omega) (by simp;omega) ?_;intro v' w3 hown' hgrow _;obtain⟨g',cap',rfl⟩:=ownsRow_succ hown';obtain⟨hv1,hv2,hr2,hk2,hb2⟩:=hv.appended (by decide) hrow hle (by omega) hown' hgrow;have bR3:=(hbR.alloc _).kept hgrow (hbR.not_row (by decide) hrow);have hc1:=hv1.cell;have hf1:=hv1.frozen)
  exact⟨hk2.from _,hb2,⟨⟨_,hv2,by simpa [J5,itVs]using hr2,trivial⟩,bR3.other (by omega) _,hbW.trans hb2⟩⟩
 case done=>
  rintro D ys W hD rfl ⟨⟨v,hv,hrow,_⟩,hbR,hbW⟩ hK;have hc:=hv.cell;have hcr:=hbR.cell;have hfr:=hbR.frozen
  obtain⟨ao,ln,cap,rfl⟩:∃ao ln cap,v= .slice ao ln cap:=by
   rcases hrow.2 with ⟨rfl,_⟩ | ⟨g,cap,cur,rfl,_⟩
   ·exact⟨_,_,_,rfl⟩
   exact⟨_,_,_,rfl⟩
  gi_wp2
  have hDn:D≠w.heap.size:=by omega
  have hK':(W.setCell ⟨w.heap.size,0,none⟩ (.slice ao ln cap)).heap[D]? =some (.deferred (some [])):=(heap_setCell_other W ⟨w.heap.size,0,none⟩ D _ hDn).trans hK;have bR4:=hbR.set (.slice ao ln cap)
  have hrow4:=hrow.kept (grownBy_setCell' W w.heap.size (.slice ao ln cap)) (.inr (hbR.not_row (by decide) hrow).symm)
  have bW4:=hbW.setCell (p:=⟨w.heap.size,0,none⟩) lR (.slice ao ln cap)
  refine⟨by simp,.inl ⟨_,_,rfl,run_takeDeferred hK',?_⟩⟩
  have bR5:=bR4.kept (grownBy_putObj' _ D (.deferred none)) (fun e=>hDn (by cases e;rfl))
  have hrow5:=ownsRow_putObj hrow4 (.deferred none) hK' rfl
  have bW5:=bW4.trans (belowK_b (w:=w) lR _ D _ (.deferred none) (by omega) hK' rfl rfl)
  have hc5:=bR5.cell
  exact⟨.agg #[.slice ao ln cap],by simp [results,Tryz.results32,go_sem,hc5],_,rfl,hrow5,bW5⟩
 rintro D c pre W _ _ h _;exact h.elim
end Go.Proofs.YtibbhecojkehfaaGreatDoor
namespace Go.Proofs.YtibbhecojkehfaaGreatDoor
open Go Go.RowKit
theorem zy (S:List Int):∀T:AT,T.tx S=T.flat.flatMap (ptx S)
 | .nil=>rfl
 | .node l p r=>by simp only [AT.tx,AT.flat,List.flatMap_append,List.flatMap_cons,zy S l,zy S r]
theorem Yx {S:List Int} {p q:Pc} (hp:WP S p) (hq:WP S q) (hm:p.off+p.len=q.off):ptx S (pcAt S p.off (p.len+q.len))=ptx S p++ptx S q:=by
 obtain⟨a1,a2,a3,_⟩:=hp;obtain⟨b1,b2,b3,_⟩:=hq;unfold ptx pcAt;simp only
 rw [show(p.len+q.len).toNat=p.len.toNat+q.len.toNat by omega,List.take_add,List.drop_drop,show p.off.toNat+p.len.toNat=q.off.toNat by omega]
theorem Back.wp {S:List Int} {T R:AT} (h:Back S T.flat R.flat) (hw:T.wp S):R.wp S:=by
 have hwf:=(zQ S T).1 hw
 refine(zQ S R).2 fun x hx=>?_
 rcases h with e | ⟨r,p,q,hp,hq,hm,e⟩
 ·rw [e]at hx;exact hwf x hx
 rw [e]at hx;simp only [List.mem_append,List.mem_cons]at hx
 rcases hx with hx | rfl | hx
 ·exact hwf x (List.mem_of_mem_take hx)
 ·have a:=hwf _ (List.mem_of_getElem? hp)
  have b:=hwf _ (List.mem_of_getElem? hq)
  exact yZ a.1 (by have:=a.2.1;have:=b.2.1;omega) (by have:=b.2.2.1;omega)
 exact hwf x (List.mem_of_mem_drop hx)
theorem ptx_app {zs:List Int} {p:Pc} (h:WP zs p) (ts:List Int):ptx (zs++ts) p=ptx zs p:=by
 obtain⟨h1,h2,h3,h4⟩:=h;unfold ptx
 rw [List.drop_append_of_le_length (by omega),List.take_append_of_le_length (by rw [List.length_drop];omega)]
theorem tx_app {zs:List Int} {T:AT} (h:T.wp zs) (ts:List Int):T.tx (zs++ts)=T.tx zs:=by
 rw [zy,zy];have hwf:=(zQ zs T).1 h
 have:∀F:List Pc,(∀p∈F,WP zs p)->F.flatMap (ptx (zs++ts))=F.flatMap (ptx zs):=by
  intro F
  induction F with
  | nil=>intro _;rfl
  | cons p F ih=>intro hF;rw [List.flatMap_cons,List.flatMap_cons,ptx_app (hF p (by simp)) ts,ih (fun q hq=>hF q (by simp [hq]))]
 exact this _ hwf
theorem J6 {zs ts:List Int} {T:AT} {off:Int} (h:T.ok) (hw:T.wp zs) (h0:0<=off) (h1:off<=T.rns) (hm:0<ts.length):
  (insP (zs++ts) zs.length T off).wp (zs++ts)∧(insP (zs++ts) zs.length T off).rns=T.rns+ts.length∧(insP (zs++ts) zs.length T off).its<=T.its+2:=by
 have hSl:(zs++ts).length=zs.length+ts.length:=List.length_append;have hwS:=hw.app ts
 have hmS:((zs++ts).length:Int) - (zs.length:Int)=(ts.length:Int):=by omega
 have hwz:=(zQ zs T).1 hw;have hwf:=(zQ (zs++ts) T).1 hwS
 by_cases hcase:∃r y,cutN T off=r+1∧(T.told 0)[r]? =some y∧total ((T.told 0).take (cutN T off))=off∧y.pc.off+y.pc.len=(zs.length:Int)
 ·obtain⟨r,y,hR,hy,ht,hme⟩:=hcase
  have hI:=Kv (S:=zs++ts) h h0 h1 hR hy ht hme;rw [hmS]at hI
  have hf:T.flat[r]? =some y.pc:=by rw [<- AT.flat_of T 0,List.getElem?_map,hy];rfl
  have fI:=zx T r (pcAt (zs++ts) y.pc.off (y.pc.len+(ts.length:Int))) _ hf;have hpl:=zp h _ (List.mem_of_getElem? hf);rw [hI]
  refine⟨?_,?_,by rw [AT.put_its];omega⟩
  ·refine(zQ _ _).2 fun p hp=>?_
   rw [fI]at hp;simp only [List.mem_append,List.mem_cons]at hp
   rcases hp with hp | rfl | hp
   ·exact hwf _ (List.mem_of_mem_take hp)
   ·have:=(hwf _ (List.mem_of_getElem? hf)).1
    exact yZ this (by omega) (by omega)
   exact hwf _ (List.mem_of_mem_drop hp)
  rw [AT.rns_lsum,AT.rns_lsum,fI,zL,zI];have e:=(zX hf).1
  have:lsum T.flat=lsum (T.flat.take r)+(y.pc.len+lsum (T.flat.drop (r+1))):=by
   conv=>lhs;rw [e]
   rw [zL,zI]
  simp only [pcAt];omega
 have hI:=Kw (S:=zs++ts) h (fun p hp=>(hwz p hp).2.2.1) h0 h1 hcase
 rw [hmS]at hI;obtain⟨hA1,hA2⟩:=y9 (S:=zs++ts) h h0 h1
 have fI:(insP (zs++ts) zs.length T off).flat=(cutP (zs++ts) T off).flat.take (cutN T off)++pcAt (zs++ts) (zs.length:Int) (ts.length:Int)::(cutP (zs++ts) T off).flat.drop (cutN T off):=by rw [hI,AT.ins_flat _ _ _ hA1]
 have wpC:=(zQ _ _).1 (yy (S:=zs++ts) h hwS h0 h1);refine⟨?_,?_,?_⟩
 ·refine(zQ _ _).2 fun p hp=>?_
  rw [fI]at hp;simp only [List.mem_append,List.mem_cons]at hp
  rcases hp with hp | rfl | hp
  ·exact wpC _ (List.mem_of_mem_take hp)
  ·exact yZ (by omega) (by omega) (by omega)
  exact wpC _ (List.mem_of_mem_drop hp)
 ·rw [AT.rns_lsum,fI,zL,zI]
  have e1:=jQ (S:=zs++ts) h h0 h1
  have e2:lsum (cutP (zs++ts) T off).flat=lsum ((cutP (zs++ts) T off).flat.take (cutN T off))+lsum ((cutP (zs++ts) T off).flat.drop (cutN T off)):=by rw [<- zL,List.take_append_drop]
  rw [AT.rns_lsum];simp only [pcAt];omega
 have e3:(cutP (zs++ts) T off).its<=T.its+1:=by
  by_cases hi:skI T off=0
  ·rw [cutP,if_pos hi];omega
  rw [<- AT.flat_its,yM h h0 h1 hi,List.length_append,List.length_cons,List.length_cons,List.length_take,List.length_drop,AT.flat_its];obtain⟨c0,s,c⟩:=sk_at h h0 h1;have:=(zX (c.resolve_left hi).2.2).2;rw [AT.flat_its]at this;omega
 have e4:(cutP (zs++ts) T off).flat.length=(cutP (zs++ts) T off).its:=AT.flat_its _;rw [<- AT.flat_its,fI,List.length_append,List.length_cons,List.length_take,List.length_drop];omega
theorem Kx {S:List Int} {T:AT} {R:Nat} (h:T.bal):(healP S T R).bal:=by
 cases hb:healB T R with
 | false=>rw [healP,if_neg (by rw [hb];simp)];exact h
 | true=>
  rw [healP,if_pos hb];simp only [healB,decide_eq_true_eq]at hb
  exact(AT.rem_bal _ _ (AT.put_bal _ _ _ h) (by rw [AT.put_its];exact hb.1.2)).1
theorem delP_all {S:List Int} {T:AT} {lo hi:Int} (h:T.ok) (hb:T.bal) (hw:T.wp S) (hS:S.length<=220000) (h0:0<=lo) (hlh:lo<=hi) (h1:hi<=T.rns):
  (delP S T lo hi).ok∧(delP S T lo hi).bal∧(delP S T lo hi).wp S∧(delP S T lo hi).rns<=T.rns:=by
 have F:=delF h hb hw hS h0 hlh h1;have hwJ:=(zQ S _).1 F.wpJ
 have rJ:(dlJ S T lo hi).rns<=T.rns:=by
  have sf:=AT.split_flat (dl2 S T lo hi) (cutN T lo) F.a2;have fX:(dlX S T lo hi).flat=(dl2 S T lo hi).flat.take (cutN T lo):=sf.1;have fY:(dlY S T lo hi).flat=(dl2 S T lo hi).flat.drop (cutN T lo):=sf.2
  have sf2:=AT.split_flat (dlY S T lo hi) (dlZ S T lo hi - cutN T lo) (by have:=F.yits;have:=F.z2;omega)
  have fW:(dlW S T lo hi).flat=(dlY S T lo hi).flat.drop (dlZ S T lo hi - cutN T lo):=sf2.2
  have r2:(dl2 S T lo hi).rns=T.rns:=by rw [dl2,J0 F.ok1 (by omega) (by rw [F.rn1];exact h1),F.rn1]
  have e1:lsum (dl2 S T lo hi).flat=lsum ((dl2 S T lo hi).flat.take (cutN T lo))+lsum ((dl2 S T lo hi).flat.drop (cutN T lo)):=by rw [<- zL,List.take_append_drop]
  have e2:lsum (dlY S T lo hi).flat=lsum ((dlY S T lo hi).flat.take (dlZ S T lo hi - cutN T lo))+lsum ((dlY S T lo hi).flat.drop (dlZ S T lo hi - cutN T lo)):=by rw [<- zL,List.take_append_drop]
  have e3:=yz (F:=(dlY S T lo hi).flat.take (dlZ S T lo hi - cutN T lo)) (fun q hq=>zp F.okY q (List.mem_of_mem_take hq))
  rw [AT.rns_lsum]at r2;rw [AT.rns_lsum,dlJ,AT.join_flat,zL,fX,fW];rw [fY]at e2 e3 |-;omega
 refine⟨F.okR,Kx F.balJ,?_,?_⟩
 ·cases hhb:healB (dlJ S T lo hi) (cutN T lo)with
  | false=>rw [delP,healP,if_neg (by rw [hhb];simp)];exact F.wpJ
  | true=>
   have h9:=hhb;simp only [healB,decide_eq_true_eq]at h9
   have ha:=zq (T:=dlJ S T lo hi) (R:=cutN T lo) h9.1.1 (by omega)
   have hq:=ZV (T:=dlJ S T lo hi) (R:=cutN T lo) h9.1.2
   refine(zQ S _).2 fun x hx=>?_
   rw [delP,jA hhb]at hx;simp only [List.mem_append,List.mem_cons]at hx
   rcases hx with hx | rfl | hx
   ·exact hwJ x (List.mem_of_mem_take hx)
   ·have a:=hwJ _ (List.mem_of_getElem? ha)
    have b:=hwJ _ (List.mem_of_getElem? hq)
    exact yZ a.1 (by have:=a.2.1;have:=b.2.1;omega) (by have:=b.2.2.1;omega)
   exact hwJ x (List.mem_of_mem_drop hx)
 refine Int.le_trans ?_ rJ
 cases hhb:healB (dlJ S T lo hi) (cutN T lo)with
 | false=>rw [delP,healP,if_neg (by rw [hhb];simp)];exact Int.le_refl _
 | true=>
  have h9:=hhb;simp only [healB,decide_eq_true_eq]at h9
  have ha:=zq (T:=dlJ S T lo hi) (R:=cutN T lo) h9.1.1 (by omega)
  have hq:=ZV (T:=dlJ S T lo hi) (R:=cutN T lo) h9.1.2;have e:=Yw h9.1.1 ha hq;rw [AT.rns_lsum,AT.rns_lsum,delP,jA hhb,zL,zI]
  have:lsum (dlJ S T lo hi).flat=lsum ((dlJ S T lo hi).flat.take (cutN T lo - 1))+((ahead (dlJ S T lo hi) (cutN T lo)).len+((atP (dlJ S T lo hi) (cutN T lo)).len+lsum ((dlJ S T lo hi).flat.drop (cutN T lo+1)))):=by
   conv=>lhs;rw [e]
   rw [zL,zI,zI]
  simp only [pcAt];omega
def pcC (q:Pc):List Value:=[.int .i64 q.off,.int .i64 q.len,.int .i64 q.brk]
def pcCs (qs:List Pc):List Value:=qs.flatMap pcC
theorem J7 (a b:List Pc):pcCs (a++b)=pcCs a++pcCs b:=by simp [pcCs]
theorem Zz (qs:List Pc) (i k:Nat) (q:Pc) (h:qs[i]? =some q) (hk:k<3):(pcCs qs)[i*3+k]? =(pcC q)[k]?:=by
 induction qs generalizing i with
 | nil=>simp at h
 | cons a t ih=>
  have e:pcCs (a::t)=pcC a++pcCs t:=by simp [pcCs]
  rw [e]
  cases i with
  | zero=>simp at h;subst h;rw [List.getElem?_append_left (by simp [pcC];omega)];simp
  | succ i=>
   rw [List.getElem?_append_right (by simp [pcC];omega)]
   have:=ih i (by simpa using h)
   rw [<- this]
   congr 1
   simp [pcC];omega
theorem Tryz.infoPC:(Tryz.prog.info? 89).map (fun i=>(i.zero,i.size,i.bytes))=some (some (.agg #[.int .i64 0,.int .i64 0,.int .i64 0]),3,24):=by kernel_rfl
def OwP (w:World) (base:Nat) (v:Value) (qs:List Pc):Prop:=w.ownsRow base 89 3 v qs.length (pcCs qs)
def PcAt (w:World) (b o:Nat) (q:Pc):Prop:=
 w.cell? ⟨b,o,none⟩=some (.int .i64 q.off)∧w.cell? ⟨b,o+1,none⟩=some (.int .i64 q.len)∧w.cell? ⟨b,o+2,none⟩=some (.int .i64 q.brk)
def RdP (B:Nat) (w:World) (v:Value) (qs:List Pc):Prop:=
 (∃ao cap,v= .slice ao 0 cap∧qs= [])∨
 (∃b off cap,v= .slice (some ⟨b,off,none⟩) qs.length cap∧(0<qs.length∧qs.length<=cap∧cap<=maxLen)∧b<B∧∀i q,qs[i]? =some q->PcAt w b (off+i*3) q)
theorem RdP.below {B B':Nat} {w w':World} {v:Value} {qs:List Pc} (h:RdP B w v qs) (hb:Below B' w w') (hB:B<=B'):RdP B w' v qs:=by
 rcases h with h | ⟨b,off,cap,hv,hp,hl,hc⟩
 ·exact .inl h
 refine .inr ⟨b,off,cap,hv,hp,hl,fun i q hq=>?_⟩
 obtain⟨a0,a1,a2⟩:=hc i q hq
 exact⟨(hb.cell (p:=⟨b,off+i*3,none⟩) (by show b<B';omega)).trans a0,(hb.cell (p:=⟨b,off+i*3+1,none⟩) (by show b<B';omega)).trans a1,(hb.cell (p:=⟨b,off+i*3+2,none⟩) (by show b<B';omega)).trans a2⟩
theorem OwP.rd {w:World} {base:Nat} {v:Value} {qs:List Pc} (h:OwP w base v qs):RdP w.heap.size w v qs:=by
 unfold OwP at h
 rcases h.2 with ⟨rfl,h0⟩ | ⟨g,cap,cur,rfl,hb,_,hc,hm,_⟩
 ·exact .inl ⟨_,_,rfl,List.eq_nil_of_length_eq_zero h0⟩
 rcases Nat.eq_zero_or_pos qs.length with h0 | h0
 ·exact .inl ⟨_,_,by rw [h0],List.eq_nil_of_length_eq_zero h0⟩
 refine .inr ⟨g,0,cap,rfl,⟨h0,hc,hm⟩,(h.lt g rfl).2,fun i q hq=>?_⟩
 have hi:i<qs.length:=(List.getElem?_eq_some_iff.1 hq).1;refine⟨?_,?_,?_⟩
 ·have:=h.cellAt (0+i*3) (by omega)
  rw [this,Nat.zero_add];exact(Zz qs i 0 q hq (by omega)).trans rfl
 ·have:=h.cellAt (0+i*3+1) (by omega)
  rw [this,Nat.zero_add];exact(Zz qs i 1 q hq (by omega)).trans rfl
 have:=h.cellAt (0+i*3+2) (by omega)
 rw [this,Nat.zero_add];exact(Zz qs i 2 q hq (by omega)).trans rfl
def midT:Nat->List Pc->AT
 | 0,_=>.nil
 | f+1,ps=>match ps[ps.length/2]? with
  | none=>.nil
  | some p=>.node (midT f (ps.take (ps.length/2))) p (midT f (ps.drop (ps.length/2+1)))
theorem YB (f:Nat):midT f []= .nil:=by cases f<;>simp [midT]
theorem ZW {f:Nat} {ps:List Pc} {p:Pc} (h:ps[ps.length/2]? =some p):midT (f+1) ps= .node (midT f (ps.take (ps.length/2))) p (midT f (ps.drop (ps.length/2+1))):=by
 simp only [midT,h]
theorem jY:∀ (f:Nat) (ps:List Pc),ps.length<=f->(midT f ps).flat=ps
 | 0,ps,h=>by
  obtain rfl:ps= []:=List.eq_nil_of_length_eq_zero (by omega)
  rfl
 | f+1,ps,h=>by
  rcases Nat.eq_zero_or_pos ps.length with h0 | h0
  ·obtain rfl:ps= []:=List.eq_nil_of_length_eq_zero h0
   rw [YB];rfl
  have hl:ps.length/2<ps.length:=by omega
  have hp:ps[ps.length/2]? =some ps[ps.length/2]:=List.getElem?_eq_getElem hl;rw [ZW hp]
  show(midT f _).flat++_::(midT f _).flat=ps
  rw [jY f _ (by rw [List.length_take];omega),jY f _ (by rw [List.length_drop];omega)]
  rw [<- List.drop_eq_getElem_cons hl,List.take_append_drop]
theorem RdP.cutL {B b o cap:Nat} {w:World} {ps:List Pc} (h:RdP B w (.slice (some ⟨b,o,none⟩) ps.length cap) ps) (m:Nat) (hm:m<=ps.length):RdP B w (.slice (some ⟨b,o,none⟩) m cap) (ps.take m):=by
 have hl:(ps.take m).length=m:=by rw [List.length_take];omega
 rcases Nat.eq_zero_or_pos m with h0 | h0
 ·subst h0;exact .inl ⟨_,_,rfl,by simp⟩
 rcases h with ⟨_,_,e1,e2⟩ | ⟨b',o',c',e1,hp,hb,hc⟩
 ·rw [e2]at hm;simp at hm;omega
 simp only [Value.slice.injEq,Option.some.injEq,Addr.mk.injEq,and_true]at e1;obtain⟨⟨rfl,rfl⟩,_,rfl⟩:=e1
 refine .inr ⟨b,o,cap,by rw [hl],⟨by omega,by omega,hp.2.2⟩,hb,fun i q hq=>hc i q ?_⟩
 rw [List.getElem?_take]at hq
 split at hq
 ·exact hq
 cases hq
theorem RdP.cutR {B b o cap:Nat} {w:World} {ps:List Pc} {ao:Option Addr} (h:RdP B w (.slice (some ⟨b,o,none⟩) ps.length cap) ps) (m:Nat) (hm:m<=ps.length) (ha:m<ps.length->ao=some ⟨b,o+m*3,none⟩):RdP B w (.slice ao (ps.length - m) (cap - m)) (ps.drop m):=by
 have hl:(ps.drop m).length=ps.length - m:=by rw [List.length_drop]
 rcases Nat.eq_or_lt_of_le hm with h0 | h0
 ·refine .inl ⟨ao,cap - m,by rw [h0,Nat.sub_self],List.drop_eq_nil_of_le (by omega)⟩
 rcases h with ⟨_,_,e1,e2⟩ | ⟨b',o',c',e1,hp,hb,hc⟩
 ·rw [e2]at h0;simp at h0
 simp only [Value.slice.injEq,Option.some.injEq,Addr.mk.injEq,and_true]at e1;obtain⟨⟨rfl,rfl⟩,_,rfl⟩:=e1
 refine .inr ⟨b,o+m*3,cap - m,by rw [hl,ha h0],⟨by omega,by omega,by omega⟩,hb,fun i q hq=>?_⟩
 rw [List.getElem?_drop]at hq;have:=hc (m+i) q hq
 rw [show o+m*3+i*3=o+(m+i)*3 by omega]
 exact this
def cln (n i:Nat):Nat:=min 16 (n - 16*i)
def chP (zs:List Int) (i:Nat):Pc:=⟨((16*i:Nat):Int),((cln zs.length i:Nat):Int),brk ((zs.drop (16*i)).take (cln zs.length i))⟩
def chs (zs:List Int) (j:Nat):List Pc:=(List.range j).map (chP zs)
theorem yT (zs:List Int) (j:Nat):(chs zs j).length=j:=by simp [chs]
theorem YD (zs:List Int) (j:Nat):chs zs (j+1)=chs zs j++ [chP zs j]:=by simp [chs,List.range_succ]
def ldT (zs:List Int):AT:=midT 8192 (chs zs ((zs.length+15)/16))
theorem J8 {w:World} {base g cap:Nat} {zs:List Int} (h:own32 w base (.slice (some ⟨g,0,none⟩) zs.length cap) zs):∀i,i<zs.length->w.cell? ⟨g,0+i,none⟩=some (.int .i32 (zs.getD i 0)):=by
 intro i hi
 have h1:=h.cellAt i (by omega)
 rw [Nat.zero_add,h1];simp [ints,List.getD_eq_getElem?_getD,hi]
theorem Ky {W:World} {base:Nat} {v:Value} {E F:List Pc} {n m:Nat} (hn:E.length=n) (hm:F.length=m) (h:W.ownsRow base 89 3 v (n+m) (pcCs E++pcCs F)):OwP W base v (E++F):=by
 subst hn hm;unfold OwP;rw [List.length_append,J7];exact h
theorem zA0 (zs:List Int) (j:Nat) (l:Int) (hl:l=(cln zs.length j:Nat)):pcCs [chP zs j]= [.int .i64 (16*(j:Int)),.int .i64 l,.int .i64 (brk ((zs.drop (16*(j:Int)).toNat).take l.toNat))]:=by
 have h1:(16*(j:Int)).toNat=16*j:=by omega
 have h2:l.toNat=cln zs.length j:=by omega
 rw [h1,h2,hl];simp [pcCs,pcC,chP]
theorem Yy:∀ (f:Nat) (ps:List Pc),ps.length<=f->(midT f ps).bal∧ps.length<2 ^ (midT f ps).ht∧((midT f ps).ht=0∨2 ^ ((midT f ps).ht - 1)<=ps.length)
 | 0,ps,h=>by
  obtain rfl:ps= []:=List.eq_nil_of_length_eq_zero (by omega)
  exact⟨trivial,by simp [midT,AT.ht],.inl rfl⟩
 | f+1,ps,h=>by
  rcases Nat.eq_zero_or_pos ps.length with h0 | h0
  ·obtain rfl:ps= []:=List.eq_nil_of_length_eq_zero h0
   rw [YB]
   exact⟨trivial,by simp [AT.ht],.inl rfl⟩
  have hl:ps.length/2<ps.length:=by omega
  have hp:ps[ps.length/2]? =some ps[ps.length/2]:=List.getElem?_eq_getElem hl
  have l1:(ps.take (ps.length/2)).length=ps.length/2:=by rw [List.length_take];omega
  have l2:(ps.drop (ps.length/2+1)).length=ps.length - (ps.length/2+1):=by rw [List.length_drop]
  obtain⟨a1,a2,a3⟩:=Yy f (ps.take (ps.length/2)) (by omega)
  obtain⟨b1,b2,b3⟩:=Yy f (ps.drop (ps.length/2+1)) (by omega)
  rw [ZW hp];rw [l1]at a2 a3;rw [l2]at b2 b3;generalize (midT f (ps.take (ps.length/2)))=A at *;generalize (midT f (ps.drop (ps.length/2+1)))=B at *
  have c1:B.ht<=A.ht:=by
   rcases b3 with b3 | b3
   ·omega
   rcases Nat.lt_or_ge A.ht B.ht with q | q
   ·have:=Nat.pow_le_pow_right (show 0<2 by omega) (show A.ht<=B.ht - 1 by omega)
    omega
   exact q
  have c2:A.ht<=B.ht+1:=by
   rcases a3 with a3 | a3
   ·omega
   rcases Nat.lt_or_ge (B.ht+1) A.ht with q | q
   ·have e1:=Nat.pow_le_pow_right (show 0<2 by omega) (show B.ht+1<=A.ht - 1 by omega)
    have e2:2 ^ (B.ht+1)=2 ^ B.ht*2:=Nat.pow_succ ..;omega
   exact q
  have hpw:=Nat.pow_le_pow_right (show 0<2 by omega) c1
  refine⟨⟨a1,b1,by omega,by omega⟩,?_,.inr ?_⟩
  ·simp only [AT.ht]
   have e:max A.ht B.ht=A.ht:=by omega
   rw [e];have e2:2 ^ (A.ht+1)=2 ^ A.ht*2:=Nat.pow_succ ..
   rw [show 1+A.ht=A.ht+1 by omega]<;>omega
  simp only [AT.ht]
  have e:max A.ht B.ht=A.ht:=by omega
  rw [e]
  rcases a3 with a3 | a3
  ·rw [a3];simp;omega
  have e2:2 ^ A.ht=2 ^ (A.ht - 1)*2:=by
   rcases Nat.eq_zero_or_pos A.ht with q | q
   ·rw [q]at a3 a2;simp at a3 a2;omega
   rw [<- Nat.pow_succ,Nat.succ_eq_add_one,Nat.sub_add_cancel q]
  have e3:1+A.ht - 1=A.ht:=by omega
  first | (rw [e3,e2];omega) | (simp only [Nat.add_sub_cancel];rw [e2];omega)
theorem J9 (zs:List Int):∀j,16*j<zs.length+16->lsum (chs zs j)=((min (16*j) zs.length:Nat):Int)
 | 0,_=>by simp [chs,lsum]
 | j+1,h=>by
  rw [YD,zL,J9 zs j (by omega),zI,jO]
  simp only [chP,cln];omega
theorem chP_wp (zs:List Int) (i:Nat) (hi:16*i<zs.length):WP zs (chP zs i)∧1<=(chP zs i).len∧(chP zs i).len<=16:=by
 have hc:cln zs.length i<=16∧1<=cln zs.length i∧16*i+cln zs.length i<=zs.length:=by unfold cln;omega
 refine⟨⟨?_,?_,?_,?_⟩,?_,?_⟩
 ·simp only [chP];omega
 ·simp only [chP];omega
 ·simp only [chP];omega
 ·simp only [chP,ptx,Int.toNat_natCast]
 ·simp only [chP];omega
 simp only [chP];omega
theorem ldT_all (zs:List Int) (hn:zs.length<=8192):(ldT zs).ok∧(ldT zs).bal∧(ldT zs).wp zs∧(ldT zs).rns=zs.length:=by
 have hj:(chs zs ((zs.length+15)/16)).length<=8192:=by rw [yT];omega
 have hf:(ldT zs).flat=chs zs ((zs.length+15)/16):=jY 8192 _ hj
 have hr:(ldT zs).rns=zs.length:=by rw [AT.rns_lsum,hf,J9 zs _ (by omega)];omega
 have hq:∀p∈(ldT zs).flat,WP zs p∧1<=p.len∧p.len<=16:=by
  intro p hp;rw [hf]at hp;obtain⟨i,hi,rfl⟩:=List.mem_map.1 hp
  exact chP_wp zs i (by have:=List.mem_range.1 hi;omega)
 refine⟨⟨fun p hp=>?_,by rw [hr];omega⟩,(Yy 8192 _ hj).1,(zQ zs _).2 fun p hp=>(hq p hp).1,hr⟩
 obtain⟨⟨a1,a2,a3,a4⟩,a5,a6⟩:=hq p hp;have hb:=Yq (ptx zs p);have hl:((ptx zs p).length:Int)=p.len:=jw ⟨a1,a2,a3,a4⟩;simp only [pcOk,decide_eq_true_eq];omega
def fx (S:List Int) (F:List Pc):List Int:=F.flatMap (ptx S)
theorem fx_nil (S:List Int):fx S []= []:=rfl
theorem yP (S:List Int) (p:Pc) (F:List Pc):fx S (p::F)=ptx S p++fx S F:=List.flatMap_cons
theorem yl (S:List Int) (F G:List Pc):fx S (F++G)=fx S F++fx S G:=by simp [fx]
theorem fx_len {S:List Int}:∀ {F:List Pc},(∀p∈F,WP S p)->((fx S F).length:Int)=lsum F
 | [],_=>rfl
 | p::F,h=>by
  rw [yP,zI,List.length_append]
  have h1:=jw (h p (by simp))
  have h2:=fx_len (F:=F) (fun q hq=>h q (by simp [hq]))
  omega
theorem fx_at {S:List Int} {F:List Pc} {a n:Nat} (h:∀p∈F,WP S p) (hl:lsum (F.take a)=(n:Int)):fx S (F.take a)=(fx S F).take n∧fx S (F.drop a)=(fx S F).drop n:=by
 have h1:=fx_len (S:=S) (F:=F.take a) (fun p hp=>h p (List.mem_of_mem_take hp))
 have h2:(fx S (F.take a)).length=n:=by omega
 have h3:fx S F=fx S (F.take a)++fx S (F.drop a):=by rw [<- yl,List.take_append_drop]
 rw [h3];exact⟨(List.take_left' h2).symm,(List.drop_left' h2).symm⟩
theorem KG {S:List Int} {T:AT} {off:Int} (h:T.ok) (hw:T.wp S) (h0:0<=off) (h1:off<=T.rns):fx S (cutP S T off).flat=fx S T.flat:=by
 by_cases hi:skI T off=0
 ·rw [cutP,if_pos hi]
 rw [yM h h0 h1 hi];obtain⟨a,b,c⟩:=sk_at h h0 h1;obtain⟨c1,c2,c3⟩:=c.resolve_left hi;have hp:=(zQ S T).1 hw _ (List.mem_of_getElem? c3);obtain⟨p1,p2,p3,p4⟩:=hp
 have e:=Yx (S:=S) (p:=pcAt S (skP T off).off (skI T off)) (q:=pcAt S ((skP T off).off+skI T off) ((skP T off).len - skI T off)) (yZ p1 (by omega) (by omega)) (yZ (by omega) (by omega) (by omega)) rfl
 have e2:pcAt S (pcAt S (skP T off).off (skI T off)).off ((pcAt S (skP T off).off (skI T off)).len+(pcAt S ((skP T off).off+skI T off) ((skP T off).len - skI T off)).len)=skP T off:=by
  have:(pcAt S (skP T off).off (skI T off)).len+(pcAt S ((skP T off).off+skI T off) ((skP T off).len - skI T off)).len=(skP T off).len:=by show skI T off+((skP T off).len - skI T off)=_;omega
  rw [this];exact pcAt_of ⟨p1,p2,p3,p4⟩
 rw [e2]at e
 conv=>rhs;rw [(zX c3).1]
 rw [yl,yl,yP,yP,yP,e,List.append_assoc]
theorem Yz {S:List Int} {T:AT} {off:Int} (h:T.ok) (hw:T.wp S) (h0:0<=off) (h1:off<=T.rns):fx S ((cutP S T off).flat.take (cutN T off))=(fx S T.flat).take off.toNat∧fx S ((cutP S T off).flat.drop (cutN T off))=(fx S T.flat).drop off.toNat:=by
 have hA:=y9 (S:=S) h h0 h1;have hW:=(zQ S _).1 (yy h hw h0 h1)
 have e:=fx_at (S:=S) (F:=(cutP S T off).flat) (a:=cutN T off) (n:=off.toNat) hW (by rw [hA.2];omega)
 rw [KG h hw h0 h1]at e;exact e
theorem insP_tx {zs ts:List Int} {T:AT} {off:Int} (h:T.ok) (hw:T.wp zs) (h0:0<=off) (h1:off<=T.rns):(insP (zs++ts) zs.length T off).tx (zs++ts)=(T.tx zs).take off.toNat++(ts++(T.tx zs).drop off.toNat):=by
 have hwS:=hw.app ts;have hSl:(zs++ts).length=zs.length+ts.length:=List.length_append
 have hmS:((zs++ts).length:Int) - (zs.length:Int)=(ts.length:Int):=by omega
 have hC:=Yz (S:=zs++ts) h hwS h0 h1;have hA:=y9 (S:=zs++ts) h h0 h1;have hWC:=(zQ _ _).1 (yy (S:=zs++ts) h hwS h0 h1)
 have hpt:ptx (zs++ts) (pcAt (zs++ts) zs.length ts.length)=ts:=by
  unfold ptx pcAt;simp
 rw [<- tx_app hw ts,zy,zy]
 show fx (zs++ts) _=(fx (zs++ts) T.flat).take _++(ts++(fx (zs++ts) T.flat).drop _)
 rw [<- hC.1,<- hC.2,insP,addP,hmS]
 by_cases hm:meetB zs.length (cutP (zs++ts) T off) (cutN T off)=true
 ·rw [if_pos hm]
  simp only [meetB,decide_eq_true_eq]at hm;have ha:=zq (T:=cutP (zs++ts) T off) (R:=cutN T off) hm.1 hA.1;rw [zx _ _ _ _ ha];have hWa:=hWC _ (List.mem_of_getElem? ha)
  have e:=Yx (S:=zs++ts) (p:=ahead (cutP (zs++ts) T off) (cutN T off)) (q:=pcAt (zs++ts) zs.length ts.length) hWa (yZ (by omega) (by omega) (by omega)) hm.2
  have e':ptx (zs++ts) (pcAt (zs++ts) (ahead (cutP (zs++ts) T off) (cutN T off)).off ((ahead (cutP (zs++ts) T off) (cutN T off)).len+(ts.length:Int)))=ptx (zs++ts) (ahead (cutP (zs++ts) T off) (cutN T off))++ts:=by rw [hpt]at e;exact e
  have hr:cutN T off - 1+1=cutN T off:=by omega
  rw [yl,yP,e',hr]
  have et:(cutP (zs++ts) T off).flat.take (cutN T off)=(cutP (zs++ts) T off).flat.take (cutN T off - 1)++ [ahead (cutP (zs++ts) T off) (cutN T off)]:=by
   conv=>lhs;rw [<- hr]
   rw [List.take_add_one,ha];rfl
  rw [et,yl,yP,fx_nil];simp only [List.append_assoc,List.append_nil]
 rw [if_neg hm,AT.ins_flat _ _ _ hA.1,yl,yP,hpt]
theorem delP_tx {S:List Int} {T:AT} {lo hi:Int} (h:T.ok) (hb:T.bal) (hw:T.wp S) (hS:S.length<=220000) (h0:0<=lo) (hlh:lo<=hi) (h1:hi<=T.rns):(delP S T lo hi).tx S=(T.tx S).take lo.toNat++(T.tx S).drop hi.toNat:=by
 have F:=delF h hb hw hS h0 hlh h1
 have hA:=y9 (S:=S) h h0 (by omega:lo<=T.rns)
 have h1':hi<=(cutP S T lo).rns:=by rw [F.rn1];exact h1
 have hK:=J1 (S:=S) F.ok1 (by omega) h1' hA.1 hA.2 hlh
 have hc1:=Yz (S:=S) h hw h0 (by omega:lo<=T.rns)
 have hc2:=Yz (S:=S) F.ok1 F.wp1 (by omega:0<=hi) h1'
 rw [KG h hw h0 (by omega:lo<=T.rns)]at hc2
 have sf:=AT.split_flat (dl2 S T lo hi) (cutN T lo) F.a2;have fX:(dlX S T lo hi).flat=(dl2 S T lo hi).flat.take (cutN T lo):=sf.1;have fY:(dlY S T lo hi).flat=(dl2 S T lo hi).flat.drop (cutN T lo):=sf.2
 have sf2:=AT.split_flat (dlY S T lo hi) (dlZ S T lo hi - cutN T lo) (by have:=F.yits;have:=F.z2;omega)
 have fW:(dlW S T lo hi).flat=(dl2 S T lo hi).flat.drop (dlZ S T lo hi):=by
  have e:(dlW S T lo hi).flat=(dlY S T lo hi).flat.drop (dlZ S T lo hi - cutN T lo):=sf2.2;rw [e,fY,List.drop_drop]
  congr 1
  have:=F.az;omega
 have hJ:fx S (dlJ S T lo hi).flat=(fx S T.flat).take lo.toNat++(fx S T.flat).drop hi.toNat:=by
  rw [dlJ,AT.join_flat,yl,fX,fW];have e1:(dl2 S T lo hi).flat.take (cutN T lo)=(cutP S T lo).flat.take (cutN T lo):=hK.2;rw [e1,hc1.1];have e2:fx S ((dl2 S T lo hi).flat.drop (dlZ S T lo hi))=(fx S T.flat).drop hi.toNat:=hc2.2;rw [e2]
 rw [zy,zy]
 show fx S _=(fx S T.flat).take _++(fx S T.flat).drop _
 rw [<- hJ,delP]
 cases hhb:healB (dlJ S T lo hi) (cutN T lo)with
 | false=>rw [healP,if_neg (by rw [hhb];simp)]
 | true=>
  have h9:=hhb;simp only [healB,decide_eq_true_eq]at h9;have hwJ:=(zQ S _).1 F.wpJ
  have ha:=zq (T:=dlJ S T lo hi) (R:=cutN T lo) h9.1.1 (by omega)
  have hq:=ZV (T:=dlJ S T lo hi) (R:=cutN T lo) h9.1.2;have e:=Yx (hwJ _ (List.mem_of_getElem? ha)) (hwJ _ (List.mem_of_getElem? hq)) h9.2;rw [jA hhb]
  conv=>rhs;rw [Yw h9.1.1 ha hq]
  rw [yl,yl,yP,yP,yP,e,List.append_assoc]
theorem chs_tx (zs:List Int):∀j,fx zs (chs zs j)=zs.take (16*j)
 | 0=>rfl
 | j+1=>by
  rw [YD,yl,chs_tx zs j,yP,fx_nil,List.append_nil]
  have e:ptx zs (chP zs j)=(zs.drop (16*j)).take (cln zs.length j):=by
   unfold ptx chP;simp only [Int.toNat_natCast]
  rw [e]
  have h1:(zs.drop (16*j)).take (cln zs.length j)=(zs.drop (16*j)).take 16:=by
   unfold cln
   by_cases h:16<=zs.length - 16*j
   ·rw [Nat.min_eq_left h]
   rw [Nat.min_eq_right (by omega),List.take_of_length_le (by rw [List.length_drop];omega),List.take_of_length_le (by rw [List.length_drop];omega)]
  rw [h1,show 16*(j+1)=16*j+16 by omega,List.take_add]
theorem ldT_tx (zs:List Int) (hn:zs.length<=8192):(ldT zs).tx zs=zs:=by
 rw [zy]
 show fx zs _=zs
 rw [ldT,jY _ _ (by rw [yT];omega),chs_tx,List.take_of_length_le (by omega)]
end Go.Proofs.YtibbhecojkehfaaGreatDoor
