import Derived.Test.YtibbhecojkehfaaGreatDoorMq09
import Derived.ArgAppend
import Derived.Deep.AppendLies
set_option linter.all false
set_option maxRecDepth 100000
set_option maxHeartbeats 16000000
namespace Go.Proofs.YtibbhecojkehfaaGreatDoor
open Go Go.RowKit Go.Shelf Go.Sort
theorem meetsN (p q:Pc) (w:World) (hp:0<=p.off∧p.off<=220000∧0<=p.len∧p.len<=8192):
  Calls Tryz.prog 194 #[.agg #[.int .i64 p.off,.int .i64 p.len,.int .i64 p.brk],.agg #[.int .i64 q.off,.int .i64 q.len,.int .i64 q.brk]] w fun e w'=>e= .returned (.bool (decide (p.off+p.len=q.off)))∧Below w.heap.size w w':=by
 obtain⟨po,pl,pb⟩:=p;obtain⟨qo,ql,qb⟩:=q;simp only at *
 have hwr:IntKind.i64.wrap (po+pl)=po+pl:=i64w _ (by omega) (by omega)
 go_enter Tryz.func194,Tryz.ntmps194;go_wp2;go_ret
 refine⟨?_,((Below.refl _ _).alloc lR _).alloc (by simp) _⟩
 first | rfl | simp [Int.beq_eq]
theorem withN (p q:Pc) (w:World) (hp:0<=p.len∧p.len<=8192∧0<=p.brk∧p.brk<=8192) (hq:0<=q.len∧q.len<=8192∧0<=q.brk∧q.brk<=8192):
  Calls Tryz.prog 196 #[.agg #[.int .i64 p.off,.int .i64 p.len,.int .i64 p.brk],.agg #[.int .i64 q.off,.int .i64 q.len,.int .i64 q.brk]] w fun e w'=>e= .returned (.agg #[.int .i64 p.off,.int .i64 (p.len+q.len),.int .i64 (p.brk+q.brk)])∧Below w.heap.size w w':=by
 obtain⟨po,pl,pb⟩:=p;obtain⟨qo,ql,qb⟩:=q;simp only at *
 have w1:IntKind.i64.wrap (pl+ql)=pl+ql:=i64w _ (by omega) (by omega)
 have w2:IntKind.i64.wrap (pb+qb)=pb+qb:=i64w _ (by omega) (by omega)
 go_enter Tryz.func196,Tryz.ntmps196;go_wp2
 refine bodyPost_ret (v:=.agg #[.int .i64 po,.int .i64 (pl+ql),.int .i64 (pb+qb)]) (by simp [results,Tryz.results196,go_sem]) rfl ⟨rfl,?_⟩
 exact(((Below.refl _ _).alloc lR _).alloc (by simp) _).alloc (by simp;omega) _
def Sto (w:World) (base:Nat) (ob:Option Nat) (sv:Value) (S:List Int):Prop:=
 (own32 w base sv S∧sv.ownBlock=ob)∨(ob=none∧∃b o,sv= .slice (some ⟨b,o,none⟩) S.length S.length∧At32' w b o S)
structure PS (w:World) (base c:Nat) (ob:Option Nat) (sv:Value) (S:List Int) (T:AT) (u:Option Addr) (bs:List Nat):Prop where
 k:w.heap[c]? =some (.cells #[sv,.pointer u] 86 (0,0))
 t:Lies w base T u bs
 nd:bs.Nodup
 cb:c∉bs
 st:Sto w base ob sv S
 sb:∀q,ob=some q->q∉bs∧q≠c
 n:S.length<=220000
theorem Chg.of_own {w w':World} {r:Option Nat} (h:w.grownBy w' r):Chg r.toList w w':=⟨h.os,h.tape,h.output,h.size,fun k hk hn=>h.block k hk (fun e=>hn (by rw [<- e];simp))⟩
theorem XM {w:World} {base g n cap:Nat} {zs:List Int} (h:own32 w base (.slice (some ⟨g,0,none⟩) n cap) zs):zs.length<=cap∧cap<=maxLen:=by
 rcases h.2 with ⟨e,_⟩ | ⟨g',cap',cur,e,_,_,h2,h3,_⟩
 ·cases e
 simp only [Value.slice.injEq]at e;obtain⟨_,_,rfl⟩:=e;exact⟨h2,h3⟩
theorem Zy {w w':World} {base g n cap:Nat} {S:List Int} {cs:List Nat} (h:own32 w base (.slice (some ⟨g,0,none⟩) n cap) S) (hc:Chg cs w w') (hn:g∉cs):own32 w' base (.slice (some ⟨g,0,none⟩) n cap) S:=
 zB h (fun q hq=>by simp only [Value.ownBlock,Option.some.injEq]at hq;subst hq;exact hc.block _ (h.lt _ rfl).2 hn)
def InsPS (w:World) (base c:Nat) (ob:Option Nat) (S:List Int) (T:AT) (bs:List Nat) (w':World):Prop:=
 ∃u' bs' g cap',PS w' base c (some g) (.slice (some ⟨g,0,none⟩) S.length cap') S T u' bs'∧(∀x∈bs',x∈bs∨w.heap.size<=x)∧(ob=some g∨w.heap.size<=g)∧Chg (c::(ob.toList++bs)) w w'
theorem insertO (zs ts:List Int) (T:AT) (u:Option Addr) (bs:List Nat) (base c ct:Nat) (sa:Option Addr) (sk:Nat) (ob:Option Nat) (off:Int) (ad:Addr) (w:World) (h:PS w base c ob (.slice sa zs.length sk) zs T u bs) (hok:T.ok) (hbal:T.bal) (hw:T.wp zs) (h0:0<=off) (h1:off<=T.rns) (hbase:base<=w.heap.size) (hm:0<ts.length) (hr:T.rns+ts.length<=8192) (hS:zs.length+ts.length<=220000)
  (hts:∀j v,(ints .i32 ts)[j]? =some v->w.cell? (ad.add j)=some v):
  Calls Tryz.prog 184 #[.pointer (some ⟨c,0,none⟩),.int .i64 off,.slice (some ad) ts.length ct] w fun e w'=>e= .returned (.tuple #[])∧InsPS w base c ob (zs++ts) (insP (zs++ts) zs.length T off) bs w':=by
 obtain⟨i0,hi0,hz0,hz1,hz2⟩:=info_parts Tryz.info32T;have HP:=hide h
 have HST:=hide (show(∃o':Unit,w.ownsRow base 21 1 (.slice sa zs.length sk) zs.length (ints .i32 zs)∧(Value.slice sa zs.length sk).ownBlock=ob)∨(∃b o,ob=none∧sa=some ⟨b,o,none⟩∧sk=zs.length∧∀j v,(ints .i32 zs)[j]? =some v->w.cell? ((⟨b,o,none⟩:Addr).add j)=some v)from by
  rcases h.st with h9 | ⟨h9,b,o,e,h8⟩
  ·exact .inl ⟨(),h9⟩
  simp only [Value.slice.injEq]at e;refine .inr ⟨b,o,h9,e.1,e.2.2,?_⟩;have h7:=yn (o:=0) (l:=zs.length) h8
  simpa using h7)
 have hclt:c<w.heap.size:=(Array.getElem?_eq_some_iff.1 h.k).1
 have c0:w.cell? ⟨c,0,none⟩=some (.slice sa zs.length sk):=by rw [cell_of_row w _ 0 _ _ _ h.k];rfl
 have f0:=frozen_of_row w c 0 _ _ h.k
 have hcE:c∉ob.toList:=fun h9=>by simp at h9;exact(h.sb c h9).2 rfl
 have hbE:∀x∈bs,x∉ob.toList:=fun x hx h9=>by simp at h9;exact(h.sb x h9).1 hx
 have bT:=hok.bd;have HOK:=hide hok;have HBAL:=hide hbal;have hSl:(zs++ts).length=zs.length+ts.length:=List.length_append;have HW:=hide (hw.app ts);have HTS:=hide hts
 have hbl:∀x∈bs,x<w.heap.size:=fun x hx=>(h.t.lt x hx).2
 have HLZ:=hide (show(ints .i32 zs).length=zs.length*1 by rw [zC,Nat.mul_one])
 have HLT:=hide (show(ints .i32 ts).length=ts.length*1 by rw [zC,Nat.mul_one])
 have HRI:=hide (show insP (zs++ts) zs.length T off=addP (zs++ts) zs.length (cutP (zs++ts) T off) (cutN T off)from rfl)
 have HSZ:=hide (show ints .i32 zs++ints .i32 ts=ints .i32 (zs++ts)by rw [yI])
 generalize hS0:zs++ts=S at *;generalize hn0:zs.length=n at *;generalize hm0:ts.length=m at *;generalize hres:insP S n T off=RES at *;clear h hok hbal hw hts hS0 hn0 hm0 hres
 rcases HST.out with ⟨_,h9,h8⟩ | ⟨b,o,h9,h8,h7,h6⟩
 case' inl=>have OWN:=hide (show w.ownsRow base 21 1 (.slice sa n sk) n (ints .i32 zs)from h9);have HOB:=hide (show(Value.slice sa n sk).ownBlock=ob from h8);clear h8 h9 HST
 case' inr=>subst h8;have h7:=h7.symm;subst h7;have CLP:=hide h6;have HOB:=hide (show none=ob from h9.symm);clear h6 h9 HST
 all_goals
  go_enter Tryz.func184,Tryz.ntmps184
  go_wp2_with (at_builtin;first
   | (have hx9:=OWN;clear hx9;refine wpList_append_lies _ rfl _ _ 34 rfl base 21 i0 (.int .i32 0) 1 4 Tryz.underlying34 hi0 hz0 hz1 hz2 rfl (by decide) (.slice sa n sk) n (ints .i32 zs) rfl OWN.out ad m ct (ints .i32 ts) rfl HLT.out HTS.out (zR _ _) hm (by unfold maxLen;omega) (by omega) hbase _ rfl ?_;intro g cp w1 hown hgr hgq hgl;rw [HOB.out]at hgq;have HGQ:=hide (show ob=some g∨w.heap.size<=g from hgq.imp id (fun h9=>Nat.le_of_eq h9.symm));clear hgq;have C1:=hide (show Chg ob.toList w w1 from HOB.out▸Chg.of_own hgr);have K1:=hide ((C1.out.block c hclt hcE).trans HP.out.k);have d0:w1.cell? ⟨c,0,none⟩=some (.slice sa n sk):=(by rw [cell_of_row w1 _ 0 _ _ _ K1.out];rfl);have z0:=frozen_of_row w1 c 0 _ _ K1.out;clear hgr)
   | (refine wpList_append_grows _ rfl _ _ 34 rfl 21 i0 (.int .i32 0) 1 4 Tryz.underlying34 hi0 hz0 hz1 hz2 rfl (by decide) (some ⟨b,o,none⟩) n n (ints .i32 zs) rfl (by intro h;cases h) HLZ.out (by intro x hx;cases hx;exact CLP.out) ad m ct (ints .i32 ts) rfl HLT.out HTS.out (zR _ _) (by omega) (by unfold maxLen;omega) (by omega) ?_;intro v' w1 hown hgr;rcases hown.2 with ⟨rfl,e9⟩ | ⟨g,cp,cur,rfl,hg1,hg2,hg3,hg4,_,_⟩;(exfalso;omega);have C1:=hide (show Chg ob.toList w w1 from HOB.out▸Chg.of_own hgr);have hgl:g<w1.heap.size:=(Array.getElem?_eq_some_iff.1 hg2).1;have HGQ:=hide (show ob=some g∨w.heap.size<=g from .inr hg1);have hown:=zG hown hbase;have K1:=hide ((C1.out.block c hclt hcE).trans HP.out.k);have d0:w1.cell? ⟨c,0,none⟩=some (.slice (some ⟨b,o,none⟩) n n):=(by rw [cell_of_row w1 _ 0 _ _ _ K1.out];rfl);have z0:=frozen_of_row w1 c 0 _ _ K1.out;clear hgr hg1 hg2 hg3 hg4))
  have hgc:g≠c:=by
   rcases HGQ.out with h9 | h9
   ·exact(HP.out.sb g h9).2
   omega
  have hgb:g∉bs:=fun h9=>by
   rcases HGQ.out with h8 | h8
   ·exact(HP.out.sb g h8).1 h9
   have:=hbl g h9;omega
  have s1:=C1.out.size
  have HO1:=hide (show own32 w1 base (.slice (some ⟨g,0,none⟩) (n+m) cp) S from(by rw [HSZ.out]at hown;unfold own32;rw [hSl];exact hown))
  have hcap:=XM HO1.out
  have K2:=hide (show PK (w1.setCell ⟨c,0,none⟩ (.slice (some ⟨g,0,none⟩) (n+m) cp)) c g 0 (n+m) cp u from(by unfold PK;rw [heap_setCell_same w1 c 0 _ _ _ K1.out];rfl))
  have C2:=hide (show Chg (c::(ob.toList++bs)) w (w1.setCell ⟨c,0,none⟩ (.slice (some ⟨g,0,none⟩) (n+m) cp))from(C1.out.trans (Chg.refl [] w1) (fun x h9 _=>List.mem_cons_of_mem _ (List.mem_append_left _ h9)) (fun x h9 _=>by cases h9) (ds:=c::(ob.toList++bs))).setCell ⟨c,0,none⟩ _ (.inl (by simp)))
  have A1:At32' w1 g 0 S:=own32_at (base:=base) (cap:=cp) (by rw [hSl];exact HO1.out)
  have LW1:=hide (show Lies w1 base T u bs from HP.out.t.chg C1.out hbE)
  have P2:=hide (show PM (w1.setCell ⟨c,0,none⟩ (.slice (some ⟨g,0,none⟩) (n+m) cp)) base c g 0 cp S T u bs from
   ⟨by rw [hSl];exact K2.out,LW1.out.other ⟨c,0,none⟩ _ HP.out.cb,HP.out.nd,HP.out.cb,hgb,hgc,
    fun i hi=>by rw [<- A1 i hi];unfold World.cell?;rw [heap_setCell_other w1 ⟨c,0,none⟩ g _ hgc],Nat.lt_of_lt_of_le hgl (Nat.le_of_eq (by simp)),by omega,hcap.2,by omega⟩)
  have G2:=hide (show own32 (w1.setCell ⟨c,0,none⟩ (.slice (some ⟨g,0,none⟩) (n+m) cp)) base (.slice (some ⟨g,0,none⟩) (n+m) cp) S from zB HO1.out (fun q hq=>by simp only [Value.ownBlock,Option.some.injEq]at hq;subst hq;exact heap_setCell_other w1 ⟨c,0,none⟩ _ _ hgc))
  have hs2:=C2.out.size;have HRT:=hide (y9 (S:=S) HOK.out h0 h1)
  have HOK1:=hide (jX HOK.out HW.out (by omega) h0 h1)
  have HBAL1:=hide (ZA (S:=S) (off:=off) HBAL.out);have HWP1:=hide (yy HOK.out HW.out h0 h1)
  have HRN1:=hide (show(cutP S T off).rns=T.rns by rw [AT.rns_lsum,jQ HOK.out h0 h1,<- AT.rns_lsum])
  have HCUT:=hide (fun W (hp:PM W base c g 0 cp S T u bs) hb=>cutI S T u bs base c g 0 cp off W hp HOK.out HBAL.out HW.out h0 h1 hb)
  have HMe:=hide (ZE S c g 0 cp n m _ P2.out.rt P2.out.k.c0 P2.out.lb P2.out.k.lt (by omega) (by omega) P2.out.cap1 P2.out.cap2 (by omega))
  have hbf:=Yq ((S.drop n).take m)
  have hbl2:((S.drop n).take m).length<=m:=by rw [List.length_take];omega
  have HFR:=hide (show pcAt S (n:Int) ((S.length:Int) - n)=⟨(n:Int),(m:Int),brk ((S.drop n).take m)⟩from(by
   unfold pcAt
   rw [show((S.length:Int) - n)=(m:Int)by omega,Int.toNat_natCast,Int.toNat_natCast]))
  generalize hbf0:brk ((S.drop n).take m)=bf at *
  have hbf1:0<=bf∧bf<=8192:=by omega
  have HADD:=hide (show RES=addP S n (cutP S T off) (cutN T off)from HRI.out)
  generalize hT1:cutP S T off=T1 at *;generalize hR1:cutN T off=R at *;have hRt:=HRT.out.1;have b1:=HOK1.out.bd;clear hT1 hR1 hbf hbl2 HP HOK HBAL HW HTS HLT HRI HRT K1 K2 A1 HO1 d0 z0 HSZ LW1 C1 hown;generalize w1.setCell ⟨c,0,none⟩ (.slice (some ⟨g,0,none⟩) (n+m) cp)=w2 at *;refine HMe.out.mono ?_;rintro e w3 ⟨rfl,hb3⟩;have P4:=hide ((P2.out.below hb3).below ((Below.refl w3.heap.size w3).alloc lR (.cells #[.int .i64 (n:Int),.int .i64 (m:Int),.int .i64 bf] 89)));have B4:=hide (hb3.alloc hb3.size (.cells #[.int .i64 (n:Int),.int .i64 (m:Int),.int .i64 bf] 89))
  have F4:=hide (show(w3.alloc (.cells #[.int .i64 (n:Int),.int .i64 (m:Int),.int .i64 bf] 89)).heap[w3.heap.size]? =some (.cells #[.int .i64 (n:Int),.int .i64 (m:Int),.int .i64 bf] 89 (0,0))from heap_alloc_new _ _)
  have s3:=hb3.size
  have s4:w3.heap.size<(w3.alloc (.cells #[.int .i64 (n:Int),.int .i64 (m:Int),.int .i64 bf] 89)).heap.size:=by simp
  have G4:=hide (zF (zF G2.out hb3 lR) ((Below.refl w3.heap.size w3).alloc lR (.cells #[.int .i64 (n:Int),.int .i64 (m:Int),.int .i64 bf] 89)) lR);clear hb3 HMe P2 G2;go_wp2_with fail;generalize w3.alloc (.cells #[.int .i64 (n:Int),.int .i64 (m:Int),.int .i64 bf] 89)=w4 at *;generalize w3.heap.size=fb at *
  refine(HCUT.out _ P4.out (by omega)).mono ?_
  rintro e w5 ⟨rfl,u5,bs5,hp5,sub5,ch5⟩;have P5:=hide hp5
  have G5:=hide (Zy G4.out ch5 (fun h9=>by rcases List.mem_cons.1 h9 with h9 | h9;exact hgc h9;exact hgb h9))
  have nfb:fb∉c::bs:=fun h9=>by
   rcases List.mem_cons.1 h9 with h9 | h9
   ·omega
   have:=hbl fb h9;omega
  have F5:=hide ((ch5.block fb s4 nfb).trans F4.out);have hf5:fb<w5.heap.size:=Nat.lt_of_lt_of_le s4 ch5.size
  have C5:=hide (((C2.out.trans (Chg.of_below (bs:=[]) B4.out) (fun x h9 _=>by simp at h9;simp [h9]) (fun x h9 _=>by cases h9) (ds:=c::(ob.toList++bs))).trans ch5 (fun _ h9 _=>h9) (fun _ h9 _=>by rcases List.mem_cons.1 h9 with h8 | h8;rw [h8];simp;exact List.mem_cons_of_mem _ (List.mem_append_right _ h8)) (ds:=c::(ob.toList++bs))))
  have SB5:=hide (show ∀x∈bs5,x∈bs∨w.heap.size<=x from fun x hx=>(sub5 x hx).imp id (fun h9=>by omega))
  have nfb5:fb∉bs5:=fun h9=>by
   rcases sub5 fb h9 with h8 | h8
   ·exact nfb (List.mem_cons_of_mem _ h8)
   omega
  have s5:=ch5.size;have sw5:=C5.out.size;clear hp5 sub5 ch5 HCUT P4 F4 B4 C2 G4
  have hwR:IntKind.i64.wrap ((R:Int) - 1)=(R:Int) - 1:=i64w _ (by omega) (by omega)
  go_upto_region 4 with fail
  go_cut [40] (fun x wc=>x= .bool (meetB n T1 R)∧Below w5.heap.size w5 wc)
  case first=>
   have k5:=F5.out
   have e0:w5.cell? ⟨fb,0,none⟩=some (.int .i64 (n:Int)):=by rw [cell_of_row w5 _ 0 _ _ _ k5];rfl
   have e1:w5.cell? ⟨fb,1,none⟩=some (.int .i64 (m:Int)):=by rw [cell_of_row w5 _ 1 _ _ _ k5];rfl
   have e2:w5.cell? ⟨fb,2,none⟩=some (.int .i64 bf):=by rw [cell_of_row w5 _ 2 _ _ _ k5];rfl
   have q0:=fun d os=>cell_regrown e0 d os
   have q1:=fun d os=>cell_regrown e1 d os
   have q2:=fun d os=>cell_regrown e2 d os
   by_cases hR0:R=0
   ·subst hR0
    have hd:decide ((0:Int)<((0:Nat):Int))=false:=by simp
    clear e0 e1 e2 k5
    refine wp_region_quiet_below (by kernel_rfl) (by kernel_rfl) ?_
    repeat (quiet_step (fail))
    refine wpQuiet_nil ?_;intro _ hw';obtain⟨⟨dq,osq⟩,hw''⟩:=hw';subst hw'';go_wp2_with fail;go_meet
    exact⟨by simp [meetB],below_regrown w5 dq osq⟩
   have hd:decide ((0:Int)<(R:Int))=true:=by simp;omega
   have hd2:decide (0<R)=true:=by simp;omega
   have hd3:0<R:=by omega
   have ha:=zq (T:=T1) (R:=R) (by omega) hRt
   have hpk:=HOK1.out.1 _ (List.mem_of_getElem? ha);simp only [pcOk,decide_eq_true_eq]at hpk
   have ec:(((R - 1:Nat)):Int)=(R:Int) - 1:=by omega
   have HPQ:=hide (fun d os=>Calls.regrown_of (w:=w5) (d:=d) (os:=os) (Yu T1 u5 bs5 base c g 0 S.length cp (R - 1) (ahead T1 R) (grow (redrawn w5 d) os) (P5.out.k.below (below_regrown w5 d os) P5.out.k.lt) (P5.out.t.below (below_regrown w5 d os) lR) HOK1.out ha))
   have HMQ:=hide (fun d os=>Calls.regrown_of (w:=w5) (d:=d) (os:=os) (meetsN (ahead T1 R) ⟨(n:Int),(m:Int),bf⟩ (grow (redrawn w5 d) os) (by omega)))
   rw [ec]at HPQ
   have HMB:=hide (show meetB n T1 R=decide ((ahead T1 R).off+(ahead T1 R).len=(n:Int))by simp only [meetB];congr 1;simp;omega)
   generalize ahead T1 R=p at *;clear e0 e1 e2 k5 ha ec
   refine wp_region_quiet_below (by kernel_rfl) (by kernel_rfl) ?_
   repeat (quiet_step (first | exact HPQ.out _ _ | exact HMQ.out _ _))
   refine wpQuiet_nil ?_;intro _ hw';obtain⟨⟨dq,osq⟩,hw''⟩:=hw';subst hw'';go_wp2_with fail;go_meet
   exact⟨by rw [HMB.out],below_regrown w5 dq osq⟩
  obtain⟨rfl,hb6⟩:=hcut;have P6:=hide (P5.out.below hb6);have G6:=hide (zF G5.out hb6 lR);have F6:=hide ((hb6.block fb hf5).trans F5.out);have hf6:fb<wc.heap.size:=Nat.lt_of_lt_of_le hf5 hb6.size
  have C6:=hide (C5.out.trans (Chg.of_below (bs:=[]) hb6) (fun _ h9 _=>h9) (fun _ h9 _=>by cases h9) (ds:=c::(ob.toList++bs)))
  have s6:=hb6.size;have sw6:=C6.out.size;clear hb6 P5 F5 C5 G5;have k6:=F6.out
  have e0:wc.cell? ⟨fb,0,none⟩=some (.int .i64 (n:Int)):=by rw [cell_of_row wc _ 0 _ _ _ k6];rfl
  have e1:wc.cell? ⟨fb,1,none⟩=some (.int .i64 (m:Int)):=by rw [cell_of_row wc _ 1 _ _ _ k6];rfl
  have e2:wc.cell? ⟨fb,2,none⟩=some (.int .i64 bf):=by rw [cell_of_row wc _ 2 _ _ _ k6];rfl
  have e3:=P6.out.k.c1
  have q0:=fun d os=>cell_regrown e0 d os
  have q1:=fun d os=>cell_regrown e1 d os
  have q2:=fun d os=>cell_regrown e2 d os
  have q3:=fun d os=>cell_regrown e3 d os
  clear k6
  cases hmb:meetB n T1 R with
  | true=>
   have hm2:=hmb;simp only [meetB,decide_eq_true_eq]at hm2;have ha:=zq (T:=T1) (R:=R) hm2.1 hRt;have hwpa:=(zQ S T1).1 HWP1.out _ (List.mem_of_getElem? ha);have hpk:=HOK1.out.1 _ (List.mem_of_getElem? ha);simp only [pcOk,decide_eq_true_eq]at hpk
   have ec:(((R - 1:Nat)):Int)=(R:Int) - 1:=by omega
   have HNW:=hide (show(⟨(ahead T1 R).off,(ahead T1 R).len+(m:Int),(ahead T1 R).brk+bf⟩:Pc)=pcAt S (ahead T1 R).off ((ahead T1 R).len+((S.length:Int) - n))by
    rw [show((S.length:Int) - n)=(m:Int)by omega,<- Y6 hwpa hm2.2 (by omega),Int.toNat_natCast,Int.toNat_natCast,hbf0])
   have HRES:=hide (show RES=T1.put (R - 1) ⟨(ahead T1 R).off,(ahead T1 R).len+(m:Int),(ahead T1 R).brk+bf⟩by rw [HADD.out,addP,if_pos hmb,HNW.out])
   have HOKR:=hide (show RES.ok by rw [HADD.out];exact Ys HOK1.out HWP1.out hRt (by omega) (by omega) (by rw [HRN1.out];omega))
   have HPQ:=hide (fun d os=>CallsIn.regrown_of (F:=Fence.wide) (r:=5) (w:=wc) (d:=d) (os:=os) (callsIn_wide.2 (Yu T1 u5 bs5 base c g 0 S.length cp (R - 1) (ahead T1 R) (grow (redrawn wc d) os) (P6.out.k.below (below_regrown wc d os) P6.out.k.lt) (P6.out.t.below (below_regrown wc d os) lR) HOK1.out ha)))
   have HWQ:=hide (fun d os=>CallsIn.regrown_of (F:=Fence.wide) (r:=5) (w:=wc) (d:=d) (os:=os) (callsIn_wide.2 (withN (ahead T1 R) ⟨(n:Int),(m:Int),bf⟩ (grow (redrawn wc d) os) (by omega) ⟨by simp only;omega,by simp only;omega,hbf1⟩)))
   rw [ec]at HPQ
   have HRP:=hide (fun W (hl:Lies W base T1 u5 bs5)=>JV T1 (R - 1) ⟨(ahead T1 R).off,(ahead T1 R).len+(m:Int),(ahead T1 R).brk+bf⟩ u5 bs5 base W HOK1.out (by rw [<- HRES.out];exact HOKR.out) (by omega) hl P6.out.nd)
   rw [ec]at HRP;rw [<- HRES.out]at HRP;generalize ahead T1 R=p at *;clear e0 e1 e2 e3 ha hmb ec
   go_upto_region 5 with fail
   refine(wpIn_wide (n:=6)).1 ?_
   refine zJ 12 (by kernel_rfl) (by kernel_rfl) ?_
   simp only [List.take_succ_cons,List.take_zero,List.drop_succ_cons,List.drop_zero]
   repeat (refine wpQuietIn_step (fun _ _ _ _=>trivial) (fun K hK=>?_);go_simp;first | (refine hK _ ?_;clear hK K) | (apply Exists.intro;refine⟨fun _=>?_,hK _ ?_⟩;(first | exact⟨trivial,HPQ.out _ _⟩ | exact HPQ.out _ _ | exact⟨trivial,HWQ.out _ _⟩ | exact HWQ.out _ _);clear hK K))
   refine wpQuietIn_nil ?_;intro _ hw';obtain⟨⟨dq,osq⟩,hw''⟩:=hw';subst hw'';have B7:=hide (below_regrown wc dq osq);clear q0 q1 q2 q3 HPQ HWQ;generalize grow (redrawn wc dq) osq=w7 at *;have P7:=hide (P6.out.below B7.out);have G7:=hide (zF G6.out B7.out lR)
   have C7:=hide (C6.out.trans (Chg.of_below (bs:=[]) B7.out) (fun _ h9 _=>h9) (fun _ h9 _=>by cases h9) (ds:=c::(ob.toList++bs)))
   clear P6 C6 F6 G6
   gi_wp2_with fail
   refine⟨trivial,(callsIn_wide.2 (HRP.out _ P7.out.t)).mono ?_⟩;rintro e w8 ⟨rfl,hl8,hc8⟩
   have P8:=hide (show PS w8 base c (some g) (.slice (some ⟨g,0,none⟩) S.length cp) S RES u5 bs5 from⟨by have h9:=P7.out.k.chg hc8 P7.out.cb;unfold PK at h9;exact h9,hl8,P7.out.nd,P7.out.cb,by have h9:=Zy G7.out hc8 P7.out.bb;rw [hSl];exact .inl ⟨h9,rfl⟩,fun q hq=>by cases hq;exact⟨P7.out.bb,P7.out.bc⟩,P7.out.n⟩)
   have C8:=hide (C7.out.trans hc8 (fun _ h9 _=>h9) (fun x h9 h8=>by
    rcases SB5.out x h9 with h7 | h7
    ·exact List.mem_cons_of_mem _ (List.mem_append_right _ h7)
    omega) (ds:=c::(ob.toList++bs)))
   clear hl8 hc8 P7 C7 HRP
   gi_wp2_with fail
   go_wp2
   refine bodyPost_ret (v:=.tuple #[]) (by simp [results,Tryz.results184]) rfl ⟨rfl,u5,bs5,g,cp,P8.out,SB5.out,HGQ.out,C8.out⟩
  | false=>
   have HRES:=hide (show RES=T1.ins R ⟨(n:Int),(m:Int),bf⟩by rw [HADD.out,addP,if_neg (by rw [hmb];simp),HFR.out])
   have HOKR:=hide (show RES.ok by rw [HADD.out];exact Ys HOK1.out HWP1.out hRt (by omega) (by omega) (by rw [HRN1.out];omega))
   have HIN:=hide (fun W (hl:Lies W base T1 u5 bs5) (hb:base<=W.heap.size)=>Xy T1 R ⟨(n:Int),(m:Int),bf⟩ u5 bs5 base W HBAL1.out (by rw [<- HRES.out];exact HOKR.out) hRt hl P6.out.nd hb)
   rw [<- HRES.out]at HIN;unfold pcV at HIN;clear e0 e1 e2 e3 hmb
   go_upto_region 6 with fail
   refine(wpIn_wide (n:=6)).1 ?_
   refine yg 6 (.pointer (some ⟨c,0,none⟩)) (by kernel_rfl) (by kernel_rfl) (fun _ _ _ h=>h) ⟨Or.inl ⟨by rfl,?_⟩,fun w=>by rfl⟩ ?_
   ·intro w;go_simp
   simp only [List.take_succ_cons,List.take_zero,List.drop_succ_cons,List.drop_zero]
   repeat (refine wpQuietIn_step (fun _ _ _ _=>trivial) (fun K hK=>?_);go_simp;first | (refine hK _ ?_;clear hK K) | (apply Exists.intro;refine⟨fun _=>?_,hK _ ?_⟩;(fail);clear hK K))
   refine wpQuietIn_nil ?_;intro _ hw';obtain⟨⟨dq,osq⟩,hw''⟩:=hw';subst hw'';have B7:=hide (below_regrown wc dq osq);clear q0 q1 q2 q3;generalize grow (redrawn wc dq) osq=w7 at *;have P7:=hide (P6.out.below B7.out);have G7:=hide (zF G6.out B7.out lR)
   have C7:=hide (C6.out.trans (Chg.of_below (bs:=[]) B7.out) (fun _ h9 _=>h9) (fun _ h9 _=>by cases h9) (ds:=c::(ob.toList++bs)))
   have s7:=C7.out.size;clear P6 C6 F6 G6
   gi_wp2_with fail
   refine⟨trivial,(callsIn_wide.2 (HIN.out _ P7.out.t (by omega))).mono ?_⟩
   rintro e w8 ⟨u8,bs8,rfl,hl8,nd8,sub8,hc8⟩
   have SB8:=hide (show ∀x∈bs8,x∈bs∨w.heap.size<=x from fun x hx=>by
    rcases sub8 x hx with h9 | h9
    ·exact SB5.out x h9
    exact .inr (by omega))
   have hP7c:=P7.out.k.lt;have hP7g:=P7.out.lb
   have ncb:c∉bs8:=fun h9=>by
    rcases sub8 c h9 with h8 | h8
    ·exact P7.out.cb h8
    omega
   have ngb:g∉bs8:=fun h9=>by
    rcases sub8 g h9 with h8 | h8
    ·exact P7.out.bb h8
    omega
   have K8:=hide (P7.out.k.chg hc8 P7.out.cb);have R8:=hide (P7.out.rt.chg hc8 P7.out.lb P7.out.bb);have hg8:g<w8.heap.size:=Nat.lt_of_lt_of_le P7.out.lb hc8.size;have L8:=hide hl8
   have C8:=hide (C7.out.trans hc8 (fun _ h9 _=>h9) (fun x h9 h8=>by
    rcases SB5.out x h9 with h7 | h7
    ·exact List.mem_cons_of_mem _ (List.mem_append_right _ h7)
    omega) (ds:=c::(ob.toList++bs)))
   have ND8:=hide nd8;have HC8:=hide hc8;have d1:=K8.out.c1;have z1:=K8.out.fz 1;clear hl8 hc8 nd8 sub8 HIN
   gi_wp2_with fail
   go_wp2;have G8:=hide (Zy G7.out HC8.out P7.out.bb)
   refine bodyPost_end (v:=.tuple #[]) (by simp [results,Tryz.results184]) rfl ⟨rfl,u8,bs8,g,cp,⟨by have h9:=K8.out.set1 u8;unfold PK at h9;exact h9,L8.out.other ⟨c,1,none⟩ (.pointer u8) ncb,ND8.out,ncb,by rw [hSl];exact .inl ⟨zB G8.out (fun q hq=>by simp only [Value.ownBlock,Option.some.injEq]at hq;subst hq;exact heap_setCell_other w8 ⟨c,1,none⟩ _ _ hgc),rfl⟩,fun q hq=>by cases hq;exact⟨ngb,hgc⟩,P7.out.n⟩,SB8.out,HGQ.out,C8.out.setCell ⟨c,1,none⟩ (.pointer u8) (.inl (by simp))⟩
end Go.Proofs.YtibbhecojkehfaaGreatDoor
namespace Go.Proofs.YtibbhecojkehfaaGreatDoor
open Go Go.RowKit
theorem ZF {F:List Pc} (h:∀p∈F,1<=p.len) {i j:Nat} (hij:i<=j):lsum (F.take i)<=lsum (F.take j):=by
 have e:F.take j=F.take i++(F.take j).drop i:=by
  rw [show F.take i=(F.take j).take i by rw [List.take_take,Nat.min_eq_left hij],List.take_append_drop]
 rw [e,zL]
 have:=yz (F:=(F.take j).drop i) (fun p hp=>h p (List.mem_of_mem_take (List.mem_of_mem_drop hp)))
 omega
theorem Yv {F:List Pc} (h:∀p∈F,1<=p.len) {i j:Nat} (hij:i<j) (hj:j<=F.length):lsum (F.take i)<lsum (F.take j):=by
 have h1:=ZF h (show i+1<=j from hij)
 have h2:F[i]? =some F[i]:=List.getElem?_eq_getElem (by omega)
 have h3:=h _ (List.mem_of_getElem? h2)
 have e:F.take (i+1)=F.take i++ [F[i]]:=(List.take_append_getElem (by omega)).symm
 rw [e,zL,zI,jO]at h1;omega
theorem J0 {S:List Int} {T:AT} {off:Int} (h:T.ok) (h0:0<=off) (h1:off<=T.rns):(cutP S T off).rns=T.rns:=by
 rw [AT.rns_lsum,jQ h h0 h1,<- AT.rns_lsum]
theorem J1 {S:List Int} {T:AT} {a:Nat} {lo hi:Int} (h:T.ok) (h0:0<=hi) (h1:hi<=T.rns) (ha:a<=T.its) (hl:lsum (T.flat.take a)=lo) (hlh:lo<=hi):
  a<=cutN T hi∧(cutP S T hi).flat.take a=T.flat.take a:=by
 obtain⟨r1,r2,r3⟩:=sk_at h h0 h1;have hp:=zp h;have hfl:=AT.flat_its T
 by_cases hi0:skI T hi=0
 ·rw [cutN,if_pos hi0,cutP,if_pos hi0]
  refine⟨?_,rfl⟩
  rcases Nat.lt_or_ge (skR T hi) a with q | q
  ·have:=Yv hp q (by omega)
   omega
  omega
 obtain⟨c1,c2,c3⟩:=r3.resolve_left hi0;have hr:=(zX c3).2
 have e1:lsum (T.flat.take (skR T hi+1))=hi - skI T hi+(skP T hi).len:=by
  conv=>lhs;rw [(zX c3).1]
  rw [jP _ _ _ _ (by rw [List.length_take];omega),zL,zI,jO,r2]
  omega
 have hle:a<=skR T hi:=by
  rcases Nat.lt_or_ge (skR T hi) a with q | q
  ·have:=ZF hp (show skR T hi+1<=a from q)
   omega
  exact q
 refine⟨by rw [cutN,if_neg hi0];omega,?_⟩
 rw [yM h h0 h1 hi0,List.take_append_of_le_length (by rw [List.length_take];omega),List.take_take,Nat.min_eq_left hle]
def atP (T:AT) (R:Nat):Pc:=T.flat.getD R ⟨0,0,0⟩
theorem ZV {T:AT} {R:Nat} (h:R<T.its):T.flat[R]? =some (atP T R):=by
 have:=AT.flat_its T
 rw [atP,List.getD_eq_getElem?_getD,List.getElem?_eq_getElem (by omega)]
 rfl
def healB (T:AT) (R:Nat):Bool:=decide ((0<R∧R<T.its)∧(ahead T R).off+(ahead T R).len=(atP T R).off)
def healP (S:List Int) (T:AT) (R:Nat):AT:=
 if healB T R=true then(T.put (R - 1) (pcAt S (ahead T R).off ((ahead T R).len+(atP T R).len))).rem R else T
theorem Yw {F:List Pc} {R:Nat} {p q:Pc} (h0:0<R) (hp:F[R - 1]? =some p) (hq:F[R]? =some q):F=F.take (R - 1)++p::q::F.drop (R+1):=by
 have h1:=(zX hp).1;have h2:=(zX hq)
 rw [show R - 1+1=R by omega]at h1
 have e:F.drop R=q::F.drop (R+1):=by
  rw [List.drop_eq_getElem_cons h2.2]
  congr 1
  rw [List.getElem?_eq_getElem h2.2]at hq;exact Option.some.inj hq
 rw [e]at h1;exact h1
theorem KE {S:List Int} {T:AT} {R:Nat} (h:T.ok) (hw:T.wp S) (hS:S.length<=220000) (hb:healB T R=true) (hov:T.rns+(atP T R).len<=16384):
  (∀p∈(T.put (R - 1) (pcAt S (ahead T R).off ((ahead T R).len+(atP T R).len))).flat,pcOk p=true):=by
 simp only [healB,decide_eq_true_eq]at hb
 have hp:=zq (T:=T) (R:=R) hb.1.1 (by omega)
 have hq:=ZV (T:=T) (R:=R) hb.1.2;have kp:=h.1 _ (List.mem_of_getElem? hp);have kq:=h.1 _ (List.mem_of_getElem? hq);simp only [pcOk,decide_eq_true_eq]at kp kq;have wq:=((zQ S T).1 hw _ (List.mem_of_getElem? hq)).2.2.1;have e:=Yw hb.1.1 hp hq
 have hsum:(ahead T R).len+(atP T R).len<=lsum T.flat:=by
  conv=>rhs;rw [e]
  rw [zL,zI,zI]
  have h1:=yz (F:=T.flat.take (R - 1)) (fun q hq=>zp h q (List.mem_of_mem_take hq))
  have h2:=yz (F:=T.flat.drop (R+1)) (fun q hq=>zp h q (List.mem_of_mem_drop hq))
  omega
 have h2:=h.2;rw [AT.rns_lsum]at h2;intro x hx;rw [zx T (R - 1) _ _ hp]at hx;simp only [List.mem_append,List.mem_cons]at hx
 rcases hx with hx | rfl | hx
 ·exact h.1 x (List.mem_of_mem_take hx)
 ·exact jW (by omega) (by omega) (by omega) (by omega) hS
 exact h.1 x (List.mem_of_mem_drop hx)
theorem jA {S:List Int} {T:AT} {R:Nat} (hb:healB T R=true):(healP S T R).flat=T.flat.take (R - 1)++pcAt S (ahead T R).off ((ahead T R).len+(atP T R).len)::T.flat.drop (R+1):=by
 have hb':=hb;simp only [healB,decide_eq_true_eq]at hb
 have hp:=zq (T:=T) (R:=R) hb.1.1 (by omega)
 have hfl:=AT.flat_its T
 have hl:(T.flat.take (R - 1)).length=R - 1:=by rw [List.length_take];omega
 rw [healP,if_pos hb',AT.rem_flat _ _ (by rw [AT.put_its];exact hb.1.2),zx T (R - 1) _ _ hp,show R - 1+1=R by omega]
 have e1:(T.flat.take (R - 1)++pcAt S (ahead T R).off ((ahead T R).len+(atP T R).len)::T.flat.drop R).take R=T.flat.take (R - 1)++ [pcAt S (ahead T R).off ((ahead T R).len+(atP T R).len)]:=by
  have:=jP (T.flat.take (R - 1)) (T.flat.drop R) (pcAt S (ahead T R).off ((ahead T R).len+(atP T R).len)) (R - 1) hl
  rw [show R - 1+1=R by omega]at this;exact this
 have e2:(T.flat.take (R - 1)++pcAt S (ahead T R).off ((ahead T R).len+(atP T R).len)::T.flat.drop R).drop (R+1)=T.flat.drop (R+1):=by
  rw [List.drop_append,List.drop_eq_nil_of_le (by omega),hl,List.nil_append,show R+1 - (R - 1)=2 by omega,List.drop_succ_cons,List.drop_drop]
 rw [e1,e2,List.append_assoc];rfl
theorem J2 {S:List Int} {T:AT} {R:Nat} (h:T.ok) (hw:T.wp S) (hS:S.length<=220000):(healP S T R).ok:=by
 cases hb:healB T R with
 | false=>rw [healP,if_neg (by rw [hb];simp)];exact h
 | true=>
  have hf:=jA (S:=S) hb;have h9:=hb;simp only [healB,decide_eq_true_eq]at h9
  have hp:=zq (T:=T) (R:=R) h9.1.1 (by omega)
  have hq:=ZV (T:=T) (R:=R) h9.1.2;have bd:=h.bd;have kq:=h.1 _ (List.mem_of_getElem? hq);simp only [pcOk,decide_eq_true_eq]at kq
  have hpo:=KE h hw hS hb (by omega)
  rw [zx T (R - 1) _ _ hp,show R - 1+1=R by omega]at hpo
  have e:=Yw h9.1.1 hp hq
  refine⟨fun x hx=>?_,?_⟩
  ·rw [hf]at hx
   refine hpo x ?_;simp only [List.mem_append,List.mem_cons]at hx |-
   rcases hx with hx | hx | hx
   ·exact .inl hx
   ·exact .inr (.inl hx)
   exact .inr (.inr ((List.drop_sublist_drop_left T.flat (show R<=R+1 by omega)).subset hx))
  have h2:=h.2;rw [AT.rns_lsum]at h2 |-;rw [e,zL,zI,zI]at h2;rw [hf,zL,zI];simp only [pcAt];omega
def dl2 (S:List Int) (T:AT) (lo hi:Int):AT:=cutP S (cutP S T lo) hi
def dlZ (S:List Int) (T:AT) (lo hi:Int):Nat:=cutN (cutP S T lo) hi
def dlX (S:List Int) (T:AT) (lo hi:Int):AT:=((dl2 S T lo hi).split (cutN T lo)).1
def dlY (S:List Int) (T:AT) (lo hi:Int):AT:=((dl2 S T lo hi).split (cutN T lo)).2
def dlW (S:List Int) (T:AT) (lo hi:Int):AT:=((dlY S T lo hi).split (dlZ S T lo hi - cutN T lo)).2
def dlJ (S:List Int) (T:AT) (lo hi:Int):AT:=AT.join (dlX S T lo hi) (dlW S T lo hi)
def delP (S:List Int) (T:AT) (lo hi:Int):AT:=healP S (dlJ S T lo hi) (cutN T lo)
structure DelF (S:List Int) (T:AT) (lo hi:Int):Prop where
 ok1:(cutP S T lo).ok
 bal1:(cutP S T lo).bal
 wp1:(cutP S T lo).wp S
 rn1:(cutP S T lo).rns=T.rns
 ok2:(dl2 S T lo hi).ok
 bal2:(dl2 S T lo hi).bal
 wp2:(dl2 S T lo hi).wp S
 a2:cutN T lo<=(dl2 S T lo hi).its
 az:cutN T lo<=dlZ S T lo hi
 z2:dlZ S T lo hi<=(dl2 S T lo hi).its
 ra:rankL ((dl2 S T lo hi).told 0) lo=cutN T lo
 rz:rankL ((dl2 S T lo hi).told 0) hi=dlZ S T lo hi
 balX:(dlX S T lo hi).bal
 balY:(dlY S T lo hi).bal
 balW:(dlW S T lo hi).bal
 okX:(dlX S T lo hi).ok
 okY:(dlY S T lo hi).ok
 okW:(dlW S T lo hi).ok
 yits:(dlY S T lo hi).its=(dl2 S T lo hi).its - cutN T lo
 sum:(dlX S T lo hi).rns+(dlW S T lo hi).rns<=8192
 its:(dlX S T lo hi).its+(dlW S T lo hi).its<=8192
 okJ:(dlJ S T lo hi).ok
 balJ:(dlJ S T lo hi).bal
 wpJ:(dlJ S T lo hi).wp S
 okR:(delP S T lo hi).ok
theorem delF {S:List Int} {T:AT} {lo hi:Int} (h:T.ok) (hb:T.bal) (hw:T.wp S) (hS:S.length<=220000) (h0:0<=lo) (hlh:lo<=hi) (h1:hi<=T.rns):DelF S T lo hi:=by
 have ok1:=jX h hw hS h0 (by omega:lo<=T.rns)
 have wp1:=yy h hw h0 (by omega:lo<=T.rns)
 have rn1:=J0 (S:=S) h h0 (by omega:lo<=T.rns)
 have bal1:=ZA (S:=S) (off:=lo) hb
 have hA:=y9 (S:=S) h h0 (by omega:lo<=T.rns)
 have h1':hi<=(cutP S T lo).rns:=by omega
 have ok2:(dl2 S T lo hi).ok:=jX ok1 wp1 hS (by omega) h1'
 have wp2:(dl2 S T lo hi).wp S:=yy ok1 wp1 (by omega) h1'
 have bal2:(dl2 S T lo hi).bal:=ZA bal1
 have hK:=J1 (S:=S) ok1 (by omega) h1' hA.1 hA.2 hlh
 have hZ:=y9 (S:=S) ok1 (by omega:0<=hi) h1'
 have az:cutN T lo<=dlZ S T lo hi:=hK.1;have z2:dlZ S T lo hi<=(dl2 S T lo hi).its:=hZ.1;have a2:cutN T lo<=(dl2 S T lo hi).its:=Nat.le_trans az z2
 have ra:rankL ((dl2 S T lo hi).told 0) lo=cutN T lo:=ji _ _ _ (JW ok2) (by rw [AT.told_length];exact a2) (by rw [yx];show lsum ((cutP S (cutP S T lo) hi).flat.take _)=lo;rw [hK.2];exact hA.2)
 have rz:rankL ((dl2 S T lo hi).told 0) hi=dlZ S T lo hi:=cut_rank ok1 wp1 hS (by omega) h1'
 have sf:=AT.split_flat (dl2 S T lo hi) (cutN T lo) a2;have sb:=AT.split_bal (dl2 S T lo hi) (cutN T lo) bal2;have fX:(dlX S T lo hi).flat=(dl2 S T lo hi).flat.take (cutN T lo):=sf.1;have fY:(dlY S T lo hi).flat=(dl2 S T lo hi).flat.drop (cutN T lo):=sf.2;have hfl:=AT.flat_its (dl2 S T lo hi)
 have yits:(dlY S T lo hi).its=(dl2 S T lo hi).its - cutN T lo:=by rw [<- AT.flat_its,fY,List.length_drop,hfl]
 have sf2:=AT.split_flat (dlY S T lo hi) (dlZ S T lo hi - cutN T lo) (by omega)
 have sb2:=AT.split_bal (dlY S T lo hi) (dlZ S T lo hi - cutN T lo) sb.2
 have fW:(dlW S T lo hi).flat=(dl2 S T lo hi).flat.drop (dlZ S T lo hi):=by
  have:(dlW S T lo hi).flat=(dlY S T lo hi).flat.drop (dlZ S T lo hi - cutN T lo):=sf2.2
  rw [this,fY,List.drop_drop,show cutN T lo+(dlZ S T lo hi - cutN T lo)=dlZ S T lo hi by omega]
 have fJ:(dlJ S T lo hi).flat=(dl2 S T lo hi).flat.take (cutN T lo)++(dl2 S T lo hi).flat.drop (dlZ S T lo hi):=by
  rw [dlJ,AT.join_flat,fX,fW]
 have subJ:(dlJ S T lo hi).flat.Sublist (dl2 S T lo hi).flat:=by
  rw [fJ]
  conv=>rhs;rw [<- List.take_append_drop (cutN T lo) (dl2 S T lo hi).flat]
  refine List.Sublist.append (List.Sublist.refl _) ?_;exact List.drop_sublist_drop_left _ az
 have okX:(dlX S T lo hi).ok:=ok2.sub (by rw [fX];exact List.take_sublist _ _)
 have okY:(dlY S T lo hi).ok:=ok2.sub (by rw [fY];exact List.drop_sublist _ _)
 have okW:(dlW S T lo hi).ok:=ok2.sub (by rw [fW];exact List.drop_sublist _ _)
 have okJ:(dlJ S T lo hi).ok:=ok2.sub subJ
 have wpJ:(dlJ S T lo hi).wp S:=(zQ S _).2 fun p hp=>(zQ S _).1 wp2 p (subJ.subset hp)
 have sum:(dlX S T lo hi).rns+(dlW S T lo hi).rns<=8192:=by
  have h9:=okJ.2;rw [AT.rns_lsum,dlJ,AT.join_flat,zL,<- AT.rns_lsum,<- AT.rns_lsum]at h9;exact h9
 have hits:(dlX S T lo hi).its+(dlW S T lo hi).its<=8192:=by
  have h9:=okJ.bd.1;rw [<- AT.flat_its,dlJ,AT.join_flat,List.length_append,AT.flat_its,AT.flat_its]at h9;omega
 exact⟨ok1,bal1,wp1,rn1,ok2,bal2,wp2,a2,az,z2,ra,rz,sb.1,sb.2,sb2.2,okX,okY,okW,yits,sum,hits,okJ,AT.join_bal _ _ sb.1 sb2.2,wpJ,J2 okJ wpJ hS⟩
theorem told_at {T:AT} {r:Nat} {p:Pc} (h:T.flat[r]? =some p):∃y,(T.told 0)[r]? =some y∧y.pc=p:=by
 rw [<- AT.flat_of T 0,List.getElem?_map]at h
 cases hy:(T.told 0)[r]? with
 | none=>rw [hy]at h;cases h
 | some y=>rw [hy]at h;exact⟨y,rfl,by simpa using h⟩
theorem Kv {S:List Int} {n:Nat} {T:AT} {off:Int} {r:Nat} {y:It} (h:T.ok) (h0:0<=off) (h1:off<=T.rns) (hR:cutN T off=r+1) (hy:(T.told 0)[r]? =some y) (ht:total ((T.told 0).take (cutN T off))=off) (hm:y.pc.off+y.pc.len=(n:Int)):
  insP S n T off=T.put r (pcAt S y.pc.off (y.pc.len+((S.length:Int) - n))):=by
 obtain⟨a,s,c⟩:=sk_at h h0 h1
 have hi:skI T off=0:=by
  rcases Decidable.em (skI T off=0)with hi | hi
  ·exact hi
  exfalso;obtain⟨c1,c2,c3⟩:=c.resolve_left hi;rw [cutN,if_neg hi,yx]at ht;have e4:=(zX c3).1
  rw [e4,jP _ _ _ _ (by rw [List.length_take];have:=(zX c3).2;omega),zL,zI,jO,s]at ht
  omega
 have hf:T.flat[r]? =some y.pc:=by rw [<- AT.flat_of T 0,List.getElem?_map,hy];rfl
 have ha:ahead T (r+1)=y.pc:=by rw [ahead,Nat.add_sub_cancel,List.getD_eq_getElem?_getD,hf];rfl
 rw [insP,hR,cutP,if_pos hi,addP,if_pos (by rw [meetB,decide_eq_true_eq,ha];exact⟨by omega,hm⟩),ha,Nat.add_sub_cancel]
theorem Kw {S:List Int} {n:Nat} {T:AT} {off:Int} (h:T.ok) (hw:∀p∈T.flat,p.off+p.len<=(n:Int)) (h0:0<=off) (h1:off<=T.rns) (hno:¬ (∃r y,cutN T off=r+1∧(T.told 0)[r]? =some y∧total ((T.told 0).take (cutN T off))=off∧y.pc.off+y.pc.len=(n:Int))):
  insP S n T off=(cutP S T off).ins (cutN T off) (pcAt S n ((S.length:Int) - n)):=by
 obtain⟨a,s,c⟩:=sk_at h h0 h1;rw [insP,addP,if_neg];intro hmt;simp only [meetB,decide_eq_true_eq]at hmt;obtain⟨m1,m2⟩:=hmt
 by_cases hi:skI T off=0
 ·refine hno ?_
  have e1:cutN T off=skR T off:=by rw [cutN,if_pos hi];omega
  rw [cutP,if_pos hi]at m2
  obtain⟨r,hr⟩:∃r,cutN T off=r+1:=⟨cutN T off - 1,by omega⟩
  have ha:=zq (T:=T) (R:=cutN T off) m1 (by omega)
  obtain⟨y,hy,hyp⟩:=told_at ha
  refine⟨r,y,hr,by rw [<- hy,hr];rfl,?_,by rw [hyp];exact m2⟩
  rw [yx,e1,s,hi];omega
 obtain⟨c1,c2,c3⟩:=c.resolve_left hi
 have e1:cutN T off=skR T off+1:=by rw [cutN,if_neg hi]
 have hw':=hw _ (List.mem_of_getElem? c3)
 have ha:ahead (cutP S T off) (cutN T off)=pcAt S (skP T off).off (skI T off):=by
  rw [ahead,e1,Nat.add_sub_cancel,List.getD_eq_getElem?_getD,yM h h0 h1 hi,List.getElem?_append_right (by rw [List.length_take];omega)]
  have:skR T off - (T.flat.take (skR T off)).length=0:=by rw [List.length_take];have:=(zX c3).2;omega
  rw [this];rfl
 rw [ha]at m2;simp only [pcAt]at m2;omega
def Back (S:List Int) (F G:List Pc):Prop:=G=F∨∃r p q,F[r]? =some p∧F[r+1]? =some q∧p.off+p.len=q.off∧G=F.take r++pcAt S p.off (p.len+q.len)::F.drop (r+2)
end Go.Proofs.YtibbhecojkehfaaGreatDoor
