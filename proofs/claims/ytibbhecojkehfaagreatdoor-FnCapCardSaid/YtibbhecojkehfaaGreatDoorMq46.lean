import Derived.Test.YtibbhecojkehfaaGreatDoorMq45
set_option linter.all false
set_option maxRecDepth 100000
set_option maxHeartbeats 16000000
namespace Go.Proofs.YtibbhecojkehfaaGreatDoor
open Go Go.RowKit Go.Sort
theorem Src.ty {bs:List Int} {vb:Value} {p:Nat} {w:World} (h:Src bs vb p w):∃cs,w.heap[p]? =some (.cells cs 62 (0,0)):=by
 obtain⟨⟨i,x,_,_,_,hh⟩,_⟩:=h;exact⟨_,hh⟩
theorem src_two {bs:List Int} {vb:Value} {p:Nat} {w w':World} (h:Src bs vb p w) {U:Nat} (hu:SrcU bs vb U) (hp:w'.heap[p]? =w.heap[p]?) (hk:∀q,q<U->w'.heap[q]? =w.heap[q]?):Src bs vb p w':=by
 obtain⟨⟨i,x,h5,h6,h7,h8⟩,h1,h2,h3⟩:=h;refine⟨⟨i,x,h5,h6,h7,hp.trans h8⟩,h1,h2,?_⟩
 rcases h3 with h3 | ⟨b,off,cap,hv,hne,hl,hc⟩
 ·exact .inl h3
 exact .inr ⟨b,off,cap,hv,hne,hl,fun i hi=>(World.cell?_of_block (a:=⟨b,off+i,none⟩) (hk b (hu b off cap hl.1 hv))).trans (hc i hi)⟩
theorem SR.drew {w w':World} {N:Prop} {B p:Nat} {v vb:Value} {ops:List Cop} {bs:List Int} (h:SR w N B v ops) (hs:Src bs vb p w) (hg:w.grownBy w' (some p)):SR w' N B v ops:=by
 obtain⟨cs9,h9⟩:=hs.ty
 refine h.chg (R:=fun q=>q=p) ⟨hg.os,hg.tape,hg.output,hg.size,fun q hq hn=>hg.block q hq (fun e=>hn (by simpa using e))⟩ (fun q _ hq h8=>?_)
 subst hq;obtain⟨cs8,fr8,h7 | h7⟩:=h8
 ·exact ty_ne h9 h7 (by decide)
 exact ty_ne h9 h7 (by decide)
theorem InsL.snoc {l:Nat} {ops:List Cop} {a:Nat} {ch:Int} (h:InsL l ops) (ha:a<=l+ops.length) (hc:65<=ch∧ch<=122):InsL l (ops++ [insC a ch]):=fun i o hi=>by
 rcases Nat.lt_or_ge i ops.length with h9 | h9
 ·rw [List.getElem?_append_left h9]at hi
  exact h i o hi
 have h8:i=ops.length:=by
  have:=(List.getElem?_eq_some_iff.1 hi).1;simp at this;omega
 subst h8;rw [List.getElem?_append_right lR,Nat.sub_self]at hi;simp at hi;exact⟨a,ch,hi.symm,ha,hc⟩
theorem RunO.obs {w:World} {n:Nat} {ss:List PSt} {bo:Nat} {w':World} (h:RunO w n ss bo w') {k:Nat} {s:PSt} (hs:ss[k]? =some s) (hk:k<n):∃ta tk,w'.cell? ⟨bo,k*10,none⟩=some (.int .i64 s.x0)∧w'.cell? ⟨bo,k*10+3,none⟩=some (.slice ta s.T.length tk)∧own32 w' 0 (.slice ta s.T.length tk) s.T∧w'.cell? ⟨bo,k*10+7,none⟩=some (.int .i64 (s.M.dn.length:Nat)):=by
 obtain⟨xs,G,h1,h2,h3⟩:=h;obtain⟨tv,mk,h4,h5,h6⟩:=h2.get hs;obtain⟨ta,tk,rfl⟩:=yS h5.1;refine⟨ta,tk,?_,?_,zG h5.1 (Nat.zero_le _),?_⟩
 ·have h9:=h1.cellAt (k*10+0) (by omega)
  rw [h4 0 (by omega)]at h9
  exact h9
 ·rw [h1.cellAt (k*10+3) (by omega),h4 3 (by omega)];rfl
 rw [h1.cellAt (k*10+7) (by omega),h4 7 (by omega)];rfl
theorem capBl {A Bs:List Cop} {lim l1 l2:Nat} (hA:InsL l1 A) (hB:InsL l2 Bs):∀o∈capS A Bs lim,o.bs.length<=1048576:=by
 have key:∀ {l:Nat} {ops:List Cop},InsL l ops->∀o∈ops,o.bs.length<=1048576:=fun h o ho=>by
  obtain⟨i,hi⟩:=List.getElem?_of_mem ho;obtain⟨a,ch,rfl,_⟩:=h i o hi;simp [insC]
 intro o ho;unfold capS at ho;simp only [List.mem_append,List.mem_cons,List.mem_replicate,List.not_mem_nil,or_false]at ho
 rcases ho with ho | rfl | ho | ⟨_,rfl⟩ | rfl | rfl
 ·exact key hA o ho
 ·simp [dmpOp]
 ·exact key hB o ho
 ·simp [undOp]
 ·simp [undOp]
 simp [dmpOp]
theorem Kl (A Bs:List Cop) (lim:Nat):A++ [dmpOp]++Bs++List.replicate (lim+1) undOp++ [dmpOp]=capS A Bs lim:=by
 unfold capS;rw [List.replicate_succ'];simp
structure CpSt (w0:World) (bs:List Int) (vb:Value) (p P Q:Nat) (pol:Array Value) (ops:List Cop) (v:Value) (w:World):Prop where
 sr:SR w True w0.heap.size v ops
 src:Src bs vb p w
 bel:Below w0.heap.size w0 w
 pol:w.heap[P]? =some (.cells pol 26 (0,0))
 dmp:w.heap[Q]? =some (.cells #[.int .i64 16,.int .i64 0,.int .i64 0,.int .i64 0,.slice none 0 0] 30 (0,0))
 dn:∀q,v.ownBlock=some q->q≠Q
 pp:w0.heap.size<=p∧w0.heap.size<=P∧w0.heap.size<=Q
theorem CpSt.drew {w0:World} {bs:List Int} {vb:Value} {p P Q:Nat} {pol:Array Value} {ops:List Cop} {v:Value} {w w':World} (h:CpSt w0 bs vb p P Q pol ops v w) (hs:Src bs vb p w') (hg:w.grownBy w' (some p)):CpSt w0 bs vb p P Q pol ops v w':=by
 obtain⟨cs9,h9⟩:=h.src.ty
 refine⟨h.sr.drew h.src hg,hs,h.bel.grown hg h.bel.size (fun q hq=>by simp at hq;have:=h.pp.1;omega),?_,?_,h.dn,h.pp⟩
 ·exact(hg.block P (Array.getElem?_eq_some_iff.1 h.pol).1 (fun e=>by have e2:P=p:=(by simpa using e);rw [<- e2]at h9;exact ty_ne h.pol h9 (by decide))).trans h.pol
 exact(hg.block Q (Array.getElem?_eq_some_iff.1 h.dmp).1 (fun e=>by have e2:Q=p:=(by simpa using e);rw [<- e2]at h9;exact ty_ne h.dmp h9 (by decide))).trans h.dmp
theorem CpSt.below {w0:World} {bs:List Int} {vb:Value} {p P Q:Nat} {pol:Array Value} {ops:List Cop} {v:Value} {w w':World} (h:CpSt w0 bs vb p P Q pol ops v w) (hb:Below w.heap.size w w'):CpSt w0 bs vb p P Q pol ops v w':=
 ⟨h.sr.below hb,h.src.bel hb,h.bel.trans (hb.mono h.bel.size),(hb.block P (Array.getElem?_eq_some_iff.1 h.pol).1).trans h.pol,(hb.block Q (Array.getElem?_eq_some_iff.1 h.dmp).1).trans h.dmp,h.dn,h.pp⟩
theorem CpSt.app {w0:World} {bs:List Int} {vb:Value} {p P Q:Nat} {pol:Array Value} {ops:List Cop} {o:Cop} {v:Value} {x w8:World} {tvs:List Value} {tv:Value} {g8 c8 n:Nat} (hn:ops.length=n) (h:CpSt w0 bs vb p P Q pol ops v x) (hu:SrcU bs vb w0.heap.size) (h1:x.ownsRow w0.heap.size 30 5 v n (opV ops tvs)) (h2:tvs.length=n) (h3:∀ (k:Nat) tv o,tvs[k]? =some tv->ops[k]? =some o->x.ownsRow w0.heap.size 5 1 tv o.bs.length (ints .u8 o.bs)∧(True->o.bs= []->tv= .slice none 0 0))
  (ht:x.ownsRow w0.heap.size 5 1 tv o.bs.length (ints .u8 o.bs)) (hN:o.bs= []->tv= .slice none 0 0) (ho:w8.ownsRow w0.heap.size 30 5 (.slice (some ⟨g8,0,none⟩) (n+1) c8) (n+1) (opV ops tvs++ [.int .i64 o.kd,.int .i64 o.b0,.int .i64 o.b1,.int .i64 o.b2,tv])) (hg:x.grownBy w8 v.ownBlock) (hq:v.ownBlock=some g8∨g8=x.heap.size):CpSt w0 bs vb p P Q pol (ops++ [o]) (.slice (some ⟨g8,0,none⟩) (n+1) c8) w8:=by
 subst hn
 have hlo:∀q,v.ownBlock=some q->w0.heap.size<=q:=fun q hq=>(h1.lt q hq).1
 have hty:∀q cs t fr,v.ownBlock=some q->x.heap[q]? =some (.cells cs t fr)->t=30:=fun q cs t fr hq h9=>by
  obtain⟨cs8,fr8,h8⟩:=zj h1 hq;rw [h8]at h9;simp only [Option.some.injEq,Obj.cells.injEq]at h9;exact h9.2.1.symm
 have hpl:=h.src.lt;have hPl:=(Array.getElem?_eq_some_iff.1 h.pol).1;have hQl:=(Array.getElem?_eq_some_iff.1 h.dmp).1;obtain⟨csp,hsp⟩:=h.src.ty
 refine⟨SR.app h1 h2 h3 hg ho ht (fun _=>hN),src_two h.src hu (hg.block p hpl (fun e=>absurd (hty p _ _ _ e.symm hsp) (by decide))) (fun q hq=>hg.block q (by have:=h.bel.size;omega) (fun e=>by have:=hlo q e.symm;omega)),h.bel.grown hg h.bel.size hlo,(hg.block P hPl (fun e=>absurd (hty P _ _ _ e.symm h.pol) (by decide))).trans h.pol,(hg.block Q hQl (fun e=>h.dn Q e.symm rfl)).trans h.dmp,fun q hq2=>?_,h.pp⟩
 simp only [Value.ownBlock,Option.some.injEq]at hq2;subst hq2
 rcases hq with h9 | h9
 ·exact h.dn _ h9
 omega
theorem capLaw (bs:List Int) (v:Value) (w:World) (h:Rd .u8 w v bs) (hb:∀z∈bs,0<=z∧z<=255) (hn:bs.length<=1048576) (hTab:Tab w) (hEr:ErT w):
  Calls Tryz.prog 3 #[v] w fun e w'=>e= .returned (.bool true)∧Below w.heap.size w w':=by
 obtain⟨i0,hi0,hz0,hz1,hz2⟩:=info_parts Tryz.infoOP
 have h1:1<w.heap.size:=by obtain⟨t,fr,h9⟩:=hTab;exact(Array.getElem?_eq_some_iff.1 h9).1
 have HT:=hide hTab;have HE:=hide hEr
 obtain⟨va,vk,rfl⟩:∃a k,v= .slice a bs.length k:=by
  rcases h with ⟨ao,cap,rfl,rfl⟩ | ⟨b,off,cap,rfl,_⟩
  ·exact⟨_,_,rfl⟩
  exact⟨_,_,rfl⟩
 have HU:=hide (show SrcU bs (.slice va bs.length vk) w.heap.size from fun b off cap e0 e=>by
  rcases h with ⟨ao,cap',e1,e2⟩ | ⟨b',off',cap',e1,hp,hc⟩
  ·rw [e2]at e0;simp at e0
  rw [e1]at e;injection e with e3 e4 e5;injection e3 with e3;injection e3 with e3 e6;subst e3;exact World.block_lt_of_cell? w _ (hc 0 hp.1))
 have N2:=hide (new2 bs _ w h hb hn);generalize hvb:bs.length=nb at *;have HNB:=hide hvb
 have hnb:¬ (1048576:Int)<nb:=by omega
 clear h hb hTab hEr hvb;go_enter Tryz.func3,Tryz.ntmps3;go_wp2_with fail;refine N2.out.mono ?_;rintro e w1 ⟨rfl,hs1,hb1⟩;have B1:=hide hb1
 have D1:=hide (drawPol bs _ _ w1 hs1 (fun b off cap e0 e=>Nat.lt_of_lt_of_le (HU.out b off cap e0 e) hb1.size))
 have y1:=hb1.size;clear hs1 hb1 N2;go_wp2_with fail;refine D1.out.mono ?_;rintro e w2 ⟨big,near,run,rfl,hs2,hg2⟩
 have B2:=hide (B1.out.grown hg2 B1.out.size (fun q hq=>by simp at hq;omega))
 have S2:=hide hs2;have y2:=B2.out.size;have p2:=hs2.lt;clear hs2 hg2 D1 B1
 go_upto_region 5 with fail
 have BA:=hide (bA (Below.refl w2.heap.size w2) (.cells #[.int .i64 big,.int .i64 near,.int .i64 run] 26))
 have PO:=hide (show(w2.alloc (.cells #[.int .i64 big,.int .i64 near,.int .i64 run] 26)).heap[w2.heap.size]? =some (.cells #[.int .i64 big,.int .i64 near,.int .i64 run] 26 (0,0))from heap_alloc_new _ _)
 have S3:=hide (S2.out.bel BA.out);have B3:=hide (B2.out.trans (BA.out.mono B2.out.size))
 have zP:w2.heap.size<(w2.alloc (.cells #[.int .i64 big,.int .i64 near,.int .i64 run] 26)).heap.size:=by simp
 generalize w2.alloc (.cells #[.int .i64 big,.int .i64 near,.int .i64 run] 26)=w3 at *;obtain⟨P,hP⟩:∃P,P=w2.heap.size:=⟨_,rfl⟩;rw [<- hP]at zP y2 p2 |-
 have PO3:=hide (show w3.heap[P]? =some (.cells #[.int .i64 big,.int .i64 near,.int .i64 run] 26 (0,0))from by rw [hP];exact PO.out)
 clear PO BA S2 B2 hP;go_wp2_with fail
 refine(Z5 bs _ _ 12 w3 S3.out (by decide) (by decide)).mono ?_
 rintro e w4 ⟨r1,rfl,hr1,hs4,hg4⟩;have S4:=hide hs4
 have B4:=hide (B3.out.grown hg4 B3.out.size (fun q hq=>by simp at hq;omega))
 have PO4:=hide ((hg4.block P zP (fun e=>by simp at e;omega)).trans PO3.out)
 have zP4:=Nat.lt_of_lt_of_le zP hg4.size;clear hs4 hg4 S3 B3 PO3 zP
 obtain⟨hc,hhc⟩:∃x:Nat,1+r1=(x:Int):=⟨(1+r1).toNat,by omega⟩
 have hhc2:1<=hc∧hc<=12:=by omega
 go_wp2_with fail;clear hhc hr1
 refine(Z5 bs _ _ 40 w4 S4.out (by decide) (by decide)).mono ?_
 rintro e w5 ⟨r2,rfl,hr2,hs5,hg5⟩;have S5:=hide hs5
 have B5:=hide (B4.out.grown hg5 B4.out.size (fun q hq=>by simp at hq;omega))
 have PO5:=hide ((hg5.block P zP4 (fun e=>by simp at e;omega)).trans PO4.out)
 have zP5:=Nat.lt_of_lt_of_le zP4 hg5.size;clear hs5 hg5 S4 B4 PO4 zP4
 go_upto_if 29 with fail
 go_cut [5] (fun s5 wc=>∃lm:Nat,s5= .int .i64 lm∧((1<=lm∧lm<=12)∨lm=1000)∧wc=w5)
 case first=>
  by_cases h9:r2=0
  ·have hb9:(r2==0)=true:=by simp [h9]
   go_wp2;go_meet;exact⟨1000,rfl,.inr rfl,rfl⟩
  have hb9:(r2==0)=false:=by simp [h9]
  go_wp2;go_meet;exact⟨hc,rfl,.inl hhc2,rfl⟩
 obtain⟨lm,rfl,hlm,hwc⟩:=hcut;subst hwc;clear hhc2 hr2
 go_upto_if 32 with fail
 go_cut [5] (fun s5 wc=>∃hcap:Int,s5= .int .i64 hcap∧(lm:Int)=min (max hcap 1) 1000∧Src bs (.slice va nb vk) w.heap.size wc∧Below w.heap.size w wc∧wc.heap[P]? =some (.cells #[.int .i64 big,.int .i64 near,.int .i64 run] 26 (0,0))∧P<wc.heap.size)
 case first=>
  rcases hlm with hlm | hlm
  ·have hb9:((lm:Int)==1000)=false:=by simp;omega
   go_wp2;go_meet
   exact⟨lm,rfl,by omega,S5.out,B5.out,PO5.out,zP5⟩
  subst hlm;have hb9:(((1000:Nat):Int)==1000)=true:=rfl;go_wp2_with fail
  refine(Z5 bs _ _ 3 _ S5.out (by decide) (by decide)).mono ?_
  rintro e w6 ⟨r3,rfl,hr3,hs6,hg6⟩;have S6:=hide hs6
  have B6:=hide (B5.out.grown hg6 B5.out.size (fun q hq=>by simp at hq;omega))
  have PO6:=hide ((hg6.block P zP5 (fun e=>by simp at e;omega)).trans PO5.out)
  have zP6:=Nat.lt_of_lt_of_le zP5 hg6.size;clear hs6 hg6 S5 B5 PO5 zP5;go_wp2;go_meet
  exact⟨_,rfl,by omega,S6.out,B6.out,PO6.out,zP6⟩
 obtain⟨hcap,rfl,hli,hs6,hb6,hpo6,hzp6⟩:=hcut
 have hl1:1<=lm∧lm<=1000:=by omega
 have HLI:=hide hli;have S6:=hide hs6;have B6:=hide hb6;have PO6:=hide hpo6;clear hli hs6 hb6 hpo6 S5 B5 PO5 zP5 hlm;go_wp2_with fail
 refine(Z5 bs _ _ 4 wc S6.out (by decide) (by decide)).mono ?_
 rintro e w7 ⟨r4,rfl,hr4,hs7,hg7⟩;have S7:=hide hs7
 have B7:=hide (B6.out.grown hg7 B6.out.size (fun q hq=>by simp at hq;omega))
 have PO7:=hide ((hg7.block P hzp6 (fun e=>by simp at e;omega)).trans PO6.out)
 have zP7:=Nat.lt_of_lt_of_le hzp6 hg7.size;clear hs7 hg7 S6 B6 PO6 hzp6
 obtain⟨ov,hov⟩:∃x:Nat,1+r4=(x:Int):=⟨(1+r4).toNat,by omega⟩
 have hov2:1<=ov∧ov<=4:=by omega
 go_upto_region 13 with fail
 clear hov hr4;have BA8:=hide (bA (Below.refl w7.heap.size w7) (.cells #[.int .i64 16,.int .i64 0,.int .i64 0,.int .i64 0,.slice none 0 0] 30))
 have DM8:=hide (show(w7.alloc (.cells #[.int .i64 16,.int .i64 0,.int .i64 0,.int .i64 0,.slice none 0 0] 30)).heap[w7.heap.size]? =some (.cells #[.int .i64 16,.int .i64 0,.int .i64 0,.int .i64 0,.slice none 0 0] 30 (0,0))from heap_alloc_new _ _)
 have S8:=hide (S7.out.bel BA8.out);have B8:=hide (B7.out.trans (BA8.out.mono B7.out.size));have PO8:=hide ((BA8.out.block P zP7).trans PO7.out)
 have zQ8:w7.heap.size<(w7.alloc (.cells #[.int .i64 16,.int .i64 0,.int .i64 0,.int .i64 0,.slice none 0 0] 30)).heap.size:=by simp
 have y7:=B7.out.size;generalize w7.alloc (.cells #[.int .i64 16,.int .i64 0,.int .i64 0,.int .i64 0,.slice none 0 0] 30)=w8 at *;have y8:=B8.out.size
 have zP8:P<w8.heap.size:=by omega
 generalize w7.heap.size=Q at *;have BA9:=hide (bA (Below.refl w8.heap.size w8) (.cells #[] 30))
 have C9:=hide (show CpSt w bs (.slice va nb vk) w.heap.size P Q #[.int .i64 big,.int .i64 near,.int .i64 run] [] (.slice (some ⟨w8.heap.size,0,none⟩) 0 0) (w8.alloc (.cells #[] 30))from⟨SR.nil y8,S8.out.bel BA9.out,B8.out.trans (BA9.out.mono y8),(BA9.out.block P zP8).trans PO8.out,(BA9.out.block Q zQ8).trans DM8.out,fun q hq e=>by simp only [Value.ownBlock,Option.some.injEq]at hq;omega,lR,y2,y7⟩)
 clear BA8 BA9 DM8 S7 S8 B7 B8 PO7 PO8 zP7 zP8 zQ8;go_wp2_with fail;generalize w8.alloc (.cells #[] 30)=w9 at *
 go_loopw [9,10] (fun sv i wr=>∃ (k:Nat) (A:List Cop),k<=ov∧i= .int .i64 k∧A.length=k∧InsL 0 A∧CpSt w bs (.slice va nb vk) w.heap.size P Q #[.int .i64 big,.int .i64 near,.int .i64 run] A sv wr) (fun _ i _=>ov - (intOf i).toNat)
 case atStart=>exact⟨0,[],Nat.zero_le _,rfl,rfl,fun i o h=>by simp at h,C9.out⟩
 obtain⟨k,A,hk,rfl,hAl,hAi,hS⟩:=hrel;have HS:=hide hS;have HA:=hide (And.intro hAl hAi);clear hS C9 hAl hAi
 by_cases hlt:k<ov
 ·have hlt':(k:Int)<ov:=by omega
  have DR:=hide (Z5 bs _ _ ((k:Int)+1) wr HS.out.src (by omega) (by omega))
  go_wp2_with fail;refine DR.out.mono ?_;rintro e x1 ⟨rr,rfl,hrr,hs1,hg1⟩
  obtain⟨a,rfl⟩:∃a:Nat,rr=(a:Int):=⟨rr.toNat,by omega⟩
  obtain⟨c,hc⟩:∃x:Int,65+(k:Int)=x:=⟨_,rfl⟩
  have hcb:65<=c∧c<=122:=by omega
  have hcw:IntKind.u8.wrap c=c:=by rw [IntKind.wrap_u8];omega
  have C1:=hide (HS.out.drew hs1 hg1);clear hs1 hg1 DR HS;have BA:=hide (bA (bA (Below.refl x1.heap.size x1) (.cells #[.int .u8 c] 5)) (.cells #[.int .i64 1,.int .i64 a,.int .i64 0,.int .i64 0,.slice (some ⟨x1.heap.size,0,none⟩) 1 1] 30));have C2:=hide (C1.out.below BA.out);have yy1:=C1.out.bel.size;obtain⟨tvs,t1,t2,t3⟩:=C2.out.sr
  have TV:=hide (show((x1.alloc (.cells #[.int .u8 c] 5)).alloc (.cells #[.int .i64 1,.int .i64 a,.int .i64 0,.int .i64 0,.slice (some ⟨x1.heap.size,0,none⟩) 1 1] 30)).ownsRow w.heap.size 5 1 (.slice (some ⟨x1.heap.size,0,none⟩) 1 1) 1 [.int .u8 c]from World.ownsRow.alloc (zG (⟨rfl,.inr ⟨x1.heap.size,1,_,rfl,lR,heap_alloc_new x1 (.cells #[.int .u8 c] 5),lR,by unfold maxLen;omega,rfl,rfl⟩⟩:(x1.alloc (.cells #[.int .u8 c] 5)).ownsRow x1.heap.size 5 1 (.slice (some ⟨x1.heap.size,0,none⟩) 1 1) 1 [.int .u8 c]) yy1) _)
  have HLn:=hide (show(A).length=k from HA.out.1)
  rw [HLn.out]at t1 t2;have T1:=hide t1;have T2:=hide t2;have T3:=hide t3
  have NC:=hide (show ∀j u,[.int .i64 1,.int .i64 a,.int .i64 0,.int .i64 0,.slice (some ⟨x1.heap.size,0,none⟩) 1 1][j]? =some u->((x1.alloc (.cells #[.int .u8 c] 5)).alloc (.cells #[.int .i64 1,.int .i64 a,.int .i64 0,.int .i64 0,.slice (some ⟨x1.heap.size,0,none⟩) 1 1] 30)).cell? ((⟨x1.heap.size+1,0,none⟩:Addr).add j)=some u from by
   have h9:=zY (x1.alloc (.cells #[.int .u8 c] 5)) 30 [.int .i64 1,.int .i64 a,.int .i64 0,.int .i64 0,.slice (some ⟨x1.heap.size,0,none⟩) 1 1];rw [World.size_alloc]at h9
   exact h9)
  have yy2:x1.heap.size<=((x1.alloc (.cells #[.int .u8 c] 5)).alloc (.cells #[.int .i64 1,.int .i64 a,.int .i64 0,.int .i64 0,.slice (some ⟨x1.heap.size,0,none⟩) 1 1] 30)).heap.size:=BA.out.size;clear t1 t2 t3 C1 BA
  go_wp2_with (at_builtin;refine wpList_append_lies _ rfl _ _ 31 rfl w.heap.size 30 i0 (.agg #[.int .i64 0,.int .i64 0,.int .i64 0,.int .i64 0,.slice none 0 0]) 5 56 Tryz.underlying31 hi0 hz0 hz1 hz2 rfl (by decide) u9 (k) (opV (A) tvs) rfl (by exact T1.out) ⟨x1.heap.size+1,0,none⟩ 1 1 _ rfl rfl NC.out (by simp [Value.oneCell']) (by omega) (by unfold maxLen;omega) (by omega) (by omega) _ rfl ?_;intro g8 c8 w10 hown8 hgr8 hgq8 hgl8)
  go_roundw
  case rel=>
   have h9:=CpSt.app (o:=insC a c) HLn.out C2.out HU.out T1.out T2.out T3.out TV.out (fun e=>by cases e) hown8 hgr8 hgq8
   exact⟨k+1,A++ [insC a c],by omega,by go_num,by simp [HA.out.1],HA.out.2.snoc (by rw [HA.out.1];omega) hcb,h9⟩
  simp [intOf];omega
 have hlt':¬ (k:Int)<ov:=by omega
 obtain rfl:ov=k:=by omega
 have BA:=hide (bA (Below.refl wr.heap.size wr) (.cells #[.int .i64 16,.int .i64 0,.int .i64 0,.int .i64 0,.slice none 0 0] 30));have C2:=hide (HS.out.below BA.out);have yy1:=HS.out.bel.size
 have q0:=cR (i:=0) HS.out.dmp rfl
 have q1:=cR (i:=1) HS.out.dmp rfl
 have q2:=cR (i:=2) HS.out.dmp rfl
 have q3:=cR (i:=3) HS.out.dmp rfl
 have q4:=cR (i:=4) HS.out.dmp rfl
 obtain⟨tvs,t1,t2,t3⟩:=C2.out.sr
 have HLn:=hide (show(A).length=ov from HA.out.1)
 rw [HLn.out]at t1 t2;have T1:=hide t1;have T2:=hide t2;have T3:=hide t3;have NC:=hide (zY wr 30 [.int .i64 16,.int .i64 0,.int .i64 0,.int .i64 0,.slice none 0 0]);have yy2:wr.heap.size<=(wr.alloc (.cells #[.int .i64 16,.int .i64 0,.int .i64 0,.int .i64 0,.slice none 0 0] 30)).heap.size:=BA.out.size;clear t1 t2 t3 BA HS
 go_wp2_with (at_builtin;refine wpList_append_lies _ rfl _ _ 31 rfl w.heap.size 30 i0 (.agg #[.int .i64 0,.int .i64 0,.int .i64 0,.int .i64 0,.slice none 0 0]) 5 56 Tryz.underlying31 hi0 hz0 hz1 hz2 rfl (by decide) u9 (ov) (opV (A) tvs) rfl (by exact T1.out) ⟨wr.heap.size,0,none⟩ 1 1 _ rfl rfl NC.out (by simp [Value.oneCell']) (by omega) (by unfold maxLen;omega) (by omega) (by omega) _ rfl ?_;intro g8 c8 w11 hown8 hgr8 hgq8 hgl8)
 have CD:=hide (CpSt.app (o:=dmpOp) HLn.out C2.out HU.out T1.out T2.out T3.out (World.ownsRow_nil _ _ _ _) (fun _=>rfl) hown8 hgr8 hgq8)
 clear q0 q1 q2 q3 q4 T1 T2 T3 C2 NC yy1 yy2 HLn hown8 hgr8 hgq8 hgl8
 go_loopw [9,11] (fun sv i wr=>∃ (k:Nat) (Bs:List Cop),k<=lm∧i= .int .i64 k∧Bs.length=k∧InsL ov Bs∧CpSt w bs (.slice va nb vk) w.heap.size P Q #[.int .i64 big,.int .i64 near,.int .i64 run] (A++ [dmpOp]++Bs) sv wr) (fun _ i _=>lm - (intOf i).toNat)
 case atStart=>exact⟨0,[],Nat.zero_le _,rfl,rfl,fun i o h=>by simp at h,by rw [List.append_nil];exact CD.out⟩
 obtain⟨k,Bs,hk,rfl,hBl,hBi,hS⟩:=hrel;have HS:=hide hS;have HB:=hide (And.intro hBl hBi);clear hS CD hBl hBi
 by_cases hlt:k<lm
 ·have hlt':(k:Int)<lm:=by omega
  have DR:=hide (Z5 bs _ _ ((ov:Int)+1) wr HS.out.src (by omega) (by omega))
  have h26:0<=Int.tmod (k:Int) 26∧Int.tmod (k:Int) 26<26:=⟨Int.tmod_nonneg _ (by omega),Int.tmod_lt_of_pos _ (by omega)⟩
  obtain⟨m26,hm26⟩:∃x:Int,Int.tmod (k:Int) 26=x:=⟨_,rfl⟩;rw [hm26]at h26;go_wp2_with fail;refine DR.out.mono ?_;rintro e x1 ⟨rr,rfl,hrr,hs1,hg1⟩
  obtain⟨a,rfl⟩:∃a:Nat,rr=(a:Int):=⟨rr.toNat,by omega⟩
  obtain⟨c,hc⟩:∃x:Int,97+m26=x:=⟨_,rfl⟩
  have hcb:65<=c∧c<=122:=by omega
  have hcw:IntKind.u8.wrap c=c:=by rw [IntKind.wrap_u8];omega
  have C1:=hide (HS.out.drew hs1 hg1);clear hs1 hg1 DR HS;have BA:=hide (bA (bA (Below.refl x1.heap.size x1) (.cells #[.int .u8 c] 5)) (.cells #[.int .i64 1,.int .i64 a,.int .i64 0,.int .i64 0,.slice (some ⟨x1.heap.size,0,none⟩) 1 1] 30));have C2:=hide (C1.out.below BA.out);have yy1:=C1.out.bel.size;obtain⟨tvs,t1,t2,t3⟩:=C2.out.sr
  have TV:=hide (show((x1.alloc (.cells #[.int .u8 c] 5)).alloc (.cells #[.int .i64 1,.int .i64 a,.int .i64 0,.int .i64 0,.slice (some ⟨x1.heap.size,0,none⟩) 1 1] 30)).ownsRow w.heap.size 5 1 (.slice (some ⟨x1.heap.size,0,none⟩) 1 1) 1 [.int .u8 c]from World.ownsRow.alloc (zG (⟨rfl,.inr ⟨x1.heap.size,1,_,rfl,lR,heap_alloc_new x1 (.cells #[.int .u8 c] 5),lR,by unfold maxLen;omega,rfl,rfl⟩⟩:(x1.alloc (.cells #[.int .u8 c] 5)).ownsRow x1.heap.size 5 1 (.slice (some ⟨x1.heap.size,0,none⟩) 1 1) 1 [.int .u8 c]) yy1) _)
  have HLn:=hide (show(A++ [dmpOp]++Bs).length=ov+1+k from by simp [HA.out.1,HB.out.1];omega)
  rw [HLn.out]at t1 t2;have T1:=hide t1;have T2:=hide t2;have T3:=hide t3
  have NC:=hide (show ∀j u,[.int .i64 1,.int .i64 a,.int .i64 0,.int .i64 0,.slice (some ⟨x1.heap.size,0,none⟩) 1 1][j]? =some u->((x1.alloc (.cells #[.int .u8 c] 5)).alloc (.cells #[.int .i64 1,.int .i64 a,.int .i64 0,.int .i64 0,.slice (some ⟨x1.heap.size,0,none⟩) 1 1] 30)).cell? ((⟨x1.heap.size+1,0,none⟩:Addr).add j)=some u from by
   have h9:=zY (x1.alloc (.cells #[.int .u8 c] 5)) 30 [.int .i64 1,.int .i64 a,.int .i64 0,.int .i64 0,.slice (some ⟨x1.heap.size,0,none⟩) 1 1];rw [World.size_alloc]at h9
   exact h9)
  have yy2:x1.heap.size<=((x1.alloc (.cells #[.int .u8 c] 5)).alloc (.cells #[.int .i64 1,.int .i64 a,.int .i64 0,.int .i64 0,.slice (some ⟨x1.heap.size,0,none⟩) 1 1] 30)).heap.size:=BA.out.size;clear t1 t2 t3 C1 BA
  go_wp2_with (at_builtin;refine wpList_append_lies _ rfl _ _ 31 rfl w.heap.size 30 i0 (.agg #[.int .i64 0,.int .i64 0,.int .i64 0,.int .i64 0,.slice none 0 0]) 5 56 Tryz.underlying31 hi0 hz0 hz1 hz2 rfl (by decide) u9 (ov+1+k) (opV (A++ [dmpOp]++Bs) tvs) rfl (by exact T1.out) ⟨x1.heap.size+1,0,none⟩ 1 1 _ rfl rfl NC.out (by simp [Value.oneCell']) (by omega) (by unfold maxLen;omega) (by omega) (by omega) _ rfl ?_;intro g8 c8 w10 hown8 hgr8 hgq8 hgl8)
  go_roundw
  case rel=>
   have h9:=CpSt.app (o:=insC a c) HLn.out C2.out HU.out T1.out T2.out T3.out TV.out (fun e=>by cases e) hown8 hgr8 hgq8
   refine⟨k+1,Bs++ [insC a c],by omega,by go_num,by simp [HB.out.1],HB.out.2.snoc (by rw [HB.out.1];omega) hcb,?_⟩
   rw [<- List.append_assoc];exact h9
  simp [intOf];omega
 have hlt':¬ (k:Int)<lm:=by omega
 obtain rfl:lm=k:=by omega
 go_wp2_with fail
 go_loopw [9,12] (fun sv i wr=>∃ (k:Nat),k<=lm+1∧i= .int .i64 k∧CpSt w bs (.slice va nb vk) w.heap.size P Q #[.int .i64 big,.int .i64 near,.int .i64 run] (A++ [dmpOp]++Bs++List.replicate k undOp) sv wr) (fun _ i _=>lm+1 - (intOf i).toNat)
 case atStart=>exact⟨0,Nat.zero_le _,rfl,by rw [List.replicate_zero,List.append_nil];exact HS.out⟩
 obtain⟨k,hk,rfl,hS⟩:=hrel;have HS:=hide hS;clear hS
 by_cases hlt:k<=lm
 ·have hlt':(k:Int)<=lm:=by omega
  have BA:=hide (bA (Below.refl wr.heap.size wr) (.cells #[.int .i64 9,.int .i64 0,.int .i64 0,.int .i64 0,.slice none 0 0] 30));have C2:=hide (HS.out.below BA.out);have yy1:=HS.out.bel.size;obtain⟨tvs,t1,t2,t3⟩:=C2.out.sr
  have HLn:=hide (show(A++ [dmpOp]++Bs++List.replicate k undOp).length=ov+1+lm+k from by simp [HA.out.1,HB.out.1];omega)
  rw [HLn.out]at t1 t2;have T1:=hide t1;have T2:=hide t2;have T3:=hide t3;have NC:=hide (zY wr 30 [.int .i64 9,.int .i64 0,.int .i64 0,.int .i64 0,.slice none 0 0]);have yy2:wr.heap.size<=(wr.alloc (.cells #[.int .i64 9,.int .i64 0,.int .i64 0,.int .i64 0,.slice none 0 0] 30)).heap.size:=BA.out.size;clear t1 t2 t3 BA HS
  go_wp2_with (at_builtin;refine wpList_append_lies _ rfl _ _ 31 rfl w.heap.size 30 i0 (.agg #[.int .i64 0,.int .i64 0,.int .i64 0,.int .i64 0,.slice none 0 0]) 5 56 Tryz.underlying31 hi0 hz0 hz1 hz2 rfl (by decide) u9 (ov+1+lm+k) (opV (A++ [dmpOp]++Bs++List.replicate k undOp) tvs) rfl (by exact T1.out) ⟨wr.heap.size,0,none⟩ 1 1 _ rfl rfl NC.out (by simp [Value.oneCell']) (by omega) (by unfold maxLen;omega) (by omega) (by omega) _ rfl ?_;intro g8 c8 w10 hown8 hgr8 hgq8 hgl8)
  go_roundw
  case rel=>
   have h9:=CpSt.app (o:=undOp) HLn.out C2.out HU.out T1.out T2.out T3.out (World.ownsRow_nil _ _ _ _) (fun _=>rfl) hown8 hgr8 hgq8
   refine⟨k+1,by omega,by go_num,?_⟩
   rw [List.replicate_succ',<- List.append_assoc];exact h9
  simp [intOf];omega
 have hlt':¬ (k:Int)<=lm:=by omega
 obtain rfl:k=lm+1:=by omega
 have BA:=hide (bA (Below.refl wr.heap.size wr) (.cells #[.int .i64 16,.int .i64 0,.int .i64 0,.int .i64 0,.slice none 0 0] 30));have C2:=hide (HS.out.below BA.out);have yy1:=HS.out.bel.size
 have q0:=cR (i:=0) HS.out.dmp rfl
 have q1:=cR (i:=1) HS.out.dmp rfl
 have q2:=cR (i:=2) HS.out.dmp rfl
 have q3:=cR (i:=3) HS.out.dmp rfl
 have q4:=cR (i:=4) HS.out.dmp rfl
 obtain⟨tvs,t1,t2,t3⟩:=C2.out.sr
 have HLn:=hide (show(A++ [dmpOp]++Bs++List.replicate (lm+1) undOp).length=ov+1+lm+(lm+1)from by simp [HA.out.1,HB.out.1];omega)
 rw [HLn.out]at t1 t2;have T1:=hide t1;have T2:=hide t2;have T3:=hide t3;have NC:=hide (zY wr 30 [.int .i64 16,.int .i64 0,.int .i64 0,.int .i64 0,.slice none 0 0]);have yy2:wr.heap.size<=(wr.alloc (.cells #[.int .i64 16,.int .i64 0,.int .i64 0,.int .i64 0,.slice none 0 0] 30)).heap.size:=BA.out.size;clear t1 t2 t3 BA HS
 go_wp2_with (at_builtin;refine wpList_append_lies _ rfl _ _ 31 rfl w.heap.size 30 i0 (.agg #[.int .i64 0,.int .i64 0,.int .i64 0,.int .i64 0,.slice none 0 0]) 5 56 Tryz.underlying31 hi0 hz0 hz1 hz2 rfl (by decide) u9 (ov+1+lm+(lm+1)) (opV (A++ [dmpOp]++Bs++List.replicate (lm+1) undOp) tvs) rfl (by exact T1.out) ⟨wr.heap.size,0,none⟩ 1 1 _ rfl rfl NC.out (by simp [Value.oneCell']) (by omega) (by unfold maxLen;omega) (by omega) (by omega) _ rfl ?_;intro g8 c8 w12 hown8 hgr8 hgq8 hgl8)
 have CD:=hide (CpSt.app (o:=dmpOp) HLn.out C2.out HU.out T1.out T2.out T3.out (World.ownsRow_nil _ _ _ _) (fun _=>rfl) hown8 hgr8 hgq8)
 clear q0 q1 q2 q3 q4 T1 T2 T3 C2 NC yy1 yy2 HLn hown8 hgr8 hgq8 hgl8;rw [Kl]at CD;generalize hNN:ov+1+lm+(lm+1)+1=n at *
 obtain⟨T0,CR⟩:=capRes (n:=n) hl1 hov2 HA.out.2 HA.out.1 HB.out.2 HB.out.1 (by omega)
 have hn10:n<=10000∧0<n:=by omega
 have HCR:=hide CR
 have EO:=hide (show EOk w12 g8 c8 (capS A Bs lm) (Run (ens0 [] lm) (capS A Bs lm)) hcap lm n from by
  have hlen:(capS A Bs lm).length=n:=by rw [<- Kl];simp [HA.out.1,HB.out.1];omega
  exact⟨by rw [hlen];exact CD.out.sr.base (Nat.zero_le _),HT.out.same (CD.out.bel.block 1 h1),HE.out.below CD.out.bel,by have:=CD.out.bel.size;omega,hlen,hn10.2,hn10.1,capBl HA.out.2 HB.out.2,HLI.out,fun K live hk=>capStp hk CR.ok,capFol CR.ok,CR.ok.ne⟩)
 have BW:=hide CD.out.bel;have PO:=hide CD.out.pol;have zPz:=(Array.getElem?_eq_some_iff.1 CD.out.pol).1;clear CR CD HA HB;generalize Run (ens0 [] lm) (capS A Bs lm)=ss at *;generalize capS A Bs lm=ops at *
 have hnI:(ov:Int)+1+(lm:Int)+((lm:Int)+1)+1=(n:Int):=by omega
 rw [hnI];clear hnI
 go_loopw [14] (fun i wr=>∃ (k:Nat),k<=3∧i= .int .i64 k∧Below w12.heap.size w12 wr) (fun i _=>3 - (intOf i).toNat)
 case atStart=>exact⟨0,by omega,rfl,Below.refl _ _⟩
 obtain⟨k,hk,rfl,hB⟩:=hrel;have HBq:=hide hB;clear hB
 by_cases hlt:k<3
 ·have hlt':(k:Int)<3:=by omega
  have EG:=hide (engineG (k:Int) ops ss g8 c8 hcap big near run lm n wr (EO.out.below HBq.out) (by omega))
  have POr:=hide ((HBq.out.block P zPz).trans PO.out)
  have p0:=cR (i:=0) POr.out rfl
  have p1:=cR (i:=1) POr.out rfl
  have p3:=cR (i:=2) POr.out rfl
  go_wp2_with fail;refine EG.out.mono ?_;rintro e x1 ⟨bo,rfl,hR⟩;clear p0 p1 p3 POr EG;have HRO:=hide hR
  have BX:=hide (show Below w12.heap.size w12 x1 from by obtain⟨_,_,_,_,h9⟩:=hR;exact HBq.out.trans (h9.mono HBq.out.size))
  clear hR;obtain⟨ol,hol2⟩:∃x:Nat,x=ov+lm:=⟨_,rfl⟩
  have wol:IntKind.i64.wrap ((ov:Int)+(lm:Int))=(ol:Int):=by rw [IntKind.wrap_i64];omega
  obtain⟨sa,ha1,ha2,ha3⟩:=HCR.out.a
  obtain⟨ta,tk1,ca0,ca3,hta,_⟩:=HRO.out.obs ha1 (by omega)
  rw [ha2]at ca0;rw [ha3,HCR.out.tl]at ca3;rw [ha3,HCR.out.tl]at hta;obtain⟨sb,hb1,hb2⟩:=HCR.out.b
  obtain⟨_,_,_,_,_,cb7⟩:=HRO.out.obs hb1 (by omega)
  rw [hb2,<- hol2]at cb7;have TA:=hide hta;clear hta ha1 ha2 ha3 hb1 hb2
  have hib:(ov:Int)<n:=by omega
  have hic:(ol:Int)<n:=by omega
  clear hol2;go_wp2_with fail;clear ca0 cb7 hib hic wol;have CA3:=hide ca3;clear ca3
  go_loopw [16] (fun i wr=>∃ (j:Nat),j<=lm∧i= .int .i64 j∧wr=x1) (fun i _=>lm - (intOf i).toNat)
  case atStart=>exact⟨0,Nat.zero_le _,rfl,rfl⟩
  obtain⟨j,hj,rfl,hwr⟩:=hrel;subst hwr
  by_cases hltj:j<lm
  ·have hltj':(j:Int)<lm:=by omega
   obtain⟨o1,ho1⟩:∃x:Nat,x=ov+1:=⟨_,rfl⟩;obtain⟨o2,ho2⟩:∃x:Nat,x=ov+1+lm:=⟨_,rfl⟩;obtain⟨o3,ho3⟩:∃x:Nat,x=ov+1+lm+j:=⟨_,rfl⟩
   have wo1:IntKind.i64.wrap ((ov:Int)+1)=(o1:Int):=by rw [IntKind.wrap_i64];omega
   have wo2:IntKind.i64.wrap ((o1:Int)+(lm:Int))=(o2:Int):=by rw [IntKind.wrap_i64];omega
   have wo3:IntKind.i64.wrap ((o2:Int)+(j:Int))=(o3:Int):=by rw [IntKind.wrap_i64];omega
   obtain⟨sc,hc1,hc2⟩:=HCR.out.c j hltj
   obtain⟨_,_,cc0,_⟩:=HRO.out.obs hc1 (by omega)
   rw [hc2,<- ho3]at cc0
   have hio:(o3:Int)<n:=by omega
   clear hc1 hc2 ho1 ho2 ho3;go_wp2;go_roundw
   case rel=>exact⟨j+1,by omega,by go_num,by first | rfl | trivial⟩
   simp [intOf];omega
  have hltj':¬ (j:Int)<lm:=by omega
  obtain⟨n2,hn2⟩:∃x:Nat,x=n - 2:=⟨_,rfl⟩;obtain⟨n1,hn1⟩:∃x:Nat,x=n - 1:=⟨_,rfl⟩
  have wn2:IntKind.i64.wrap ((n:Int) - 2)=(n2:Int):=by rw [IntKind.wrap_i64];omega
  have wn1:IntKind.i64.wrap ((n:Int) - 1)=(n1:Int):=by rw [IntKind.wrap_i64];omega
  obtain⟨sd,hd1,hd2⟩:=HCR.out.d
  obtain⟨_,_,cd0,_⟩:=HRO.out.obs hd1 (by omega)
  rw [hd2,<- hn2]at cd0;obtain⟨se,he1,he2⟩:=HCR.out.e
  obtain⟨tb,tk2,_,ce3,hte,_⟩:=HRO.out.obs he1 (by omega)
  rw [he2,HCR.out.tl]at ce3 hte;rw [<- hn1]at ce3;have ca3:=CA3.out
  have hin2:(n2:Int)<n:=by omega
  have hin1:(n1:Int)<n:=by omega
  have hib:(ov:Int)<n:=by omega
  have SM:=hide (fun(W:World) (hW:W.heap=wr.heap)=>smText T0 (.slice tb ov tk2) (.slice ta ov tk1) W ((Rd.of_owns hte).cells hW) ((Rd.of_owns TA.out).cells hW) (by rw [HCR.out.tl];omega))
  clear hte hd1 hd2 he1 he2 hn1 hn2
  go_upto_region 40 with fail
  go_quiet ((go_at_call 8;exact Calls.quiet_of (SM.out _ rfl)));go_wp2;go_roundw
  case rel=>exact⟨k+1,by omega,by go_num,BX.out.trans ((drewB (w:=wr) (w':=wr.drewN nq) rfl rfl rfl rfl).mono BX.out.size)⟩
  simp [intOf];omega
 have hlt':¬ (k:Int)<3:=by omega
 go_wp2;go_ret;have h9:=BW.out.trans (HBq.out.mono BW.out.size);exact⟨rfl,h9⟩
end Go.Proofs.YtibbhecojkehfaaGreatDoor
