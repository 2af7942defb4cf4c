import Derived.Test.YtibbhecojkehfaaGreatDoorMq43
set_option linter.all false
set_option maxRecDepth 100000
set_option maxHeartbeats 16000000
namespace Go.Proofs.YtibbhecojkehfaaGreatDoor
open Go Go.RowKit Go.Sort
def capSt (M:Ens) (o:Cop):PSt:=
 if o.kd=1 then⟨0,1,0,[],[],insE M o.b0.toNat [o.bs.getD 0 0]⟩
 else if o.kd=9 then(match M.dn.getLast? with
  | none=>⟨6,0,0,[],[],M⟩
  | some g=>⟨0,1,0,[],[],undE 0 M M.dn.dropLast g⟩)
 else⟨0,0,0,M.tx,[],spE M M.tx.length⟩
def Run:Ens->List Cop->List PSt
 | _,[]=>[]
 | M,o::r=>capSt M o::Run (capSt M o).M r
def fin:Ens->List Cop->Ens
 | M,[]=>M
 | M,o::r=>fin (capSt M o).M r
def Okc (M:Ens) (o:Cop):Prop:=
 (o.kd=1∧∃ (a:Nat) (ch:Int),o.b0=a∧o.bs= [ch]∧a<=M.tx.length∧(65<=ch∧ch<=122)∧M.tx.length<8192∧M.sp<200000)
 ∨(o.kd=9∧(M.dn≠ []->M.ud.length<1000))∨(o.kd=16∧M.tx≠ []∧M.sp+M.tx.length<=200000)
def RunOk (lim:Nat):Ens->List Cop->Prop
 | _,[]=>True
 | M,o::r=>CM M lim∧Okc M o∧(capSt M o).M.tx≠ []∧RunOk lim (capSt M o).M r
theorem jF:∀ (M:Ens) (ops:List Cop),(Run M ops).length=ops.length
 | _,[]=>rfl
 | M,o::r=>by simp [Run,jF]
theorem Zt:∀ (M:Ens) (a b:List Cop),Run M (a++b)=Run M a++Run (fin M a) b
 | _,[],_=>rfl
 | M,o::r,b=>by simp only [List.cons_append,Run,fin,Zt]
theorem j7 {lim:Nat}:∀ {M:Ens} {a b:List Cop},RunOk lim M a->RunOk lim (fin M a) b->RunOk lim M (a++b)
 | _,[],_,_,h=>h
 | M,o::r,b,h1,h2=>⟨h1.1,h1.2.1,h1.2.2.1,j7 h1.2.2.2 h2⟩
theorem Jv {M:Ens} {s:PSt} {ss:List PSt} {k:Nat} (h:k<=ss.length):Mat M (s::ss) (k+1)=Mat s.M ss k:=by
 unfold Mat;rw [List.map_cons,List.getD_cons_succ,List.getD_eq_getElem?_getD,List.getD_eq_getElem?_getD]
 have:k<(s.M::ss.map PSt.M).length:=by simp;omega
 rw [List.getElem?_eq_getElem this];rfl
theorem RunOk.at {lim:Nat}:∀ {M:Ens} {ops:List Cop} {k:Nat} {o:Cop} {s:PSt},RunOk lim M ops->ops[k]? =some o->(Run M ops)[k]? =some s->CM (Mat M (Run M ops) k) lim∧Okc (Mat M (Run M ops) k) o∧s=capSt (Mat M (Run M ops) k) o∧s.M.tx≠ []
 | _,[],k,o,s,_,ho,_=>by simp at ho
 | M,o'::r,0,o,s,h,ho,hs=>by
  simp only [Run,List.getElem?_cons_zero,Option.some.injEq]at ho hs;subst ho hs;exact⟨h.1,h.2.1,rfl,h.2.2.1⟩
 | M,o'::r,k+1,o,s,h,ho,hs=>by
  simp only [Run,List.getElem?_cons_succ]at ho hs
  have hk:k<=(Run (capSt M o').M r).length:=by
   have:=(List.getElem?_eq_some_iff.1 hs).1;omega
  have h9:=RunOk.at h.2.2.2 ho hs;simp only [Run];rw [Jv hk];exact h9
theorem RunOk.ne {lim:Nat}:∀ {M:Ens} {ops:List Cop},RunOk lim M ops->∀s∈Run M ops,s.M.tx≠ []
 | _,[],_,s,hs=>by simp [Run]at hs
 | M,o::r,h,s,hs=>by
  simp only [Run,List.mem_cons]at hs
  rcases hs with rfl | hs
  ·exact h.2.2.1
  exact RunOk.ne h.2.2.2 s hs
theorem Kh:∀ (M:Ens) (ops:List Cop),Mat M (Run M ops) ops.length=fin M ops
 | _,[]=>rfl
 | M,o::r=>by
  simp only [Run,List.length_cons,fin]
  rw [Jv (by rw [jF];exact lR)]
  exact Kh _ r
theorem capStp {K:Core} {live:Int} (hk:KOk K live) {lim:Nat} {M0:Ens} {ops:List Cop} (h:RunOk lim M0 ops):Stp K ops M0 (Run M0 ops):=by
 refine⟨(jF M0 ops).symm,fun k o s ho hs c w B H G E ta tq hg hrd=>?_⟩
 obtain⟨hm,hok,rfl,_⟩:=h.at ho hs;generalize Mat M0 (Run M0 ops) k=M at *;obtain⟨kd,b0,b1,b2,bs⟩:=o
 rcases hok with ⟨h1,a,ch,h2,h3,h4,h5,h6,h7⟩ | ⟨h1,h2⟩ | ⟨h1,h2,h3⟩
 ·simp only at h1 h2 h3
  subst h1 h2 h3;exact capIns hk hg hm h4 hrd h5 h6 h7
 ·simp only at h1
  subst h1
  have e:capSt M ⟨9,b0,b1,b2,bs⟩=(match M.dn.getLast? with
   | none=>⟨6,0,0,[],[],M⟩
   | some g=>⟨0,1,0,[],[],undE 0 M M.dn.dropLast g⟩):=rfl
  rw [e]
  by_cases hd:M.dn= []
  ·rw [hd]
   exact capUndB hk hg hm hd
  obtain⟨D,off,ch,hD,ho2⟩:=hm.top hd
  have e1:M.dn.getLast? =some [recI off ch]:=by rw [hD];simp
  have e2:M.dn.dropLast=D:=by rw [hD];simp
  rw [e1,e2];exact capUnd hk hg hm hD ho2 (h2 hd)
 simp only at h1;subst h1;exact capDmp hk hg hm h2 h3
theorem FolP.weak {w:World} {B f:Nat} {H G:Nat->Prop} {big near run live moves last nr ln:Int} {M:Ens} {w':World} {k:Nat} (h:FolP w B f H G big near run live moves last nr ln M w') (hl:live=0∨live=1) (hm:0<=moves∧moves<=k) (hla: -1<=last∧last<=100000) (hn:0<=nr∧nr<=k+1):
  ∃live' moves' last' nr',FeB (k+1) live' moves' last' nr'∧yH w B f H G big near run live' moves' last' nr' M w':=by
 refine⟨_,_,_,_,⟨Js hl,?_,hla,?_⟩,h⟩
 ·split<;>omega
 split<;>omega
theorem nrF_b {near last nr st:Int} {k:Nat} (h:0<=nr∧nr<=k):0<=nrF near last nr st∧nrF near last nr st<=k+1:=by
 unfold nrF
 split<;>omega
theorem FeB.up {k:Nat} {live moves last nr:Int} (h:FeB k live moves last nr):FeB (k+1) live moves last nr:=⟨h.1,⟨h.2.1.1,by have:=h.2.1.2;omega⟩,h.2.2.1,⟨h.2.2.2.1,by have:=h.2.2.2.2;omega⟩⟩
theorem capFol {lim:Nat} {M0:Ens} {ops:List Cop} (h:RunOk lim M0 ops):Fol ops (Run M0 ops):=by
 intro k o s ho hs hk w B f E H G big near run live moves last nr ta tq ua ul uk ma ml mk hg hf;obtain⟨hm,hok,e,_⟩:=h.at ho hs
 have hx0:(s.x0=0∧(o.kd=1∧s.x1=1∧(0<=o.b0∧o.b0<=8192)∨o.kd=9∨o.kd=16))∨s.x0=6:=by
  rw [e]
  rcases hok with ⟨h1,a,ch,h2,h3,h4,h5,h6,h7⟩ | ⟨h1,h2⟩ | ⟨h1,h2,h3⟩
  ·unfold capSt
   rw [if_pos h1]
   exact .inl ⟨rfl,.inl ⟨h1,rfl,by omega⟩⟩
  ·unfold capSt
   rw [if_neg (by omega),if_pos h1]
   split
   ·exact .inr rfl
   exact .inl ⟨rfl,.inr (.inl h1)⟩
  unfold capSt
  rw [if_neg (by omega),if_neg (by omega)]
  exact .inl ⟨rfl,.inr (.inr h1)⟩
 obtain⟨kd,b0,b1,b2,bs⟩:=o;obtain⟨x0,x1,x2,T,ms,M⟩:=s;clear e hok ho hs;unfold stO;simp only at hx0 hg |-
 rcases hx0 with ⟨rfl,⟨rfl,rfl,h1⟩ | rfl | rfl⟩ | rfl
 ·refine(folIns w B f E H G big near run live moves last nr M 0 b0 b1 b2 0 1 x2 _ _ _ _ _ ua ma ta ul uk ml mk _ tq hg rfl ⟨h1.1,by omega⟩ (by omega)).mono ?_
  rintro e w' ⟨he,hp⟩
  exact⟨he,hp.weak hf.1 hf.2.1 (by omega) (nrF_b hf.2.2.2)⟩
 ·refine(folUnd w B f E H G big near run live moves last nr M 0 b0 b1 b2 0 x1 x2 _ _ _ _ _ ua ma ta ul uk ml mk _ tq hg).mono ?_
  rintro e w' ⟨he,hp⟩
  exact⟨he,hp.weak hf.1 hf.2.1 (by omega) (by omega)⟩
 ·refine(folDmp w B f E H G big near run live moves last nr M 0 b0 b1 b2 0 x1 x2 _ _ _ _ _ ua ma ta ul uk ml mk _ tq hg).mono ?_
  rintro e w' ⟨he,hp⟩;exact⟨he,_,_,_,_,hf.up,hp⟩
 refine(folBad w B f E H G big near run live moves last nr M kd b0 b1 b2 6 x1 x2 _ _ _ _ _ ua ma ta ul uk ml mk _ tq hg rfl).mono ?_;rintro e w' ⟨he,hp⟩;exact⟨he,_,_,_,_,hf.up,hp⟩
theorem Tryz.infoOP:(Tryz.prog.info? 30).map (fun i=>(i.zero,i.size,i.bytes))=some (some (.agg #[.int .i64 0,.int .i64 0,.int .i64 0,.int .i64 0,.slice none 0 0]),5,56):=by kernel_rfl
theorem Tryz.infoB8:(Tryz.prog.info? 5).map (fun i=>(i.zero,i.size,i.bytes))=some (some (.int .u8 0),1,1):=by kernel_rfl
def opV:List Cop->List Value->List Value
 | o::r,tv::s=>[.int .i64 o.kd,.int .i64 o.b0,.int .i64 o.b1,.int .i64 o.b2,tv]++opV r s
 | _,_=>[]
theorem Kj:∀ (a:List Cop) (s:List Value) (o:Cop) (tv:Value),s.length=a.length->opV (a++ [o]) (s++ [tv])=opV a s++ [.int .i64 o.kd,.int .i64 o.b0,.int .i64 o.b1,.int .i64 o.b2,tv]
 | [],[],o,tv,_=>by simp [opV]
 | [],_::_,_,_,h=>by simp at h
 | _::_,[],_,_,h=>by simp at h
 | x::a,y::s,o,tv,h=>by
  simp only [List.cons_append,opV]
  rw [Kj a s o tv (by simpa using h)]
  simp
theorem Kk:∀ (a:List Cop) (s:List Value) (i j:Nat) (o:Cop) (tv:Value),a[i]? =some o->s[i]? =some tv->j<5->(opV a s)[i*5+j]? = [Value.int .i64 o.kd,.int .i64 o.b0,.int .i64 o.b1,.int .i64 o.b2,tv][j]?
 | [],_,i,j,o,tv,h,_,_=>by simp at h
 | _::_,[],i,j,o,tv,_,h,_=>by simp at h
 | x::a,y::s,0,j,o,tv,h,h2,hj=>by
  simp at h h2;subst h h2
  rw [opV,List.getElem?_append_left (by simp;omega)]
  simp
 | x::a,y::s,i+1,j,o,tv,h,h2,hj=>by
  rw [List.getElem?_cons_succ]at h h2;have:=Kk a s i j o tv h h2 hj
  rw [opV,List.getElem?_append_right (by simp;omega)]
  rw [show(i+1)*5+j - [Value.int .i64 x.kd,.int .i64 x.b0,.int .i64 x.b1,.int .i64 x.b2,y].length=i*5+j by simp;omega,this]
def SR (w:World) (N:Prop) (B:Nat) (v:Value) (ops:List Cop):Prop:=∃tvs,w.ownsRow B 30 5 v ops.length (opV ops tvs)∧tvs.length=ops.length∧∀ (k:Nat) tv o,tvs[k]? =some tv->ops[k]? =some o->w.ownsRow B 5 1 tv o.bs.length (ints .u8 o.bs)∧(N->o.bs= []->tv= .slice none 0 0)
section
variable {w w':World} {N:Prop} {B B':Nat} {v:Value} {ops:List Cop}
theorem SR.chg {R:Nat->Prop} (h:SR w N B v ops) (hc:ChgP w w' R) (hR:∀q,q<w.heap.size->R q->¬∃cs fr,w.heap[q]? =some (.cells cs 30 fr)∨w.heap[q]? =some (.cells cs 5 fr)):SR w' N B v ops:=by
 obtain⟨tvs,h1,h2,h3⟩:=h
 refine⟨tvs,zB h1 (fun q hq=>hc.block q (h1.lt q hq).2 (fun h9=>?_)),h2,fun k tv o hk ho=>⟨zB (h3 k tv o hk ho).1 (fun q hq=>hc.block q ((h3 k tv o hk ho).1.lt q hq).2 (fun h9=>?_)),(h3 k tv o hk ho).2⟩⟩
 ·obtain⟨cs,fr,h8⟩:=zj h1 hq
  exact hR q (h1.lt q hq).2 h9 ⟨cs,fr,.inl h8⟩
 obtain⟨cs,fr,h8⟩:=zj (h3 k tv o hk ho).1 hq;exact hR q ((h3 k tv o hk ho).1.lt q hq).2 h9 ⟨cs,fr,.inr h8⟩
theorem SR.below (h:SR w N B v ops) (hb:Below w.heap.size w w'):SR w' N B v ops:=
 h.chg (ChgP.of_below (S:=fun _=>False) hb lR) (fun _ _ h9=>h9.elim)
theorem SR.base (h:SR w N B v ops) (hb:B'<=B):SR w N B' v ops:=by
 obtain⟨tvs,h1,h2,h3⟩:=h
 exact⟨tvs,zG h1 hb,h2,fun k tv o hk ho=>⟨zG (h3 k tv o hk ho).1 hb,(h3 k tv o hk ho).2⟩⟩
theorem SR.val (h:SR w N B v ops) (h0:0<ops.length):∃b cap,v= .slice (some ⟨b,0,none⟩) ops.length cap∧b<w.heap.size∧ops.length<=cap∧cap<=maxLen:=by
 obtain⟨tvs,h1,h2,h3⟩:=h
 rcases h1.2 with ⟨e,e0⟩ | ⟨g,cap,cur,e,h4,h5,h6,h7,_⟩
 ·omega
 exact⟨g,cap,e,(Array.getElem?_eq_some_iff.1 h5).1,h6,h7⟩
theorem SR.at {b cap:Nat} (h:SR w N B (.slice (some ⟨b,0,none⟩) ops.length cap) ops) (k:Nat) (o:Cop) (ho:ops[k]? =some o):∃ta tq,OpAt w b k o ta tq∧(N->o.bs= []->ta=none∧tq=0):=by
 obtain⟨tvs,h1,h2,h3⟩:=h;have hk:k<ops.length:=(List.getElem?_eq_some_iff.1 ho).1
 obtain⟨tv,htv⟩:∃tv,tvs[k]? =some tv:=⟨_,List.getElem?_eq_getElem (by omega)⟩
 obtain⟨h4,h5⟩:=h3 k tv o htv ho
 obtain⟨ta,tk,rfl⟩:∃a c,tv= .slice a o.bs.length c:=by
  rcases h4.2 with ⟨e,e0⟩ | ⟨g,cap,cur,e,_⟩
  ·exact⟨_,_,by rw [e,e0]⟩
  exact⟨_,_,e⟩
 have g:∀j,j<5->w.cell? ⟨b,k*5+j,none⟩= [Value.int .i64 o.kd,.int .i64 o.b0,.int .i64 o.b1,.int .i64 o.b2,.slice ta o.bs.length tk][j]?:=fun j hj=>by
  rw [h1.cellAt (k*5+j) (by omega),Kk ops tvs k j o _ ho htv hj]
 refine⟨ta,tk,⟨?_,?_,?_,?_,?_,Rd.of_owns h4⟩,fun hN he=>?_⟩
 ·exact(g 0 (by omega)).trans rfl
 ·exact(g 1 (by omega)).trans rfl
 ·exact(g 2 (by omega)).trans rfl
 ·exact(g 3 (by omega)).trans rfl
 ·exact(g 4 (by omega)).trans rfl
 have:=h5 hN he;simp only [Value.slice.injEq]at this;exact⟨this.1,this.2.2⟩
theorem SR.sc {b cap:Nat} (h:SR w N B (.slice (some ⟨b,0,none⟩) ops.length cap) ops) (hb:b<w.heap.size) (hc:ops.length<=cap∧cap<=maxLen):ScO w b cap ops:=
 ⟨hb,hc,fun k o ho=>by obtain⟨ta,tq,h1,_⟩:=h.at k o ho;exact⟨ta,tq,h1⟩⟩
end
theorem SR.app {w w':World} {N:Prop} {B:Nat} {v v' tv:Value} {ops:List Cop} {o:Cop} {tvs:List Value} (h1:w.ownsRow B 30 5 v ops.length (opV ops tvs)) (h2:tvs.length=ops.length) (h3:∀ (k:Nat) tv o,tvs[k]? =some tv->ops[k]? =some o->w.ownsRow B 5 1 tv o.bs.length (ints .u8 o.bs)∧(N->o.bs= []->tv= .slice none 0 0)) (hg:w.grownBy w' v.ownBlock) (ho:w'.ownsRow B 30 5 v' (ops.length+1) (opV ops tvs++ [.int .i64 o.kd,.int .i64 o.b0,.int .i64 o.b1,.int .i64 o.b2,tv])) (ht:w.ownsRow B 5 1 tv o.bs.length (ints .u8 o.bs)) (hN:N->o.bs= []->tv= .slice none 0 0):SR w' N B v' (ops++ [o]):=by
 have kp:∀ {u:Value} {n:Nat} {xs:List Value},w.ownsRow B 5 1 u n xs->w'.ownsRow B 5 1 u n xs:=fun hu=>zB hu (fun q hq=>hg.block q (hu.lt q hq).2 (fun e=>ze h1 hu (by decide) e.symm hq))
 refine⟨tvs++ [tv],?_,by simp [h2],fun k u o' hk ho'=>?_⟩
 ·rw [Kj ops tvs o tv h2]
  simpa using ho
 rcases Nat.lt_or_ge k tvs.length with h9 | h9
 ·rw [List.getElem?_append_left h9]at hk
  rw [List.getElem?_append_left (by omega)]at ho'
  exact⟨kp (h3 k u o' hk ho').1,(h3 k u o' hk ho').2⟩
 have hkl:k=tvs.length:=by
  have:=(List.getElem?_eq_some_iff.1 hk).1;simp at this;omega
 subst hkl;rw [List.getElem?_append_right lR,Nat.sub_self]at hk;rw [h2,List.getElem?_append_right lR,Nat.sub_self]at ho';simp at hk ho';subst hk ho';exact⟨kp ht,hN⟩
theorem SR.nil {w:World} {N:Prop} {B:Nat} (hB:B<=w.heap.size):SR (w.alloc (.cells #[] 30)) N B (.slice (some ⟨w.heap.size,0,none⟩) 0 0) []:=
 ⟨[],World.ownsRow_made w #[] 0 hB (Nat.zero_le _) rfl,rfl,fun k tv o hk=>by simp at hk⟩
theorem cpOpsG (C:Nat) (v:Value) (ops:List Cop) (w:World) (h:SR w True C v ops) (h0:0<ops.length) (hn:ops.length<=10000) (hbl:∀o∈ops,o.bs.length<=1048576):
  Calls Tryz.prog 13 #[v] w fun e w'=>∃v',e= .returned v'∧SR w' False w.heap.size v' ops∧Below w.heap.size w w':=by
 obtain⟨i0,hi0,hz0,hz1,hz2⟩:=info_parts Tryz.infoOP;obtain⟨j0,hj0,hy0,hy1,hy2⟩:=info_parts Tryz.infoB8;obtain⟨b,cap,rfl,hb,hca,hcm⟩:=h.val h0;have H:=hide h;have HBL:=hide hbl;obtain⟨n,hN⟩:∃n,n=ops.length:=⟨_,rfl⟩;have HN:=hide hN;rw [<- hN]at h0 hn hca |-;unfold maxLen at hcm;clear h hN hbl
 have T0:=hide (show SR (w.alloc (.cells #[] 30)) False w.heap.size (.slice (some ⟨w.heap.size,0,none⟩) 0 0) (ops.take 0)from SR.nil lR)
 have B0:=hide (bA (Below.refl w.heap.size w) (.cells #[] 30));go_enter Tryz.func13,Tryz.ntmps13;go_wp2_with fail;generalize w.alloc (.cells #[] 30)=w2 at *
 go_loopw [3,9] (fun ov i wr=>∃k:Nat,k<=n∧i= .int .i64 k∧SR wr False w.heap.size ov (ops.take k)∧Below w.heap.size w wr) (fun _ i _=>n - (intOf i).toNat)
 case atStart=>exact⟨0,Nat.zero_le _,rfl,T0.out,B0.out⟩
 obtain⟨k,hk,rfl,hT,hB⟩:=hrel;have TY:=hide (H.out.below hB);have hsz:=hB.size;have HT:=hide hT;have HB:=hide hB;clear T0 B0
 by_cases hlt:k<n
 ·have hlt':(k:Int)<n:=by omega
  obtain⟨o,ho⟩:∃o,ops[k]? =some o:=⟨_,List.getElem?_eq_getElem (by rw [<- HN.out];exact hlt)⟩
  obtain⟨ta,tq,T,hnil⟩:=TY.out.at k o ho;obtain⟨q0,q1,q2,q3,q4,hrd⟩:=T;have hol:=HBL.out o (List.mem_of_getElem? ho);obtain⟨m,hm⟩:∃m,o.bs.length=m:=⟨_,rfl⟩;have HM:=hide hm;rw [hm]at q4 hol hrd;have BA:=hide (bA (Below.refl wr.heap.size wr) (.cells #[.int .i64 o.kd,.int .i64 o.b0,.int .i64 o.b1,.int .i64 o.b2,.slice ta m tq] 30))
  have OP:=hide (show(wr.alloc (.cells #[.int .i64 o.kd,.int .i64 o.b0,.int .i64 o.b1,.int .i64 o.b2,.slice ta m tq] 30)).heap[wr.heap.size]? =some (.cells #[.int .i64 o.kd,.int .i64 o.b0,.int .i64 o.b1,.int .i64 o.b2,.slice ta m tq] 30 (0,0))from heap_alloc_new _ _)
  have z1':wr.heap.size<(wr.alloc (.cells #[.int .i64 o.kd,.int .i64 o.b0,.int .i64 o.b1,.int .i64 o.b2,.slice ta m tq] 30)).heap.size:=by simp
  have HO:=hide ho;clear hT hB ho hm
  go_upto_region 5 with fail
  generalize wr.alloc (.cells #[.int .i64 o.kd,.int .i64 o.b0,.int .i64 o.b1,.int .i64 o.b2,.slice ta m tq] 30)=w3 at *;clear q0 q1 q2 q3 q4;have BA3:=hide (bA (Below.refl w3.heap.size w3) (.cells #[] 5))
  have B3:=hide (BA.out.trans (BA3.out.mono (by omega)))
  have OP3:=hide ((BA3.out.block wr.heap.size z1').trans OP.out)
  have z4:=cR (i:=4) OP3.out rfl
  have O0:=hide (show(w3.alloc (.cells #[] 5)).ownsRow w3.heap.size 5 1 (.slice (some ⟨w3.heap.size,0,none⟩) 0 0) 0 []from World.ownsRow_made w3 #[] 0 lR (Nat.zero_le _) rfl)
  have hz5:w3.heap.size<=(w3.alloc (.cells #[] 5)).heap.size:=by simp
  rcases Nat.eq_zero_or_pos m with hm0 | hm0
  ·have hbs:o.bs= []:=List.eq_nil_of_length_eq_zero (by rw [HM.out];exact hm0)
   obtain⟨rfl,rfl⟩:=hnil trivial hbs;subst hm0;clear hrd hnil;have x4:(w3.alloc (.cells #[] 5)).cell? ⟨wr.heap.size,4,none⟩=some (.slice none 0 0):=z4;have f4:=frozen_of_row (w3.alloc (.cells #[] 5)) wr.heap.size 4 _ _ OP3.out
   go_upto_region 6 with (at_builtin;refine wpList_append_own_none rfl _ _ 22 rfl w3.heap.size 5 j0 1 Tryz.underlying22 hj0 _ _ _ rfl (by exact O0.out) rfl ?_)
   have hsE:(w3.setCell ⟨wr.heap.size,4,none⟩ (.slice (some ⟨w3.heap.size,0,none⟩) 0 0)).heap.size=w3.heap.size:=by simp
   have T5:=hide (show((w3.setCell ⟨wr.heap.size,4,none⟩ (.slice (some ⟨w3.heap.size,0,none⟩) 0 0)).alloc (.cells #[] 5)).ownsRow w.heap.size 5 1 (.slice (some ⟨w3.heap.size,0,none⟩) 0 0) 0 (ints .u8 o.bs)from by
    have h9:=World.ownsRow_made (e:=5) (size:=1) (base:=w.heap.size) (w3.setCell ⟨wr.heap.size,4,none⟩ (.slice (some ⟨w3.heap.size,0,none⟩) 0 0)) #[] 0 (by omega) (Nat.zero_le _) rfl
    rw [hsE]at h9;rw [hbs]
    exact h9)
   have BX6:=hide (bA (Below.refl (w3.setCell ⟨wr.heap.size,4,none⟩ (.slice (some ⟨w3.heap.size,0,none⟩) 0 0)).heap.size (w3.setCell ⟨wr.heap.size,4,none⟩ (.slice (some ⟨w3.heap.size,0,none⟩) 0 0))) (.cells #[] 5))
   have OP6:=hide ((BX6.out.block wr.heap.size (by omega)).trans (heap_setCell_same w3 wr.heap.size 4 _ _ (.slice (some ⟨w3.heap.size,0,none⟩) 0 0) OP.out))
   have B6:=hide (show Below wr.heap.size wr ((w3.setCell ⟨wr.heap.size,4,none⟩ (.slice (some ⟨w3.heap.size,0,none⟩) 0 0)).alloc (.cells #[] 5))from bA (BA.out.setCell (p:=⟨wr.heap.size,4,none⟩) lR (.slice (some ⟨w3.heap.size,0,none⟩) 0 0)) _)
   clear x4 f4 z4 O0 OP3 B3 BA3 hz5 BX6 hsE;generalize (w3.setCell ⟨wr.heap.size,4,none⟩ (.slice (some ⟨w3.heap.size,0,none⟩) 0 0)).alloc (.cells #[] 5)=w6 at *;have hbs2:=hide hbs;clear hbs;have z6:=B6.out.size
   have p0:=cR (i:=0) OP6.out rfl
   have p1:=cR (i:=1) OP6.out rfl
   have p2:=cR (i:=2) OP6.out rfl
   have p3:=cR (i:=3) OP6.out rfl
   have p4:=cR (i:=4) OP6.out rfl
   have NC:=hide (zY w6 30 [.int .i64 o.kd,.int .i64 o.b0,.int .i64 o.b1,.int .i64 o.b2,.slice (some ⟨w3.heap.size,0,none⟩) 0 0]);have BA7:=hide (bA (Below.refl w6.heap.size w6) (.cells #[.int .i64 o.kd,.int .i64 o.b0,.int .i64 o.b1,.int .i64 o.b2,.slice (some ⟨w3.heap.size,0,none⟩) 0 0] 30));have B7:=hide (B6.out.trans (BA7.out.mono z6));have T7:=hide (T5.out.alloc (.cells #[.int .i64 o.kd,.int .i64 o.b0,.int .i64 o.b1,.int .i64 o.b2,.slice (some ⟨w3.heap.size,0,none⟩) 0 0] 30));obtain⟨tvs,t1,t2,t3⟩:=HT.out.below B7.out
   have L7:=hide (show(ops.take k).length=k by rw [List.length_take,<- HN.out];omega)
   rw [L7.out]at t1 t2;have T1:=hide t1;have T2:=hide t2;have T3:=hide t3
   have z7:w6.heap.size<=(w6.alloc (.cells #[.int .i64 o.kd,.int .i64 o.b0,.int .i64 o.b1,.int .i64 o.b2,.slice (some ⟨w3.heap.size,0,none⟩) 0 0] 30)).heap.size:=by simp
   clear t1 t2 t3 T5 OP6 HT
   go_wp2_with (at_builtin;refine wpList_append_lies _ rfl _ _ 31 rfl w.heap.size 30 i0 (.agg #[.int .i64 0,.int .i64 0,.int .i64 0,.int .i64 0,.slice none 0 0]) 5 56 Tryz.underlying31 hi0 hz0 hz1 hz2 rfl (by decide) u3 k (opV (ops.take k) tvs) rfl (by exact T1.out) ⟨w6.heap.size,0,none⟩ 1 1 _ rfl rfl NC.out (by simp [Value.oneCell']) (by omega) (by unfold maxLen;omega) (by omega) (by omega) _ rfl ?_;intro g8 c8 w8 hown8 hgr8 hgq8 hgl8)
   go_roundw
   case rel=>
    refine⟨k+1,by omega,by go_num,?_,HB.out.trans (B7.out.mono hsz) |>.grown hgr8 (by omega) (fun q hq=>(T1.out.lt q hq).1)⟩
    have h9:=SR.app (ops:=ops.take k) (o:=o) (v':=.slice (some ⟨g8,0,none⟩) (k+1) c8) (by rw [L7.out];exact T1.out) (by rw [L7.out];exact T2.out) T3.out hgr8 (by rw [L7.out];exact hown8) (by rw [HM.out];exact T7.out) (fun h=>h.elim)
    have e2:ops.take k++ [o]=ops.take (k+1):=by rw [List.take_add_one,HO.out];rfl
    rw [e2]at h9;exact h9
   simp [intOf];omega
  obtain⟨tb,tz,rfl,htc,htl⟩:∃b o',ta=some ⟨b,o',none⟩∧(∀i,i<m->wr.cell? ⟨b,o'+i,none⟩=some (.int .u8 (o.bs.getD i 0)))∧m<=tq:=by
   rcases hrd with ⟨ao,cap',e,e2⟩ | ⟨b',off,cap',e,hp,hc⟩
   ·have:=HM.out;rw [e2]at this;simp at this;omega
   simp only [Value.slice.injEq]at e;obtain⟨rfl,_,rfl⟩:=e;rw [HM.out]at hp hc;exact⟨b',off,rfl,hc,hp.2.1⟩
  have htbl:tb<wr.heap.size:=World.block_lt_of_cell? _ _ (htc 0 hm0);clear hrd hnil
  have HA:=hide (show ∀j u,(ints .u8 o.bs)[j]? =some u->(w3.alloc (.cells #[] 5)).cell? ((⟨tb,tz,none⟩:Addr).add j)=some u from fun j u hj=>by
   have hjl:j<o.bs.length:=by have:=(List.getElem?_eq_some_iff.1 hj).1;simpa [ints]using this
   rw [jH,World.cell?_of_block (a:=⟨tb,tz+j,none⟩) (B3.out.block tb htbl),htc j (by rw [<- HM.out];exact hjl),<- hj]
   simp [ints,List.getD_eq_getElem?_getD,hjl])
  have hil:(ints .u8 o.bs).length=m*1:=by simp [ints,HM.out]
  have h1c:∀u∈ints .u8 o.bs,u.oneCell'=true:=by
   intro u hu;obtain⟨z,_,rfl⟩:=List.mem_map.1 hu;rfl
  go_upto_region 6 with (at_builtin;refine wpList_append_lies _ rfl _ _ 22 rfl w3.heap.size 5 j0 (.int .u8 0) 1 1 Tryz.underlying22 hj0 hy0 hy1 hy2 rfl (by decide) (.slice (some ⟨w3.heap.size,0,none⟩) 0 0) 0 [] rfl (by exact O0.out) ⟨tb,tz,none⟩ m tq (ints .u8 o.bs) rfl hil (by exact HA.out) h1c hm0 (by unfold maxLen;omega) (by omega) (by omega) _ rfl ?_;intro g5 c5 w5 hown5 hgr5 hgq5 hgl5;have OP5:=hide (show w5.heap[wr.heap.size]? =_ from(hgr5.block wr.heap.size (by omega) (fun e=>by simp [Value.ownBlock]at e;omega)).trans OP3.out);have x4:w5.cell? ⟨wr.heap.size,4,none⟩=some (.slice (some ⟨tb,tz,none⟩) m tq):=(by rw [cell_of_row _ _ 4 _ _ _ OP5.out];rfl);have f4:=frozen_of_row w5 wr.heap.size 4 _ _ OP5.out)
  rw [Nat.zero_add,List.nil_append]at hown5
  have T5:=hide (show(w5.setCell ⟨wr.heap.size,4,none⟩ (.slice (some ⟨g5,0,none⟩) m c5)).ownsRow w.heap.size 5 1 (.slice (some ⟨g5,0,none⟩) m c5) m (ints .u8 o.bs)from zG (zB hown5 (fun q hq=>heap_setCell_other _ _ q _ (by have:=(hown5.lt q hq).1;show q≠wr.heap.size;omega))) (by omega))
  have OP6:=hide (heap_setCell_same w5 wr.heap.size 4 _ _ (.slice (some ⟨g5,0,none⟩) m c5) OP5.out)
  have B6:=hide ((B3.out.grown hgr5 (by omega) (fun q hq=>by simp [Value.ownBlock]at hq;omega)).setCell (p:=⟨wr.heap.size,4,none⟩) lR (.slice (some ⟨g5,0,none⟩) m c5))
  clear hown5 hgr5 hgq5 hgl5 OP5 x4 f4 z4 O0 HA OP3 B3 BA3 hil h1c;generalize w5.setCell ⟨wr.heap.size,4,none⟩ (.slice (some ⟨g5,0,none⟩) m c5)=w6 at *;have z6:=B6.out.size
  have p0:=cR (i:=0) OP6.out rfl
  have p1:=cR (i:=1) OP6.out rfl
  have p2:=cR (i:=2) OP6.out rfl
  have p3:=cR (i:=3) OP6.out rfl
  have p4:=cR (i:=4) OP6.out rfl
  have NC:=hide (zY w6 30 [.int .i64 o.kd,.int .i64 o.b0,.int .i64 o.b1,.int .i64 o.b2,.slice (some ⟨g5,0,none⟩) m c5]);have BA7:=hide (bA (Below.refl w6.heap.size w6) (.cells #[.int .i64 o.kd,.int .i64 o.b0,.int .i64 o.b1,.int .i64 o.b2,.slice (some ⟨g5,0,none⟩) m c5] 30));have B7:=hide (B6.out.trans (BA7.out.mono z6));have T7:=hide (T5.out.alloc (.cells #[.int .i64 o.kd,.int .i64 o.b0,.int .i64 o.b1,.int .i64 o.b2,.slice (some ⟨g5,0,none⟩) m c5] 30));obtain⟨tvs,t1,t2,t3⟩:=HT.out.below B7.out
  have L7:=hide (show(ops.take k).length=k by rw [List.length_take,<- HN.out];omega)
  rw [L7.out]at t1 t2;have T1:=hide t1;have T2:=hide t2;have T3:=hide t3
  have z7:w6.heap.size<=(w6.alloc (.cells #[.int .i64 o.kd,.int .i64 o.b0,.int .i64 o.b1,.int .i64 o.b2,.slice (some ⟨g5,0,none⟩) m c5] 30)).heap.size:=by simp
  clear t1 t2 t3 T5 OP6 HT
  go_wp2_with (at_builtin;refine wpList_append_lies _ rfl _ _ 31 rfl w.heap.size 30 i0 (.agg #[.int .i64 0,.int .i64 0,.int .i64 0,.int .i64 0,.slice none 0 0]) 5 56 Tryz.underlying31 hi0 hz0 hz1 hz2 rfl (by decide) u3 k (opV (ops.take k) tvs) rfl (by exact T1.out) ⟨w6.heap.size,0,none⟩ 1 1 _ rfl rfl NC.out (by simp [Value.oneCell']) (by omega) (by unfold maxLen;omega) (by omega) (by omega) _ rfl ?_;intro g8 c8 w8 hown8 hgr8 hgq8 hgl8)
  go_roundw
  case rel=>
   refine⟨k+1,by omega,by go_num,?_,HB.out.trans (B7.out.mono hsz) |>.grown hgr8 (by omega) (fun q hq=>(T1.out.lt q hq).1)⟩
   have h9:=SR.app (ops:=ops.take k) (o:=o) (v':=.slice (some ⟨g8,0,none⟩) (k+1) c8) (by rw [L7.out];exact T1.out) (by rw [L7.out];exact T2.out) T3.out hgr8 (by rw [L7.out];exact hown8) (by rw [HM.out];exact T7.out) (fun h=>h.elim)
   have e2:ops.take k++ [o]=ops.take (k+1):=by rw [List.take_add_one,HO.out];rfl
   rw [e2]at h9;exact h9
  simp [intOf];omega
 have hlt':¬ (k:Int)<n:=by omega
 clear hT hB;go_wp2;go_ret;refine⟨_,rfl,?_,HB.out⟩;have h9:=HT.out
 rw [List.take_of_length_le (by rw [<- HN.out];omega)]at h9
 exact h9
theorem RunO.base {w w1:World} {n:Nat} {ss:List PSt} {bo:Nat} {w':World} (h:RunO w1 n ss bo w') (hb:Below w.heap.size w w1):RunO w n ss bo w':=by
 obtain⟨xs,G,h1,h2,h3⟩:=h;exact⟨xs,_,zG h1 hb.size,OL.base hb.size h2,hb.trans (h3.mono hb.size)⟩
structure EOk (w:World) (b cap:Nat) (ops:List Cop) (ss:List PSt) (hcap:Int) (lim n:Nat):Prop where
 sr:SR w True 0 (.slice (some ⟨b,0,none⟩) ops.length cap) ops
 tab:Tab w
 er:ErT w
 h1:1<w.heap.size
 len:ops.length=n
 h0:0<n
 hn:n<=10000
 bl:∀o∈ops,o.bs.length<=1048576
 li:(lim:Int)=min (max hcap 1) 1000
 st:∀K live,KOk K live->Stp K ops (ens0 [] lim) ss
 fo:Fol ops ss
 ne:∀s∈ss,s.M.tx≠ []
theorem EOk.below {w w':World} {b cap:Nat} {ops:List Cop} {ss:List PSt} {hcap:Int} {lim n:Nat} (h:EOk w b cap ops ss hcap lim n) (hb:Below w.heap.size w w'):EOk w' b cap ops ss hcap lim n:=
 ⟨h.sr.below hb,h.tab.same (hb.block 1 h.h1),h.er.below hb,by have:=hb.size;have:=h.h1;omega,h.len,h.h0,h.hn,h.bl,h.li,h.st,h.fo,h.ne⟩
def RunC (w:World) (v:Value) (ops:List Cop) (n:Nat):Prop:=Calls Tryz.prog 13 #[v] w fun e w'=>∃b cap,e= .returned (.slice (some ⟨b,0,none⟩) n cap)∧ScO w' b cap ops∧Below w.heap.size w w'
theorem EOk.cp {w:World} {b cap:Nat} {ops:List Cop} {ss:List PSt} {hcap:Int} {lim n:Nat} (h:EOk w b cap ops ss hcap lim n):RunC w (.slice (some ⟨b,0,none⟩) n cap) ops n:=by
 have h0:0<ops.length:=by rw [h.len];exact h.h0
 rw [RunC,<- h.len]
 refine(cpOpsG 0 _ ops w h.sr h0 (by rw [h.len];exact h.hn) h.bl).mono ?_
 rintro e w' ⟨v',rfl,hs,hb⟩;obtain⟨b',cap',rfl,h1,h2,h3⟩:=hs.val h0;exact⟨b',cap',rfl,hs.sc h1 ⟨h2,h3⟩,hb⟩
theorem EOk.last {w:World} {b cap:Nat} {ops:List Cop} {ss:List PSt} {hcap:Int} {lim n:Nat} (h:EOk w b cap ops ss hcap lim n):(Mat (ens0 [] lim) ss n).tx≠ []:=by
 have hl:ss.length=n:=by rw [<- (h.st KP 0 (.inl ⟨rfl,rfl⟩)).len,h.len]
 obtain⟨m,rfl⟩:∃m,n=m+1:=⟨n - 1,by have:=h.h0;omega⟩
 have hs:ss[m]? =some (ss[m]'(by omega)):=List.getElem?_eq_getElem (by omega)
 rw [ZM hs];exact h.ne _ (List.getElem_mem _)
theorem Tryz.fldP (a b c d:Value) (w:World):(Instr.field 47 (.agg #[a,b,c,d]) 0).run Tryz.prog w= .ok a w:=by kernel_rfl
theorem Tryz.fldL (a b c d:Value) (w:World):(Instr.field 55 (.agg #[a,b,c,d]) 0).run Tryz.prog w= .ok a w:=by kernel_rfl
theorem Tryz.fldA (a b c d:Value) (w:World):(Instr.field 58 (.agg #[a,b,c,d]) 0).run Tryz.prog w= .ok a w:=by kernel_rfl
theorem engineG (wh:Int) (ops:List Cop) (ss:List PSt) (b cap:Nat) (hcap big near run:Int) (lim n:Nat) (w:World) (h:EOk w b cap ops ss hcap lim n) (hw:wh=0∨wh=1∨wh=2):
  Calls Tryz.prog 7 #[.int .i64 wh,.slice (some ⟨b,0,none⟩) n cap,.int .i64 hcap,.agg #[.int .i64 big,.int .i64 near,.int .i64 run]] w fun e w'=>∃bo,e= .returned (.slice (some ⟨bo,0,none⟩) n n)∧RunO w n ss bo w':=by
 have BA:=hide (bA (Below.refl w.heap.size w) (.cells #[.int .i64 big,.int .i64 near,.int .i64 run] 26))
 have PO:=hide (show(w.alloc (.cells #[.int .i64 big,.int .i64 near,.int .i64 run] 26)).heap[w.heap.size]? =some (.cells #[.int .i64 big,.int .i64 near,.int .i64 run] 26 (0,0))from heap_alloc_new _ _)
 have zA:w.heap.size<(w.alloc (.cells #[.int .i64 big,.int .i64 near,.int .i64 run] 26)).heap.size:=by simp
 have CP:=hide (fun W (hW:Below w.heap.size w W)=>(h.below hW).cp)
 have RP:=hide (fun W (hW:Below w.heap.size w W) b' cap' (hs:ScO W b' cap' ops)=>zAn ops ss b' cap' hcap lim n W hs (h.below hW).tab (h.below hW).er (h.below hW).h1 h.len h.h0 h.hn h.li (h.st KP 0 (.inl ⟨rfl,rfl⟩)) h.last)
 have RL:=hide (fun W (hW:Below w.heap.size w W) b' cap' (hs:ScO W b' cap' ops)=>runLineG ops ss b' cap' hcap lim n W hs (h.below hW).tab (h.below hW).er (h.below hW).h1 h.len h.h0 h.hn h.li (h.st KL 1 (.inr ⟨rfl,rfl⟩)) h.last)
 have RA:=hide (fun W (hW:Below w.heap.size w W) b' cap' (hs:ScO W b' cap' ops)=>runAG ops ss b' cap' big near run hcap lim n W hs (h.below hW).tab (h.below hW).er (h.below hW).h1 h.len h.h0 h.hn h.li h.st h.fo h.ne)
 unfold RunC at CP;clear h;have hfP:=Tryz.fldP;have hfL:=Tryz.fldL;have hfA:=Tryz.fldA
 rcases hw with rfl | rfl | rfl
 ·go_enter Tryz.func7,Tryz.ntmps7
  go_upto_region 1 with fail
  generalize w.alloc (.cells #[.int .i64 big,.int .i64 near,.int .i64 run] 26)=w1 at *;have CP1:=hide (CP.out w1 BA.out);go_wp2_with fail;refine CP1.out.mono ?_;rintro e w2 ⟨b',cap',rfl,hs2,hb2⟩;have B2:=hide (BA.out.trans (hb2.mono BA.out.size));have R2:=hide (RP.out w2 B2.out b' cap' hs2);clear CP1 hs2 hb2;go_wp2_with fail;refine R2.out.mono ?_;rintro e w3 ⟨bo,sa,sl,sk,ra,rl,rk,rfl,hR⟩;have R3:=hide (hR.base B2.out);clear hR R2;go_wp2;go_ret;exact⟨bo,rfl,R3.out⟩
 ·go_enter Tryz.func7,Tryz.ntmps7
  go_upto_region 1 with fail
  generalize w.alloc (.cells #[.int .i64 big,.int .i64 near,.int .i64 run] 26)=w1 at *;have CP1:=hide (CP.out w1 BA.out);go_wp2_with fail;refine CP1.out.mono ?_;rintro e w2 ⟨b',cap',rfl,hs2,hb2⟩;have B2:=hide (BA.out.trans (hb2.mono BA.out.size));have R2:=hide (RL.out w2 B2.out b' cap' hs2);clear CP1 hs2 hb2;go_wp2_with fail;refine R2.out.mono ?_;rintro e w3 ⟨bo,sa,sl,sk,ra,rl,rk,rfl,hR⟩;have R3:=hide (hR.base B2.out);clear hR R2;go_wp2;go_ret;exact⟨bo,rfl,R3.out⟩
 go_enter Tryz.func7,Tryz.ntmps7
 go_upto_region 6 with fail
 generalize w.alloc (.cells #[.int .i64 big,.int .i64 near,.int .i64 run] 26)=w1 at *
 have IC:=hide (show ∀y,Below w1.heap.size w1 y->y.cell? ⟨w.heap.size,0,none⟩=some (.int .i64 big)∧y.cell? ⟨w.heap.size,1,none⟩=some (.int .i64 near)∧y.cell? ⟨w.heap.size,2,none⟩=some (.int .i64 run)from fun y hy=>by
  have h9:=(hy.block w.heap.size zA).trans PO.out
  exact⟨by rw [cell_of_row _ _ 0 _ _ _ h9];rfl,by rw [cell_of_row _ _ 1 _ _ _ h9];rfl,by rw [cell_of_row _ _ 2 _ _ _ h9];rfl⟩)
 refine(wpIn_wide (n:=6)).1 ?_
 refine zn (fun y=>y.cell? ⟨w.heap.size,0,none⟩=some (.int .i64 big)∧y.cell? ⟨w.heap.size,1,none⟩=some (.int .i64 near)∧y.cell? ⟨w.heap.size,2,none⟩=some (.int .i64 run)) (by kernel_rfl) ?_
 refine tk 0 (.slice (some ⟨b,0,none⟩) n cap) ?_ ?_
 ·intro y hC;obtain⟨hC1,hC2,hC3⟩:=hC;go_simp
 go_simp;refine tk 2 (.int .i64 hcap) ?_ ?_
 ·intro y hC;obtain⟨hC1,hC2,hC3⟩:=hC;go_simp
 go_simp;refine tk 3 (.agg #[.int .i64 big,.int .i64 near,.int .i64 run]) ?_ ?_
 ·intro y hC;obtain⟨hC1,hC2,hC3⟩:=hC;go_simp
 go_simp;obtain⟨y0,hy⟩:∃y,y=w1.drew:=⟨_,rfl⟩;rw [<- hy]
 have BY0:=hide (show Below w1.heap.size w1 y0 from by rw [hy];exact drewB rfl rfl rfl rfl)
 have BW0:=hide (BA.out.trans (BY0.out.mono BA.out.size));clear hy;refine on 1 (IC.out _ BY0.out) ?_;have CP1:=hide (CP.out y0 BW0.out)
 gi_wp2_with fail
 refine⟨trivial,(callsIn_wide.2 CP1.out).mono ?_⟩;rintro e y1 ⟨b',cap',rfl,hs2,hb2⟩;have BY1:=hide (BY0.out.trans (hb2.mono BY0.out.size));have BW1:=hide (BA.out.trans (BY1.out.mono BA.out.size));have R2:=hide (RA.out y1 BW1.out b' cap' hs2);clear CP1 hs2 hb2 BY0 BW0
 gi_wp2_with fail
 refine on 4 (IC.out _ BY1.out) ?_;unfold RunA at R2
 gi_wp2_with fail
 refine⟨trivial,(callsIn_wide.2 R2.out).mono ?_⟩;rintro e y2 ⟨bo,bl,mz,rfl,hR⟩;have R3:=hide (hR.base BW1.out)
 have BY2:=hide (show Below w1.heap.size w1 y2 from by
  obtain⟨xs,G,_,_,h3⟩:=hR
  exact BY1.out.trans (h3.mono BY1.out.size))
 clear hR R2
 gi_wp2_with fail
 refine on 5 (IC.out _ BY2.out) ?_
 gi_wp2_with fail
 refine on 6 (IC.out _ BY2.out) ?_
 gi_wp2_with fail
 refine doneC (by kernel_rfl) (IC.out _ BY2.out) ?_ _
 go_wp2;go_ret;exact⟨bo,rfl,R3.out⟩
end Go.Proofs.YtibbhecojkehfaaGreatDoor
