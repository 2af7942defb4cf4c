import Derived.Test.YtibbhecojkehfaaGreatDoorMq27
set_option linter.all false
set_option maxRecDepth 100000
set_option maxHeartbeats 16000000
namespace Go.Proofs.YtibbhecojkehfaaGreatDoor
open Go Go.RowKit
theorem sliceF (c g cap n nl ga gb a b mm:Nat) (sv:Value) (vs:List Value) (gs:List Gr) (LS:List (List Int)) (rn:Int) (w:World) (h:LCr w 0 w.heap.size c (.slice (some ⟨g,0,none⟩) n cap) sv vs gs ga gb rn ((stL LS).take mm)) (hN:gs.length=n) (hgab:ga<=gb∧gb<=n) (hn:n<=1048576) (hnl:nl+(gb - ga)=n) (hLn:LS.length=nl) (h2:nl<=8193) (hSB:∀k,k<nl->∃x u,gs[phi ga gb k]? =some x∧vs[phi ga gb k]? =some u∧LS[k]? =some (grT x)∧okG x) (hm1:1<=mm) (hmn:mm<=nl) (hj:(jn LS).length<=8192) (hab:a<=b) (hb:b<=(jn LS).length):
  Calls Tryz.prog 226 #[.pointer (some ⟨c,0,none⟩),.int .i64 a,.int .i64 b] w fun e w'=>∃v',e= .returned v'∧o32 w' w.heap.size v' (((jn LS).take b).drop a)∧Below w.heap.size w w':=by
 obtain⟨i0,hi0,hz0,hz1,hz2⟩:=info_parts Tryz.infoG
 have HH:=hide (fun(W:World) (hW:Below w.heap.size w W)=>h.below hW lR h.lt)
 have HN:=hide hN
 have hcc:n<=cap:=by
  have h9:=h.rows.row;rw [hN]at h9
  rcases h9.2 with ⟨e,_⟩ | ⟨_,_,_,e,_,_,h3,_⟩
  ·cases e
  simp only [Value.slice.injEq]at e;obtain⟨_,_,rfl⟩:=e;exact h3
 have GET:=hide hSB;have hLL:=hide hLn;have hcl:=h.lt;clear h hSB hLn;obtain⟨d,hd⟩:∃d,d=b - a:=⟨_,rfl⟩
 have hdd:(b:Int) - (a:Int)=(d:Nat):=by omega
 have hd8:d<=8192:=by omega
 clear hd
 have KN:=hide (fun(W:World) (hW:Below w.heap.size w W)=>XY 0 w.heap.size c mm a (.slice (some ⟨g,0,none⟩) n cap) sv vs gs ga gb rn LS W (HH.out W hW) (by rw [hLL.out];exact hmn) hm1 (by rw [hLL.out];exact h2) (by omega))
 go_enter Tryz.func226,Tryz.ntmps226
 go_wp2_with (at_make;refine wpList_make_own _ rfl _ _ 34 rfl w.heap.size 21 i0 (.int .i32 0) 1 Tryz.underlying34 hi0 hz0 hz1 .i64 .i64 _ d rfl rfl (by omega) (by rw [hz2];omega) (by unfold maxLen;omega) lR ?_;intro w1 hown1 hg1)
 have B1:=hide (show Below w.heap.size w w1 from⟨hg1.os,hg1.tape,hg1.output,hg1.size,fun k hk=>hg1.block k hk (by simp)⟩)
 have O1:=hide hown1;clear hown1 hg1;refine(KN.out w1 B1.out).mono ?_;rintro e wk ⟨k0,rfl,hk0,hks,_,hwk⟩;have hw':=hwk.symm;subst hw';clear hwk;have hL1:=HH.out w1 B1.out
 have STL:=hide (show((stL LS).take mm).length=mm by rw [List.length_take,yU,hLL.out];omega)
 obtain⟨as_,cs,hsv⟩:=yW hL1.starts;rw [STL.out]at hsv;have hst:=hL1.starts;unfold o64 at hst;rw [STL.out]at hst;subst hsv
 rcases hst.2 with ⟨_,q⟩ | ⟨gj,cj',cur,q,_,_,d1,d2,_⟩
 ·omega
 simp only [Value.slice.injEq,true_and]at q;obtain⟨rfl,rfl⟩:=q
 have cs0:w1.cell? ⟨gj,k0,none⟩=some (.int .i64 ((sAt LS k0:Nat):Int)):=by
  have:=zv hst k0 hk0;rw [this]
  have h9:=jq (ls:=LS) (i:=k0) (by rw [hLL.out];omega)
  simp only [List.getD_eq_getElem?_getD]at h9 |-;rw [List.getElem?_take,if_pos hk0,h9];rfl
 obtain⟨_,_,_,_,q4⟩:=hL1.cells
 have hkm:(k0:Int)<mm:=by omega
 have JB:=hide (fun(i:Nat) (hi:i<=nl)=>(show sAt LS i<=20000 from by
  have:=jK (ls:=LS) (by intro e;have:=hLL.out;rw [e]at this;simp at this;omega)
  have:=ye LS i;have:=hLL.out
  unfold sAt;omega))
 have JE:=hide (show(jn LS).length<sAt LS nl from by
  have:=jK (ls:=LS) (by intro e;have:=hLL.out;rw [e]at this;simp at this;omega)
  unfold sAt
  rw [List.take_of_length_le (by rw [hLL.out];exact lR)]
  have:=hLL.out
  omega)
 have TB:=hide (fun(j:Nat)=>(show(((jn LS).take (min b (sAt LS j))).drop a).length<=8192 from by rw [List.length_drop,List.length_take];omega))
 have SS:=hide (fun(j:Nat) (l:List Int) (hl:LS[j]? =some l) (hs:sAt LS j<b)=>Xm (lo:=a) hl hs hb)
 have SX:=hide (fun(j:Nat) (l:List Int) (hl:LS[j]? =some l)=>Ji hl)
 have T0:=hide (show((jn LS).take (min b (sAt LS k0))).drop a= []from List.drop_eq_nil_of_le (by rw [List.length_take];omega))
 have HJ:=hide hb;clear hL1 hst hks KN;generalize hS0:sAt LS k0=s0 at cs0;have HS0:=hide hS0;clear hS0;go_wp2_with fail;clear cs0 q4
 go_loopw [7,8,9] (fun tv lv sv_ wr=>∃j:Nat,j<=nl∧lv= .int .i64 j∧sv_= .int .i64 ((sAt LS j:Nat):Int)∧Below w.heap.size w wr∧o32 wr w.heap.size tv (((jn LS).take (min b (sAt LS j))).drop a)∧tv≠ .slice none 0 0) (fun _ lv _ _=>nl+1 - (intOf lv).toNat)
 case atStart=>exact⟨k0,by omega,rfl,by rw [HS0.out],B1.out,by rw [T0.out];exact O1.out,by simp⟩
 obtain⟨j,hjn,rfl,rfl,hbr,hot,hnn⟩:=hrel;have HB:=hide hbr;have OT:=hide hot;have NN:=hide hnn;have hsz:=hbr.size;have hsj:=JB.out j hjn;have htb:=TB.out j;obtain⟨ta,tc,rfl⟩:=jT hot
 by_cases hlt:sAt LS j<b
 ·have hjl:j<nl:=by
   rcases Nat.eq_or_lt_of_le hjn with e | e
   ·have:=JE.out;rw [<- e]at this;have:=HJ.out;omega
   exact e
  obtain⟨x,u,hx,hu,hl,okx0⟩:=GET.out j hjl
  have hpi:phi ga gb j<n:=by rw [<- HN.out];exact(List.getElem?_eq_some_iff.1 hx).1
  have hst:=SS.out j _ hl hlt;have hsx:=SX.out j _ hl;have hL:=HH.out wr hbr
  have AT:=hide (atF c g cap n j ga gb wr ⟨hL.cells.1,hL.cells.2.1,hL.cells.2.2.1⟩ hgab hpi hcc (by omega))
  have okx:=okx0.1
  have LE:=hide (fun(W:World) (hW:Below w.heap.size w W)=>rowLenN (HH.out W hW).rows HN.out hx hu okx)
  have RR:=hide (fun(p q:Nat) (W:World) (hW:Below w.heap.size w W) (hpq:p<=q) (hq:q<=(grT x).length)=>rowReadN (a:=p) (b:=q) (HH.out W hW).rows HN.out hx hu okx hpq hq)
  have hxl:=(Zn okx).2.1;generalize hgx:grT x=gx at *;generalize hT0:((jn LS).take (min b (sAt LS j))).drop a=T at *;have STP:=hide hst;have HSX:=hide hsx;generalize hlx:gx.length=lx at *;have HLX:=hide hlx;generalize hsJ:sAt LS j=s at *;have HSJ:=hide hsJ;generalize hTl:T.length=tl at *;have HTl:=hide hTl
  have hlt':(s:Int)<(b:Nat):=by omega
  clear hbr hot hnn hx hu hl hst hsx hL okx okx0 hgx hT0 hlx hsJ hTl;generalize phi ga gb j=pj at *;go_wp2_with fail;refine AT.out.mono ?_;rintro e wx ⟨rfl,na,rfl⟩;have HB:=hide (yN HB.out na)
  have OT:=hide (show o32 (wr.drewN na) w.heap.size (.slice ta tl tc) T from zB OT.out (fun q _=>rfl))
  generalize wr.drewN na=wr at *;have LE:=hide (LE.out wr HB.out);clear AT;go_wp2_with fail;refine LE.out.mono ?_;rintro e wy ⟨rfl,nq,rfl⟩;have B2:=hide (yN HB.out nq)
  have O2:=hide (show o32 (wr.drewN nq) w.heap.size (.slice ta tl tc) T from zB OT.out (fun q _=>rfl))
  generalize wr.drewN nq=w2 at *;clear HB OT LE
  by_cases hlo:a<=s+lx
  ·have hlo':(a:Int)<=(s:Int)+(lx:Int):=by omega
   obtain⟨pa,hpa⟩:∃pa,pa=a - s:=⟨_,rfl⟩;obtain⟨mb,hmb⟩:∃mb,mb=min b (s+lx):=⟨_,rfl⟩;obtain⟨pb,hpb⟩:∃pb,pb=mb - s:=⟨_,rfl⟩
   have hmx:max ((a:Int) - (s:Int)) 0=(pa:Nat):=by omega
   have hmn2:min (b:Int) ((s:Int)+(lx:Int))=(mb:Nat):=by omega
   have hpb2:(mb:Int) - (s:Int)=(pb:Nat):=by omega
   have hpp:pa<=pb:=by omega
   have hpl:pb<=lx:=by omega
   have hst:=STP.out.1 hlo;rw [<- hpa,<- hmb,<- hpb]at hst;have STQ:=hide hst;have RRR:=hide (RR.out pa pb w2 B2.out hpp hpl);clear hst STP RR hpa hmb hpb
   have hpb8:pb<=8192:=by omega
   obtain⟨pt,hpt⟩:∃pt,pt=(gx.drop pa).take (pb - pa):=⟨_,rfl⟩;rw [<- hpt]at RRR STQ
   have hptl:pt.length=pb - pa:=by rw [hpt,List.length_take,List.length_drop,HLX.out];omega
   have HPL:=hide hptl;obtain⟨pl,hpl2⟩:∃pl,pl=pb - pa:=⟨_,rfl⟩;rw [<- hpl2]at HPL
   have hplb:pl<=8192:=by omega
   have s2:=B2.out.size;clear hpt hptl hpl2
   go_upto_region 9 with fail
   go_cut [7]from 26 to 63 (fun s7 wc=>∃av cv,s7= .slice av (tl+pl) cv∧wc.ownsRow w.heap.size 21 1 (.slice av (tl+pl) cv) (tl+pl) (ints .i32 (T++pt))∧(av=none->tl+pl=0->False)∧Below w.heap.size w wc)
   case first=>
    go_wp2_with fail;refine RRR.out.mono ?_;rintro e w3 ⟨vt,rfl,ho3,hb3⟩;have s3:=hb3.size;have B3:=hide (B2.out.trans (hb3.mono s2))
    have O3:=hide (show w3.ownsRow w.heap.size 21 1 (.slice ta tl tc) tl (ints .i32 T)from by
     have h9:=zF O2.out hb3 lR;unfold o32 at h9;rw [HTl.out]at h9
     exact h9)
    rcases j5 ho3 with ⟨rfl,e0⟩ | ⟨g3,c3,rfl⟩
    ·have hp0:pl=0:=by have:=HPL.out;rw [e0]at this;simpa using this.symm
     subst e0 hp0;clear ho3 hb3 RRR O2 B2;go_wp2_with (at_builtin;refine wpList_append_own_none rfl _ _ 34 rfl w.heap.size 21 i0 1 Tryz.underlying34 hi0 _ _ _ rfl O3.out rfl ?_);go_meet
     refine⟨ta,tc,by simp,by simpa using O3.out,fun e1 e2=>NN.out ?_,B3.out⟩
     subst e1
     have:tl=0:=by omega
     subst this
     rcases O3.out.2 with ⟨e3,_⟩ | ⟨g',cap',cur',e3,_⟩
     ·exact e3
     simp at e3
    have C3:=hide (show ∀j u,(ints .i32 pt)[j]? =some u->w3.cell? ((⟨g3,0,none⟩:Addr).add j)=some u from fun j u hj=>World.ownsRow.cells ho3 rfl j u hj)
    rw [HPL.out];clear ho3 hb3 RRR O2 B2
    go_wp2_with (at_builtin;refine wpList_append_own _ rfl _ _ 34 rfl w.heap.size 21 i0 (.int .i32 0) 1 4 Tryz.underlying34 hi0 hz0 hz1 hz2 rfl (by decide) _ _ _ rfl O3.out ⟨g3,0,none⟩ pl c3 (ints .i32 pt) rfl (by rw [zC,Nat.mul_one,HPL.out]) C3.out (zR _ _) (by unfold maxLen;omega) (by omega) (by omega) ?_;intro v6 x6 ho6 hg6 hnil6)
    have N6:=hide (show v6≠ .slice none 0 0 from fun e=>NN.out (hnil6.1 e).1)
    have B6:=hide (B3.out.grown hg6 (by omega) (fun q hq=>(O3.out.lt q hq).1))
    have O6:=hide ho6;obtain⟨a6,c6,hv6⟩:=own_valT ho6;subst hv6;clear ho6 hg6 hnil6;go_wp2_with fail;go_meet
    refine⟨a6,c6,rfl,by rw [yI];exact O6.out,fun e1 e2=>N6.out ?_,B6.out⟩
    subst e1
    rcases O6.out.2 with ⟨e3,_⟩ | ⟨g',cap',cur',e3,_⟩
    ·exact e3
    simp at e3
   obtain⟨av,cv,rfl,hO,hnv,hB⟩:=hcut;have O5:=hide hO;have B5:=hide hB;have NV:=hide hnv;have s5:=hB.size;clear hO hB hnv RRR O2 B2 NN
   by_cases hq:s+lx<b
   ·have hq':(s:Int)+(lx:Int)<(b:Nat):=by omega
    have hst2:=STQ.out;rw [if_pos hq]at hst2;have ST2:=hide hst2;have NC:=hide (zY wc 21 [.int .i32 10]);clear hst2 STQ
    go_wp2_with (at_builtin;refine wpList_append_own _ rfl _ _ 34 rfl w.heap.size 21 i0 (.int .i32 0) 1 4 Tryz.underlying34 hi0 hz0 hz1 hz2 rfl (by decide) _ _ _ rfl (O5.out.alloc _) ⟨wc.heap.size,0,none⟩ 1 1 [.int .i32 10] rfl rfl NC.out (zR .i32 [10]) (by unfold maxLen;omega) (by omega) (by simp;omega) ?_;intro v7 x7 ho7 hg7 hnil7)
    have N7:=hide (show v7≠ .slice none 0 0 from fun e=>by
     have h9:=(hnil7.1 e).1
     first
      | exact NV.out h9.1 h9.2.1
      | (injection h9 with i1 i2 i3;exact NV.out i1 i2))
    have B7:=hide ((B5.out.alloc s5 (.cells #[.int .i32 10] 21)).grown hg7 (by simp;omega) (fun q hq=>(O5.out.lt q hq).1))
    have O7:=hide ho7;clear ho7 hg7 hnil7
    have hjj:j+1<=nl:=by omega
    go_wp2;go_roundw
    case rel=>
     refine⟨j+1,hjj,by go_num,by rw [HSX.out];go_num,B7.out,?_,N7.out⟩
     rw [HSX.out,<- ST2.out];unfold o32;rw [List.length_append,List.length_append,HTl.out,HPL.out,yI];exact O7.out
    simp [intOf];omega
   have hq':¬ (s:Int)+(lx:Int)<(b:Nat):=by omega
   have hst2:=STQ.out;rw [if_neg hq,List.append_nil]at hst2;have ST2:=hide hst2
   have hjj:j+1<=nl:=by omega
   clear hst2 STQ;go_wp2;go_roundw
   case rel=>
    refine⟨j+1,hjj,by go_num,by rw [HSX.out];go_num,B5.out,?_,fun e=>?_⟩
    ·rw [HSX.out,<- ST2.out]
     unfold o32;rw [List.length_append,HTl.out,HPL.out];exact O5.out
    simp only [Value.slice.injEq]at e;exact NV.out e.1 e.2.1
   simp [intOf];omega
  have hlo':¬ (a:Int)<=(s:Int)+(lx:Int):=by omega
  have ST2:=hide (STP.out.2 hlo)
  have hjj:j+1<=nl:=by omega
  clear STP RR;go_wp2;go_roundw
  case rel=>
   refine⟨j+1,hjj,by go_num,by rw [HSX.out];go_num,B2.out,?_,NN.out⟩
   rw [HSX.out,ST2.out];exact O2.out
  simp [intOf];omega
 have hlt':¬ ((sAt LS j:Nat):Int)<(b:Nat):=by omega
 have EQ:=hide (show((jn LS).take (min b (sAt LS j))).drop a=((jn LS).take b).drop a by rw [Nat.min_eq_left (by omega)])
 generalize sAt LS j=s at *;generalize hTl:(((jn LS).take (min b s)).drop a).length=tl at *;have HTl:=hide hTl;clear hot hbr hTl hnn;go_wp2;go_ret;refine⟨_,rfl,?_,HB.out⟩;rw [<- EQ.out];exact OT.out
def preL (A:List (List Int)):List Int:=A.flatMap (fun l=>l++ [10])
def postL (B:List (List Int)):List Int:=B.flatMap (fun l=>10::l)
theorem jn_preL (A Y:List (List Int)) (h:Y≠ []):jn (A++Y)=preL A++jn Y:=by
 induction A with
 | nil=>simp [preL]
 | cons a A ih=>
  have hne:A++Y≠ []:=by simp [h]
  have e:jn (a::(A++Y))=a++10::jn (A++Y):=by
   cases hA:A++Y with
   | nil=>exact absurd hA hne
   | cons b r=>rfl
  rw [List.cons_append,e,ih];simp [preL]
theorem jn_postL (B:List (List Int)):∀ (Y:List (List Int)),Y≠ []->jn (Y++B)=jn Y++postL B:=by
 induction B with
 | nil=>intro Y _;simp [postL]
 | cons b B ih=>
  intro Y h
  have e:Y++b::B=(Y++ [b])++B:=by simp
  rw [e,ih (Y++ [b]) (by simp),jn_snoc h]
  simp [postL]
theorem preL_len (A:List (List Int)):(preL A).length=smL A+A.length:=by
 induction A with
 | nil=>rfl
 | cons a A ih=>
  have e:preL (a::A)=a++ [10]++preL A:=by simp [preL]
  rw [e];simp only [List.length_append,List.length_cons,List.length_nil,ih,smL];omega
theorem Jl {LS:List (List Int)} {k:Nat} {T:List Int} (h:LS[k]? =some T):jn LS=preL (LS.take k)++(T++postL (LS.drop (k+1)))∧(preL (LS.take k)).length=sAt LS k:=by
 have hk:k<LS.length:=(List.getElem?_eq_some_iff.1 h).1
 have e:LS=LS.take k++([T]++LS.drop (k+1)):=by
  have h1:=List.take_append_drop k LS
  have h2:LS.drop k=T::LS.drop (k+1):=by
   rw [List.drop_eq_getElem_cons hk];have:=(List.getElem?_eq_some_iff.1 h).2;rw [this]
  rw [h2]at h1;exact h1.symm
 refine⟨?_,?_⟩
 ·conv=>lhs;rw [e]
  rw [jn_preL _ _ (by simp),jn_postL _ _ (by simp)]
  simp [jn,jt]
 rw [preL_len];unfold sAt;simp;omega
theorem Jm {L M:List (List Int)} {k:Nat} (h:L.take k=M.take k) (h1:k<L.length) (h2:k<M.length):(stL L).take (k+1)=(stL M).take (k+1):=by
 apply List.ext_getElem?;intro i;rw [List.getElem?_take,List.getElem?_take]
 split
 ·rename_i hi
  rw [Yh (by omega),Yh (by omega)]
  have e:L.take i=M.take i:=by
   have:=congrArg (List.take i) h
   rw [List.take_take,List.take_take,Nat.min_eq_left (by omega)]at this
   exact this
  rw [e]
 rfl
theorem jn_set {L:List (List Int)} {k:Nat} {l:List Int} (l':List Int) (h:L[k]? =some l):∃A B,jn L=A++(l++B)∧jn (L.set k l')=A++(l'++B)∧A.length=sAt L k:=by
 have hk:k<L.length:=(List.getElem?_eq_some_iff.1 h).1;have h1:=Jl h
 have h2:=Jl (LS:=L.set k l') (k:=k) (T:=l') (by simp [hk])
 rw [List.take_set_of_le lR,List.drop_set_of_lt (Nat.lt_succ_self k)]at h2;exact⟨_,_,h1.1,h2.1,h1.2⟩
theorem concat1 (xs:List Int) (vs:Value) (B:Nat) (w:World) (hS:Sl .i32 w vs xs) (hB:B<w.heap.size) (k0:w.cell? ⟨B,0,none⟩=some vs) (hx:xs.length<=1048576):
  Calls Tryz.prog 56 #[.slice (some ⟨B,0,none⟩) 1 1] w fun e w'=>∃v',e= .returned v'∧o32 w' w.heap.size v' xs∧Below w.heap.size w w':=by
 obtain⟨i0,hi,hz0,hz1,hz2⟩:=info_parts Tryz.infoG;have HS:=hide hS
 rcases hS with ⟨rfl,rfl⟩ | ⟨b,off,cap,rfl,_,_⟩
 ·skip
  go_enter Tryz.func56,Tryz.ntmps56;go_wp2;refine wp_loop_rounds 2 ?_;rw [rounds_succ];go_wp2;rw [rounds_succ];go_wp2_with fail
  refine(jZ 0 _ (by omega)).mono ?_
  rintro e w1 ⟨v1,rfl,ho,hb⟩;have HO1:=hide ho;have HB1:=hide hb;have hs1:=hb.size;have e0:=(hb.cell (p:=⟨B,0,none⟩) hB).trans k0;clear ho hb;go_wp2_with fail;refine wp_loop_rounds 2 ?_;rw [rounds_succ];go_wp2_with (at_builtin;refine wpList_append_own_none rfl _ _ 34 rfl w.heap.size 21 i0 1 Tryz.underlying34 hi _ _ _ rfl HO1.out rfl ?_);rw [rounds_succ];go_wp2;go_ret
  exact⟨_,rfl,by simpa [o32,ints,Nat.add_assoc]using HO1.out,HB1.out⟩
 go_enter Tryz.func56,Tryz.ntmps56;go_wp2;refine wp_loop_rounds 2 ?_;rw [rounds_succ];go_wp2;rw [rounds_succ];go_wp2_with fail
 refine(jZ xs.length _ (by omega)).mono ?_
 rintro e w1 ⟨v1,rfl,ho,hb⟩;have HO1:=hide ho;have HB1:=hide hb;have hs1:=hb.size;have e0:=(hb.cell (p:=⟨B,0,none⟩) hB).trans k0;clear ho hb;go_wp2_with fail;refine wp_loop_rounds 2 ?_;rw [rounds_succ];have HC2:=hide (HS.out.below HB1.out |>.rd rfl)
 go_wp2_with (at_builtin;refine wpList_append_own _ rfl _ _ 34 rfl w.heap.size 21 i0 (.int .i32 0) 1 4 Tryz.underlying34 hi hz0 hz1 hz2 rfl (by decide) _ _ _ rfl HO1.out ⟨b,off,none⟩ xs.length cap (ints .i32 xs) rfl (by rw [zC,Nat.mul_one]) HC2.out (zR _ _) (by unfold maxLen;omega) (by omega) hs1 ?_;intro v2 w2 ho2 hg2 _)
 have HO2:=hide ho2
 have HB2:=hide (HB1.out.grown hg2 hs1 (fun q hq=>(HO1.out.lt q hq).1))
 have hs2:=HB2.out.size;have f02:=(HB2.out.cell (p:=⟨B,0,none⟩) hB).trans k0;clear ho2 hg2;go_wp2;rw [rounds_succ];go_wp2;go_ret
 exact⟨_,rfl,by simpa [o32,ints,Nat.add_assoc]using HO2.out,HB2.out⟩
theorem plain32N (ao:Option Addr) (n cap:Nat) (w:World):
  Calls Tryz.prog 55 #[.slice ao n cap] w fun e w'=>e= .returned (.agg #[.slice ao n cap,.int .i64 n,.int .i64 n])∧Below w.heap.size w w':=by
 have HB:=hide ((Below.refl w.heap.size w).alloc lR (.cells #[.slice ao n cap,.int .i64 n,.int .i64 n] 104));go_enter Tryz.func55,Tryz.ntmps55;go_wp2
 refine bodyPost_ret (v:=.agg #[.slice ao n cap,.int .i64 n,.int .i64 n]) (by simp [results,Tryz.results55,go_sem]) rfl ⟨rfl,HB.out⟩
def plR (L:List (List Int)) (t:List Int):List Gr:=L.dropLast.map plG++ [plG (L.getLastD []++t)]
theorem last_get {L:List (List Int)} {k:Nat} (h:L.length=k+1):L[k]? =some (L.getLastD []):=by
 rw [List.getLastD_eq_getLast?,List.getLast?_eq_getElem?,h]
 simp [show k<L.length by omega]
theorem YY {L:List (List Int)} {k:Nat} (h:L.length=k+1):L.dropLast=L.take k:=by
 rw [List.dropLast_eq_take,h];rfl
theorem plainRowsN (L:List (List Int)) (tl:List Int) (base gl cl:Nat) (vals:List Value) (vt:Value) (w:World) (m:Nat) (hm:L.length=m+1) (hown:w.ownsRow base 34 1 (.slice (some ⟨gl,0,none⟩) (m+1) cl) (m+1) vals) (hat:LnAt w vals L) (ht:Sl .i32 w vt tl) (hn:m+1<=1048577) (hs:∀l∈L,l.length<=1048576) (htl:tl.length<=1048576):
  Calls Tryz.prog 34 #[.slice (some ⟨gl,0,none⟩) (m+1) cl,vt] w fun e w'=>∃vs,e= .returned (.slice (some ⟨w.heap.size,0,none⟩) (m+1) (m+1))∧OwG 104 w' w.heap.size w'.heap.size (.slice (some ⟨w.heap.size,0,none⟩) (m+1) (m+1)) vs (plR L tl)∧Below w.heap.size w w':=by
 obtain⟨i0,hi,hz0,hz1,hz2⟩:=info_parts Tryz.infoGB;have hgl:gl<w.heap.size:=(hown.lt gl rfl).2
 have hcl:m+1<=cl∧cl<=maxLen:=by
  rcases hown.2 with ⟨q,_⟩ | ⟨g',cap',cur,q,_,_,c1,c2,_⟩
  ·cases q
  simp only [Value.slice.injEq,Option.some.injEq,Addr.mk.injEq,and_true,true_and]at q;obtain⟨_,rfl⟩:=q;exact⟨c1,c2⟩
 have VC:=hide (fun(k:Nat) (hk:k<m+1)=>(show ∃v l,L[k]? =some l∧Sl .i32 w v l∧w.cell? ⟨gl,k,none⟩=some v from by
  have hv:k<vals.length:=by rw [hat.len,hm];exact hk
  have hl:k<L.length:=by rw [hm];exact hk
  exact⟨vals[k],L[k],by simp [hl],hat.at_ k _ _ (by simp [hv]) (by simp [hl]),by rw [hown.cellAt k (by omega)];simp [hv]⟩))
 have HT:=hide ht
 have HS:=hide (fun(k:Nat) (l:List Int) (h:L[k]? =some l)=>hs l (List.mem_of_getElem? h))
 have tv:∃at_ nt ct,vt= .slice at_ nt ct:=by
  rcases ht with ⟨q,_⟩ | ⟨_,_,_,q,_⟩<;>exact⟨_,_,_,q⟩
 obtain⟨at_,nt,ct,rfl⟩:=tv;have HM:=hide hm;obtain⟨c1,c2⟩:=hcl;unfold maxLen at c2;have DL:=hide (YY hm);have LG:=hide (last_get hm);clear hown hat ht hs hm;go_enter Tryz.func34,Tryz.ntmps34
 go_wp2_with (at_make;refine wpList_make_full _ rfl _ _ 99 rfl w.heap.size 104 i0 (.agg #[.slice none 0 0,.int .i64 0,.int .i64 0]) 3 Tryz.underlying99 hi hz0 hz1 .i64 .i64 _ _ (m+1) rfl rfl (by omega) (by omega) (by rw [hz2];omega) (by unfold maxLen;omega) lR ?_;intro w1 hown hgrow)
 rw [made_grs]at hown
 have B1:=hide ((Below.refl w.heap.size w).grown hgrow lR (fun k hk=>by cases hk))
 have G1:=hide (show OwG 104 w1 w.heap.size w1.heap.size (.slice (some ⟨w.heap.size,0,none⟩) (m+1) (m+1)) (List.replicate (m+1) (.slice none 0 0)) (List.replicate (m+1) nilG)from⟨by rw [List.length_replicate];exact hown,fun q hq=>(hown.lt q hq).2,Nest.nils _ _ _ _⟩)
 clear hown hgrow
 go_loopw [19] (fun i wr=>∃k:Nat,k<=m∧i= .int .i64 k∧Below w.heap.size w wr∧∃us:List Value,us.length=k∧OwG 104 wr w.heap.size wr.heap.size (.slice (some ⟨w.heap.size,0,none⟩) (m+1) (m+1)) (us++List.replicate (m+1 - k) (.slice none 0 0)) ((L.take k).map plG++List.replicate (m+1 - k) nilG))
  (fun i _=>m - (intOf i).toNat)
 case atStart=>exact⟨0,Nat.zero_le _,rfl,B1.out,[],rfl,by simpa using G1.out⟩
 obtain⟨k,hk,rfl,hb,us,hus,hG⟩:=hrel;have HB:=hide hb;have hsz:=hb.size
 obtain⟨v,l,hl,hsl,hc0⟩:=VC.out k (by omega)
 have hc:=(hb.cell (p:=⟨gl,k,none⟩) hgl).trans hc0;have hlen:=HS.out k l hl
 have hLk:(L.take k).length=k:=by rw [List.length_take,HM.out];omega
 have hrep:∀ (β:Type) (x:β),List.replicate (m+1 - k) x=x::List.replicate (m+1 - (k+1)) x:=fun β x=>by rw [show m+1 - k=(m+1 - (k+1))+1 by omega,List.replicate_succ]
 rw [hrep,hrep]at hG
 have hn3:((L.take k).map plG++nilG::List.replicate (m+1 - (k+1)) nilG).length=m+1:=by simp only [List.length_append,List.length_map,hLk,List.length_cons,List.length_replicate];omega
 have SS:=hide (hsl.below hb);have GG:=hide hG;have N3:=hide hn3;have LK:=hide hLk;have US:=hide hus;have HL:=hide hl
 have sv:∃a n' c,v= .slice a n' c:=by
  rcases hsl with ⟨q,_⟩ | ⟨_,_,_,q,_⟩<;>exact⟨_,_,_,q⟩
 obtain⟨a,n',c,rfl⟩:=sv;have AA:=hide ((Below.refl wr.heap.size wr).alloc lR (.cells #[.slice a n' c] 34))
 have k0:(wr.alloc (.cells #[.slice a n' c] 34)).cell? ⟨wr.heap.size,0,none⟩=some (.slice a n' c):=by simp
 have hsa:(wr.alloc (.cells #[.slice a n' c] 34)).heap.size=wr.heap.size+1:=by simp
 by_cases hlt:k<m
 ·have CC:=hide (concat1 l _ _ _ (SS.out.below AA.out) (by rw [hsa];omega) k0 hlen)
  have hlt':(k:Int)<m:=by omega
  clear hG hb hc0 hsl hl hus hLk hn3 hrep;go_wp2_with fail;generalize wr.alloc (.cells #[.slice a n' c] 34)=wa at *;refine CC.out.mono ?_;rintro e w2 ⟨u,rfl,ho2,hb2⟩;obtain⟨au,cu,rfl⟩:=jT ho2;have O2:=hide ho2
  have BB2:=hide (AA.out.trans (hb2.mono (by omega)))
  have U2:=hide (fun q (hq:(Value.slice au l.length cu).ownBlock=some q)=>(ho2.lt q hq))
  clear ho2 hb2 CC;go_wp2_with fail;refine(plain32N au l.length cu w2).mono ?_;rintro e w3 ⟨rfl,hb3⟩;have s23:=hb3.size;have s2:=BB2.out.size
  have BB3:=hide (BB2.out.trans (hb3.mono (by omega)))
  have O3:=zF O2.out hb3 lR
  have G3:=GG.out.frame (w':=w3) (fun q _ hq=>BB3.out.block q hq)
  have ST:=G3.store (hi':=w3.heap.size) l.length l.length N3.out (by rw [US.out,List.length_map,LK.out]) (zG O3 (by omega)) (fun q hq=>by have:=U2.out q hq;omega) (fun q hq=>by have:=U2.out q hq;omega) (by omega) (by decide)
  have kx:=G3.cells N3.out (i:=k) (jr (by rw [List.length_map,LK.out])) (jr US.out)
  have hr:=G3.row;rw [N3.out]at hr;have f0:w3.frozen? ⟨w.heap.size,k*3,none⟩=false:=hr.frozenAt _;have f1:w3.frozen? ⟨w.heap.size,k*3+1,none⟩=false:=hr.frozenAt _;have f2:w3.frozen? ⟨w.heap.size,k*3+2,none⟩=false:=hr.frozenAt _;obtain⟨p0,p1,p2⟩:=kx;rw [List.length_map,LK.out]at ST;have S4:=hide ST.1
  have B4:=hide ((HB.out.trans (BB3.out.mono hsz)).grown ST.2 (by omega) (fun q hq=>by cases hq;exact lR))
  clear hb3 O3 G3 ST hr GG;go_wp2;go_roundw
  case rel=>
   refine⟨k+1,by omega,by go_num,B4.out,us++ [.slice au l.length cu],by simp [US.out],?_⟩
   rw [List.take_add_one,HL.out];have:=S4.out;simp only [Option.toList_some,List.map_append,List.map_cons,List.map_nil,List.append_assoc,List.cons_append,List.nil_append]
   exact this.mono lR (by simp)
  simp [intOf];omega
 obtain rfl:k=m:=by omega
 have hlt':¬ (k:Int)<k:=by omega
 have AA2:=hide ((Below.refl wr.heap.size wr).alloc lR (.cells #[.slice a n' c,.slice at_ nt ct] 34))
 have k0':(wr.alloc (.cells #[.slice a n' c,.slice at_ nt ct] 34)).cell? ⟨wr.heap.size,0,none⟩=some (.slice a n' c):=by simp
 have k1':(wr.alloc (.cells #[.slice a n' c,.slice at_ nt ct] 34)).cell? ⟨wr.heap.size,1,none⟩=some (.slice at_ nt ct):=by simp
 have hsa2:(wr.alloc (.cells #[.slice a n' c,.slice at_ nt ct] 34)).heap.size=wr.heap.size+1:=by simp
 have cc:=YM l tl _ _ _ _ (SS.out.below AA2.out) ((HT.out.below HB.out).below AA2.out) (by rw [hsa2];omega) k0' k1' hlen htl
 generalize hX:l++tl=X at cc;have HX:=hide hX;have CC:=hide cc;clear cc hX;clear hG hb hc0 hsl hl hus hLk hn3 hrep k0 hsa AA;go_wp2_with fail;generalize wr.alloc (.cells #[.slice a n' c,.slice at_ nt ct] 34)=wa at *;refine CC.out.mono ?_;rintro e w2 ⟨u,rfl,ho2,hb2⟩
 obtain⟨au,cu,rfl⟩:=jT (show o32 w2 _ u X from ho2)
 have O2:=hide (show o32 w2 _ _ X from ho2)
 have BB2:=hide (AA2.out.trans (hb2.mono (by omega)))
 have U2:=hide (fun q (hq:(Value.slice au X.length cu).ownBlock=some q)=>(ho2.lt q hq))
 clear ho2 hb2 CC;go_wp2_with fail;refine(plain32N au X.length cu w2).mono ?_;rintro e w3 ⟨rfl,hb3⟩;have s23:=hb3.size;have s2:=BB2.out.size
 have BB3:=hide (BB2.out.trans (hb3.mono (by omega)))
 have O3:=zF O2.out hb3 lR
 have G3:=GG.out.frame (w':=w3) (fun q _ hq=>BB3.out.block q hq)
 have ST:=G3.store (hi':=w3.heap.size) X.length X.length N3.out (by rw [US.out,List.length_map,LK.out]) (zG O3 (by omega)) (fun q hq=>by have:=U2.out q hq;omega) (fun q hq=>by have:=U2.out q hq;omega) (by omega) (by decide)
 have kx:=G3.cells N3.out (i:=k) (jr (by rw [List.length_map,LK.out])) (jr US.out)
 have hr:=G3.row;rw [N3.out]at hr;have f0:w3.frozen? ⟨w.heap.size,k*3,none⟩=false:=hr.frozenAt _;have f1:w3.frozen? ⟨w.heap.size,k*3+1,none⟩=false:=hr.frozenAt _;have f2:w3.frozen? ⟨w.heap.size,k*3+2,none⟩=false:=hr.frozenAt _;obtain⟨p0,p1,p2⟩:=kx;rw [List.length_map,LK.out]at ST;have S4:=hide ST.1
 have B4:=hide ((HB.out.trans (BB3.out.mono hsz)).grown ST.2 (by omega) (fun q hq=>by cases hq;exact lR))
 generalize hLT:X.length=lt at *;have HLT:=hide hLT;clear hb3 O3 G3 ST hr GG hLT;go_wp2;go_ret;refine⟨us++ [.slice au lt cu],rfl,?_,B4.out⟩;have h9:=S4.out
 rw [show k+1 - (k+1)=0 by omega]at h9
 have e1:L.getLastD []=l:=by have:=LG.out;rw [HL.out]at this;exact(Option.some.inj this).symm
 have e2:plR L tl=(L.take k).map plG++ [⟨X,lt,lt⟩]:=by rw [plR,DL.out,e1,HX.out];simp only [plG,HLT.out]
 rw [e2]
 exact h9.mono lR (by simp)
theorem plR_nil {L:List (List Int)} (h:L≠ []):plR L []=L.map plG:=by
 have e:=List.dropLast_concat_getLast h
 have e2:L.getLastD []=L.getLast h:=by rw [List.getLastD_eq_getLast?,List.getLast?_eq_some_getLast h];rfl
 rw [plR,List.append_nil,e2]
 conv=>rhs;rw [<- e]
 simp
theorem loadL (zs:List Int) (b o cap:Nat) (w:World) (hc:∀i,i<zs.length->w.cell? ⟨b,o+i,none⟩=some (.int .i32 (zs.getD i 0))) (hb:b<w.heap.size) (hn:zs.length<=8192) (hcap:zs.length<=cap) (hm:cap<=maxLen):
  Calls Tryz.prog 20 #[.slice (some ⟨b,o,none⟩) zs.length cap] w fun e w'=>∃c g sv vs,e= .returned (.pointer (some ⟨c,0,none⟩))∧w.heap.size<=c∧c<w'.heap.size∧LCr w' w.heap.size w'.heap.size c (.slice (some ⟨g,0,none⟩) (lns zs).length (lns zs).length) sv vs ((lns zs).map plG) (lns zs).length (lns zs).length zs.length [0]∧Below w.heap.size w w':=by
 have CU:=hide (cutL zs b o cap w hc hb (by omega) hcap hm)
 have LL:=Zm zs
 have LE:=hide (fun l (h:l∈lns zs)=>JL h)
 have NE:=hide (lns_ne zs);generalize hL:lns zs=L at *
 obtain⟨m,hmL⟩:∃m,L.length=m+1:=⟨L.length - 1,by omega⟩
 generalize hN:zs.length=n at *;have HM:=hide hmL;rw [hmL]at LL CU |-;clear hL hN hmL hc;go_enter Tryz.func20,Tryz.ntmps20;go_wp2_with fail;refine CU.out.mono ?_;rintro e w1 ⟨v1,vals,rfl,ho1,hat1,hb1⟩
 rcases ho1.2 with ⟨_,q⟩ | ⟨gl,cl,cur,rfl,_⟩
 ·omega
 have PR:=hide (plainRowsN L [] w.heap.size gl cl vals (.slice none 0 0) w1 m HM.out ho1 (hat1.below hb1) (.inl ⟨rfl,rfl⟩) (by omega) (fun l hl=>by have:=LE.out l hl;omega) (by simp))
 have B1:=hide hb1;have s1:=hb1.size;clear ho1 hat1 hb1 CU;go_wp2_with fail;refine PR.out.mono ?_;rintro e w2 ⟨vs,rfl,hG2,hb2⟩;have G2:=hide hG2;have B2:=hide (B1.out.trans (hb2.mono s1));have s2:=hb2.size;clear hG2 hb2 PR;go_wp2_with fail;refine(plainRN _ _ _ w2).mono ?_;rintro e w3 ⟨rfl,hb3⟩
 have G3:=hide (G2.out.frame (w':=w3) (fun q _ hq=>hb3.block q hq))
 have B3:=hide (B2.out.trans (hb3.mono (by omega)))
 have s3:=hb3.size;clear hb3 G2;have W4:=hide ((Below.refl w3.heap.size w3).alloc lR (.cells #[.int .i64 0] 3))
 have W5:=hide (W4.out.alloc (by simp) (.cells #[.slice (some ⟨w1.heap.size,0,none⟩) (m+1) (m+1),.int .i64 ((m+1:Nat):Int),.int .i64 ((m+1:Nat):Int),.int .i64 (n:Int),.slice (some ⟨w3.heap.size,0,none⟩) 1 1] 109))
 go_wp2;go_ret;refine⟨_,w1.heap.size,.slice (some ⟨w3.heap.size,0,none⟩) 1 1,vs,rfl,?_,?_,⟨?_,?_,?_,?_⟩,?_⟩
 ·first | omega | (simp;omega)
 ·first | omega | simp
 ·have h9:=heap_alloc_new (w3.alloc (.cells #[.int .i64 0] 3)) (.cells #[.slice (some ⟨w1.heap.size,0,none⟩) (m+1) (m+1),.int .i64 ((m+1:Nat):Int),.int .i64 ((m+1:Nat):Int),.int .i64 (n:Int),.slice (some ⟨w3.heap.size,0,none⟩) 1 1] 109)
  first | exact h9 | simpa using h9
 ·rw [<- plR_nil NE.out]
  exact(G3.out.frame (fun q _ hq=>W5.out.block q (by omega))).mono (by omega) (by simp;omega)
 ·exact(World.ownsRow_lit w3 #[.int .i64 0] 1 (by omega) (by unfold maxLen;omega) rfl).alloc _
 ·intro q hq
  simp only [Value.ownBlock,Option.some.injEq]at hq;simp;omega
 exact B3.out.trans (W5.out.mono (by omega))
theorem jn_lns:∀zs:List Int,jn (lns zs)=zs
 | []=>by simp [lns,jn,jt]
 | c::zs=>by
  have ih:=jn_lns zs;have he:=Zl zs;rw [he]at ih;simp only [jn]at ih
  by_cases hc:c=10
  ·subst hc
   rw [Jz,he];simp only [jn,jt,List.nil_append];rw [ih]
  simp only [lns,if_neg hc,jn,List.cons_append];rw [ih]
theorem Jn:∀ (zs:List Int) (l:List Int),l∈lns zs->10∉l
 | [],l,h=>by simp [lns]at h;subst h;simp
 | c::zs,l,h=>by
  have ih:=Jn zs;have he:=Zl zs;rw [he]at ih
  by_cases hc:c=10
  ·subst hc
   rw [Jz,he]at h
   rcases List.mem_cons.1 h with h | h
   ·subst h;simp
   exact ih l h
  simp only [lns,if_neg hc]at h
  rcases List.mem_cons.1 h with h | h
  ·subst h
   intro hm
   rcases List.mem_cons.1 hm with hm | hm
   ·exact hc hm.symm
   exact ih _ (by simp) hm
  exact ih l (List.mem_cons_of_mem _ h)
theorem KW (l:List Int):grT (plG l)=l:=by
 simp [grT,plG,gtext]
theorem KY (L:List (List Int)):(L.map plG).map grT=L:=by
 rw [List.map_map]
 conv=>rhs;rw [<- List.map_id L]
 exact List.map_congr_left (fun l _=>KW l)
end Go.Proofs.YtibbhecojkehfaaGreatDoor
