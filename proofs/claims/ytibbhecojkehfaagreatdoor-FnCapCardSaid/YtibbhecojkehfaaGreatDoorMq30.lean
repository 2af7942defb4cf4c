import Derived.Test.YtibbhecojkehfaaGreatDoorMq29
import Derived.Test.YtibbhecojkehfaaGreatDoorMq15
set_option linter.all false
set_option maxRecDepth 100000
set_option maxHeartbeats 16000000
namespace Go.Proofs.YtibbhecojkehfaaGreatDoor
open Go Go.RowKit
theorem remCP:∀ (w:World) (Z F:Nat->Prop) c n tx (off m:Nat) aT ct,CrP w Z F c n tx->(∀q,F q->q<w.heap.size)->(∀q,Z q->F q)->0<m->off+m<=tx.length->
  Calls Tryz.prog 190 #[.pointer (some ⟨c,0,none⟩),.int .i64 off,.slice aT m ct] w fun e w'=>e= .returned (.tuple #[])∧CrP w' Z F c n (delT tx off m)∧ChgP w w' (fun q=>¬F q):=by
 rintro w Z F c n tx off m aT ct ⟨ob,sv,S,T,u,bs,h⟩ hF hZ h0 hof
 have hrn:T.rns=(tx.length:Int):=by rw [<- AT.tx_len h.wp,h.te]
 have hSn:S≠ []:=fun e=>by
  subst e;have h9:=h.te;have h8:=AT.tx_len h.wp;have hw:=(zQ [] T).1 h.wp
  cases hT:T.flat with
  | nil=>rw [AT.rns_lsum,hT]at hrn;simp [lsum]at hrn;omega
  | cons p r=>
   have h7:=hw p (by rw [hT];simp)
   have h6:=zp h.ok p (by rw [hT];simp)
   obtain⟨g1,g2,g3,_⟩:=h7;simp at g3;omega
 obtain⟨b,o,cap,rfl,hbb,hbc,hrt,hlb,hc1,hc2⟩:∃b o cap,sv= .slice (some ⟨b,o,none⟩) S.length cap∧b∉bs∧b≠c∧At32' w b o S∧b<w.heap.size∧S.length<=cap∧cap<=maxLen:=by
  rcases h.ps.st with ⟨h1,h2⟩ | ⟨h1,b,o,h2,h3⟩
  ·rcases h1.2 with ⟨e,e0⟩ | ⟨g',cap',cur,e,_,_,e3,e4,_⟩
   ·exact absurd (List.eq_nil_of_length_eq_zero e0) hSn
   subst e
   have h4:=h.ps.sb g' (by rw [<- h2];rfl)
   exact⟨g',0,cap',rfl,h4.1,h4.2,fun i hi=>by rw [Nat.zero_add];exact zv h1 i hi,(h1.lt g' rfl).2,e3,e4⟩
  have hz:=h.sh h1 b o _ _ h2;have hf:=hZ b hz
  exact⟨b,o,_,h2,fun h9=>h.off b (.inr (.inr h9)) hf,fun e=>h.off b (.inl e) hf,h3,hF b hf,lR,by have:=h.ps.n;unfold maxLen;omega⟩
 have hPM:PM w 0 c b o cap S T u bs:=⟨h.ps.k,h.ps.t,h.ps.nd,h.ps.cb,hbb,hbc,hrt,hlb,hc1,hc2,h.ps.n⟩
 refine(removeC S T u bs 0 c b o cap m ct aT off w hPM h.ok h.bal h.wp (by omega) (by omega) (Nat.zero_le _)).mono ?_
 rintro e w' ⟨rfl,u',bs',hP,hsub,hC⟩
 obtain⟨d1,d2,d3,d4⟩:=delP_all h.ok h.bal h.wp h.ps.n (show(0:Int)<=(off:Nat)by omega) (show((off:Nat):Int)<=(off:Nat)+(m:Nat)by omega) (by omega)
 have htx:=delP_tx h.ok h.bal h.wp h.ps.n (show(0:Int)<=(off:Nat)by omega) (show((off:Nat):Int)<=(off:Nat)+(m:Nat)by omega) (by omega)
 have hcF:∀q,q∈c::bs->¬F q:=fun q hq=>by
  rcases List.mem_cons.1 hq with rfl | hq
  ·exact h.off _ (.inl rfl)
  exact h.off q (.inr (.inr hq))
 have hbk:w'.heap[b]? =w.heap[b]?:=hC.block b hlb (fun h9=>by
  rcases List.mem_cons.1 h9 with h8 | h8
  ·exact hbc h8
  exact hbb h8)
 refine⟨rfl,⟨ob,_,S,_,u',bs',⟨⟨hP.k,hP.t,hP.nd,hP.cb,?_,?_,hP.n⟩,d1,d2,d3,?_,h.ns,?_,?_,h.sh⟩⟩,?_⟩
 ·rcases h.ps.st with ⟨h1,h2⟩ | ⟨h1,b2,o2,h2,h3⟩
  ·exact .inl ⟨zB h1 (fun q hq=>by simp only [Value.ownBlock,Option.some.injEq]at hq;subst hq;exact hbk),h2⟩
  refine .inr ⟨h1,b2,o2,h2,fun i hi=>?_⟩
  simp only [Value.slice.injEq,Option.some.injEq,Addr.mk.injEq]at h2;obtain⟨⟨rfl,rfl,_⟩,_⟩:=h2;exact(World.cell?_of_block (a:=⟨b,o+i,none⟩) hbk).trans (h3 i hi)
 ·intro q hq
  have h9:=h.ps.sb q hq
  refine⟨fun h8=>?_,h9.2⟩
  rcases hsub q h8 with h7 | h7
  ·exact h9.1 h7
  have:=h.lt (.inr (.inl hq));omega
 ·rw [htx,h.te]
  unfold delT
  congr 1
 ·rw [YQ hof];have:=h.bd;omega
 ·intro q hq hf
  rcases hq with rfl | hq | hq
  ·exact h.off _ (.inl rfl) hf
  ·exact h.off q (.inr (.inl hq)) hf
  rcases hsub q hq with h9 | h9
  ·exact h.off q (.inr (.inr h9)) hf
  have:=hF q hf;omega
 exact⟨hC.os,hC.tape,hC.output,hC.size,fun q hq hn=>hC.block q hq (fun h9=>hn (hcF q h9))⟩
end Go.Proofs.YtibbhecojkehfaaGreatDoor
namespace Go.Proofs.YtibbhecojkehfaaGreatDoor
open Go Go.RowKit Go.Sort
structure RemM (K:Core) where
 fRem:FuncId
 mRem : ∀ c w, (Go.method 450 K.ty (.pointer c) "loop.example/s01685/impl.remove").run Tryz.prog w = .ok (fRem, .pointer c) w
 eRem:∀args w,(callFunc fRem args).run Tryz.prog w= .ok (.enter fRem args) w
def RemK (K:Core) (M:RemM K) (P:List Int->Prop):Prop:=∀ (w:World) Z F c n tx (off m:Nat) aT ct,K.Cr w Z F c n tx->(∀q,F q->q<w.heap.size)->(∀q,Z q->F q)->P tx->0<m->off+m<=tx.length->
 Calls Tryz.prog M.fRem #[.pointer (some ⟨c,0,none⟩),.int .i64 off,.slice aT m ct] w fun e w'=>e= .returned (.tuple #[])∧K.Cr w' Z F c n (delT tx off m)∧ChgP w w' (fun q=>¬F q)
def RML:RemM KL:=⟨225,fun c w=>by kernel_rfl,Go.Proofs.enters_of Tryz.func225 (by kernel_rfl) rfl⟩
def RMP:RemM KP:=⟨190,fun c w=>by kernel_rfl,Go.Proofs.enters_of Tryz.func190 (by kernel_rfl) rfl⟩
theorem remKL:RemK KL RML (fun tx=>10∉tx):=fun w Z F c n tx off m aT ct h h1 _ h3 _ h5=>remL w Z F c n tx off m aT ct h h1 h3 h5
theorem remKP:RemK KP RMP (fun _=>True):=fun w Z F c n tx off m aT ct h h1 h2 _ h4 h5=>remCP w Z F c n tx off m aT ct h h1 h2 h4 h5
theorem pulledL (m:Mk) (off n:Int) (w:World) (h0:0<=m.2.1∧m.2.1<=8192) (h1:0<=n∧n<=8192) (h2:0<=off∧off<=8192):
  Calls Tryz.prog 142 #[mkA m,.int .i64 off,.int .i64 n] w fun e w'=>e= .returned (.int .i64 (pullF off n m))∧Below w.heap.size w w':=by
 unfold pullF mkA
 by_cases a:m.2.1 > off
 ·rw [if_pos a]
  have a':off<m.2.1:=a;generalize hmx:max off (m.2.1 - n)=mx;have HMX:=hide hmx
  have hw:IntKind.i64.wrap (m.2.1 - n)=m.2.1 - n:=by rw [IntKind.wrap_i64];omega
  by_cases b:off<m.2.1 - n
  ·have e:mx=m.2.1 - n:=by rw [<- hmx];omega
   clear hmx;subst e;go_enter Tryz.func142,Tryz.ntmps142;go_wp2
   all_goals (go_ret;exact⟨by first | rfl | (simp;omega),(Below.refl _ _).alloc lR _⟩)
  have e:mx=off:=by rw [<- hmx];omega
  clear hmx;subst e;go_enter Tryz.func142,Tryz.ntmps142;go_wp2
  all_goals (go_ret;exact⟨by first | rfl | (simp;omega),(Below.refl _ _).alloc lR _⟩)
 rw [if_neg a];have a':¬off<m.2.1:=a;go_enter Tryz.func142,Tryz.ntmps142;go_wp2;go_ret;exact⟨rfl,(Below.refl _ _).alloc lR _⟩
theorem pullClos (xs:List Mk) (off n:Int) (b1 b2 B:Nat) (w:World) (h1:b1<B) (h2:b2<B) (c1:w.cell? ⟨b1,0,none⟩=some (.int .i64 off)) (c2:w.cell? ⟨b2,0,none⟩=some (.int .i64 n)) (hB:B<=w.heap.size) (hx:∀x∈xs,0<=x.2.1∧x.2.1<=8192) (hn:0<=n∧n<=8192) (ho:0<=off∧off<=8192):
  Tells 141 #[.pointer (some ⟨b1,0,none⟩),.pointer (some ⟨b2,0,none⟩)] (pullF off n) xs B w:=by
 intro W x hxm hb
 have HP:=hide (fun W=>pulledL x off n W (hx x hxm) hn ho)
 have hs:=hb.size;have BA:=hide ((Below.refl W.heap.size W).alloc lR (.cells #[.int .i64 x.1,.int .i64 x.2.1,.int .i64 x.2.2] 208))
 have e1:=(BA.out.cell (p:=⟨b1,0,none⟩) (by show b1<_;omega)).trans ((hb.cell (p:=⟨b1,0,none⟩) h1).trans c1)
 have e2:=(BA.out.cell (p:=⟨b2,0,none⟩) (by show b2<_;omega)).trans ((hb.cell (p:=⟨b2,0,none⟩) h2).trans c2)
 have sA:W.heap.size<=(W.alloc (.cells #[.int .i64 x.1,.int .i64 x.2.1,.int .i64 x.2.2] 208)).heap.size:=by simp
 have n1:¬b1=W.heap.size:=by omega
 have n2:¬b2=W.heap.size:=by omega
 generalize pullF off n x=r at *;clear hb c1 c2;unfold mkA at *
 show Calls Tryz.prog 141 #[.agg #[.int .i64 x.1,.int .i64 x.2.1,.int .i64 x.2.2],.pointer (some ⟨b1,0,none⟩),.pointer (some ⟨b2,0,none⟩)] W _
 go_enter Tryz.func141,Tryz.ntmps141;go_wp2_with fail;generalize W.alloc (.cells #[.int .i64 x.1,.int .i64 x.2.1,.int .i64 x.2.2] 208)=w0 at *;refine(HP.out _).mono ?_;rintro e w1 ⟨rfl,hb1⟩;have B1:=hide (BA.out.trans (hb1.mono sA));clear hb1;go_wp2;go_ret;exact⟨rfl,B1.out⟩
theorem Xp (r:List Value) (tt:TypeId) (htt:tt≠208) (tb:Nat) (off n:Int) (xs:List Mk) (v:Value) (base:Nat) (w:World) (ht:TbE r tt w tb v) (h:OwM w base v xs) (hv:Vd xs) (hn:0<=n∧n<=8192) (hof:0<=off∧off<=8192):
  Calls Tryz.prog 125 #[.pointer (some ⟨tb,0,none⟩),.int .i64 off,.int .i64 n] w fun e w'=>e= .returned (.tuple #[])∧∃v' x,Below w.heap.size w x∧w'=x.setCell ⟨tb,0,none⟩ v'∧TbE r tt w' tb v'∧OwM w' w.heap.size v' (srt (xs.map (mov (pullF off n)))):=by
 have hlt:=ht.lt
 have B0:=hide (((Below.refl w.heap.size w).alloc lR (.cells #[.int .i64 off] 3)).alloc (by simp) (.cells #[.int .i64 n] 3))
 have c1:((w.alloc (.cells #[.int .i64 off] 3)).alloc (.cells #[.int .i64 n] 3)).cell? ⟨w.heap.size,0,none⟩=some (.int .i64 off):=by
  rw [World.cell?_alloc_lt _ _ ⟨w.heap.size,0,none⟩ (by simp),World.cell?_alloc_at _ _ _ _ rfl];rfl
 have c2:((w.alloc (.cells #[.int .i64 off] 3)).alloc (.cells #[.int .i64 n] 3)).cell? ⟨w.heap.size+1,0,none⟩=some (.int .i64 n):=by
  rw [World.cell?_alloc_at _ _ _ _ (by simp)];rfl
 have hs0:((w.alloc (.cells #[.int .i64 off] 3)).alloc (.cells #[.int .i64 n] 3)).heap.size=w.heap.size+2:=by simp
 have HM:=hide (jm r tt htt tb 141 #[.pointer (some ⟨w.heap.size,0,none⟩),.pointer (some ⟨w.heap.size+1,0,none⟩)] (pullF off n) xs v base _ (ht.below B0.out hlt) (h.below B0.out lR) (by have:=hv.1;omega) (hv.2.2.imp fun q=>q.2) (Go.Proofs.enters_of Tryz.func141 (by kernel_rfl) rfl)
  (pullClos xs off n w.heap.size (w.heap.size+1) _ _ (by omega) (by omega) c1 c2 lR (fun x hx=>by have:=(hv.2.1 x hx).2;simpa [inO]using this) hn hof))
 clear h ht c1 c2;go_enter Tryz.func125,Tryz.ntmps125;go_wp2_with fail;generalize (w.alloc (.cells #[.int .i64 off] 3)).alloc (.cells #[.int .i64 n] 3)=w0 at *;refine HM.out.mono ?_;rintro e w1 ⟨rfl,v1,x1,hb1,hw1,ht1,ho1⟩;have T1:=hide ht1
 have O1:=hide (ho1.base (base':=w.heap.size) (by omega))
 have HB1:=hide hb1;have HW1:=hide hw1;clear ht1 ho1 hb1 hw1;go_wp2;go_end0
 exact⟨rfl,v1,x1,B0.out.trans (HB1.out.mono (by omega)),HW1.out,T1.out,O1.out⟩
def settF (ks:List Mk) (m:Mk):Int:=if 0<=idxMk m.1 ks 0 then(ks.getD (idxMk m.1 ks 0).toNat (0,0,0)).2.1 else m.2.1
theorem settClos (xs ks:List Mk) (kv:Value) (tb C B:Nat) (w:World) (h1:tb<B) (ht:Tb w tb kv) (hk:RdM C w kv ks) (hC:C<=B) (hB:B<=w.heap.size) (hn:ks.length<=1048576):
  Tells 127 #[.pointer (some ⟨tb,0,none⟩)] (settF ks) xs B w:=by
 intro W x hxm hb;have hs:=hb.size;have BA:=hide ((Below.refl W.heap.size W).alloc lR (.cells #[.int .i64 x.1,.int .i64 x.2.1,.int .i64 x.2.2] 208))
 have T1:=hide ((ht.below hb h1).below BA.out (by omega))
 have R1:=hide ((hk.below hb hC).below BA.out (by omega))
 have sA:(W.alloc (.cells #[.int .i64 x.1,.int .i64 x.2.1,.int .i64 x.2.2] 208)).heap.size=W.heap.size+1:=by simp
 have HR:=hide (rankMkL C tb ks kv x.1 _ T1.out R1.out (by omega) hn)
 have hk0:(W.alloc (.cells #[.int .i64 x.1,.int .i64 x.2.1,.int .i64 x.2.2] 208)).heap[W.heap.size]? =some (.cells #[.int .i64 x.1,.int .i64 x.2.1,.int .i64 x.2.2] 208 (0,0)):=heap_alloc_new _ _;have hpos:=idx_lt x.1 ks 0;clear hb ht hk;unfold settF;unfold mkA at *
 show Calls Tryz.prog 127 #[.agg #[.int .i64 x.1,.int .i64 x.2.1,.int .i64 x.2.2],.pointer (some ⟨tb,0,none⟩)] W _
 by_cases hq:0<=idxMk x.1 ks 0
 ·rw [if_pos hq]
  obtain⟨j,y,hj,hy⟩:=hpos hq;rw [Nat.zero_add]at hj;have hjn:j<ks.length:=(List.getElem?_eq_some_iff.1 hy).1
  have hgd:ks.getD (idxMk x.1 ks 0).toNat (0,0,0)=y:=by rw [hj,Int.toNat_natCast,List.getD_eq_getElem?_getD,hy];rfl
  rw [hgd];rw [hj]at HR
  obtain⟨b,off,cap,rfl,hp,hb2,hc⟩:=R1.out.at (by intro e;subst e;simp at hjn)
  obtain⟨a0,a1,a2⟩:=hc j y hy;generalize hN:ks.length=n at *;unfold maxLen at hp
  have hjz:(j:Int)<(n:Int):=by omega
  have hj0:(0:Int)<=(j:Int):=by omega
  have HA:=hide a1;clear hpos hgd hy hj hc a0 a1 a2 hN hq;go_enter Tryz.func127,Tryz.ntmps127;go_wp2_with fail;generalize W.alloc (.cells #[.int .i64 x.1,.int .i64 x.2.1,.int .i64 x.2.2] 208)=w0 at *;refine HR.out.mono ?_;rintro e w1 ⟨rfl,hb1⟩
  have B1:=hide (BA.out.trans (hb1.mono (by omega)))
  have c:=(T1.out.below hb1 (by omega)).c
  have e1:=(hb1.cell (p:=⟨b,off+j*3+1,none⟩) (by show b<_;omega)).trans HA.out
  clear hb1 hk0 HR T1 R1;go_wp2;go_ret;exact⟨rfl,B1.out⟩
 rw [if_neg hq];generalize idxMk x.1 ks 0=r at *;clear hpos;go_enter Tryz.func127,Tryz.ntmps127;go_wp2_with fail;generalize W.alloc (.cells #[.int .i64 x.1,.int .i64 x.2.1,.int .i64 x.2.2] 208)=w0 at *;refine HR.out.mono ?_;rintro e w1 ⟨rfl,hb1⟩
 have B1:=hide (BA.out.trans (hb1.mono (by omega)))
 have g0:=(hb1.block W.heap.size (by omega)).trans hk0
 have k1:w1.cell? ⟨W.heap.size,1,none⟩=some (.int .i64 x.2.1):=by rw [cell_of_row w1 _ 1 _ _ _ g0];rfl
 clear hb1 hk0 HR T1 R1 g0;go_wp2;go_ret;exact⟨rfl,B1.out⟩
theorem JI (r:List Value) (tt:TypeId) (htt:tt≠208) (tb:Nat) (ks xs:List Mk) (kv v:Value) (base:Nat) (w:World) (ht:TbE r tt w tb v) (h:OwM w base v xs) (hv:Vd xs) (hk:OwM w 0 kv ks) (hn:ks.length<=1048576):
  Calls Tryz.prog 106 #[.pointer (some ⟨tb,0,none⟩),.agg #[kv]] w fun e w'=>e= .returned (.tuple #[])∧∃v' x,Below w.heap.size w x∧w'=x.setCell ⟨tb,0,none⟩ v'∧TbE r tt w' tb v'∧OwM w' w.heap.size v' (srt (xs.map (mov (settF ks)))):=by
 have hlt:=ht.lt;obtain⟨ak,ck,rfl⟩:=hk.val;have B0:=hide ((Below.refl w.heap.size w).alloc lR (.cells #[.slice ak ks.length ck] 124))
 have hs0:(w.alloc (.cells #[.slice ak ks.length ck] 124)).heap.size=w.heap.size+1:=by simp
 have HM:=hide (jm r tt htt tb 127 #[.pointer (some ⟨w.heap.size,0,none⟩)] (settF ks) xs v base _ (ht.below B0.out hlt) (h.below B0.out lR) (by have:=hv.1;omega) (hv.2.2.imp fun q=>q.2) (Go.Proofs.enters_of Tryz.func127 (by kernel_rfl) rfl)
  (settClos xs ks _ w.heap.size w.heap.size _ _ (by omega) (show Tb _ _ _ from heap_alloc_new _ _) (hk.rd.below B0.out lR) (by omega) lR hn))
 generalize ks.length=kn at *;clear h ht hk;go_enter Tryz.func106,Tryz.ntmps106;go_wp2_with fail;generalize w.alloc (.cells #[.slice ak kn ck] 124)=w0 at *;refine HM.out.mono ?_;rintro e w1 ⟨rfl,v1,x1,hb1,hw1,ht1,ho1⟩;have T1:=hide ht1
 have O1:=hide (ho1.base (base':=w.heap.size) (by omega))
 have HB1:=hide hb1;have HW1:=hide hw1;clear ht1 ho1 hb1 hw1;go_wp2;go_end0
 exact⟨rfl,v1,x1,B0.out.trans (HB1.out.mono (by omega)),HW1.out,T1.out,O1.out⟩
theorem carryO (K:Core) (RM:RemM K) (P:List Int->Prop) (hI:RemK K RM P) (Z FC:Nat->Prop) (E c n off:Nat) (tx ts:List Int) (kd:Int) (ms:List Mk) (mv dv uv:Value) (lim:Int) (op:Bool) (cv s0 s1 s2 s3 s4 s5 s6 s7:Value) (sp:Int) (a1 a2 a3:Option Addr) (l1 l2 l3 k1 k2 k3:Nat) (w:World)
  (h:EB16 w E mv dv uv lim op cv (.iface K.ty (.pointer (some ⟨c,0,none⟩))) s0 s1 s2 s3 s4 s5 s6 s7 sp) (hcr:K.Cr w Z FC c n tx) (hFl:∀q,FC q->q<w.heap.size) (hZF:∀q,Z q->FC q) (hE:FC E) (hEZ:¬Z E) (hT:HT w Z (.slice a1 l1 k1) ts) (hP:P tx) (h0:0<ts.length) (hof:off+ts.length<=tx.length) (hb:tx.length<=8192) (hM:OwM w 0 mv ms) (hMZ:∀q,mv.ownBlock=some q->Z q) (hV:Vd ms):
  Calls Tryz.prog 104 #[.pointer (some ⟨E,0,none⟩),.agg #[mRem,fPull],.agg #[.int .i64 kd,.int .i64 off,.slice a1 l1 k1,.slice a2 l2 k2,.slice a3 l3 k3]] w fun e w'=>e= .returned (.tuple #[])∧yO K w Z FC E c n (delT tx off ts.length) (srt (ms.map (mov (pullF off ts.length)))) dv uv lim op cv s0 s1 s2 s3 s4 s5 s6 s7 sp w':=by
 have hm:=RM.mRem;have he:=RM.eRem;have h6:=h.c.2.2.2.2.2.2.1;have hEl:=h.lt
 have hl1:l1=ts.length:=by
  obtain⟨b,ct,e,_⟩:=hT;simp only [Value.slice.injEq]at e;exact e.2.1
 have hl8:l1<=8192:=by omega
 have HL1:=hide hl1;clear hl1
 have KB:=hide (show((w.alloc (.cells #[mRem,fPull] 222)).alloc (.cells #[.int .i64 kd,.int .i64 off,.slice a1 l1 k1,.slice a2 l2 k2,.slice a3 l3 k3] 217)).heap[w.heap.size]? =some (.cells #[mRem,fPull] 222 (0,0))from(((Below.refl (w.alloc (.cells #[mRem,fPull] 222)).heap.size (w.alloc (.cells #[mRem,fPull] 222))).alloc lR _).block w.heap.size (by simp)).trans (heap_alloc_new _ _))
 have KR:=hide (show((w.alloc (.cells #[mRem,fPull] 222)).alloc (.cells #[.int .i64 kd,.int .i64 off,.slice a1 l1 k1,.slice a2 l2 k2,.slice a3 l3 k3] 217)).heap[w.heap.size+1]? =some (.cells #[.int .i64 kd,.int .i64 off,.slice a1 l1 k1,.slice a2 l2 k2,.slice a3 l3 k3] 217 (0,0))from by
  have h9:=heap_alloc_new (w.alloc (.cells #[mRem,fPull] 222)) (.cells #[.int .i64 kd,.int .i64 off,.slice a1 l1 k1,.slice a2 l2 k2,.slice a3 l3 k3] 217)
  rw [World.size_alloc]at h9;exact h9)
 have BB:=hide (bA (bA (Below.refl w.heap.size w) (.cells #[mRem,fPull] 222)) (.cells #[.int .i64 kd,.int .i64 off,.slice a1 l1 k1,.slice a2 l2 k2,.slice a3 l3 k3] 217));have H:=hide h;have HCR:=hide hcr;have HT:=hide hT;have HFL:=hide hFl;have HZF:=hide hZF;have HM:=hide hM;have HMZ:=hide hMZ;have HII:=hide hI
 have y2:w.heap.size+1<((w.alloc (.cells #[mRem,fPull] 222)).alloc (.cells #[.int .i64 kd,.int .i64 off,.slice a1 l1 k1,.slice a2 l2 k2,.slice a3 l3 k3] 217)).heap.size:=by simp
 clear h hcr hT hFl hZF hM hMZ hI;unfold mRem fPull at *;go_enter Tryz.func104,Tryz.ntmps104
 go_upto_region 1 with fail
 generalize (w.alloc (.cells #[.func (.methodOf 93 "loop.example/s01685/impl.remove") #[] #[], .func (.func 125) #[] #[]] 222)).alloc (.cells #[.int .i64 kd, .int .i64 off, .slice a1 l1 k1, .slice a2 l2 k2, .slice a3 l3 k3] 217) = wA at *
 have b0 : wA.cell? ⟨w.heap.size, 0, none⟩ = some (.func (.methodOf 93 "loop.example/s01685/impl.remove") #[] #[]) := by rw [cell_of_row _ _ 0 _ _ _ KB.out]; rfl
 have b1:wA.cell? ⟨w.heap.size+1,1,none⟩=some (.int .i64 off):=by rw [cell_of_row _ _ 1 _ _ _ KR.out];rfl
 have b2:wA.cell? ⟨w.heap.size+1,2,none⟩=some (.slice a1 l1 k1):=by rw [cell_of_row _ _ 2 _ _ _ KR.out];rfl
 have q0:=fun d os=>cell_regrown b0 d os
 have q1:=fun d os=>cell_regrown b1 d os
 have q2:=fun d os=>cell_regrown b2 d os
 have q6:=fun d os=>cell_regrown ((BB.out.cell (p:=⟨E,6,none⟩) hEl).trans h6) d os
 refine(wpIn_wide (n:=6)).1 ?_
 refine zJ 10 (by kernel_rfl) (by kernel_rfl) ?_
 simp only [List.take_succ_cons,List.take_zero,List.drop_succ_cons,List.drop_zero];clear b0 b1 b2
 repeat (refine wpQuietIn_step (fun _ _ _ _=>trivial) (fun K hK=>?_);go_simp;first | (refine hK _ ?_;clear hK K) | (apply Exists.intro;refine⟨fun _=>?_,hK _ ?_⟩;(fail);clear hK K))
 refine wpQuietIn_nil ?_;intro _ hw';obtain⟨⟨dq,osq⟩,hw''⟩:=hw';subst hw'';have BQ:=hide (below_regrown wA dq osq);clear q0 q1 q2 q6;generalize grow (redrawn wA dq) osq=wq at *;have yq:=BQ.out.size
 have B3:=hide (BB.out.trans (BQ.out.mono (by omega)))
 have KB3:=hide ((BQ.out.block w.heap.size (by omega)).trans KB.out)
 have KR3:=hide ((BQ.out.block (w.heap.size+1) (by omega)).trans KR.out)
 have CR3:=hide (show K.Cr wq Z (fun q=>FC q∨(w.heap.size<=q∧q<wq.heap.size)) c n tx from K.step HCR.out (fun q hq=>B3.out.block q (HFL.out q (HZF.out q hq))) (fun q hq _=>B3.out.block q hq) B3.out.size (fun q hq=>hq) (fun q hq=>hq.imp id (fun h9=>h9.1)))
 have HI3:=hide (HII.out wq Z (fun q=>FC q∨(w.heap.size<=q∧q<wq.heap.size)) c n tx off ts.length a1 k1 CR3.out (fun q hq=>by
  rcases hq with h9 | h9
  ·have:=HFL.out q h9;omega
  exact h9.2) (fun q hq=>.inl (HZF.out q hq)) hP h0 hof)
 rw [<- HL1.out]at HI3;clear BQ KB KR CR3
 gi_wp2_with fail
 refine⟨trivial,(callsIn_wide.2 HI3.out).mono ?_⟩;rintro e w1 ⟨rfl,hcr1,hc1⟩;have CR1:=hide hcr1;have C1:=hide hc1;have y1:=hc1.size
 have KP:=hide (fun q (hq:FC q∨(w.heap.size<=q∧q<wq.heap.size))=>(show w1.heap[q]? =wq.heap[q]? from hc1.block q (by
  rcases hq with h9 | h9
  ·have:=HFL.out q h9;omega
  exact h9.2) (fun h9=>h9 hq)))
 have E1:=hide (show EB16 w1 E mv dv uv lim op cv (.iface K.ty (.pointer (some ⟨c,0,none⟩))) s0 s1 s2 s3 s4 s5 s6 s7 sp from((KP.out E (.inl hE)).trans (B3.out.block E hEl)).trans H.out)
 have KB1:=hide ((KP.out w.heap.size (.inr ⟨lR,by omega⟩)).trans KB3.out)
 have KR1:=hide ((KP.out (w.heap.size+1) (.inr ⟨by omega,by omega⟩)).trans KR3.out)
 have M1:=hide (show OwM w1 0 mv ms from zB HM.out (fun q hq=>(KP.out q (.inl (HZF.out q (HMZ.out q hq)))).trans (B3.out.block q (HFL.out q (HZF.out q (HMZ.out q hq))))))
 clear hcr1 hc1 HI3 KB3 KR3
 gi_wp2_with fail
 have b0:w1.cell? ⟨w.heap.size,1,none⟩=some (.func (.func 125) #[] #[]):=by rw [cell_of_row _ _ 1 _ _ _ KB1.out];rfl
 have b1:w1.cell? ⟨w.heap.size+1,1,none⟩=some (.int .i64 off):=by rw [cell_of_row _ _ 1 _ _ _ KR1.out];rfl
 have b2:w1.cell? ⟨w.heap.size+1,2,none⟩=some (.slice a1 l1 k1):=by rw [cell_of_row _ _ 2 _ _ _ KR1.out];rfl
 have q0:=fun d os=>cell_regrown b0 d os
 have q1:=fun d os=>cell_regrown b1 d os
 have q2:=fun d os=>cell_regrown b2 d os
 refine(wpIn_wide (n:=6)).1 ?_
 refine zJ 10 (by kernel_rfl) (by kernel_rfl) ?_
 simp only [List.take_succ_cons,List.take_zero,List.drop_succ_cons,List.drop_zero];clear b0 b1 b2
 repeat (refine wpQuietIn_step (fun _ _ _ _=>trivial) (fun K hK=>?_);go_simp;first | (refine hK _ ?_;clear hK K) | (apply Exists.intro;refine⟨fun _=>?_,hK _ ?_⟩;(fail);clear hK K))
 refine wpQuietIn_nil ?_;intro _ hw';obtain⟨⟨dq2,osq2⟩,hw''⟩:=hw';subst hw'';have BQ:=hide (below_regrown w1 dq2 osq2);clear q0 q1 q2;generalize grow (redrawn w1 dq2) osq2=w2 at *;have yw2:=BQ.out.size
 have PM:=hide (Xp [dv,uv,.int .i64 lim,.bool op,cv,.iface K.ty (.pointer (some ⟨c,0,none⟩)),s0,s1,s2,s3,s4,s5,s6,s7,.int .i64 sp] 135 (by decide) E off l1 ms mv 0 w2 (E1.out.tb.below BQ.out E1.out.lt) (M1.out.below BQ.out lR) hV (by omega) (by omega))
 gi_wp2_with fail
 refine⟨trivial,(callsIn_wide.2 PM.out).mono ?_⟩;rintro e w3 ⟨rfl,mv',x,hbx,hw3,htb,hom⟩
 have Z3:=hide (show yO K w Z FC E c n (delT tx off ts.length) (srt (ms.map (mov (pullF off ts.length)))) dv uv lim op cv s0 s1 s2 s3 s4 s5 s6 s7 sp w3 from by
  rw [HL1.out]at CR1;have bx:Below w1.heap.size w1 x:=BQ.out.trans (hbx.mono yw2);have hx:=bx.size
  have cx:ChgP w x (fun q=>¬FC q∨q=E):=((ChgP.of_below (S:=fun q=>¬FC q∨q=E) B3.out lR).transS C1.out (fun q hq=>.inl (.inl (fun h9=>hq (.inl h9))))).belowS bx (by omega)
  refine⟨mv',EB16.of_tb htb,?_,?_,?_⟩
  ·refine K.step CR1.out (fun q hq=>?_) (fun q hq hn=>?_) ?_ (fun q hq=>hq) (fun q hq=>hq.elim (fun h9=>.inl (.inl h9)) (fun h9=>.inr (by have:=(hom.lt q h9).1;omega)))
   ·rw [hw3,heap_setCell_other x ⟨E,0,none⟩ q _ (fun e=>by have e':q=E:=e;subst e';exact hEZ hq)]
    exact bx.block q (by have:=HFL.out q (HZF.out q hq);omega)
   ·rw [hw3,heap_setCell_other x ⟨E,0,none⟩ q _ (fun e=>by have e':q=E:=e;subst e';exact hn (.inl hE))]
    exact bx.block q hq
   rw [hw3];simp;exact hx
  ·rw [HL1.out]at hom
   exact hom.base (by omega)
  rw [hw3];exact cx.setS ⟨E,0,none⟩ _ (.inl (.inr rfl)))
 clear hbx hw3 htb hom
 gi_wp2_with fail
 refine bodyPost_end (v:=.tuple #[]) (by simp [results,Tryz.results104]) rfl ⟨rfl,Z3.out⟩
theorem closedG (E:Nat) (op:Bool) (w:World) (h:w.cell? ⟨E,4,none⟩=some (.bool op)):
  Calls Tryz.prog 122 #[.pointer (some ⟨E,1,none⟩)] w fun e w'=>e= .returned (errV (!op) 9)∧w'=w:=by
 unfold errV;cases op
 all_goals
  go_enter Tryz.func122,Tryz.ntmps122;go_wp2;go_ret;exact⟨rfl,rfl⟩
def nextV (op:Bool) (vs:List Value):Value×Value:=if op then(.slice none 0 0,errV false 9)else if vs= []then(.slice none 0 0,errV false 6)else(vs.getLastD (.slice none 0 0),.nilIface)
theorem nextG (E:Nat) (op:Bool) (sv:Value) (vs:List Value) (w:World) (h:w.cell? ⟨E,4,none⟩=some (.bool op)) (hd:w.ownsRow 0 129 1 sv vs.length vs) (hs:∀v∈vs,∃a l k,v= .slice a l k) (hn:vs.length<=1000):
  Calls Tryz.prog 101 #[.pointer (some ⟨E,1,none⟩),sv] w fun e w'=>e= .returned (.tuple #[(nextV op vs).1,(nextV op vs).2])∧w'=w:=by
 have HC:=hide (closedG E op w h);unfold nextV
 cases op with
 | true=>
  obtain⟨sa,sl,sk,rfl⟩:∃a l k,sv= .slice a l k:=by
   rcases hd.2 with ⟨e,e0⟩ | ⟨g,cap,cur,e,_⟩
   ·exact⟨_,_,_,e⟩
   exact⟨_,_,_,e⟩
  rw [if_pos rfl];simp only [errV,Bool.not_true,Bool.false_eq_true,if_false]at HC |-;clear hd hs h;go_enter Tryz.func101,Tryz.ntmps101;go_wp2_with fail;refine HC.out.mono ?_;rintro e w1 ⟨rfl,rfl⟩;go_wp2
  refine bodyPost_ret (v:=.tuple #[.slice none 0 0,.iface 95 (.int .i64 9)]) (by simp [results,Tryz.results101,go_sem]) rfl ⟨rfl,rfl⟩
 | false=>
  rw [if_neg (by simp)]
  simp only [errV,Bool.not_false,if_true]at HC
  rcases hd.2 with ⟨e,e0⟩ | ⟨g,cap,cur,e,hb0,hcur,h2,h3,h4,h5⟩
  ·subst e
   have ev:vs= []:=List.eq_nil_of_length_eq_zero e0;subst ev;rw [if_pos rfl];simp only [errV,Bool.false_eq_true,if_false];clear hd hs h;go_enter Tryz.func101,Tryz.ntmps101;go_wp2_with fail;refine HC.out.mono ?_;rintro e w1 ⟨rfl,rfl⟩;go_wp2
   refine bodyPost_ret (v:=.tuple #[.slice none 0 0,.iface 95 (.int .i64 6)]) (by simp [results,Tryz.results101,go_sem]) rfl ⟨rfl,rfl⟩
  subst e
  by_cases hv:vs= []
  ·subst hv
   rw [if_pos rfl];simp only [errV,Bool.false_eq_true,if_false,List.length_nil];clear hd hs h h5;go_enter Tryz.func101,Tryz.ntmps101;go_wp2_with fail;refine HC.out.mono ?_;rintro e w1 ⟨rfl,rfl⟩;go_wp2
   refine bodyPost_ret (v:=.tuple #[.slice none 0 0,.iface 95 (.int .i64 6)]) (by simp [results,Tryz.results101,go_sem]) rfl ⟨rfl,rfl⟩
  rw [if_neg hv];obtain⟨us,u,rfl⟩:∃us u,vs=us++ [u]:=⟨vs.dropLast,vs.getLast hv,(List.dropLast_concat_getLast hv).symm⟩
  obtain⟨ua,ul,uk,rfl⟩:=hs u (by simp)
  have hl:(us++ [Value.slice ua ul uk]).length=us.length+1:=by simp
  have hb9:us.length<=999:=by omega
  have hc:=hd.cellAt us.length (by omega)
  have hg:(us++ [Value.slice ua ul uk])[us.length]? =some (.slice ua ul uk):=by simp
  have hgl:(us++ [Value.slice ua ul uk]).getLastD (.slice none 0 0)= .slice ua ul uk:=by simp
  rw [hg]at hc;rw [hgl];rw [hl]at *;generalize us.length=n at *;unfold maxLen at h3
  have ew:IntKind.i64.wrap (((n+1:Nat):Int) - 1)=(n:Int):=by rw [IntKind.wrap_i64,Int.natCast_add];omega
  generalize hm:n+1=m at *
  have hm0:¬ ((m:Nat):Int)=0:=by omega
  have hml:(n:Int)<(m:Int):=by omega
  have hm2:n<m:=by omega
  have hn0:(0:Int)<=(n:Int):=by omega
  clear hd hs h h5 hv hg hgl hl hm;go_enter Tryz.func101,Tryz.ntmps101;go_wp2_with fail;refine HC.out.mono ?_;rintro e w1 ⟨rfl,rfl⟩;go_wp2
  refine bodyPost_ret (v:=.tuple #[.slice ua ul uk,.nilIface]) (by simp [results,Tryz.results101,go_sem]) rfl ⟨rfl,rfl⟩
theorem RR.at {w:World} {Z:Nat->Prop}:∀ {xs:List Value} {g:List Rc},RR w Z xs g->∀ (k:Nat) r,g[k]? =some r->∃tv bv av,xs[k*5]? =some (.int .i64 (if r.put then 1 else 2))∧xs[k*5+1]? =some (.int .i64 r.off)∧xs[k*5+2]? =some tv∧xs[k*5+3]? =some bv∧xs[k*5+4]? =some av∧HT w Z tv r.tx∧HM w Z bv r.bef∧HM w Z av r.aft
 | _,[],_,k,r,e=>by simp at e
 | _,s::g,⟨a,b,e,h1,h2⟩,0,r,e2=>by
  simp only [List.getElem?_cons_zero,Option.some.injEq]at e2;subst e2;obtain⟨tv,bv,av,e3,h3⟩:=h1;subst e3;subst e;exact⟨tv,bv,av,rfl,rfl,rfl,rfl,rfl,h3⟩
 | _,s::g,⟨a,b,e,h1,h2⟩,k+1,r,e2=>by
  simp only [List.getElem?_cons_succ]at e2;obtain⟨tv,bv,av,h3⟩:=RR.at h2 k r e2;obtain⟨_,_,_,e3,_⟩:=h1;subst e3;subst e
  exact⟨tv,bv,av,by
   have e5:(k+1)*5=k*5+5:=by omega
   rw [e5]
   simpa using h3⟩
theorem RR.len {w:World} {Z:Nat->Prop}:∀ {xs:List Value} {g:List Rc},RR w Z xs g->xs.length=g.length*5
 | _,[],h=>by cases h;rfl
 | _,_::_,⟨a,b,e,⟨_,_,_,e1,_⟩,h2⟩=>by subst e;subst e1;simp [RR.len h2];omega
def rnsG (put:Bool) (g:List Rc):Nat:=((g.filter (fun r=>r.put==put)).map (fun r=>r.tx.length)).sum
theorem zAl {put:Bool} {g:List Rc} {k:Nat} {r:Rc} (h:g[k]? =some r):rnsG put (g.take (k+1))=rnsG put (g.take k)+(if r.put==put then r.tx.length else 0):=by
 unfold rnsG;rw [List.take_add_one,h];simp only [Option.toList_some,List.filter_append,List.map_append,List.sum_append]
 cases hq:(r.put==put)<;>simp [hq]
theorem rnsG_le {put:Bool} {g:List Rc} (k:Nat):rnsG put (g.take k)<=rnsG put g:=by
 conv=>rhs;rw [<- List.take_append_drop k g]
 unfold rnsG;simp only [List.filter_append,List.map_append,List.sum_append];omega
theorem runesG (put:Bool) (Z:Nat->Prop) (v:Value) (g:List Rc) (w:World) (h:HG w Z v g) (hb:rnsG put g<=1000000000) (hn:g.length<=1000000000):
  Calls Tryz.prog 102 #[v,.int .i64 (if put then 1 else 2)] w fun e w'=>e= .returned (.int .i64 (rnsG put g))∧Below w.heap.size w w':=by
 obtain⟨xs,h1,h2,h3⟩:=h;have HL:=hide h2.len;have HRR:=hide h2
 generalize hK:(if put then(1:Int)else 2)=kd at *
 have HK:=hide hK;generalize hG:g.length=n at *;have HG':=hide hG;generalize hT:rnsG put g=tot at *;have HT':=hide hT
 rcases h1.2 with ⟨e,e0⟩ | ⟨gb,cap,cur,e,hb0,hcur,c2,c3,c4⟩
 ·subst e
  subst e0;have ev:g= []:=List.eq_nil_of_length_eq_zero hG
  have et:tot=0:=by rw [<- hT,ev];rfl
  subst et;clear h1 h2 h3 hK hG hT;go_enter Tryz.func102,Tryz.ntmps102;go_wp2_with fail;refine wp_loop_rounds 1 ?_;rw [rounds_succ];go_wp2;go_ret;exact⟨rfl,Below.refl _ _⟩
 subst e;unfold maxLen at c3;have hgb:gb<w.heap.size:=(Array.getElem?_eq_some_iff.1 hcur).1;have OW:=hide h1;clear h1 h2 h3 hK hG hT c4 hcur;go_enter Tryz.func102,Tryz.ntmps102;go_wp2_with fail
 go_loopw [5,10] (fun s i wr=>∃k:Nat,k<=n∧i= .int .i64 k∧s= .int .i64 (rnsG put (g.take k))∧Below w.heap.size w wr) (fun s i _=>n - (intOf i).toNat)
 case atStart=>exact⟨0,Nat.zero_le _,rfl,rfl,Below.refl _ _⟩
 obtain⟨k,hk,rfl,rfl,hbl⟩:=hrel;have HB:=hide hbl;have hsz:=hbl.size
 by_cases hlt:k<n
 ·obtain⟨r,hr⟩:∃r,g[k]? =some r:=⟨g[k]'(by rw [HG'.out];exact hlt),by simp⟩
  obtain⟨tv,bv,av,x0,x1,x2,x3,x4,hT1,hM1,hM2⟩:=HRR.out.at k r hr;have HQ:=hide (zF OW.out hbl lR)
  have e0:wr.cell? ⟨gb,k*5,none⟩=some (.int .i64 (if r.put then 1 else 2)):=by rw [HQ.out.cellAt (k*5) (by omega)];exact x0
  have e1:wr.cell? ⟨gb,k*5+1,none⟩=some (.int .i64 r.off):=by rw [HQ.out.cellAt (k*5+1) (by omega)];exact x1
  have e2:wr.cell? ⟨gb,k*5+2,none⟩=some tv:=by rw [HQ.out.cellAt (k*5+2) (by omega)];exact x2
  have e3:wr.cell? ⟨gb,k*5+3,none⟩=some bv:=by rw [HQ.out.cellAt (k*5+3) (by omega)];exact x3
  have e4:wr.cell? ⟨gb,k*5+4,none⟩=some av:=by rw [HQ.out.cellAt (k*5+4) (by omega)];exact x4
  obtain⟨tb,tk,rfl,_⟩:=hT1;obtain⟨b1,b2,rfl⟩:=hM1.val;obtain⟨b3,b4,rfl⟩:=hM2.val;have hs1:=zAl (put:=put) hr;have hs2:=rnsG_le (put:=put) (g:=g) (k+1);rw [HT'.out]at hs2;have HS1:=hide hs1;generalize hE:rnsG put (g.take (k+1))=s1 at *;have HE:=hide hE;clear hE;generalize rnsG put (g.take k)=s0 at *
  have hlt3:(k:Int)<n:=by omega
  have hgr:gb<wr.heap.size:=by omega
  generalize r.tx.length=tl at *;generalize r.bef.length=bl at *;generalize r.aft.length=al at *;generalize r.off=ro at *
  by_cases hp:r.put=put
  ·have hs3:s1=s0+tl:=by rw [hs1,hp];simp
   have ek:(if r.put then(1:Int)else 2)=kd:=by rw [hp];exact HK.out
   rw [ek]at e0;clear hs1 hbl hr x0 x1 x2 x3 x4 hM1 hM2;subst hs3;go_wp2;go_roundw
   case rel=>exact⟨k+1,by omega,by go_num,by rw [HE.out,Int.natCast_add],HB.out.alloc hsz _⟩
   simp [intOf];omega
  have hs3:s1=s0:=by rw [hs1];simp [hp]
  have ek:¬ (if r.put then(1:Int)else 2)=kd:=by rw [<- HK.out];cases hq:r.put<;>cases put<;>simp_all
  generalize (if r.put then(1:Int)else 2)=rk at *
  clear hs1 hbl hr x0 x1 x2 x3 x4 hM1 hM2;go_wp2;go_roundw
  case rel=>exact⟨k+1,by omega,by go_num,by rw [HE.out,hs3],HB.out.alloc hsz _⟩
  simp [intOf];omega
 obtain rfl:k=n:=by omega
 have hge:¬ (k:Int)<(k:Int):=by omega
 have et:rnsG put (g.take k)=tot:=by rw [<- HT'.out,List.take_of_length_le (by rw [HG'.out];omega)]
 rw [et];clear hbl;go_wp2;go_ret;exact⟨rfl,HB.out⟩
end Go.Proofs.YtibbhecojkehfaaGreatDoor
