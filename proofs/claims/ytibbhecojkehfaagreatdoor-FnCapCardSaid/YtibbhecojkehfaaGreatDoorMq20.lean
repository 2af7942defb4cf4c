import Derived.Test.YtibbhecojkehfaaGreatDoorMq19
import Derived.Shelf.SlSortCmp.NoneTotal
import Derived.Test.YtibbhecojkehfaaGreatDoorMq03
import Derived.Shelf.SlicesE.Delete
import Derived.Lib.OwnBridge
import Derived.Deep.AppendLies
set_option linter.all false
set_option maxRecDepth 100000
set_option maxHeartbeats 16000000
namespace Go.Proofs.YtibbhecojkehfaaGreatDoor
open Go Go.RowKit
def HT (w:World) (Z:Nat->Prop) (v:Value) (ts:List Int):Prop:=∃b ct,v= .slice (some ⟨b,0,none⟩) ts.length ct∧own32 w 0 v ts∧Z b
theorem HT.parts {w:World} {Z:Nat->Prop} {v:Value} {ts:List Int} (h:HT w Z v ts):∃b o ct,v= .slice (some ⟨b,o,none⟩) ts.length ct∧ts.length<=ct∧ct<=maxLen∧Z b∧b<w.heap.size∧∀i,i<ts.length->w.cell? ⟨b,o+i,none⟩=some (.int .i32 (ts.getD i 0)):=by
 obtain⟨b,ct,rfl,h1,h2⟩:=h
 have hc:ts.length<=ct∧ct<=maxLen:=by
  rcases h1.2 with ⟨e,_⟩ | ⟨g',cap',cur,e,_,_,h2,h3,_⟩
  ·cases e
  simp only [Value.slice.injEq]at e;obtain⟨_,_,rfl⟩:=e;exact⟨h2,h3⟩
 exact⟨b,0,ct,rfl,hc.1,hc.2,h2,(h1.lt b rfl).2,fun i hi=>by rw [Nat.zero_add];exact zv h1 i hi⟩
def Kz (Z:Nat->Prop) (w w':World):Prop:=∀q,Z q->w'.heap[q]? =w.heap[q]?
theorem HT.kept {w w':World} {Z Z':Nat->Prop} {v:Value} {ts:List Int} (h:HT w Z v ts) (hk:Kz Z w w') (hs:w.heap.size<=w'.heap.size) (hz:∀q,Z q->Z' q):HT w' Z' v ts:=by
 obtain⟨b,ct,rfl,h1,h2⟩:=h
 exact⟨b,ct,rfl,zB h1 (fun q hq=>by simp only [Value.ownBlock,Option.some.injEq]at hq;subst hq;exact hk _ h2),hz b h2⟩
def putT (tx:List Int) (off:Nat) (ts:List Int):List Int:=tx.take off++ts++tx.drop off
structure Core where
 ty:TypeId
 live:Nat
 fLen:FuncId
 fBrk:FuncId
 fIns:FuncId
 fSli:FuncId
 Cr:World->(Nat->Prop)->(Nat->Prop)->Nat->Nat->List Int->Prop
 mLen : ∀ c w, (Go.method 450 ty (.pointer c) "loop.example/s01685/impl.length").run Tryz.prog w = .ok (fLen, .pointer c) w
 mBrk : ∀ c w, (Go.method 450 ty (.pointer c) "loop.example/s01685/impl.breaks").run Tryz.prog w = .ok (fBrk, .pointer c) w
 mIns : ∀ c w, (Go.method 450 ty (.pointer c) "loop.example/s01685/impl.insert").run Tryz.prog w = .ok (fIns, .pointer c) w
 mSli : ∀ c w, (Go.method 450 ty (.pointer c) "loop.example/s01685/impl.slice").run Tryz.prog w = .ok (fSli, .pointer c) w
 eLen:∀args w,(callFunc fLen args).run Tryz.prog w= .ok (.enter fLen args) w
 eBrk:∀args w,(callFunc fBrk args).run Tryz.prog w= .ok (.enter fBrk args) w
 eIns:∀args w,(callFunc fIns args).run Tryz.prog w= .ok (.enter fIns args) w
 eSli:∀args w,(callFunc fSli args).run Tryz.prog w= .ok (.enter fSli args) w
 step:∀ {w w':World} {Z F Z' F':Nat->Prop} {c n:Nat} {tx:List Int},Cr w Z F c n tx->Kz Z w w'->(∀q,q<w.heap.size->¬F q->w'.heap[q]? =w.heap[q]?)->w.heap.size<=w'.heap.size->(∀q,Z q->Z' q)->(∀q,F' q->F q∨w.heap.size<=q)->Cr w' Z' F' c n tx
 len:∀ {w:World} {Z F:Nat->Prop} {c n:Nat} {tx:List Int},Cr w Z F c n tx->tx.length<=8192∧c<w.heap.size
structure AskK (K:Core):Prop where
 len:∀ (w:World) Z F c n tx,K.Cr w Z F c n tx->Calls Tryz.prog K.fLen #[.pointer (some ⟨c,0,none⟩)] w fun e w'=>e= .returned (.int .i64 (tx.length:Nat))∧Below w.heap.size w w'
 brk:∀ (w:World) Z F c n tx,K.Cr w Z F c n tx->Calls Tryz.prog K.fBrk #[.pointer (some ⟨c,0,none⟩)] w fun e w'=>e= .returned (.int .i64 (brk tx))∧Below w.heap.size w w'
def InsK (K:Core) (P:List Int->Prop):Prop:=∀ (w:World) Z F c n tx (off:Nat) v ts,K.Cr w Z F c n tx->(∀q,F q->q<w.heap.size)->(∀q,Z q->F q)->HT w Z v ts->P ts->0<ts.length->off<=tx.length->tx.length+ts.length<=8192->n+ts.length<=220000->
 Calls Tryz.prog K.fIns #[.pointer (some ⟨c,0,none⟩),.int .i64 off,v] w fun e w'=>e= .returned (.tuple #[])∧K.Cr w' Z F c (n+ts.length) (putT tx off ts)∧ChgP w w' (fun q=>¬F q)
def SliK (K:Core) (P:List Int->Prop):Prop:=∀ (w:World) Z F c n tx (lo hi:Nat),K.Cr w Z F c n tx->P tx->lo<=hi->hi<=tx.length->
 Calls Tryz.prog K.fSli #[.pointer (some ⟨c,0,none⟩),.int .i64 lo,.int .i64 hi] w fun e w'=>∃v,e= .returned v∧own32 w' w.heap.size v ((tx.take hi).drop lo)∧Below w.heap.size w w'
end Go.Proofs.YtibbhecojkehfaaGreatDoor
namespace Go.Proofs.YtibbhecojkehfaaGreatDoor
open Go Go.RowKit Go.Lib Go.Sort Go.Shelf
theorem Zf (ys:List Mk):(flatK mkV 3 ys.toArray).toList=mkVs ys:=by
 apply List.ext_getElem?;intro t
 by_cases ht:t<ys.length*3
 ·have hq:t/3<ys.length:=by omega
  have hx:ys[t/3]? =some ys[t/3]:=by simp [hq]
  have hg:=jM ys (t/3) (t%3) _ hx (by omega)
  rw [show t/3*3+t%3=t by omega]at hg
  rw [hg]
  have hs:t<(flatK mkV 3 ys.toArray).size:=by rw [size_flatK];simpa using ht
  have e1:=get_flatK mkV 3 ys.toArray t (by simpa using ht)
  rw [getElem!_pos _ t hs]at e1;rw [Array.getElem?_toList,Array.getElem?_eq_getElem hs,e1]
  have e2:ys.toArray[t/3]! =ys[t/3]:=by rw [getElem!_pos _ _ (by simpa using hq)];simp
  rw [e2]
  have h3:t%3=0∨t%3=1∨t%3=2:=by omega
  rcases h3 with e | e | e<;>rw [e]<;>rfl
 have e1:(mkVs ys)[t]? =none:=List.getElem?_eq_none (by rw [yL];omega)
 have e2:(flatK mkV 3 ys.toArray).toList[t]? =none:=List.getElem?_eq_none (by rw [Array.length_toList,size_flatK];simp;omega)
 rw [e1,e2]
theorem zAb {w:World} {base g cap:Nat} {xs:List Mk} (h:OwM w base (.slice (some ⟨g,0,none⟩) xs.length cap) xs):HoldsK mkV 3 w g 0 xs.toArray:=by
 intro j hj;rw [size_flatK]at hj
 have hj':j<xs.length*3:=by simpa using hj
 have h1:=h.cellAt j hj';have h2:w.frozen? ⟨g,j,none⟩=false:=h.frozenAt j;rw [Nat.zero_add];refine⟨?_,h2⟩;rw [h1,<- Zf]
 have hs:j<(flatK mkV 3 xs.toArray).size:=by rw [size_flatK];exact hj
 rw [Array.getElem?_toList,Array.getElem?_eq_getElem hs,getElem!_pos _ j hs];rfl
theorem own_put {w:World} {base g cap:Nat} {xs ys:List Mk} (h:OwM w base (.slice (some ⟨g,0,none⟩) xs.length cap) xs) (hy:ys.length=xs.length) (q:Nat) (os:Array Obj):
  OwM (sortWorldK mkV 3 w g 0 q ys.toArray os) base (.slice (some ⟨g,0,none⟩) xs.length cap) ys:=by
 have hlt:=(h.lt g rfl).2
 rcases h.2 with ⟨e0,_⟩ | ⟨g',cap',cur,e0,hb,hg,hn,hm,hs,ht⟩
 ·cases e0
 cases e0;unfold OwM;rw [hy]
 refine⟨by rw [yL,hy],.inr ⟨g,cap,putCells id 0 (flatK mkV 3 ys.toArray) cur,rfl,hb,?_,hn,hm,by simpa [putCells]using hs,?_⟩⟩
 ·unfold sortWorldK grow putRowK
  show((putRow id (Sort.ahead w q) g 0 (flatK mkV 3 ys.toArray)).heap++os)[g]? =_
  rw [Array.getElem?_append_left (by simpa [putRow,mapBlock,Sort.ahead]using hlt)]
  simp [putRow,mapBlock,Sort.ahead,Array.getElem?_modify,hg,onCells]
 rw [<- Zf];apply List.ext_getElem?;intro j;rw [List.getElem?_take,Array.getElem?_toList,Array.getElem?_toList]
 by_cases hj:j<xs.length*3
 ·have hjc:j<cur.size:=by
   have:=Nat.mul_le_mul_right 3 hn;omega
  have hs2:j<(flatK mkV 3 ys.toArray).size:=by rw [size_flatK];simp;omega
  rw [if_pos hj];simp only [putCells,Array.getElem?_mapIdx,Array.getElem?_eq_getElem hjc,Option.map_some]
  rw [if_pos (by omega),Array.getElem?_eq_getElem hs2,Nat.sub_zero,getElem!_pos _ j hs2]
  rfl
 rw [if_neg hj,Array.getElem?_eq_none (by rw [size_flatK];simp;omega)]
theorem zAc (w:World) (g:Nat) (d:Array Mk) (q:Nat) (os:Array Obj):w.grownBy (sortWorldK mkV 3 w g 0 q d os) (some g):=by
 refine⟨rfl,rfl,rfl,?_,fun k hk hne=>?_⟩
 ·show w.heap.size<=((putRow id (Sort.ahead w q) g 0 (flatK mkV 3 d)).heap++os).size
  simp [putRow,mapBlock,Sort.ahead]
 show((putRow id (Sort.ahead w q) g 0 (flatK mkV 3 d)).heap++os)[k]? =w.heap[k]?
 rw [Array.getElem?_append_left (by simpa [putRow,mapBlock,Sort.ahead]using hk)]
 have hne':g≠k:=fun e=>hne (by rw [e])
 simp [putRow,mapBlock,Sort.ahead,Array.getElem?_modify,hne']
theorem ltM (x y:Mk):ltOf cmpM x y=bef x y:=by
 unfold ltOf
 cases h:bef x y with
 | true=>exact decide_eq_true ((JP x y).2 h)
 | false=>exact decide_eq_false fun q=>by rw [(JP x y).1 q]at h;cases h
theorem swoM:SWO (ltOf cmpM) where
 irrefl x:=by rw [ltM];exact Zu x
 trans x y z h1 h2:=by rw [ltM]at *;exact Y0 h1 h2
 ntrans x y z h1 h2:=by
  rw [ltM]at *
  have a1:¬ (x.2.1<y.2.1∨(x.2.1=y.2.1∧x.1<y.1)):=by rw [<- yu,h1];simp
  have a2:¬ (y.2.1<z.2.1∨(y.2.1=z.2.1∧y.1<z.1)):=by rw [<- yu,h2];simp
  cases h3:bef x z with
  | false=>rfl
  | true=>rw [yu]at h3;omega
theorem entersBP:∀args w,(callFunc 119 args).run Tryz.prog w= .ok (.enter 119 args) w:=Go.Proofs.enters_of Tryz.func119 (by kernel_rfl) rfl
theorem cmpLaysM (blk off size:Nat) (w:World):CmpLays Tryz.prog 119 #[] mkV 3 cmpM blk off size w:=
 fun _ _ _ _ x y=>byPlaceL x y _
theorem Zj {d:Array Mk} (h:SortedIn (ltOf cmpM) 0 d.size d):d.toList.Pairwise fun a b=>bef b a=false:=by
 rw [List.pairwise_iff_getElem];intro i j hi hj hij
 have hi':i<d.size:=by simpa using hi
 have hj':j<d.size:=by simpa using hj
 have:=h i j (Nat.zero_le _) hij hj';rw [ltM,getElem!_pos d j hj',getElem!_pos d i hi']at this;simpa using this
theorem zAd (base:Nat) (xs:List Mk) (v:Value) (w:World) (h:OwM w base v xs) (hn:xs.length<=4096) (hd:xs.Pairwise fun a b=>a.1≠b.1):
  Calls Tryz.prog 143 #[v,.func (.func 119) #[] #[]] w fun e w'=>e= .returned (.tuple #[])∧OwM w' base v (srt xs)∧w.grownBy w' v.ownBlock:=by
 rcases h.shape with ⟨rfl,rfl⟩ | ⟨g,cap,rfl,hcap,hcm,hbg,hgl⟩
 ·have hc:=AnyF.slices_SortFunc_none Tryz.sortM none 0 (.func (.func 119) #[] #[]) w
  change Calls Tryz.prog 143 _ _ _ at hc
  refine hc.mono ?_;rintro e w' ⟨rfl,rfl⟩;exact⟨rfl,h,jd _ _⟩
 have hc:=AnyQ.slices_SortFunc Tryz.sortM 3 Tryz.isAgg208 Tryz.sizeOf208 mkV (fun _=>rfl) (fun x v hv=>by simp [mkV]at hv;rcases hv with rfl | rfl | rfl<;>rfl) cmpM swoM 119 #[] g 0 cap xs.toArray w entersBP (cmpLaysM _ _ _ _) (zAb h) hgl (by simp;omega)
 change Calls Tryz.prog 143 _ _ _ at hc
 have hsz:xs.toArray.size=xs.length:=by simp
 rw [hsz]at hc;refine hc.mono ?_;rintro e w' ⟨rfl,d',n,os,hp,hs,rfl⟩
 have hpl:d'.toList.Perm xs:=by
  obtain⟨hz,_,hperm⟩:=hp
  have hz':d'.size=xs.length:=by simpa using hz
  have e1:d'.extract 0 xs.length=d':=by rw [<- hz'];exact Array.extract_size
  have e2:xs.toArray.extract 0 xs.length=xs.toArray:=by rw [<- hsz];exact Array.extract_size
  rw [e1,e2]at hperm;simpa using hperm
 have hlen:d'.toList.length=xs.length:=hpl.length_eq
 have hse:d'.toList=srt xs:=srt_uniq hpl (Zj (by rw [show d'.size=xs.length by simpa using hlen];exact hs)) hd
 have hda:d'=d'.toList.toArray:=by simp
 rw [hda,hse];exact⟨rfl,own_put h (XD xs) n os,zAc _ _ _ _ _⟩
end Go.Proofs.YtibbhecojkehfaaGreatDoor
namespace Go.Proofs.YtibbhecojkehfaaGreatDoor
open Go Go.RowKit Go.Sort
theorem pushedL (m:Mk) (off n:Int) (w:World) (h0:0<=m.2.1∧m.2.1<=8192) (h1:0<=n∧n<=8192):
  Calls Tryz.prog 140 #[mkA m,.int .i64 off,.int .i64 n] w fun e w'=>e= .returned (.int .i64 (pushF off n m))∧Below w.heap.size w w':=by
 unfold pushF mkA
 by_cases a:m.2.1 > off
 ·rw [if_pos (.inl a)]
  have a':off<m.2.1:=a;go_enter Tryz.func140,Tryz.ntmps140;go_wp2;go_ret;exact⟨rfl,(Below.refl _ _).alloc lR _⟩
 have a':¬off<m.2.1:=a
 by_cases b:m.2.1=off
 ·have b':(m.2.1==off)=true:=by simpa using b
  by_cases c:m.2.2=1
  ·have c':(m.2.2==1)=true:=by simpa using c
   rw [if_pos (.inr ⟨b,c⟩)];clear b c;go_enter Tryz.func140,Tryz.ntmps140;go_wp2;go_ret;exact⟨rfl,(Below.refl _ _).alloc lR _⟩
  have c':(m.2.2==1)=false:=by simpa using c
  rw [if_neg (fun q=>by rcases q with q | q;exact a q;exact c q.2)]
  clear b c;go_enter Tryz.func140,Tryz.ntmps140;go_wp2;go_ret;exact⟨rfl,(Below.refl _ _).alloc lR _⟩
 have b':(m.2.1==off)=false:=by simpa using b
 rw [if_neg (fun q=>by rcases q with q | q;exact a q;exact b q.1)]
 clear b;go_enter Tryz.func140,Tryz.ntmps140;go_wp2;go_ret;exact⟨rfl,(Below.refl _ _).alloc lR _⟩
def Tells (g:Nat) (cb:Array Value) (f:Mk->Int) (xs:List Mk) (B:Nat) (w:World):Prop:=
 ∀W x,x∈xs->Below B w W->Calls Tryz.prog g (#[mkA x]++cb) W fun e w'=>e= .returned (.int .i64 (f x))∧Below W.heap.size W w'
theorem pushClos (xs:List Mk) (off n:Int) (b1 b2 B:Nat) (w:World) (h1:b1<B) (h2:b2<B) (c1:w.cell? ⟨b1,0,none⟩=some (.int .i64 off)) (c2:w.cell? ⟨b2,0,none⟩=some (.int .i64 n)) (hB:B<=w.heap.size) (hx:∀x∈xs,0<=x.2.1∧x.2.1<=8192) (hn:0<=n∧n<=8192):
  Tells 139 #[.pointer (some ⟨b1,0,none⟩),.pointer (some ⟨b2,0,none⟩)] (pushF off n) xs B w:=by
 intro W x hxm hb
 have HP:=hide (fun W=>pushedL x off n W (hx x hxm) hn)
 have hs:=hb.size;have BA:=hide ((Below.refl W.heap.size W).alloc lR (.cells #[.int .i64 x.1,.int .i64 x.2.1,.int .i64 x.2.2] 208))
 have e1:=(BA.out.cell (p:=⟨b1,0,none⟩) (by show b1<_;omega)).trans ((hb.cell (p:=⟨b1,0,none⟩) h1).trans c1)
 have e2:=(BA.out.cell (p:=⟨b2,0,none⟩) (by show b2<_;omega)).trans ((hb.cell (p:=⟨b2,0,none⟩) h2).trans c2)
 have sA:W.heap.size<=(W.alloc (.cells #[.int .i64 x.1,.int .i64 x.2.1,.int .i64 x.2.2] 208)).heap.size:=by simp
 have n1:¬b1=W.heap.size:=by omega
 have n2:¬b2=W.heap.size:=by omega
 generalize pushF off n x=r at *;clear hb c1 c2;unfold mkA at *
 show Calls Tryz.prog 139 #[.agg #[.int .i64 x.1,.int .i64 x.2.1,.int .i64 x.2.2],.pointer (some ⟨b1,0,none⟩),.pointer (some ⟨b2,0,none⟩)] W _
 go_enter Tryz.func139,Tryz.ntmps139;go_wp2_with fail;generalize W.alloc (.cells #[.int .i64 x.1,.int .i64 x.2.1,.int .i64 x.2.2] 208)=w0 at *;refine(HP.out _).mono ?_;rintro e w1 ⟨rfl,hb1⟩;have B1:=hide (BA.out.trans (hb1.mono sA));clear hb1;go_wp2;go_ret;exact⟨rfl,B1.out⟩
theorem KO (base:Nat) (xs:List Mk) (v:Value) (w:World) (h:OwM w base v xs) (hn:xs.length<=1048576):
  Calls Tryz.prog 112 #[v] w fun e w'=>∃v',e= .returned v'∧OwM w' w.heap.size v' xs∧Below w.heap.size w w':=by
 obtain⟨i0,hi,hz0,hz1,hz2⟩:=info_parts Tryz.infoMK;have HO:=hide h
 rcases h.shape with ⟨rfl,rfl⟩ | ⟨g,cap,rfl,hcap,hcm,hbg,hgl⟩
 ·clear h
  have hq:=fun w:World=>Lib.run_eql_slice_nil (P:=Tryz.prog) w 35 208 none 0 0 0 0 Tryz.underlying35
  simp only [Option.isNone_none]at hq;go_enter Tryz.func112,Tryz.ntmps112;go_wp2;go_ret;exact⟨_,rfl,World.ownsRow_nil _ _ _ _,Below.refl _ _⟩
 have hk0:(w.alloc (.cells #[] 208)).heap[w.heap.size]? =some (.cells #[] 208 (0,0)):=heap_alloc_new _ _
 have hs0:(w.alloc (.cells #[] 208)).heap.size=w.heap.size+1:=by simp
 have B0:=hide ((Below.refl w.heap.size w).alloc lR (.cells #[] 208))
 have O0:=hide (show(w.alloc (.cells #[] 208)).ownsRow w.heap.size 208 3 (.slice (some ⟨w.heap.size,0,none⟩) 0 0) 0 []from⟨rfl,.inr ⟨_,0,#[],rfl,lR,hk0,lR,by unfold maxLen;omega,rfl,rfl⟩⟩)
 have RC:=hide (OwM.cells (show OwM (w.alloc (.cells #[] 208)) base (.slice (some ⟨g,0,none⟩) xs.length cap) xs from(World.ownsRow.alloc HO.out _)))
 unfold maxLen at hcm
 have hq:=fun w:World=>Lib.run_eql_slice_nil (P:=Tryz.prog) w 35 208 (some ⟨g,0,none⟩) xs.length cap 0 0 Tryz.underlying35
 simp only [Option.isNone_some]at hq;clear h hk0;go_enter Tryz.func112,Tryz.ntmps112
 go_wp2_with (at_builtin;refine wpList_append_own _ rfl _ _ 35 rfl w.heap.size 208 i0 (.agg #[.int .i64 0,.int .i64 0,.int .i64 0]) 3 24 Tryz.underlying35 hi hz0 hz1 hz2 rfl (by decide) (.slice (some ⟨w.heap.size,0,none⟩) 0 0) 0 [] rfl (by exact O0.out) ⟨g,0,none⟩ xs.length cap (mkVs xs) rfl (yL xs) (by exact RC.out) (mkVs_one xs) (by unfold maxLen;omega) (by omega) (by simp) ?_;intro v4 w4 ho4 hg4 _;have O4:=hide (show OwM w4 w.heap.size v4 xs from(by have h9:=ho4;rw [Nat.zero_add,List.nil_append]at h9;exact h9));have B4:=hide (B0.out.trans ((Below.refl w.heap.size _).grown hg4 (by omega) (own_rowM O0.out)));clear ho4 hg4)
 go_ret;exact⟨_,rfl,O4.out,B4.out⟩
def TbE (r:List Value) (tt:TypeId) (w:World) (tb:Nat) (v:Value):Prop:=w.heap[tb]? =some (.cells (v::r).toArray tt (0,0))
theorem TbE.c {r:List Value} {tt:TypeId} {w:World} {rb:Nat} {v:Value} (h:TbE r tt w rb v):w.cell? ⟨rb,0,none⟩=some v:=by rw [cell_of_row w rb 0 _ _ _ h];rfl
theorem TbE.fz {r:List Value} {tt:TypeId} {w:World} {rb:Nat} {v:Value} (h:TbE r tt w rb v):w.frozen? ⟨rb,0,none⟩=false:=frozen_of_row w rb 0 _ _ h
theorem TbE.lt {r:List Value} {tt:TypeId} {w:World} {rb:Nat} {v:Value} (h:TbE r tt w rb v):rb<w.heap.size:=(Array.getElem?_eq_some_iff.1 h).1
theorem TbE.set {r:List Value} {tt:TypeId} {w:World} {rb:Nat} {v:Value} (h:TbE r tt w rb v) (v':Value):TbE r tt (w.setCell ⟨rb,0,none⟩ v') rb v':=by
 unfold TbE at h |-;rw [heap_setCell_same w rb 0 _ _ _ h];simp
theorem TbE.below {r:List Value} {tt:TypeId} {B:Nat} {w w':World} {rb:Nat} {v:Value} (h:TbE r tt w rb v) (hb:Below B w w') (hB:rb<B):TbE r tt w' rb v:=(hb.block rb hB).trans h
theorem TbE.off {r:List Value} {tt:TypeId} {w:World} {rb base:Nat} {v u:Value} {xs:List Mk} (h:TbE r tt w rb v) (htt:tt≠208) (ho:OwM w base u xs) (hq:u.ownBlock=some rb):False:=by
 rcases ho.2 with ⟨rfl,_⟩ | ⟨g,cap,cur,rfl,_,h2,_⟩
 ·simp [Value.ownBlock]at hq
 simp only [Value.ownBlock,Option.some.injEq]at hq;subst hq;unfold TbE at h;rw [h2]at h;simp only [Option.some.injEq,Obj.cells.injEq]at h;exact htt h.2.1.symm
theorem jm (r:List Value) (tt:TypeId) (htt:tt≠208) (tb g:Nat) (cb:Array Value) (f:Mk->Int) (xs:List Mk) (v:Value) (base:Nat) (w:World) (ht:TbE r tt w tb v) (h:OwM w base v xs) (hn:xs.length<=4096) (hd:xs.Pairwise fun a b=>a.1≠b.1)
  (eg:∀args w,(callFunc g args).run Tryz.prog w= .ok (.enter g args) w) (hT:Tells g cb f xs w.heap.size w):
  Calls Tryz.prog 126 #[.pointer (some ⟨tb,0,none⟩),.func (.func g) #[] cb] w fun e w'=>e= .returned (.tuple #[])∧∃v' x,Below w.heap.size w x∧w'=x.setCell ⟨tb,0,none⟩ v'∧TbE r tt w' tb v'∧OwM w' w.heap.size v' (srt (xs.map (mov f))):=by
 have hlt:=ht.lt;have c:=ht.c
 have HC:=hide (KO base xs v w h (by omega))
 have HTL:=hide hT
 have hd2:(xs.map (mov f)).Pairwise fun a b=>a.1≠b.1:=by rw [List.pairwise_map];exact hd
 have HSO:=hide (fun B v w h=>zAd B (xs.map (mov f)) v w h (by simpa using hn) hd2)
 obtain⟨ao,cap,rfl⟩:=h.val;have HT:=hide ht;generalize hN:xs.length=n at *;have HNN:=hide hN;clear h ht hT hN hd hd2;go_enter Tryz.func126,Tryz.ntmps126;go_wp2_with fail;refine HC.out.mono ?_;rintro e w1 ⟨v1,rfl,ho1,hb1⟩;have O1:=hide ho1;have B1:=hide hb1;have s1:=hb1.size;have T1:=hide (HT.out.below hb1 hlt)
 rcases ho1.shape with ⟨rfl,hxe⟩ | ⟨gv,cv,rfl,hcv,hcm,hbg,hgl⟩
 ·subst hxe
  have hn0:n=0:=by rw [<- HNN.out];rfl
  subst hn0
  have HS:=hide (HSO.out _ _ _ (show OwM w1 w.heap.size (.slice none 0 0) (List.map (mov f) [])from World.ownsRow_nil _ _ _ _))
  have c1:=T1.out.c;have f1:=T1.out.fz;clear ho1 hb1;go_wp2_with fail;refine wp_loop_rounds 1 ?_;rw [rounds_succ];go_wp2_with fail;refine HS.out.mono ?_;rintro e w2 ⟨rfl,ho2,hg2⟩
  have b2:Below w1.heap.size w1 w2:=(Below.refl _ _).grown hg2 lR (fun q hq=>by cases hq)
  have T2:=hide (T1.out.below b2 T1.out.lt);have B2:=hide (B1.out.trans (b2.mono s1));have c2:=T2.out.c;have f2:=T2.out.fz;have O2:=hide ho2;clear ho2 hg2 b2;go_wp2;go_end0;refine⟨rfl,_,_,B2.out,rfl,TbE.set T2.out _,?_⟩;exact World.ownsRow_nil _ _ _ _
 rw [HNN.out]at hcv;rw [HNN.out];unfold maxLen at hcm
 have htg:¬tb=gv:=by omega
 clear ho1 hb1;go_wp2_with fail
 go_loopw [14] (fun i wr=>∃k:Nat,k<=n∧i= .int .i64 k∧wr.ownsRow w.heap.size 208 3 (.slice (some ⟨gv,0,none⟩) n cv) n (mkVs ((xs.take k).map (mov f)++xs.drop k))∧Below w.heap.size w wr) (fun i _=>n - (intOf i).toNat)
 case atStart=>exact⟨0,Nat.zero_le _,rfl,by have h9:=O1.out;unfold OwM at h9;rw [HNN.out]at h9;simpa using h9,B1.out⟩
 obtain⟨k,hk,rfl,hown,hb⟩:=hrel;have HB:=hide hb;have HOW:=hide hown;have hsz:=hb.size;have hgr:gv<wr.heap.size:=(hown.lt gv rfl).2
 by_cases hlt2:k<n
 ·obtain⟨x,hx⟩:∃x,xs[k]? =some x:=⟨xs[k]'(by rw [HNN.out];exact hlt2),by simp⟩
  have hgx:((xs.take k).map (mov f)++xs.drop k)[k]? =some x:=by
   rw [List.getElem?_append_right (by rw [List.length_map,List.length_take];omega),List.length_map,List.length_take,HNN.out,Nat.min_eq_left hk,Nat.sub_self,List.getElem?_drop,Nat.add_zero,hx]
  have e0:wr.cell? ⟨gv,k*3,none⟩=some (.int .i64 x.1):=by have h9:=hown.cellAt (k*3) (by omega);rw [h9,<- Nat.add_zero (k*3),jM _ k 0 x hgx (by omega)];rfl
  have e1:wr.cell? ⟨gv,k*3+1,none⟩=some (.int .i64 x.2.1):=by rw [hown.cellAt (k*3+1) (by omega),jM _ k 1 x hgx (by omega)];rfl
  have e2:wr.cell? ⟨gv,k*3+2,none⟩=some (.int .i64 x.2.2):=by rw [hown.cellAt (k*3+2) (by omega),jM _ k 2 x hgx (by omega)];rfl
  have hlt3:(k:Int)<n:=by omega
  have BA:=hide ((Below.refl wr.heap.size wr).alloc lR (.cells #[.int .i64 x.1,.int .i64 x.2.1,.int .i64 x.2.2] 208))
  have sA:wr.heap.size<=(wr.alloc (.cells #[.int .i64 x.1,.int .i64 x.2.1,.int .i64 x.2.2] 208)).heap.size:=by simp
  have HCL:=hide (HTL.out _ x (List.mem_of_getElem? hx) (HB.out.trans (BA.out.mono hsz)));have HX:=hide hx;unfold mkA at HCL;clear hb hown hgx hx;go_wp2_with fail;generalize wr.alloc (.cells #[.int .i64 x.1,.int .i64 x.2.1,.int .i64 x.2.2] 208)=wa at *;refine HCL.out.mono ?_;rintro e w2 ⟨rfl,hb2⟩;have b2:Below wr.heap.size wr w2:=BA.out.trans (hb2.mono sA);have hown2:=zF HOW.out b2 lR;have B2:=hide (HB.out.trans (b2.mono hsz));have s2:=b2.size
  obtain⟨v1,k1⟩:=Kr hown2 (k*3+1) (by omega)
  have f1:w2.frozen? ⟨gv,k*3+1,none⟩=false:=hown2.frozenAt _;have st:=(hown2.stored (k*3+1) (.int .i64 (f x))).1;rw [movs_set f xs k x HX.out]at st;have HS:=hide st;clear hb2 b2 hown2 st e0 e1 e2;go_wp2;go_roundw
  case rel=>exact⟨k+1,by omega,by go_num,HS.out,B2.out.setCell (by show w.heap.size<=gv;omega) _⟩
  simp [intOf];omega
 obtain rfl:k=n:=by omega
 have hge:¬ (k:Int)<(k:Int):=by omega
 have O3:=hide (show OwM wr w.heap.size (.slice (some ⟨gv,0,none⟩) k cv) (xs.map (mov f))from(by
  have h9:=HOW.out
  rw [show xs.take k=xs by rw [<- HNN.out];exact List.take_length,List.drop_of_length_le (by rw [HNN.out];omega),List.append_nil]at h9
  unfold OwM;rw [List.length_map,HNN.out]
  exact h9))
 have T3:=hide (HT.out.below HB.out hlt);have HS:=hide (HSO.out _ _ _ O3.out);clear hb hown;go_wp2_with fail;refine HS.out.mono ?_;rintro e w4 ⟨rfl,ho4,hg4⟩
 have T4:=hide (show TbE r tt w4 tb _ from(hg4.block tb T3.out.lt (fun q=>by simp only [Value.ownBlock,Option.some.injEq]at q;omega)).trans T3.out)
 have B4:=hide (HB.out.grown hg4 hsz (fun q hq=>by simp only [Value.ownBlock,Option.some.injEq]at hq;omega))
 have c4:=T4.out.c;have f4:=T4.out.fz;have O4:=hide ho4;clear ho4 hg4;go_wp2;go_end0;refine⟨rfl,_,_,B4.out,rfl,TbE.set T4.out _,?_⟩
 refine zB O4.out fun q hq=>heap_setCell_other _ _ _ _ (fun e=>?_)
 have e':q=tb:=e;subst e';exact TbE.off T4.out htt O4.out hq
theorem YK (r:List Value) (tt:TypeId) (htt:tt≠208) (tb:Nat) (off n:Int) (xs:List Mk) (v:Value) (base:Nat) (w:World) (ht:TbE r tt w tb v) (h:OwM w base v xs) (hv:Vd xs) (hn:0<=n∧n<=8192):
  Calls Tryz.prog 124 #[.pointer (some ⟨tb,0,none⟩),.int .i64 off,.int .i64 n] w fun e w'=>e= .returned (.tuple #[])∧∃v' x,Below w.heap.size w x∧w'=x.setCell ⟨tb,0,none⟩ v'∧TbE r tt w' tb v'∧OwM w' w.heap.size v' (srt (xs.map (mov (pushF off n)))):=by
 have hlt:=ht.lt
 have B0:=hide (((Below.refl w.heap.size w).alloc lR (.cells #[.int .i64 off] 3)).alloc (by simp) (.cells #[.int .i64 n] 3))
 have c1:((w.alloc (.cells #[.int .i64 off] 3)).alloc (.cells #[.int .i64 n] 3)).cell? ⟨w.heap.size,0,none⟩=some (.int .i64 off):=by
  rw [World.cell?_alloc_lt _ _ ⟨w.heap.size,0,none⟩ (by simp),World.cell?_alloc_at _ _ _ _ rfl];rfl
 have c2:((w.alloc (.cells #[.int .i64 off] 3)).alloc (.cells #[.int .i64 n] 3)).cell? ⟨w.heap.size+1,0,none⟩=some (.int .i64 n):=by
  rw [World.cell?_alloc_at _ _ _ _ (by simp)];rfl
 have hs0:((w.alloc (.cells #[.int .i64 off] 3)).alloc (.cells #[.int .i64 n] 3)).heap.size=w.heap.size+2:=by simp
 have HM:=hide (jm r tt htt tb 139 #[.pointer (some ⟨w.heap.size,0,none⟩),.pointer (some ⟨w.heap.size+1,0,none⟩)] (pushF off n) xs v base _ (ht.below B0.out hlt) (h.below B0.out lR) (by have:=hv.1;omega) (hv.2.2.imp fun q=>q.2) (Go.Proofs.enters_of Tryz.func139 (by kernel_rfl) rfl)
  (pushClos xs off n w.heap.size (w.heap.size+1) _ _ (by omega) (by omega) c1 c2 lR (fun x hx=>by have:=(hv.2.1 x hx).2;simpa [inO]using this) hn))
 clear h ht c1 c2;go_enter Tryz.func124,Tryz.ntmps124;go_wp2_with fail;generalize (w.alloc (.cells #[.int .i64 off] 3)).alloc (.cells #[.int .i64 n] 3)=w0 at *;refine HM.out.mono ?_;rintro e w1 ⟨rfl,v1,x1,hb1,hw1,ht1,ho1⟩;have T1:=hide ht1
 have O1:=hide (ho1.base (base':=w.heap.size) (by omega))
 have HB1:=hide hb1;have HW1:=hide hw1;clear ht1 ho1 hb1 hw1;go_wp2;go_end0
 exact⟨rfl,v1,x1,B0.out.trans (HB1.out.mono (by omega)),HW1.out,T1.out,O1.out⟩
end Go.Proofs.YtibbhecojkehfaaGreatDoor
namespace Go.Proofs.YtibbhecojkehfaaGreatDoor
open Go Go.RowKit
structure Rc where
 put:Bool
 off:Nat
 tx:List Int
 bef:List Mk
 aft:List Mk
structure Kpt where
 tx:List Int
 ms:List Mk
 dn:List (List Rc)
 ud:List (List Rc)
structure Ens where
 tx:List Int
 ms:List Mk
 dn:List (List Rc)
 ud:List (List Rc)
 lim:Nat
 opn:Bool
 cur:List Rc
 sl:List (Option Kpt)
 sp:Nat
section
variable {w w':World} {Z Z':Nat->Prop}
def HM (w:World) (Z:Nat->Prop) (v:Value) (ms:List Mk):Prop:=OwM w 0 v ms∧∀q,v.ownBlock=some q->Z q
theorem HM.kept {v:Value} {ms:List Mk} (h:HM w Z v ms) (hk:Kz Z w w') (hz:∀q,Z q->Z' q):HM w' Z' v ms:=
 ⟨zB h.1 (fun q hq=>hk q (h.2 q hq)),fun q hq=>hz q (h.2 q hq)⟩
theorem HM.nil:HM w Z (.slice none 0 0) []:=⟨World.ownsRow_nil _ _ _ _,fun q hq=>by simp [Value.ownBlock]at hq⟩
theorem HM.val {v:Value} {ms:List Mk} (h:HM w Z v ms):∃ao cap,v= .slice ao ms.length cap:=h.1.val
def HR (w:World) (Z:Nat->Prop) (xs:List Value) (r:Rc):Prop:=∃tv bv av,xs= [.int .i64 (if r.put then 1 else 2),.int .i64 r.off,tv,bv,av]∧HT w Z tv r.tx∧HM w Z bv r.bef∧HM w Z av r.aft
theorem HR.kept {xs:List Value} {r:Rc} (h:HR w Z xs r) (hk:Kz Z w w') (hs:w.heap.size<=w'.heap.size) (hz:∀q,Z q->Z' q):HR w' Z' xs r:=by
 obtain⟨tv,bv,av,e,h1,h2,h3⟩:=h;exact⟨tv,bv,av,e,h1.kept hk hs hz,h2.kept hk hz,h3.kept hk hz⟩
def RR (w:World) (Z:Nat->Prop):List Value->List Rc->Prop
 | xs,[]=>xs= []
 | xs,r::g=>∃a b,xs=a++b∧HR w Z a r∧RR w Z b g
theorem RR.kept (hk:Kz Z w w') (hs:w.heap.size<=w'.heap.size) (hz:∀q,Z q->Z' q):∀ {xs:List Value} {g:List Rc},RR w Z xs g->RR w' Z' xs g
 | _,[],h=>h
 | _,_::_,⟨a,b,e,h1,h2⟩=>⟨a,b,e,h1.kept hk hs hz,RR.kept hk hs hz h2⟩
def HG (w:World) (Z:Nat->Prop) (v:Value) (g:List Rc):Prop:=∃xs,w.ownsRow 0 217 5 v g.length xs∧RR w Z xs g∧∀q,v.ownBlock=some q->Z q
theorem HG.kept {v:Value} {g:List Rc} (h:HG w Z v g) (hk:Kz Z w w') (hs:w.heap.size<=w'.heap.size) (hz:∀q,Z q->Z' q):HG w' Z' v g:=by
 obtain⟨xs,h1,h2,h3⟩:=h
 exact⟨xs,zB h1 (fun q hq=>hk q (h3 q hq)),h2.kept hk hs hz,fun q hq=>hz q (h3 q hq)⟩
def GG (w:World) (Z:Nat->Prop):List Value->List (List Rc)->Prop
 | [],[]=>True
 | v::vs,g::gs=>HG w Z v g∧GG w Z vs gs
 | _,_=>False
theorem GG.kept (hk:Kz Z w w') (hs:w.heap.size<=w'.heap.size) (hz:∀q,Z q->Z' q):∀ {vs:List Value} {gs:List (List Rc)},GG w Z vs gs->GG w' Z' vs gs
 | [],[],_=>trivial
 | _::_,_::_,h=>⟨h.1.kept hk hs hz,GG.kept hk hs hz h.2⟩
 | [],_::_,h=>h
 | _::_,[],h=>h
theorem GG.len:∀ {vs:List Value} {gs:List (List Rc)},GG w Z vs gs->vs.length=gs.length
 | [],[],_=>rfl
 | _::_,_::_,h=>by simp [GG.len h.2]
theorem GG.app:∀ {vs us:List Value} {gs ks:List (List Rc)},GG w Z vs gs->GG w Z us ks->GG w Z (vs++us) (gs++ks)
 | [],_,[],_,_,h=>h
 | _::_,_,_::_,_,h,h2=>⟨h.1,GG.app h.2 h2⟩
def SG (w:World) (Z:Nat->Prop) (v:Value) (gs:List (List Rc)):Prop:=∃vs,w.ownsRow 0 129 1 v gs.length vs∧GG w Z vs gs
theorem SG.kept {v:Value} {gs:List (List Rc)} (h:SG w Z v gs) (hb:∀q,v.ownBlock=some q->w'.heap[q]? =w.heap[q]?) (hk:Kz Z w w') (hs:w.heap.size<=w'.heap.size) (hz:∀q,Z q->Z' q):SG w' Z' v gs:=by
 obtain⟨vs,h1,h2⟩:=h;exact⟨vs,zB h1 hb,h2.kept hk hs hz⟩
theorem SG.nil:SG w Z (.slice none 0 0) []:=⟨[],World.ownsRow_nil _ _ _ _,trivial⟩
theorem SG.lt {v:Value} {gs:List (List Rc)} (h:SG w Z v gs) {q:Nat} (hq:v.ownBlock=some q):q<w.heap.size:=by
 obtain⟨vs,h1,_⟩:=h;exact(h1.lt q hq).2
def HS (w:World) (Z:Nat->Prop) (v:Value):Option Kpt->Prop
 | none=>v= .pointer none
 | some k=>∃p tv mv dv uv,v= .pointer (some ⟨p,0,none⟩)∧Z p∧w.heap[p]? =some (.cells #[tv,mv,dv,uv] 232 (0,0))∧HT w Z tv k.tx∧HM w Z mv k.ms∧(SG w Z dv k.dn∧∀q,dv.ownBlock=some q->Z q)∧(SG w Z uv k.ud∧∀q,uv.ownBlock=some q->Z q)
theorem HS.kept {v:Value}:∀ {k:Option Kpt},HS w Z v k->Kz Z w w'->w.heap.size<=w'.heap.size->(∀q,Z q->Z' q)->HS w' Z' v k
 | none,h,_,_,_=>h
 | some k,⟨p,tv,mv,dv,uv,e,h1,h2,h3,h4,h5,h6⟩,hk,hs,hz=>⟨p,tv,mv,dv,uv,e,hz p h1,(hk p h1).trans h2,h3.kept hk hs hz,h4.kept hk hz,⟨h5.1.kept (fun q hq=>hk q (h5.2 q hq)) hk hs hz,fun q hq=>hz q (h5.2 q hq)⟩,⟨h6.1.kept (fun q hq=>hk q (h6.2 q hq)) hk hs hz,fun q hq=>hz q (h6.2 q hq)⟩⟩
end
def EBk (w:World) (E:Nat) (mv dv uv:Value) (lim:Int) (op:Bool) (cv tv:Value) (ss:List Value) (sp:Int):Prop:=
 ∃s0 s1 s2 s3 s4 s5 s6 s7,ss= [s0,s1,s2,s3,s4,s5,s6,s7]∧w.heap[E]? =some (.cells #[mv,dv,uv,.int .i64 lim,.bool op,cv,tv,s0,s1,s2,s3,s4,s5,s6,s7,.int .i64 sp] 135 (0,0))
structure EM (K:Core) (w:World) (Z F:Nat->Prop) (E c n:Nat) (mv dv uv cv:Value) (ss:List Value) (FC:Nat->Prop) (M:Ens):Prop where
 blk:EBk w E mv dv uv M.lim M.opn cv (.iface K.ty (.pointer (some ⟨c,0,none⟩))) ss M.sp
 ms:HM w Z mv M.ms
 dn:SG w Z dv M.dn
 ud:SG w Z uv M.ud
 cu:M.opn=true->∃xs,w.ownsRow 0 217 5 cv M.cur.length xs∧RR w Z xs M.cur∧∀q,cv.ownBlock=some q->¬F q
 cvs:∃a l k,cv= .slice a l k
 sl:ss.length=8∧M.sl.length=8∧∀ (i:Nat) v k,ss[i]? =some v->M.sl[i]? =some k->HS w Z v k
 cr:K.Cr w Z FC c n M.tx
 n:n<=8192+M.sp
 sp:M.sp<=200000
 lm:1<=M.lim∧M.lim<=1000
 ln:M.dn.length<=1000∧M.ud.length<=1000
 vd:Vd M.ms∧∀x∈M.ms,x.2.1<=M.tx.length
 zf:∀q,Z q->F q
 ff:∀q,F q->FC q
 fl:∀q,FC q->q<w.heap.size
 fe:FC E∧¬F E
 fd:∀q,dv.ownBlock=some q->FC q∧¬F q
 fu:∀q,uv.ownBlock=some q->FC q∧¬F q∧dv.ownBlock≠some q
 fc:M.opn=true->∀q,cv.ownBlock=some q->FC q∧¬F q
theorem roomG (h m l:Int) (w:World) (h0:0<=h) (h1:h<=1048576) (hl:0<=l∧l<=1048576):
  Calls Tryz.prog 114 #[.int .i64 h,.int .i64 m,.int .i64 l] w fun e w'=>e= .returned (errV (decide (h<=l∧m<=l - h)) 10)∧w'=w:=by
 by_cases a:h<=l
 ·by_cases b:m<=l - h
  ·rw [show decide (h<=l∧m<=l - h)=true by rw [decide_eq_true_eq];exact⟨a,b⟩]
   have a':¬l<h:=by omega
   have b':¬l - h<m:=by omega
   go_enter Tryz.func114,Tryz.ntmps114;go_wp2;go_ret;exact⟨rfl,rfl⟩
  rw [show decide (h<=l∧m<=l - h)=false by rw [decide_eq_false_iff_not];exact fun x=>b x.2]
  have a':¬l<h:=by omega
  have b':l - h<m:=by omega
  go_enter Tryz.func114,Tryz.ntmps114;go_wp2;go_ret;exact⟨rfl,rfl⟩
 rw [show decide (h<=l∧m<=l - h)=false by rw [decide_eq_false_iff_not];exact fun x=>a x.1]
 have a':l<h:=by omega
 go_enter Tryz.func114,Tryz.ntmps114;go_wp2;go_ret;exact⟨rfl,rfl⟩
theorem zAe (a n l:Int) (w:World) (h0:0<=l) (h1:l<=1048576):
  Calls Tryz.prog 92 #[.int .i64 a,.int .i64 n,.int .i64 l] w fun e w'=>e= .returned (if 0<=a∧a<=l then errV (decide (l<=8192∧n<=8192 - l)) 10 else errV false 2)∧w'=w:=by
 have HB:=hide (js a 0 l 2 w)
 have HR:=hide (roomG l n 8192 w h0 h1 (by omega))
 generalize decide (l<=8192∧n<=8192 - l)=rr at *
 by_cases h:0<=a∧a<=l
 ·rw [if_pos h]
  rw [show decide (0<=a∧a<=l)=true by rw [decide_eq_true_eq];exact h]at HB
  have e1:errV true 2= .nilIface:=rfl;rw [e1]at HB;generalize errV rr 10=ev at *;clear h;go_enter Tryz.func92,Tryz.ntmps92;go_wp2_with fail;refine HB.out.mono ?_;rintro e w1 ⟨rfl,rfl⟩;go_wp2_with fail;refine HR.out.mono ?_;rintro e w2 ⟨rfl,rfl⟩;go_wp2;go_ret;exact⟨rfl,rfl⟩
 rw [if_neg h]
 rw [show decide (0<=a∧a<=l)=false by rw [decide_eq_false_iff_not];exact h]at HB
 clear h HR;unfold errV at HB |-;go_enter Tryz.func92,Tryz.ntmps92;go_wp2_with fail;refine HB.out.mono ?_;rintro e w1 ⟨rfl,rfl⟩;go_wp2;go_ret;exact⟨rfl,rfl⟩
theorem XW (E:Nat) (sp n:Int) (w:World) (h:w.cell? ⟨E,15,none⟩=some (.int .i64 sp)) (hf:w.frozen? ⟨E,15,none⟩=false) (h0:0<=sp∧sp<=200000) (hn:0<=n∧n<=200000 - sp):
  Calls Tryz.prog 93 #[.pointer (some ⟨E,0,none⟩),.int .i64 n] w fun e w'=>e= .returned .nilIface∧w'=w.setCell ⟨E,15,none⟩ (.int .i64 (sp+n)):=by
 have HR:=hide (roomG sp n 200000 w h0.1 (by omega) (by omega))
 rw [show decide (sp<=200000∧n<=200000 - sp)=true by rw [decide_eq_true_eq];omega,show errV true 10= .nilIface from rfl]at HR
 go_enter Tryz.func93,Tryz.ntmps93;go_wp2_with fail;refine HR.out.mono ?_;rintro e w1 ⟨rfl,rfl⟩;go_wp2;go_ret;exact⟨rfl,rfl⟩
theorem bA {w x:World} (h:Below w.heap.size w x) (o:Obj):Below w.heap.size w (x.alloc o):=h.alloc h.size o
def mIns : Value := .func (.methodOf 93 "loop.example/s01685/impl.insert") #[] #[]
def mRem : Value := .func (.methodOf 93 "loop.example/s01685/impl.remove") #[] #[]
def fPush:Value:=.func (.func 124) #[] #[]
def fPull:Value:=.func (.func 125) #[] #[]
theorem Tryz.stF (ad:Addr) (m:Mode) (fn:Fn) (x y:Array Value) (W:World):(store ad (.func fn x y) m).run Tryz.prog W=stored Tryz.prog W ad (.func fn x y) m:=run_store Tryz.prog W ad (.func fn x y) m rfl
theorem Tryz.stN (ad:Addr) (m:Mode) (W:World):(store ad .nilFunc m).run Tryz.prog W=stored Tryz.prog W ad .nilFunc m:=run_store Tryz.prog W ad .nilFunc m rfl
theorem KS (off:Int) (a1 a2 a3:Option Addr) (l1 l2 l3 k1 k2 k3:Nat) (w:World):
  Calls Tryz.prog 105 #[.agg #[.int .i64 1,.int .i64 off,.slice a1 l1 k1,.slice a2 l2 k2,.slice a3 l3 k3]] w fun e w'=>e= .returned (.agg #[mIns,fPush,mRem,fPull])∧Below w.heap.size w w':=by
 have hsf:=Tryz.stF;have hsn:=Tryz.stN;unfold mIns mRem fPush fPull;go_enter Tryz.func105,Tryz.ntmps105;go_wp2
 refine bodyPost_ret (v:=.agg #[mIns,fPush,mRem,fPull]) (by simp [results,Tryz.results105,go_sem,mIns,fPush,mRem,fPull]) rfl ⟨rfl,?_⟩
 exact bA (bA (bA (bA (bA (Below.refl _ _) _) _) _) _) _
end Go.Proofs.YtibbhecojkehfaaGreatDoor
namespace Go.Proofs.YtibbhecojkehfaaGreatDoor
open Go Go.RowKit Go.Shelf Go.Sort Go.Lib
abbrev SV:=Option Addr×Nat×Nat
def encS (x:SV):Value:=.slice x.1 x.2.1 x.2.2
theorem enc_of:∀ {vs:List Value},(∀v∈vs,∃a l k,v= .slice a l k)->∃zs:List SV,zs.map encS=vs
 | [],_=>⟨[],rfl⟩
 | v::vs,h=>by
  obtain⟨a,l,k,rfl⟩:=h v (by simp)
  obtain⟨zs,rfl⟩:=enc_of (vs:=vs) (fun u hu=>h u (by simp [hu]))
  exact⟨(a,l,k)::zs,rfl⟩
theorem Tryz.infoGRP:(Tryz.prog.info? 129).map (fun i=>(i.zero,i.size,i.bytes))=some (some (.slice none 0 0),1,24):=by kernel_rfl
theorem delN (base g n cap:Nat) (vs:List Value) (w:World) (h:w.ownsRow base 129 1 (.slice (some ⟨g,0,none⟩) n cap) n vs) (hs:∀v∈vs,∃a l k,v= .slice a l k) (hn:1<=n):
  Calls Tryz.prog 144 #[.slice (some ⟨g,0,none⟩) n cap,.int .i64 0,.int .i64 1] w fun e w'=>e= .returned (.slice (some ⟨g,0,none⟩) (n - 1) cap)∧w'.ownsRow base 129 1 (.slice (some ⟨g,0,none⟩) (n - 1) cap) (n - 1) (vs.drop 1)∧ChgP w w' (fun q=>q=g):=by
 obtain⟨zs,rfl⟩:=enc_of hs
 obtain⟨g',cap',e,h1,h2,h3,h4,h5,hH⟩:=holds_of_ownsRow h (by intro e;cases e)
 simp only [Value.slice.injEq,Option.some.injEq,Addr.mk.injEq,and_true,true_and]at e;obtain⟨rfl,rfl⟩:=e;obtain⟨i0,hi0,hz0,hz1,hz2⟩:=info_parts Tryz.infoGRP
 have hc:=AnyE.slices_Delete Tryz.delG encS (fun x=>rfl) (none,0,0) (fun w=>by kernel_rfl) i0 hi0 hz1 g 0 cap 0 1 zs.toArray w hH (by simp;omega) (by unfold maxLen at h4;exact h4) (by omega) (by simp;omega)
 simp only [List.size_toArray,h5]at hc;refine hc.mono ?_;rintro e w' ⟨rfl,q,rfl⟩
 refine⟨rfl,?_,rfl,rfl,rfl,?_,fun k hk hn=>?_⟩
 ·have h9:=ownsRow_putRow (q:=q) (k:=n - 1) (ys:=zs.drop 1++ [((none,0,0):SV)]) h (by simp;omega) (by omega)
  rw [List.take_append_of_le_length (by simp;omega),List.take_of_length_le (by simp;omega)]at h9
  simp only [List.map_drop]at h9;simpa using h9
 ·simp [putRow,mapBlock,Sort.ahead]
 simp [putRow,mapBlock,Sort.ahead,Array.getElem?_modify,show g≠k from fun e=>hn e.symm]
end Go.Proofs.YtibbhecojkehfaaGreatDoor
