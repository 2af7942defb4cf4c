import Derived.Test.YtibbhecojkehfaaGreatDoorMq01
import Derived.Laws.Rows
import Derived.Deep.RegionWith
import Derived.Deep.Cut
import Derived.Deep.CutRange
import Derived.Deep.CutBlock
import Derived.Deep.DeepCutAuto
import Derived.Laws.AppendOwnNone
import Derived.Sort.Grow
import Derived.Lib.Small
import Derived.StillTailTactics
import Derived.Shelf.SlLaysF0
import Derived.Shelf.SlGeneric
import Derived.Ground.SlsfProg
import Derived.LaidEql
import Derived.Stop.Asserts
import Derived.RowKitTokens
set_option linter.all false
set_option maxRecDepth 100000
set_option maxHeartbeats 16000000
namespace Go.Proofs.YtibbhecojkehfaaGreatDoor
open Go Go.RowKit
structure ChgP (w w':World) (S:Nat->Prop):Prop where
 os:w'.os=w.os
 tape:w'.tape=w.tape
 output:w'.output=w.output
 size:w.heap.size<=w'.heap.size
 block:∀k,k<w.heap.size->¬S k->w'.heap[k]? =w.heap[k]?
theorem ChgP.reflS (w:World) (S:Nat->Prop):ChgP w w S:=⟨rfl,rfl,rfl,lR,fun _ _ _=>rfl⟩
theorem ChgP.allocS {w x:World} {S:Nat->Prop} (h:ChgP w x S) (o:Obj):ChgP w (x.alloc o) S:=
 ⟨h.os,h.tape,h.output,by have:=h.size;simp;omega,fun k hk hn=>(((Below.refl x.heap.size x).alloc lR o).block k (by have:=h.size;omega)).trans (h.block k hk hn)⟩
theorem ChgP.grownS {w x y:World} {S:Nat->Prop} {r:Option Nat} (h:ChgP w x S) (hg:x.grownBy y r) (hr:∀q,r=some q->S q∨w.heap.size<=q):ChgP w y S:=
 ⟨hg.os.trans h.os,hg.tape.trans h.tape,hg.output.trans h.output,Nat.le_trans h.size hg.size,fun k hk hn=>(hg.block k (by have:=h.size;omega) (fun e=>by rcases hr k e.symm with q | q;exact hn q;omega)).trans (h.block k hk hn)⟩
theorem ChgP.setS {w x:World} {S:Nat->Prop} (h:ChgP w x S) (p:Addr) (v:Value) (hp:S p.block∨w.heap.size<=p.block):ChgP w (x.setCell p v) S:=
 ⟨h.os,h.tape,h.output,by simp;exact h.size,fun k hk hn=>(heap_setCell_other x p k v (fun e=>by rcases hp with q | q;rw [<- e]at q;exact hn q;omega)).trans (h.block k hk hn)⟩
theorem ChgP.transS {w x y:World} {S T:Nat->Prop} (h:ChgP w x S) (h2:ChgP x y T) (hT:∀k,T k->S k∨w.heap.size<=k):ChgP w y S:=
 ⟨h2.os.trans h.os,h2.tape.trans h.tape,h2.output.trans h.output,Nat.le_trans h.size h2.size,fun k hk hn=>(h2.block k (by have:=h.size;omega) (fun t=>by rcases hT k t with q | q;exact hn q;omega)).trans (h.block k hk hn)⟩
theorem ChgP.belowS {w x y:World} {S:Nat->Prop} {B:Nat} (h:ChgP w x S) (hb:Below B x y) (hB:w.heap.size<=B):ChgP w y S:=
 ⟨hb.os.trans h.os,hb.tape.trans h.tape,hb.output.trans h.output,Nat.le_trans h.size hb.size,fun k hk hn=>(hb.block k (by omega)).trans (h.block k hk hn)⟩
theorem ChgP.of_below {w x:World} {S:Nat->Prop} {B:Nat} (hb:Below B w x) (hB:w.heap.size<=B):ChgP w x S:=(ChgP.reflS w S).belowS hb hB
theorem ChgP.sameS {w x y:World} {S:Nat->Prop} (h:ChgP w x S) (e:y.heap=x.heap) (eo:y.os=x.os) (et:y.tape=x.tape) (ep:y.output=x.output):ChgP w y S:=
 ⟨eo.trans h.os,et.trans h.tape,ep.trans h.output,by rw [e];exact h.size,fun k hk hn=>by rw [e];exact h.block k hk hn⟩
end Go.Proofs.YtibbhecojkehfaaGreatDoor
namespace Go.Proofs.YtibbhecojkehfaaGreatDoor

abbrev Mk:=Int×Int×Int
def bef (a b:Mk):Bool:=decide (a.2.1<b.2.1∨(a.2.1=b.2.1∧a.1<b.1))
def inI (m:Mk):Bool:=decide (-1000000000<=m.1∧m.1<=1000000000)&&decide (0<=m.2.2∧m.2.2<=1)
def inO (m:Mk):Bool:=decide (0<=m.2.1∧m.2.1<=8192)
def late (xs:List Mk) (m:Mk):Bool:=match xs.getLast? with
 | none=>false
 | some l=> !bef l m
def Vd (xs:List Mk):Prop:=xs.length<=128∧(∀x∈xs,inI x=true∧inO x=true)∧xs.Pairwise fun a b=>bef a b=true∧a.1≠b.1
theorem yu (a b:Mk):bef a b=true↔(a.2.1<b.2.1∨(a.2.1=b.2.1∧a.1<b.1)):=by simp [bef]
theorem Y0 {a b c:Mk} (h1:bef a b=true) (h2:bef b c=true):bef a c=true:=by rw [yu]at *;omega
theorem Zu (a:Mk):bef a a=false:=by simp [bef]
theorem Km {a b:Mk} (h:a.1≠b.1) (h1:bef a b=false):bef b a=true:=by
 have h2:¬ (a.2.1<b.2.1∨(a.2.1=b.2.1∧a.1<b.1)):=by rw [<- yu,h1];simp
 rw [yu];omega
theorem JM {xs ys:List Mk} (hp:xs.Perm ys) (hx:xs.Pairwise fun a b=>bef b a=false) (hy:ys.Pairwise fun a b=>bef b a=false) (hd:ys.Pairwise fun a b=>a.1≠b.1):xs=ys:=by
 refine List.Perm.eq_of_pairwise (le:=fun a b=>bef b a=false) (fun a b ha hb h1 h2=>?_) hx hy hp
 have ha':a∈ys:=hp.subset ha
 by_cases e:a=b
 ·exact e
 have hne:a.1≠b.1:=by
  obtain⟨i,hi,ei⟩:=List.getElem_of_mem ha';obtain⟨j,hj,ej⟩:=List.getElem_of_mem hb;subst ei ej
  rcases Nat.lt_trichotomy i j with q | q | q
  ·exact List.pairwise_iff_getElem.1 hd i j hi hj q
  ·subst q;exact absurd rfl e
  exact(List.pairwise_iff_getElem.1 hd j i hj hi q).symm
 rw [Km hne h2]at h1;cases h1
def minAt (xs:List Mk):Nat->Nat
 | 0=>0
 | i+1=>if bef (xs.getD i (0,0,0)) (xs.getD (minAt xs i) (0,0,0))=true then i else minAt xs i
theorem JN (xs : List Mk) (i : Nat) (h : i ≤ xs.length) (h0 : 0 < xs.length) : minAt xs i < xs.length := by
  induction i with
  | zero => exact h0
  | succ i ih => unfold minAt; split
                 · omega
                 exact ih (by omega)
theorem Ko (xs:List Mk) (i:Nat):∀j,j<i->bef (xs.getD j (0,0,0)) (xs.getD (minAt xs i) (0,0,0))=false:=by
 induction i with
 | zero=>intro j hj;omega
 | succ i ih=>
  intro j hj;unfold minAt
  split
  ·rename_i h
   by_cases e:j=i
   ·subst e;exact Zu _
   have h1:=ih j (by omega)
   cases h2:bef (xs.getD j (0,0,0)) (xs.getD i (0,0,0))with
   | false=>rfl
   | true=>rw [Y0 h2 h]at h1;cases h1
  rename_i h
  by_cases e:j=i
  ·subst e;simpa using h
  exact ih j (by omega)
def sel:Nat->List Mk->List Mk
 | 0,_=>[]
 | n+1,xs=>if xs= []then []else xs.getD (minAt xs xs.length) (0,0,0)::sel n (xs.eraseIdx (minAt xs xs.length))
theorem JO (n:Nat):∀xs:List Mk,xs.length<=n->(sel n xs).Perm xs:=by
 induction n with
 | zero=>intro xs h;obtain rfl:xs= []:=List.eq_nil_of_length_eq_zero (by omega);exact List.Perm.refl _
 | succ n ih=>
  intro xs h;unfold sel
  split
  ·rename_i e;rw [e]
  rename_i e
  have h0:0<xs.length:=by rcases xs with _ | ⟨a,b⟩<;>simp_all
  have hm:=JN xs xs.length lR h0
  have hl:(xs.eraseIdx (minAt xs xs.length)).length<=n:=by rw [List.length_eraseIdx,if_pos hm];omega
  refine(List.Perm.cons _ (ih _ hl)).trans ?_
  have e1:xs.getD (minAt xs xs.length) (0,0,0)=xs[minAt xs xs.length]:=by simp [List.getD_eq_getElem?_getD,hm]
  rw [e1];rw [List.eraseIdx_eq_take_drop_succ]
  have e2:xs=xs.take (minAt xs xs.length)++xs[minAt xs xs.length]::xs.drop (minAt xs xs.length+1):=by
   rw [<- List.drop_eq_getElem_cons hm,List.take_append_drop]
  exact(List.perm_middle).symm.trans (by rw [<- e2])
theorem XB (n:Nat):∀xs:List Mk,xs.length<=n->(sel n xs).Pairwise fun a b=>bef b a=false:=by
 induction n with
 | zero=>intro xs h;exact List.Pairwise.nil
 | succ n ih=>
  intro xs h;unfold sel
  split
  ·exact List.Pairwise.nil
  rename_i e
  have h0:0<xs.length:=by rcases xs with _ | ⟨a,b⟩<;>simp_all
  have hm:=JN xs xs.length lR h0
  have hl:(xs.eraseIdx (minAt xs xs.length)).length<=n:=by rw [List.length_eraseIdx,if_pos hm];omega
  refine List.pairwise_cons.2 ⟨fun b hb=>?_,ih _ hl⟩
  have hb':b∈xs:=List.mem_of_mem_eraseIdx ((JO n _ hl).subset hb);obtain⟨j,hj,rfl⟩:=List.getElem_of_mem hb';have:=Ko xs xs.length j hj
  rwa [show xs.getD j (0,0,0)=xs[j]by simp [List.getD_eq_getElem?_getD,hj]]at this
def srt (xs:List Mk):List Mk:=sel xs.length xs
theorem Zv (xs:List Mk):(srt xs).Perm xs:=JO _ xs lR
theorem XC (xs:List Mk):(srt xs).Pairwise fun a b=>bef b a=false:=XB _ xs lR
theorem srt_uniq {xs ys:List Mk} (hp:ys.Perm xs) (hs:ys.Pairwise fun a b=>bef b a=false) (hd:xs.Pairwise fun a b=>a.1≠b.1):ys=srt xs:=by
 refine JM (hp.trans (Zv xs).symm) hs (XC xs) ?_
 exact hd.perm (Zv xs).symm (fun h=>Ne.symm h)
theorem XD (xs:List Mk):(srt xs).length=xs.length:=(Zv xs).length_eq
end Go.Proofs.YtibbhecojkehfaaGreatDoor
namespace Go.Proofs.YtibbhecojkehfaaGreatDoor
open Go Go.RowKit
def mkV (x:Mk):List Value:=[.int .i64 x.1,.int .i64 x.2.1,.int .i64 x.2.2]
def mkA (x:Mk):Value:=.agg #[.int .i64 x.1,.int .i64 x.2.1,.int .i64 x.2.2]
def mkVs (xs:List Mk):List Value:=xs.flatMap mkV
theorem yL (xs:List Mk):(mkVs xs).length=xs.length*3:=by
 induction xs with
 | nil=>rfl
 | cons x xs ih=>simp only [mkVs,List.flatMap_cons,List.length_append]at ih |-;rw [ih];simp [mkV];omega
theorem jM (xs:List Mk) (i k:Nat) (x:Mk) (h:xs[i]? =some x) (hk:k<3):(mkVs xs)[i*3+k]? =(mkV x)[k]?:=by
 induction xs generalizing i with
 | nil=>simp at h
 | cons y ys ih=>
  cases i with
  | zero=>
   simp at h;subst h;simp only [mkVs,List.flatMap_cons,Nat.zero_mul,Nat.zero_add]
   rw [List.getElem?_append_left (by simp [mkV];omega)]
  | succ i=>
   simp only [List.getElem?_cons_succ]at h;have:=ih i h;simp only [mkVs,List.flatMap_cons]at this |-
   rw [List.getElem?_append_right (by simp [mkV];omega)]
   rw [<- this]
   congr 1
   simp [mkV];omega
theorem mkVs_one (xs:List Mk):∀u∈mkVs xs,u.oneCell'=true:=by
 intro u hu;simp only [mkVs,mkV,List.mem_flatMap,List.mem_cons,List.not_mem_nil,or_false]at hu
 obtain⟨x,_,h | h | h⟩:=hu<;>subst h<;>rfl
theorem mkVs_set (a:List Mk) (y x:Mk) (b:List Mk):(((mkVs (a++y::b)).set (a.length*3) (.int .i64 x.1)).set (a.length*3+1) (.int .i64 x.2.1)).set (a.length*3+2) (.int .i64 x.2.2)=mkVs (a++x::b):=by
 have e:∀z:Mk,mkVs (a++z::b)=mkVs a++([.int .i64 z.1,.int .i64 z.2.1,.int .i64 z.2.2]++mkVs b):=fun z=>by simp [mkVs,mkV]
 have hl:=yL a;rw [e,e]
 rw [List.set_append_right _ _ (by omega),List.set_append_right _ _ (by omega),List.set_append_right _ _ (by omega),hl]
 rw [Nat.sub_self,show a.length*3+1 - a.length*3=1 by omega,show a.length*3+2 - a.length*3=2 by omega]
 rfl
theorem Kq (a:List Mk) (y:Mk) (z:Int) (b:List Mk):(mkVs (a++y::b)).set (a.length*3+1) (.int .i64 z)=mkVs (a++(y.1,z,y.2.2)::b):=by
 have e:∀z:Mk,mkVs (a++z::b)=mkVs a++([.int .i64 z.1,.int .i64 z.2.1,.int .i64 z.2.2]++mkVs b):=fun z=>by simp [mkVs,mkV]
 have hl:=yL a
 rw [e,e,List.set_append_right _ _ (by omega),hl,show a.length*3+1 - a.length*3=1 by omega]
 rfl
def MkAt (w:World) (b o:Nat) (x:Mk):Prop:=
 w.cell? ⟨b,o,none⟩=some (.int .i64 x.1)∧w.cell? ⟨b,o+1,none⟩=some (.int .i64 x.2.1)∧w.cell? ⟨b,o+2,none⟩=some (.int .i64 x.2.2)
def RdM (B:Nat) (w:World) (v:Value) (xs:List Mk):Prop:=
 (∃ao cap,v= .slice ao 0 cap∧xs= [])∨
 (∃b off cap,v= .slice (some ⟨b,off,none⟩) xs.length cap∧(0<xs.length∧xs.length<=cap∧cap<=maxLen)∧b<B∧∀i x,xs[i]? =some x->MkAt w b (off+i*3) x)
theorem RdM.below {B B':Nat} {w w':World} {v:Value} {xs:List Mk} (h:RdM B w v xs) (hb:Below B' w w') (hB:B<=B'):RdM B w' v xs:=by
 rcases h with h | ⟨b,off,cap,hv,hp,hl,hc⟩
 ·exact .inl h
 refine .inr ⟨b,off,cap,hv,hp,hl,fun i x hx=>?_⟩
 have hk:∀o,w'.cell? ⟨b,o,none⟩=w.cell? ⟨b,o,none⟩:=fun o=>hb.cell (p:=⟨b,o,none⟩) (by show b<B';omega)
 have:=hc i x hx;unfold MkAt at this |-;rw [hk,hk,hk];exact this
theorem RdM.val {B:Nat} {w:World} {v:Value} {xs:List Mk} (h:RdM B w v xs):∃ao cap,v= .slice ao xs.length cap:=by
 rcases h with ⟨ao,cap,rfl,rfl⟩ | ⟨b,off,cap,rfl,_⟩
 ·exact⟨_,_,rfl⟩
 exact⟨_,_,rfl⟩
theorem RdM.at {B:Nat} {w:World} {v:Value} {xs:List Mk} (h:RdM B w v xs) (h0:xs≠ []):∃b off cap,v= .slice (some ⟨b,off,none⟩) xs.length cap∧(0<xs.length∧xs.length<=cap∧cap<=maxLen)∧b<B∧∀i x,xs[i]? =some x->MkAt w b (off+i*3) x:=by
 rcases h with ⟨ao,cap,rfl,rfl⟩ | h
 ·exact absurd rfl h0
 exact h
def OwM (w:World) (base:Nat) (v:Value) (xs:List Mk):Prop:=w.ownsRow base 208 3 v xs.length (mkVs xs)
theorem OwM.rd {w:World} {base:Nat} {v:Value} {xs:List Mk} (h:OwM w base v xs):RdM w.heap.size w v xs:=by
 unfold OwM at h;have hlt:=h.lt
 rcases h.2 with ⟨hv,hn⟩ | ⟨g,cap,cur,hv,hrest⟩
 ·left;exact⟨none,0,by rw [hv],by apply List.eq_nil_of_length_eq_zero;omega⟩
 obtain⟨hb,hg,hcap,hcm,hsz,htk⟩:=hrest;subst hv;have hgl:=(hlt g rfl).2
 by_cases h0:xs.length=0
 ·left;rw [h0];exact⟨_,_,rfl,by apply List.eq_nil_of_length_eq_zero;exact h0⟩
 right
 refine⟨g,0,cap,rfl,⟨by omega,hcap,hcm⟩,hgl,fun i x hx=>?_⟩
 have hil:i<xs.length:=by
  rcases Nat.lt_or_ge i xs.length with q | q
  ·exact q
  rw [List.getElem?_eq_none q]at hx;cases hx
 have key:∀k,k<3->w.cell? ⟨g,i*3+k,none⟩=(mkV x)[k]?:=fun k hk=>by
  rw [cell_of_row w g _ _ _ _ hg,<- jM xs i k x hx hk,<- htk,List.getElem?_take,if_pos (by omega)]
  simp
 have k0:=key 0 (by omega)
 have k1:=key 1 (by omega)
 have k2:=key 2 (by omega)
 simp only [Nat.zero_add];exact⟨k0,k1,k2⟩
theorem OwM.below {w w':World} {base B:Nat} {v:Value} {xs:List Mk} (h:OwM w base v xs) (hb:Below B w w') (hB:w.heap.size<=B):OwM w' base v xs:=zF h hb hB
theorem OwM.base {w:World} {base base':Nat} {v:Value} {xs:List Mk} (h:OwM w base v xs) (hb:base'<=base):OwM w base' v xs:=zG h hb
theorem OwM.shape {w:World} {base:Nat} {v:Value} {xs:List Mk} (h:OwM w base v xs):(v= .slice none 0 0∧xs= [])∨∃g cap,v= .slice (some ⟨g,0,none⟩) xs.length cap∧xs.length<=cap∧cap<=maxLen∧base<=g∧g<w.heap.size:=by
 rcases h.2 with ⟨h1,h2⟩ | ⟨g,cap,cur,h1,h2,h3,h4,h5,_⟩
 ·exact .inl ⟨h1,List.eq_nil_of_length_eq_zero h2⟩
 exact .inr ⟨g,cap,h1,h4,h5,h2,(h.lt g (by rw [h1];rfl)).2⟩
theorem OwM.cells {w:World} {base g cap:Nat} {xs:List Mk} (h:OwM w base (.slice (some ⟨g,0,none⟩) xs.length cap) xs):∀j u,(mkVs xs)[j]? =some u->w.cell? ((⟨g,0,none⟩:Addr).add j)=some u:=by
 intro j u hj
 have h1:=h.cellAt j (by have:=(List.getElem?_eq_some_iff.1 hj).1;rw [yL]at this;omega)
 rw [Addr.add_lit,Nat.zero_add,h1,hj]
theorem OwM.val {w:World} {base:Nat} {v:Value} {xs:List Mk} (h:OwM w base v xs):∃ao cap,v= .slice ao xs.length cap:=h.rd.val
theorem mkAt_of {w:World} {b off:Nat} {xs:List Mk} (h:∀i x,xs[i]? =some x->MkAt w b (off+i*3) x) {j:Nat} (hj:j<xs.length):∃x,xs[j]? =some x∧MkAt w b (off+j*3) x:=
 ⟨xs[j],by simp [hj],h j _ (by simp [hj])⟩
theorem Kr {w:World} {base g cap n:Nat} {e:TypeId} {xs:List Value} (h:w.ownsRow base e 3 (.slice (some ⟨g,0,none⟩) n cap) n xs) (j:Nat) (hj:j<n*3):∃v,w.cell? ⟨g,j,none⟩=some v:=by
 have h1:=h.cellAt j hj;have hl:=h.1
 refine⟨xs[j]'(by omega),?_⟩
 rw [h1,List.getElem?_eq_getElem (by omega)]
theorem own_rowM {w:World} {base:Nat} {e:TypeId} {size:Nat} {v:Value} {n:Nat} {xs:List Value} (h:w.ownsRow base e size v n xs):∀q,v.ownBlock=some q->base<=q:=fun q hq=>(h.lt q hq).1
theorem Tryz.infoMK:(Tryz.prog.info? 208).map (fun i=>(i.zero,i.size,i.bytes))=some (some (.agg #[.int .i64 0,.int .i64 0,.int .i64 0]),3,24):=by kernel_rfl
def At32 (w:World) (b o:Nat) (zs:List Int):Prop:=∀i,i<zs.length->w.cell? ⟨b,o+i,none⟩=some (.int .i32 (zs.getD i 0))
theorem At32.below {B:Nat} {w w':World} {b o:Nat} {zs:List Int} (h:At32 w b o zs) (hb:Below B w w') (hB:b<B):At32 w' b o zs:=fun i hi=>(hb.cell (p:=⟨b,o+i,none⟩) hB).trans (h i hi)
def own32 (w:World) (base:Nat) (v:Value) (zs:List Int):Prop:=w.ownsRow base 21 1 v zs.length (ints .i32 zs)
theorem Tryz.info32T:(Tryz.prog.info? 21).map (fun i=>(i.zero,i.size,i.bytes))=some (some (.int .i32 0),1,4):=by kernel_rfl
theorem Ks {W:World} {base:Nat} {v:Value} {E F:List Int} {n m:Nat} (hn:E.length=n) (hm:F.length=m) (h:W.ownsRow base 21 1 v (n+m) (ints .i32 E++ints .i32 F)):own32 W base v (E++F):=by
 unfold own32;rw [List.length_append,hn,hm,yI];exact h
theorem yS {w:World} {base:Nat} {v:Value} {zs:List Int} (h:own32 w base v zs):∃ao cap,v= .slice ao zs.length cap:=by
 rcases h.2 with ⟨rfl,h0⟩ | ⟨g,cap,cur,rfl,_⟩
 ·exact⟨none,0,by rw [h0]⟩
 exact⟨_,_,rfl⟩
theorem At32.app {w:World} {b o:Nat} {zs:List Int} (h:At32 w b o zs) (p l:Nat) (hp:p+l<=zs.length):∀j u,(ints .i32 ((zs.drop p).take l))[j]? =some u->w.cell? ((⟨b,o+p,none⟩:Addr).add j)=some u:=by
 intro j u hj
 have hjl:j<l:=by
  rcases Nat.lt_or_ge j l with q | q
  ·exact q
  rw [List.getElem?_eq_none (by simp [ints];omega)]at hj;cases hj
 have e:((zs.drop p).take l)[j]? =some (zs.getD (p+j) 0):=by
  rw [List.getElem?_take,if_pos hjl,List.getElem?_drop]
  simp [List.getD_eq_getElem?_getD,List.getElem?_eq_getElem (show p+j<zs.length by omega)]
 simp only [ints,List.getElem?_map,e,Option.map_some,Option.some.injEq]at hj;subst hj
 have h9:=h (p+j) (by omega)
 rw [<- Nat.add_assoc]at h9;rw [jH];exact h9
theorem own32_at {w:World} {base g cap:Nat} {zs:List Int} (h:own32 w base (.slice (some ⟨g,0,none⟩) zs.length cap) zs):At32 w g 0 zs:=by
 intro i hi
 have:=h.cellAt i (by omega)
 rw [Nat.zero_add,this];simp [ints,List.getElem?_eq_getElem hi]
def brk (zs:List Int):Int:=((zs.filter fun z=>z==10).length:Nat)
theorem brk_bd (zs:List Int):0<=brk zs∧brk zs<=zs.length:=by
 unfold brk
 exact⟨by omega,by have:=List.length_filter_le (fun z:Int=>z==10) zs;omega⟩
theorem brk_snoc (zs:List Int) (k:Nat) (h:k<zs.length):brk (zs.take (k+1))=brk (zs.take k)+if zs.getD k 0=10 then 1 else 0:=by
 have e:zs.getD k 0=zs[k]:=by simp [List.getD_eq_getElem?_getD,h]
 rw [e,List.take_succ_eq_append_getElem h];unfold brk;rw [List.filter_append]
 by_cases hz:zs[k]=10
 ·rw [if_pos hz];simp [hz]
 rw [if_neg hz];simp [hz]
end Go.Proofs.YtibbhecojkehfaaGreatDoor
namespace Go.Proofs.YtibbhecojkehfaaGreatDoor
open Go Go.RowKit Go.Lib Go.Sort
def orI (p q:Int):Int:=if p=0 then q else p
def cmpM (a b:Mk):Int:=orI (compareInt a.2.1 b.2.1) (compareInt a.1 b.1)
theorem JP (a b:Mk):(cmpM a b<0)↔bef a b=true:=by
 rw [yu];unfold cmpM orI compareInt
 repeat' split
 all_goals omega
theorem JQ (x y:Int) (w:World):Calls Tryz.prog 135 #[.int .i64 x,.int .i64 y] w fun e w'=>e= .returned (.int .i64 (compareInt x y))∧w'=w:=by
 unfold compareInt
 have hx:(x != x)=false:=by simp
 have hy:(y != y)=false:=by simp
 by_cases h1:x<y
 ·rw [if_pos h1]
  go_enter Tryz.func135,Tryz.ntmps135;go_wp2;go_ret;exact⟨rfl,rfl⟩
 rw [if_neg h1]
 by_cases h2:x > y
 ·rw [if_pos h2]
  have h2':y<x:=h2;go_enter Tryz.func135,Tryz.ntmps135;go_wp2;go_ret;exact⟨rfl,rfl⟩
 rw [if_neg h2];have h2':¬y<x:=h2;go_enter Tryz.func135,Tryz.ntmps135;go_wp2;go_ret;exact⟨rfl,rfl⟩
theorem orL (p q:Int) (B:Nat) (w:World) (h0:w.cell? ⟨B,0,none⟩=some (.int .i64 p)) (h1:w.cell? ⟨B,1,none⟩=some (.int .i64 q)):
  Calls Tryz.prog 134 #[.slice (some ⟨B,0,none⟩) 2 2] w fun e w'=>e= .returned (.int .i64 (orI p q))∧w'=w:=by
 unfold orI
 by_cases hp:p=0
 ·subst hp
  have z0:((0:Int) != 0)=false:=by decide
  rw [if_pos rfl]
  by_cases hq:q=0
  ·subst hq
   go_enter Tryz.func134,Tryz.ntmps134;go_wp2;refine wp_loop_rounds 3 ?_;rw [rounds_succ];go_wp2;rw [rounds_succ];go_wp2;rw [rounds_succ];go_wp2;go_ret;exact⟨rfl,rfl⟩
  have hq':(q != 0)=true:=by simpa using hq
  go_enter Tryz.func134,Tryz.ntmps134;go_wp2;refine wp_loop_rounds 2 ?_;rw [rounds_succ];go_wp2;rw [rounds_succ];go_wp2;go_ret;exact⟨rfl,rfl⟩
 have hp':(p != 0)=true:=by simpa using hp
 rw [if_neg hp];go_enter Tryz.func134,Tryz.ntmps134;go_wp2;refine wp_loop_rounds 1 ?_;rw [rounds_succ];go_wp2;go_ret;exact⟨rfl,rfl⟩
theorem mixedM:Tryz.prog.follows .mixedOrders=true:=by kernel_rfl
theorem byPlaceL (x y:Mk) (w:World):Calls Tryz.prog 119 #[mkA x,mkA y] w fun e w'=>e= .returned (.int .i64 (cmpM x y))∧∃q os',w'=grow (w.drewN q) os':=by
 unfold mkA cmpM
 have hk0:((w.alloc (.cells #[.int .i64 x.1,.int .i64 x.2.1,.int .i64 x.2.2] 208)).alloc (.cells #[.int .i64 y.1,.int .i64 y.2.1,.int .i64 y.2.2] 208)).heap[w.heap.size]? =some (.cells #[.int .i64 x.1,.int .i64 x.2.1,.int .i64 x.2.2] 208 (0,0)):=by
  rw [Below.heap_alloc _ _ _ (by simp)];exact heap_alloc_new _ _
 have hk1:((w.alloc (.cells #[.int .i64 x.1,.int .i64 x.2.1,.int .i64 x.2.2] 208)).alloc (.cells #[.int .i64 y.1,.int .i64 y.2.1,.int .i64 y.2.2] 208)).heap[w.heap.size+1]? =some (.cells #[.int .i64 y.1,.int .i64 y.2.1,.int .i64 y.2.2] 208 (0,0)):=by
  have:=heap_alloc_new (w.alloc (.cells #[.int .i64 x.1,.int .i64 x.2.1,.int .i64 x.2.2] 208)) (.cells #[.int .i64 y.1,.int .i64 y.2.1,.int .i64 y.2.2] 208);simpa using this
 have hs0:((w.alloc (.cells #[.int .i64 x.1,.int .i64 x.2.1,.int .i64 x.2.2] 208)).alloc (.cells #[.int .i64 y.1,.int .i64 y.2.1,.int .i64 y.2.2] 208)).heap.size=w.heap.size+2:=by simp
 have HW:Hid (((w.alloc (.cells #[.int .i64 x.1,.int .i64 x.2.1,.int .i64 x.2.2] 208)).alloc (.cells #[.int .i64 y.1,.int .i64 y.2.1,.int .i64 y.2.2] 208))=grow w #[.cells #[.int .i64 x.1,.int .i64 x.2.1,.int .i64 x.2.2] 208,.cells #[.int .i64 y.1,.int .i64 y.2.1,.int .i64 y.2.2] 208]):=by
  refine hide ?_;rw [alloc_eq_grow,alloc_eq_grow,grow_grow];rfl
 go_enter Tryz.func119,Tryz.ntmps119;go_wp2_with fail;generalize (w.alloc (.cells #[.int .i64 x.1,.int .i64 x.2.1,.int .i64 x.2.2] 208)).alloc (.cells #[.int .i64 y.1,.int .i64 y.2.1,.int .i64 y.2.2] 208)=w0 at *
 have c1:w0.cell? ⟨w.heap.size,1,none⟩=some (.int .i64 x.2.1):=by rw [cell_of_row w0 _ 1 _ _ _ hk0];rfl
 have c0:w0.cell? ⟨w.heap.size,0,none⟩=some (.int .i64 x.1):=by rw [cell_of_row w0 _ 0 _ _ _ hk0];rfl
 have d1:w0.cell? ⟨w.heap.size+1,1,none⟩=some (.int .i64 y.2.1):=by rw [cell_of_row w0 _ 1 _ _ _ hk1];rfl
 have d0:w0.cell? ⟨w.heap.size+1,0,none⟩=some (.int .i64 y.1):=by rw [cell_of_row w0 _ 0 _ _ _ hk1];rfl
 clear hk0 hk1
 refine wp_region_still_tail 10 mixedM (by kernel_rfl) ?_
 simp only [List.take_succ_cons,List.take_zero,List.drop_succ_cons,List.drop_zero]
 still_step
 still_step
 still_step
 still_step
 still_call (JQ _ _ _)
 still_step
 still_step
 still_step
 still_step
 still_call (JQ _ _ _)
 refine wpStill_nil ?_;go_wp2_with fail
 refine(orL (compareInt x.2.1 y.2.1) (compareInt x.1 y.1) _ _ (by show(World.alloc _ _).cell? _=_;rw [World.cell?_alloc_at _ _ _ _ (by simp [hs0])];rfl) (by show(World.alloc _ _).cell? _=_;rw [World.cell?_alloc_at _ _ _ _ (by simp [hs0])];rfl)).mono ?_
 rintro e w1 ⟨rfl,rfl⟩;go_wp2_with fail;go_ret;refine⟨rfl,1,#[.cells #[.int .i64 x.1,.int .i64 x.2.1,.int .i64 x.2.2] 208,.cells #[.int .i64 y.1,.int .i64 y.2.1,.int .i64 y.2.2] 208,.cells #[.int .i64 (compareInt x.2.1 y.2.1),.int .i64 (compareInt x.1 y.1)] 3],?_⟩;rw [alloc_eq_grow,HW.out,grow_grow];rfl
end Go.Proofs.YtibbhecojkehfaaGreatDoor
namespace Go.Proofs.YtibbhecojkehfaaGreatDoor
open Go.Shelf
def Tryz.sortM_ren:Go.Shelf.Ren:=⟨fun | 6=>143 | 15=>149 | 14=>148 | 28=>158 | 29=>159 | 20=>150 | 21=>151 | 22=>152 | 23=>153 | 24=>154 | 25=>155 | 26=>156 | 27=>157 | 46=>160 | 47=>161 | 48=>162 | 49=>163 | 50=>164 | 57=>165 | n=>n,fun | 22=>35 | 24=>208 | 25=>243 | 3=>3 | 39=>63 | 0=>0 | 53=>285 | 55=>60 | 4=>4 | 46=>279 | 45=>278 | 50=>241 | 5=>5 | 9=>9 | 66=>287 | 70=>291 | 76=>293 | 77=>200 | n=>n,fun | n=>n⟩
theorem Tryz.sortM:Go.Proofs.SlLaysF0.n6 Tryz.prog Tryz.sortM_ren:={
 mixed:=by kernel_rfl
 f6:=⟨Tryz.f143.name,by decide,Tryz.func143.trans (congrArg some (by kernel_rfl))⟩
 f14:=⟨Tryz.f148.name,by decide,Tryz.func148.trans (congrArg some (by kernel_rfl))⟩
 f15:=Tryz.func149.trans (congrArg some (by kernel_rfl))
 f20:=⟨Tryz.f150.name,by decide,Tryz.func150.trans (congrArg some (by kernel_rfl))⟩
 f21:=⟨Tryz.f151.name,by decide,Tryz.func151.trans (congrArg some (by kernel_rfl))⟩
 f22:=⟨Tryz.f152.name,by decide,Tryz.func152.trans (congrArg some (by kernel_rfl))⟩
 f23:=⟨Tryz.f153.name,by decide,Tryz.func153.trans (congrArg some (by kernel_rfl))⟩
 f24:=⟨Tryz.f154.name,by decide,Tryz.func154.trans (congrArg some (by kernel_rfl))⟩
 f25:=⟨Tryz.f155.name,by decide,Tryz.func155.trans (congrArg some (by kernel_rfl))⟩
 f26:=⟨Tryz.f156.name,by decide,Tryz.func156.trans (congrArg some (by kernel_rfl))⟩
 f27:=⟨Tryz.f157.name,by decide,Tryz.func157.trans (congrArg some (by kernel_rfl))⟩
 f28:=Tryz.func158.trans (congrArg some (by kernel_rfl))
 f29:=Tryz.func159.trans (congrArg some (by kernel_rfl))
 f46:=⟨Tryz.f160.name,by decide,Tryz.func160.trans (congrArg some (by kernel_rfl))⟩
 f47:=Tryz.func161.trans (congrArg some (by kernel_rfl))
 f48:=Tryz.func162.trans (congrArg some (by kernel_rfl))
 f49:=⟨Tryz.f163.name,by decide,Tryz.func163.trans (congrArg some (by kernel_rfl))⟩
 f50:=⟨Tryz.f164.name,by decide,Tryz.func164.trans (congrArg some (by kernel_rfl))⟩
 f57:=⟨Tryz.f165.name,by decide,Tryz.func165.trans (congrArg some (by kernel_rfl))⟩
 t0:=Tryz.underlying0
 a0:=Tryz.isAgg0
 z0:=Tryz.sizeOf0
 v0:=Tryz.zeroValue0
 t3:=Tryz.underlying3
 a3:=Tryz.isAgg3
 z3:=Tryz.sizeOf3
 v3:=Tryz.zeroValue3
 t4:=Tryz.underlying4
 a4:=Tryz.isAgg4
 z4:=Tryz.sizeOf4
 v4:=Tryz.zeroValue4
 t5:=Tryz.underlying5
 a5:=Tryz.isAgg5
 z5:=Tryz.sizeOf5
 v5:=Tryz.zeroValue5
 t9:=Tryz.underlying9
 a9:=Tryz.isAgg9
 z9:=Tryz.sizeOf9
 v9:=Tryz.zeroValue9
 t22:=Tryz.underlying35
 a22:=Tryz.isAgg35
 z22:=Tryz.sizeOf35
 v22:=Tryz.zeroValue35
 t25:=Tryz.underlying243
 a25:=Tryz.isAgg243
 z25:=Tryz.sizeOf243
 v25:=Tryz.zeroValue243
 t39:=Tryz.underlying63
 a39:=Tryz.isAgg63
 z39:=Tryz.sizeOf63
 v39:=Tryz.zeroValue63
 t45:=Tryz.underlying278
 a45:=Tryz.isAgg278
 z45:=Tryz.sizeOf278
 v45:=Tryz.zeroValue278
 t46:=Tryz.underlying279
 a46:=Tryz.isAgg279
 z46:=Tryz.sizeOf279
 v46:=Tryz.zeroValue279
 t50:=Tryz.underlying241
 a50:=Tryz.isAgg241
 z50:=Tryz.sizeOf241
 v50:=Tryz.zeroValue241
 t53:=Tryz.underlying285
 a53:=Tryz.isAgg285
 z53:=Tryz.sizeOf285
 v53:=Tryz.zeroValue285
 t55:=Tryz.underlying60
 a55:=Tryz.isAgg60
 z55:=Tryz.sizeOf60
 v55:=Tryz.zeroValue60
 t66:=Tryz.underlying287
 a66:=Tryz.isAgg287
 z66:=Tryz.sizeOf287
 v66:=Tryz.zeroValue287
 t70:=Tryz.underlying291
 a70:=Tryz.isAgg291
 z70:=Tryz.sizeOf291
 v70:=Tryz.zeroValue291
 t76:=Tryz.underlying293
 a76:=Tryz.isAgg293
 z76:=Tryz.sizeOf293
 v76:=Tryz.zeroValue293
 t77:=Tryz.underlying200
 a77:=Tryz.isAgg200
 z77:=Tryz.sizeOf200
 v77:=Tryz.zeroValue200}
end Go.Proofs.YtibbhecojkehfaaGreatDoor
namespace Go.Proofs.YtibbhecojkehfaaGreatDoor
open Go Go.RowKit
def pushF (off n:Int) (m:Mk):Int:=if m.2.1 > off∨(m.2.1=off∧m.2.2=1)then m.2.1+n else m.2.1
def pullF (off n:Int) (m:Mk):Int:=if m.2.1 > off then max off (m.2.1 - n)else m.2.1
def mov (f:Mk->Int) (m:Mk):Mk:=(m.1,f m,m.2.2)
theorem movs_set (f:Mk->Int) (xs:List Mk) (k:Nat) (x:Mk) (h:xs[k]? =some x):(mkVs ((xs.take k).map (mov f)++xs.drop k)).set (k*3+1) (.int .i64 (f x))=mkVs ((xs.take (k+1)).map (mov f)++xs.drop (k+1)):=by
 have hk:k<xs.length:=(List.getElem?_eq_some_iff.1 h).1
 have e:xs.drop k=x::xs.drop (k+1):=by
  rw [List.drop_eq_getElem_cons hk];have:=List.getElem?_eq_some_iff.1 h;rw [this.2]
 have hl:((xs.take k).map (mov f)).length=k:=by simp;omega
 have s:=Kq ((xs.take k).map (mov f)) x (f x) (xs.drop (k+1));rw [hl]at s;rw [e,s,List.take_add_one,h];simp [mov]
end Go.Proofs.YtibbhecojkehfaaGreatDoor
namespace Go.Proofs.YtibbhecojkehfaaGreatDoor
open Go.RowKit Go.Extern.Stop Go.Stop Go.Extern
theorem Tryz.valueOfP (t:Addr) (w:World):(ReflectliteValue.unpack (.iface 97 (.pointer (some t)))).run Tryz.prog w
  = .ok (.agg #[.pointer (some ⟨2,97,none⟩),.pointer (some ⟨w.heap.size,0,none⟩),.int .u64 150]) (w.alloc (.cells #[.pointer (some t)] 97)):=by kernel_rfl
theorem Tryz.typeP (a : Addr) (w : World) : (ReflectliteValue.methodAny (ReflectliteValue.valueError "reflectlite.Value.Type" 0) (fun t _ _ _ => ReflectliteType.toType t) #[.agg #[.pointer (some ⟨2, 97, none⟩), .pointer (some a), .int .u64 150]]).run Tryz.prog w
  = .ok (.iface 175 (.agg #[.pointer (some ⟨2,97,none⟩)])) w:=by kernel_rfl
theorem Tryz.kindP (w:World):((ReflectliteType.abiMethod fun t=>(fun a:Nat=>Value.int IntKind.u8 (a:Int)) <$> Rtype.kind t) #[.pointer (some ⟨2,97,none⟩)]).run Tryz.prog w= .ok (.int .u8 22) w:=by kernel_rfl
theorem Tryz.kindF (w:World):((ReflectliteType.abiMethod fun t=>(fun a:Nat=>Value.int IntKind.u8 (a:Int)) <$> Rtype.kind t) #[.pointer (some ⟨2,95,none⟩)]).run Tryz.prog w= .ok (.int .u8 2) w:=by kernel_rfl
theorem Tryz.partsP (a:Addr) (w:World):(ReflectliteValue.parts (.agg #[.pointer (some ⟨2,97,none⟩),.pointer (some a),.int .u64 150])).run Tryz.prog w= .ok (some (97,a,150)) w:=by kernel_rfl
theorem Tryz.elemP (w:World):(ReflectliteType.method ReflectliteType.elem #[.agg #[.pointer (some ⟨2,97,none⟩)]]).run Tryz.prog w= .ok (.iface 175 (.agg #[.pointer (some ⟨2,95,none⟩)])) w:=by kernel_rfl
theorem Tryz.implementsF (w : World) : (ReflectliteType.relation "Implements" ReflectliteType.implements_ #[.agg #[.pointer (some ⟨2, 95, none⟩)], .iface 175 (.agg #[.pointer (some ⟨2, 67, none⟩)])]).run Tryz.prog w = .ok (.bool true) w := by kernel_rfl
theorem Tryz.typeOfW (v:Value) (w:World):(ReflectliteType.typeOf #[.iface 116 v]).run Tryz.prog w= .ok (.iface 175 (.agg #[.pointer (some ⟨2,116,none⟩)])) w:=by kernel_rfl
theorem Tryz.typeOfF (v:Value) (w:World):(ReflectliteType.typeOf #[.iface 95 v]).run Tryz.prog w= .ok (.iface 175 (.agg #[.pointer (some ⟨2,95,none⟩)])) w:=by kernel_rfl
theorem Tryz.assignableW (w : World) : (ReflectliteType.relation "AssignableTo" ReflectliteType.assignableTo #[.agg #[.pointer (some ⟨2, 116, none⟩)], .iface 175 (.agg #[.pointer (some ⟨2, 95, none⟩)])]).run Tryz.prog w = .ok (.bool false) w := by kernel_rfl
theorem Tryz.assignableF (w : World) : (ReflectliteType.relation "AssignableTo" ReflectliteType.assignableTo #[.agg #[.pointer (some ⟨2, 95, none⟩)], .iface 175 (.agg #[.pointer (some ⟨2, 95, none⟩)])]).run Tryz.prog w = .ok (.bool true) w := by kernel_rfl
theorem Tryz.valueOfF (n:Int) (w:World):(ReflectliteValue.unpack (.iface 95 (.int .i64 n))).run Tryz.prog w
  = .ok (.agg #[.pointer (some ⟨2,95,none⟩),.pointer (some ⟨w.heap.size,0,none⟩),.int .u64 130]) (w.alloc (.cells #[.int .i64 n] 95)):=by kernel_rfl
theorem Tryz.elemOfP (w:World):(Rtype.elem? 97).run Tryz.prog w= .ok (some 95) w:=by kernel_rfl
theorem Tryz.mkF (p:Addr) (w:World):(ReflectliteValue.mk 95 p ReflectliteValue.flagAddr).run Tryz.prog w= .ok (.agg #[.pointer (some ⟨2,95,none⟩),.pointer (some p),.int .u64 386]) w:=by kernel_rfl
theorem Tryz.partsFa (a:Addr) (w:World):(ReflectliteValue.parts (.agg #[.pointer (some ⟨2,95,none⟩),.pointer (some a),.int .u64 386])).run Tryz.prog w= .ok (some (95,a,386)) w:=by kernel_rfl
theorem Tryz.partsF (a:Addr) (w:World):(ReflectliteValue.parts (.agg #[.pointer (some ⟨2,95,none⟩),.pointer (some a),.int .u64 130])).run Tryz.prog w= .ok (some (95,a,130)) w:=by kernel_rfl
theorem Tryz.directF (w:World):(Rtype.directlyAssignable 95 95).run Tryz.prog w= .ok true w:=by kernel_rfl
theorem Tryz.isNilP (a p:Addr) (W:World) (ha:W.cell? a=some (.pointer (some p))):
  (ReflectliteValue.method (ReflectliteValue.valueError "reflectlite.Value.IsNil" 0) ReflectliteValue.isNil #[.agg #[.pointer (some ⟨2, 97, none⟩), .pointer (some a), .int .u64 150]]).run Tryz.prog W = .ok (.bool false) W := by
 show(Bind.bind (ReflectliteValue.parts (.agg #[.pointer (some ⟨2,97,none⟩),.pointer (some a),.int .u64 150])) _:Sem Value).run Tryz.prog W=_
 simp only [Sem.run_bind,Tryz.partsP,Result.andThen];simp [ReflectliteValue.isNil,loadVar,isAgg,underlying,Tryz.underlying97,ha,Result.andThen]
theorem Tryz.elemVP (a p:Addr) (W:World) (ha:W.cell? a=some (.pointer (some p))):
  (ReflectliteValue.method (ReflectliteValue.valueError "reflectlite.Value.Elem" 0) ReflectliteValue.elem #[.agg #[.pointer (some ⟨2, 97, none⟩), .pointer (some a), .int .u64 150]]).run Tryz.prog W
   = .ok (.agg #[.pointer (some ⟨2,95,none⟩),.pointer (some p),.int .u64 386]) W:=by
 show(Bind.bind (ReflectliteValue.parts (.agg #[.pointer (some ⟨2,97,none⟩),.pointer (some a),.int .u64 150])) _:Sem Value).run Tryz.prog W=_
 simp only [Sem.run_bind,Tryz.partsP,Result.andThen];simp [ReflectliteValue.elem,loadVar,isAgg,underlying,Tryz.underlying97,ha,Result.andThen,Tryz.elemOfP,Tryz.mkF]
theorem Tryz.setF (ta b:Addr) (n:Int) (old:Value) (W:World) (hb:W.cell? b=some (.int .i64 n)) (ht:W.cell? ta=some old) (hf:W.frozen? ta=false):
  (ReflectliteValue.set #[.agg #[.pointer (some ⟨2,95,none⟩),.pointer (some ta),.int .u64 386],.agg #[.pointer (some ⟨2,95,none⟩),.pointer (some b),.int .u64 130]]).run Tryz.prog W
   = .ok (.tuple #[]) (W.setCell ta (.int .i64 n)):=by
 show(Bind.bind (ReflectliteValue.parts (.agg #[.pointer (some ⟨2,95,none⟩),.pointer (some ta),.int .u64 386])) _:Sem Value).run Tryz.prog W=_
 rw [Sem.run_bind,Tryz.partsFa];simp only [Result.andThen]
 show(Bind.bind (ReflectliteValue.parts (.agg #[.pointer (some ⟨2,95,none⟩),.pointer (some b),.int .u64 130])) _:Sem Value).run Tryz.prog W=_
 rw [Sem.run_bind,Tryz.partsF];simp only [Result.andThen];simp [ReflectliteValue.flagAddr,loadVar,isAgg,underlying,Tryz.underlying95,hb,Result.andThen,Tryz.directF,storeVar,Value.cells,storeCells,Addr.add]
 rw [run_store Tryz.prog W ta _ _ (by rfl)]
 simp [ht,hf]
end Go.Proofs.YtibbhecojkehfaaGreatDoor
