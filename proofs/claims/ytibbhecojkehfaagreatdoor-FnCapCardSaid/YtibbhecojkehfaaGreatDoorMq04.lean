import Derived.Test.YtibbhecojkehfaaGreatDoorMq02
import Derived.Lib.SliceRun
import Derived.Deep.RegionLaw
set_option linter.all false
set_option maxRecDepth 100000
set_option maxHeartbeats 16000000
namespace Go.Proofs.YtibbhecojkehfaaGreatDoor

structure Pc where
 off:Int
 len:Int
 brk:Int
 deriving DecidableEq,Inhabited
structure It where
 pc:Pc
 lv:Int
 deriving DecidableEq,Inhabited
inductive AT where
 | nil
 | node (l:AT) (p:Pc) (r:AT)
 deriving Inhabited
namespace AT
def ht:AT->Nat
 | nil=>0
 | node l _ r=>1+max l.ht r.ht
def its:AT->Nat
 | nil=>0
 | node l _ r=>l.its+1+r.its
def rns:AT->Int
 | nil=>0
 | node l p r=>l.rns+p.len+r.rns
def bks:AT->Int
 | nil=>0
 | node l p r=>l.bks+p.brk+r.bks
def bal:AT->Prop
 | nil=>True
 | node l _ r=>l.bal∧r.bal∧l.ht<=r.ht+1∧r.ht<=l.ht+1
def told:AT->Int->List It
 | nil,_=>[]
 | node l p r,d=>l.told (d+1)++⟨p,d⟩::r.told (d+1)
theorem told_length:∀ (T:AT) (d:Int),(T.told d).length=T.its
 | nil,d=>rfl
 | node l p r,d=>by simp [told,its,told_length l,told_length r];omega
theorem ht_its:∀T:AT,T.ht<=T.its
 | nil=>by simp [ht]
 | node l p r=>by
  have:=ht_its l;have:=ht_its r;simp only [ht,its];omega
end AT
def parse:Nat->Int->List It->Option (AT×List It)
 | 0,_,_=>none
 | f+1,lv,xs=>
  match xs with
  | []=>some (.nil,[])
  | x::xt=>
   if x.lv<lv then some (.nil,x::xt)else
   match parse f (lv+1) (x::xt)with
   | none=>none
   | some (l,[])=>none
   | some (l,y::zs)=>
    if y.lv≠lv then none else
    match parse f (lv+1) zs with
    | none=>none
    | some (r,us)=>if l.ht<=r.ht+1∧r.ht<=l.ht+1 then some (.node l y.pc r,us)else none
def pcOk (p:Pc):Bool:=decide (1<=p.len∧p.len<=8192∧0<=p.off∧p.off+p.len<=220000∧0<=p.brk∧p.brk<=p.len)
def total:List It->Int
 | []=>0
 | x::xs=>x.pc.len+total xs
def brks:List It->Int
 | []=>0
 | x::xs=>x.pc.brk+brks xs
theorem Yk (a b:List It):total (a++b)=total a+total b:=by
 induction a with
 | nil=>simp [total]
 | cons x a ih=>simp only [List.cons_append,total,ih];omega
theorem JS (a b:List It):brks (a++b)=brks a+brks b:=by
 induction a with
 | nil=>simp [brks]
 | cons x a ih=>simp only [List.cons_append,brks,ih];omega
theorem AT.rns_told:∀ (T:AT) (d:Int),total (T.told d)=T.rns
 | .nil,d=>rfl
 | .node l p r,d=>by simp only [told,Yk,total,rns_told l,rns_told r,rns];omega
theorem AT.bks_told:∀ (T:AT) (d:Int),brks (T.told d)=T.bks
 | .nil,d=>rfl
 | .node l p r,d=>by simp only [told,JS,brks,bks_told l,bks_told r,bks];omega
def sumM (m:Pc->Int):List It->Int
 | []=>0
 | x::xs=>m x.pc+sumM m xs
theorem JT (xs:List It):sumM (fun p=>p.len) xs=total xs:=by
 induction xs with
 | nil=>rfl
 | cons x a ih=>simp only [sumM,total,ih]
def seekT (m:Pc->Int):AT->Int->Nat×Int×Int×Int×Int
 | .nil,k=>(0,0,0,k,0)
 | .node l p r,k=>
  if k<sumM m (l.told 0)then
   ((seekT m l k).1,(seekT m l k).2.1,(seekT m l k).2.2.1,(seekT m l k).2.2.2.1,(seekT m l k).2.2.2.2+1)
  else if k - sumM m (l.told 0)<m p then(l.its,l.rns,l.bks,k - sumM m (l.told 0),1)
  else((seekT m r (k - sumM m (l.told 0) - m p)).1+(l.its+1),(seekT m r (k - sumM m (l.told 0) - m p)).2.1+(l.rns+p.len),(seekT m r (k - sumM m (l.told 0) - m p)).2.2.1+(l.bks+p.brk),(seekT m r (k - sumM m (l.told 0) - m p)).2.2.2.1,(seekT m r (k - sumM m (l.told 0) - m p)).2.2.2.2+1)
end Go.Proofs.YtibbhecojkehfaaGreatDoor
namespace Go.Proofs.YtibbhecojkehfaaGreatDoor
open Go Go.RowKit
def bkn (zs:List Int):Nat:=(zs.filter fun z=>z==10).length
theorem Yl (zs:List Int):brk zs=(bkn zs:Nat):=rfl
theorem XF (a b:List Int):bkn (a++b)=bkn a+bkn b:=by simp [bkn]
theorem Zx (a b:List Int):brk (a++b)=brk a+brk b:=by
 rw [Yl,Yl,Yl,XF];omega
def bb:List Int->Nat->Nat
 | [],_=>0
 | z::zs,n=>if z=10 then(if n=0 then 1 else 1+bb zs (n - 1))else 1+bb zs n
def ls (zs:List Int) (l:Nat):Nat:=if l=0 then 0 else bb zs (l - 1)
def le (zs:List Int) (l:Nat):Nat:=if l<bkn zs then bb zs l - 1 else zs.length
def ptx (S:List Int) (p:Pc):List Int:=(S.drop p.off.toNat).take p.len.toNat
def txt (S:List Int):List It->List Int
 | []=>[]
 | x::xs=>ptx S x.pc++txt S xs
theorem XG (S:List Int) (a b:List It):txt S (a++b)=txt S a++txt S b:=by
 induction a with
 | nil=>rfl
 | cons x a ih=>simp [txt,ih]
def WP (S:List Int) (p:Pc):Prop:=0<=p.off∧0<=p.len∧p.off+p.len<=S.length∧p.brk=brk (ptx S p)
theorem jw {S:List Int} {p:Pc} (h:WP S p):((ptx S p).length:Int)=p.len:=by
 obtain⟨h1,h2,h3,_⟩:=h;simp only [ptx,List.length_take,List.length_drop];omega
theorem Xu {S:List Int}:∀ {xs:List It},(∀x∈xs,WP S x.pc)->((txt S xs).length:Int)=total xs
 | [],_=>rfl
 | x::xs,h=>by
  have h1:=jw (h x (by simp))
  have h2:=Xu (S:=S) (xs:=xs) (fun y hy=>h y (by simp [hy]))
  simp only [txt,total,List.length_append];omega
theorem Xv {S:List Int}:∀ {xs:List It},(∀x∈xs,WP S x.pc)->brk (txt S xs)=brks xs
 | [],_=>rfl
 | x::xs,h=>by
  have h1:=(h x (by simp)).2.2.2
  have h2:=Xv (S:=S) (xs:=xs) (fun y hy=>h y (by simp [hy]))
  simp only [txt,brks,Zx];omega
def AT.tx (S:List Int):AT->List Int
 | .nil=>[]
 | .node l p r=>l.tx S++(ptx S p++r.tx S)
def AT.wp (S:List Int):AT->Prop
 | .nil=>True
 | .node l p r=>l.wp S∧WP S p∧r.wp S
theorem jx (S:List Int):∀ (T:AT) (d:Int),txt S (T.told d)=T.tx S
 | .nil,_=>rfl
 | .node l p r,d=>by simp only [AT.told,XG,txt,AT.tx,jx S l,jx S r]
theorem Zo (S:List Int):∀ (T:AT) (d:Int),(∀x∈T.told d,WP S x.pc)↔T.wp S
 | .nil,_=>by simp [AT.told,AT.wp]
 | .node l p r,d=>by
  have h1:=Zo S l (d+1);have h2:=Zo S r (d+1);simp only [AT.told,AT.wp,List.mem_append,List.mem_cons];constructor
  ·intro h
   exact⟨h1.1 fun x hx=>h x (.inl hx),h _ (.inr (.inl rfl)),h2.1 fun x hx=>h x (.inr (.inr hx))⟩
  rintro ⟨a,b,c⟩ x (hx | rfl | hx)
  ·exact h1.2 a x hx
  ·exact b
  exact h2.2 c x hx
theorem AT.tx_len {S:List Int} {T:AT} (h:T.wp S):((T.tx S).length:Int)=T.rns:=by
 rw [<- jx S T 0,Xu ((Zo S T 0).2 h),AT.rns_told]
theorem AT.tx_brk {S:List Int} {T:AT} (h:T.wp S):brk (T.tx S)=T.bks:=by
 rw [<- jx S T 0,Xv ((Zo S T 0).2 h),AT.bks_told]
def seekP (m:Pc->Int):AT->Int->Pc
 | .nil,_=>⟨0,0,0⟩
 | .node l p r,k=>
  if k<sumM m (l.told 0)then seekP m l k
  else if k - sumM m (l.told 0)<m p then p
  else seekP m r (k - sumM m (l.told 0) - m p)
structure Row1 (w w':World) (g:Nat) (L:List Value) (t:TypeId):Prop where
 row:w'.heap[g]? =some (.cells L.toArray t (0,0))
 os:w'.os=w.os
 tape:w'.tape=w.tape
 output:w'.output=w.output
 size:w'.heap.size=w.heap.size
 block:∀k,k≠g->w'.heap[k]? =w.heap[k]?
theorem Row1.of_set {w:World} {g:Nat} {old:Array Value} {t:TypeId} (L:List Value) (hg:w.heap[g]? =some (.cells old t (0,0))):Row1 w (w.setRow g L.toArray) g L t:=
 ⟨setRow_heap w g old _ t _ hg,rfl,rfl,rfl,by simp,fun k hk=>setRow_other w g k _ hk⟩
theorem Row1.refl {w:World} {g:Nat} {L:List Value} {t:TypeId} (hg:w.heap[g]? =some (.cells L.toArray t (0,0))):Row1 w w g L t:=⟨hg,rfl,rfl,rfl,rfl,fun _ _=>rfl⟩
section
variable {P:Program}
theorem ja {ops:Array Oper} {o:Oper} {a:Act} {w:World} {K:Act->World->Prop} {Q:Exit->Act->World->Prop} {E:Prop} (hgd:o.guard=none) (d s:Operand) (dT sT:TypeId)
  (ho:o.op= .call {callee:=.builtin .copy,args:=#[d,s],argTypes:=#[dT,sT]}) (elem:TypeId) (hu:P.underlying dT=some (.slice elem)) (hsz:(P.info? elem).map (·.size)=some 1)
  (dp sp:Option Addr) (dLen dCap sLen sCap:Nat) (hd:a.eval d= .slice dp dLen dCap) (hs:a.eval s= .slice sp sLen sCap)
  (g off:Nat) (cur:List Value) (t:TypeId) (hg:w.heap[g]? =some (.cells cur.toArray t (0,0))) (cs:List Value) (hn:cs.length=Nat.min sLen dLen)
  (hpos:0<cs.length->dp=some ⟨g,off,none⟩∧∃ad,sp=some ad∧∀j v,cs[j]? =some v->w.cell? (ad.add j)=some v)
  (hfit:off+cs.length<=cur.length) (h1:∀v∈cs,v.oneCell'=true)
  (h:∀w',Hid (Row1 w w' g (splice cur off cs) t)->K (a.put o.dst (goInt cs.length)) w'):
  if Region.wanted o (yielded ops a.tmps)=true then Oper.wp P o a w K Q else E:=by
 have hw:Region.wanted o (yielded ops a.tmps)=true:=by simp [Region.wanted,hgd]
 rw [if_pos hw]
 by_cases h0:cs.length=0
 ·obtain rfl:cs= []:=List.eq_nil_of_length_eq_zero h0
  have hrun:=run_copy_none (P:=P) w dT sT o.type elem dp sp dLen dCap sLen sCap hu hsz (by simpa using hn.symm)
  unfold Oper.wp;simp [execOp,ho,resolve,invoke,builtin,hd,hs,hrun,Result.andThen]
  exact h w (hide (by simpa [splice]using Row1.refl hg))
 obtain⟨rfl,ad,rfl,hsrc⟩:=hpos (by omega)
 have hrun:=run_copy_row (P:=P) w dT sT o.type elem g off dLen dCap ad sLen sCap cur.toArray t cs hu hsz hg hn hsrc (by simpa using hfit) h1
 unfold Oper.wp;simp [execOp,ho,resolve,invoke,builtin,hd,hs,hrun,Result.andThen]
 exact h _ (hide (by simpa [splice]using Row1.of_set (splice cur off cs) hg))
theorem zM {w:World} {ops:Array Oper} {rest:List Oper} {o:Oper} {a:Act} {Q:Exit->Act->World->Prop} (hgd:o.guard=none) (d s:Operand) (dT sT:TypeId)
  (ho:o.op= .call {callee:=.builtin .copy,args:=#[d,s],argTypes:=#[dT,sT]}) (elem:TypeId) (hu:P.underlying dT=some (.slice elem)) (hsz:(P.info? elem).map (·.size)=some 1)
  (dp sp:Option Addr) (dLen dCap sLen sCap:Nat) (hd:a.eval d= .slice dp dLen dCap) (hs:a.eval s= .slice sp sLen sCap)
  (g off:Nat) (cur:List Value) (t:TypeId) (hg:w.heap[g]? =some (.cells cur.toArray t (0,0))) (cs:List Value) (hn:cs.length=Nat.min sLen dLen)
  (hpos:0<cs.length->dp=some ⟨g,off,none⟩∧∃ad,sp=some ad∧∀j v,cs[j]? =some v->w.cell? (ad.add j)=some v)
  (hfit:off+cs.length<=cur.length) (h1:∀v∈cs,v.oneCell'=true)
  (h:∀w',Hid (Row1 w w' g (splice cur off cs) t)->wpList P ops Q rest (a.put o.dst (goInt cs.length)) w'):
  wpList P ops Q (o::rest) a w:=by
 by_cases h0:cs.length=0
 ·obtain rfl:cs= []:=List.eq_nil_of_length_eq_zero h0
  refine wpList_copy_nothing hgd d s dT sT ho elem hu hsz dp sp dLen dCap sLen sCap hd hs (by simpa using hn.symm) ?_
  exact h w (hide (by simpa [splice]using Row1.refl hg))
 obtain⟨rfl,ad,rfl,hsrc⟩:=hpos (by omega)
 refine wpList_copy_own hgd d s dT sT ho elem hu hsz g off dLen dCap ad sLen sCap hd hs cur.toArray t hg cs hn hsrc (by simpa using hfit) h1 ?_
 exact h _ (hide (by simpa [splice]using Row1.of_set (splice cur off cs) hg))
theorem jb (w:World) (t e ty:TypeId) (z:Value) (ht:P.underlying t=some (.slice e)) (hv:∀w,(zeroValue e).run P w= .ok z w) (hz:z.cells= #[z]) (h1:z.oneCell'=true) (g o n c:Nat) (hn:0<n)
  (cur:List Value) (et:TypeId) (hg:w.heap[g]? =some (.cells cur.toArray et (0,0))) (hfit:o+n<=cur.length):
  (Builtin.clear_ #[t] ty #[.slice (some ⟨g,o,none⟩) n c]).run P w= .ok (.tuple #[]) (w.setRow g (splice cur o (List.replicate n z)).toArray):=by
 have hzc:(Builtin.zeroCells z.cells n).toList=List.replicate n z:=by
  rw [hz];simp [Builtin.zeroCells];apply List.ext_getElem
  ·simp
  intro i h1 h2;simp [Nat.mod_one]
 have hst:=run_storeCells_at P g o et (List.replicate n z) 0 cur.toArray w hg (by simpa using hfit) (by intro v hv';rw [List.eq_of_mem_replicate hv'];exact h1)
 simp only [Nat.add_zero]at hst
 obtain⟨m,rfl⟩:∃m,n=m+1:=⟨n - 1,by omega⟩
 simp [Builtin.clear_,run_underlying ht,hv,hzc,hst,splice]
theorem ya (w:World) (t e ty:TypeId) (ht:P.underlying t=some (.slice e)) (a:Option Addr) (c:Nat):(Builtin.clear_ #[t] ty #[.slice a 0 c]).run P w= .ok (.tuple #[]) w:=by
 cases a<;>simp [Builtin.clear_,run_underlying ht]
theorem step_clear_row {ops:Array Oper} {o:Oper} {a:Act} {w:World} {K:Act->World->Prop} {Q:Exit->Act->World->Prop} {E:Prop} (hgd:o.guard=none) (d:Operand) (dT:TypeId)
  (ho:o.op= .call {callee:=.builtin .clear,args:=#[d],argTypes:=#[dT]}) (e:TypeId) (hu:P.underlying dT=some (.slice e)) (z:Value) (hv:∀w,(zeroValue e).run P w= .ok z w) (hz:z.cells= #[z]) (h1:z.oneCell'=true)
  (dp:Option Addr) (dLen dCap:Nat) (hd:a.eval d= .slice dp dLen dCap) (g off:Nat) (cur:List Value) (t:TypeId) (hg:w.heap[g]? =some (.cells cur.toArray t (0,0)))
  (hpos:0<dLen->dp=some ⟨g,off,none⟩) (hfit:off+dLen<=cur.length)
  (h:∀w',Hid (Row1 w w' g (splice cur off (List.replicate dLen z)) t)->K (a.put o.dst (.tuple #[])) w'):
  if Region.wanted o (yielded ops a.tmps)=true then Oper.wp P o a w K Q else E:=by
 have hw:Region.wanted o (yielded ops a.tmps)=true:=by simp [Region.wanted,hgd]
 rw [if_pos hw]
 by_cases h0:dLen=0
 ·subst h0
  have hrun:=ya (P:=P) w dT e o.type hu dp dCap;unfold Oper.wp;simp [execOp,ho,resolve,invoke,builtin,hd,hrun,Result.andThen]
  exact h w (hide (by simpa [splice]using Row1.refl hg))
 obtain rfl:=hpos (by omega)
 have hrun:=jb (P:=P) w dT e o.type z hu hv hz h1 g off dLen dCap (by omega) cur t hg hfit
 unfold Oper.wp;simp [execOp,ho,resolve,invoke,builtin,hd,hrun,Result.andThen];exact h _ (hide (Row1.of_set _ hg))
theorem zZ {w:World} {ops:Array Oper} {rest:List Oper} {o:Oper} {a:Act} {Q:Exit->Act->World->Prop} (hgd:o.guard=none) (d:Operand) (dT:TypeId)
  (ho:o.op= .call {callee:=.builtin .clear,args:=#[d],argTypes:=#[dT]}) (e:TypeId) (hu:P.underlying dT=some (.slice e)) (z:Value) (hv:∀w,(zeroValue e).run P w= .ok z w) (hz:z.cells= #[z]) (h1:z.oneCell'=true)
  (dp:Option Addr) (dLen dCap:Nat) (hd:a.eval d= .slice dp dLen dCap) (g off:Nat) (cur:List Value) (t:TypeId) (hg:w.heap[g]? =some (.cells cur.toArray t (0,0)))
  (hpos:0<dLen->dp=some ⟨g,off,none⟩) (hfit:off+dLen<=cur.length)
  (h:∀w',Hid (Row1 w w' g (splice cur off (List.replicate dLen z)) t)->wpList P ops Q rest (a.put o.dst (.tuple #[])) w'):
  wpList P ops Q (o::rest) a w:=by
 refine wpList_plain hgd fun K hK=>?_
 by_cases h0:dLen=0
 ·subst h0
  have hrun:=ya (P:=P) w dT e o.type hu dp dCap;unfold Oper.wp;simp [execOp,ho,resolve,invoke,builtin,hd,hrun,Result.andThen]
  exact hK _ _ (h w (hide (by simpa [splice]using Row1.refl hg)))
 obtain rfl:=hpos (by omega)
 have hrun:=jb (P:=P) w dT e o.type z hu hv hz h1 g off dLen dCap (by omega) cur t hg hfit
 unfold Oper.wp;simp [execOp,ho,resolve,invoke,builtin,hd,hrun,Result.andThen];exact hK _ _ (h _ (hide (Row1.of_set _ hg)))
end
def Cl (w:World) (g:Nat) (zs:List Int):Prop:=∀i,i<zs.length->w.cell? ⟨g,i,none⟩=some (.int .i32 (zs.getD i 0))
theorem Cl.below {w w':World} {g D:Nat} {zs:List Int} (h:Cl w g zs) (hb:Below D w w') (hg:g<D):Cl w' g zs:=fun i hi=>(hb.cell (p:=⟨g,i,none⟩) hg).trans (h i hi)
theorem Cl.cut {w:World} {g p l c:Nat} {zs:List Int} (h:Cl w g zs) (hg:g<w.heap.size) (hp:p+l<=zs.length):Sl .i32 w (.slice (some ⟨g,p,none⟩) l c) ((zs.drop p).take l):=by
 have e:((zs.drop p).take l).length=l:=by simp only [List.length_take,List.length_drop];omega
 refine .inr ⟨g,p,c,by rw [e],hg,fun i hi=>?_⟩
 rw [e]at hi
 rw [h (p+i) (by omega),yX,if_pos hi,yY]
theorem Sl.empty {w:World} {g c:Nat} {xs:List Int} (hg:g<w.heap.size) (hl:xs.length=0):Sl .i32 w (.slice (some ⟨g,0,none⟩) 0 c) xs:=by
 obtain rfl:=List.eq_nil_of_length_eq_zero hl
 exact .inr ⟨g,0,c,by simp,hg,fun i hi=>by simp at hi⟩
noncomputable def growN (M c:Nat):Nat:=open Classical in if h:∃r,Dbl M c r then Classical.choose h else 0
theorem XH {M c:Nat} (hc:1<=c):Dbl M c (growN M c):=by
 have h:=dbl_ex M (M - c) c hc lR;unfold growN;rw [dif_pos h];exact Classical.choose_spec h
noncomputable def zb (zs:List Int) (lo hi n:Nat):Nat:=if n<=hi - lo then zs.length else growN ((gtext zs lo hi).length+n) (max zs.length 16)
theorem ZR (zs:List Int) (lo hi n:Nat):(n<=hi - lo∧zb zs lo hi n=zs.length)∨(hi - lo<n∧Dbl ((gtext zs lo hi).length+n) (max zs.length 16) (zb zs lo hi n)):=by
 unfold zb
 by_cases h:n<=hi - lo
 ·exact .inl ⟨h,by rw [if_pos h]⟩
 exact .inr ⟨by omega,by rw [if_neg h];exact XH (by omega)⟩
theorem Y2 {zs:List Int} {lo hi n:Nat} (hv:GV zs lo hi) (hb:(gtext zs lo hi).length+n<=8192):(gtext zs lo hi).length+n<=zb zs lo hi n∧zb zs lo hi n<=65536:=by
 have h1:=hv.a;have h2:=hv.b;have h3:=hv.c;have hL:=zN h1 h2
 rcases ZR zs lo hi n with ⟨h,e⟩ | ⟨h,d⟩
 ·omega
 have:=je d;omega
structure LnAt (w:World) (vals:List Value) (L:List (List Int)):Prop where
 len:vals.length=L.length
 at_:∀ (i:Nat) v l,vals[i]? =some v->L[i]? =some l->Sl .i32 w v l
theorem LnAt.nil (w:World):LnAt w [] []:=⟨rfl,fun i v l h=>by simp at h⟩
theorem LnAt.snoc {w:World} {vals:List Value} {L:List (List Int)} {v:Value} {l:List Int} (h:LnAt w vals L) (hs:Sl .i32 w v l):LnAt w (vals++ [v]) (L++ [l]):=by
 refine⟨by simp [h.len],fun i u m hu hm=>?_⟩
 rcases Nat.lt_trichotomy i vals.length with q | q | q
 ·rw [List.getElem?_append_left q]at hu
  rw [List.getElem?_append_left (by rw [<- h.len];exact q)]at hm
  exact h.at_ i u m hu hm
 ·subst q
  rw [List.getElem?_append_right lR]at hu;rw [h.len,List.getElem?_append_right lR]at hm;simp at hu hm;subst hu hm;exact hs
 rw [List.getElem?_eq_none (by simp;omega)]at hu;cases hu
theorem LnAt.below {w w':World} {vals:List Value} {L:List (List Int)} (h:LnAt w vals L) (hb:Below w.heap.size w w'):LnAt w' vals L:=⟨h.len,fun i v l hv hl=>(h.at_ i v l hv hl).below hb⟩
theorem Xw {w:World} {b o c:Nat} {zs:List Int} (hc:∀i,i<zs.length->w.cell? ⟨b,o+i,none⟩=some (.int .i32 (zs.getD i 0))) (hb:b<w.heap.size) {k:Nat} (hk:k<=zs.length):Sl .i32 w (.slice (some ⟨b,o,none⟩) k c) (zs.take k):=by
 refine .inr ⟨b,o,c,by rw [List.length_take,Nat.min_eq_left hk],hb,fun i hi=>?_⟩
 rw [List.length_take]at hi
 rw [hc i (by omega)]
 simp [List.getD_eq_getElem?_getD,show i<k by omega]
def lenV:Value->Nat
 | .slice _ n _=>n
 | _=>0
theorem cutL (zs:List Int) (b o cap:Nat) (w:World) (hc:∀i,i<zs.length->w.cell? ⟨b,o+i,none⟩=some (.int .i32 (zs.getD i 0))) (hb:b<w.heap.size) (hn:zs.length<=1048576) (hcap:zs.length<=cap) (hm:cap<=maxLen):
  Calls Tryz.prog 35 #[.slice (some ⟨b,o,none⟩) zs.length cap] w fun e w'=>∃v vals,e= .returned v∧w'.ownsRow w.heap.size 34 1 v (lns zs).length vals∧LnAt w vals (lns zs)∧Below w.heap.size w w':=by
 obtain⟨i0,hi,hz0,hz1,hz2⟩:=info_parts Tryz.infoS;have HC:=hide hc;have LL:=hide (Zm zs);generalize hLZ:lns zs=LZ at *;have HLZ:=hide hLZ;generalize hN:zs.length=N at *;have HN:=hide hN;clear hc hLZ hN;go_enter Tryz.func35,Tryz.ntmps35;go_wp2_with fail
 go_loopw [0,3] (fun tx ls wr=>∃ (L:List (List Int)) (rest:List Int) (o' c:Nat) (vals:List Value),LZ=L++lns rest∧tx= .slice (some ⟨b,o',none⟩) rest.length c∧rest.length<=c∧c<=maxLen∧rest.length<=N∧
   (∀i,i<rest.length->w.cell? ⟨b,o'+i,none⟩=some (.int .i32 (rest.getD i 0)))∧wr.ownsRow w.heap.size 34 1 ls L.length vals∧LnAt w vals L∧Below w.heap.size w wr)
  (fun tx _ _=>lenV tx)
 case atStart=>exact⟨[],zs,o,cap,[],by simp [HLZ.out],by rw [HN.out],by rw [HN.out];exact hcap,hm,by rw [HN.out];exact lR,fun i hi=>HC.out i (by rw [<- HN.out];exact hi),World.ownsRow_nil _ _ _ _,LnAt.nil _,Below.refl _ _⟩
 obtain⟨L,rest,o',c,vals,hL,rfl,hrc,hcm,hrN,hcl,hown,hat,hbw⟩:=hrel;have CL:=hide hcl;have HO:=hide hown;have HAT:=hide hat;have HBW:=hide hbw;have HL:=hide hL
 have IX:=hide (indexL rest b o' c wr (fun i hi=>(hbw.cell (p:=⟨b,o'+i,none⟩) hb).trans (hcl i hi)) (by omega) hrc hcm)
 have hsz:=hbw.size
 have hll:L.length<=1048577:=by have h1:=LL.out.2;have h2:=HL.out;rw [h2,List.length_append]at h1;omega
 have hVN:=HO.out.1;unfold ix at IX;unfold maxLen at hcm
 by_cases hf:fb rest<rest.length
 ·rw [if_pos hf]at IX
  have EL:=hide (fb_lns hf);have ST:=hide (Xw (c:=c) CL.out hb (Nat.le_of_lt hf));generalize hF:fb rest=F at *;generalize hR:rest.length=R at *;have HR:=hide hR;clear hcl hown hat hbw hL hR hVN;go_wp2_with fail;refine IX.out.mono ?_;rintro e w1 ⟨rfl,hw⟩;have hw2:=hw.symm;subst hw2;clear hw IX
  have hF0:¬ (F:Int)<0:=by omega
  have hFc:(F:Int)<=c:=by omega
  have hFc1:(F:Int)+1<=c:=by omega
  have hFc2:(F:Int)+1<=R:=by omega
  have NC:=hide (zY wr 34 [.slice (some ⟨b,o',none⟩) F c])
  by_cases hcF:c=F+1
  ·subst hcF
   go_wp2_with (at_builtin;refine wpList_append_own _ rfl _ _ 106 rfl w.heap.size 34 i0 (.slice none 0 0) 1 24 Tryz.underlying106 hi hz0 hz1 hz2 rfl (by decide) _ _ _ rfl (HO.out.alloc _) ⟨wr.heap.size,0,none⟩ 1 1 [.slice (some ⟨b,o',none⟩) F (F+1)] rfl rfl NC.out (by intro u hu;simp at hu;subst hu;rfl) (by unfold maxLen;omega) (by omega) (by simp;omega) ?_;intro v2 w2 ho2 hg2 _)
   have B2:=hide ((HBW.out.alloc (by omega) (.cells #[.slice (some ⟨b,o',none⟩) F (F+1)] 34)).grown hg2 (by simp;omega) (fun q hq=>(HO.out.lt q hq).1))
   have O2:=hide ho2;clear ho2 hg2;go_wp2;go_roundw
   case rel=>
    have eR:rest.drop (F+1)= []:=List.drop_of_length_le (by rw [HR.out];omega)
    refine⟨L++ [rest.take F],[],o',0,vals++ [.slice (some ⟨b,o',none⟩) F (F+1)],?_,?_,Nat.zero_le _,by unfold maxLen;omega,Nat.zero_le _,fun i hi=>by simp at hi,?_,HAT.out.snoc ST.out,B2.out⟩
    ·rw [HL.out,EL.out,eR];simp
    ·simp
    rw [List.length_append];exact O2.out
   simp [lenV];omega
  have hcF':¬ ((c:Int)=F+1):=by omega
  have hcl':(F:Int)+1<c:=by omega
  go_wp2_with (at_builtin;refine wpList_append_own _ rfl _ _ 106 rfl w.heap.size 34 i0 (.slice none 0 0) 1 24 Tryz.underlying106 hi hz0 hz1 hz2 rfl (by decide) _ _ _ rfl (HO.out.alloc _) ⟨wr.heap.size,0,none⟩ 1 1 [.slice (some ⟨b,o',none⟩) F c] rfl rfl NC.out (by intro u hu;simp at hu;subst hu;rfl) (by unfold maxLen;omega) (by omega) (by simp;omega) ?_;intro v2 w2 ho2 hg2 _)
  have B2:=hide ((HBW.out.alloc (by omega) (.cells #[.slice (some ⟨b,o',none⟩) F c] 34)).grown hg2 (by simp;omega) (fun q hq=>(HO.out.lt q hq).1))
  have O2:=hide ho2;clear ho2 hg2;go_wp2;go_roundw
  case rel=>
   have eR:(rest.drop (F+1)).length=R - (F+1):=by rw [List.length_drop,HR.out]
   refine⟨L++ [rest.take F],rest.drop (F+1),o'+(F+1),c - (F+1),vals++ [.slice (some ⟨b,o',none⟩) F c],?_,?_,by rw [eR];omega,by unfold maxLen;omega,by rw [eR];omega,?_,?_,HAT.out.snoc ST.out,B2.out⟩
   ·rw [HL.out,EL.out];simp
   ·rw [eR]
   ·intro i hi
    rw [eR]at hi
    rw [Nat.add_assoc,CL.out (F+1+i) (by omega)]
    simp [List.getD_eq_getElem?_getD,List.getElem?_drop]
   rw [List.length_append];exact O2.out
  simp [lenV];omega
 rw [if_neg hf]at IX
 have hfe:fb rest=rest.length:=by have:=fb_le rest;omega
 have EL:=hide (fb_lns0 hfe);have ST:=hide (Xw (c:=c) CL.out hb lR);rw [List.take_of_length_le lR]at ST;generalize hR:rest.length=R at *;clear hcl hown hat hbw hL hR hVN hfe hf;go_wp2_with fail;refine IX.out.mono ?_;rintro e w1 ⟨rfl,hw⟩;have hw2:=hw.symm;subst hw2;clear hw IX;have NC:=hide (zY wr 34 [.slice (some ⟨b,o',none⟩) R c])
 go_wp2_with (at_builtin;refine wpList_append_own _ rfl _ _ 106 rfl w.heap.size 34 i0 (.slice none 0 0) 1 24 Tryz.underlying106 hi hz0 hz1 hz2 rfl (by decide) _ _ _ rfl (HO.out.alloc _) ⟨wr.heap.size,0,none⟩ 1 1 [.slice (some ⟨b,o',none⟩) R c] rfl rfl NC.out (by intro u hu;simp at hu;subst hu;rfl) (by unfold maxLen;omega) (by omega) (by simp;omega) ?_;intro v2 w2 ho2 hg2 _)
 have B2:=hide ((HBW.out.alloc (by omega) (.cells #[.slice (some ⟨b,o',none⟩) R c] 34)).grown hg2 (by simp;omega) (fun q hq=>(HO.out.lt q hq).1))
 have O2:=hide ho2;clear ho2 hg2;go_wp2;go_ret;refine⟨_,vals++ [.slice (some ⟨b,o',none⟩) R c],rfl,?_,?_,B2.out⟩
 ·rw [HL.out,EL.out,List.length_append];exact O2.out
 rw [HL.out,EL.out];exact HAT.out.snoc ST.out
def Q3 (w:World) (b:Nat) (x y z:Value) (t:TypeId):Prop:=w.heap[b]? =some (.cells #[x,y,z] t (0,0))
theorem Q3.c {w:World} {b:Nat} {x y z:Value} {t:TypeId} (h:Q3 w b x y z t):w.cell? ⟨b,0,none⟩=some x∧w.cell? ⟨b,1,none⟩=some y∧w.cell? ⟨b,2,none⟩=some z:=by
 refine⟨?_,?_,?_⟩<;>rw [cell_of_row w b _ _ _ _ h]<;>rfl
theorem Q3.new (w:World) (x y z:Value) (t:TypeId):Q3 (w.alloc (.cells #[x,y,z] t)) w.heap.size x y z t:=heap_alloc_new w (.cells #[x,y,z] t)
def D2 (w:World) (b:Nat) (x y:Value) (t:TypeId):Prop:=w.heap[b]? =some (.cells #[x,y] t (0,0))
theorem D2.c {w:World} {b:Nat} {x y:Value} {t:TypeId} (h:D2 w b x y t):w.cell? ⟨b,0,none⟩=some x∧w.cell? ⟨b,1,none⟩=some y:=by
 refine⟨?_,?_⟩<;>rw [cell_of_row w b _ _ _ _ h]<;>rfl
theorem D2.fz {w:World} {b:Nat} {x y:Value} {t:TypeId} (h:D2 w b x y t) (j:Nat):w.frozen? ⟨b,j,none⟩=false:=frozen_of_row w b j _ _ h
theorem D2.below {B:Nat} {w w':World} {b:Nat} {x y:Value} {t:TypeId} (h:D2 w b x y t) (hb:Below B w w') (hB:b<B):D2 w' b x y t:=(hb.block b hB).trans h
theorem D2.new (w:World) (x y:Value) (t:TypeId):D2 (w.alloc (.cells #[x,y] t)) w.heap.size x y t:=heap_alloc_new w (.cells #[x,y] t)
def T3 (w:World) (b:Nat) (x y z:Value) (t:TypeId):Prop:=w.heap[b]? =some (.cells #[x,y,z] t (0,0))
theorem own_valT {w:World} {base e size:Nat} {v:Value} {n:Nat} {xs:List Value} (h:w.ownsRow base e size v n xs):∃ao cap,v= .slice ao n cap:=by
 rcases h.2 with ⟨rfl,h0⟩ | ⟨g,cap,cur,rfl,_⟩
 ·exact⟨none,0,by rw [h0]⟩
 exact⟨_,_,rfl⟩
def ndC (p:Pc) (l r:Option Addr) (h i n k:Int):Array Value:=
 #[.int .i64 p.off,.int .i64 p.len,.int .i64 p.brk,.pointer l,.pointer r,.int .i64 h,.int .i64 i,.int .i64 n,.int .i64 k]
def Nd (w:World) (b:Nat) (p:Pc) (l r:Option Addr) (h i n k:Int):Prop:=
 w.heap[b]? =some (.cells (ndC p l r h i n k) 168 (0,0))
def Lies (w:World) (base:Nat):AT->Option Addr->List Nat->Prop
 | .nil,u,bs=>u=none∧bs= []
 | .node l p r,u,bs=>∃b ul ur bl br,u=some ⟨b,0,none⟩∧base<=b∧Nd w b p ul ur (1+max (l.ht:Int) r.ht) (l.its+1+r.its) (l.rns+p.len+r.rns) (l.bks+p.brk+r.bks)∧
   Lies w base l ul bl∧Lies w base r ur br∧bs=b::(bl++br)
theorem Nd.lt {w:World} {b:Nat} {p:Pc} {l r:Option Addr} {h i n k:Int} (hn:Nd w b p l r h i n k):b<w.heap.size:=by
 rcases Nat.lt_or_ge b w.heap.size with h' | h'
 ·exact h'
 unfold Nd at hn;rw [Array.getElem?_eq_none h']at hn;cases hn
theorem Nd.c0 {w:World} {b:Nat} {p:Pc} {l r:Option Addr} {h i n k:Int} (hn:Nd w b p l r h i n k):w.cell? ⟨b,0,none⟩=some (.int .i64 p.off):=by rw [cell_of_row w b 0 _ _ _ hn];rfl
theorem Nd.c1 {w:World} {b:Nat} {p:Pc} {l r:Option Addr} {h i n k:Int} (hn:Nd w b p l r h i n k):w.cell? ⟨b,1,none⟩=some (.int .i64 p.len):=by rw [cell_of_row w b 1 _ _ _ hn];rfl
theorem Nd.c2 {w:World} {b:Nat} {p:Pc} {l r:Option Addr} {h i n k:Int} (hn:Nd w b p l r h i n k):w.cell? ⟨b,2,none⟩=some (.int .i64 p.brk):=by rw [cell_of_row w b 2 _ _ _ hn];rfl
theorem Nd.c3 {w:World} {b:Nat} {p:Pc} {l r:Option Addr} {h i n k:Int} (hn:Nd w b p l r h i n k):w.cell? ⟨b,3,none⟩=some (.pointer l):=by rw [cell_of_row w b 3 _ _ _ hn];rfl
theorem Nd.c4 {w:World} {b:Nat} {p:Pc} {l r:Option Addr} {h i n k:Int} (hn:Nd w b p l r h i n k):w.cell? ⟨b,4,none⟩=some (.pointer r):=by rw [cell_of_row w b 4 _ _ _ hn];rfl
theorem Nd.c5 {w:World} {b:Nat} {p:Pc} {l r:Option Addr} {h i n k:Int} (hn:Nd w b p l r h i n k):w.cell? ⟨b,5,none⟩=some (.int .i64 h):=by rw [cell_of_row w b 5 _ _ _ hn];rfl
theorem Nd.c6 {w:World} {b:Nat} {p:Pc} {l r:Option Addr} {h i n k:Int} (hn:Nd w b p l r h i n k):w.cell? ⟨b,6,none⟩=some (.int .i64 i):=by rw [cell_of_row w b 6 _ _ _ hn];rfl
theorem Nd.c7 {w:World} {b:Nat} {p:Pc} {l r:Option Addr} {h i n k:Int} (hn:Nd w b p l r h i n k):w.cell? ⟨b,7,none⟩=some (.int .i64 n):=by rw [cell_of_row w b 7 _ _ _ hn];rfl
theorem Nd.c8 {w:World} {b:Nat} {p:Pc} {l r:Option Addr} {h i n k:Int} (hn:Nd w b p l r h i n k):w.cell? ⟨b,8,none⟩=some (.int .i64 k):=by rw [cell_of_row w b 8 _ _ _ hn];rfl
theorem Nd.fz {w:World} {b:Nat} {p:Pc} {l r:Option Addr} {h i n k:Int} (hn:Nd w b p l r h i n k) (j:Nat):w.frozen? ⟨b,j,none⟩=false:=frozen_of_row w b j _ _ hn
theorem Lies.frame {w w':World} {base:Nat}:∀ {T:AT} {u:Option Addr} {bs:List Nat},Lies w base T u bs->(∀b∈bs,w'.heap[b]? =w.heap[b]?)->Lies w' base T u bs
 | .nil,u,bs,h,_=>h
 | .node l p r,u,bs,⟨b,ul,ur,bl,br,h1,h2,h3,h4,h5,h6⟩,hf=>by
  subst h6
  refine⟨b,ul,ur,bl,br,h1,h2,?_,h4.frame (fun k hk=>hf k (by simp [hk])),h5.frame (fun k hk=>hf k (by simp [hk])),rfl⟩
  unfold Nd at h3 |-;rw [hf b (by simp)];exact h3
theorem Lies.lt {w:World} {base:Nat}:∀ {T:AT} {u:Option Addr} {bs:List Nat},Lies w base T u bs->∀b∈bs,base<=b∧b<w.heap.size
 | .nil,u,bs,h,b,hb=>by rw [h.2]at hb;cases hb
 | .node l p r,u,bs,⟨b,ul,ur,bl,br,h1,h2,h3,h4,h5,h6⟩,k,hk=>by
  subst h6;simp only [List.mem_cons,List.mem_append]at hk
  rcases hk with rfl | hk | hk
  ·exact⟨h2,h3.lt⟩
  ·exact h4.lt k hk
  exact h5.lt k hk
theorem Lies.below {w w':World} {base B:Nat} {T:AT} {u:Option Addr} {bs:List Nat} (h:Lies w base T u bs) (hb:Below B w w') (hB:w.heap.size<=B):Lies w' base T u bs:=
 h.frame fun b hbs=>hb.block b (Nat.lt_of_lt_of_le (h.lt b hbs).2 hB)
theorem Lies.base {w:World} {base base':Nat} (hle:base'<=base):∀ {T:AT} {u:Option Addr} {bs:List Nat},Lies w base T u bs->Lies w base' T u bs
 | .nil,u,bs,h=>h
 | .node l p r,u,bs,⟨b,ul,ur,bl,br,h1,h2,h3,h4,h5,h6⟩=>⟨b,ul,ur,bl,br,h1,by omega,h3,h4.base hle,h5.base hle,h6⟩
theorem yf (T:AT) (u:Option Addr) (bs:List Nat) (base:Nat) (w:World) (h:Lies w base T u bs):
  Calls Tryz.prog 72 #[.pointer u] w fun e w'=>e= .returned (.int .i64 T.ht)∧w'=w:=by
 cases T with
 | nil=>
  obtain⟨rfl,rfl⟩:=h;go_enter Tryz.func72,Tryz.ntmps72;go_wp2;go_ret;exact⟨rfl,rfl⟩
 | node l p r=>
  obtain⟨b,ul,ur,bl,br,rfl,h2,h3,h4,h5,h6⟩:=h;have c5:=h3.c5;have hlt:=h3.lt
  have e:(((AT.node l p r).ht:Nat):Int)=1+max (l.ht:Int) r.ht:=by simp only [AT.ht];omega
  rw [e];clear h3 h4 h5 h6 e;generalize 1+max (l.ht:Int) r.ht=hh at *;go_enter Tryz.func72,Tryz.ntmps72;go_wp2;go_ret;exact⟨rfl,rfl⟩
def cnt (i n k:Int):Value:=.agg #[.int .i64 i,.int .i64 n,.int .i64 k]
def pcV (p:Pc):Value:=.agg #[.int .i64 p.off,.int .i64 p.len,.int .i64 p.brk]
theorem allN (T:AT) (u:Option Addr) (bs:List Nat) (base:Nat) (w:World) (h:Lies w base T u bs):
  Calls Tryz.prog 53 #[.pointer u] w fun e w'=>e= .returned (cnt T.its T.rns T.bks)∧Below w.heap.size w w':=by
 cases T with
 | nil=>
  obtain⟨rfl,rfl⟩:=h;go_enter Tryz.func53,Tryz.ntmps53;go_wp2
  refine bodyPost_ret (v:=cnt _ _ _) (by simp [results,Tryz.results53,go_sem];rfl) rfl ⟨rfl,?_⟩
  exact(Below.refl _ _).alloc lR _
 | node l p r=>
  obtain⟨b,ul,ur,bl,br,rfl,h2,h3,h4,h5,h6⟩:=h;have c6:=h3.c6;have c7:=h3.c7;have c8:=h3.c8;have hlt:=h3.lt;go_enter Tryz.func53,Tryz.ntmps53;go_wp2
  refine bodyPost_ret (v:=cnt _ _ _) (by simp [results,Tryz.results53,go_sem];rfl) rfl ⟨rfl,?_⟩
  exact(Below.refl _ _).alloc lR _
theorem pRunes (p:Pc) (w:World):Calls Tryz.prog 246 #[pcV p] w fun e w'=>e= .returned (.int .i64 p.len)∧Below w.heap.size w w':=by
 unfold pcV;go_enter Tryz.func246,Tryz.ntmps246;go_wp2;go_ret;exact⟨rfl,(Below.refl _ _).alloc lR _⟩
theorem pBreaks (p:Pc) (w:World):Calls Tryz.prog 245 #[pcV p] w fun e w'=>e= .returned (.int .i64 p.brk)∧Below w.heap.size w w':=by
 unfold pcV;go_enter Tryz.func245,Tryz.ntmps245;go_wp2;go_ret;exact⟨rfl,(Below.refl _ _).alloc lR _⟩
theorem plusN (i n k i' n' k':Int) (w:World) (h1: -1000000<=i∧i<=1000000) (h2: -1000000<=n∧n<=1000000) (h3: -1000000<=k∧k<=1000000)
  (g1: -1000000<=i'∧i'<=1000000) (g2: -1000000<=n'∧n'<=1000000) (g3: -1000000<=k'∧k'<=1000000):
  Calls Tryz.prog 73 #[cnt i n k,cnt i' n' k'] w fun e w'=>e= .returned (cnt (i+i') (n+n') (k+k'))∧Below w.heap.size w w':=by
 unfold cnt;go_enter Tryz.func73,Tryz.ntmps73;go_wp2
 refine bodyPost_ret (v:=cnt _ _ _) (by simp [results,Tryz.results73,go_sem];rfl) rfl ⟨rfl,?_⟩
 exact(((Below.refl _ _).alloc lR _).alloc (by simp) _).alloc (by simp;omega) _
theorem Tryz.methodRunes (x y z : Value) (w : World) : (Go.method 450 89 (.agg #[x, y, z]) "loop.example/s01685/impl.runes").run Tryz.prog w = .ok (246, .agg #[x, y, z]) w := by kernel_rfl
theorem Tryz.methodBreaks (x y z : Value) (w : World) : (Go.method 450 89 (.agg #[x, y, z]) "loop.example/s01685/impl.breaks").run Tryz.prog w = .ok (245, .agg #[x, y, z]) w := by kernel_rfl
theorem ownN (p:Pc) (b:Nat) (l r:Option Addr) (h i n k:Int) (w:World) (hn:Nd w b p l r h i n k):
  Calls Tryz.prog 74 #[.pointer (some ⟨b,0,none⟩)] w fun e w'=>e= .returned (cnt 1 p.len p.brk)∧Below w.heap.size w w':=by
 have c0:=hn.c0;have c1:=hn.c1;have c2:=hn.c2;have hlt:=hn.lt;go_enter Tryz.func74,Tryz.ntmps74
 go_upto_region 1 with fail
 have HB0:=hide ((Below.refl w.heap.size w).alloc lR (.cells #[.int .i64 0,.int .i64 0,.int .i64 0] 152));have hk:(w.alloc (.cells #[.int .i64 0,.int .i64 0,.int .i64 0] 152)).heap[w.heap.size]? =some (.cells #[.int .i64 0,.int .i64 0,.int .i64 0] 152 (0,0)):=heap_alloc_new _ _
 have hl0:w.heap.size<(w.alloc (.cells #[.int .i64 0,.int .i64 0,.int .i64 0] 152)).heap.size:=by simp
 generalize w.alloc (.cells #[.int .i64 0,.int .i64 0,.int .i64 0] 152)=w0 at *;have a0:=(HB0.out.cell (p:=⟨b,0,none⟩) hlt).trans c0;have a1:=(HB0.out.cell (p:=⟨b,1,none⟩) hlt).trans c1;have a2:=(HB0.out.cell (p:=⟨b,2,none⟩) hlt).trans c2
 have hlt0:b<w0.heap.size:=by omega
 have HK:=hide hk;clear c0 c1 c2 hn hk;have mR:=Tryz.methodRunes;have mB:=Tryz.methodBreaks
 go_region_with (first
  | (go_at_call 246;refine(pRunes p _).mono ?_;rintro e w1 ⟨rfl,hb1⟩;have B1:=hide (show Below w0.heap.size w0 w1 from⟨hb1.os,hb1.tape,hb1.output,hb1.size,hb1.block⟩);have d0:=(B1.out.cell (p:=⟨b,0,none⟩) hlt0).trans a0;have d1:=(B1.out.cell (p:=⟨b,1,none⟩) hlt0).trans a1;have d2:=(B1.out.cell (p:=⟨b,2,none⟩) hlt0).trans a2;clear hb1)
  | (go_at_call 245;refine(pBreaks p _).mono ?_;rintro e w2 ⟨rfl,hb2⟩;have B2:=hide (B1.out.trans ((show Below w1.heap.size w1 w2 from⟨hb2.os,hb2.tape,hb2.output,hb2.size,hb2.block⟩).mono B1.out.size));have hk2:=(B2.out.block _ hl0).trans HK.out;have k0:w2.cell? ⟨w.heap.size,0,none⟩=some (.int .i64 0):=(by rw [cell_of_row w2 _ 0 _ _ _ hk2];rfl);have k1:w2.cell? ⟨w.heap.size,1,none⟩=some (.int .i64 0):=(by rw [cell_of_row w2 _ 1 _ _ _ hk2];rfl);have k2:w2.cell? ⟨w.heap.size,2,none⟩=some (.int .i64 0):=(by rw [cell_of_row w2 _ 2 _ _ _ hk2];rfl);have f0:=frozen_of_row w2 w.heap.size 0 _ _ hk2;have f1:=frozen_of_row w2 w.heap.size 1 _ _ hk2;have f2:=frozen_of_row w2 w.heap.size 2 _ _ hk2;clear hb2 hk2))
 all_goals (go_wp2_with fail;refine bodyPost_ret (v:=cnt _ _ _) (by simp [results,Tryz.results74,go_sem,k0,k1,k2];rfl) rfl ⟨rfl,(((HB0.out.trans (B2.out.mono (Nat.le_of_lt hl0))).setCell lR _).setCell lR _).setCell lR _⟩)
end Go.Proofs.YtibbhecojkehfaaGreatDoor
