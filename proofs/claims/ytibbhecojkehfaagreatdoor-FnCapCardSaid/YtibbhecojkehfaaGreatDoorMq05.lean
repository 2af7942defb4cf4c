import Derived.Test.YtibbhecojkehfaaGreatDoorMq04
set_option linter.all false
set_option maxRecDepth 100000
set_option maxHeartbeats 16000000
namespace Go.Proofs.YtibbhecojkehfaaGreatDoor

namespace AT
def lean:AT->Int
 | nil=>0
 | node l _ r=>(l.ht:Int) - r.ht
def turnR:AT->AT
 | node (node a q b) p r=>node a q (node b p r)
 | t=>t
def turnL:AT->AT
 | node l p (node b q c)=>node (node l p b) q c
 | t=>t
def rep (l:AT) (p:Pc) (r:AT):AT:=
 if(l.ht:Int) - r.ht=2 then(if l.lean<0 then turnR (node l.turnL p r)else turnR (node l p r))
 else if(l.ht:Int) - r.ht= -2 then(if 0<r.lean then turnL (node l p r.turnR)else turnL (node l p r))
 else node l p r
def ins:AT->Nat->Pc->AT
 | nil,_,e=>node nil e nil
 | node l p r,k,e=>if k<=l.its then rep (ins l k e) p r else rep l p (ins r (k - l.its - 1) e)
def first:AT->Pc
 | nil=>default
 | node nil p _=>p
 | node (node a q b) _ _=>first (node a q b)
def rem:AT->Nat->AT
 | nil,_=>nil
 | node l p r,k=>
  if k<l.its then rep (rem l k) p r
  else if l.its<k then rep l p (rem r (k - l.its - 1))
  else match l,r with
   | nil,_=>r
   | node _ _ _,nil=>l
   | node _ _ _,node _ _ _=>rep l (first r) (rem r 0)
theorem ZS (a:List Pc) (p:Pc) (b:List Pc) (k:Nat) (h:a.length<k):(a++p::b).take k=a++p::b.take (k - a.length - 1):=by
 obtain⟨j,rfl⟩:∃j,k=a.length+1+j:=⟨k - a.length - 1,by omega⟩
 have e:a.length+1+j - a.length - 1=j:=by omega
 have e2:a.length+1+j - a.length=j+1:=by omega
 rw [List.take_append,List.take_of_length_le (by omega),e,e2];simp
theorem ZT (a:List Pc) (p:Pc) (b:List Pc) (k:Nat) (h:a.length<k):(a++p::b).drop k=b.drop (k - a.length - 1):=by
 obtain⟨j,rfl⟩:∃j,k=a.length+1+j:=⟨k - a.length - 1,by omega⟩
 have e:a.length+1+j - a.length - 1=j:=by omega
 have e2:a.length+1+j - a.length=j+1:=by omega
 rw [List.drop_append,List.drop_eq_nil_of_le (by omega),e,e2];simp
def spl:AT->Pc->AT->AT
 | a,e,b=>
  if a.ht > b.ht+1 then
   match a with
   | nil=>nil
   | node l p r=>rep l p (spl r e b)
  else if b.ht > a.ht+1 then
   match b with
   | nil=>nil
   | node l p r=>rep (spl a e l) p r
  else node a e b
 termination_by a _ b=>a.its+b.its
 decreasing_by all_goals (simp only [its];omega)
def join (a b:AT):AT:=
 match a,b with
 | nil,_=>b
 | node _ _ _,nil=>a
 | node _ _ _,node _ _ _=>spl a (first b) (rem b 0)
def split:AT->Nat->AT×AT
 | nil,_=>(nil,nil)
 | node l p r,k=>
  if k<=l.its then((split l k).1,spl (split l k).2 p r)
  else(spl l p (split r (k - l.its - 1)).1,(split r (k - l.its - 1)).2)
def flat:AT->List Pc
 | nil=>[]
 | node l p r=>l.flat++p::r.flat
theorem zu:∀T:AT,T.flat.length=T.its
 | nil=>rfl
 | node l p r=>by simp [flat,its,zu l,zu r];omega
theorem jf (T:AT):T.turnR.flat=T.flat:=by
 unfold turnR;split<;>simp [flat]
theorem jg (T:AT):T.turnL.flat=T.flat:=by
 unfold turnL;split<;>simp [flat]
theorem flat_rep (l:AT) (p:Pc) (r:AT):(rep l p r).flat=l.flat++p::r.flat:=by
 unfold rep
 split
 ·split
  ·rw [jf];simp [flat,jg]
  rw [jf];simp [flat]
 split
 ·split
  ·rw [jg];simp [flat,jf]
  rw [jg];simp [flat]
 simp [flat]
theorem yv (l:AT) (p:Pc) (r:AT) (hl:l.bal) (hr:r.bal) (h1:l.ht<=r.ht+2) (h2:r.ht<=l.ht+2):
  (rep l p r).bal∧max l.ht r.ht<=(rep l p r).ht∧(rep l p r).ht<=max l.ht r.ht+1∧(l.ht<=r.ht+1->r.ht<=l.ht+1->(rep l p r).ht=max l.ht r.ht+1):=by
 unfold rep
 split
 ·rename_i h3
  match l,hl with
  | nil,_=>simp [ht]at h3;omega
  | node a q b,⟨ba,bb,g1,g2⟩=>
   simp only [ht]at h1 h2 h3
   split
   ·rename_i h4
    simp only [lean]at h4
    match b,bb with
    | nil,_=>simp [ht]at h4;omega
    | node c s d,⟨bc,bd,g3,g4⟩=>
     simp only [ht]at h4 g1 g2 h1 h2 h3;simp only [turnL,turnR,bal,ht]
     refine⟨⟨⟨ba,bc,?_,?_⟩,⟨bd,hr,?_,?_⟩,?_,?_⟩,?_,?_,?_⟩<;>omega
   rename_i h4
   simp only [lean]at h4;simp only [turnR,bal,ht]
   refine⟨⟨ba,⟨bb,hr,?_,?_⟩,?_,?_⟩,?_,?_,?_⟩<;>omega
 rename_i h3
 split
 ·rename_i h3'
  match r,hr with
  | nil,_=>simp [ht]at h3'
  | node a q b,⟨ba,bb,g1,g2⟩=>
   simp only [ht]at h1 h2 h3 h3'
   split
   ·rename_i h4
    simp only [lean]at h4
    match a,ba with
    | nil,_=>simp [ht]at h4;omega
    | node c s d,⟨bc,bd,g3,g4⟩=>
     simp only [ht]at h4 g1 g2 h1 h2 h3 h3';simp only [turnL,turnR,bal,ht]
     refine⟨⟨⟨hl,bc,?_,?_⟩,⟨bd,bb,?_,?_⟩,?_,?_⟩,?_,?_,?_⟩<;>omega
   rename_i h4
   simp only [lean]at h4;simp only [turnL,bal,ht]
   refine⟨⟨⟨hl,ba,?_,?_⟩,bb,?_,?_⟩,?_,?_,?_⟩<;>omega
 rename_i h3'
 simp only [bal,ht]
 refine⟨⟨hl,hr,?_,?_⟩,?_,?_,?_⟩<;>omega
theorem ins_bal:∀ (T:AT) (k:Nat) (e:Pc),T.bal->(ins T k e).bal∧T.ht<=(ins T k e).ht∧(ins T k e).ht<=T.ht+1
 | nil,k,e,_=>by simp [ins,bal,ht]
 | node l p r,k,e,⟨hl,hr,h1,h2⟩=>by
  simp only [ins,ht]
  split
  ·obtain⟨b,g1,g2⟩:=ins_bal l k e hl
   obtain⟨c,q1,q2,q3⟩:=yv (ins l k e) p r b hr (by omega) (by omega)
   exact⟨c,by omega,by omega⟩
  obtain⟨b,g1,g2⟩:=ins_bal r (k - l.its - 1) e hr
  obtain⟨c,q1,q2,q3⟩:=yv l p (ins r (k - l.its - 1) e) hl b (by omega) (by omega)
  exact⟨c,by omega,by omega⟩
theorem ins_flat:∀ (T:AT) (k:Nat) (e:Pc),k<=T.its->(ins T k e).flat=T.flat.take k++e::T.flat.drop k
 | nil,k,e,_=>by simp [ins,flat]
 | node l p r,k,e,hk=>by
  simp only [its]at hk;have hl:=zu l;simp only [ins,flat]
  split
  ·rename_i h
   rw [flat_rep,ins_flat l k e h,List.take_append_of_le_length (by omega),List.drop_append_of_le_length (by omega)]
   simp
  rename_i h
  rw [flat_rep,ins_flat r (k - l.its - 1) e (by omega),ZS _ _ _ _ (by omega),ZT _ _ _ _ (by omega),hl]
  simp
theorem rem_bal:∀ (T:AT) (k:Nat),T.bal->k<T.its->(rem T k).bal∧T.ht<=(rem T k).ht+1∧(rem T k).ht<=T.ht
 | nil,k,_,hk=>by simp [its]at hk
 | node l p r,k,⟨hl,hr,h1,h2⟩,hk=>by
  simp only [its]at hk;simp only [rem,ht]
  split
  ·rename_i h
   obtain⟨b,g1,g2⟩:=rem_bal l k hl h
   obtain⟨c,q1,q2,q3⟩:=yv (rem l k) p r b hr (by omega) (by omega)
   exact⟨c,by omega,by omega⟩
  split
  ·rename_i h
   obtain⟨b,g1,g2⟩:=rem_bal r (k - l.its - 1) hr (by omega)
   obtain⟨c,q1,q2,q3⟩:=yv l p (rem r (k - l.its - 1)) hl b (by omega) (by omega)
   exact⟨c,by omega,by omega⟩
  split
  ·simp only [ht]at h1 h2 |-;exact⟨hr,by omega,by omega⟩
  ·simp only [ht]at h1 h2 |-;exact⟨hl,by omega,by omega⟩
  obtain⟨b,g1,g2⟩:=rem_bal _ 0 hr (by simp only [its];omega)
  obtain⟨c,q1,q2,q3⟩:=yv _ (first _) _ hl b (by omega) (by omega)
  exact⟨c,by omega,by omega⟩
theorem first_flat:∀T:AT,T≠nil->∃t,T.flat=first T::t
 | nil,h=>absurd rfl h
 | node nil p r,_=>⟨_,by simp [flat,first];rfl⟩
 | node (node a q b) p r,_=>by
  obtain⟨t,ht⟩:=first_flat (node a q b) (by simp)
  refine⟨t++p::r.flat,?_⟩
  rw [flat,ht,first];rfl
theorem rem_flat:∀ (T:AT) (k:Nat),k<T.its->(rem T k).flat=T.flat.take k++T.flat.drop (k+1)
 | nil,k,hk=>by simp [its]at hk
 | node l p r,k,hk=>by
  simp only [its]at hk;have hl:=zu l;simp only [rem,flat]
  split
  ·rename_i h
   rw [flat_rep,rem_flat l k h,List.take_append_of_le_length (by omega),List.drop_append_of_le_length (by omega)]
   simp
  split
  ·rename_i h
   have e2:k+1 - l.its - 1=k - l.its - 1+1:=by omega
   rw [flat_rep,rem_flat r (k - l.its - 1) (by omega),ZS _ _ _ _ (by omega),ZT _ _ _ _ (by omega),hl,e2]
   simp
  have hke:k=l.its:=by omega
  have e1:k=l.flat.length:=by omega
  have e:(l.flat++p::r.flat).take k++(l.flat++p::r.flat).drop (k+1)=l.flat++r.flat:=by
   rw [e1];simp [List.drop_append]
  rw [e]
  split
  ·simp [flat]
  ·simp [flat]
  rename_i a2 q2 b2 _ _
  obtain⟨t,ht⟩:=first_flat (node a2 q2 b2) (by simp)
  rw [flat_rep,rem_flat (node a2 q2 b2) 0 (by rw [<- zu,ht];simp),ht]
  simp
theorem spl_flat (a:AT) (e:Pc) (b:AT):(spl a e b).flat=a.flat++e::b.flat:=by
 fun_induction spl a e b with
 | case1=>rename_i h;simp [ht]at h
 | case2=>rename_i h ih;rw [flat_rep,ih];simp [flat]
 | case3=>rename_i h1 h;simp [ht]at h
 | case4=>rename_i ih;rw [flat_rep,ih];simp [flat]
 | case5=>simp [flat]
theorem spl_bal (a:AT) (e:Pc) (b:AT):a.bal->b.bal->(spl a e b).bal∧max a.ht b.ht<=(spl a e b).ht∧(spl a e b).ht<=max a.ht b.ht+1:=by
 fun_induction spl a e b with
 | case1=>rename_i h;simp [ht]at h
 | case2 b0 e0 l p r h ih=>
  intro ⟨hl,hr,h1,h2⟩ hb;obtain⟨c,g1,g2⟩:=ih hr hb;simp only [ht]at h |-
  obtain⟨c',q1,q2,q3⟩:=yv l p (spl r _ _) hl c (by omega) (by omega)
  exact⟨c',by omega,by omega⟩
 | case3=>rename_i h1 h;simp [ht]at h
 | case4 a0 e0 l p r h' h ih=>
  intro ha ⟨hl,hr,h1,h2⟩;obtain⟨c,g1,g2⟩:=ih ha hl;simp only [ht]at h h' |-
  obtain⟨c',q1,q2,q3⟩:=yv (spl _ _ l) p r c hr (by omega) (by omega)
  exact⟨c',by omega,by omega⟩
 | case5 a0 b0 h h'=>
  intro ha hb;simp only [bal,ht]
  exact⟨⟨ha,hb,by omega,by omega⟩,by omega,by omega⟩
theorem join_flat (a b:AT):(join a b).flat=a.flat++b.flat:=by
 unfold join
 split
 ·simp [flat]
 ·simp [flat]
 rename_i a1 q1 b1 a2 q2 b2
 obtain⟨t,ht⟩:=first_flat (node a2 q2 b2) (by simp)
 rw [spl_flat,rem_flat (node a2 q2 b2) 0 (by rw [<- zu,ht];simp),ht]
 simp
theorem join_bal (a b:AT) (ha:a.bal) (hb:b.bal):(join a b).bal:=by
 unfold join
 split
 ·exact hb
 ·exact ha
 rename_i a1 q1 b1 a2 q2 b2
 exact(spl_bal _ _ _ ha (rem_bal _ 0 hb (by simp only [its];omega)).1).1
theorem split_flat:∀ (T:AT) (k:Nat),k<=T.its->(split T k).1.flat=T.flat.take k∧(split T k).2.flat=T.flat.drop k
 | nil,k,_=>by simp [split,flat]
 | node l p r,k,hk=>by
  simp only [its]at hk;have hl:=zu l;simp only [split,flat]
  split
  ·rename_i h
   obtain⟨h1,h2⟩:=split_flat l k h
   rw [spl_flat,h1,h2,List.take_append_of_le_length (by omega),List.drop_append_of_le_length (by omega)]
   exact⟨rfl,rfl⟩
  rename_i h
  obtain⟨h1,h2⟩:=split_flat r (k - l.its - 1) (by omega)
  rw [spl_flat,h1,h2,ZS _ _ _ _ (by omega),ZT _ _ _ _ (by omega),hl]
  exact⟨rfl,rfl⟩
theorem split_bal:∀ (T:AT) (k:Nat),T.bal->(split T k).1.bal∧(split T k).2.bal
 | nil,k,_=>by simp [split,bal]
 | node l p r,k,⟨hl,hr,h1,h2⟩=>by
  simp only [split]
  split
  ·obtain⟨b1,b2⟩:=split_bal l k hl
   exact⟨b1,(spl_bal _ _ _ b2 hr).1⟩
  obtain⟨b1,b2⟩:=split_bal r (k - l.its - 1) hr;exact⟨(spl_bal _ _ _ hl b1).1,b2⟩
end AT
end Go.Proofs.YtibbhecojkehfaaGreatDoor
namespace Go.Proofs.YtibbhecojkehfaaGreatDoor
open Go Go.RowKit
structure Chg (bs:List Nat) (w w':World):Prop where
 os:w'.os=w.os
 tape:w'.tape=w.tape
 output:w'.output=w.output
 size:w.heap.size<=w'.heap.size
 block:∀k,k<w.heap.size->k∉bs->w'.heap[k]? =w.heap[k]?
theorem Chg.of_below {bs:List Nat} {w w':World} (h:Below w.heap.size w w'):Chg bs w w':=⟨h.os,h.tape,h.output,h.size,fun k hk _=>h.block k hk⟩
theorem Chg.refl (bs:List Nat) (w:World):Chg bs w w:=.of_below (Below.refl _ _)
theorem Chg.below {B:Nat} {bs:List Nat} {w w':World} (h:Chg bs w w') (hB:B<=w.heap.size) (hbs:∀k∈bs,B<=k):Below B w w':=
 ⟨h.os,h.tape,h.output,h.size,fun k hk=>h.block k (by omega) (fun hm=>by have:=hbs k hm;omega)⟩
theorem Chg.trans {bs cs ds:List Nat} {a b c:World} (h:Chg bs a b) (g:Chg cs b c) (h1:∀k∈bs,k<a.heap.size->k∈ds) (h2:∀k∈cs,k<a.heap.size->k∈ds):Chg ds a c:=
 ⟨g.os.trans h.os,g.tape.trans h.tape,g.output.trans h.output,Nat.le_trans h.size g.size,fun k hk hn=>
  (g.block k (Nat.lt_of_lt_of_le hk h.size) (fun hm=>hn (h2 k hm hk))).trans (h.block k hk (fun hm=>hn (h1 k hm hk)))⟩
theorem Chg.setCell {bs:List Nat} {a b:World} (h:Chg bs a b) (x:Addr) (v:Value) (hx:x.block∈bs∨a.heap.size<=x.block):Chg bs a (b.setCell x v):=
 ⟨h.os,h.tape,h.output,by simpa using h.size,fun k hk hn=>by
  rw [heap_setCell_other _ _ _ _ (by intro e;subst e;rcases hx with hx | hx;exact hn hx;omega)];exact h.block k hk hn⟩
theorem Chg.drawn {bs:List Nat} {a b c:World} (h:Chg bs a b) (e1:c.os=b.os) (e2:c.tape=b.tape) (e3:c.output=b.output) (e4:c.heap=b.heap):Chg bs a c:=
 ⟨e1.trans h.os,e2.trans h.tape,e3.trans h.output,by rw [e4];exact h.size,fun k hk hn=>by rw [e4];exact h.block k hk hn⟩
theorem Lies.chg {w w':World} {base:Nat} {cs:List Nat} {T:AT} {u:Option Addr} {bs:List Nat} (h:Lies w base T u bs) (hc:Chg cs w w') (hd:∀b∈bs,b∉cs):Lies w' base T u bs:=
 h.frame fun b hb=>hc.block b (h.lt b hb).2 (hd b hb)
theorem Nd.chg {w w':World} {cs:List Nat} {b:Nat} {p:Pc} {l r:Option Addr} {h i n k:Int} (hn:Nd w b p l r h i n k) (hc:Chg cs w w') (hd:b∉cs):Nd w' b p l r h i n k:=by
 unfold Nd at hn |-;rw [hc.block b (Nd.lt hn) hd];exact hn
theorem Nd.heap {w w':World} {b:Nat} {p:Pc} {l r:Option Addr} {h i n k:Int} (hn:Nd w b p l r h i n k) (hc:w'.heap=w.heap):Nd w' b p l r h i n k:=by
 unfold Nd at hn |-;rw [hc];exact hn
theorem Nd.set5 {w:World} {b:Nat} {p:Pc} {l r:Option Addr} {h i n k:Int} (hn:Nd w b p l r h i n k) (x:Int):Nd (w.setCell ⟨b,5,none⟩ (.int .i64 x)) b p l r x i n k:=by
 unfold Nd at hn |-;rw [heap_setCell_same w b 5 _ _ _ hn];rfl
theorem Nd.cong5 {w:World} {b:Nat} {p:Pc} {l r:Option Addr} {h h' i n k:Int} (hn:Nd w b p l r h i n k) (e:h=h'):Nd w b p l r h' i n k:=e▸hn
theorem Nd.set678 {w:World} {b:Nat} {p:Pc} {l r:Option Addr} {h i n k:Int} (hn:Nd w b p l r h i n k) (x y z:Int):Nd (((w.setCell ⟨b,6,none⟩ (.int .i64 x)).setCell ⟨b,7,none⟩ (.int .i64 y)).setCell ⟨b,8,none⟩ (.int .i64 z)) b p l r h x y z:=by
 unfold Nd at hn |-;have h1:=heap_setCell_same w b 6 _ _ (.int .i64 x) hn;have h2:=heap_setCell_same _ b 7 _ _ (.int .i64 y) h1;have h3:=heap_setCell_same _ b 8 _ _ (.int .i64 z) h2;rw [h3];rfl
def AT.ok (T:AT):Prop:=(∀p∈T.flat,pcOk p=true)∧T.rns<=8192
def AT.okw (T:AT):Prop:=(∀p∈T.flat,pcOk p=true)∧T.rns<=16384
theorem AT.ok.w {T:AT} (h:T.ok):T.okw:=⟨h.1,by have:=h.2;omega⟩
theorem AT.rns_flat:∀T:AT,(∀p∈T.flat,pcOk p=true)->(T.its:Int)<=T.rns∧0<=T.bks∧T.bks<=T.rns
 | .nil,_=>by simp [its,rns,bks]
 | .node l p r,h=>by
  have hl:=rns_flat l (fun q hq=>h q (by simp [flat,hq]))
  have hr:=rns_flat r (fun q hq=>h q (by simp [flat,hq]))
  have hp:=h p (by simp [flat])
  simp only [pcOk,decide_eq_true_eq]at hp;simp only [its,rns,bks];omega
theorem AT.ok.bd {T:AT} (h:T.ok):(T.its:Int)<=8192∧0<=T.rns∧T.rns<=8192∧0<=T.bks∧T.bks<=8192:=by
 have:=rns_flat T h.1;have:=h.2;omega
theorem AT.okw.bd {T:AT} (h:T.okw):(T.its:Int)<=16384∧0<=T.rns∧T.rns<=16384∧0<=T.bks∧T.bks<=16384:=by
 have:=rns_flat T h.1;have:=h.2;omega
theorem AT.ok.left {l:AT} {p:Pc} {r:AT} (h:(AT.node l p r).ok):l.ok:=by
 have hr:=rns_flat r (fun q hq=>h.1 q (by simp [flat,hq]))
 have hp:=h.1 p (by simp [flat])
 simp only [pcOk,decide_eq_true_eq]at hp
 refine⟨fun q hq=>h.1 q (by simp [flat,hq]),?_⟩
 have:=h.2;simp only [rns]at this;omega
theorem AT.okw.left {l:AT} {p:Pc} {r:AT} (h:(AT.node l p r).okw):l.okw:=by
 have hr:=rns_flat r (fun q hq=>h.1 q (by simp [flat,hq]))
 have hp:=h.1 p (by simp [flat])
 simp only [pcOk,decide_eq_true_eq]at hp
 refine⟨fun q hq=>h.1 q (by simp [flat,hq]),?_⟩
 have:=h.2;simp only [rns]at this;omega
theorem AT.ok.right {l:AT} {p:Pc} {r:AT} (h:(AT.node l p r).ok):r.ok:=by
 have hr:=rns_flat l (fun q hq=>h.1 q (by simp [flat,hq]))
 have hp:=h.1 p (by simp [flat])
 simp only [pcOk,decide_eq_true_eq]at hp
 refine⟨fun q hq=>h.1 q (by simp [flat,hq]),?_⟩
 have:=h.2;simp only [rns]at this;omega
theorem AT.okw.right {l:AT} {p:Pc} {r:AT} (h:(AT.node l p r).okw):r.okw:=by
 have hr:=rns_flat l (fun q hq=>h.1 q (by simp [flat,hq]))
 have hp:=h.1 p (by simp [flat])
 simp only [pcOk,decide_eq_true_eq]at hp
 refine⟨fun q hq=>h.1 q (by simp [flat,hq]),?_⟩
 have:=h.2;simp only [rns]at this;omega
theorem AT.ok.piece {l:AT} {p:Pc} {r:AT} (h:(AT.node l p r).ok):0<=p.off∧p.off<=220000∧1<=p.len∧p.len<=8192∧0<=p.brk∧p.brk<=8192:=by
 have hp:=h.1 p (by simp [flat])
 simp only [pcOk,decide_eq_true_eq]at hp;omega
theorem AT.okw.piece {l:AT} {p:Pc} {r:AT} (h:(AT.node l p r).okw):0<=p.off∧p.off<=220000∧1<=p.len∧p.len<=8192∧0<=p.brk∧p.brk<=8192:=by
 have hp:=h.1 p (by simp [flat])
 simp only [pcOk,decide_eq_true_eq]at hp;omega
theorem AT.rns_of_flat:∀T:AT,T.rns=(T.flat.map (fun p=>p.len)).sum
 | .nil=>rfl
 | .node l p r=>by simp only [rns,flat,List.map_append,List.map_cons,List.sum_append,List.sum_cons,rns_of_flat l,rns_of_flat r];omega
theorem AT.ok.of_flat {T S:AT} (h:T.ok) (e:S.flat=T.flat):S.ok:=⟨fun p hp=>h.1 p (e▸hp),by rw [rns_of_flat,e,<- rns_of_flat];exact h.2⟩
theorem AT.okw.of_flat {T S:AT} (h:T.okw) (e:S.flat=T.flat):S.okw:=⟨fun p hp=>h.1 p (e▸hp),by rw [rns_of_flat,e,<- rns_of_flat];exact h.2⟩
theorem i64w (x:Int) (h: -9223372036854775808<=x) (h2:x<9223372036854775808):IntKind.i64.wrap x=x:=by rw [IntKind.wrap_i64];omega
theorem zi (T:AT):T.ht<=T.its:=AT.ht_its T
theorem zw (L:AT) (p:Pc) (R:AT) (b:Nat) (ul ur:Option Addr) (bl br:List Nat) (base:Nat) (h i n k:Int) (w:World) (hn:Nd w b p ul ur h i n k)
  (hL:Lies w base L ul bl) (hR:Lies w base R ur br) (nl:b∉bl) (nr:b∉br) (hok:(AT.node L p R).okw):
  Calls Tryz.prog 63 #[.pointer (some ⟨b,0,none⟩)] w fun e w'=>e= .returned (.tuple #[])∧Nd w' b p ul ur (1+max (L.ht:Int) R.ht) (L.its+1+R.its) (L.rns+p.len+R.rns) (L.bks+p.brk+R.bks)∧Chg [b] w w':=by
 have c3:=hn.c3;have c4:=hn.c4;have c5:=hn.c5;have f5:=hn.fz 5;have hlt:=hn.lt;have bL:=hok.left.bd;have bR:=hok.right.bd;have bP:=hok.piece
 have hhl:(L.ht:Int)<=16384:=by have:=zi L;omega
 have hhr:(R.ht:Int)<=16384:=by have:=zi R;omega
 have HN:=hide hn;have HL:=hide hL;have HR:=hide hR;have NL:=hide nl;have NR:=hide nr;clear hn hL hR nl nr hok;go_enter Tryz.func63,Tryz.ntmps63
 go_upto_region 0 with fail
 go_cut [] (fun wc=>Nd wc b p ul ur (1+max (L.ht:Int) R.ht) i n k∧Chg [b] w wc)
 case first=>
  go_region_with (first
   | (go_at_call_of 72 (Value.pointer ul);refine(yf L ul bl base _ (by exact HL.out.frame (fun _ _=>rfl))).mono ?_;rintro e w1 ⟨rfl,rfl⟩)
   | (go_at_call_of 72 (Value.pointer ur);refine(yf R ur br base _ (by exact HR.out.frame (fun _ _=>rfl))).mono ?_;rintro e w2 ⟨rfl,rfl⟩))
  all_goals ((go_wp2_with fail)<;>go_meet<;>exact⟨((HN.out.set5 _).heap rfl).cong5 (by rw [i64w _ (by omega) (by omega)];omega),((Chg.refl [b] w).setCell ⟨b,5,none⟩ _ (.inl (by simp))).drawn rfl rfl rfl rfl⟩)
 obtain⟨hn,hcc⟩:=hcut;have N0:=hide hn;have C0:=hide hcc
 have L0:=hide (HL.out.chg hcc (fun x hx e=>NL.out (by simp at e;exact e▸hx)))
 have R0:=hide (HR.out.chg hcc (fun x hx e=>NR.out (by simp at e;exact e▸hx)))
 have d3:=hn.c3;have d4:=hn.c4;have hltc:=hn.lt;clear hn hcc HN HL HR c3 c4 c5 f5
 go_upto_region 1 with fail
 go_region_with (first
  | (go_at_call_of 53 (Value.pointer ul);refine(allN L ul bl base _ (by exact L0.out.frame (fun _ _=>rfl))).mono ?_;rintro e w1 ⟨rfl,hb1⟩;have C1:=hide (C0.out.trans (show Chg [b] wc w1 from .of_below ⟨hb1.os,hb1.tape,hb1.output,hb1.size,hb1.block⟩) (fun _ h _=>h) (fun _ h _=>h));have N1:=hide (show Nd w1 b p ul ur (1+max (L.ht:Int) R.ht) i n k from(hb1.block b (by exact hltc)).trans N0.out);have R1:=hide (R0.out.frame (w':=w1) (fun x hx=>hb1.block x (by exact(R0.out.lt x hx).2)));have d3:=N1.out.c3;have d4:=N1.out.c4;have hl1:=N1.out.lt;clear hb1 N0 C0 L0 R0)
  | (go_at_call_of 74 (Value.pointer (some ⟨b,0,none⟩));refine(ownN p b ul ur _ _ _ _ _ (by exact N1.out.heap rfl)).mono ?_;rintro e w2 ⟨rfl,hb2⟩;have C2:=hide (C1.out.trans (show Chg [b] w1 w2 from .of_below ⟨hb2.os,hb2.tape,hb2.output,hb2.size,hb2.block⟩) (fun _ h _=>h) (fun _ h _=>h));have N2:=hide (show Nd w2 b p ul ur (1+max (L.ht:Int) R.ht) i n k from(hb2.block b (by exact hl1)).trans N1.out);have R2:=hide (R1.out.frame (w':=w2) (fun x hx=>hb2.block x (by exact(R1.out.lt x hx).2)));have d3:=N2.out.c3;have d4:=N2.out.c4;have hl2:=N2.out.lt;clear hb2 N1 C1 R1)
  | (go_at_call_of 73 (cnt 1 p.len p.brk);refine(plusN _ _ _ _ _ _ _ (by omega) (by omega) (by omega) (by omega) (by omega) (by omega)).mono ?_;rintro e w3 ⟨rfl,hb3⟩;have C3:=hide (C2.out.trans (show Chg [b] w2 w3 from .of_below ⟨hb3.os,hb3.tape,hb3.output,hb3.size,hb3.block⟩) (fun _ h _=>h) (fun _ h _=>h));have N3:=hide (show Nd w3 b p ul ur (1+max (L.ht:Int) R.ht) i n k from(hb3.block b (by exact hl2)).trans N2.out);have R3:=hide (R2.out.frame (w':=w3) (fun x hx=>hb3.block x (by exact(R2.out.lt x hx).2)));have d3:=N3.out.c3;have d4:=N3.out.c4;have hl3:=N3.out.lt;clear hb3 N2 C2 R2)
  | (go_at_call_of 53 (Value.pointer ur);refine(allN R ur br base _ (by exact R3.out.frame (fun _ _=>rfl))).mono ?_;rintro e w4 ⟨rfl,hb4⟩;have C4:=hide (C3.out.trans (show Chg [b] w3 w4 from .of_below ⟨hb4.os,hb4.tape,hb4.output,hb4.size,hb4.block⟩) (fun _ h _=>h) (fun _ h _=>h));have N4:=hide (show Nd w4 b p ul ur (1+max (L.ht:Int) R.ht) i n k from(hb4.block b (by exact hl3)).trans N3.out);have hl4:=N4.out.lt;clear hb4 N3 C3 R3)
  | (go_at_call_of 73 (cnt (R.its:Int) R.rns R.bks);refine(plusN _ _ _ _ _ _ _ (by omega) (by omega) (by omega) (by omega) (by omega) (by omega)).mono ?_;rintro e w5 ⟨rfl,hb5⟩;have C5:=hide (C4.out.trans (show Chg [b] w4 w5 from .of_below ⟨hb5.os,hb5.tape,hb5.output,hb5.size,hb5.block⟩) (fun _ h _=>h) (fun _ h _=>h));have N5:=hide (show Nd w5 b p ul ur (1+max (L.ht:Int) R.ht) i n k from(hb5.block b (by exact hl4)).trans N4.out);have d6:=N5.out.c6;have d7:=N5.out.c7;have d8:=N5.out.c8;have f6:=N5.out.fz 6;have f7:=N5.out.fz 7;have f8:=N5.out.fz 8;simp only [cnt];clear hb5 N4 C4))
 all_goals (refine bodyPost_end (v:=.tuple #[]) (by simp [results,Tryz.results63]) rfl ⟨rfl,N5.out.set678 _ _ _,?_⟩;exact((C5.out.setCell ⟨b,6,none⟩ _ (.inl (by simp))).setCell ⟨b,7,none⟩ _ (.inl (by simp))).setCell ⟨b,8,none⟩ _ (.inl (by simp)))
theorem recountN (L:AT) (p:Pc) (R:AT) (b:Nat) (ul ur:Option Addr) (bl br:List Nat) (base:Nat) (h i n k:Int) (w:World) (hn:Nd w b p ul ur h i n k)
  (hL:Lies w base L ul bl) (hR:Lies w base R ur br) (nl:b∉bl) (nr:b∉br) (hok:(AT.node L p R).ok):
  Calls Tryz.prog 63 #[.pointer (some ⟨b,0,none⟩)] w fun e w'=>e= .returned (.tuple #[])∧Nd w' b p ul ur (1+max (L.ht:Int) R.ht) (L.its+1+R.its) (L.rns+p.len+R.rns) (L.bks+p.brk+R.bks)∧Chg [b] w w':=
 zw L p R b ul ur bl br base h i n k w hn hL hR nl nr hok.w
theorem XI (L:AT) (p:Pc) (R:AT) (ul ur:Option Addr) (bl br:List Nat) (base:Nat) (w:World) (hL:Lies w base L ul bl) (hR:Lies w base R ur br) (hok:(AT.node L p R).ok) (hbase:base<=w.heap.size):
  Calls Tryz.prog 47 #[.pointer ul,pcV p,.pointer ur] w fun e w'=>∃b,e= .returned (.pointer (some ⟨b,0,none⟩))∧w.heap.size<=b∧Lies w' base (.node L p R) (some ⟨b,0,none⟩) (b::(bl++br))∧Below w.heap.size w w':=by
 have hbl:=fun x hx=>(hL.lt x hx).2
 have hbr:=fun x hx=>(hR.lt x hx).2
 have HB:=hide (((Below.refl w.heap.size w).alloc lR (.cells #[.int .i64 p.off,.int .i64 p.len,.int .i64 p.brk] 89)).alloc (by simp) (.cells (ndC p ul ur 0 0 0 0) 168))
 have hN:Nd ((w.alloc (.cells #[.int .i64 p.off,.int .i64 p.len,.int .i64 p.brk] 89)).alloc (.cells (ndC p ul ur 0 0 0 0) 168)) (w.heap.size+1) p ul ur 0 0 0 0:=by
  have:=heap_alloc_new (w.alloc (.cells #[.int .i64 p.off,.int .i64 p.len,.int .i64 p.brk] 89)) (.cells (ndC p ul ur 0 0 0 0) 168);simpa [Nd]using this
 have HK:=hide (recountN L p R (w.heap.size+1) ul ur bl br base 0 0 0 0 _ hN (hL.below HB.out lR) (hR.below HB.out lR) (fun h=>by have:=hbl _ h;omega) (fun h=>by have:=hbr _ h;omega) hok)
 have HL:=hide (hL.below HB.out lR);have HR:=hide (hR.below HB.out lR);have HX:=hide (And.intro hbl hbr);clear hL hR hok hbl hbr hN;unfold pcV;go_enter Tryz.func47,Tryz.ntmps47;go_wp2_with fail;refine HK.out.mono ?_;rintro e w1 ⟨rfl,hn,hc⟩;have HN:=hide hn;have HC:=hide hc;clear hn hc HK;go_wp2;go_ret
 have h1:∀x∈bl,x∉ [w.heap.size+1]:=fun x hx e=>by have:=HX.out.1 x hx;simp at e;omega
 have h2:∀x∈br,x∉ [w.heap.size+1]:=fun x hx e=>by have:=HX.out.2 x hx;simp at e;omega
 exact⟨w.heap.size+1,rfl,by omega,⟨_,ul,ur,bl,br,rfl,by omega,HN.out,HL.out.chg HC.out h1,HR.out.chg HC.out h2,rfl⟩,HB.out.trans (HC.out.below (by simp;omega) (by simp))⟩
theorem XJ (L:AT) (p:Pc) (R:AT) (b:Nat) (ul ur:Option Addr) (bl br:List Nat) (base:Nat) (h i n k:Int) (w:World) (hn:Nd w b p ul ur h i n k)
  (hL:Lies w base L ul bl) (hR:Lies w base R ur br) (h1:(L.ht:Int)<=16384) (h2:(R.ht:Int)<=16384):
  Calls Tryz.prog 215 #[.pointer (some ⟨b,0,none⟩)] w fun e w'=>e= .returned (.int .i64 ((L.ht:Int) - R.ht))∧Chg [] w w':=by
 have c3:=hn.c3;have c4:=hn.c4;have hlt:=hn.lt;have HL:=hide hL;have HR:=hide hR;clear hn hL hR
 have hw:IntKind.i64.wrap ((L.ht:Int) - R.ht)=(L.ht:Int) - R.ht:=i64w _ (by omega) (by omega)
 go_enter Tryz.func215,Tryz.ntmps215
 go_upto_region 1 with fail
 go_region_with (first
   | (go_at_call_of 72 (Value.pointer ul);refine(yf L ul bl base _ (by exact HL.out.frame (fun _ _=>rfl))).mono ?_;rintro e w1 ⟨rfl,rfl⟩)
   | (go_at_call_of 72 (Value.pointer ur);refine(yf R ur br base _ (by exact HR.out.frame (fun _ _=>rfl))).mono ?_;rintro e w2 ⟨rfl,rfl⟩))
 all_goals (go_wp2;go_ret;exact⟨by first | rfl | simp [hw],(Chg.refl _ _).drawn rfl rfl rfl rfl⟩)
theorem Nd.set3 {w:World} {b:Nat} {p:Pc} {l r:Option Addr} {h i n k:Int} (hn:Nd w b p l r h i n k) (l':Option Addr):Nd (w.setCell ⟨b,3,none⟩ (.pointer l')) b p l' r h i n k:=by
 unfold Nd at hn |-;rw [heap_setCell_same w b 3 _ _ _ hn];rfl
theorem Nd.set4 {w:World} {b:Nat} {p:Pc} {l r:Option Addr} {h i n k:Int} (hn:Nd w b p l r h i n k) (r':Option Addr):Nd (w.setCell ⟨b,4,none⟩ (.pointer r')) b p l r' h i n k:=by
 unfold Nd at hn |-;rw [heap_setCell_same w b 4 _ _ _ hn];rfl
theorem Nd.set012 {w:World} {b:Nat} {p:Pc} {l r:Option Addr} {h i n k:Int} (hn:Nd w b p l r h i n k) (q:Pc):Nd (((w.setCell ⟨b,0,none⟩ (.int .i64 q.off)).setCell ⟨b,1,none⟩ (.int .i64 q.len)).setCell ⟨b,2,none⟩ (.int .i64 q.brk)) b q l r h i n k:=by
 unfold Nd at hn |-;have h1:=heap_setCell_same w b 0 _ _ (.int .i64 q.off) hn;have h2:=heap_setCell_same _ b 1 _ _ (.int .i64 q.len) h1;have h3:=heap_setCell_same _ b 2 _ _ (.int .i64 q.brk) h2;rw [h3];rfl
theorem Nd.other {w:World} {b:Nat} {p:Pc} {l r:Option Addr} {h i n k:Int} (hn:Nd w b p l r h i n k) (a:Addr) (v:Value) (hne:b≠a.block):Nd (w.setCell a v) b p l r h i n k:=by
 unfold Nd at hn |-;rw [heap_setCell_other _ _ _ _ hne];exact hn
theorem Lies.other {w:World} {base:Nat} {T:AT} {u:Option Addr} {bs:List Nat} (h:Lies w base T u bs) (a:Addr) (v:Value) (hne:a.block∉bs):Lies (w.setCell a v) base T u bs:=
 h.frame fun b hb=>heap_setCell_other _ _ _ _ (fun e=>hne (e▸hb))
def NdT (w:World) (b:Nat) (L:AT) (p:Pc) (R:AT) (l r:Option Addr):Prop:=Nd w b p l r (1+max (L.ht:Int) R.ht) (L.its+1+R.its) (L.rns+p.len+R.rns) (L.bks+p.brk+R.bks)
theorem Lies.mk {w:World} {base b:Nat} {L:AT} {p:Pc} {R:AT} {ul ur:Option Addr} {bl br:List Nat} (hb:base<=b) (h:NdT w b L p R ul ur) (hL:Lies w base L ul bl) (hR:Lies w base R ur br):Lies w base (.node L p R) (some ⟨b,0,none⟩) (b::(bl++br)):=
 ⟨b,ul,ur,bl,br,rfl,hb,h,hL,hR,rfl⟩
theorem Ym (A:AT) (q:Pc) (S:AT) (p:Pc) (R:AT) (b c:Nat) (ua us ur:Option Addr) (ba bs br:List Nat) (base:Nat) (h i n k h' i' n' k':Int) (w:World)
  (hb:Nd w b p (some ⟨c,0,none⟩) ur h i n k) (hc:Nd w c q ua us h' i' n' k') (hA:Lies w base A ua ba) (hS:Lies w base S us bs) (hR:Lies w base R ur br) (h1:base<=b) (h2:base<=c)
  (hnd:(b::c::(ba++(bs++br))).Nodup) (hok:(AT.node A q (AT.node S p R)).okw):
  Calls Tryz.prog 217 #[.pointer (some ⟨b,0,none⟩)] w fun e w'=>e= .returned (.pointer (some ⟨c,0,none⟩))∧NdT w' c A q (AT.node S p R) ua (some ⟨b,0,none⟩)∧Lies w' base A ua ba∧Lies w' base (AT.node S p R) (some ⟨b,0,none⟩) (b::(bs++br))∧Chg [b,c] w w':=by
 simp only [List.nodup_cons,List.mem_cons,List.mem_append,not_or]at hnd;obtain⟨⟨nbc,nba,nbs,nbr⟩,⟨nca,ncs,ncr⟩,_⟩:=hnd;have b3:=hb.c3;have b4:=hb.c4;have c4:=hc.c4;have fb3:=hb.fz 3;have fc4:=hc.fz 4;have lb:=hb.lt;have lc:=hc.lt
 have ncb:¬c=b:=fun e=>nbc e.symm
 have HB1:=hide ((hb.set3 us).other ⟨c,4,none⟩ (.pointer (some ⟨b,0,none⟩)) nbc);have HC1:=hide ((hc.other ⟨b,3,none⟩ (.pointer us) ncb).set4 (some ⟨b,0,none⟩));have HA1:=hide ((hA.other ⟨b,3,none⟩ (.pointer us) nba).other ⟨c,4,none⟩ (.pointer (some ⟨b,0,none⟩)) nca);have HS1:=hide ((hS.other ⟨b,3,none⟩ (.pointer us) nbs).other ⟨c,4,none⟩ (.pointer (some ⟨b,0,none⟩)) ncs);have HR1:=hide ((hR.other ⟨b,3,none⟩ (.pointer us) nbr).other ⟨c,4,none⟩ (.pointer (some ⟨b,0,none⟩)) ncr)
 have CH1:=hide (((Chg.refl [b,c] w).setCell ⟨b,3,none⟩ (.pointer us) (.inl (by simp))).setCell ⟨c,4,none⟩ (.pointer (some ⟨b,0,none⟩)) (.inl (by simp)))
 have HK:=hide (zw S p R b us ur bs br base h i n k _ HB1.out HS1.out HR1.out nbs nbr hok.right);have HX:=hide (And.intro nba (And.intro nbs (And.intro nbr (And.intro nca (And.intro ncs ncr)))));have HOK:=hide hok;clear hb hc hA hS hR hok nba nbs nbr nca ncs ncr;go_enter Tryz.func217,Tryz.ntmps217;go_wp2_with fail;generalize (w.setCell ⟨b,3,none⟩ (.pointer us)).setCell ⟨c,4,none⟩ (.pointer (some ⟨b,0,none⟩))=w1 at *;refine HK.out.mono ?_;rintro e w2 ⟨rfl,hn2,hc2⟩;obtain⟨nba,nbs,nbr,nca,ncs,ncr⟩:=HX.out
 have HC2:=hide (HC1.out.chg hc2 (by simpa using ncb))
 have HA2:=hide (HA1.out.chg hc2 (fun x hx e=>nba (by simp at e;exact e▸hx)))
 have HS2:=hide (HS1.out.chg hc2 (fun x hx e=>nbs (by simp at e;exact e▸hx)))
 have HR2:=hide (HR1.out.chg hc2 (fun x hx e=>nbr (by simp at e;exact e▸hx)))
 have HT2:=hide (show Lies w2 base (AT.node S p R) (some ⟨b,0,none⟩) (b::(bs++br))from⟨b,us,ur,bs,br,rfl,h1,hn2,HS2.out,HR2.out,rfl⟩)
 have CH2:=hide (CH1.out.trans hc2 (fun _ h _=>h) (fun x h _=>by simp at h;simp [h]) (ds:=[b,c]))
 have HK2:=hide (zw A q (AT.node S p R) c ua (some ⟨b,0,none⟩) ba (b::(bs++br)) base h' i' n' k' w2 HC2.out HA2.out HT2.out nca (by simp [ncb,ncs,ncr]) HOK.out)
 clear hn2 hc2 HK HB1 HC1 HA1 HS1 HR1 CH1 nba nbs nbr nca ncs ncr;go_wp2_with fail;refine HK2.out.mono ?_;rintro e w3 ⟨rfl,hn3,hc3⟩;obtain⟨nba,nbs,nbr,nca,ncs,ncr⟩:=HX.out
 have HA3:=hide (HA2.out.chg hc3 (fun x hx e=>nca (by simp at e;exact e▸hx)))
 have HT3:=hide (HT2.out.chg hc3 (fun x hx e=>by
  simp at e;subst e;simp only [List.mem_cons,List.mem_append]at hx
  rcases hx with hx | hx | hx
  ·exact ncb hx
  ·exact ncs hx
  exact ncr hx))
 have CH3:=hide (CH2.out.trans hc3 (fun _ h _=>h) (fun x h _=>by simp at h;simp [h]) (ds:=[b,c]))
 have HN3:=hide hn3;clear hn3 hc3 HK2 HX;go_wp2;go_ret;exact⟨rfl,HN3.out,HA3.out,HT3.out,CH3.out⟩
theorem Yn (L:AT) (p:Pc) (S:AT) (q:Pc) (D:AT) (b c:Nat) (ul us ud:Option Addr) (bl bs bd:List Nat) (base:Nat) (h i n k h' i' n' k':Int) (w:World)
  (hb:Nd w b p ul (some ⟨c,0,none⟩) h i n k) (hc:Nd w c q us ud h' i' n' k') (hL:Lies w base L ul bl) (hS:Lies w base S us bs) (hD:Lies w base D ud bd) (h1:base<=b) (h2:base<=c)
  (hnd:(b::c::(bl++(bs++bd))).Nodup) (hok:(AT.node (AT.node L p S) q D).okw):
  Calls Tryz.prog 216 #[.pointer (some ⟨b,0,none⟩)] w fun e w'=>e= .returned (.pointer (some ⟨c,0,none⟩))∧NdT w' c (AT.node L p S) q D (some ⟨b,0,none⟩) ud∧Lies w' base (AT.node L p S) (some ⟨b,0,none⟩) (b::(bl++bs))∧Lies w' base D ud bd∧Chg [b,c] w w':=by
 simp only [List.nodup_cons,List.mem_cons,List.mem_append,not_or]at hnd;obtain⟨⟨nbc,nbl,nbs,nbd⟩,⟨ncl,ncs,ncd⟩,_⟩:=hnd;have b3:=hb.c3;have b4:=hb.c4;have c3:=hc.c3;have fb4:=hb.fz 4;have fc3:=hc.fz 3;have lb:=hb.lt;have lc:=hc.lt
 have ncb:¬c=b:=fun e=>nbc e.symm
 have HB1:=hide ((hb.set4 us).other ⟨c,3,none⟩ (.pointer (some ⟨b,0,none⟩)) nbc);have HC1:=hide ((hc.other ⟨b,4,none⟩ (.pointer us) ncb).set3 (some ⟨b,0,none⟩));have HL1:=hide ((hL.other ⟨b,4,none⟩ (.pointer us) nbl).other ⟨c,3,none⟩ (.pointer (some ⟨b,0,none⟩)) ncl);have HS1:=hide ((hS.other ⟨b,4,none⟩ (.pointer us) nbs).other ⟨c,3,none⟩ (.pointer (some ⟨b,0,none⟩)) ncs);have HD1:=hide ((hD.other ⟨b,4,none⟩ (.pointer us) nbd).other ⟨c,3,none⟩ (.pointer (some ⟨b,0,none⟩)) ncd)
 have CH1:=hide (((Chg.refl [b,c] w).setCell ⟨b,4,none⟩ (.pointer us) (.inl (by simp))).setCell ⟨c,3,none⟩ (.pointer (some ⟨b,0,none⟩)) (.inl (by simp)))
 have HK:=hide (zw L p S b ul us bl bs base h i n k _ HB1.out HL1.out HS1.out nbl nbs hok.left);have HX:=hide (And.intro nbl (And.intro nbs (And.intro nbd (And.intro ncl (And.intro ncs ncd)))));have HOK:=hide hok;clear hb hc hL hS hD hok nbl nbs nbd ncl ncs ncd;go_enter Tryz.func216,Tryz.ntmps216;go_wp2_with fail;generalize (w.setCell ⟨b,4,none⟩ (.pointer us)).setCell ⟨c,3,none⟩ (.pointer (some ⟨b,0,none⟩))=w1 at *;refine HK.out.mono ?_;rintro e w2 ⟨rfl,hn2,hc2⟩;obtain⟨nbl,nbs,nbd,ncl,ncs,ncd⟩:=HX.out
 have HC2:=hide (HC1.out.chg hc2 (by simpa using ncb))
 have HL2:=hide (HL1.out.chg hc2 (fun x hx e=>nbl (by simp at e;exact e▸hx)))
 have HS2:=hide (HS1.out.chg hc2 (fun x hx e=>nbs (by simp at e;exact e▸hx)))
 have HD2:=hide (HD1.out.chg hc2 (fun x hx e=>nbd (by simp at e;exact e▸hx)))
 have HT2:=hide (show Lies w2 base (AT.node L p S) (some ⟨b,0,none⟩) (b::(bl++bs))from⟨b,ul,us,bl,bs,rfl,h1,hn2,HL2.out,HS2.out,rfl⟩)
 have CH2:=hide (CH1.out.trans hc2 (fun _ h _=>h) (fun x h _=>by simp at h;simp [h]) (ds:=[b,c]))
 have HK2:=hide (zw (AT.node L p S) q D c (some ⟨b,0,none⟩) ud (b::(bl++bs)) bd base h' i' n' k' w2 HC2.out HT2.out HD2.out (by simp [ncb,ncs,ncl]) ncd HOK.out)
 clear hn2 hc2 HK HB1 HC1 HL1 HS1 HD1 CH1 nbl nbs nbd ncl ncs ncd;go_wp2_with fail;refine HK2.out.mono ?_;rintro e w3 ⟨rfl,hn3,hc3⟩;obtain⟨nbl,nbs,nbd,ncl,ncs,ncd⟩:=HX.out
 have HD3:=hide (HD2.out.chg hc3 (fun x hx e=>ncd (by simp at e;exact e▸hx)))
 have HT3:=hide (HT2.out.chg hc3 (fun x hx e=>by
  simp at e;subst e;simp only [List.mem_cons,List.mem_append]at hx
  rcases hx with hx | hx | hx
  ·exact ncb hx
  ·exact ncl hx
  exact ncs hx))
 have CH3:=hide (CH2.out.trans hc3 (fun _ h _=>h) (fun x h _=>by simp at h;simp [h]) (ds:=[b,c]))
 have HN3:=hide hn3;clear hn3 hc3 HK2 HX;go_wp2;go_ret;exact⟨rfl,HN3.out,HT3.out,HD3.out,CH3.out⟩
end Go.Proofs.YtibbhecojkehfaaGreatDoor
