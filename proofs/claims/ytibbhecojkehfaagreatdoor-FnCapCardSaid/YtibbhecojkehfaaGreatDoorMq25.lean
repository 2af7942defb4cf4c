import Derived.Test.YtibbhecojkehfaaGreatDoorMq24
set_option linter.all false
set_option maxRecDepth 100000
set_option maxHeartbeats 16000000
namespace Go.Proofs.YtibbhecojkehfaaGreatDoor
open Go Go.RowKit
theorem GPost.trans {w w1 w2:World} {B o g:Nat} {cs:Array Value} {t:TypeId} {v v':Value} {lo hi lo' hi':Int} {zs zs':List Int} {sp sp':List Value} (h:GPost w w1 B o g cs t v lo hi zs sp) (hs:o+3<=cs.size) (k:GPost w1 w2 B o g (set3 cs o v (.int .i64 lo) (.int .i64 hi)) t v' lo' hi' zs' sp'):GPost w w2 B o g cs t v' lo' hi' zs' sp':=by
 have e:=Yb cs o v (.int .i64 lo) (.int .i64 hi) v' (.int .i64 lo') (.int .i64 hi') hs;have kg:=k.gb;rw [e]at kg
 exact⟨kg,k.rw,h.chg.trans k.chg (fun _ _ s=>s) (fun _ _ s=>s)⟩
theorem YN {w w1:World} {B o g:Nat} {cs:Array Value} {t:TypeId} {v:Value} {lo hi:Int} {zs:List Int} {sp:List Value} (h:GB w B o cs t v lo hi) (hBg:B≠g) (hr:Row1 w w1 g (ints .i32 zs++sp) 21) (b:Int):
  GPost w (w1.setCell ⟨B,o+2,none⟩ (.int .i64 b)) B o g cs t v lo b zs sp:=by
 have h0:w1.heap[B]? =some (.cells cs t (0,0)):=(hr.block B hBg).trans h.blk;have h2:=heap_setCell_same w1 B (o+2) _ _ (.int .i64 b) h0;have hs:=h.sz;refine⟨GB.of_set3 ?_ h.sz,?_,?_⟩
 ·rw [h2]
  congr 2
  apply yR (by simp) h.sz
  ·rw [Array.getElem?_setIfInBounds,if_neg (by omega)];exact h.c0
  ·rw [Array.getElem?_setIfInBounds,if_neg (by omega)];exact h.c1
  ·rw [Array.getElem?_setIfInBounds,if_pos rfl,if_pos (by omega)]
  intro j e0 e1 e2
  rw [Array.getElem?_setIfInBounds,if_neg (by omega)]
 ·show _=_
  rw [zD (by show g≠B;exact hBg.symm)]
  exact hr.row
 refine⟨hr.os,hr.tape,hr.output,by simp [hr.size],fun k hk hn=>?_⟩
 rw [zD (by show k≠B;exact fun e=>hn (.inl e))]
 exact hr.block k (fun e=>hn (.inr e))
theorem removeG (B o g cap:Nat) (cs:Array Value) (t:TypeId) (zs:List Int) (sp:List Value) (lo hi a b:Nat) (w:World) (h:GB w B o cs t (.slice (some ⟨g,0,none⟩) zs.length cap) lo hi) (hr:Rw w g zs sp) (hBg:B≠g)
  (hc:zs.length<=cap) (hv:GV zs lo hi) (hab:a<=b) (hb:b+(hi - lo)<=zs.length):
  Calls Tryz.prog 231 #[.pointer (some ⟨B,o,none⟩),.int .i64 a,.int .i64 b] w fun x w'=>x= .returned (.tuple #[])∧GPost w w' B o g cs t (.slice (some ⟨g,0,none⟩) zs.length cap) a ((b+(hi - lo):Nat):Int) (glay ((gtext zs lo hi).take a++(gtext zs lo hi).drop b) a zs.length) sp:=by
 have h1:=hv.a;have h2:=hv.b;have h3:=hv.c;have hL:(gtext zs lo hi).length=zs.length - (hi - lo):=zN h1 h2;have hs:=h.sz
 have HM:=hide (KU B o g cap cs t zs sp lo hi a w h hr hBg hc hv (by omega))
 have HC:=hide (glay_cut (xs:=gtext zs lo hi) (p:=a) (q:=b) (n:=zs.length) hab (by omega) (by omega))
 have hLg:(glay (gtext zs lo hi) a zs.length).length=zs.length:=zS (by omega) (by omega)
 have eE:a+(zs.length - (gtext zs lo hi).length)=a+(hi - lo):=by omega
 rw [eE]at HC;generalize gtext zs lo hi=tx at *;generalize glay tx a zs.length=gl at *
 have HCC:=hide (show splice gl (a+(hi - lo)) (List.replicate (b - a) 0)=glay (tx.take a++tx.drop b) a zs.length from HC.out)
 generalize glay (tx.take a++tx.drop b) a zs.length=res at *;generalize hN:zs.length=n at *;obtain⟨E,hE⟩:∃E,E=a+(hi - lo):=⟨_,rfl⟩;obtain⟨F,hF⟩:∃F,F=b+(hi - lo):=⟨_,rfl⟩;rw [<- hE]at HM HCC;rw [<- hF]
 have hEF:F=E+(b - a):=by omega
 have hFn:F<=n:=by omega
 have eF:(E:Int)+(b:Int) - (a:Int)=F:=by omega
 have HLg:=hide hLg
 have LS:=hide (show(List.replicate (b - a) (0:Int)).length=b - a by simp)
 have i3:b<=n:=by omega
 have i4:b<=65536:=by omega
 have i5:E<=65536:=by omega
 clear hL eE HC hF hE hb hN hr hLg
 have i1:E<=F:=by omega
 have i2:F<=cap:=by omega
 have HEF:=hide hEF;clear hEF
 by_cases hco:cap=E
 ·obtain rfl:E=F:=by omega
  obtain rfl:a=b:=by have:=HEF.out;omega
  subst hco;go_enter Tryz.func231,Tryz.ntmps231;go_wp2_with fail;refine HM.out.mono ?_;rintro x w1 ⟨rfl,hp1⟩;have P1:=hide hp1;obtain⟨d0,d1,d2⟩:=hp1.gb.gc;clear hp1 HM;go_wp2_with fail;go_still_tail 10,mixed
  refine zZ rfl (.tmp 27) 34 rfl 21 Tryz.underlying34 (.int .i32 0) jo rfl rfl (some ⟨g,0,none⟩) 0 0 rfl g cap _ 21 (by exact P1.out.rw) (fun hpos=>absurd hpos (by omega)) (by rw [List.length_append,zC,HLg.out];omega) ?_
  intro w3 rr3;rw [yc]at rr3
  have R3:=hide (Row1.to (Row1.of_drew rr3.out) (zK (by rw [List.length_replicate,HLg.out];omega)))
  obtain⟨d0,d1,d2⟩:=(P1.out.gb.block (w':=w3) (rr3.out.block B hBg)).gc;obtain⟨f0,f1,f2⟩:=(P1.out.gb.block (w':=w3) (rr3.out.block B hBg)).gf;clear rr3;go_wp2;go_end0;refine⟨rfl,P1.out.trans hs ?_⟩;have hq:=HCC.out;rw [Nat.sub_self]at hq;rw [<- hq];exact YN P1.out.gb hBg R3.out _
 go_enter Tryz.func231,Tryz.ntmps231;go_wp2_with fail;refine HM.out.mono ?_;rintro x w1 ⟨rfl,hp1⟩;have P1:=hide hp1;obtain⟨d0,d1,d2⟩:=hp1.gb.gc;clear hp1 HM;go_wp2_with fail;go_still_tail 10,mixed
 refine zZ rfl (.tmp 27) 34 rfl 21 Tryz.underlying34 (.int .i32 0) jo rfl rfl (some ⟨g,E,none⟩) (F - E) (cap - E) rfl g E _ 21 (by exact P1.out.rw) (fun _=>rfl) (by rw [List.length_append,zC,HLg.out];omega) ?_
 intro w3 rr3;rw [yc]at rr3
 have R3:=hide (Row1.to (Row1.of_drew rr3.out) (zK (by rw [List.length_replicate,HLg.out];omega)))
 obtain⟨d0,d1,d2⟩:=(P1.out.gb.block (w':=w3) (rr3.out.block B hBg)).gc;obtain⟨f0,f1,f2⟩:=(P1.out.gb.block (w':=w3) (rr3.out.block B hBg)).gf;clear rr3;go_wp2;go_end0;refine⟨rfl,P1.out.trans hs ?_⟩;have hq:=HCC.out
 rw [show b - a=F - E by have:=HEF.out;omega]at hq
 rw [<- hq];exact YN P1.out.gb hBg R3.out _
theorem yi {P:Program} {w:World} {ops:Array Oper} {rest:List Oper} {o:Oper} {a:Act} {Q:Exit->Act->World->Prop} (hgd:o.guard=none) (d:Operand) (dT:TypeId)
  (ho:o.op= .call {callee:=.builtin .clear,args:=#[d],argTypes:=#[dT]}) (e:TypeId) (hu:P.underlying dT=some (.slice e)) (dp:Option Addr) (dCap:Nat) (hd:a.eval d= .slice dp 0 dCap)
  (h:wpList P ops Q rest (a.put o.dst (.tuple #[])) w):wpList P ops Q (o::rest) a w:=by
 refine wpList_plain hgd fun K hK=>?_
 have hrun:=ya (P:=P) w dT e o.type hu dp dCap;unfold Oper.wp;simp [execOp,ho,resolve,invoke,builtin,hd,hrun,Result.andThen];exact hK _ _ h
structure Alk (w w':World):Prop where
 heap:w'.heap=w.heap
 os:w'.os=w.os
 tape:w'.tape=w.tape
 output:w'.output=w.output
theorem Zk {P:Program} {w:World} {ops:Array Oper} {rest:List Oper} {o:Oper} {a:Act} {Q:Exit->Act->World->Prop} (hgd:o.guard=none) (d s:Operand) (dT sT:TypeId)
  (ho:o.op= .call {callee:=.builtin .copy,args:=#[d,s],argTypes:=#[dT,sT]}) (elem:TypeId) (hu:P.underlying dT=some (.slice elem)) (hsz:(P.info? elem).map (·.size)=some 1)
  (dp sp:Option Addr) (dLen dCap sLen sCap:Nat) (hd:a.eval d= .slice dp dLen dCap) (hs:a.eval s= .slice sp sLen sCap) (hn:Nat.min sLen dLen=0) (w0:World) (hw:Alk w0 w)
  (h:∀w',Hid (Alk w0 w')->wpList P ops Q rest (a.put o.dst (goInt 0)) w'):wpList P ops Q (o::rest) a w:=
 wpList_copy_nothing hgd d s dT sT ho elem hu hsz dp sp dLen dCap sLen sCap hd hs hn (h w (hide hw))
structure GNilPost (w w':World) (B o:Nat) (cs:Array Value) (t:TypeId):Prop where
 gb:GB w' B o cs t (.slice none 0 0) 0 0
 chg:ChgP w w' (fun k=>k=B)
theorem gnil_set {w w1:World} {B o:Nat} {cs:Array Value} {t:TypeId} (h:GB w B o cs t (.slice none 0 0) 0 0) (hh:w1.heap=w.heap) (ho:w1.os=w.os) (ht:w1.tape=w.tape) (hp:w1.output=w.output):
  GNilPost w ((w1.setCell ⟨B,o+1,none⟩ (.int .i64 0)).setCell ⟨B,o+2,none⟩ (.int .i64 0)) B o cs t:=by
 have h0:w1.heap[B]? =some (.cells cs t (0,0)):=by rw [hh];exact h.blk
 have h1:=heap_setCell_same w1 B (o+1) _ _ (.int .i64 0) h0;have h2:=heap_setCell_same _ B (o+2) _ _ (.int .i64 0) h1;have hs:=h.sz
 have e:(cs.setIfInBounds (o+1) (.int .i64 0)).setIfInBounds (o+2) (.int .i64 0)=cs:=by
  rw [<- h.self]
  apply yR (by simp [z8]) h.sz
  ·rw [Array.getElem?_setIfInBounds,Array.getElem?_setIfInBounds,if_neg (by omega),if_neg (by omega),zd _ _ _ _ _ _ hs];simp
  ·rw [Array.getElem?_setIfInBounds,Array.getElem?_setIfInBounds,if_neg (by omega),if_pos rfl,if_pos (by rw [z8];omega)]
  ·rw [Array.getElem?_setIfInBounds,if_pos rfl,if_pos (by simp [z8];omega)]
  intro j e0 e1 e2
  rw [Array.getElem?_setIfInBounds,Array.getElem?_setIfInBounds,if_neg (by omega),if_neg (by omega),zd _ _ _ _ _ _ hs]
  simp [e0,e1,e2]
 rw [e]at h2
 refine⟨⟨h2,h.sz,h.c0,h.c1,h.c2⟩,ho,ht,hp,by simp [hh],fun k hk hn=>?_⟩
 rw [zD (by show k≠B;exact hn),zD (by show k≠B;exact hn),hh]
theorem zAh {w w1:World} {B o:Nat} {cs:Array Value} {t:TypeId} (h:GB w B o cs t (.slice none 0 0) 0 0) (hh:w1.heap=w.heap) (ho:w1.os=w.os) (ht:w1.tape=w.tape) (hp:w1.output=w.output):
  GNilPost w (w1.setCell ⟨B,o+2,none⟩ (.int .i64 0)) B o cs t:=by
 have h0:w1.heap[B]? =some (.cells cs t (0,0)):=by rw [hh];exact h.blk
 have h2:=heap_setCell_same w1 B (o+2) _ _ (.int .i64 0) h0;have hs:=h.sz
 have e:cs.setIfInBounds (o+2) (.int .i64 0)=cs:=by
  rw [<- h.self]
  apply yR (by simp [z8]) h.sz
  ·rw [Array.getElem?_setIfInBounds,if_neg (by omega),zd _ _ _ _ _ _ hs];simp
  ·rw [Array.getElem?_setIfInBounds,if_neg (by omega),zd _ _ _ _ _ _ hs];simp
  ·rw [Array.getElem?_setIfInBounds,if_pos rfl,if_pos (by rw [z8];omega)]
  intro j e0 e1 e2
  rw [Array.getElem?_setIfInBounds,if_neg (by omega),zd _ _ _ _ _ _ hs]
  simp [e0,e1,e2]
 rw [e]at h2
 refine⟨⟨h2,h.sz,h.c0,h.c1,h.c2⟩,ho,ht,hp,by simp [hh],fun k hk hn=>?_⟩
 rw [zD (by show k≠B;exact hn),hh]
theorem GNilPost.trans {w w1 w2:World} {B o:Nat} {cs:Array Value} {t:TypeId} (h:GNilPost w w1 B o cs t) (k:GNilPost w1 w2 B o cs t):GNilPost w w2 B o cs t:=
 ⟨k.gb,h.chg.trans k.chg (fun _ _ s=>s) (fun _ _ s=>s)⟩
theorem Yc (B o:Nat) (cs:Array Value) (t:TypeId) (w:World) (h:GB w B o cs t (.slice none 0 0) 0 0):
  Calls Tryz.prog 238 #[.pointer (some ⟨B,o,none⟩),.int .i64 0] w fun x w'=>x= .returned (.tuple #[])∧GNilPost w w' B o cs t:=by
 have HK:=hide (gapN B o (.slice none 0 0) 0 0 w h.gc (by omega) (by omega) (by omega))
 have HF:=hide h.gf;have H:=hide h;obtain⟨c0,c1,c2⟩:=h.gc;clear h;go_enter Tryz.func238,Tryz.ntmps238;go_wp2_with fail;refine HK.out.mono ?_;rintro x w0 ⟨rfl,mm0,rfl⟩
 have hh0:=hide (show(w.drewN mm0).heap=w.heap from rfl)
 have ho0:=hide (show(w.drewN mm0).os=w.os from rfl)
 have ht0:=hide (show(w.drewN mm0).tape=w.tape from rfl)
 have hp0:=hide (show(w.drewN mm0).output=w.output from rfl)
 obtain⟨d0,d1,d2⟩:=H.out.gc.same (w':=w.drewN mm0) rfl;obtain⟨f0,f1,f2⟩:=HF.out.same (w':=w.drewN mm0) rfl;have HF2:=hide HF.out;clear c0 c1 c2 HK HF;generalize w.drewN mm0=w0 at *;go_wp2_with fail;go_still_tail 20,mixed;refine Zk rfl (.tmp 57) (.tmp 67) 34 34 rfl 21 Tryz.underlying34 zT none none 0 0 0 0 rfl rfl rfl w0 ⟨rfl,rfl,rfl,rfl⟩ ?_;intro w2 hk2;obtain⟨d0,d1,d2⟩:=H.out.gc.same (w':=w2) (hk2.out.heap.trans hh0.out)
 obtain⟨f0,f1,f2⟩:=HF2.out.same (w':=w2) (by rw [hk2.out.heap.trans hh0.out])
 go_wp2_with fail;go_still_tail 12,mixed;refine yi rfl (.tmp 80) 34 rfl 21 Tryz.underlying34 none 0 rfl ?_;go_wp2;go_end0;exact⟨rfl,gnil_set (w1:=w2.drew) H.out (hk2.out.heap.trans hh0.out) (hk2.out.os.trans ho0.out) (hk2.out.tape.trans ht0.out) (hk2.out.output.trans hp0.out)⟩
theorem zAi (B o:Nat) (cs:Array Value) (t:TypeId) (w:World) (h:GB w B o cs t (.slice none 0 0) 0 0):
  Calls Tryz.prog 231 #[.pointer (some ⟨B,o,none⟩),.int .i64 0,.int .i64 0] w fun x w'=>x= .returned (.tuple #[])∧GNilPost w w' B o cs t:=by
 have HM:=hide (Yc B o cs t w h);clear h;go_enter Tryz.func231,Tryz.ntmps231;go_wp2_with fail;refine HM.out.mono ?_;rintro x w1 ⟨rfl,hp1⟩;have P1:=hide hp1;obtain⟨d0,d1,d2⟩:=hp1.gb.gc;obtain⟨f0,f1,f2⟩:=hp1.gb.gf;clear hp1 HM;go_wp2_with fail;go_still_tail 10,mixed;refine yi rfl (.tmp 27) 34 rfl 21 Tryz.underlying34 none 0 rfl ?_;go_wp2;go_end0;exact⟨rfl,P1.out.trans (zAh (w1:=w1.drew) P1.out.gb rfl rfl rfl rfl)⟩
theorem Rw.of_owns {w:World} {base g n cap:Nat} {zs:List Int} (h:w.ownsRow base 21 1 (.slice (some ⟨g,0,none⟩) n cap) n (ints .i32 zs)):base<=g∧n<=cap∧cap<=maxLen∧∃sp,Rw w g zs sp∧sp.length=cap - n:=by
 have hl:zs.length=n:=by have:=h.1;simpa [ints]using this
 rcases h.2 with ⟨hv,hn⟩ | ⟨g',cap',cur,hv,hb,hh,hc,hm,hsz,htk⟩
 ·cases hv
 simp only [Value.slice.injEq,Option.some.injEq,Addr.mk.injEq,and_true,true_and]at hv;obtain⟨rfl,rfl⟩:=hv
 refine⟨hb,hc,hm,cur.toList.drop n,?_,by simp [hsz]⟩
 show _=_
 rw [hh]
 congr 2
 have:cur.toList=ints .i32 zs++cur.toList.drop n:=by
  rw [<- htk,Nat.mul_one,List.take_append_drop]
 exact Array.toList_inj.1 (by simpa using this)
theorem YO {w:World} {base g n cap:Nat} {zs:List Int} {sp:List Value} (h:Rw w g zs sp) (hN:zs.length=n) (hb:base<=g) (hc:n<=cap) (hm:cap<=maxLen) (hs:sp.length=cap - n):w.ownsRow base 21 1 (.slice (some ⟨g,0,none⟩) n cap) n (ints .i32 zs):=by
 refine⟨by simp [ints,hN],.inr ⟨g,cap,(ints .i32 zs++sp).toArray,rfl,hb,h,hc,hm,by simp [ints,hN,hs];omega,?_⟩⟩
 rw [Nat.mul_one,<- hN,<- zC .i32 zs];simp
theorem Zg (B o:Nat) (ao:Option Addr) (n0 cap:Nat) (lo hi n:Nat) (w:World) (h:GC w B o (.slice ao n0 cap) lo hi) (h1:lo<=hi) (h2:hi<=n0) (hn:n0<=1048576) (hg:n<=hi - lo):
  Calls Tryz.prog 237 #[.pointer (some ⟨B,o,none⟩),.int .i64 n] w fun x w'=>x= .returned (.tuple #[])∧∃m,w'=w.drewN m:=by
 have HK:=hide (gapN B o (.slice ao n0 cap) lo hi w h (by omega) (by omega) (by omega))
 have hge:(n:Int)<=(hi:Int) - (lo:Int):=by omega
 clear h;go_enter Tryz.func237,Tryz.ntmps237;go_wp2_with fail;refine HK.out.mono ?_;rintro x w0 ⟨rfl,mm0,rfl⟩;go_wp2
 refine bodyPost_ret (v:=.tuple #[]) (by simp [results,Tryz.results237,go_sem]) rfl ⟨rfl,mm0,rfl⟩
theorem Zq {w:World} {g n:Nat} {base:Nat} (h:w.ownsRow base 21 1 (.slice (some ⟨g,0,none⟩) n n) n (ints .i32 (List.replicate n 0))):Rw w g (List.replicate n 0) []:=by
 obtain⟨_,_,_,sp,hr,hs⟩:=Rw.of_owns h
 have:sp= []:=List.eq_nil_of_length_eq_zero (by omega)
 subst this;exact hr
structure yr (w w':World) (B o:Nat) (cs:Array Value) (t:TypeId) (lo hi R:Nat) (zs:List Int) (g:Nat):Prop where
 ge:w.heap.size<=g
 gb:GB w' B o (set3 cs o (.slice (some ⟨g,0,none⟩) R R) (.int .i64 lo) (.int .i64 hi)) t (.slice (some ⟨g,0,none⟩) R R) lo hi
 rw:Rw w' g zs []
 chg:ChgP w w' (fun k=>k=B)
theorem ZJ {w w1 w2:World} {B o g:Nat} {cs:Array Value} {t:TypeId} {v:Value} {lo hi nh:Int} {zs zs':List Int} {R:Nat} (h:GB w B o cs t v lo hi) (hc:ChgP w w1 (fun _=>False)) (hg:w.heap.size<=g) (hr1:Rw w1 g zs []) (hr:Row1 (w1.setCell ⟨B,o+2,none⟩ (.int .i64 nh)) w2 g (ints .i32 zs'++ []) 21) (lo' hi':Nat) (e1:lo=lo') (e2:nh=hi'):
  yr w (w2.setCell ⟨B,o,none⟩ (.slice (some ⟨g,0,none⟩) R R)) B o cs t lo' hi' R zs' g:=by
 subst e1;subst e2;have hBl:=h.lt
 have hBg:B≠g:=by omega
 have hs:=h.sz
 have h0:w1.heap[B]? =some (.cells cs t (0,0)):=(hc.block B hBl (fun x=>x)).trans h.blk
 have h1:=heap_setCell_same w1 B (o+2) _ _ (.int .i64 (hi':Int)) h0;have h2:w2.heap[B]? =_:=(hr.block B hBg).trans h1;have h3:=heap_setCell_same w2 B o _ _ (.slice (some ⟨g,0,none⟩) R R) h2;refine⟨hg,GB.of_set3 ?_ h.sz,?_,?_⟩
 ·rw [h3]
  congr 2
  apply yR (by simp) h.sz
  ·rw [Array.getElem?_setIfInBounds,if_pos rfl,if_pos (by simp;omega)]
  ·rw [Array.getElem?_setIfInBounds,Array.getElem?_setIfInBounds,if_neg (by omega),if_neg (by omega)];exact h.c1
  ·rw [Array.getElem?_setIfInBounds,Array.getElem?_setIfInBounds,if_neg (by omega),if_pos rfl,if_pos (by omega)]
  intro j e0 e1 e2
  rw [Array.getElem?_setIfInBounds,Array.getElem?_setIfInBounds,if_neg (by omega),if_neg (by omega)]
 ·show _=_
  rw [zD (by show g≠B;exact hBg.symm)]
  exact hr.row
 refine⟨by simpa [World.setCell]using hr.os.trans hc.os,by simpa [World.setCell]using hr.tape.trans hc.tape,by simpa [World.setCell]using hr.output.trans hc.output,?_,fun k hk hn=>?_⟩
 ·simp only [World.size_setCell,hr.size]
  exact hc.size
 rw [zD (by show k≠B;exact hn),hr.block k (by omega),zD (by show k≠B;exact hn)]
 exact hc.block k hk (fun x=>x)
theorem Xf (B o g cap n0:Nat) (cs:Array Value) (t:TypeId) (zs:List Int) (lo hi n c0 L M R NH:Nat) (w:World) (h:GB w B o cs t (.slice (some ⟨g,0,none⟩) n0 cap) lo hi) (hz:Cl w g zs) (hg:g<w.heap.size) (hcap:n0<=cap) (hN:zs.length=n0)
  (h1:lo<=hi) (h2:hi<=n0) (h3:n0<=65536) (hno:hi - lo<n) (eL:(n0:Int) - ((hi:Int) - (lo:Int))=L) (hM:M=L+n) (hMb:M<=8192) (mx:max (n0:Int) 16=c0) (hD:Dbl M c0 R) (hNH:(R:Int) - ((n0 - hi:Nat):Int)=NH) (hA:hi<n0) (hgB:g≠B):
  Calls Tryz.prog 237 #[.pointer (some ⟨B,o,none⟩),.int .i64 n] w fun x w'=>x= .returned (.tuple #[])∧∃g',yr w w' B o cs t lo NH R (splice (splice (List.replicate R 0) 0 (zs.take lo)) NH (zs.drop hi)) g':=by
 obtain⟨i0,hi',hz0,hz1,hz2⟩:=info_parts Tryz.infoG
 have HK:=hide (gapN B o (.slice (some ⟨g,0,none⟩) n0 cap) lo hi w h.gc (by omega) (by omega) (by omega))
 have HLN:=hide (fun w h=>jV B o (some ⟨g,0,none⟩) n0 cap lo hi w h (by omega) (by omega) (by omega) (by omega))
 have H:=hide h;have HC:=hide h.gc;have HN:=hide hN;have HD:=hide hD;have bR:=je hD
 have hlt:((hi:Int) - (lo:Int))<(n:Int):=by omega
 have hR0:n0<=R:=by omega
 have hRb:R<=65536:=by omega
 have L1:=hide (show(zs.take lo).length=lo by rw [List.length_take];omega)
 have L2:=hide (show(zs.drop hi).length=n0 - hi by rw [List.length_drop,hN])
 obtain⟨d0,d1,d2⟩:=h.gc;obtain⟨f0,f1,f2⟩:=h.gf;have HZ:=hide hz
 have q1:¬cap=hi:=by omega
 have q2:¬R=NH:=by omega
 have q3:NH<=R:=by omega
 have i1:lo<=cap:=by omega
 have hNH0:=hNH;clear hz;clear hN hD h hNH0;go_enter Tryz.func237,Tryz.ntmps237;go_wp2_with fail;refine HK.out.mono ?_;rintro x w0 ⟨rfl,mm0,rfl⟩;go_wp2_with fail
 go_loopw [4] (fun s4 wr=>∃c k:Nat,s4= .int .i64 c∧Dbl M c R∧16<=c∧c<=65536∧wr=w.drewN k) (fun s4 _=>M - (intOf s4).toNat)
 case atStart=>exact⟨c0,mm0,rfl,HD.out,by omega,by omega,rfl⟩
 obtain⟨c,k,rfl,hDc,hc16,hcb,rfl⟩:=hrel;have HDc:=hide hDc;clear hDc;go_wp2_with fail;refine(HLN.out (w.drewN k) (HC.out.same rfl)).mono ?_;rintro x w1 ⟨rfl,m1,rfl⟩
 by_cases hcm:c<M
 ·have hlt2:(c:Int) - (L:Int)<(n:Int):=by omega
  have HDn:=hide (show Dbl M (c*2) R from by
   cases HDc.out with
   | stop _ h=>omega
   | more _ _ h k=>exact k)
  have hc2:c*2<=65536:=by omega
  go_wp2;go_roundw
  case rel=>exact⟨c*2,k+m1,by go_num,HDn.out,by omega,by omega,rfl⟩
  simp [intOf];omega
 have hnl:¬ (c:Int) - (L:Int)<(n:Int):=by omega
 obtain rfl:c=R:=by
  cases HDc.out with
  | stop _ h=>rfl
  | more _ _ h k=>omega
 have HB1:=hide (show ChgP w ((w.drewN k).drewN m1) (fun _=>False)from⟨rfl,rfl,rfl,lR,fun _ _ _=>rfl⟩)
 have H1:=hide (H.out.block (w':=(w.drewN k).drewN m1) rfl);have es1:w.heap.size<=((w.drewN k).drewN m1).heap.size:=lR
 have HZ1:=hide (show Cl ((w.drewN k).drewN m1) g zs from HZ.out)
 clear d0 d1 d2 f0 f1 f2 HK HLN HD HDc;obtain⟨d0,d1,d2⟩:=H1.out.gc;obtain⟨f0,f1,f2⟩:=H1.out.gf;generalize (w.drewN k).drewN m1=w1 at *
 go_upto_region 5 with (at_make;refine wpList_make_full _ rfl _ _ 34 rfl w1.heap.size 21 i0 (.int .i32 0) 1 Tryz.underlying34 hi' hz0 hz1 .i64 .i64 _ _ c rfl rfl (by omega) (by omega) (by rw [hz2];omega) (by unfold maxLen;omega) lR ?_;intro w2 hown hgrow)
 rw [jS]at hown;have R2:=hide (Zq hown)
 have C2:=hide (show ChgP w w2 (fun _=>False)from HB1.out.trans (show ChgP w1 w2 (fun _=>False)from⟨hgrow.os,hgrow.tape,hgrow.output,hgrow.size,fun i hq _=>hgrow.block i hq (by simp)⟩) (fun _ _ s=>s) (fun _ _ s=>s))
 have es2:w1.heap.size<w2.heap.size:=(hown.lt _ rfl).2;have hBl:=H1.out.lt
 have H2:=hide (H1.out.block (w':=w2) (hgrow.block B hBl (by simp)))
 have HZ2:=hide (show Cl w2 g zs from fun i hi=>(World.cell?_of_block (a:=⟨g,i,none⟩) (hgrow.block g (by omega) (by simp))).trans (HZ1.out i hi))
 have hBg:B≠w1.heap.size:=by omega
 clear hown hgrow d0 d1 d2 f0 f1 f2 H1 HB1;obtain⟨d0,d1,d2⟩:=H2.out.gc;obtain⟨f0,f1,f2⟩:=H2.out.gf;go_still_tail 10,mixed
 refine zM rfl (.tmp 27) (.tmp 36) 34 34 rfl 21 Tryz.underlying34 zT (some ⟨w1.heap.size,0,none⟩) (some ⟨g,0,none⟩) c c lo cap rfl rfl w1.heap.size 0 (ints .i32 (List.replicate c 0)++ []) 21 (by exact R2.out) (ints .i32 (zs.take lo)) (by rw [zC,L1.out];show lo=min lo c;omega) (fun _=>⟨rfl,_,rfl,by have:=HZ2.out.app' 0 lo (by rw [HN.out];omega);rw [List.drop_zero]at this;exact this⟩) (by rw [zC,L1.out,List.length_append,zC,List.length_replicate];omega) (zR _ _) ?_
 intro w3 rr3
 have R3:=hide (Row1.to (Row1.of_drew rr3.out) (zK (sp:=[]) (by rw [L1.out,List.length_replicate];omega)))
 have H3:=hide (H2.out.block (w':=w3) (rr3.out.block B hBg))
 have C3:=hide (show ChgP w w3 (fun _=>False)from C2.out.trans (show ChgP w2 w3 (fun k=>k=w1.heap.size)from⟨rr3.out.os,rr3.out.tape,rr3.out.output,Nat.le_of_eq rr3.out.size.symm,fun k hk hn=>rr3.out.block k hn⟩) (fun _ _ s=>s) (fun i hq s=>by omega))
 have es3:w1.heap.size<w3.heap.size:=by rw [rr3.out.size];exact es2
 have HZ3:=hide (show Cl w3 g zs from fun i hi=>(World.cell?_of_block (a:=⟨g,i,none⟩) (rr3.out.block g (by omega))).trans (HZ2.out i hi))
 clear rr3 d0 d1 d2 f0 f1 f2 H2 C2 R2;obtain⟨d0,d1,d2⟩:=H3.out.gc;obtain⟨f0,f1,f2⟩:=H3.out.gf;go_wp2_with fail;go_quiet (fail)
 have R4:=hide (show Rw (w3.drewN nq) w1.heap.size (splice (List.replicate c 0) 0 (zs.take lo)) []from R3.out.row)
 have H4:=hide (H3.out.block (w':=w3.drewN nq) rfl)
 have C4:=hide (show ChgP w (w3.drewN nq) (fun _=>False)from C3.out.trans (show ChgP w3 (w3.drewN nq) (fun _=>False)from⟨rfl,rfl,rfl,lR,fun _ _ _=>rfl⟩) (fun _ _ s=>s) (fun _ _ s=>s))
 have HZ4:=hide (show Cl (w3.drewN nq) g zs from HZ3.out)
 clear d0 d1 d2 f0 f1 f2 H3 C3 R3;obtain⟨d0,d1,d2⟩:=H4.out.gc;obtain⟨f0,f1,f2⟩:=H4.out.gf;generalize w3.drewN nq=w4 at *
 have HZ5:=hide (show Cl (w4.setCell ⟨B,o+2,none⟩ (.int .i64 NH)) g zs from fun i hi=>(World.cell?_of_block (a:=⟨g,i,none⟩) (zD (by show g≠B;exact hgB))).trans (HZ4.out i hi))
 have R5a:=hide (show Rw (w4.setCell ⟨B,o+2,none⟩ (.int .i64 NH)) w1.heap.size (splice (List.replicate c 0) 0 (zs.take lo)) []from(zD (by show w1.heap.size≠B;exact hBg.symm)).trans R4.out)
 go_upto_region 8 with fail
 go_upto_region 9 with (refine zM rfl (.tmp 59) (.tmp 60) 34 34 rfl 21 Tryz.underlying34 zT (some ⟨w1.heap.size,NH,none⟩) (some ⟨g,hi,none⟩) (c - NH) (c - NH) (n0 - hi) (cap - hi) rfl rfl w1.heap.size NH (ints .i32 (splice (List.replicate c 0) 0 (zs.take lo))++ []) 21 (by exact R5a.out) (ints .i32 (zs.drop hi)) (by rw [zC,L2.out];show n0 - hi=min (n0 - hi) (c - NH);omega) (fun _=>⟨rfl,_,rfl,by have:=HZ5.out.app' hi (n0 - hi) (by rw [HN.out];omega);rw [List.take_of_length_le (by rw [L2.out];exact lR)]at this;exact this⟩) (by rw [zC,L2.out,List.length_append,zC,length_splice _ _ _ (by rw [L1.out,List.length_replicate];omega),List.length_replicate];omega) (zR _ _) ?_;intro w5 rr5)
 have R5:=hide (Row1.to rr5.out (zK (sp:=[]) (by rw [L2.out,length_splice _ _ _ (by rw [L1.out,List.length_replicate];omega),List.length_replicate];omega)))
 have y0:w5.cell? ⟨B,o,none⟩=some (.slice (some ⟨g,0,none⟩) n0 cap):=(World.cell?_of_block (a:=⟨B,o,none⟩) (rr5.out.block B hBg)).trans ((World.cell?_setCell_other w4 ⟨B,o+2,none⟩ ⟨B,o,none⟩ (.int .i64 NH) (by simp)).trans d0)
 have y1:w5.frozen? ⟨B,o,none⟩=false:=(zU (p:=⟨B,o,none⟩) (rr5.out.block B hBg)).trans (by simpa using f0)
 clear rr5 d0 d1 d2 f0 f1 f2;go_wp2;go_end0;exact⟨rfl,w1.heap.size,ZJ H.out C4.out es1 R4.out R5.out lo NH rfl rfl⟩
theorem Xg (B o g cap n0:Nat) (cs:Array Value) (t:TypeId) (zs:List Int) (lo hi n c0 L M R NH:Nat) (w:World) (h:GB w B o cs t (.slice (some ⟨g,0,none⟩) n0 cap) lo hi) (hz:Cl w g zs) (hg:g<w.heap.size) (hcap:n0<=cap) (hN:zs.length=n0)
  (h1:lo<=hi) (h2:hi<=n0) (h3:n0<=65536) (hno:hi - lo<n) (eL:(n0:Int) - ((hi:Int) - (lo:Int))=L) (hM:M=L+n) (hMb:M<=8192) (mx:max (n0:Int) 16=c0) (hD:Dbl M c0 R) (hNH:(R:Int) - ((n0 - hi:Nat):Int)=NH) (hB:hi=n0) (hB2:cap=n0) (hgB:g≠B):
  Calls Tryz.prog 237 #[.pointer (some ⟨B,o,none⟩),.int .i64 n] w fun x w'=>x= .returned (.tuple #[])∧∃g',yr w w' B o cs t lo NH R (splice (splice (List.replicate R 0) 0 (zs.take lo)) NH (zs.drop hi)) g':=by
 obtain rfl:n0=hi:=by omega
 obtain rfl:n0=cap:=by omega
 obtain rfl:R=NH:=by omega
 obtain⟨i0,hi',hz0,hz1,hz2⟩:=info_parts Tryz.infoG
 have HK:=hide (gapN B o (.slice (some ⟨g,0,none⟩) n0 n0) lo n0 w h.gc (by omega) (by omega) (by omega))
 have HLN:=hide (fun w h=>jV B o (some ⟨g,0,none⟩) n0 n0 lo n0 w h (by omega) (by omega) (by omega) (by omega))
 have H:=hide h;have HC:=hide h.gc;have HN:=hide hN;have HD:=hide hD;have bR:=je hD
 have hlt:((n0:Int) - (lo:Int))<(n:Int):=by omega
 have hR0:n0<=R:=by omega
 have hRb:R<=65536:=by omega
 have L1:=hide (show(zs.take lo).length=lo by rw [List.length_take];omega)
 have L2:=hide (show(zs.drop n0).length=n0 - n0 by rw [List.length_drop,hN])
 obtain⟨d0,d1,d2⟩:=h.gc;obtain⟨f0,f1,f2⟩:=h.gf;have HZ:=hide hz
 have i1:lo<=n0:=by omega
 have hNH0:=hNH;clear hz;clear hN hD h hNH0;go_enter Tryz.func237,Tryz.ntmps237;go_wp2_with fail;refine HK.out.mono ?_;rintro x w0 ⟨rfl,mm0,rfl⟩;go_wp2_with fail
 go_loopw [4] (fun s4 wr=>∃c k:Nat,s4= .int .i64 c∧Dbl M c R∧16<=c∧c<=65536∧wr=w.drewN k) (fun s4 _=>M - (intOf s4).toNat)
 case atStart=>exact⟨c0,mm0,rfl,HD.out,by omega,by omega,rfl⟩
 obtain⟨c,k,rfl,hDc,hc16,hcb,rfl⟩:=hrel;have HDc:=hide hDc;clear hDc;go_wp2_with fail;refine(HLN.out (w.drewN k) (HC.out.same rfl)).mono ?_;rintro x w1 ⟨rfl,m1,rfl⟩
 by_cases hcm:c<M
 ·have hlt2:(c:Int) - (L:Int)<(n:Int):=by omega
  have HDn:=hide (show Dbl M (c*2) R from by
   cases HDc.out with
   | stop _ h=>omega
   | more _ _ h k=>exact k)
  have hc2:c*2<=65536:=by omega
  go_wp2;go_roundw
  case rel=>exact⟨c*2,k+m1,by go_num,HDn.out,by omega,by omega,rfl⟩
  simp [intOf];omega
 have hnl:¬ (c:Int) - (L:Int)<(n:Int):=by omega
 obtain rfl:c=R:=by
  cases HDc.out with
  | stop _ h=>rfl
  | more _ _ h k=>omega
 have HB1:=hide (show ChgP w ((w.drewN k).drewN m1) (fun _=>False)from⟨rfl,rfl,rfl,lR,fun _ _ _=>rfl⟩)
 have H1:=hide (H.out.block (w':=(w.drewN k).drewN m1) rfl);have es1:w.heap.size<=((w.drewN k).drewN m1).heap.size:=lR
 have HZ1:=hide (show Cl ((w.drewN k).drewN m1) g zs from HZ.out)
 clear d0 d1 d2 f0 f1 f2 HK HLN HD HDc;obtain⟨d0,d1,d2⟩:=H1.out.gc;obtain⟨f0,f1,f2⟩:=H1.out.gf;generalize (w.drewN k).drewN m1=w1 at *
 go_upto_region 5 with (at_make;refine wpList_make_full _ rfl _ _ 34 rfl w1.heap.size 21 i0 (.int .i32 0) 1 Tryz.underlying34 hi' hz0 hz1 .i64 .i64 _ _ c rfl rfl (by omega) (by omega) (by rw [hz2];omega) (by unfold maxLen;omega) lR ?_;intro w2 hown hgrow)
 rw [jS]at hown;have R2:=hide (Zq hown)
 have C2:=hide (show ChgP w w2 (fun _=>False)from HB1.out.trans (show ChgP w1 w2 (fun _=>False)from⟨hgrow.os,hgrow.tape,hgrow.output,hgrow.size,fun i hq _=>hgrow.block i hq (by simp)⟩) (fun _ _ s=>s) (fun _ _ s=>s))
 have es2:w1.heap.size<w2.heap.size:=(hown.lt _ rfl).2;have hBl:=H1.out.lt
 have H2:=hide (H1.out.block (w':=w2) (hgrow.block B hBl (by simp)))
 have HZ2:=hide (show Cl w2 g zs from fun i n0=>(World.cell?_of_block (a:=⟨g,i,none⟩) (hgrow.block g (by omega) (by simp))).trans (HZ1.out i n0))
 have hBg:B≠w1.heap.size:=by omega
 clear hown hgrow d0 d1 d2 f0 f1 f2 H1 HB1;obtain⟨d0,d1,d2⟩:=H2.out.gc;obtain⟨f0,f1,f2⟩:=H2.out.gf;go_still_tail 10,mixed
 refine zM rfl (.tmp 27) (.tmp 36) 34 34 rfl 21 Tryz.underlying34 zT (some ⟨w1.heap.size,0,none⟩) (some ⟨g,0,none⟩) c c lo n0 rfl rfl w1.heap.size 0 (ints .i32 (List.replicate c 0)++ []) 21 (by exact R2.out) (ints .i32 (zs.take lo)) (by rw [zC,L1.out];show lo=min lo c;omega) (fun _=>⟨rfl,_,rfl,by have:=HZ2.out.app' 0 lo (by rw [HN.out];omega);rw [List.drop_zero]at this;exact this⟩) (by rw [zC,L1.out,List.length_append,zC,List.length_replicate];omega) (zR _ _) ?_
 intro w3 rr3
 have R3:=hide (Row1.to (Row1.of_drew rr3.out) (zK (sp:=[]) (by rw [L1.out,List.length_replicate];omega)))
 have H3:=hide (H2.out.block (w':=w3) (rr3.out.block B hBg))
 have C3:=hide (show ChgP w w3 (fun _=>False)from C2.out.trans (show ChgP w2 w3 (fun k=>k=w1.heap.size)from⟨rr3.out.os,rr3.out.tape,rr3.out.output,Nat.le_of_eq rr3.out.size.symm,fun k hk hn=>rr3.out.block k hn⟩) (fun _ _ s=>s) (fun i hq s=>by omega))
 have es3:w1.heap.size<w3.heap.size:=by rw [rr3.out.size];exact es2
 have HZ3:=hide (show Cl w3 g zs from fun i n0=>(World.cell?_of_block (a:=⟨g,i,none⟩) (rr3.out.block g (by omega))).trans (HZ2.out i n0))
 clear rr3 d0 d1 d2 f0 f1 f2 H2 C2 R2;obtain⟨d0,d1,d2⟩:=H3.out.gc;obtain⟨f0,f1,f2⟩:=H3.out.gf;go_wp2_with fail;go_quiet (fail)
 have R4:=hide (show Rw (w3.drewN nq) w1.heap.size (splice (List.replicate c 0) 0 (zs.take lo)) []from R3.out.row)
 have H4:=hide (H3.out.block (w':=w3.drewN nq) rfl)
 have C4:=hide (show ChgP w (w3.drewN nq) (fun _=>False)from C3.out.trans (show ChgP w3 (w3.drewN nq) (fun _=>False)from⟨rfl,rfl,rfl,lR,fun _ _ _=>rfl⟩) (fun _ _ s=>s) (fun _ _ s=>s))
 have HZ4:=hide (show Cl (w3.drewN nq) g zs from HZ3.out)
 clear d0 d1 d2 f0 f1 f2 H3 C3 R3;obtain⟨d0,d1,d2⟩:=H4.out.gc;obtain⟨f0,f1,f2⟩:=H4.out.gf;generalize w3.drewN nq=w4 at *
 have HZ5:=hide (show Cl (w4.setCell ⟨B,o+2,none⟩ (.int .i64 c)) g zs from fun i n0=>(World.cell?_of_block (a:=⟨g,i,none⟩) (zD (by show g≠B;exact hgB))).trans (HZ4.out i n0))
 have R5a:=hide (show Rw (w4.setCell ⟨B,o+2,none⟩ (.int .i64 c)) w1.heap.size (splice (List.replicate c 0) 0 (zs.take lo)) []from(zD (by show w1.heap.size≠B;exact hBg.symm)).trans R4.out)
 go_upto_region 8 with fail
 go_upto_region 9 with (refine zM rfl (.tmp 59) (.tmp 60) 34 34 rfl 21 Tryz.underlying34 zT (some ⟨w1.heap.size,0,none⟩) (some ⟨g,0,none⟩) 0 0 0 0 rfl rfl w1.heap.size c (ints .i32 (splice (List.replicate c 0) 0 (zs.take lo))++ []) 21 (by exact R5a.out) (ints .i32 (zs.drop n0)) (by rw [zC,L2.out,Nat.sub_self];rfl) (fun hpos=>absurd hpos (by rw [zC,L2.out,Nat.sub_self];omega)) (by rw [zC,L2.out,List.length_append,zC,length_splice _ _ _ (by rw [L1.out,List.length_replicate];omega),List.length_replicate];omega) (zR _ _) ?_;intro w5 rr5)
 have R5:=hide (Row1.to rr5.out (zK (sp:=[]) (by rw [L2.out,length_splice _ _ _ (by rw [L1.out,List.length_replicate];omega),List.length_replicate];omega)))
 have y0:w5.cell? ⟨B,o,none⟩=some (.slice (some ⟨g,0,none⟩) n0 n0):=(World.cell?_of_block (a:=⟨B,o,none⟩) (rr5.out.block B hBg)).trans ((World.cell?_setCell_other w4 ⟨B,o+2,none⟩ ⟨B,o,none⟩ (.int .i64 c) (by simp)).trans d0)
 have y1:w5.frozen? ⟨B,o,none⟩=false:=(zU (p:=⟨B,o,none⟩) (rr5.out.block B hBg)).trans (by simpa using f0)
 clear rr5 d0 d1 d2 f0 f1 f2;go_wp2;go_end0;exact⟨rfl,w1.heap.size,ZJ H.out C4.out es1 R4.out R5.out lo c rfl rfl⟩
end Go.Proofs.YtibbhecojkehfaaGreatDoor
