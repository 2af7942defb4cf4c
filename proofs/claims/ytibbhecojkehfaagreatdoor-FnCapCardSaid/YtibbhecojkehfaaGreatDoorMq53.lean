import Derived.Test.YtibbhecojkehfaaGreatDoorMq25
set_option linter.all false
set_option maxRecDepth 100000
set_option maxHeartbeats 16000000
namespace Go.Proofs.YtibbhecojkehfaaGreatDoor
open Go Go.RowKit
theorem YP {P:Program} {ops:Array Oper} {o:Oper} {a:Act} {w:World} {K:Act->World->Prop} {Q:Exit->Act->World->Prop} {E:Prop} (hgd:o.guard=none) (d s:Operand) (dT sT:TypeId)
  (ho:o.op= .call {callee:=.builtin .copy,args:=#[d,s],argTypes:=#[dT,sT]}) (elem:TypeId) (hu:P.underlying dT=some (.slice elem)) (hsz:(P.info? elem).map (·.size)=some 1)
  (dp sp:Option Addr) (dLen dCap sLen sCap:Nat) (hd:a.eval d= .slice dp dLen dCap) (hs:a.eval s= .slice sp sLen sCap) (hn:Nat.min sLen dLen=0)
  (h:K (a.put o.dst (goInt 0)) w):
  if Region.wanted o (yielded ops a.tmps)=true then Oper.wp P o a w K Q else E:=by
 have hw:Region.wanted o (yielded ops a.tmps)=true:=by simp [Region.wanted,hgd]
 rw [if_pos hw];have hrun:=run_copy_none (P:=P) w dT sT o.type elem dp sp dLen dCap sLen sCap hu hsz hn;unfold Oper.wp;simp [execOp,ho,resolve,invoke,builtin,hd,hs,hrun,Result.andThen];exact h
theorem Xj {w w1:World} {B o:Nat} {cs:Array Value} {t:TypeId} (h:GB w B o cs t (.slice none 0 0) 0 0) (hh:w1.heap=w.heap) (ho:w1.os=w.os) (ht:w1.tape=w.tape) (hp:w1.output=w.output):
  GNilPost w (w1.setCell ⟨B,o+1,none⟩ (.int .i64 0)) B o cs t:=by
 have h0:w1.heap[B]? =some (.cells cs t (0,0)):=by rw [hh];exact h.blk
 have h2:=heap_setCell_same w1 B (o+1) _ _ (.int .i64 0) h0;have hs:=h.sz
 have e:cs.setIfInBounds (o+1) (.int .i64 0)=cs:=by
  rw [<- h.self]
  apply yR (by simp [z8]) h.sz
  ·rw [Array.getElem?_setIfInBounds,if_neg (by omega),zd _ _ _ _ _ _ hs];simp
  ·rw [Array.getElem?_setIfInBounds,if_pos rfl,if_pos (by rw [z8];omega)]
  ·rw [Array.getElem?_setIfInBounds,if_neg (by omega),zd _ _ _ _ _ _ hs];simp
  intro j e0 e1 e2
  rw [Array.getElem?_setIfInBounds,if_neg (by omega),zd _ _ _ _ _ _ hs]
  simp [e0,e1,e2]
 rw [e]at h2
 refine⟨⟨h2,h.sz,h.c0,h.c1,h.c2⟩,ho,ht,hp,by simp [hh],fun k hk hn=>?_⟩
 rw [zD (by show k≠B;exact hn),hh]
theorem zAk (B o:Nat) (cs:Array Value) (t:TypeId) (ap:Option Addr) (cp:Nat) (w:World) (h:GB w B o cs t (.slice none 0 0) 0 0):
  Calls Tryz.prog 228 #[.pointer (some ⟨B,o,none⟩),.int .i64 0,.slice ap 0 cp] w fun x w'=>x= .returned (.tuple #[])∧GNilPost w w' B o cs t:=by
 have HM:=hide (Zg B o none 0 0 0 0 0 w (by simpa using h.gc) (by omega) (by omega) (by omega) (by omega))
 have H:=hide h
 have wr0:IntKind.i64.wrap 0=0:=by rw [IntKind.wrap_i64];rfl
 clear h;go_enter Tryz.func228,Tryz.ntmps228;go_wp2_with fail;refine HM.out.mono ?_;rintro x w1 ⟨rfl,m,rfl⟩;have H1:=hide (H.out.block (w':=w.drewN m) rfl)
 have A1:=hide (show Alk w (w.drewN m)from⟨rfl,rfl,rfl,rfl⟩)
 clear HM;generalize w.drewN m=w1 at *;go_wp2_with fail;refine(Yc B o cs t w1 H1.out).mono ?_;rintro x w2 ⟨rfl,hp2⟩;have P2:=hide hp2;obtain⟨d0,d1,d2⟩:=hp2.gb.gc;obtain⟨f0,f1,f2⟩:=hp2.gb.gf;clear hp2
 go_upto_region 2 with fail
 go_region_law (refine YP rfl (.tmp 29) (.tmp 30) 34 34 rfl 21 Tryz.underlying34 zT none ap 0 0 0 cp rfl rfl rfl ?_)
 all_goals (
  go_wp2;go_end0;refine⟨rfl,?_⟩;have q:=P2.out.trans (Xj (w1:=w2.drew) P2.out.gb rfl rfl rfl rfl)
  exact⟨q.gb,⟨q.chg.os.trans A1.out.os,q.chg.tape.trans A1.out.tape,q.chg.output.trans A1.out.output,by have:=q.chg.size;rw [A1.out.heap]at this;exact this,fun k hk hn=>(q.chg.block k (by rw [A1.out.heap];exact hk) hn).trans (by rw [A1.out.heap])⟩⟩)
end Go.Proofs.YtibbhecojkehfaaGreatDoor
