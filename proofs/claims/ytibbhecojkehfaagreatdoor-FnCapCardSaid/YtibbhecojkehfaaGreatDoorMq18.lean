import Derived.RegionTactic
import Derived.ChangeAlike
import Derived.Test.YtibbhecojkehfaaGreatDoorMq02
import Derived.Test.YtibbhecojkehfaaGreatDoorTie
set_option linter.all false
set_option maxRecDepth 100000
set_option maxHeartbeats 16000000
namespace Go.Proofs.YtibbhecojkehfaaGreatDoor
open Go Go.RowKit
def Src (bs:List Int) (vb:Value) (p:Nat) (w:World):Prop:=
 (∃ (i:Nat) (x:Int),i<=bs.length∧0<=x∧x<18446744073709551616∧w.heap[p]? =some (.cells #[vb,.int .i64 i,.int .u64 x] 62 (0,0)))∧
 (∀z∈bs,0<=z∧z<=255)∧bs.length<=1048576∧
 ((∃ao cap,vb= .slice ao 0 cap∧bs= [])∨
  (∃b off cap,vb= .slice (some ⟨b,off,none⟩) bs.length cap∧b≠p∧(0<bs.length∧bs.length<=cap∧cap<=maxLen)∧∀i,i<bs.length->w.cell? ⟨b,off+i,none⟩=some (.int .u8 (bs.getD i 0))))
theorem Src.lt {bs:List Int} {vb:Value} {p:Nat} {w:World} (h:Src bs vb p w):p<w.heap.size:=by
 obtain⟨⟨i,x,_,_,_,hh⟩,_⟩:=h
 rcases Nat.lt_or_ge p w.heap.size with h | h
 ·exact h
 rw [Array.getElem?_eq_none h]at hh;cases hh
theorem Src.turned {bs:List Int} {vb:Value} {p:Nat} {w w':World} (h:Src bs vb p w) (hg:w.grownBy w' (some p))
  (hp:∃ (i:Nat) (x:Int),i<=bs.length∧0<=x∧x<18446744073709551616∧w'.heap[p]? =some (.cells #[vb,.int .i64 i,.int .u64 x] 62 (0,0))):Src bs vb p w':=by
 obtain⟨_,h1,h2,h3⟩:=h;refine⟨hp,h1,h2,?_⟩
 rcases h3 with h3 | ⟨b,off,cap,hv,hne,hl,hc⟩
 ·exact .inl h3
 refine .inr ⟨b,off,cap,hv,hne,hl,fun i hi=>?_⟩
 have h4:=hc i hi
 rw [World.cell?_of_block (w:=w) (hg.block b (World.block_lt_of_cell? w _ h4) (by simpa using hne))]
 exact h4
theorem Src.done2 {bs:List Int} {vb:Value} {p:Nat} {w W:World} (h:Src bs vb p w) {i:Nat} {a:Value} (hh:w.heap[p]? =some (.cells #[vb,.int .i64 i,a] 62 (0,0))) (x:Int) (hi:i<=bs.length) (h0:0<=x) (h1:x<18446744073709551616)
  (e1:W.os=w.os) (e2:W.tape=w.tape) (e3:W.output=w.output) (e4:W.heap=(w.setCell ⟨p,2,none⟩ (.int .u64 x)).heap):Src bs vb p W∧w.grownBy W (some p):=by
 have hg:w.grownBy W (some p):=⟨e1,e2,e3,by rw [e4];simp,fun k hk hne=>by rw [e4];exact heap_setCell_other _ _ _ _ (fun e=>hne (by subst e;rfl))⟩
 exact⟨h.turned hg ⟨i,x,hi,h0,h1,by rw [e4,heap_setCell_same w p 2 _ _ _ hh];rfl⟩,hg⟩
theorem Src.done1 {bs:List Int} {vb:Value} {p:Nat} {w W:World} (h:Src bs vb p w) {a b:Value} (hh:w.heap[p]? =some (.cells #[vb,a,b] 62 (0,0))) (i:Nat) (x:Int) (hi:i<=bs.length) (h0:0<=x) (h1:x<18446744073709551616)
  (e1:W.os=w.os) (e2:W.tape=w.tape) (e3:W.output=w.output) (e4:W.heap=((w.setCell ⟨p,1,none⟩ (.int .i64 i)).setCell ⟨p,2,none⟩ (.int .u64 x)).heap):Src bs vb p W∧w.grownBy W (some p):=by
 have hg:w.grownBy W (some p):=⟨e1,e2,e3,by rw [e4];simp,fun k hk hne=>by
  have hne':k≠p:=fun e=>hne (by subst e;rfl)
  rw [e4,heap_setCell_other _ _ _ _ hne',heap_setCell_other _ _ _ _ hne']⟩
 have h2:=heap_setCell_same w p 1 _ _ (.int .i64 i) hh
 exact⟨h.turned hg ⟨i,x,hi,h0,h1,by rw [e4,heap_setCell_same _ p 2 _ _ _ h2];rfl⟩,hg⟩
theorem yQ (n:Int):0<=IntKind.u64.wrap n∧IntKind.u64.wrap n<18446744073709551616:=by
 rw [IntKind.wrap_u64];omega
theorem KJ (n k:Int) (hk0:0<k) (hk1:k<=1048576):0<=wrap64 ((IntKind.u64.wrap n/8589934592).tmod k)∧wrap64 ((IntKind.u64.wrap n/8589934592).tmod k)<k:=by
 have h:=yQ n;generalize IntKind.u64.wrap n=m at *
 have h1:0<=m/8589934592:=by omega
 generalize m/8589934592=q at *;rw [Int.tmod_eq_emod_of_nonneg h1]
 have h2:=Int.emod_nonneg q (show k≠0 by omega)
 have h3:=Int.emod_lt_of_pos q hk0
 rw [IntWalk.wrap64_in _ (by omega)]
 exact⟨h2,h3⟩
theorem drawN (bs:List Int) (vb:Value) (p:Nat) (k:Int) (w:World) (hS:Src bs vb p w) (hk0:0<k) (hk1:k<=1048576):
  Calls Tryz.prog 10 #[.pointer (some ⟨p,0,none⟩),.int .i64 k] w fun e w'=>∃r:Int,e= .returned (.int .i64 r)∧(0<=r∧r<k)∧Src bs vb p w'∧w.grownBy w' (some p):=by
 have HS:=hide hS;obtain⟨⟨i,x,hi,hx0,hx1,hh⟩,hby,hlen,hv⟩:=hS;have HH:=hide hh
 have hc0:w.cell? ⟨p,0,none⟩=some vb:=by rw [cell_of_row w p 0 _ _ _ hh];rfl
 have hc1:w.cell? ⟨p,1,none⟩=some (.int .i64 i):=by rw [cell_of_row w p 1 _ _ _ hh];rfl
 have hc2:w.cell? ⟨p,2,none⟩=some (.int .u64 x):=by rw [cell_of_row w p 2 _ _ _ hh];rfl
 have f1:w.frozen? ⟨p,1,none⟩=false:=frozen_of_row w p 1 _ _ hh;have f2:w.frozen? ⟨p,2,none⟩=false:=frozen_of_row w p 2 _ _ hh;clear hh
 by_cases hlt:i<bs.length
 ·rcases hv with ⟨ao,cap,rfl,rfl⟩ | ⟨b,off,cap,rfl,hne,⟨hl0,hl1,hl2⟩,hc⟩
  ·exact absurd hlt (Nat.not_lt_zero _)
  have hcc:=hc i hlt
  have hz:=hby (bs.getD i 0) (by simp [List.getD_eq_getElem?_getD,hlt])
  generalize bs.getD i 0=z at *;clear hc hby;go_enter Tryz.func10,Tryz.ntmps10;go_wp2;go_region;go_wp2;go_region;go_wp2
  ·go_ret
   exact⟨_,rfl,⟨by omega,by omega⟩,HS.out.done1 HH.out (i+1) _ (by omega) (yQ _).1 (yQ _).2 rfl rfl rfl rfl⟩
  go_ret
  exact⟨_,rfl,KJ _ _ hk0 hk1,HS.out.done1 HH.out (i+1) _ (by omega) (yQ _).1 (yQ _).2 rfl rfl rfl rfl⟩
 have hi':i=bs.length:=by omega
 subst hi'
 obtain⟨ao,cap,rfl⟩:∃ao cap,vb= .slice ao bs.length cap:=by
  rcases hv with ⟨ao,cap,rfl,rfl⟩ | ⟨b,off,cap,rfl,_⟩
  ·exact⟨_,_,rfl⟩
  exact⟨_,_,rfl⟩
 clear hv hby;go_enter Tryz.func10,Tryz.ntmps10;go_wp2;go_region;go_wp2
 ·go_ret
  exact⟨_,rfl,⟨by omega,by omega⟩,HS.out.done2 HH.out _ (by omega) (yQ _).1 (yQ _).2 rfl rfl rfl rfl⟩
 go_ret
 exact⟨_,rfl,KJ _ _ hk0 hk1,HS.out.done2 HH.out _ (by omega) (yQ _).1 (yQ _).2 rfl rfl rfl rfl⟩
theorem Z5 (bs:List Int) (vb:Value) (p:Nat) (k:Int) (w:World) (hS:Src bs vb p w) (hk0:0<k) (hk1:k<=1048576):
  Calls Tryz.prog 6 #[.pointer (some ⟨p,0,none⟩),.int .i64 k] w fun e w'=>∃r:Int,e= .returned (.int .i64 r)∧(0<=r∧r<k)∧Src bs vb p w'∧w.grownBy w' (some p):=by
 have HS:=hide hS;clear hS;go_enter Tryz.func6,Tryz.ntmps6;go_wp2_with fail;refine(drawN bs vb p k w HS.out hk0 hk1).mono ?_;rintro e w1 ⟨r,rfl,hr,hs,hg⟩;have H1:=hide hs;have H2:=hide hg;clear hs hg;go_wp2;go_ret;exact⟨_,rfl,hr,H1.out,H2.out⟩
theorem new1 (bs:List Int) (vb:Value) (w:World) (h:Rd .u8 w vb bs) (hb:∀z∈bs,0<=z∧z<=255) (hn:bs.length<=1048576):
  Calls Tryz.prog 9 #[vb] w fun e w'=>e= .returned (.pointer (some ⟨w.heap.size,0,none⟩))∧Src bs vb w.heap.size w'∧Below w.heap.size w w':=by
 have HB:=hide hb;have HR:=hide h
 obtain⟨ao,cap,rfl⟩:∃ao cap,vb= .slice ao bs.length cap:=by
  rcases h with ⟨ao,cap,rfl,rfl⟩ | ⟨b,off,cap,rfl,_⟩
  ·exact⟨_,_,rfl⟩
  exact⟨_,_,rfl⟩
 clear hb h;go_enter Tryz.func9,Tryz.ntmps9;go_wp2;go_ret;have hbw:=(Below.refl w.heap.size w).alloc lR (.cells #[.slice ao bs.length cap,.int .i64 0,.int .u64 (88172645463325252+bs.length)] 62)
 refine⟨rfl,⟨⟨0,88172645463325252+bs.length,Nat.zero_le _,by omega,by omega,heap_alloc_new _ _⟩,HB.out,hn,?_⟩,hbw⟩
 rcases HR.out with ⟨ao',cap',e,e2⟩ | ⟨b,off,cap',e,hl,hc⟩
 ·subst e2;exact .inl ⟨_,_,rfl,rfl⟩
 refine .inr ⟨b,off,cap',e,?_,hl,fun i hi=>?_⟩
 ·have:=World.block_lt_of_cell? w _ (hc 0 hl.1)
  simp at this;omega
 have h4:=hc i hi;rw [hbw.cell (p:=⟨b,off+i,none⟩) (World.block_lt_of_cell? w _ h4)];exact h4
theorem new2 (bs:List Int) (vb:Value) (w:World) (h:Rd .u8 w vb bs) (hb:∀z∈bs,0<=z∧z<=255) (hn:bs.length<=1048576):
  Calls Tryz.prog 4 #[vb] w fun e w'=>e= .returned (.pointer (some ⟨w.heap.size,0,none⟩))∧Src bs vb w.heap.size w'∧Below w.heap.size w w':=by
 have HB:=hide hb;have HR:=hide h;clear hb h;go_enter Tryz.func4,Tryz.ntmps4;go_wp2_with fail;refine(new1 bs vb w HR.out HB.out hn).mono ?_;rintro e w1 ⟨rfl,hs,hbw⟩;have H1:=hide hs;have H2:=hide hbw;clear hs hbw;go_wp2;go_ret;exact⟨rfl,H1.out,H2.out⟩
theorem smText (xs:List Int) (v u:Value) (w:World) (h1:Rd .i32 w v xs) (h2:Rd .i32 w u xs) (hn:xs.length<=1099511627776):
  Calls Tryz.prog 8 #[v,u] w fun e w'=>e= .returned (.bool true)∧∃n,w'=w.drewN n:=by
 by_cases h0:xs.length=0
 ·have e0:xs= []:=List.eq_nil_of_length_eq_zero h0
  subst e0
  obtain⟨ao,cap,rfl⟩:∃ao cap,v= .slice ao 0 cap:=by
   rcases h1 with ⟨ao,cap,rfl,_⟩ | ⟨_,_,_,_,hp,_⟩
   ·exact⟨_,_,rfl⟩
   simp at hp
  obtain⟨ao',cap',rfl⟩:∃ao cap,u= .slice ao 0 cap:=by
   rcases h2 with ⟨ao,cap,rfl,_⟩ | ⟨_,_,_,_,hp,_⟩
   ·exact⟨_,_,rfl⟩
   simp at hp
  clear h1 h2;go_enter Tryz.func8,Tryz.ntmps8;go_wp2;refine wp_loop_rounds 1 ?_;rw [rounds_succ];go_wp2;go_ret;exact⟨rfl,0,rfl⟩
 obtain⟨b,off,cap,rfl,hc⟩:∃b off cap,v= .slice (some ⟨b,off,none⟩) xs.length cap∧∀i,i<xs.length->w.cell? ⟨b,off+i,none⟩=some (.int .i32 (xs.getD i 0)):=by
  rcases h1 with ⟨ao,cap,_,e⟩ | ⟨b,off,cap,e,hp,hc⟩
  ·subst e;simp at h0
  exact⟨b,off,cap,e,hc⟩
 obtain⟨b',off',cap',rfl,hc'⟩:∃b off cap,u= .slice (some ⟨b,off,none⟩) xs.length cap∧∀i,i<xs.length->w.cell? ⟨b,off+i,none⟩=some (.int .i32 (xs.getD i 0)):=by
  rcases h2 with ⟨ao,cap,_,e⟩ | ⟨b,off,cap,e,hp,hc⟩
  ·subst e;simp at h0
  exact⟨b,off,cap,e,hc⟩
 clear h1 h2;generalize hl:xs.length=n at *;clear hl
 have hne:((n:Int) != (n:Int))=false:=by simp
 have HC:=hide hc;have HC':=hide hc';clear hc hc';go_enter Tryz.func8,Tryz.ntmps8;go_wp2
 go_loopw [13] (fun i wr=>∃k nq:Nat,k<=n∧i= .int .i64 k∧wr=w.drewN nq) (fun i _=>n - (intOf i).toNat)
 case atStart=>exact⟨0,0,Nat.zero_le _,rfl,rfl⟩
 obtain⟨k,nq,hk,rfl,rfl⟩:=hrel
 by_cases hlt:k<n
 ·have hx:=HC.out k hlt
  have hy:=HC'.out k hlt;generalize xs.getD k 0=z at hx hy
  have hz:(z != z)=false:=by simp
  go_wp2;go_quiet (fail);go_wp2;go_roundw
  case rel=>exact⟨k+1,_,by omega,by go_num,rfl⟩
  simp [intOf];omega
 go_wp2;go_ret;exact⟨rfl,_,rfl⟩
end Go.Proofs.YtibbhecojkehfaaGreatDoor
namespace Go.Proofs.YtibbhecojkehfaaGreatDoor
open Go
theorem rowTieI:Rows.fnCapRow.laidByTextAt .later Tryz.pinned [.handle,.data] true:=fnCap_row_tie
end Go.Proofs.YtibbhecojkehfaaGreatDoor
