import Derived.Test.YtibbhecojkehfaaGreatDoorMq15
import Derived.Laws.BitsAllLaws
import Derived.Laws.BytesString
import Derived.Laws.Cells
set_option linter.all false
set_option maxRecDepth 100000
set_option maxHeartbeats 16000000
namespace Go.Proofs.YtibbhecojkehfaaGreatDoor
open Go Go.RowKit
def inr (lo hi:Int) (i:Nat) (z:Int):Prop:=if i=1 then lo<=z∧z<=hi else 128<=z∧z<=191
theorem matched (r0 r1 lo hi r5:Int) (size:Nat) (bs:List Int) (v:Value) (w:World) (h:Rd .u8 w v bs) (hne:bs≠ []) (hn:bs.length<=1048576) (hs:1<=size∧size<=4):
  Calls Tryz.prog 131 #[.agg #[.int .u8 r0,.int .u8 r1,.int .u8 lo,.int .u8 hi,.int .i64 size,.int .u8 r5],v] w fun e w'=>∃n:Nat,e= .returned (.int .i64 n)∧1<=n∧n<=size∧(∀i,1<=i->i<n->i<bs.length∧inr lo hi i (bs.getD i 0))∧(n=size∨(n<size∧(n=bs.length∨¬inr lo hi n (bs.getD n 0))))∧n<=bs.length∧Below w.heap.size w w':=by
 have hpos:0<bs.length:=List.length_pos_iff.2 hne
 rcases h with ⟨_,_,_,e⟩ | ⟨b,off,cap,rfl,⟨hp,hcp,hcm⟩,hc⟩
 ·exact absurd e hne
 have hcB:b<w.heap.size:=World.block_lt_of_cell? w _ (hc 0 hp);obtain⟨hs1,hs4⟩:=hs
 have hc':∀i,i<bs.length->(w.alloc (.cells #[.int .u8 r0,.int .u8 r1,.int .u8 lo,.int .u8 hi,.int .i64 size,.int .u8 r5] 255)).cell? ⟨b,off+i,none⟩=some (.int .u8 (bs.getD i 0)):=fun i hi=>by
  rw [World.cell?_alloc_lt _ _ ⟨b,off+i,none⟩ hcB];exact hc i hi
 have HC:=hide hc';have HB0:=hide ((Below.refl w.heap.size w).alloc lR (.cells #[.int .u8 r0,.int .u8 r1,.int .u8 lo,.int .u8 hi,.int .i64 size,.int .u8 r5] 255))
 have k2:(w.alloc (.cells #[.int .u8 r0,.int .u8 r1,.int .u8 lo,.int .u8 hi,.int .i64 size,.int .u8 r5] 255)).cell? ⟨w.heap.size,2,none⟩=some (.int .u8 lo):=by simp
 have k3:(w.alloc (.cells #[.int .u8 r0,.int .u8 r1,.int .u8 lo,.int .u8 hi,.int .i64 size,.int .u8 r5] 255)).cell? ⟨w.heap.size,3,none⟩=some (.int .u8 hi):=by simp
 have k4:(w.alloc (.cells #[.int .u8 r0,.int .u8 r1,.int .u8 lo,.int .u8 hi,.int .i64 size,.int .u8 r5] 255)).cell? ⟨w.heap.size,4,none⟩=some (.int .i64 size):=by simp
 clear hc hc' hne;go_enter Tryz.func131,Tryz.ntmps131;go_wp2_with fail;generalize w.alloc (.cells #[.int .u8 r0,.int .u8 r1,.int .u8 lo,.int .u8 hi,.int .i64 size,.int .u8 r5] 255)=w0 at *;go_quiet (fail);go_wp2_with fail
 go_loop [5,6,7] (fun l u i=>∃ (k:Nat) (L U:Int),1<=k∧k<=size∧k<=bs.length∧l= .int .u8 L∧u= .int .u8 U∧i= .int .i64 k∧(∀z,(L<=z∧z<=U)↔inr lo hi k z)∧(∀i,1<=i->i<k->i<bs.length∧inr lo hi i (bs.getD i 0))) (fun _ _ i=>size - (intOf i).toNat)
 case atStart=>exact⟨1,lo,hi,by omega,by omega,by omega,rfl,rfl,rfl,(fun z=>by unfold inr;rw [if_pos rfl]),fun i h1 h2=>by omega⟩
 obtain⟨k,L,U,hk1,hks,hkl,rfl,rfl,rfl,hiff,hall⟩:=hrel;have HI:=hide hiff;have HA:=hide hall;clear hiff hall
 by_cases hlt:k<size
 ·by_cases hkb:k=bs.length
  ·have hkb':((k:Int)==(bs.length:Int))=true:=by simp;omega
   have HKB:=hide hkb;clear hkb;go_wp2;go_ret;exact⟨k,rfl,hk1,hks,HA.out,.inr ⟨hlt,.inl HKB.out⟩,hkl,⟨HB0.out.os,HB0.out.tape,HB0.out.output,HB0.out.size,HB0.out.block⟩⟩
  have hkb':((k:Int)==(bs.length:Int))=false:=by simp;omega
  have hkl':k<bs.length:=by omega
  have hx:=HC.out k hkl'
  have HZ:=hide (show ∀z,z=bs.getD k 0->(inr lo hi k z↔inr lo hi k (bs.getD k 0))from fun z hz=>by rw [hz])
  generalize hzz:bs.getD k 0=z at hx;have HZZ:=hide hzz;clear hzz hkb
  by_cases hin:L<=z∧z<=U
  ·go_wp2_with fail
   refine(Ze z L U _ hin.1 hin.2).mono ?_;rintro e w1 ⟨rfl,rfl⟩;have HIN:=hide hin;clear hin;go_wp2;go_round
   case rel=>
    have hnx:∀i,1<=i->i<k+1->i<bs.length∧inr lo hi i (bs.getD i 0):=fun i g1 g2=>by
     by_cases g3:i=k
     ·subst g3;exact⟨hkl',by rw [HZZ.out];exact(HI.out z).1 HIN.out⟩
     exact HA.out i g1 (by omega)
    exact⟨k+1,128,191,by omega,by omega,by omega,rfl,rfl,by go_num,(fun z=>by unfold inr;rw [if_neg (by omega)]),hnx⟩
   simp [intOf];omega
  go_wp2_with fail;refine(jl z L U _ hin).mono ?_;rintro e w1 ⟨rfl,rfl⟩;have HIN:=hide hin;clear hin;go_wp2;go_ret
  exact⟨k,rfl,hk1,hks,HA.out,.inr ⟨hlt,.inr (by rw [HZZ.out];exact fun hh=>HIN.out ((HI.out z).2 hh))⟩,hkl,⟨HB0.out.os,HB0.out.tape,HB0.out.output,HB0.out.size,HB0.out.block⟩⟩
 obtain rfl:k=size:=by omega
 go_wp2;go_ret;exact⟨k,rfl,hk1,hks,HA.out,.inl rfl,hkl,⟨HB0.out.os,HB0.out.tape,HB0.out.output,HB0.out.size,HB0.out.block⟩⟩
theorem and127 (a:Int) (h0:0<=a) (h1:a<=127):bits .and .u8 a 127=a:=by
 obtain⟨n,rfl⟩:=Int.eq_ofNat_of_zero_le h0
 have:=u8_and_nat n 127 (by omega) (by omega)
 rw [show(127:Int)=((127:Nat):Int)from rfl,this]
 have e:n&&&127=n%128:=Nat.and_two_pow_sub_one_eq_mod n 7
 rw [e,Nat.mod_eq_of_lt (by omega)]
theorem XQ (r0 r1 r2 r3 a:Int) (n cap b0 off:Nat) (w:World) (hcB:b0<w.heap.size) (hn:1<=n) (hcp:n<=cap) (hcm:cap<=maxLen) (ha:0<=a∧a<=127)
  (c0:w.cell? ⟨b0,off,none⟩=some (.int .u8 a)):
  Calls Tryz.prog 132 #[.agg #[.int .u8 r0,.int .u8 r1,.int .u8 r2,.int .u8 r3,.int .i64 1,.int .u8 127],.slice (some ⟨b0,off,none⟩) n cap] w fun e w'=>e= .returned (.int .i32 (numZ [a]))∧Below w.heap.size w w':=by
 unfold maxLen at hcm;obtain⟨ha0,ha1⟩:=ha
 have d0:(w.alloc (.cells #[.int .u8 r0,.int .u8 r1,.int .u8 r2,.int .u8 r3,.int .i64 1,.int .u8 127] 255)).cell? ⟨b0,off,none⟩=some (.int .u8 a):=by rw [World.cell?_alloc_lt _ _ ⟨b0,off,none⟩ hcB];exact c0
 clear c0
 have k4:(w.alloc (.cells #[.int .u8 r0,.int .u8 r1,.int .u8 r2,.int .u8 r3,.int .i64 1,.int .u8 127] 255)).cell? ⟨w.heap.size,4,none⟩=some (.int .i64 1):=by simp
 have k5:(w.alloc (.cells #[.int .u8 r0,.int .u8 r1,.int .u8 r2,.int .u8 r3,.int .i64 1,.int .u8 127] 255)).cell? ⟨w.heap.size,5,none⟩=some (.int .u8 127):=by simp
 have HB0:=hide ((Below.refl w.heap.size w).alloc lR (.cells #[.int .u8 r0,.int .u8 r1,.int .u8 r2,.int .u8 r3,.int .i64 1,.int .u8 127] 255))
 have HE:=hide (show numZ [a]=a from rfl)
 have hand:=and127 a ha0 ha1
 by_cases hco:cap=1
 ·have hn1:n=1:=by omega
  subst hco hn1;go_enter Tryz.func132,Tryz.ntmps132;go_wp2_with fail;generalize w.alloc (.cells #[.int .u8 r0,.int .u8 r1,.int .u8 r2,.int .u8 r3,.int .i64 1,.int .u8 127] 255)=w0 at *;go_quiet (fail);go_wp2_with fail;refine wp_loop_rounds 1 ?_;rw [rounds_succ];go_wp2;go_ret
  exact⟨by rw [HE.out];rfl,⟨HB0.out.os,HB0.out.tape,HB0.out.output,HB0.out.size,HB0.out.block⟩⟩
 go_enter Tryz.func132,Tryz.ntmps132;go_wp2_with fail;generalize w.alloc (.cells #[.int .u8 r0,.int .u8 r1,.int .u8 r2,.int .u8 r3,.int .i64 1,.int .u8 127] 255)=w0 at *;go_quiet (fail);go_wp2_with fail;refine wp_loop_rounds 1 ?_;rw [rounds_succ];go_wp2;go_ret
 exact⟨by rw [HE.out];rfl,⟨HB0.out.os,HB0.out.tape,HB0.out.output,HB0.out.size,HB0.out.block⟩⟩
theorem XR (r0 r1 r2 r3 a b:Int) (n cap b0 off:Nat) (w:World) (hcB:b0<w.heap.size) (hn:2<=n) (hcp:n<=cap) (hcm:cap<=maxLen) (ha:194<=a∧a<=223) (hb:128<=b∧b<=191)
  (c0:w.cell? ⟨b0,off,none⟩=some (.int .u8 a)) (c1:w.cell? ⟨b0,off+1,none⟩=some (.int .u8 b)):
  Calls Tryz.prog 132 #[.agg #[.int .u8 r0,.int .u8 r1,.int .u8 r2,.int .u8 r3,.int .i64 2,.int .u8 31],.slice (some ⟨b0,off,none⟩) n cap] w fun e w'=>e= .returned (.int .i32 (numZ [a,b]))∧Below w.heap.size w w':=by
 unfold maxLen at hcm;obtain⟨ha0,ha1⟩:=ha;obtain⟨hb0,hb1⟩:=hb
 have d0:(w.alloc (.cells #[.int .u8 r0,.int .u8 r1,.int .u8 r2,.int .u8 r3,.int .i64 2,.int .u8 31] 255)).cell? ⟨b0,off,none⟩=some (.int .u8 a):=by rw [World.cell?_alloc_lt _ _ ⟨b0,off,none⟩ hcB];exact c0
 clear c0
 have d1:(w.alloc (.cells #[.int .u8 r0,.int .u8 r1,.int .u8 r2,.int .u8 r3,.int .i64 2,.int .u8 31] 255)).cell? ⟨b0,off+1,none⟩=some (.int .u8 b):=by rw [World.cell?_alloc_lt _ _ ⟨b0,off+1,none⟩ hcB];exact c1
 clear c1
 have k4:(w.alloc (.cells #[.int .u8 r0,.int .u8 r1,.int .u8 r2,.int .u8 r3,.int .i64 2,.int .u8 31] 255)).cell? ⟨w.heap.size,4,none⟩=some (.int .i64 2):=by simp
 have k5:(w.alloc (.cells #[.int .u8 r0,.int .u8 r1,.int .u8 r2,.int .u8 r3,.int .i64 2,.int .u8 31] 255)).cell? ⟨w.heap.size,5,none⟩=some (.int .u8 31):=by simp
 have HB0:=hide ((Below.refl w.heap.size w).alloc lR (.cells #[.int .u8 r0,.int .u8 r1,.int .u8 r2,.int .u8 r3,.int .i64 2,.int .u8 31] 255))
 have HE:=hide (show numZ [a,b]=(a%32)*64+b%64 by simp only [numZ];omega)
 have hco:¬cap=1:=by omega
 go_enter Tryz.func132,Tryz.ntmps132;go_wp2_with fail;generalize w.alloc (.cells #[.int .u8 r0,.int .u8 r1,.int .u8 r2,.int .u8 r3,.int .i64 2,.int .u8 31] 255)=w0 at *;go_quiet (fail);go_wp2_with fail;refine wp_loop_rounds 2 ?_;rw [rounds_succ];go_wp2;rw [rounds_succ];go_wp2;go_ret
 exact⟨by rw [HE.out];rfl,⟨HB0.out.os,HB0.out.tape,HB0.out.output,HB0.out.size,HB0.out.block⟩⟩
theorem XS (r0 r1 r2 r3 a b c:Int) (n cap b0 off:Nat) (w:World) (hcB:b0<w.heap.size) (hn:3<=n) (hcp:n<=cap) (hcm:cap<=maxLen) (ha:224<=a∧a<=239) (hb:128<=b∧b<=191) (hc:128<=c∧c<=191)
  (c0:w.cell? ⟨b0,off,none⟩=some (.int .u8 a)) (c1:w.cell? ⟨b0,off+1,none⟩=some (.int .u8 b)) (c2:w.cell? ⟨b0,off+2,none⟩=some (.int .u8 c)):
  Calls Tryz.prog 132 #[.agg #[.int .u8 r0,.int .u8 r1,.int .u8 r2,.int .u8 r3,.int .i64 3,.int .u8 15],.slice (some ⟨b0,off,none⟩) n cap] w fun e w'=>e= .returned (.int .i32 (numZ [a,b,c]))∧Below w.heap.size w w':=by
 unfold maxLen at hcm;obtain⟨ha0,ha1⟩:=ha;obtain⟨hb0,hb1⟩:=hb;obtain⟨hc0,hc1⟩:=hc
 have d0:(w.alloc (.cells #[.int .u8 r0,.int .u8 r1,.int .u8 r2,.int .u8 r3,.int .i64 3,.int .u8 15] 255)).cell? ⟨b0,off,none⟩=some (.int .u8 a):=by rw [World.cell?_alloc_lt _ _ ⟨b0,off,none⟩ hcB];exact c0
 clear c0
 have d1:(w.alloc (.cells #[.int .u8 r0,.int .u8 r1,.int .u8 r2,.int .u8 r3,.int .i64 3,.int .u8 15] 255)).cell? ⟨b0,off+1,none⟩=some (.int .u8 b):=by rw [World.cell?_alloc_lt _ _ ⟨b0,off+1,none⟩ hcB];exact c1
 clear c1
 have d2:(w.alloc (.cells #[.int .u8 r0,.int .u8 r1,.int .u8 r2,.int .u8 r3,.int .i64 3,.int .u8 15] 255)).cell? ⟨b0,off+2,none⟩=some (.int .u8 c):=by rw [World.cell?_alloc_lt _ _ ⟨b0,off+2,none⟩ hcB];exact c2
 clear c2
 have k4:(w.alloc (.cells #[.int .u8 r0,.int .u8 r1,.int .u8 r2,.int .u8 r3,.int .i64 3,.int .u8 15] 255)).cell? ⟨w.heap.size,4,none⟩=some (.int .i64 3):=by simp
 have k5:(w.alloc (.cells #[.int .u8 r0,.int .u8 r1,.int .u8 r2,.int .u8 r3,.int .i64 3,.int .u8 15] 255)).cell? ⟨w.heap.size,5,none⟩=some (.int .u8 15):=by simp
 have HB0:=hide ((Below.refl w.heap.size w).alloc lR (.cells #[.int .u8 r0,.int .u8 r1,.int .u8 r2,.int .u8 r3,.int .i64 3,.int .u8 15] 255))
 have HE:=hide (show numZ [a,b,c]=((a%16)*64+b%64)*64+c%64 by simp only [numZ];omega)
 have hco:¬cap=1:=by omega
 go_enter Tryz.func132,Tryz.ntmps132;go_wp2_with fail;generalize w.alloc (.cells #[.int .u8 r0,.int .u8 r1,.int .u8 r2,.int .u8 r3,.int .i64 3,.int .u8 15] 255)=w0 at *;go_quiet (fail);go_wp2_with fail;refine wp_loop_rounds 3 ?_;rw [rounds_succ];go_wp2;rw [rounds_succ];go_wp2;rw [rounds_succ];go_wp2;go_ret
 exact⟨by rw [HE.out];rfl,⟨HB0.out.os,HB0.out.tape,HB0.out.output,HB0.out.size,HB0.out.block⟩⟩
theorem XT (r0 r1 r2 r3 a b c d:Int) (n cap b0 off:Nat) (w:World) (hcB:b0<w.heap.size) (hn:4<=n) (hcp:n<=cap) (hcm:cap<=maxLen) (ha:240<=a∧a<=244) (hb:128<=b∧b<=191) (hc:128<=c∧c<=191) (hd:128<=d∧d<=191)
  (c0:w.cell? ⟨b0,off,none⟩=some (.int .u8 a)) (c1:w.cell? ⟨b0,off+1,none⟩=some (.int .u8 b)) (c2:w.cell? ⟨b0,off+2,none⟩=some (.int .u8 c)) (c3:w.cell? ⟨b0,off+3,none⟩=some (.int .u8 d)):
  Calls Tryz.prog 132 #[.agg #[.int .u8 r0,.int .u8 r1,.int .u8 r2,.int .u8 r3,.int .i64 4,.int .u8 7],.slice (some ⟨b0,off,none⟩) n cap] w fun e w'=>e= .returned (.int .i32 (numZ [a,b,c,d]))∧Below w.heap.size w w':=by
 unfold maxLen at hcm;obtain⟨ha0,ha1⟩:=ha;obtain⟨hb0,hb1⟩:=hb;obtain⟨hc0,hc1⟩:=hc;obtain⟨hd0,hd1⟩:=hd
 have d0:(w.alloc (.cells #[.int .u8 r0,.int .u8 r1,.int .u8 r2,.int .u8 r3,.int .i64 4,.int .u8 7] 255)).cell? ⟨b0,off,none⟩=some (.int .u8 a):=by rw [World.cell?_alloc_lt _ _ ⟨b0,off,none⟩ hcB];exact c0
 clear c0
 have d1:(w.alloc (.cells #[.int .u8 r0,.int .u8 r1,.int .u8 r2,.int .u8 r3,.int .i64 4,.int .u8 7] 255)).cell? ⟨b0,off+1,none⟩=some (.int .u8 b):=by rw [World.cell?_alloc_lt _ _ ⟨b0,off+1,none⟩ hcB];exact c1
 clear c1
 have d2:(w.alloc (.cells #[.int .u8 r0,.int .u8 r1,.int .u8 r2,.int .u8 r3,.int .i64 4,.int .u8 7] 255)).cell? ⟨b0,off+2,none⟩=some (.int .u8 c):=by rw [World.cell?_alloc_lt _ _ ⟨b0,off+2,none⟩ hcB];exact c2
 clear c2
 have d3:(w.alloc (.cells #[.int .u8 r0,.int .u8 r1,.int .u8 r2,.int .u8 r3,.int .i64 4,.int .u8 7] 255)).cell? ⟨b0,off+3,none⟩=some (.int .u8 d):=by rw [World.cell?_alloc_lt _ _ ⟨b0,off+3,none⟩ hcB];exact c3
 clear c3
 have k4:(w.alloc (.cells #[.int .u8 r0,.int .u8 r1,.int .u8 r2,.int .u8 r3,.int .i64 4,.int .u8 7] 255)).cell? ⟨w.heap.size,4,none⟩=some (.int .i64 4):=by simp
 have k5:(w.alloc (.cells #[.int .u8 r0,.int .u8 r1,.int .u8 r2,.int .u8 r3,.int .i64 4,.int .u8 7] 255)).cell? ⟨w.heap.size,5,none⟩=some (.int .u8 7):=by simp
 have HB0:=hide ((Below.refl w.heap.size w).alloc lR (.cells #[.int .u8 r0,.int .u8 r1,.int .u8 r2,.int .u8 r3,.int .i64 4,.int .u8 7] 255))
 have HE:=hide (show numZ [a,b,c,d]=(((a%8)*64+b%64)*64+c%64)*64+d%64 by simp only [numZ];omega)
 have hco:¬cap=1:=by omega
 go_enter Tryz.func132,Tryz.ntmps132;go_wp2_with fail;generalize w.alloc (.cells #[.int .u8 r0,.int .u8 r1,.int .u8 r2,.int .u8 r3,.int .i64 4,.int .u8 7] 255)=w0 at *;go_quiet (fail);go_wp2_with fail;refine wp_loop_rounds 4 ?_;rw [rounds_succ];go_wp2;rw [rounds_succ];go_wp2;rw [rounds_succ];go_wp2;rw [rounds_succ];go_wp2;go_ret
 exact⟨by rw [HE.out];rfl,⟨HB0.out.os,HB0.out.tape,HB0.out.output,HB0.out.size,HB0.out.block⟩⟩
theorem XU {a:Int} {r:List Int} (h:a<128):step (a::r)=(a,1):=by
 rcases shape (show a::r≠ []by simp)with ⟨x,e⟩ | ⟨x,y,e⟩ | ⟨x,y,z,e⟩ | ⟨x,y,z,u,q,e⟩
 all_goals
  cases e;simp [step,h]
theorem zA5 {w w':World} {B:Nat} (h:Tab w) (hb:Below B w w') (hB:w.heap.size<=B):Tab w':=by
 obtain⟨t,fr,hg⟩:=h
 have hlt:1<w.heap.size:=by
  rcases Nat.lt_or_ge 1 w.heap.size with h | h
  ·exact h
  rw [Array.getElem?_eq_none h]at hg;cases hg
 exact⟨t,fr,(hb.block 1 (by omega)).trans hg⟩
theorem YX (bs:List Int) (v:Value) (w:World) (h:Rd .u8 w v bs) (hT:Tab w) (hne:bs≠ []) (hn:bs.length<=1048576) (hno:∀j,j<9->¬ (fA j<=bs.getD 0 0∧bs.getD 0 0<=fB j)) (hs:step bs=(65533,1)):
  Calls Tryz.prog 113 #[v] w fun e w'=>e= .returned (.tuple #[.int .i32 (step bs).1,.int .i64 (step bs).2])∧Below w.heap.size w w':=by
 have hpos:0<bs.length:=List.length_pos_iff.2 hne
 rcases h with ⟨_,_,_,e⟩ | ⟨b,off,cap,rfl,⟨hp,hcp,hcm⟩,hc⟩
 ·exact absurd e hne
 have hx:w.cell? ⟨b,off,none⟩=some (.int .u8 (bs.getD 0 0)):=hc 0 hp;have HF:=hide (Jd (bs.getD 0 0) w hT hno);generalize bs.getD 0 0=a at *
 have hp':(0:Int)<(bs.length:Int):=by omega
 rw [hs];clear hc hno hT hs hne;go_enter Tryz.func113,Tryz.ntmps113;go_wp2_with fail;refine HF.out.mono ?_;rintro e w1 ⟨rfl,hb1⟩;have HB1:=hide hb1;have hs1:=hb1.size;have hz:Value.agg zeroV= .agg #[.int .u8 0,.int .u8 0,.int .u8 0,.int .u8 0,.int .i64 0,.int .u8 0]:=rfl;rw [hz];clear hb1 hz;go_wp2;go_ret2;exact⟨rfl,HB1.out.alloc hs1 _⟩
theorem zh (k sz:Nat) (hk:k<9) (hsz:fE k=sz) (hs14:1<=sz∧sz<=4) (bs:List Int) (v:Value) (w:World) (h:Rd .u8 w v bs) (hT:Tab w) (hne:bs≠ []) (hn:bs.length<=1048576)
  (ha:fA k<=bs.getD 0 0∧bs.getD 0 0<=fB k) (hno:∀j,j<k->¬ (fA j<=bs.getD 0 0∧bs.getD 0 0<=fB j))
  (hrep:∀n,1<=n->n<sz->n<=bs.length->(∀i,1<=i->i<n->i<bs.length∧inr (fC k) (fD k) i (bs.getD i 0))->(n=bs.length∨¬inr (fC k) (fD k) n (bs.getD n 0))->step bs=(65533,n))
  (hfull:(∀i,1<=i->i<sz->i<bs.length∧inr (fC k) (fD k) i (bs.getD i 0))->sz<=bs.length->(step bs).2=sz∧∀W,Below w.heap.size w W->Calls Tryz.prog 132 #[.agg #[.int .u8 (fA k),.int .u8 (fB k),.int .u8 (fC k),.int .u8 (fD k),.int .i64 sz,.int .u8 (fF k)],v] W fun e w'=>e= .returned (.int .i32 (step bs).1)∧Below W.heap.size W w'):
  Calls Tryz.prog 113 #[v] w fun e w'=>e= .returned (.tuple #[.int .i32 (step bs).1,.int .i64 (step bs).2])∧Below w.heap.size w w':=by
 have hpos:0<bs.length:=List.length_pos_iff.2 hne;have HRD:=hide h;have HNE:=hide hne
 rcases h with ⟨_,_,_,e⟩ | ⟨b,off,cap,rfl,⟨hp,hcp,hcm⟩,hc⟩
 ·exact absurd e hne
 have hx:w.cell? ⟨b,off,none⟩=some (.int .u8 (bs.getD 0 0)):=hc 0 hp;have HF:=hide (XP (bs.getD 0 0) k hk w hT ha hno);generalize bs.getD 0 0=a at *
 have hp':(0:Int)<(bs.length:Int):=by omega
 have HREP:=hide hrep;have HFULL:=hide hfull;have HSZ:=hide hsz;clear hc hno hT ha hrep hfull hne hsz;go_enter Tryz.func113,Tryz.ntmps113;go_wp2_with fail;refine HF.out.mono ?_;rintro e w1 ⟨rfl,hb1⟩;have HB1:=hide hb1;have hs1:=hb1.size
 have hrow:Value.agg (rowV k)= .agg #[.int .u8 (fA k),.int .u8 (fB k),.int .u8 (fC k),.int .u8 (fD k),.int .i64 sz,.int .u8 (fF k)]:=by rw [<- HSZ.out];rfl
 rw [hrow];clear hb1 hrow HF;generalize fA k=xa at *;generalize fB k=xb at *;generalize fC k=xc at *;generalize fD k=xd at *;generalize fF k=xf at *;go_wp2_with fail;have hbB:Below w.heap.size w (w1.alloc (.cells #[.int .u8 xa,.int .u8 xb,.int .u8 xc,.int .u8 xd,.int .i64 sz,.int .u8 xf] 255)):=HB1.out.alloc hs1 _;refine(matched xa xb xc xd xf sz bs _ _ (HRD.out.below hbB) HNE.out hn hs14).mono ?_;rintro e w2 ⟨n,rfl,hn1,hnz,hall,hend,hnl,hb2⟩;have HB2:=hide (hbB.trans (hb2.mono hbB.size))
 have hbk:w2.heap[w1.heap.size]? =some (.cells #[.int .u8 xa,.int .u8 xb,.int .u8 xc,.int .u8 xd,.int .i64 sz,.int .u8 xf] 255 (0,0)):=(hb2.block w1.heap.size (by simp)).trans (heap_alloc_new _ _)
 have c0:w2.cell? ⟨w1.heap.size,0,none⟩=some (.int .u8 xa):=by rw [cell_of_row w2 w1.heap.size 0 _ _ _ hbk];rfl
 have c1:w2.cell? ⟨w1.heap.size,1,none⟩=some (.int .u8 xb):=by rw [cell_of_row w2 w1.heap.size 1 _ _ _ hbk];rfl
 have c2:w2.cell? ⟨w1.heap.size,2,none⟩=some (.int .u8 xc):=by rw [cell_of_row w2 w1.heap.size 2 _ _ _ hbk];rfl
 have c3:w2.cell? ⟨w1.heap.size,3,none⟩=some (.int .u8 xd):=by rw [cell_of_row w2 w1.heap.size 3 _ _ _ hbk];rfl
 have c4:w2.cell? ⟨w1.heap.size,4,none⟩=some (.int .i64 sz):=by rw [cell_of_row w2 w1.heap.size 4 _ _ _ hbk];rfl
 have c5:w2.cell? ⟨w1.heap.size,5,none⟩=some (.int .u8 xf):=by rw [cell_of_row w2 w1.heap.size 5 _ _ _ hbk];rfl
 have HALL:=hide hall;have HEND:=hide hend;clear hb2 hbk hbB hall hend
 by_cases hlt:n<sz
 ·have HST:=hide (HREP.out n hn1 hlt hnl HALL.out (HEND.out.elim (fun h=>absurd h (by omega)) (fun h=>h.2)))
  go_wp2;go_ret2
  exact⟨by rw [HST.out];rfl,HB2.out⟩
 obtain rfl:n=sz:=by omega
 obtain⟨hst,hch⟩:=HFULL.out HALL.out hnl;have HCH:=hide (hch w2 HB2.out);have HST:=hide hst;clear hst hch;go_wp2_with fail;refine HCH.out.mono ?_;rintro e w3 ⟨rfl,hb3⟩;have HB3:=hide (HB2.out.trans (hb3.mono HB2.out.size));clear hb3;go_wp2;go_ret2
 exact⟨by rw [HST.out];rfl,HB3.out⟩
theorem XV (k:Nat):k<9->((k=0∧fA k=0∧fB k=127)∨(k=1∧fA k=194∧fB k=223)∨(k=2∧fA k=224∧fB k=224)∨(k=3∧fA k=225∧fB k=236)∨(k=4∧fA k=237∧fB k=237)∨(k=5∧fA k=238∧fB k=239)∨(k=6∧fA k=240∧fB k=240)∨(k=7∧fA k=241∧fB k=243)∨(k=8∧fA k=244∧fB k=244)):=by
 intro hk
 have hk':k=0∨k=1∨k=2∨k=3∨k=4∨k=5∨k=6∨k=7∨k=8:=by omega
 rcases hk' with rfl | rfl | rfl | rfl | rfl | rfl | rfl | rfl | rfl
 all_goals simp [fA,fB,tA,tB]
theorem jB {a:Int} {k:Nat} (hk:k<9) (h:fA k<=a∧a<=fB k):∀j,j<k->¬ (fA j<=a∧a<=fB j):=by
 intro j hj;have h1:=XV k hk
 have h2:=XV j (by omega)
 omega
theorem zt {lo hi z:Int}:inr lo hi 1 z↔lo<=z∧z<=hi:=by unfold inr;rw [if_pos rfl]
theorem yh {lo hi z:Int}:inr lo hi 2 z↔128<=z∧z<=191:=by unfold inr;rw [if_neg (by omega)]
theorem Ya {lo hi z:Int}:inr lo hi 3 z↔128<=z∧z<=191:=by unfold inr;rw [if_neg (by omega)]
theorem rep2 {bs:List Int} {n:Nat} (hne:bs≠ []) (ha:194<=bs.getD 0 0∧bs.getD 0 0<=223) (h1:1<=n) (h2:n<2) (hl:n<=bs.length) (hend:n=bs.length∨¬inr 128 191 n (bs.getD n 0)):step bs=(65533,n):=by
 obtain rfl:n=1:=by omega
 rcases shape hne with ⟨a,rfl⟩ | ⟨a,b,rfl⟩ | ⟨a,b,c,rfl⟩ | ⟨a,b,c,d,r,rfl⟩
 all_goals
  simp only [List.getD_cons_zero,List.getD_cons_succ,zt]at ha hend
  have e1:¬a<128:=by omega
 ·simp only [step,if_neg e1]
 all_goals
  have e2:¬ (128<=b∧b<=191):=by
   rcases hend with h | h
   ·simp at h
   exact h
  have e3:¬ok3 a b:=by unfold ok3;omega
  have e4:¬ok4 a b:=by unfold ok4;omega
  have e5:¬ ((194<=a∧a<=223)∧128<=b∧b<=191):=fun h=>e2 h.2
 ·simp only [step,if_neg e1,if_neg e5];rw [if_neg (fun h=>h.elim e3 e4)]
 ·simp only [step,if_neg e1,if_neg e5,if_neg e3,if_neg e4]
 simp only [step,if_neg e1,if_neg e5,if_neg e3,if_neg e4]
theorem full2 {bs:List Int} (ha:194<=bs.getD 0 0∧bs.getD 0 0<=223) (hall:∀i,1<=i->i<2->i<bs.length∧inr 128 191 i (bs.getD i 0)):
  ∃a b r,bs=a::b::r∧(194<=a∧a<=223)∧(128<=b∧b<=191)∧step bs=(numZ [a,b],2):=by
 have g1:=hall 1 (by omega) (by omega)
 have hne:bs≠ []:=by rintro rfl;simp at g1
 rcases shape hne with ⟨a,rfl⟩ | ⟨a,b,rfl⟩ | ⟨a,b,c,rfl⟩ | ⟨a,b,c,d,r,rfl⟩
 ·simp at g1
 all_goals
  simp only [List.getD_cons_zero,List.getD_cons_succ,zt]at ha g1
  have e1:¬a<128:=by omega
  exact⟨a,b,_,rfl,ha,g1.2,by simp only [step,if_neg e1];rw [if_pos ⟨ha,g1.2⟩]⟩
theorem rep3 {bs:List Int} {n:Nat} {lo hi:Int} (hb:bytes bs) (hne:bs≠ []) (ha:224<=bs.getD 0 0∧bs.getD 0 0<=239) (hok:∀z,(lo<=z∧z<=hi)↔ok3 (bs.getD 0 0) z) (h1:1<=n) (h2:n<3) (hl:n<=bs.length)
  (hall:∀i,1<=i->i<n->i<bs.length∧inr lo hi i (bs.getD i 0)) (hend:n=bs.length∨¬inr lo hi n (bs.getD n 0)):step bs=(65533,n):=by
 have hn:n=1∨n=2:=by omega
 rcases shape hne with ⟨a,rfl⟩ | ⟨a,b,rfl⟩ | ⟨a,b,c,rfl⟩ | ⟨a,b,c,d,r,rfl⟩
 ·simp only [List.getD_cons_zero]at ha
  have e1:¬a<128:=by omega
  obtain rfl:n=1:=by simp at hl;omega
  simp only [step,if_neg e1]
 all_goals
  simp only [List.getD_cons_zero]at ha hok
  have e1:¬a<128:=by omega
  have e2:¬ ((194<=a∧a<=223)∧128<=b∧b<=191):=by omega
  have e4:¬ok4 a b:=by unfold ok4;omega
  rcases hn with rfl | rfl
 ·have e3:¬ok3 a b:=by
   rcases hend with h | h
   ·simp at h
   simp only [List.getD_cons_succ,List.getD_cons_zero,zt]at h;exact fun g=>h ((hok b).2 g)
  simp only [step,if_neg e1,if_neg e2];rw [if_neg (fun h=>h.elim e3 e4)]
 ·have g:=(hall 1 (by omega) (by omega)).2
  simp only [List.getD_cons_succ,List.getD_cons_zero,zt]at g;have e3:=(hok b).1 g;simp only [step,if_neg e1,if_neg e2];rw [if_pos (.inl e3)]
 ·have e3:¬ok3 a b:=by
   rcases hend with h | h
   ·simp at h
   simp only [List.getD_cons_succ,List.getD_cons_zero,zt]at h;exact fun g=>h ((hok b).2 g)
  simp only [step,if_neg e1,if_neg e2,if_neg e3,if_neg e4]
 ·have g:=(hall 1 (by omega) (by omega)).2
  simp only [List.getD_cons_succ,List.getD_cons_zero,zt]at g;have e3:=(hok b).1 g
  have e5:¬ (128<=c∧c<=191):=by
   rcases hend with h | h
   ·simp at h
   simp only [List.getD_cons_succ,List.getD_cons_zero,yh]at h;exact h
  simp only [step,if_neg e1,if_neg e2,if_pos e3,if_neg e5]
 ·have e3:¬ok3 a b:=by
   rcases hend with h | h
   ·simp at h
   simp only [List.getD_cons_succ,List.getD_cons_zero,zt]at h;exact fun g=>h ((hok b).2 g)
  simp only [step,if_neg e1,if_neg e2,if_neg e3,if_neg e4]
 have g:=(hall 1 (by omega) (by omega)).2
 simp only [List.getD_cons_succ,List.getD_cons_zero,zt]at g;have e3:=(hok b).1 g
 have e5:¬ (128<=c∧c<=191):=by
  rcases hend with h | h
  ·simp at h
  simp only [List.getD_cons_succ,List.getD_cons_zero,yh]at h;exact h
 simp only [step,if_neg e1,if_neg e2,if_pos e3,if_neg e5]
theorem full3 {bs:List Int} {lo hi:Int} (ha:224<=bs.getD 0 0∧bs.getD 0 0<=239) (hok:∀z,(lo<=z∧z<=hi)↔ok3 (bs.getD 0 0) z) (hall:∀i,1<=i->i<3->i<bs.length∧inr lo hi i (bs.getD i 0)):
  ∃a b c r,bs=a::b::c::r∧(224<=a∧a<=239)∧(128<=b∧b<=191)∧(128<=c∧c<=191)∧step bs=(numZ [a,b,c],3):=by
 have g1:=hall 1 (by omega) (by omega)
 have g2:=hall 2 (by omega) (by omega)
 have hne:bs≠ []:=by rintro rfl;simp at g1
 rcases shape hne with ⟨a,rfl⟩ | ⟨a,b,rfl⟩ | ⟨a,b,c,rfl⟩ | ⟨a,b,c,d,r,rfl⟩
 ·simp at g1
 ·simp at g2
 all_goals
  simp only [List.getD_cons_zero,List.getD_cons_succ,zt,yh]at ha g1 g2 hok
  have e1:¬a<128:=by omega
  have e2:¬ ((194<=a∧a<=223)∧128<=b∧b<=191):=by omega
  have e3:=(hok b).1 g1.2
  exact⟨a,b,c,_,rfl,ha,by unfold ok3 at e3;omega,g2.2,by simp only [step,if_neg e1,if_neg e2];rw [if_pos e3,if_pos g2.2]⟩
theorem rep4 {bs:List Int} {n:Nat} {lo hi:Int} (hne:bs≠ []) (ha:240<=bs.getD 0 0∧bs.getD 0 0<=244) (hok:∀z,(lo<=z∧z<=hi)↔ok4 (bs.getD 0 0) z) (h1:1<=n) (h2:n<4) (hl:n<=bs.length)
  (hall:∀i,1<=i->i<n->i<bs.length∧inr lo hi i (bs.getD i 0)) (hend:n=bs.length∨¬inr lo hi n (bs.getD n 0)):step bs=(65533,n):=by
 have hn:n=1∨n=2∨n=3:=by omega
 have no:∀a b:Int,240<=a->¬a<128∧¬ ((194<=a∧a<=223)∧128<=b∧b<=191)∧¬ok3 a b:=fun a b h=>⟨by omega,by omega,by unfold ok3;omega⟩
 rcases shape hne with ⟨a,rfl⟩ | ⟨a,b,rfl⟩ | ⟨a,b,c,rfl⟩ | ⟨a,b,c,d,r,rfl⟩
 ·simp only [List.getD_cons_zero]at ha
  have e1:¬a<128:=by omega
  obtain rfl:n=1:=by simp at hl;omega
  simp only [step,if_neg e1]
 all_goals
  simp only [List.getD_cons_zero]at ha hok;obtain⟨e1,e2,e3⟩:=no a b ha.1
  have k1:∀h:1<n,ok4 a b:=fun h=>by
   have g:=(hall 1 (by omega) h).2
   simp only [List.getD_cons_succ,List.getD_cons_zero,zt]at g;exact(hok b).1 g
 ·rcases hn with rfl | rfl | rfl
  ·have e4:¬ok4 a b:=by
    rcases hend with h | h
    ·simp at h
    simp only [List.getD_cons_succ,List.getD_cons_zero,zt]at h;exact fun g=>h ((hok b).2 g)
   simp only [step,if_neg e1,if_neg e2];rw [if_neg (fun h=>h.elim e3 e4)]
  ·simp only [step,if_neg e1,if_neg e2];rw [if_pos (.inr (k1 (by omega)))]
  simp at hl
 ·rcases hn with rfl | rfl | rfl
  ·have e4:¬ok4 a b:=by
    rcases hend with h | h
    ·simp at h
    simp only [List.getD_cons_succ,List.getD_cons_zero,zt]at h;exact fun g=>h ((hok b).2 g)
   simp only [step,if_neg e1,if_neg e2,if_neg e3,if_neg e4]
  ·have e4:=k1 (by omega)
   have e5:¬ (128<=c∧c<=191):=by
    rcases hend with h | h
    ·simp at h
    simp only [List.getD_cons_succ,List.getD_cons_zero,yh]at h;exact h
   simp only [step,if_neg e1,if_neg e2,if_neg e3,if_pos e4,if_neg e5]
  have e4:=k1 (by omega)
  have e5:=(hall 2 (by omega) (by omega)).2
  simp only [List.getD_cons_succ,List.getD_cons_zero,yh]at e5;simp only [step,if_neg e1,if_neg e2,if_neg e3,if_pos e4,if_pos e5]
 rcases hn with rfl | rfl | rfl
 ·have e4:¬ok4 a b:=by
   rcases hend with h | h
   ·simp at h
   simp only [List.getD_cons_succ,List.getD_cons_zero,zt]at h;exact fun g=>h ((hok b).2 g)
  simp only [step,if_neg e1,if_neg e2,if_neg e3,if_neg e4]
 ·have e4:=k1 (by omega)
  have e5:¬ (128<=c∧c<=191):=by
   rcases hend with h | h
   ·simp at h
   simp only [List.getD_cons_succ,List.getD_cons_zero,yh]at h;exact h
  simp only [step,if_neg e1,if_neg e2,if_neg e3,if_pos e4,if_neg e5]
 have e4:=k1 (by omega)
 have e5:=(hall 2 (by omega) (by omega)).2
 simp only [List.getD_cons_succ,List.getD_cons_zero,yh]at e5
 have e6:¬ (128<=d∧d<=191):=by
  rcases hend with h | h
  ·simp at h
  simp only [List.getD_cons_succ,List.getD_cons_zero,Ya]at h;exact h
 simp only [step,if_neg e1,if_neg e2,if_neg e3,if_pos e4,if_pos e5,if_neg e6]
theorem full4 {bs:List Int} {lo hi:Int} (ha:240<=bs.getD 0 0∧bs.getD 0 0<=244) (hok:∀z,(lo<=z∧z<=hi)↔ok4 (bs.getD 0 0) z) (hall:∀i,1<=i->i<4->i<bs.length∧inr lo hi i (bs.getD i 0)):
  ∃a b c d r,bs=a::b::c::d::r∧(240<=a∧a<=244)∧(128<=b∧b<=191)∧(128<=c∧c<=191)∧(128<=d∧d<=191)∧step bs=(numZ [a,b,c,d],4):=by
 have g1:=hall 1 (by omega) (by omega)
 have g2:=hall 2 (by omega) (by omega)
 have g3:=hall 3 (by omega) (by omega)
 have hne:bs≠ []:=by rintro rfl;simp at g1
 rcases shape hne with ⟨a,rfl⟩ | ⟨a,b,rfl⟩ | ⟨a,b,c,rfl⟩ | ⟨a,b,c,d,r,rfl⟩
 ·simp at g1
 ·simp at g2
 ·simp at g3
 simp only [List.getD_cons_zero,List.getD_cons_succ,zt,yh,Ya]at ha g1 g2 g3 hok
 have e1:¬a<128:=by omega
 have e2:¬ ((194<=a∧a<=223)∧128<=b∧b<=191):=by omega
 have e3:¬ok3 a b:=by unfold ok3;omega
 have e4:=(hok b).1 g1.2
 exact⟨a,b,c,d,r,rfl,ha,by unfold ok4 at e4;omega,g2.2,g3.2,by simp only [step,if_neg e1,if_neg e2,if_neg e3];rw [if_pos e4,if_pos g2.2,if_pos g3.2]⟩
theorem zA6 {bs:List Int} (hne:bs≠ []) (ha:(128<=bs.getD 0 0∧bs.getD 0 0<=193)∨245<=bs.getD 0 0):step bs=(65533,1):=by
 rcases shape hne with ⟨a,rfl⟩ | ⟨a,b,rfl⟩ | ⟨a,b,c,rfl⟩ | ⟨a,b,c,d,r,rfl⟩
 all_goals
  simp only [List.getD_cons_zero]at ha
  have e1:¬a<128:=by omega
 ·simp only [step,if_neg e1]
 all_goals
  have e2:¬ ((194<=a∧a<=223)∧128<=b∧b<=191):=by omega
  have e3:¬ok3 a b:=by unfold ok3;omega
  have e4:¬ok4 a b:=by unfold ok4;omega
 ·simp only [step,if_neg e1,if_neg e2];rw [if_neg (fun h=>h.elim e3 e4)]
 ·simp only [step,if_neg e1,if_neg e2,if_neg e3,if_neg e4]
 simp only [step,if_neg e1,if_neg e2,if_neg e3,if_neg e4]
theorem readRune (bs:List Int) (v:Value) (w:World) (h:Rd .u8 w v bs) (hb:bytes bs) (hT:Tab w) (hne:bs≠ []) (hn:bs.length<=1048576):
  Calls Tryz.prog 113 #[v] w fun e w'=>e= .returned (.tuple #[.int .i32 (step bs).1,.int .i64 (step bs).2])∧Below w.heap.size w w':=by
 have hp:0<bs.length:=List.length_pos_iff.2 hne
 have ha:=hb (bs.getD 0 0) (by rw [List.getD_eq_getElem?_getD,List.getElem?_eq_getElem hp];simp)
 have hrd:=h
 rcases h with ⟨_,_,_,e⟩ | ⟨b0,off,cap,rfl,⟨_,hcp,hcm⟩,hc⟩
 ·exact absurd e hne
 have hcB:b0<w.heap.size:=World.block_lt_of_cell? w _ (hc 0 hp)
 have cell:∀W,Below w.heap.size w W->∀i,i<bs.length->W.cell? ⟨b0,off+i,none⟩=some (.int .u8 (bs.getD i 0)):=fun W hW i hi=>(hW.cell (p:=⟨b0,off+i,none⟩) hcB).trans (hc i hi)
 have cB:∀W,Below w.heap.size w W->b0<W.heap.size:=fun W hW=>Nat.lt_of_lt_of_le hcB hW.size
 have full2':(194<=bs.getD 0 0∧bs.getD 0 0<=223)->∀ (x0 x1 x2 x3:Int),(∀i,1<=i->i<2->i<bs.length∧inr 128 191 i (bs.getD i 0))->(step bs).2=2∧∀W,Below w.heap.size w W->Calls Tryz.prog 132 #[.agg #[.int .u8 x0,.int .u8 x1,.int .u8 x2,.int .u8 x3,.int .i64 2,.int .u8 31],.slice (some ⟨b0,off,none⟩) bs.length cap] W fun e w'=>e= .returned (.int .i32 (step bs).1)∧Below W.heap.size W w':=by
  intro h1 x0 x1 x2 x3 hall;obtain⟨a,b,r,rfl,h2,h3,h4⟩:=full2 h1 hall;rw [h4]
  exact⟨rfl,fun W hW=>XR x0 x1 x2 x3 a b _ cap b0 off W (cB W hW) (by simp) hcp hcm h2 h3 (cell W hW 0 (by simp)) (cell W hW 1 (by simp))⟩
 have full3':∀ (lo hi:Int),(224<=bs.getD 0 0∧bs.getD 0 0<=239)->(∀z,(lo<=z∧z<=hi)↔ok3 (bs.getD 0 0) z)->∀ (x0 x1 x2 x3:Int),(∀i,1<=i->i<3->i<bs.length∧inr lo hi i (bs.getD i 0))->(step bs).2=3∧∀W,Below w.heap.size w W->Calls Tryz.prog 132 #[.agg #[.int .u8 x0,.int .u8 x1,.int .u8 x2,.int .u8 x3,.int .i64 3,.int .u8 15],.slice (some ⟨b0,off,none⟩) bs.length cap] W fun e w'=>e= .returned (.int .i32 (step bs).1)∧Below W.heap.size W w':=by
  intro lo hi h1 hok x0 x1 x2 x3 hall;obtain⟨a,b,c,r,rfl,h2,h3,h4,h5⟩:=full3 h1 hok hall;rw [h5]
  exact⟨rfl,fun W hW=>XS x0 x1 x2 x3 a b c _ cap b0 off W (cB W hW) (by simp) hcp hcm h2 h3 h4 (cell W hW 0 (by simp)) (cell W hW 1 (by simp)) (cell W hW 2 (by simp))⟩
 have full4':∀ (lo hi:Int),(240<=bs.getD 0 0∧bs.getD 0 0<=244)->(∀z,(lo<=z∧z<=hi)↔ok4 (bs.getD 0 0) z)->∀ (x0 x1 x2 x3:Int),(∀i,1<=i->i<4->i<bs.length∧inr lo hi i (bs.getD i 0))->(step bs).2=4∧∀W,Below w.heap.size w W->Calls Tryz.prog 132 #[.agg #[.int .u8 x0,.int .u8 x1,.int .u8 x2,.int .u8 x3,.int .i64 4,.int .u8 7],.slice (some ⟨b0,off,none⟩) bs.length cap] W fun e w'=>e= .returned (.int .i32 (step bs).1)∧Below W.heap.size W w':=by
  intro lo hi h1 hok x0 x1 x2 x3 hall;obtain⟨a,b,c,d,r,rfl,h2,h3,h4,h5,h6⟩:=full4 h1 hok hall;rw [h6]
  exact⟨rfl,fun W hW=>XT x0 x1 x2 x3 a b c d _ cap b0 off W (cB W hW) (by simp) hcp hcm h2 h3 h4 h5 (cell W hW 0 (by simp)) (cell W hW 1 (by simp)) (cell W hW 2 (by simp)) (cell W hW 3 (by simp))⟩
 by_cases q0:0<=bs.getD 0 0∧bs.getD 0 0<=127
 ·have hh:fA 0<=bs.getD 0 0∧bs.getD 0 0<=fB 0:=q0
  refine zh 0 1 (by omega) rfl (by omega) bs _ w hrd hT hne hn hh (jB (by omega) hh) ?_ ?_
  ·intro n h1 h2;omega
  intro _ _
  cases bs with
  | nil=>exact absurd rfl hne
  | cons a r=>
   simp only [List.getD_cons_zero]at q0
   have e:step (a::r)=(a,1):=XU (by omega)
   rw [e]
   exact⟨rfl,fun W hW=>XQ _ _ _ _ a _ cap b0 off W (cB W hW) (by simp) hcp hcm q0 (cell W hW 0 (by simp))⟩
 by_cases q1:194<=bs.getD 0 0∧bs.getD 0 0<=223
 ·have hh:fA 1<=bs.getD 0 0∧bs.getD 0 0<=fB 1:=q1
  refine zh 1 2 (by omega) rfl (by omega) bs _ w hrd hT hne hn hh (jB (by omega) hh) ?_ ?_
  ·intro n h1 h2 hl _ hend;exact rep2 hne q1 h1 h2 hl hend
  intro hall _;exact full2' q1 _ _ _ _ hall
 by_cases q2:224<=bs.getD 0 0∧bs.getD 0 0<=224
 ·have hh:fA 2<=bs.getD 0 0∧bs.getD 0 0<=fB 2:=q2
  refine zh 2 3 (by omega) rfl (by omega) bs _ w hrd hT hne hn hh (jB (by omega) hh) ?_ ?_
  ·intro n h1 h2 hl hall hend;exact rep3 hb hne (by omega) (lo:=160) (hi:=191) (fun z=>by unfold ok3;omega) h1 h2 hl hall hend
  intro hall _;exact full3' 160 191 (by omega) (fun z=>by unfold ok3;omega) _ _ _ _ hall
 by_cases q3:225<=bs.getD 0 0∧bs.getD 0 0<=236
 ·have hh:fA 3<=bs.getD 0 0∧bs.getD 0 0<=fB 3:=q3
  refine zh 3 3 (by omega) rfl (by omega) bs _ w hrd hT hne hn hh (jB (by omega) hh) ?_ ?_
  ·intro n h1 h2 hl hall hend;exact rep3 hb hne (by omega) (lo:=128) (hi:=191) (fun z=>by unfold ok3;omega) h1 h2 hl hall hend
  intro hall _;exact full3' 128 191 (by omega) (fun z=>by unfold ok3;omega) _ _ _ _ hall
 by_cases q4:237<=bs.getD 0 0∧bs.getD 0 0<=237
 ·have hh:fA 4<=bs.getD 0 0∧bs.getD 0 0<=fB 4:=q4
  refine zh 4 3 (by omega) rfl (by omega) bs _ w hrd hT hne hn hh (jB (by omega) hh) ?_ ?_
  ·intro n h1 h2 hl hall hend;exact rep3 hb hne (by omega) (lo:=128) (hi:=159) (fun z=>by unfold ok3;omega) h1 h2 hl hall hend
  intro hall _;exact full3' 128 159 (by omega) (fun z=>by unfold ok3;omega) _ _ _ _ hall
 by_cases q5:238<=bs.getD 0 0∧bs.getD 0 0<=239
 ·have hh:fA 5<=bs.getD 0 0∧bs.getD 0 0<=fB 5:=q5
  refine zh 5 3 (by omega) rfl (by omega) bs _ w hrd hT hne hn hh (jB (by omega) hh) ?_ ?_
  ·intro n h1 h2 hl hall hend;exact rep3 hb hne (by omega) (lo:=128) (hi:=191) (fun z=>by unfold ok3;omega) h1 h2 hl hall hend
  intro hall _;exact full3' 128 191 (by omega) (fun z=>by unfold ok3;omega) _ _ _ _ hall
 by_cases q6:240<=bs.getD 0 0∧bs.getD 0 0<=240
 ·have hh:fA 6<=bs.getD 0 0∧bs.getD 0 0<=fB 6:=q6
  refine zh 6 4 (by omega) rfl (by omega) bs _ w hrd hT hne hn hh (jB (by omega) hh) ?_ ?_
  ·intro n h1 h2 hl hall hend;exact rep4 hne (by omega) (lo:=144) (hi:=191) (fun z=>by unfold ok4;omega) h1 h2 hl hall hend
  intro hall _;exact full4' 144 191 (by omega) (fun z=>by unfold ok4;omega) _ _ _ _ hall
 by_cases q7:241<=bs.getD 0 0∧bs.getD 0 0<=243
 ·have hh:fA 7<=bs.getD 0 0∧bs.getD 0 0<=fB 7:=q7
  refine zh 7 4 (by omega) rfl (by omega) bs _ w hrd hT hne hn hh (jB (by omega) hh) ?_ ?_
  ·intro n h1 h2 hl hall hend;exact rep4 hne (by omega) (lo:=128) (hi:=191) (fun z=>by unfold ok4;omega) h1 h2 hl hall hend
  intro hall _;exact full4' 128 191 (by omega) (fun z=>by unfold ok4;omega) _ _ _ _ hall
 by_cases q8:244<=bs.getD 0 0∧bs.getD 0 0<=244
 ·have hh:fA 8<=bs.getD 0 0∧bs.getD 0 0<=fB 8:=q8
  refine zh 8 4 (by omega) rfl (by omega) bs _ w hrd hT hne hn hh (jB (by omega) hh) ?_ ?_
  ·intro n h1 h2 hl hall hend;exact rep4 hne (by omega) (lo:=128) (hi:=143) (fun z=>by unfold ok4;omega) h1 h2 hl hall hend
  intro hall _;exact full4' 128 143 (by omega) (fun z=>by unfold ok4;omega) _ _ _ _ hall
 refine YX bs _ w hrd hT hne hn (fun j hj hh=>?_) (zA6 hne (by omega))
 have:=XV j hj;omega
end Go.Proofs.YtibbhecojkehfaaGreatDoor
