import Derived.Test.YtmjanhcplcalfaaGreatDoorMq26
set_option linter.all false
set_option maxRecDepth 100000
set_option maxHeartbeats 8000000
namespace Go.Proofs.YtmjanhcplcalfaaGreatDoor
open Go Go.RowKit Go.Proofs.Tryz
theorem brB {bo:List Int} {ao:Option Addr} {cap:Nat} {cj:Value} {w x:World} {L D b8 b9 ck ca cb i1 i2 bp bq M br bs N cc cd bj ce cf bk:Nat} {tx a6 a7 am an:List Int} {u39 u40 u41 u42 u43 u44 u45 u46 u47 u48 u49 u50 u51 u52 u53 u54 u55 u56 u57 u58 u59 u60 u61 u62 u63 u64 u65 u66 u67 u68 u69 u70 u71 u72 u73 u74 u75 u76 u77 u78 u79 u80 u81 u82 u83 u84 u85 u86 u87 u88 u89 u90 u91 u92 u93 u94 u95 u96 u97 u98 u99 u100 u101 u102 u103 u104 u105 u106 u107 u108 u109 u110 u111 u112 u113 u114 u115 u116 u117 u118 u119 u120 u121 u122 u123 u124 u125 u126 u127 u128 u129 u130 u131 u132 u133 u134 u135 u136 u137 u138 u139 u140 u141 u142 u143 u144 u145 u146 u147 u148 u149 u150 u151 u152 u153 u154 u155 u156 u157 u158 u159 u160 u161 u162 u163 u164 u165 u166 u167 u168 u169 u170 u171 u172 u173 u174 u175 u176 u177 u178 u179 u180 u181 u182 u183 u184 u185 u186 u187 u188 u189 u190 u191 u192 u193 u194 u195 u196 u197 u198 u199 u200 u201 u202 u203 u204 u205 u206 u207 u208 u209 u210 u211 u212 u213 u214 u215 u216 u217 u218 u219 u220 u221 u222 u223 u224 u225 u226 u227 u228 u229 u230 u231 u232 u233 u234 u235 u236 u237 u238 u239 u240 u241 u242 u243 u244 u245 u246 u247 u248 u249 u250 u251 u252 u253 u254 u255 u256 u257 u258 u259 u260 u261 u262 u263 u264 u265 u266 u267 u268 u269 u270 u271 u272 u273 u274 u275 u276 u277 u278 u279 u280 u281 u282 u283 u284 u285 u286 u287 u288 u289 u290 u291 u292 u293 u294:Value} (S:Hid (An (Bw w D) (An (Ro D ce bk cf an) (An (Ro D cc bj cd am) (An (Ro D br N bs a7) (An (Ro D bp M bq a6) (An (Lx D b9 tx) (An (Ro D ca L cb tx) (Px D b8 tx 400))))))) x)) (cg:Hid (SrcB bo (.slice ao bo.length cap) w.heap.size x)) (cl:bo.length<=1048576) (cm:L<=5080) (bl:w.heap.size<D) (cn:i1<=L) (co:i2<=L) (b0:0<M∧M<=9) (b1:0<N∧N<=9) (cp:L<=bj∧bj<=L+9∧0<bj) (cq:L<=bk∧bk<=L+9∧0<bk) (ap:Hid (∀b7,Below w.heap.size w b7->b7.cell? ⟨0,0,none⟩=some (.iface 184 (.agg #[.pointer (qK 1 67)])))) (O:Hid (tx.length=L)) (aq:Hid (a6.length=M)) (ar:Hid (a7.length=N)) (bm:Hid (am.length=bj)) (bn:Hid (an.length=bk)) (a8:Hid (am=tx.take i1++(a6++tx.drop i1))) (a9:Hid (an=tx.take i2++(a7++tx.drop i2))):
  Code.wp prog (sufB 16) (bodyPost prog Tryz.f3 fun e w'=>e= .returned (.bool true)∧Below w.heap.size w w') ⟨#[.slice ao bo.length cap,cj,undef,undef,.bool false,.pointer (qK w.heap.size 0),.pointer (qK ck 0),.pointer (qK b8 0),.slice (qK ca 0) L cb,.pointer (qK b9 0),qJ 0,qJ i1,qJ i2,.slice (qK bp 0) M bq,.slice (qK br 0) N bs,.slice (qK cc 0) bj cd,.slice (qK ce 0) bk cf,undef,undef,undef,undef,undef,undef,undef,undef,undef,undef,undef,undef,undef,undef,undef,undef,undef,undef,undef,undef,undef,undef,u39,u40,u41,u42,u43,u44,u45,u46,u47,u48,u49,u50,u51,u52,u53,u54,u55,u56,u57,u58,u59,u60,u61,u62,u63,u64,u65,u66,u67,u68,u69,u70,u71,u72,u73,u74,u75,u76,u77,u78,u79,u80,u81,u82,u83,u84,u85,u86,u87,u88,u89,u90,u91,u92,u93,u94,u95,u96,u97,u98,u99,u100,u101,u102,u103,u104,u105,u106,u107,u108,u109,u110,u111,u112,u113,u114,u115,u116,u117,u118,u119,u120,u121,u122,u123,u124,u125,u126,u127,u128,u129,u130,u131,u132,u133,u134,u135,u136,u137,u138,u139,u140,u141,u142,u143,u144,u145,u146,u147,u148,u149,u150,u151,u152,u153,u154,u155,u156,u157,u158,u159,u160,u161,u162,u163,u164,u165,u166,u167,u168,u169,u170,u171,u172,u173,u174,u175,u176,u177,u178,u179,u180,u181,u182,u183,u184,u185,u186,u187,u188,u189,u190,u191,u192,u193,u194,u195,u196,u197,u198,u199,u200,u201,u202,u203,u204,u205,u206,u207,u208,u209,u210,u211,u212,u213,u214,u215,u216,u217,u218,u219,u220,u221,u222,u223,u224,u225,u226,u227,u228,u229,u230,u231,u232,u233,u234,u235,u236,u237,u238,u239,u240,u241,u242,u243,u244,u245,u246,u247,u248,u249,u250,u251,u252,u253,u254,u255,u256,u257,u258,u259,u260,u261,u262,u263,u264,u265,u266,u267,u268,u269,u270,u271,u272,u273,u274,u275,u276,u277,u278,u279,u280,u281,u282,u283,u284,u285,u286,u287,u288,u289,u290,u291,u292,u293,u294],[]⟩ x:=by
 conv=>arg 2;whnf
 dsimp only;obtain⟨az,au⟩:∃q,q=x:=⟨_,rfl⟩
 subst au;have av:=S;clear S;have bt:=cg;clear cg;obtain⟨V,W,X,Y,Z,aa,C⟩:=av.2.2.2.2.2.2.2;obtain⟨ab,ac⟩:=C.k.c;have a3:=C.k.lt;have F:=qG C;have G:=qG av.2.2.2.2.1.1;have H:=qG av.1.1;have P:=qG (fun(m:World) (ba:PV m D V W X Y Z aa tx 400) (bc bd be:Nat) (ht:own32 m be (.slice (qK bc 0) M bd) a6) (s:Below w.heap.size w m)=>pxI (off:=i1) (wt:=am) ba ht aq b0.1 (by rw [O.out];omega) (by rw [O.out];omega) (by omega) a8 (ap m s));have I:=qG (fun(m:World) (g c base:Nat) (bf:own32 m base (.slice (qK g 0) M c) a6)=>cpK aq bf (by omega));clear C;go_upto_region 16 with fail;go_cut [17,18] (fun a4 a5 wc=>∃U,a4= .pointer (qK U 0)∧a5=qJ 0∧Px az.heap.size U am (400+M) wc∧Below az.heap.size az wc)
 case first=>
  as_aux_lemma=>
   clear av bt O ap bm bn a8 a9 aq ar;refine(kD (n:=6)).1 ?_;refine ZD (fun y=>Below az.heap.size az y) (by kernel_rfl) ?_;refine tk 1 (qJ i1) ?_ ?_
   ·intro y l;go_simp
   go_simp;refine tk 2 (.slice (qK bp 0) M bq) ?_ ?_
   ·intro y l;go_simp
   go_simp;refine tk 0 (.agg #[.slice (qK V 0) W X,.slice Y Z aa]) ?_ ?_
   ·intro y l;(obtain⟨b2,b3⟩:=(F.below l).k.c;go_simp)
   go_simp;obtain⟨t,K⟩:∃y,y=az.drew:=⟨_,rfl⟩
   rw [<- K];have i:=qG (show Below az.heap.size az t from by rw [K];exact zT rfl rfl rfl rfl);clear K ab ac;refine tw 3 8 i ?a16 ?b16
   case' a16=>
    gi_wp2_with fail;refine⟨xn,(xf.2 (I _ _ _ _ (zB G i lR))).mono ?_⟩;rintro e u ⟨bg,bh,rfl,v,o⟩;have b:=qG (i.trans (o.mono i.size));have p:=qG v;clear v o;gi_wp2_with fail;refine tw 4 8 b ?_ ?c16
    case' c16=>
     gi_wp2_with fail;have j:=qG (D2.new u (.slice none 0 0) (.slice none 0 0) 30);have k:=(qO u.heap.size u).alloc lR (.cells #[.slice none 0 0,.slice none 0 0] 30);have f:=qG (b.trans (k.mono b.size));have h:=b.size;obtain⟨bi,A⟩:∃z,z=u.alloc (.cells #[.slice none 0 0,.slice none 0 0] 30):=⟨_,rfl⟩
     have Q:=qG (zB p k lR);rw [<- A]at j f Q |-;clear k A b p;have b:=f;have p:=Q;have E:=j;refine on 4 b ?_
   case' b16=>
    gi_wp2_with fail;have j:=qG (D2.new t (.slice none 0 0) (.slice none 0 0) 30);have k:=(qO t.heap.size t).alloc lR (.cells #[.slice none 0 0,.slice none 0 0] 30);have f:=qG (i.trans (k.mono i.size));have h:=i.size;obtain⟨bi,A⟩:∃z,z=t.alloc (.cells #[.slice none 0 0,.slice none 0 0] 30):=⟨_,rfl⟩
    rw [<- A]at j f |-;clear k A;refine on 3 f ?_;gi_wp2_with fail;refine⟨xn,(xf.2 (I _ _ _ _ (zB G f lR))).mono ?_⟩;rintro e u ⟨bg,bh,rfl,v,o⟩;have b:=qG (f.trans (o.mono f.size));have p:=qG v;have E:=qG (j.below o j.lt);clear v o;gi_wp2_with fail;refine on 4 b ?_
   all_goals
    have J:=b.size;gi_wp2_with fail;refine⟨xn,(xf.2 (P _ (F.v.below b) _ _ _ p (H.trans (b.mono H.size)))).mono ?_⟩;rintro e b4 ⟨ad,ae,af,ag,ah,ai,rfl,aj,ak⟩;have d:=qG (b.trans (ak.mono J));have R:=qG aj;have r:=d.size;clear aj;gi_wp2_with fail;refine tk 5 (.tuple #[.agg #[.slice (qK ad 0) ae af,.slice ag ah ai],qJ 0]) ?_ ?_
    ·intro y l;go_simp
    go_simp;refine tk 6 (.agg #[.slice (qK ad 0) ae af,.slice ag ah ai]) ?_ ?_
    ·intro y l;go_simp
    go_simp;refine tk 7 (qJ 0) ?_ ?_
    ·intro y l;go_simp
    go_simp
    first
     | (have B:=qG (E.below ak E.lt);obtain⟨b5,b6⟩:=B.c;have bu:=B.fz 0;have bv:=B.fz 1;refine on 9 d ?_;gi_wp2_with fail;refine on 10 ((d.setCell h _).setCell h _) ?_;gi_wp2_with fail;refine doneC (by kernel_rfl) ((d.setCell h _).setCell h _) ?_ _;gi_wp2_with fail;go_meet;exact⟨_,rfl,rfl,⟨_,_,_,_,_,_,PX.set B R J h⟩,(d.setCell h _).setCell h _⟩)
     | (refine on 8 d ?_;gi_wp2_with fail;refine on 9 (d.alloc r _) ?_;gi_wp2_with fail;refine on 10 (d.alloc r _) ?_;gi_wp2_with fail;refine doneC (by kernel_rfl) (d.alloc r _) ?_ _;gi_wp2_with fail;go_meet;exact⟨_,rfl,rfl,⟨_,_,_,_,_,_,PX.new R J r⟩,d.alloc r _⟩)
 obtain⟨a0,au⟩:∃q,q=wc:=⟨_,rfl⟩
 subst au;obtain⟨cr,rfl,rfl,al,s⟩:=hcut;have T:=qG (al.up (D:=D) av.1.2);clear al ab ac a3 F G H P I;have bw:=goA bt av bl s;have aw:=goN (q:=Px D cr am (400+M)) (goS av s) (T);clear s av bt;clear T;obtain⟨V,W,X,Y,Z,aa,C⟩:=aw.2.2.2.2.2.2.2.2;obtain⟨ab,ac⟩:=C.k.c;have a3:=C.k.lt;have F:=qG C;have G:=qG aw.2.2.2.2.1.1;have H:=qG aw.1.1;have P:=qG (fun(m:World) (ba:PV m D V W X Y Z aa tx 400) (bc bd be:Nat) (ht:own32 m be (.slice (qK bc 0) N bd) a7) (s:Below w.heap.size w m)=>pxI (off:=i2) (wt:=an) ba ht ar b1.1 (by rw [O.out];omega) (by rw [O.out];omega) (by omega) a9 (ap m s));have I:=qG (fun(m:World) (g c base:Nat) (bf:own32 m base (.slice (qK g 0) N c) a7)=>cpK ar bf (by omega));clear C;go_upto_region 17 with fail;go_cut [19,20] (fun a4 a5 wc=>∃U,a4= .pointer (qK U 0)∧a5=qJ 0∧Px a0.heap.size U an (400+N) wc∧Below a0.heap.size a0 wc)
 case first=>
  as_aux_lemma=>
   clear aw bw O ap bm bn a8 a9 aq ar;refine(kD (n:=6)).1 ?_;refine ZD (fun y=>Below a0.heap.size a0 y) (by kernel_rfl) ?_;refine tk 1 (qJ i2) ?_ ?_
   ·intro y l;go_simp
   go_simp;refine tk 2 (.slice (qK br 0) N bs) ?_ ?_
   ·intro y l;go_simp
   go_simp;refine tk 0 (.agg #[.slice (qK V 0) W X,.slice Y Z aa]) ?_ ?_
   ·intro y l;(obtain⟨b2,b3⟩:=(F.below l).k.c;go_simp)
   go_simp;obtain⟨t,K⟩:∃y,y=a0.drew:=⟨_,rfl⟩
   rw [<- K];have i:=qG (show Below a0.heap.size a0 t from by rw [K];exact zT rfl rfl rfl rfl);clear K ab ac;refine tw 3 8 i ?a17 ?b17
   case' a17=>
    gi_wp2_with fail;refine⟨xn,(xf.2 (I _ _ _ _ (zB G i lR))).mono ?_⟩;rintro e u ⟨bg,bh,rfl,v,o⟩;have b:=qG (i.trans (o.mono i.size));have p:=qG v;clear v o;gi_wp2_with fail;refine tw 4 8 b ?_ ?c17
    case' c17=>
     gi_wp2_with fail;have j:=qG (D2.new u (.slice none 0 0) (.slice none 0 0) 30);have k:=(qO u.heap.size u).alloc lR (.cells #[.slice none 0 0,.slice none 0 0] 30);have f:=qG (b.trans (k.mono b.size));have h:=b.size;obtain⟨bi,A⟩:∃z,z=u.alloc (.cells #[.slice none 0 0,.slice none 0 0] 30):=⟨_,rfl⟩
     have Q:=qG (zB p k lR);rw [<- A]at j f Q |-;clear k A b p;have b:=f;have p:=Q;have E:=j;refine on 4 b ?_
   case' b17=>
    gi_wp2_with fail;have j:=qG (D2.new t (.slice none 0 0) (.slice none 0 0) 30);have k:=(qO t.heap.size t).alloc lR (.cells #[.slice none 0 0,.slice none 0 0] 30);have f:=qG (i.trans (k.mono i.size));have h:=i.size;obtain⟨bi,A⟩:∃z,z=t.alloc (.cells #[.slice none 0 0,.slice none 0 0] 30):=⟨_,rfl⟩
    rw [<- A]at j f |-;clear k A;refine on 3 f ?_;gi_wp2_with fail;refine⟨xn,(xf.2 (I _ _ _ _ (zB G f lR))).mono ?_⟩;rintro e u ⟨bg,bh,rfl,v,o⟩;have b:=qG (f.trans (o.mono f.size));have p:=qG v;have E:=qG (j.below o j.lt);clear v o;gi_wp2_with fail;refine on 4 b ?_
   all_goals
    have J:=b.size;gi_wp2_with fail;refine⟨xn,(xf.2 (P _ (F.v.below b) _ _ _ p (H.trans (b.mono H.size)))).mono ?_⟩;rintro e b4 ⟨ad,ae,af,ag,ah,ai,rfl,aj,ak⟩;have d:=qG (b.trans (ak.mono J));have R:=qG aj;have r:=d.size;clear aj;gi_wp2_with fail;refine tk 5 (.tuple #[.agg #[.slice (qK ad 0) ae af,.slice ag ah ai],qJ 0]) ?_ ?_
    ·intro y l;go_simp
    go_simp;refine tk 6 (.agg #[.slice (qK ad 0) ae af,.slice ag ah ai]) ?_ ?_
    ·intro y l;go_simp
    go_simp;refine tk 7 (qJ 0) ?_ ?_
    ·intro y l;go_simp
    go_simp
    first
     | (have B:=qG (E.below ak E.lt);obtain⟨b5,b6⟩:=B.c;have bu:=B.fz 0;have bv:=B.fz 1;refine on 9 d ?_;gi_wp2_with fail;refine on 10 ((d.setCell h _).setCell h _) ?_;gi_wp2_with fail;refine doneC (by kernel_rfl) ((d.setCell h _).setCell h _) ?_ _;gi_wp2_with fail;go_meet;exact⟨_,rfl,rfl,⟨_,_,_,_,_,_,PX.set B R J h⟩,(d.setCell h _).setCell h _⟩)
     | (refine on 8 d ?_;gi_wp2_with fail;refine on 9 (d.alloc r _) ?_;gi_wp2_with fail;refine on 10 (d.alloc r _) ?_;gi_wp2_with fail;refine doneC (by kernel_rfl) (d.alloc r _) ?_ _;gi_wp2_with fail;go_meet;exact⟨_,rfl,rfl,⟨_,_,_,_,_,_,PX.new R J r⟩,d.alloc r _⟩)
 obtain⟨a1,au⟩:∃q,q=wc:=⟨_,rfl⟩
 subst au;obtain⟨cs,rfl,rfl,al,s⟩:=hcut;have T:=qG (al.up (D:=D) aw.1.2);clear al ab ac a3 F G H P I;have bx:=goA bw aw bl s;have ax:=goN (q:=Px D cs an (400+N)) (goS aw s) (T);clear s aw bw;clear T;obtain⟨V,W,X,Y,Z,aa,C⟩:=ax.2.2.2.2.2.2.2.1;obtain⟨ab,ac⟩:=C.k.c;have a3:=C.k.lt;have F:=qG C;have G:=qG ax.2.2.2.2.2.2.1.1;have H:=qG ax.1.1;have P:=qG (fun(m:World) (ba:LQ m D V W X Y Z aa tx) (bc bd be:Nat) (ht:own32 m be (.slice (qK bc 0) M bd) a6) (s:Below w.heap.size w m)=>lxI (off:=i1) (wt:=am) ba ht aq b0.1 (by rw [O.out];omega) (by rw [O.out];omega) a8 (ap m s));have I:=qG (fun(m:World) (g c base:Nat) (bf:own32 m base (.slice (qK g 0) M c) a6)=>cpK aq bf (by omega));clear C;go_upto_region 18 with fail;go_cut [21,22] (fun a4 a5 wc=>∃U,a4= .pointer (qK U 0)∧a5=qJ 0∧Lx a1.heap.size U am wc∧Below a1.heap.size a1 wc)
 case first=>
  as_aux_lemma=>
   clear ax bx O ap bm bn a8 a9 aq ar;refine(kD (n:=6)).1 ?_;refine ZD (fun y=>Below a1.heap.size a1 y) (by kernel_rfl) ?_;refine tk 1 (qJ i1) ?_ ?_
   ·intro y l;go_simp
   go_simp;refine tk 2 (.slice (qK bp 0) M bq) ?_ ?_
   ·intro y l;go_simp
   go_simp;refine tk 0 (.agg #[.slice V W X,.slice Y Z aa]) ?_ ?_
   ·intro y l;(obtain⟨b2,b3⟩:=(F.below l).k.c;go_simp)
   go_simp;obtain⟨t,K⟩:∃y,y=a1.drew:=⟨_,rfl⟩
   rw [<- K];have i:=qG (show Below a1.heap.size a1 t from by rw [K];exact zT rfl rfl rfl rfl);clear K ab ac;refine tw 3 8 i ?a18 ?b18
   case' a18=>
    gi_wp2_with fail;refine⟨xn,(xf.2 (I _ _ _ _ (zB G i lR))).mono ?_⟩;rintro e u ⟨bg,bh,rfl,v,o⟩;have b:=qG (i.trans (o.mono i.size));have p:=qG v;clear v o;gi_wp2_with fail;refine tw 4 8 b ?_ ?c18
    case' c18=>
     gi_wp2_with fail;have j:=qG (D2.new u (.slice none 0 0) (.slice none 0 0) 36);have k:=(qO u.heap.size u).alloc lR (.cells #[.slice none 0 0,.slice none 0 0] 36);have f:=qG (b.trans (k.mono b.size));have h:=b.size;obtain⟨bi,A⟩:∃z,z=u.alloc (.cells #[.slice none 0 0,.slice none 0 0] 36):=⟨_,rfl⟩
     have Q:=qG (zB p k lR);rw [<- A]at j f Q |-;clear k A b p;have b:=f;have p:=Q;have E:=j;refine on 4 b ?_
   case' b18=>
    gi_wp2_with fail;have j:=qG (D2.new t (.slice none 0 0) (.slice none 0 0) 36);have k:=(qO t.heap.size t).alloc lR (.cells #[.slice none 0 0,.slice none 0 0] 36);have f:=qG (i.trans (k.mono i.size));have h:=i.size;obtain⟨bi,A⟩:∃z,z=t.alloc (.cells #[.slice none 0 0,.slice none 0 0] 36):=⟨_,rfl⟩
    rw [<- A]at j f |-;clear k A;refine on 3 f ?_;gi_wp2_with fail;refine⟨xn,(xf.2 (I _ _ _ _ (zB G f lR))).mono ?_⟩;rintro e u ⟨bg,bh,rfl,v,o⟩;have b:=qG (f.trans (o.mono f.size));have p:=qG v;have E:=qG (j.below o j.lt);clear v o;gi_wp2_with fail;refine on 4 b ?_
   all_goals
    have J:=b.size;gi_wp2_with fail;refine⟨xn,(xf.2 (P _ (F.v.below b) _ _ _ p (H.trans (b.mono H.size)))).mono ?_⟩;rintro e b4 ⟨ad,ae,af,ag,ah,ai,rfl,aj,ak⟩;have d:=qG (b.trans (ak.mono J));have R:=qG aj;have r:=d.size;clear aj;gi_wp2_with fail;refine tk 5 (.tuple #[.agg #[.slice ad ae af,.slice ag ah ai],qJ 0]) ?_ ?_
    ·intro y l;go_simp
    go_simp;refine tk 6 (.agg #[.slice ad ae af,.slice ag ah ai]) ?_ ?_
    ·intro y l;go_simp
    go_simp;refine tk 7 (qJ 0) ?_ ?_
    ·intro y l;go_simp
    go_simp
    first
     | (have B:=qG (E.below ak E.lt);obtain⟨b5,b6⟩:=B.c;have bu:=B.fz 0;have bv:=B.fz 1;refine on 9 d ?_;gi_wp2_with fail;refine on 10 ((d.setCell h _).setCell h _) ?_;gi_wp2_with fail;refine doneC (by kernel_rfl) ((d.setCell h _).setCell h _) ?_ _;gi_wp2_with fail;go_meet;exact⟨_,rfl,rfl,⟨_,_,_,_,_,_,LX.set B R J h E.lt⟩,(d.setCell h _).setCell h _⟩)
     | (refine on 8 d ?_;gi_wp2_with fail;refine on 9 (d.alloc r _) ?_;gi_wp2_with fail;refine on 10 (d.alloc r _) ?_;gi_wp2_with fail;refine doneC (by kernel_rfl) (d.alloc r _) ?_ _;gi_wp2_with fail;go_meet;exact⟨_,rfl,rfl,⟨_,_,_,_,_,_,LX.new R J r⟩,d.alloc r _⟩)
 obtain⟨a2,au⟩:∃q,q=wc:=⟨_,rfl⟩
 subst au;obtain⟨ct,rfl,rfl,al,s⟩:=hcut;have T:=qG (al.up (D:=D) ax.1.2);clear al ab ac a3 F G H P I;have bz:=goA bx ax bl s;have ay:=goN (q:=Lx D ct am) (goS ax s) (T);clear s ax bx;clear T;obtain⟨V,W,X,Y,Z,aa,C⟩:=ay.2.2.2.2.2.2.2.2.1;obtain⟨ab,ac⟩:=C.k.c;have a3:=C.k.lt;have F:=qG C;have G:=qG ay.2.2.2.2.2.2.1.1;have H:=qG ay.1.1;have P:=qG (fun(m:World) (ba:LQ m D V W X Y Z aa tx) (bc bd be:Nat) (ht:own32 m be (.slice (qK bc 0) N bd) a7) (s:Below w.heap.size w m)=>lxI (off:=i2) (wt:=an) ba ht ar b1.1 (by rw [O.out];omega) (by rw [O.out];omega) a9 (ap m s));have I:=qG (fun(m:World) (g c base:Nat) (bf:own32 m base (.slice (qK g 0) N c) a7)=>cpK ar bf (by omega));clear C;go_upto_region 19 with fail;go_cut [23,24] (fun a4 a5 wc=>∃U,a4= .pointer (qK U 0)∧a5=qJ 0∧Lx a2.heap.size U an wc∧Below a2.heap.size a2 wc)
 case first=>
  as_aux_lemma=>
   clear ay bz O ap bm bn a8 a9 aq ar;refine(kD (n:=6)).1 ?_;refine ZD (fun y=>Below a2.heap.size a2 y) (by kernel_rfl) ?_;refine tk 1 (qJ i2) ?_ ?_
   ·intro y l;go_simp
   go_simp;refine tk 2 (.slice (qK br 0) N bs) ?_ ?_
   ·intro y l;go_simp
   go_simp;refine tk 0 (.agg #[.slice V W X,.slice Y Z aa]) ?_ ?_
   ·intro y l;(obtain⟨b2,b3⟩:=(F.below l).k.c;go_simp)
   go_simp;obtain⟨t,K⟩:∃y,y=a2.drew:=⟨_,rfl⟩
   rw [<- K];have i:=qG (show Below a2.heap.size a2 t from by rw [K];exact zT rfl rfl rfl rfl);clear K ab ac;refine tw 3 8 i ?a19 ?b19
   case' a19=>
    gi_wp2_with fail;refine⟨xn,(xf.2 (I _ _ _ _ (zB G i lR))).mono ?_⟩;rintro e u ⟨bg,bh,rfl,v,o⟩;have b:=qG (i.trans (o.mono i.size));have p:=qG v;clear v o;gi_wp2_with fail;refine tw 4 8 b ?_ ?c19
    case' c19=>
     gi_wp2_with fail;have j:=qG (D2.new u (.slice none 0 0) (.slice none 0 0) 36);have k:=(qO u.heap.size u).alloc lR (.cells #[.slice none 0 0,.slice none 0 0] 36);have f:=qG (b.trans (k.mono b.size));have h:=b.size;obtain⟨bi,A⟩:∃z,z=u.alloc (.cells #[.slice none 0 0,.slice none 0 0] 36):=⟨_,rfl⟩
     have Q:=qG (zB p k lR);rw [<- A]at j f Q |-;clear k A b p;have b:=f;have p:=Q;have E:=j;refine on 4 b ?_
   case' b19=>
    gi_wp2_with fail;have j:=qG (D2.new t (.slice none 0 0) (.slice none 0 0) 36);have k:=(qO t.heap.size t).alloc lR (.cells #[.slice none 0 0,.slice none 0 0] 36);have f:=qG (i.trans (k.mono i.size));have h:=i.size;obtain⟨bi,A⟩:∃z,z=t.alloc (.cells #[.slice none 0 0,.slice none 0 0] 36):=⟨_,rfl⟩
    rw [<- A]at j f |-;clear k A;refine on 3 f ?_;gi_wp2_with fail;refine⟨xn,(xf.2 (I _ _ _ _ (zB G f lR))).mono ?_⟩;rintro e u ⟨bg,bh,rfl,v,o⟩;have b:=qG (f.trans (o.mono f.size));have p:=qG v;have E:=qG (j.below o j.lt);clear v o;gi_wp2_with fail;refine on 4 b ?_
   all_goals
    have J:=b.size;gi_wp2_with fail;refine⟨xn,(xf.2 (P _ (F.v.below b) _ _ _ p (H.trans (b.mono H.size)))).mono ?_⟩;rintro e b4 ⟨ad,ae,af,ag,ah,ai,rfl,aj,ak⟩;have d:=qG (b.trans (ak.mono J));have R:=qG aj;have r:=d.size;clear aj;gi_wp2_with fail;refine tk 5 (.tuple #[.agg #[.slice ad ae af,.slice ag ah ai],qJ 0]) ?_ ?_
    ·intro y l;go_simp
    go_simp;refine tk 6 (.agg #[.slice ad ae af,.slice ag ah ai]) ?_ ?_
    ·intro y l;go_simp
    go_simp;refine tk 7 (qJ 0) ?_ ?_
    ·intro y l;go_simp
    go_simp
    first
     | (have B:=qG (E.below ak E.lt);obtain⟨b5,b6⟩:=B.c;have bu:=B.fz 0;have bv:=B.fz 1;refine on 9 d ?_;gi_wp2_with fail;refine on 10 ((d.setCell h _).setCell h _) ?_;gi_wp2_with fail;refine doneC (by kernel_rfl) ((d.setCell h _).setCell h _) ?_ _;gi_wp2_with fail;go_meet;exact⟨_,rfl,rfl,⟨_,_,_,_,_,_,LX.set B R J h E.lt⟩,(d.setCell h _).setCell h _⟩)
     | (refine on 8 d ?_;gi_wp2_with fail;refine on 9 (d.alloc r _) ?_;gi_wp2_with fail;refine on 10 (d.alloc r _) ?_;gi_wp2_with fail;refine doneC (by kernel_rfl) (d.alloc r _) ?_ _;gi_wp2_with fail;go_meet;exact⟨_,rfl,rfl,⟨_,_,_,_,_,_,LX.new R J r⟩,d.alloc r _⟩)
 obtain⟨cv,au⟩:∃q,q=wc:=⟨_,rfl⟩
 subst au;obtain⟨cu,rfl,rfl,al,s⟩:=hcut;have T:=qG (al.up (D:=D) ay.1.2);clear al ab ac a3 F G H P I;have ch:=goA bz ay bl s;have ci:=goN (q:=Lx D cu an) (goS ay s) (T);clear s ay bz;clear T;refine ‹∀ (a:Act) (w:World),Code.wp prog _ _ a w->_› _ _ ?_;exact brF ci ch cl cm bl cn co b0 b1 cp cq ap O aq ar bm bn a8 a9
end Go.Proofs.YtmjanhcplcalfaaGreatDoor
