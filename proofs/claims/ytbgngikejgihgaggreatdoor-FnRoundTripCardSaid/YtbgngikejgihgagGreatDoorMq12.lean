import Derived.WalkKit
import Derived.Test.YtbgngikejgihgagGreatDoorMq11
import Derived.Test.YtbgngikejgihgagGreatDoorMq04
import Derived.Test.YtbgngikejgihgagGreatDoorMq10
import Derived.Test.YtbgngikejgihgagGreatDoorMq05
namespace Go.Proofs.YtbgngikejgihgagGreatDoor
open Go Go.RowKit
set_option linter.unusedVariables false

theorem lsum_take_le {F : List Pc} (h : ∀ p ∈ F, 1 ≤ p.len) {i j : Nat} (hij : i ≤ j) : lsum (F.take i) ≤ lsum (F.take j) := by
  have e : F.take j = F.take i ++ (F.take j).drop i := by
    rw [show F.take i = (F.take j).take i by rw [List.take_take, Nat.min_eq_left hij], List.take_append_drop]
  rw [e, lsum_app]
  have := lsum_nn (F := (F.take j).drop i) (fun p hp => h p (List.mem_of_mem_take (List.mem_of_mem_drop hp)))
  omega
theorem lsum_take_lt {F : List Pc} (h : ∀ p ∈ F, 1 ≤ p.len) {i j : Nat} (hij : i < j) (hj : j ≤ F.length) : lsum (F.take i) < lsum (F.take j) := by
  have h1 := lsum_take_le h (show i + 1 ≤ j from hij)
  have h2 : F[i]? = some F[i] := List.getElem?_eq_getElem (by omega)
  have h3 := h _ (List.mem_of_getElem? h2)
  have e : F.take (i + 1) = F.take i ++ [F[i]] := (List.take_append_getElem (by omega)).symm
  rw [e, lsum_app, lsum_cons, lsum_nil] at h1
  omega
theorem cutP_rns {S : List Int} {T : AT} {off : Int} (h : T.ok) (h0 : 0 ≤ off) (h1 : off ≤ T.rns) : (cutP S T off).rns = T.rns := by
  rw [AT.rns_lsum, cutP_len h h0 h1, ← AT.rns_lsum]
/-- A second cut, behind the first, leaves the first where it is. -/
theorem cut_keep {S : List Int} {T : AT} {a : Nat} {lo hi : Int} (h : T.ok) (h0 : 0 ≤ hi) (h1 : hi ≤ T.rns) (ha : a ≤ T.its) (hl : lsum (T.flat.take a) = lo) (hlh : lo ≤ hi) :
    a ≤ cutN T hi ∧ (cutP S T hi).flat.take a = T.flat.take a := by
  obtain ⟨r1, r2, r3⟩ := sk_at h h0 h1
  have hp := flat_pos h
  have hfl := AT.flat_its T
  by_cases hi0 : skI T hi = 0
  · rw [cutN, if_pos hi0, cutP, if_pos hi0]
    refine ⟨?_, rfl⟩
    rcases Nat.lt_or_ge (skR T hi) a with q | q
    · have := lsum_take_lt hp q (by omega)
      omega
    · omega
  · obtain ⟨c1, c2, c3⟩ := r3.resolve_left hi0
    have hr := (split_at c3).2
    have e1 : lsum (T.flat.take (skR T hi + 1)) = hi - skI T hi + (skP T hi).len := by
      conv => lhs; rw [(split_at c3).1]
      rw [take_mid _ _ _ _ (by rw [List.length_take]; omega), lsum_app, lsum_cons, lsum_nil, r2]
      omega
    have hle : a ≤ skR T hi := by
      rcases Nat.lt_or_ge (skR T hi) a with q | q
      · have := lsum_take_le hp (show skR T hi + 1 ≤ a from q)
        omega
      · exact q
    refine ⟨by rw [cutN, if_neg hi0]; omega, ?_⟩
    rw [cutP_flat h h0 h1 hi0, List.take_append_of_le_length (by rw [List.length_take]; omega), List.take_take, Nat.min_eq_left hle]

/-- The piece of a rank. -/
def atP (T : AT) (R : Nat) : Pc := T.flat.getD R ⟨0, 0, 0⟩
theorem atP_at {T : AT} {R : Nat} (h : R < T.its) : T.flat[R]? = some (atP T R) := by
  have := AT.flat_its T
  rw [atP, List.getD_eq_getElem?_getD, List.getElem?_eq_getElem (by omega)]
  rfl
def healB (T : AT) (R : Nat) : Bool := decide ((0 < R ∧ R < T.its) ∧ (ahead T R).off + (ahead T R).len = (atP T R).off)
/-- The two pieces at a seam made one. -/
def healP (S : List Int) (T : AT) (R : Nat) : AT :=
  if healB T R = true then (T.put (R - 1) (pcAt S (ahead T R).off ((ahead T R).len + (atP T R).len))).rem R else T
theorem two_at {F : List Pc} {R : Nat} {p q : Pc} (h0 : 0 < R) (hp : F[R - 1]? = some p) (hq : F[R]? = some q) : F = F.take (R - 1) ++ p :: q :: F.drop (R + 1) := by
  have h1 := (split_at hp).1
  have h2 := (split_at hq)
  rw [show R - 1 + 1 = R by omega] at h1
  have e : F.drop R = q :: F.drop (R + 1) := by
    rw [List.drop_eq_getElem_cons h2.2]
    congr 1
    rw [List.getElem?_eq_getElem h2.2] at hq
    exact Option.some.inj hq
  rw [e] at h1
  exact h1
/-- The healed pieces, while both are there. -/
theorem put_okH {S : List Int} {T : AT} {R : Nat} (h : T.ok) (hw : T.wp S) (hS : S.length ≤ 220000) (hb : healB T R = true) (hov : T.rns + (atP T R).len ≤ 16384) :
    (∀ p ∈ (T.put (R - 1) (pcAt S (ahead T R).off ((ahead T R).len + (atP T R).len))).flat, pcOk p = true) := by
  simp only [healB, decide_eq_true_eq] at hb
  have hp := ahead_at (T := T) (R := R) hb.1.1 (by omega)
  have hq := atP_at (T := T) (R := R) hb.1.2
  have kp := h.1 _ (List.mem_of_getElem? hp)
  have kq := h.1 _ (List.mem_of_getElem? hq)
  simp only [pcOk, decide_eq_true_eq] at kp kq
  have wq := ((wp_flat S T).1 hw _ (List.mem_of_getElem? hq)).2.2.1
  have e := two_at hb.1.1 hp hq
  have hsum : (ahead T R).len + (atP T R).len ≤ lsum T.flat := by
    conv => rhs; rw [e]
    rw [lsum_app, lsum_cons, lsum_cons]
    have h1 := lsum_nn (F := T.flat.take (R - 1)) (fun q hq => flat_pos h q (List.mem_of_mem_take hq))
    have h2 := lsum_nn (F := T.flat.drop (R + 1)) (fun q hq => flat_pos h q (List.mem_of_mem_drop hq))
    omega
  have h2 := h.2
  rw [AT.rns_lsum] at h2
  intro x hx
  rw [put_flat' T (R - 1) _ _ hp] at hx
  simp only [List.mem_append, List.mem_cons] at hx
  rcases hx with hx | rfl | hx
  · exact h.1 x (List.mem_of_mem_take hx)
  · exact pcAt_ok (by omega) (by omega) (by omega) (by omega) hS
  · exact h.1 x (List.mem_of_mem_drop hx)
theorem healP_flat {S : List Int} {T : AT} {R : Nat} (hb : healB T R = true) : (healP S T R).flat = T.flat.take (R - 1) ++ pcAt S (ahead T R).off ((ahead T R).len + (atP T R).len) :: T.flat.drop (R + 1) := by
  have hb' := hb
  simp only [healB, decide_eq_true_eq] at hb
  have hp := ahead_at (T := T) (R := R) hb.1.1 (by omega)
  have hfl := AT.flat_its T
  have hl : (T.flat.take (R - 1)).length = R - 1 := by rw [List.length_take]; omega
  rw [healP, if_pos hb', AT.rem_flat _ _ (by rw [AT.put_its]; exact hb.1.2), put_flat' T (R - 1) _ _ hp, show R - 1 + 1 = R by omega]
  have e1 : (T.flat.take (R - 1) ++ pcAt S (ahead T R).off ((ahead T R).len + (atP T R).len) :: T.flat.drop R).take R = T.flat.take (R - 1) ++ [pcAt S (ahead T R).off ((ahead T R).len + (atP T R).len)] := by
    have := take_mid (T.flat.take (R - 1)) (T.flat.drop R) (pcAt S (ahead T R).off ((ahead T R).len + (atP T R).len)) (R - 1) hl
    rw [show R - 1 + 1 = R by omega] at this; exact this
  have e2 : (T.flat.take (R - 1) ++ pcAt S (ahead T R).off ((ahead T R).len + (atP T R).len) :: T.flat.drop R).drop (R + 1) = T.flat.drop (R + 1) := by
    rw [List.drop_append, List.drop_eq_nil_of_le (by omega), hl, List.nil_append, show R + 1 - (R - 1) = 2 by omega, List.drop_succ_cons, List.drop_drop]
  rw [e1, e2, List.append_assoc]
  rfl
theorem healP_ok {S : List Int} {T : AT} {R : Nat} (h : T.ok) (hw : T.wp S) (hS : S.length ≤ 220000) : (healP S T R).ok := by
  cases hb : healB T R with
  | false => rw [healP, if_neg (by rw [hb]; simp)]; exact h
  | true =>
    have hf := healP_flat (S := S) hb
    have h9 := hb
    simp only [healB, decide_eq_true_eq] at h9
    have hp := ahead_at (T := T) (R := R) h9.1.1 (by omega)
    have hq := atP_at (T := T) (R := R) h9.1.2
    have bd := h.bd
    have kq := h.1 _ (List.mem_of_getElem? hq)
    simp only [pcOk, decide_eq_true_eq] at kq
    have hpo := put_okH h hw hS hb (by omega)
    rw [put_flat' T (R - 1) _ _ hp, show R - 1 + 1 = R by omega] at hpo
    have e := two_at h9.1.1 hp hq
    refine ⟨fun x hx => ?_, ?_⟩
    · rw [hf] at hx
      refine hpo x ?_
      simp only [List.mem_append, List.mem_cons] at hx ⊢
      rcases hx with hx | hx | hx
      · exact .inl hx
      · exact .inr (.inl hx)
      · exact .inr (.inr ((List.drop_sublist_drop_left T.flat (show R ≤ R + 1 by omega)).subset hx))
    · have h2 := h.2
      rw [AT.rns_lsum] at h2 ⊢
      rw [e, lsum_app, lsum_cons, lsum_cons] at h2
      rw [hf, lsum_app, lsum_cons]
      simp only [pcAt]
      omega

/-- A range of runes taken out. -/
def dl2 (S : List Int) (T : AT) (lo hi : Int) : AT := cutP S (cutP S T lo) hi
def dlZ (S : List Int) (T : AT) (lo hi : Int) : Nat := cutN (cutP S T lo) hi
def dlX (S : List Int) (T : AT) (lo hi : Int) : AT := ((dl2 S T lo hi).split (cutN T lo)).1
def dlY (S : List Int) (T : AT) (lo hi : Int) : AT := ((dl2 S T lo hi).split (cutN T lo)).2
def dlW (S : List Int) (T : AT) (lo hi : Int) : AT := ((dlY S T lo hi).split (dlZ S T lo hi - cutN T lo)).2
def dlJ (S : List Int) (T : AT) (lo hi : Int) : AT := AT.join (dlX S T lo hi) (dlW S T lo hi)
def delP (S : List Int) (T : AT) (lo hi : Int) : AT := healP S (dlJ S T lo hi) (cutN T lo)

structure DelF (S : List Int) (T : AT) (lo hi : Int) : Prop where
  ok1 : (cutP S T lo).ok
  bal1 : (cutP S T lo).bal
  wp1 : (cutP S T lo).wp S
  rn1 : (cutP S T lo).rns = T.rns
  ok2 : (dl2 S T lo hi).ok
  bal2 : (dl2 S T lo hi).bal
  wp2 : (dl2 S T lo hi).wp S
  a2 : cutN T lo ≤ (dl2 S T lo hi).its
  az : cutN T lo ≤ dlZ S T lo hi
  z2 : dlZ S T lo hi ≤ (dl2 S T lo hi).its
  ra : rankL ((dl2 S T lo hi).told 0) lo = cutN T lo
  rz : rankL ((dl2 S T lo hi).told 0) hi = dlZ S T lo hi
  balX : (dlX S T lo hi).bal
  balY : (dlY S T lo hi).bal
  balW : (dlW S T lo hi).bal
  okX : (dlX S T lo hi).ok
  okY : (dlY S T lo hi).ok
  okW : (dlW S T lo hi).ok
  yits : (dlY S T lo hi).its = (dl2 S T lo hi).its - cutN T lo
  sum : (dlX S T lo hi).rns + (dlW S T lo hi).rns ≤ 8192
  its : (dlX S T lo hi).its + (dlW S T lo hi).its ≤ 8192
  okJ : (dlJ S T lo hi).ok
  balJ : (dlJ S T lo hi).bal
  wpJ : (dlJ S T lo hi).wp S
  okR : (delP S T lo hi).ok

theorem delF {S : List Int} {T : AT} {lo hi : Int} (h : T.ok) (hb : T.bal) (hw : T.wp S) (hS : S.length ≤ 220000) (h0 : 0 ≤ lo) (hlh : lo ≤ hi) (h1 : hi ≤ T.rns) : DelF S T lo hi := by
  have ok1 := cutP_ok h hw hS h0 (by omega : lo ≤ T.rns)
  have wp1 := cutP_wp h hw h0 (by omega : lo ≤ T.rns)
  have rn1 := cutP_rns (S := S) h h0 (by omega : lo ≤ T.rns)
  have bal1 := cutP_bal (S := S) (off := lo) hb
  have hA := cutN_at (S := S) h h0 (by omega : lo ≤ T.rns)
  have h1' : hi ≤ (cutP S T lo).rns := by omega
  have ok2 : (dl2 S T lo hi).ok := cutP_ok ok1 wp1 hS (by omega) h1'
  have wp2 : (dl2 S T lo hi).wp S := cutP_wp ok1 wp1 (by omega) h1'
  have bal2 : (dl2 S T lo hi).bal := cutP_bal bal1
  have hK := cut_keep (S := S) ok1 (by omega) h1' hA.1 hA.2 hlh
  have hZ := cutN_at (S := S) ok1 (by omega : 0 ≤ hi) h1'
  have az : cutN T lo ≤ dlZ S T lo hi := hK.1
  have z2 : dlZ S T lo hi ≤ (dl2 S T lo hi).its := hZ.1
  have a2 : cutN T lo ≤ (dl2 S T lo hi).its := Nat.le_trans az z2
  have ra : rankL ((dl2 S T lo hi).told 0) lo = cutN T lo := rankL_char _ _ _ (told_pos ok2) (by rw [AT.told_length]; exact a2) (by rw [total_take]; show lsum ((cutP S (cutP S T lo) hi).flat.take _) = lo; rw [hK.2]; exact hA.2)
  have rz : rankL ((dl2 S T lo hi).told 0) hi = dlZ S T lo hi := cut_rank ok1 wp1 hS (by omega) h1'
  have sf := AT.split_flat (dl2 S T lo hi) (cutN T lo) a2
  have sb := AT.split_bal (dl2 S T lo hi) (cutN T lo) bal2
  have fX : (dlX S T lo hi).flat = (dl2 S T lo hi).flat.take (cutN T lo) := sf.1
  have fY : (dlY S T lo hi).flat = (dl2 S T lo hi).flat.drop (cutN T lo) := sf.2
  have hfl := AT.flat_its (dl2 S T lo hi)
  have yits : (dlY S T lo hi).its = (dl2 S T lo hi).its - cutN T lo := by rw [← AT.flat_its, fY, List.length_drop, hfl]
  have sf2 := AT.split_flat (dlY S T lo hi) (dlZ S T lo hi - cutN T lo) (by omega)
  have sb2 := AT.split_bal (dlY S T lo hi) (dlZ S T lo hi - cutN T lo) sb.2
  have fW : (dlW S T lo hi).flat = (dl2 S T lo hi).flat.drop (dlZ S T lo hi) := by
    have : (dlW S T lo hi).flat = (dlY S T lo hi).flat.drop (dlZ S T lo hi - cutN T lo) := sf2.2
    rw [this, fY, List.drop_drop, show cutN T lo + (dlZ S T lo hi - cutN T lo) = dlZ S T lo hi by omega]
  have fJ : (dlJ S T lo hi).flat = (dl2 S T lo hi).flat.take (cutN T lo) ++ (dl2 S T lo hi).flat.drop (dlZ S T lo hi) := by
    rw [dlJ, AT.join_flat, fX, fW]
  have subJ : (dlJ S T lo hi).flat.Sublist (dl2 S T lo hi).flat := by
    rw [fJ]
    conv => rhs; rw [← List.take_append_drop (cutN T lo) (dl2 S T lo hi).flat]
    refine List.Sublist.append (List.Sublist.refl _) ?_
    exact List.drop_sublist_drop_left _ az
  have okX : (dlX S T lo hi).ok := ok2.sub (by rw [fX]; exact List.take_sublist _ _)
  have okY : (dlY S T lo hi).ok := ok2.sub (by rw [fY]; exact List.drop_sublist _ _)
  have okW : (dlW S T lo hi).ok := ok2.sub (by rw [fW]; exact List.drop_sublist _ _)
  have okJ : (dlJ S T lo hi).ok := ok2.sub subJ
  have wpJ : (dlJ S T lo hi).wp S := (wp_flat S _).2 fun p hp => (wp_flat S _).1 wp2 p (subJ.subset hp)
  have sum : (dlX S T lo hi).rns + (dlW S T lo hi).rns ≤ 8192 := by
    have h9 := okJ.2
    rw [AT.rns_lsum, dlJ, AT.join_flat, lsum_app, ← AT.rns_lsum, ← AT.rns_lsum] at h9
    exact h9
  have hits : (dlX S T lo hi).its + (dlW S T lo hi).its ≤ 8192 := by
    have h9 := okJ.bd.1
    rw [← AT.flat_its, dlJ, AT.join_flat, List.length_append, AT.flat_its, AT.flat_its] at h9
    omega
  exact ⟨ok1, bal1, wp1, rn1, ok2, bal2, wp2, a2, az, z2, ra, rz, sb.1, sb.2, sb2.2, okX, okY, okW, yits, sum, hits, okJ, AT.join_bal _ _ sb.1 sb2.2, wpJ, healP_ok okJ wpJ hS⟩
end Go.Proofs.YtbgngikejgihgagGreatDoor

namespace Go.Proofs.YtbgngikejgihgagGreatDoor
open Go Go.RowKit
set_option linter.unusedVariables false

theorem rankL_step {xs : List It} {j : Nat} {x : It} {off : Int} (hx : xs[j]? = some x) (h : ¬ off - total (xs.take j) ≤ 0) : rankL (xs.drop j) (off - total (xs.take j)) = 1 + rankL (xs.drop (j + 1)) (off - total (xs.take (j + 1))) := by
  have hj : j < xs.length := by
    rcases Nat.lt_or_ge j xs.length with q | q
    · exact q
    · rw [List.getElem?_eq_none q] at hx; cases hx
  have e1 : xs.drop j = x :: xs.drop (j + 1) := by
    rw [List.drop_eq_getElem_cons hj]
    congr 1
    rw [List.getElem?_eq_getElem hj] at hx
    exact Option.some.inj hx
  rw [e1, rankL, if_neg h, take_succ_of hx, total_append]
  congr 2
  simp only [total]
  omega

set_option maxHeartbeats 1000000 in
set_option maxRecDepth 100000 in
theorem rankS (B : Nat) (v : Value) (xs : List It) (off : Int) (w : World) (hr : RdI B w v xs) (hn : xs.length ≤ 8192) (hp : Pcs xs) :
    Calls Tryz.prog 130 #[v, .int .i64 off] w fun e w' => e = .returned (.int .i64 (rankL xs off : Nat)) ∧ w' = w := by
  obtain ⟨ao, cap, rfl⟩ := hr.val
  have hcell : ∀ j, j < xs.length → ∃ b off x, ao = some ⟨b, off, none⟩ ∧ xs[j]? = some x ∧ ItAt w b (off + j * 4) x := by
    intro j hj
    obtain ⟨b, off, cap', e, _, hb, hc⟩ := hr.at (by intro e; subst e; simp at hj)
    cases e
    obtain ⟨x, h1, h2⟩ := itAt_of (B := B) (cap := cap) hc hj
    exact ⟨b, off, x, rfl, h1, h2⟩
  have HC := hide hcell
  have HP := hide hp
  have HT := hide (fun j => hp.total j)
  have HST := hide (fun (j : Nat) (x : It) hx h => rankL_step (xs := xs) (j := j) (x := x) (off := off) hx h)
  have HLO := hide (fun (j : Nat) h => rankL_low (xs.drop j) (off - total (xs.take j)) h)
  have HTS := hide (fun (j : Nat) (x : It) (hx : xs[j]? = some x) => show total (xs.take (j + 1)) = total (xs.take j) + x.pc.len by rw [take_succ_of hx, total_append]; simp [total])
  have HEN := hide (show rankL (xs.drop xs.length) (off - total (xs.take xs.length)) = 0 by rw [List.drop_length]; rfl)
  have HTK := hide (fun j => show (xs.take j).length ≤ j by rw [List.length_take]; omega)
  generalize hN : xs.length = n at *
  clear hr hcell hp
  generalize hR : rankL xs off = R
  have HR := hide (show R = 0 + rankL (xs.drop 0) (off - total (xs.take 0)) by rw [← hR]; simp [total])
  clear hR
  go_enter Tryz.func130, Tryz.ntmps130
  go_wp2_with fail
  go_loop [5, 9] (fun x i => ∃ j : Nat, j ≤ n ∧ i = .int .i64 j ∧ x = .int .i64 (total (xs.take j)) ∧ R = j + rankL (xs.drop j) (off - total (xs.take j))) (fun x i => n - (intOf i).toNat)
  case atStart => exact ⟨0, Nat.zero_le _, rfl, by simp [total], HR.out⟩
  case round =>
    obtain ⟨j, hj, rfl, rfl, hRj⟩ := hrel
    have HRJ := hide hRj
    have ht := HT.out j
    have htk := HTK.out j
    clear hRj
    by_cases hjn : j < n
    · obtain ⟨b, o, x, rfl, hx, a0, a1, a2, a3⟩ := HC.out j hjn
      have hjn' : (j : Int) < n := by omega
      have hpx := HP.out x (List.mem_iff_getElem?.2 ⟨j, hx⟩)
      simp only [pcOk, decide_eq_true_eq] at hpx
      have HTX := hide (HTS.out j x hx)
      have HSX := hide (HST.out j x hx)
      have HLX := hide (HLO.out j)
      generalize total (xs.take j) = t at *
      by_cases hge : t ≥ off
      · have HE := hide (show R = j by rw [HRJ.out, HLX.out (by omega)]; omega)
        clear hx
        go_wp2
        go_ret
        exact ⟨by rw [HE.out]; rfl, rfl⟩
      · have HE := hide (show R = (j + 1 : Nat) + rankL (xs.drop (j + 1)) (off - total (xs.take (j + 1))) by rw [HRJ.out, HSX.out (by omega)]; omega)
        clear hx
        go_wp2
        go_round
        case rel => exact ⟨j + 1, by omega, by go_num, by rw [HTX.out], HE.out⟩
        case measure => simp [intOf]; omega
    · obtain rfl : j = n := by omega
      have hge : ¬ (j : Int) < (j : Int) := by omega
      have HE := hide (show R = j by rw [HRJ.out, HEN.out]; omega)
      clear ht htk
      go_wp2
      go_ret
      exact ⟨by rw [HE.out]; rfl, rfl⟩
end Go.Proofs.YtbgngikejgihgagGreatDoor

namespace Go.Proofs.YtbgngikejgihgagGreatDoor
open Go Go.RowKit
set_option linter.unusedVariables false

set_option maxHeartbeats 1000000 in
set_option maxRecDepth 100000 in
theorem specPiece (zs : List Int) (b o cap k l : Nat) (w : World) (hc : ∀ i, i < zs.length → w.cell? ⟨b, o + i, none⟩ = some (.int .i32 (zs.getD i 0))) (hb : b < w.heap.size) (hkl : k + l ≤ zs.length) (h0 : 0 < l) (hcap : zs.length ≤ cap) (hm : cap ≤ maxLen) (hn : zs.length ≤ 1048576) :
    Calls Tryz.prog 131 #[.slice (some ⟨b, o, none⟩) zs.length cap, .int .i64 (k : Int), .int .i64 (l : Int)] w fun e w' => e = .returned (.agg #[.int .i64 (k : Int), .int .i64 (l : Int), .int .i64 (brk ((zs.drop k).take l))]) ∧ Below w.heap.size w w' := by
  have B0 := hide ((Below.refl w.heap.size w).alloc (Nat.le_refl _) (.cells #[.int .i64 0, .int .i64 0, .int .i64 0] 143))
  have HB := hide (specBreaks ((zs.drop k).take l) _ (w.alloc (.cells #[.int .i64 0, .int .i64 0, .int .i64 0] 143)) (rd_cut (fun i hi => (B0.out.cell (p := ⟨b, o + i, none⟩) hb).trans (hc i hi)) k l hkl h0 hcap hm) (by rw [List.length_take, List.length_drop]; omega))
  have K0 : (w.alloc (.cells #[.int .i64 0, .int .i64 0, .int .i64 0] 143)).heap[w.heap.size]? = some (.cells #[.int .i64 0, .int .i64 0, .int .i64 0] 143 (0, 0)) := heap_alloc_new _ _
  have HK := hide K0
  generalize brk ((zs.drop k).take l) = br at *
  generalize zs.length = n at *
  unfold maxLen at hm
  have g1 : (k : Int) ≤ (k : Int) + (l : Int) := by omega
  have g2 : (k : Int) + (l : Int) ≤ (n : Int) := by omega
  have g3 : ¬ cap = k := by omega
  clear hc K0
  go_enter Tryz.func131, Tryz.ntmps131
  go_wp2_with fail
  generalize w.alloc (.cells #[.int .i64 0, .int .i64 0, .int .i64 0] 143) = w0 at *
  refine HB.out.mono ?_
  rintro e w1 ⟨rfl, hw1⟩
  have hw2 := hw1.symm
  subst hw2
  have c0 : w0.cell? ⟨w.heap.size, 0, none⟩ = some (.int .i64 0) := by rw [cell_of_row w0 _ 0 _ _ _ HK.out]; rfl
  have c1 : w0.cell? ⟨w.heap.size, 1, none⟩ = some (.int .i64 0) := by rw [cell_of_row w0 _ 1 _ _ _ HK.out]; rfl
  have c2 : w0.cell? ⟨w.heap.size, 2, none⟩ = some (.int .i64 0) := by rw [cell_of_row w0 _ 2 _ _ _ HK.out]; rfl
  have f0 := frozen_of_row w0 w.heap.size 0 _ _ HK.out
  have f1 := frozen_of_row w0 w.heap.size 1 _ _ HK.out
  have f2 := frozen_of_row w0 w.heap.size 2 _ _ HK.out
  go_wp2
  refine bodyPost_ret (v := .agg #[.int .i64 (k : Int), .int .i64 (l : Int), .int .i64 br]) (by simp [results, Tryz.results131, go_sem, c0, c1, c2]) rfl ⟨rfl, ?_⟩
  exact ((B0.out.setCell (by simp) _).setCell (by simp) _).setCell (by simp) _
theorem specPieceI (zs : List Int) (b o cap : Nat) (k l : Int) (w : World) (hc : ∀ i, i < zs.length → w.cell? ⟨b, o + i, none⟩ = some (.int .i32 (zs.getD i 0))) (hb : b < w.heap.size) (hk : 0 ≤ k) (hkl : k + l ≤ zs.length) (h0 : 0 < l) (hcap : zs.length ≤ cap) (hm : cap ≤ maxLen) (hn : zs.length ≤ 1048576) :
    Calls Tryz.prog 131 #[.slice (some ⟨b, o, none⟩) zs.length cap, .int .i64 k, .int .i64 l] w fun e w' => e = .returned (.agg #[.int .i64 k, .int .i64 l, .int .i64 (brk ((zs.drop k.toNat).take l.toNat))]) ∧ Below w.heap.size w w' := by
  obtain ⟨k', rfl⟩ := Int.eq_ofNat_of_zero_le hk
  obtain ⟨l', rfl⟩ := Int.eq_ofNat_of_zero_le (show 0 ≤ l by omega)
  exact specPiece zs b o cap k' l' w hc hb (by omega) (by omega) hcap hm hn
end Go.Proofs.YtbgngikejgihgagGreatDoor
