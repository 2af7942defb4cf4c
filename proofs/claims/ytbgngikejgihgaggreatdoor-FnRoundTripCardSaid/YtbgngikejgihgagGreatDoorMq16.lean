import Derived.Test.YtbgngikejgihgagGreatDoorMq15
namespace Go.Proofs.YtbgngikejgihgagGreatDoor
open Go Go.RowKit
set_option linter.unusedVariables false

theorem rangeT (B0 : Nat) (v : Value) (X : List It) (W : World) (hr : RdI B0 W v X) (hlen : X.length ≤ 1048576) {A B : List It} {l r : AT} {p : Pc} {e : Int} (hX : X = A ++ (AT.node l p r).told e ++ B) (hf : AT.Fit A B e) (k : Nat) (hk : A.length + l.its = k) :
    Calls Tryz.prog 187 #[v, .int .i64 (k : Int)] W fun e' w' => e' = .returned (.tuple #[.int .i64 (A.length : Int), .int .i64 ((A.length + (AT.node l p r).its : Nat) : Int)]) ∧ ∃ q, w' = W.drewN q := by
  subst hk
  refine rangeS B0 v X W hr hlen _ _ _ e ?_
  rw [hX]; exact Sub.of hf
theorem heightTL (B0 : Nat) (v : Value) (X : List It) (W : World) (hr : RdI B0 W v X) (hlen : X.length ≤ 1048576) (hlv : ∀ x ∈ X, 0 ≤ x.lv ∧ x.lv ≤ 1000000) {A B : List It} {l r : AT} {p : Pc} {e : Int} (hX : X = A ++ (AT.node l p r).told e ++ B) (k : Nat) (hk : A.length + l.its = k) :
    Calls Tryz.prog 205 #[v, .int .i64 (A.length : Int), .int .i64 (k : Int)] W fun e' w' => e' = .returned (.int .i64 (l.ht : Int)) ∧ w' = W := by
  subst hk
  have h := heightS B0 v X W hr hlen hlv A.length (A.length + l.its) (by omega) (by rw [hX]; simp only [List.length_append, AT.told_length, AT.its]; omega)
  rw [show seg X A.length (A.length + l.its) = l.told (e + 1) by rw [hX]; exact seg_left A B l r p e, hgt_told] at h
  exact h
theorem heightTR (B0 : Nat) (v : Value) (X : List It) (W : World) (hr : RdI B0 W v X) (hlen : X.length ≤ 1048576) (hlv : ∀ x ∈ X, 0 ≤ x.lv ∧ x.lv ≤ 1000000) {A B : List It} {l r : AT} {p : Pc} {e : Int} (hX : X = A ++ (AT.node l p r).told e ++ B) (k : Nat) (hk : A.length + l.its = k) :
    Calls Tryz.prog 205 #[v, .int .i64 ((k : Int) + 1), .int .i64 ((A.length + (AT.node l p r).its : Nat) : Int)] W fun e' w' => e' = .returned (.int .i64 (r.ht : Int)) ∧ w' = W := by
  subst hk
  have h := heightS B0 v X W hr hlen hlv (A.length + l.its + 1) (A.length + (AT.node l p r).its) (by simp only [AT.its]; omega) (by rw [hX]; simp only [List.length_append, AT.told_length]; omega)
  rw [show seg X (A.length + l.its + 1) (A.length + (AT.node l p r).its) = r.told (e + 1) by rw [hX]; exact seg_right A B l r p e, hgt_told] at h
  exact h
theorem childT (B0 : Nat) (v : Value) (X : List It) (W : World) (hr : RdI B0 W v X) (hlen : X.length ≤ 1048576) (h0 : X ≠ []) (lo : Int) (lo' hi : Nat) (hlo : lo = lo') (h1 : lo' ≤ hi) (h2 : hi ≤ X.length) :
    Calls Tryz.prog 184 #[v, .int .i64 lo, .int .i64 (hi : Int)] W fun e w' => ∃ c : Nat, e = .returned (.int .i64 (c : Int)) ∧ Am X lo' hi c ∧ ∃ q, w' = W.drewN q := by
  subst hlo
  exact childS B0 v X W hr hlen h0 lo' hi h1 h2

/-- What the search tells. -/
def encB (b : Option (Nat × Int)) : Int := match b with | none => -1 | some (j, _) => j
def BOK (X : List It) (k : Nat) (b : Option (Nat × Int)) : Prop := ∀ j m, b = some (j, m) → j < k ∧ ∃ y, X[j]? = some y ∧ y.lv = m
theorem scan_take {D : List (Int × Int)} {k : Nat} {e d : Int} (h : D[k]? = some (e, d)) : AT.scan (D.take (k + 1)) 0 none = (if 2 ≤ d ∨ d ≤ -2 then AT.bst (AT.scan (D.take k) 0 none) k e else AT.scan (D.take k) 0 none) := by
  have hk : k < D.length := by
    rcases Nat.lt_or_ge k D.length with g | g
    · exact g
    · rw [List.getElem?_eq_none g] at h; cases h
  rw [List.take_succ_eq_append_getElem hk, AT.scan_append]
  have e1 : D[k] = (e, d) := by rw [List.getElem?_eq_getElem hk] at h; exact Option.some.inj h
  rw [e1]
  simp only [AT.scan]
  rw [List.length_take, Nat.zero_add, show min k D.length = k by omega]
theorem lv_told (T : AT) (hn : T.its ≤ 100000) : ∀ x ∈ T.told 0, 0 ≤ x.lv ∧ x.lv ≤ 1000000 := by
  intro x hx
  have h1 := AT.told_lv T 0 x hx
  have h2 := AT.ht_its T
  omega

theorem lv_mid {X A B : List It} {S S2 : AT} {e : Int} (hX : X = A ++ S.told e ++ B) (hlv : ∀ x ∈ X, 0 ≤ x.lv ∧ x.lv ≤ 100000) (h0 : 0 ≤ e ∧ e ≤ 200000) (h2 : S2.its ≤ 200000) : ∀ x ∈ A ++ S2.told e ++ B, 0 ≤ x.lv ∧ x.lv ≤ 1000000 := by
  intro x hx
  rw [List.mem_append, List.mem_append] at hx
  rcases hx with (hx | hx) | hx
  · have := hlv x (by rw [hX]; simp [hx]); omega
  · have := AT.told_lv S2 e x hx; have := AT.ht_its S2; omega
  · have := hlv x (by rw [hX]; simp [hx]); omega
theorem lv_told1 (T : AT) (hn : T.its ≤ 100000) : ∀ x ∈ T.told 0, 0 ≤ x.lv ∧ x.lv ≤ 100000 := by
  intro x hx
  have h1 := AT.told_lv T 0 x hx
  have h2 := AT.ht_its T
  omega

set_option maxHeartbeats 6000000 in
set_option maxRecDepth 100000 in
theorem repairS (base g cap n : Nat) (U : AT) (hcap : n ≤ cap ∧ cap ≤ maxLen) (hlen : n ≤ 100000) (m : Nat) (T : AT) (w : World) (hT : T.its = n) (hfx : AT.Fx T m U) (hm : m ≤ 2 * n + 2) (ho : OwI w base (.slice (some ⟨g, 0, none⟩) n cap) (T.told 0)) :
    Calls Tryz.prog 175 #[.slice (some ⟨g, 0, none⟩) n cap] w fun e w' => e = .returned (.tuple #[]) ∧ OwI w' base (.slice (some ⟨g, 0, none⟩) n cap) (U.told 0) ∧ w.grownBy w' (some g) := by
  have HO := hide ho
  have HFX := hide hfx
  have HCAP := hide hcap
  unfold maxLen at hcap
  clear ho hfx
  go_enter Tryz.func175, Tryz.ntmps175
  go_wp2_with fail
  go_loopw [2] (fun iv wr => ∃ (r m' : Nat) (T' : AT), iv = .int .i64 r ∧ r + m' ≤ 2 * n + 2 ∧ T'.its = n ∧ AT.Fx T' m' U ∧ OwI wr base (.slice (some ⟨g, 0, none⟩) n cap) (T'.told 0) ∧ w.grownBy wr (some g)) (fun iv _ => 2 * n + 3 - (intOf iv).toNat)
  case atStart => exact ⟨0, m, T, rfl, by omega, hT, HFX.out, HO.out, grown_refl _ _⟩
  case round =>
    obtain ⟨r, m', T', rfl, hrm, hT', hfx', hown, hgr⟩ := hrel
    obtain ⟨wA, hwA⟩ : ∃ x, x = wr := ⟨_, rfl⟩
    subst hwA
    have HFX' := hide hfx'
    have HGR := hide hgr
    have HOW := hide hown
    have HLEN := hide (show (T'.told 0).length = n from by rw [AT.told_length]; exact hT')
    have HRD := hide (fun q => (OwI.rd hown).heap (w' := wA.drewN q) rfl)
    have HLV := hide (lv_told T' (by omega))
    have HC3 := hide (fun k x (hx : (T'.told 0)[k]? = some x) => show wA.cell? ⟨g, k * 4 + 3, none⟩ = some (.int .i64 x.lv) from OwI.lv (by have h9 := hown; unfold OwI at h9; rw [AT.told_length, hT'] at h9; exact h9) hx)
    have HAT := hide (fun k hk => AT.at_idx T' 0 k hk)
    have HDL := hide (show (T'.dif 0).length = n from by rw [AT.dif_length]; exact hT')
    have RGT := hide (fun (A B : List It) (l r : AT) (p : Pc) (e : Int) q hX hf k hk => rangeT wA.heap.size (.slice (some ⟨g, 0, none⟩) n cap) (T'.told 0) (wA.drewN q) (HRD.out q) (by rw [HLEN.out]; omega) (A := A) (B := B) (l := l) (r := r) (p := p) (e := e) hX hf k hk)
    have HTL := hide (fun (A B : List It) (l r : AT) (p : Pc) (e : Int) q hX k hk => heightTL wA.heap.size (.slice (some ⟨g, 0, none⟩) n cap) (T'.told 0) (wA.drewN q) (HRD.out q) (by rw [HLEN.out]; omega) HLV.out (A := A) (B := B) (l := l) (r := r) (p := p) (e := e) hX k hk)
    have HTR := hide (fun (A B : List It) (l r : AT) (p : Pc) (e : Int) q hX k hk => heightTR wA.heap.size (.slice (some ⟨g, 0, none⟩) n cap) (T'.told 0) (wA.drewN q) (HRD.out q) (by rw [HLEN.out]; omega) HLV.out (A := A) (B := B) (l := l) (r := r) (p := p) (e := e) hX k hk)
    have hr0 : (r : Int) ≤ 2 * (n : Int) + 2 := by omega
    clear hfx' hgr hown
    go_wp2_with fail
    go_loopw [3, 26] (fun wv kv wr => ∃ (k q : Nat) (b : Option (Nat × Int)), k ≤ n ∧ kv = .int .i64 k ∧ b = AT.scan ((T'.dif 0).take k) 0 none ∧ BOK (T'.told 0) k b ∧ wv = .int .i64 (encB b) ∧ wr = wA.drewN q) (fun _ kv _ => n - (intOf kv).toNat)
    case atStart => exact ⟨0, 0, none, Nat.zero_le _, rfl, rfl, (by intro j m h; cases h), rfl, rfl⟩
    case round =>
      obtain ⟨k, q, b, hk, rfl, hb, hbok, rfl, rfl⟩ := hrel
      have HB := hide hb
      have HBOK := hide hbok
      clear hb hbok
      by_cases hkn : k < n
      · obtain ⟨A, l, p, r1, B, e, hX, hAk, hD, hde, hf⟩ := HAT.out k (by omega)
        have hhl := AT.ht_its l
        have hhr := AT.ht_its r1
        have hin : l.its + 1 + r1.its ≤ n := by have h9 := HLEN.out; rw [hX] at h9; simp only [List.length_append, AT.told_length, AT.its] at h9; omega
        have SC := hide (scan_take hD)
        obtain ⟨xk, hxk, hxl⟩ : ∃ x, (T'.told 0)[k]? = some x ∧ x.lv = e := by
          have h9 := (Sub.of (l := l) (r := r1) (p := p) hf).mid
          rw [← hX, hAk] at h9; exact h9
        have HXK := hide hxk
        have ck := HC3.out k xk hxk
        rw [hxl] at ck
        have CK := hide ck
        have R1 := hide (RGT.out A B l r1 p e q hX hf k hAk)
        have L1 := hide (fun q => HTL.out A B l r1 p e q hX k hAk)
        have R2 := hide (fun q => HTR.out A B l r1 p e q hX k hAk)
        have hkn' : (k : Int) < (n : Int) := by omega
        generalize A.length = la at *
        generalize (AT.node l p r1).its = li at *
        generalize hlh : l.ht = lh at *
        generalize hrh : r1.ht = rh at *
        have hxl2 := hxl
        clear hX hD hf hxk hxl hlh hrh ck
        go_wp2_with fail
        refine R1.out.mono ?_
        rintro e1 w1 ⟨rfl, q1, rfl⟩
        rw [World.drewN_drewN]
        go_wp2_with fail
        refine (L1.out (q + q1)).mono ?_
        rintro e1 w1 ⟨rfl, rfl⟩
        go_wp2_with fail
        refine (R2.out (q + q1)).mono ?_
        rintro e1 w1 ⟨rfl, rfl⟩
        by_cases hd : 2 ≤ (lh : Int) - rh ∨ (lh : Int) - rh ≤ -2
        · rw [if_pos hd] at SC
          cases b with
          | none =>
            have g1 : (encB none : Int) = -1 := rfl
            rw [g1]
            have HN := hide (show AT.scan ((T'.dif 0).take (k + 1)) 0 none = some (k, e) from by rw [SC.out, ← HB.out]; rfl)
            have HK2 := hide (show BOK (T'.told 0) (k + 1) (some (k, e)) from fun j m h => by cases h; exact ⟨by omega, xk, HXK.out, hxl2⟩)
            rcases hd with hd | hd
            · have d1 : 2 ≤ (lh : Int) - rh := hd
              clear hd
              go_wp2
              go_quiet (fail)
              go_wp2
              go_roundw
              case rel => exact ⟨k + 1, _, some (k, e), by omega, by go_num, HN.out.symm, HK2.out, rfl, by first | rfl | exact World.drewN_drewN _ _ _⟩
              case measure => simp [intOf]; omega
            · have d2 : ¬ 2 ≤ (lh : Int) - rh := by omega
              have d1 : (lh : Int) - rh ≤ -2 := hd
              clear hd
              go_wp2
              go_quiet (fail)
              go_wp2
              go_roundw
              case rel => exact ⟨k + 1, _, some (k, e), by omega, by go_num, HN.out.symm, HK2.out, rfl, by first | rfl | exact World.drewN_drewN _ _ _⟩
              case measure => simp [intOf]; omega
          | some jm =>
            obtain ⟨j, mm⟩ := jm
            obtain ⟨hjk, yj, hyj, hyl⟩ := HBOK.out j mm rfl
            have cj := HC3.out j yj hyj
            rw [hyl] at cj
            have CJ := hide cj
            have HYJ := hide hyj
            have g1 : (encB (some (j, mm)) : Int) = (j : Int) := rfl
            rw [g1]
            have g2 : (j : Int) < (n : Int) := by omega
            have g3 : ¬ (j : Int) < 0 := by omega
            have cj1 := CJ.out
            have ck1 := CK.out
            clear hyj cj
            by_cases hme : mm < e
            · have HN := hide (show AT.scan ((T'.dif 0).take (k + 1)) 0 none = some (k, e) from by rw [SC.out, ← HB.out]; simp only [AT.bst]; rw [if_pos hme])
              have HK2 := hide (show BOK (T'.told 0) (k + 1) (some (k, e)) from fun j m h => by cases h; exact ⟨by omega, xk, HXK.out, hxl2⟩)
              rcases hd with hd | hd
              · have d1 : 2 ≤ (lh : Int) - rh := hd
                clear hd
                go_wp2
                go_quiet (fail)
                go_wp2
                go_roundw
                case rel => exact ⟨k + 1, _, some (k, e), by omega, by go_num, HN.out.symm, HK2.out, rfl, by first | rfl | exact World.drewN_drewN _ _ _⟩
                case measure => simp [intOf]; omega
              · have d2 : ¬ 2 ≤ (lh : Int) - rh := by omega
                have d1 : (lh : Int) - rh ≤ -2 := hd
                clear hd
                go_wp2
                go_quiet (fail)
                go_wp2
                go_roundw
                case rel => exact ⟨k + 1, _, some (k, e), by omega, by go_num, HN.out.symm, HK2.out, rfl, by first | rfl | exact World.drewN_drewN _ _ _⟩
                case measure => simp [intOf]; omega
            · have HN := hide (show AT.scan ((T'.dif 0).take (k + 1)) 0 none = some (j, mm) from by rw [SC.out, ← HB.out]; simp only [AT.bst]; rw [if_neg hme])
              have HK2 := hide (show BOK (T'.told 0) (k + 1) (some (j, mm)) from fun j' m h => by cases h; exact ⟨by omega, yj, HYJ.out, hyl⟩)
              rcases hd with hd | hd
              · have d1 : 2 ≤ (lh : Int) - rh := hd
                clear hd
                go_wp2
                go_quiet (fail)
                go_wp2
                go_roundw
                case rel => exact ⟨k + 1, _, some (j, mm), by omega, by go_num, HN.out.symm, HK2.out, rfl, by first | rfl | exact World.drewN_drewN _ _ _⟩
                case measure => simp [intOf]; omega
              · have d2 : ¬ 2 ≤ (lh : Int) - rh := by omega
                have d1 : (lh : Int) - rh ≤ -2 := hd
                clear hd
                go_wp2
                go_quiet (fail)
                go_wp2
                go_roundw
                case rel => exact ⟨k + 1, _, some (j, mm), by omega, by go_num, HN.out.symm, HK2.out, rfl, by first | rfl | exact World.drewN_drewN _ _ _⟩
                case measure => simp [intOf]; omega
        · rw [if_neg hd] at SC
          have HN := hide (show AT.scan ((T'.dif 0).take (k + 1)) 0 none = b from by rw [SC.out, ← HB.out])
          have HK2 := hide (show BOK (T'.told 0) (k + 1) b from fun j m h => by obtain ⟨h1, h2⟩ := HBOK.out j m h; exact ⟨by omega, h2⟩)
          have d1 : ¬ 2 ≤ (lh : Int) - rh := by omega
          have d2 : ¬ (lh : Int) - rh ≤ -2 := by omega
          generalize heb : encB b = eb
          have HEB := hide heb
          clear heb
          go_wp2
          go_roundw
          case rel => exact ⟨k + 1, _, b, by omega, by go_num, HN.out.symm, HK2.out, by rw [HEB.out], rfl⟩
          case measure => simp [intOf]; omega
      · obtain rfl : n = k := by omega
        have hb := HB.out
        rw [List.take_of_length_le (by rw [HDL.out]; exact Nat.le_refl _), AT.scan_tree] at hb
        have g9 : ¬ (n : Int) < (n : Int) := by omega
        by_cases hwd : T'.wd = 0
        · rw [if_pos hwd] at hb
          subst hb
          have hU : U = T' := by
            cases HFX'.out with
            | stop _ => rfl
            | go h _ => exact absurd hwd h
          have HF := hide (show OwI (wA.drewN q) base (.slice (some ⟨g, 0, none⟩) n cap) (U.told 0) from (by rw [hU]; exact owns_of_block HOW.out (fun _ _ => rfl)))
          have HG2 := hide (grown_trans HGR.out (grown_drewN wA q (some g)))
          have g1 : (encB none : Int) = -1 := rfl
          rw [g1]
          clear hU hwd HB HBOK HAT RGT HTL HTR HRD HLV HC3
          go_wp2
          refine bodyPost_ret (v := .tuple #[]) (by simp [results, Tryz.results175]) rfl ⟨rfl, HF.out, HG2.out⟩
        · rw [if_neg hwd] at hb
          obtain ⟨A, l, p, r1, B, e, hX, hAi, hbl, hbr, hun, hstep, hde, hf⟩ := AT.step_at T' 0 hwd
          simp only [AT.bst, Nat.zero_add] at hb
          subst hb
          obtain ⟨m2, hm2, hfx2⟩ : ∃ m2, m' = m2 + 1 ∧ AT.Fx T'.step m2 U := by
            cases HFX'.out with
            | stop h => exact absurd h hwd
            | go h h2 => exact ⟨_, rfl, h2⟩
          have g1 : ∀ x, (encB (some (T'.wi, x)) : Int) = (T'.wi : Int) := fun _ => rfl
          rw [g1]
          have hlen2 := HLEN.out
          rw [hX] at hlen2
          simp only [List.length_append, AT.told_length, AT.its] at hlen2
          have hsi : T'.step.its = n := by
            have h9 := AT.told_length T'.step 0
            rw [hstep] at h9
            simp only [List.length_append, AT.told_length, AT.rot_its, AT.its] at h9
            omega
          have hXne : T'.told 0 ≠ [] := by intro h9; have h8 := HLEN.out; rw [h9] at h8; simp at h8; omega
          have hlv1 := lv_told1 T' (by omega)
          have heb : 0 ≤ e ∧ e ≤ 100000 := by
            obtain ⟨x, hx, hxl⟩ := (Sub.of (l := l) (r := r1) (p := p) hf).mid
            rw [← hX] at hx
            have := hlv1 x (List.mem_iff_getElem?.2 ⟨_, hx⟩)
            omega
          have SI := hide hsi
          have ST := hide hstep
          have FX2 := hide hfx2
          have LV1 := hide hlv1
          have CHT := hide (fun q lo lo' hi hlo h1 h2 => childT wA.heap.size (.slice (some ⟨g, 0, none⟩) n cap) (T'.told 0) (wA.drewN q) (HRD.out q) (by rw [HLEN.out]; omega) hXne lo lo' hi hlo h1 h2)
          have OWD := hide (fun q => show OwI (wA.drewN q) base (.slice (some ⟨g, 0, none⟩) n cap) (T'.told 0) from owns_of_block HOW.out (fun _ _ => rfl))
          generalize T'.wi = wi at *
          have hhl := AT.ht_its l
          have hhr := AT.ht_its r1
          clear hwd hfx2 hsi hbl hbr hlv1 hXne HB HBOK HAT HFX' HC3 HDL HLV g1
          have R1 := hide (RGT.out A B l r1 p e q hX hf wi hAi)
          have L1 := hide (fun q => HTL.out A B l r1 p e q hX wi hAi)
          have R2 := hide (fun q => HTR.out A B l r1 p e q hX wi hAi)
          have HX := hide hX
          have HF := hide hf
          have hwn : (wi : Int) < (n : Int) := by omega
          have hw0 : ¬ (wi : Int) < 0 := by omega
          obtain ⟨li, hli⟩ : ∃ li, li = (AT.node l p r1).its := ⟨_, rfl⟩
          rw [← hli] at R1 R2
          have hli2 : li = l.its + 1 + r1.its := hli
          have HLI := hide hli2
          have AHI := hide hAi
          have k1 : wi + 1 ≤ A.length + li := by omega
          have k2 : A.length + li ≤ n := by omega
          have k3 : A.length ≤ wi := by omega
          have k4 : wi = A.length + l.its := by omega
          have WI := hide k4
          have M2 := hide hm2
          clear hX hf hli hli2 hAi k4 hlen2 hstep hm2
          go_wp2_with fail
          refine R1.out.mono ?_
          rintro e1 w1 ⟨rfl, q1, rfl⟩
          rw [World.drewN_drewN]
          generalize q + q1 = q2
          go_wp2_with fail
          refine (L1.out q2).mono ?_
          rintro e1 w1 ⟨rfl, rfl⟩
          go_wp2_with fail
          refine (R2.out q2).mono ?_
          rintro e1 w1 ⟨rfl, rfl⟩
          clear R1 L1 R2
          by_cases hrt : r1.ht < l.ht
          · have hrt' : (r1.ht : Int) < (l.ht : Int) := by omega
            cases l with
            | nil => simp [AT.ht] at hrt
            | node a qq b2 =>
              have hX2 : T'.told 0 = A ++ (AT.node a qq b2).told (e + 1) ++ (⟨p, e⟩ :: (r1.told (e + 1) ++ B)) := HX.out.trans (child_left _ _ _ _ _ _)
              have hf2 : AT.Fit A (⟨p, e⟩ :: (r1.told (e + 1) ++ B)) (e + 1) := HF.out.ofLeft
              have hsub : Sub (T'.told 0) A.length (A.length + a.its) wi (e + 1) := by
                have h9 := Sub.of (l := a) (r := b2) (p := qq) hf2
                rw [← hX2, AHI.out] at h9; exact h9
              have SUB := hide hsub
              have hci := hsub.ih
              have X2 := hide hX2
              have F2 := hide hf2
              have R3 := hide (fun q => RGT.out A _ a b2 qq (e + 1) q hX2 hf2 (A.length + a.its) rfl)
              have L3 := hide (fun q => HTL.out A _ a b2 qq (e + 1) q hX2 (A.length + a.its) rfl)
              have R4 := hide (fun q => HTR.out A _ a b2 qq (e + 1) q hX2 (A.length + a.its) rfl)
              rw [AHI.out] at R3 R4
              obtain ⟨la, hla⟩ : ∃ la, la = A.length := ⟨_, rfl⟩
              obtain ⟨ci, hcie⟩ : ∃ ci, ci = A.length + a.its := ⟨_, rfl⟩
              rw [← hcie] at R3 L3 R4 SUB hci
              rw [← hla] at R3 L3 SUB k1 k2 k3
              have HLA := hide hla
              have HCI := hide hcie
              obtain ⟨lh, hlh⟩ : ∃ x, x = (AT.node a qq b2).ht := ⟨_, rfl⟩
              rw [← hlh] at hrt'
              simp only [← hla, ← hlh]
              obtain ⟨rh, hrh⟩ : ∃ x, x = r1.ht := ⟨_, rfl⟩
              rw [← hrh] at hrt'
              simp only [← hrh]
              obtain ⟨ah, hah⟩ : ∃ x, x = a.ht := ⟨_, rfl⟩
              rw [← hah] at L3
              have HAH := hide hah
              obtain ⟨bh, hbh⟩ : ∃ x, x = b2.ht := ⟨_, rfl⟩
              rw [← hbh] at R4
              have HBH := hide hbh
              have HRT := hide hrt
              clear hX2 hf2 hsub hla hcie hrt hhl hhr hun hlh hrh hah hbh
              go_wp2_with fail
              refine (CHT.out q2 _ (wi + 1) (la + li) (by omega) k1 (by rw [HLEN.out]; exact k2)).mono ?_
              rintro e1 w1 ⟨c1, rfl, _, q3, rfl⟩
              rw [World.drewN_drewN]
              generalize q2 + q3 = q4
              go_wp2_with fail
              refine (CHT.out q4 _ la wi rfl k3 (by rw [HLEN.out]; omega)).mono ?_
              rintro e1 w1 ⟨c, rfl, hc, q5, rfl⟩
              have hcc : ci = c := (Am.root SUB.out hc).symm
              subst hcc
              rw [World.drewN_drewN]
              generalize q4 + q5 = q6
              clear hc
              go_wp2_with fail
              refine (R3.out q6).mono ?_
              rintro e1 w1 ⟨rfl, q7, rfl⟩
              rw [World.drewN_drewN]
              generalize q6 + q7 = q8
              go_wp2_with fail
              refine (R4.out q8).mono ?_
              rintro e1 w1 ⟨rfl, rfl⟩
              go_wp2_with fail
              refine (L3.out q8).mono ?_
              rintro e1 w1 ⟨rfl, rfl⟩
              clear R3 L3 R4 CHT RGT HTL HTR HRD
              by_cases hab : ah < bh
              · have hab' : (ah : Int) < (bh : Int) := by omega
                cases b2 with
                | nil => have h9 := HBH.out; simp [AT.ht] at h9; omega
                | node b3 sp b4 =>
                  have hnn : (A ++ (AT.node a qq (.node b3 sp b4)).told (e + 1) ++ (⟨p, e⟩ :: (r1.told (e + 1) ++ B))).length = n := by rw [← X2.out]; exact HLEN.out
                  have TL := hide (turnTL base g cap n A _ a b3 b4 sp qq (e + 1) (wA.drewN q8) hnn (by rw [← X2.out]; exact OWD.out q8) HCAP.out (by omega) F2.out (by rw [← X2.out]; exact lv_told T' (by omega)) ci HCI.out)
                  have LVM := hide (lv_mid (S2 := .node (.node (.node a qq b3) sp b4) p r1) HX.out LV1.out ⟨heb.1, by omega⟩ (by have h9 := HLEN.out; rw [HX.out] at h9; simp only [List.length_append, AT.told_length, AT.its] at h9 ⊢; omega))
                  have IT1 := hide (show wi = A.length + (AT.node (.node a qq b3) sp b4).its from (by have h9 := WI.out; simp only [AT.its] at h9 ⊢; omega))
                  have NN2 := hide (show (A ++ (AT.node (.node (.node a qq b3) sp b4) p r1).told e ++ B).length = n from (by have h9 := HLEN.out; rw [HX.out] at h9; simp only [List.length_append, AT.told_length, AT.its] at h9 ⊢; omega))
                  have RT := hide (show A ++ (AT.node (.node a qq b3) sp (.node b4 p r1)).told e ++ B = T'.step.told 0 from (by
                    rw [ST.out]
                    have h1 : AT.rot (.node a qq (.node b3 sp b4)) p r1 = AT.node (.node a qq b3) sp (.node b4 p r1) := by
                      unfold AT.rot
                      rw [if_pos HRT.out, if_pos (by simp only [AT.lean]; have := HAH.out; have := HBH.out; omega)]
                      rfl
                    rw [h1]))
                  clear hnn
                  go_wp2_with fail
                  refine TL.out.mono ?_
                  rintro e1 w5 ⟨rfl, ho5, hg5⟩
                  have O5 := hide (show OwI w5 base (.slice (some ⟨g, 0, none⟩) n cap) (A ++ (AT.node (.node (.node a qq b3) sp b4) p r1).told e ++ B) from (by rw [child_left]; exact ho5))
                  have G5 := hide (grown_trans (grown_trans HGR.out (grown_drewN wA q8 (some g))) hg5)
                  clear ho5 hg5 TL
                  go_wp2_with fail
                  refine (turnTR base g cap n A B (.node a qq b3) b4 r1 sp p e w5 NN2.out O5.out HCAP.out (by omega) HF.out LVM.out wi IT1.out).mono ?_
                  rintro e1 w6 ⟨rfl, ho6, hg6⟩
                  have O6 := hide (show OwI w6 base (.slice (some ⟨g, 0, none⟩) n cap) (T'.step.told 0) from (by rw [← RT.out]; exact ho6))
                  have G6 := hide (grown_trans G5.out hg6)
                  clear ho6 hg6
                  go_wp2
                  go_roundw
                  case rel => exact ⟨r + 1, m2, T'.step, by go_num, by have := M2.out; omega, SI.out, FX2.out, O6.out, G6.out⟩
                  case measure => simp [intOf]; omega
              · have hab' : ¬ (ah : Int) < (bh : Int) := by omega
                have IT1 := hide (show wi = A.length + (AT.node a qq b2).its from WI.out)
                have RT := hide (show A ++ (AT.node a qq (.node b2 p r1)).told e ++ B = T'.step.told 0 from (by
                  rw [ST.out]
                  have h1 : AT.rot (.node a qq b2) p r1 = AT.node a qq (.node b2 p r1) := by
                    unfold AT.rot
                    rw [if_pos HRT.out, if_neg (by simp only [AT.lean]; have := HAH.out; have := HBH.out; omega)]
                    rfl
                  rw [h1]))
                have TR := hide (turnTR base g cap n A B a b2 r1 qq p e (wA.drewN q8) (by rw [← HX.out]; exact HLEN.out) (by rw [← HX.out]; exact OWD.out q8) HCAP.out (by omega) HF.out (by rw [← HX.out]; exact lv_told T' (by omega)) wi IT1.out)
                go_wp2_with fail
                refine TR.out.mono ?_
                rintro e1 w6 ⟨rfl, ho6, hg6⟩
                have O6 := hide (show OwI w6 base (.slice (some ⟨g, 0, none⟩) n cap) (T'.step.told 0) from (by rw [← RT.out]; exact ho6))
                have G6 := hide (grown_trans (grown_trans HGR.out (grown_drewN wA q8 (some g))) hg6)
                clear ho6 hg6
                go_wp2
                go_roundw
                case rel => exact ⟨r + 1, m2, T'.step, by go_num, by have := M2.out; omega, SI.out, FX2.out, O6.out, G6.out⟩
                case measure => simp [intOf]; omega
          · have hrt' : ¬ (r1.ht : Int) < (l.ht : Int) := by omega
            have hun2 : l.ht + 2 ≤ r1.ht := by omega
            cases r1 with
            | nil => simp [AT.ht] at hun2
            | node b2 qq c2 =>
              obtain ⟨A', hA'⟩ : ∃ A', A' = A ++ l.told (e + 1) ++ [⟨p, e⟩] := ⟨_, rfl⟩
              have hX2 : T'.told 0 = A' ++ (AT.node b2 qq c2).told (e + 1) ++ B := by rw [hA']; exact HX.out.trans (child_right _ _ _ _ _ _)
              have hf2 : AT.Fit A' B (e + 1) := by rw [hA']; exact HF.out.ofRight
              have hAl : A'.length = wi + 1 := by rw [hA']; simp only [List.length_append, AT.told_length, List.length_cons, List.length_nil]; have := WI.out; omega
              have hAL2 : A'.length + (AT.node b2 qq c2).its = A.length + li := by have h1 := HLI.out; have h2 := WI.out; simp only [AT.its] at h1 ⊢; omega
              have hsub : Sub (T'.told 0) (wi + 1) (A'.length + b2.its) (A.length + li) (e + 1) := by
                have h9 := Sub.of (l := b2) (r := c2) (p := qq) hf2
                rw [← hX2, hAL2, hAl] at h9; rw [hAl]; exact h9
              have SUB := hide hsub
              have X2 := hide hX2
              have F2 := hide hf2
              have R3 := hide (fun q => RGT.out A' _ b2 c2 qq (e + 1) q hX2 hf2 (A'.length + b2.its) rfl)
              have L3 := hide (fun q => HTL.out A' _ b2 c2 qq (e + 1) q hX2 (A'.length + b2.its) rfl)
              have R4 := hide (fun q => HTR.out A' _ b2 c2 qq (e + 1) q hX2 (A'.length + b2.its) rfl)
              rw [hAL2] at R3 R4
              have CR := hide (show A ++ (AT.node l p (.node b2 qq c2)).told e ++ B = A' ++ (AT.node b2 qq c2).told (e + 1) ++ B from (by rw [hA']; exact child_right _ _ _ _ _ _))
              have CR2 := hide (fun r' => show A ++ (AT.node l p r').told e ++ B = A' ++ r'.told (e + 1) ++ B from (by rw [hA']; exact child_right _ _ _ _ _ _))
              obtain ⟨la, hla⟩ : ∃ la, la = A.length := ⟨_, rfl⟩
              obtain ⟨lb, hlb⟩ : ∃ lb, lb = A'.length := ⟨_, rfl⟩
              obtain ⟨ci, hcie⟩ : ∃ ci, ci = A'.length + b2.its := ⟨_, rfl⟩
              rw [← hcie] at R3 L3 R4 SUB
              rw [← hlb] at R3 L3
              rw [← hla] at R3 R4 SUB k1 k2 k3
              have HLA := hide hla
              have HCI := hide hcie
              obtain ⟨lh, hlh⟩ : ∃ x, x = l.ht := ⟨_, rfl⟩
              rw [← hlh] at hrt'
              simp only [← hla, ← hlh]
              obtain ⟨rh, hrh⟩ : ∃ x, x = (AT.node b2 qq c2).ht := ⟨_, rfl⟩
              rw [← hrh] at hrt'
              simp only [← hrh]
              obtain ⟨bh, hbh⟩ : ∃ x, x = b2.ht := ⟨_, rfl⟩
              rw [← hbh] at L3
              have HBH := hide hbh
              obtain ⟨ch, hch⟩ : ∃ x, x = c2.ht := ⟨_, rfl⟩
              rw [← hch] at R4
              have HCH := hide hch
              have HRT := hide hrt
              have j1 : lb ≤ n := by omega
              have j2 : (ci : Int) < (n : Int) := by have h9 := hsub.ih; rw [← hcie] at h9; omega
              clear hX2 hf2 hsub hla hlb hcie hrt hhl hhr hun hun2 hlh hrh hbh hch hA' hAl hAL2
              go_wp2_with fail
              refine (CHT.out q2 _ (wi + 1) (la + li) (by omega) k1 (by rw [HLEN.out]; exact k2)).mono ?_
              rintro e1 w1 ⟨c, rfl, hc, q3, rfl⟩
              have hcc : ci = c := (Am.root SUB.out hc).symm
              subst hcc
              rw [World.drewN_drewN]
              generalize q2 + q3 = q6
              clear hc
              go_wp2_with fail
              refine (R3.out q6).mono ?_
              rintro e1 w1 ⟨rfl, q7, rfl⟩
              rw [World.drewN_drewN]
              generalize q6 + q7 = q8
              go_wp2_with fail
              refine (R4.out q8).mono ?_
              rintro e1 w1 ⟨rfl, rfl⟩
              go_wp2_with fail
              refine (L3.out q8).mono ?_
              rintro e1 w1 ⟨rfl, rfl⟩
              clear R3 L3 R4 CHT RGT HTL HTR HRD
              by_cases hab : ch < bh
              · have hab' : (ch : Int) < (bh : Int) := by omega
                cases b2 with
                | nil => have h9 := HBH.out; simp [AT.ht] at h9; omega
                | node b3 sp b4 =>
                  have hnn : (A' ++ (AT.node (.node b3 sp b4) qq c2).told (e + 1) ++ B).length = n := by rw [← X2.out]; exact HLEN.out
                  have TR := hide (turnTR base g cap n A' B b3 b4 c2 sp qq (e + 1) (wA.drewN q8) hnn (by rw [← X2.out]; exact OWD.out q8) HCAP.out (by omega) F2.out (by rw [← X2.out]; exact lv_told T' (by omega)) ci HCI.out)
                  have LVM := hide (lv_mid (S2 := .node l p (.node b3 sp (.node b4 qq c2))) HX.out LV1.out ⟨heb.1, by omega⟩ (by have h9 := HLEN.out; rw [HX.out] at h9; simp only [List.length_append, AT.told_length, AT.its] at h9 ⊢; omega))
                  have NN2 := hide (show (A ++ (AT.node l p (.node b3 sp (.node b4 qq c2))).told e ++ B).length = n from (by have h9 := HLEN.out; rw [HX.out] at h9; simp only [List.length_append, AT.told_length, AT.its] at h9 ⊢; omega))
                  have RT := hide (show A ++ (AT.node (.node l p b3) sp (.node b4 qq c2)).told e ++ B = T'.step.told 0 from (by
                    rw [ST.out]
                    have h1 : AT.rot l p (.node (.node b3 sp b4) qq c2) = AT.node (.node l p b3) sp (.node b4 qq c2) := by
                      unfold AT.rot
                      rw [if_neg HRT.out, if_pos (by simp only [AT.lean]; have := HCH.out; have := HBH.out; omega)]
                      rfl
                    rw [h1]))
                  clear hnn
                  go_wp2_with fail
                  refine TR.out.mono ?_
                  rintro e1 w5 ⟨rfl, ho5, hg5⟩
                  have O5 := hide (show OwI w5 base (.slice (some ⟨g, 0, none⟩) n cap) (A ++ (AT.node l p (.node b3 sp (.node b4 qq c2))).told e ++ B) from (by rw [CR2.out]; exact ho5))
                  have G5 := hide (grown_trans (grown_trans HGR.out (grown_drewN wA q8 (some g))) hg5)
                  clear ho5 hg5 TR
                  go_wp2_with fail
                  refine (turnTL base g cap n A B l b3 (.node b4 qq c2) sp p e w5 NN2.out O5.out HCAP.out (by omega) HF.out LVM.out wi WI.out).mono ?_
                  rintro e1 w6 ⟨rfl, ho6, hg6⟩
                  have O6 := hide (show OwI w6 base (.slice (some ⟨g, 0, none⟩) n cap) (T'.step.told 0) from (by rw [← RT.out]; exact ho6))
                  have G6 := hide (grown_trans G5.out hg6)
                  clear ho6 hg6
                  go_wp2
                  go_roundw
                  case rel => exact ⟨r + 1, m2, T'.step, by go_num, by have := M2.out; omega, SI.out, FX2.out, O6.out, G6.out⟩
                  case measure => simp [intOf]; omega
              · have hab' : ¬ (ch : Int) < (bh : Int) := by omega
                have RT := hide (show A ++ (AT.node (.node l p b2) qq c2).told e ++ B = T'.step.told 0 from (by
                  rw [ST.out]
                  have h1 : AT.rot l p (.node b2 qq c2) = AT.node (.node l p b2) qq c2 := by
                    unfold AT.rot
                    rw [if_neg HRT.out, if_neg (by simp only [AT.lean]; have := HCH.out; have := HBH.out; omega)]
                    rfl
                  rw [h1]))
                have TL := hide (turnTL base g cap n A B l b2 c2 qq p e (wA.drewN q8) (by rw [← HX.out]; exact HLEN.out) (by rw [← HX.out]; exact OWD.out q8) HCAP.out (by omega) HF.out (by rw [← HX.out]; exact lv_told T' (by omega)) wi WI.out)
                go_wp2_with fail
                refine TL.out.mono ?_
                rintro e1 w6 ⟨rfl, ho6, hg6⟩
                have O6 := hide (show OwI w6 base (.slice (some ⟨g, 0, none⟩) n cap) (T'.step.told 0) from (by rw [← RT.out]; exact ho6))
                have G6 := hide (grown_trans (grown_trans HGR.out (grown_drewN wA q8 (some g))) hg6)
                clear ho6 hg6
                go_wp2
                go_roundw
                case rel => exact ⟨r + 1, m2, T'.step, by go_num, by have := M2.out; omega, SI.out, FX2.out, O6.out, G6.out⟩
                case measure => simp [intOf]; omega
end Go.Proofs.YtbgngikejgihgagGreatDoor
