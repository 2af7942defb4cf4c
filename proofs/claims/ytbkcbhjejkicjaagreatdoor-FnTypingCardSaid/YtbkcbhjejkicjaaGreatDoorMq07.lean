import Derived.Test.YtbkcbhjejkicjaaGreatDoorMq06
namespace Go.Proofs.YtbkcbhjejkicjaaGreatDoor
open Go Go.RowKit
set_option linter.unusedVariables false

theorem Tryz.infoD : (Tryz.prog.info? 5).map (fun i => (i.zero, i.size, i.bytes)) = some (some (.int .u8 0), 1, 1) := by kernel_rfl

def base0 (q : List Int) (s : Int) : List Int := if q.length = 1 then q ++ [s] else q
theorem ext_eq (q : List Int) (t : Nat) (s : Int) : ext q t s = base0 q s ++ List.replicate (t - (base0 q s).length) 128 := rfl
theorem rd_all {w : World} {b off cap : Nat} {q : List Int} (hc : ∀ i, i < q.length → w.cell? ⟨b, off + i, none⟩ = some (.int .u8 (q.getD i 0))) :
    ∀ j u, (ints .u8 q)[j]? = some u → w.cell? ((⟨b, off, none⟩ : Addr).add j) = some u := by
  have := cut_cells (o := 0) (l := q.length) hc
  simpa using this
def lenOf : Value → Nat | .slice _ n _ => n | _ => 0
theorem owns_shape {w : World} {base : Nat} {e : TypeId} {v : Value} {n : Nat} {xs : List Value} (h : w.ownsRow base e 1 v n xs) (hn : 0 < n) : ∃ g cap, v = .slice (some ⟨g, 0, none⟩) n cap := by
  rcases h.2 with ⟨_, h0⟩ | ⟨g, cap, cur, hv, _⟩
  · omega
  · exact ⟨g, cap, hv⟩
theorem rep_snoc (xs : List Int) (j : Nat) : xs ++ List.replicate j 128 ++ [128] = xs ++ List.replicate (j + 1) 128 := by
  rw [List.append_assoc, List.replicate_succ']
theorem base0_bytes {q : List Int} {s : Int} (hq : bytes q) (h0 : 0 ≤ s) (h1 : s ≤ 255) : bytes (base0 q s) := by
  unfold base0; split
  · intro z hz
    rcases List.mem_append.1 hz with h | h
    · exact hq z h
    · simp at h; subst h; exact ⟨h0, h1⟩
  · exact hq
theorem ext_bytes {q : List Int} {t : Nat} {s : Int} (hq : bytes q) (h0 : 0 ≤ s) (h1 : s ≤ 255) : bytes (ext q t s) := by
  rw [ext_eq]
  intro z hz
  rcases List.mem_append.1 hz with h | h
  · exact base0_bytes hq h0 h1 z h
  · have := List.eq_of_mem_replicate h; subst this; omega

set_option maxHeartbeats 4000000 in
set_option maxRecDepth 100000 in
theorem l1Begins1 (a : Int) (v : Value) (w : World) (h : Rd .u8 w v [a]) (hb : bytes [a]) :
    Calls Tryz.prog 100 #[v] w fun e w' => ∃ r : Bool, e = .returned (.bool r) ∧ (r = true ↔ begOk [a]) ∧ Below w.heap.size w w' := by
  obtain ⟨i0, hi, hz0, hz1, hz2⟩ := info_parts Tryz.infoD
  rcases h with ⟨_, _, _, e⟩ | ⟨b, off, cap, rfl, hp, hc⟩
  · cases e
  have hcB : b < w.heap.size := World.block_lt_of_cell? w _ (hc 0 hp.1)
  have HQ := hide (fun (W : World) (hW : Below w.heap.size w W) => rd_all (cap := cap) (w := W) (q := [a]) (fun i hi => (hW.cell (p := ⟨b, off + i, none⟩) hcB).trans (hc i hi)))
  have HBQ := hide hb
  clear hc hb hp
  rw [show ([a] : List Int).length = 1 from rfl]
  go_enter Tryz.func100, Tryz.ntmps100
  go_wp2
  go_loopw [3] (fun i wr => ∃ t : Nat, 1 < t ∧ t ≤ 5 ∧ i = .int .i64 t ∧ (∀ (t' : Nat) (s : Int), 1 < t' → t' < t → 128 ≤ s → s < 192 → (1 < 1 → s = 128) → formOk (ext [a] t' s) = false) ∧ Below w.heap.size w wr)
    (fun i _ => 5 - (intOf i).toNat)
  case atStart => exact ⟨1 + 1, by omega, by omega, by go_num, fun t' s h1 h2 => by omega, Below.refl _ _⟩
  case round =>
    obtain ⟨t, ht1, ht2, rfl, hno, hbw⟩ := hrel
    have HNO := hide hno
    have HBW := hide hbw
    clear hno hbw
    by_cases hlt : t ≤ 4
    · have hdt : decide ((t : Int) ≤ 4) = true := by simp; omega
      go_wp2
      obtain ⟨wo, rfl⟩ : ∃ wo : World, wo = wr := ⟨_, rfl⟩
      go_loopw [4] (fun i wx => ∃ s : Nat, 128 ≤ s ∧ s ≤ 192 ∧ (1 < 1 → s = 128) ∧ i = .int .i64 s ∧ (∀ s' : Int, 128 ≤ s' → s' < s → formOk (ext [a] t s') = false) ∧ Below w.heap.size w wx)
        (fun i _ => 192 - (intOf i).toNat)
      case atStart => exact ⟨128, by omega, by omega, fun _ => rfl, rfl, fun s' h1 h2 => by omega, HBW.out⟩
      case round =>
        obtain ⟨s, hs1, hs2, hs3, rfl, hnos, hbx⟩ := hrel
        have HNS := hide hnos
        have HBX := hide hbx
        have hsz := hbx.size
        have HS3 := hide hs3
        clear hnos hbx hs3
        by_cases hs : s < 192
        · have HEB := hide (ext_bytes (t := t) HBQ.out (show (0 : Int) ≤ s by omega) (show (s : Int) ≤ 255 by omega))
          have HE := hide (show ext [a] t s = [a, (s : Int)] ++ List.replicate (t - 2) 128 by rw [ext_eq]; rfl)
          have HC1 := hide (HQ.out (wr.alloc (.cells #[] 5)) (HBX.out.alloc hsz _))
          have HW0 := hide (World.ownsRow_made (base := w.heap.size) (e := 5) (size := 1) wr #[] 0 hsz (Nat.zero_le _) rfl)
          go_wp2_with (first
            | (at_builtin; have _t := HC1; refine wpList_append_own _ rfl _ _ 22 rfl w.heap.size 5 i0 (.int .u8 0) 1 1 Tryz.underlying22 hi hz0 hz1 hz2 rfl (by decide) _ 0 [] rfl HW0.out ⟨b, off, none⟩ 1 cap (ints .u8 [a]) rfl (by simp [ints]) HC1.out (ints_one _ _) (by unfold maxLen; omega) (by omega) (by simp; omega) ?_; intro v1 w1 ho1 hg1 _; clear HC1; rw [Nat.zero_add, List.nil_append] at ho1; obtain ⟨g1, cp1, rfl⟩ := owns_shape ho1 (by omega); have HO1 := hide ho1; have HB1 := hide ((HBX.out.alloc hsz _).grown hg1 (by simp; omega) (fun k hk => by cases hk; exact hsz)); have hs1 := HB1.out.size; clear ho1 hg1)
            | (at_builtin; refine wpList_append_own _ rfl _ _ 22 rfl w.heap.size 5 i0 (.int .u8 0) 1 1 Tryz.underlying22 hi hz0 hz1 hz2 rfl (by decide) _ _ _ rfl (HO1.out.alloc _) ⟨w1.heap.size, 0, none⟩ 1 1 [.int .u8 s] rfl rfl (newcells w1 5 [.int .u8 s]) (ints_one .u8 [(s : Int)]) (by unfold maxLen; omega) (by omega) (by simp; omega) ?_; intro v2 w2 ho2 hg2 _; obtain ⟨g2, cp2, rfl⟩ := owns_shape ho2 (by omega)))
          have HB2 := hide ((HB1.out.alloc hs1 _).grown hg2 (by simp; omega) (fun k hk => (HO1.out.lt k hk).1))
          have HO2 := hide (show w2.ownsRow w.heap.size 5 1 (.slice (some ⟨g2, 0, none⟩) 2 cp2) 2 (ints .u8 [a, (s : Int)]) from ho2)
          clear ho2 hg2
          obtain ⟨wp, rfl⟩ : ∃ wp : World, wp = wr := ⟨_, rfl⟩
          go_loopw [5] (fun x wy => ∃ j g cp : Nat, 2 + j ≤ t ∧ x = .slice (some ⟨g, 0, none⟩) (2 + j) cp ∧ wy.ownsRow w.heap.size 5 1 (.slice (some ⟨g, 0, none⟩) (2 + j) cp) (2 + j) (ints .u8 ([a, (s : Int)] ++ List.replicate j 128)) ∧ Below w.heap.size w wy)
            (fun x _ => t - lenOf x)
          case atStart => exact ⟨0, _, _, by omega, rfl, by simpa using HO2.out, HB2.out⟩
          case round =>
            obtain ⟨j, g3, cp3, hj, rfl, ho3, hb3⟩ := hrel
            have HO3 := hide ho3
            have HB3 := hide hb3
            have hs3 := hb3.size
            clear ho3 hb3
            by_cases hjt : 2 + j < t
            · go_wp2_with (at_builtin; refine wpList_append_own _ rfl _ _ 22 rfl w.heap.size 5 i0 (.int .u8 0) 1 1 Tryz.underlying22 hi hz0 hz1 hz2 rfl (by decide) _ _ _ rfl (HO3.out.alloc _) ⟨wr.heap.size, 0, none⟩ 1 1 [.int .u8 128] rfl rfl (newcells wr 5 [.int .u8 128]) (ints_one .u8 [128]) (by unfold maxLen; omega) (by omega) (by simp; omega) ?_; intro v4 w4 ho4 hg4 _; obtain ⟨g4, cp4, rfl⟩ := owns_shape ho4 (by omega))
              have HB4 := hide ((HB3.out.alloc hs3 _).grown hg4 (by simp; omega) (fun k hk => (HO3.out.lt k hk).1))
              have e4 : ints .u8 ([a, (s : Int)] ++ List.replicate j 128) ++ [.int .u8 128] = ints .u8 ([a, (s : Int)] ++ List.replicate (j + 1) 128) := by rw [← rep_snoc]; simp [ints]
              rw [e4] at ho4
              have HO4 := hide ho4
              clear ho4 hg4 e4
              go_wp2
              go_roundw
              case rel => exact ⟨j + 1, g4, cp4, by omega, rfl, HO4.out, HB4.out⟩
              case measure => simp [lenOf]; omega
            · have HX := hide (show wr.ownsRow w.heap.size 5 1 (.slice (some ⟨g3, 0, none⟩) (2 + j) cp3) (2 + j) (ints .u8 (ext [a] t s)) by
                rw [HE.out, show t - 2 = j by omega]; exact HO3.out)
              have hel : (ext [a] t s).length = t := by have := HX.out.1; rw [ints_length] at this; omega
              have hel1 : 1 ≤ (ext [a] t s).length := by omega
              have hel4 : (ext [a] t s).length ≤ 4 := by omega
              clear hel
              go_wp2_with fail
              refine (l1Form (ext [a] t s) _ _ (Rd.of_owns HX.out) HEB.out hel1 hel4).mono ?_
              rintro e w5 ⟨n5, rfl, -, hb5⟩
              have HB5 := hide (HB3.out.trans (hb5.mono hs3))
              clear hb5
              cases hok : formOk (ext [a] t s) with
              | true =>
                go_wp2
                go_ret
                exact ⟨true, rfl, ⟨fun _ => ⟨t, s, ht1, hlt, by omega, by omega, fun hh => by have := HS3.out hh; omega, hok⟩, fun _ => rfl⟩, HB5.out⟩
              | false =>
                have HOK := hide hok
                clear hok
                go_wp2
                go_roundw
                case rel =>
                  have hnx : ∀ s' : Int, 128 ≤ s' → s' < ((s + 1 : Nat) : Int) → formOk (ext [a] t s') = false := fun s' g1 g2 => by
                    by_cases g3 : s' = s
                    · rw [g3]; exact HOK.out
                    · exact HNS.out s' g1 (by omega)
                  exact ⟨s + 1, by omega, by omega, fun hh => by omega, by go_num, hnx, HB5.out⟩
                case measure => simp [intOf]; omega
        · obtain rfl : s = 192 := by omega
          go_wp2
          go_roundw
          case rel => exact ⟨t + 1, by omega, by omega, by go_num, fun t' s' g1 g2 g3 g4 g5 => by
            by_cases g6 : t' = t
            · subst g6; exact HNS.out s' g3 (by omega)
            · exact HNO.out t' s' g1 (by omega) g3 g4 g5, HBX.out⟩
          case measure => simp [intOf]; omega
    · go_wp2
      go_ret
      refine ⟨false, rfl, ⟨(fun h => by cases h), ?_⟩, HBW.out⟩
      rintro ⟨t', s, g1, g2, g3, g4, g5, g6⟩
      rw [HNO.out t' s g1 (by omega) g3 g4 g5] at g6
      cases g6

set_option maxHeartbeats 4000000 in
set_option maxRecDepth 100000 in
theorem l1BeginsN (q : List Int) (v : Value) (w : World) (h : Rd .u8 w v q) (hb : bytes q) (h2 : 2 ≤ q.length) (h3 : q.length ≤ 3) :
    Calls Tryz.prog 100 #[v] w fun e w' => ∃ r : Bool, e = .returned (.bool r) ∧ (r = true ↔ begOk q) ∧ Below w.heap.size w w' := by
  obtain ⟨i0, hi, hz0, hz1, hz2⟩ := info_parts Tryz.infoD
  rcases h with ⟨_, _, _, e⟩ | ⟨b, off, cap, rfl, hp, hc⟩
  · subst e; simp at h2
  have hcB : b < w.heap.size := World.block_lt_of_cell? w _ (hc 0 hp.1)
  have HQ := hide (fun (W : World) (hW : Below w.heap.size w W) => rd_all (cap := cap) (w := W) (q := q) (fun i hi => (hW.cell (p := ⟨b, off + i, none⟩) hcB).trans (hc i hi)))
  have HBQ := hide hb
  clear hc hb hp
  go_enter Tryz.func100, Tryz.ntmps100
  go_wp2
  go_loopw [3] (fun i wr => ∃ t : Nat, q.length < t ∧ t ≤ 5 ∧ i = .int .i64 t ∧ (∀ (t' : Nat) (s : Int), q.length < t' → t' < t → 128 ≤ s → s < 192 → (1 < q.length → s = 128) → formOk (ext q t' s) = false) ∧ Below w.heap.size w wr)
    (fun i _ => 5 - (intOf i).toNat)
  case atStart => exact ⟨q.length + 1, by omega, by omega, by go_num, fun t' s h1 h2 => by omega, Below.refl _ _⟩
  case round =>
    obtain ⟨t, ht1, ht2, rfl, hno, hbw⟩ := hrel
    have HNO := hide hno
    have HBW := hide hbw
    clear hno hbw
    by_cases hlt : t ≤ 4
    · have hdt : decide ((t : Int) ≤ 4) = true := by simp; omega
      go_wp2
      obtain ⟨wo, rfl⟩ : ∃ wo : World, wo = wr := ⟨_, rfl⟩
      go_loopw [4] (fun i wx => ∃ s : Nat, 128 ≤ s ∧ s ≤ 192 ∧ (1 < q.length → s = 128) ∧ i = .int .i64 s ∧ (∀ s' : Int, 128 ≤ s' → s' < s → formOk (ext q t s') = false) ∧ Below w.heap.size w wx)
        (fun i _ => 192 - (intOf i).toNat)
      case atStart => exact ⟨128, by omega, by omega, fun _ => rfl, rfl, fun s' h1 h2 => by omega, HBW.out⟩
      case round =>
        obtain ⟨s, hs1, hs2, hs3, rfl, hnos, hbx⟩ := hrel
        have HNS := hide hnos
        have HBX := hide hbx
        have hsz := hbx.size
        have HS3 := hide hs3
        clear hnos hbx hs3
        by_cases hs : s < 192
        · have HEB := hide (ext_bytes (t := t) HBQ.out (show (0 : Int) ≤ s by omega) (show (s : Int) ≤ 255 by omega))
          have HE := hide (show ext q t s = q ++ List.replicate (t - q.length) 128 by rw [ext_eq]; unfold base0; rw [if_neg (by omega)])
          have HC1 := hide (HQ.out (wr.alloc (.cells #[] 5)) (HBX.out.alloc hsz _))
          have HW0 := hide (World.ownsRow_made (base := w.heap.size) (e := 5) (size := 1) wr #[] 0 hsz (Nat.zero_le _) rfl)
          have hne1 : ((q.length : Int) == 1) = false := by simp; omega
          go_wp2_with (at_builtin; have _t := HC1; refine wpList_append_own _ rfl _ _ 22 rfl w.heap.size 5 i0 (.int .u8 0) 1 1 Tryz.underlying22 hi hz0 hz1 hz2 rfl (by decide) _ 0 [] rfl HW0.out ⟨b, off, none⟩ q.length cap (ints .u8 q) rfl (by simp [ints]) HC1.out (ints_one _ _) (by unfold maxLen; omega) (by omega) (by simp; omega) ?_; intro v1 w1 ho1 hg1 _; clear HC1; rw [Nat.zero_add, List.nil_append] at ho1; obtain ⟨g1, cp1, rfl⟩ := owns_shape ho1 (by omega); have HO1 := hide ho1; have HB1 := hide ((HBX.out.alloc hsz _).grown hg1 (by simp; omega) (fun k hk => by cases hk; exact hsz)); have hs1 := HB1.out.size; clear ho1 hg1)
          obtain ⟨wp, rfl⟩ : ∃ wp : World, wp = wr := ⟨_, rfl⟩
          go_loopw [5] (fun x wy => ∃ j g cp : Nat, q.length + j ≤ t ∧ x = .slice (some ⟨g, 0, none⟩) (q.length + j) cp ∧ wy.ownsRow w.heap.size 5 1 (.slice (some ⟨g, 0, none⟩) (q.length + j) cp) (q.length + j) (ints .u8 (q ++ List.replicate j 128)) ∧ Below w.heap.size w wy)
            (fun x _ => t - lenOf x)
          case atStart => exact ⟨0, _, _, by omega, rfl, by simpa using HO1.out, HB1.out⟩
          case round =>
            obtain ⟨j, g3, cp3, hj, rfl, ho3, hb3⟩ := hrel
            have HO3 := hide ho3
            have HB3 := hide hb3
            have hs3 := hb3.size
            clear ho3 hb3
            by_cases hjt : q.length + j < t
            · go_wp2_with (at_builtin; refine wpList_append_own _ rfl _ _ 22 rfl w.heap.size 5 i0 (.int .u8 0) 1 1 Tryz.underlying22 hi hz0 hz1 hz2 rfl (by decide) _ _ _ rfl (HO3.out.alloc _) ⟨wr.heap.size, 0, none⟩ 1 1 [.int .u8 128] rfl rfl (newcells wr 5 [.int .u8 128]) (ints_one .u8 [128]) (by unfold maxLen; omega) (by omega) (by simp; omega) ?_; intro v4 w4 ho4 hg4 _; obtain ⟨g4, cp4, rfl⟩ := owns_shape ho4 (by omega))
              have HB4 := hide ((HB3.out.alloc hs3 _).grown hg4 (by simp; omega) (fun k hk => (HO3.out.lt k hk).1))
              have e4 : ints .u8 (q ++ List.replicate j 128) ++ [.int .u8 128] = ints .u8 (q ++ List.replicate (j + 1) 128) := by rw [← rep_snoc]; simp [ints]
              rw [e4] at ho4
              have HO4 := hide ho4
              clear ho4 hg4 e4
              go_wp2
              go_roundw
              case rel => exact ⟨j + 1, g4, cp4, by omega, rfl, HO4.out, HB4.out⟩
              case measure => simp [lenOf]; omega
            · have HX := hide (show wr.ownsRow w.heap.size 5 1 (.slice (some ⟨g3, 0, none⟩) (q.length + j) cp3) (q.length + j) (ints .u8 (ext q t s)) by
                rw [HE.out, show t - q.length = j by omega]; exact HO3.out)
              have hel : (ext q t s).length = t := by have := HX.out.1; rw [ints_length] at this; omega
              have hel1 : 1 ≤ (ext q t s).length := by omega
              have hel4 : (ext q t s).length ≤ 4 := by omega
              clear hel
              go_wp2_with fail
              refine (l1Form (ext q t s) _ _ (Rd.of_owns HX.out) HEB.out hel1 hel4).mono ?_
              rintro e w5 ⟨n5, rfl, -, hb5⟩
              have HB5 := hide (HB3.out.trans (hb5.mono hs3))
              clear hb5
              cases hok : formOk (ext q t s) with
              | true =>
                go_wp2
                go_ret
                exact ⟨true, rfl, ⟨fun _ => ⟨t, s, ht1, hlt, by omega, by omega, fun hh => by have := HS3.out hh; omega, hok⟩, fun _ => rfl⟩, HB5.out⟩
              | false =>
                have HOK := hide hok
                clear hok
                have hg1 : (1 : Int) < (q.length : Int) := by omega
                go_wp2
                go_roundw
                case rel => exact ⟨t + 1, by omega, by omega, by go_num, fun t' s' g1 g2 g3 g4 g5 => by
                  by_cases g6 : t' = t
                  · subst g6
                    have e1 : s' = 128 := g5 (by omega)
                    have e2 : s = 128 := HS3.out (by omega)
                    subst e2
                    rw [e1]; exact HOK.out
                  · exact HNO.out t' s' g1 (by omega) g3 g4 g5, HB5.out⟩
                case measure => simp [intOf]; omega
        · obtain rfl : s = 192 := by omega
          have := HS3.out (by omega)
          omega
    · go_wp2
      go_ret
      refine ⟨false, rfl, ⟨(fun h => by cases h), ?_⟩, HBW.out⟩
      rintro ⟨t', s, g1, g2, g3, g4, g5, g6⟩
      rw [HNO.out t' s g1 (by omega) g3 g4 g5] at g6
      cases g6

theorem l1Begins (q : List Int) (v : Value) (w : World) (h : Rd .u8 w v q) (hb : bytes q) (h1 : 1 ≤ q.length) (h3 : q.length ≤ 3) :
    Calls Tryz.prog 100 #[v] w fun e w' => ∃ r : Bool, e = .returned (.bool r) ∧ (r = true ↔ begOk q) ∧ Below w.heap.size w w' := by
  by_cases hq : q.length = 1
  · obtain ⟨a, rfl⟩ := List.length_eq_one_iff.1 hq
    exact l1Begins1 a v w h hb
  · exact l1BeginsN q v w h hb (by omega) h3
end Go.Proofs.YtbkcbhjejkicjaaGreatDoor

namespace Go.Proofs.YtbkcbhjejkicjaaGreatDoor
open Go Go.RowKit
set_option linter.unusedVariables false

theorem step_ascii {a : Int} {r : List Int} (h : a < 128) : step (a :: r) = (a, 1) := by
  rcases shape (show a :: r ≠ [] by simp) with ⟨x, e⟩ | ⟨x, y, e⟩ | ⟨x, y, z, e⟩ | ⟨x, y, z, u, q, e⟩
  all_goals
    cases e
    simp [step, h]

theorem rd_take {w : World} {b off cap k : Nat} {bs : List Int} (hc : ∀ i, i < bs.length → w.cell? ⟨b, off + i, none⟩ = some (.int .u8 (bs.getD i 0))) (h1 : 1 ≤ k) (hk : k ≤ bs.length) (hcp : bs.length ≤ cap) (hcm : cap ≤ maxLen) : Rd .u8 w (.slice (some ⟨b, off, none⟩) k cap) (bs.take k) := by
  have hl : (bs.take k).length = k := by rw [List.length_take]; omega
  refine .inr ⟨b, off, cap, by rw [hl], ⟨by omega, by omega, hcm⟩, fun i hi => ?_⟩
  rw [hc i (by omega), List.getD_eq_getElem?_getD, List.getD_eq_getElem?_getD, List.getElem?_take, if_pos (by omega)]

theorem bytes_take {bs : List Int} (h : bytes bs) (k : Nat) : bytes (bs.take k) := fun z hz => h z (List.mem_of_mem_take hz)

set_option maxHeartbeats 4000000 in
set_option maxRecDepth 100000 in
theorem l1Step (bs : List Int) (v : Value) (w : World) (h : Rd .u8 w v bs) (hb : bytes bs) (hne : bs ≠ []) (hn : bs.length ≤ 1048576) :
    Calls Tryz.prog 75 #[v] w fun e w' => e = .returned (.tuple #[.int .i32 (step bs).1, .int .i64 (step bs).2]) ∧ Below w.heap.size w w' := by
  have hpos : 0 < bs.length := List.length_pos_iff.2 hne
  rcases h with ⟨_, _, _, e⟩ | ⟨b, off, cap, rfl, ⟨hp, hcp, hcm⟩, hc⟩
  · exact absurd e hne
  have hcB : b < w.heap.size := World.block_lt_of_cell? w _ (hc 0 hp)
  have hb0 := hb (bs.getD 0 0) (by rw [List.getD_eq_getElem?_getD, List.getElem?_eq_getElem hp]; simp)
  have hx0 : w.cell? ⟨b, off, none⟩ = some (.int .u8 (bs.getD 0 0)) := hc 0 hp
  have hs0 : bs.getD 0 0 < 128 → step bs = (bs.getD 0 0, 1) := by
    cases bs with
    | nil => exact absurd rfl hne
    | cons a r => exact fun h => step_ascii h
  have HS0 := hide hs0
  generalize bs.getD 0 0 = a at hx0 hb0 HS0
  obtain ⟨ha0, ha1⟩ := hb0
  clear hs0
  have hp' : (0 : Int) < (bs.length : Int) := by omega
  by_cases hasc : a < 128
  · rw [HS0.out hasc]
    go_enter Tryz.func75, Tryz.ntmps75
    go_wp2
    go_ret2
    exact ⟨rfl, Below.refl _ _⟩
  · have HRD := hide (fun (W : World) (hW : Below w.heap.size w W) (k : Nat) (h1 : 1 ≤ k) (hk : k ≤ bs.length) => rd_take (w := W) (k := k) (fun i hi => (hW.cell (p := ⟨b, off + i, none⟩) hcB).trans (hc i hi)) h1 hk hcp hcm)
    have HBY := hide hb
    have HNE := hide hne
    unfold maxLen at hcm
    clear hc hb hne HS0
    go_enter Tryz.func75, Tryz.ntmps75
    go_wp2
    go_loopw [4] (fun i wr => ∃ k : Nat, 1 ≤ k ∧ k ≤ 5 ∧ k ≤ bs.length + 1 ∧ i = .int .i64 k ∧ (∀ j, 1 ≤ j → j < k → formOk (bs.take j) = false) ∧ Below w.heap.size w wr) (fun i _ => 5 - (intOf i).toNat)
    case atStart => exact ⟨1, by omega, by omega, by omega, rfl, fun j h1 h2 => by omega, Below.refl _ _⟩
    case round =>
      obtain ⟨k, hk1, hk5, hkl, rfl, hno, hbw⟩ := hrel
      have HNO := hide hno
      have HBW := hide hbw
      have hsz := hbw.size
      clear hno hbw
      by_cases hk : k ≤ 4 ∧ k ≤ bs.length
      · obtain ⟨hk4, hkb⟩ := hk
        have hg1 : (k : Int) ≤ 4 := by omega
        have hg2 : (k : Int) ≤ (bs.length : Int) := by omega
        have hlt : (bs.take k).length = k := by rw [List.length_take]; omega
        have HLT := hide hlt
        clear hlt
        go_wp2_with fail
        refine (l1Form (bs.take k) _ _ (HRD.out wr HBW.out k hk1 hkb) (bytes_take HBY.out k) (by rw [HLT.out]; omega) (by rw [HLT.out]; omega)).mono ?_
        rintro e w1 ⟨n, rfl, hn1, hb1⟩
        have HB1 := hide (HBW.out.trans (hb1.mono hsz))
        cases hok : formOk (bs.take k) with
        | true =>
          have hst := step_form HBY.out hk1 hk4 hkb hok HNO.out
          have hbd := numZ_le HBY.out hok
          rw [← hn1 hok] at hst hbd
          obtain ⟨hbd0, hbd1⟩ := hbd
          have HST := hide hst
          clear hst hb1 hn1 hok
          go_wp2
          go_ret2
          exact ⟨by rw [HST.out]; rfl, HB1.out⟩
        | false =>
          have HOK := hide hok
          clear hok hb1 hn1
          go_wp2
          go_roundw
          case rel =>
            have hnx : ∀ j, 1 ≤ j → j < k + 1 → formOk (bs.take j) = false := fun j g1 g2 => by
              by_cases g3 : j = k
              · rw [g3]; exact HOK.out
              · exact HNO.out j g1 (by omega)
            exact ⟨k + 1, by omega, by omega, by omega, by go_num, hnx, HB1.out⟩
          case measure => simp [intOf]; omega
      · have HNF := hide (show ∀ j, 1 ≤ j → j ≤ 4 → j ≤ bs.length → formOk (bs.take j) = false from fun j g1 g2 g3 => HNO.out j g1 (by omega))
        have hex : ¬ ((k : Int) ≤ 4) ∨ ((k : Int) ≤ 4 ∧ ¬ (k : Int) ≤ (bs.length : Int)) := by omega
        clear HNO
        rcases hex with hex | ⟨hex1, hex2⟩
        · go_wp2
          go_loopw [7, 8] (fun tk i wr => ∃ k m : Nat, 1 ≤ k ∧ k ≤ 4 ∧ k ≤ bs.length + 1 ∧ 1 ≤ m ∧ m ≤ 3 ∧ m ≤ bs.length ∧ tk = .int .i64 m ∧ i = .int .i64 k ∧ (m = 1 ∨ begOk (bs.take m)) ∧ (∀ j, m < j → j < k → ¬ begOk (bs.take j)) ∧ Below w.heap.size w wr) (fun _ i _ => 4 - (intOf i).toNat)
          case atStart => exact ⟨1, 1, by omega, by omega, by omega, by omega, by omega, by omega, rfl, rfl, .inl rfl, fun j h1 h2 => by omega, HBW.out⟩
          case round =>
            obtain ⟨k, m, hk1, hk5, hkl, hm1, hm3, hml, rfl, rfl, hm, hmax, hbw⟩ := hrel
            have HM := hide hm
            have HMX := hide hmax
            have HBX := hide hbw
            have hsy := hbw.size
            clear hm hmax hbw
            by_cases hk : k ≤ 3 ∧ k ≤ bs.length
            · obtain ⟨hk4, hkb⟩ := hk
              have hg1 : (k : Int) ≤ 3 := by omega
              have hg2 : (k : Int) ≤ (bs.length : Int) := by omega
              have HLT := hide (show (bs.take k).length = k by rw [List.length_take]; omega)
              go_wp2_with fail
              refine (l1Begins (bs.take k) _ _ (HRD.out wr HBX.out k hk1 hkb) (bytes_take HBY.out k) (by rw [HLT.out]; omega) (by rw [HLT.out]; omega)).mono ?_
              rintro e w1 ⟨r, rfl, hr, hb1⟩
              have HB1 := hide (HBX.out.trans (hb1.mono hsy))
              have HR := hide hr
              clear hb1 hr
              cases r with
              | true =>
                have HBG := hide (HR.out.1 rfl)
                clear HR
                go_wp2
                go_roundw
                case rel => exact ⟨k + 1, k, by omega, by omega, by omega, by omega, by omega, by omega, rfl, by go_num, .inr HBG.out, fun j g1 g2 => by omega, HB1.out⟩
                case measure => simp [intOf]; omega
              | false =>
                have HBG := hide (show ¬ begOk (bs.take k) from fun hh => by have := HR.out.2 hh; cases this)
                clear HR
                go_wp2
                go_roundw
                case rel =>
                  have hnx : ∀ j, m < j → j < k + 1 → ¬ begOk (bs.take j) := fun j g1 g2 => by
                    by_cases g3 : j = k
                    · rw [g3]; exact HBG.out
                    · exact HMX.out j g1 (by omega)
                  exact ⟨k + 1, m, by omega, by omega, by omega, by omega, by omega, by omega, rfl, by go_num, HM.out, hnx, HB1.out⟩
                case measure => simp [intOf]; omega
            · have HST := hide (step_rep HBY.out HNE.out HNF.out hm1 hm3 hml HM.out (fun j g1 g2 g3 => HMX.out j g1 (by omega)))
              have hex : ¬ ((k : Int) ≤ 3) ∨ ((k : Int) ≤ 3 ∧ ¬ (k : Int) ≤ (bs.length : Int)) := by omega
              rcases hex with hex | ⟨hex1, hex2⟩
              · go_wp2
                go_ret2
                exact ⟨by rw [HST.out]; rfl, HBX.out⟩
              · go_wp2
                go_ret2
                exact ⟨by rw [HST.out]; rfl, HBX.out⟩
        · go_wp2
          go_loopw [7, 8] (fun tk i wr => ∃ k m : Nat, 1 ≤ k ∧ k ≤ 4 ∧ k ≤ bs.length + 1 ∧ 1 ≤ m ∧ m ≤ 3 ∧ m ≤ bs.length ∧ tk = .int .i64 m ∧ i = .int .i64 k ∧ (m = 1 ∨ begOk (bs.take m)) ∧ (∀ j, m < j → j < k → ¬ begOk (bs.take j)) ∧ Below w.heap.size w wr) (fun _ i _ => 4 - (intOf i).toNat)
          case atStart => exact ⟨1, 1, by omega, by omega, by omega, by omega, by omega, by omega, rfl, rfl, .inl rfl, fun j h1 h2 => by omega, HBW.out⟩
          case round =>
            obtain ⟨k, m, hk1, hk5, hkl, hm1, hm3, hml, rfl, rfl, hm, hmax, hbw⟩ := hrel
            have HM := hide hm
            have HMX := hide hmax
            have HBX := hide hbw
            have hsy := hbw.size
            clear hm hmax hbw
            by_cases hk : k ≤ 3 ∧ k ≤ bs.length
            · obtain ⟨hk4, hkb⟩ := hk
              have hg1 : (k : Int) ≤ 3 := by omega
              have hg2 : (k : Int) ≤ (bs.length : Int) := by omega
              have HLT := hide (show (bs.take k).length = k by rw [List.length_take]; omega)
              go_wp2_with fail
              refine (l1Begins (bs.take k) _ _ (HRD.out wr HBX.out k hk1 hkb) (bytes_take HBY.out k) (by rw [HLT.out]; omega) (by rw [HLT.out]; omega)).mono ?_
              rintro e w1 ⟨r, rfl, hr, hb1⟩
              have HB1 := hide (HBX.out.trans (hb1.mono hsy))
              have HR := hide hr
              clear hb1 hr
              cases r with
              | true =>
                have HBG := hide (HR.out.1 rfl)
                clear HR
                go_wp2
                go_roundw
                case rel => exact ⟨k + 1, k, by omega, by omega, by omega, by omega, by omega, by omega, rfl, by go_num, .inr HBG.out, fun j g1 g2 => by omega, HB1.out⟩
                case measure => simp [intOf]; omega
              | false =>
                have HBG := hide (show ¬ begOk (bs.take k) from fun hh => by have := HR.out.2 hh; cases this)
                clear HR
                go_wp2
                go_roundw
                case rel =>
                  have hnx : ∀ j, m < j → j < k + 1 → ¬ begOk (bs.take j) := fun j g1 g2 => by
                    by_cases g3 : j = k
                    · rw [g3]; exact HBG.out
                    · exact HMX.out j g1 (by omega)
                  exact ⟨k + 1, m, by omega, by omega, by omega, by omega, by omega, by omega, rfl, by go_num, HM.out, hnx, HB1.out⟩
                case measure => simp [intOf]; omega
            · have HST := hide (step_rep HBY.out HNE.out HNF.out hm1 hm3 hml HM.out (fun j g1 g2 g3 => HMX.out j g1 (by omega)))
              have hex : ¬ ((k : Int) ≤ 3) ∨ ((k : Int) ≤ 3 ∧ ¬ (k : Int) ≤ (bs.length : Int)) := by omega
              rcases hex with hex | ⟨hex1, hex2⟩
              · go_wp2
                go_ret2
                exact ⟨by rw [HST.out]; rfl, HBX.out⟩
              · go_wp2
                go_ret2
                exact ⟨by rw [HST.out]; rfl, HBX.out⟩
end Go.Proofs.YtbkcbhjejkicjaaGreatDoor

namespace Go.Proofs.YtbkcbhjejkicjaaGreatDoor
open Go Go.RowKit
set_option linter.unusedVariables false

theorem tab_below {w w' : World} {B : Nat} (h : Tab w) (hb : Below B w w') (hB : w.heap.size ≤ B) : Tab w' := by
  obtain ⟨t, fr, hg⟩ := h
  have hlt : 1 < w.heap.size := by
    rcases Nat.lt_or_ge 1 w.heap.size with h | h
    · exact h
    · rw [Array.getElem?_eq_none h] at hg; cases hg
  exact ⟨t, fr, (hb.block 1 (by omega)).trans hg⟩

set_option maxHeartbeats 1000000 in
set_option maxRecDepth 100000 in
theorem readRune_miss (bs : List Int) (v : Value) (w : World) (h : Rd .u8 w v bs) (hT : Tab w) (hne : bs ≠ []) (hn : bs.length ≤ 1048576) (hno : ∀ j, j < 9 → ¬ (fA j ≤ bs.getD 0 0 ∧ bs.getD 0 0 ≤ fB j)) (hs : step bs = (65533, 1)) :
    Calls Tryz.prog 130 #[v] w fun e w' => e = .returned (.tuple #[.int .i32 (step bs).1, .int .i64 (step bs).2]) ∧ Below w.heap.size w w' := by
  have hpos : 0 < bs.length := List.length_pos_iff.2 hne
  rcases h with ⟨_, _, _, e⟩ | ⟨b, off, cap, rfl, ⟨hp, hcp, hcm⟩, hc⟩
  · exact absurd e hne
  have hx : w.cell? ⟨b, off, none⟩ = some (.int .u8 (bs.getD 0 0)) := hc 0 hp
  have HF := hide (formOf_miss (bs.getD 0 0) w hT hno)
  generalize bs.getD 0 0 = a at *
  have hp' : (0 : Int) < (bs.length : Int) := by omega
  rw [hs]
  clear hc hno hT hs hne
  go_enter Tryz.func130, Tryz.ntmps130
  go_wp2_with fail
  refine HF.out.mono ?_
  rintro e w1 ⟨rfl, hb1⟩
  have HB1 := hide hb1
  have hs1 := hb1.size
  have hz : Value.agg zeroV = .agg #[.int .u8 0, .int .u8 0, .int .u8 0, .int .u8 0, .int .i64 0, .int .u8 0] := rfl
  rw [hz]
  clear hb1 hz
  go_wp2
  go_ret2
  exact ⟨rfl, HB1.out.alloc hs1 _⟩

set_option maxHeartbeats 1000000 in
set_option maxRecDepth 100000 in
theorem readRune_row (k sz : Nat) (hk : k < 9) (hsz : fE k = sz) (hs14 : 1 ≤ sz ∧ sz ≤ 4) (bs : List Int) (v : Value) (w : World) (h : Rd .u8 w v bs) (hT : Tab w) (hne : bs ≠ []) (hn : bs.length ≤ 1048576)
    (ha : fA k ≤ bs.getD 0 0 ∧ bs.getD 0 0 ≤ fB k) (hno : ∀ j, j < k → ¬ (fA j ≤ bs.getD 0 0 ∧ bs.getD 0 0 ≤ fB j))
    (hrep : ∀ n, 1 ≤ n → n < sz → n ≤ bs.length → (∀ i, 1 ≤ i → i < n → i < bs.length ∧ inr (fC k) (fD k) i (bs.getD i 0)) → (n = bs.length ∨ ¬ inr (fC k) (fD k) n (bs.getD n 0)) → step bs = (65533, n))
    (hfull : (∀ i, 1 ≤ i → i < sz → i < bs.length ∧ inr (fC k) (fD k) i (bs.getD i 0)) → sz ≤ bs.length → (step bs).2 = sz ∧ ∀ W, Below w.heap.size w W → Calls Tryz.prog 149 #[.agg #[.int .u8 (fA k), .int .u8 (fB k), .int .u8 (fC k), .int .u8 (fD k), .int .i64 sz, .int .u8 (fF k)], v] W fun e w' => e = .returned (.int .i32 (step bs).1) ∧ Below W.heap.size W w') :
    Calls Tryz.prog 130 #[v] w fun e w' => e = .returned (.tuple #[.int .i32 (step bs).1, .int .i64 (step bs).2]) ∧ Below w.heap.size w w' := by
  have hpos : 0 < bs.length := List.length_pos_iff.2 hne
  have HRD := hide h
  have HNE := hide hne
  rcases h with ⟨_, _, _, e⟩ | ⟨b, off, cap, rfl, ⟨hp, hcp, hcm⟩, hc⟩
  · exact absurd e hne
  have hx : w.cell? ⟨b, off, none⟩ = some (.int .u8 (bs.getD 0 0)) := hc 0 hp
  have HF := hide (formOf_hit (bs.getD 0 0) k hk w hT ha hno)
  generalize bs.getD 0 0 = a at *
  have hp' : (0 : Int) < (bs.length : Int) := by omega
  have HREP := hide hrep
  have HFULL := hide hfull
  have HSZ := hide hsz
  clear hc hno hT ha hrep hfull hne hsz
  go_enter Tryz.func130, Tryz.ntmps130
  go_wp2_with fail
  refine HF.out.mono ?_
  rintro e w1 ⟨rfl, hb1⟩
  have HB1 := hide hb1
  have hs1 := hb1.size
  have hrow : Value.agg (rowV k) = .agg #[.int .u8 (fA k), .int .u8 (fB k), .int .u8 (fC k), .int .u8 (fD k), .int .i64 sz, .int .u8 (fF k)] := by rw [← HSZ.out]; rfl
  rw [hrow]
  clear hb1 hrow HF
  generalize fA k = xa at *
  generalize fB k = xb at *
  generalize fC k = xc at *
  generalize fD k = xd at *
  generalize fF k = xf at *
  go_wp2_with fail
  have hbB : Below w.heap.size w (w1.alloc (.cells #[.int .u8 xa, .int .u8 xb, .int .u8 xc, .int .u8 xd, .int .i64 sz, .int .u8 xf] 256)) := HB1.out.alloc hs1 _
  refine (matched xa xb xc xd xf sz bs _ _ (HRD.out.below hbB) HNE.out hn hs14).mono ?_
  rintro e w2 ⟨n, rfl, hn1, hnz, hall, hend, hnl, hb2⟩
  have HB2 := hide (hbB.trans (hb2.mono hbB.size))
  have hbk : w2.heap[w1.heap.size]? = some (.cells #[.int .u8 xa, .int .u8 xb, .int .u8 xc, .int .u8 xd, .int .i64 sz, .int .u8 xf] 256 (0, 0)) := (hb2.block w1.heap.size (by simp)).trans (heap_alloc_new _ _)
  have c0 : w2.cell? ⟨w1.heap.size, 0, none⟩ = some (.int .u8 xa) := by rw [cell_of_row w2 w1.heap.size 0 _ _ _ hbk]; rfl
  have c1 : w2.cell? ⟨w1.heap.size, 1, none⟩ = some (.int .u8 xb) := by rw [cell_of_row w2 w1.heap.size 1 _ _ _ hbk]; rfl
  have c2 : w2.cell? ⟨w1.heap.size, 2, none⟩ = some (.int .u8 xc) := by rw [cell_of_row w2 w1.heap.size 2 _ _ _ hbk]; rfl
  have c3 : w2.cell? ⟨w1.heap.size, 3, none⟩ = some (.int .u8 xd) := by rw [cell_of_row w2 w1.heap.size 3 _ _ _ hbk]; rfl
  have c4 : w2.cell? ⟨w1.heap.size, 4, none⟩ = some (.int .i64 sz) := by rw [cell_of_row w2 w1.heap.size 4 _ _ _ hbk]; rfl
  have c5 : w2.cell? ⟨w1.heap.size, 5, none⟩ = some (.int .u8 xf) := by rw [cell_of_row w2 w1.heap.size 5 _ _ _ hbk]; rfl
  have HALL := hide hall
  have HEND := hide hend
  clear hb2 hbk hbB hall hend
  by_cases hlt : n < sz
  · have HST := hide (HREP.out n hn1 hlt hnl HALL.out (HEND.out.elim (fun h => absurd h (by omega)) (fun h => h.2)))
    go_wp2
    go_ret2
    exact ⟨by rw [HST.out]; rfl, HB2.out⟩
  · obtain rfl : n = sz := by omega
    obtain ⟨hst, hch⟩ := HFULL.out HALL.out hnl
    have HCH := hide (hch w2 HB2.out)
    have HST := hide hst
    clear hst hch
    go_wp2_with fail
    refine HCH.out.mono ?_
    rintro e w3 ⟨rfl, hb3⟩
    have HB3 := hide (HB2.out.trans (hb3.mono HB2.out.size))
    clear hb3
    go_wp2
    go_ret2
    exact ⟨by rw [HST.out]; rfl, HB3.out⟩
end Go.Proofs.YtbkcbhjejkicjaaGreatDoor

