import Derived.Test.YtmpclndnjjhijadDoorProg
import Derived.Test.YtmpclndnjjhijadDoorForm
import Derived.WalkKit
import Derived.WalkLawsBesides
namespace Go.Proofs.YtmpclndnjjhijadDoor
open Go Go.RowKit
set_option linter.unusedVariables false

theorem Tryd.infoD : (Tryd.prog.info? 5).map (fun i => (i.zero, i.size, i.bytes)) = some (some (.int .u8 0), 1, 1) := by kernel_rfl

def base0 (q : List Int) (s : Int) : List Int := if q.length = 1 then q ++ [s] else q
theorem ext_eq (q : List Int) (t : Nat) (s : Int) : ext q t s = base0 q s ++ List.replicate (t - (base0 q s).length) 128 := rfl
theorem base0_len (q : List Int) (s : Int) (h : 1 ≤ q.length) : (base0 q s).length = if q.length = 1 then 2 else q.length := by
  unfold base0; split
  · simp; omega
  · rfl
theorem rd_all {w : World} {b off cap : Nat} {q : List Int} (hc : ∀ i, i < q.length → w.cell? ⟨b, off + i, none⟩ = some (.int .u8 (q.getD i 0))) :
    ∀ j u, (ints .u8 q)[j]? = some u → w.cell? ((⟨b, off, none⟩ : Addr).add j) = some u := by
  have := cut_cells (o := 0) (l := q.length) hc
  simpa using this
def lenOf : Value → Nat | .slice _ n _ => n | _ => 0
theorem owns_shape {w : World} {base : Nat} {e : TypeId} {v : Value} {n : Nat} {xs : List Value} (h : w.ownsRow base e 1 v n xs) (hn : 0 < n) : ∃ g cap, v = .slice (some ⟨g, 0, none⟩) n cap := by
  rcases h.2 with ⟨_, h0⟩ | ⟨g, cap, cur, hv, _⟩
  · omega
  · exact ⟨g, cap, hv⟩
theorem rep_snoc (xs : List Int) (j : Nat) : xs ++ List.replicate j 128 ++ [128] = xs ++ List.replicate (j + 1) 128 := by
  rw [List.append_assoc, List.replicate_succ']
theorem base0_bytes {q : List Int} {s : Int} (hq : bytes q) (h0 : 0 ≤ s) (h1 : s ≤ 255) : bytes (base0 q s) := by
  unfold base0; split
  · intro z hz
    rcases List.mem_append.1 hz with h | h
    · exact hq z h
    · simp at h; subst h; exact ⟨h0, h1⟩
  · exact hq
theorem ext_bytes {q : List Int} {t : Nat} {s : Int} (hq : bytes q) (h0 : 0 ≤ s) (h1 : s ≤ 255) : bytes (ext q t s) := by
  rw [ext_eq]
  intro z hz
  rcases List.mem_append.1 hz with h | h
  · exact base0_bytes hq h0 h1 z h
  · have := List.eq_of_mem_replicate h; subst this; omega

set_option maxHeartbeats 4000000 in
set_option maxRecDepth 100000 in
theorem l1Begins1 (a : Int) (v : Value) (w : World) (h : Rd .u8 w v [a]) (hb : bytes [a]) :
    Calls Tryd.prog 35 #[v] w fun e w' => ∃ r : Bool, e = .returned (.bool r) ∧ (r = true ↔ begOk [a]) ∧ Below w.heap.size w w' := by
  obtain ⟨i0, hi, hz0, hz1, hz2⟩ := info_parts Tryd.infoD
  rcases h with ⟨_, _, _, e⟩ | ⟨b, off, cap, rfl, hp, hc⟩
  · cases e
  have hcB : b < w.heap.size := World.block_lt_of_cell? w _ (hc 0 hp.1)
  have HQ := hide (fun (W : World) (hW : Below w.heap.size w W) => rd_all (cap := cap) (w := W) (q := [a]) (fun i hi => (hW.cell (p := ⟨b, off + i, none⟩) hcB).trans (hc i hi)))
  have HBQ := hide hb
  clear hc hb hp
  rw [show ([a] : List Int).length = 1 from rfl]
  go_enter Tryd.func35, Tryd.ntmps35
  go_wp2
  go_loopw [3] (fun i wr => ∃ t : Nat, 1 < t ∧ t ≤ 5 ∧ i = .int .i64 t ∧ (∀ (t' : Nat) (s : Int), 1 < t' → t' < t → 128 ≤ s → s < 192 → (1 < 1 → s = 128) → formOk (ext [a] t' s) = false) ∧ Below w.heap.size w wr)
    (fun i _ => 5 - (intOf i).toNat)
  case atStart => exact ⟨1 + 1, by omega, by omega, by go_num, fun t' s h1 h2 => by omega, Below.refl _ _⟩
  case round =>
    obtain ⟨t, ht1, ht2, rfl, hno, hbw⟩ := hrel
    have HNO := hide hno
    have HBW := hide hbw
    clear hno hbw
    by_cases hlt : t ≤ 4
    · have hdt : decide ((t : Int) ≤ 4) = true := by simp; omega
      go_wp2
      obtain ⟨wo, rfl⟩ : ∃ wo : World, wo = wr := ⟨_, rfl⟩
      go_loopw [4] (fun i wx => ∃ s : Nat, 128 ≤ s ∧ s ≤ 192 ∧ (1 < 1 → s = 128) ∧ i = .int .i64 s ∧ (∀ s' : Int, 128 ≤ s' → s' < s → formOk (ext [a] t s') = false) ∧ Below w.heap.size w wx)
        (fun i _ => 192 - (intOf i).toNat)
      case atStart => exact ⟨128, by omega, by omega, fun _ => rfl, rfl, fun s' h1 h2 => by omega, HBW.out⟩
      case round =>
        obtain ⟨s, hs1, hs2, hs3, rfl, hnos, hbx⟩ := hrel
        have HNS := hide hnos
        have HBX := hide hbx
        have hsz := hbx.size
        have HS3 := hide hs3
        clear hnos hbx hs3
        by_cases hs : s < 192
        · have HEB := hide (ext_bytes (t := t) HBQ.out (show (0 : Int) ≤ s by omega) (show (s : Int) ≤ 255 by omega))
          have HE := hide (show ext [a] t s = [a, (s : Int)] ++ List.replicate (t - 2) 128 by rw [ext_eq]; rfl)
          have HC1 := hide (HQ.out (wr.alloc (.cells #[] 5)) (HBX.out.alloc hsz _))
          have HW0 := hide (World.ownsRow_made (base := w.heap.size) (e := 5) (size := 1) wr #[] 0 hsz (Nat.zero_le _) rfl)
          go_wp2_with (first
            | (at_builtin; have _t := HC1; refine wpList_append_own _ rfl _ _ 22 rfl w.heap.size 5 i0 (.int .u8 0) 1 1 Tryd.underlying22 hi hz0 hz1 hz2 rfl (by decide) _ 0 [] rfl HW0.out ⟨b, off, none⟩ 1 cap (ints .u8 [a]) rfl (by simp [ints]) HC1.out (ints_one _ _) (by unfold maxLen; omega) (by omega) (by simp; omega) ?_; intro v1 w1 ho1 hg1 _; clear HC1; rw [Nat.zero_add, List.nil_append] at ho1; obtain ⟨g1, cp1, rfl⟩ := owns_shape ho1 (by omega); have HO1 := hide ho1; have HB1 := hide ((HBX.out.alloc hsz _).grown hg1 (by simp; omega) (fun k hk => by cases hk; exact hsz)); have hs1 := HB1.out.size; clear ho1 hg1)
            | (at_builtin; refine wpList_append_own _ rfl _ _ 22 rfl w.heap.size 5 i0 (.int .u8 0) 1 1 Tryd.underlying22 hi hz0 hz1 hz2 rfl (by decide) _ _ _ rfl (HO1.out.alloc _) ⟨w1.heap.size, 0, none⟩ 1 1 [.int .u8 s] rfl rfl (newcells w1 5 [.int .u8 s]) (ints_one .u8 [(s : Int)]) (by unfold maxLen; omega) (by omega) (by simp; omega) ?_; intro v2 w2 ho2 hg2 _; obtain ⟨g2, cp2, rfl⟩ := owns_shape ho2 (by omega)))
          have HB2 := hide ((HB1.out.alloc hs1 _).grown hg2 (by simp; omega) (fun k hk => (HO1.out.lt k hk).1))
          have HO2 := hide (show w2.ownsRow w.heap.size 5 1 (.slice (some ⟨g2, 0, none⟩) 2 cp2) 2 (ints .u8 [a, (s : Int)]) from ho2)
          clear ho2 hg2
          obtain ⟨wp, rfl⟩ : ∃ wp : World, wp = wr := ⟨_, rfl⟩
          go_loopw [5] (fun x wy => ∃ j g cp : Nat, 2 + j ≤ t ∧ x = .slice (some ⟨g, 0, none⟩) (2 + j) cp ∧ wy.ownsRow w.heap.size 5 1 (.slice (some ⟨g, 0, none⟩) (2 + j) cp) (2 + j) (ints .u8 ([a, (s : Int)] ++ List.replicate j 128)) ∧ Below w.heap.size w wy)
            (fun x _ => t - lenOf x)
          case atStart => exact ⟨0, _, _, by omega, rfl, by simpa using HO2.out, HB2.out⟩
          case round =>
            obtain ⟨j, g3, cp3, hj, rfl, ho3, hb3⟩ := hrel
            have HO3 := hide ho3
            have HB3 := hide hb3
            have hs3 := hb3.size
            clear ho3 hb3
            by_cases hjt : 2 + j < t
            · go_wp2_with (at_builtin; refine wpList_append_own _ rfl _ _ 22 rfl w.heap.size 5 i0 (.int .u8 0) 1 1 Tryd.underlying22 hi hz0 hz1 hz2 rfl (by decide) _ _ _ rfl (HO3.out.alloc _) ⟨wr.heap.size, 0, none⟩ 1 1 [.int .u8 128] rfl rfl (newcells wr 5 [.int .u8 128]) (ints_one .u8 [128]) (by unfold maxLen; omega) (by omega) (by simp; omega) ?_; intro v4 w4 ho4 hg4 _; obtain ⟨g4, cp4, rfl⟩ := owns_shape ho4 (by omega))
              have HB4 := hide ((HB3.out.alloc hs3 _).grown hg4 (by simp; omega) (fun k hk => (HO3.out.lt k hk).1))
              have e4 : ints .u8 ([a, (s : Int)] ++ List.replicate j 128) ++ [.int .u8 128] = ints .u8 ([a, (s : Int)] ++ List.replicate (j + 1) 128) := by rw [← rep_snoc]; simp [ints]
              rw [e4] at ho4
              have HO4 := hide ho4
              clear ho4 hg4 e4
              go_wp2
              go_roundw
              case rel => exact ⟨j + 1, g4, cp4, by omega, rfl, HO4.out, HB4.out⟩
              case measure => simp [lenOf]; omega
            · have HX := hide (show wr.ownsRow w.heap.size 5 1 (.slice (some ⟨g3, 0, none⟩) (2 + j) cp3) (2 + j) (ints .u8 (ext [a] t s)) by
                rw [HE.out, show t - 2 = j by omega]; exact HO3.out)
              have hel : (ext [a] t s).length = t := by have := HX.out.1; rw [ints_length] at this; omega
              have hel1 : 1 ≤ (ext [a] t s).length := by omega
              have hel4 : (ext [a] t s).length ≤ 4 := by omega
              clear hel
              go_wp2_with fail
              refine (l1Form (ext [a] t s) _ _ (Rd.of_owns HX.out) HEB.out hel1 hel4).mono ?_
              rintro e w5 ⟨n5, rfl, -, hb5⟩
              have HB5 := hide (HB3.out.trans (hb5.mono hs3))
              clear hb5
              cases hok : formOk (ext [a] t s) with
              | true =>
                go_wp2
                go_ret
                exact ⟨true, rfl, ⟨fun _ => ⟨t, s, ht1, hlt, by omega, by omega, fun hh => by have := HS3.out hh; omega, hok⟩, fun _ => rfl⟩, HB5.out⟩
              | false =>
                have HOK := hide hok
                clear hok
                go_wp2
                go_roundw
                case rel =>
                  have hnx : ∀ s' : Int, 128 ≤ s' → s' < ((s + 1 : Nat) : Int) → formOk (ext [a] t s') = false := fun s' g1 g2 => by
                    by_cases g3 : s' = s
                    · rw [g3]; exact HOK.out
                    · exact HNS.out s' g1 (by omega)
                  exact ⟨s + 1, by omega, by omega, fun hh => by omega, by go_num, hnx, HB5.out⟩
                case measure => simp [intOf]; omega
        · obtain rfl : s = 192 := by omega
          go_wp2
          go_roundw
          case rel => exact ⟨t + 1, by omega, by omega, by go_num, fun t' s' g1 g2 g3 g4 g5 => by
            by_cases g6 : t' = t
            · subst g6; exact HNS.out s' g3 (by omega)
            · exact HNO.out t' s' g1 (by omega) g3 g4 g5, HBX.out⟩
          case measure => simp [intOf]; omega
    · go_wp2
      go_ret
      refine ⟨false, rfl, ⟨(fun h => by cases h), ?_⟩, HBW.out⟩
      rintro ⟨t', s, g1, g2, g3, g4, g5, g6⟩
      rw [HNO.out t' s g1 (by omega) g3 g4 g5] at g6
      cases g6

set_option maxHeartbeats 4000000 in
set_option maxRecDepth 100000 in
theorem l1BeginsN (q : List Int) (v : Value) (w : World) (h : Rd .u8 w v q) (hb : bytes q) (h2 : 2 ≤ q.length) (h3 : q.length ≤ 3) :
    Calls Tryd.prog 35 #[v] w fun e w' => ∃ r : Bool, e = .returned (.bool r) ∧ (r = true ↔ begOk q) ∧ Below w.heap.size w w' := by
  obtain ⟨i0, hi, hz0, hz1, hz2⟩ := info_parts Tryd.infoD
  rcases h with ⟨_, _, _, e⟩ | ⟨b, off, cap, rfl, hp, hc⟩
  · subst e; simp at h2
  have hcB : b < w.heap.size := World.block_lt_of_cell? w _ (hc 0 hp.1)
  have HQ := hide (fun (W : World) (hW : Below w.heap.size w W) => rd_all (cap := cap) (w := W) (q := q) (fun i hi => (hW.cell (p := ⟨b, off + i, none⟩) hcB).trans (hc i hi)))
  have HBQ := hide hb
  clear hc hb hp
  go_enter Tryd.func35, Tryd.ntmps35
  go_wp2
  go_loopw [3] (fun i wr => ∃ t : Nat, q.length < t ∧ t ≤ 5 ∧ i = .int .i64 t ∧ (∀ (t' : Nat) (s : Int), q.length < t' → t' < t → 128 ≤ s → s < 192 → (1 < q.length → s = 128) → formOk (ext q t' s) = false) ∧ Below w.heap.size w wr)
    (fun i _ => 5 - (intOf i).toNat)
  case atStart => exact ⟨q.length + 1, by omega, by omega, by go_num, fun t' s h1 h2 => by omega, Below.refl _ _⟩
  case round =>
    obtain ⟨t, ht1, ht2, rfl, hno, hbw⟩ := hrel
    have HNO := hide hno
    have HBW := hide hbw
    clear hno hbw
    by_cases hlt : t ≤ 4
    · have hdt : decide ((t : Int) ≤ 4) = true := by simp; omega
      go_wp2
      obtain ⟨wo, rfl⟩ : ∃ wo : World, wo = wr := ⟨_, rfl⟩
      go_loopw [4] (fun i wx => ∃ s : Nat, 128 ≤ s ∧ s ≤ 192 ∧ (1 < q.length → s = 128) ∧ i = .int .i64 s ∧ (∀ s' : Int, 128 ≤ s' → s' < s → formOk (ext q t s') = false) ∧ Below w.heap.size w wx)
        (fun i _ => 192 - (intOf i).toNat)
      case atStart => exact ⟨128, by omega, by omega, fun _ => rfl, rfl, fun s' h1 h2 => by omega, HBW.out⟩
      case round =>
        obtain ⟨s, hs1, hs2, hs3, rfl, hnos, hbx⟩ := hrel
        have HNS := hide hnos
        have HBX := hide hbx
        have hsz := hbx.size
        have HS3 := hide hs3
        clear hnos hbx hs3
        by_cases hs : s < 192
        · have HEB := hide (ext_bytes (t := t) HBQ.out (show (0 : Int) ≤ s by omega) (show (s : Int) ≤ 255 by omega))
          have HE := hide (show ext q t s = q ++ List.replicate (t - q.length) 128 by rw [ext_eq]; unfold base0; rw [if_neg (by omega)])
          have HC1 := hide (HQ.out (wr.alloc (.cells #[] 5)) (HBX.out.alloc hsz _))
          have HW0 := hide (World.ownsRow_made (base := w.heap.size) (e := 5) (size := 1) wr #[] 0 hsz (Nat.zero_le _) rfl)
          have hne1 : ((q.length : Int) == 1) = false := by simp; omega
          go_wp2_with (at_builtin; have _t := HC1; refine wpList_append_own _ rfl _ _ 22 rfl w.heap.size 5 i0 (.int .u8 0) 1 1 Tryd.underlying22 hi hz0 hz1 hz2 rfl (by decide) _ 0 [] rfl HW0.out ⟨b, off, none⟩ q.length cap (ints .u8 q) rfl (by simp [ints]) HC1.out (ints_one _ _) (by unfold maxLen; omega) (by omega) (by simp; omega) ?_; intro v1 w1 ho1 hg1 _; clear HC1; rw [Nat.zero_add, List.nil_append] at ho1; obtain ⟨g1, cp1, rfl⟩ := owns_shape ho1 (by omega); have HO1 := hide ho1; have HB1 := hide ((HBX.out.alloc hsz _).grown hg1 (by simp; omega) (fun k hk => by cases hk; exact hsz)); have hs1 := HB1.out.size; clear ho1 hg1)
          obtain ⟨wp, rfl⟩ : ∃ wp : World, wp = wr := ⟨_, rfl⟩
          go_loopw [5] (fun x wy => ∃ j g cp : Nat, q.length + j ≤ t ∧ x = .slice (some ⟨g, 0, none⟩) (q.length + j) cp ∧ wy.ownsRow w.heap.size 5 1 (.slice (some ⟨g, 0, none⟩) (q.length + j) cp) (q.length + j) (ints .u8 (q ++ List.replicate j 128)) ∧ Below w.heap.size w wy)
            (fun x _ => t - lenOf x)
          case atStart => exact ⟨0, _, _, by omega, rfl, by simpa using HO1.out, HB1.out⟩
          case round =>
            obtain ⟨j, g3, cp3, hj, rfl, ho3, hb3⟩ := hrel
            have HO3 := hide ho3
            have HB3 := hide hb3
            have hs3 := hb3.size
            clear ho3 hb3
            by_cases hjt : q.length + j < t
            · go_wp2_with (at_builtin; refine wpList_append_own _ rfl _ _ 22 rfl w.heap.size 5 i0 (.int .u8 0) 1 1 Tryd.underlying22 hi hz0 hz1 hz2 rfl (by decide) _ _ _ rfl (HO3.out.alloc _) ⟨wr.heap.size, 0, none⟩ 1 1 [.int .u8 128] rfl rfl (newcells wr 5 [.int .u8 128]) (ints_one .u8 [128]) (by unfold maxLen; omega) (by omega) (by simp; omega) ?_; intro v4 w4 ho4 hg4 _; obtain ⟨g4, cp4, rfl⟩ := owns_shape ho4 (by omega))
              have HB4 := hide ((HB3.out.alloc hs3 _).grown hg4 (by simp; omega) (fun k hk => (HO3.out.lt k hk).1))
              have e4 : ints .u8 (q ++ List.replicate j 128) ++ [.int .u8 128] = ints .u8 (q ++ List.replicate (j + 1) 128) := by rw [← rep_snoc]; simp [ints]
              rw [e4] at ho4
              have HO4 := hide ho4
              clear ho4 hg4 e4
              go_wp2
              go_roundw
              case rel => exact ⟨j + 1, g4, cp4, by omega, rfl, HO4.out, HB4.out⟩
              case measure => simp [lenOf]; omega
            · have HX := hide (show wr.ownsRow w.heap.size 5 1 (.slice (some ⟨g3, 0, none⟩) (q.length + j) cp3) (q.length + j) (ints .u8 (ext q t s)) by
                rw [HE.out, show t - q.length = j by omega]; exact HO3.out)
              have hel : (ext q t s).length = t := by have := HX.out.1; rw [ints_length] at this; omega
              have hel1 : 1 ≤ (ext q t s).length := by omega
              have hel4 : (ext q t s).length ≤ 4 := by omega
              clear hel
              go_wp2_with fail
              refine (l1Form (ext q t s) _ _ (Rd.of_owns HX.out) HEB.out hel1 hel4).mono ?_
              rintro e w5 ⟨n5, rfl, -, hb5⟩
              have HB5 := hide (HB3.out.trans (hb5.mono hs3))
              clear hb5
              cases hok : formOk (ext q t s) with
              | true =>
                go_wp2
                go_ret
                exact ⟨true, rfl, ⟨fun _ => ⟨t, s, ht1, hlt, by omega, by omega, fun hh => by have := HS3.out hh; omega, hok⟩, fun _ => rfl⟩, HB5.out⟩
              | false =>
                have HOK := hide hok
                clear hok
                have hg1 : (1 : Int) < (q.length : Int) := by omega
                go_wp2
                go_roundw
                case rel => exact ⟨t + 1, by omega, by omega, by go_num, fun t' s' g1 g2 g3 g4 g5 => by
                  by_cases g6 : t' = t
                  · subst g6
                    have e1 : s' = 128 := g5 (by omega)
                    have e2 : s = 128 := HS3.out (by omega)
                    subst e2
                    rw [e1]; exact HOK.out
                  · exact HNO.out t' s' g1 (by omega) g3 g4 g5, HB5.out⟩
                case measure => simp [intOf]; omega
        · obtain rfl : s = 192 := by omega
          have := HS3.out (by omega)
          omega
    · go_wp2
      go_ret
      refine ⟨false, rfl, ⟨(fun h => by cases h), ?_⟩, HBW.out⟩
      rintro ⟨t', s, g1, g2, g3, g4, g5, g6⟩
      rw [HNO.out t' s g1 (by omega) g3 g4 g5] at g6
      cases g6

theorem l1Begins (q : List Int) (v : Value) (w : World) (h : Rd .u8 w v q) (hb : bytes q) (h1 : 1 ≤ q.length) (h3 : q.length ≤ 3) :
    Calls Tryd.prog 35 #[v] w fun e w' => ∃ r : Bool, e = .returned (.bool r) ∧ (r = true ↔ begOk q) ∧ Below w.heap.size w w' := by
  by_cases hq : q.length = 1
  · obtain ⟨a, rfl⟩ := List.length_eq_one_iff.1 hq
    exact l1Begins1 a v w h hb
  · exact l1BeginsN q v w h hb (by omega) h3
end Go.Proofs.YtmpclndnjjhijadDoor
