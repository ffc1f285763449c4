/- What layer 17's statements call besides: numbers, pick, the chapter's example. -/
import Derived.Test.YtdbiikllcplmgaaIsD
namespace Go.Proofs.Ytdbiikllcplmgaa
open Go.RowKit Go.Shelf
set_option linter.unusedVariables false

theorem list_ext {L M : List Int} (h : L.length = M.length) (k : ∀ i, i < L.length → L[i]? = M[i]?) : L = M := by
  apply List.ext_getElem? 
  intro i
  by_cases hi : i < L.length
  · exact k i hi
  · rw [List.getElem?_eq_none (by omega), List.getElem?_eq_none (by omega)]
set_option maxHeartbeats 1000000 in
set_option maxRecDepth 100000 in
theorem numbers_any (v u : Value) (L M : List Int) (w : World) (hv : RdI w v L) (hu : RdI w u M) (hl0 : L.length ≤ 1099511627776) (hl1 : M.length ≤ 1099511627776) :
    Calls Try.prog 10 #[v, u] w fun e W => e = .returned (.bool (decide (L = M))) ∧ Below w.heap.size w W := by
  obtain ⟨o, c, rfl, hlc, hcm, hcell⟩ := hv.form
  obtain ⟨o', c', rfl, hlc', hcm', hcell'⟩ := hu.form
  have HC : Hid _ := hcell
  have HC' : Hid _ := hcell'
  clear hv hu hcell hcell'
  by_cases hl : L.length = M.length
  · have HLL : Hid (L.length = M.length) := hl
    rw [← hl] at hlc' ⊢
    clear hl
    obtain ⟨D, hD⟩ : ∃ D, decide (L = M) = D := ⟨_, rfl⟩
    rw [hD]
    have HD : Hid _ := hD
    clear hD
    go_enter Try.func10, Try.ntmps10
    go_wp2_with (fail)
    go_loopg [5] L.length (fun gm i wr => ∃ k : Nat, i = .int .i64 (k : Int) ∧ k ≤ L.length ∧ gm = L.length - k ∧ Hid (∀ j, j < k → L[j]? = M[j]?) ∧ Hid (Below w.heap.size w wr))
    case atStart => exact ⟨0, rfl, Nat.zero_le _, rfl, fun j hj => absurd hj (by omega), Below.refl _ w⟩
    case round =>
      obtain ⟨k, rfl, hk, hgm, HN, HB⟩ := hrel
      have HG : Hid _ := hgm
      clear hgm
      by_cases hlt : k < L.length
      · obtain ⟨g, off, x, rfl, hx, x0⟩ := HC.out k hlt
        obtain ⟨g', off', y, rfl, hy, y0⟩ := HC'.out k (by rw [← HLL.out]; exact hlt)
        have x0 := c_after HB.out x0
        have y0 := c_after HB.out y0
        by_cases ex : x = y
        · subst ex
          have HE2 : Hid (∀ j, j < k + 1 → L[j]? = M[j]?) := fun j hj => by
            by_cases ej : j = k
            · subst ej; rw [hx, hy]
            · exact HN.out j (by omega)
          clear hx hy HC HC'
          go_wp2_with (fail)
          go_region
          go_wp2_with (fail)
          go_roundg (L.length - (k + 1))
          case measure => have := HG.out; omega
          case rel => exact ⟨k + 1, by go_num, by omega, rfl, HE2, HB.out.drew⟩
        · have e : D = false := by rw [← HD.out]; exact decide_eq_false (fun e => ex (by rw [e, hy] at hx; exact (Option.some.inj hx).symm))
          subst e
          have e1 : (x == y) = false := beq_eq_false_iff_ne.2 ex
          clear hx hy HC HC'
          go_wp2_with (fail)
          go_region
          go_wp2_with (fail)
          go_ret
          exact ⟨rfl, HB.out.drew⟩
      · have e : D = true := by rw [← HD.out]; exact decide_eq_true (list_ext HLL.out (fun i hi => HN.out i (by omega)))
        subst e
        go_wp2_with (fail)
        go_ret
        exact ⟨rfl, HB.out⟩
  · have hd : decide (L = M) = false := decide_eq_false (fun e => hl (by rw [e]))
    rw [hd]
    have hl' : ¬ (L.length : Int) = (M.length : Int) := by omega
    clear hd
    go_enter Try.func10, Try.ntmps10
    go_wp2_with (fail)
    go_ret
    exact ⟨rfl, Below.refl _ w⟩
def pickY (c n : Int) : Int := (if c < 0 then -(c + 1) else c) % n
theorem pickY_lo (c : Int) {n : Int} (hn : 0 < n) : 0 ≤ pickY c n := Int.emod_nonneg _ (by omega)
theorem pickY_hi (c : Int) {n : Int} (hn : 0 < n) : pickY c n < n := Int.emod_lt_of_pos _ hn
theorem npick_any (c n : Int) (w : World) (hc : -9223372036854775808 ≤ c ∧ c ≤ 9223372036854775807) (hn : 0 < n) (hn' : n ≤ 9223372036854775807) :
    Calls Try.prog 15 #[.int .i64 c, .int .i64 n] w fun e w' => e = .returned (.int .i64 (pickY c n)) ∧ w' = w := by
  unfold pickY
  by_cases h : c < 0
  · have hb : 0 ≤ -(c + 1) := by omega
    have hb' : -(c + 1) ≤ 9223372036854775807 := by omega
    have hz : (n == 0) = false := beq_eq_false_iff_ne.2 (by omega)
    rw [if_pos h]
    go_enter Try.func15, Try.ntmps15
    go_wp2
    go_ret
    have e : (c + 1).tmod n = -(-(c + 1) % n) := by
      rw [← Int.tmod_eq_emod_of_nonneg hb, Int.neg_tmod, Int.neg_neg]
    exact ⟨by rw [e, Int.neg_neg]; rfl, rfl⟩
  · have hz : (n == 0) = false := beq_eq_false_iff_ne.2 (by omega)
    rw [if_neg h]
    go_enter Try.func15, Try.ntmps15
    go_wp2
    go_ret
    exact ⟨rfl, rfl⟩
theorem ex_a : grp (cnt 5) [] [(0, 3), (3, 1), (4, 4)] = [0, 0, 2, 0, 4] := by decide +kernel
theorem ex_b : grp (cnt 5) [false, false, false, true] [(0, 3), (3, 1)] = [0, 1, 2, 3, 4] := by decide +kernel
theorem ex_c : rests [0, 0, 2] [9, 1, 5] 4 = [false, false, true] := by decide +kernel
theorem lit_l (w : World) (cs : Array Value) (n : Nat) (L : List (Int × Int)) (h : cs.toList = flat L) (hn : L.length = n) (hm : n ≤ 1000) : RdL (w.alloc (.cells cs 32)) (.slice (some ⟨w.heap.size, 0, none⟩) n n) L := by
  subst hn
  refine RdL.of_row (base := 0) ?_
  rw [← h]
  exact World.ownsRow_lit (e := 32) (size := 2) w cs L.length (Nat.zero_le _) (by unfold maxLen; omega) (by rw [← Array.length_toList, h, flat_length])
theorem lit_i (w : World) (cs : Array Value) (n : Nat) (L : List Int) (h : cs.toList = ints L) (hn : L.length = n) (hm : n ≤ 1000) : RdI (w.alloc (.cells cs 3)) (.slice (some ⟨w.heap.size, 0, none⟩) n n) L := by
  subst hn
  refine RdI.of_row (base := 0) ?_
  rw [← h]
  exact World.ownsRow_lit (e := 3) (size := 1) w cs L.length (Nat.zero_le _) (by unfold maxLen; omega) (by rw [← Array.length_toList, h, ints_length]; omega)
theorem lit_b (w : World) (cs : Array Value) (n : Nat) (L : List Bool) (h : cs.toList = bools L) (hn : L.length = n) (hm : n ≤ 1000) : RdB (w.alloc (.cells cs 4)) (.slice (some ⟨w.heap.size, 0, none⟩) n n) L := by
  subst hn
  refine RdB.of_row (base := 0) ?_
  rw [← h]
  exact World.ownsRow_lit (e := 4) (size := 1) w cs L.length (Nat.zero_le _) (by unfold maxLen; omega) (by rw [← Array.length_toList, h, bools_length]; omega)
set_option maxHeartbeats 2000000 in
set_option maxRecDepth 100000 in
theorem awake_any (w : World) : Calls Try.prog 7 #[] w fun e W => e = .returned (.bool true) ∧ Below w.heap.size w W := by
  go_enter Try.func7, Try.ntmps7
  go_wp2_with (fail)
  refine Calls.mono (groups_any 5 _ _ [(0, 3), (3, 1), (4, 4)] [] _ (lit_l _ _ 3 _ rfl rfl (by decide)) (RdB.nil _) rfl) ?_
  rintro e W1 ⟨a, rfl, ra, b1⟩
  have RA : Hid _ := ra
  have B1 : Hid _ := b_step (n_after w _) b1
  rw [ex_a] at RA
  clear ra b1
  go_wp2_with (fail)
  refine Calls.mono (groups_any 5 _ _ [(0, 3), (3, 1)] [false, false, false, true] _ ((lit_l W1 #[.int .i64 0, .int .i64 3, .int .i64 3, .int .i64 1] 2 _ rfl rfl (by decide)).below (n_after _ _)) (by first | exact lit_b (W1.alloc _) _ 4 _ rfl rfl (by decide) | (have h := lit_b (W1.alloc (.cells #[.int .i64 0, .int .i64 3, .int .i64 3, .int .i64 1] 32)) #[.bool false, .bool false, .bool false, .bool true] 4 [false, false, false, true] rfl rfl (by decide); rw [World.size_alloc] at h; exact h)) rfl) ?_
  rintro e W2 ⟨b, rfl, rb, b2⟩
  have hb2 := b_step (b_step (n_after W1 _) (n_after _ _)) b2
  have RB : Hid _ := rb
  have RA : Hid _ := RA.out.below hb2
  have B2 : Hid _ := b_step B1.out hb2
  rw [ex_b] at RB
  clear rb b2 hb2 B1
  go_wp2_with (fail)
  refine Calls.mono (rest_any _ _ [0, 0, 2] [9, 1, 5] 4 _ ((lit_i W2 #[.int .i64 0, .int .i64 0, .int .i64 2] 3 _ rfl rfl (by decide)).below (n_after _ _)) (by first | exact lit_i (W2.alloc _) _ 3 _ rfl rfl (by decide) | (have h := lit_i (W2.alloc (.cells #[.int .i64 0, .int .i64 0, .int .i64 2] 3)) #[.int .i64 9, .int .i64 1, .int .i64 5] 3 [9, 1, 5] rfl rfl (by decide); rw [World.size_alloc] at h; exact h)) (by decide) (by decide)) ?_
  rintro e W3 ⟨c, rfl, rc, b3⟩
  have hb3 := b_step (b_step (n_after W2 _) (n_after _ _)) b3
  have RC : Hid _ := rc
  have RA : Hid _ := RA.out.below hb3
  have RB : Hid _ := RB.out.below hb3
  have B3 : Hid _ := b_step B2.out hb3
  rw [ex_c] at RC
  clear rc b3 hb3 B2
  have NA : Hid _ := numbers_any a _ [0, 0, 2, 0, 4] [0, 0, 2, 0, 4] _ (RA.out.below (n_after W3 _)) (lit_i W3 #[.int .i64 0, .int .i64 0, .int .i64 2, .int .i64 0, .int .i64 4] 5 _ rfl rfl (by decide)) (by decide) (by decide)
  obtain ⟨oc, cc, rfl, _, _, hcc⟩ := RC.out.form
  have HCC : Hid _ := hcc
  clear hcc
  rw [show decide (([0, 0, 2, 0, 4] : List Int) = [0, 0, 2, 0, 4]) = true from rfl] at NA
  go_wp2_with (fail)
  refine Calls.mono NA.out ?_
  clear NA
  rintro e W4 ⟨rfl, b4⟩
  have hb4 := b_step (n_after W3 _) b4
  have NB : Hid _ := numbers_any b _ [0, 1, 2, 3, 4] [0, 1, 2, 3, 4] _ (RB.out.below (b_step hb4 (n_after W4 _))) (lit_i W4 #[.int .i64 0, .int .i64 1, .int .i64 2, .int .i64 3, .int .i64 4] 5 _ rfl rfl (by decide)) (by decide) (by decide)
  have B4 : Hid _ := b_step B3.out hb4
  have HB4 : Hid _ := hb4
  rw [show decide (([0, 1, 2, 3, 4] : List Int) = [0, 1, 2, 3, 4]) = true from rfl] at NB
  clear b4 hb4
  go_wp2_with (fail)
  refine Calls.mono NB.out ?_
  clear NB
  rintro e W5 ⟨rfl, b5⟩
  have hb5 := b_step (n_after W4 _) b5
  have B5 : Hid _ := b_step B4.out hb5
  have hb35 := b_step HB4.out hb5
  obtain ⟨g, off, z0, e0, hz0, c0⟩ := HCC.out 0 (by decide)
  obtain ⟨g1, off1, z1, e1, hz1, c1⟩ := HCC.out 1 (by decide)
  obtain ⟨g2, off2, z2, e2, hz2, c2⟩ := HCC.out 2 (by decide)
  subst e0
  cases e1
  cases e2
  cases hz0
  cases hz1
  cases hz2
  have c0 := c_after hb35 c0
  have c1 := c_after hb35 c1
  have c2 := c_after hb35 c2
  rw [Nat.add_zero] at c0
  clear b5 hb5 HCC RC B3 B4 HB4 RA RB hb35
  go_wp2_with (fail)
  go_ret
  exact ⟨rfl, B5.out⟩
end Go.Proofs.Ytdbiikllcplmgaa
