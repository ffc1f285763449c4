/- The reference's work (tumblerref01): its calls tell what the document's numbers are, as package fx's do. -/
import Derived.Test.YtioailboehpcaaaRef6
namespace Go.Proofs.Ytioailboehpcaaa
open Go.RowKit Ref Fx

set_option maxHeartbeats 1000000 in
theorem rgreat_any (zs : List Int) (b off cap : Nat) (w : World) (hlen : zs.length ≤ 4611686018427387904) (hc : ∀ k, k < zs.length → w.cell? ⟨b, off + k, none⟩ = some (.int .i64 (zs.getD k 0))) :
    Calls Try.prog 55 #[.slice (some ⟨b, off, none⟩) zs.length cap] w fun e w' => e = .returned (.bool (zs.any great)) ∧ w' = w := by
  have HC : Hid _ := hc
  clear hc
  go_enter Try.func55, Try.ntmps55
  go_wp2
  go_loop [3] (fun i => ∃ k : Nat, k ≤ zs.length ∧ i = .int .i64 k ∧ Hid ((zs.take k).any great = false)) (fun i => zs.length - (intOf i).toNat)
  case atStart => exact ⟨0, Nat.zero_le _, rfl, by simp [Hid]⟩
  case round =>
    obtain ⟨k, hk, rfl, HG⟩ := hrel
    by_cases hlt : k < zs.length
    · have hcell := HC.out k hlt
      have hs := great_step zs k hlt HG.out
      obtain ⟨z, hz⟩ : ∃ z, zs.getD k 0 = z := ⟨_, rfl⟩
      rw [hz] at hcell hs
      have HS : Hid _ := hs
      clear hs hz
      by_cases g1 : z < -4611686018427387903
      · have hany : zs.any great = true := by
          have : (zs.take (k + 1)).any great = true := by rw [HS.out]; simp [great, g1]
          rw [List.any_eq_true] at this ⊢
          obtain ⟨x, hx, hg⟩ := this
          exact ⟨x, List.mem_of_mem_take hx, hg⟩
        go_wp2
        go_ret
        exact ⟨rfl, rfl⟩
      · by_cases g2 : 4611686018427387903 < z
        · have hany : zs.any great = true := by
            have : (zs.take (k + 1)).any great = true := by rw [HS.out]; simp [great, g2]
            rw [List.any_eq_true] at this ⊢
            obtain ⟨x, hx, hg⟩ := this
            exact ⟨x, List.mem_of_mem_take hx, hg⟩
          go_wp2
          go_ret
          exact ⟨rfl, rfl⟩
        · have hno : Hid ((zs.take (k + 1)).any great = false) := by
            show _ = false
            rw [HS.out]; simp [great]; omega
          go_wp2
          go_round
          case rel => exact ⟨k + 1, by omega, by go_num, hno⟩
          case measure => simp [intOf]; omega
    · have hany : zs.any great = false := by
        have := HG.out
        rwa [List.take_of_length_le (by omega)] at this
      go_wp2
      go_ret
      exact ⟨rfl, rfl⟩

set_option maxHeartbeats 1000000 in
theorem rgreat_nil (a : Option Addr) (cap : Nat) (w : World) :
    Calls Try.prog 55 #[.slice a 0 cap] w fun e w' => e = .returned (.bool false) ∧ w' = w := by
  go_enter Try.func55, Try.ntmps55
  go_wp2
  go_rounds 1
  go_ret
  exact ⟨rfl, rfl⟩

theorem rgreat1 (a : Int) (w : World) : Calls Try.prog 55 #[.slice (some ⟨w.heap.size, 0, none⟩) 1 1] (w.alloc (.cells #[.int .i64 a] 3)) fun e w' => e = .returned (.bool (great a)) ∧ w' = w.alloc (.cells #[.int .i64 a] 3) := by
  have h := rgreat_any [a] w.heap.size 0 1 (w.alloc (.cells #[.int .i64 a] 3)) (by simp) (fun k hk => by
    match k, hk with
    | 0, _ => simp)
  simpa using h

theorem rgreat2 (a b : Int) (w : World) : Calls Try.prog 55 #[.slice (some ⟨w.heap.size, 0, none⟩) 2 2] (w.alloc (.cells #[.int .i64 a, .int .i64 b] 3)) fun e w' => e = .returned (.bool (great a || great b)) ∧ w' = w.alloc (.cells #[.int .i64 a, .int .i64 b] 3) := by
  have h := rgreat_any [a, b] w.heap.size 0 2 (w.alloc (.cells #[.int .i64 a, .int .i64 b] 3)) (by simp) (fun k hk => by
    match k, hk with
    | 0, _ => simp
    | 1, _ => simp)
  simpa using h

theorem rgreat3 (a b c : Int) (w : World) : Calls Try.prog 55 #[.slice (some ⟨w.heap.size, 0, none⟩) 3 3] (w.alloc (.cells #[.int .i64 a, .int .i64 b, .int .i64 c] 3)) fun e w' => e = .returned (.bool (great a || (great b || great c))) ∧ w' = w.alloc (.cells #[.int .i64 a, .int .i64 b, .int .i64 c] 3) := by
  have h := rgreat_any [a, b, c] w.heap.size 0 3 (w.alloc (.cells #[.int .i64 a, .int .i64 b, .int .i64 c] 3)) (by simp) (fun k hk => by
    match k, hk with
    | 0, _ => simp
    | 1, _ => simp
    | 2, _ => simp)
  simpa using h


/-- What tells tells. -/
def tellsOf (n : Int) (ok : Bool) : Option Int := if ok then told n else none

set_option maxHeartbeats 1000000 in
theorem rtells_any (b off : Nat) (f : Bool) (n : Int) (ok : Bool) (w : World) (hc : w.cell? ⟨b, off, none⟩ = some (.bool f)) (hf : w.frozen? ⟨b, off, none⟩ = false) :
    Calls Try.prog 56 #[.pointer (some ⟨b, off, none⟩), .int .i64 n, .bool ok] w fun e w' => e = .returned (.int .i64 ((tellsOf n ok).getD 0)) ∧ Below w.heap.size (mark ⟨b, off, none⟩ (tellsOf n ok) w) w' := by
  cases ok
  · go_enter Try.func56, Try.ntmps56
    go_wp2
    go_ret
    exact ⟨rfl, by simp [tellsOf, mark]; exact Below.refl _ _⟩
  · by_cases h1 : n < -4611686018427387903
    · have hg : great n = true := (great_iff n).2 (Or.inl h1)
      go_enter Try.func56, Try.ntmps56
      go_wp2
      go_ret
      exact ⟨by simp [tellsOf, told, hg], by simp [tellsOf, told, hg, mark]; exact Below.refl _ _⟩
    · by_cases h2 : 4611686018427387903 < n
      · have hg : great n = true := (great_iff n).2 (Or.inr h2)
        go_enter Try.func56, Try.ntmps56
        go_wp2
        go_ret
        exact ⟨by simp [tellsOf, told, hg], by simp [tellsOf, told, hg, mark]; exact Below.refl _ _⟩
      · have hg : great n = false := (not_great n).2 (by omega)
        go_enter Try.func56, Try.ntmps56
        go_wp2
        go_ret
        exact ⟨by simp [tellsOf, told, hg], by simp [tellsOf, told, hg, mark]; exact Below.refl _ _⟩

theorem told_end {b off : Nat} {f : Bool} {o : Option Int} {n : Int} {ok : Bool} {w w1 w2 : World} (ho : tellsOf n ok = o) (h1 : Below w.heap.size w w1) (h2 : Below w1.heap.size (mark ⟨b, off, none⟩ (tellsOf n ok) w1) w2)
    (hc : w.cell? ⟨b, off, none⟩ = some (.bool f)) (hf : w.frozen? ⟨b, off, none⟩ = false) :
    ∃ v g, Ending.returned (.int .i64 ((tellsOf n ok).getD 0)) = .returned (.int .i64 v) ∧ Hid (Step f o v g) ∧ Hid (After ⟨b, off, none⟩ g w w2) := by
  subst ho
  exact ⟨_, _, rfl, ⟨rfl, rfl⟩, after_of (mark_after h1 h2) hc hf⟩

set_option maxHeartbeats 1000000 in
theorem radd_law (b off : Nat) (f : Bool) (x y : Int) (w : World) (hc : w.cell? ⟨b, off, none⟩ = some (.bool f)) (hf : w.frozen? ⟨b, off, none⟩ = false) :
    Calls Try.prog 36 #[.pointer (some ⟨b, off, none⟩), .int .i64 x, .int .i64 y] w fun e W' => ∃ v g, e = .returned (.int .i64 v) ∧ Hid (Step f (add x y) v g) ∧ Hid (After ⟨b, off, none⟩ g w W') := by
  have hb := new_after w (.cells #[.int .i64 x, .int .i64 y] 3)
  have hc' := cell_after hb hc
  have hf' := frozen_after hb hc hf
  have C1 := rgreat2 x y w
  cases hg : (great x || great y)
  · have hadd : add x y = told (x + y) := by simp [add, hg]
    rw [hg] at C1
    have hx : -4611686018427387903 ≤ x ∧ x ≤ 4611686018427387903 := (not_great x).1 (by simp at hg; exact hg.1)
    have hy : -4611686018427387903 ≤ y ∧ y ≤ 4611686018427387903 := (not_great y).1 (by simp at hg; exact hg.2)
    have C2 : Hid _ := rtells_any b off f (x + y) true _ hc' hf'
    have K1 : Hid _ := C1
    have HB : Hid _ := hb
    have HC : Hid _ := hc
    have HF : Hid _ := hf
    have HA : Hid _ := hadd
    clear C1 hb hc hf hc' hf' hg hadd
    go_enter Try.func36, Try.ntmps36
    go_wp2_with (fail)
    refine Calls.mono K1.out ?_
    rintro e w1 ⟨rfl, rfl⟩
    go_wp2_with (fail)
    refine Calls.mono C2.out ?_
    rintro e w2 ⟨rfl, hb2⟩
    go_wp2_with (fail)
    go_ret
    exact told_end (HA.out.symm) HB.out hb2 HC.out HF.out
  · have hadd : add x y = none := by simp only [add, hg, if_true]
    rw [hg] at C1
    have C2 : Hid _ := rtells_any b off f 0 false _ hc' hf'
    have K1 : Hid _ := C1
    have HB : Hid _ := hb
    have HC : Hid _ := hc
    have HF : Hid _ := hf
    have HA : Hid _ := hadd
    clear C1 hb hc hf hc' hf' hg hadd
    go_enter Try.func36, Try.ntmps36
    go_wp2_with (fail)
    refine Calls.mono K1.out ?_
    rintro e w1 ⟨rfl, rfl⟩
    go_wp2_with (fail)
    refine Calls.mono C2.out ?_
    rintro e w2 ⟨rfl, hb2⟩
    go_wp2_with (fail)
    go_ret
    exact told_end (HA.out.symm) HB.out hb2 HC.out HF.out

set_option maxHeartbeats 1000000 in
theorem rsub_law (b off : Nat) (f : Bool) (x y : Int) (w : World) (hc : w.cell? ⟨b, off, none⟩ = some (.bool f)) (hf : w.frozen? ⟨b, off, none⟩ = false) :
    Calls Try.prog 39 #[.pointer (some ⟨b, off, none⟩), .int .i64 x, .int .i64 y] w fun e W' => ∃ v g, e = .returned (.int .i64 v) ∧ Hid (Step f (sub x y) v g) ∧ Hid (After ⟨b, off, none⟩ g w W') := by
  have hb := new_after w (.cells #[.int .i64 x, .int .i64 y] 3)
  have hc' := cell_after hb hc
  have hf' := frozen_after hb hc hf
  have C1 := rgreat2 x y w
  cases hg : (great x || great y)
  · have hadd : sub x y = told (x - y) := by simp [sub, hg]
    rw [hg] at C1
    have hx : -4611686018427387903 ≤ x ∧ x ≤ 4611686018427387903 := (not_great x).1 (by simp at hg; exact hg.1)
    have hy : -4611686018427387903 ≤ y ∧ y ≤ 4611686018427387903 := (not_great y).1 (by simp at hg; exact hg.2)
    have C2 : Hid _ := rtells_any b off f (x - y) true _ hc' hf'
    have K1 : Hid _ := C1
    have HB : Hid _ := hb
    have HC : Hid _ := hc
    have HF : Hid _ := hf
    have HA : Hid _ := hadd
    clear C1 hb hc hf hc' hf' hg hadd
    go_enter Try.func39, Try.ntmps39
    go_wp2_with (fail)
    refine Calls.mono K1.out ?_
    rintro e w1 ⟨rfl, rfl⟩
    go_wp2_with (fail)
    refine Calls.mono C2.out ?_
    rintro e w2 ⟨rfl, hb2⟩
    go_wp2_with (fail)
    go_ret
    exact told_end (HA.out.symm) HB.out hb2 HC.out HF.out
  · have hadd : sub x y = none := by simp only [sub, hg, if_true]
    rw [hg] at C1
    have C2 : Hid _ := rtells_any b off f 0 false _ hc' hf'
    have K1 : Hid _ := C1
    have HB : Hid _ := hb
    have HC : Hid _ := hc
    have HF : Hid _ := hf
    have HA : Hid _ := hadd
    clear C1 hb hc hf hc' hf' hg hadd
    go_enter Try.func39, Try.ntmps39
    go_wp2_with (fail)
    refine Calls.mono K1.out ?_
    rintro e w1 ⟨rfl, rfl⟩
    go_wp2_with (fail)
    refine Calls.mono C2.out ?_
    rintro e w2 ⟨rfl, hb2⟩
    go_wp2_with (fail)
    go_ret
    exact told_end (HA.out.symm) HB.out hb2 HC.out HF.out

theorem fits_told {X : Int} {ok : Bool} {n : Int} (h : ok = !great X ∧ n = if ok then X else 0) : tellsOf n ok = told X := by
  obtain ⟨h1, h2⟩ := h
  unfold tellsOf told
  cases hg : great X
  · have hok : ok = true := by rw [h1, hg]; rfl
    rw [hok] at h2 ⊢
    simp only [if_true] at h2
    subst h2
    simp [hg]
  · have hok : ok = false := by rw [h1, hg]; rfl
    rw [hok]
    simp

set_option maxHeartbeats 1000000 in
theorem rratio_law (b off : Nat) (f : Bool) (x y z : Int) (w : World) (hc : w.cell? ⟨b, off, none⟩ = some (.bool f)) (hf : w.frozen? ⟨b, off, none⟩ = false) :
    Calls Try.prog 59 #[.pointer (some ⟨b, off, none⟩), .int .i64 x, .int .i64 y, .int .i64 z] w fun e W' => ∃ v g, e = .returned (.int .i64 v) ∧ Hid (Step f (ratio x y z) v g) ∧ Hid (After ⟨b, off, none⟩ g w W') := by
  have hb := new_after w (.cells #[.int .i64 x, .int .i64 y, .int .i64 z] 3)
  have C1 := rgreat3 x y z w
  have HB : Hid _ := hb
  have HC : Hid _ := hc
  have HF : Hid _ := hf
  have HN : Hid (∀ W, Below w.heap.size w W → Calls Try.prog 56 #[.pointer (some ⟨b, off, none⟩), .int .i64 0, .bool false] W fun e w' => e = .returned (.int .i64 ((tellsOf 0 false).getD 0)) ∧ Below W.heap.size (mark ⟨b, off, none⟩ (tellsOf 0 false) W) w') := fun W h => rtells_any b off f 0 false W (cell_after h hc) (frozen_after h hc hf)
  cases hg : (great x || (great y || great z))
  · have hx : -4611686018427387903 ≤ x ∧ x ≤ 4611686018427387903 := (not_great x).1 (by simp at hg; exact hg.1)
    have hy : -4611686018427387903 ≤ y ∧ y ≤ 4611686018427387903 := (not_great y).1 (by simp at hg; exact hg.2.1)
    have hz : -4611686018427387903 ≤ z ∧ z ≤ 4611686018427387903 := (not_great z).1 (by simp at hg; exact hg.2.2)
    rw [hg] at C1
    have K1 : Hid _ := C1
    by_cases z0 : z = 0
    · subst z0
      have HA : Hid _ := (by simp [ratio] : ratio x y 0 = none)
      clear C1 hb hc hf hg
      go_enter Try.func59, Try.ntmps59
      go_wp2_with (fail)
      refine Calls.mono K1.out ?_
      rintro e w1 ⟨rfl, rfl⟩
      go_wp2_with (fail)
      refine Calls.mono (HN.out _ HB.out) ?_
      rintro e w2 ⟨rfl, hb2⟩
      go_wp2_with (fail)
      go_ret
      exact told_end (HA.out.symm) HB.out hb2 HC.out HF.out
    · have HA : Hid _ := (by simp only [ratio, z0, hg]; rfl : ratio x y z = told (fl (x * y) z))
      clear C1 hb hc hf hg HN
      go_enter Try.func59, Try.ntmps59
      go_wp2_with (fail)
      refine Calls.mono K1.out ?_
      rintro e w1 ⟨rfl, rfl⟩
      go_wp2_with (fail)
      refine (of_any x _ (by omega) (by omega)).mono ?_
      rintro e w1 ⟨u1, d1, rfl, S1, B1⟩
      go_wp2_with (fail)
      refine (of_any y _ (by omega) (by omega)).mono ?_
      rintro e w2 ⟨u2, d2, rfl, S2, B2⟩
      go_wp2_with (fail)
      refine (times_any u1 u2 d1 d2 _ S1.out.1 S2.out.1 (by rw [S1.out.2, S2.out.2]; exact small_sq (by omega) (by omega))).mono ?_
      rintro e w3 ⟨u3, d3, rfl, S3, B3⟩
      go_wp2_with (fail)
      refine (down_any u3 d3 z _ S3.out.1 z0 hz.1 hz.2).mono ?_
      rintro e w4 ⟨n, ok, rfl, S4, B4⟩
      have B5 : Hid (Below w.heap.size w w4) := below_step (below_step (below_step (below_step HB.out B1.out) B2.out) B3.out) B4.out
      have S5 : Hid _ := fits_told S4.out
      rw [S3.out.2, S1.out.2, S2.out.2] at S5
      clear S1 S2 S3 S4 B1 B2 B3 B4 K1
      go_wp2_with (fail)
      refine (rtells_any b off f n ok _ (cell_after B5.out HC.out) (frozen_after B5.out HC.out HF.out)).mono ?_
      rintro e w6 ⟨rfl, hb2⟩
      go_wp2_with (fail)
      go_ret
      exact told_end (S5.out.trans HA.out.symm) B5.out hb2 HC.out HF.out
  · have HA : Hid _ := (by simp only [ratio, hg]; simp : ratio x y z = none)
    rw [hg] at C1
    have K1 : Hid _ := C1
    clear C1 hb hc hf hg
    go_enter Try.func59, Try.ntmps59
    go_wp2_with (fail)
    refine Calls.mono K1.out ?_
    rintro e w1 ⟨rfl, rfl⟩
    go_wp2_with (fail)
    refine Calls.mono (HN.out _ HB.out) ?_
    rintro e w2 ⟨rfl, hb2⟩
    go_wp2_with (fail)
    go_ret
    exact told_end (HA.out.symm) HB.out hb2 HC.out HF.out

theorem ratio_one (x y : Int) : ratio x y 4294967296 = mul x y := by
  have h : great 4294967296 = false := by decide
  have e : fl (x * y) 4294967296 = x * y / 4294967296 := by unfold fl; rw [if_neg (by omega)]
  unfold ratio mul
  rw [if_neg (by omega : ¬ (4294967296 : Int) = 0), h, e, Bool.or_false]

theorem rmul_law (b off : Nat) (f : Bool) (x y : Int) (w : World) (hc : w.cell? ⟨b, off, none⟩ = some (.bool f)) (hf : w.frozen? ⟨b, off, none⟩ = false) :
    Calls Try.prog 42 #[.pointer (some ⟨b, off, none⟩), .int .i64 x, .int .i64 y] w fun e W' => ∃ v g, e = .returned (.int .i64 v) ∧ Hid (Step f (mul x y) v g) ∧ Hid (After ⟨b, off, none⟩ g w W') := by
  have C : Hid _ := rratio_law b off f x y 4294967296 w hc hf
  rw [ratio_one] at C
  clear hc hf
  go_enter Try.func42, Try.ntmps42
  go_wp2_with (fail)
  refine Calls.mono C.out ?_
  rintro e w1 ⟨v, g, rfl, S, A⟩
  go_wp2_with (fail)
  go_ret
  exact ⟨v, g, rfl, S, A⟩

theorem rdiv_law (b off : Nat) (f : Bool) (x y : Int) (w : World) (hc : w.cell? ⟨b, off, none⟩ = some (.bool f)) (hf : w.frozen? ⟨b, off, none⟩ = false) :
    Calls Try.prog 48 #[.pointer (some ⟨b, off, none⟩), .int .i64 x, .int .i64 y] w fun e W' => ∃ v g, e = .returned (.int .i64 v) ∧ Hid (Step f (ratio x 4294967296 y) v g) ∧ Hid (After ⟨b, off, none⟩ g w W') := by
  have C : Hid _ := rratio_law b off f x 4294967296 y w hc hf
  clear hc hf
  go_enter Try.func48, Try.ntmps48
  go_wp2_with (fail)
  refine Calls.mono C.out ?_
  rintro e w1 ⟨v, g, rfl, S, A⟩
  go_wp2_with (fail)
  go_ret
  exact ⟨v, g, rfl, S, A⟩

end Go.Proofs.Ytioailboehpcaaa
