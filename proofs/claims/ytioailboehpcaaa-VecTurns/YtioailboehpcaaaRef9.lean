/- The reference's sums of products and norms (tumblerref01), and package fx's norm of whatever slice. -/
import Derived.Test.YtioailboehpcaaaRef8
namespace Go.Proofs.Ytioailboehpcaaa
open Go.RowKit Ref Fx

theorem rgreat_row (zs : List Int) (a : Option Addr) (cap : Nat) (w : World) (hlen : zs.length ≤ 4611686018427387904) (h : Row w a zs) :
    Calls Try.prog 55 #[.slice a zs.length cap] w fun e w' => e = .returned (.bool (zs.any great)) ∧ w' = w := by
  rcases h with h | ⟨b, off, rfl, h⟩
  · obtain rfl : zs = [] := List.length_eq_zero_iff.1 h
    exact rgreat_nil a cap w
  · exact rgreat_any zs b off cap w hlen h

set_option maxHeartbeats 1000000 in
theorem sumw_nil (a c : Option Addr) (cap cap' : Nat) (w : World) :
    Calls Try.prog 62 #[.slice a 0 cap, .slice c 0 cap'] w fun e w' => ∃ s d, e = .returned (wv s d) ∧ Hid (Digs d ∧ sv s d = 0) ∧ Hid (Below w.heap.size w w') := by
  go_enter Try.func62, Try.ntmps62
  go_wp2
  go_rounds 1
  try simp only [Exit.inBlock, Exit.then]
  refine bodyPost_ret (by simp [results, Try.results62, go_sem]; try rfl) rfl ?_
  exact ⟨false, fun _ => 0, rfl, ⟨fun j _ => by simp, by simp [sv, val]⟩, by show Below _ _ _; go_grown⟩

theorem sumw_row (zs ys : List Int) (a c : Option Addr) (cap cap' : Nat) (w : World) (hl : zs.length ≤ 8) (he : zs.length = ys.length) (hg : zs.any great = false) (hg' : ys.any great = false) (ha : Row w a zs) (hb : Row w c ys) :
    Calls Try.prog 62 #[.slice a zs.length cap, .slice c ys.length cap'] w fun e w' => ∃ s d, e = .returned (wv s d) ∧ Hid (Digs d ∧ sv s d = prods zs ys) ∧ Hid (Below w.heap.size w w') := by
  by_cases h0 : zs.length = 0
  · obtain rfl : zs = [] := List.length_eq_zero_iff.1 h0
    obtain rfl : ys = [] := List.length_eq_zero_iff.1 (by omega)
    exact sumw_nil a c cap cap' w
  · obtain ⟨ba, oa, rfl, hz⟩ := ha.resolve_left h0
    obtain ⟨bb, ob, rfl, hy⟩ := hb.resolve_left (by omega)
    exact sumw_any zs ys ba oa bb ob cap cap' w hl he hg hg' hz hy

theorem fl_one (X : Int) : fl X 4294967296 = X / 4294967296 := by unfold fl; rw [if_neg (by omega)]

set_option maxHeartbeats 2000000 in
theorem rdot_law (b off : Nat) (f : Bool) (zs ys : List Int) (a c : Option Addr) (cap cap' : Nat) (w : World) (hc : w.cell? ⟨b, off, none⟩ = some (.bool f)) (hf : w.frozen? ⟨b, off, none⟩ = false)
    (hz : zs.length ≤ 4611686018427387904) (hy : ys.length ≤ 4611686018427387904) (ha : Row w a zs) (hb : Row w c ys) :
    Calls Try.prog 44 #[.pointer (some ⟨b, off, none⟩), .slice a zs.length cap, .slice c ys.length cap'] w fun e W' => ∃ v g, e = .returned (.int .i64 v) ∧ Hid (Step f (dot zs ys) v g) ∧ Hid (After ⟨b, off, none⟩ g w W') := by
  have HC : Hid _ := hc
  have HF : Hid _ := hf
  have C2 : Hid _ := rtells_any b off f 0 false w hc hf
  have C1 := rgreat_row zs a cap w hz ha
  have C3 := rgreat_row ys c cap' w hy hb
  by_cases h1 : zs.length = ys.length
  · have h1' : ((zs.length : Int) != (ys.length : Int)) = false := by simp [h1]
    by_cases h8 : 8 < zs.length
    · have HA : Hid _ := (by unfold dot; rw [if_neg (by omega), if_pos h8] : dot zs ys = none)
      clear C1 C3 h1 hc hf ha hb
      go_enter Try.func44, Try.ntmps44
      go_wp2_with (fail)
      refine Calls.mono C2.out ?_
      rintro e w2 ⟨rfl, hb2⟩
      go_wp2_with (fail)
      go_ret
      exact told_end HA.out.symm (Below.refl _ _) hb2 HC.out HF.out
    · cases hg : zs.any great
      · cases hg2 : ys.any great
        · have HA : Hid _ := (by unfold dot; rw [if_neg (by omega), if_neg h8, hg, hg2]; rfl : dot zs ys = told (prods zs ys / 4294967296))
          have HS : Hid _ := sumw_row zs ys a c cap cap' w (by omega) h1 hg hg2 ha hb
          rw [hg] at C1
          rw [hg2] at C3
          have K1 : Hid _ := C1
          have K3 : Hid _ := C3
          clear C1 C3 h1 hc hf ha hb hg hg2 C2
          go_enter Try.func44, Try.ntmps44
          go_wp2_with (fail)
          refine Calls.mono K1.out ?_
          rintro e w1 ⟨rfl, hw⟩
          rw [hw]; clear hw
          go_wp2_with (fail)
          refine Calls.mono K3.out ?_
          rintro e w1 ⟨rfl, hw⟩
          rw [hw]; clear hw
          go_wp2_with (fail)
          refine Calls.mono HS.out ?_
          rintro e w1 ⟨s, d, rfl, S1, B1⟩
          go_wp2_with (fail)
          refine (down_any s d 4294967296 _ S1.out.1 (by omega) (by omega) (by omega)).mono ?_
          rintro e w3 ⟨n, ok, rfl, S3, B3⟩
          have B5 : Hid (Below w.heap.size w w3) := below_step B1.out B3.out
          have S5 : Hid _ := fits_told S3.out
          rw [S1.out.2, fl_one] at S5
          clear S1 S3 B1 B3 K1 K3 HS
          go_wp2_with (fail)
          refine (rtells_any b off f n ok _ (cell_after B5.out HC.out) (frozen_after B5.out HC.out HF.out)).mono ?_
          rintro e w6 ⟨rfl, hb2⟩
          go_wp2_with (fail)
          go_ret
          exact told_end (S5.out.trans HA.out.symm) B5.out hb2 HC.out HF.out
        · have HA : Hid _ := (by unfold dot; rw [if_neg (by omega), if_neg h8, hg, hg2]; rfl : dot zs ys = none)
          rw [hg] at C1
          rw [hg2] at C3
          have K1 : Hid _ := C1
          have K3 : Hid _ := C3
          clear C1 C3 h1 hc hf ha hb hg hg2
          go_enter Try.func44, Try.ntmps44
          go_wp2_with (fail)
          refine Calls.mono K1.out ?_
          rintro e w1 ⟨rfl, hw⟩
          rw [hw]; clear hw
          go_wp2_with (fail)
          refine Calls.mono K3.out ?_
          rintro e w1 ⟨rfl, hw⟩
          rw [hw]; clear hw
          go_wp2_with (fail)
          refine Calls.mono C2.out ?_
          rintro e w2 ⟨rfl, hb2⟩
          go_wp2_with (fail)
          go_ret
          exact told_end HA.out.symm (Below.refl _ _) hb2 HC.out HF.out
      · have HA : Hid _ := (by unfold dot; rw [if_neg (by omega), if_neg h8, hg]; rfl : dot zs ys = none)
        obtain ⟨g2, hg2⟩ : ∃ g, g = ys.any great := ⟨_, rfl⟩
        rw [hg] at C1
        rw [← hg2] at C3
        have K1 : Hid _ := C1
        have K3 : Hid _ := C3
        clear C1 C3 h1 hc hf ha hb hg hg2
        go_enter Try.func44, Try.ntmps44
        go_wp2_with (fail)
        refine Calls.mono K1.out ?_
        rintro e w1 ⟨rfl, hw⟩
        rw [hw]; clear hw
        go_wp2_with (fail)
        refine Calls.mono K3.out ?_
        rintro e w1 ⟨rfl, hw⟩
        rw [hw]; clear hw
        go_wp2_with (fail)
        refine Calls.mono C2.out ?_
        rintro e w2 ⟨rfl, hb2⟩
        go_wp2_with (fail)
        go_ret
        exact told_end HA.out.symm (Below.refl _ _) hb2 HC.out HF.out
  · have h1' : ((zs.length : Int) != (ys.length : Int)) = true := by simp; omega
    have HA : Hid _ := (by unfold dot; rw [if_pos h1] : dot zs ys = none)
    clear C1 C3 hc hf ha hb
    go_enter Try.func44, Try.ntmps44
    go_wp2_with (fail)
    refine Calls.mono C2.out ?_
    rintro e w2 ⟨rfl, hb2⟩
    go_wp2_with (fail)
    go_ret
    exact told_end HA.out.symm (Below.refl _ _) hb2 HC.out HF.out

set_option maxHeartbeats 2000000 in
theorem rnorm_law (b off : Nat) (f : Bool) (zs : List Int) (a : Option Addr) (cap : Nat) (w : World) (hc : w.cell? ⟨b, off, none⟩ = some (.bool f)) (hf : w.frozen? ⟨b, off, none⟩ = false)
    (hz : zs.length ≤ 4611686018427387904) (ha : Row w a zs) :
    Calls Try.prog 46 #[.pointer (some ⟨b, off, none⟩), .slice a zs.length cap] w fun e W' => ∃ v g, e = .returned (.int .i64 v) ∧ Hid (Step f (norm zs) v g) ∧ Hid (After ⟨b, off, none⟩ g w W') := by
  have HC : Hid _ := hc
  have HF : Hid _ := hf
  have C2 : Hid _ := rtells_any b off f 0 false w hc hf
  have C1 := rgreat_row zs a cap w hz ha
  by_cases h8 : 8 < zs.length
  · have HA : Hid _ := (by unfold norm; rw [if_pos h8] : norm zs = none)
    clear C1 hc hf ha
    go_enter Try.func46, Try.ntmps46
    go_wp2_with (fail)
    refine Calls.mono C2.out ?_
    rintro e w2 ⟨rfl, hb2⟩
    go_wp2_with (fail)
    go_ret
    exact told_end HA.out.symm (Below.refl _ _) hb2 HC.out HF.out
  · cases hg : zs.any great
    · have HA : Hid _ := (by unfold norm; rw [if_neg h8, hg]; rfl : norm zs = told (isq (prods zs zs).toNat))
      have HS : Hid _ := sumw_row zs zs a a cap cap w (by omega) rfl hg hg ha ha
      rw [hg] at C1
      have K1 : Hid _ := C1
      clear C1 hc hf ha hg C2
      go_enter Try.func46, Try.ntmps46
      go_wp2_with (fail)
      refine Calls.mono K1.out ?_
      rintro e w1 ⟨rfl, hw⟩
      rw [hw]; clear hw
      go_wp2_with (fail)
      refine Calls.mono HS.out ?_
      rintro e w1 ⟨s, d, rfl, S1, B1⟩
      go_wp2_with (fail)
      refine (rootw_any s d _ S1.out.1 (by rw [S1.out.2]; exact prods_self zs)).mono ?_
      rintro e w3 ⟨n, ok, rfl, S3, B3⟩
      have B5 : Hid (Below w.heap.size w w3) := below_step B1.out B3.out
      have S5 : Hid _ := fits_told S3.out
      rw [S1.out.2] at S5
      clear S1 S3 B1 B3 K1 HS
      go_wp2_with (fail)
      refine (rtells_any b off f n ok _ (cell_after B5.out HC.out) (frozen_after B5.out HC.out HF.out)).mono ?_
      rintro e w6 ⟨rfl, hb2⟩
      go_wp2_with (fail)
      go_ret
      exact told_end (S5.out.trans HA.out.symm) B5.out hb2 HC.out HF.out
    · have HA : Hid _ := (by unfold norm; rw [if_neg h8, hg]; rfl : norm zs = none)
      rw [hg] at C1
      have K1 : Hid _ := C1
      clear C1 hc hf ha hg
      go_enter Try.func46, Try.ntmps46
      go_wp2_with (fail)
      refine Calls.mono K1.out ?_
      rintro e w1 ⟨rfl, hw⟩
      rw [hw]; clear hw
      go_wp2_with (fail)
      refine Calls.mono C2.out ?_
      rintro e w2 ⟨rfl, hb2⟩
      go_wp2_with (fail)
      go_ret
      exact told_end HA.out.symm (Below.refl _ _) hb2 HC.out HF.out

set_option maxRecDepth 20000 in
set_option maxHeartbeats 2000000 in
theorem norm_nil (b off : Nat) (f : Bool) (a : Option Addr) (cap : Nat) (w : World) (hc : w.cell? ⟨b, off, none⟩ = some (.bool f)) (hf : w.frozen? ⟨b, off, none⟩ = false) :
    Calls Try.prog 45 #[.pointer (some ⟨b, off, none⟩), .slice a 0 cap] w fun e W' => ∃ v g, e = .returned (.int .i64 v) ∧ Hid (Step f (norm []) v g) ∧ Hid (After ⟨b, off, none⟩ g w W') := by
  have HC : Hid _ := hc
  have HF : Hid _ := hf
  have K1 : Hid _ := great_nil a cap w
  have C4 := fun w => root_any 0 w (by omega) (by omega)
  have z0 : isq (0 : Int).toNat = 0 := rfl
  rw [z0, IntWalk.wrap64_in _ (by omega), decide_eq_true (by omega)] at C4
  have z1 : (0 : Int) / 18446744073709551616 % 18446744073709551616 = 0 := by decide
  have z2 : (0 : Int) % 18446744073709551616 = 0 := by decide
  rw [z1, z2] at C4
  have K4 : Hid _ := C4
  clear hc hf C4 z0 z1 z2
  go_enter Try.func45, Try.ntmps45
  go_wp2_with (fail)
  refine Calls.mono K1.out ?_
  rintro e w1 ⟨rfl, hw⟩
  rw [hw]; clear hw
  go_wp2_with (fail)
  go_loopw [19] (fun i wr => i = .int .i64 0 ∧ Hid (Below w.heap.size w wr) ∧ wr.cell? ⟨w.heap.size, 0, none⟩ = some (.int .u64 0) ∧ wr.cell? ⟨w.heap.size, 1, none⟩ = some (.int .u64 0)) (fun _ _ => 0)
  case atStart => exact ⟨rfl, new_after _ _, by simp, by simp⟩
  case round =>
    obtain ⟨rfl, HB, d0, d1⟩ := hrel
    go_wp2_with (first
      | (go_at_call 63; refine (Calls.mono (K4.out _) ?_); rintro e w2 ⟨rfl, hb2⟩; have B2 : Hid _ := below_step HB.out hb2)
      | (go_at_call 54; refine (Calls.mono (tell_any b off f _ _ (cell_after B2.out HC.out) (frozen_after B2.out HC.out HF.out)) ?_); rintro e w3 ⟨rfl, hb3⟩))
    go_ret
    exact ⟨_, _, rfl, ⟨rfl, rfl⟩, after_of (o := norm []) (mark_after B2.out hb3) HC.out HF.out⟩

theorem norm_row (b off : Nat) (f : Bool) (zs : List Int) (a : Option Addr) (cap : Nat) (w : World) (hc : w.cell? ⟨b, off, none⟩ = some (.bool f)) (hf : w.frozen? ⟨b, off, none⟩ = false)
    (hz : zs.length ≤ 4611686018427387904) (ha : Row w a zs) :
    Calls Try.prog 45 #[.pointer (some ⟨b, off, none⟩), .slice a zs.length cap] w fun e W' => ∃ v g, e = .returned (.int .i64 v) ∧ Hid (Step f (norm zs) v g) ∧ Hid (After ⟨b, off, none⟩ g w W') := by
  rcases ha with h | ⟨bl, ol, rfl, h⟩
  · obtain rfl : zs = [] := List.length_eq_zero_iff.1 h
    exact norm_nil b off f a cap w hc hf
  · exact (norm_any b off f zs bl ol cap w hc hf h hz).mono fun _ _ ⟨x, y⟩ => ⟨_, _, x, ⟨rfl, rfl⟩, after_of y hc hf⟩
end Go.Proofs.Ytioailboehpcaaa
