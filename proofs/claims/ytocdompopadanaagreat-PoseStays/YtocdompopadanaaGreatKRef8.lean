/- The reference's sums of products (tumblerref01). -/
import Derived.Test.YtocdompopadanaaGreatKRef5
import Derived.Test.YtocdompopadanaaGreatKDot
import Derived.Deep.RegionHeld3
namespace Go.Proofs.YtocdompopadanaaGreat
open Go.RowKit Ref Fx

theorem prods_fit {l m : List Int} (k : Nat) (hl : l.length ≤ 8) (h : l.any great = false) (h' : m.any great = false) : (prods (l.take k) (m.take k)).natAbs < 3138550867693340381917894711603833208051177722232017256448 := by
  have := prods_bound (l.take k) (m.take k) (any_take k h) (any_take k h')
  have e : (l.take k).length ≤ 8 := by simp; omega
  have := Nat.mul_le_mul_right 21267647932558653957237540927630737409 e
  omega
theorem prod_fit {a b : Int} (ha : great a = false) (hb : great b = false) : (a * b).natAbs < 3138550867693340381917894711603833208051177722232017256448 := by
  have h1 := (not_great a).1 ha
  have h2 := (not_great b).1 hb
  rw [Int.natAbs_mul]
  exact Nat.lt_of_le_of_lt (Nat.mul_le_mul (show a.natAbs ≤ 4611686018427387903 by omega) (show b.natAbs ≤ 4611686018427387903 by omega)) (by decide)

set_option maxHeartbeats 4000000 in
theorem sumw_any (zs ys : List Int) (ba oa bb ob cap cap' : Nat) (w : World) (hl : zs.length ≤ 8) (he : zs.length = ys.length) (hg : zs.any great = false) (hg' : ys.any great = false)
    (hz : ∀ k, k < zs.length → w.cell? ⟨ba, oa + k, none⟩ = some (.int .i64 (zs.getD k 0))) (hy : ∀ k, k < ys.length → w.cell? ⟨bb, ob + k, none⟩ = some (.int .i64 (ys.getD k 0))) :
    Calls Tryz.prog 106 #[.slice (some ⟨ba, oa, none⟩) zs.length cap, .slice (some ⟨bb, ob, none⟩) ys.length cap'] w fun e w' => ∃ s d, e = .returned (wv s d) ∧ Hid (Digs d ∧ sv s d = prods zs ys) ∧ Hid (Below w.heap.size w w') := by
  have HZ : Hid _ := hz
  have HY : Hid _ := hy
  have HG : Hid (zs.any great = false ∧ ys.any great = false) := ⟨hg, hg'⟩
  have HE : Hid _ := he
  have hly : ys.length ≤ 8 := by omega
  clear hz hy hg hg' he
  go_enter Tryz.func106, Tryz.ntmps106
  go_wp2
  go_loopw [6] (fun i wr => ∃ (k : Nat) (s : Bool) (d : Nat → Int), k ≤ zs.length ∧ i = .int .i64 k ∧ Hid (Digs d ∧ sv s d = prods (zs.take k) (ys.take k)) ∧ Hid (RLies wr w.heap.size false (fun _ => 0)) ∧ Hid (RLies wr (w.heap.size + 1) s d) ∧ Hid (Below w.heap.size w wr)) (fun i _ => zs.length - (intOf i).toNat)
  case atStart => exact ⟨0, false, fun _ => 0, Nat.zero_le _, rfl, ⟨fun j _ => by simp, by simp [sv, val, prods]⟩, RLies.alloc (lies_new w false (fun _ => 0) 132) _, by show RLies _ _ _ _; have := lies_new (w.alloc (.cells #[.bool false, .int .i64 0, .int .i64 0, .int .i64 0, .int .i64 0, .int .i64 0, .int .i64 0, .int .i64 0, .int .i64 0] 132)) false (fun _ => 0) 132; simpa only [World.size_alloc] using this, (new_after w _).alloc (by simp) _⟩
  case round =>
    obtain ⟨k, s, d, hk, rfl, HD, HR, HO, HB⟩ := hrel
    by_cases hlt : k < zs.length
    · have hlt2 : k < ys.length := by have := HE.out; omega
      have c1 := cell_after HB.out (HZ.out k hlt)
      have c2 := cell_after HB.out (HY.out k hlt2)
      have g1 := getD_small HG.out.1 hlt
      have g2 := getD_small HG.out.2 hlt2
      have HS : Hid _ := prods_step k zs ys hlt hlt2
      have HP : Hid _ := prod_fit g1 g2
      have HQ : Hid _ := prods_fit k hl HG.out.1 HG.out.2
      obtain ⟨z, ez⟩ : ∃ z, zs.getD k 0 = z := ⟨_, rfl⟩
      obtain ⟨y, ey⟩ : ∃ y, ys.getD k 0 = y := ⟨_, rfl⟩
      rw [ez] at c1 g1 HS HP
      rw [ey] at c2 g2 HS HP
      have bz := (not_great z).1 g1
      have bY := (not_great y).1 g2
      clear ez ey g1 g2
      have i0 : (0 : Int) ≤ (k : Int) := by omega
      have i1 : (k : Int) < (zs.length : Int) := by omega
      have i2 : (k : Int) < (ys.length : Int) := by omega
      have HB : Hid (Below w.heap.size w wr.drew) := HB.out.drew
      have HO : Hid (RLies wr.drew (w.heap.size + 1) s d) := HO.out.drew
      have HR : Hid (RLies wr.drew w.heap.size false (fun _ => 0)) := HR.out.drew
      obtain ⟨a0, a1, a2, a3, a4, a5, a6, a7, a8⟩ := HO.out.cells
      obtain ⟨f0, f1, f2, f3, f4, f5, f6, f7, f8⟩ := HO.out.frees
      have c1 : wr.drew.cell? ⟨ba, oa + k, none⟩ = some (.int .i64 z) := c1
      have c2 : wr.drew.cell? ⟨bb, ob + k, none⟩ = some (.int .i64 y) := c2
      have HA : True := trivial
      go_wp2
      go_region_with (first
        | (go_at_call 132; refine (of_any _ _ (by omega) (by omega)).mono ?_; rintro e w1 ⟨u, e1, rfl, S, B⟩; have HA := And.intro HA S.out; have f0 := frozen_after B.out a0 f0; have a0 := cell_after B.out a0; have f1 := frozen_after B.out a1 f1; have a1 := cell_after B.out a1; have f2 := frozen_after B.out a2 f2; have a2 := cell_after B.out a2; have f3 := frozen_after B.out a3 f3; have a3 := cell_after B.out a3; have f4 := frozen_after B.out a4 f4; have a4 := cell_after B.out a4; have f5 := frozen_after B.out a5 f5; have a5 := cell_after B.out a5; have f6 := frozen_after B.out a6 f6; have a6 := cell_after B.out a6; have f7 := frozen_after B.out a7 f7; have a7 := cell_after B.out a7; have f8 := frozen_after B.out a8 f8; have a8 := cell_after B.out a8; have c1 := cell_after B.out c1; have c2 := cell_after B.out c2; have HO : Hid _ := RLies.below HO.out B.out HO.out.lt; have HR : Hid _ := RLies.below HR.out B.out HR.out.lt; have HB : Hid _ := below_step HB.out B.out)
        | (go_at_call 131; refine (times_any _ _ _ _ _ HA.1.2.1 HA.2.1 (by rw [HA.1.2.2, HA.2.2]; exact Nat.lt_trans HP.out (by decide))).mono ?_; rintro e w1 ⟨u, e1, rfl, S, B⟩; have HT : Hid (Digs e1 ∧ sv u e1 = z * y) := ⟨S.out.1, by rw [S.out.2, HA.1.2.2, HA.2.2]⟩; have f0 := frozen_after B.out a0 f0; have a0 := cell_after B.out a0; have f1 := frozen_after B.out a1 f1; have a1 := cell_after B.out a1; have f2 := frozen_after B.out a2 f2; have a2 := cell_after B.out a2; have f3 := frozen_after B.out a3 f3; have a3 := cell_after B.out a3; have f4 := frozen_after B.out a4 f4; have a4 := cell_after B.out a4; have f5 := frozen_after B.out a5 f5; have a5 := cell_after B.out a5; have f6 := frozen_after B.out a6 f6; have a6 := cell_after B.out a6; have f7 := frozen_after B.out a7 f7; have a7 := cell_after B.out a7; have f8 := frozen_after B.out a8 f8; have a8 := cell_after B.out a8; have c1 := cell_after B.out c1; have c2 := cell_after B.out c2; have HO : Hid _ := RLies.below HO.out B.out HO.out.lt; have HR : Hid _ := RLies.below HR.out B.out HR.out.lt; have HB : Hid _ := below_step HB.out B.out)
        | (go_at_call 130; refine (plusw_any _ _ _ _ _ HD.out.1 HT.out.1 (by rw [HD.out.2, HT.out.2]; have h1 := HP.out; have h2 := HQ.out; omega)).mono ?_; rintro e w1 ⟨u, e1, rfl, S, B⟩; have HU : Hid (Digs e1 ∧ sv u e1 = prods (zs.take (k + 1)) (ys.take (k + 1))) := ⟨S.out.1, by rw [S.out.2, HD.out.2, HT.out.2, HS.out]⟩; have f0 := frozen_after B.out a0 f0; have a0 := cell_after B.out a0; have f1 := frozen_after B.out a1 f1; have a1 := cell_after B.out a1; have f2 := frozen_after B.out a2 f2; have a2 := cell_after B.out a2; have f3 := frozen_after B.out a3 f3; have a3 := cell_after B.out a3; have f4 := frozen_after B.out a4 f4; have a4 := cell_after B.out a4; have f5 := frozen_after B.out a5 f5; have a5 := cell_after B.out a5; have f6 := frozen_after B.out a6 f6; have a6 := cell_after B.out a6; have f7 := frozen_after B.out a7 f7; have a7 := cell_after B.out a7; have f8 := frozen_after B.out a8 f8; have a8 := cell_after B.out a8; have c1 := cell_after B.out c1; have c2 := cell_after B.out c2; have HO : Hid _ := RLies.below HO.out B.out HO.out.lt; have HR : Hid _ := RLies.below HR.out B.out HR.out.lt; have HB : Hid _ := below_step HB.out B.out))
      all_goals (
        have X1 : Hid _ := lies_nine (s := u) (d := e1) HO.out
        have X2 : Hid _ := RLies.nine (s := u) (d := e1) (b := w.heap.size + 1) HR.out (by omega)
        have X3 : Hid _ := below_nine (b := w.heap.size + 1) (v0 := .bool u) (v1 := .int .i64 (e1 0)) (v2 := .int .i64 (e1 1)) (v3 := .int .i64 (e1 2)) (v4 := .int .i64 (e1 3)) (v5 := .int .i64 (e1 4)) (v6 := .int .i64 (e1 5)) (v7 := .int .i64 (e1 6)) (v8 := .int .i64 (e1 7)) HB.out (by omega)
        clear a0 f0 a1 f1 a2 f2 a3 f3 a4 f4 a5 f5 a6 f6 a7 f7 a8 f8 HO HR HB HA HT HP HQ
        go_wp2
        go_roundw
        case rel => exact ⟨k + 1, u, e1, by omega, by go_num, HU.out, X2.out, X1.out, X3.out⟩
        case measure => simp [intOf]; omega)
    · have hk8 : (zs.length : Int) ≤ (k : Int) := by omega
      have HV : Hid (Digs d ∧ sv s d = prods zs ys) := by
        obtain ⟨d1, d2⟩ := HD.out
        have e : k = zs.length := by omega
        rw [e, List.take_length, HE.out, List.take_length] at d2
        exact ⟨d1, d2⟩
      obtain ⟨c0, c1, c2, c3, c4, c5, c6, c7, c8⟩ := HO.out.cells
      obtain ⟨r0, r1, r2, r3, r4, r5, r6, r7, r8⟩ := HR.out.cells
      obtain ⟨f0, f1, f2, f3, f4, f5, f6, f7, f8⟩ := HR.out.frees
      clear HD HZ HY HG
      go_wp2
      try simp only [Exit.inBlock, Exit.then]
      refine bodyPost_ret (by simp [results, Tryz.results106, go_sem, r0, r1, r2, r3, r4, r5, r6, r7, r8]; try rfl) rfl ?_
      exact ⟨_, d, rfl, HV.out, below_nine HB.out (by omega)⟩
end Go.Proofs.YtocdompopadanaaGreat
/- The reference's sums of products and norms (tumblerref01), and package fx's norm of whatever slice. -/
namespace Go.Proofs.YtocdompopadanaaGreat
open Go.RowKit Ref Fx

theorem rgreat_row (zs : List Int) (a : Option Addr) (cap : Nat) (w : World) (hlen : zs.length ≤ 4611686018427387904) (h : NRow w a zs) :
    Calls Tryz.prog 103 #[.slice a zs.length cap] w fun e w' => e = .returned (.bool (zs.any great)) ∧ w' = w := by
  rcases h with h | ⟨b, off, rfl, h⟩
  · obtain rfl : zs = [] := List.length_eq_zero_iff.1 h
    exact rgreat_nil a cap w
  · exact rgreat_any zs b off cap w hlen h

set_option maxHeartbeats 1000000 in
theorem sumw_nil (a c : Option Addr) (cap cap' : Nat) (w : World) :
    Calls Tryz.prog 106 #[.slice a 0 cap, .slice c 0 cap'] w fun e w' => ∃ s d, e = .returned (wv s d) ∧ Hid (Digs d ∧ sv s d = 0) ∧ Hid (Below w.heap.size w w') := by
  go_enter Tryz.func106, Tryz.ntmps106
  go_wp2
  go_rounds 1
  try simp only [Exit.inBlock, Exit.then]
  refine bodyPost_ret (by simp [results, Tryz.results106, go_sem]; try rfl) rfl ?_
  exact ⟨false, fun _ => 0, rfl, ⟨fun j _ => by simp, by simp [sv, val]⟩, by show Below _ _ _; go_grown⟩

theorem sumw_row (zs ys : List Int) (a c : Option Addr) (cap cap' : Nat) (w : World) (hl : zs.length ≤ 8) (he : zs.length = ys.length) (hg : zs.any great = false) (hg' : ys.any great = false) (ha : NRow w a zs) (hb : NRow w c ys) :
    Calls Tryz.prog 106 #[.slice a zs.length cap, .slice c ys.length cap'] w fun e w' => ∃ s d, e = .returned (wv s d) ∧ Hid (Digs d ∧ sv s d = prods zs ys) ∧ Hid (Below w.heap.size w w') := by
  by_cases h0 : zs.length = 0
  · obtain rfl : zs = [] := List.length_eq_zero_iff.1 h0
    obtain rfl : ys = [] := List.length_eq_zero_iff.1 (by omega)
    exact sumw_nil a c cap cap' w
  · obtain ⟨ba, oa, rfl, hz⟩ := ha.resolve_left h0
    obtain ⟨bb, ob, rfl, hy⟩ := hb.resolve_left (by omega)
    exact sumw_any zs ys ba oa bb ob cap cap' w hl he hg hg' hz hy

theorem fl_one (X : Int) : fl X 4294967296 = X / 4294967296 := by unfold fl; rw [if_neg (by omega)]

set_option maxHeartbeats 2000000 in
theorem rdot_law (b off : Nat) (f : Bool) (zs ys : List Int) (a c : Option Addr) (cap cap' : Nat) (w : World) (hc : w.cell? ⟨b, off, none⟩ = some (.bool f)) (hf : w.frozen? ⟨b, off, none⟩ = false)
    (hz : zs.length ≤ 4611686018427387904) (hy : ys.length ≤ 4611686018427387904) (ha : NRow w a zs) (hb : NRow w c ys) :
    Calls Tryz.prog 70 #[.pointer (some ⟨b, off, none⟩), .slice a zs.length cap, .slice c ys.length cap'] w fun e W' => ∃ v g, e = .returned (.int .i64 v) ∧ Hid (Step f (dot zs ys) v g) ∧ Hid (After ⟨b, off, none⟩ g w W') := by
  have HC : Hid _ := hc
  have HF : Hid _ := hf
  have C2 : Hid _ := rtells_any b off f 0 false w hc hf
  have C1 := rgreat_row zs a cap w hz ha
  have C3 := rgreat_row ys c cap' w hy hb
  by_cases h1 : zs.length = ys.length
  · have h1' : ((zs.length : Int) != (ys.length : Int)) = false := by simp [h1]
    by_cases h8 : 8 < zs.length
    · have HA : Hid _ := (by unfold dot; rw [if_neg (by omega), if_pos h8] : dot zs ys = none)
      clear C1 C3 h1 hc hf ha hb
      go_enter Tryz.func70, Tryz.ntmps70
      go_wp2_with (fail)
      refine Calls.mono C2.out ?_
      rintro e w2 ⟨rfl, hb2⟩
      go_wp2_with (fail)
      go_ret
      exact told_end HA.out.symm (Below.refl _ _) hb2 HC.out HF.out
    · cases hg : zs.any great
      · cases hg2 : ys.any great
        · have HA : Hid _ := (by unfold dot; rw [if_neg (by omega), if_neg h8, hg, hg2]; rfl : dot zs ys = told (prods zs ys / 4294967296))
          have HS : Hid _ := sumw_row zs ys a c cap cap' w (by omega) h1 hg hg2 ha hb
          rw [hg] at C1
          rw [hg2] at C3
          have K1 : Hid _ := C1
          have K3 : Hid _ := C3
          clear C1 C3 h1 hc hf ha hb hg hg2 C2
          go_enter Tryz.func70, Tryz.ntmps70
          go_wp2_with (fail)
          refine Calls.mono K1.out ?_
          rintro e w1 ⟨rfl, hw⟩
          rw [hw]; clear hw
          go_wp2_with (fail)
          refine Calls.mono K3.out ?_
          rintro e w1 ⟨rfl, hw⟩
          rw [hw]; clear hw
          go_wp2_with (fail)
          refine Calls.mono HS.out ?_
          rintro e w1 ⟨s, d, rfl, S1, B1⟩
          go_wp2_with (fail)
          refine (down_any s d 4294967296 _ S1.out.1 (by omega) (by omega) (by omega)).mono ?_
          rintro e w3 ⟨n, ok, rfl, S3, B3⟩
          have B5 : Hid (Below w.heap.size w w3) := below_step B1.out B3.out
          have S5 : Hid _ := fits_told S3.out
          rw [S1.out.2, fl_one] at S5
          clear S1 S3 B1 B3 K1 K3 HS
          go_wp2_with (fail)
          refine (rtells_any b off f n ok _ (cell_after B5.out HC.out) (frozen_after B5.out HC.out HF.out)).mono ?_
          rintro e w6 ⟨rfl, hb2⟩
          go_wp2_with (fail)
          go_ret
          exact told_end (S5.out.trans HA.out.symm) B5.out hb2 HC.out HF.out
        · have HA : Hid _ := (by unfold dot; rw [if_neg (by omega), if_neg h8, hg, hg2]; rfl : dot zs ys = none)
          rw [hg] at C1
          rw [hg2] at C3
          have K1 : Hid _ := C1
          have K3 : Hid _ := C3
          clear C1 C3 h1 hc hf ha hb hg hg2
          go_enter Tryz.func70, Tryz.ntmps70
          go_wp2_with (fail)
          refine Calls.mono K1.out ?_
          rintro e w1 ⟨rfl, hw⟩
          rw [hw]; clear hw
          go_wp2_with (fail)
          refine Calls.mono K3.out ?_
          rintro e w1 ⟨rfl, hw⟩
          rw [hw]; clear hw
          go_wp2_with (fail)
          refine Calls.mono C2.out ?_
          rintro e w2 ⟨rfl, hb2⟩
          go_wp2_with (fail)
          go_ret
          exact told_end HA.out.symm (Below.refl _ _) hb2 HC.out HF.out
      · have HA : Hid _ := (by unfold dot; rw [if_neg (by omega), if_neg h8, hg]; rfl : dot zs ys = none)
        obtain ⟨g2, hg2⟩ : ∃ g, g = ys.any great := ⟨_, rfl⟩
        rw [hg] at C1
        rw [← hg2] at C3
        have K1 : Hid _ := C1
        have K3 : Hid _ := C3
        clear C1 C3 h1 hc hf ha hb hg hg2
        go_enter Tryz.func70, Tryz.ntmps70
        go_wp2_with (fail)
        refine Calls.mono K1.out ?_
        rintro e w1 ⟨rfl, hw⟩
        rw [hw]; clear hw
        go_wp2_with (fail)
        refine Calls.mono K3.out ?_
        rintro e w1 ⟨rfl, hw⟩
        rw [hw]; clear hw
        go_wp2_with (fail)
        refine Calls.mono C2.out ?_
        rintro e w2 ⟨rfl, hb2⟩
        go_wp2_with (fail)
        go_ret
        exact told_end HA.out.symm (Below.refl _ _) hb2 HC.out HF.out
  · have h1' : ((zs.length : Int) != (ys.length : Int)) = true := by simp; omega
    have HA : Hid _ := (by unfold dot; rw [if_pos h1] : dot zs ys = none)
    clear C1 C3 hc hf ha hb
    go_enter Tryz.func70, Tryz.ntmps70
    go_wp2_with (fail)
    refine Calls.mono C2.out ?_
    rintro e w2 ⟨rfl, hb2⟩
    go_wp2_with (fail)
    go_ret
    exact told_end HA.out.symm (Below.refl _ _) hb2 HC.out HF.out

set_option maxHeartbeats 2000000 in
theorem rnorm_law (b off : Nat) (f : Bool) (zs : List Int) (a : Option Addr) (cap : Nat) (w : World) (hc : w.cell? ⟨b, off, none⟩ = some (.bool f)) (hf : w.frozen? ⟨b, off, none⟩ = false)
    (hz : zs.length ≤ 4611686018427387904) (ha : NRow w a zs) :
    Calls Tryz.prog 82 #[.pointer (some ⟨b, off, none⟩), .slice a zs.length cap] w fun e W' => ∃ v g, e = .returned (.int .i64 v) ∧ Hid (Step f (norm zs) v g) ∧ Hid (After ⟨b, off, none⟩ g w W') := by
  have HC : Hid _ := hc
  have HF : Hid _ := hf
  have C2 : Hid _ := rtells_any b off f 0 false w hc hf
  have C1 := rgreat_row zs a cap w hz ha
  by_cases h8 : 8 < zs.length
  · have HA : Hid _ := (by unfold norm; rw [if_pos h8] : norm zs = none)
    clear C1 hc hf ha
    go_enter Tryz.func82, Tryz.ntmps82
    go_wp2_with (fail)
    refine Calls.mono C2.out ?_
    rintro e w2 ⟨rfl, hb2⟩
    go_wp2_with (fail)
    go_ret
    exact told_end HA.out.symm (Below.refl _ _) hb2 HC.out HF.out
  · cases hg : zs.any great
    · have HA : Hid _ := (by unfold norm; rw [if_neg h8, hg]; rfl : norm zs = told (isq (prods zs zs).toNat))
      have HS : Hid _ := sumw_row zs zs a a cap cap w (by omega) rfl hg hg ha ha
      rw [hg] at C1
      have K1 : Hid _ := C1
      clear C1 hc hf ha hg C2
      go_enter Tryz.func82, Tryz.ntmps82
      go_wp2_with (fail)
      refine Calls.mono K1.out ?_
      rintro e w1 ⟨rfl, hw⟩
      rw [hw]; clear hw
      go_wp2_with (fail)
      refine Calls.mono HS.out ?_
      rintro e w1 ⟨s, d, rfl, S1, B1⟩
      go_wp2_with (fail)
      refine (rootw_any s d _ S1.out.1 (by rw [S1.out.2]; exact prods_self zs)).mono ?_
      rintro e w3 ⟨n, ok, rfl, S3, B3⟩
      have B5 : Hid (Below w.heap.size w w3) := below_step B1.out B3.out
      have S5 : Hid _ := fits_told S3.out
      rw [S1.out.2] at S5
      clear S1 S3 B1 B3 K1 HS
      go_wp2_with (fail)
      refine (rtells_any b off f n ok _ (cell_after B5.out HC.out) (frozen_after B5.out HC.out HF.out)).mono ?_
      rintro e w6 ⟨rfl, hb2⟩
      go_wp2_with (fail)
      go_ret
      exact told_end (S5.out.trans HA.out.symm) B5.out hb2 HC.out HF.out
    · have HA : Hid _ := (by unfold norm; rw [if_neg h8, hg]; rfl : norm zs = none)
      rw [hg] at C1
      have K1 : Hid _ := C1
      clear C1 hc hf ha hg
      go_enter Tryz.func82, Tryz.ntmps82
      go_wp2_with (fail)
      refine Calls.mono K1.out ?_
      rintro e w1 ⟨rfl, hw⟩
      rw [hw]; clear hw
      go_wp2_with (fail)
      refine Calls.mono C2.out ?_
      rintro e w2 ⟨rfl, hb2⟩
      go_wp2_with (fail)
      go_ret
      exact told_end HA.out.symm (Below.refl _ _) hb2 HC.out HF.out

end Go.Proofs.YtocdompopadanaaGreat
