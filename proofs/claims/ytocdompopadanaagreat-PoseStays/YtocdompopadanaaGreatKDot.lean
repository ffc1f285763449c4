/- Package fx's call Dot: what it returns, and that but for the flag it leaves all memory as it was. -/
import Derived.Test.YtocdompopadanaaGreatKWork
namespace Go.Proofs.YtocdompopadanaaGreat
open Go.RowKit Fx

/-- The numbers zs lie where the slice leads (a slice without elements may lead anywhere, or nowhere). -/
def NRow (w : World) (a : Option Addr) (zs : List Int) : Prop := zs.length = 0 ∨ ∃ b off, a = some ⟨b, off, none⟩ ∧ ∀ k, k < zs.length → w.cell? ⟨b, off + k, none⟩ = some (.int .i64 (zs.getD k 0))

theorem great_row (zs : List Int) (a : Option Addr) (cap : Nat) (w : World) (hlen : zs.length ≤ 4611686018427387904) (h : NRow w a zs) :
    Calls Tryz.prog 123 #[.slice a zs.length cap] w fun e w' => e = .returned (.bool (zs.any great)) ∧ w' = w := by
  rcases h with h | ⟨b, off, rfl, h⟩
  · obtain rfl : zs = [] := List.length_eq_zero_iff.1 h
    exact great_nil a cap w
  · exact great_any zs b off cap w hlen h

set_option maxHeartbeats 1000000 in
theorem dot_no (b off : Nat) (f : Bool) (zs ys : List Int) (a c : Option Addr) (cap cap' : Nat) (w : World) (hc : w.cell? ⟨b, off, none⟩ = some (.bool f)) (hf : w.frozen? ⟨b, off, none⟩ = false)
    (hz : zs.length ≤ 4611686018427387904) (hy : ys.length ≤ 4611686018427387904) (ha : NRow w a zs) (hb : NRow w c ys) (hno : zs.length ≠ ys.length ∨ 8 < zs.length ∨ zs.any great = true ∨ ys.any great = true) :
    Calls Tryz.prog 97 #[.pointer (some ⟨b, off, none⟩), .slice a zs.length cap, .slice c ys.length cap'] w fun e w' => e = .returned (.int .i64 0) ∧ w' = w.setCell ⟨b, off, none⟩ (.bool true) := by
  have C2 : Hid _ := none_any b off f w hc hf
  have C1 := great_row zs a cap w hz ha
  have C3 := great_row ys c cap' w hy hb
  clear ha hb hc hf
  by_cases h1 : zs.length = ys.length
  · have h1' : ((zs.length : Int) != (ys.length : Int)) = false := by simp [h1]
    by_cases h8 : 8 < zs.length
    · clear C1 C3 hno h1
      go_enter Tryz.func97, Tryz.ntmps97
      go_wp2_with (first | (go_at_call 124; refine (Calls.mono C2.out ?_); rintro e w' ⟨rfl, rfl⟩))
      go_ret
      exact ⟨rfl, rfl⟩
    · cases hg : zs.any great
      · have hg2 : ys.any great = true := by
          rcases hno with h | h | h | h
          · exact absurd h1 h
          · exact absurd h h8
          · rw [hg] at h; cases h
          · exact h
        rw [hg] at C1
        rw [hg2] at C3
        have K1 : Hid _ := C1
        have K3 : Hid _ := C3
        clear C1 C3 hno h1 hg hg2
        go_enter Tryz.func97, Tryz.ntmps97
        go_wp2_with (fail)
        refine (Calls.mono K1.out ?_); rintro e w' ⟨rfl, hw⟩; rw [hw]; clear hw
        go_wp2_with (fail)
        refine (Calls.mono K3.out ?_); rintro e w' ⟨rfl, hw⟩; rw [hw]; clear hw
        go_wp2_with (fail)
        refine (Calls.mono C2.out ?_); rintro e w' ⟨rfl, rfl⟩
        go_wp2_with (fail)
        go_ret
        exact ⟨rfl, rfl⟩
      · rw [hg] at C1
        have K1 : Hid _ := C1
        clear C1 C3 hno h1 hg
        go_enter Tryz.func97, Tryz.ntmps97
        go_wp2_with (fail)
        refine (Calls.mono K1.out ?_); rintro e w' ⟨rfl, hw⟩; rw [hw]; clear hw
        go_wp2_with (fail)
        refine (Calls.mono C2.out ?_); rintro e w' ⟨rfl, rfl⟩
        go_wp2_with (fail)
        go_ret
        exact ⟨rfl, rfl⟩
  · have h1' : ((zs.length : Int) != (ys.length : Int)) = true := by simp; omega
    clear C1 C3 hno
    go_enter Tryz.func97, Tryz.ntmps97
    go_wp2_with (first | (go_at_call 124; refine (Calls.mono C2.out ?_); rintro e w' ⟨rfl, rfl⟩))
    go_ret
    exact ⟨rfl, rfl⟩

set_option maxHeartbeats 2000000 in
theorem dot_yes (b off : Nat) (f : Bool) (zs ys : List Int) (a c : Option Addr) (cap cap' : Nat) (w : World) (hc : w.cell? ⟨b, off, none⟩ = some (.bool f)) (hf : w.frozen? ⟨b, off, none⟩ = false)
    (ha : NRow w a zs) (hb : NRow w c ys) (h1 : zs.length = ys.length) (hlen : zs.length ≤ 8) (hg : zs.any great = false) (hg2 : ys.any great = false) :
    Calls Tryz.prog 97 #[.pointer (some ⟨b, off, none⟩), .slice a zs.length cap, .slice c ys.length cap'] w fun e w' => e = .returned (.int .i64 ((told (prods zs ys / 4294967296)).getD 0)) ∧ Below w.heap.size (mark ⟨b, off, none⟩ (told (prods zs ys / 4294967296)) w) w' := by
  obtain ⟨S, hS⟩ : ∃ S, S = prods zs ys := ⟨_, rfl⟩
  rw [← hS]
  have hbd := prods_bound zs ys hg hg2
  rw [← hS] at hbd
  have hS0 : -170141183460469231731687303715884105728 ≤ S := by omega
  have hS1 : S < 170141183460469231731687303715884105728 := by omega
  have K0 : Hid _ := fun w => byOne_any S w hS0 hS1
  have HS0 : Hid _ := hS
  clear hbd hS hS0 hS1
  have C1 := great_row zs a cap w (by omega) ha
  have C3 := great_row ys c cap' w (by omega) hb
  rw [hg] at C1
  rw [hg2] at C3
  have K1 : Hid _ := C1
  have K3 : Hid _ := C3
  have HC : Hid _ := hc
  have HF : Hid _ := hf
  have HA : Hid _ := ha
  have HD : Hid _ := hb
  have HG : Hid _ := hg
  have HG2 : Hid _ := hg2
  have H1 : Hid _ := h1
  have h1' : ((zs.length : Int) != (ys.length : Int)) = false := by simp [h1]
  have hy8 : ys.length ≤ 8 := by omega
  clear C1 C3 hc hf ha hb hg hg2 h1
  go_enter Tryz.func97, Tryz.ntmps97
  go_wp2_with (fail)
  refine (Calls.mono K1.out ?_); rintro e w' ⟨rfl, hw⟩; rw [hw]; clear hw
  go_wp2_with (fail)
  refine (Calls.mono K3.out ?_); rintro e w' ⟨rfl, hw⟩; rw [hw]; clear hw
  go_wp2_with (fail)
  go_loopw [32] (fun i wr => ∃ (k : Nat) (X : Int), k ≤ zs.length ∧ i = .int .i64 k ∧ Hid (X = prods (zs.take k) (ys.take k)) ∧ Hid (Below w.heap.size w wr) ∧ w.heap.size < wr.heap.size ∧ wr.cell? ⟨w.heap.size, 0, none⟩ = some (.int .u64 (X / 18446744073709551616 % 18446744073709551616)) ∧ wr.cell? ⟨w.heap.size, 1, none⟩ = some (.int .u64 (X % 18446744073709551616)) ∧ wr.frozen? ⟨w.heap.size, 0, none⟩ = false ∧ wr.frozen? ⟨w.heap.size, 1, none⟩ = false) (fun i _ => zs.length - (intOf i).toNat)
  case atStart => exact ⟨0, 0, Nat.zero_le _, rfl, by simp [Hid, prods], new_after _ _, by simp, by simp, by simp, by simp, by simp⟩
  case round =>
    obtain ⟨k, X, hk, rfl, HX, HB, hsz, d0, d1, f0, f1⟩ := hrel
    by_cases hlt : k < zs.length
    · have hlt2 : k < ys.length := by have := H1.out; omega
      rcases HA.out with h | ⟨ba, oa, rfl, hza⟩
      · omega
      rcases HD.out with h | ⟨bb, ob, rfl, hyb⟩
      · omega
      have hcell := cell_after HB.out (hza k hlt)
      have hcell2 := cell_after HB.out (hyb k hlt2)
      have hz := (not_great _).1 (getD_small HG.out hlt)
      have hy := (not_great _).1 (getD_small HG2.out hlt2)
      have HS : Hid _ := prods_step k zs ys hlt hlt2
      obtain ⟨z, ez⟩ : ∃ z, zs.getD k 0 = z := ⟨_, rfl⟩
      obtain ⟨y, ey⟩ : ∃ y, ys.getD k 0 = y := ⟨_, rfl⟩
      rw [ez] at hcell hz HS
      rw [ey] at hcell2 hy HS
      clear ez ey hza hyb HA HD
      have C3 : Hid _ := fun w => product_any z y w (by omega) (by omega) (by omega) (by omega)
      have C4 : Hid _ := fun w => plus_any X (z * y) w
      obtain ⟨xh, hxh⟩ : ∃ u, u = X / 18446744073709551616 % 18446744073709551616 := ⟨_, rfl⟩
      obtain ⟨xl, hxl⟩ : ∃ u, u = X % 18446744073709551616 := ⟨_, rfl⟩
      rw [← hxh] at d0
      rw [← hxl] at d1
      rw [← hxh, ← hxl] at C4
      clear hxh hxl
      have hi0 : (0 : Int) ≤ (k : Int) := by omega
      have hi1 : (k : Int) < (ys.length : Int) := by omega
      go_wp2
      go_region_with (first
        | (go_at_call 127; refine (Calls.mono (C3.out _) ?_); rintro e w1 ⟨rfl, hb1⟩; have p0 := cell_after hb1 d0; have p1 := cell_after hb1 d1; have q0 := frozen_after hb1 d0 f0; have q1 := frozen_after hb1 d1 f1; have hs1 := hb1.size)
        | (go_at_call 126; refine (Calls.mono (C4.out _) ?_); rintro e w2 ⟨rfl, hb2⟩; have r0 := cell_after hb2 p0; have r1 := cell_after hb2 p1; have s0 := frozen_after hb2 p0 q0; have s1 := frozen_after hb2 p1 q1; have hs2 := hb2.size))
      all_goals go_wp2
      all_goals go_roundw
      all_goals try (case rel => obtain ⟨m1, m2, m3, m4, m5, m6⟩ := sum_end (.int .u64 ((X + z * y) / 18446744073709551616 % 18446744073709551616)) (.int .u64 ((X + z * y) % 18446744073709551616)) HB.out hsz hb1 hb2 r0 r1 s0 s1; exact ⟨k + 1, X + z * y, by omega, by go_num, by show _ = _; rw [HS.out, HX.out], m1, m2, m3, m4, m5, m6⟩)
      all_goals try (case measure => simp [intOf]; omega)
    · obtain rfl : k = zs.length := by omega
      obtain rfl : X = S := by have := HX.out; rw [List.take_length, H1.out, List.take_length] at this; rw [this, HS0.out]
      have C4 := K0.out
      clear K0 HX HS0 hk hlt
      obtain ⟨xh, hxh⟩ : ∃ u, u = X / 18446744073709551616 % 18446744073709551616 := ⟨_, rfl⟩
      obtain ⟨xl, hxl⟩ : ∃ u, u = X % 18446744073709551616 := ⟨_, rfl⟩
      rw [← hxh] at d0
      rw [← hxl] at d1
      rw [← hxh, ← hxl] at C4
      clear hxh hxl
      by_cases hfit : -9223372036854775808 ≤ X / 4294967296 ∧ X / 4294967296 < 9223372036854775808
      · rw [IntWalk.wrap64_in _ (by omega), decide_eq_true hfit] at C4
        have K4 : Hid _ := C4
        clear C4 hfit
        go_wp2_with (first
          | (go_at_call 128; refine (Calls.mono (K4.out _) ?_); rintro e w2 ⟨rfl, hb2⟩; have B2 : Hid _ := below_step HB.out hb2)
          | (go_at_call 125; refine (Calls.mono (tell_any b off f _ _ (cell_after B2.out HC.out) (frozen_after B2.out HC.out HF.out)) ?_); rintro e w3 ⟨rfl, hb3⟩))
        go_ret
        exact ⟨rfl, mark_after B2.out hb3⟩
      · have ht : told (X / 4294967296) = none := by
          have hgr : great (X / 4294967296) = true := by rw [great_iff]; omega
          simp only [told, hgr]; rfl
        rw [decide_eq_false hfit] at C4
        have K4 : Hid _ := C4
        have HT : Hid _ := ht
        clear C4 hfit ht
        go_wp2_with (first
          | (go_at_call 128; refine (Calls.mono (K4.out _) ?_); rintro e w2 ⟨rfl, hb2⟩; have B2 : Hid _ := below_step HB.out hb2)
          | (go_at_call 125; refine (Calls.mono (tell_any_none b off f _ _ (cell_after B2.out HC.out) (frozen_after B2.out HC.out HF.out)) ?_); rintro e w3 ⟨rfl, hb3⟩))
        go_ret
        rw [HT.out]
        exact ⟨rfl, mark_after B2.out hb3⟩

theorem fdot_any (b off : Nat) (f : Bool) (zs ys : List Int) (a c : Option Addr) (cap cap' : Nat) (w : World) (hc : w.cell? ⟨b, off, none⟩ = some (.bool f)) (hf : w.frozen? ⟨b, off, none⟩ = false)
    (hz : zs.length ≤ 4611686018427387904) (hy : ys.length ≤ 4611686018427387904) (ha : NRow w a zs) (hb : NRow w c ys) :
    Calls Tryz.prog 97 #[.pointer (some ⟨b, off, none⟩), .slice a zs.length cap, .slice c ys.length cap'] w fun e W' => ∃ v g, e = .returned (.int .i64 v) ∧ Hid (Step f (dot zs ys) v g) ∧ Hid (After ⟨b, off, none⟩ g w W') := by
  by_cases h : zs.length ≠ ys.length ∨ 8 < zs.length ∨ zs.any great = true ∨ ys.any great = true
  · have hn : dot zs ys = none := by
      unfold dot
      rcases h with h | h | h | h
      · rw [if_pos h]
      · simp only [h, if_true, ite_self]
      · simp only [h, Bool.true_or, if_true, ite_self]
      · simp only [h, Bool.or_true, if_true, ite_self]
    rw [hn]
    exact (dot_no b off f zs ys a c cap cap' w hc hf hz hy ha hb h).mono fun e w' ⟨x, y⟩ => ⟨_, _, x, ⟨rfl, rfl⟩, after_of (o := none) (by rw [y]; exact Below.refl _ _) hc hf⟩
  · have h1 : zs.length = ys.length := by omega
    have h8 : ¬ 8 < zs.length := fun g => h (Or.inr (Or.inl g))
    have hg : zs.any great = false := by cases e : zs.any great with
      | false => rfl
      | true => exact absurd (Or.inr (Or.inr (Or.inl e))) h
    have hg2 : ys.any great = false := by cases e : ys.any great with
      | false => rfl
      | true => exact absurd (Or.inr (Or.inr (Or.inr e))) h
    have hn : dot zs ys = told (prods zs ys / 4294967296) := by
      unfold dot
      rw [if_neg (by omega), if_neg h8, hg, hg2]; rfl
    rw [hn]
    exact (dot_yes b off f zs ys a c cap cap' w hc hf ha hb h1 (by omega) hg hg2).mono fun e w' ⟨x, y⟩ => ⟨_, _, x, ⟨rfl, rfl⟩, after_of y hc hf⟩
end Go.Proofs.YtocdompopadanaaGreat
