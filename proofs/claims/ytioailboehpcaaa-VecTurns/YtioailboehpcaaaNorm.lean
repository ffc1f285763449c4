/- Package fx's call Norm: what it returns, and that but for the flag it leaves all memory as it was. -/
import Derived.Test.YtioailboehpcaaaWork2
import Derived.Deep.RegionWith
namespace Go.Proofs.Ytioailboehpcaaa
open Go.RowKit Fx

set_option maxHeartbeats 1000000 in
theorem norm_no (b off : Nat) (f : Bool) (zs : List Int) (bl ol cap : Nat) (w : World) (hc : w.cell? ⟨b, off, none⟩ = some (.bool f)) (hf : w.frozen? ⟨b, off, none⟩ = false)
    (hlen : zs.length ≤ 4611686018427387904) (hl : ∀ k, k < zs.length → w.cell? ⟨bl, ol + k, none⟩ = some (.int .i64 (zs.getD k 0))) (hno : 8 < zs.length ∨ zs.any great = true) :
    Calls Try.prog 45 #[.pointer (some ⟨b, off, none⟩), .slice (some ⟨bl, ol, none⟩) zs.length cap] w fun e w' => e = .returned (.int .i64 0) ∧ w' = w.setCell ⟨b, off, none⟩ (.bool true) := by
  have C2 : Hid _ := none_any b off f w hc hf
  have C1 := great_any zs bl ol cap w hlen hl
  clear hl hc hf
  by_cases h8 : 8 < zs.length
  · clear C1 hno
    go_enter Try.func45, Try.ntmps45
    go_wp2_with (first | (go_at_call 53; refine (Calls.mono C2.out ?_); rintro e w' ⟨rfl, rfl⟩))
    go_ret
    exact ⟨rfl, rfl⟩
  · have hg : zs.any great = true := hno.resolve_left h8
    rw [hg] at C1
    have K1 : Hid _ := C1
    clear C1 hno hg
    go_enter Try.func45, Try.ntmps45
    go_wp2_with (first | (go_at_call 52; refine (Calls.mono K1.out ?_); rintro e w' ⟨rfl, rfl⟩) | (go_at_call 53; refine (Calls.mono C2.out ?_); rintro e w' ⟨rfl, rfl⟩))
    go_ret
    exact ⟨rfl, rfl⟩

theorem sum_end {w wr w1 w2 : World} {u0 u1 : Value} (v0 v1 : Value) (HB : Below w.heap.size w wr) (hsz : w.heap.size < wr.heap.size) (hb1 : Below wr.drew.heap.size wr.drew w1) (hb2 : Below w1.heap.size w1 w2)
    (r0 : w2.cell? ⟨w.heap.size, 0, none⟩ = some u0) (r1 : w2.cell? ⟨w.heap.size, 1, none⟩ = some u1) (s0 : w2.frozen? ⟨w.heap.size, 0, none⟩ = false) (s1 : w2.frozen? ⟨w.heap.size, 1, none⟩ = false) :
    Below w.heap.size w ((w2.setCell ⟨w.heap.size, 0, none⟩ v0).setCell ⟨w.heap.size, 1, none⟩ v1) ∧ w.heap.size < ((w2.setCell ⟨w.heap.size, 0, none⟩ v0).setCell ⟨w.heap.size, 1, none⟩ v1).heap.size ∧
    ((w2.setCell ⟨w.heap.size, 0, none⟩ v0).setCell ⟨w.heap.size, 1, none⟩ v1).cell? ⟨w.heap.size, 0, none⟩ = some v0 ∧ ((w2.setCell ⟨w.heap.size, 0, none⟩ v0).setCell ⟨w.heap.size, 1, none⟩ v1).cell? ⟨w.heap.size, 1, none⟩ = some v1 ∧
    ((w2.setCell ⟨w.heap.size, 0, none⟩ v0).setCell ⟨w.heap.size, 1, none⟩ v1).frozen? ⟨w.heap.size, 0, none⟩ = false ∧ ((w2.setCell ⟨w.heap.size, 0, none⟩ v0).setCell ⟨w.heap.size, 1, none⟩ v1).frozen? ⟨w.heap.size, 1, none⟩ = false := by
  have a1 : Below w.heap.size w w1 := (HB.drew).trans (hb1.mono (by simp; omega))
  have a2 := below_step a1 hb2
  have h1 := hb1.size
  have h2 := hb2.size
  simp at h1
  refine ⟨(a2.setCell (Nat.le_refl _) _).setCell (Nat.le_refl _) _, ?_, ?_, ?_, ?_, ?_⟩
  · simp; omega
  · simp [go_sem, r0]
  · simp [go_sem, r1]
  · simp [go_sem, s0]
  · simp [go_sem, s1]

set_option maxHeartbeats 1000000 in
theorem norm_yes (b off : Nat) (f : Bool) (zs : List Int) (bl ol cap : Nat) (w : World) (hc : w.cell? ⟨b, off, none⟩ = some (.bool f)) (hf : w.frozen? ⟨b, off, none⟩ = false)
    (hl : ∀ k, k < zs.length → w.cell? ⟨bl, ol + k, none⟩ = some (.int .i64 (zs.getD k 0))) (hlen : zs.length ≤ 8) (hg : zs.any great = false) :
    Calls Try.prog 45 #[.pointer (some ⟨b, off, none⟩), .slice (some ⟨bl, ol, none⟩) zs.length cap] w fun e w' => e = .returned (.int .i64 ((told (isq (prods zs zs).toNat)).getD 0)) ∧ Below w.heap.size (mark ⟨b, off, none⟩ (told (isq (prods zs zs).toNat)) w) w' := by
  obtain ⟨S, hS⟩ : ∃ S, S = prods zs zs := ⟨_, rfl⟩
  rw [← hS]
  have hb := prods_bound zs zs hg hg
  have hs := prods_self zs
  rw [← hS] at hb hs
  have hS1 : S < 170141183460469231731687303715884105728 := by omega
  have C4 := fun w => root_any S w hs hS1
  have HS0 : Hid _ := hS
  clear hb hS hS1 hs
  have C1 := great_any zs bl ol cap w (by omega) hl
  rw [hg] at C1
  have K1 : Hid _ := C1
  have K0 : Hid _ := C4
  clear C4
  have HC : Hid _ := hc
  have HF : Hid _ := hf
  have HL : Hid _ := hl
  have HG : Hid _ := hg
  clear C1 hc hf hl hg
  go_enter Try.func45, Try.ntmps45
  go_wp2_with (first | (go_at_call 52; refine (Calls.mono K1.out ?_); rintro e w' ⟨rfl, hw⟩; rw [hw]; clear hw))
  go_loopw [19] (fun i wr => ∃ (k : Nat) (X : Int), k ≤ zs.length ∧ i = .int .i64 k ∧ Hid (X = prods (zs.take k) (zs.take k)) ∧ Hid (Below w.heap.size w wr) ∧ w.heap.size < wr.heap.size ∧ wr.cell? ⟨w.heap.size, 0, none⟩ = some (.int .u64 (X / 18446744073709551616 % 18446744073709551616)) ∧ wr.cell? ⟨w.heap.size, 1, none⟩ = some (.int .u64 (X % 18446744073709551616)) ∧ wr.frozen? ⟨w.heap.size, 0, none⟩ = false ∧ wr.frozen? ⟨w.heap.size, 1, none⟩ = false) (fun i _ => zs.length - (intOf i).toNat)
  case atStart => exact ⟨0, 0, Nat.zero_le _, rfl, by simp [Hid, prods], new_after _ _, by simp, by simp, by simp, by simp, by simp⟩
  case round =>
    obtain ⟨k, X, hk, rfl, HX, HB, hsz, d0, d1, f0, f1⟩ := hrel
    by_cases hlt : k < zs.length
    · have hcell := cell_after HB.out (HL.out k hlt)
      have hz := (not_great _).1 (getD_small HG.out hlt)
      have HS : Hid _ := prods_step k zs zs hlt hlt
      obtain ⟨z, ez⟩ : ∃ z, zs.getD k 0 = z := ⟨_, rfl⟩
      rw [ez] at hcell hz HS
      clear ez
      have C3 : Hid _ := fun w => product_any z z w (by omega) (by omega) (by omega) (by omega)
      have C4 : Hid _ := fun w => plus_any X (z * z) w
      obtain ⟨xh, hxh⟩ : ∃ u, u = X / 18446744073709551616 % 18446744073709551616 := ⟨_, rfl⟩
      obtain ⟨xl, hxl⟩ : ∃ u, u = X % 18446744073709551616 := ⟨_, rfl⟩
      rw [← hxh] at d0
      rw [← hxl] at d1
      rw [← hxh, ← hxl] at C4
      clear hxh hxl
      go_wp2
      go_region_with (first
        | (go_at_call 57; refine (Calls.mono (C3.out _) ?_); rintro e w1 ⟨rfl, hb1⟩; have p0 := cell_after hb1 d0; have p1 := cell_after hb1 d1; have q0 := frozen_after hb1 d0 f0; have q1 := frozen_after hb1 d1 f1; have hs1 := hb1.size)
        | (go_at_call 60; refine (Calls.mono (C4.out _) ?_); rintro e w2 ⟨rfl, hb2⟩; have r0 := cell_after hb2 p0; have r1 := cell_after hb2 p1; have s0 := frozen_after hb2 p0 q0; have s1 := frozen_after hb2 p1 q1; have hs2 := hb2.size))
      all_goals go_wp2
      all_goals go_roundw
      all_goals try (case rel => obtain ⟨m1, m2, m3, m4, m5, m6⟩ := sum_end (.int .u64 ((X + z * z) / 18446744073709551616 % 18446744073709551616)) (.int .u64 ((X + z * z) % 18446744073709551616)) HB.out hsz hb1 hb2 r0 r1 s0 s1; exact ⟨k + 1, X + z * z, by omega, by go_num, by show _ = _; rw [HS.out, HX.out], m1, m2, m3, m4, m5, m6⟩)
      all_goals try (case measure => simp [intOf]; omega)
    · obtain rfl : k = zs.length := by omega
      obtain rfl : X = S := by have := HX.out; rw [List.take_length] at this; rw [this, HS0.out]
      have C4 := K0.out
      clear K0 HX HS0 hk hlt
      have hisq0 : (0 : Int) ≤ (isq X.toNat : Int) := by omega
      obtain ⟨xh, hxh⟩ : ∃ u, u = X / 18446744073709551616 % 18446744073709551616 := ⟨_, rfl⟩
      obtain ⟨xl, hxl⟩ : ∃ u, u = X % 18446744073709551616 := ⟨_, rfl⟩
      rw [← hxh] at d0
      rw [← hxl] at d1
      rw [← hxh, ← hxl] at C4
      clear hxh hxl
      have HB' := HB.out
      by_cases hfit : (isq X.toNat : Int) ≤ 4611686018427387903
      · rw [IntWalk.wrap64_in _ (by omega), decide_eq_true hfit] at C4
        have K4 : Hid _ := C4
        clear C4 hfit hisq0
        go_wp2_with (first
          | (go_at_call 63; refine (Calls.mono (K4.out _) ?_); rintro e w2 ⟨rfl, hb2⟩; have B2 : Hid _ := below_step HB.out hb2)
          | (go_at_call 54; refine (Calls.mono (tell_any b off f _ _ (cell_after B2.out HC.out) (frozen_after B2.out HC.out HF.out)) ?_); rintro e w3 ⟨rfl, hb3⟩))
        go_ret
        exact ⟨rfl, mark_after B2.out hb3⟩
      · have ht : told (isq X.toNat) = none := by
          have hgr : great (isq X.toNat) = true := by rw [great_iff]; omega
          simp only [told, hgr]; rfl
        rw [decide_eq_false hfit] at C4
        have K4 : Hid _ := C4
        have HT : Hid _ := ht
        clear C4 hfit hisq0 ht
        go_wp2_with (first
          | (go_at_call 63; refine (Calls.mono (K4.out _) ?_); rintro e w2 ⟨rfl, hb2⟩; have B2 : Hid _ := below_step HB.out hb2)
          | (go_at_call 54; refine (Calls.mono (tell_any_none b off f _ _ (cell_after B2.out HC.out) (frozen_after B2.out HC.out HF.out)) ?_); rintro e w3 ⟨rfl, hb3⟩))
        go_ret
        rw [HT.out]
        exact ⟨rfl, mark_after B2.out hb3⟩

/-- Norm of what lies in a slice that is not nil. -/
theorem norm_any (b off : Nat) (f : Bool) (zs : List Int) (bl ol cap : Nat) (w : World) (hc : w.cell? ⟨b, off, none⟩ = some (.bool f)) (hf : w.frozen? ⟨b, off, none⟩ = false)
    (hl : ∀ k, k < zs.length → w.cell? ⟨bl, ol + k, none⟩ = some (.int .i64 (zs.getD k 0))) (hlen : zs.length ≤ 4611686018427387904) :
    Calls Try.prog 45 #[.pointer (some ⟨b, off, none⟩), .slice (some ⟨bl, ol, none⟩) zs.length cap] w fun e w' => e = .returned (.int .i64 ((norm zs).getD 0)) ∧ Below w.heap.size (mark ⟨b, off, none⟩ (norm zs) w) w' := by
  by_cases h : 8 < zs.length ∨ zs.any great = true
  · have hn : norm zs = none := by
      unfold norm
      rcases h with h | h
      · rw [if_pos h]
      · simp only [h, if_true, ite_self]
    rw [hn]
    exact (norm_no b off f zs bl ol cap w hc hf hlen hl h).mono fun e w' ⟨a, c⟩ => ⟨a, by rw [c]; exact Below.refl _ _⟩
  · have h8 : ¬ 8 < zs.length := fun g => h (Or.inl g)
    have hg : zs.any great = false := by cases e : zs.any great with
      | false => rfl
      | true => exact absurd (Or.inr e) h
    have hn : norm zs = told (isq (prods zs zs).toNat) := by unfold norm; simp only [h8, hg, if_false]; rfl
    rw [hn]
    exact norm_yes b off f zs bl ol cap w hc hf hl (by omega) hg
end Go.Proofs.Ytioailboehpcaaa
