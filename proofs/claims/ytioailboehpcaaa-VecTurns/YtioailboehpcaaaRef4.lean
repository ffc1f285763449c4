/- The reference's numbers by digits (tumblerref01): products. -/
import Derived.Test.YtioailboehpcaaaRef3b
namespace Go.Proofs.Ytioailboehpcaaa
open Go.RowKit Ref

theorem val_succ (d : Nat → Int) (n : Nat) : val d (n + 1) = val d n + d n * 16777216 ^ n := rfl

theorem val_split (b : Nat → Int) (n : Nat) : ∀ m, val b (n + m) = val b n + 16777216 ^ n * val (fun j => b (n + j)) m
  | 0 => by simp [val]
  | m + 1 => by
    rw [← Nat.add_assoc]
    simp only [val]
    rw [val_split b n m, Int.pow_add]
    grind

theorem times_zero {a b d : Nat → Int} {k : Nat} (h : ∃ m : Int, val d 8 + m * 16777216 ^ 8 = val a k * val b 8) (hz : a k = 0) : ∃ m : Int, val d 8 + m * 16777216 ^ 8 = val a (k + 1) * val b 8 := by
  obtain ⟨m, h⟩ := h
  exact ⟨m, by rw [val_succ a k, hz, Int.zero_mul, Int.add_zero]; exact h⟩

theorem times_next {b d e : Nat → Int} {k j : Nat} {x c y o : Int} (hb : 0 ≤ y ∧ y < 16777216) (hx : 0 ≤ x ∧ x < 16777216) (ho : 0 ≤ o ∧ o < 16777216) (he : Digs e) (hkj : k + j < 8) (hc : 0 ≤ c ∧ c < 16777216) (ey : y = b j) (eo : o = e (k + j))
    (h : val e 8 + c * 16777216 ^ (k + j) = val d 8 + x * val b j * 16777216 ^ k) :
    Digs (put e (k + j) ((o + x * y + c) % 16777216)) ∧ 0 ≤ (o + x * y + c) / 16777216 ∧ (o + x * y + c) / 16777216 < 16777216 ∧
    val (put e (k + j) ((o + x * y + c) % 16777216)) 8 + (o + x * y + c) / 16777216 * 16777216 ^ (k + (j + 1)) = val d 8 + x * val b (j + 1) * 16777216 ^ k := by
  have hp0 : 0 ≤ x * y := Int.mul_nonneg hx.1 hb.1
  have hp1 : x * y ≤ 16777215 * 16777215 := Int.mul_le_mul (by omega) (by omega) hb.1 (by omega)
  refine ⟨he.put _ ⟨Int.emod_nonneg _ (by omega), Int.emod_lt_of_pos _ (by omega)⟩, by omega, by omega, ?_⟩
  rw [val_put _ _ _ 8 hkj, ← eo, ← Nat.add_assoc, Int.pow_succ]
  have := mul_step (o := o) (x := x) (y := y) h
  rw [this, val_succ b j, ← ey, Int.pow_add]
  generalize val d 8 = D8 at *
  grind

theorem times_round {a b d e : Nat → Int} {k j : Nat} {c : Int} (h : ∃ m : Int, val d 8 + m * 16777216 ^ 8 = val a k * val b 8) (hj : k + j = 8)
    (hi : val e 8 + c * 16777216 ^ (k + j) = val d 8 + a k * val b j * 16777216 ^ k) : ∃ m : Int, val e 8 + m * 16777216 ^ 8 = val a (k + 1) * val b 8 := by
  obtain ⟨m, h⟩ := h
  have hs := val_split b j k
  rw [Nat.add_comm j k, hj] at hs
  have hp : (16777216 : Int) ^ 8 = 16777216 ^ j * 16777216 ^ k := by rw [← Int.pow_add, Nat.add_comm j k, hj]
  rw [hj] at hi
  refine ⟨c + m + a k * val (fun i => b (j + i)) k, ?_⟩
  rw [val_succ a k]
  rw [hp] at h hi ⊢
  clear hp
  generalize val (fun i => b (j + i)) k = R at *
  generalize val b 8 = B8 at *
  generalize val d 8 = D8 at *
  generalize val e 8 = E8 at *
  generalize (16777216 : Int) ^ j = X at *
  generalize (16777216 : Int) ^ k = Y at *
  grind

theorem times_done {a b d : Nat → Int} {s t : Bool} (ha : Digs a) (hb : Digs b) (hd : Digs d) (h : ∃ m : Int, val d 8 + m * 16777216 ^ 8 = val a 8 * val b 8) (hfit : (sv s a * sv t b).natAbs < 6277101735386680763835789423207666416102355444464034512896) :
    sv (s != t) d = sv s a * sv t b := by
  obtain ⟨m, h⟩ := h
  have h1 : (16777216 : Int) ^ 8 = 6277101735386680763835789423207666416102355444464034512896 := by decide
  rw [h1] at h
  have d0 := hd.nonneg
  have d1 := hd.lt
  have hp : 0 ≤ val a 8 * val b 8 := Int.mul_nonneg ha.nonneg hb.nonneg
  have e : (sv s a * sv t b).natAbs = (val a 8 * val b 8).natAbs := by unfold sv; cases s <;> cases t <;> simp [Int.natAbs_mul]
  rw [e] at hfit
  have hv : val d 8 = val a 8 * val b 8 := by omega
  unfold sv
  rw [hv]
  cases s <;> cases t <;> simp [Int.neg_mul, Int.mul_neg]

theorem Lies.sign {W : World} {b : Nat} {s : Bool} {d : Nat → Int} (h : Lies W b s d) (t : Bool) : Lies (W.setCell ⟨b, 0, none⟩ (.bool t)) b t d := by
  have hn := h.neg
  refine ⟨by simp [go_sem, hn], fun k hk => ?_, fun k hk => ?_⟩
  · rw [← h.dig k hk]; simp [go_sem]
  · rw [← h.free k hk]; simp [go_sem]

set_option maxHeartbeats 1000000 in
theorem times_any (s t : Bool) (a b : Nat → Int) (w : World) (ha : Digs a) (hb : Digs b) (hfit : (sv s a * sv t b).natAbs < 6277101735386680763835789423207666416102355444464034512896) :
    Calls Try.prog 67 #[wv s a, wv t b] w fun e w' => ∃ u d, e = .returned (wv u d) ∧ Hid (Digs d ∧ sv u d = sv s a * sv t b) ∧ Hid (Below w.heap.size w w') := by
  have HE : Hid _ := fun d (hd : Digs d) h => times_done (s := s) (t := t) ha hb hd h hfit
  have HA : Hid _ := ha
  have HC : Hid _ := hb
  clear ha hb hfit
  go_enter Try.func67, Try.ntmps67
  go_wp2
  go_loopw [6] (fun i wr => ∃ (k : Nat) (d : Nat → Int), k ≤ 8 ∧ i = .int .i64 k ∧ Hid (Digs d ∧ ∃ m : Int, val d 8 + m * 16777216 ^ 8 = val a k * val b 8) ∧ Hid (Lies wr w.heap.size s a) ∧ Hid (Lies wr (w.heap.size + 1) t b) ∧ Hid (Lies wr (w.heap.size + 1 + 1) false (fun _ => 0)) ∧ Hid (Lies wr (w.heap.size + 1 + 1 + 1) false d) ∧ Hid (Below w.heap.size w wr)) (fun i _ => 8 - (intOf i).toNat)
  case atStart =>
    exact ⟨0, fun _ => 0, Nat.zero_le _, rfl, ⟨fun j _ => by simp, 0, by simp [val]⟩, (Lies.alloc (Lies.alloc (Lies.alloc (by show Lies _ _ _ _; have := lies_new w s a 84; simpa only [World.size_alloc] using this) _) _) _), (Lies.alloc (Lies.alloc (by show Lies _ _ _ _; have := lies_new (w.alloc (.cells #[.bool s, .int .i64 (a 0), .int .i64 (a 1), .int .i64 (a 2), .int .i64 (a 3), .int .i64 (a 4), .int .i64 (a 5), .int .i64 (a 6), .int .i64 (a 7)] 84)) t b 84; simpa only [World.size_alloc] using this) _) _), (Lies.alloc (by show Lies _ _ _ _; have := lies_new ((w.alloc (.cells #[.bool s, .int .i64 (a 0), .int .i64 (a 1), .int .i64 (a 2), .int .i64 (a 3), .int .i64 (a 4), .int .i64 (a 5), .int .i64 (a 6), .int .i64 (a 7)] 84)).alloc (.cells #[.bool t, .int .i64 (b 0), .int .i64 (b 1), .int .i64 (b 2), .int .i64 (b 3), .int .i64 (b 4), .int .i64 (b 5), .int .i64 (b 6), .int .i64 (b 7)] 84)) false (fun _ => 0) 84; simpa only [World.size_alloc] using this) _), (by show Lies _ _ _ _; have := lies_new (((w.alloc (.cells #[.bool s, .int .i64 (a 0), .int .i64 (a 1), .int .i64 (a 2), .int .i64 (a 3), .int .i64 (a 4), .int .i64 (a 5), .int .i64 (a 6), .int .i64 (a 7)] 84)).alloc (.cells #[.bool t, .int .i64 (b 0), .int .i64 (b 1), .int .i64 (b 2), .int .i64 (b 3), .int .i64 (b 4), .int .i64 (b 5), .int .i64 (b 6), .int .i64 (b 7)] 84)).alloc (.cells #[.bool false, .int .i64 0, .int .i64 0, .int .i64 0, .int .i64 0, .int .i64 0, .int .i64 0, .int .i64 0, .int .i64 0] 84)) false (fun _ => 0) 84; simpa only [World.size_alloc] using this), ((((new_after w _).alloc (by simp) _).alloc (by simp; omega) _).alloc (by simp; omega) _)⟩
  case round =>
    obtain ⟨k, d, hk, rfl, HD, HL, HR, HZ, HO, HB⟩ := hrel
    by_cases hlt : k < 8
    · have e1 := HL.out.dig k hlt
      have i0 : (0 : Int) ≤ (k : Int) := by omega
      have i1 : (k : Int) < 8 := by omega
      have b1 := HA.out k hlt
      obtain ⟨x, hx⟩ : ∃ x, x = a k := ⟨_, rfl⟩
      rw [← hx] at e1 b1
      by_cases hz : x = 0
      · have HM : Hid _ := times_zero HD.out.2 (by rw [← hx, hz])
        clear hx
        go_wp2
        go_roundw
        case rel => exact ⟨k + 1, d, by omega, by go_num, ⟨HD.out.1, HM.out⟩, HL.out, HR.out, HZ.out, HO.out, HB.out⟩
        case measure => simp [intOf]; omega
      · have HX : Hid _ := hx
        clear hx
        go_wp2
        go_loopw [7, 8] (fun cc i wr => ∃ (j : Nat) (e : Nat → Int) (c : Int), k + j ≤ 8 ∧ i = .int .i64 j ∧ cc = .int .i64 c ∧ 0 ≤ c ∧ c < 16777216 ∧ Hid (Digs e ∧ val e 8 + c * 16777216 ^ (k + j) = val d 8 + x * val b j * 16777216 ^ k) ∧ Hid (Lies wr w.heap.size s a) ∧ Hid (Lies wr (w.heap.size + 1) t b) ∧ Hid (Lies wr (w.heap.size + 1 + 1) false (fun _ => 0)) ∧ Hid (Lies wr (w.heap.size + 1 + 1 + 1) false e) ∧ Hid (Below w.heap.size w wr)) (fun _ i _ => 8 - (intOf i).toNat)
        case atStart => exact ⟨0, d, 0, by omega, rfl, rfl, by omega, by omega, ⟨HD.out.1, by simp [val]⟩, HL.out, HR.out, HZ.out, HO.out, HB.out⟩
        case round =>
          clear HL HR HZ HO HB e1
          obtain ⟨j, e, c, hj, rfl, rfl, hc0, hc1, HI, HL, HR, HZ, HO, HB⟩ := hrel
          by_cases hjl : k + j < 8
          · have e1 := HL.out.dig k hlt
            rw [← HX.out] at e1
            have e2 := HR.out.dig j (by omega)
            have e3 := HO.out.dig (k + j) hjl
            have e4 := HO.out.free (1 + (k + j)) (by omega)
            have j0 : (0 : Int) ≤ (j : Int) := by omega
            have j1 : (j : Int) < 8 := by omega
            have k0 : (0 : Int) ≤ (k : Int) + (j : Int) := by omega
            have k1 : (k : Int) + (j : Int) < 8 := by omega
            have b2 := HC.out j (by omega)
            have b3 := HI.out.1 (k + j) hjl
            obtain ⟨y, hy⟩ : ∃ y, y = b j := ⟨_, rfl⟩
            obtain ⟨o, ho⟩ : ∃ o, o = e (k + j) := ⟨_, rfl⟩
            rw [← hy] at e2 b2
            rw [← ho] at e3 b3
            have HN : Hid _ := times_next b2 b1 b3 HI.out.1 hjl ⟨hc0, hc1⟩ hy ho HI.out.2
            have hp0 : 0 ≤ x * y := Int.mul_nonneg b1.1 b2.1
            have hp1 : x * y ≤ 16777215 * 16777215 := Int.mul_le_mul (by omega) (by omega) b2.1 (by omega)
            clear hy ho
            go_wp2
            go_region
            all_goals go_wp2
            all_goals go_roundw
            all_goals try (case rel => obtain ⟨n1, n2, n3, n4⟩ := HN.out; exact ⟨j + 1, put e (k + j) ((o + x * y + c) % 16777216), (o + x * y + c) / 16777216, by omega, by go_num, rfl, n2, n3, ⟨n1, n4⟩, (HL.out.otherAt (by omega) _).drew, (HR.out.otherAt (by omega) _).drew, (HZ.out.otherAt (by omega) _).drew, (HO.out.put hjl _).drew, (setAt HB.out (by omega) _).drew⟩)
            all_goals try (case measure => simp [intOf]; omega)
          · have k8 : ¬ (k : Int) + (j : Int) < 8 := by omega
            have HM : Hid _ := times_round (e := e) (c := c) HD.out.2 (by omega : k + j = 8) (by rw [← HX.out]; exact HI.out.2)
            go_wp2
            go_roundw
            case rel => exact ⟨k + 1, e, by omega, by go_num, ⟨HI.out.1, HM.out⟩, HL.out, HR.out, HZ.out, HO.out, HB.out⟩
            case measure => simp [intOf]; omega
    · have k8 : 8 ≤ (k : Int) := by omega
      have HV : Hid (Digs d ∧ sv (s != t) d = sv s a * sv t b) := by
        obtain ⟨d1, d2⟩ := HD.out
        rw [(by omega : k = 8)] at d2
        exact ⟨d1, HE.out d d1 d2⟩
      have HO' : Hid _ := HO.out.sign (s != t)
      obtain ⟨q0, q1, q2, q3, q4, q5, q6, q7, q8⟩ := HO.out.cells
      have y0 := HO.out.free 0 (by omega)
      obtain ⟨r0, r1, r2, r3, r4, r5, r6, r7, r8⟩ := HZ.out.cells
      obtain ⟨f0, f1, f2, f3, f4, f5, f6, f7, f8⟩ := HZ.out.frees
      have z0 := HL.out.neg
      have z1 := HR.out.neg
      clear HD HA HC HE
      go_wp2
      try simp only [Exit.inBlock, Exit.then]
      refine bodyPost_ret (by simp [results, Try.results67, go_sem, r0, r1, r2, r3, r4, r5, r6, r7, r8]; try rfl) rfl ?_
      exact ⟨_, d, rfl, HV.out, below_nine (setAt HB.out (by omega) _) (by omega)⟩
end Go.Proofs.Ytioailboehpcaaa
