/- The reference's numbers by digits (tumblerref01): sums, and which of two is less. -/
import Derived.Test.YtioailboehpcaaaRef2
namespace Go.Proofs.Ytioailboehpcaaa
open Go.RowKit Ref

theorem lies_nine {W : World} {b : Nat} {s₀ s : Bool} {d₀ d : Nat → Int} (h : Lies W b s₀ d₀) : Lies (((((((((W.setCell ⟨b, 0, none⟩ (.bool s)).setCell ⟨b, 1, none⟩ (.int .i64 (d 0))).setCell ⟨b, 2, none⟩ (.int .i64 (d 1))).setCell ⟨b, 3, none⟩ (.int .i64 (d 2))).setCell ⟨b, 4, none⟩ (.int .i64 (d 3))).setCell ⟨b, 5, none⟩ (.int .i64 (d 4))).setCell ⟨b, 6, none⟩ (.int .i64 (d 5))).setCell ⟨b, 7, none⟩ (.int .i64 (d 6))).setCell ⟨b, 8, none⟩ (.int .i64 (d 7))) b s d := by
  obtain ⟨c0, c1, c2, c3, c4, c5, c6, c7, c8⟩ := h.cells
  refine ⟨by simp [go_sem, c0], fun k hk => ?_, fun k hk => by rw [← h.free k hk]; simp [go_sem]⟩
  match k, hk with
  | 0, _ => simp [go_sem, c1]
  | 1, _ => simp [go_sem, c2]
  | 2, _ => simp [go_sem, c3]
  | 3, _ => simp [go_sem, c4]
  | 4, _ => simp [go_sem, c5]
  | 5, _ => simp [go_sem, c6]
  | 6, _ => simp [go_sem, c7]
  | 7, _ => simp [go_sem, c8]

theorem Lies.nine {W : World} {b e : Nat} {s t : Bool} {d x : Nat → Int} (h : Lies W e t x) (hne : e ≠ b) : Lies (((((((((W.setCell ⟨b, 0, none⟩ (.bool s)).setCell ⟨b, 1, none⟩ (.int .i64 (d 0))).setCell ⟨b, 2, none⟩ (.int .i64 (d 1))).setCell ⟨b, 3, none⟩ (.int .i64 (d 2))).setCell ⟨b, 4, none⟩ (.int .i64 (d 3))).setCell ⟨b, 5, none⟩ (.int .i64 (d 4))).setCell ⟨b, 6, none⟩ (.int .i64 (d 5))).setCell ⟨b, 7, none⟩ (.int .i64 (d 6))).setCell ⟨b, 8, none⟩ (.int .i64 (d 7))) e t x :=
  ((((((((h.other hne _).other hne _).other hne _).other hne _).other hne _).other hne _).other hne _).other hne _).other hne _

theorem Lies.otherAt {W : World} {b : Nat} {s : Bool} {d : Nat → Int} (h : Lies W b s d) {e off : Nat} (hne : b ≠ e) (v : Value) : Lies (W.setCell ⟨e, off, none⟩ v) b s d := h.other hne v
theorem setAt {H : Nat} {w W : World} (h : Below H w W) {e off : Nat} (he : H ≤ e) (v : Value) : Below H w (W.setCell ⟨e, off, none⟩ v) := h.setCell he v

/-- One digit more of a sum. -/
theorem sum_next {a b d : Nat → Int} {k : Nat} {c n : Int} (ha : Digs a) (hb : Digs b) (hd : Digs d) (hk : k < 8) (hc : 0 ≤ c ∧ c ≤ 1) (h : val d k + c * 16777216 ^ k = val a k + val b k) (hn : n = a k + b k + c) :
    Digs (put d k (n % 16777216)) ∧ 0 ≤ n / 16777216 ∧ n / 16777216 ≤ 1 ∧ val (put d k (n % 16777216)) (k + 1) + n / 16777216 * 16777216 ^ (k + 1) = val a (k + 1) + val b (k + 1) := by
  have h1 := ha k hk
  have h2 := hb k hk
  refine ⟨hd.put k ⟨Int.emod_nonneg _ (by omega), Int.emod_lt_of_pos _ (by omega)⟩, by omega, by omega, ?_⟩
  simp only [val]
  rw [val_put_ge _ _ _ _ (Nat.le_refl _), put_same, Int.pow_succ, hn]
  exact add_step h

theorem sum_done {a b d : Nat → Int} {s : Bool} {c : Int} (hd : Digs d) (hc : 0 ≤ c) (h : val d 8 + c * 16777216 ^ 8 = val a 8 + val b 8) (hfit : (sv s a + sv s b).natAbs < 6277101735386680763835789423207666416102355444464034512896) : sv s d = sv s a + sv s b := by
  have h0 := hd.nonneg
  have h1 : (16777216 : Int) ^ 8 = 6277101735386680763835789423207666416102355444464034512896 := by decide
  rw [h1] at h
  have e : (sv s a + sv s b).natAbs = (val a 8 + val b 8).natAbs := by unfold sv; cases s <;> simp; omega
  rw [e] at hfit
  have : c = 0 := by omega
  subst this
  unfold sv; cases s <;> simp <;> omega

/-- One digit more of a difference. -/
theorem dif_next {a b d : Nat → Int} {k : Nat} {c n c' : Int} (ha : Digs a) (hb : Digs b) (hd : Digs d) (hk : k < 8) (hc : 0 ≤ c ∧ c ≤ 1) (h : val d k - c * 16777216 ^ k = val a k - val b k)
    (hn : (a k - b k - c < 0 ∧ n = a k - b k - c + 16777216 ∧ c' = 1) ∨ (0 ≤ a k - b k - c ∧ n = a k - b k - c ∧ c' = 0)) :
    Digs (put d k n) ∧ 0 ≤ c' ∧ c' ≤ 1 ∧ val (put d k n) (k + 1) - c' * 16777216 ^ (k + 1) = val a (k + 1) - val b (k + 1) := by
  have h1 := ha k hk
  have h2 := hb k hk
  refine ⟨hd.put k (by omega), by omega, by omega, ?_⟩
  simp only [val]
  rw [val_put_ge _ _ _ _ (Nat.le_refl _), put_same, Int.pow_succ]
  generalize (16777216 : Int) ^ k = X at *
  rcases hn with ⟨_, rfl, rfl⟩ | ⟨_, rfl, rfl⟩ <;> grind

theorem dif_done {a b d : Nat → Int} {c : Int} (hd : Digs d) (hc : 0 ≤ c) (h : val d 8 - c * 16777216 ^ 8 = val a 8 - val b 8) (hle : val b 8 ≤ val a 8) : val d 8 = val a 8 - val b 8 := by
  have h0 := hd.lt
  have h1 : (16777216 : Int) ^ 8 = 6277101735386680763835789423207666416102355444464034512896 := by decide
  rw [h1] at h
  have : c = 0 := by omega
  subst this
  omega

set_option maxHeartbeats 1000000 in
theorem plus_same (s : Bool) (a b : Nat → Int) (w : World) (ha : Digs a) (hb : Digs b) (hfit : (sv s a + sv s b).natAbs < 6277101735386680763835789423207666416102355444464034512896) :
    Calls Try.prog 70 #[wv s a, wv s b] w fun e w' => ∃ u d, e = .returned (wv u d) ∧ Hid (Digs d ∧ sv u d = sv s a + sv s b) ∧ Hid (Below w.heap.size w w') := by
  have HA : Hid _ := ha
  have HC : Hid _ := hb
  have HF : Hid _ := hfit
  clear ha hb hfit
  go_enter Try.func70, Try.ntmps70
  go_wp2
  go_loopw [5, 7] (fun cc i wr => ∃ (k : Nat) (d : Nat → Int) (c : Int), k ≤ 8 ∧ i = .int .i64 k ∧ cc = .int .i64 c ∧ 0 ≤ c ∧ c ≤ 1 ∧ Hid (Digs d ∧ val d k + c * 16777216 ^ k = val a k + val b k) ∧ Hid (Lies wr w.heap.size s a) ∧ Hid (Lies wr (w.heap.size + 1) s b) ∧ Hid (Lies wr (w.heap.size + 1 + 1) false (fun _ => 0)) ∧ Hid (Lies wr (w.heap.size + 1 + 1 + 1) s d) ∧ Hid (Below w.heap.size w wr)) (fun _ i _ => 8 - (intOf i).toNat)
  case atStart =>
    exact ⟨0, a, 0, Nat.zero_le _, rfl, rfl, by omega, by omega, ⟨HA.out, by simp [val]⟩, (Lies.alloc (Lies.alloc (Lies.alloc (by show Lies _ _ _ _; have := lies_new w s a 84; simpa only [World.size_alloc] using this) _) _) _), (Lies.alloc (Lies.alloc (by show Lies _ _ _ _; have := lies_new (w.alloc (.cells #[.bool s, .int .i64 (a 0), .int .i64 (a 1), .int .i64 (a 2), .int .i64 (a 3), .int .i64 (a 4), .int .i64 (a 5), .int .i64 (a 6), .int .i64 (a 7)] 84)) s b 84; simpa only [World.size_alloc] using this) _) _), (Lies.alloc (by show Lies _ _ _ _; have := lies_new ((w.alloc (.cells #[.bool s, .int .i64 (a 0), .int .i64 (a 1), .int .i64 (a 2), .int .i64 (a 3), .int .i64 (a 4), .int .i64 (a 5), .int .i64 (a 6), .int .i64 (a 7)] 84)).alloc (.cells #[.bool s, .int .i64 (b 0), .int .i64 (b 1), .int .i64 (b 2), .int .i64 (b 3), .int .i64 (b 4), .int .i64 (b 5), .int .i64 (b 6), .int .i64 (b 7)] 84)) false (fun _ => 0) 84; simpa only [World.size_alloc] using this) _), (by show Lies _ _ _ _; have := lies_new (((w.alloc (.cells #[.bool s, .int .i64 (a 0), .int .i64 (a 1), .int .i64 (a 2), .int .i64 (a 3), .int .i64 (a 4), .int .i64 (a 5), .int .i64 (a 6), .int .i64 (a 7)] 84)).alloc (.cells #[.bool s, .int .i64 (b 0), .int .i64 (b 1), .int .i64 (b 2), .int .i64 (b 3), .int .i64 (b 4), .int .i64 (b 5), .int .i64 (b 6), .int .i64 (b 7)] 84)).alloc (.cells #[.bool false, .int .i64 0, .int .i64 0, .int .i64 0, .int .i64 0, .int .i64 0, .int .i64 0, .int .i64 0, .int .i64 0] 84)) s a 84; simpa only [World.size_alloc] using this), ((((new_after w _).alloc (by simp) _).alloc (by simp; omega) _).alloc (by simp; omega) _)⟩
  case round =>
    obtain ⟨k, d, c, hk, rfl, rfl, hc0, hc1, HD, HL, HR, HZ, HO, HB⟩ := hrel
    by_cases hlt : k < 8
    · have e1 := HL.out.dig k hlt
      have e2 := HR.out.dig k hlt
      have e3 := HO.out.dig k hlt
      have e4 := HO.out.free (1 + k) (by omega)
      have i0 : (0 : Int) ≤ (k : Int) := by omega
      have i1 : (k : Int) < 8 := by omega
      have b1 := HA.out k hlt
      have b2 := HC.out k hlt
      have HN : Hid _ := fun n hn => sum_next (n := n) HA.out HC.out HD.out.1 hlt ⟨hc0, hc1⟩ HD.out.2 hn
      obtain ⟨p, hp⟩ : ∃ p, p = a k := ⟨_, rfl⟩
      obtain ⟨q, hq⟩ : ∃ q, q = b k := ⟨_, rfl⟩
      rw [← hp] at e1 b1 HN
      rw [← hq] at e2 b2 HN
      clear hp hq
      go_wp2
      go_region
      all_goals go_wp2
      all_goals go_roundw
      all_goals try (case rel => obtain ⟨n1, n2, n3, n4⟩ := HN.out _ rfl; exact ⟨k + 1, put d k ((p + q + c) % 16777216), (p + q + c) / 16777216, by omega, by go_num, rfl, n2, n3, ⟨n1, n4⟩, (HL.out.otherAt (by omega) _).drew, (HR.out.otherAt (by omega) _).drew, (HZ.out.otherAt (by omega) _).drew, (HO.out.put hlt _).drew, (setAt HB.out (by omega) _).drew⟩)
      all_goals try (case measure => simp [intOf]; omega)
    · have hk8 : 8 ≤ (k : Int) := by omega
      have e8 : k = 8 := by omega
      have HE : Hid (Digs d ∧ sv s d = sv s a + sv s b) := by
        obtain ⟨d1, d2⟩ := HD.out
        rw [e8] at d2
        exact ⟨d1, sum_done d1 hc0 d2 HF.out⟩
      obtain ⟨c0, c1, c2, c3, c4, c5, c6, c7, c8⟩ := HO.out.cells
      obtain ⟨r0, r1, r2, r3, r4, r5, r6, r7, r8⟩ := HZ.out.cells
      obtain ⟨f0, f1, f2, f3, f4, f5, f6, f7, f8⟩ := HZ.out.frees
      clear e8 HD HF HA HC
      go_wp2
      try simp only [Exit.inBlock, Exit.then]
      refine bodyPost_ret (by simp [results, Try.results70, go_sem, r0, r1, r2, r3, r4, r5, r6, r7, r8]; try rfl) rfl ?_
      exact ⟨_, d, rfl, HE.out, below_nine HB.out (by omega)⟩

theorem dif_sv {s t : Bool} {a b d : Nat → Int} (hst : s ≠ t) (h : val d 8 = val a 8 - val b 8) : sv s d = sv s a + sv t b := by
  unfold sv; cases s <;> cases t <;> simp_all <;> omega
theorem dif_sv' {s t : Bool} {a b d : Nat → Int} (hst : s ≠ t) (h : val d 8 = val b 8 - val a 8) : sv t d = sv s a + sv t b := by
  unfold sv; cases s <;> cases t <;> simp_all <;> omega

set_option maxHeartbeats 1000000 in
theorem plus_other (s t : Bool) (a b : Nat → Int) (w : World) (ha : Digs a) (hb : Digs b) (hst : s ≠ t) (hle : val b 8 ≤ val a 8) :
    Calls Try.prog 70 #[wv s a, wv t b] w fun e w' => ∃ u d, e = .returned (wv u d) ∧ Hid (Digs d ∧ sv u d = sv s a + sv t b) ∧ Hid (Below w.heap.size w w') := by
  have HS : Hid _ := fun w => sizes_any s t a b w ha hb
  have HA : Hid _ := ha
  have HC : Hid _ := hb
  have HF : Hid (s ≠ t ∧ val b 8 ≤ val a 8) := ⟨hst, hle⟩
  have hb1 : (s == t) = false := by simp [hst]
  clear ha hb hst hle
  go_enter Try.func70, Try.ntmps70
  go_wp2_with (fail)
  refine (HS.out _).mono ?_
  rintro e w1 ⟨c, rfl, SC, B⟩
  have hc0 : 0 ≤ c := by have := HF.out.2; rcases SC.out with h | h | h <;> omega
  have LA : Hid _ := Lies.below (Lies.alloc (Lies.alloc (by show Lies _ _ _ _; have := lies_new w s a 84; simpa only [World.size_alloc] using this) _) _) B.out (by first | (simp; done) | (simp; omega))
  have LB : Hid _ := Lies.below (Lies.alloc (by show Lies _ _ _ _; have := lies_new (w.alloc (.cells #[.bool s, .int .i64 (a 0), .int .i64 (a 1), .int .i64 (a 2), .int .i64 (a 3), .int .i64 (a 4), .int .i64 (a 5), .int .i64 (a 6), .int .i64 (a 7)] 84)) t b 84; simpa only [World.size_alloc] using this) _) B.out (by first | (simp; done) | (simp; omega))
  have LZ : Hid _ := Lies.below (by show Lies _ _ _ _; have := lies_new ((w.alloc (.cells #[.bool s, .int .i64 (a 0), .int .i64 (a 1), .int .i64 (a 2), .int .i64 (a 3), .int .i64 (a 4), .int .i64 (a 5), .int .i64 (a 6), .int .i64 (a 7)] 84)).alloc (.cells #[.bool t, .int .i64 (b 0), .int .i64 (b 1), .int .i64 (b 2), .int .i64 (b 3), .int .i64 (b 4), .int .i64 (b 5), .int .i64 (b 6), .int .i64 (b 7)] 84)) false (fun _ => 0) 84; simpa only [World.size_alloc] using this) B.out (by first | (simp; done) | (simp; omega))
  have hs1 := B.out.size
  simp only [World.size_alloc] at hs1
  have HB : Hid _ := below_step (w := w) (((new_after w _).alloc (by simp) _).alloc (by simp; omega) _) B.out
  obtain ⟨a0, a1, a2, a3, a4, a5, a6, a7, a8⟩ := LA.out.cells
  clear HS SC B
  go_wp2
  obtain ⟨OUT, hOUT⟩ : ∃ o, o = w1.heap.size := ⟨_, rfl⟩
  rw [← hOUT] at hs1 ⊢
  have HOUT : Hid _ := hOUT
  clear hOUT
  go_loopw [11, 12] (fun cc i wr => ∃ (k : Nat) (d : Nat → Int) (c : Int), k ≤ 8 ∧ i = .int .i64 k ∧ cc = .int .i64 c ∧ 0 ≤ c ∧ c ≤ 1 ∧ Hid (Digs d ∧ val d k - c * 16777216 ^ k = val a k - val b k) ∧ Hid (Lies wr w.heap.size s a) ∧ Hid (Lies wr (w.heap.size + 1) t b) ∧ Hid (Lies wr (w.heap.size + 1 + 1) false (fun _ => 0)) ∧ Hid (Lies wr OUT s d) ∧ Hid (Below w.heap.size w wr)) (fun _ i _ => 8 - (intOf i).toNat)
  case atStart =>
    exact ⟨0, a, 0, Nat.zero_le _, rfl, rfl, by omega, by omega, ⟨HA.out, by simp [val]⟩, LA.out.alloc _, LB.out.alloc _, LZ.out.alloc _, by show Lies _ _ _ _; rw [HOUT.out]; exact lies_new w1 s a 84, HB.out.alloc HB.out.size _⟩
  case round =>
    obtain ⟨k, d, c, hk, rfl, rfl, hc0, hc1, HD, HL, HR, HZ, HO, HB⟩ := hrel
    by_cases hlt : k < 8
    · have e1 := HL.out.dig k hlt
      have e2 := HR.out.dig k hlt
      have e3 := HO.out.dig k hlt
      have e4 := HO.out.free (1 + k) (by omega)
      have i0 : (0 : Int) ≤ (k : Int) := by omega
      have i1 : (k : Int) < 8 := by omega
      have b1 := HA.out k hlt
      have b2 := HC.out k hlt
      have HN : Hid _ := fun n c' hn => dif_next (n := n) (c' := c') HA.out HC.out HD.out.1 hlt ⟨hc0, hc1⟩ HD.out.2 hn
      obtain ⟨p, hp⟩ : ∃ p, p = a k := ⟨_, rfl⟩
      obtain ⟨q, hq⟩ : ∃ q, q = b k := ⟨_, rfl⟩
      rw [← hp] at e1 b1 HN
      rw [← hq] at e2 b2 HN
      clear hp hq
      by_cases hneg : p - q - c < 0
      · have HM : Hid _ := HN.out _ _ (Or.inl ⟨hneg, rfl, rfl⟩)
        clear HN
        go_wp2
        go_region
        all_goals go_wp2
        all_goals go_roundw
        all_goals try (case rel => obtain ⟨n1, n2, n3, n4⟩ := HM.out; exact ⟨k + 1, put d k (p - q - c + 16777216), 1, by omega, by go_num, rfl, n2, n3, ⟨n1, n4⟩, (HL.out.otherAt (by omega) _).drew, (HR.out.otherAt (by omega) _).drew, (HZ.out.otherAt (by omega) _).drew, (HO.out.put hlt _).drew, (setAt HB.out (by omega) _).drew⟩)
        all_goals try (case measure => simp [intOf]; omega)
      · have HM : Hid _ := HN.out _ _ (Or.inr ⟨by omega, rfl, rfl⟩)
        clear HN
        go_wp2
        go_region
        all_goals go_wp2
        all_goals go_roundw
        all_goals try (case rel => obtain ⟨n1, n2, n3, n4⟩ := HM.out; exact ⟨k + 1, put d k (p - q - c), 0, by omega, by go_num, rfl, n2, n3, ⟨n1, n4⟩, (HL.out.otherAt (by omega) _).drew, (HR.out.otherAt (by omega) _).drew, (HZ.out.otherAt (by omega) _).drew, (HO.out.put hlt _).drew, (setAt HB.out (by omega) _).drew⟩)
        all_goals try (case measure => simp [intOf]; omega)
    · have hk8 : 8 ≤ (k : Int) := by omega
      have e8 : k = 8 := by omega
      have HE : Hid (Digs d ∧ sv s d = sv s a + sv t b) := by
        obtain ⟨d1, d2⟩ := HD.out
        rw [e8] at d2
        exact ⟨d1, dif_sv HF.out.1 (dif_done d1 hc0 d2 HF.out.2)⟩
      obtain ⟨c0, c1, c2, c3, c4, c5, c6, c7, c8⟩ := HO.out.cells
      obtain ⟨r0, r1, r2, r3, r4, r5, r6, r7, r8⟩ := HZ.out.cells
      obtain ⟨f0, f1, f2, f3, f4, f5, f6, f7, f8⟩ := HZ.out.frees
      clear e8 HD HF HA HC
      go_wp2
      try simp only [Exit.inBlock, Exit.then]
      refine bodyPost_ret (by simp [results, Try.results70, go_sem, r0, r1, r2, r3, r4, r5, r6, r7, r8]; try rfl) rfl ?_
      exact ⟨_, d, rfl, HE.out, below_nine HB.out (by omega)⟩

end Go.Proofs.Ytioailboehpcaaa
