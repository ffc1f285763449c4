/- The reference's numbers by digits (tumblerref01): one made of an int, how two compare, sums, products. -/
import Derived.Test.YtioailboehpcaaaRMath
import Derived.Test.YtioailboehpcaaaLaw
namespace Go.Proofs.Ytioailboehpcaaa
open Go.RowKit Ref

/-- A number as the reference hands it on. -/
@[reducible] def wv (s : Bool) (d : Nat → Int) : Value := .agg #[.bool s, .int .i64 (d 0), .int .i64 (d 1), .int .i64 (d 2), .int .i64 (d 3), .int .i64 (d 4), .int .i64 (d 5), .int .i64 (d 6), .int .i64 (d 7)]

/-- Such a number lies in block b, and may be written. -/
structure Lies (w : World) (b : Nat) (s : Bool) (d : Nat → Int) : Prop where
  neg : w.cell? ⟨b, 0, none⟩ = some (.bool s)
  dig : ∀ k, k < 8 → w.cell? ⟨b, 1 + k, none⟩ = some (.int .i64 (d k))
  free : ∀ k, k < 9 → w.frozen? ⟨b, k, none⟩ = false

theorem Lies.lt {w : World} {b : Nat} {s : Bool} {d : Nat → Int} (h : Lies w b s d) : b < w.heap.size := World.block_lt_of_cell? _ _ h.neg

theorem lies_new (w : World) (s : Bool) (d : Nat → Int) (t : TypeId) :
    Lies (w.alloc (.cells #[.bool s, .int .i64 (d 0), .int .i64 (d 1), .int .i64 (d 2), .int .i64 (d 3), .int .i64 (d 4), .int .i64 (d 5), .int .i64 (d 6), .int .i64 (d 7)] t)) w.heap.size s d := by
  refine ⟨by simp, fun k hk => ?_, fun k hk => by simp⟩
  match k, hk with
  | 0, _ => simp
  | 1, _ => simp
  | 2, _ => simp
  | 3, _ => simp
  | 4, _ => simp
  | 5, _ => simp
  | 6, _ => simp
  | 7, _ => simp

theorem Lies.below {w w' : World} {b B : Nat} {s : Bool} {d : Nat → Int} (h : Lies w b s d) (hb : Below B w w') (hB : b < B) : Lies w' b s d :=
  ⟨(hb.cell hB).trans h.neg, fun k hk => (hb.cell hB).trans (h.dig k hk), fun k hk => (hb.frozen hB).trans (h.free k hk)⟩

theorem Lies.alloc {w : World} {b : Nat} {s : Bool} {d : Nat → Int} (h : Lies w b s d) (o : Obj) : Lies (w.alloc o) b s d :=
  h.below (new_after w o) h.lt

theorem Lies.other {w : World} {b : Nat} {s : Bool} {d : Nat → Int} (h : Lies w b s d) {a : Addr} (hne : b ≠ a.block) (v : Value) : Lies (w.setCell a v) b s d :=
  ⟨(World.cell?_of_block (w := w) (Below.heap_setCell _ _ _ _ hne)).trans h.neg, fun k hk => (World.cell?_of_block (w := w) (Below.heap_setCell _ _ _ _ hne)).trans (h.dig k hk),
    fun k hk => (World.frozen?_of_block (w := w) (Below.heap_setCell _ _ _ _ hne)).trans (h.free k hk)⟩

theorem Lies.put {w : World} {b : Nat} {s : Bool} {d : Nat → Int} (h : Lies w b s d) {k : Nat} (hk : k < 8) (v : Int) : Lies (w.setCell ⟨b, 1 + k, none⟩ (.int .i64 v)) b s (put d k v) := by
  have hd := h.dig k hk
  refine ⟨?_, fun j hj => ?_, fun j hj => ?_⟩
  · rw [← h.neg]; simp [go_sem]
  · have hj' := h.dig j hj
    by_cases e : j = k
    · subst e; simp [go_sem, hd, put_same]
    · rw [put_other d v e, ← hj']; simp [go_sem]
  · rw [← h.free j hj]; simp [go_sem]

theorem Lies.drew {w : World} {b : Nat} {s : Bool} {d : Nat → Int} (h : Lies w b s d) : Lies w.drew b s d := ⟨h.neg, h.dig, h.free⟩


/-- The nine cells, one by one, as a walk wants them. -/
theorem Lies.cells {w : World} {b : Nat} {s : Bool} {d : Nat → Int} (h : Lies w b s d) : w.cell? ⟨b, 0, none⟩ = some (.bool s) ∧ w.cell? ⟨b, 1, none⟩ = some (.int .i64 (d 0)) ∧ w.cell? ⟨b, 2, none⟩ = some (.int .i64 (d 1)) ∧ w.cell? ⟨b, 3, none⟩ = some (.int .i64 (d 2)) ∧ w.cell? ⟨b, 4, none⟩ = some (.int .i64 (d 3)) ∧ w.cell? ⟨b, 5, none⟩ = some (.int .i64 (d 4)) ∧ w.cell? ⟨b, 6, none⟩ = some (.int .i64 (d 5)) ∧ w.cell? ⟨b, 7, none⟩ = some (.int .i64 (d 6)) ∧ w.cell? ⟨b, 8, none⟩ = some (.int .i64 (d 7)) :=
  ⟨h.neg, h.dig 0 (by omega), h.dig 1 (by omega), h.dig 2 (by omega), h.dig 3 (by omega), h.dig 4 (by omega), h.dig 5 (by omega), h.dig 6 (by omega), h.dig 7 (by omega)⟩
theorem Lies.frees {w : World} {b : Nat} {s : Bool} {d : Nat → Int} (h : Lies w b s d) : w.frozen? ⟨b, 0, none⟩ = false ∧ w.frozen? ⟨b, 1, none⟩ = false ∧ w.frozen? ⟨b, 2, none⟩ = false ∧ w.frozen? ⟨b, 3, none⟩ = false ∧ w.frozen? ⟨b, 4, none⟩ = false ∧ w.frozen? ⟨b, 5, none⟩ = false ∧ w.frozen? ⟨b, 6, none⟩ = false ∧ w.frozen? ⟨b, 7, none⟩ = false ∧ w.frozen? ⟨b, 8, none⟩ = false :=
  ⟨h.free 0 (by omega), h.free 1 (by omega), h.free 2 (by omega), h.free 3 (by omega), h.free 4 (by omega), h.free 5 (by omega), h.free 6 (by omega), h.free 7 (by omega), h.free 8 (by omega)⟩

theorem below_nine {w W : World} {b : Nat} {v0 v1 v2 v3 v4 v5 v6 v7 v8 : Value} (h : Below w.heap.size w W) (hb : w.heap.size ≤ b) :
    Below w.heap.size w (((((((((W.setCell ⟨b, 0, none⟩ v0).setCell ⟨b, 1, none⟩ v1).setCell ⟨b, 2, none⟩ v2).setCell ⟨b, 3, none⟩ v3).setCell ⟨b, 4, none⟩ v4).setCell ⟨b, 5, none⟩ v5).setCell ⟨b, 6, none⟩ v6).setCell ⟨b, 7, none⟩ v7).setCell ⟨b, 8, none⟩ v8) :=
  ((((((((h.setCell hb _).setCell hb _).setCell hb _).setCell hb _).setCell hb _).setCell hb _).setCell hb _).setCell hb _).setCell hb _

theorem of_end {n U : Int} {s : Bool} (h1 : -9223372036854775808 ≤ n) (h2 : n < 9223372036854775808) (hs : s = decide (n < 0)) (hU : U = n.natAbs) (d : Nat → Int) (hd : ∀ j, j < 8 → d j = dig U j) : Digs d ∧ sv s d = n := by
  refine ⟨fun j hj => ?_, ?_⟩
  · rw [hd j hj]; exact ⟨Int.emod_nonneg _ (by omega), Int.emod_lt_of_pos _ (by omega)⟩
  · have h := val_ext (e := dig U) 8 hd
    rw [val_dig] at h
    unfold sv
    rw [h, hs, hU]
    by_cases g : n < 0
    · simp [g]; omega
    · simp [g]; omega

set_option maxHeartbeats 1000000 in
theorem of_any (n : Int) (w : World) (h1 : -9223372036854775808 ≤ n) (h2 : n < 9223372036854775808) :
    Calls Try.prog 68 #[.int .i64 n] w fun e w' => ∃ s d, e = .returned (wv s d) ∧ Hid (Digs d ∧ sv s d = n) ∧ Hid (Below w.heap.size w w') := by
  obtain ⟨s, hs⟩ : ∃ s, s = decide (n < 0) := ⟨_, rfl⟩
  obtain ⟨U, hU⟩ : ∃ U : Int, U = n.natAbs := ⟨_, rfl⟩
  have HE : Hid (∀ d, (∀ j, j < 8 → d j = dig U j) → Digs d ∧ sv s d = n) := of_end h1 h2 hs hU
  by_cases hn : n < 0
  · obtain rfl : s = true := by rw [hs]; simp [hn]
    clear hs
    obtain rfl : n = -U := by omega
    clear hU
    go_enter Try.func68, Try.ntmps68
    go_wp2
    go_loopw [4, 5] (fun u i wr => ∃ (k : Nat) (d : Nat → Int), k ≤ 8 ∧ i = .int .i64 k ∧ u = .int .u64 (U / 16777216 ^ k) ∧ Hid (∀ j, j < k → d j = dig U j) ∧ Hid (Lies wr (w.heap.size + 1) true d) ∧ Hid (Lies wr w.heap.size false (fun _ => 0)) ∧ Hid (Below w.heap.size w wr)) (fun _ i _ => 8 - (intOf i).toNat)
    case atStart => exact ⟨0, fun _ => 0, Nat.zero_le _, rfl, by simp [IntKind.wrap, IntKind.bits, IntKind.signed]; omega, fun j hj => by omega, by show Lies _ _ _ _; have := lies_new (w.alloc (.cells #[.bool false, .int .i64 0, .int .i64 0, .int .i64 0, .int .i64 0, .int .i64 0, .int .i64 0, .int .i64 0, .int .i64 0] 84)) true (fun _ => 0) 84; simpa only [World.size_alloc] using this, Lies.alloc (lies_new w false (fun _ => 0) 84) _, (new_after w _).alloc (by simp) _⟩
    case round =>
      obtain ⟨k, d, hk, rfl, rfl, HD, HL, HR, HB⟩ := hrel
      by_cases hlt : k < 8
      · have hcell := HL.out.dig k hlt
        have hfree := HL.out.free (1 + k) (by omega)
        have i0 : (0 : Int) ≤ (k : Int) := by omega
        have i1 : (k : Int) < 8 := by omega
        have HS : Hid _ := dig_step U k
        have HP : Hid (put d k (U / 16777216 ^ k % 16777216) k = dig U k) := put_same _ _ _
        have u0 : 0 ≤ U / 16777216 ^ k := Int.ediv_nonneg (by omega) (Int.le_of_lt (pos k))
        have u1 : U / 16777216 ^ k < 18446744073709551616 := Int.lt_of_le_of_lt (Int.ediv_le_self _ (by omega)) (by omega)
        obtain ⟨x, hx⟩ : ∃ x, x = U / 16777216 ^ k := ⟨_, rfl⟩
        rw [← hx] at HS HP u0 u1
        rw [← hx]
        have HX : Hid _ := hx
        clear hx
        go_wp2
        go_roundw
        case rel =>
          refine ⟨k + 1, put d k (x % 16777216), by omega, by go_num, by rw [← HS.out], fun j hj => ?_, ?_, ?_, ?_⟩
          · by_cases e : j = k
            · subst e; exact HP.out
            · rw [put_other _ _ e]; exact HD.out j (by omega)
          · exact HL.out.put hlt _
          · exact HR.out.other (by simp) _
          · exact HB.out.setCell (by simp) _
        case measure => simp [intOf]; omega
      · have hk8 : 8 ≤ (k : Int) := by omega
        obtain ⟨c0, c1, c2, c3, c4, c5, c6, c7, c8⟩ := HL.out.cells
        obtain ⟨r0, r1, r2, r3, r4, r5, r6, r7, r8⟩ := HR.out.cells
        obtain ⟨f0, f1, f2, f3, f4, f5, f6, f7, f8⟩ := HR.out.frees
        go_wp2
        try simp only [Exit.inBlock, Exit.then]
        refine bodyPost_ret (by simp [results, Try.results68, go_sem, r0, r1, r2, r3, r4, r5, r6, r7, r8]; try rfl) rfl ?_
        refine ⟨_, d, rfl, HE.out d (fun j hj => HD.out j (by omega)), ?_⟩
        exact below_nine HB.out (Nat.le_refl _)
  · obtain rfl : s = false := by rw [hs]; simp [hn]
    clear hs
    obtain rfl : U = n := by omega
    clear hU
    go_enter Try.func68, Try.ntmps68
    go_wp2
    go_loopw [4, 5] (fun u i wr => ∃ (k : Nat) (d : Nat → Int), k ≤ 8 ∧ i = .int .i64 k ∧ u = .int .u64 (U / 16777216 ^ k) ∧ Hid (∀ j, j < k → d j = dig U j) ∧ Hid (Lies wr (w.heap.size + 1) false d) ∧ Hid (Lies wr w.heap.size false (fun _ => 0)) ∧ Hid (Below w.heap.size w wr)) (fun _ i _ => 8 - (intOf i).toNat)
    case atStart => exact ⟨0, fun _ => 0, Nat.zero_le _, rfl, by simp, fun j hj => by omega, by show Lies _ _ _ _; have := lies_new (w.alloc (.cells #[.bool false, .int .i64 0, .int .i64 0, .int .i64 0, .int .i64 0, .int .i64 0, .int .i64 0, .int .i64 0, .int .i64 0] 84)) false (fun _ => 0) 84; simpa only [World.size_alloc] using this, Lies.alloc (lies_new w false (fun _ => 0) 84) _, (new_after w _).alloc (by simp) _⟩
    case round =>
      obtain ⟨k, d, hk, rfl, rfl, HD, HL, HR, HB⟩ := hrel
      by_cases hlt : k < 8
      · have hcell := HL.out.dig k hlt
        have hfree := HL.out.free (1 + k) (by omega)
        have i0 : (0 : Int) ≤ (k : Int) := by omega
        have i1 : (k : Int) < 8 := by omega
        have HS : Hid _ := dig_step U k
        have HP : Hid (put d k (U / 16777216 ^ k % 16777216) k = dig U k) := put_same _ _ _
        have u0 : 0 ≤ U / 16777216 ^ k := Int.ediv_nonneg (by omega) (Int.le_of_lt (pos k))
        have u1 : U / 16777216 ^ k < 18446744073709551616 := Int.lt_of_le_of_lt (Int.ediv_le_self _ (by omega)) (by omega)
        obtain ⟨x, hx⟩ : ∃ x, x = U / 16777216 ^ k := ⟨_, rfl⟩
        rw [← hx] at HS HP u0 u1
        rw [← hx]
        have HX : Hid _ := hx
        clear hx
        go_wp2
        go_roundw
        case rel =>
          refine ⟨k + 1, put d k (x % 16777216), by omega, by go_num, by rw [← HS.out], fun j hj => ?_, ?_, ?_, ?_⟩
          · by_cases e : j = k
            · subst e; exact HP.out
            · rw [put_other _ _ e]; exact HD.out j (by omega)
          · exact HL.out.put hlt _
          · exact HR.out.other (by simp) _
          · exact HB.out.setCell (by simp) _
        case measure => simp [intOf]; omega
      · have hk8 : 8 ≤ (k : Int) := by omega
        obtain ⟨c0, c1, c2, c3, c4, c5, c6, c7, c8⟩ := HL.out.cells
        obtain ⟨r0, r1, r2, r3, r4, r5, r6, r7, r8⟩ := HR.out.cells
        obtain ⟨f0, f1, f2, f3, f4, f5, f6, f7, f8⟩ := HR.out.frees
        go_wp2
        try simp only [Exit.inBlock, Exit.then]
        refine bodyPost_ret (by simp [results, Try.results68, go_sem, r0, r1, r2, r3, r4, r5, r6, r7, r8]; try rfl) rfl ?_
        refine ⟨_, d, rfl, HE.out d (fun j hj => HD.out j (by omega)), ?_⟩
        exact below_nine HB.out (Nat.le_refl _)

end Go.Proofs.Ytioailboehpcaaa
