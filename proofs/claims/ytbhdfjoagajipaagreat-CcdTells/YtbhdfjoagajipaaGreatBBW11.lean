/- The reference's numbers by digits (tumblerref01): one made of an int, how two compare, sums, products. -/
import Derived.Test.YtbhdfjoagajipaaGreatBBW10
import Derived.Test.YtbhdfjoagajipaaGreatBBW7
import Derived.Deep.RegionWith
import Derived.Deep.RegionHeld3
import Derived.Test.YtbhdfjoagajipaaGreatBBW0
import Derived.Test.YtbhdfjoagajipaaGreatBBW6
import Derived.Test.YtbhdfjoagajipaaGreatBBW9
import Derived.Deep.CutRange
namespace Go.Proofs.YtbhdfjoagajipaaGreat
open Go.RowKit Ref

/-- A number as the reference hands it on. -/
@[reducible] def wv (s : Bool) (d : Nat → Int) : Value := .agg #[.bool s, .int .i64 (d 0), .int .i64 (d 1), .int .i64 (d 2), .int .i64 (d 3), .int .i64 (d 4), .int .i64 (d 5), .int .i64 (d 6), .int .i64 (d 7)]

/-- Such a number lies in block b, and may be written. -/
structure RLies (w : World) (b : Nat) (s : Bool) (d : Nat → Int) : Prop where
  neg : w.cell? ⟨b, 0, none⟩ = some (.bool s)
  dig : ∀ k, k < 8 → w.cell? ⟨b, 1 + k, none⟩ = some (.int .i64 (d k))
  free : ∀ k, k < 9 → w.frozen? ⟨b, k, none⟩ = false

theorem RLies.lt {w : World} {b : Nat} {s : Bool} {d : Nat → Int} (h : RLies w b s d) : b < w.heap.size := World.block_lt_of_cell? _ _ h.neg

theorem lies_new (w : World) (s : Bool) (d : Nat → Int) (t : TypeId) :
    RLies (w.alloc (.cells #[.bool s, .int .i64 (d 0), .int .i64 (d 1), .int .i64 (d 2), .int .i64 (d 3), .int .i64 (d 4), .int .i64 (d 5), .int .i64 (d 6), .int .i64 (d 7)] t)) w.heap.size s d := by
  refine ⟨by simp, fun k hk => ?_, fun k hk => by simp⟩
  match k, hk with
  | 0, _ => simp
  | 1, _ => simp
  | 2, _ => simp
  | 3, _ => simp
  | 4, _ => simp
  | 5, _ => simp
  | 6, _ => simp
  | 7, _ => simp

theorem RLies.below {w w' : World} {b B : Nat} {s : Bool} {d : Nat → Int} (h : RLies w b s d) (hb : Below B w w') (hB : b < B) : RLies w' b s d :=
  ⟨(hb.cell hB).trans h.neg, fun k hk => (hb.cell hB).trans (h.dig k hk), fun k hk => (hb.frozen hB).trans (h.free k hk)⟩

theorem RLies.alloc {w : World} {b : Nat} {s : Bool} {d : Nat → Int} (h : RLies w b s d) (o : Obj) : RLies (w.alloc o) b s d :=
  h.below (new_after w o) h.lt

theorem RLies.other {w : World} {b : Nat} {s : Bool} {d : Nat → Int} (h : RLies w b s d) {a : Addr} (hne : b ≠ a.block) (v : Value) : RLies (w.setCell a v) b s d :=
  ⟨(World.cell?_of_block (w := w) (Below.heap_setCell _ _ _ _ hne)).trans h.neg, fun k hk => (World.cell?_of_block (w := w) (Below.heap_setCell _ _ _ _ hne)).trans (h.dig k hk),
    fun k hk => (World.frozen?_of_block (w := w) (Below.heap_setCell _ _ _ _ hne)).trans (h.free k hk)⟩

theorem RLies.put {w : World} {b : Nat} {s : Bool} {d : Nat → Int} (h : RLies w b s d) {k : Nat} (hk : k < 8) (v : Int) : RLies (w.setCell ⟨b, 1 + k, none⟩ (.int .i64 v)) b s (put d k v) := by
  have hd := h.dig k hk
  refine ⟨?_, fun j hj => ?_, fun j hj => ?_⟩
  · rw [← h.neg]; simp [go_sem]
  · have hj' := h.dig j hj
    by_cases e : j = k
    · subst e; simp [go_sem, hd, put_same]
    · rw [put_other d v e, ← hj']; simp [go_sem]
  · rw [← h.free j hj]; simp [go_sem]

theorem RLies.drew {w : World} {b : Nat} {s : Bool} {d : Nat → Int} (h : RLies w b s d) : RLies w.drew b s d := ⟨h.neg, h.dig, h.free⟩


/-- The nine cells, one by one, as a walk wants them. -/
theorem RLies.cells {w : World} {b : Nat} {s : Bool} {d : Nat → Int} (h : RLies w b s d) : w.cell? ⟨b, 0, none⟩ = some (.bool s) ∧ w.cell? ⟨b, 1, none⟩ = some (.int .i64 (d 0)) ∧ w.cell? ⟨b, 2, none⟩ = some (.int .i64 (d 1)) ∧ w.cell? ⟨b, 3, none⟩ = some (.int .i64 (d 2)) ∧ w.cell? ⟨b, 4, none⟩ = some (.int .i64 (d 3)) ∧ w.cell? ⟨b, 5, none⟩ = some (.int .i64 (d 4)) ∧ w.cell? ⟨b, 6, none⟩ = some (.int .i64 (d 5)) ∧ w.cell? ⟨b, 7, none⟩ = some (.int .i64 (d 6)) ∧ w.cell? ⟨b, 8, none⟩ = some (.int .i64 (d 7)) :=
  ⟨h.neg, h.dig 0 (by omega), h.dig 1 (by omega), h.dig 2 (by omega), h.dig 3 (by omega), h.dig 4 (by omega), h.dig 5 (by omega), h.dig 6 (by omega), h.dig 7 (by omega)⟩
theorem RLies.frees {w : World} {b : Nat} {s : Bool} {d : Nat → Int} (h : RLies w b s d) : w.frozen? ⟨b, 0, none⟩ = false ∧ w.frozen? ⟨b, 1, none⟩ = false ∧ w.frozen? ⟨b, 2, none⟩ = false ∧ w.frozen? ⟨b, 3, none⟩ = false ∧ w.frozen? ⟨b, 4, none⟩ = false ∧ w.frozen? ⟨b, 5, none⟩ = false ∧ w.frozen? ⟨b, 6, none⟩ = false ∧ w.frozen? ⟨b, 7, none⟩ = false ∧ w.frozen? ⟨b, 8, none⟩ = false :=
  ⟨h.free 0 (by omega), h.free 1 (by omega), h.free 2 (by omega), h.free 3 (by omega), h.free 4 (by omega), h.free 5 (by omega), h.free 6 (by omega), h.free 7 (by omega), h.free 8 (by omega)⟩

theorem below_nine {w W : World} {b : Nat} {v0 v1 v2 v3 v4 v5 v6 v7 v8 : Value} (h : Below w.heap.size w W) (hb : w.heap.size ≤ b) :
    Below w.heap.size w (((((((((W.setCell ⟨b, 0, none⟩ v0).setCell ⟨b, 1, none⟩ v1).setCell ⟨b, 2, none⟩ v2).setCell ⟨b, 3, none⟩ v3).setCell ⟨b, 4, none⟩ v4).setCell ⟨b, 5, none⟩ v5).setCell ⟨b, 6, none⟩ v6).setCell ⟨b, 7, none⟩ v7).setCell ⟨b, 8, none⟩ v8) :=
  ((((((((h.setCell hb _).setCell hb _).setCell hb _).setCell hb _).setCell hb _).setCell hb _).setCell hb _).setCell hb _).setCell hb _

theorem of_end {n U : Int} {s : Bool} (h1 : -9223372036854775808 ≤ n) (h2 : n < 9223372036854775808) (hs : s = decide (n < 0)) (hU : U = n.natAbs) (d : Nat → Int) (hd : ∀ j, j < 8 → d j = dig U j) : Digs d ∧ sv s d = n := by
  refine ⟨fun j hj => ?_, ?_⟩
  · rw [hd j hj]; exact ⟨Int.emod_nonneg _ (by omega), Int.emod_lt_of_pos _ (by omega)⟩
  · have h := val_ext (e := dig U) 8 hd
    rw [val_dig] at h
    unfold sv
    rw [h, hs, hU]
    by_cases g : n < 0
    · simp [g]; omega
    · simp [g]; omega

set_option maxHeartbeats 1000000 in
theorem of_any (n : Int) (w : World) (h1 : -9223372036854775808 ≤ n) (h2 : n < 9223372036854775808) :
    Calls Tryz.prog 93 #[.int .i64 n] w fun e w' => ∃ s d, e = .returned (wv s d) ∧ Hid (Digs d ∧ sv s d = n) ∧ Hid (Below w.heap.size w w') := by
  obtain ⟨s, hs⟩ : ∃ s, s = decide (n < 0) := ⟨_, rfl⟩
  obtain ⟨U, hU⟩ : ∃ U : Int, U = n.natAbs := ⟨_, rfl⟩
  have HE : Hid (∀ d, (∀ j, j < 8 → d j = dig U j) → Digs d ∧ sv s d = n) := of_end h1 h2 hs hU
  by_cases hn : n < 0
  · obtain rfl : s = true := by rw [hs]; simp [hn]
    clear hs
    obtain rfl : n = -U := by omega
    clear hU
    go_enter Tryz.func93, Tryz.ntmps93
    go_wp2
    go_loopw [4, 5] (fun u i wr => ∃ (k : Nat) (d : Nat → Int), k ≤ 8 ∧ i = .int .i64 k ∧ u = .int .u64 (U / 16777216 ^ k) ∧ Hid (∀ j, j < k → d j = dig U j) ∧ Hid (RLies wr (w.heap.size + 1) true d) ∧ Hid (RLies wr w.heap.size false (fun _ => 0)) ∧ Hid (Below w.heap.size w wr)) (fun _ i _ => 8 - (intOf i).toNat)
    case atStart => exact ⟨0, fun _ => 0, Nat.zero_le _, rfl, by simp [IntKind.wrap, IntKind.bits, IntKind.signed]; omega, fun j hj => by omega, by show RLies _ _ _ _; have := lies_new (w.alloc (.cells #[.bool false, .int .i64 0, .int .i64 0, .int .i64 0, .int .i64 0, .int .i64 0, .int .i64 0, .int .i64 0, .int .i64 0] 133)) true (fun _ => 0) 133; simpa only [World.size_alloc] using this, RLies.alloc (lies_new w false (fun _ => 0) 133) _, (new_after w _).alloc (by simp) _⟩
    case round =>
      obtain ⟨k, d, hk, rfl, rfl, HD, HL, HR, HB⟩ := hrel
      by_cases hlt : k < 8
      · have hcell := HL.out.dig k hlt
        have hfree := HL.out.free (1 + k) (by omega)
        have i0 : (0 : Int) ≤ (k : Int) := by omega
        have i1 : (k : Int) < 8 := by omega
        have HS : Hid _ := dig_step U k
        have HP : Hid (put d k (U / 16777216 ^ k % 16777216) k = dig U k) := put_same _ _ _
        have u0 : 0 ≤ U / 16777216 ^ k := Int.ediv_nonneg (by omega) (Int.le_of_lt (pos k))
        have u1 : U / 16777216 ^ k < 18446744073709551616 := Int.lt_of_le_of_lt (Int.ediv_le_self _ (by omega)) (by omega)
        obtain ⟨x, hx⟩ : ∃ x, x = U / 16777216 ^ k := ⟨_, rfl⟩
        rw [← hx] at HS HP u0 u1
        rw [← hx]
        have HX : Hid _ := hx
        clear hx
        go_wp2
        go_roundw
        case rel =>
          refine ⟨k + 1, put d k (x % 16777216), by omega, by go_num, by rw [← HS.out], fun j hj => ?_, ?_, ?_, ?_⟩
          · by_cases e : j = k
            · subst e; exact HP.out
            · rw [put_other _ _ e]; exact HD.out j (by omega)
          · exact HL.out.put hlt _
          · exact HR.out.other (by simp) _
          · exact HB.out.setCell (by simp) _
        case measure => simp [intOf]; omega
      · have hk8 : 8 ≤ (k : Int) := by omega
        obtain ⟨c0, c1, c2, c3, c4, c5, c6, c7, c8⟩ := HL.out.cells
        obtain ⟨r0, r1, r2, r3, r4, r5, r6, r7, r8⟩ := HR.out.cells
        obtain ⟨f0, f1, f2, f3, f4, f5, f6, f7, f8⟩ := HR.out.frees
        go_wp2
        try simp only [Exit.inBlock, Exit.then]
        refine bodyPost_ret (by simp [results, Tryz.results93, go_sem, r0, r1, r2, r3, r4, r5, r6, r7, r8]; try rfl) rfl ?_
        refine ⟨_, d, rfl, HE.out d (fun j hj => HD.out j (by omega)), ?_⟩
        exact below_nine HB.out (Nat.le_refl _)
  · obtain rfl : s = false := by rw [hs]; simp [hn]
    clear hs
    obtain rfl : U = n := by omega
    clear hU
    go_enter Tryz.func93, Tryz.ntmps93
    go_wp2
    go_loopw [4, 5] (fun u i wr => ∃ (k : Nat) (d : Nat → Int), k ≤ 8 ∧ i = .int .i64 k ∧ u = .int .u64 (U / 16777216 ^ k) ∧ Hid (∀ j, j < k → d j = dig U j) ∧ Hid (RLies wr (w.heap.size + 1) false d) ∧ Hid (RLies wr w.heap.size false (fun _ => 0)) ∧ Hid (Below w.heap.size w wr)) (fun _ i _ => 8 - (intOf i).toNat)
    case atStart => exact ⟨0, fun _ => 0, Nat.zero_le _, rfl, by simp, fun j hj => by omega, by show RLies _ _ _ _; have := lies_new (w.alloc (.cells #[.bool false, .int .i64 0, .int .i64 0, .int .i64 0, .int .i64 0, .int .i64 0, .int .i64 0, .int .i64 0, .int .i64 0] 133)) false (fun _ => 0) 133; simpa only [World.size_alloc] using this, RLies.alloc (lies_new w false (fun _ => 0) 133) _, (new_after w _).alloc (by simp) _⟩
    case round =>
      obtain ⟨k, d, hk, rfl, rfl, HD, HL, HR, HB⟩ := hrel
      by_cases hlt : k < 8
      · have hcell := HL.out.dig k hlt
        have hfree := HL.out.free (1 + k) (by omega)
        have i0 : (0 : Int) ≤ (k : Int) := by omega
        have i1 : (k : Int) < 8 := by omega
        have HS : Hid _ := dig_step U k
        have HP : Hid (put d k (U / 16777216 ^ k % 16777216) k = dig U k) := put_same _ _ _
        have u0 : 0 ≤ U / 16777216 ^ k := Int.ediv_nonneg (by omega) (Int.le_of_lt (pos k))
        have u1 : U / 16777216 ^ k < 18446744073709551616 := Int.lt_of_le_of_lt (Int.ediv_le_self _ (by omega)) (by omega)
        obtain ⟨x, hx⟩ : ∃ x, x = U / 16777216 ^ k := ⟨_, rfl⟩
        rw [← hx] at HS HP u0 u1
        rw [← hx]
        have HX : Hid _ := hx
        clear hx
        go_wp2
        go_roundw
        case rel =>
          refine ⟨k + 1, put d k (x % 16777216), by omega, by go_num, by rw [← HS.out], fun j hj => ?_, ?_, ?_, ?_⟩
          · by_cases e : j = k
            · subst e; exact HP.out
            · rw [put_other _ _ e]; exact HD.out j (by omega)
          · exact HL.out.put hlt _
          · exact HR.out.other (by simp) _
          · exact HB.out.setCell (by simp) _
        case measure => simp [intOf]; omega
      · have hk8 : 8 ≤ (k : Int) := by omega
        obtain ⟨c0, c1, c2, c3, c4, c5, c6, c7, c8⟩ := HL.out.cells
        obtain ⟨r0, r1, r2, r3, r4, r5, r6, r7, r8⟩ := HR.out.cells
        obtain ⟨f0, f1, f2, f3, f4, f5, f6, f7, f8⟩ := HR.out.frees
        go_wp2
        try simp only [Exit.inBlock, Exit.then]
        refine bodyPost_ret (by simp [results, Tryz.results93, go_sem, r0, r1, r2, r3, r4, r5, r6, r7, r8]; try rfl) rfl ?_
        refine ⟨_, d, rfl, HE.out d (fun j hj => HD.out j (by omega)), ?_⟩
        exact below_nine HB.out (Nat.le_refl _)

end Go.Proofs.YtbhdfjoagajipaaGreat
namespace Go.Proofs.YtbhdfjoagajipaaGreat
open Go.RowKit Ref

theorem RLies.otherAt {W : World} {b : Nat} {s : Bool} {d : Nat → Int} (h : RLies W b s d) {e off : Nat} (hne : b ≠ e) (v : Value) : RLies (W.setCell ⟨e, off, none⟩ v) b s d := h.other hne v
theorem setAt {H : Nat} {w W : World} (h : Below H w W) {e off : Nat} (he : H ≤ e) (v : Value) : Below H w (W.setCell ⟨e, off, none⟩ v) := h.setCell he v

end Go.Proofs.YtbhdfjoagajipaaGreat
namespace Go.Proofs.YtbhdfjoagajipaaGreat
open Go.RowKit Ref

theorem sv_not (t : Bool) (b : Nat → Int) : sv (!t) b = -sv t b := by unfold sv; cases t <;> simp

end Go.Proofs.YtbhdfjoagajipaaGreat
namespace Go.Proofs.YtbhdfjoagajipaaGreat
open Go.RowKit Ref

theorem val_succ (d : Nat → Int) (n : Nat) : val d (n + 1) = val d n + d n * 16777216 ^ n := rfl

theorem val_split (b : Nat → Int) (n : Nat) : ∀ m, val b (n + m) = val b n + 16777216 ^ n * val (fun j => b (n + j)) m
  | 0 => by simp [val]
  | m + 1 => by
    rw [← Nat.add_assoc]
    simp only [val]
    rw [val_split b n m, Int.pow_add]
    grind

theorem times_zero {a b d : Nat → Int} {k : Nat} (h : ∃ m : Int, val d 8 + m * 16777216 ^ 8 = val a k * val b 8) (hz : a k = 0) : ∃ m : Int, val d 8 + m * 16777216 ^ 8 = val a (k + 1) * val b 8 := by
  obtain ⟨m, h⟩ := h
  exact ⟨m, by rw [val_succ a k, hz, Int.zero_mul, Int.add_zero]; exact h⟩

theorem times_next {b d e : Nat → Int} {k j : Nat} {x c y o : Int} (hb : 0 ≤ y ∧ y < 16777216) (hx : 0 ≤ x ∧ x < 16777216) (ho : 0 ≤ o ∧ o < 16777216) (he : Digs e) (hkj : k + j < 8) (hc : 0 ≤ c ∧ c < 16777216) (ey : y = b j) (eo : o = e (k + j))
    (h : val e 8 + c * 16777216 ^ (k + j) = val d 8 + x * val b j * 16777216 ^ k) :
    Digs (put e (k + j) ((o + x * y + c) % 16777216)) ∧ 0 ≤ (o + x * y + c) / 16777216 ∧ (o + x * y + c) / 16777216 < 16777216 ∧
    val (put e (k + j) ((o + x * y + c) % 16777216)) 8 + (o + x * y + c) / 16777216 * 16777216 ^ (k + (j + 1)) = val d 8 + x * val b (j + 1) * 16777216 ^ k := by
  have hp0 : 0 ≤ x * y := Int.mul_nonneg hx.1 hb.1
  have hp1 : x * y ≤ 16777215 * 16777215 := Int.mul_le_mul (by omega) (by omega) hb.1 (by omega)
  refine ⟨he.put _ ⟨Int.emod_nonneg _ (by omega), Int.emod_lt_of_pos _ (by omega)⟩, by omega, by omega, ?_⟩
  rw [val_put _ _ _ 8 hkj, ← eo, ← Nat.add_assoc, Int.pow_succ]
  have := mul_step (o := o) (x := x) (y := y) h
  rw [this, val_succ b j, ← ey, Int.pow_add]
  generalize val d 8 = D8 at *
  grind

theorem times_round {a b d e : Nat → Int} {k j : Nat} {c : Int} (h : ∃ m : Int, val d 8 + m * 16777216 ^ 8 = val a k * val b 8) (hj : k + j = 8)
    (hi : val e 8 + c * 16777216 ^ (k + j) = val d 8 + a k * val b j * 16777216 ^ k) : ∃ m : Int, val e 8 + m * 16777216 ^ 8 = val a (k + 1) * val b 8 := by
  obtain ⟨m, h⟩ := h
  have hs := val_split b j k
  rw [Nat.add_comm j k, hj] at hs
  have hp : (16777216 : Int) ^ 8 = 16777216 ^ j * 16777216 ^ k := by rw [← Int.pow_add, Nat.add_comm j k, hj]
  rw [hj] at hi
  refine ⟨c + m + a k * val (fun i => b (j + i)) k, ?_⟩
  rw [val_succ a k]
  rw [hp] at h hi ⊢
  clear hp
  generalize val (fun i => b (j + i)) k = R at *
  generalize val b 8 = B8 at *
  generalize val d 8 = D8 at *
  generalize val e 8 = E8 at *
  generalize (16777216 : Int) ^ j = X at *
  generalize (16777216 : Int) ^ k = Y at *
  grind

theorem times_done {a b d : Nat → Int} {s t : Bool} (ha : Digs a) (hb : Digs b) (hd : Digs d) (h : ∃ m : Int, val d 8 + m * 16777216 ^ 8 = val a 8 * val b 8) (hfit : (sv s a * sv t b).natAbs < 6277101735386680763835789423207666416102355444464034512896) :
    sv (s != t) d = sv s a * sv t b := by
  obtain ⟨m, h⟩ := h
  have h1 : (16777216 : Int) ^ 8 = 6277101735386680763835789423207666416102355444464034512896 := by decide
  rw [h1] at h
  have d0 := hd.nonneg
  have d1 := hd.lt
  have hp : 0 ≤ val a 8 * val b 8 := Int.mul_nonneg ha.nonneg hb.nonneg
  have e : (sv s a * sv t b).natAbs = (val a 8 * val b 8).natAbs := by unfold sv; cases s <;> cases t <;> simp [Int.natAbs_mul]
  rw [e] at hfit
  have hv : val d 8 = val a 8 * val b 8 := by omega
  unfold sv
  rw [hv]
  cases s <;> cases t <;> simp [Int.neg_mul, Int.mul_neg]

theorem RLies.sign {W : World} {b : Nat} {s : Bool} {d : Nat → Int} (h : RLies W b s d) (t : Bool) : RLies (W.setCell ⟨b, 0, none⟩ (.bool t)) b t d := by
  have hn := h.neg
  refine ⟨by simp [go_sem, hn], fun k hk => ?_, fun k hk => ?_⟩
  · rw [← h.dig k hk]; simp [go_sem]
  · rw [← h.free k hk]; simp [go_sem]

set_option maxHeartbeats 1000000 in
theorem times_any (s t : Bool) (a b : Nat → Int) (w : World) (ha : Digs a) (hb : Digs b) (hfit : (sv s a * sv t b).natAbs < 6277101735386680763835789423207666416102355444464034512896) :
    Calls Tryz.prog 92 #[wv s a, wv t b] w fun e w' => ∃ u d, e = .returned (wv u d) ∧ Hid (Digs d ∧ sv u d = sv s a * sv t b) ∧ Hid (Below w.heap.size w w') := by
  have HE : Hid _ := fun d (hd : Digs d) h => times_done (s := s) (t := t) ha hb hd h hfit
  have HA : Hid _ := ha
  have HC : Hid _ := hb
  clear ha hb hfit
  go_enter Tryz.func92, Tryz.ntmps92
  go_wp2
  go_loopw [6] (fun i wr => ∃ (k : Nat) (d : Nat → Int), k ≤ 8 ∧ i = .int .i64 k ∧ Hid (Digs d ∧ ∃ m : Int, val d 8 + m * 16777216 ^ 8 = val a k * val b 8) ∧ Hid (RLies wr w.heap.size s a) ∧ Hid (RLies wr (w.heap.size + 1) t b) ∧ Hid (RLies wr (w.heap.size + 1 + 1) false (fun _ => 0)) ∧ Hid (RLies wr (w.heap.size + 1 + 1 + 1) false d) ∧ Hid (Below w.heap.size w wr)) (fun i _ => 8 - (intOf i).toNat)
  case atStart =>
    exact ⟨0, fun _ => 0, Nat.zero_le _, rfl, ⟨fun j _ => by simp, 0, by simp [val]⟩, (RLies.alloc (RLies.alloc (RLies.alloc (by show RLies _ _ _ _; have := lies_new w s a 133; simpa only [World.size_alloc] using this) _) _) _), (RLies.alloc (RLies.alloc (by show RLies _ _ _ _; have := lies_new (w.alloc (.cells #[.bool s, .int .i64 (a 0), .int .i64 (a 1), .int .i64 (a 2), .int .i64 (a 3), .int .i64 (a 4), .int .i64 (a 5), .int .i64 (a 6), .int .i64 (a 7)] 133)) t b 133; simpa only [World.size_alloc] using this) _) _), (RLies.alloc (by show RLies _ _ _ _; have := lies_new ((w.alloc (.cells #[.bool s, .int .i64 (a 0), .int .i64 (a 1), .int .i64 (a 2), .int .i64 (a 3), .int .i64 (a 4), .int .i64 (a 5), .int .i64 (a 6), .int .i64 (a 7)] 133)).alloc (.cells #[.bool t, .int .i64 (b 0), .int .i64 (b 1), .int .i64 (b 2), .int .i64 (b 3), .int .i64 (b 4), .int .i64 (b 5), .int .i64 (b 6), .int .i64 (b 7)] 133)) false (fun _ => 0) 133; simpa only [World.size_alloc] using this) _), (by show RLies _ _ _ _; have := lies_new (((w.alloc (.cells #[.bool s, .int .i64 (a 0), .int .i64 (a 1), .int .i64 (a 2), .int .i64 (a 3), .int .i64 (a 4), .int .i64 (a 5), .int .i64 (a 6), .int .i64 (a 7)] 133)).alloc (.cells #[.bool t, .int .i64 (b 0), .int .i64 (b 1), .int .i64 (b 2), .int .i64 (b 3), .int .i64 (b 4), .int .i64 (b 5), .int .i64 (b 6), .int .i64 (b 7)] 133)).alloc (.cells #[.bool false, .int .i64 0, .int .i64 0, .int .i64 0, .int .i64 0, .int .i64 0, .int .i64 0, .int .i64 0, .int .i64 0] 133)) false (fun _ => 0) 133; simpa only [World.size_alloc] using this), ((((new_after w _).alloc (by simp) _).alloc (by simp; omega) _).alloc (by simp; omega) _)⟩
  case round =>
    obtain ⟨k, d, hk, rfl, HD, HL, HR, HZ, HO, HB⟩ := hrel
    by_cases hlt : k < 8
    · have e1 := HL.out.dig k hlt
      have i0 : (0 : Int) ≤ (k : Int) := by omega
      have i1 : (k : Int) < 8 := by omega
      have b1 := HA.out k hlt
      obtain ⟨x, hx⟩ : ∃ x, x = a k := ⟨_, rfl⟩
      rw [← hx] at e1 b1
      by_cases hz : x = 0
      · have HM : Hid _ := times_zero HD.out.2 (by rw [← hx, hz])
        clear hx
        go_wp2
        go_roundw
        case rel => exact ⟨k + 1, d, by omega, by go_num, ⟨HD.out.1, HM.out⟩, HL.out, HR.out, HZ.out, HO.out, HB.out⟩
        case measure => simp [intOf]; omega
      · have HX : Hid _ := hx
        clear hx
        go_wp2
        go_loopw [7, 8] (fun cc i wr => ∃ (j : Nat) (e : Nat → Int) (c : Int), k + j ≤ 8 ∧ i = .int .i64 j ∧ cc = .int .i64 c ∧ 0 ≤ c ∧ c < 16777216 ∧ Hid (Digs e ∧ val e 8 + c * 16777216 ^ (k + j) = val d 8 + x * val b j * 16777216 ^ k) ∧ Hid (RLies wr w.heap.size s a) ∧ Hid (RLies wr (w.heap.size + 1) t b) ∧ Hid (RLies wr (w.heap.size + 1 + 1) false (fun _ => 0)) ∧ Hid (RLies wr (w.heap.size + 1 + 1 + 1) false e) ∧ Hid (Below w.heap.size w wr)) (fun _ i _ => 8 - (intOf i).toNat)
        case atStart => exact ⟨0, d, 0, by omega, rfl, rfl, by omega, by omega, ⟨HD.out.1, by simp [val]⟩, HL.out, HR.out, HZ.out, HO.out, HB.out⟩
        case round =>
          clear HL HR HZ HO HB e1
          obtain ⟨j, e, c, hj, rfl, rfl, hc0, hc1, HI, HL, HR, HZ, HO, HB⟩ := hrel
          by_cases hjl : k + j < 8
          · have e1 := HL.out.dig k hlt
            rw [← HX.out] at e1
            have e2 := HR.out.dig j (by omega)
            have e3 := HO.out.dig (k + j) hjl
            have e4 := HO.out.free (1 + (k + j)) (by omega)
            have j0 : (0 : Int) ≤ (j : Int) := by omega
            have j1 : (j : Int) < 8 := by omega
            have k0 : (0 : Int) ≤ (k : Int) + (j : Int) := by omega
            have k1 : (k : Int) + (j : Int) < 8 := by omega
            have b2 := HC.out j (by omega)
            have b3 := HI.out.1 (k + j) hjl
            obtain ⟨y, hy⟩ : ∃ y, y = b j := ⟨_, rfl⟩
            obtain ⟨o, ho⟩ : ∃ o, o = e (k + j) := ⟨_, rfl⟩
            rw [← hy] at e2 b2
            rw [← ho] at e3 b3
            have HN : Hid _ := times_next b2 b1 b3 HI.out.1 hjl ⟨hc0, hc1⟩ hy ho HI.out.2
            have hp0 : 0 ≤ x * y := Int.mul_nonneg b1.1 b2.1
            have hp1 : x * y ≤ 16777215 * 16777215 := Int.mul_le_mul (by omega) (by omega) b2.1 (by omega)
            clear hy ho
            go_wp2
            go_region
            all_goals go_wp2
            all_goals go_roundw
            all_goals try (case rel => obtain ⟨n1, n2, n3, n4⟩ := HN.out; exact ⟨j + 1, put e (k + j) ((o + x * y + c) % 16777216), (o + x * y + c) / 16777216, by omega, by go_num, rfl, n2, n3, ⟨n1, n4⟩, (HL.out.otherAt (by omega) _).drew, (HR.out.otherAt (by omega) _).drew, (HZ.out.otherAt (by omega) _).drew, (HO.out.put hjl _).drew, (setAt HB.out (by omega) _).drew⟩)
            all_goals try (case measure => simp [intOf]; omega)
          · have k8 : ¬ (k : Int) + (j : Int) < 8 := by omega
            have HM : Hid _ := times_round (e := e) (c := c) HD.out.2 (by omega : k + j = 8) (by rw [← HX.out]; exact HI.out.2)
            go_wp2
            go_roundw
            case rel => exact ⟨k + 1, e, by omega, by go_num, ⟨HI.out.1, HM.out⟩, HL.out, HR.out, HZ.out, HO.out, HB.out⟩
            case measure => simp [intOf]; omega
    · have k8 : 8 ≤ (k : Int) := by omega
      have HV : Hid (Digs d ∧ sv (s != t) d = sv s a * sv t b) := by
        obtain ⟨d1, d2⟩ := HD.out
        rw [(by omega : k = 8)] at d2
        exact ⟨d1, HE.out d d1 d2⟩
      have HO' : Hid _ := HO.out.sign (s != t)
      obtain ⟨q0, q1, q2, q3, q4, q5, q6, q7, q8⟩ := HO.out.cells
      have y0 := HO.out.free 0 (by omega)
      obtain ⟨r0, r1, r2, r3, r4, r5, r6, r7, r8⟩ := HZ.out.cells
      obtain ⟨f0, f1, f2, f3, f4, f5, f6, f7, f8⟩ := HZ.out.frees
      have z0 := HL.out.neg
      have z1 := HR.out.neg
      clear HD HA HC HE
      go_wp2
      try simp only [Exit.inBlock, Exit.then]
      refine bodyPost_ret (by simp [results, Tryz.results92, go_sem, r0, r1, r2, r3, r4, r5, r6, r7, r8]; try rfl) rfl ?_
      exact ⟨_, d, rfl, HV.out, below_nine (setAt HB.out (by omega) _) (by omega)⟩
end Go.Proofs.YtbhdfjoagajipaaGreat
namespace Go.Proofs.YtbhdfjoagajipaaGreat
open Go.RowKit Ref

/-- The digits from number k on, as a number. -/
def top (d : Nat → Int) (k : Nat) : Int := val (fun j => d (k + j)) (8 - k)
theorem top_all (d : Nat → Int) : top d 8 = 0 := rfl
theorem top_none (d : Nat → Int) : top d 0 = val d 8 := val_ext 8 fun j _ => by simp
theorem top_step (d : Nat → Int) (k : Nat) (hk : k < 8) : top d k = top d (k + 1) * 16777216 + d k := by
  unfold top
  have h := val_split (fun j => d (k + j)) 1 (8 - (k + 1))
  rw [show 1 + (8 - (k + 1)) = 8 - k by omega] at h
  rw [h]
  have e : val (fun j => d (k + (1 + j))) (8 - (k + 1)) = val (fun j => d (k + 1 + j)) (8 - (k + 1)) := val_ext _ fun j _ => by rw [← Nat.add_assoc]
  rw [e]
  have e1 : val (fun j => d (k + j)) 1 = d k := by simp [val]
  rw [e1, Int.pow_succ, Int.pow_zero]
  generalize val (fun j => d (k + 1 + j)) (8 - (k + 1)) = R
  omega
theorem top_le {d : Nat → Int} (hd : Digs d) (k : Nat) (hk : k ≤ 8) : top d k ≤ val d 8 := by
  have h := val_split d k (8 - k)
  rw [show k + (8 - k) = 8 by omega] at h
  have h0 : 0 ≤ val d k := val_nonneg k fun j hj => (hd j (by omega)).1
  have h1 : 0 ≤ top d k := val_nonneg _ fun j hj => (hd (k + j) (by omega)).1
  have h2 := pos k
  have h3 : 1 * top d k ≤ 16777216 ^ k * top d k := Int.mul_le_mul_of_nonneg_right (by omega) h1
  unfold top at *
  omega
theorem top_nonneg {d : Nat → Int} (hd : Digs d) (k : Nat) (hk : k ≤ 8) : 0 ≤ top d k := val_nonneg _ fun j hj => (hd (k + j) (by omega)).1

/-- The bit that is next, m bits being left. -/
def bitOf : Nat → Int
  | 0 => 0
  | m + 1 => 2 ^ m
theorem bit_half (m : Nat) : (2 : Int) ^ m / 2 = bitOf m := by
  cases m with
  | zero => rfl
  | succ m => simp only [bitOf, Int.pow_succ]; omega
theorem bit_pos (m : Nat) : (0 : Int) < 2 ^ m := Int.pow_pos (by omega)
theorem bit_le {m : Nat} (h : m < 24) : (2 : Int) ^ m ≤ 8388608 := by
  have h1 : (2 : Int) ^ 23 = 2 ^ m * 2 ^ (23 - m) := by rw [← Int.pow_add]; congr 1; omega
  have h2 := bit_pos (23 - m)
  have h3 := bit_pos m
  have h4 : (2 : Int) ^ m * 1 ≤ 2 ^ m * 2 ^ (23 - m) := Int.mul_le_mul_of_nonneg_left (by omega) (by omega)
  have h5 : (2 : Int) ^ 23 = 8388608 := by decide
  omega

theorem down_bit {P x N q r C : Int} {m : Nat} (hm : m < 24) (hN : N = P * 2 ^ (24 - (m + 1)) + x / 2 ^ (m + 1)) (h : q * C + r = N) : 2 * q * C + (2 * r + x / 2 ^ m % 2) = P * 2 ^ (24 - m) + x / 2 ^ m := by
  have e : x / 2 ^ (m + 1) = x / 2 ^ m / 2 := by rw [Int.pow_succ, Int.ediv_ediv_of_nonneg (Int.le_of_lt (bit_pos m))]
  have e2 : (2 : Int) ^ (24 - m) = 2 ^ (24 - (m + 1)) * 2 := by rw [← Int.pow_succ]; congr 1; omega
  rw [e] at hN
  rw [e2]
  generalize x / 2 ^ m = y at *
  generalize (2 : Int) ^ (24 - (m + 1)) = Z at *
  have h2 : y / 2 * 2 + y % 2 = y := by omega
  subst hN
  grind

theorem down_early {P x N q r C V : Int} {m : Nat} (hm : m < 24) (hP : 0 ≤ P) (hx : 0 ≤ x) (hr : 0 ≤ r) (hC : 0 < C) (hN : N = P * 2 ^ (24 - (m + 1)) + x / 2 ^ (m + 1)) (h : q * C + r = N) (hq : 2305843009213693951 < q) (hV : P * 16777216 + x ≤ V) :
    4611686018427387904 ≤ V / C := by
  apply (Int.le_ediv_iff_mul_le hC).2
  have e1 : (16777216 : Int) = 2 ^ (24 - (m + 1)) * 2 ^ (m + 1) := by rw [← Int.pow_add, show 24 - (m + 1) + (m + 1) = 24 by omega]; decide
  have h1 := bit_pos (24 - (m + 1))
  have h2 := bit_pos m
  have h3 : (2 : Int) ^ (m + 1) = 2 ^ m * 2 := Int.pow_succ ..
  have h4 : 0 ≤ P * 2 ^ (24 - (m + 1)) := Int.mul_nonneg hP (by omega)
  have h5 : P * 2 ^ (24 - (m + 1)) * 2 ≤ P * 2 ^ (24 - (m + 1)) * 2 ^ (m + 1) := Int.mul_le_mul_of_nonneg_left (by omega) h4
  have h6 : P * 16777216 = P * 2 ^ (24 - (m + 1)) * 2 ^ (m + 1) := by rw [Int.mul_assoc, ← e1]
  have h7 : x / 2 ^ (m + 1) * 2 ≤ x := by
    have a := Int.emod_add_mul_ediv x (2 ^ (m + 1))
    have b := Int.emod_nonneg x (by omega : (2 : Int) ^ (m + 1) ≠ 0)
    have c : 0 ≤ x / 2 ^ (m + 1) := Int.ediv_nonneg hx (by omega)
    have d : 2 * (x / 2 ^ (m + 1)) ≤ 2 ^ (m + 1) * (x / 2 ^ (m + 1)) := Int.mul_le_mul_of_nonneg_right (by omega) c
    omega
  have h8 : 2305843009213693952 * C ≤ q * C := Int.mul_le_mul_of_nonneg_right (by omega) (by omega)
  omega

/-- What the quotient is, down, by the sizes' quotient and rest. -/
theorem down_end {n : Bool} {d : Nat → Int} {q r C : Int} (hC : 0 < C) (hr0 : 0 ≤ r) (hr : r < C) (h : q * C + r = val d 8) : sv n d / C = if n then (if r = 0 then -q else -(q + 1)) else q := by
  have hd := Fx.div_of (n := val d 8) (q := q) hC (by omega) (by rw [Int.add_mul]; omega)
  unfold sv
  cases n
  · simp [hd.1]
  · simp only [if_true]
    rw [Fx.neg_div hC, hd.1, hd.2]
    have : (val d 8 - q * C = 0) ↔ r = 0 := by omega
    simp [this]
theorem down_great {n : Bool} {d : Nat → Int} {C : Int} (hC : 0 < C) (h : 4611686018427387904 ≤ val d 8 / C) : Fx.great (sv n d / C) = true := by
  rw [Fx.great_iff]
  unfold sv
  cases n
  · simp; omega
  · simp only [if_true]
    rw [Fx.neg_div hC]
    split <;> omega

set_option maxHeartbeats 2000000 in
theorem down_pos (s : Bool) (a : Nat → Int) (c : Int) (w : World) (ha : Digs a) (hc : 0 < c) (hc2 : c ≤ 4611686018427387903) :
    Calls Tryz.prog 91 #[wv s a, .int .i64 c] w fun e w' => ∃ n ok, e = .returned (.tuple #[.int .i64 n, .bool ok]) ∧ Hid (ok = !Fx.great (sv s a / c) ∧ n = if ok then sv s a / c else 0) ∧ Hid (Below w.heap.size w w') := by
  obtain ⟨C, hC⟩ : ∃ C, C = c := ⟨_, rfl⟩
  have hC0 : 0 < C := by omega
  have hC1 : C ≤ 4611686018427387903 := by omega
  rw [← hC]
  have HA : Hid _ := ha
  have HG : Hid (4611686018427387904 ≤ val a 8 / C → Fx.great (sv s a / C) = true) := down_great hC0
  have HE : Hid (∀ q r, 0 ≤ r → r < C → q * C + r = val a 8 → sv s a / C = if s then (if r = 0 then -q else -(q + 1)) else q) := fun q r h1 h2 h3 => down_end hC0 h1 h2 h3
  clear ha
  go_enter Tryz.func91, Tryz.ntmps91
  go_wp2
  rw [← hC]
  clear hC
  go_loopw [7, 8, 9] (fun qq rr i wr => ∃ (k : Nat) (q r : Int), k ≤ 8 ∧ i = .int .i64 ((k : Int) - 1) ∧ qq = .int .i64 q ∧ rr = .int .i64 r ∧ 0 ≤ q ∧ q ≤ 4611686018427387903 ∧ 0 ≤ r ∧ r < C ∧ Hid (q * C + r = top a k) ∧ Hid (RLies wr w.heap.size s a) ∧ Hid (Below w.heap.size w wr)) (fun _ _ i _ => (intOf i + 1).toNat)
  case atStart => exact ⟨8, 0, 0, Nat.le_refl _, rfl, rfl, rfl, by omega, by omega, by omega, hC0, by show _ = _; rw [top_all]; simp, lies_new w s a 133, new_after w _⟩
  case round =>
    obtain ⟨k, q, r, hk, rfl, rfl, rfl, hq0, hq1, hr0, hr1, HI, HL, HB⟩ := hrel
    match k, hk, HI with
    | 0, _, HI =>
      have HV : Hid _ := HE.out q r hr0 hr1 (by rw [← top_none]; exact HI.out)
      clear HE HG HI HA
      cases s
      · skip
        go_wp2
        go_ret2
        exact ⟨q, true, rfl, ⟨by rw [HV.out, if_neg (by simp), (Fx.not_great _).2 ⟨by omega, hq1⟩]; rfl, by rw [HV.out]; simp⟩, HB.out⟩
      · skip
        rcases Int.lt_trichotomy r 0 with hr | hr | hr
        · omega
        · subst hr
          rw [if_pos (by simp), if_pos rfl] at HV
          go_wp2
          go_ret2
          exact ⟨-q, true, rfl, ⟨by rw [HV.out, (Fx.not_great _).2 ⟨by omega, by omega⟩]; rfl, by rw [HV.out]; simp⟩, HB.out⟩
        · rw [if_pos (by simp), if_neg (by omega)] at HV
          by_cases hm : q = 4611686018427387903
          · subst hm
            go_wp2
            go_ret2
            exact ⟨0, false, rfl, ⟨by rw [HV.out]; decide, by simp⟩, HB.out⟩
          · go_wp2
            go_ret2
            exact ⟨-(q + 1), true, rfl, ⟨by rw [HV.out, (Fx.not_great _).2 ⟨by omega, by omega⟩]; rfl, by rw [HV.out]; simp⟩, HB.out⟩
    | k + 1, hk, HI =>
      have e : ((k + 1 : Nat) : Int) - 1 = (k : Int) := by omega
      rw [e]
      have i0 : (0 : Int) ≤ (k : Int) := by omega
      have i1 : (k : Int) < 8 := by omega
      have c0 := HL.out.dig k (by omega)
      have b0 := HA.out k (by omega)
      have HT : Hid _ := top_step a k (by omega)
      have HP : Hid _ := top_nonneg HA.out (k + 1) (by omega)
      have HW : Hid _ := top_le HA.out k (by omega)
      obtain ⟨x, hx⟩ : ∃ x, x = a k := ⟨_, rfl⟩
      obtain ⟨P, hP⟩ : ∃ P, P = top a (k + 1) := ⟨_, rfl⟩
      rw [← hx] at c0 b0 HT
      rw [← hP] at HT HP HI
      have HX : Hid _ := hx
      clear hx hP e
      by_cases hskip : x = 0 ∧ q = 0 ∧ r = 0
      · obtain ⟨rfl, rfl, rfl⟩ := hskip
        have HM : Hid (0 * C + 0 = top a k) := by show _ = _; rw [HT.out, ← HI.out]; omega
        go_wp2
        go_roundw
        case rel => exact ⟨k, 0, 0, by omega, by go_num, rfl, rfl, by omega, by omega, by omega, hC0, HM.out, HL.out, HB.out⟩
        case measure => show (((k : Int) - 1) + 1).toNat < ((k : Int) + 1).toNat; omega
      · have hor : x ≠ 0 ∨ (x = 0 ∧ q ≠ 0) ∨ (x = 0 ∧ q = 0 ∧ r ≠ 0) := by omega
        clear hskip
        rcases hor with g | ⟨g, g'⟩ | ⟨g, g', g''⟩
        all_goals go_wp2
        all_goals try clear g''
        all_goals try clear g'
        all_goals clear g
        all_goals (
          go_loopw [7, 8, 10] (fun qq rr bb wr => ∃ (m : Nat) (q r : Int), m ≤ 24 ∧ bb = .int .i64 (bitOf m) ∧ qq = .int .i64 q ∧ rr = .int .i64 r ∧ 0 ≤ q ∧ q ≤ 4611686018427387903 ∧ 0 ≤ r ∧ r < C ∧ Hid (q * C + r = P * 2 ^ (24 - m) + x / 2 ^ m) ∧ Hid (RLies wr w.heap.size s a) ∧ Hid (Below w.heap.size w wr)) (fun _ _ bb _ => (intOf bb).toNat)
          case atStart => exact ⟨24, q, r, Nat.le_refl _, by simp [bitOf], rfl, rfl, hq0, hq1, hr0, hr1, by show _ = _; rw [HI.out, Int.ediv_eq_zero_of_lt (by omega) (by simpa using b0.2)]; simp, HL.out, HB.out⟩
          case round =>
            clear HI HL HB c0 hq0 hq1 hr0 hr1
            obtain ⟨m, q, r, hm, rfl, rfl, rfl, hq0, hq1, hr0, hr1, HI, HL, HB⟩ := hrel
            match m, hm, HI with
            | 0, _, HI =>
              have HM : Hid (q * C + r = top a k) := by show _ = _; rw [HI.out, HT.out]; simp
              have hb0 : bitOf 0 = 0 := rfl
              rw [hb0]
              go_wp2
              go_roundw
              case rel => exact ⟨k, q, r, by omega, by go_num, rfl, rfl, hq0, hq1, hr0, hr1, HM.out, HL.out, HB.out⟩
              case measure => show (((k : Int) - 1) + 1).toNat < ((k : Int) + 1).toNat; omega
            | m + 1, hm, HI =>
              have hb0 : bitOf (m + 1) = 2 ^ m := rfl
              rw [hb0]
              have c0 := HL.out.dig k (by omega)
              rw [← HX.out] at c0
              have HN : Hid (∀ q' r' : Int, q' * C + r' = 2 * q * C + (2 * r + x / 2 ^ m % 2) → q' * C + r' = P * 2 ^ (24 - m) + x / 2 ^ m) := fun q' r' h => h.trans (down_bit (by omega : m < 24) rfl HI.out)
              have HY : Hid (2305843009213693951 < q → 4611686018427387904 ≤ val a 8 / C) := fun h => down_early (by omega : m < 24) HP.out b0.1 hr0 hC0 rfl HI.out h (by rw [← HT.out]; exact HW.out)
              have HH : Hid _ := bit_half m
              have hb1 := bit_pos m
              have hb2 := bit_le (by omega : m < 24)
              obtain ⟨bt, hbt⟩ : ∃ b, b = (2 : Int) ^ m := ⟨_, rfl⟩
              rw [← hbt] at HH hb1 hb2
              rw [← hbt]
              have y0 : 0 ≤ x / bt := Int.ediv_nonneg b0.1 (by omega)
              have y1 : x / bt ≤ x := Int.ediv_le_self _ b0.1
              obtain ⟨y, hy⟩ : ∃ y, y = x / bt := ⟨_, rfl⟩
              have HYY : Hid (y = x / 2 ^ m) := by show _ = _; rw [← hbt]; exact hy
              rw [← hy] at y0 y1
              clear hbt hb0 HI
              have hbit : y % 2 = 1 ∨ y % 2 = 0 := by omega
              rcases hbit with hbit | hbit
              · skip
                by_cases hq : 2305843009213693951 < q
                · have HZ : Hid _ := HG.out (HY.out hq)
                  go_wp2
                  go_ret2
                  exact ⟨0, false, rfl, ⟨by rw [HZ.out]; rfl, rfl⟩, HB.out⟩
                by_cases hr : C ≤ 2 * r + 1
                · skip
                  go_wp2
                  go_roundw
                  case rel => exact ⟨m, 2 * q + 1, 2 * r + 1 - C, by omega, by rw [HH.out], rfl, rfl, by omega, by omega, by omega, by omega, HN.out _ _ (by rw [← HYY.out, hbit]; rw [Int.add_mul]; omega), HL.out, HB.out⟩
                  case measure => show (bt / 2).toNat < bt.toNat; omega
                · skip
                  go_wp2
                  go_roundw
                  case rel => exact ⟨m, 2 * q, 2 * r + 1, by omega, by rw [HH.out], rfl, rfl, by omega, by omega, by omega, by omega, HN.out _ _ (by rw [← HYY.out, hbit]), HL.out, HB.out⟩
                  case measure => show (bt / 2).toNat < bt.toNat; omega
              · skip
                by_cases hq : 2305843009213693951 < q
                · have HZ : Hid _ := HG.out (HY.out hq)
                  go_wp2
                  go_ret2
                  exact ⟨0, false, rfl, ⟨by rw [HZ.out]; rfl, rfl⟩, HB.out⟩
                by_cases hr : C ≤ 2 * r
                · skip
                  go_wp2
                  go_roundw
                  case rel => exact ⟨m, 2 * q + 1, 2 * r - C, by omega, by rw [HH.out], rfl, rfl, by omega, by omega, by omega, by omega, HN.out _ _ (by rw [← HYY.out, hbit]; rw [Int.add_mul]; omega), HL.out, HB.out⟩
                  case measure => show (bt / 2).toNat < bt.toNat; omega
                · skip
                  go_wp2
                  go_roundw
                  case rel => exact ⟨m, 2 * q, 2 * r, by omega, by rw [HH.out], rfl, rfl, by omega, by omega, by omega, by omega, HN.out _ _ (by rw [← HYY.out, hbit]; omega), HL.out, HB.out⟩
                  case measure => show (bt / 2).toNat < bt.toNat; omega)

set_option maxHeartbeats 2000000 in
theorem down_neg (s : Bool) (a : Nat → Int) (c : Int) (w : World) (ha : Digs a) (hc : c < 0) (hc2 : -4611686018427387903 ≤ c) :
    Calls Tryz.prog 91 #[wv s a, .int .i64 c] w fun e w' => ∃ n ok, e = .returned (.tuple #[.int .i64 n, .bool ok]) ∧ Hid (ok = !Fx.great (sv (!s) a / (-c)) ∧ n = if ok then sv (!s) a / (-c) else 0) ∧ Hid (Below w.heap.size w w') := by
  obtain ⟨C, hC⟩ : ∃ C, C = (-c) := ⟨_, rfl⟩
  have hC0 : 0 < C := by omega
  have hC1 : C ≤ 4611686018427387903 := by omega
  rw [← hC]
  have HA : Hid _ := ha
  have HG : Hid (4611686018427387904 ≤ val a 8 / C → Fx.great (sv (!s) a / C) = true) := down_great hC0
  have HE : Hid (∀ q r, 0 ≤ r → r < C → q * C + r = val a 8 → sv (!s) a / C = if (!s) then (if r = 0 then -q else -(q + 1)) else q) := fun q r h1 h2 h3 => down_end hC0 h1 h2 h3
  clear ha
  go_enter Tryz.func91, Tryz.ntmps91
  go_wp2
  rw [← hC]
  clear hC
  go_loopw [7, 8, 9] (fun qq rr i wr => ∃ (k : Nat) (q r : Int), k ≤ 8 ∧ i = .int .i64 ((k : Int) - 1) ∧ qq = .int .i64 q ∧ rr = .int .i64 r ∧ 0 ≤ q ∧ q ≤ 4611686018427387903 ∧ 0 ≤ r ∧ r < C ∧ Hid (q * C + r = top a k) ∧ Hid (RLies wr w.heap.size s a) ∧ Hid (Below w.heap.size w wr)) (fun _ _ i _ => (intOf i + 1).toNat)
  case atStart => exact ⟨8, 0, 0, Nat.le_refl _, rfl, rfl, rfl, by omega, by omega, by omega, hC0, by show _ = _; rw [top_all]; simp, lies_new w s a 133, new_after w _⟩
  case round =>
    obtain ⟨k, q, r, hk, rfl, rfl, rfl, hq0, hq1, hr0, hr1, HI, HL, HB⟩ := hrel
    match k, hk, HI with
    | 0, _, HI =>
      have HV : Hid _ := HE.out q r hr0 hr1 (by rw [← top_none]; exact HI.out)
      clear HE HG HI HA
      cases s
      · skip
        rcases Int.lt_trichotomy r 0 with hr | hr | hr
        · omega
        · subst hr
          rw [if_pos (by simp), if_pos rfl] at HV
          go_wp2
          go_ret2
          exact ⟨-q, true, rfl, ⟨by rw [HV.out, (Fx.not_great _).2 ⟨by omega, by omega⟩]; rfl, by rw [HV.out]; simp⟩, HB.out⟩
        · rw [if_pos (by simp), if_neg (by omega)] at HV
          by_cases hm : q = 4611686018427387903
          · subst hm
            go_wp2
            go_ret2
            exact ⟨0, false, rfl, ⟨by rw [HV.out]; decide, by simp⟩, HB.out⟩
          · go_wp2
            go_ret2
            exact ⟨-(q + 1), true, rfl, ⟨by rw [HV.out, (Fx.not_great _).2 ⟨by omega, by omega⟩]; rfl, by rw [HV.out]; simp⟩, HB.out⟩
      · skip
        go_wp2
        go_ret2
        exact ⟨q, true, rfl, ⟨by rw [HV.out, if_neg (by simp), (Fx.not_great _).2 ⟨by omega, hq1⟩]; rfl, by rw [HV.out]; simp⟩, HB.out⟩
    | k + 1, hk, HI =>
      have e : ((k + 1 : Nat) : Int) - 1 = (k : Int) := by omega
      rw [e]
      have i0 : (0 : Int) ≤ (k : Int) := by omega
      have i1 : (k : Int) < 8 := by omega
      have c0 := HL.out.dig k (by omega)
      have b0 := HA.out k (by omega)
      have HT : Hid _ := top_step a k (by omega)
      have HP : Hid _ := top_nonneg HA.out (k + 1) (by omega)
      have HW : Hid _ := top_le HA.out k (by omega)
      obtain ⟨x, hx⟩ : ∃ x, x = a k := ⟨_, rfl⟩
      obtain ⟨P, hP⟩ : ∃ P, P = top a (k + 1) := ⟨_, rfl⟩
      rw [← hx] at c0 b0 HT
      rw [← hP] at HT HP HI
      have HX : Hid _ := hx
      clear hx hP e
      by_cases hskip : x = 0 ∧ q = 0 ∧ r = 0
      · obtain ⟨rfl, rfl, rfl⟩ := hskip
        have HM : Hid (0 * C + 0 = top a k) := by show _ = _; rw [HT.out, ← HI.out]; omega
        go_wp2
        go_roundw
        case rel => exact ⟨k, 0, 0, by omega, by go_num, rfl, rfl, by omega, by omega, by omega, hC0, HM.out, HL.out, HB.out⟩
        case measure => show (((k : Int) - 1) + 1).toNat < ((k : Int) + 1).toNat; omega
      · have hor : x ≠ 0 ∨ (x = 0 ∧ q ≠ 0) ∨ (x = 0 ∧ q = 0 ∧ r ≠ 0) := by omega
        clear hskip
        rcases hor with g | ⟨g, g'⟩ | ⟨g, g', g''⟩
        all_goals go_wp2
        all_goals try clear g''
        all_goals try clear g'
        all_goals clear g
        all_goals (
          go_loopw [7, 8, 10] (fun qq rr bb wr => ∃ (m : Nat) (q r : Int), m ≤ 24 ∧ bb = .int .i64 (bitOf m) ∧ qq = .int .i64 q ∧ rr = .int .i64 r ∧ 0 ≤ q ∧ q ≤ 4611686018427387903 ∧ 0 ≤ r ∧ r < C ∧ Hid (q * C + r = P * 2 ^ (24 - m) + x / 2 ^ m) ∧ Hid (RLies wr w.heap.size s a) ∧ Hid (Below w.heap.size w wr)) (fun _ _ bb _ => (intOf bb).toNat)
          case atStart => exact ⟨24, q, r, Nat.le_refl _, by simp [bitOf], rfl, rfl, hq0, hq1, hr0, hr1, by show _ = _; rw [HI.out, Int.ediv_eq_zero_of_lt (by omega) (by simpa using b0.2)]; simp, HL.out, HB.out⟩
          case round =>
            clear HI HL HB c0 hq0 hq1 hr0 hr1
            obtain ⟨m, q, r, hm, rfl, rfl, rfl, hq0, hq1, hr0, hr1, HI, HL, HB⟩ := hrel
            match m, hm, HI with
            | 0, _, HI =>
              have HM : Hid (q * C + r = top a k) := by show _ = _; rw [HI.out, HT.out]; simp
              have hb0 : bitOf 0 = 0 := rfl
              rw [hb0]
              go_wp2
              go_roundw
              case rel => exact ⟨k, q, r, by omega, by go_num, rfl, rfl, hq0, hq1, hr0, hr1, HM.out, HL.out, HB.out⟩
              case measure => show (((k : Int) - 1) + 1).toNat < ((k : Int) + 1).toNat; omega
            | m + 1, hm, HI =>
              have hb0 : bitOf (m + 1) = 2 ^ m := rfl
              rw [hb0]
              have c0 := HL.out.dig k (by omega)
              rw [← HX.out] at c0
              have HN : Hid (∀ q' r' : Int, q' * C + r' = 2 * q * C + (2 * r + x / 2 ^ m % 2) → q' * C + r' = P * 2 ^ (24 - m) + x / 2 ^ m) := fun q' r' h => h.trans (down_bit (by omega : m < 24) rfl HI.out)
              have HY : Hid (2305843009213693951 < q → 4611686018427387904 ≤ val a 8 / C) := fun h => down_early (by omega : m < 24) HP.out b0.1 hr0 hC0 rfl HI.out h (by rw [← HT.out]; exact HW.out)
              have HH : Hid _ := bit_half m
              have hb1 := bit_pos m
              have hb2 := bit_le (by omega : m < 24)
              obtain ⟨bt, hbt⟩ : ∃ b, b = (2 : Int) ^ m := ⟨_, rfl⟩
              rw [← hbt] at HH hb1 hb2
              rw [← hbt]
              have y0 : 0 ≤ x / bt := Int.ediv_nonneg b0.1 (by omega)
              have y1 : x / bt ≤ x := Int.ediv_le_self _ b0.1
              obtain ⟨y, hy⟩ : ∃ y, y = x / bt := ⟨_, rfl⟩
              have HYY : Hid (y = x / 2 ^ m) := by show _ = _; rw [← hbt]; exact hy
              rw [← hy] at y0 y1
              clear hbt hb0 HI
              have hbit : y % 2 = 1 ∨ y % 2 = 0 := by omega
              rcases hbit with hbit | hbit
              · skip
                by_cases hq : 2305843009213693951 < q
                · have HZ : Hid _ := HG.out (HY.out hq)
                  go_wp2
                  go_ret2
                  exact ⟨0, false, rfl, ⟨by rw [HZ.out]; rfl, rfl⟩, HB.out⟩
                by_cases hr : C ≤ 2 * r + 1
                · skip
                  go_wp2
                  go_roundw
                  case rel => exact ⟨m, 2 * q + 1, 2 * r + 1 - C, by omega, by rw [HH.out], rfl, rfl, by omega, by omega, by omega, by omega, HN.out _ _ (by rw [← HYY.out, hbit]; rw [Int.add_mul]; omega), HL.out, HB.out⟩
                  case measure => show (bt / 2).toNat < bt.toNat; omega
                · skip
                  go_wp2
                  go_roundw
                  case rel => exact ⟨m, 2 * q, 2 * r + 1, by omega, by rw [HH.out], rfl, rfl, by omega, by omega, by omega, by omega, HN.out _ _ (by rw [← HYY.out, hbit]), HL.out, HB.out⟩
                  case measure => show (bt / 2).toNat < bt.toNat; omega
              · skip
                by_cases hq : 2305843009213693951 < q
                · have HZ : Hid _ := HG.out (HY.out hq)
                  go_wp2
                  go_ret2
                  exact ⟨0, false, rfl, ⟨by rw [HZ.out]; rfl, rfl⟩, HB.out⟩
                by_cases hr : C ≤ 2 * r
                · skip
                  go_wp2
                  go_roundw
                  case rel => exact ⟨m, 2 * q + 1, 2 * r - C, by omega, by rw [HH.out], rfl, rfl, by omega, by omega, by omega, by omega, HN.out _ _ (by rw [← HYY.out, hbit]; rw [Int.add_mul]; omega), HL.out, HB.out⟩
                  case measure => show (bt / 2).toNat < bt.toNat; omega
                · skip
                  go_wp2
                  go_roundw
                  case rel => exact ⟨m, 2 * q, 2 * r, by omega, by rw [HH.out], rfl, rfl, by omega, by omega, by omega, by omega, HN.out _ _ (by rw [← HYY.out, hbit]; omega), HL.out, HB.out⟩
                  case measure => show (bt / 2).toNat < bt.toNat; omega)

/-- A quotient, down. -/
theorem down_any (s : Bool) (a : Nat → Int) (c : Int) (w : World) (ha : Digs a) (hc : c ≠ 0) (h1 : -4611686018427387903 ≤ c) (h2 : c ≤ 4611686018427387903) :
    Calls Tryz.prog 91 #[wv s a, .int .i64 c] w fun e w' => ∃ n ok, e = .returned (.tuple #[.int .i64 n, .bool ok]) ∧ Hid (ok = !Fx.great (Fx.fl (sv s a) c) ∧ n = if ok then Fx.fl (sv s a) c else 0) ∧ Hid (Below w.heap.size w w') := by
  unfold Fx.fl
  by_cases h : c < 0
  · rw [if_pos h, ← sv_not]
    exact down_neg s a c w ha h h1
  · rw [if_neg h]
    exact down_pos s a c w ha (by omega) h2

end Go.Proofs.YtbhdfjoagajipaaGreat
namespace Go.Proofs.YtbhdfjoagajipaaGreat
open Go.RowKit Ref

/-- Half way down: r is a root's upper places; m places are open. -/
def RI (X r : Int) (m : Nat) : Prop := 0 ≤ r ∧ r * r ≤ X ∧ X < (r + 2 ^ m) * (r + 2 ^ m) ∧ r + 2 ^ m ≤ 4611686018427387904

theorem small_sq {a b : Int} (ha : a.natAbs ≤ 9223372036854775808) (hb : b.natAbs ≤ 9223372036854775808) : (a * b).natAbs < 6277101735386680763835789423207666416102355444464034512896 := by
  rw [Int.natAbs_mul]
  exact Nat.lt_of_le_of_lt (Nat.mul_le_mul ha hb) (by decide)

end Go.Proofs.YtbhdfjoagajipaaGreat
namespace Go.Proofs.YtbhdfjoagajipaaGreat
open Go.RowKit Ref Fx

set_option maxHeartbeats 1000000 in
theorem rgreat_any (zs : List Int) (b off cap : Nat) (w : World) (hlen : zs.length ≤ 4611686018427387904) (hc : ∀ k, k < zs.length → w.cell? ⟨b, off + k, none⟩ = some (.int .i64 (zs.getD k 0))) :
    Calls Tryz.prog 89 #[.slice (some ⟨b, off, none⟩) zs.length cap] w fun e w' => e = .returned (.bool (zs.any great)) ∧ w' = w := by
  have HC : Hid _ := hc
  clear hc
  go_enter Tryz.func89, Tryz.ntmps89
  go_wp2
  go_loop [3] (fun i => ∃ k : Nat, k ≤ zs.length ∧ i = .int .i64 k ∧ Hid ((zs.take k).any great = false)) (fun i => zs.length - (intOf i).toNat)
  case atStart => exact ⟨0, Nat.zero_le _, rfl, by simp [Hid]⟩
  case round =>
    obtain ⟨k, hk, rfl, HG⟩ := hrel
    by_cases hlt : k < zs.length
    · have hcell := HC.out k hlt
      have hs := great_step zs k hlt HG.out
      obtain ⟨z, hz⟩ : ∃ z, zs.getD k 0 = z := ⟨_, rfl⟩
      rw [hz] at hcell hs
      have HS : Hid _ := hs
      clear hs hz
      by_cases g1 : z < -4611686018427387903
      · have hany : zs.any great = true := by
          have : (zs.take (k + 1)).any great = true := by rw [HS.out]; simp [great, g1]
          rw [List.any_eq_true] at this ⊢
          obtain ⟨x, hx, hg⟩ := this
          exact ⟨x, List.mem_of_mem_take hx, hg⟩
        go_wp2
        go_ret
        exact ⟨rfl, rfl⟩
      · by_cases g2 : 4611686018427387903 < z
        · have hany : zs.any great = true := by
            have : (zs.take (k + 1)).any great = true := by rw [HS.out]; simp [great, g2]
            rw [List.any_eq_true] at this ⊢
            obtain ⟨x, hx, hg⟩ := this
            exact ⟨x, List.mem_of_mem_take hx, hg⟩
          go_wp2
          go_ret
          exact ⟨rfl, rfl⟩
        · have hno : Hid ((zs.take (k + 1)).any great = false) := by
            show _ = false
            rw [HS.out]; simp [great]; omega
          go_wp2
          go_round
          case rel => exact ⟨k + 1, by omega, by go_num, hno⟩
          case measure => simp [intOf]; omega
    · have hany : zs.any great = false := by
        have := HG.out
        rwa [List.take_of_length_le (by omega)] at this
      go_wp2
      go_ret
      exact ⟨rfl, rfl⟩

theorem rgreat2 (a b : Int) (w : World) : Calls Tryz.prog 89 #[.slice (some ⟨w.heap.size, 0, none⟩) 2 2] (w.alloc (.cells #[.int .i64 a, .int .i64 b] 3)) fun e w' => e = .returned (.bool (great a || great b)) ∧ w' = w.alloc (.cells #[.int .i64 a, .int .i64 b] 3) := by
  have h := rgreat_any [a, b] w.heap.size 0 2 (w.alloc (.cells #[.int .i64 a, .int .i64 b] 3)) (by simp) (fun k hk => by
    match k, hk with
    | 0, _ => simp
    | 1, _ => simp)
  simpa using h

theorem rgreat3 (a b c : Int) (w : World) : Calls Tryz.prog 89 #[.slice (some ⟨w.heap.size, 0, none⟩) 3 3] (w.alloc (.cells #[.int .i64 a, .int .i64 b, .int .i64 c] 3)) fun e w' => e = .returned (.bool (great a || (great b || great c))) ∧ w' = w.alloc (.cells #[.int .i64 a, .int .i64 b, .int .i64 c] 3) := by
  have h := rgreat_any [a, b, c] w.heap.size 0 3 (w.alloc (.cells #[.int .i64 a, .int .i64 b, .int .i64 c] 3)) (by simp) (fun k hk => by
    match k, hk with
    | 0, _ => simp
    | 1, _ => simp
    | 2, _ => simp)
  simpa using h


/-- What tells tells. -/
def tellsOf (n : Int) (ok : Bool) : Option Int := if ok then Fx.told n else none

set_option maxHeartbeats 1000000 in
theorem rtells_any (b off : Nat) (f : Bool) (n : Int) (ok : Bool) (w : World) (hc : w.cell? ⟨b, off, none⟩ = some (.bool f)) (hf : w.frozen? ⟨b, off, none⟩ = false) :
    Calls Tryz.prog 90 #[.pointer (some ⟨b, off, none⟩), .int .i64 n, .bool ok] w fun e w' => e = .returned (.int .i64 ((tellsOf n ok).getD 0)) ∧ Below w.heap.size (mark ⟨b, off, none⟩ (tellsOf n ok) w) w' := by
  cases ok
  · go_enter Tryz.func90, Tryz.ntmps90
    go_wp2
    go_ret
    exact ⟨rfl, by simp [tellsOf, mark]; exact Below.refl _ _⟩
  · by_cases h1 : n < -4611686018427387903
    · have hg : great n = true := (great_iff n).2 (Or.inl h1)
      go_enter Tryz.func90, Tryz.ntmps90
      go_wp2
      go_ret
      exact ⟨by simp [tellsOf, Fx.told, hg], by simp [tellsOf, Fx.told, hg, mark]; exact Below.refl _ _⟩
    · by_cases h2 : 4611686018427387903 < n
      · have hg : great n = true := (great_iff n).2 (Or.inr h2)
        go_enter Tryz.func90, Tryz.ntmps90
        go_wp2
        go_ret
        exact ⟨by simp [tellsOf, Fx.told, hg], by simp [tellsOf, Fx.told, hg, mark]; exact Below.refl _ _⟩
      · have hg : great n = false := (not_great n).2 (by omega)
        go_enter Tryz.func90, Tryz.ntmps90
        go_wp2
        go_ret
        exact ⟨by simp [tellsOf, Fx.told, hg], by simp [tellsOf, Fx.told, hg, mark]; exact Below.refl _ _⟩

theorem told_end {b off : Nat} {f : Bool} {o : Option Int} {n : Int} {ok : Bool} {w w1 w2 : World} (ho : tellsOf n ok = o) (h1 : Below w.heap.size w w1) (h2 : Below w1.heap.size (mark ⟨b, off, none⟩ (tellsOf n ok) w1) w2)
    (hc : w.cell? ⟨b, off, none⟩ = some (.bool f)) (hf : w.frozen? ⟨b, off, none⟩ = false) :
    ∃ v g, Ending.returned (.int .i64 ((tellsOf n ok).getD 0)) = .returned (.int .i64 v) ∧ Hid (Step f o v g) ∧ Hid (After ⟨b, off, none⟩ g w w2) := by
  subst ho
  exact ⟨_, _, rfl, ⟨rfl, rfl⟩, after_of (mark_after h1 h2) hc hf⟩

set_option maxHeartbeats 1000000 in
theorem radd_law (b off : Nat) (f : Bool) (x y : Int) (w : World) (hc : w.cell? ⟨b, off, none⟩ = some (.bool f)) (hf : w.frozen? ⟨b, off, none⟩ = false) :
    Calls Tryz.prog 39 #[.pointer (some ⟨b, off, none⟩), .int .i64 x, .int .i64 y] w fun e W' => ∃ v g, e = .returned (.int .i64 v) ∧ Hid (Step f (add x y) v g) ∧ Hid (After ⟨b, off, none⟩ g w W') := by
  have hb := new_after w (.cells #[.int .i64 x, .int .i64 y] 3)
  have hc' := cell_after hb hc
  have hf' := frozen_after hb hc hf
  have C1 := rgreat2 x y w
  cases hg : (great x || great y)
  · have hadd : add x y = Fx.told (x + y) := by simp [add, hg]
    rw [hg] at C1
    have hx : -4611686018427387903 ≤ x ∧ x ≤ 4611686018427387903 := (not_great x).1 (by simp at hg; exact hg.1)
    have hy : -4611686018427387903 ≤ y ∧ y ≤ 4611686018427387903 := (not_great y).1 (by simp at hg; exact hg.2)
    have C2 : Hid _ := rtells_any b off f (x + y) true _ hc' hf'
    have K1 : Hid _ := C1
    have HB : Hid _ := hb
    have HC : Hid _ := hc
    have HF : Hid _ := hf
    have HA : Hid _ := hadd
    clear C1 hb hc hf hc' hf' hg hadd
    go_enter Tryz.func39, Tryz.ntmps39
    go_wp2_with (fail)
    refine Calls.mono K1.out ?_
    rintro e w1 ⟨rfl, rfl⟩
    go_wp2_with (fail)
    refine Calls.mono C2.out ?_
    rintro e w2 ⟨rfl, hb2⟩
    go_wp2_with (fail)
    go_ret
    exact told_end (HA.out.symm) HB.out hb2 HC.out HF.out
  · have hadd : add x y = none := by simp only [add, hg, if_true]
    rw [hg] at C1
    have C2 : Hid _ := rtells_any b off f 0 false _ hc' hf'
    have K1 : Hid _ := C1
    have HB : Hid _ := hb
    have HC : Hid _ := hc
    have HF : Hid _ := hf
    have HA : Hid _ := hadd
    clear C1 hb hc hf hc' hf' hg hadd
    go_enter Tryz.func39, Tryz.ntmps39
    go_wp2_with (fail)
    refine Calls.mono K1.out ?_
    rintro e w1 ⟨rfl, rfl⟩
    go_wp2_with (fail)
    refine Calls.mono C2.out ?_
    rintro e w2 ⟨rfl, hb2⟩
    go_wp2_with (fail)
    go_ret
    exact told_end (HA.out.symm) HB.out hb2 HC.out HF.out

set_option maxHeartbeats 1000000 in
theorem rsub_law (b off : Nat) (f : Bool) (x y : Int) (w : World) (hc : w.cell? ⟨b, off, none⟩ = some (.bool f)) (hf : w.frozen? ⟨b, off, none⟩ = false) :
    Calls Tryz.prog 41 #[.pointer (some ⟨b, off, none⟩), .int .i64 x, .int .i64 y] w fun e W' => ∃ v g, e = .returned (.int .i64 v) ∧ Hid (Step f (sub x y) v g) ∧ Hid (After ⟨b, off, none⟩ g w W') := by
  have hb := new_after w (.cells #[.int .i64 x, .int .i64 y] 3)
  have hc' := cell_after hb hc
  have hf' := frozen_after hb hc hf
  have C1 := rgreat2 x y w
  cases hg : (great x || great y)
  · have hadd : sub x y = Fx.told (x - y) := by simp [sub, hg]
    rw [hg] at C1
    have hx : -4611686018427387903 ≤ x ∧ x ≤ 4611686018427387903 := (not_great x).1 (by simp at hg; exact hg.1)
    have hy : -4611686018427387903 ≤ y ∧ y ≤ 4611686018427387903 := (not_great y).1 (by simp at hg; exact hg.2)
    have C2 : Hid _ := rtells_any b off f (x - y) true _ hc' hf'
    have K1 : Hid _ := C1
    have HB : Hid _ := hb
    have HC : Hid _ := hc
    have HF : Hid _ := hf
    have HA : Hid _ := hadd
    clear C1 hb hc hf hc' hf' hg hadd
    go_enter Tryz.func41, Tryz.ntmps41
    go_wp2_with (fail)
    refine Calls.mono K1.out ?_
    rintro e w1 ⟨rfl, rfl⟩
    go_wp2_with (fail)
    refine Calls.mono C2.out ?_
    rintro e w2 ⟨rfl, hb2⟩
    go_wp2_with (fail)
    go_ret
    exact told_end (HA.out.symm) HB.out hb2 HC.out HF.out
  · have hadd : sub x y = none := by simp only [sub, hg, if_true]
    rw [hg] at C1
    have C2 : Hid _ := rtells_any b off f 0 false _ hc' hf'
    have K1 : Hid _ := C1
    have HB : Hid _ := hb
    have HC : Hid _ := hc
    have HF : Hid _ := hf
    have HA : Hid _ := hadd
    clear C1 hb hc hf hc' hf' hg hadd
    go_enter Tryz.func41, Tryz.ntmps41
    go_wp2_with (fail)
    refine Calls.mono K1.out ?_
    rintro e w1 ⟨rfl, rfl⟩
    go_wp2_with (fail)
    refine Calls.mono C2.out ?_
    rintro e w2 ⟨rfl, hb2⟩
    go_wp2_with (fail)
    go_ret
    exact told_end (HA.out.symm) HB.out hb2 HC.out HF.out

theorem fits_told {X : Int} {ok : Bool} {n : Int} (h : ok = !great X ∧ n = if ok then X else 0) : tellsOf n ok = Fx.told X := by
  obtain ⟨h1, h2⟩ := h
  unfold tellsOf Fx.told
  cases hg : great X
  · have hok : ok = true := by rw [h1, hg]; rfl
    rw [hok] at h2 ⊢
    simp only [if_true] at h2
    subst h2
    simp [hg]
  · have hok : ok = false := by rw [h1, hg]; rfl
    rw [hok]
    simp

set_option maxHeartbeats 1000000 in
theorem rratio_law (b off : Nat) (f : Bool) (x y z : Int) (w : World) (hc : w.cell? ⟨b, off, none⟩ = some (.bool f)) (hf : w.frozen? ⟨b, off, none⟩ = false) :
    Calls Tryz.prog 40 #[.pointer (some ⟨b, off, none⟩), .int .i64 x, .int .i64 y, .int .i64 z] w fun e W' => ∃ v g, e = .returned (.int .i64 v) ∧ Hid (Step f (ratio x y z) v g) ∧ Hid (After ⟨b, off, none⟩ g w W') := by
  have hb := new_after w (.cells #[.int .i64 x, .int .i64 y, .int .i64 z] 3)
  have C1 := rgreat3 x y z w
  have HB : Hid _ := hb
  have HC : Hid _ := hc
  have HF : Hid _ := hf
  have HN : Hid (∀ W, Below w.heap.size w W → Calls Tryz.prog 90 #[.pointer (some ⟨b, off, none⟩), .int .i64 0, .bool false] W fun e w' => e = .returned (.int .i64 ((tellsOf 0 false).getD 0)) ∧ Below W.heap.size (mark ⟨b, off, none⟩ (tellsOf 0 false) W) w') := fun W h => rtells_any b off f 0 false W (cell_after h hc) (frozen_after h hc hf)
  cases hg : (great x || (great y || great z))
  · have hx : -4611686018427387903 ≤ x ∧ x ≤ 4611686018427387903 := (not_great x).1 (by simp at hg; exact hg.1)
    have hy : -4611686018427387903 ≤ y ∧ y ≤ 4611686018427387903 := (not_great y).1 (by simp at hg; exact hg.2.1)
    have hz : -4611686018427387903 ≤ z ∧ z ≤ 4611686018427387903 := (not_great z).1 (by simp at hg; exact hg.2.2)
    rw [hg] at C1
    have K1 : Hid _ := C1
    by_cases z0 : z = 0
    · subst z0
      have HA : Hid _ := (by simp [ratio] : ratio x y 0 = none)
      clear C1 hb hc hf hg
      go_enter Tryz.func40, Tryz.ntmps40
      go_wp2_with (fail)
      refine Calls.mono K1.out ?_
      rintro e w1 ⟨rfl, rfl⟩
      go_wp2_with (fail)
      refine Calls.mono (HN.out _ HB.out) ?_
      rintro e w2 ⟨rfl, hb2⟩
      go_wp2_with (fail)
      go_ret
      exact told_end (HA.out.symm) HB.out hb2 HC.out HF.out
    · have HA : Hid _ := (by simp only [ratio, z0, hg]; rfl : ratio x y z = Fx.told (fl (x * y) z))
      clear C1 hb hc hf hg HN
      go_enter Tryz.func40, Tryz.ntmps40
      go_wp2_with (fail)
      refine Calls.mono K1.out ?_
      rintro e w1 ⟨rfl, rfl⟩
      go_wp2_with (fail)
      refine (of_any x _ (by omega) (by omega)).mono ?_
      rintro e w1 ⟨u1, d1, rfl, S1, B1⟩
      go_wp2_with (fail)
      refine (of_any y _ (by omega) (by omega)).mono ?_
      rintro e w2 ⟨u2, d2, rfl, S2, B2⟩
      go_wp2_with (fail)
      refine (times_any u1 u2 d1 d2 _ S1.out.1 S2.out.1 (by rw [S1.out.2, S2.out.2]; exact small_sq (by omega) (by omega))).mono ?_
      rintro e w3 ⟨u3, d3, rfl, S3, B3⟩
      go_wp2_with (fail)
      refine (down_any u3 d3 z _ S3.out.1 z0 hz.1 hz.2).mono ?_
      rintro e w4 ⟨n, ok, rfl, S4, B4⟩
      have B5 : Hid (Below w.heap.size w w4) := below_step (below_step (below_step (below_step HB.out B1.out) B2.out) B3.out) B4.out
      have S5 : Hid _ := fits_told S4.out
      rw [S3.out.2, S1.out.2, S2.out.2] at S5
      clear S1 S2 S3 S4 B1 B2 B3 B4 K1
      go_wp2_with (fail)
      refine (rtells_any b off f n ok _ (cell_after B5.out HC.out) (frozen_after B5.out HC.out HF.out)).mono ?_
      rintro e w6 ⟨rfl, hb2⟩
      go_wp2_with (fail)
      go_ret
      exact told_end (S5.out.trans HA.out.symm) B5.out hb2 HC.out HF.out
  · have HA : Hid _ := (by simp only [ratio, hg]; simp : ratio x y z = none)
    rw [hg] at C1
    have K1 : Hid _ := C1
    clear C1 hb hc hf hg
    go_enter Tryz.func40, Tryz.ntmps40
    go_wp2_with (fail)
    refine Calls.mono K1.out ?_
    rintro e w1 ⟨rfl, rfl⟩
    go_wp2_with (fail)
    refine Calls.mono (HN.out _ HB.out) ?_
    rintro e w2 ⟨rfl, hb2⟩
    go_wp2_with (fail)
    go_ret
    exact told_end (HA.out.symm) HB.out hb2 HC.out HF.out

end Go.Proofs.YtbhdfjoagajipaaGreat
namespace Go.Proofs.YtbhdfjoagajipaaGreat
open Go.RowKit Go.Shelf Fx
set_option linter.unusedVariables false

def Q4.v (q : Q4) : Value := .agg #[.int .i64 q.w, .int .i64 q.x, .int .i64 q.y, .int .i64 q.z]
end Go.Proofs.YtbhdfjoagajipaaGreat
namespace Go.Proofs.YtbhdfjoagajipaaGreat
open Go.RowKit Go.Shelf
set_option linter.unusedVariables false

theorem cw_grown {W W' : World} {b : Nat} {row : Option Nat} {v : Value} {vs : List Value} (h : CW W b (v :: vs)) (hg : W.grownBy W' row) (hne : row ≠ some b) : CW W' b (v :: vs) := fun i x e => by
  have hbl : W'.heap[b]? = W.heap[b]? := hg.block b (CW.lt h) (fun e' => hne e'.symm)
  exact ⟨(World.cell?_of_block (w := W) (a := ⟨b, i, none⟩) hbl).trans (h i x e).1, (World.frozen?_of_block (w := W) (a := ⟨b, i, none⟩) hbl).trans (h i x e).2⟩
theorem cw_set0 {W : World} {b : Nat} {v : Value} {vs : List Value} (h : CW W b (v :: vs)) (u : Value) : CW (W.setCell ⟨b, 0, none⟩ u) b (u :: vs) := (show Cells W b (v :: vs) from h).set 0 u (by simp)
theorem take_next {L : List Pt} {f : Pt → Pt} {n : Nat} (h : n < L.length) : ((L.take n).map f) ++ [f (pt L n)] = (L.take (n + 1)).map f := by
  rw [List.take_succ_eq_append_getElem h, List.map_append]
  congr 1
  unfold pt
  rw [List.getElem?_eq_getElem h]
  rfl
end Go.Proofs.YtbhdfjoagajipaaGreat
