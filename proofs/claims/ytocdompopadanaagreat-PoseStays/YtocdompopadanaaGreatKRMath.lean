/- Plain arithmetic of numbers by digits of 24 bits, no program in sight: sums, differences, products and what they compare to. -/
import Derived.Test.YtocdompopadanaaGreatKBits
import Derived.Test.YtocdompopadanaaGreatKWork
import Derived.Deep.RegionWith
namespace Go.Proofs.YtocdompopadanaaGreat.Ref

/-- The number of the first n digits. -/
def val (d : Nat → Int) : Nat → Int
  | 0 => 0
  | n + 1 => val d n + d n * 16777216 ^ n

/-- Digits. -/
def Digs (d : Nat → Int) : Prop := ∀ j, j < 8 → 0 ≤ d j ∧ d j < 16777216

def put (d : Nat → Int) (k : Nat) (v : Int) : Nat → Int := fun j => if j = k then v else d j
theorem put_same (d : Nat → Int) (k : Nat) (v : Int) : put d k v k = v := by simp [put]
theorem put_other (d : Nat → Int) {k j : Nat} (v : Int) (h : j ≠ k) : put d k v j = d j := by simp [put, h]

theorem pos (n : Nat) : (0 : Int) < 16777216 ^ n := Int.pow_pos (by omega)

theorem val_ext {d e : Nat → Int} : ∀ n, (∀ j, j < n → d j = e j) → val d n = val e n
  | 0, _ => rfl
  | n + 1, h => by
    simp only [val]
    rw [val_ext n (fun j hj => h j (by omega)), h n (by omega)]

theorem val_put_ge (d : Nat → Int) (k : Nat) (v : Int) (n : Nat) (h : n ≤ k) : val (put d k v) n = val d n :=
  val_ext n fun j hj => put_other d v (by omega)

theorem val_put (d : Nat → Int) (k : Nat) (v : Int) : ∀ n, k < n → val (put d k v) n = val d n + (v - d k) * 16777216 ^ k
  | 0, h => by omega
  | n + 1, h => by
    simp only [val]
    by_cases e : k = n
    · subst e
      rw [val_put_ge d k v k (Nat.le_refl _), put_same, Int.sub_mul]; omega
    · rw [val_put d k v n (by omega), put_other d v (by omega : n ≠ k)]; omega

theorem val_nonneg {d : Nat → Int} : ∀ n, (∀ j, j < n → 0 ≤ d j) → 0 ≤ val d n
  | 0, _ => by simp [val]
  | n + 1, h => by
    have a := val_nonneg n (fun j hj => h j (by omega))
    have b := Int.mul_nonneg (h n (by omega)) (Int.le_of_lt (pos n))
    simp only [val]; omega

theorem val_lt {d : Nat → Int} : ∀ n, (∀ j, j < n → 0 ≤ d j ∧ d j < 16777216) → val d n < 16777216 ^ n
  | 0, _ => by simp [val]
  | n + 1, h => by
    have a := val_lt n (fun j hj => h j (by omega))
    have b := Int.mul_le_mul_of_nonneg_right (by have := h n (by omega); omega : d n ≤ 16777215) (Int.le_of_lt (pos n))
    simp only [val, Int.pow_succ]; omega

theorem Digs.nonneg {d : Nat → Int} (h : Digs d) : 0 ≤ val d 8 := val_nonneg 8 fun j hj => (h j hj).1
theorem Digs.lt {d : Nat → Int} (h : Digs d) : val d 8 < 6277101735386680763835789423207666416102355444464034512896 := by
  have := val_lt 8 h; simpa using this
theorem Digs.put {d : Nat → Int} (h : Digs d) (k : Nat) {v : Int} (hv : 0 ≤ v ∧ v < 16777216) : Digs (put d k v) := by
  intro j hj
  by_cases e : j = k
  · subst e; rw [put_same]; exact hv
  · rw [put_other d v e]; exact h j hj

/-- Who has the greater digit, the higher ones alike, is greater. -/
theorem val_less {a b : Nat → Int} (i : Nat) (ha : ∀ j, j < i → 0 ≤ a j ∧ a j < 16777216) (hb : ∀ j, j < i → 0 ≤ b j) (h : a i < b i) : ∀ n, i < n → (∀ j, i < j → j < n → a j = b j) → val a n < val b n
  | 0, hn, _ => by omega
  | n + 1, hn, he => by
    simp only [val]
    by_cases e : i = n
    · subst e
      have h1 := val_lt i ha
      have h2 := val_nonneg i hb
      have h3 := Int.mul_le_mul_of_nonneg_right (by omega : a i + 1 ≤ b i) (Int.le_of_lt (pos i))
      rw [Int.add_mul] at h3; omega
    · have := val_less i ha hb h n (by omega) (fun j h1 h2 => he j h1 (by omega))
      rw [he n (by omega) (by omega)]; omega

/-- One digit of a sum. -/
theorem add_step {V A B c x y P : Int} (h : V + c * P = A + B) : V + (x + y + c) % 16777216 * P + (x + y + c) / 16777216 * (P * 16777216) = A + x * P + (B + y * P) := by
  have e := Int.emod_add_mul_ediv (x + y + c) 16777216
  obtain ⟨r, hr⟩ : ∃ r, r = (x + y + c) % 16777216 := ⟨_, rfl⟩
  obtain ⟨q, hq⟩ : ∃ q, q = (x + y + c) / 16777216 := ⟨_, rfl⟩
  rw [← hr, ← hq] at e ⊢
  have : (r + 16777216 * q) * P = (x + y + c) * P := by rw [e]
  grind

/-- One digit of a product. -/
theorem mul_step {V c o x y P R : Int} (h : V + c * P = R) : V + ((o + x * y + c) % 16777216 - o) * P + (o + x * y + c) / 16777216 * (P * 16777216) = R + x * y * P := by
  have e := Int.emod_add_mul_ediv (o + x * y + c) 16777216
  obtain ⟨r, hr⟩ : ∃ r, r = (o + x * y + c) % 16777216 := ⟨_, rfl⟩
  obtain ⟨q, hq⟩ : ∃ q, q = (o + x * y + c) / 16777216 := ⟨_, rfl⟩
  rw [← hr, ← hq] at e ⊢
  have : (r + 16777216 * q) * P = (o + x * y + c) * P := by rw [e]
  grind

/-- The digits of an int's size. -/
def dig (u : Int) (j : Nat) : Int := u / 16777216 ^ j % 16777216

theorem dig_step (u : Int) (k : Nat) : u / 16777216 ^ k / 16777216 = u / 16777216 ^ (k + 1) := by
  rw [Int.pow_succ, Int.ediv_ediv_of_nonneg (Int.le_of_lt (pos k))]

theorem val_dig (u : Int) : ∀ n, val (dig u) n = u % 16777216 ^ n
  | 0 => by simp [val, Int.emod_one]
  | n + 1 => by
    simp only [val, val_dig u n, dig]
    rw [Int.pow_succ]
    have h1 := Int.emod_add_mul_ediv u (16777216 ^ n)
    have h2 := Int.emod_add_mul_ediv (u / 16777216 ^ n) 16777216
    have hp := pos n
    have b1 := Int.emod_nonneg u (by omega : (16777216 : Int) ^ n ≠ 0)
    have b2 := Int.emod_lt_of_pos u hp
    have b3 := Int.emod_nonneg (u / 16777216 ^ n) (by omega : (16777216 : Int) ≠ 0)
    have b4 := Int.emod_lt_of_pos (u / 16777216 ^ n) (by omega : (0 : Int) < 16777216)
    generalize (16777216 : Int) ^ n = P at *
    generalize u % P = r at *
    generalize u / P = q at *
    generalize q % 16777216 = s at *
    generalize q / 16777216 = t at *
    have hs : s * P ≤ 16777215 * P := Int.mul_le_mul_of_nonneg_right (by omega) (by omega)
    have hs0 : 0 ≤ s * P := Int.mul_nonneg b3 (by omega)
    have e : u = (P * 16777216) * t + (r + s * P) := by rw [← h1, ← h2]; grind
    rw [e, Int.mul_add_emod_self_left, Int.emod_eq_of_lt (by omega) (by omega)]

/-- A number by its sign and its digits. -/
def sv (s : Bool) (d : Nat → Int) : Int := if s then -val d 8 else val d 8
end Go.Proofs.YtocdompopadanaaGreat.Ref
/- The reference's numbers by digits (tumblerref01): one made of an int, how two compare, sums, products. -/
namespace Go.Proofs.YtocdompopadanaaGreat
open Go.RowKit Ref

/-- A number as the reference hands it on. -/
@[reducible] def wv (s : Bool) (d : Nat → Int) : Value := .agg #[.bool s, .int .i64 (d 0), .int .i64 (d 1), .int .i64 (d 2), .int .i64 (d 3), .int .i64 (d 4), .int .i64 (d 5), .int .i64 (d 6), .int .i64 (d 7)]

/-- Such a number lies in block b, and may be written. -/
structure RLies (w : World) (b : Nat) (s : Bool) (d : Nat → Int) : Prop where
  neg : w.cell? ⟨b, 0, none⟩ = some (.bool s)
  dig : ∀ k, k < 8 → w.cell? ⟨b, 1 + k, none⟩ = some (.int .i64 (d k))
  free : ∀ k, k < 9 → w.frozen? ⟨b, k, none⟩ = false

theorem RLies.lt {w : World} {b : Nat} {s : Bool} {d : Nat → Int} (h : RLies w b s d) : b < w.heap.size := World.block_lt_of_cell? _ _ h.neg

theorem lies_new (w : World) (s : Bool) (d : Nat → Int) (t : TypeId) :
    RLies (w.alloc (.cells #[.bool s, .int .i64 (d 0), .int .i64 (d 1), .int .i64 (d 2), .int .i64 (d 3), .int .i64 (d 4), .int .i64 (d 5), .int .i64 (d 6), .int .i64 (d 7)] t)) w.heap.size s d := by
  refine ⟨by simp, fun k hk => ?_, fun k hk => by simp⟩
  match k, hk with
  | 0, _ => simp
  | 1, _ => simp
  | 2, _ => simp
  | 3, _ => simp
  | 4, _ => simp
  | 5, _ => simp
  | 6, _ => simp
  | 7, _ => simp

theorem RLies.below {w w' : World} {b B : Nat} {s : Bool} {d : Nat → Int} (h : RLies w b s d) (hb : Below B w w') (hB : b < B) : RLies w' b s d :=
  ⟨(hb.cell hB).trans h.neg, fun k hk => (hb.cell hB).trans (h.dig k hk), fun k hk => (hb.frozen hB).trans (h.free k hk)⟩

theorem RLies.alloc {w : World} {b : Nat} {s : Bool} {d : Nat → Int} (h : RLies w b s d) (o : Obj) : RLies (w.alloc o) b s d :=
  h.below (new_after w o) h.lt

theorem RLies.other {w : World} {b : Nat} {s : Bool} {d : Nat → Int} (h : RLies w b s d) {a : Addr} (hne : b ≠ a.block) (v : Value) : RLies (w.setCell a v) b s d :=
  ⟨(World.cell?_of_block (w := w) (Below.heap_setCell _ _ _ _ hne)).trans h.neg, fun k hk => (World.cell?_of_block (w := w) (Below.heap_setCell _ _ _ _ hne)).trans (h.dig k hk),
    fun k hk => (World.frozen?_of_block (w := w) (Below.heap_setCell _ _ _ _ hne)).trans (h.free k hk)⟩

theorem RLies.put {w : World} {b : Nat} {s : Bool} {d : Nat → Int} (h : RLies w b s d) {k : Nat} (hk : k < 8) (v : Int) : RLies (w.setCell ⟨b, 1 + k, none⟩ (.int .i64 v)) b s (put d k v) := by
  have hd := h.dig k hk
  refine ⟨?_, fun j hj => ?_, fun j hj => ?_⟩
  · rw [← h.neg]; simp [go_sem]
  · have hj' := h.dig j hj
    by_cases e : j = k
    · subst e; simp [go_sem, hd, put_same]
    · rw [put_other d v e, ← hj']; simp [go_sem]
  · rw [← h.free j hj]; simp [go_sem]

theorem RLies.drew {w : World} {b : Nat} {s : Bool} {d : Nat → Int} (h : RLies w b s d) : RLies w.drew b s d := ⟨h.neg, h.dig, h.free⟩


/-- The nine cells, one by one, as a walk wants them. -/
theorem RLies.cells {w : World} {b : Nat} {s : Bool} {d : Nat → Int} (h : RLies w b s d) : w.cell? ⟨b, 0, none⟩ = some (.bool s) ∧ w.cell? ⟨b, 1, none⟩ = some (.int .i64 (d 0)) ∧ w.cell? ⟨b, 2, none⟩ = some (.int .i64 (d 1)) ∧ w.cell? ⟨b, 3, none⟩ = some (.int .i64 (d 2)) ∧ w.cell? ⟨b, 4, none⟩ = some (.int .i64 (d 3)) ∧ w.cell? ⟨b, 5, none⟩ = some (.int .i64 (d 4)) ∧ w.cell? ⟨b, 6, none⟩ = some (.int .i64 (d 5)) ∧ w.cell? ⟨b, 7, none⟩ = some (.int .i64 (d 6)) ∧ w.cell? ⟨b, 8, none⟩ = some (.int .i64 (d 7)) :=
  ⟨h.neg, h.dig 0 (by omega), h.dig 1 (by omega), h.dig 2 (by omega), h.dig 3 (by omega), h.dig 4 (by omega), h.dig 5 (by omega), h.dig 6 (by omega), h.dig 7 (by omega)⟩
theorem RLies.frees {w : World} {b : Nat} {s : Bool} {d : Nat → Int} (h : RLies w b s d) : w.frozen? ⟨b, 0, none⟩ = false ∧ w.frozen? ⟨b, 1, none⟩ = false ∧ w.frozen? ⟨b, 2, none⟩ = false ∧ w.frozen? ⟨b, 3, none⟩ = false ∧ w.frozen? ⟨b, 4, none⟩ = false ∧ w.frozen? ⟨b, 5, none⟩ = false ∧ w.frozen? ⟨b, 6, none⟩ = false ∧ w.frozen? ⟨b, 7, none⟩ = false ∧ w.frozen? ⟨b, 8, none⟩ = false :=
  ⟨h.free 0 (by omega), h.free 1 (by omega), h.free 2 (by omega), h.free 3 (by omega), h.free 4 (by omega), h.free 5 (by omega), h.free 6 (by omega), h.free 7 (by omega), h.free 8 (by omega)⟩

theorem below_nine {w W : World} {b : Nat} {v0 v1 v2 v3 v4 v5 v6 v7 v8 : Value} (h : Below w.heap.size w W) (hb : w.heap.size ≤ b) :
    Below w.heap.size w (((((((((W.setCell ⟨b, 0, none⟩ v0).setCell ⟨b, 1, none⟩ v1).setCell ⟨b, 2, none⟩ v2).setCell ⟨b, 3, none⟩ v3).setCell ⟨b, 4, none⟩ v4).setCell ⟨b, 5, none⟩ v5).setCell ⟨b, 6, none⟩ v6).setCell ⟨b, 7, none⟩ v7).setCell ⟨b, 8, none⟩ v8) :=
  ((((((((h.setCell hb _).setCell hb _).setCell hb _).setCell hb _).setCell hb _).setCell hb _).setCell hb _).setCell hb _).setCell hb _

theorem of_end {n U : Int} {s : Bool} (h1 : -9223372036854775808 ≤ n) (h2 : n < 9223372036854775808) (hs : s = decide (n < 0)) (hU : U = n.natAbs) (d : Nat → Int) (hd : ∀ j, j < 8 → d j = dig U j) : Digs d ∧ sv s d = n := by
  refine ⟨fun j hj => ?_, ?_⟩
  · rw [hd j hj]; exact ⟨Int.emod_nonneg _ (by omega), Int.emod_lt_of_pos _ (by omega)⟩
  · have h := val_ext (e := dig U) 8 hd
    rw [val_dig] at h
    unfold sv
    rw [h, hs, hU]
    by_cases g : n < 0
    · simp [g]; omega
    · simp [g]; omega

set_option maxHeartbeats 1000000 in
theorem of_any (n : Int) (w : World) (h1 : -9223372036854775808 ≤ n) (h2 : n < 9223372036854775808) :
    Calls Tryz.prog 132 #[.int .i64 n] w fun e w' => ∃ s d, e = .returned (wv s d) ∧ Hid (Digs d ∧ sv s d = n) ∧ Hid (Below w.heap.size w w') := by
  obtain ⟨s, hs⟩ : ∃ s, s = decide (n < 0) := ⟨_, rfl⟩
  obtain ⟨U, hU⟩ : ∃ U : Int, U = n.natAbs := ⟨_, rfl⟩
  have HE : Hid (∀ d, (∀ j, j < 8 → d j = dig U j) → Digs d ∧ sv s d = n) := of_end h1 h2 hs hU
  by_cases hn : n < 0
  · obtain rfl : s = true := by rw [hs]; simp [hn]
    clear hs
    obtain rfl : n = -U := by omega
    clear hU
    go_enter Tryz.func132, Tryz.ntmps132
    go_wp2
    go_loopw [4, 5] (fun u i wr => ∃ (k : Nat) (d : Nat → Int), k ≤ 8 ∧ i = .int .i64 k ∧ u = .int .u64 (U / 16777216 ^ k) ∧ Hid (∀ j, j < k → d j = dig U j) ∧ Hid (RLies wr (w.heap.size + 1) true d) ∧ Hid (RLies wr w.heap.size false (fun _ => 0)) ∧ Hid (Below w.heap.size w wr)) (fun _ i _ => 8 - (intOf i).toNat)
    case atStart => exact ⟨0, fun _ => 0, Nat.zero_le _, rfl, by simp [IntKind.wrap, IntKind.bits, IntKind.signed]; omega, fun j hj => by omega, by show RLies _ _ _ _; have := lies_new (w.alloc (.cells #[.bool false, .int .i64 0, .int .i64 0, .int .i64 0, .int .i64 0, .int .i64 0, .int .i64 0, .int .i64 0, .int .i64 0] 132)) true (fun _ => 0) 132; simpa only [World.size_alloc] using this, RLies.alloc (lies_new w false (fun _ => 0) 132) _, (new_after w _).alloc (by simp) _⟩
    case round =>
      obtain ⟨k, d, hk, rfl, rfl, HD, HL, HR, HB⟩ := hrel
      by_cases hlt : k < 8
      · have hcell := HL.out.dig k hlt
        have hfree := HL.out.free (1 + k) (by omega)
        have i0 : (0 : Int) ≤ (k : Int) := by omega
        have i1 : (k : Int) < 8 := by omega
        have HS : Hid _ := dig_step U k
        have HP : Hid (put d k (U / 16777216 ^ k % 16777216) k = dig U k) := put_same _ _ _
        have u0 : 0 ≤ U / 16777216 ^ k := Int.ediv_nonneg (by omega) (Int.le_of_lt (pos k))
        have u1 : U / 16777216 ^ k < 18446744073709551616 := Int.lt_of_le_of_lt (Int.ediv_le_self _ (by omega)) (by omega)
        obtain ⟨x, hx⟩ : ∃ x, x = U / 16777216 ^ k := ⟨_, rfl⟩
        rw [← hx] at HS HP u0 u1
        rw [← hx]
        have HX : Hid _ := hx
        clear hx
        go_wp2
        go_roundw
        case rel =>
          refine ⟨k + 1, put d k (x % 16777216), by omega, by go_num, by rw [← HS.out], fun j hj => ?_, ?_, ?_, ?_⟩
          · by_cases e : j = k
            · subst e; exact HP.out
            · rw [put_other _ _ e]; exact HD.out j (by omega)
          · exact HL.out.put hlt _
          · exact HR.out.other (by simp) _
          · exact HB.out.setCell (by simp) _
        case measure => simp [intOf]; omega
      · have hk8 : 8 ≤ (k : Int) := by omega
        obtain ⟨c0, c1, c2, c3, c4, c5, c6, c7, c8⟩ := HL.out.cells
        obtain ⟨r0, r1, r2, r3, r4, r5, r6, r7, r8⟩ := HR.out.cells
        obtain ⟨f0, f1, f2, f3, f4, f5, f6, f7, f8⟩ := HR.out.frees
        go_wp2
        try simp only [Exit.inBlock, Exit.then]
        refine bodyPost_ret (by simp [results, Tryz.results132, go_sem, r0, r1, r2, r3, r4, r5, r6, r7, r8]; try rfl) rfl ?_
        refine ⟨_, d, rfl, HE.out d (fun j hj => HD.out j (by omega)), ?_⟩
        exact below_nine HB.out (Nat.le_refl _)
  · obtain rfl : s = false := by rw [hs]; simp [hn]
    clear hs
    obtain rfl : U = n := by omega
    clear hU
    go_enter Tryz.func132, Tryz.ntmps132
    go_wp2
    go_loopw [4, 5] (fun u i wr => ∃ (k : Nat) (d : Nat → Int), k ≤ 8 ∧ i = .int .i64 k ∧ u = .int .u64 (U / 16777216 ^ k) ∧ Hid (∀ j, j < k → d j = dig U j) ∧ Hid (RLies wr (w.heap.size + 1) false d) ∧ Hid (RLies wr w.heap.size false (fun _ => 0)) ∧ Hid (Below w.heap.size w wr)) (fun _ i _ => 8 - (intOf i).toNat)
    case atStart => exact ⟨0, fun _ => 0, Nat.zero_le _, rfl, by simp, fun j hj => by omega, by show RLies _ _ _ _; have := lies_new (w.alloc (.cells #[.bool false, .int .i64 0, .int .i64 0, .int .i64 0, .int .i64 0, .int .i64 0, .int .i64 0, .int .i64 0, .int .i64 0] 132)) false (fun _ => 0) 132; simpa only [World.size_alloc] using this, RLies.alloc (lies_new w false (fun _ => 0) 132) _, (new_after w _).alloc (by simp) _⟩
    case round =>
      obtain ⟨k, d, hk, rfl, rfl, HD, HL, HR, HB⟩ := hrel
      by_cases hlt : k < 8
      · have hcell := HL.out.dig k hlt
        have hfree := HL.out.free (1 + k) (by omega)
        have i0 : (0 : Int) ≤ (k : Int) := by omega
        have i1 : (k : Int) < 8 := by omega
        have HS : Hid _ := dig_step U k
        have HP : Hid (put d k (U / 16777216 ^ k % 16777216) k = dig U k) := put_same _ _ _
        have u0 : 0 ≤ U / 16777216 ^ k := Int.ediv_nonneg (by omega) (Int.le_of_lt (pos k))
        have u1 : U / 16777216 ^ k < 18446744073709551616 := Int.lt_of_le_of_lt (Int.ediv_le_self _ (by omega)) (by omega)
        obtain ⟨x, hx⟩ : ∃ x, x = U / 16777216 ^ k := ⟨_, rfl⟩
        rw [← hx] at HS HP u0 u1
        rw [← hx]
        have HX : Hid _ := hx
        clear hx
        go_wp2
        go_roundw
        case rel =>
          refine ⟨k + 1, put d k (x % 16777216), by omega, by go_num, by rw [← HS.out], fun j hj => ?_, ?_, ?_, ?_⟩
          · by_cases e : j = k
            · subst e; exact HP.out
            · rw [put_other _ _ e]; exact HD.out j (by omega)
          · exact HL.out.put hlt _
          · exact HR.out.other (by simp) _
          · exact HB.out.setCell (by simp) _
        case measure => simp [intOf]; omega
      · have hk8 : 8 ≤ (k : Int) := by omega
        obtain ⟨c0, c1, c2, c3, c4, c5, c6, c7, c8⟩ := HL.out.cells
        obtain ⟨r0, r1, r2, r3, r4, r5, r6, r7, r8⟩ := HR.out.cells
        obtain ⟨f0, f1, f2, f3, f4, f5, f6, f7, f8⟩ := HR.out.frees
        go_wp2
        try simp only [Exit.inBlock, Exit.then]
        refine bodyPost_ret (by simp [results, Tryz.results132, go_sem, r0, r1, r2, r3, r4, r5, r6, r7, r8]; try rfl) rfl ?_
        refine ⟨_, d, rfl, HE.out d (fun j hj => HD.out j (by omega)), ?_⟩
        exact below_nine HB.out (Nat.le_refl _)

end Go.Proofs.YtocdompopadanaaGreat
/- The reference's numbers by digits (tumblerref01): how the sizes of two compare; a number's sign. -/
namespace Go.Proofs.YtocdompopadanaaGreat
open Go.RowKit Ref

theorem size_same {a b : Nat → Int} (h : ∀ j, 0 ≤ j → j < 8 → a j = b j) : val a 8 = val b 8 := val_ext 8 fun j hj => h j (Nat.zero_le _) hj
theorem size_less {a b : Nat → Int} {m : Nat} (ha : Digs a) (hb : Digs b) (hm : m < 8) (h : ∀ j, m + 1 ≤ j → j < 8 → a j = b j) (hl : a m < b m) : val a 8 < val b 8 :=
  val_less m (fun j hj => ha j (by omega)) (fun j hj => (hb j (by omega)).1) hl 8 hm (fun j h1 h2 => h j h1 h2)

set_option maxHeartbeats 1000000 in
theorem sizes_any (s t : Bool) (a b : Nat → Int) (w : World) (ha : Digs a) (hb : Digs b) :
    Calls Tryz.prog 138 #[wv s a, wv t b] w fun e w' => ∃ c, e = .returned (.int .i64 c) ∧ Hid ((c = -1 ∧ val a 8 < val b 8) ∨ (c = 0 ∧ val a 8 = val b 8) ∨ (c = 1 ∧ val b 8 < val a 8)) ∧ Hid (Below w.heap.size w w') := by
  have HA : Hid _ := ha
  have HC : Hid _ := hb
  clear ha hb
  go_enter Tryz.func138, Tryz.ntmps138
  go_wp2
  go_loopw [5] (fun i wr => ∃ (k : Nat), k ≤ 8 ∧ i = .int .i64 ((k : Int) - 1) ∧ Hid (∀ j, k ≤ j → j < 8 → a j = b j) ∧ Hid (RLies wr w.heap.size s a) ∧ Hid (RLies wr (w.heap.size + 1) t b) ∧ Hid (Below w.heap.size w wr)) (fun i _ => (intOf i + 1).toNat)
  case atStart => exact ⟨8, Nat.le_refl _, rfl, fun j h1 h2 => by omega, RLies.alloc (lies_new w s a 132) _, by show RLies _ _ _ _; have := lies_new (w.alloc (.cells #[.bool s, .int .i64 (a 0), .int .i64 (a 1), .int .i64 (a 2), .int .i64 (a 3), .int .i64 (a 4), .int .i64 (a 5), .int .i64 (a 6), .int .i64 (a 7)] 132)) t b 132; simpa only [World.size_alloc] using this, (new_after w _).alloc (by simp) _⟩
  case round =>
    obtain ⟨k, hk, rfl, HD, HL, HR, HB⟩ := hrel
    match k, hk, HD with
    | 0, _, HD =>
      go_wp2
      go_ret
      exact ⟨0, rfl, Or.inr (Or.inl ⟨rfl, size_same HD.out⟩), HB.out⟩
    | m + 1, hm, HD =>
      have e : ((m + 1 : Nat) : Int) - 1 = (m : Int) := by omega
      rw [e]
      have i0 : (0 : Int) ≤ (m : Int) := by omega
      have i1 : (m : Int) < 8 := by omega
      have c0 := HL.out.dig m (by omega)
      have c1 := HR.out.dig m (by omega)
      have HX : Hid _ := HD
      clear HD e
      rcases Int.lt_trichotomy (a m) (b m) with g | g | g
      · have HG : Hid _ := size_less HA.out HC.out (by omega) HX.out g
        go_wp2
        go_region
        all_goals go_wp2
        all_goals go_ret
        all_goals exact ⟨-1, rfl, Or.inl ⟨rfl, HG.out⟩, HB.out.drew⟩
      · have HG : Hid _ := g
        rw [← g] at c1
        clear g
        go_wp2
        go_region
        all_goals go_wp2
        all_goals go_region
        all_goals go_wp2
        all_goals go_roundw
        all_goals try (case rel => exact ⟨m, by omega, by go_num, fun j h1 h2 => by by_cases e : j = m; (subst e; exact HG.out); exact HX.out j (by omega) h2, HL.out.drew.drew, HR.out.drew.drew, HB.out.drew.drew⟩)
        all_goals try (case measure => show (((m : Int) - 1) + 1).toNat < ((m : Int) + 1).toNat; omega)
      · have HG : Hid _ := size_less HC.out HA.out (by omega) (fun j h1 h2 => (HX.out j h1 h2).symm) g
        go_wp2
        go_region
        all_goals go_wp2
        all_goals go_region
        all_goals go_wp2
        all_goals go_ret
        all_goals exact ⟨1, rfl, Or.inr (Or.inr ⟨rfl, HG.out⟩), HB.out.drew.drew⟩

theorem sv_zero {s : Bool} {d : Nat → Int} (h : val d 8 = 0) : sv s d = 0 := by unfold sv; cases s <;> simp [h]

set_option maxHeartbeats 1000000 in
theorem sign_any (s : Bool) (a : Nat → Int) (w : World) (ha : Digs a) :
    Calls Tryz.prog 139 #[wv s a] w fun e w' => ∃ c, e = .returned (.int .i64 c) ∧ Hid (-1 ≤ c ∧ c ≤ 1 ∧ (c < 0 ↔ sv s a < 0)) ∧ Hid (Below w.heap.size w w') := by
  have HC : Hid _ := fun w => sizes_any s false a (fun _ => 0) w ha (fun j _ => by simp)
  have hz : val (fun _ => 0) 8 = 0 := by simp [val]
  have HZ : Hid _ := hz
  have HA : Hid _ := ha.nonneg
  clear ha hz
  go_enter Tryz.func139, Tryz.ntmps139
  go_wp2_with (fail)
  refine (HC.out _).mono ?_
  rintro e w' ⟨c, rfl, S, B⟩
  have HB : Hid _ := below_step (w := w) ((new_after w _).alloc (by simp) _) B.out
  rw [HZ.out] at S
  have hcell : w'.cell? ⟨w.heap.size, 0, none⟩ = some (.bool s) := cell_after B.out (by simp)
  clear B HC HZ
  rcases S.out with ⟨rfl, h⟩ | ⟨rfl, h⟩ | ⟨rfl, h⟩
  · exact absurd h (by have := HA.out; omega)
  · have HH : Hid _ := sv_zero (s := s) h
    clear h
    go_wp2
    go_ret
    exact ⟨0, rfl, ⟨by omega, by omega, by have := HH.out; omega⟩, HB.out⟩
  · cases s
    · go_wp2
      go_ret
      exact ⟨1, rfl, ⟨by omega, by omega, by unfold sv; simp; omega⟩, HB.out⟩
    · go_wp2
      go_ret
      exact ⟨-1, rfl, ⟨by omega, by omega, by unfold sv; simp; omega⟩, HB.out⟩
end Go.Proofs.YtocdompopadanaaGreat
