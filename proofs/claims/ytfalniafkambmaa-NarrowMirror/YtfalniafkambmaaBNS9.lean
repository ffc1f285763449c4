/- The reference's numbers by digits (tumblerref01): roots, down, bit by bit; great numbers; what is told. -/
import Derived.Test.YtfalniafkambmaaBNS8
import Derived.Deep.RegionHeld3
import Derived.Test.YtfalniafkambmaaBNS2
namespace Go.Proofs.Ytfalniafkambmaa
open Go.RowKit Ref

/-- Half way down: r is a root's upper places; m places are open. -/
def RI (X r : Int) (m : Nat) : Prop := 0 ≤ r ∧ r * r ≤ X ∧ X < (r + 2 ^ m) * (r + 2 ^ m) ∧ r + 2 ^ m ≤ 4611686018427387904

theorem ri_start {X : Int} (h0 : 0 ≤ X) (h : X < 4611686018427387904 * 4611686018427387904) : RI X 0 62 := ⟨by omega, by omega, by simpa using h, by decide⟩
theorem ri_up {X r : Int} {m : Nat} (h : RI X r (m + 1)) (hc : (r + 2 ^ m) * (r + 2 ^ m) ≤ X) : RI X (r + 2 ^ m) m := by
  obtain ⟨h1, h2, h3, h4⟩ := h
  have hp := bit_pos m
  rw [Int.pow_succ] at h3 h4
  have e : r + 2 ^ m + 2 ^ m = r + 2 ^ m * 2 := by omega
  exact ⟨by omega, hc, by rw [e]; exact h3, by omega⟩
theorem ri_stay {X r : Int} {m : Nat} (h : RI X r (m + 1)) (hc : X < (r + 2 ^ m) * (r + 2 ^ m)) : RI X r m := by
  obtain ⟨h1, h2, h3, h4⟩ := h
  have hp := bit_pos m
  rw [Int.pow_succ] at h4
  exact ⟨h1, h2, hc, by omega⟩
theorem ri_end {X r : Int} (h : RI X r 0) : r = (Fx.isq X.toNat : Int) ∧ Fx.great (Fx.isq X.toNat : Int) = false := by
  obtain ⟨h1, h2, h3, h4⟩ := h
  have e := Fx.isq_of h1 h2 (by simpa using h3)
  refine ⟨e, ?_⟩
  rw [← e, Fx.not_great]
  simp at h4
  omega
theorem ri_none {X : Int} (h : 4611686018427387904 * 4611686018427387904 ≤ X) : Fx.great (Fx.isq X.toNat : Int) = true := by
  have hX : (0 : Int) ≤ X := by omega
  obtain ⟨x, rfl⟩ := Int.eq_ofNat_of_zero_le hX
  simp only [Int.toNat_natCast]
  obtain ⟨_, b⟩ := Fx.isq_is x
  rw [Fx.great_iff]
  right
  generalize Fx.isq x = y at *
  have hc : 4611686018427387904 * 4611686018427387904 < (y + 1) * (y + 1) := by omega
  apply Int.not_le.1
  intro hle
  have hy : y + 1 ≤ 4611686018427387904 := by omega
  have := Nat.mul_le_mul hy hy
  omega

theorem small_sq {a b : Int} (ha : a.natAbs ≤ 9223372036854775808) (hb : b.natAbs ≤ 9223372036854775808) : (a * b).natAbs < 6277101735386680763835789423207666416102355444464034512896 := by
  rw [Int.natAbs_mul]
  exact Nat.lt_of_le_of_lt (Nat.mul_le_mul ha hb) (by decide)

set_option maxHeartbeats 1000000 in
theorem rootw_any (s : Bool) (a : Nat → Int) (w : World) (ha : Digs a) (h0 : 0 ≤ sv s a) :
    Calls Try.prog 85 #[wv s a] w fun e w' => ∃ n ok, e = .returned (.tuple #[.int .i64 n, .bool ok]) ∧ Hid (ok = !Fx.great (Fx.isq (sv s a).toNat : Int) ∧ n = if ok then (Fx.isq (sv s a).toNat : Int) else 0) ∧ Hid (Below w.heap.size w w') := by
  have HA : Hid _ := ha
  have hX : (sv s a).natAbs < 6277101735386680763835789423207666416102355444464034512896 := by have := ha.lt; have := ha.nonneg; unfold sv; split <;> omega
  have HX : Hid _ := hX
  have H0 : Hid _ := h0
  clear ha hX h0
  go_enter Try.func85, Try.ntmps85
  go_wp2_with (fail)
  refine (of_any 4611686018427387904 _ (by omega) (by omega)).mono ?_
  rintro e w1 ⟨u1, d1, rfl, S1, B1⟩
  go_wp2_with (fail)
  refine (of_any 4611686018427387904 _ (by omega) (by omega)).mono ?_
  rintro e w2 ⟨u2, d2, rfl, S2, B2⟩
  go_wp2_with (fail)
  refine (times_any u1 u2 d1 d2 _ S1.out.1 S2.out.1 (by rw [S1.out.2, S2.out.2]; decide)).mono ?_
  rintro e w3 ⟨u3, d3, rfl, S3, B3⟩
  have B4 : Hid (Below w.heap.size w w3) := below_step (below_step (below_step (new_after w _) B1.out) B2.out) B3.out
  have LA : Hid (RLies w3 w.heap.size s a) := ((RLies.below (lies_new w s a 113) B1.out (by simp)).below B2.out (by have := B1.out.size; simp at this; omega)).below B3.out (by have := B1.out.size; have := B2.out.size; simp at *; omega)
  have S4 : Hid (Digs d3 ∧ sv u3 d3 = 4611686018427387904 * 4611686018427387904) := ⟨S3.out.1, by rw [S3.out.2, S1.out.2, S2.out.2]⟩
  obtain ⟨a0, a1, a2, a3, a4, a5, a6, a7, a8⟩ := LA.out.cells
  have hs : w.heap.size < w3.heap.size := LA.out.lt
  clear S1 S2 S3 B1 B2 B3
  go_wp2_with (fail)
  refine (rless_any s u3 a d3 _ HA.out S4.out.1 (by rw [S4.out.2]; have := HX.out; have := H0.out; omega)).mono ?_
  rintro e w5 ⟨is, rfl, S5, B5⟩
  have LB : Hid (RLies w5 w.heap.size s a) := (LA.out.alloc _).below B5.out (by simp; omega)
  have B6 : Hid (Below w.heap.size w w5) := below_step (B4.out.alloc B4.out.size _) B5.out
  have S6 : Hid (is = true ↔ sv s a < 4611686018427387904 * 4611686018427387904) := by show _ ↔ _; rw [← S4.out.2]; exact S5.out
  clear LA B4 S4 S5 B5 a0 a1 a2 a3 a4 a5 a6 a7 a8 hs
  cases is
  · go_wp2
    go_ret2
    have hg := ri_none (X := sv s a) (by have := S6.out; simp at this; omega)
    exact ⟨0, false, rfl, ⟨by rw [hg]; rfl, rfl⟩, B6.out⟩
  · have HR : Hid _ := ri_start H0.out (S6.out.1 rfl)
    clear S6
    go_wp2
    go_loopw [6, 7] (fun rr bb wr => ∃ (m : Nat) (r : Int), m ≤ 62 ∧ bb = .int .i64 (bitOf m) ∧ rr = .int .i64 r ∧ 0 ≤ r ∧ r ≤ 4611686018427387904 ∧ Hid (RI (sv s a) r m) ∧ Hid (RLies wr w.heap.size s a) ∧ Hid (Below w.heap.size w wr)) (fun _ bb _ => (intOf bb).toNat)
    case atStart => exact ⟨62, 0, Nat.le_refl _, rfl, rfl, by omega, by omega, HR.out, LB.out, B6.out⟩
    case round =>
      clear LB B6 HR
      obtain ⟨m, r, hm, rfl, rfl, hr0, hr1, HI, HL, HB⟩ := hrel
      match m, hm, HI with
      | 0, _, HI =>
        have hb0 : bitOf 0 = 0 := rfl
        rw [hb0]
        have HE : Hid _ := ri_end HI.out
        go_wp2
        go_ret2
        exact ⟨r, true, rfl, ⟨by rw [HE.out.2]; rfl, by rw [HE.out.1]; rfl⟩, HB.out⟩
      | m + 1, hm, HI =>
        have hb0 : bitOf (m + 1) = 2 ^ m := rfl
        rw [hb0]
        have HU : Hid (∀ b : Int, b = 2 ^ m → (r + b) * (r + b) ≤ sv s a → RI (sv s a) (r + b) m) := fun b hb h => by subst hb; exact ri_up HI.out h
        have HV : Hid (∀ b : Int, b = 2 ^ m → sv s a < (r + b) * (r + b) → RI (sv s a) r m) := fun b hb h => by subst hb; exact ri_stay HI.out h
        have hb1 := bit_pos m
        have hb2 : r + 2 ^ m ≤ 4611686018427387904 := by have := HI.out.2.2.2; rw [Int.pow_succ] at this; omega
        have HH : Hid _ := bit_half m
        obtain ⟨bt, hbt⟩ : ∃ b, b = (2 : Int) ^ m := ⟨_, rfl⟩
        rw [← hbt] at HH hb1 hb2
        rw [← hbt]
        have HU' : Hid _ := HU.out bt hbt
        have HV' : Hid _ := HV.out bt hbt
        clear hbt HU HV HI hb0
        go_wp2_with (fail)
        refine (of_any (r + bt) _ (by omega) (by omega)).mono ?_
        rintro e w1 ⟨u1, d1, rfl, S1, B1⟩
        have B2 : Hid (Below w.heap.size w w1) := below_step HB.out B1.out
        have LA : Hid (RLies w1 w.heap.size s a) := HL.out.below B1.out HL.out.lt
        have hs : w.heap.size < w1.heap.size := LA.out.lt
        clear B1 HB HL
        have HT : Hid _ := fun W => times_any u1 u1 d1 d1 W S1.out.1 S1.out.1 (by rw [S1.out.2]; exact small_sq (by omega) (by omega))
        go_wp2_with (fail)
        obtain ⟨W, hW⟩ : ∃ W, W = w1.alloc (.cells #[.bool u1, .int .i64 (d1 0), .int .i64 (d1 1), .int .i64 (d1 2), .int .i64 (d1 3), .int .i64 (d1 4), .int .i64 (d1 5), .int .i64 (d1 6), .int .i64 (d1 7)] 113) := ⟨_, rfl⟩
        obtain ⟨t8, ht8⟩ : ∃ t, t = w1.heap.size := ⟨_, rfl⟩
        have LW : Hid (RLies W w.heap.size s a) := by show RLies _ _ _ _; rw [hW]; exact LA.out.alloc _
        have LT : Hid (RLies W t8 u1 d1) := by show RLies _ _ _ _; rw [hW, ht8]; exact lies_new _ _ _ _
        have BW : Hid (Below w.heap.size w W) := by show Below _ _ _; rw [hW]; exact B2.out.alloc B2.out.size _
        rw [← hW, ← ht8]
        clear hW ht8 LA B2 hs
        obtain ⟨a0, a1, a2, a3, a4, a5, a6, a7, a8⟩ := LW.out.drew.cells
        obtain ⟨t0, t1, t2, t3, t4, t5, t6, t7, t8⟩ := LT.out.drew.cells
        go_region_with (first
          | (go_at_call 92; refine (HT.out _).mono ?_; rintro e w4 ⟨u4, d4, rfl, S4, B4⟩; obtain ⟨x0, x1, x2, x3, x4, x5, x6, x7, x8⟩ := (LW.out.drew.below B4.out LW.out.drew.lt).cells)
          | (go_at_call 94; refine (rless_any s u4 a d4 _ HA.out S4.out.1 (by have h1 := HX.out; have h2 := H0.out; have h3 := S4.out.1.lt; have h4 := S4.out.1.nonneg; have h5 : 0 ≤ sv u4 d4 := (by rw [S4.out.2, S1.out.2]; exact Int.mul_nonneg (by omega) (by omega)); have h6 : sv u4 d4 ≤ val d4 8 := (by unfold sv; split <;> omega); omega)).mono ?_; rintro e w5 ⟨c, rfl, S5, B5⟩))
        all_goals (
          have HC : Hid (c = true ↔ sv s a < (r + bt) * (r + bt)) := (by show _ ↔ _; rw [← S1.out.2, ← S4.out.2]; exact S5.out)
          have LF : Hid (RLies w5 w.heap.size s a) := (LW.out.drew.below B4.out LW.out.drew.lt).below B5.out (LW.out.drew.below B4.out LW.out.drew.lt).lt
          have BF : Hid (Below w.heap.size w w5) := below_step (below_step BW.out.drew B4.out) B5.out
          clear S1 S4 S5 B4 B5 LW LT BW a0 a1 a2 a3 a4 a5 a6 a7 a8 t0 t1 t2 t3 t4 t5 t6 t7 t8 x0 x1 x2 x3 x4 x5 x6 x7 x8
          cases c
          · go_wp2
            go_roundw
            case rel => exact ⟨m, r + bt, by omega, by rw [HH.out], rfl, by omega, by omega, HU'.out (by have := HC.out; simp at this; omega), LF.out, BF.out⟩
            case measure => show (bt / 2).toNat < bt.toNat; omega
          · go_wp2
            go_roundw
            case rel => exact ⟨m, r, by omega, by rw [HH.out], rfl, by omega, by omega, HV'.out (HC.out.1 rfl), LF.out, BF.out⟩
            case measure => show (bt / 2).toNat < bt.toNat; omega)
end Go.Proofs.Ytfalniafkambmaa
namespace Go.Proofs.Ytfalniafkambmaa
open Go.RowKit Ref Fx

set_option maxHeartbeats 1000000 in
theorem rgreat_any (zs : List Int) (b off cap : Nat) (w : World) (hlen : zs.length ≤ 4611686018427387904) (hc : ∀ k, k < zs.length → w.cell? ⟨b, off + k, none⟩ = some (.int .i64 (zs.getD k 0))) :
    Calls Try.prog 84 #[.slice (some ⟨b, off, none⟩) zs.length cap] w fun e w' => e = .returned (.bool (zs.any great)) ∧ w' = w := by
  have HC : Hid _ := hc
  clear hc
  go_enter Try.func84, Try.ntmps84
  go_wp2
  go_loop [3] (fun i => ∃ k : Nat, k ≤ zs.length ∧ i = .int .i64 k ∧ Hid ((zs.take k).any great = false)) (fun i => zs.length - (intOf i).toNat)
  case atStart => exact ⟨0, Nat.zero_le _, rfl, by simp [Hid]⟩
  case round =>
    obtain ⟨k, hk, rfl, HG⟩ := hrel
    by_cases hlt : k < zs.length
    · have hcell := HC.out k hlt
      have hs := great_step zs k hlt HG.out
      obtain ⟨z, hz⟩ : ∃ z, zs.getD k 0 = z := ⟨_, rfl⟩
      rw [hz] at hcell hs
      have HS : Hid _ := hs
      clear hs hz
      by_cases g1 : z < -4611686018427387903
      · have hany : zs.any great = true := by
          have : (zs.take (k + 1)).any great = true := by rw [HS.out]; simp [great, g1]
          rw [List.any_eq_true] at this ⊢
          obtain ⟨x, hx, hg⟩ := this
          exact ⟨x, List.mem_of_mem_take hx, hg⟩
        go_wp2
        go_ret
        exact ⟨rfl, rfl⟩
      · by_cases g2 : 4611686018427387903 < z
        · have hany : zs.any great = true := by
            have : (zs.take (k + 1)).any great = true := by rw [HS.out]; simp [great, g2]
            rw [List.any_eq_true] at this ⊢
            obtain ⟨x, hx, hg⟩ := this
            exact ⟨x, List.mem_of_mem_take hx, hg⟩
          go_wp2
          go_ret
          exact ⟨rfl, rfl⟩
        · have hno : Hid ((zs.take (k + 1)).any great = false) := by
            show _ = false
            rw [HS.out]; simp [great]; omega
          go_wp2
          go_round
          case rel => exact ⟨k + 1, by omega, by go_num, hno⟩
          case measure => simp [intOf]; omega
    · have hany : zs.any great = false := by
        have := HG.out
        rwa [List.take_of_length_le (by omega)] at this
      go_wp2
      go_ret
      exact ⟨rfl, rfl⟩

set_option maxHeartbeats 1000000 in
theorem rgreat_nil (a : Option Addr) (cap : Nat) (w : World) :
    Calls Try.prog 84 #[.slice a 0 cap] w fun e w' => e = .returned (.bool false) ∧ w' = w := by
  go_enter Try.func84, Try.ntmps84
  go_wp2
  go_rounds 1
  go_ret
  exact ⟨rfl, rfl⟩

theorem rgreat2 (a b : Int) (w : World) : Calls Try.prog 84 #[.slice (some ⟨w.heap.size, 0, none⟩) 2 2] (w.alloc (.cells #[.int .i64 a, .int .i64 b] 3)) fun e w' => e = .returned (.bool (great a || great b)) ∧ w' = w.alloc (.cells #[.int .i64 a, .int .i64 b] 3) := by
  have h := rgreat_any [a, b] w.heap.size 0 2 (w.alloc (.cells #[.int .i64 a, .int .i64 b] 3)) (by simp) (fun k hk => by
    match k, hk with
    | 0, _ => simp
    | 1, _ => simp)
  simpa using h

theorem rgreat3 (a b c : Int) (w : World) : Calls Try.prog 84 #[.slice (some ⟨w.heap.size, 0, none⟩) 3 3] (w.alloc (.cells #[.int .i64 a, .int .i64 b, .int .i64 c] 3)) fun e w' => e = .returned (.bool (great a || (great b || great c))) ∧ w' = w.alloc (.cells #[.int .i64 a, .int .i64 b, .int .i64 c] 3) := by
  have h := rgreat_any [a, b, c] w.heap.size 0 3 (w.alloc (.cells #[.int .i64 a, .int .i64 b, .int .i64 c] 3)) (by simp) (fun k hk => by
    match k, hk with
    | 0, _ => simp
    | 1, _ => simp
    | 2, _ => simp)
  simpa using h


/-- What tells tells. -/
def tellsOf (n : Int) (ok : Bool) : Option Int := if ok then Fx.told n else none

set_option maxHeartbeats 1000000 in
theorem rtells_any (b off : Nat) (f : Bool) (n : Int) (ok : Bool) (w : World) (hc : w.cell? ⟨b, off, none⟩ = some (.bool f)) (hf : w.frozen? ⟨b, off, none⟩ = false) :
    Calls Try.prog 83 #[.pointer (some ⟨b, off, none⟩), .int .i64 n, .bool ok] w fun e w' => e = .returned (.int .i64 ((tellsOf n ok).getD 0)) ∧ Below w.heap.size (mark ⟨b, off, none⟩ (tellsOf n ok) w) w' := by
  cases ok
  · go_enter Try.func83, Try.ntmps83
    go_wp2
    go_ret
    exact ⟨rfl, by simp [tellsOf, mark]; exact Below.refl _ _⟩
  · by_cases h1 : n < -4611686018427387903
    · have hg : great n = true := (great_iff n).2 (Or.inl h1)
      go_enter Try.func83, Try.ntmps83
      go_wp2
      go_ret
      exact ⟨by simp [tellsOf, Fx.told, hg], by simp [tellsOf, Fx.told, hg, mark]; exact Below.refl _ _⟩
    · by_cases h2 : 4611686018427387903 < n
      · have hg : great n = true := (great_iff n).2 (Or.inr h2)
        go_enter Try.func83, Try.ntmps83
        go_wp2
        go_ret
        exact ⟨by simp [tellsOf, Fx.told, hg], by simp [tellsOf, Fx.told, hg, mark]; exact Below.refl _ _⟩
      · have hg : great n = false := (not_great n).2 (by omega)
        go_enter Try.func83, Try.ntmps83
        go_wp2
        go_ret
        exact ⟨by simp [tellsOf, Fx.told, hg], by simp [tellsOf, Fx.told, hg, mark]; exact Below.refl _ _⟩

theorem told_end {b off : Nat} {f : Bool} {o : Option Int} {n : Int} {ok : Bool} {w w1 w2 : World} (ho : tellsOf n ok = o) (h1 : Below w.heap.size w w1) (h2 : Below w1.heap.size (mark ⟨b, off, none⟩ (tellsOf n ok) w1) w2)
    (hc : w.cell? ⟨b, off, none⟩ = some (.bool f)) (hf : w.frozen? ⟨b, off, none⟩ = false) :
    ∃ v g, Ending.returned (.int .i64 ((tellsOf n ok).getD 0)) = .returned (.int .i64 v) ∧ Hid (Step f o v g) ∧ Hid (After ⟨b, off, none⟩ g w w2) := by
  subst ho
  exact ⟨_, _, rfl, ⟨rfl, rfl⟩, after_of (mark_after h1 h2) hc hf⟩

set_option maxHeartbeats 1000000 in
theorem radd_law (b off : Nat) (f : Bool) (x y : Int) (w : World) (hc : w.cell? ⟨b, off, none⟩ = some (.bool f)) (hf : w.frozen? ⟨b, off, none⟩ = false) :
    Calls Try.prog 67 #[.pointer (some ⟨b, off, none⟩), .int .i64 x, .int .i64 y] w fun e W' => ∃ v g, e = .returned (.int .i64 v) ∧ Hid (Step f (add x y) v g) ∧ Hid (After ⟨b, off, none⟩ g w W') := by
  have hb := new_after w (.cells #[.int .i64 x, .int .i64 y] 3)
  have hc' := cell_after hb hc
  have hf' := frozen_after hb hc hf
  have C1 := rgreat2 x y w
  cases hg : (great x || great y)
  · have hadd : add x y = Fx.told (x + y) := by simp [add, hg]
    rw [hg] at C1
    have hx : -4611686018427387903 ≤ x ∧ x ≤ 4611686018427387903 := (not_great x).1 (by simp at hg; exact hg.1)
    have hy : -4611686018427387903 ≤ y ∧ y ≤ 4611686018427387903 := (not_great y).1 (by simp at hg; exact hg.2)
    have C2 : Hid _ := rtells_any b off f (x + y) true _ hc' hf'
    have K1 : Hid _ := C1
    have HB : Hid _ := hb
    have HC : Hid _ := hc
    have HF : Hid _ := hf
    have HA : Hid _ := hadd
    clear C1 hb hc hf hc' hf' hg hadd
    go_enter Try.func67, Try.ntmps67
    go_wp2_with (fail)
    refine Calls.mono K1.out ?_
    rintro e w1 ⟨rfl, rfl⟩
    go_wp2_with (fail)
    refine Calls.mono C2.out ?_
    rintro e w2 ⟨rfl, hb2⟩
    go_wp2_with (fail)
    go_ret
    exact told_end (HA.out.symm) HB.out hb2 HC.out HF.out
  · have hadd : add x y = none := by simp only [add, hg, if_true]
    rw [hg] at C1
    have C2 : Hid _ := rtells_any b off f 0 false _ hc' hf'
    have K1 : Hid _ := C1
    have HB : Hid _ := hb
    have HC : Hid _ := hc
    have HF : Hid _ := hf
    have HA : Hid _ := hadd
    clear C1 hb hc hf hc' hf' hg hadd
    go_enter Try.func67, Try.ntmps67
    go_wp2_with (fail)
    refine Calls.mono K1.out ?_
    rintro e w1 ⟨rfl, rfl⟩
    go_wp2_with (fail)
    refine Calls.mono C2.out ?_
    rintro e w2 ⟨rfl, hb2⟩
    go_wp2_with (fail)
    go_ret
    exact told_end (HA.out.symm) HB.out hb2 HC.out HF.out

set_option maxHeartbeats 1000000 in
theorem rsub_law (b off : Nat) (f : Bool) (x y : Int) (w : World) (hc : w.cell? ⟨b, off, none⟩ = some (.bool f)) (hf : w.frozen? ⟨b, off, none⟩ = false) :
    Calls Try.prog 68 #[.pointer (some ⟨b, off, none⟩), .int .i64 x, .int .i64 y] w fun e W' => ∃ v g, e = .returned (.int .i64 v) ∧ Hid (Step f (sub x y) v g) ∧ Hid (After ⟨b, off, none⟩ g w W') := by
  have hb := new_after w (.cells #[.int .i64 x, .int .i64 y] 3)
  have hc' := cell_after hb hc
  have hf' := frozen_after hb hc hf
  have C1 := rgreat2 x y w
  cases hg : (great x || great y)
  · have hadd : sub x y = Fx.told (x - y) := by simp [sub, hg]
    rw [hg] at C1
    have hx : -4611686018427387903 ≤ x ∧ x ≤ 4611686018427387903 := (not_great x).1 (by simp at hg; exact hg.1)
    have hy : -4611686018427387903 ≤ y ∧ y ≤ 4611686018427387903 := (not_great y).1 (by simp at hg; exact hg.2)
    have C2 : Hid _ := rtells_any b off f (x - y) true _ hc' hf'
    have K1 : Hid _ := C1
    have HB : Hid _ := hb
    have HC : Hid _ := hc
    have HF : Hid _ := hf
    have HA : Hid _ := hadd
    clear C1 hb hc hf hc' hf' hg hadd
    go_enter Try.func68, Try.ntmps68
    go_wp2_with (fail)
    refine Calls.mono K1.out ?_
    rintro e w1 ⟨rfl, rfl⟩
    go_wp2_with (fail)
    refine Calls.mono C2.out ?_
    rintro e w2 ⟨rfl, hb2⟩
    go_wp2_with (fail)
    go_ret
    exact told_end (HA.out.symm) HB.out hb2 HC.out HF.out
  · have hadd : sub x y = none := by simp only [sub, hg, if_true]
    rw [hg] at C1
    have C2 : Hid _ := rtells_any b off f 0 false _ hc' hf'
    have K1 : Hid _ := C1
    have HB : Hid _ := hb
    have HC : Hid _ := hc
    have HF : Hid _ := hf
    have HA : Hid _ := hadd
    clear C1 hb hc hf hc' hf' hg hadd
    go_enter Try.func68, Try.ntmps68
    go_wp2_with (fail)
    refine Calls.mono K1.out ?_
    rintro e w1 ⟨rfl, rfl⟩
    go_wp2_with (fail)
    refine Calls.mono C2.out ?_
    rintro e w2 ⟨rfl, hb2⟩
    go_wp2_with (fail)
    go_ret
    exact told_end (HA.out.symm) HB.out hb2 HC.out HF.out

theorem fits_told {X : Int} {ok : Bool} {n : Int} (h : ok = !great X ∧ n = if ok then X else 0) : tellsOf n ok = Fx.told X := by
  obtain ⟨h1, h2⟩ := h
  unfold tellsOf Fx.told
  cases hg : great X
  · have hok : ok = true := by rw [h1, hg]; rfl
    rw [hok] at h2 ⊢
    simp only [if_true] at h2
    subst h2
    simp [hg]
  · have hok : ok = false := by rw [h1, hg]; rfl
    rw [hok]
    simp

set_option maxHeartbeats 1000000 in
theorem rratio_law (b off : Nat) (f : Bool) (x y z : Int) (w : World) (hc : w.cell? ⟨b, off, none⟩ = some (.bool f)) (hf : w.frozen? ⟨b, off, none⟩ = false) :
    Calls Try.prog 87 #[.pointer (some ⟨b, off, none⟩), .int .i64 x, .int .i64 y, .int .i64 z] w fun e W' => ∃ v g, e = .returned (.int .i64 v) ∧ Hid (Step f (ratio x y z) v g) ∧ Hid (After ⟨b, off, none⟩ g w W') := by
  have hb := new_after w (.cells #[.int .i64 x, .int .i64 y, .int .i64 z] 3)
  have C1 := rgreat3 x y z w
  have HB : Hid _ := hb
  have HC : Hid _ := hc
  have HF : Hid _ := hf
  have HN : Hid (∀ W, Below w.heap.size w W → Calls Try.prog 83 #[.pointer (some ⟨b, off, none⟩), .int .i64 0, .bool false] W fun e w' => e = .returned (.int .i64 ((tellsOf 0 false).getD 0)) ∧ Below W.heap.size (mark ⟨b, off, none⟩ (tellsOf 0 false) W) w') := fun W h => rtells_any b off f 0 false W (cell_after h hc) (frozen_after h hc hf)
  cases hg : (great x || (great y || great z))
  · have hx : -4611686018427387903 ≤ x ∧ x ≤ 4611686018427387903 := (not_great x).1 (by simp at hg; exact hg.1)
    have hy : -4611686018427387903 ≤ y ∧ y ≤ 4611686018427387903 := (not_great y).1 (by simp at hg; exact hg.2.1)
    have hz : -4611686018427387903 ≤ z ∧ z ≤ 4611686018427387903 := (not_great z).1 (by simp at hg; exact hg.2.2)
    rw [hg] at C1
    have K1 : Hid _ := C1
    by_cases z0 : z = 0
    · subst z0
      have HA : Hid _ := (by simp [ratio] : ratio x y 0 = none)
      clear C1 hb hc hf hg
      go_enter Try.func87, Try.ntmps87
      go_wp2_with (fail)
      refine Calls.mono K1.out ?_
      rintro e w1 ⟨rfl, rfl⟩
      go_wp2_with (fail)
      refine Calls.mono (HN.out _ HB.out) ?_
      rintro e w2 ⟨rfl, hb2⟩
      go_wp2_with (fail)
      go_ret
      exact told_end (HA.out.symm) HB.out hb2 HC.out HF.out
    · have HA : Hid _ := (by simp only [ratio, z0, hg]; rfl : ratio x y z = Fx.told (fl (x * y) z))
      clear C1 hb hc hf hg HN
      go_enter Try.func87, Try.ntmps87
      go_wp2_with (fail)
      refine Calls.mono K1.out ?_
      rintro e w1 ⟨rfl, rfl⟩
      go_wp2_with (fail)
      refine (of_any x _ (by omega) (by omega)).mono ?_
      rintro e w1 ⟨u1, d1, rfl, S1, B1⟩
      go_wp2_with (fail)
      refine (of_any y _ (by omega) (by omega)).mono ?_
      rintro e w2 ⟨u2, d2, rfl, S2, B2⟩
      go_wp2_with (fail)
      refine (times_any u1 u2 d1 d2 _ S1.out.1 S2.out.1 (by rw [S1.out.2, S2.out.2]; exact small_sq (by omega) (by omega))).mono ?_
      rintro e w3 ⟨u3, d3, rfl, S3, B3⟩
      go_wp2_with (fail)
      refine (down_any u3 d3 z _ S3.out.1 z0 hz.1 hz.2).mono ?_
      rintro e w4 ⟨n, ok, rfl, S4, B4⟩
      have B5 : Hid (Below w.heap.size w w4) := below_step (below_step (below_step (below_step HB.out B1.out) B2.out) B3.out) B4.out
      have S5 : Hid _ := fits_told S4.out
      rw [S3.out.2, S1.out.2, S2.out.2] at S5
      clear S1 S2 S3 S4 B1 B2 B3 B4 K1
      go_wp2_with (fail)
      refine (rtells_any b off f n ok _ (cell_after B5.out HC.out) (frozen_after B5.out HC.out HF.out)).mono ?_
      rintro e w6 ⟨rfl, hb2⟩
      go_wp2_with (fail)
      go_ret
      exact told_end (S5.out.trans HA.out.symm) B5.out hb2 HC.out HF.out
  · have HA : Hid _ := (by simp only [ratio, hg]; simp : ratio x y z = none)
    rw [hg] at C1
    have K1 : Hid _ := C1
    clear C1 hb hc hf hg
    go_enter Try.func87, Try.ntmps87
    go_wp2_with (fail)
    refine Calls.mono K1.out ?_
    rintro e w1 ⟨rfl, rfl⟩
    go_wp2_with (fail)
    refine Calls.mono (HN.out _ HB.out) ?_
    rintro e w2 ⟨rfl, hb2⟩
    go_wp2_with (fail)
    go_ret
    exact told_end (HA.out.symm) HB.out hb2 HC.out HF.out

theorem rdiv_law (b off : Nat) (f : Bool) (x y : Int) (w : World) (hc : w.cell? ⟨b, off, none⟩ = some (.bool f)) (hf : w.frozen? ⟨b, off, none⟩ = false) :
    Calls Try.prog 64 #[.pointer (some ⟨b, off, none⟩), .int .i64 x, .int .i64 y] w fun e W' => ∃ v g, e = .returned (.int .i64 v) ∧ Hid (Step f (ratio x 4294967296 y) v g) ∧ Hid (After ⟨b, off, none⟩ g w W') := by
  have C : Hid _ := rratio_law b off f x 4294967296 y w hc hf
  clear hc hf
  go_enter Try.func64, Try.ntmps64
  go_wp2_with (fail)
  refine Calls.mono C.out ?_
  rintro e w1 ⟨v, g, rfl, S, A⟩
  go_wp2_with (fail)
  go_ret
  exact ⟨v, g, rfl, S, A⟩

end Go.Proofs.Ytfalniafkambmaa
namespace Go.Proofs.Ytfalniafkambmaa
open Go.RowKit Ref Fx
set_option linter.unusedVariables false

theorem rvbare_any (W : World) : Calls Try.prog 62 #[] W fun e W' => e = .returned (.pointer (some ⟨W.heap.size, 0, none⟩)) ∧ W' = W.alloc (.cells #[.bool false] 77) := by
  go_enter Try.func62, Try.ntmps62
  go_wp2
  go_ret
  exact ⟨rfl, rfl⟩
set_option maxHeartbeats 1000000 in
theorem done_any (b off o : Nat) (f g : Bool) (W : World) (hc : W.cell? ⟨b, off, none⟩ = some (.bool f)) (hf : W.frozen? ⟨b, off, none⟩ = false) (ho : W.cell? ⟨o, 0, none⟩ = some (.bool g)) (hne : o ≠ b) :
    Calls Try.prog 65 #[.pointer (some ⟨b, off, none⟩), .pointer (some ⟨o, 0, none⟩)] W fun e W' => e = .returned (.bool (!g)) ∧ Hid (After ⟨b, off, none⟩ (f || g) W W') := by
  have n1 : b ≠ o := Ne.symm hne
  have fin : ∀ x : Bool, After ⟨b, off, none⟩ x W (W.setCell ⟨b, off, none⟩ (.bool x)) := fun x => ((Leaves.refl ⟨b, off, none⟩ W).own _).done (by simp [go_sem, hc]) (by simp [go_sem, hf])
  have HF : Hid _ := fin
  clear fin
  cases f
  · go_enter Try.func65, Try.ntmps65
    go_wp2
    go_ret
    exact ⟨rfl, HF.out _⟩
  · go_enter Try.func65, Try.ntmps65
    go_wp2
    go_ret
    exact ⟨rfl, HF.out _⟩

/-- What holds while a call reckons by a work of its own: the flag at p as it was, the own one g, the cells of l. -/
structure Ho (W V : World) (p : Addr) (po : Nat) (f g : Bool) (l : List (Addr × Value)) : Prop where
  leaves : Leaves p W V
  flag : V.cell? p = some (.bool f)
  flagf : V.frozen? p = false
  own : V.cell? ⟨po, 0, none⟩ = some (.bool g)
  ownf : V.frozen? ⟨po, 0, none⟩ = false
  fix : ∀ c ∈ l, V.cell? c.1 = some c.2 ∧ V.frozen? c.1 = false
  far : ∀ c ∈ l, c.1.block ≠ po
  hp : p.block < W.heap.size
  ho : W.heap.size ≤ po
theorem Ho.after {W V V' : World} {p : Addr} {po : Nat} {f g g' : Bool} {l : List (Addr × Value)} (h : Ho W V p po f g l) (A : After ⟨po, 0, none⟩ g' V V') : Ho W V' p po f g' l :=
  ⟨h.leaves.after A h.ho, A.cellOf h.flag (by have := h.hp; have := h.ho; show p.block ≠ po; omega), A.frozenOf h.flag h.flagf (by have := h.hp; have := h.ho; show p.block ≠ po; omega), A.cell, A.frozen, fun c hc => ⟨A.cellOf (h.fix c hc).1 (h.far c hc), A.frozenOf (h.fix c hc).1 (h.fix c hc).2 (h.far c hc)⟩, h.far, h.hp, h.ho⟩
theorem Ho.alloc {W V : World} {p : Addr} {po : Nat} {f g : Bool} {l : List (Addr × Value)} (h : Ho W V p po f g l) (o : Obj) : Ho W (V.alloc o) p po f g l := by
  have hb := new_after V o
  exact ⟨h.leaves.alloc o, cell_after hb h.flag, frozen_after hb h.flag h.flagf, cell_after hb h.own, frozen_after hb h.own h.ownf, fun c hc => ⟨cell_after hb (h.fix c hc).1, frozen_after hb (h.fix c hc).1 (h.fix c hc).2⟩, h.far, h.hp, h.ho⟩
/-- Three that are told one behind the other. -/
theorem step3_chain {f g1 g2 g3 : Bool} {a b c : Option Int} {x y z : Int} (h1 : Step false a x g1) (h2 : Step g1 b y g2) (h3 : Step g2 c z g3) : Step3 f a b c (cond g3 0 x) (cond g3 0 y) (cond g3 0 z) (f || g3) := by
  obtain ⟨rfl, rfl⟩ := h1
  obtain ⟨rfl, rfl⟩ := h2
  obtain ⟨rfl, rfl⟩ := h3
  simp only [Bool.false_or]
  exact ⟨rfl, rfl, rfl, rfl⟩
end Go.Proofs.Ytfalniafkambmaa
namespace Go.Proofs.Ytfalniafkambmaa
open Go.RowKit Ref Fx

theorem prods_fit {l m : List Int} (k : Nat) (hl : l.length ≤ 8) (h : l.any great = false) (h' : m.any great = false) : (prods (l.take k) (m.take k)).natAbs < 3138550867693340381917894711603833208051177722232017256448 := by
  have := prods_bound (l.take k) (m.take k) (any_take k h) (any_take k h')
  have e : (l.take k).length ≤ 8 := by simp; omega
  have := Nat.mul_le_mul_right 21267647932558653957237540927630737409 e
  omega
theorem prod_fit {a b : Int} (ha : great a = false) (hb : great b = false) : (a * b).natAbs < 3138550867693340381917894711603833208051177722232017256448 := by
  have h1 := (not_great a).1 ha
  have h2 := (not_great b).1 hb
  rw [Int.natAbs_mul]
  exact Nat.lt_of_le_of_lt (Nat.mul_le_mul (show a.natAbs ≤ 4611686018427387903 by omega) (show b.natAbs ≤ 4611686018427387903 by omega)) (by decide)

set_option maxHeartbeats 4000000 in
theorem sumw_any (zs ys : List Int) (ba oa bb ob cap cap' : Nat) (w : World) (hl : zs.length ≤ 8) (he : zs.length = ys.length) (hg : zs.any great = false) (hg' : ys.any great = false)
    (hz : ∀ k, k < zs.length → w.cell? ⟨ba, oa + k, none⟩ = some (.int .i64 (zs.getD k 0))) (hy : ∀ k, k < ys.length → w.cell? ⟨bb, ob + k, none⟩ = some (.int .i64 (ys.getD k 0))) :
    Calls Try.prog 86 #[.slice (some ⟨ba, oa, none⟩) zs.length cap, .slice (some ⟨bb, ob, none⟩) ys.length cap'] w fun e w' => ∃ s d, e = .returned (wv s d) ∧ Hid (Digs d ∧ sv s d = prods zs ys) ∧ Hid (Below w.heap.size w w') := by
  have HZ : Hid _ := hz
  have HY : Hid _ := hy
  have HG : Hid (zs.any great = false ∧ ys.any great = false) := ⟨hg, hg'⟩
  have HE : Hid _ := he
  have hly : ys.length ≤ 8 := by omega
  clear hz hy hg hg' he
  go_enter Try.func86, Try.ntmps86
  go_wp2
  go_loopw [6] (fun i wr => ∃ (k : Nat) (s : Bool) (d : Nat → Int), k ≤ zs.length ∧ i = .int .i64 k ∧ Hid (Digs d ∧ sv s d = prods (zs.take k) (ys.take k)) ∧ Hid (RLies wr w.heap.size false (fun _ => 0)) ∧ Hid (RLies wr (w.heap.size + 1) s d) ∧ Hid (Below w.heap.size w wr)) (fun i _ => zs.length - (intOf i).toNat)
  case atStart => exact ⟨0, false, fun _ => 0, Nat.zero_le _, rfl, ⟨fun j _ => by simp, by simp [sv, val, prods]⟩, RLies.alloc (lies_new w false (fun _ => 0) 113) _, by show RLies _ _ _ _; have := lies_new (w.alloc (.cells #[.bool false, .int .i64 0, .int .i64 0, .int .i64 0, .int .i64 0, .int .i64 0, .int .i64 0, .int .i64 0, .int .i64 0] 113)) false (fun _ => 0) 113; simpa only [World.size_alloc] using this, (new_after w _).alloc (by simp) _⟩
  case round =>
    obtain ⟨k, s, d, hk, rfl, HD, HR, HO, HB⟩ := hrel
    by_cases hlt : k < zs.length
    · have hlt2 : k < ys.length := by have := HE.out; omega
      have c1 := cell_after HB.out (HZ.out k hlt)
      have c2 := cell_after HB.out (HY.out k hlt2)
      have g1 := getD_small HG.out.1 hlt
      have g2 := getD_small HG.out.2 hlt2
      have HS : Hid _ := prods_step k zs ys hlt hlt2
      have HP : Hid _ := prod_fit g1 g2
      have HQ : Hid _ := prods_fit k hl HG.out.1 HG.out.2
      obtain ⟨z, ez⟩ : ∃ z, zs.getD k 0 = z := ⟨_, rfl⟩
      obtain ⟨y, ey⟩ : ∃ y, ys.getD k 0 = y := ⟨_, rfl⟩
      rw [ez] at c1 g1 HS HP
      rw [ey] at c2 g2 HS HP
      have bz := (not_great z).1 g1
      have bY := (not_great y).1 g2
      clear ez ey g1 g2
      have i0 : (0 : Int) ≤ (k : Int) := by omega
      have i1 : (k : Int) < (zs.length : Int) := by omega
      have i2 : (k : Int) < (ys.length : Int) := by omega
      have HB : Hid (Below w.heap.size w wr.drew) := HB.out.drew
      have HO : Hid (RLies wr.drew (w.heap.size + 1) s d) := HO.out.drew
      have HR : Hid (RLies wr.drew w.heap.size false (fun _ => 0)) := HR.out.drew
      obtain ⟨a0, a1, a2, a3, a4, a5, a6, a7, a8⟩ := HO.out.cells
      obtain ⟨f0, f1, f2, f3, f4, f5, f6, f7, f8⟩ := HO.out.frees
      have c1 : wr.drew.cell? ⟨ba, oa + k, none⟩ = some (.int .i64 z) := c1
      have c2 : wr.drew.cell? ⟨bb, ob + k, none⟩ = some (.int .i64 y) := c2
      have HA : True := trivial
      go_wp2
      go_region_with (first
        | (go_at_call 93; refine (of_any _ _ (by omega) (by omega)).mono ?_; rintro e w1 ⟨u, e1, rfl, S, B⟩; have HA := And.intro HA S.out; have f0 := frozen_after B.out a0 f0; have a0 := cell_after B.out a0; have f1 := frozen_after B.out a1 f1; have a1 := cell_after B.out a1; have f2 := frozen_after B.out a2 f2; have a2 := cell_after B.out a2; have f3 := frozen_after B.out a3 f3; have a3 := cell_after B.out a3; have f4 := frozen_after B.out a4 f4; have a4 := cell_after B.out a4; have f5 := frozen_after B.out a5 f5; have a5 := cell_after B.out a5; have f6 := frozen_after B.out a6 f6; have a6 := cell_after B.out a6; have f7 := frozen_after B.out a7 f7; have a7 := cell_after B.out a7; have f8 := frozen_after B.out a8 f8; have a8 := cell_after B.out a8; have c1 := cell_after B.out c1; have c2 := cell_after B.out c2; have HO : Hid _ := RLies.below HO.out B.out HO.out.lt; have HR : Hid _ := RLies.below HR.out B.out HR.out.lt; have HB : Hid _ := below_step HB.out B.out)
        | (go_at_call 92; refine (times_any _ _ _ _ _ HA.1.2.1 HA.2.1 (by rw [HA.1.2.2, HA.2.2]; exact Nat.lt_trans HP.out (by decide))).mono ?_; rintro e w1 ⟨u, e1, rfl, S, B⟩; have HT : Hid (Digs e1 ∧ sv u e1 = z * y) := ⟨S.out.1, by rw [S.out.2, HA.1.2.2, HA.2.2]⟩; have f0 := frozen_after B.out a0 f0; have a0 := cell_after B.out a0; have f1 := frozen_after B.out a1 f1; have a1 := cell_after B.out a1; have f2 := frozen_after B.out a2 f2; have a2 := cell_after B.out a2; have f3 := frozen_after B.out a3 f3; have a3 := cell_after B.out a3; have f4 := frozen_after B.out a4 f4; have a4 := cell_after B.out a4; have f5 := frozen_after B.out a5 f5; have a5 := cell_after B.out a5; have f6 := frozen_after B.out a6 f6; have a6 := cell_after B.out a6; have f7 := frozen_after B.out a7 f7; have a7 := cell_after B.out a7; have f8 := frozen_after B.out a8 f8; have a8 := cell_after B.out a8; have c1 := cell_after B.out c1; have c2 := cell_after B.out c2; have HO : Hid _ := RLies.below HO.out B.out HO.out.lt; have HR : Hid _ := RLies.below HR.out B.out HR.out.lt; have HB : Hid _ := below_step HB.out B.out)
        | (go_at_call 95; refine (plusw_any _ _ _ _ _ HD.out.1 HT.out.1 (by rw [HD.out.2, HT.out.2]; have h1 := HP.out; have h2 := HQ.out; omega)).mono ?_; rintro e w1 ⟨u, e1, rfl, S, B⟩; have HU : Hid (Digs e1 ∧ sv u e1 = prods (zs.take (k + 1)) (ys.take (k + 1))) := ⟨S.out.1, by rw [S.out.2, HD.out.2, HT.out.2, HS.out]⟩; have f0 := frozen_after B.out a0 f0; have a0 := cell_after B.out a0; have f1 := frozen_after B.out a1 f1; have a1 := cell_after B.out a1; have f2 := frozen_after B.out a2 f2; have a2 := cell_after B.out a2; have f3 := frozen_after B.out a3 f3; have a3 := cell_after B.out a3; have f4 := frozen_after B.out a4 f4; have a4 := cell_after B.out a4; have f5 := frozen_after B.out a5 f5; have a5 := cell_after B.out a5; have f6 := frozen_after B.out a6 f6; have a6 := cell_after B.out a6; have f7 := frozen_after B.out a7 f7; have a7 := cell_after B.out a7; have f8 := frozen_after B.out a8 f8; have a8 := cell_after B.out a8; have c1 := cell_after B.out c1; have c2 := cell_after B.out c2; have HO : Hid _ := RLies.below HO.out B.out HO.out.lt; have HR : Hid _ := RLies.below HR.out B.out HR.out.lt; have HB : Hid _ := below_step HB.out B.out))
      all_goals (
        have X1 : Hid _ := lies_nine (s := u) (d := e1) HO.out
        have X2 : Hid _ := RLies.nine (s := u) (d := e1) (b := w.heap.size + 1) HR.out (by omega)
        have X3 : Hid _ := below_nine (b := w.heap.size + 1) (v0 := .bool u) (v1 := .int .i64 (e1 0)) (v2 := .int .i64 (e1 1)) (v3 := .int .i64 (e1 2)) (v4 := .int .i64 (e1 3)) (v5 := .int .i64 (e1 4)) (v6 := .int .i64 (e1 5)) (v7 := .int .i64 (e1 6)) (v8 := .int .i64 (e1 7)) HB.out (by omega)
        clear a0 f0 a1 f1 a2 f2 a3 f3 a4 f4 a5 f5 a6 f6 a7 f7 a8 f8 HO HR HB HA HT HP HQ
        go_wp2
        go_roundw
        case rel => exact ⟨k + 1, u, e1, by omega, by go_num, HU.out, X2.out, X1.out, X3.out⟩
        case measure => simp [intOf]; omega)
    · have hk8 : (zs.length : Int) ≤ (k : Int) := by omega
      have HV : Hid (Digs d ∧ sv s d = prods zs ys) := by
        obtain ⟨d1, d2⟩ := HD.out
        have e : k = zs.length := by omega
        rw [e, List.take_length, HE.out, List.take_length] at d2
        exact ⟨d1, d2⟩
      obtain ⟨c0, c1, c2, c3, c4, c5, c6, c7, c8⟩ := HO.out.cells
      obtain ⟨r0, r1, r2, r3, r4, r5, r6, r7, r8⟩ := HR.out.cells
      obtain ⟨f0, f1, f2, f3, f4, f5, f6, f7, f8⟩ := HR.out.frees
      clear HD HZ HY HG
      go_wp2
      try simp only [Exit.inBlock, Exit.then]
      refine bodyPost_ret (by simp [results, Try.results86, go_sem, r0, r1, r2, r3, r4, r5, r6, r7, r8]; try rfl) rfl ?_
      exact ⟨_, d, rfl, HV.out, below_nine HB.out (by omega)⟩
end Go.Proofs.Ytfalniafkambmaa
namespace Go.Proofs.Ytfalniafkambmaa
open Go.RowKit Ref Fx

theorem rgreat_row (zs : List Int) (a : Option Addr) (cap : Nat) (w : World) (hlen : zs.length ≤ 4611686018427387904) (h : NRow w a zs) :
    Calls Try.prog 84 #[.slice a zs.length cap] w fun e w' => e = .returned (.bool (zs.any great)) ∧ w' = w := by
  rcases h with h | ⟨b, off, rfl, h⟩
  · obtain rfl : zs = [] := List.length_eq_zero_iff.1 h
    exact rgreat_nil a cap w
  · exact rgreat_any zs b off cap w hlen h

set_option maxHeartbeats 1000000 in
theorem sumw_nil (a c : Option Addr) (cap cap' : Nat) (w : World) :
    Calls Try.prog 86 #[.slice a 0 cap, .slice c 0 cap'] w fun e w' => ∃ s d, e = .returned (wv s d) ∧ Hid (Digs d ∧ sv s d = 0) ∧ Hid (Below w.heap.size w w') := by
  go_enter Try.func86, Try.ntmps86
  go_wp2
  go_rounds 1
  try simp only [Exit.inBlock, Exit.then]
  refine bodyPost_ret (by simp [results, Try.results86, go_sem]; try rfl) rfl ?_
  exact ⟨false, fun _ => 0, rfl, ⟨fun j _ => by simp, by simp [sv, val]⟩, by show Below _ _ _; go_grown⟩

theorem sumw_row (zs ys : List Int) (a c : Option Addr) (cap cap' : Nat) (w : World) (hl : zs.length ≤ 8) (he : zs.length = ys.length) (hg : zs.any great = false) (hg' : ys.any great = false) (ha : NRow w a zs) (hb : NRow w c ys) :
    Calls Try.prog 86 #[.slice a zs.length cap, .slice c ys.length cap'] w fun e w' => ∃ s d, e = .returned (wv s d) ∧ Hid (Digs d ∧ sv s d = prods zs ys) ∧ Hid (Below w.heap.size w w') := by
  by_cases h0 : zs.length = 0
  · obtain rfl : zs = [] := List.length_eq_zero_iff.1 h0
    obtain rfl : ys = [] := List.length_eq_zero_iff.1 (by omega)
    exact sumw_nil a c cap cap' w
  · obtain ⟨ba, oa, rfl, hz⟩ := ha.resolve_left h0
    obtain ⟨bb, ob, rfl, hy⟩ := hb.resolve_left (by omega)
    exact sumw_any zs ys ba oa bb ob cap cap' w hl he hg hg' hz hy

theorem fl_one (X : Int) : fl X 4294967296 = X / 4294967296 := by unfold fl; rw [if_neg (by omega)]

set_option maxHeartbeats 2000000 in
theorem rdot_law (b off : Nat) (f : Bool) (zs ys : List Int) (a c : Option Addr) (cap cap' : Nat) (w : World) (hc : w.cell? ⟨b, off, none⟩ = some (.bool f)) (hf : w.frozen? ⟨b, off, none⟩ = false)
    (hz : zs.length ≤ 4611686018427387904) (hy : ys.length ≤ 4611686018427387904) (ha : NRow w a zs) (hb : NRow w c ys) :
    Calls Try.prog 69 #[.pointer (some ⟨b, off, none⟩), .slice a zs.length cap, .slice c ys.length cap'] w fun e W' => ∃ v g, e = .returned (.int .i64 v) ∧ Hid (Step f (dot zs ys) v g) ∧ Hid (After ⟨b, off, none⟩ g w W') := by
  have HC : Hid _ := hc
  have HF : Hid _ := hf
  have C2 : Hid _ := rtells_any b off f 0 false w hc hf
  have C1 := rgreat_row zs a cap w hz ha
  have C3 := rgreat_row ys c cap' w hy hb
  by_cases h1 : zs.length = ys.length
  · have h1' : ((zs.length : Int) != (ys.length : Int)) = false := by simp [h1]
    by_cases h8 : 8 < zs.length
    · have HA : Hid _ := (by unfold dot; rw [if_neg (by omega), if_pos h8] : dot zs ys = none)
      clear C1 C3 h1 hc hf ha hb
      go_enter Try.func69, Try.ntmps69
      go_wp2_with (fail)
      refine Calls.mono C2.out ?_
      rintro e w2 ⟨rfl, hb2⟩
      go_wp2_with (fail)
      go_ret
      exact told_end HA.out.symm (Below.refl _ _) hb2 HC.out HF.out
    · cases hg : zs.any great
      · cases hg2 : ys.any great
        · have HA : Hid _ := (by unfold dot; rw [if_neg (by omega), if_neg h8, hg, hg2]; rfl : dot zs ys = Fx.told (prods zs ys / 4294967296))
          have HS : Hid _ := sumw_row zs ys a c cap cap' w (by omega) h1 hg hg2 ha hb
          rw [hg] at C1
          rw [hg2] at C3
          have K1 : Hid _ := C1
          have K3 : Hid _ := C3
          clear C1 C3 h1 hc hf ha hb hg hg2 C2
          go_enter Try.func69, Try.ntmps69
          go_wp2_with (fail)
          refine Calls.mono K1.out ?_
          rintro e w1 ⟨rfl, hw⟩
          rw [hw]; clear hw
          go_wp2_with (fail)
          refine Calls.mono K3.out ?_
          rintro e w1 ⟨rfl, hw⟩
          rw [hw]; clear hw
          go_wp2_with (fail)
          refine Calls.mono HS.out ?_
          rintro e w1 ⟨s, d, rfl, S1, B1⟩
          go_wp2_with (fail)
          refine (down_any s d 4294967296 _ S1.out.1 (by omega) (by omega) (by omega)).mono ?_
          rintro e w3 ⟨n, ok, rfl, S3, B3⟩
          have B5 : Hid (Below w.heap.size w w3) := below_step B1.out B3.out
          have S5 : Hid _ := fits_told S3.out
          rw [S1.out.2, fl_one] at S5
          clear S1 S3 B1 B3 K1 K3 HS
          go_wp2_with (fail)
          refine (rtells_any b off f n ok _ (cell_after B5.out HC.out) (frozen_after B5.out HC.out HF.out)).mono ?_
          rintro e w6 ⟨rfl, hb2⟩
          go_wp2_with (fail)
          go_ret
          exact told_end (S5.out.trans HA.out.symm) B5.out hb2 HC.out HF.out
        · have HA : Hid _ := (by unfold dot; rw [if_neg (by omega), if_neg h8, hg, hg2]; rfl : dot zs ys = none)
          rw [hg] at C1
          rw [hg2] at C3
          have K1 : Hid _ := C1
          have K3 : Hid _ := C3
          clear C1 C3 h1 hc hf ha hb hg hg2
          go_enter Try.func69, Try.ntmps69
          go_wp2_with (fail)
          refine Calls.mono K1.out ?_
          rintro e w1 ⟨rfl, hw⟩
          rw [hw]; clear hw
          go_wp2_with (fail)
          refine Calls.mono K3.out ?_
          rintro e w1 ⟨rfl, hw⟩
          rw [hw]; clear hw
          go_wp2_with (fail)
          refine Calls.mono C2.out ?_
          rintro e w2 ⟨rfl, hb2⟩
          go_wp2_with (fail)
          go_ret
          exact told_end HA.out.symm (Below.refl _ _) hb2 HC.out HF.out
      · have HA : Hid _ := (by unfold dot; rw [if_neg (by omega), if_neg h8, hg]; rfl : dot zs ys = none)
        obtain ⟨g2, hg2⟩ : ∃ g, g = ys.any great := ⟨_, rfl⟩
        rw [hg] at C1
        rw [← hg2] at C3
        have K1 : Hid _ := C1
        have K3 : Hid _ := C3
        clear C1 C3 h1 hc hf ha hb hg hg2
        go_enter Try.func69, Try.ntmps69
        go_wp2_with (fail)
        refine Calls.mono K1.out ?_
        rintro e w1 ⟨rfl, hw⟩
        rw [hw]; clear hw
        go_wp2_with (fail)
        refine Calls.mono K3.out ?_
        rintro e w1 ⟨rfl, hw⟩
        rw [hw]; clear hw
        go_wp2_with (fail)
        refine Calls.mono C2.out ?_
        rintro e w2 ⟨rfl, hb2⟩
        go_wp2_with (fail)
        go_ret
        exact told_end HA.out.symm (Below.refl _ _) hb2 HC.out HF.out
  · have h1' : ((zs.length : Int) != (ys.length : Int)) = true := by simp; omega
    have HA : Hid _ := (by unfold dot; rw [if_pos h1] : dot zs ys = none)
    clear C1 C3 hc hf ha hb
    go_enter Try.func69, Try.ntmps69
    go_wp2_with (fail)
    refine Calls.mono C2.out ?_
    rintro e w2 ⟨rfl, hb2⟩
    go_wp2_with (fail)
    go_ret
    exact told_end HA.out.symm (Below.refl _ _) hb2 HC.out HF.out

set_option maxHeartbeats 2000000 in
theorem rnorm_law (b off : Nat) (f : Bool) (zs : List Int) (a : Option Addr) (cap : Nat) (w : World) (hc : w.cell? ⟨b, off, none⟩ = some (.bool f)) (hf : w.frozen? ⟨b, off, none⟩ = false)
    (hz : zs.length ≤ 4611686018427387904) (ha : NRow w a zs) :
    Calls Try.prog 63 #[.pointer (some ⟨b, off, none⟩), .slice a zs.length cap] w fun e W' => ∃ v g, e = .returned (.int .i64 v) ∧ Hid (Step f (norm zs) v g) ∧ Hid (After ⟨b, off, none⟩ g w W') := by
  have HC : Hid _ := hc
  have HF : Hid _ := hf
  have C2 : Hid _ := rtells_any b off f 0 false w hc hf
  have C1 := rgreat_row zs a cap w hz ha
  by_cases h8 : 8 < zs.length
  · have HA : Hid _ := (by unfold norm; rw [if_pos h8] : norm zs = none)
    clear C1 hc hf ha
    go_enter Try.func63, Try.ntmps63
    go_wp2_with (fail)
    refine Calls.mono C2.out ?_
    rintro e w2 ⟨rfl, hb2⟩
    go_wp2_with (fail)
    go_ret
    exact told_end HA.out.symm (Below.refl _ _) hb2 HC.out HF.out
  · cases hg : zs.any great
    · have HA : Hid _ := (by unfold norm; rw [if_neg h8, hg]; rfl : norm zs = Fx.told (isq (prods zs zs).toNat))
      have HS : Hid _ := sumw_row zs zs a a cap cap w (by omega) rfl hg hg ha ha
      rw [hg] at C1
      have K1 : Hid _ := C1
      clear C1 hc hf ha hg C2
      go_enter Try.func63, Try.ntmps63
      go_wp2_with (fail)
      refine Calls.mono K1.out ?_
      rintro e w1 ⟨rfl, hw⟩
      rw [hw]; clear hw
      go_wp2_with (fail)
      refine Calls.mono HS.out ?_
      rintro e w1 ⟨s, d, rfl, S1, B1⟩
      go_wp2_with (fail)
      refine (rootw_any s d _ S1.out.1 (by rw [S1.out.2]; exact prods_self zs)).mono ?_
      rintro e w3 ⟨n, ok, rfl, S3, B3⟩
      have B5 : Hid (Below w.heap.size w w3) := below_step B1.out B3.out
      have S5 : Hid _ := fits_told S3.out
      rw [S1.out.2] at S5
      clear S1 S3 B1 B3 K1 HS
      go_wp2_with (fail)
      refine (rtells_any b off f n ok _ (cell_after B5.out HC.out) (frozen_after B5.out HC.out HF.out)).mono ?_
      rintro e w6 ⟨rfl, hb2⟩
      go_wp2_with (fail)
      go_ret
      exact told_end (S5.out.trans HA.out.symm) B5.out hb2 HC.out HF.out
    · have HA : Hid _ := (by unfold norm; rw [if_neg h8, hg]; rfl : norm zs = none)
      rw [hg] at C1
      have K1 : Hid _ := C1
      clear C1 hc hf ha hg
      go_enter Try.func63, Try.ntmps63
      go_wp2_with (fail)
      refine Calls.mono K1.out ?_
      rintro e w1 ⟨rfl, hw⟩
      rw [hw]; clear hw
      go_wp2_with (fail)
      refine Calls.mono C2.out ?_
      rintro e w2 ⟨rfl, hb2⟩
      go_wp2_with (fail)
      go_ret
      exact told_end HA.out.symm (Below.refl _ _) hb2 HC.out HF.out

end Go.Proofs.Ytfalniafkambmaa
namespace Go.Proofs.Ytfalniafkambmaa
open Go.RowKit Ref Fx
set_option linter.unusedVariables false

set_option maxRecDepth 100000 in
set_option maxHeartbeats 2000000 in
theorem rvadd_law (b off : Nat) (f : Bool) (x0 x1 x2 y0 y1 y2 : Int) (W : World) (hc : W.cell? ⟨b, off, none⟩ = some (.bool f)) (hf : W.frozen? ⟨b, off, none⟩ = false) :
    Calls Try.prog 39 #[.pointer (some ⟨b, off, none⟩), .agg #[.int .i64 (x0), .int .i64 (x1), .int .i64 (x2)], .agg #[.int .i64 (y0), .int .i64 (y1), .int .i64 (y2)]] W fun e W' => ∃ v0 v1 v2 g, e = .returned (.agg #[.int .i64 (v0), .int .i64 (v1), .int .i64 (v2)]) ∧ Hid (Step3 f (add x0 y0) (add x1 y1) (add x2 y2) v0 v1 v2 g) ∧ Hid (After ⟨b, off, none⟩ g W W') := by
  have hbW : b < W.heap.size := World.block_lt_of_cell? _ _ hc
  go_enter Try.func39, Try.ntmps39
  go_wp2_with (fail)
  refine (rvbare_any _).mono ?_
  rintro e W1 ⟨rfl, rfl⟩
  obtain ⟨U, hU⟩ : ∃ U, U = ((((W.alloc (.cells #[.int .i64 (x0), .int .i64 (x1), .int .i64 (x2)] 27)).alloc (.cells #[.int .i64 (y0), .int .i64 (y1), .int .i64 (y2)] 27)).alloc (.cells #[.int .i64 0, .int .i64 0, .int .i64 0] 27)).alloc (.cells #[.bool false] 77)) := ⟨_, rfl⟩
  obtain ⟨pa, hpa⟩ : ∃ p, p = W.heap.size := ⟨_, rfl⟩
  obtain ⟨pb, hpb⟩ : ∃ p, p = W.heap.size + 1 := ⟨_, rfl⟩
  obtain ⟨pr, hpr⟩ : ∃ p, p = W.heap.size + 1 + 1 := ⟨_, rfl⟩
  obtain ⟨po, hpo⟩ : ∃ p, p = W.heap.size + 1 + 1 + 1 := ⟨_, rfl⟩
  have H : Hid (Ho W U ⟨b, off, none⟩ po f false [(⟨pa, 0, none⟩, .int .i64 (x0)), (⟨pa, 1, none⟩, .int .i64 (x1)), (⟨pa, 2, none⟩, .int .i64 (x2)), (⟨pb, 0, none⟩, .int .i64 (y0)), (⟨pb, 1, none⟩, .int .i64 (y1)), (⟨pb, 2, none⟩, .int .i64 (y2)), (⟨pr, 0, none⟩, .int .i64 (0)), (⟨pr, 1, none⟩, .int .i64 (0)), (⟨pr, 2, none⟩, .int .i64 (0))]) := by
    refine ⟨by rw [hU]; exact (((((Leaves.refl _ _).alloc _).alloc _).alloc _).alloc _), by rw [hU, World.cell?_alloc_past _ _ _ (by simp; omega), World.cell?_alloc_past _ _ _ (by simp; omega), World.cell?_alloc_past _ _ _ (by simp; omega), World.cell?_alloc_past _ _ _ hbW]; exact hc, by rw [hU, ((new_after _ _).frozen (by simp; omega)), ((new_after _ _).frozen (by simp; omega)), ((new_after _ _).frozen (by simp; omega)), ((new_after _ _).frozen hbW)]; exact hf, by rw [hU, hpo]; simp [go_sem], by rw [hU, hpo]; simp [go_sem], ?_, ?_, hbW, by omega⟩
    · intro c hc
      simp only [List.mem_cons, List.not_mem_nil, or_false] at hc
      rcases hc with rfl | rfl | rfl | rfl | rfl | rfl | rfl | rfl | rfl <;> rw [hU] <;> dsimp only <;> first | (rw [hpa]; exact ⟨by simp [go_sem], by simp [go_sem]⟩) | (rw [hpb]; exact ⟨by simp [go_sem], by simp [go_sem]⟩) | (rw [hpr]; exact ⟨by simp [go_sem], by simp [go_sem]⟩)
    · intro c hc
      simp only [List.mem_cons, List.not_mem_nil, or_false] at hc
      rcases hc with rfl | rfl | rfl | rfl | rfl | rfl | rfl | rfl | rfl <;> (dsimp only) <;> omega
  rw [← hU]
  simp only [World.size_alloc]
  rw [← hpo, ← hpr, ← hpb, ← hpa]
  have q1 : pa < pb := by omega
  have q2 : pb < pr := by omega
  have q3 : pr < po := by omega
  have q0 : W.heap.size ≤ pa := by omega
  clear hU hc hf hpa hpb hpr hpo
  have k_pa_0 := (H.out.fix (⟨pa, 0, none⟩, .int .i64 (x0)) (by simp)).1
  have k_pa_1 := (H.out.fix (⟨pa, 1, none⟩, .int .i64 (x1)) (by simp)).1
  have k_pa_2 := (H.out.fix (⟨pa, 2, none⟩, .int .i64 (x2)) (by simp)).1
  have k_pb_0 := (H.out.fix (⟨pb, 0, none⟩, .int .i64 (y0)) (by simp)).1
  have k_pb_1 := (H.out.fix (⟨pb, 1, none⟩, .int .i64 (y1)) (by simp)).1
  have k_pb_2 := (H.out.fix (⟨pb, 2, none⟩, .int .i64 (y2)) (by simp)).1
  have l_pa := World.block_lt_of_cell? _ _ k_pa_0
  dsimp only at l_pa
  have l_pb := World.block_lt_of_cell? _ _ k_pb_0
  dsimp only at l_pb
  have ho := H.out.own
  have hof := H.out.ownf
  go_wp2_with (fail)
  refine (radd_law po 0 false x0 y0 _ ho hof).mono ?_
  rintro e Wg1 ⟨v0, g1, rfl, Sg1, A⟩
  have H : Hid _ := H.out.after A.out
  clear A k_pa_0 k_pa_1 k_pa_2 k_pb_0 k_pb_1 k_pb_2 l_pa l_pb ho hof
  have k_pa_0 := (H.out.fix (⟨pa, 0, none⟩, .int .i64 (x0)) (by simp)).1
  have k_pa_1 := (H.out.fix (⟨pa, 1, none⟩, .int .i64 (x1)) (by simp)).1
  have k_pa_2 := (H.out.fix (⟨pa, 2, none⟩, .int .i64 (x2)) (by simp)).1
  have k_pb_0 := (H.out.fix (⟨pb, 0, none⟩, .int .i64 (y0)) (by simp)).1
  have k_pb_1 := (H.out.fix (⟨pb, 1, none⟩, .int .i64 (y1)) (by simp)).1
  have k_pb_2 := (H.out.fix (⟨pb, 2, none⟩, .int .i64 (y2)) (by simp)).1
  have l_pa := World.block_lt_of_cell? _ _ k_pa_0
  dsimp only at l_pa
  have l_pb := World.block_lt_of_cell? _ _ k_pb_0
  dsimp only at l_pb
  have ho := H.out.own
  have hof := H.out.ownf
  go_wp2_with (fail)
  refine (radd_law po 0 g1 x1 y1 _ ho hof).mono ?_
  rintro e Wg2 ⟨v1, g2, rfl, Sg2, A⟩
  have H : Hid _ := H.out.after A.out
  clear A k_pa_0 k_pa_1 k_pa_2 k_pb_0 k_pb_1 k_pb_2 l_pa l_pb ho hof
  have k_pa_0 := (H.out.fix (⟨pa, 0, none⟩, .int .i64 (x0)) (by simp)).1
  have k_pa_1 := (H.out.fix (⟨pa, 1, none⟩, .int .i64 (x1)) (by simp)).1
  have k_pa_2 := (H.out.fix (⟨pa, 2, none⟩, .int .i64 (x2)) (by simp)).1
  have k_pb_0 := (H.out.fix (⟨pb, 0, none⟩, .int .i64 (y0)) (by simp)).1
  have k_pb_1 := (H.out.fix (⟨pb, 1, none⟩, .int .i64 (y1)) (by simp)).1
  have k_pb_2 := (H.out.fix (⟨pb, 2, none⟩, .int .i64 (y2)) (by simp)).1
  have l_pa := World.block_lt_of_cell? _ _ k_pa_0
  dsimp only at l_pa
  have l_pb := World.block_lt_of_cell? _ _ k_pb_0
  dsimp only at l_pb
  have ho := H.out.own
  have hof := H.out.ownf
  go_wp2_with (fail)
  refine (radd_law po 0 g2 x2 y2 _ ho hof).mono ?_
  rintro e Wg3 ⟨v2, g3, rfl, Sg3, A⟩
  have H : Hid _ := H.out.after A.out
  clear A k_pa_0 k_pa_1 k_pa_2 k_pb_0 k_pb_1 k_pb_2 l_pa l_pb ho hof
  go_wp2_with (fail)
  refine (done_any b off po f g3 _ H.out.flag H.out.flagf H.out.own (by omega)).mono ?_
  rintro e V9 ⟨rfl, A⟩
  have rr0 := A.out.cellOf (H.out.fix (⟨pr, 0, none⟩, .int .i64 (0)) (by simp)).1 (by show pr ≠ b; omega)
  have rf0 := A.out.frozenOf (H.out.fix (⟨pr, 0, none⟩, .int .i64 (0)) (by simp)).1 (H.out.fix (⟨pr, 0, none⟩, .int .i64 (0)) (by simp)).2 (by show pr ≠ b; omega)
  have rr1 := A.out.cellOf (H.out.fix (⟨pr, 1, none⟩, .int .i64 (0)) (by simp)).1 (by show pr ≠ b; omega)
  have rf1 := A.out.frozenOf (H.out.fix (⟨pr, 1, none⟩, .int .i64 (0)) (by simp)).1 (H.out.fix (⟨pr, 1, none⟩, .int .i64 (0)) (by simp)).2 (by show pr ≠ b; omega)
  have rr2 := A.out.cellOf (H.out.fix (⟨pr, 2, none⟩, .int .i64 (0)) (by simp)).1 (by show pr ≠ b; omega)
  have rf2 := A.out.frozenOf (H.out.fix (⟨pr, 2, none⟩, .int .i64 (0)) (by simp)).1 (H.out.fix (⟨pr, 2, none⟩, .int .i64 (0)) (by simp)).2 (by show pr ≠ b; omega)
  have HL : Hid (Leaves ⟨b, off, none⟩ W V9) := H.out.leaves.same A.out
  have hp := A.out.cell
  have hpf := A.out.frozen
  have n1 : b ≠ pr := by omega
  have n2 : pr ≠ b := by omega
  have hWr : W.heap.size ≤ pr := by omega
  have HS : Hid _ := step3_chain (f := f) Sg1.out Sg2.out Sg3.out
  clear A H
  cases g3 with
  | true =>
    go_wp2_with (fail)
    refine bodyPost_ret (by simp [results, Try.results39, go_sem, rr0, rr1, rr2]; try rfl) rfl ?_
    refine ⟨0, 0, 0, _, rfl, HS.out, (((HL.out.set hWr _).set hWr _).set hWr _).done ?_ ?_⟩
    · simp [go_sem, hp]
    · simp [go_sem, hpf]
  | false =>
    go_wp2_with (fail)
    refine bodyPost_ret (by simp [results, Try.results39, go_sem, rr0, rr1, rr2]; try rfl) rfl ?_
    refine ⟨_, _, _, _, rfl, HS.out, (((HL.out.set hWr _).set hWr _).set hWr _).done ?_ ?_⟩
    · simp [go_sem, hp]
    · simp [go_sem, hpf]

theorem step1_done {f g : Bool} {o : Option Int} {v : Int} (h : Step false o v g) : Step f o v (f || g) := by
  obtain ⟨rfl, rfl⟩ := h
  exact ⟨rfl, by simp only [Bool.false_or]⟩
set_option maxRecDepth 100000 in
set_option maxHeartbeats 2000000 in
theorem rvdot_law (b off : Nat) (f : Bool) (x0 x1 x2 y0 y1 y2 : Int) (W : World) (hc : W.cell? ⟨b, off, none⟩ = some (.bool f)) (hf : W.frozen? ⟨b, off, none⟩ = false) :
    Calls Try.prog 70 #[.pointer (some ⟨b, off, none⟩), .agg #[.int .i64 (x0), .int .i64 (x1), .int .i64 (x2)], .agg #[.int .i64 (y0), .int .i64 (y1), .int .i64 (y2)]] W fun e W' => ∃ v g, e = .returned (.int .i64 v) ∧ Hid (Step f (dot [x0, x1, x2] [y0, y1, y2]) v g) ∧ Hid (After ⟨b, off, none⟩ g W W') := by
  have hbW : b < W.heap.size := World.block_lt_of_cell? _ _ hc
  go_enter Try.func70, Try.ntmps70
  go_wp2_with (fail)
  refine (rvbare_any _).mono ?_
  rintro e W1 ⟨rfl, rfl⟩
  obtain ⟨U, hU⟩ : ∃ U, U = (((W.alloc (.cells #[.int .i64 (x0), .int .i64 (x1), .int .i64 (x2)] 27)).alloc (.cells #[.int .i64 (y0), .int .i64 (y1), .int .i64 (y2)] 27)).alloc (.cells #[.bool false] 77)) := ⟨_, rfl⟩
  obtain ⟨pa, hpa⟩ : ∃ p, p = W.heap.size := ⟨_, rfl⟩
  obtain ⟨pb, hpb⟩ : ∃ p, p = W.heap.size + 1 := ⟨_, rfl⟩
  obtain ⟨po, hpo⟩ : ∃ p, p = W.heap.size + 1 + 1 := ⟨_, rfl⟩
  have H : Hid (Ho W U ⟨b, off, none⟩ po f false [(⟨pa, 0, none⟩, .int .i64 (x0)), (⟨pa, 1, none⟩, .int .i64 (x1)), (⟨pa, 2, none⟩, .int .i64 (x2)), (⟨pb, 0, none⟩, .int .i64 (y0)), (⟨pb, 1, none⟩, .int .i64 (y1)), (⟨pb, 2, none⟩, .int .i64 (y2))]) := by
    refine ⟨by rw [hU]; exact ((((Leaves.refl _ _).alloc _).alloc _).alloc _), by rw [hU, World.cell?_alloc_past _ _ _ (by simp; omega), World.cell?_alloc_past _ _ _ (by simp; omega), World.cell?_alloc_past _ _ _ hbW]; exact hc, by rw [hU, ((new_after _ _).frozen (by simp; omega)), ((new_after _ _).frozen (by simp; omega)), ((new_after _ _).frozen hbW)]; exact hf, by rw [hU, hpo]; simp [go_sem], by rw [hU, hpo]; simp [go_sem], ?_, ?_, hbW, by omega⟩
    · intro c hc
      simp only [List.mem_cons, List.not_mem_nil, or_false] at hc
      rcases hc with rfl | rfl | rfl | rfl | rfl | rfl <;> rw [hU] <;> dsimp only <;> first | (rw [hpa]; exact ⟨by simp [go_sem], by simp [go_sem]⟩) | (rw [hpb]; exact ⟨by simp [go_sem], by simp [go_sem]⟩)
    · intro c hc
      simp only [List.mem_cons, List.not_mem_nil, or_false] at hc
      rcases hc with rfl | rfl | rfl | rfl | rfl | rfl <;> (dsimp only) <;> omega
  rw [← hU]
  simp only [World.size_alloc]
  rw [← hpo, ← hpb, ← hpa]
  have q1 : pa < pb := by omega
  have q2 : pb < po := by omega
  have q0 : W.heap.size ≤ pa := by omega
  clear hU hc hf hpa hpb hpo
  have k_pa_0 := (H.out.fix (⟨pa, 0, none⟩, .int .i64 (x0)) (by simp)).1
  have k_pa_1 := (H.out.fix (⟨pa, 1, none⟩, .int .i64 (x1)) (by simp)).1
  have k_pa_2 := (H.out.fix (⟨pa, 2, none⟩, .int .i64 (x2)) (by simp)).1
  have k_pb_0 := (H.out.fix (⟨pb, 0, none⟩, .int .i64 (y0)) (by simp)).1
  have k_pb_1 := (H.out.fix (⟨pb, 1, none⟩, .int .i64 (y1)) (by simp)).1
  have k_pb_2 := (H.out.fix (⟨pb, 2, none⟩, .int .i64 (y2)) (by simp)).1
  have l_pa := World.block_lt_of_cell? _ _ k_pa_0
  dsimp only at l_pa
  have l_pb := World.block_lt_of_cell? _ _ k_pb_0
  dsimp only at l_pb
  have ho := H.out.own
  have hof := H.out.ownf
  go_wp2_with (fail)
  refine (rdot_law po 0 false [x0, x1, x2] [y0, y1, y2] (some ⟨U.heap.size, 0, none⟩) (some ⟨U.heap.size + 1, 0, none⟩) 3 3 ((U.alloc (.cells #[.int .i64 x0, .int .i64 x1, .int .i64 x2] 3)).alloc (.cells #[.int .i64 y0, .int .i64 y1, .int .i64 y2] 3)) ((H.out.alloc (.cells #[.int .i64 x0, .int .i64 x1, .int .i64 x2] 3)).alloc (.cells #[.int .i64 y0, .int .i64 y1, .int .i64 y2] 3)).own ((H.out.alloc (.cells #[.int .i64 x0, .int .i64 x1, .int .i64 x2] 3)).alloc (.cells #[.int .i64 y0, .int .i64 y1, .int .i64 y2] 3)).ownf (by simp) (by simp) (row3 (by simp [go_sem]) (by simp [go_sem]) (by simp [go_sem])) (row3 (by simp [go_sem]) (by simp [go_sem]) (by simp [go_sem]))).mono ?_
  rintro e Wg1 ⟨v0, g1, rfl, Sg1, A⟩
  have H : Hid _ := ((H.out.alloc (.cells #[.int .i64 x0, .int .i64 x1, .int .i64 x2] 3)).alloc (.cells #[.int .i64 y0, .int .i64 y1, .int .i64 y2] 3)).after A.out
  clear A k_pa_0 k_pa_1 k_pa_2 k_pb_0 k_pb_1 k_pb_2 l_pa l_pb ho hof
  go_wp2_with (fail)
  refine (done_any b off po f g1 _ H.out.flag H.out.flagf H.out.own (by omega)).mono ?_
  rintro e V9 ⟨rfl, A⟩
  have HA : Hid (After ⟨b, off, none⟩ (f || g1) W V9) := (H.out.leaves.same A.out).done A.out.cell A.out.frozen
  clear A H
  go_wp2_with (fail)
  go_ret
  exact ⟨v0, _, rfl, step1_done Sg1.out, HA⟩

end Go.Proofs.Ytfalniafkambmaa
