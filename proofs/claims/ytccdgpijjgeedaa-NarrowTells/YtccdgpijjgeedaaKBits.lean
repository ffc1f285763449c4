/- Plain arithmetic, no program in sight: the digits of a long division (two digits of 32 bits by a normal divisor), whole square roots, the numbers of fx. -/
import Derived.Test.YtccdgpijjgeedaaProg
import Derived.WalkKit
import Derived.Laws.MathBits
import Derived.Laws.Externs
import Derived.Handy
import Derived.Laws.BitsAllLaws
import Derived.WalkLawsBesides
namespace Go.Proofs.Ytccdgpijjgeedaa.Fx

theorem div_of {n y q : Int} (hy : 0 < y) (h1 : q * y ≤ n) (h2 : n < (q + 1) * y) : n / y = q ∧ n % y = n - q * y := by
  have e : n / y = q := by
    apply Int.le_antisymm
    · have := (Int.ediv_lt_iff_lt_mul hy).2 h2; omega
    · exact (Int.le_ediv_iff_mul_le hy).2 h1
  refine ⟨e, ?_⟩
  have := Int.emod_add_mul_ediv n y
  rw [e, Int.mul_comm] at this
  omega

theorem div_is (n y : Int) (hy : 0 < y) : n / y * y ≤ n ∧ n < (n / y + 1) * y := by
  have a := Int.emod_add_mul_ediv n y
  have b := Int.emod_nonneg n (by omega : y ≠ 0)
  have c := Int.emod_lt_of_pos n hy
  rw [Int.add_mul, Int.mul_comm (n / y) y]
  omega

/-- A digit's guess q with its rest r: never too small, at most two too great. -/
def Inv (U1 y1 Q q r : Int) : Prop := r + q * y1 = U1 ∧ 0 ≤ r ∧ Q ≤ q ∧ q ≤ 4294967297

theorem inv_start {U1 u1 y1 y0 Q : Int} (hU : 0 ≤ U1) (hUY : U1 < y1 * 4294967296 + y0) (hu0 : 0 ≤ u1) (hu : u1 < 4294967296) (hy0 : 0 ≤ y0) (hy0' : y0 < 4294967296) (hy1 : 2147483648 ≤ y1)
    (hQ0 : 0 ≤ Q) (hQ : Q * (y1 * 4294967296 + y0) ≤ U1 * 4294967296 + u1) : Inv U1 y1 Q (U1 / y1) (U1 % y1) ∧ U1 % y1 < y1 := by
  have a := Int.emod_add_mul_ediv U1 y1
  have b := Int.emod_nonneg U1 (by omega : y1 ≠ 0)
  have c := Int.emod_lt_of_pos U1 (by omega : 0 < y1)
  rw [Int.mul_comm] at a
  refine ⟨⟨a, b, ?_, ?_⟩, c⟩
  · apply (Int.le_ediv_iff_mul_le (by omega)).2
    have e : Q * (y1 * 4294967296 + y0) = Q * y1 * 4294967296 + Q * y0 := by rw [Int.mul_add, Int.mul_assoc]
    have := Int.mul_nonneg hQ0 hy0
    omega
  · have : U1 / y1 < 4294967298 := (Int.ediv_lt_iff_lt_mul (by omega)).2 (by omega)
    omega

theorem inv_step {U1 u1 y1 y0 Q q r : Int} (hUY : U1 < y1 * 4294967296 + y0) (hu0 : 0 ≤ u1) (hu : u1 < 4294967296) (hy0 : 0 ≤ y0) (hy1 : 2147483648 ≤ y1)
    (hQ : Q * (y1 * 4294967296 + y0) ≤ U1 * 4294967296 + u1) (hi : Inv U1 y1 Q q r) (hc : 4294967296 ≤ q ∨ 4294967296 * r + u1 < q * y0) : Inv U1 y1 Q (q - 1) (r + y1) := by
  obtain ⟨h1, h2, h3, h4⟩ := hi
  have e : q * (y1 * 4294967296 + y0) = q * y1 * 4294967296 + q * y0 := by rw [Int.mul_add, Int.mul_assoc]
  have hlt : Q < q := by
    rcases hc with hc | hc
    · have : Q * (y1 * 4294967296 + y0) < 4294967296 * (y1 * 4294967296 + y0) := by omega
      have := Int.lt_of_mul_lt_mul_right this (by omega)
      omega
    · have : Q * (y1 * 4294967296 + y0) < q * (y1 * 4294967296 + y0) := by omega
      exact Int.lt_of_mul_lt_mul_right this (by omega)
  refine ⟨?_, by omega, by omega, by omega⟩
  rw [Int.sub_mul]
  omega

theorem inv_end {U1 u1 y1 y0 Q q r : Int} (hy0 : 0 ≤ y0) (hy1 : 2147483648 ≤ y1)
    (hQ : U1 * 4294967296 + u1 < (Q + 1) * (y1 * 4294967296 + y0)) (hi : Inv U1 y1 Q q r) (hc : q * y0 ≤ 4294967296 * r + u1) : q = Q := by
  obtain ⟨h1, h2, h3, h4⟩ := hi
  have e : q * (y1 * 4294967296 + y0) = q * y1 * 4294967296 + q * y0 := by rw [Int.mul_add, Int.mul_assoc]
  have : q * (y1 * 4294967296 + y0) < (Q + 1) * (y1 * 4294967296 + y0) := by omega
  have := Int.lt_of_mul_lt_mul_right this (by omega)
  omega

theorem inv_break {U1 u1 y1 y0 Q q r : Int} (hy0 : 0 ≤ y0) (hy0' : y0 < 4294967296) (hy1 : 2147483648 ≤ y1) (hu0 : 0 ≤ u1)
    (hQ : U1 * 4294967296 + u1 < (Q + 1) * (y1 * 4294967296 + y0)) (hi : Inv U1 y1 Q q r) (hq : q ≤ 4294967296) (hr : 4294967296 ≤ r) : q = Q := by
  refine inv_end hy0 hy1 hQ hi ?_
  have := Int.mul_le_mul_of_nonneg_right hq hy0
  omega

/-- Two digits, one behind the other: the quotient and the rest of what is three digits long. -/
theorem two_digits {U1 u1 u0 Y Q1 Q0 : Int} (hY : 0 < Y) (_hu : 0 ≤ u0) (_hu' : u0 < 4294967296)
    (_h1 : Q1 * Y ≤ U1 * 4294967296 + u1) (_h2 : U1 * 4294967296 + u1 < (Q1 + 1) * Y)
    (h3 : Q0 * Y ≤ (U1 * 4294967296 + u1 - Q1 * Y) * 4294967296 + u0) (h4 : (U1 * 4294967296 + u1 - Q1 * Y) * 4294967296 + u0 < (Q0 + 1) * Y) :
    (U1 * 18446744073709551616 + u1 * 4294967296 + u0) / Y = Q1 * 4294967296 + Q0 ∧
    (U1 * 18446744073709551616 + u1 * 4294967296 + u0) % Y = (U1 * 4294967296 + u1 - Q1 * Y) * 4294967296 + u0 - Q0 * Y := by
  have e : (Q1 * 4294967296 + Q0) * Y = Q1 * Y * 4294967296 + Q0 * Y := by rw [Int.add_mul, Int.mul_right_comm]
  have e' : (Q1 * 4294967296 + Q0 + 1) * Y = Q1 * Y * 4294967296 + (Q0 + 1) * Y := by rw [Int.add_assoc, Int.add_mul, Int.mul_right_comm]
  have := div_of (n := U1 * 18446744073709551616 + u1 * 4294967296 + u0) (q := Q1 * 4294967296 + Q0) hY (by omega) (by omega)
  omega

theorem digit (U1 u1 Y : Int) (h0 : 0 ≤ U1) (h1 : U1 < Y) (h2 : 0 ≤ u1) (h3 : u1 < 4294967296) :
    ∃ Q, 0 ≤ Q ∧ Q < 4294967296 ∧ Q * Y ≤ U1 * 4294967296 + u1 ∧ U1 * 4294967296 + u1 < (Q + 1) * Y := by
  obtain ⟨a, b⟩ := div_is (U1 * 4294967296 + u1) Y (by omega)
  refine ⟨_, ?_, ?_, a, b⟩
  · exact Int.ediv_nonneg (by omega) (by omega)
  · exact (Int.ediv_lt_iff_lt_mul (by omega)).2 (by omega)

theorem scaled {n y : Int} (s : Nat) (hy : 0 < y) : (n * 2 ^ s) / (y * 2 ^ s) = n / y ∧ (n * 2 ^ s) % (y * 2 ^ s) / 2 ^ s = n % y := by
  have hp : (0 : Int) < 2 ^ s := Int.pow_pos (by omega)
  have := div_is n y hy
  have a : n / y * (y * 2 ^ s) ≤ n * 2 ^ s := by rw [← Int.mul_assoc]; exact Int.mul_le_mul_of_nonneg_right this.1 (by omega)
  have b : n * 2 ^ s < (n / y + 1) * (y * 2 ^ s) := by rw [← Int.mul_assoc]; exact Int.mul_lt_mul_of_pos_right this.2 hp
  have h := div_of (Int.mul_pos hy hp) a b
  refine ⟨h.1, ?_⟩
  have m := Int.emod_add_mul_ediv n y
  have e : n * 2 ^ s - n / y * (y * 2 ^ s) = (n % y) * 2 ^ s := by
    rw [← Int.mul_assoc, ← Int.sub_mul]
    congr 1
    rw [Int.mul_comm]; omega
  rw [h.2, e]
  exact Int.mul_ediv_cancel _ (by omega)

/-- The quotient, down, whatever the divisor's sign. -/
def fl (X c : Int) : Int := if c < 0 then (-X) / (-c) else X / c

theorem neg_div {T c : Int} (hc : 0 < c) : (-T) / c = if T % c = 0 then -(T / c) else -(T / c + 1) := by
  have a := Int.emod_add_mul_ediv T c
  have b := Int.emod_nonneg T (by omega : c ≠ 0)
  have d := Int.emod_lt_of_pos T hc
  rw [Int.mul_comm] at a
  split
  · refine (div_of hc ?_ ?_).1
    · rw [Int.neg_mul]; omega
    · rw [Int.add_mul, Int.neg_mul]; omega
  · refine (div_of hc ?_ ?_).1
    · rw [Int.neg_mul, Int.add_mul]; omega
    · rw [Int.neg_add, Int.neg_add_cancel_right, Int.neg_mul]; omega

/-- The whole square root, down. -/
def isq : Nat → Nat
  | 0 => 0
  | n + 1 => if (isq n + 1) * (isq n + 1) ≤ n + 1 then isq n + 1 else isq n

theorem isq_is (n : Nat) : isq n * isq n ≤ n ∧ n < (isq n + 1) * (isq n + 1) := by
  induction n with
  | zero => simp [isq]
  | succ n ih =>
    simp only [isq]
    split
    · refine ⟨by assumption, ?_⟩
      have : (isq n + 1 + 1) * (isq n + 1 + 1) = (isq n + 1) * (isq n + 1) + 2 * isq n + 3 := by grind
      omega
    · omega

theorem isq_of {X r : Int} (h0 : 0 ≤ r) (h1 : r * r ≤ X) (h2 : X < (r + 1) * (r + 1)) : r = (isq X.toNat : Int) := by
  have hX : 0 ≤ X := Int.le_trans (Int.mul_nonneg h0 h0) h1
  obtain ⟨x, rfl⟩ := Int.eq_ofNat_of_zero_le hX
  obtain ⟨r, rfl⟩ := Int.eq_ofNat_of_zero_le h0
  obtain ⟨a, b⟩ := isq_is x
  simp only [Int.toNat_natCast]
  have h1 : r * r ≤ x := by exact_mod_cast h1
  have h2 : x < (r + 1) * (r + 1) := by exact_mod_cast h2
  have c : r < isq x + 1 := by
    apply Nat.lt_of_not_le; intro h
    have := Nat.mul_le_mul h h; omega
  have d : isq x < r + 1 := by
    apply Nat.lt_of_not_le; intro h
    have := Nat.mul_le_mul h h; omega
  omega

/-! The numbers of fx: what each call tells (nothing: the flag is set). -/
def great (n : Int) : Bool := decide (n < -4611686018427387903) || decide (4611686018427387903 < n)
theorem great_iff (n : Int) : great n = true ↔ n < -4611686018427387903 ∨ 4611686018427387903 < n := by simp [great]
theorem not_great (n : Int) : great n = false ↔ -4611686018427387903 ≤ n ∧ n ≤ 4611686018427387903 := by simp [great]
def told (n : Int) : Option Int := if great n then none else some n
def add (a b : Int) : Option Int := if great a || great b then none else told (a + b)
def sub (a b : Int) : Option Int := if great a || great b then none else told (a - b)
def mul (a b : Int) : Option Int := if great a || great b then none else told (a * b / 4294967296)
def ratio (a b c : Int) : Option Int := if c = 0 then none else if great a || (great b || great c) then none else told (fl (a * b) c)
def root (a : Int) : Option Int := if a < 0 then none else if great a then none else told (isq (a * 4294967296).toNat)
def prods : List Int → List Int → Int
  | a :: l, b :: m => a * b + prods l m
  | _, _ => 0
theorem prods_step : ∀ (k : Nat) (l m : List Int), k < l.length → k < m.length → prods (l.take (k + 1)) (m.take (k + 1)) = prods (l.take k) (m.take k) + l.getD k 0 * m.getD k 0
  | 0, a :: l, b :: m, _, _ => by simp [prods]
  | k + 1, a :: l, b :: m, h, h' => by
    have := prods_step k l m (by simpa using h) (by simpa using h')
    simp only [List.take_succ_cons, prods, List.getD_cons_succ] at this ⊢
    rw [this]; omega
  | _, [], _, h, _ => by simp at h
  | _, _ :: _, [], _, h => by simp at h
theorem prods_bound : ∀ (l m : List Int), l.any great = false → m.any great = false → (prods l m).natAbs ≤ l.length * 21267647932558653957237540927630737409
  | [], _, _, _ => by simp [prods]
  | _ :: _, [], _, _ => by simp [prods]
  | a :: l, b :: m, h, h' => by
    simp only [List.any_cons, Bool.or_eq_false_iff] at h h'
    have := prods_bound l m h.2 h'.2
    have ha := (not_great a).1 h.1
    have hb := (not_great b).1 h'.1
    have hp : (a * b).natAbs ≤ 4611686018427387903 * 4611686018427387903 := by rw [Int.natAbs_mul]; exact Nat.mul_le_mul (by omega) (by omega)
    simp only [prods, List.length_cons]
    omega
theorem prods_self : ∀ (l : List Int), 0 ≤ prods l l
  | [] => by simp [prods]
  | a :: l => by
    have := prods_self l
    have h : 0 ≤ a * a := by rcases Int.le_total 0 a with g | g
                             · exact Int.mul_nonneg g g
                             · exact Int.mul_nonneg_of_nonpos_of_nonpos g g
    simp only [prods]; omega
theorem any_take {l : List Int} (k : Nat) (h : l.any great = false) : (l.take k).any great = false := by
  rw [List.any_eq_false] at h ⊢
  exact fun x hx => h x (List.mem_of_mem_take hx)
theorem getD_small {l : List Int} {k : Nat} (h : l.any great = false) (hk : k < l.length) : great (l.getD k 0) = false := by
  rw [List.any_eq_false] at h
  have := h _ (List.getElem_mem hk)
  simpa [List.getD_eq_getElem?_getD, List.getElem?_eq_getElem hk] using this
def dot (l m : List Int) : Option Int := if l.length ≠ m.length then none else if 8 < l.length then none else if l.any great || m.any great then none else told (prods l m / 4294967296)
def norm (l : List Int) : Option Int := if 8 < l.length then none else if l.any great then none else told (isq (prods l l).toNat)
end Go.Proofs.Ytccdgpijjgeedaa.Fx
/- What math/bits' own text does in this program: Mul64, Add64, Sub64, Len64, LeadingZeros64, each for every uint64. -/
namespace Go.Proofs.Ytccdgpijjgeedaa
open Go.RowKit

theorem sub64_entry {P : Program} (x y b : Nat) (hb : b ≤ 1) (w : World) :
    ((Extern.MathBitsCarry.rows[1]'(by decide)).2 #[.int .u64 x, .int .u64 y, .int .u64 b]).run P w =
      .ok (.tuple #[.int .u64 (((x + 18446744073709551616 - y - b) % 18446744073709551616 : Nat) : Int), .int .u64 ((if x < y + b then 1 else 0 : Nat) : Int)]) w := by
  have : b = 0 ∨ b = 1 := by omega
  rcases this with rfl | rfl <;> rfl

theorem len_fin (x y B : Int) (b : Nat) (hB : B = (b : Int)) (hb : b ≤ 56) (hy : y.toNat = x.toNat / 2 ^ b) (h : b = 0 ∨ y.toNat ≠ 0) (h256 : y.toNat < 256) :
    wrap64 (B + wrap64 (bitLen y.toNat)) = bitLen x.toNat := by
  have l := bitLen_le8 y.toNat h256
  have e : bitLen x.toNat = b + bitLen y.toNat := by
    rcases h with rfl | h
    · rw [hy]; simp
    · rw [hy] at h ⊢; exact bitLen_shift _ _ h
  rw [e, hB]
  unfold wrap64
  omega

theorem bitLen_le64 (x : Int) (hx0 : 0 ≤ x) (hx : x < 18446744073709551616) : bitLen x.toNat ≤ 64 := by
  by_cases h : x.toNat = 0
  · rw [h]; decide
  · have := (bitLen_spec x.toNat).2 h
    by_cases g : bitLen x.toNat ≤ 64
    · exact g
    · exfalso
      have := Nat.pow_le_pow_right (n := 2) (by omega) (show 64 ≤ bitLen x.toNat - 1 by omega)
      omega

end Go.Proofs.Ytccdgpijjgeedaa
/- math/bits.Div64's own text in this program: for every high word below a divisor of less than 2^62 it returns quotient and rest. -/
namespace Go.Proofs.Ytccdgpijjgeedaa
open Go.RowKit Fx

theorem norm_setup (hi lo y : Int) (s : Nat) (hs : (64 : Int) - (bitLen y.toNat : Int) = s) (hh0 : 1 ≤ hi) (hh : hi < y) (hl0 : 0 ≤ lo) (hl : lo < 18446744073709551616) (hy : y < 4611686018427387904) :
    1 ≤ s ∧ s ≤ 63 ∧ ∃ Y y1 y0 U1 L u1 u0 : Int,
      IntKind.u64.wrap (y * 2 ^ s) = Y ∧ Y / 4294967296 = y1 ∧ bits .and .u64 Y 4294967295 = y0 ∧ Y = y1 * 4294967296 + y0 ∧ 0 ≤ y0 ∧ y0 < 4294967296 ∧ 2147483648 ≤ y1 ∧ y1 < 4294967296 ∧
      bits .or .u64 (IntKind.u64.wrap (hi * 2 ^ s)) (lo / 2 ^ (64 - s)) = U1 ∧ 0 ≤ U1 ∧ U1 < Y ∧
      IntKind.u64.wrap (lo * 2 ^ s) = L ∧ L / 4294967296 = u1 ∧ bits .and .u64 L 4294967295 = u0 ∧ 0 ≤ u1 ∧ u1 < 4294967296 ∧ 0 ≤ u0 ∧ u0 < 4294967296 ∧
      Y = y * 2 ^ s ∧ (hi * 18446744073709551616 + lo) * 2 ^ s = U1 * 18446744073709551616 + u1 * 4294967296 + u0 := by
  obtain ⟨b1, b2⟩ := bitLen_spec y.toNat
  have b2 := b2 (by omega)
  generalize hb : bitLen y.toNat = b at *
  have hb62 : b ≤ 62 := by
    by_cases g : b ≤ 62
    · exact g
    · exfalso
      have := Nat.pow_le_pow_right (n := 2) (by omega) (show 62 ≤ b - 1 by omega)
      omega
  have hb1 : 1 ≤ b := by
    rcases Nat.eq_zero_or_pos b with h0 | h0
    · rw [h0] at b1; simp at b1; omega
    · exact h0
  have hs1 : 1 ≤ s := by omega
  have hs2 : s ≤ 63 := by omega
  refine ⟨hs1, hs2, ?_⟩
  have p1 : (2 : Nat) ^ (b - 1) * 2 ^ s = 9223372036854775808 := by rw [← Nat.pow_add, show b - 1 + s = 63 by omega]
  have p2 : (2 : Nat) ^ b * 2 ^ s = 18446744073709551616 := by rw [← Nat.pow_add, show b + s = 64 by omega]
  have p3 : (2 : Nat) ^ (64 - s) * 2 ^ s = 18446744073709551616 := by rw [← Nat.pow_add, show 64 - s + s = 64 by omega]
  have hp : 0 < (2 : Nat) ^ s := Nat.two_pow_pos s
  have hp' : 0 < (2 : Nat) ^ (64 - s) := Nat.two_pow_pos _
  obtain ⟨Y, rfl⟩ := Int.eq_ofNat_of_zero_le (show 0 ≤ y by omega)
  obtain ⟨H, rfl⟩ := Int.eq_ofNat_of_zero_le (show 0 ≤ hi by omega)
  obtain ⟨L, rfl⟩ := Int.eq_ofNat_of_zero_le hl0
  simp only [Int.toNat_natCast] at b1 b2
  have q1 : 9223372036854775808 ≤ Y * 2 ^ s := by rw [← p1]; exact Nat.mul_le_mul_right _ b2
  have q2 : Y * 2 ^ s < 18446744073709551616 := by rw [← p2]; exact Nat.mul_lt_mul_of_pos_right b1 hp
  have q3 : H * 2 ^ s + 2 ^ s ≤ Y * 2 ^ s := by rw [← Nat.succ_mul]; exact Nat.mul_le_mul_right _ (by omega)
  have c1 : ((Y : Int) * 2 ^ s) = ((Y * 2 ^ s : Nat) : Int) := by simp
  have c2 : ((H : Int) * 2 ^ s) = ((H * 2 ^ s : Nat) : Int) := by simp
  have c3 : ((L : Int) * 2 ^ s) = ((L * 2 ^ s : Nat) : Int) := by simp
  have c4 : ((L : Int) / 2 ^ (64 - s)) = ((L / 2 ^ (64 - s) : Nat) : Int) := by simp
  have d1 : L / 2 ^ (64 - s) < 2 ^ s := by
    rw [Nat.div_lt_iff_lt_mul hp', Nat.mul_comm, p3]; omega
  have d2 : L * 2 ^ s = L / 2 ^ (64 - s) * 18446744073709551616 + L * 2 ^ s % 18446744073709551616 := by
    have e := Nat.div_add_mod L (2 ^ (64 - s))
    have m : L % 2 ^ (64 - s) * 2 ^ s < 18446744073709551616 := by rw [← p3]; exact Nat.mul_lt_mul_of_pos_right (Nat.mod_lt _ hp') hp
    have e2 : L * 2 ^ s = L / 2 ^ (64 - s) * 18446744073709551616 + L % 2 ^ (64 - s) * 2 ^ s := by
      have : L * 2 ^ s = (2 ^ (64 - s) * (L / 2 ^ (64 - s)) + L % 2 ^ (64 - s)) * 2 ^ s := by rw [e]
      rw [this, Nat.add_mul, Nat.mul_right_comm, p3, Nat.mul_comm 18446744073709551616]
    omega
  have hor : bits .or .u64 (IntKind.u64.wrap ((H : Int) * 2 ^ s)) ((L : Int) / 2 ^ (64 - s)) = ((H * 2 ^ s + L / 2 ^ (64 - s) : Nat) : Int) := by
    rw [IntKind.wrap_u64, c2, c4, show ((H * 2 ^ s : Nat) : Int) % 18446744073709551616 = ((H * 2 ^ s : Nat) : Int) by omega, u64_or_nat _ _ (by omega) (by omega), nat_join s _ _ (Nat.mul_mod_left _ _) d1]
  have htot : ((H : Int) * 18446744073709551616 + L) * 2 ^ s = ((H * 2 ^ s : Nat) : Int) * 18446744073709551616 + ((L * 2 ^ s : Nat) : Int) := by
    rw [← c2, ← c3, Int.add_mul, Int.mul_right_comm]
  rw [hor, htot, c1, c3]
  generalize Y * 2 ^ s = A at *
  generalize H * 2 ^ s = B at *
  generalize L * 2 ^ s = C at *
  generalize L / 2 ^ (64 - s) = D at *
  have wA : IntKind.u64.wrap (A : Int) = (A : Int) := by rw [IntKind.wrap_u64]; omega
  have wC : IntKind.u64.wrap (C : Int) = ((C % 18446744073709551616 : Nat) : Int) := by rw [IntKind.wrap_u64]; omega
  have aA := and_low32 (A : Int) (by omega) (by omega)
  have aC := and_low32 ((C % 18446744073709551616 : Nat) : Int) (by omega) (by omega)
  rw [wA, wC]
  exact ⟨A, _, _, _, _, _, _, rfl, rfl, aA, by omega, by omega, by omega, by omega, by omega, rfl, by omega, by omega, rfl, rfl, aC, by omega, by omega, by omega, by omega, rfl, by omega⟩

end Go.Proofs.Ytccdgpijjgeedaa
/- The program's numbers of 128 bits (package fx, type wide): products, sums, sizes, quotients, roots. -/
namespace Go.Proofs.Ytccdgpijjgeedaa
open Go.RowKit Fx

theorem i64_mul_lt (a b : Int) (ha0 : 0 ≤ a) (ha : a < 9223372036854775808) (hb0 : 0 ≤ b) (hb : b < 9223372036854775808) : 0 ≤ a * b ∧ a * b < 85070591730234615865843651857942052864 := by
  have h1 := Int.mul_nonneg ha0 hb0
  have h2 := Int.mul_le_mul (show a ≤ 9223372036854775807 by omega) (show b ≤ 9223372036854775807 by omega) hb0 (by omega)
  omega

theorem ret_int {k : IntKind} {a b : Int} (h : a = b) : Ending.returned (.int k a) = .returned (.int k b) := by rw [h]
theorem ret_bool {a b : Bool} (h : a = b) : Ending.returned (.bool a) = .returned (.bool b) := by rw [h]
theorem ret_both {k : IntKind} {a b : Int} {c d : Bool} (h : a = b) (h' : c = d) : Ending.returned (.tuple #[.int k a, .bool c]) = .returned (.tuple #[.int k b, .bool d]) := by rw [h, h']

theorem by_one_or (X : Int) : bits .or .u64 (IntKind.u64.wrap (X / 18446744073709551616 % 18446744073709551616 * 4294967296)) (X % 18446744073709551616 / 4294967296) = X / 4294967296 % 18446744073709551616 := by
  rw [IntKind.wrap_u64, u64_or _ _ (by omega) (by omega) (by omega) (by omega), nat_join 32 _ _ (by omega) (by omega)]
  omega

end Go.Proofs.Ytccdgpijjgeedaa
/- The quotient of a number of 128 bits by one of 62, down (package fx, wide.by). -/
namespace Go.Proofs.Ytccdgpijjgeedaa
open Go.RowKit Fx

theorem boxed {W w1 : World} {u v : Value} {t : TypeId} (hb : Below (W.alloc (.cells #[u, v] t)).heap.size (W.alloc (.cells #[u, v] t)) w1) :
    w1.cell? ⟨W.heap.size, 0, none⟩ = some u ∧ w1.cell? ⟨W.heap.size, 1, none⟩ = some v ∧ W.heap.size < w1.heap.size := by
  refine ⟨?_, ?_, ?_⟩
  · rw [hb.cell (by simp)]; simp
  · rw [hb.cell (by simp)]; simp
  · have := hb.size; simp at this; omega

theorem by_world {w w1 w3 : World} {o o' : Obj} {n : Nat} (hb : Below (w.alloc o).heap.size (w.alloc o) w1) (hb3 : Below ((w1.alloc o').drewN n).heap.size ((w1.alloc o').drewN n) w3) : Below w.heap.size w w3 := by
  have a : Below w.heap.size w (w.alloc o) := (Below.refl _ _).alloc (Nat.le_refl _) _
  have s1 := hb.size
  have b : Below w.heap.size w w1 := a.trans (hb.mono (by simp))
  have c : Below w.heap.size w ((w1.alloc o').drewN n) := below_drewN (b.alloc (by simp at s1; omega) _) n
  exact c.trans (hb3.mono (by simp; simp at s1; omega))

end Go.Proofs.Ytccdgpijjgeedaa
/- The whole square root of a number of 128 bits, down (package fx, wide.root). -/
namespace Go.Proofs.Ytccdgpijjgeedaa
open Go.RowKit Fx

theorem no_or {a b : Int} {c : Bool} (h : ¬ a < b) : (decide (a < b) || c) = c := by simp [h]

/-- Half way down: n is a root's upper places; the lowest k places are open. -/
def RInv (X n : Int) (k : Nat) : Prop := n.toNat % 2 ^ k = 0 ∧ n * n ≤ X ∧ X < (n + 2 ^ k) * (n + 2 ^ k) ∧ 0 ≤ n ∧ n + 2 ^ k ≤ 18446744073709551616

theorem rinv_start {X : Int} {n : Nat} (h0 : 0 ≤ X) (hn : n ≤ 127) (h : X < 2 ^ n) : RInv X 0 ((n + 1) / 2) := by
  refine ⟨by simp, by simpa using h0, ?_, by omega, ?_⟩
  · rw [Int.zero_add, ← Int.pow_add]
    have : (2 : Int) ^ n ≤ 2 ^ ((n + 1) / 2 + (n + 1) / 2) := by
      exact_mod_cast Nat.pow_le_pow_right (n := 2) (by omega) (show n ≤ (n + 1) / 2 + (n + 1) / 2 by omega)
    omega
  · rw [Int.zero_add]
    have : (2 : Int) ^ ((n + 1) / 2) ≤ 2 ^ 64 := by
      exact_mod_cast Nat.pow_le_pow_right (n := 2) (by omega) (show (n + 1) / 2 ≤ 64 by omega)
    simpa using this

theorem rinv_next {X n : Int} {j : Nat} (h : RInv X n (j + 1)) : n + 2 ^ j < 18446744073709551616 ∧ (n + 2 ^ j).toNat % 2 ^ j = 0 ∧ n.toNat % 2 ^ j = 0 := by
  obtain ⟨a, b, c, d, e⟩ := h
  have hp : (0 : Int) < 2 ^ j := Int.pow_pos (by omega)
  rw [Int.pow_succ] at e
  have hm : n.toNat % 2 ^ j = 0 := by
    rw [Nat.pow_succ] at a
    have := Nat.mod_mul_right_mod n.toNat (2 ^ j) 2
    rw [a] at this
    simpa using this.symm
  refine ⟨by omega, ?_, hm⟩
  have : (n + 2 ^ j).toNat = n.toNat + 2 ^ j := by
    obtain ⟨m, rfl⟩ := Int.eq_ofNat_of_zero_le d
    have : ((m : Int) + 2 ^ j) = ((m + 2 ^ j : Nat) : Int) := by simp
    rw [this, Int.toNat_natCast, Int.toNat_natCast]
  rw [this, Nat.add_mod_right, hm]

theorem rinv_up {X n : Int} {j : Nat} (h : RInv X n (j + 1)) (hc : (n + 2 ^ j) * (n + 2 ^ j) ≤ X) : RInv X (n + 2 ^ j) j := by
  obtain ⟨_, q, _⟩ := rinv_next h
  obtain ⟨a, b, c, d, e⟩ := h
  have hp : (0 : Int) < 2 ^ j := Int.pow_pos (by omega)
  have s : n + 2 ^ j + 2 ^ j = n + 2 ^ (j + 1) := by rw [Int.pow_succ]; omega
  exact ⟨q, hc, by rw [s]; exact c, by omega, by rw [s]; exact e⟩

theorem rinv_stay {X n : Int} {j : Nat} (h : RInv X n (j + 1)) (hc : X < (n + 2 ^ j) * (n + 2 ^ j)) : RInv X n j := by
  obtain ⟨_, _, q⟩ := rinv_next h
  obtain ⟨a, b, c, d, e⟩ := h
  have hp : (0 : Int) < 2 ^ j := Int.pow_pos (by omega)
  rw [Int.pow_succ] at e
  exact ⟨q, b, hc, d, by omega⟩

theorem root_or {n : Int} {j : Nat} (h0 : 0 ≤ n) (h : n + 2 ^ j < 18446744073709551616) (hm : n.toNat % 2 ^ (j + 1) = 0) : bits .or .u64 n (2 ^ j) = n + 2 ^ j := by
  obtain ⟨m, rfl⟩ := Int.eq_ofNat_of_zero_le h0
  have e : ((2 : Int) ^ j) = ((2 ^ j : Nat) : Int) := by simp
  rw [e] at h ⊢
  rw [u64_or_nat _ _ (by omega) (by omega), nat_join (j + 1) _ _ (by simpa using hm) (Nat.pow_lt_pow_right (by omega) (by omega))]
  simp

end Go.Proofs.Ytccdgpijjgeedaa
/- The whole square root of a number of 128 bits, down (package fx, wide.root): its walk. -/
namespace Go.Proofs.Ytccdgpijjgeedaa
open Go.RowKit Fx

theorem root_world {w wr : World} {o : Obj} (hb : Below (w.alloc o).heap.size (w.alloc o) wr) : Below w.heap.size w wr :=
  ((Below.refl _ _).alloc (Nat.le_refl _) _).trans (hb.mono (by simp))

end Go.Proofs.Ytccdgpijjgeedaa
