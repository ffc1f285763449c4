/- Plain arithmetic, no program in sight: the digits of a long division (two digits of 32 bits by a normal divisor), whole square roots, the numbers of fx. -/
namespace Go.Proofs.Ytccdgpijjgeedaa.Fx

theorem div_of {n y q : Int} (hy : 0 < y) (h1 : q * y ≤ n) (h2 : n < (q + 1) * y) : n / y = q ∧ n % y = n - q * y := by
  have e : n / y = q := by
    apply Int.le_antisymm
    · have := (Int.ediv_lt_iff_lt_mul hy).2 h2; omega
    · exact (Int.le_ediv_iff_mul_le hy).2 h1
  refine ⟨e, ?_⟩
  have := Int.emod_add_mul_ediv n y
  rw [e, Int.mul_comm] at this
  omega

theorem div_is (n y : Int) (hy : 0 < y) : n / y * y ≤ n ∧ n < (n / y + 1) * y := by
  have a := Int.emod_add_mul_ediv n y
  have b := Int.emod_nonneg n (by omega : y ≠ 0)
  have c := Int.emod_lt_of_pos n hy
  rw [Int.add_mul, Int.mul_comm (n / y) y]
  omega

/-- A digit's guess q with its rest r: never too small, at most two too great. -/
def Inv (U1 y1 Q q r : Int) : Prop := r + q * y1 = U1 ∧ 0 ≤ r ∧ Q ≤ q ∧ q ≤ 4294967297

theorem inv_start {U1 u1 y1 y0 Q : Int} (hU : 0 ≤ U1) (hUY : U1 < y1 * 4294967296 + y0) (hu0 : 0 ≤ u1) (hu : u1 < 4294967296) (hy0 : 0 ≤ y0) (hy0' : y0 < 4294967296) (hy1 : 2147483648 ≤ y1)
    (hQ0 : 0 ≤ Q) (hQ : Q * (y1 * 4294967296 + y0) ≤ U1 * 4294967296 + u1) : Inv U1 y1 Q (U1 / y1) (U1 % y1) ∧ U1 % y1 < y1 := by
  have a := Int.emod_add_mul_ediv U1 y1
  have b := Int.emod_nonneg U1 (by omega : y1 ≠ 0)
  have c := Int.emod_lt_of_pos U1 (by omega : 0 < y1)
  rw [Int.mul_comm] at a
  refine ⟨⟨a, b, ?_, ?_⟩, c⟩
  · apply (Int.le_ediv_iff_mul_le (by omega)).2
    have e : Q * (y1 * 4294967296 + y0) = Q * y1 * 4294967296 + Q * y0 := by rw [Int.mul_add, Int.mul_assoc]
    have := Int.mul_nonneg hQ0 hy0
    omega
  · have : U1 / y1 < 4294967298 := (Int.ediv_lt_iff_lt_mul (by omega)).2 (by omega)
    omega

theorem inv_step {U1 u1 y1 y0 Q q r : Int} (hUY : U1 < y1 * 4294967296 + y0) (hu0 : 0 ≤ u1) (hu : u1 < 4294967296) (hy0 : 0 ≤ y0) (hy1 : 2147483648 ≤ y1)
    (hQ : Q * (y1 * 4294967296 + y0) ≤ U1 * 4294967296 + u1) (hi : Inv U1 y1 Q q r) (hc : 4294967296 ≤ q ∨ 4294967296 * r + u1 < q * y0) : Inv U1 y1 Q (q - 1) (r + y1) := by
  obtain ⟨h1, h2, h3, h4⟩ := hi
  have e : q * (y1 * 4294967296 + y0) = q * y1 * 4294967296 + q * y0 := by rw [Int.mul_add, Int.mul_assoc]
  have hlt : Q < q := by
    rcases hc with hc | hc
    · have : Q * (y1 * 4294967296 + y0) < 4294967296 * (y1 * 4294967296 + y0) := by omega
      have := Int.lt_of_mul_lt_mul_right this (by omega)
      omega
    · have : Q * (y1 * 4294967296 + y0) < q * (y1 * 4294967296 + y0) := by omega
      exact Int.lt_of_mul_lt_mul_right this (by omega)
  refine ⟨?_, by omega, by omega, by omega⟩
  rw [Int.sub_mul]
  omega

theorem inv_end {U1 u1 y1 y0 Q q r : Int} (hy0 : 0 ≤ y0) (hy1 : 2147483648 ≤ y1)
    (hQ : U1 * 4294967296 + u1 < (Q + 1) * (y1 * 4294967296 + y0)) (hi : Inv U1 y1 Q q r) (hc : q * y0 ≤ 4294967296 * r + u1) : q = Q := by
  obtain ⟨h1, h2, h3, h4⟩ := hi
  have e : q * (y1 * 4294967296 + y0) = q * y1 * 4294967296 + q * y0 := by rw [Int.mul_add, Int.mul_assoc]
  have : q * (y1 * 4294967296 + y0) < (Q + 1) * (y1 * 4294967296 + y0) := by omega
  have := Int.lt_of_mul_lt_mul_right this (by omega)
  omega

theorem inv_break {U1 u1 y1 y0 Q q r : Int} (hy0 : 0 ≤ y0) (hy0' : y0 < 4294967296) (hy1 : 2147483648 ≤ y1) (hu0 : 0 ≤ u1)
    (hQ : U1 * 4294967296 + u1 < (Q + 1) * (y1 * 4294967296 + y0)) (hi : Inv U1 y1 Q q r) (hq : q ≤ 4294967296) (hr : 4294967296 ≤ r) : q = Q := by
  refine inv_end hy0 hy1 hQ hi ?_
  have := Int.mul_le_mul_of_nonneg_right hq hy0
  omega

/-- Two digits, one behind the other: the quotient and the rest of what is three digits long. -/
theorem two_digits {U1 u1 u0 Y Q1 Q0 : Int} (hY : 0 < Y) (_hu : 0 ≤ u0) (_hu' : u0 < 4294967296)
    (_h1 : Q1 * Y ≤ U1 * 4294967296 + u1) (_h2 : U1 * 4294967296 + u1 < (Q1 + 1) * Y)
    (h3 : Q0 * Y ≤ (U1 * 4294967296 + u1 - Q1 * Y) * 4294967296 + u0) (h4 : (U1 * 4294967296 + u1 - Q1 * Y) * 4294967296 + u0 < (Q0 + 1) * Y) :
    (U1 * 18446744073709551616 + u1 * 4294967296 + u0) / Y = Q1 * 4294967296 + Q0 ∧
    (U1 * 18446744073709551616 + u1 * 4294967296 + u0) % Y = (U1 * 4294967296 + u1 - Q1 * Y) * 4294967296 + u0 - Q0 * Y := by
  have e : (Q1 * 4294967296 + Q0) * Y = Q1 * Y * 4294967296 + Q0 * Y := by rw [Int.add_mul, Int.mul_right_comm]
  have e' : (Q1 * 4294967296 + Q0 + 1) * Y = Q1 * Y * 4294967296 + (Q0 + 1) * Y := by rw [Int.add_assoc, Int.add_mul, Int.mul_right_comm]
  have := div_of (n := U1 * 18446744073709551616 + u1 * 4294967296 + u0) (q := Q1 * 4294967296 + Q0) hY (by omega) (by omega)
  omega

theorem digit (U1 u1 Y : Int) (h0 : 0 ≤ U1) (h1 : U1 < Y) (h2 : 0 ≤ u1) (h3 : u1 < 4294967296) :
    ∃ Q, 0 ≤ Q ∧ Q < 4294967296 ∧ Q * Y ≤ U1 * 4294967296 + u1 ∧ U1 * 4294967296 + u1 < (Q + 1) * Y := by
  obtain ⟨a, b⟩ := div_is (U1 * 4294967296 + u1) Y (by omega)
  refine ⟨_, ?_, ?_, a, b⟩
  · exact Int.ediv_nonneg (by omega) (by omega)
  · exact (Int.ediv_lt_iff_lt_mul (by omega)).2 (by omega)

theorem scaled {n y : Int} (s : Nat) (hy : 0 < y) : (n * 2 ^ s) / (y * 2 ^ s) = n / y ∧ (n * 2 ^ s) % (y * 2 ^ s) / 2 ^ s = n % y := by
  have hp : (0 : Int) < 2 ^ s := Int.pow_pos (by omega)
  have := div_is n y hy
  have a : n / y * (y * 2 ^ s) ≤ n * 2 ^ s := by rw [← Int.mul_assoc]; exact Int.mul_le_mul_of_nonneg_right this.1 (by omega)
  have b : n * 2 ^ s < (n / y + 1) * (y * 2 ^ s) := by rw [← Int.mul_assoc]; exact Int.mul_lt_mul_of_pos_right this.2 hp
  have h := div_of (Int.mul_pos hy hp) a b
  refine ⟨h.1, ?_⟩
  have m := Int.emod_add_mul_ediv n y
  have e : n * 2 ^ s - n / y * (y * 2 ^ s) = (n % y) * 2 ^ s := by
    rw [← Int.mul_assoc, ← Int.sub_mul]
    congr 1
    rw [Int.mul_comm]; omega
  rw [h.2, e]
  exact Int.mul_ediv_cancel _ (by omega)

/-- The quotient, down, whatever the divisor's sign. -/
def fl (X c : Int) : Int := if c < 0 then (-X) / (-c) else X / c

theorem neg_div {T c : Int} (hc : 0 < c) : (-T) / c = if T % c = 0 then -(T / c) else -(T / c + 1) := by
  have a := Int.emod_add_mul_ediv T c
  have b := Int.emod_nonneg T (by omega : c ≠ 0)
  have d := Int.emod_lt_of_pos T hc
  rw [Int.mul_comm] at a
  split
  · refine (div_of hc ?_ ?_).1
    · rw [Int.neg_mul]; omega
    · rw [Int.add_mul, Int.neg_mul]; omega
  · refine (div_of hc ?_ ?_).1
    · rw [Int.neg_mul, Int.add_mul]; omega
    · rw [Int.neg_add, Int.neg_add_cancel_right, Int.neg_mul]; omega

/-- The whole square root, down. -/
def isq : Nat → Nat
  | 0 => 0
  | n + 1 => if (isq n + 1) * (isq n + 1) ≤ n + 1 then isq n + 1 else isq n

theorem isq_is (n : Nat) : isq n * isq n ≤ n ∧ n < (isq n + 1) * (isq n + 1) := by
  induction n with
  | zero => simp [isq]
  | succ n ih =>
    simp only [isq]
    split
    · refine ⟨by assumption, ?_⟩
      have : (isq n + 1 + 1) * (isq n + 1 + 1) = (isq n + 1) * (isq n + 1) + 2 * isq n + 3 := by grind
      omega
    · omega

theorem isq_of {X r : Int} (h0 : 0 ≤ r) (h1 : r * r ≤ X) (h2 : X < (r + 1) * (r + 1)) : r = (isq X.toNat : Int) := by
  have hX : 0 ≤ X := Int.le_trans (Int.mul_nonneg h0 h0) h1
  obtain ⟨x, rfl⟩ := Int.eq_ofNat_of_zero_le hX
  obtain ⟨r, rfl⟩ := Int.eq_ofNat_of_zero_le h0
  obtain ⟨a, b⟩ := isq_is x
  simp only [Int.toNat_natCast]
  have h1 : r * r ≤ x := by exact_mod_cast h1
  have h2 : x < (r + 1) * (r + 1) := by exact_mod_cast h2
  have c : r < isq x + 1 := by
    apply Nat.lt_of_not_le; intro h
    have := Nat.mul_le_mul h h; omega
  have d : isq x < r + 1 := by
    apply Nat.lt_of_not_le; intro h
    have := Nat.mul_le_mul h h; omega
  omega

/-! The numbers of fx: what each call tells (nothing: the flag is set). -/
def great (n : Int) : Bool := decide (n < -4611686018427387903) || decide (4611686018427387903 < n)
theorem great_iff (n : Int) : great n = true ↔ n < -4611686018427387903 ∨ 4611686018427387903 < n := by simp [great]
theorem not_great (n : Int) : great n = false ↔ -4611686018427387903 ≤ n ∧ n ≤ 4611686018427387903 := by simp [great]
def told (n : Int) : Option Int := if great n then none else some n
def add (a b : Int) : Option Int := if great a || great b then none else told (a + b)
def sub (a b : Int) : Option Int := if great a || great b then none else told (a - b)
def mul (a b : Int) : Option Int := if great a || great b then none else told (a * b / 4294967296)
def ratio (a b c : Int) : Option Int := if c = 0 then none else if great a || (great b || great c) then none else told (fl (a * b) c)
def root (a : Int) : Option Int := if a < 0 then none else if great a then none else told (isq (a * 4294967296).toNat)
def prods : List Int → List Int → Int
  | a :: l, b :: m => a * b + prods l m
  | _, _ => 0
theorem prods_step : ∀ (k : Nat) (l m : List Int), k < l.length → k < m.length → prods (l.take (k + 1)) (m.take (k + 1)) = prods (l.take k) (m.take k) + l.getD k 0 * m.getD k 0
  | 0, a :: l, b :: m, _, _ => by simp [prods]
  | k + 1, a :: l, b :: m, h, h' => by
    have := prods_step k l m (by simpa using h) (by simpa using h')
    simp only [List.take_succ_cons, prods, List.getD_cons_succ] at this ⊢
    rw [this]; omega
  | _, [], _, h, _ => by simp at h
  | _, _ :: _, [], _, h => by simp at h
theorem prods_bound : ∀ (l m : List Int), l.any great = false → m.any great = false → (prods l m).natAbs ≤ l.length * 21267647932558653957237540927630737409
  | [], _, _, _ => by simp [prods]
  | _ :: _, [], _, _ => by simp [prods]
  | a :: l, b :: m, h, h' => by
    simp only [List.any_cons, Bool.or_eq_false_iff] at h h'
    have := prods_bound l m h.2 h'.2
    have ha := (not_great a).1 h.1
    have hb := (not_great b).1 h'.1
    have hp : (a * b).natAbs ≤ 4611686018427387903 * 4611686018427387903 := by rw [Int.natAbs_mul]; exact Nat.mul_le_mul (by omega) (by omega)
    simp only [prods, List.length_cons]
    omega
theorem prods_self : ∀ (l : List Int), 0 ≤ prods l l
  | [] => by simp [prods]
  | a :: l => by
    have := prods_self l
    have h : 0 ≤ a * a := by rcases Int.le_total 0 a with g | g
                             · exact Int.mul_nonneg g g
                             · exact Int.mul_nonneg_of_nonpos_of_nonpos g g
    simp only [prods]; omega
theorem any_take {l : List Int} (k : Nat) (h : l.any great = false) : (l.take k).any great = false := by
  rw [List.any_eq_false] at h ⊢
  exact fun x hx => h x (List.mem_of_mem_take hx)
theorem getD_small {l : List Int} {k : Nat} (h : l.any great = false) (hk : k < l.length) : great (l.getD k 0) = false := by
  rw [List.any_eq_false] at h
  have := h _ (List.getElem_mem hk)
  simpa [List.getD_eq_getElem?_getD, List.getElem?_eq_getElem hk] using this
def dot (l m : List Int) : Option Int := if l.length ≠ m.length then none else if 8 < l.length then none else if l.any great || m.any great then none else told (prods l m / 4294967296)
def norm (l : List Int) : Option Int := if 8 < l.length then none else if l.any great then none else told (isq (prods l l).toNat)
end Go.Proofs.Ytccdgpijjgeedaa.Fx
