/- Plain arithmetic of numbers by digits of 24 bits, no program in sight: sums, differences, products and what they compare to. -/
import Derived.Test.YtioailboehpcaaaMath
namespace Go.Proofs.Ytioailboehpcaaa.Ref

/-- The number of the first n digits. -/
def val (d : Nat → Int) : Nat → Int
  | 0 => 0
  | n + 1 => val d n + d n * 16777216 ^ n

/-- Digits. -/
def Digs (d : Nat → Int) : Prop := ∀ j, j < 8 → 0 ≤ d j ∧ d j < 16777216

def put (d : Nat → Int) (k : Nat) (v : Int) : Nat → Int := fun j => if j = k then v else d j
theorem put_same (d : Nat → Int) (k : Nat) (v : Int) : put d k v k = v := by simp [put]
theorem put_other (d : Nat → Int) {k j : Nat} (v : Int) (h : j ≠ k) : put d k v j = d j := by simp [put, h]

theorem pos (n : Nat) : (0 : Int) < 16777216 ^ n := Int.pow_pos (by omega)

theorem val_ext {d e : Nat → Int} : ∀ n, (∀ j, j < n → d j = e j) → val d n = val e n
  | 0, _ => rfl
  | n + 1, h => by
    simp only [val]
    rw [val_ext n (fun j hj => h j (by omega)), h n (by omega)]

theorem val_put_ge (d : Nat → Int) (k : Nat) (v : Int) (n : Nat) (h : n ≤ k) : val (put d k v) n = val d n :=
  val_ext n fun j hj => put_other d v (by omega)

theorem val_put (d : Nat → Int) (k : Nat) (v : Int) : ∀ n, k < n → val (put d k v) n = val d n + (v - d k) * 16777216 ^ k
  | 0, h => by omega
  | n + 1, h => by
    simp only [val]
    by_cases e : k = n
    · subst e
      rw [val_put_ge d k v k (Nat.le_refl _), put_same, Int.sub_mul]; omega
    · rw [val_put d k v n (by omega), put_other d v (by omega : n ≠ k)]; omega

theorem val_nonneg {d : Nat → Int} : ∀ n, (∀ j, j < n → 0 ≤ d j) → 0 ≤ val d n
  | 0, _ => by simp [val]
  | n + 1, h => by
    have a := val_nonneg n (fun j hj => h j (by omega))
    have b := Int.mul_nonneg (h n (by omega)) (Int.le_of_lt (pos n))
    simp only [val]; omega

theorem val_lt {d : Nat → Int} : ∀ n, (∀ j, j < n → 0 ≤ d j ∧ d j < 16777216) → val d n < 16777216 ^ n
  | 0, _ => by simp [val]
  | n + 1, h => by
    have a := val_lt n (fun j hj => h j (by omega))
    have b := Int.mul_le_mul_of_nonneg_right (by have := h n (by omega); omega : d n ≤ 16777215) (Int.le_of_lt (pos n))
    simp only [val, Int.pow_succ]; omega

theorem Digs.nonneg {d : Nat → Int} (h : Digs d) : 0 ≤ val d 8 := val_nonneg 8 fun j hj => (h j hj).1
theorem Digs.lt {d : Nat → Int} (h : Digs d) : val d 8 < 6277101735386680763835789423207666416102355444464034512896 := by
  have := val_lt 8 h; simpa using this
theorem Digs.put {d : Nat → Int} (h : Digs d) (k : Nat) {v : Int} (hv : 0 ≤ v ∧ v < 16777216) : Digs (put d k v) := by
  intro j hj
  by_cases e : j = k
  · subst e; rw [put_same]; exact hv
  · rw [put_other d v e]; exact h j hj

/-- Who has the greater digit, the higher ones alike, is greater. -/
theorem val_less {a b : Nat → Int} (i : Nat) (ha : ∀ j, j < i → 0 ≤ a j ∧ a j < 16777216) (hb : ∀ j, j < i → 0 ≤ b j) (h : a i < b i) : ∀ n, i < n → (∀ j, i < j → j < n → a j = b j) → val a n < val b n
  | 0, hn, _ => by omega
  | n + 1, hn, he => by
    simp only [val]
    by_cases e : i = n
    · subst e
      have h1 := val_lt i ha
      have h2 := val_nonneg i hb
      have h3 := Int.mul_le_mul_of_nonneg_right (by omega : a i + 1 ≤ b i) (Int.le_of_lt (pos i))
      rw [Int.add_mul] at h3; omega
    · have := val_less i ha hb h n (by omega) (fun j h1 h2 => he j h1 (by omega))
      rw [he n (by omega) (by omega)]; omega

/-- One digit of a sum. -/
theorem add_step {V A B c x y P : Int} (h : V + c * P = A + B) : V + (x + y + c) % 16777216 * P + (x + y + c) / 16777216 * (P * 16777216) = A + x * P + (B + y * P) := by
  have e := Int.emod_add_mul_ediv (x + y + c) 16777216
  obtain ⟨r, hr⟩ : ∃ r, r = (x + y + c) % 16777216 := ⟨_, rfl⟩
  obtain ⟨q, hq⟩ : ∃ q, q = (x + y + c) / 16777216 := ⟨_, rfl⟩
  rw [← hr, ← hq] at e ⊢
  have : (r + 16777216 * q) * P = (x + y + c) * P := by rw [e]
  grind

/-- One digit of a product. -/
theorem mul_step {V c o x y P R : Int} (h : V + c * P = R) : V + ((o + x * y + c) % 16777216 - o) * P + (o + x * y + c) / 16777216 * (P * 16777216) = R + x * y * P := by
  have e := Int.emod_add_mul_ediv (o + x * y + c) 16777216
  obtain ⟨r, hr⟩ : ∃ r, r = (o + x * y + c) % 16777216 := ⟨_, rfl⟩
  obtain ⟨q, hq⟩ : ∃ q, q = (o + x * y + c) / 16777216 := ⟨_, rfl⟩
  rw [← hr, ← hq] at e ⊢
  have : (r + 16777216 * q) * P = (o + x * y + c) * P := by rw [e]
  grind

/-- The digits of an int's size. -/
def dig (u : Int) (j : Nat) : Int := u / 16777216 ^ j % 16777216

theorem dig_step (u : Int) (k : Nat) : u / 16777216 ^ k / 16777216 = u / 16777216 ^ (k + 1) := by
  rw [Int.pow_succ, Int.ediv_ediv_of_nonneg (Int.le_of_lt (pos k))]

theorem val_dig (u : Int) : ∀ n, val (dig u) n = u % 16777216 ^ n
  | 0 => by simp [val, Int.emod_one]
  | n + 1 => by
    simp only [val, val_dig u n, dig]
    rw [Int.pow_succ]
    have h1 := Int.emod_add_mul_ediv u (16777216 ^ n)
    have h2 := Int.emod_add_mul_ediv (u / 16777216 ^ n) 16777216
    have hp := pos n
    have b1 := Int.emod_nonneg u (by omega : (16777216 : Int) ^ n ≠ 0)
    have b2 := Int.emod_lt_of_pos u hp
    have b3 := Int.emod_nonneg (u / 16777216 ^ n) (by omega : (16777216 : Int) ≠ 0)
    have b4 := Int.emod_lt_of_pos (u / 16777216 ^ n) (by omega : (0 : Int) < 16777216)
    generalize (16777216 : Int) ^ n = P at *
    generalize u % P = r at *
    generalize u / P = q at *
    generalize q % 16777216 = s at *
    generalize q / 16777216 = t at *
    have hs : s * P ≤ 16777215 * P := Int.mul_le_mul_of_nonneg_right (by omega) (by omega)
    have hs0 : 0 ≤ s * P := Int.mul_nonneg b3 (by omega)
    have e : u = (P * 16777216) * t + (r + s * P) := by rw [← h1, ← h2]; grind
    rw [e, Int.mul_add_emod_self_left, Int.emod_eq_of_lt (by omega) (by omega)]

/-- A number by its sign and its digits. -/
def sv (s : Bool) (d : Nat → Int) : Int := if s then -val d 8 else val d 8
end Go.Proofs.Ytioailboehpcaaa.Ref
