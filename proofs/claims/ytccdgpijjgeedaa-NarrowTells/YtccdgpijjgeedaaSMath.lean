/- Points of grains, and directions made short: plain numbers. -/
import Derived.RowKit
namespace Go.Proofs.Ytccdgpijjgeedaa
set_option linter.unusedVariables false

/-- A point of whole grains. -/
structure Pt where
  x : Int
  y : Int
  z : Int
  deriving DecidableEq
def Pt.O : Pt := ⟨0, 0, 0⟩
instance : Inhabited Pt := ⟨Pt.O⟩
/-- No part's size is above m. -/
def Pt.inB (p : Pt) (m : Int) : Bool := decide ((-m ≤ p.x ∧ p.x ≤ m) ∧ (-m ≤ p.y ∧ p.y ≤ m) ∧ (-m ≤ p.z ∧ p.z ≤ m))
theorem Pt.inB_iff (p : Pt) (m : Int) : p.inB m = true ↔ (-m ≤ p.x ∧ p.x ≤ m) ∧ (-m ≤ p.y ∧ p.y ≤ m) ∧ (-m ≤ p.z ∧ p.z ≤ m) := by simp [Pt.inB]
theorem Pt.inB_no (p : Pt) (m : Int) : p.inB m = false ↔ ¬ ((-m ≤ p.x ∧ p.x ≤ m) ∧ (-m ≤ p.y ∧ p.y ≤ m) ∧ (-m ≤ p.z ∧ p.z ≤ m)) := by rw [← Pt.inB_iff]; simp
def Pt.by (p : Pt) (n : Int) : Pt := ⟨p.x.tdiv n, p.y.tdiv n, p.z.tdiv n⟩
def Pt.neg (p : Pt) : Pt := ⟨-p.x, -p.y, -p.z⟩
def Pt.sub (p q : Pt) : Pt := ⟨p.x - q.x, p.y - q.y, p.z - q.z⟩
def Pt.dot (p q : Pt) : Int := p.x * q.x + p.y * q.y + p.z * q.z
def Pt.cross (p q : Pt) : Pt := ⟨p.y * q.z - p.z * q.y, p.z * q.x - p.x * q.z, p.x * q.y - p.y * q.x⟩
/-- The greatest number that divides all parts. -/
def Pt.g (p : Pt) : Nat := Nat.gcd (Nat.gcd p.x.natAbs p.y.natAbs) p.z.natAbs
def Pt.low (p : Pt) : Pt := if p.g = 0 then p else p.by p.g
def halveF : Nat → Pt → Pt
  | 0, p => p
  | n + 1, p => if p.inB 1048576 then p else halveF n (p.by 2)
def Pt.half (p : Pt) : Pt := halveF 43 p
def Pt.short (p : Pt) : Pt := if p.inB 4398046511104 then p.low.half.low else Pt.O

theorem abs_tdiv (a : Int) (n : Nat) : (a.tdiv n).natAbs = a.natAbs / n := Int.natAbs_tdiv a n
theorem tdiv_le (a : Int) (m : Int) (n : Nat) (h : -m ≤ a ∧ a ≤ m) : -m ≤ a.tdiv n ∧ a.tdiv n ≤ m := by
  have e := abs_tdiv a n
  have := Nat.div_le_self a.natAbs n
  generalize a.natAbs / n = q at e this
  omega
theorem Pt.by_in {p : Pt} {m : Int} (n : Nat) (h : p.inB m = true) : (p.by n).inB m = true := by
  rw [Pt.inB_iff] at h ⊢
  exact ⟨tdiv_le _ _ _ h.1, tdiv_le _ _ _ h.2.1, tdiv_le _ _ _ h.2.2⟩
theorem Pt.low_in {p : Pt} {m : Int} (h : p.inB m = true) : p.low.inB m = true := by
  unfold Pt.low
  split
  · exact h
  · exact Pt.by_in _ h
theorem half_le (a m : Int) (h : -(2 * m) ≤ a ∧ a ≤ 2 * m) : -m ≤ a.tdiv 2 ∧ a.tdiv 2 ≤ m := by
  have e : (a.tdiv 2).natAbs = a.natAbs / 2 := abs_tdiv a 2
  omega
theorem half_in {p : Pt} {m : Int} (h : p.inB (2 * m) = true) : (p.by 2).inB m = true := by
  rw [Pt.inB_iff] at h ⊢
  exact ⟨half_le _ _ h.1, half_le _ _ h.2.1, half_le _ _ h.2.2⟩
theorem inB_mono {p : Pt} {m n : Int} (h : p.inB m = true) (k : m ≤ n) : p.inB n = true := by
  rw [Pt.inB_iff] at h ⊢
  omega
theorem halveF_in (n : Nat) (p : Pt) (h : p.inB (2 ^ n : Nat) = true) : (halveF n p).inB 1048576 = true := by
  induction n generalizing p with
  | zero => exact inB_mono h (by decide)
  | succ n ih =>
    unfold halveF
    split
    · assumption
    · refine ih _ (half_in ?_)
      rw [Nat.pow_succ, Nat.mul_comm, Int.natCast_mul] at h
      exact h
theorem half_in20 {p : Pt} (h : p.inB 4398046511104 = true) : p.half.inB 1048576 = true := halveF_in 43 p (inB_mono h (by decide))
theorem halveF_id (n : Nat) (p : Pt) (h : p.inB 1048576 = true) : halveF n p = p := by
  cases n with
  | zero => rfl
  | succ n => simp [halveF, h]
theorem g_zero {p : Pt} : p.g = 0 ↔ p = Pt.O := by
  unfold Pt.g Pt.O
  rw [Nat.gcd_eq_zero_iff, Nat.gcd_eq_zero_iff]
  cases p
  simp only [Pt.mk.injEq]
  omega
theorem g_dvd (p : Pt) : p.g ∣ p.x.natAbs ∧ p.g ∣ p.y.natAbs ∧ p.g ∣ p.z.natAbs :=
  ⟨Nat.dvd_trans (Nat.gcd_dvd_left _ _) (Nat.gcd_dvd_left _ _), Nat.dvd_trans (Nat.gcd_dvd_left _ _) (Nat.gcd_dvd_right _ _), Nat.gcd_dvd_right _ _⟩
theorem low_g {p : Pt} (h : p ≠ Pt.O) : p.low.g = 1 := by
  have h0 : p.g ≠ 0 := fun e => h (g_zero.1 e)
  obtain ⟨d1, d2, d3⟩ := g_dvd p
  unfold Pt.low
  rw [if_neg h0]
  show Nat.gcd (Nat.gcd (p.x.tdiv p.g).natAbs (p.y.tdiv p.g).natAbs) (p.z.tdiv p.g).natAbs = 1
  rw [abs_tdiv, abs_tdiv, abs_tdiv]
  rw [Nat.gcd_div d1 d2, Nat.gcd_div (Nat.dvd_gcd d1 d2) d3]
  exact Nat.div_self (Nat.pos_of_ne_zero h0)
theorem low_one {p : Pt} (h : p.g = 1) : p.low = p := by
  unfold Pt.low Pt.by
  rw [h]
  simp
theorem low_O : Pt.low Pt.O = Pt.O := by decide
theorem short_O : Pt.short Pt.O = Pt.O := by decide
theorem short_in (p : Pt) : p.short.inB 1048576 = true := by
  unfold Pt.short
  split
  · exact Pt.low_in (half_in20 (Pt.low_in (by assumption)))
  · decide
theorem short_again (p : Pt) : p.short.short = p.short := by
  have hin := short_in p
  have big : p.short.inB 4398046511104 = true := inB_mono hin (by decide)
  have key : p.short.low = p.short := by
    unfold Pt.short
    split
    · by_cases h : p.low.half = Pt.O
      · rw [h]; decide
      · exact low_one (low_g h)
    · decide
  rw [Pt.short, if_pos big, key]
  rw [show p.short.half = p.short from halveF_id _ _ hin, key]
theorem neg_in (p : Pt) (m : Int) : p.neg.inB m = p.inB m := by
  rw [Bool.eq_iff_iff, Pt.inB_iff, Pt.inB_iff]
  unfold Pt.neg
  dsimp only
  omega
theorem neg_by (p : Pt) (n : Int) : p.neg.by n = (p.by n).neg := by simp [Pt.neg, Pt.by, Int.neg_tdiv]
theorem neg_g (p : Pt) : p.neg.g = p.g := by simp [Pt.neg, Pt.g]
theorem neg_low (p : Pt) : p.neg.low = p.low.neg := by
  unfold Pt.low
  rw [neg_g]
  split
  · rfl
  · exact neg_by _ _
theorem neg_halveF (n : Nat) (p : Pt) : halveF n p.neg = (halveF n p).neg := by
  induction n generalizing p with
  | zero => rfl
  | succ n ih =>
    unfold halveF
    rw [neg_in]
    split
    · rfl
    · rw [neg_by, ih]
theorem neg_short (p : Pt) : p.neg.short = p.short.neg := by
  unfold Pt.short
  rw [neg_in]
  split
  · rw [neg_low]
    show (halveF 43 p.low.neg).low = _
    rw [neg_halveF, neg_low]; rfl
  · rfl
/-- A direction that is not of noughts, and not too long, is made short to none of noughts. -/
theorem halveF_ne (n : Nat) (p : Pt) (h : p ≠ Pt.O) : halveF n p ≠ Pt.O := by
  induction n generalizing p with
  | zero => exact h
  | succ n ih =>
    unfold halveF
    split
    · exact h
    · rename_i hb
      refine ih _ fun e => hb ?_
      rw [Pt.inB_iff]
      simp only [Pt.by, Pt.O, Pt.mk.injEq] at e
      have e1 : (p.x.tdiv 2).natAbs = p.x.natAbs / 2 := abs_tdiv p.x 2
      have e2 : (p.y.tdiv 2).natAbs = p.y.natAbs / 2 := abs_tdiv p.y 2
      have e3 : (p.z.tdiv 2).natAbs = p.z.natAbs / 2 := abs_tdiv p.z 2
      rw [e.1] at e1; rw [e.2.1] at e2; rw [e.2.2] at e3
      simp only [Int.natAbs_zero] at e1 e2 e3
      omega
theorem low_ne {p : Pt} (h : p ≠ Pt.O) : p.low ≠ Pt.O := fun e => by
  have := low_g h
  rw [e] at this
  revert this; decide
theorem short_ne {p : Pt} (hb : p.inB 4398046511104 = true) (h : p ≠ Pt.O) : p.short ≠ Pt.O := by
  unfold Pt.short
  rw [if_pos hb]
  exact low_ne (halveF_ne _ _ (low_ne h))
def pt (L : List Pt) (i : Nat) : Pt := L[i]?.getD default
theorem pt_mem {L : List Pt} {i : Nat} (h : i < L.length) : pt L i ∈ L := by unfold pt; rw [List.getElem?_eq_getElem h]; exact List.getElem_mem h
theorem pt_of_mem {L : List Pt} {p : Pt} (h : p ∈ L) : ∃ i, i < L.length ∧ pt L i = p := by
  obtain ⟨i, hi, e⟩ := List.getElem_of_mem h
  exact ⟨i, hi, by unfold pt; rw [List.getElem?_eq_getElem hi, e]; rfl⟩
theorem drop_pt {L : List Pt} {i : Nat} (h : i < L.length) : L.drop i = pt L i :: L.drop (i + 1) := by
  rw [List.drop_eq_getElem_cons h]; unfold pt; rw [List.getElem?_eq_getElem h]; rfl
theorem take_pt {L : List Pt} {i : Nat} (h : i < L.length) : L.take (i + 1) = L.take i ++ [pt L i] := by
  rw [List.take_succ_eq_append_getElem h]; unfold pt; rw [List.getElem?_eq_getElem h]; rfl
theorem pt_take {L : List Pt} {i n : Nat} (h : i < n) : pt (L.take n) i = pt L i := by unfold pt; rw [List.getElem?_take, if_pos h]
theorem pt_drop {L : List Pt} {i n : Nat} : pt (L.drop n) i = pt L (n + i) := by unfold pt; rw [List.getElem?_drop]
theorem list_same {L M : List Pt} (hl : L.length = M.length) (h : ∀ i, i < L.length → pt L i = pt M i) : L = M := by
  apply List.ext_getElem hl
  intro i h1 h2
  have := h i h1
  unfold pt at this
  rw [List.getElem?_eq_getElem h1, List.getElem?_eq_getElem h2] at this
  exact this

end Go.Proofs.Ytccdgpijjgeedaa
