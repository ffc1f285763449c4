/- A pool's Lay; any script's drop. -/
import Derived.Test.YtoocenbmggfodaaOMath
namespace Go.Proofs.Ytoocenbmggfodaa
open Go.RowKit Go.Shelf
set_option linter.unusedVariables false

set_option maxHeartbeats 1000000 in
theorem lay_yes (pp pl : Nat) (L : List Pl) (age x : Int) (i : Nat) (w : World) (hp : IsPool w pp pl L) (hi : i < L.length) (hh : (at_ L i).has = false) (h0 : 0 ≤ age) (h1 : age ≤ 1073741824) (ha : (at_ L i).age ≤ age) :
    Calls Try.prog 8 #[.pointer (some ⟨pp, 0, none⟩), .int .i64 (age * 65536 + (i : Int) + 1), .int .i64 x] w fun e w' => e = .returned (.bool true) ∧ IsPool w' pp pl (L.set i ⟨age, true, x⟩) ∧ w.grownBy w' (some pl) := by
  have hr := hp.room
  have hd := decode (ag := age) (i := i) h0 (by omega)
  have HS : Hid _ := split_yes pp pl L (age * 65536 + (i : Int) + 1) age i w hp (by omega) (by omega) hd.1 hd.2 hi
  have c0 := hp.age i hi
  have c1 := hp.has i hi
  have c2 := hp.x i hi
  have f0 := hp.free (i * 3) (by omega)
  have f1 := hp.free (i * 3 + 1) (by omega)
  have f2 := hp.free (i * 3 + 2) (by omega)
  rw [show L[i]?.getD default = at_ L i from rfl] at c0 c1 c2
  rw [hh] at c1
  have HP : Hid _ := hp.set3 hi ⟨age, true, x⟩ ⟨h0, by show age ≤ _; omega, fun _ => h1⟩
  clear hd hh
  generalize (at_ L i).age = ag at *
  generalize (at_ L i).x = px at *
  generalize age * 65536 + (i : Int) + 1 = h at *
  have HF : Hid _ := fill_any pl (i * 3) age x w _ _ _ c0 c1 c2 f0 f1 f2
  go_enter Try.func8, Try.ntmps8
  go_wp2_with (first
    | (go_at_call 21; refine Calls.mono HS.out ?_; rintro e w' ⟨rfl, rfl⟩)
    | (go_at_call 22; refine Calls.mono HF.out ?_; rintro e w' ⟨rfl, rfl⟩))
  go_ret
  exact ⟨rfl, HP.out, G.set (G.set (G.set (World.grownBy.refl _ _) _ _) _ _) _ _⟩
set_option maxHeartbeats 1000000 in
theorem lay_no (pp pl : Nat) (L : List Pl) (age x : Int) (i : Nat) (w : World) (hp : IsPool w pp pl L) (hi : i < L.length) (hh : (at_ L i).has = true) (h0 : 0 ≤ age) (h1 : age ≤ 1073741825) :
    Calls Try.prog 8 #[.pointer (some ⟨pp, 0, none⟩), .int .i64 (age * 65536 + (i : Int) + 1), .int .i64 x] w fun e w' => e = .returned (.bool false) ∧ w' = w := by
  have hr := hp.room
  have hd := decode (ag := age) (i := i) h0 (by omega)
  have HS : Hid _ := split_yes pp pl L (age * 65536 + (i : Int) + 1) age i w hp (by omega) (by omega) hd.1 hd.2 hi
  have c0 := hp.age i hi
  have c1 := hp.has i hi
  rw [show L[i]?.getD default = at_ L i from rfl] at c0 c1
  rw [hh] at c1
  clear hd hh
  generalize (at_ L i).age = ag at *
  generalize age * 65536 + (i : Int) + 1 = h at *
  go_enter Try.func8, Try.ntmps8
  go_wp2_with (go_at_call 21; refine Calls.mono HS.out ?_; rintro e w' ⟨rfl, rfl⟩)
  go_ret
  exact ⟨rfl, rfl⟩
/-- Drop, whatever is dropped. -/
theorem drop_any (pp pl : Nat) (L : List Pl) (h : Int) (w : World) (hp : IsPool w pp pl L) (h1 : h ≤ 9223372036854775807) :
    Calls Try.prog 14 #[.pointer (some ⟨pp, 0, none⟩), .int .i64 h] w fun e w' => ∃ (v : Bool) (L1 : List Pl), e = .returned (.bool v) ∧ Hid (L1.length = L.length) ∧ IsPool w' pp pl L1 ∧ w.grownBy w' (some pl) := by
  cases hf : found L h with
  | none => exact (drop_no pp pl L h w hp h1 hf).mono fun e w' ⟨a, b⟩ => ⟨_, L, a, rfl, by rw [b]; exact hp, by rw [b]; exact World.grownBy.refl _ _⟩
  | some i => exact (drop_yes pp pl L h i w hp h1 hf).mono fun e w' ⟨a, b, c⟩ => ⟨_, _, a, List.length_set, b, c⟩
/-- Put, whatever is put. -/
theorem put_some (pp pl : Nat) (L : List Pl) (x : Int) (w : World) (hp : IsPool w pp pl L) :
    Calls Try.prog 17 #[.pointer (some ⟨pp, 0, none⟩), .int .i64 x] w fun e w' => ∃ (hd f : Int) (L1 : List Pl), e = .returned (.tuple #[.int .i64 hd, .int .i64 f]) ∧ (f = 0 ∨ f = 30) ∧ 0 ≤ hd ∧ hd ≤ 1000000000000000 ∧ Hid (L1.length = L.length) ∧ IsPool w' pp pl L1 ∧ w.grownBy w' (some pl) := by
  refine (put_any pp pl L x w hp).mono ?_
  rintro e W (⟨k, hk, hf, hlow, rfl, h1, h2⟩ | ⟨hall, rfl, h1, h2⟩)
  · have hr := hp.room
    obtain ⟨o0, o1, _⟩ := hp.okAt k
    exact ⟨_, _, _, rfl, Or.inl rfl, by have : 0 ≤ (at_ L k).age := o0; omega, by have : (at_ L k).age ≤ 1073741825 := o1; omega, List.length_set, h1, h2⟩
  · exact ⟨_, _, _, rfl, Or.inr rfl, by omega, by omega, rfl, h1, h2⟩
/-- What is laid of a pool's places. -/
def laid (L : List Pl) (r : Nat) : List (Live L) → List Pl
  | [] => List.replicate r ⟨0, false, 0⟩
  | x :: l => (laid L r l).set x.1.val (at_ L x.1.val)
theorem laid_length (L : List Pl) (r : Nat) : ∀ l, (laid L r l).length = r
  | [] => by simp [laid]
  | x :: l => by rw [laid, List.length_set]; exact laid_length L r l
theorem laid_at (L : List Pl) (r : Nat) (hr : L.length ≤ r) : ∀ (l : List (Live L)) (i : Nat), i < L.length → at_ (laid L r l) i = if ∃ x ∈ l, x.1.val = i then at_ L i else ⟨0, false, 0⟩
  | [], i, hi => by
    have h2 : i < r := by omega
    simp [laid, at_, h2]
  | x :: l, i, hi => by
    have ih := laid_at L r hr l i hi
    have hx := x.1.isLt
    rw [laid]
    by_cases e : x.1.val = i
    · rw [if_pos ⟨x, by simp, e⟩, ← e, at_set_same (by rw [laid_length]; omega)]
    · rw [at_set_ne e, ih]
      by_cases h : ∃ y ∈ l, y.1.val = i
      · rw [if_pos h, if_pos (by obtain ⟨y, hy, hy2⟩ := h; exact ⟨y, by simp [hy], hy2⟩)]
      · rw [if_neg h, if_neg (fun ⟨y, hy, hy2⟩ => (List.mem_cons.1 hy).elim (fun e' => e (by rw [← e']; exact hy2)) (fun hy => h ⟨y, hy, hy2⟩))]
theorem lives_rises (L : List Pl) : ∀ k, k ≤ L.length → (lives L (ups L.length k)).Pairwise (fun a b => a.1.val ≠ b.1.val) ∧ ∀ x ∈ lives L (ups L.length k), x.1.val < k
  | 0, _ => by rw [ups_zero]; exact ⟨List.Pairwise.nil, fun x hx => by simp [lives] at hx⟩
  | k + 1, hk => by
    obtain ⟨h1, h2⟩ := lives_rises L k (by omega)
    rw [ups_succ (by omega), lives_append]
    have hone : ∀ x ∈ lives L [⟨k, by omega⟩], x.1.val = k := fun x hx => by
      simp only [lives] at hx
      split at hx
      · simp at hx; rw [hx]
      · simp at hx
    refine ⟨List.pairwise_append.2 ⟨h1, ?_, fun a ha b hb => ?_⟩, fun x hx => ?_⟩
    · simp only [lives]; split <;> simp
    · have := h2 a ha; have := hone b hb; omega
    · rcases List.mem_append.1 hx with h | h
      · have := h2 x h; omega
      · have := hone x h; omega
theorem found_live {W : World} {pp pl : Nat} {L : List Pl} (hp : IsPool W pp pl L) (x : Live L) : found L (handleOf (at_ L x.1.val) x.1.val) = some x.1.val ∧ 0 < handleOf (at_ L x.1.val) x.1.val ∧ handleOf (at_ L x.1.val) x.1.val ≤ 1000000000000000 := by
  have hi := x.1.isLt
  have hr := hp.room
  obtain ⟨o0, o1, _⟩ := hp.okAt x.1.val
  have o0' : 0 ≤ (at_ L x.1.val).age := o0
  have o1' : (at_ L x.1.val).age ≤ 1073741825 := o1
  have hd := decode (ag := (at_ L x.1.val).age) (i := x.1.val) o0' (by omega)
  unfold handleOf
  refine ⟨?_, by omega, by omega⟩
  unfold found
  rw [hd.1, hd.2, Int.toNat_natCast, if_pos ⟨by omega, hi, x.2, rfl⟩]
end Go.Proofs.Ytoocenbmggfodaa
