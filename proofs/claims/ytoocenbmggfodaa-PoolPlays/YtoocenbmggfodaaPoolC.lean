/- A pool's handles: found, got, dropped. -/
import Derived.Test.YtoocenbmggfodaaPoolB
namespace Go.Proofs.Ytoocenbmggfodaa
open Go.RowKit Go.Shelf
set_option linter.unusedVariables false

set_option maxHeartbeats 1000000 in
theorem split_low (pp : Nat) (h : Int) (w : World) (h0 : h ≤ 0) :
    Calls Try.prog 21 #[.pointer (some ⟨pp, 0, none⟩), .int .i64 h] w fun e w' => e = .returned (.tuple #[.pointer none, .int .i64 0]) ∧ w' = w := by
  go_enter Try.func21, Try.ntmps21
  go_wp2
  go_ret2
  exact ⟨rfl, rfl⟩
set_option maxHeartbeats 1000000 in
theorem split_no (pp pl : Nat) (L : List Pl) (h age : Int) (i : Nat) (w : World) (hp : IsPool w pp pl L) (h0 : 0 < h) (h1 : h ≤ 9223372036854775807) (e1 : (h - 1) % 65536 = i) (e2 : (h - 1) / 65536 = age) (hi : L.length ≤ i) :
    Calls Try.prog 21 #[.pointer (some ⟨pp, 0, none⟩), .int .i64 h] w fun e w' => e = .returned (.tuple #[.pointer none, .int .i64 0]) ∧ w' = w := by
  subst e2
  obtain ⟨cp, hcp1, hcp2, c⟩ := hp.slice
  have hr := hp.room
  go_enter Try.func21, Try.ntmps21
  go_wp2
  go_ret2
  exact ⟨rfl, rfl⟩
set_option maxHeartbeats 1000000 in
theorem split_yes (pp pl : Nat) (L : List Pl) (h age : Int) (i : Nat) (w : World) (hp : IsPool w pp pl L) (h0 : 0 < h) (h1 : h ≤ 9223372036854775807) (e1 : (h - 1) % 65536 = i) (e2 : (h - 1) / 65536 = age) (hi : i < L.length) :
    Calls Try.prog 21 #[.pointer (some ⟨pp, 0, none⟩), .int .i64 h] w fun e w' => e = .returned (.tuple #[.pointer (some ⟨pl, i * 3, none⟩), .int .i64 age]) ∧ w' = w := by
  subst e2
  obtain ⟨cp, hcp1, hcp2, c⟩ := hp.slice
  have hr := hp.room
  go_enter Try.func21, Try.ntmps21
  go_wp2
  go_ret2
  exact ⟨rfl, rfl⟩

/-- The place of the thing whose handle h is. -/
def found (L : List Pl) (h : Int) : Option Nat :=
  if 0 < h ∧ ((h - 1) % 65536).toNat < L.length ∧ (at_ L ((h - 1) % 65536).toNat).has = true ∧ (at_ L ((h - 1) % 65536).toNat).age = (h - 1) / 65536 then some ((h - 1) % 65536).toNat else none
theorem found_some {L : List Pl} {h : Int} {i : Nat} (e : found L h = some i) : 0 < h ∧ i < L.length ∧ (at_ L i).has = true ∧ (at_ L i).age = (h - 1) / 65536 ∧ (h - 1) % 65536 = i := by
  unfold found at e
  split at e
  · rename_i c
    simp only [Option.some.injEq] at e
    rw [← e]
    exact ⟨c.1, c.2.1, c.2.2.1, c.2.2.2, by have := c.1; omega⟩
  · cases e

set_option maxHeartbeats 1000000 in
theorem find_yes (pp pl : Nat) (L : List Pl) (h : Int) (i : Nat) (w : World) (hp : IsPool w pp pl L) (h1 : h ≤ 9223372036854775807) (hf : found L h = some i) :
    Calls Try.prog 23 #[.pointer (some ⟨pp, 0, none⟩), .int .i64 h] w fun e w' => e = .returned (.pointer (some ⟨pl, i * 3, none⟩)) ∧ w' = w := by
  obtain ⟨h0, hi, hh, ha, hm⟩ := found_some hf
  clear hf
  have c0 := hp.age i hi
  have c1 := hp.has i hi
  have S := split_yes pp pl L h _ i w hp h0 h1 hm rfl hi
  rw [show L[i]?.getD default = at_ L i from rfl] at c0 c1
  rw [ha] at c0
  rw [hh] at c1
  generalize (h - 1) / 65536 = age at *
  have HS : Hid _ := S
  clear S ha hh hm
  go_enter Try.func23, Try.ntmps23
  go_wp2_with (go_at_call 21; refine Calls.mono HS.out ?_; rintro e w' ⟨rfl, rfl⟩)
  go_ret
  exact ⟨rfl, rfl⟩
set_option maxHeartbeats 2000000 in
theorem find_no (pp pl : Nat) (L : List Pl) (h : Int) (w : World) (hp : IsPool w pp pl L) (h1 : h ≤ 9223372036854775807) (hf : found L h = none) :
    Calls Try.prog 23 #[.pointer (some ⟨pp, 0, none⟩), .int .i64 h] w fun e w' => e = .returned (.pointer none) ∧ w' = w := by
  by_cases h0 : 0 < h
  · obtain ⟨i, hm⟩ : ∃ i : Nat, (h - 1) % 65536 = i := ⟨((h - 1) % 65536).toNat, by omega⟩
    by_cases hi : i < L.length
    · have c0 := hp.age i hi
      have c1 := hp.has i hi
      have S := split_yes pp pl L h _ i w hp h0 h1 hm rfl hi
      rw [show L[i]?.getD default = at_ L i from rfl] at c0 c1
      have hn : ¬ ((at_ L i).has = true ∧ (at_ L i).age = (h - 1) / 65536) := by
        intro hc
        unfold found at hf
        rw [hm, Int.toNat_natCast, if_pos ⟨h0, hi, hc⟩] at hf
        cases hf
      generalize (h - 1) / 65536 = age at *
      generalize (at_ L i).age = ag at *
      generalize (at_ L i).has = hs at *
      have HS : Hid _ := S
      clear S hm hf
      cases hs with
      | false =>
        clear hn
        go_enter Try.func23, Try.ntmps23
        go_wp2_with (go_at_call 21; refine Calls.mono HS.out ?_; rintro e w' ⟨rfl, rfl⟩)
        go_ret
        exact ⟨rfl, rfl⟩
      | true =>
        have hne : ag ≠ age := fun e => hn ⟨rfl, e⟩
        have hne' : (ag == age) = false := beq_eq_false_iff_ne.2 hne
        have hne2 : (ag != age) = true := bne_iff_ne.2 hne
        clear hn
        go_enter Try.func23, Try.ntmps23
        go_wp2_with (go_at_call 21; refine Calls.mono HS.out ?_; rintro e w' ⟨rfl, rfl⟩)
        go_ret
        exact ⟨rfl, rfl⟩
    · have HS : Hid _ := split_no pp pl L h _ i w hp h0 h1 hm rfl (by omega)
      clear hf hm
      go_enter Try.func23, Try.ntmps23
      go_wp2_with (go_at_call 21; refine Calls.mono HS.out ?_; rintro e w' ⟨rfl, rfl⟩)
      go_ret
      exact ⟨rfl, rfl⟩
  · clear hf
    go_enter Try.func23, Try.ntmps23
    go_wp2_with (go_at_call 21; refine (split_low pp h _ (by omega)).mono ?_; rintro e w' ⟨rfl, rfl⟩)
    go_ret
    exact ⟨rfl, rfl⟩

theorem get_yes (pp pl : Nat) (L : List Pl) (h : Int) (i : Nat) (w : World) (hp : IsPool w pp pl L) (h1 : h ≤ 9223372036854775807) (hf : found L h = some i) :
    Calls Try.prog 10 #[.pointer (some ⟨pp, 0, none⟩), .int .i64 h] w fun e w' => e = .returned (.tuple #[.int .i64 (at_ L i).x, .bool true]) ∧ w' = w := by
  have HS : Hid _ := find_yes pp pl L h i w hp h1 hf
  have c2 := hp.x i (found_some hf).2.1
  rw [show L[i]?.getD default = at_ L i from rfl] at c2
  clear hf
  go_enter Try.func10, Try.ntmps10
  go_wp2_with (go_at_call 23; refine Calls.mono HS.out ?_; rintro e w' ⟨rfl, rfl⟩)
  go_ret2
  exact ⟨rfl, rfl⟩
theorem get_no (pp pl : Nat) (L : List Pl) (h : Int) (w : World) (hp : IsPool w pp pl L) (h1 : h ≤ 9223372036854775807) (hf : found L h = none) :
    Calls Try.prog 10 #[.pointer (some ⟨pp, 0, none⟩), .int .i64 h] w fun e w' => e = .returned (.tuple #[.int .i64 0, .bool false]) ∧ w' = w := by
  have HS : Hid _ := find_no pp pl L h w hp h1 hf
  clear hf
  go_enter Try.func10, Try.ntmps10
  go_wp2_with (go_at_call 23; refine Calls.mono HS.out ?_; rintro e w' ⟨rfl, rfl⟩)
  go_ret2
  exact ⟨rfl, rfl⟩
theorem drop_no (pp pl : Nat) (L : List Pl) (h : Int) (w : World) (hp : IsPool w pp pl L) (h1 : h ≤ 9223372036854775807) (hf : found L h = none) :
    Calls Try.prog 14 #[.pointer (some ⟨pp, 0, none⟩), .int .i64 h] w fun e w' => e = .returned (.bool false) ∧ w' = w := by
  have HS : Hid _ := find_no pp pl L h w hp h1 hf
  clear hf
  go_enter Try.func14, Try.ntmps14
  go_wp2_with (go_at_call 23; refine Calls.mono HS.out ?_; rintro e w' ⟨rfl, rfl⟩)
  go_ret
  exact ⟨rfl, rfl⟩
theorem drop_yes (pp pl : Nat) (L : List Pl) (h : Int) (i : Nat) (w : World) (hp : IsPool w pp pl L) (h1 : h ≤ 9223372036854775807) (hf : found L h = some i) :
    Calls Try.prog 14 #[.pointer (some ⟨pp, 0, none⟩), .int .i64 h] w fun e w' => e = .returned (.bool true) ∧ IsPool w' pp pl (L.set i ⟨(at_ L i).age + 1, false, 0⟩) ∧ w.grownBy w' (some pl) := by
  have HS : Hid _ := find_yes pp pl L h i w hp h1 hf
  obtain ⟨h09, hi, hh, ha9, hm9⟩ := found_some hf
  have c0 := hp.age i hi
  have c1 := hp.has i hi
  have c2 := hp.x i hi
  have f0 := hp.free (i * 3) (by omega)
  have f1 := hp.free (i * 3 + 1) (by omega)
  have f2 := hp.free (i * 3 + 2) (by omega)
  obtain ⟨o0, o1, o2⟩ := hp.ok i hi
  rw [show L[i]?.getD default = at_ L i from rfl] at c0 c1 c2 o0 o1 o2
  have o3 := o2 hh
  have HP : Hid _ := hp.set3 hi ⟨(at_ L i).age + 1, false, 0⟩ ⟨by show 0 ≤ (at_ L i).age + 1; omega, by show (at_ L i).age + 1 ≤ _; omega, fun e => by cases e⟩
  clear hf hh o2 h09 ha9 hm9
  generalize (at_ L i).age = ag at *
  generalize (at_ L i).has = hs at *
  generalize (at_ L i).x = px at *
  go_enter Try.func14, Try.ntmps14
  go_wp2_with (go_at_call 23; refine Calls.mono HS.out ?_; rintro e w' ⟨rfl, rfl⟩)
  go_ret
  exact ⟨rfl, HP.out, G.set (G.set (G.set (World.grownBy.refl _ _) _ _) _ _) _ _⟩
end Go.Proofs.Ytoocenbmggfodaa
