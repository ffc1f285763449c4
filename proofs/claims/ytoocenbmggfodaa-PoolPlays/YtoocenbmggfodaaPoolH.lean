/- The reference's pool: place, Get, Set, Drop, Lay, over the same list of places. -/
import Derived.Test.YtoocenbmggfodaaPoolG
namespace Go.Proofs.Ytoocenbmggfodaa
open Go.RowKit Go.Shelf
set_option linter.unusedVariables false

theorem found_at {L : List Pl} {i : Nat} (hi : i < L.length) (hr : L.length ≤ 1024) (hh : (at_ L i).has = true) (h0 : 0 ≤ (at_ L i).age) : found L ((at_ L i).age * 65536 + (i : Int) + 1) = some i := by
  unfold found
  have e1 : ((at_ L i).age * 65536 + (i : Int) + 1 - 1) % 65536 = i := by omega
  have e2 : ((at_ L i).age * 65536 + (i : Int) + 1 - 1) / 65536 = (at_ L i).age := by omega
  rw [e1, e2, Int.toNat_natCast, if_pos ⟨by omega, hi, hh, rfl⟩]
theorem found_none {L : List Pl} {h : Int} (hn : ∀ j, j < L.length → (at_ L j).has = true → (at_ L j).age * 65536 + (j : Int) + 1 ≠ h) : found L h = none := by
  cases e : found L h with
  | none => rfl
  | some i =>
    obtain ⟨a, b, c, d, f⟩ := found_some e
    exact absurd (by rw [d]; omega) (hn i b c)
/-- The place that 'place' answers. -/
def placeOf (L : List Pl) (h : Int) : Int := match found L h with | some i => (i : Int) | none => -1

set_option maxHeartbeats 2000000 in
theorem rplace_any (pp pl : Nat) (L : List Pl) (h : Int) (w : World) (hp : IsPool w pp pl L) :
    Calls Try.prog 24 #[.pointer (some ⟨pp, 0, none⟩), .int .i64 h] w fun e w' => e = .returned (.int .i64 (placeOf L h)) ∧ w' = w := by
  have hr := hp.room
  obtain ⟨cp, hcp1, hcp2, cs⟩ := hp.slice
  go_enter Try.func24, Try.ntmps24
  go_wp2
  go_loopw [5] (fun i wr => ∃ k : Nat, k ≤ L.length ∧ i = .int .i64 k ∧ wr = w ∧ Hid (∀ j, j < k → (at_ L j).has = true → (at_ L j).age * 65536 + (j : Int) + 1 ≠ h)) (fun i _ => L.length - (intOf i).toNat)
  case atStart => exact ⟨0, Nat.zero_le _, rfl, rfl, fun j hj => absurd hj (by omega)⟩
  case round =>
    obtain ⟨k, hk, rfl, rfl, HN⟩ := hrel
    by_cases hlt : k < L.length
    · have c0 := hp.age k hlt
      have c1 := hp.has k hlt
      obtain ⟨o0, o1, o2⟩ := hp.okAt k
      have o0' : 0 ≤ (at_ L k).age := o0
      have o1' : (at_ L k).age ≤ 1073741825 := o1
      have FA : Hid _ := found_at hlt hr (L := L) (i := k)
      rw [show L[k]?.getD default = at_ L k from rfl] at c0 c1
      have HN2 : Hid (((at_ L k).has = true → (at_ L k).age * 65536 + (k : Int) + 1 ≠ h) → ∀ j, j < k + 1 → (at_ L j).has = true → (at_ L j).age * 65536 + (j : Int) + 1 ≠ h) := fun h2 j hj => by
        by_cases e : j = k
        · subst e; exact h2
        · exact HN.out j (by omega)
      clear o0 o1 o2 HN
      generalize (at_ L k).age = ag at *
      generalize (at_ L k).has = hs at *
      cases hs with
      | false =>
        go_wp2
        go_roundw
        case rel => exact ⟨k + 1, by omega, by go_num, by simp, HN2.out (fun e => by cases e)⟩
        case measure => simp [intOf]; omega
      | true =>
        by_cases he : ag * 65536 + (k : Int) + 1 = h
        · have hP : placeOf L h = (k : Int) := by unfold placeOf; rw [← he, FA.out rfl o0']
          have he' : (ag * 65536 + (k : Int) + 1 == h) = true := beq_iff_eq.2 he
          have HP : Hid _ := hP
          clear hP FA HN2
          go_wp2
          go_ret
          exact ⟨(by rw [HP.out]; try rfl), rfl⟩
        · have he' : (ag * 65536 + (k : Int) + 1 == h) = false := beq_eq_false_iff_ne.2 he
          go_wp2
          go_roundw
          case rel => exact ⟨k + 1, by omega, by go_num, by simp, HN2.out (fun _ => he)⟩
          case measure => simp [intOf]; omega
    · obtain rfl : k = L.length := by omega
      have hP : placeOf L h = -1 := by unfold placeOf; rw [found_none HN.out]
      have HP : Hid _ := hP
      clear hlt HN hP
      go_wp2
      go_ret
      exact ⟨(by rw [HP.out]; try rfl), rfl⟩
theorem rget_no (pp pl : Nat) (L : List Pl) (h : Int) (w : World) (hp : IsPool w pp pl L) (hf : found L h = none) :
    Calls Try.prog 11 #[.pointer (some ⟨pp, 0, none⟩), .int .i64 h] w fun e w' => e = .returned (.tuple #[.int .i64 0, .bool false]) ∧ w' = w := by
  have P := rplace_any pp pl L h w hp
  rw [show placeOf L h = -1 by unfold placeOf; rw [hf]] at P
  have HS : Hid _ := P
  clear hf P
  go_enter Try.func11, Try.ntmps11
  go_wp2_with (go_at_call 24; refine Calls.mono HS.out ?_; rintro e w' ⟨rfl, rfl⟩)
  go_ret2
  exact ⟨rfl, rfl⟩
theorem rget_yes (pp pl : Nat) (L : List Pl) (h : Int) (i : Nat) (w : World) (hp : IsPool w pp pl L) (hf : found L h = some i) :
    Calls Try.prog 11 #[.pointer (some ⟨pp, 0, none⟩), .int .i64 h] w fun e w' => e = .returned (.tuple #[.int .i64 (at_ L i).x, .bool true]) ∧ w' = w := by
  have P := rplace_any pp pl L h w hp
  rw [show placeOf L h = (i : Int) by unfold placeOf; rw [hf]] at P
  have HS : Hid _ := P
  obtain ⟨h09, hi, hh, ha9, hm9⟩ := found_some hf
  have hr := hp.room
  obtain ⟨cp, hcp1, hcp2, cs⟩ := hp.slice
  have c0 := hp.age i hi
  have c1 := hp.has i hi
  have c2 := hp.x i hi
  have f0 := hp.free (i * 3) (by omega)
  have f1 := hp.free (i * 3 + 1) (by omega)
  have f2 := hp.free (i * 3 + 2) (by omega)
  rw [show L[i]?.getD default = at_ L i from rfl] at c0 c1 c2
  obtain ⟨o0, o1, o2⟩ := hp.okAt i
  have o0' : 0 ≤ (at_ L i).age := o0
  have o3 : (at_ L i).age ≤ 1073741824 := o2 hh
  clear hf P h09 ha9 hm9 o0 o1 o2 hh
  generalize (at_ L i).age = ag at *
  generalize (at_ L i).has = hs at *
  generalize (at_ L i).x = px at *
  go_enter Try.func11, Try.ntmps11
  go_wp2_with (go_at_call 24; refine Calls.mono HS.out ?_; rintro e w' ⟨rfl, rfl⟩)
  go_ret2
  exact ⟨rfl, rfl⟩
theorem rset_no (pp pl : Nat) (L : List Pl) (h x : Int) (w : World) (hp : IsPool w pp pl L) (hf : found L h = none) :
    Calls Try.prog 13 #[.pointer (some ⟨pp, 0, none⟩), .int .i64 h, .int .i64 x] w fun e w' => e = .returned (.bool false) ∧ w' = w := by
  have P := rplace_any pp pl L h w hp
  rw [show placeOf L h = -1 by unfold placeOf; rw [hf]] at P
  have HS : Hid _ := P
  clear hf P
  go_enter Try.func13, Try.ntmps13
  go_wp2_with (go_at_call 24; refine Calls.mono HS.out ?_; rintro e w' ⟨rfl, rfl⟩)
  go_ret
  exact ⟨rfl, rfl⟩
theorem rset_yes (pp pl : Nat) (L : List Pl) (h x : Int) (i : Nat) (w : World) (hp : IsPool w pp pl L) (hf : found L h = some i) :
    Calls Try.prog 13 #[.pointer (some ⟨pp, 0, none⟩), .int .i64 h, .int .i64 x] w fun e w' => e = .returned (.bool true) ∧ IsPool w' pp pl (L.set i ⟨(at_ L i).age, (at_ L i).has, x⟩) ∧ w.grownBy w' (some pl) := by
  have P := rplace_any pp pl L h w hp
  rw [show placeOf L h = (i : Int) by unfold placeOf; rw [hf]] at P
  have HS : Hid _ := P
  obtain ⟨h09, hi, hh, ha9, hm9⟩ := found_some hf
  have hr := hp.room
  obtain ⟨cp, hcp1, hcp2, cs⟩ := hp.slice
  have c0 := hp.age i hi
  have c1 := hp.has i hi
  have c2 := hp.x i hi
  have f0 := hp.free (i * 3) (by omega)
  have f1 := hp.free (i * 3 + 1) (by omega)
  have f2 := hp.free (i * 3 + 2) (by omega)
  rw [show L[i]?.getD default = at_ L i from rfl] at c0 c1 c2
  obtain ⟨o0, o1, o2⟩ := hp.okAt i
  have o0' : 0 ≤ (at_ L i).age := o0
  have o3 : (at_ L i).age ≤ 1073741824 := o2 hh
  have HP : Hid _ := hp.set1 hi x
  clear hf P h09 ha9 hm9 o0 o1 o2 hh
  generalize (at_ L i).age = ag at *
  generalize (at_ L i).has = hs at *
  generalize (at_ L i).x = px at *
  go_enter Try.func13, Try.ntmps13
  go_wp2_with (go_at_call 24; refine Calls.mono HS.out ?_; rintro e w' ⟨rfl, rfl⟩)
  go_ret
  exact ⟨rfl, HP.out, G.set (World.grownBy.refl _ _) _ _⟩
theorem rdrop_no (pp pl : Nat) (L : List Pl) (h : Int) (w : World) (hp : IsPool w pp pl L) (hf : found L h = none) :
    Calls Try.prog 15 #[.pointer (some ⟨pp, 0, none⟩), .int .i64 h] w fun e w' => e = .returned (.bool false) ∧ w' = w := by
  have P := rplace_any pp pl L h w hp
  rw [show placeOf L h = -1 by unfold placeOf; rw [hf]] at P
  have HS : Hid _ := P
  clear hf P
  go_enter Try.func15, Try.ntmps15
  go_wp2_with (go_at_call 24; refine Calls.mono HS.out ?_; rintro e w' ⟨rfl, rfl⟩)
  go_ret
  exact ⟨rfl, rfl⟩
set_option maxHeartbeats 4000000 in
theorem rdrop_yes (pp pl : Nat) (L : List Pl) (h : Int) (i : Nat) (w : World) (hp : IsPool w pp pl L) (hf : found L h = some i) :
    Calls Try.prog 15 #[.pointer (some ⟨pp, 0, none⟩), .int .i64 h] w fun e w' => e = .returned (.bool true) ∧ IsPool w' pp pl (L.set i ⟨(at_ L i).age + 1, false, 0⟩) ∧ w.grownBy w' (some pl) := by
  have P := rplace_any pp pl L h w hp
  rw [show placeOf L h = (i : Int) by unfold placeOf; rw [hf]] at P
  have HS : Hid _ := P
  obtain ⟨h09, hi, hh, ha9, hm9⟩ := found_some hf
  have hr := hp.room
  obtain ⟨cp, hcp1, hcp2, cs⟩ := hp.slice
  have c0 := hp.age i hi
  have c1 := hp.has i hi
  have c2 := hp.x i hi
  have f0 := hp.free (i * 3) (by omega)
  have f1 := hp.free (i * 3 + 1) (by omega)
  have f2 := hp.free (i * 3 + 2) (by omega)
  rw [show L[i]?.getD default = at_ L i from rfl] at c0 c1 c2
  obtain ⟨o0, o1, o2⟩ := hp.okAt i
  have o0' : 0 ≤ (at_ L i).age := o0
  have o3 : (at_ L i).age ≤ 1073741824 := o2 hh
  have HP : Hid _ := hp.set3 hi ⟨(at_ L i).age + 1, false, 0⟩ ⟨by show 0 ≤ (at_ L i).age + 1; omega, by show (at_ L i).age + 1 ≤ _; omega, fun e => by cases e⟩
  clear hf P h09 ha9 hm9 o0 o1 o2 hh
  generalize (at_ L i).age = ag at *
  generalize (at_ L i).has = hs at *
  generalize (at_ L i).x = px at *
  go_enter Try.func15, Try.ntmps15
  go_wp2_with (go_at_call 24; refine Calls.mono HS.out ?_; rintro e w' ⟨rfl, rfl⟩)
  go_region
  all_goals go_wp2
  all_goals go_ret
  all_goals exact ⟨rfl, HP.out.below (Below.refl _ _).drew, G.trans (G.set (G.set (G.set (World.grownBy.refl _ _) _ _) _ _) _ _) (below_grown (Below.refl _ _).drew _)⟩
end Go.Proofs.Ytoocenbmggfodaa
