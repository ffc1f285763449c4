/- The reference's Lay, with any handle. -/
import Derived.Test.YtoocenbmggfodaaPoolI
namespace Go.Proofs.Ytoocenbmggfodaa
open Go.RowKit Go.Shelf
set_option linter.unusedVariables false

set_option maxHeartbeats 4000000 in
theorem rlay_some (pp pl : Nat) (L : List Pl) (h x age : Int) (i : Nat) (w : World) (hp : IsPool w pp pl L) (h1 : h ≤ 9223372036854775807) (hf : layAt L h = some (i, age)) :
    Calls Try.prog 9 #[.pointer (some ⟨pp, 0, none⟩), .int .i64 h, .int .i64 x] w fun e w' => e = .returned (.bool true) ∧ IsPool w' pp pl (L.set i ⟨age, true, x⟩) ∧ w.grownBy w' (some pl) := by
  have hr := hp.room
  obtain ⟨c0, hi, c2, c3, c4, em, ed⟩ : 0 < h ∧ i < L.length ∧ (at_ L i).has = false ∧ age ≤ 1073741824 ∧ (at_ L i).age ≤ age ∧ h % 65536 = (i : Int) + 1 ∧ h / 65536 = age := by
    unfold layAt at hf
    split at hf
    · rename_i c
      obtain ⟨c0, c1, c2, c3, c4⟩ := c
      simp only [Option.some.injEq, Prod.mk.injEq] at hf
      obtain ⟨rfl, rfl⟩ := hf
      exact ⟨c0, c1, c2, c3, c4, by omega, by omega⟩
    · cases hf
  obtain ⟨cp, hcp1, hcp2, cs⟩ := hp.slice
  have k0 := hp.age i hi
  have k1 := hp.has i hi
  have k2 := hp.x i hi
  have f0 := hp.free (i * 3) (by omega)
  have f1 := hp.free (i * 3 + 1) (by omega)
  have f2 := hp.free (i * 3 + 2) (by omega)
  rw [show L[i]?.getD default = at_ L i from rfl] at k0 k1 k2
  rw [c2] at k1
  have o0 : 0 ≤ (at_ L i).age := (hp.okAt i).1
  have HP : Hid _ := hp.set3 hi ⟨age, true, x⟩ ⟨by show 0 ≤ age; omega, by show age ≤ _; omega, fun _ => c3⟩
  clear hf c2
  generalize (at_ L i).age = ag at *
  generalize (at_ L i).x = px at *
  go_enter Try.func9, Try.ntmps9
  go_wp2
  go_ret
  exact ⟨rfl, HP.out, G.set (G.set (G.set (World.grownBy.refl _ _) _ _) _ _) _ _⟩
set_option maxHeartbeats 8000000 in
theorem rlay_none (pp pl : Nat) (L : List Pl) (h x : Int) (w : World) (hp : IsPool w pp pl L) (h1 : h ≤ 9223372036854775807) (hf : layAt L h = none) :
    Calls Try.prog 9 #[.pointer (some ⟨pp, 0, none⟩), .int .i64 h, .int .i64 x] w fun e w' => e = .returned (.bool false) ∧ w' = w := by
  have hr := hp.room
  obtain ⟨cp, hcp1, hcp2, cs⟩ := hp.slice
  by_cases h0 : 0 < h
  · obtain ⟨age, ed⟩ : ∃ age, h / 65536 = age := ⟨_, rfl⟩
    have a0 : 0 ≤ age := by omega
    have a1 : age ≤ 140737488355328 := by omega
    by_cases hz : h % 65536 = 0
    · clear hf
      go_enter Try.func9, Try.ntmps9
      go_wp2
      go_ret
      exact ⟨rfl, rfl⟩
    · obtain ⟨i, em⟩ : ∃ i : Nat, h % 65536 = (i : Int) + 1 := ⟨(h % 65536 - 1).toNat, by omega⟩
      have hi9 : i < 65536 := by omega
      clear hz
      by_cases hi : i < L.length
      · have k0 := hp.age i hi
        have k1 := hp.has i hi
        rw [show L[i]?.getD default = at_ L i from rfl] at k0 k1
        have hn : ¬ ((at_ L i).has = false ∧ age ≤ 1073741824 ∧ (at_ L i).age ≤ age) := by
          intro hc
          unfold layAt at hf
          rw [show (h - 1) % 65536 = (i : Int) by omega, show (h - 1) / 65536 = age by omega, Int.toNat_natCast, if_pos ⟨h0, hi, hc⟩] at hf
          cases hf
        clear hf
        generalize (at_ L i).age = ag at *
        generalize (at_ L i).has = hs at *
        by_cases ha : age ≤ 1073741824
        · cases hs with
          | true =>
            clear hn
            go_enter Try.func9, Try.ntmps9
            go_wp2
            go_ret
            exact ⟨rfl, rfl⟩
          | false =>
            have hlt : age < ag := by
              rcases Int.lt_or_le age ag with g | g
              · exact g
              · exact absurd ⟨rfl, ha, g⟩ hn
            clear hn
            go_enter Try.func9, Try.ntmps9
            go_wp2
            go_ret
            exact ⟨rfl, rfl⟩
        · have hlt : 1073741824 < age := by omega
          clear hn ha k0 k1
          go_enter Try.func9, Try.ntmps9
          go_wp2
          go_ret
          exact ⟨rfl, rfl⟩
      · have hge : L.length ≤ i := by omega
        clear hf hi
        go_enter Try.func9, Try.ntmps9
        go_wp2
        go_ret
        exact ⟨rfl, rfl⟩
  · have hle : h < 1 := by omega
    clear hf h0
    go_enter Try.func9, Try.ntmps9
    go_wp2
    go_ret
    exact ⟨rfl, rfl⟩
end Go.Proofs.Ytoocenbmggfodaa
