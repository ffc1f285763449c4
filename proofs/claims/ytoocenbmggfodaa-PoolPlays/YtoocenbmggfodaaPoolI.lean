/- Lay with any handle: the pool's and the reference's answer the same. -/
import Derived.Test.YtoocenbmggfodaaPoolH
namespace Go.Proofs.Ytoocenbmggfodaa
open Go.RowKit Go.Shelf
set_option linter.unusedVariables false

/-- Where Lay lays, and with which age. -/
def layAt (L : List Pl) (h : Int) : Option (Nat × Int) :=
  if 0 < h ∧ ((h - 1) % 65536).toNat < L.length ∧ (at_ L ((h - 1) % 65536).toNat).has = false ∧ (h - 1) / 65536 ≤ 1073741824 ∧ (at_ L ((h - 1) % 65536).toNat).age ≤ (h - 1) / 65536 then some (((h - 1) % 65536).toNat, (h - 1) / 65536) else none
theorem lay_some (pp pl : Nat) (L : List Pl) (h x age : Int) (i : Nat) (w : World) (hp : IsPool w pp pl L) (hf : layAt L h = some (i, age)) :
    Calls Try.prog 8 #[.pointer (some ⟨pp, 0, none⟩), .int .i64 h, .int .i64 x] w fun e w' => e = .returned (.bool true) ∧ IsPool w' pp pl (L.set i ⟨age, true, x⟩) ∧ w.grownBy w' (some pl) := by
  unfold layAt at hf
  split at hf
  · rename_i c
    obtain ⟨c0, c1, c2, c3, c4⟩ := c
    simp only [Option.some.injEq, Prod.mk.injEq] at hf
    obtain ⟨rfl, rfl⟩ := hf
    have e : h = (h - 1) / 65536 * 65536 + (((h - 1) % 65536).toNat : Int) + 1 := by omega
    have A := lay_yes pp pl L ((h - 1) / 65536) x ((h - 1) % 65536).toNat w hp c1 c2 (by omega) c3 c4
    rw [← e] at A
    exact A
  · cases hf
set_option maxHeartbeats 2000000 in
theorem lay_none (pp pl : Nat) (L : List Pl) (h x : Int) (w : World) (hp : IsPool w pp pl L) (h1 : h ≤ 9223372036854775807) (hf : layAt L h = none) :
    Calls Try.prog 8 #[.pointer (some ⟨pp, 0, none⟩), .int .i64 h, .int .i64 x] w fun e w' => e = .returned (.bool false) ∧ w' = w := by
  by_cases h0 : 0 < h
  · obtain ⟨i, hm⟩ : ∃ i : Nat, (h - 1) % 65536 = i := ⟨((h - 1) % 65536).toNat, by omega⟩
    by_cases hi : i < L.length
    · have c0 := hp.age i hi
      have c1 := hp.has i hi
      have S := split_yes pp pl L h _ i w hp h0 h1 hm rfl hi
      rw [show L[i]?.getD default = at_ L i from rfl] at c0 c1
      have hn : ¬ ((at_ L i).has = false ∧ (h - 1) / 65536 ≤ 1073741824 ∧ (at_ L i).age ≤ (h - 1) / 65536) := by
        intro hc
        unfold layAt at hf
        rw [hm, Int.toNat_natCast, if_pos ⟨h0, hi, hc⟩] at hf
        cases hf
      generalize (h - 1) / 65536 = age at *
      generalize (at_ L i).age = ag at *
      generalize (at_ L i).has = hs at *
      have HS : Hid _ := S
      clear S hm hf
      cases hs with
      | true =>
        clear hn
        go_enter Try.func8, Try.ntmps8
        go_wp2_with (go_at_call 21; refine Calls.mono HS.out ?_; rintro e w' ⟨rfl, rfl⟩)
        go_ret
        exact ⟨rfl, rfl⟩
      | false =>
        by_cases ha : age ≤ 1073741824
        · have hlt : age < ag := by
            rcases Int.lt_or_le age ag with g | g
            · exact g
            · exact absurd ⟨rfl, ha, g⟩ hn
          clear hn
          go_enter Try.func8, Try.ntmps8
          go_wp2_with (go_at_call 21; refine Calls.mono HS.out ?_; rintro e w' ⟨rfl, rfl⟩)
          go_ret
          exact ⟨rfl, rfl⟩
        · have hlt : 1073741824 < age := by omega
          clear hn ha
          go_enter Try.func8, Try.ntmps8
          go_wp2_with (go_at_call 21; refine Calls.mono HS.out ?_; rintro e w' ⟨rfl, rfl⟩)
          go_ret
          exact ⟨rfl, rfl⟩
    · have HS : Hid _ := split_no pp pl L h _ i w hp h0 h1 hm rfl (by omega)
      clear hf hm
      go_enter Try.func8, Try.ntmps8
      go_wp2_with (go_at_call 21; refine Calls.mono HS.out ?_; rintro e w' ⟨rfl, rfl⟩)
      go_ret
      exact ⟨rfl, rfl⟩
  · clear hf
    go_enter Try.func8, Try.ntmps8
    go_wp2_with (go_at_call 21; refine (split_low pp h _ (by omega)).mono ?_; rintro e w' ⟨rfl, rfl⟩)
    go_ret
    exact ⟨rfl, rfl⟩
end Go.Proofs.Ytoocenbmggfodaa
