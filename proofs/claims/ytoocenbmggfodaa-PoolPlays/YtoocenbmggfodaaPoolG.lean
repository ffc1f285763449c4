/- A pool's Set, and Lay with any handle. -/
import Derived.Test.YtoocenbmggfodaaPoolF
namespace Go.Proofs.Ytoocenbmggfodaa
open Go.RowKit Go.Shelf
set_option linter.unusedVariables false

theorem IsPool.set1 {W : World} {pp pl : Nat} {L : List Pl} (h : IsPool W pp pl L) {k : Nat} (hk : k < L.length) (y : Int) :
    IsPool (W.setCell ⟨pl, k * 3 + 2, none⟩ (.int .i64 y)) pp pl (L.set k ⟨(at_ L k).age, (at_ L k).has, y⟩) := by
  have get : ∀ (p : Pl) i, i ≠ k → (L.set k p)[i]?.getD default = L[i]?.getD default := fun p i hi => by rw [List.getElem?_set_ne (Ne.symm hi)]
  have getk : ∀ p : Pl, (L.set k p)[k]?.getD default = p := fun p => by rw [List.getElem?_set_self hk]; rfl
  have oth : ∀ q : Addr, q ≠ ⟨pl, k * 3 + 2, none⟩ → (W.setCell ⟨pl, k * 3 + 2, none⟩ (.int .i64 y)).cell? q = W.cell? q := fun q h3 => World.cell?_setCell_other _ _ _ _ (Ne.symm h3)
  refine ⟨?_, h.ne, ?_, ?_, ?_, ?_, ?_, ?_, ?_⟩
  · obtain ⟨c, h1, h2, h3⟩ := h.slice
    exact ⟨c, by simpa using h1, h2, by rw [oth _ (by simp)]; simpa using h3⟩
  · simpa [World.setCell] using h.lt
  · simpa using h.room
  · intro i hi
    rw [oth _ (addr_ne (by omega))]
    by_cases e : i = k
    · subst e; rw [getk]; exact h.age i hk
    · rw [get _ i e]; exact h.age i (by simpa using hi)
  · intro i hi
    rw [oth _ (addr_ne (by omega))]
    by_cases e : i = k
    · subst e; rw [getk]; exact h.has i hk
    · rw [get _ i e]; exact h.has i (by simpa using hi)
  · intro i hi
    by_cases e : i = k
    · subst e; rw [getk, World.cell?_setCell_same' _ _ _ (by rw [h.x i hk]; rfl)]
    · rw [get _ i e, oth _ (addr_ne (by omega))]; exact h.x i (by simpa using hi)
  · intro o ho
    rw [World.frozen?_setCell]
    exact h.free o (by simpa using ho)
  · intro i hi
    by_cases e : i = k
    · subst e; rw [getk]; exact h.ok i hk
    · rw [get _ i e]; exact h.ok i (by simpa using hi)
theorem set_no (pp pl : Nat) (L : List Pl) (h x : Int) (w : World) (hp : IsPool w pp pl L) (h1 : h ≤ 9223372036854775807) (hf : found L h = none) :
    Calls Try.prog 12 #[.pointer (some ⟨pp, 0, none⟩), .int .i64 h, .int .i64 x] w fun e w' => e = .returned (.bool false) ∧ w' = w := by
  have HS : Hid _ := find_no pp pl L h w hp h1 hf
  clear hf
  go_enter Try.func12, Try.ntmps12
  go_wp2_with (go_at_call 23; refine Calls.mono HS.out ?_; rintro e w' ⟨rfl, rfl⟩)
  go_ret
  exact ⟨rfl, rfl⟩
theorem set_yes (pp pl : Nat) (L : List Pl) (h x : Int) (i : Nat) (w : World) (hp : IsPool w pp pl L) (h1 : h ≤ 9223372036854775807) (hf : found L h = some i) :
    Calls Try.prog 12 #[.pointer (some ⟨pp, 0, none⟩), .int .i64 h, .int .i64 x] w fun e w' => e = .returned (.bool true) ∧ IsPool w' pp pl (L.set i ⟨(at_ L i).age, (at_ L i).has, x⟩) ∧ w.grownBy w' (some pl) := by
  have HS : Hid _ := find_yes pp pl L h i w hp h1 hf
  obtain ⟨h09, hi, hh, ha9, hm9⟩ := found_some hf
  have c2 := hp.x i hi
  have f2 := hp.free (i * 3 + 2) (by omega)
  have HP : Hid _ := hp.set1 hi x
  clear hf hh h09 ha9 hm9
  generalize L[i]?.getD default = px at *
  go_enter Try.func12, Try.ntmps12
  go_wp2_with (go_at_call 23; refine Calls.mono HS.out ?_; rintro e w' ⟨rfl, rfl⟩)
  go_ret
  exact ⟨rfl, HP.out, G.set (World.grownBy.refl _ _) _ _⟩
end Go.Proofs.Ytoocenbmggfodaa
