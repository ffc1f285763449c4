/- The reference's Put. -/
import Derived.Test.YtoocenbmggfodaaPoolJ
namespace Go.Proofs.Ytoocenbmggfodaa
open Go.RowKit Go.Shelf
set_option linter.unusedVariables false

theorem IsPool.set2 {W : World} {pp pl : Nat} {L : List Pl} (h : IsPool W pp pl L) {k : Nat} (hk : k < L.length) (y : Int) (ha : (at_ L k).age ≤ 1073741824) :
    IsPool ((W.setCell ⟨pl, k * 3 + 1, none⟩ (.bool true)).setCell ⟨pl, k * 3 + 2, none⟩ (.int .i64 y)) pp pl (L.set k ⟨(at_ L k).age, true, y⟩) := by
  have get : ∀ (p : Pl) i, i ≠ k → (L.set k p)[i]?.getD default = L[i]?.getD default := fun p i hi => by rw [List.getElem?_set_ne (Ne.symm hi)]
  have getk : ∀ p : Pl, (L.set k p)[k]?.getD default = p := fun p => by rw [List.getElem?_set_self hk]; rfl
  have oth : ∀ q : Addr, q ≠ ⟨pl, k * 3 + 1, none⟩ → q ≠ ⟨pl, k * 3 + 2, none⟩ → ((W.setCell ⟨pl, k * 3 + 1, none⟩ (.bool true)).setCell ⟨pl, k * 3 + 2, none⟩ (.int .i64 y)).cell? q = W.cell? q := fun q h2 h3 => by
    rw [World.cell?_setCell_other _ _ _ _ (Ne.symm h3), World.cell?_setCell_other _ _ _ _ (Ne.symm h2)]
  refine ⟨?_, h.ne, ?_, ?_, ?_, ?_, ?_, ?_, ?_⟩
  · obtain ⟨c, h1, h2, h3⟩ := h.slice
    exact ⟨c, by simpa using h1, h2, by rw [oth _ (by simp) (by simp)]; simpa using h3⟩
  · simpa [World.setCell] using h.lt
  · simpa using h.room
  · intro i hi
    rw [oth _ (addr_ne (by omega)) (addr_ne (by omega))]
    by_cases e : i = k
    · subst e; rw [getk]; exact h.age i hk
    · rw [get _ i e]; exact h.age i (by simpa using hi)
  · intro i hi
    by_cases e : i = k
    · subst e; rw [getk, World.cell?_setCell_other _ _ _ _ (by simp), World.cell?_setCell_same' _ _ _ (by rw [h.has i hk]; rfl)]
    · rw [get _ i e, oth _ (addr_ne (by omega)) (addr_ne (by omega))]; exact h.has i (by simpa using hi)
  · intro i hi
    by_cases e : i = k
    · subst e; rw [getk, World.cell?_setCell_same' _ _ _ (by rw [World.cell?_setCell_other _ _ _ _ (by simp), h.x i hk]; rfl)]
    · rw [get _ i e, oth _ (addr_ne (by omega)) (addr_ne (by omega))]; exact h.x i (by simpa using hi)
  · intro o ho
    rw [World.frozen?_setCell, World.frozen?_setCell]
    exact h.free o (by simpa using ho)
  · intro i hi
    by_cases e : i = k
    · subst e; rw [getk]; exact ⟨(h.okAt i).1, (h.okAt i).2.1, fun _ => ha⟩
    · rw [get _ i e]; exact h.ok i (by simpa using hi)

set_option maxHeartbeats 4000000 in
theorem rput_any (pp pl : Nat) (L : List Pl) (x : Int) (w : World) (hp : IsPool w pp pl L) :
    Calls Try.prog 18 #[.pointer (some ⟨pp, 0, none⟩), .int .i64 x] w fun e W =>
      (∃ k, k < L.length ∧ (at_ L k).free = true ∧ (∀ j, j < k → (at_ L j).free = false) ∧ e = .returned (.tuple #[.int .i64 ((at_ L k).age * 65536 + (k : Int) + 1), .int .i64 0]) ∧ IsPool W pp pl (L.set k ⟨(at_ L k).age, true, x⟩) ∧ w.grownBy W (some pl)) ∨
      ((∀ j, j < L.length → (at_ L j).free = false) ∧ e = .returned (.tuple #[.int .i64 0, .int .i64 30]) ∧ IsPool W pp pl L ∧ w.grownBy W (some pl)) := by
  have hr := hp.room
  obtain ⟨cp, hcp1, hcp2, cs⟩ := hp.slice
  go_enter Try.func18, Try.ntmps18
  go_wp2
  go_loopw [6] (fun i wr => ∃ k : Nat, k ≤ L.length ∧ i = .int .i64 k ∧ wr = w ∧ Hid (∀ j, j < k → (at_ L j).free = false)) (fun i _ => L.length - (intOf i).toNat)
  case atStart => exact ⟨0, Nat.zero_le _, rfl, rfl, fun j hj => absurd hj (by omega)⟩
  case round =>
    obtain ⟨k, hk, rfl, rfl, HN⟩ := hrel
    by_cases hlt : k < L.length
    · have c0 := hp.age k hlt
      have c1 := hp.has k hlt
      have c2 := hp.x k hlt
      have f1 := hp.free (k * 3 + 1) (by omega)
      have f2 := hp.free (k * 3 + 2) (by omega)
      have o0' : 0 ≤ (at_ L k).age := (hp.okAt k).1
      have o1' : (at_ L k).age ≤ 1073741825 := (hp.okAt k).2.1
      rw [show L[k]?.getD default = at_ L k from rfl] at c0 c1 c2
      have HN2 : Hid ((at_ L k).free = false → ∀ j, j < k + 1 → (at_ L j).free = false) := fun h2 j hj => by
        by_cases e : j = k
        · subst e; exact h2
        · exact HN.out j (by omega)
      have FR : Hid ((at_ L k).free = (!(at_ L k).has && decide ((at_ L k).age ≤ 1073741824))) := rfl
      have HP : Hid _ := hp.set2 hlt x
      have HF : Hid ((at_ L k).free = true → (at_ L k).free = true) := id
      generalize hag : (at_ L k).age = ag at *
      generalize hhs : (at_ L k).has = hs at *
      generalize (at_ L k).x = px at *
      have HAG : Hid _ := hag
      clear hag hhs
      by_cases hfree : hs = false ∧ ag ≤ 1073741824
      · obtain ⟨rfl, ha⟩ := hfree
        clear HN2 HF
        go_wp2
        go_ret2
        refine Or.inl ⟨k, hlt, by rw [FR.out]; simp [ha], HN.out, by rw [HAG.out]; try rfl, by rw [HAG.out]; exact HP.out ha, G.set (G.set (World.grownBy.refl _ _) _ _) _ _⟩
      · have hfr : (at_ L k).free = false := by
          rw [FR.out]
          cases hs with
          | true => rfl
          | false => simp; exact Int.not_le.1 (fun h => hfree ⟨rfl, h⟩)
        have HR : Hid _ := HN2.out hfr
        cases hs with
        | true =>
          clear HN2 HF HP FR hfr hfree HN HAG
          go_wp2
          go_roundw
          case rel => exact ⟨k + 1, by omega, by go_num, by simp, HR⟩
          case measure => simp [intOf]; omega
        | false =>
          have hgt : 1073741824 < ag := Int.not_le.1 (fun h => hfree ⟨rfl, h⟩)
          clear HN2 HF HP FR hfr hfree HN HAG
          go_wp2
          go_roundw
          case rel => exact ⟨k + 1, by omega, by go_num, by simp, HR⟩
          case measure => simp [intOf]; omega
    · obtain rfl : k = L.length := by omega
      clear hlt
      go_wp2
      go_ret2
      exact Or.inr ⟨HN.out, rfl, hp, World.grownBy.refl _ _⟩
end Go.Proofs.Ytoocenbmggfodaa
