/- Package event: beyond, Diff; the document's own Diff. -/
import Derived.Test.YtbbmjfaflcbimaaEvJ
namespace Go.Proofs.Ytbbmjfaflcbimaa
open Go.RowKit Go.Shelf
set_option linter.unusedVariables false

/-- What one has beyond another one, as event.beyond tells it. -/
def BY (w : World) (x y : Value) (L : List Pr) : Prop := ∀ W, Below w.heap.size w W → Calls Try.prog 37 #[x, y] W fun e V => ∃ u, e = .returned u ∧ Lies V u L ∧ Below W.heap.size W V
theorem by_nil (w : World) (y : Option Addr) : BY w (.pointer none) (.pointer y) [] := fun W hb => by
  go_enter Try.func37, Try.ntmps37
  go_wp2_with (fail)
  go_ret
  exact ⟨_, rfl, ⟨none, 0, rfl, by simp, by omega, fun i hi => by simp at hi⟩, Below.refl _ _⟩
theorem by_some (sp base : Nat) (v : Value) (room : Nat) (L : List Pr) (tp tbase : Nat) (tv : Value) (troom : Nat) (M : List Pr) (w : World) (hs : IsSet w sp base v room L) (ht : IsSet w tp tbase tv troom M) : BY w (.pointer (some ⟨sp, 0, none⟩)) (.pointer (some ⟨tp, 0, none⟩)) (minus L (some M)) := fun W hb => by
  have HC : Hid _ := beyond_some sp base v room L tp tbase tv troom M W (hs.below hb) (ht.below hb)
  go_enter Try.func37, Try.ntmps37
  go_wp2_with (fail)
  refine Calls.mono HC.out ?_
  rintro e V ⟨u, rfl, hu, hB⟩
  obtain ⟨o, c, rfl⟩ := row_form hu
  have HU : Hid _ := hu
  have HB : Hid _ := hB
  clear hu hB
  go_wp2_with (fail)
  go_ret
  exact ⟨_, rfl, Lies.of_row HU.out, HB.out⟩
theorem by_bare (sp base : Nat) (v : Value) (room : Nat) (L : List Pr) (w : World) (hs : IsSet w sp base v room L) : BY w (.pointer (some ⟨sp, 0, none⟩)) (.pointer none) L := fun W hb => by
  have HC : Hid _ := beyond_nil sp base v room L W (hs.below hb)
  go_enter Try.func37, Try.ntmps37
  go_wp2_with (fail)
  refine Calls.mono HC.out ?_
  rintro e V ⟨u, rfl, hu, hB⟩
  obtain ⟨o, c, rfl⟩ := row_form hu
  have HU : Hid _ := hu
  have HB : Hid _ := hB
  clear hu hB
  go_wp2_with (fail)
  go_ret
  exact ⟨_, rfl, Lies.of_row HU.out, HB.out⟩
theorem BY.below {w W : World} {x y : Value} {L : List Pr} (h : BY w x y L) (hb : Below w.heap.size w W) : BY W x y L := fun V hV => h V (z_step hb hV)
set_option maxHeartbeats 2000000 in
theorem diff19_any (x y : Option Addr) (L M : List Pr) (w : World) (h1 : BY w (.pointer y) (.pointer x) L) (h2 : BY w (.pointer x) (.pointer y) M) (hL : L.length ≤ 4096) (hM : M.length ≤ 4096) :
    Calls Try.prog 24 #[.pointer x, .pointer y] w fun e W => ∃ u, e = .returned u ∧ OA W w.heap.size u (tellP 1 L ++ tellP 2 M) ∧ Below w.heap.size w W := by
  have H1 : Hid _ := h1
  have H2 : Hid _ := h2
  clear h1 h2
  go_enter Try.func24, Try.ntmps24
  go_wp2_with (fail)
  refine Calls.mono (H1.out w (Below.refl _ _)) ?_
  rintro e W1 ⟨u1, rfl, hu, hb⟩
  have HB : Hid _ := hb
  have HU : Hid _ := hu
  clear hu hb
  go_wp2_with (fail)
  refine Calls.mono (tell19_any 1 u1 L W1 HU.out hL) ?_
  rintro e W2 ⟨u2, rfl, hu, hb⟩
  have HA : Hid _ := hu.mono HB.out.size
  have HB : Hid _ := z_step HB.out hb
  clear hu hb HU
  go_wp2_with (fail)
  refine Calls.mono (H2.out W2 HB.out) ?_
  rintro e W3 ⟨u3, rfl, hu, hb⟩
  have HB3 : Hid _ := z_step HB.out hb
  have HA3 : Hid _ := HA.out.below hb
  have HU : Hid _ := hu
  clear hu hb HB HA
  go_wp2_with (fail)
  refine Calls.mono (tell19_any 2 u3 M W3 HU.out hM) ?_
  rintro e W4 ⟨u4, rfl, hu, hb⟩
  have HB4 : Hid _ := z_step HB3.out hb
  have HA4 : Hid _ := HA3.out.below hb
  have HD4 : Hid _ := hu.mono HB3.out.size
  obtain ⟨o2, c2, rfl, _, _⟩ := HA4.out.len
  obtain ⟨o4, c4, rfl, _, _⟩ := HD4.out.len
  obtain ⟨V, hV⟩ : ∃ V, V = W4.alloc (.cells #[.slice o2 (tellP 1 L).length c2, .slice o4 (tellP 2 M).length c4] 31) := ⟨_, rfl⟩
  obtain ⟨S0, hS0⟩ : ∃ n, n = W4.heap.size := ⟨_, rfl⟩
  have hB : Below W4.heap.size W4 V := by rw [hV]; exact (Below.refl _ _).alloc (Nat.le_refl _) _
  have x0 : V.cell? ⟨S0, 0, none⟩ = some (.slice o2 (tellP 1 L).length c2) := by rw [hV, hS0]; simp [go_sem]
  have x1 : V.cell? ⟨S0, 1, none⟩ = some (.slice o4 (tellP 2 M).length c4) := by rw [hV, hS0]; simp [go_sem]
  have HC : Hid _ := econcat_any (tellP 1 L) (tellP 2 M) _ _ S0 V (HA4.out.below hB).lies (HD4.out.below hB).lies x0 x1 (by rw [tellP_length, tellP_length]; omega)
  have HBV : Hid _ := z_step HB4.out hB
  clear hu hb HU HB3 HA3 hB x0 x1
  go_wp2_with (fail)
  rw [← hV, ← hS0]
  refine Calls.mono HC.out ?_
  rintro e W5 ⟨u5, rfl, hu, hb⟩
  have HB5 : Hid _ := z_step HBV.out hb
  have HD5 : Hid _ := hu.mono HBV.out.size
  obtain ⟨o5, c5, rfl, _, _⟩ := HD5.out.len
  clear hu hb
  go_wp2_with (fail)
  go_ret
  exact ⟨_, rfl, by have := HD5.out; rw [List.length_append] at this; exact this, HB5.out⟩
end Go.Proofs.Ytbbmjfaflcbimaa
