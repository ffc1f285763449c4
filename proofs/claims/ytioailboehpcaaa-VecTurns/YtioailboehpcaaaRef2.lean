/- The reference's numbers by digits (tumblerref01): how the sizes of two compare; a number's sign. -/
import Derived.Test.YtioailboehpcaaaRef
import Derived.Deep.RegionWith
namespace Go.Proofs.Ytioailboehpcaaa
open Go.RowKit Ref

theorem size_same {a b : Nat → Int} (h : ∀ j, 0 ≤ j → j < 8 → a j = b j) : val a 8 = val b 8 := val_ext 8 fun j hj => h j (Nat.zero_le _) hj
theorem size_less {a b : Nat → Int} {m : Nat} (ha : Digs a) (hb : Digs b) (hm : m < 8) (h : ∀ j, m + 1 ≤ j → j < 8 → a j = b j) (hl : a m < b m) : val a 8 < val b 8 :=
  val_less m (fun j hj => ha j (by omega)) (fun j hj => (hb j (by omega)).1) hl 8 hm (fun j h1 h2 => h j h1 h2)

set_option maxHeartbeats 1000000 in
theorem sizes_any (s t : Bool) (a b : Nat → Int) (w : World) (ha : Digs a) (hb : Digs b) :
    Calls Try.prog 75 #[wv s a, wv t b] w fun e w' => ∃ c, e = .returned (.int .i64 c) ∧ Hid ((c = -1 ∧ val a 8 < val b 8) ∨ (c = 0 ∧ val a 8 = val b 8) ∨ (c = 1 ∧ val b 8 < val a 8)) ∧ Hid (Below w.heap.size w w') := by
  have HA : Hid _ := ha
  have HC : Hid _ := hb
  clear ha hb
  go_enter Try.func75, Try.ntmps75
  go_wp2
  go_loopw [5] (fun i wr => ∃ (k : Nat), k ≤ 8 ∧ i = .int .i64 ((k : Int) - 1) ∧ Hid (∀ j, k ≤ j → j < 8 → a j = b j) ∧ Hid (Lies wr w.heap.size s a) ∧ Hid (Lies wr (w.heap.size + 1) t b) ∧ Hid (Below w.heap.size w wr)) (fun i _ => (intOf i + 1).toNat)
  case atStart => exact ⟨8, Nat.le_refl _, rfl, fun j h1 h2 => by omega, Lies.alloc (lies_new w s a 84) _, by show Lies _ _ _ _; have := lies_new (w.alloc (.cells #[.bool s, .int .i64 (a 0), .int .i64 (a 1), .int .i64 (a 2), .int .i64 (a 3), .int .i64 (a 4), .int .i64 (a 5), .int .i64 (a 6), .int .i64 (a 7)] 84)) t b 84; simpa only [World.size_alloc] using this, (new_after w _).alloc (by simp) _⟩
  case round =>
    obtain ⟨k, hk, rfl, HD, HL, HR, HB⟩ := hrel
    match k, hk, HD with
    | 0, _, HD =>
      go_wp2
      go_ret
      exact ⟨0, rfl, Or.inr (Or.inl ⟨rfl, size_same HD.out⟩), HB.out⟩
    | m + 1, hm, HD =>
      have e : ((m + 1 : Nat) : Int) - 1 = (m : Int) := by omega
      rw [e]
      have i0 : (0 : Int) ≤ (m : Int) := by omega
      have i1 : (m : Int) < 8 := by omega
      have c0 := HL.out.dig m (by omega)
      have c1 := HR.out.dig m (by omega)
      have HX : Hid _ := HD
      clear HD e
      rcases Int.lt_trichotomy (a m) (b m) with g | g | g
      · have HG : Hid _ := size_less HA.out HC.out (by omega) HX.out g
        go_wp2
        go_region
        all_goals go_wp2
        all_goals go_ret
        all_goals exact ⟨-1, rfl, Or.inl ⟨rfl, HG.out⟩, HB.out.drew⟩
      · have HG : Hid _ := g
        rw [← g] at c1
        clear g
        go_wp2
        go_region
        all_goals go_wp2
        all_goals go_region
        all_goals go_wp2
        all_goals go_roundw
        all_goals try (case rel => exact ⟨m, by omega, by go_num, fun j h1 h2 => by by_cases e : j = m; (subst e; exact HG.out); exact HX.out j (by omega) h2, HL.out.drew.drew, HR.out.drew.drew, HB.out.drew.drew⟩)
        all_goals try (case measure => show (((m : Int) - 1) + 1).toNat < ((m : Int) + 1).toNat; omega)
      · have HG : Hid _ := size_less HC.out HA.out (by omega) (fun j h1 h2 => (HX.out j h1 h2).symm) g
        go_wp2
        go_region
        all_goals go_wp2
        all_goals go_region
        all_goals go_wp2
        all_goals go_ret
        all_goals exact ⟨1, rfl, Or.inr (Or.inr ⟨rfl, HG.out⟩), HB.out.drew.drew⟩

theorem sv_zero {s : Bool} {d : Nat → Int} (h : val d 8 = 0) : sv s d = 0 := by unfold sv; cases s <;> simp [h]

set_option maxHeartbeats 1000000 in
theorem sign_any (s : Bool) (a : Nat → Int) (w : World) (ha : Digs a) :
    Calls Try.prog 77 #[wv s a] w fun e w' => ∃ c, e = .returned (.int .i64 c) ∧ Hid (-1 ≤ c ∧ c ≤ 1 ∧ (c < 0 ↔ sv s a < 0)) ∧ Hid (Below w.heap.size w w') := by
  have HC : Hid _ := fun w => sizes_any s false a (fun _ => 0) w ha (fun j _ => by simp)
  have hz : val (fun _ => 0) 8 = 0 := by simp [val]
  have HZ : Hid _ := hz
  have HA : Hid _ := ha.nonneg
  clear ha hz
  go_enter Try.func77, Try.ntmps77
  go_wp2_with (fail)
  refine (HC.out _).mono ?_
  rintro e w' ⟨c, rfl, S, B⟩
  have HB : Hid _ := below_step (w := w) ((new_after w _).alloc (by simp) _) B.out
  rw [HZ.out] at S
  have hcell : w'.cell? ⟨w.heap.size, 0, none⟩ = some (.bool s) := cell_after B.out (by simp)
  clear B HC HZ
  rcases S.out with ⟨rfl, h⟩ | ⟨rfl, h⟩ | ⟨rfl, h⟩
  · exact absurd h (by have := HA.out; omega)
  · have HH : Hid _ := sv_zero (s := s) h
    clear h
    go_wp2
    go_ret
    exact ⟨0, rfl, ⟨by omega, by omega, by have := HH.out; omega⟩, HB.out⟩
  · cases s
    · go_wp2
      go_ret
      exact ⟨1, rfl, ⟨by omega, by omega, by unfold sv; simp; omega⟩, HB.out⟩
    · go_wp2
      go_ret
      exact ⟨-1, rfl, ⟨by omega, by omega, by unfold sv; simp; omega⟩, HB.out⟩
end Go.Proofs.Ytioailboehpcaaa
