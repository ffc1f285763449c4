/- Package fx's calls Mul, Ratio, Div, Root: what each returns, and that but for the flag it leaves all memory as it was. -/
import Derived.Test.YtocdompopadanaaWork
namespace Go.Proofs.Ytocdompopadanaa
open Go.RowKit Fx

theorem below_step {w w1 w2 : World} (h1 : Below w.heap.size w w1) (h2 : Below w1.heap.size w1 w2) : Below w.heap.size w w2 := h1.trans (h2.mono h1.size)

theorem small_prod {x y : Int} (hx : -4611686018427387903 ≤ x ∧ x ≤ 4611686018427387903) (hy : -4611686018427387903 ≤ y ∧ y ≤ 4611686018427387903) : -21267647932558653966460912964485513216 < x * y ∧ x * y < 21267647932558653966460912964485513216 := by
  have a : (x * y).natAbs ≤ 4611686018427387903 * 4611686018427387903 := by rw [Int.natAbs_mul]; exact Nat.mul_le_mul (by omega) (by omega)
  omega

set_option maxHeartbeats 1000000 in
theorem sub_any (b off : Nat) (f : Bool) (x y : Int) (w : World) (hc : w.cell? ⟨b, off, none⟩ = some (.bool f)) (hf : w.frozen? ⟨b, off, none⟩ = false) :
    Calls Try.prog 75 #[.pointer (some ⟨b, off, none⟩), .int .i64 x, .int .i64 y] w fun e w' => e = .returned (.int .i64 ((sub x y).getD 0)) ∧ Below w.heap.size (mark ⟨b, off, none⟩ (sub x y) w) w' := by
  have C1 := great2 x y w
  have hb := new_after w (.cells #[.int .i64 x, .int .i64 y] 3)
  have hc' := cell_after hb hc
  have hf' := frozen_after hb hc hf
  cases hg : (great x || great y)
  · have hsub : sub x y = told (x - y) := by simp [sub, hg]
    rw [hsub]
    rw [hg] at C1
    have hx : -4611686018427387903 ≤ x ∧ x ≤ 4611686018427387903 := (not_great x).1 (by simp at hg; exact hg.1)
    have hy : -4611686018427387903 ≤ y ∧ y ≤ 4611686018427387903 := (not_great y).1 (by simp at hg; exact hg.2)
    have C2 : Hid _ := tell_any b off f (x - y) _ hc' hf'
    have K1 : Hid _ := C1
    have HB : Hid _ := hb
    clear C1 hb hc hf hc' hf' hg hsub
    go_enter Try.func75, Try.ntmps75
    go_wp2_with (first | (go_at_call 86; refine (Calls.mono K1.out ?_); rintro e w' ⟨rfl, rfl⟩) | (go_at_call 88; refine (Calls.mono C2.out ?_); rintro e w' ⟨rfl, hb2⟩))
    go_ret
    exact ⟨rfl, mark_after HB.out hb2⟩
  · have hsub : sub x y = none := by simp only [sub, hg, if_true]
    rw [hsub]
    rw [hg] at C1
    have C2 : Hid _ := none_any b off f _ hc' hf'
    have K1 : Hid _ := C1
    have HB : Hid _ := set_after (p := ⟨b, off, none⟩) (v := .bool true) hb
    clear C1 hb hc hf hc' hf' hg hsub
    go_enter Try.func75, Try.ntmps75
    go_wp2_with (first | (go_at_call 86; refine (Calls.mono K1.out ?_); rintro e w' ⟨rfl, rfl⟩) | (go_at_call 87; refine (Calls.mono C2.out ?_); rintro e w' ⟨rfl, rfl⟩))
    go_ret
    exact ⟨rfl, HB.out⟩
end Go.Proofs.Ytocdompopadanaa
