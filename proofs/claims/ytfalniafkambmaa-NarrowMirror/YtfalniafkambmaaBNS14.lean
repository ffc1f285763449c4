/- The document's own test of a direction in a list. -/
import Derived.Test.YtfalniafkambmaaBNS5
namespace Go.Proofs.Ytfalniafkambmaa
open Go.RowKit Go.Shelf
set_option linter.unusedVariables false

set_option maxHeartbeats 2000000 in
set_option maxRecDepth 100000 in
theorem has_any (v : Value) (Ls : List Pt) (p : Pt) (both : Bool) (w0 : World) (hv : Lies w0 v Ls) (hl : Ls.length ≤ 1000000) (hp : p.inB 1152921504606846976 = true) :
    Calls Try.prog 61 #[v, p.v, .bool both] w0 fun e W => e = .returned (.bool (decide (p ∈ Ls) || (both && decide (p.neg ∈ Ls)))) ∧ Below w0.heap.size w0 W := by
  obtain ⟨o, c, rfl, hlc, hcm, hcell⟩ := hv.form
  have HC : Hid _ := hcell
  clear hcell hv
  rw [Pt.inB_iff] at hp
  have HT : Hid (∀ k, k < Ls.length → (pt Ls k = p ∨ (both = true ∧ pt Ls k = p.neg)) → (decide (p ∈ Ls) || (both && decide (p.neg ∈ Ls))) = true) := fun k hk h => by
    rcases h with h | ⟨h1, h2⟩
    · rw [decide_eq_true (h ▸ pt_mem hk : p ∈ Ls)]; rfl
    · rw [h1, decide_eq_true (h2 ▸ pt_mem hk : p.neg ∈ Ls)]; simp
  have HE : Hid ((∀ k, k < Ls.length → ¬ (pt Ls k = p ∨ (both = true ∧ pt Ls k = p.neg))) → (decide (p ∈ Ls) || (both && decide (p.neg ∈ Ls))) = false) := fun h => by
    have h1 : ¬ p ∈ Ls := fun hm => by
      obtain ⟨k, hk, e⟩ := pt_of_mem hm
      exact h k hk (Or.inl e)
    rw [decide_eq_false h1]
    cases both with
    | false => rfl
    | true =>
      have h2 : ¬ p.neg ∈ Ls := fun hm => by
        obtain ⟨k, hk, e⟩ := pt_of_mem hm
        exact h k hk (Or.inr ⟨rfl, e⟩)
      rw [decide_eq_false h2]; rfl
  generalize (decide (p ∈ Ls) || (both && decide (p.neg ∈ Ls))) = R at *
  have B1 : Hid (Box3 (w0.alloc (.cells #[.int .i64 p.x, .int .i64 p.y, .int .i64 p.z] 23)) w0.heap.size p) := Box3.new w0 p.x p.y p.z _
  have hB : Hid (Below w0.heap.size w0 (w0.alloc (.cells #[.int .i64 p.x, .int .i64 p.y, .int .i64 p.z] 23))) := n_after w0 _
  have n1 : IntKind.i64.wrap (-p.x) = -p.x := by rw [IntKind.wrap_i64]; omega
  have n2 : IntKind.i64.wrap (-p.y) = -p.y := by rw [IntKind.wrap_i64]; omega
  have n3 : IntKind.i64.wrap (-p.z) = -p.z := by rw [IntKind.wrap_i64]; omega
  clear hp
  unfold Pt.v
  go_enter Try.func61, Try.ntmps61
  go_wp2_with (fail)
  obtain ⟨V, hV⟩ : ∃ V : World, V = w0.alloc (.cells #[.int .i64 p.x, .int .i64 p.y, .int .i64 p.z] 23) := ⟨_, rfl⟩
  obtain ⟨bp, hbp⟩ : ∃ bp, bp = w0.heap.size := ⟨_, rfl⟩
  rw [← hV] at B1 hB ⊢
  rw [← hbp] at B1 ⊢
  clear hV hbp
  go_loopg [7] Ls.length (fun gm s wr => ∃ k : Nat, s = .int .i64 (k : Int) ∧ k ≤ Ls.length ∧ gm = Ls.length - k ∧ Hid (∀ j, j < k → ¬ (pt Ls j = p ∨ (both = true ∧ pt Ls j = p.neg))) ∧ Hid (Below V.heap.size V wr))
  case atStart => exact ⟨0, rfl, Nat.zero_le _, rfl, fun j h => absurd h (Nat.not_lt_zero _), Below.refl _ _⟩
  case round =>
    obtain ⟨k, rfl, hk, hgm, HA, HB⟩ := hrel
    have HG : Hid _ := hgm
    clear hgm
    by_cases hkt : k < Ls.length
    · obtain ⟨g, off, rfl, x0, x1, x2⟩ := HC.out k hkt
      have x0 := c_after HB.out (c_after hB.out x0)
      have x1 := c_after HB.out (c_after hB.out x1)
      have x2 := c_after HB.out (c_after hB.out x2)
      obtain ⟨p0, p1, p2, _, _, _⟩ := B1.out.step HB.out
      have HT1 : Hid _ := HT.out k hkt
      have HN1 : Hid (¬ (pt Ls k = p ∨ (both = true ∧ pt Ls k = p.neg)) → ∀ j, j < k + 1 → ¬ (pt Ls j = p ∨ (both = true ∧ pt Ls j = p.neg))) := fun h j hj => by
        by_cases e : j = k
        · subst e; exact h
        · exact HA.out j (by omega)
      clear HT HE HA
      generalize pt Ls k = m at *
      cases both with
      | false =>
        by_cases ex : m.x = p.x
        · by_cases ey : m.y = p.y
          · by_cases ez : m.z = p.z
            · have e : R = true := HT1.out (Or.inl ((pt_eq _ _).2 ⟨ex, ey, ez⟩))
              subst e
              clear HT1 HN1
              go_wp2_with (fail)
              go_region
              go_wp2_with (fail)
              go_ret
              exact ⟨rfl, b_step hB.out HB.out.drew⟩
            · have HN2 : Hid _ := HN1.out (fun h => h.elim (fun h => ez ((pt_eq _ _).1 h).2.2) (fun h => by cases h.1))
              clear HT1 HN1
              go_wp2_with (fail)
              go_region
              go_wp2_with (fail)
              go_roundg (Ls.length - (k + 1))
              case measure => have := HG.out; omega
              case rel => exact ⟨k + 1, by go_num, by omega, rfl, HN2, HB.out.drew⟩
          · have HN2 : Hid _ := HN1.out (fun h => h.elim (fun h => ey ((pt_eq _ _).1 h).2.1) (fun h => by cases h.1))
            clear HT1 HN1
            go_wp2_with (fail)
            go_region
            go_wp2_with (fail)
            go_roundg (Ls.length - (k + 1))
            case measure => have := HG.out; omega
            case rel => exact ⟨k + 1, by go_num, by omega, rfl, HN2, HB.out.drew⟩
        · have HN2 : Hid _ := HN1.out (fun h => h.elim (fun h => ex ((pt_eq _ _).1 h).1) (fun h => by cases h.1))
          clear HT1 HN1
          go_wp2_with (fail)
          go_region
          go_wp2_with (fail)
          go_roundg (Ls.length - (k + 1))
          case measure => have := HG.out; omega
          case rel => exact ⟨k + 1, by go_num, by omega, rfl, HN2, HB.out.drew⟩
      | true =>
        by_cases ex : m.x = p.x
        · by_cases ey : m.y = p.y
          · by_cases ez : m.z = p.z
            · have e : R = true := HT1.out (Or.inl ((pt_eq _ _).2 ⟨ex, ey, ez⟩))
              subst e
              clear HT1 HN1
              go_wp2_with (fail)
              go_region
              go_wp2_with (fail)
              go_ret
              exact ⟨rfl, b_step hB.out HB.out.drew⟩
            · have hne : ¬ m = p := fun h => ez ((pt_eq _ _).1 h).2.2
              by_cases dx : m.x = -p.x
              · by_cases dy : m.y = -p.y
                · by_cases dz : m.z = -p.z
                  · have e : R = true := HT1.out (Or.inr ⟨rfl, (pt_eq _ _).2 ⟨dx, dy, dz⟩⟩)
                    subst e
                    clear HT1 HN1
                    go_wp2_with (fail)
                    go_region
                    go_wp2_with (fail)
                    go_ret
                    exact ⟨rfl, b_step hB.out HB.out.drew⟩
                  · have HN2 : Hid _ := HN1.out (fun h => h.elim hne (fun h => (fun h => dz ((pt_eq _ _).1 h).2.2) h.2))
                    clear HT1 HN1
                    go_wp2_with (fail)
                    go_region
                    go_wp2_with (fail)
                    go_roundg (Ls.length - (k + 1))
                    case measure => have := HG.out; omega
                    case rel => exact ⟨k + 1, by go_num, by omega, rfl, HN2, HB.out.drew⟩
                · have HN2 : Hid _ := HN1.out (fun h => h.elim hne (fun h => (fun h => dy ((pt_eq _ _).1 h).2.1) h.2))
                  clear HT1 HN1
                  go_wp2_with (fail)
                  go_region
                  go_wp2_with (fail)
                  go_roundg (Ls.length - (k + 1))
                  case measure => have := HG.out; omega
                  case rel => exact ⟨k + 1, by go_num, by omega, rfl, HN2, HB.out.drew⟩
              · have HN2 : Hid _ := HN1.out (fun h => h.elim hne (fun h => (fun h => dx ((pt_eq _ _).1 h).1) h.2))
                clear HT1 HN1
                go_wp2_with (fail)
                go_region
                go_wp2_with (fail)
                go_roundg (Ls.length - (k + 1))
                case measure => have := HG.out; omega
                case rel => exact ⟨k + 1, by go_num, by omega, rfl, HN2, HB.out.drew⟩
          · have hne : ¬ m = p := fun h => ey ((pt_eq _ _).1 h).2.1
            by_cases dx : m.x = -p.x
            · by_cases dy : m.y = -p.y
              · by_cases dz : m.z = -p.z
                · have e : R = true := HT1.out (Or.inr ⟨rfl, (pt_eq _ _).2 ⟨dx, dy, dz⟩⟩)
                  subst e
                  clear HT1 HN1
                  go_wp2_with (fail)
                  go_region
                  go_wp2_with (fail)
                  go_ret
                  exact ⟨rfl, b_step hB.out HB.out.drew⟩
                · have HN2 : Hid _ := HN1.out (fun h => h.elim hne (fun h => (fun h => dz ((pt_eq _ _).1 h).2.2) h.2))
                  clear HT1 HN1
                  go_wp2_with (fail)
                  go_region
                  go_wp2_with (fail)
                  go_roundg (Ls.length - (k + 1))
                  case measure => have := HG.out; omega
                  case rel => exact ⟨k + 1, by go_num, by omega, rfl, HN2, HB.out.drew⟩
              · have HN2 : Hid _ := HN1.out (fun h => h.elim hne (fun h => (fun h => dy ((pt_eq _ _).1 h).2.1) h.2))
                clear HT1 HN1
                go_wp2_with (fail)
                go_region
                go_wp2_with (fail)
                go_roundg (Ls.length - (k + 1))
                case measure => have := HG.out; omega
                case rel => exact ⟨k + 1, by go_num, by omega, rfl, HN2, HB.out.drew⟩
            · have HN2 : Hid _ := HN1.out (fun h => h.elim hne (fun h => (fun h => dx ((pt_eq _ _).1 h).1) h.2))
              clear HT1 HN1
              go_wp2_with (fail)
              go_region
              go_wp2_with (fail)
              go_roundg (Ls.length - (k + 1))
              case measure => have := HG.out; omega
              case rel => exact ⟨k + 1, by go_num, by omega, rfl, HN2, HB.out.drew⟩
        · have hne : ¬ m = p := fun h => ex ((pt_eq _ _).1 h).1
          by_cases dx : m.x = -p.x
          · by_cases dy : m.y = -p.y
            · by_cases dz : m.z = -p.z
              · have e : R = true := HT1.out (Or.inr ⟨rfl, (pt_eq _ _).2 ⟨dx, dy, dz⟩⟩)
                subst e
                clear HT1 HN1
                go_wp2_with (fail)
                go_region
                go_wp2_with (fail)
                go_ret
                exact ⟨rfl, b_step hB.out HB.out.drew⟩
              · have HN2 : Hid _ := HN1.out (fun h => h.elim hne (fun h => (fun h => dz ((pt_eq _ _).1 h).2.2) h.2))
                clear HT1 HN1
                go_wp2_with (fail)
                go_region
                go_wp2_with (fail)
                go_roundg (Ls.length - (k + 1))
                case measure => have := HG.out; omega
                case rel => exact ⟨k + 1, by go_num, by omega, rfl, HN2, HB.out.drew⟩
            · have HN2 : Hid _ := HN1.out (fun h => h.elim hne (fun h => (fun h => dy ((pt_eq _ _).1 h).2.1) h.2))
              clear HT1 HN1
              go_wp2_with (fail)
              go_region
              go_wp2_with (fail)
              go_roundg (Ls.length - (k + 1))
              case measure => have := HG.out; omega
              case rel => exact ⟨k + 1, by go_num, by omega, rfl, HN2, HB.out.drew⟩
          · have HN2 : Hid _ := HN1.out (fun h => h.elim hne (fun h => (fun h => dx ((pt_eq _ _).1 h).1) h.2))
            clear HT1 HN1
            go_wp2_with (fail)
            go_region
            go_wp2_with (fail)
            go_roundg (Ls.length - (k + 1))
            case measure => have := HG.out; omega
            case rel => exact ⟨k + 1, by go_num, by omega, rfl, HN2, HB.out.drew⟩
    · have e : R = false := HE.out (fun j hj => HA.out j (by omega))
      subst e
      go_wp2_with (fail)
      go_ret
      exact ⟨rfl, b_step hB.out HB.out⟩
end Go.Proofs.Ytfalniafkambmaa
