/- The document's own test of shapes: form, Check. -/
import Derived.Test.YtccdgpijjgeedaaRShB
namespace Go.Proofs.Ytccdgpijjgeedaa
open Go.RowKit Go.Shelf
set_option linter.unusedVariables false

theorem pt_getElem {L : List Pt} {i : Nat} (h : i < L.length) : pt L i = L[i] := by unfold pt; simp [h]
theorem may_iff {L : List Pt} (h4 : 4 ≤ L.length) (h12 : L.length ≤ 12) : mayP L = true ↔ ∀ j, j < L.length → (pt L j).inB 65536 = true ∧ ∀ j', j' < j → pt L j' ≠ pt L j := by
  unfold mayP
  rw [decide_eq_true (p := 4 ≤ L.length ∧ L.length ≤ 12) ⟨h4, h12⟩, Bool.true_and, Bool.and_eq_true, decide_eq_true_eq, List.all_eq_true]
  constructor
  · rintro ⟨h1, h2⟩ j hj
    refine ⟨h1 _ (pt_mem hj), fun j' hj' e => ?_⟩
    rw [pt_getElem hj, pt_getElem (by omega : j' < L.length)] at e
    exact (List.pairwise_iff_getElem.1 h2 j' j (by omega) hj hj') e
  · intro h
    refine ⟨fun p hp => ?_, List.pairwise_iff_getElem.2 fun i j hi hj hij e => ?_⟩
    · obtain ⟨i, hi, rfl⟩ := List.getElem_of_mem hp
      rw [← pt_getElem hi]; exact (h i hi).1
    · exact (h j hj).2 i hij (by rw [pt_getElem hi, pt_getElem hj]; exact e)
theorem inP_half (p : Pt) : inP p 1 65536 = (halfOk p.x && (halfOk p.y && halfOk p.z)) := rfl
set_option maxHeartbeats 2000000 in
set_option maxRecDepth 100000 in
theorem rform_hull (r : Int) (hf : Pt) (pv : Value) (Ls : List Pt) (w : World) (hv : Lies w pv Ls) :
    Calls Try.prog 81 #[.agg #[.int .i64 4, .int .i64 r, .int .i64 hf.x, .int .i64 hf.y, .int .i64 hf.z, pv]] w fun e W => e = .returned (.bool (inR r 0 16384 && mayP Ls)) ∧ Below w.heap.size w W := by
  obtain ⟨hx, hy, hz⟩ := hf
  obtain ⟨o, c, rfl, hlc, hcm, hcell⟩ := hv.form
  have HC : Hid _ := hcell
  clear hcell hv
  dsimp only
  have hB : Hid (Below w.heap.size w (w.alloc (.cells #[.int .i64 4, .int .i64 r, .int .i64 hx, .int .i64 hy, .int .i64 hz, .slice o Ls.length c] 68))) := n_after w _
  have B1 : Hid (Cells (w.alloc (.cells #[.int .i64 4, .int .i64 r, .int .i64 hx, .int .i64 hy, .int .i64 hz, .slice o Ls.length c] 68)) w.heap.size [.int .i64 4, .int .i64 r, .int .i64 hx, .int .i64 hy, .int .i64 hz, .slice o Ls.length c]) := Cells.new w [.int .i64 4, .int .i64 r, .int .i64 hx, .int .i64 hy, .int .i64 hz, .slice o Ls.length c] _
  cases hb : inR r 0 16384 with
  | false =>
    go_enter Try.func81, Try.ntmps81
    go_wp2_with (fail)
    refine Calls.mono (rin_is r 0 16384 _ false hb) ?_
    rintro e w' ⟨rfl, rfl⟩
    go_wp2_with (fail)
    go_ret
    exact ⟨rfl, hB.out⟩
  | true =>
    cases hl : inR (Ls.length : Int) 4 12 with
    | false =>
      have e : mayP Ls = false := by
        unfold mayP
        rw [decide_eq_false (p := 4 ≤ Ls.length ∧ Ls.length ≤ 12) (by have := of_decide_eq_false hl; omega)]; rfl
      rw [e]
      clear e
      go_enter Try.func81, Try.ntmps81
      go_wp2_with (fail)
      refine Calls.mono (rin_is r 0 16384 _ true hb) ?_
      rintro e w' ⟨rfl, rfl⟩
      go_wp2_with (fail)
      refine Calls.mono (rin_is _ 4 12 _ false hl) ?_
      rintro e w' ⟨rfl, rfl⟩
      go_wp2_with (fail)
      go_ret
      exact ⟨rfl, hB.out⟩
    | true =>
      have h4 : 4 ≤ Ls.length := by have := of_decide_eq_true hl; omega
      have h12 : Ls.length ≤ 12 := by have := of_decide_eq_true hl; omega
      have HF : Hid _ := may_iff h4 h12
      generalize mayP Ls = R at *
      obtain ⟨g, off, rfl, _, _, _⟩ := HC.out 0 (by omega)
      go_enter Try.func81, Try.ntmps81
      go_wp2_with (fail)
      refine Calls.mono (rin_is r 0 16384 _ true hb) ?_
      rintro e w' ⟨rfl, rfl⟩
      go_wp2_with (fail)
      refine Calls.mono (rin_is _ 4 12 _ true hl) ?_
      rintro e V ⟨rfl, rfl⟩
      clear hb hl
      go_wp2_with (fail)
      obtain ⟨V, hV⟩ : ∃ V : World, V = w.alloc (.cells #[.int .i64 4, .int .i64 r, .int .i64 hx, .int .i64 hy, .int .i64 hz, .slice (some ⟨g, off, none⟩) Ls.length c] 68) := ⟨_, rfl⟩
      rw [← hV] at B1 hB ⊢
      clear hV
      go_loopg [4] Ls.length (fun gm s wr => ∃ i : Nat, s = .int .i64 (i : Int) ∧ i ≤ Ls.length ∧ gm = Ls.length - i ∧ Hid (∀ j, j < i → (pt Ls j).inB 65536 = true ∧ ∀ j', j' < j → pt Ls j' ≠ pt Ls j) ∧ Hid (Below V.heap.size V wr))
      case atStart => exact ⟨0, rfl, Nat.zero_le _, rfl, fun j h => absurd h (Nat.not_lt_zero _), Below.refl _ _⟩
      case round =>
        obtain ⟨i, rfl, hi, hgm, HA, HBi⟩ := hrel
        have HG1 : Hid _ := hgm
        clear hgm
        have s5 := (Cells.step B1.out HBi.out 5 _ rfl).1
        by_cases hit : i < Ls.length
        · obtain ⟨g', off', e', x0, x1, x2⟩ := HC.out i hit
          simp only [Option.some.injEq, Addr.mk.injEq, and_true] at e'
          obtain ⟨rfl, rfl⟩ := e'
          have HX : Hid _ := And.intro (c_after hB.out x0) (And.intro (c_after hB.out x1) (c_after hB.out x2))
          clear x0 x1 x2
          have x0 := c_after HBi.out HX.out.1
          have x1 := c_after HBi.out HX.out.2.1
          have x2 := c_after HBi.out HX.out.2.2
          have HW : Hid _ := fun w' => rwithin_any (pt Ls i) (-65536) 65536 w'
          rw [inP_sym] at HW
          have HM : Hid ((pt Ls i).inB 65536 = false → R = false) := fun h => by
            cases R with
            | false => rfl
            | true => have := (HF.out.1 rfl i hit).1; rw [h] at this; cases this
          have HM2 : Hid (∀ k, k < i → pt Ls k = pt Ls i → R = false) := fun k hk h => by
            cases R with
            | false => rfl
            | true => exact absurd h ((HF.out.1 rfl i hit).2 k hk)
          have HS1 : Hid ((pt Ls i).inB 65536 = true → (∀ j', j' < i → pt Ls j' ≠ pt Ls i) → ∀ j, j < i + 1 → (pt Ls j).inB 65536 = true ∧ ∀ j', j' < j → pt Ls j' ≠ pt Ls j) := fun h1 h2 j hj => by
            by_cases e : j = i
            · subst e; exact ⟨h1, h2⟩
            · exact HA.out j (by omega)
          generalize pt Ls i = pc at *
          unfold Pt.v at HW
          generalize pc.inB 65536 = t at *
          go_wp2_with (fail)
          refine Calls.mono (HW.out _) ?_
          rintro e V1 ⟨rfl, hb1⟩
          have HB1 : Hid _ := b_step HBi.out hb1
          clear hb1 x0 x1 x2 s5 HW
          cases t with
          | false =>
            have e : R = false := HM.out rfl
            subst e
            go_wp2_with (fail)
            go_ret
            exact ⟨rfl, b_step hB.out HB1.out⟩
          | true =>
            have HS2 : Hid _ := HS1.out rfl
            clear HS1 HM
            go_wp2_with (fail)
            go_loopg [6] i (fun gm s wr => ∃ k : Nat, s = .int .i64 (k : Int) ∧ k ≤ i ∧ gm = i - k ∧ Hid (∀ j', j' < k → pt Ls j' ≠ pc) ∧ Hid (Below V.heap.size V wr))
            case atStart => exact ⟨0, rfl, Nat.zero_le _, rfl, fun j' h => absurd h (Nat.not_lt_zero _), HB1⟩
            case round =>
              obtain ⟨k, rfl, hk, hgm, HA2, HBk⟩ := hrel
              have HG2 : Hid _ := hgm
              clear hgm
              by_cases hkt : k < i
              · have hkl : k < Ls.length := by omega
                obtain ⟨g', off', e', y0, y1, y2⟩ := HC.out k hkl
                simp only [Option.some.injEq, Addr.mk.injEq, and_true] at e'
                obtain ⟨rfl, rfl⟩ := e'
                have y0 := c_after (b_step hB.out HBk.out) y0
                have y1 := c_after (b_step hB.out HBk.out) y1
                have y2 := c_after (b_step hB.out HBk.out) y2
                have x0 := c_after HBk.out HX.out.1
                have x1 := c_after HBk.out HX.out.2.1
                have x2 := c_after HBk.out HX.out.2.2
                have s5 := (Cells.step B1.out HBk.out 5 _ rfl).1
                have HEQ : Hid (pt Ls k = pc → R = false) := HM2.out k hkt
                have HNE : Hid (¬ pt Ls k = pc → ∀ j', j' < k + 1 → pt Ls j' ≠ pc) := fun h j' hj => by
                  by_cases e : j' = k
                  · subst e; exact h
                  · exact HA2.out j' (by omega)
                rw [pt_eq] at HEQ HNE
                generalize (pt Ls k).x = lx at *
                generalize (pt Ls k).y = ly at *
                generalize (pt Ls k).z = lz at *
                by_cases ex : lx = pc.x
                · by_cases ey : ly = pc.y
                  · by_cases ez : lz = pc.z
                    · have e : R = false := HEQ.out ⟨ex, ey, ez⟩
                      subst e ex ey ez
                      go_wp2_with (fail)
                      go_region
                      go_wp2_with (fail)
                      go_ret
                      exact ⟨rfl, b_step hB.out HBk.out.drew⟩
                    · have HN : Hid _ := HNE.out (fun h => ez h.2.2)
                      have e1 : (lz == pc.z) = false := beq_eq_false_iff_ne.2 ez
                      clear HEQ HNE
                      go_wp2_with (fail)
                      go_region
                      go_wp2_with (fail)
                      go_roundg (i - (k + 1))
                      case measure => have := HG2.out; omega
                      case rel => exact ⟨k + 1, by go_num, by omega, rfl, HN, HBk.out.drew⟩
                  · have HN : Hid _ := HNE.out (fun h => ey h.2.1)
                    have e1 : (ly == pc.y) = false := beq_eq_false_iff_ne.2 ey
                    clear HEQ HNE
                    go_wp2_with (fail)
                    go_region
                    go_wp2_with (fail)
                    go_roundg (i - (k + 1))
                    case measure => have := HG2.out; omega
                    case rel => exact ⟨k + 1, by go_num, by omega, rfl, HN, HBk.out.drew⟩
                · have HN : Hid _ := HNE.out (fun h => ex h.1)
                  have e1 : (lx == pc.x) = false := beq_eq_false_iff_ne.2 ex
                  clear HEQ HNE
                  go_wp2_with (fail)
                  go_region
                  go_wp2_with (fail)
                  go_roundg (i - (k + 1))
                  case measure => have := HG2.out; omega
                  case rel => exact ⟨k + 1, by go_num, by omega, rfl, HN, HBk.out.drew⟩
              · have HS3 : Hid _ := HS2.out (fun j' h => HA2.out j' (by omega))
                go_wp2_with (fail)
                go_roundg (Ls.length - (i + 1))
                case measure => have := HG1.out; omega
                case rel => exact ⟨i + 1, by go_num, by omega, rfl, HS3, HBk⟩
        · have e : R = true := HF.out.2 (fun j hj => HA.out j (by omega))
          subst e
          go_wp2_with (fail)
          go_ret
          exact ⟨rfl, b_step hB.out HBi.out⟩
end Go.Proofs.Ytccdgpijjgeedaa
