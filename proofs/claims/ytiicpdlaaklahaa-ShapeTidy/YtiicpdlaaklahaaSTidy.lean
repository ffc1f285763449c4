/- A core's directions are short, none of them is noughts, and none stands there twice, nor, of edges, the other way round: for every raw shape. -/
import Derived.Test.YtiicpdlaaklahaaShM
import Derived.Test.YtiicpdlaaklahaaOpenS
import Derived.Test.YtiicpdlaaklahaaRows
import Derived.ProofKit
import Derived.OpenShut
namespace Go.Proofs.Ytiicpdlaaklahaa
namespace shapeTidy
open Go.ChangeShapes Go.WideShapes Go.ChangeAt Go.RowKit Go.Shelf
set_option linter.unusedVariables false

theorem own : ownKnob Try.prog.godebug = none := by kernel_rfl
theorem laidOut : laidOutB Try.prog = true := by kernel_rfl

/-- What the law asks of a list of directions. -/
structure TL (k : Nat) (A : List Pt) : Prop where
  one : ∀ p ∈ A, p ≠ Pt.O ∧ p.short = p
  two : A.Pairwise fun p q => p ≠ q ∧ (k = 1 → p ≠ q.neg)
theorem good_axes {s : Sh} (h : Good s) : TL 0 (axesP s) := by
  unfold axesP
  by_cases k3 : s.kind = 3
  · rw [if_pos k3]; exact ⟨by decide, by decide⟩
  · rw [if_neg k3]
    by_cases k4 : s.kind = 4
    · rw [if_pos k4]
      have hf : formP s = true := by
        cases hf : formP s with
        | true => rfl
        | false => have := h.ok; unfold checkP at this; rw [hf] at this; simp at this
      obtain ⟨_, _, m3, m4⟩ := may_parts (form_hull hf k4)
      have t := sides_tidy m3 m4
      exact ⟨t.a0, t.a1.imp fun h => ⟨h, fun e => by omega⟩⟩
    · rw [if_neg k4]; exact ⟨by simp, List.Pairwise.nil⟩
theorem good_edges {s : Sh} (h : Good s) : TL 1 (edgesP s) := by
  unfold edgesP
  by_cases k2 : s.kind = 2
  · rw [if_pos k2]; exact ⟨by decide, by decide⟩
  rw [if_neg k2]
  by_cases k3 : s.kind = 3
  · rw [if_pos k3]; exact ⟨by decide, by decide⟩
  · rw [if_neg k3]
    by_cases k4 : s.kind = 4
    · rw [if_pos k4]
      have hf : formP s = true := by
        cases hf : formP s with
        | true => rfl
        | false => have := h.ok; unfold checkP at this; rw [hf] at this; simp at this
      obtain ⟨_, _, m3, m4⟩ := may_parts (form_hull hf k4)
      have t := sides_tidy m3 m4
      exact ⟨t.e0, t.e1.imp fun h => ⟨h.1, fun _ => h.2⟩⟩
    · rw [if_neg k4]; exact ⟨by simp, List.Pairwise.nil⟩
theorem good_pts {s : Sh} (h : Good s) : 0 < (ptsP s).length := by
  unfold ptsP
  by_cases k1 : s.kind = 1
  · rw [if_pos k1]; decide
  rw [if_neg k1]
  by_cases k2 : s.kind = 2
  · rw [if_pos k2]; simp
  rw [if_neg k2]
  by_cases k3 : s.kind = 3
  · rw [if_pos k3]; simp [cornersP]
  · rw [if_neg k3]
    have k4 : s.kind = 4 := by have := h.k; omega
    have hf : formP s = true := by
      cases hf : formP s with
      | true => rfl
      | false => have := h.ok; unfold checkP at this; rw [hf] at this; simp at this
    obtain ⟨m1, _⟩ := may_parts (form_hull hf k4)
    omega
theorem TL.at {k : Nat} {A : List Pt} (h : TL k A) {i : Nat} (hi : i < A.length) : ∃ x y z : Int, pt A i = ⟨x, y, z⟩ ∧ (x = 0 → y = 0 → ¬ z = 0) ∧ (-1048576 ≤ x ∧ x ≤ 1048576) ∧ (-1048576 ≤ y ∧ y ≤ 1048576) ∧ (-1048576 ≤ z ∧ z ≤ 1048576) ∧ (∀ w : World, Calls Try.prog 19 #[.agg #[.int .i64 x, .int .i64 y, .int .i64 z]] w fun e W => e = .returned (.agg #[.int .i64 x, .int .i64 y, .int .i64 z]) ∧ Below w.heap.size w W) := by
  obtain ⟨h1, h2⟩ := h.one _ (pt_mem hi)
  have h3 := (Pt.inB_iff _ _).1 (short_in (pt A i))
  rw [h2] at h3
  have hs := fun w => short_any (pt A i) w
  rw [h2] at hs
  generalize pt A i = p at *
  obtain ⟨x, y, z⟩ := p
  refine ⟨x, y, z, rfl, fun e1 e2 e3 => ?_, h3.1, h3.2.1, h3.2.2, hs⟩
  exact absurd (by rw [e1, e2, e3]; rfl) h1
theorem TL.pair {k : Nat} {A : List Pt} (h : TL k A) {i j : Nat} (hi : i < A.length) (hj : j < i) {x y z x' y' z' : Int} (e : pt A i = ⟨x, y, z⟩) (e' : pt A j = ⟨x', y', z'⟩) : (x' = x → y' = y → ¬ z' = z) ∧ (k = 1 → x' = -x → y' = -y → ¬ z' = -z) := by
  have h2 := List.pairwise_iff_getElem.1 h.two j i (by omega) hi hj
  have g1 : A[j] = ⟨x', y', z'⟩ := by rw [← e']; unfold pt; rw [List.getElem?_eq_getElem (by omega)]; rfl
  have g2 : A[i] = ⟨x, y, z⟩ := by rw [← e]; unfold pt; rw [List.getElem?_eq_getElem hi]; rfl
  rw [g1, g2] at h2
  exact ⟨fun e1 e2 e3 => absurd (by rw [e1, e2, e3]) h2.1, fun k1 e1 e2 e3 => absurd (by rw [e1, e2, e3]; rfl) (h2.2 k1)⟩

set_option maxHeartbeats 2000000 in
set_option maxRecDepth 100000 in
theorem walk (k rr x y z : Int) (o : Option Addr) (L : List Pt) (c : Nat) (w0 : World) (hL : Lies w0 (.slice o L.length c) L) (hF : ∀ p ∈ L, p.fits) (bk : -9223372036854775808 ≤ k ∧ k ≤ 9223372036854775807) (br : -9223372036854775808 ≤ rr ∧ rr ≤ 9223372036854775807) (bx : -9223372036854775808 ≤ x ∧ x ≤ 9223372036854775807) (by_ : -9223372036854775808 ≤ y ∧ y ≤ 9223372036854775807) (bz : -9223372036854775808 ≤ z ∧ z ≤ 9223372036854775807) :
    Calls Try.prog 7 #[.agg #[.int .i64 k, .int .i64 rr, .int .i64 x, .int .i64 y, .int .i64 z, .slice o L.length c]] w0 fun e w' => e = .returned (.bool true) ∧ Below w0.heap.size w0 w' := by
  have AW : Hid _ := fun W => awake5_any W
  have HR : Hid _ := fun w' (h : Lies w' (.slice o L.length c) L) => right_any k rr x y z (.slice o L.length c) L w' bk br bx by_ bz h hF
  have HL : Hid _ := hL
  clear bk br bx by_ bz hF hL
  have B1 : Hid (Cells (w0.alloc (.cells #[.int .i64 k, .int .i64 rr, .int .i64 x, .int .i64 y, .int .i64 z, .slice o L.length c] 42)) w0.heap.size [.int .i64 k, .int .i64 rr, .int .i64 x, .int .i64 y, .int .i64 z, .slice o L.length c]) := Cells.new w0 [.int .i64 k, .int .i64 rr, .int .i64 x, .int .i64 y, .int .i64 z, .slice o L.length c] _
  have hB : Hid (Below w0.heap.size w0 (w0.alloc (.cells #[.int .i64 k, .int .i64 rr, .int .i64 x, .int .i64 y, .int .i64 z, .slice o L.length c] 42))) := n_after w0 _
  go_enter Try.func7, Try.ntmps7
  go_wp2_with (fail)
  refine Calls.mono (AW.out _) ?_
  clear AW
  rintro e V ⟨rfl, h⟩
  have B1 : Hid (Cells V w0.heap.size [.int .i64 k, .int .i64 rr, .int .i64 x, .int .i64 y, .int .i64 z, .slice o L.length c]) := Cells.step B1.out h
  have hD : Hid _ := b_step hB.out h
  clear h hB
  have c0 := (B1.out 0 _ rfl).1
  have c1 := (B1.out 1 _ rfl).1
  have c2 := (B1.out 2 _ rfl).1
  have c3 := (B1.out 3 _ rfl).1
  have c4 := (B1.out 4 _ rfl).1
  have c5 := (B1.out 5 _ rfl).1
  go_wp2_with (fail)
  refine Calls.mono (HR.out _ (HL.out.below hD.out)) ?_
  clear HR
  rintro e V2 ⟨s, u, rfl, hRow, hGood, _⟩
  obtain ⟨ou, lu, cu, rfl⟩ := own_slice hRow.row
  have hD : Hid _ := b_step hD.out hRow.below
  have HC : Hid _ := core_any s (.slice ou lu cu) V2 hRow.lies
  have HK : Hid _ := hGood
  clear hRow hGood c0 c1 c2 c3 c4 c5 B1 HL
  have HA : Hid _ := good_axes HK.out
  have HE : Hid _ := good_edges HK.out
  have HP : Hid _ := good_pts HK.out
  have HO : Hid _ := HK.out.ok
  clear HK
  generalize axesP s = A at *
  generalize edgesP s = E at *
  generalize ptsP s = P at *
  obtain ⟨sk, sr, ⟨sx, sy, sz⟩, M⟩ := s
  unfold Sh.v at *
  dsimp only at *
  go_wp2_with (fail)
  refine Calls.mono HC.out ?_
  clear HC
  rintro e V3 ⟨vp, va, ve, _, hcore⟩
  obtain ⟨rfl, hT⟩ := hcore HO.out
  have HT : Hid _ := hT
  clear hT hcore HO
  obtain ⟨op, cp, rfl, _⟩ := (Lies.of_row HT.out.rp).form
  obtain ⟨oa, ca, rfl, _⟩ := (Lies.of_row HT.out.ra).form
  obtain ⟨oe, ce, rfl, _⟩ := (Lies.of_row HT.out.re).form
  go_upto_region 3 with fail
  obtain ⟨X, hX⟩ : ∃ X : World, X = V3.alloc (.cells #[.slice op P.length cp, .slice oa A.length ca, .slice oe E.length ce, .int .i64 sr] 31) := ⟨_, rfl⟩
  obtain ⟨b4, hb4⟩ : ∃ b, b = V3.heap.size := ⟨_, rfl⟩
  have CC : Hid (Cells X b4 [.slice op P.length cp, .slice oa A.length ca, .slice oe E.length ce, .int .i64 sr]) := by rw [hX, hb4]; exact Cells.new V3 [.slice op P.length cp, .slice oa A.length ca, .slice oe E.length ce, .int .i64 sr] _
  have LA : Hid (Lies X (.slice oa A.length ca) A) := by rw [hX]; exact (Lies.of_row HT.out.ra).below (n_after _ _)
  have LE : Hid (Lies X (.slice oe E.length ce) E) := by rw [hX]; exact (Lies.of_row HT.out.re).below (n_after _ _)
  have hD : Hid (Below w0.heap.size w0 X) := by rw [hX]; exact b_step (b_step hD.out HT.out.below) (n_after _ _)
  rw [← hX, ← hb4]
  clear hX hb4 HT
  go_wp2_with (fail)
  go_loopg [6] 2 (fun gm s wr => ∃ k : Nat, s = .int .i64 (k : Int) ∧ k ≤ 2 ∧ gm = 2 - k ∧ Hid (Below X.heap.size X wr))
  case atStart => exact ⟨0, rfl, by omega, rfl, Below.refl _ _⟩
  case round =>
    obtain ⟨kk, rfl, hk, hgm, HB⟩ := hrel
    have HG1 : Hid _ := hgm
    clear hgm
    have d0 := (Cells.step CC.out HB.out 0 _ rfl).1
    have d1 := (Cells.step CC.out HB.out 1 _ rfl).1
    have d2 := (Cells.step CC.out HB.out 2 _ rfl).1
    by_cases hk2 : kk < 2
    · rcases (show kk = 0 ∨ kk = 1 by omega) with rfl | rfl
      · go_wp2_with (fail)
        go_loopg [8] A.length (fun gm s wr => ∃ i : Nat, s = .int .i64 (i : Int) ∧ i ≤ A.length ∧ gm = A.length - i ∧ Hid (Below X.heap.size X wr))
        case atStart => exact ⟨0, rfl, Nat.zero_le _, rfl, HB⟩
        case round =>
          obtain ⟨i, rfl, hi, hgm, HB2⟩ := hrel
          have HG2 : Hid _ := hgm
          clear hgm
          by_cases hit : i < A.length
          · obtain ⟨o9, c9, e9, _, _, hc9⟩ := LA.out.form
            cases e9
            have HCL : Hid _ := hc9
            clear hc9
            obtain ⟨g, off, e', x0, x1, x2⟩ := HCL.out i hit
            subst e'
            obtain ⟨px, py, pz, ep, hne, b1, b2, b3, HS'⟩ := HA.out.at hit
            rw [ep] at x0 x1 x2
            dsimp only at x0 x1 x2
            have EP : Hid _ := ep
            have HS : Hid _ := HS'
            clear ep HS'
            have n0 : IntKind.i64.wrap (-px) = -px := by rw [IntKind.wrap_i64]; omega
            have n1 : IntKind.i64.wrap (-py) = -py := by rw [IntKind.wrap_i64]; omega
            have n2 : IntKind.i64.wrap (-pz) = -pz := by rw [IntKind.wrap_i64]; omega
            clear b1 b2 b3
            have x0 := c_after HB2.out x0
            have x1 := c_after HB2.out x1
            have x2 := c_after HB2.out x2
            go_upto_region 14 with fail
            go_upto_region 15 with fail
            obtain ⟨W1, hW1⟩ : ∃ X : World, X = wr.alloc (.cells #[.int .i64 px, .int .i64 py, .int .i64 pz] 23) := ⟨_, rfl⟩
            obtain ⟨b9, hb9⟩ : ∃ b, b = wr.heap.size := ⟨_, rfl⟩
            have BX : Hid (Box3 W1 b9 ⟨px, py, pz⟩) := by rw [hW1, hb9]; exact Box3.new wr px py pz _
            have HB2 : Hid (Below X.heap.size X W1) := by rw [hW1]; exact b_step HB2.out (n_after _ _)
            rw [← hW1, ← hb9]
            clear hW1 hb9 x0 x1 x2
            obtain ⟨q0, q1, q2, _, _, _⟩ := BX.out
            dsimp only at q0 q1 q2
            refine RV.region_by (fun j v w => match j with | 0 => v = .agg #[.int .i64 (px), .int .i64 (py), .int .i64 (pz)] | 1 => v = .agg #[.int .i64 (0), .int .i64 (0), .int .i64 (0)] | 2 => v = .bool (false) | 3 => v = .bool (false) | 4 => v = .agg #[.int .i64 (px), .int .i64 (py), .int .i64 (pz)] | 5 => v = .agg #[.int .i64 (px), .int .i64 (py), .int .i64 (pz)] | 6 => v = .agg #[.int .i64 (px), .int .i64 (py), .int .i64 (pz)] | 7 => v = .bool (false) | 8 => v = .bool (false) | _ => True) (fun γ L w9 => Below W1.heap.size W1 w9) (by kernel_rfl) (by kernel_rfl) (by kernel_rfl) (by kernel_rfl) ?_ ?_ ?_
            · exact (Below.refl _ W1).drew
            · generalize hD : dstOf _ = D
              generalize hWA : waitsFor _ = WA
              generalize hZ : Act.mk _ _ = Z
              obtain ⟨R, hR⟩ : ∃ R : Nat → Value → World → Prop, R = (fun j v w => match j with | 0 => v = .agg #[.int .i64 (px), .int .i64 (py), .int .i64 (pz)] | 1 => v = .agg #[.int .i64 (0), .int .i64 (0), .int .i64 (0)] | 2 => v = .bool (false) | 3 => v = .bool (false) | 4 => v = .agg #[.int .i64 (px), .int .i64 (py), .int .i64 (pz)] | 5 => v = .agg #[.int .i64 (px), .int .i64 (py), .int .i64 (pz)] | 6 => v = .agg #[.int .i64 (px), .int .i64 (py), .int .i64 (pz)] | 7 => v = .bool (false) | 8 => v = .bool (false) | _ => True) := ⟨_, rfl⟩
              rw [← hR]
              have d0 : D 0 = some 44 := by rw [← hD]; rfl
              have d1 : D 1 = some 45 := by rw [← hD]; rfl
              have d2 : D 2 = some 46 := by rw [← hD]; rfl
              have d3 : D 3 = some 47 := by rw [← hD]; rfl
              have d4 : D 4 = some 48 := by rw [← hD]; rfl
              have d5 : D 5 = some 49 := by rw [← hD]; rfl
              have d6 : D 6 = some 50 := by rw [← hD]; rfl
              have d7 : D 7 = some 51 := by rw [← hD]; rfl
              have d8 : D 8 = some 52 := by rw [← hD]; rfl
              have r0 : ∀ v w, R 0 v w = (v = .agg #[.int .i64 (px), .int .i64 (py), .int .i64 (pz)]) := fun v w => by rw [hR]; rfl
              have r1 : ∀ v w, R 1 v w = (v = .agg #[.int .i64 (0), .int .i64 (0), .int .i64 (0)]) := fun v w => by rw [hR]; rfl
              have r2 : ∀ v w, R 2 v w = (v = .bool (false)) := fun v w => by rw [hR]; rfl
              have r3 : ∀ v w, R 3 v w = (v = .bool (false)) := fun v w => by rw [hR]; rfl
              have r4 : ∀ v w, R 4 v w = (v = .agg #[.int .i64 (px), .int .i64 (py), .int .i64 (pz)]) := fun v w => by rw [hR]; rfl
              have r5 : ∀ v w, R 5 v w = (v = .agg #[.int .i64 (px), .int .i64 (py), .int .i64 (pz)]) := fun v w => by rw [hR]; rfl
              have r6 : ∀ v w, R 6 v w = (v = .agg #[.int .i64 (px), .int .i64 (py), .int .i64 (pz)]) := fun v w => by rw [hR]; rfl
              have r7 : ∀ v w, R 7 v w = (v = .bool (false)) := fun v w => by rw [hR]; rfl
              have r8 : ∀ v w, R 8 v w = (v = .bool (false)) := fun v w => by rw [hR]; rfl
              have E9 : ∀ (γ : Nat → Value) (L : Nat → Bool) (a : Act) (w : World), RV.Held D WA R (fun γ L w9 => Below W1.heap.size W1 w9) Z γ L a w → a.tmps[9]? = some (.pointer (some ⟨b9, 0, none⟩)) := fun γ L a w hH => (hH.rest 9 (by rw [← hD]; exact RV.dst_free (by kernel_rfl))).trans (by rw [← hZ]; rfl)
              have K : ∀ j v w w', R j v w → R j v w' := by rw [hR]; intro j v w w' h; exact h
              clear hD hWA hZ hR
              refine RV.AllDo.cons 0 (RV.does_pure (fun γ v L w hl h => h) (fun γ L a w hH hl hA => by have e0 := E9 γ L a w hH; have hB9 := hH.glob; have z0 := c_after hB9 q0; have z1 := c_after hB9 q1; have z2 := c_after hB9 q2; exact ⟨.agg #[.int .i64 (px), .int .i64 (py), .int .i64 (pz)], by simp [execOp, go_sem, e0, z0, z1, z2], (r0 _ _).mpr rfl⟩)) ?_
              refine RV.AllDo.cons 1 (RV.does_pure (fun γ v L w hl h => h) (fun γ L a w hH hl hA => by exact ⟨.agg #[.int .i64 (0), .int .i64 (0), .int .i64 (0)], by simp [execOp, go_sem], (r1 _ _).mpr rfl⟩)) ?_
              refine RV.AllDo.cons 2 (RV.does_pure (fun γ v L w hl h => h) (fun γ L a w hH hl hA => by have l0 : L 0 = true := hA ⟨0, .data⟩ (by simp) rfl; have e0 := hH.slot 0 44 d0 l0; have g0 := hH.holds 0 l0; rw [r0] at g0; rw [g0] at e0; have l1 : L 1 = true := hA ⟨1, .data⟩ (by simp) rfl; have e1 := hH.slot 1 45 d1 l1; have g1 := hH.holds 1 l1; rw [r1] at g1; rw [g1] at e1; exact ⟨.bool (false), by simp [execOp, go_sem, e0, e1]; exact hne, (r2 _ _).mpr rfl⟩)) ?_
              refine RV.AllDo.cons 3 (RV.does_pure (fun γ v L w hl h => h) (fun γ L a w hH hl hA => by have l0 : L 2 = true := hA ⟨2, .data⟩ (by simp) rfl; have e0 := hH.slot 2 46 d2 l0; have g0 := hH.holds 2 l0; rw [r2] at g0; rw [g0] at e0; exact ⟨.bool (false), by simp [execOp, go_sem, e0], (r3 _ _).mpr rfl⟩)) ?_
              refine RV.AllDo.cons 4 (RV.does_guarded rfl d3 (fun v w h => by rw [r3] at h; exact h) (by simp) (RV.does_pure (fun γ v L w hl h => h) (fun γ L a w hH hl hA => by have e0 := E9 γ L a w hH; have hB9 := hH.glob; have z0 := c_after hB9 q0; have z1 := c_after hB9 q1; have z2 := c_after hB9 q2; exact ⟨.agg #[.int .i64 (px), .int .i64 (py), .int .i64 (pz)], by simp [execOp, go_sem, e0, z0, z1, z2], (r4 _ _).mpr rfl⟩))) ?_
              refine RV.AllDo.cons 5 (RV.does_guarded rfl d3 (fun v w h => by rw [r3] at h; exact h) (by simp) (RV.does_call (fun γ L a w hH hl hA => by have l0 : L 4 = true := hA ⟨4, .data⟩ (by simp) rfl; have e0 := hH.slot 4 48 d4 l0; have g0 := hH.holds 4 l0; rw [r4] at g0; rw [g0] at e0; have hB9 := hH.glob; exact ⟨19, #[.agg #[.int .i64 (px), .int .i64 (py), .int .i64 (pz)]], by simp [go_sem, e0], Calls.mono (HS.out w) (by rintro e w2 ⟨rfl, hb⟩; exact ⟨_, rfl, (r5 _ _).mpr rfl, fun j v _ h => K j v _ _ h, hB9.trans (hb.mono hB9.size)⟩)⟩))) ?_
              refine RV.AllDo.cons 6 (RV.does_guarded rfl d3 (fun v w h => by rw [r3] at h; exact h) (by simp) (RV.does_pure (fun γ v L w hl h => h) (fun γ L a w hH hl hA => by have e0 := E9 γ L a w hH; have hB9 := hH.glob; have z0 := c_after hB9 q0; have z1 := c_after hB9 q1; have z2 := c_after hB9 q2; exact ⟨.agg #[.int .i64 (px), .int .i64 (py), .int .i64 (pz)], by simp [execOp, go_sem, e0, z0, z1, z2], (r6 _ _).mpr rfl⟩))) ?_
              refine RV.AllDo.cons 7 (RV.does_guarded rfl d3 (fun v w h => by rw [r3] at h; exact h) (by simp) (RV.does_pure (fun γ v L w hl h => h) (fun γ L a w hH hl hA => by have l0 : L 5 = true := hA ⟨5, .data⟩ (by simp) rfl; have e0 := hH.slot 5 49 d5 l0; have g0 := hH.holds 5 l0; rw [r5] at g0; rw [g0] at e0; have l1 : L 6 = true := hA ⟨6, .data⟩ (by simp) rfl; have e1 := hH.slot 6 50 d6 l1; have g1 := hH.holds 6 l1; rw [r6] at g1; rw [g1] at e1; exact ⟨.bool (false), by simp [execOp, go_sem, e0, e1], (r7 _ _).mpr rfl⟩))) ?_
              refine RV.AllDo.cons 8 (RV.does_pure (fun γ v L w hl h => h) (fun γ L a w hH hl hA => by have l0 : L 3 = true := hA ⟨3, .data⟩ (by simp) rfl; have e0 := hH.slot 3 47 d3 l0; have g0 := hH.holds 3 l0; rw [r3] at g0; rw [g0] at e0; have l1 : L 7 = true := hA ⟨7, .data⟩ (by simp) rfl; have e1 := hH.slot 7 51 d7 l1; have g1 := hH.holds 7 l1; rw [r7] at g1; rw [g1] at e1; exact ⟨.bool (false), by simp [execOp, go_sem, e0, e1], (r8 _ _).mpr rfl⟩)) ?_
              exact RV.AllDo.nil
            · intro γ a5 w5 L9 hL hLo hH
              have ha := RV.held_act hH hL (by kernel_rfl) (by kernel_rfl)
              have hb8 := hH.glob
              have y0 : γ 0 = .agg #[.int .i64 (px), .int .i64 (py), .int .i64 (pz)] := hH.holds 0 (hL 0 (by decide))
              have y1 : γ 1 = .agg #[.int .i64 (0), .int .i64 (0), .int .i64 (0)] := hH.holds 1 (hL 1 (by decide))
              have y2 : γ 2 = .bool (false) := hH.holds 2 (hL 2 (by decide))
              have y3 : γ 3 = .bool (false) := hH.holds 3 (hL 3 (by decide))
              have y4 : γ 4 = .agg #[.int .i64 (px), .int .i64 (py), .int .i64 (pz)] := hH.holds 4 (hL 4 (by decide))
              have y5 : γ 5 = .agg #[.int .i64 (px), .int .i64 (py), .int .i64 (pz)] := hH.holds 5 (hL 5 (by decide))
              have y6 : γ 6 = .agg #[.int .i64 (px), .int .i64 (py), .int .i64 (pz)] := hH.holds 6 (hL 6 (by decide))
              have y7 : γ 7 = .bool (false) := hH.holds 7 (hL 7 (by decide))
              have y8 : γ 8 = .bool (false) := hH.holds 8 (hL 8 (by decide))
              rw [ha]
              clear ha hH hL hLo
              simp only [RV.putAll, Act.put, List.setIfInBounds_toArray, List.set_cons_zero, List.set_cons_succ, Nat.zero_add, Nat.reduceAdd, y0, y1, y2, y3, y4, y5, y6, y7, y8]
              clear y0 y1 y2 y3 y4 y5 y6 y7 y8
              have HB2 : Hid _ := b_step HB2.out hb8
              have BX : Hid _ := BX.out.step hb8
              clear hb8 q0 q1 q2 HS
              go_wp2_with (fail)
              obtain ⟨W2, hW2⟩ : ∃ X : World, X = w5 := ⟨_, rfl⟩
              rw [← hW2] at HB2 BX ⊢
              clear hW2
              go_loopg [10] i (fun gm s wr => ∃ jj : Nat, s = .int .i64 (jj : Int) ∧ jj ≤ i ∧ gm = i - jj ∧ Hid (Below W2.heap.size W2 wr))
              case atStart => exact ⟨0, rfl, Nat.zero_le _, rfl, Below.refl _ _⟩
              case round =>
                obtain ⟨jj, rfl, hj, hgm, HB3⟩ := hrel
                have HG3 : Hid _ := hgm
                clear hgm
                by_cases hjt : jj < i
                · obtain ⟨g', off', e', y0, y1, y2⟩ := HCL.out jj (by omega)
                  simp only [Option.some.injEq, Addr.mk.injEq, and_true] at e'
                  obtain ⟨rfl, rfl⟩ := e'
                  have y0 := c_after HB3.out (c_after HB2.out y0)
                  have y1 := c_after HB3.out (c_after HB2.out y1)
                  have y2 := c_after HB3.out (c_after HB2.out y2)
                  obtain ⟨lx, ly, lz, el⟩ : ∃ lx ly lz, pt A jj = ⟨lx, ly, lz⟩ := ⟨_, _, _, rfl⟩
                  obtain ⟨hd1, hd2'⟩ := HA.out.pair hit hjt EP.out el
                  rw [el] at y0 y1 y2
                  dsimp only at y0 y1 y2
                  clear el
                  have hd2 := hd2'
                  clear hd2'
                  clear hd2
                  obtain ⟨q0, q1, q2, _, _, _⟩ := BX.out.step HB3.out
                  dsimp only at q0 q1 q2
                  have hjz : (jj : Int) < (A.length : Int) := by omega
                  go_upto_region 20 with fail
                  refine RV.region_by (fun j v w => match j with | 0 => v = .slice (some ⟨g, off, none⟩) A.length ca | 1 => v = .int .i64 ((jj : Int)) | 2 => v = .pointer (some ⟨g, off + jj * 3, none⟩) | 3 => v = .agg #[.int .i64 (lx), .int .i64 (ly), .int .i64 (lz)] | 4 => v = .agg #[.int .i64 (px), .int .i64 (py), .int .i64 (pz)] | 5 => v = .bool (false) | 6 => v = .bool (false) | 7 => v = .int .i64 (0) | 8 => v = .bool (false) | 9 => v = .bool (false) | 10 => v = undef | 11 => v = undef | 12 => v = undef | 13 => v = undef | 14 => v = undef | 15 => v = undef | 16 => v = undef | 17 => v = undef | 18 => v = undef | 19 => v = undef | 20 => v = undef | 21 => v = undef | 22 => v = undef | 23 => v = undef | 24 => v = undef | 25 => v = .bool (false) | 26 => v = .bool (false) | _ => True) (fun γ L w9 => Below wr.heap.size wr w9) (by kernel_rfl) (by kernel_rfl) (by kernel_rfl) (by kernel_rfl) ?_ ?_ ?_
                  · exact (Below.refl _ wr).drew
                  · generalize hD : dstOf _ = D
                    generalize hWA : waitsFor _ = WA
                    generalize hZ : Act.mk _ _ = Z
                    obtain ⟨R, hR⟩ : ∃ R : Nat → Value → World → Prop, R = (fun j v w => match j with | 0 => v = .slice (some ⟨g, off, none⟩) A.length ca | 1 => v = .int .i64 ((jj : Int)) | 2 => v = .pointer (some ⟨g, off + jj * 3, none⟩) | 3 => v = .agg #[.int .i64 (lx), .int .i64 (ly), .int .i64 (lz)] | 4 => v = .agg #[.int .i64 (px), .int .i64 (py), .int .i64 (pz)] | 5 => v = .bool (false) | 6 => v = .bool (false) | 7 => v = .int .i64 (0) | 8 => v = .bool (false) | 9 => v = .bool (false) | 10 => v = undef | 11 => v = undef | 12 => v = undef | 13 => v = undef | 14 => v = undef | 15 => v = undef | 16 => v = undef | 17 => v = undef | 18 => v = undef | 19 => v = undef | 20 => v = undef | 21 => v = undef | 22 => v = undef | 23 => v = undef | 24 => v = undef | 25 => v = .bool (false) | 26 => v = .bool (false) | _ => True) := ⟨_, rfl⟩
                    rw [← hR]
                    have d0 : D 0 = some 58 := by rw [← hD]; rfl
                    have d1 : D 1 = some 59 := by rw [← hD]; rfl
                    have d2 : D 2 = some 60 := by rw [← hD]; rfl
                    have d3 : D 3 = some 61 := by rw [← hD]; rfl
                    have d4 : D 4 = some 62 := by rw [← hD]; rfl
                    have d5 : D 5 = some 63 := by rw [← hD]; rfl
                    have d6 : D 6 = some 64 := by rw [← hD]; rfl
                    have d7 : D 7 = some 65 := by rw [← hD]; rfl
                    have d8 : D 8 = some 66 := by rw [← hD]; rfl
                    have d9 : D 9 = some 67 := by rw [← hD]; rfl
                    have d10 : D 10 = some 68 := by rw [← hD]; rfl
                    have d11 : D 11 = some 69 := by rw [← hD]; rfl
                    have d12 : D 12 = some 70 := by rw [← hD]; rfl
                    have d13 : D 13 = some 71 := by rw [← hD]; rfl
                    have d14 : D 14 = some 72 := by rw [← hD]; rfl
                    have d15 : D 15 = some 73 := by rw [← hD]; rfl
                    have d16 : D 16 = some 74 := by rw [← hD]; rfl
                    have d17 : D 17 = some 75 := by rw [← hD]; rfl
                    have d18 : D 18 = some 76 := by rw [← hD]; rfl
                    have d19 : D 19 = some 77 := by rw [← hD]; rfl
                    have d20 : D 20 = some 78 := by rw [← hD]; rfl
                    have d21 : D 21 = some 79 := by rw [← hD]; rfl
                    have d22 : D 22 = some 80 := by rw [← hD]; rfl
                    have d23 : D 23 = some 81 := by rw [← hD]; rfl
                    have d24 : D 24 = some 82 := by rw [← hD]; rfl
                    have d25 : D 25 = some 83 := by rw [← hD]; rfl
                    have d26 : D 26 = some 84 := by rw [← hD]; rfl
                    have r0 : ∀ v w, R 0 v w = (v = .slice (some ⟨g, off, none⟩) A.length ca) := fun v w => by rw [hR]; rfl
                    have r1 : ∀ v w, R 1 v w = (v = .int .i64 ((jj : Int))) := fun v w => by rw [hR]; rfl
                    have r2 : ∀ v w, R 2 v w = (v = .pointer (some ⟨g, off + jj * 3, none⟩)) := fun v w => by rw [hR]; rfl
                    have r3 : ∀ v w, R 3 v w = (v = .agg #[.int .i64 (lx), .int .i64 (ly), .int .i64 (lz)]) := fun v w => by rw [hR]; rfl
                    have r4 : ∀ v w, R 4 v w = (v = .agg #[.int .i64 (px), .int .i64 (py), .int .i64 (pz)]) := fun v w => by rw [hR]; rfl
                    have r5 : ∀ v w, R 5 v w = (v = .bool (false)) := fun v w => by rw [hR]; rfl
                    have r6 : ∀ v w, R 6 v w = (v = .bool (false)) := fun v w => by rw [hR]; rfl
                    have r7 : ∀ v w, R 7 v w = (v = .int .i64 (0)) := fun v w => by rw [hR]; rfl
                    have r8 : ∀ v w, R 8 v w = (v = .bool (false)) := fun v w => by rw [hR]; rfl
                    have r9 : ∀ v w, R 9 v w = (v = .bool (false)) := fun v w => by rw [hR]; rfl
                    have r10 : ∀ v w, R 10 v w = (v = undef) := fun v w => by rw [hR]; rfl
                    have r11 : ∀ v w, R 11 v w = (v = undef) := fun v w => by rw [hR]; rfl
                    have r12 : ∀ v w, R 12 v w = (v = undef) := fun v w => by rw [hR]; rfl
                    have r13 : ∀ v w, R 13 v w = (v = undef) := fun v w => by rw [hR]; rfl
                    have r14 : ∀ v w, R 14 v w = (v = undef) := fun v w => by rw [hR]; rfl
                    have r15 : ∀ v w, R 15 v w = (v = undef) := fun v w => by rw [hR]; rfl
                    have r16 : ∀ v w, R 16 v w = (v = undef) := fun v w => by rw [hR]; rfl
                    have r17 : ∀ v w, R 17 v w = (v = undef) := fun v w => by rw [hR]; rfl
                    have r18 : ∀ v w, R 18 v w = (v = undef) := fun v w => by rw [hR]; rfl
                    have r19 : ∀ v w, R 19 v w = (v = undef) := fun v w => by rw [hR]; rfl
                    have r20 : ∀ v w, R 20 v w = (v = undef) := fun v w => by rw [hR]; rfl
                    have r21 : ∀ v w, R 21 v w = (v = undef) := fun v w => by rw [hR]; rfl
                    have r22 : ∀ v w, R 22 v w = (v = undef) := fun v w => by rw [hR]; rfl
                    have r23 : ∀ v w, R 23 v w = (v = undef) := fun v w => by rw [hR]; rfl
                    have r24 : ∀ v w, R 24 v w = (v = undef) := fun v w => by rw [hR]; rfl
                    have r25 : ∀ v w, R 25 v w = (v = .bool (false)) := fun v w => by rw [hR]; rfl
                    have r26 : ∀ v w, R 26 v w = (v = .bool (false)) := fun v w => by rw [hR]; rfl
                    have E6 : ∀ (γ : Nat → Value) (L : Nat → Bool) (a : Act) (w : World), RV.Held D WA R (fun γ L w9 => Below wr.heap.size wr w9) Z γ L a w → a.tmps[6]? = some (.int .i64 (0)) := fun γ L a w hH => (hH.rest 6 (by rw [← hD]; exact RV.dst_free (by kernel_rfl))).trans (by rw [← hZ]; rfl)
                    have E7 : ∀ (γ : Nat → Value) (L : Nat → Bool) (a : Act) (w : World), RV.Held D WA R (fun γ L w9 => Below wr.heap.size wr w9) Z γ L a w → a.tmps[7]? = some (.slice (some ⟨g, off, none⟩) A.length ca) := fun γ L a w hH => (hH.rest 7 (by rw [← hD]; exact RV.dst_free (by kernel_rfl))).trans (by rw [← hZ]; rfl)
                    have E9 : ∀ (γ : Nat → Value) (L : Nat → Bool) (a : Act) (w : World), RV.Held D WA R (fun γ L w9 => Below wr.heap.size wr w9) Z γ L a w → a.tmps[9]? = some (.pointer (some ⟨b9, 0, none⟩)) := fun γ L a w hH => (hH.rest 9 (by rw [← hD]; exact RV.dst_free (by kernel_rfl))).trans (by rw [← hZ]; rfl)
                    have E10 : ∀ (γ : Nat → Value) (L : Nat → Bool) (a : Act) (w : World), RV.Held D WA R (fun γ L w9 => Below wr.heap.size wr w9) Z γ L a w → a.tmps[10]? = some (.int .i64 ((jj : Int))) := fun γ L a w hH => (hH.rest 10 (by rw [← hD]; exact RV.dst_free (by kernel_rfl))).trans (by rw [← hZ]; rfl)
                    have K : ∀ j v w w', R j v w → R j v w' := by rw [hR]; intro j v w w' h; exact h
                    clear hD hWA hZ hR
                    refine RV.AllDo.cons 0 (RV.does_pure (fun γ v L w hl h => h) (fun γ L a w hH hl hA => by have e0 := E7 γ L a w hH; exact ⟨.slice (some ⟨g, off, none⟩) A.length ca, by simp [execOp, go_sem, e0], (r0 _ _).mpr rfl⟩)) ?_
                    refine RV.AllDo.cons 1 (RV.does_pure (fun γ v L w hl h => h) (fun γ L a w hH hl hA => by have e0 := E10 γ L a w hH; exact ⟨.int .i64 ((jj : Int)), by simp [execOp, go_sem, e0], (r1 _ _).mpr rfl⟩)) ?_
                    refine RV.AllDo.cons 2 (RV.does_pure (fun γ v L w hl h => h) (fun γ L a w hH hl hA => by have l0 : L 0 = true := hA ⟨0, .data⟩ (by simp) rfl; have e0 := hH.slot 0 58 d0 l0; have g0 := hH.holds 0 l0; rw [r0] at g0; rw [g0] at e0; have l1 : L 1 = true := hA ⟨1, .data⟩ (by simp) rfl; have e1 := hH.slot 1 59 d1 l1; have g1 := hH.holds 1 l1; rw [r1] at g1; rw [g1] at e1; exact ⟨.pointer (some ⟨g, off + jj * 3, none⟩), by simp [execOp, go_sem, e0, e1, hjz], (r2 _ _).mpr rfl⟩)) ?_
                    refine RV.AllDo.cons 3 (RV.does_pure (fun γ v L w hl h => h) (fun γ L a w hH hl hA => by have l0 : L 2 = true := hA ⟨2, .data⟩ (by simp) rfl; have e0 := hH.slot 2 60 d2 l0; have g0 := hH.holds 2 l0; rw [r2] at g0; rw [g0] at e0; have hB9 := hH.glob; have v0 := c_after hB9 y0; have v1 := c_after hB9 y1; have v2 := c_after hB9 y2; exact ⟨.agg #[.int .i64 (lx), .int .i64 (ly), .int .i64 (lz)], by simp [execOp, go_sem, e0, v0, v1, v2], (r3 _ _).mpr rfl⟩)) ?_
                    refine RV.AllDo.cons 4 (RV.does_pure (fun γ v L w hl h => h) (fun γ L a w hH hl hA => by have e0 := E9 γ L a w hH; have hB9 := hH.glob; have z0 := c_after hB9 q0; have z1 := c_after hB9 q1; have z2 := c_after hB9 q2; exact ⟨.agg #[.int .i64 (px), .int .i64 (py), .int .i64 (pz)], by simp [execOp, go_sem, e0, z0, z1, z2], (r4 _ _).mpr rfl⟩)) ?_
                    refine RV.AllDo.cons 5 (RV.does_pure (fun γ v L w hl h => h) (fun γ L a w hH hl hA => by have l0 : L 3 = true := hA ⟨3, .data⟩ (by simp) rfl; have e0 := hH.slot 3 61 d3 l0; have g0 := hH.holds 3 l0; rw [r3] at g0; rw [g0] at e0; have l1 : L 4 = true := hA ⟨4, .data⟩ (by simp) rfl; have e1 := hH.slot 4 62 d4 l1; have g1 := hH.holds 4 l1; rw [r4] at g1; rw [g1] at e1; exact ⟨.bool (false), by simp [execOp, go_sem, e0, e1]; exact hd1, (r5 _ _).mpr rfl⟩)) ?_
                    refine RV.AllDo.cons 6 (RV.does_pure (fun γ v L w hl h => h) (fun γ L a w hH hl hA => by have l0 : L 5 = true := hA ⟨5, .data⟩ (by simp) rfl; have e0 := hH.slot 5 63 d5 l0; have g0 := hH.holds 5 l0; rw [r5] at g0; rw [g0] at e0; exact ⟨.bool (false), by simp [execOp, go_sem, e0], (r6 _ _).mpr rfl⟩)) ?_
                    refine RV.AllDo.cons 7 (RV.does_guarded rfl d6 (fun v w h => by rw [r6] at h; exact h) (by simp) (RV.does_pure (fun γ v L w hl h => h) (fun γ L a w hH hl hA => by have e0 := E6 γ L a w hH; exact ⟨.int .i64 (0), by simp [execOp, go_sem, e0], (r7 _ _).mpr rfl⟩))) ?_
                    refine RV.AllDo.cons 8 (RV.does_guarded rfl d6 (fun v w h => by rw [r6] at h; exact h) (by simp) (RV.does_pure (fun γ v L w hl h => h) (fun γ L a w hH hl hA => by have l0 : L 7 = true := hA ⟨7, .data⟩ (by simp) rfl; have e0 := hH.slot 7 65 d7 l0; have g0 := hH.holds 7 l0; rw [r7] at g0; rw [g0] at e0; exact ⟨.bool (false), by simp [execOp, go_sem, e0], (r8 _ _).mpr rfl⟩))) ?_
                    refine RV.AllDo.cons 9 (RV.does_guarded rfl d6 (fun v w h => by rw [r6] at h; exact h) (by simp) (RV.does_pure (fun γ v L w hl h => h) (fun γ L a w hH hl hA => by have l0 : L 8 = true := hA ⟨8, .data⟩ (by simp) rfl; have e0 := hH.slot 8 66 d8 l0; have g0 := hH.holds 8 l0; rw [r8] at g0; rw [g0] at e0; exact ⟨.bool (false), by simp [execOp, go_sem, e0], (r9 _ _).mpr rfl⟩))) ?_
                    refine RV.AllDo.cons 10 (RV.does_skip rfl d9 (fun v w h => by rw [r9] at h; exact h) (by simp) (fun w => (r10 _ _).mpr rfl) (fun γ v L w hl h => h)) ?_
                    refine RV.AllDo.cons 11 (RV.does_skip rfl d9 (fun v w h => by rw [r9] at h; exact h) (by simp) (fun w => (r11 _ _).mpr rfl) (fun γ v L w hl h => h)) ?_
                    refine RV.AllDo.cons 12 (RV.does_skip rfl d9 (fun v w h => by rw [r9] at h; exact h) (by simp) (fun w => (r12 _ _).mpr rfl) (fun γ v L w hl h => h)) ?_
                    refine RV.AllDo.cons 13 (RV.does_skip rfl d9 (fun v w h => by rw [r9] at h; exact h) (by simp) (fun w => (r13 _ _).mpr rfl) (fun γ v L w hl h => h)) ?_
                    refine RV.AllDo.cons 14 (RV.does_skip rfl d9 (fun v w h => by rw [r9] at h; exact h) (by simp) (fun w => (r14 _ _).mpr rfl) (fun γ v L w hl h => h)) ?_
                    refine RV.AllDo.cons 15 (RV.does_skip rfl d9 (fun v w h => by rw [r9] at h; exact h) (by simp) (fun w => (r15 _ _).mpr rfl) (fun γ v L w hl h => h)) ?_
                    refine RV.AllDo.cons 16 (RV.does_skip rfl d9 (fun v w h => by rw [r9] at h; exact h) (by simp) (fun w => (r16 _ _).mpr rfl) (fun γ v L w hl h => h)) ?_
                    refine RV.AllDo.cons 17 (RV.does_skip rfl d9 (fun v w h => by rw [r9] at h; exact h) (by simp) (fun w => (r17 _ _).mpr rfl) (fun γ v L w hl h => h)) ?_
                    refine RV.AllDo.cons 18 (RV.does_skip rfl d9 (fun v w h => by rw [r9] at h; exact h) (by simp) (fun w => (r18 _ _).mpr rfl) (fun γ v L w hl h => h)) ?_
                    refine RV.AllDo.cons 19 (RV.does_skip rfl d9 (fun v w h => by rw [r9] at h; exact h) (by simp) (fun w => (r19 _ _).mpr rfl) (fun γ v L w hl h => h)) ?_
                    refine RV.AllDo.cons 20 (RV.does_skip rfl d9 (fun v w h => by rw [r9] at h; exact h) (by simp) (fun w => (r20 _ _).mpr rfl) (fun γ v L w hl h => h)) ?_
                    refine RV.AllDo.cons 21 (RV.does_skip rfl d9 (fun v w h => by rw [r9] at h; exact h) (by simp) (fun w => (r21 _ _).mpr rfl) (fun γ v L w hl h => h)) ?_
                    refine RV.AllDo.cons 22 (RV.does_skip rfl d9 (fun v w h => by rw [r9] at h; exact h) (by simp) (fun w => (r22 _ _).mpr rfl) (fun γ v L w hl h => h)) ?_
                    refine RV.AllDo.cons 23 (RV.does_skip rfl d9 (fun v w h => by rw [r9] at h; exact h) (by simp) (fun w => (r23 _ _).mpr rfl) (fun γ v L w hl h => h)) ?_
                    refine RV.AllDo.cons 24 (RV.does_skip rfl d9 (fun v w h => by rw [r9] at h; exact h) (by simp) (fun w => (r24 _ _).mpr rfl) (fun γ v L w hl h => h)) ?_
                    refine RV.AllDo.cons 25 (RV.does_guarded rfl d6 (fun v w h => by rw [r6] at h; exact h) (by simp) (RV.does_pure (fun γ v L w hl h => h) (fun γ L a w hH hl hA => by have l0 : L 9 = true := hA ⟨9, .data⟩ (by simp) rfl; have e0 := hH.slot 9 67 d9 l0; have g0 := hH.holds 9 l0; rw [r9] at g0; rw [g0] at e0; have l1 : L 24 = true := hA ⟨24, .data⟩ (by simp) rfl; have e1 := hH.slot 24 82 d24 l1; have g1 := hH.holds 24 l1; rw [r24] at g1; rw [g1] at e1; exact ⟨.bool (false), by simp [execOp, go_sem, e0, e1], (r25 _ _).mpr rfl⟩))) ?_
                    refine RV.AllDo.cons 26 (RV.does_pure (fun γ v L w hl h => h) (fun γ L a w hH hl hA => by have l0 : L 6 = true := hA ⟨6, .data⟩ (by simp) rfl; have e0 := hH.slot 6 64 d6 l0; have g0 := hH.holds 6 l0; rw [r6] at g0; rw [g0] at e0; have l1 : L 25 = true := hA ⟨25, .data⟩ (by simp) rfl; have e1 := hH.slot 25 83 d25 l1; have g1 := hH.holds 25 l1; rw [r25] at g1; rw [g1] at e1; exact ⟨.bool (false), by simp [execOp, go_sem, e0, e1], (r26 _ _).mpr rfl⟩)) ?_
                    exact RV.AllDo.nil
                  · intro γ a5 w5 L9 hL hLo hH
                    have ha := RV.held_act hH hL (by kernel_rfl) (by kernel_rfl)
                    have hb8 := hH.glob
                    have y0 : γ 0 = .slice (some ⟨g, off, none⟩) A.length ca := hH.holds 0 (hL 0 (by decide))
                    have y1 : γ 1 = .int .i64 ((jj : Int)) := hH.holds 1 (hL 1 (by decide))
                    have y2 : γ 2 = .pointer (some ⟨g, off + jj * 3, none⟩) := hH.holds 2 (hL 2 (by decide))
                    have y3 : γ 3 = .agg #[.int .i64 (lx), .int .i64 (ly), .int .i64 (lz)] := hH.holds 3 (hL 3 (by decide))
                    have y4 : γ 4 = .agg #[.int .i64 (px), .int .i64 (py), .int .i64 (pz)] := hH.holds 4 (hL 4 (by decide))
                    have y5 : γ 5 = .bool (false) := hH.holds 5 (hL 5 (by decide))
                    have y6 : γ 6 = .bool (false) := hH.holds 6 (hL 6 (by decide))
                    have y7 : γ 7 = .int .i64 (0) := hH.holds 7 (hL 7 (by decide))
                    have y8 : γ 8 = .bool (false) := hH.holds 8 (hL 8 (by decide))
                    have y9 : γ 9 = .bool (false) := hH.holds 9 (hL 9 (by decide))
                    have y10 : γ 10 = undef := hH.holds 10 (hL 10 (by decide))
                    have y11 : γ 11 = undef := hH.holds 11 (hL 11 (by decide))
                    have y12 : γ 12 = undef := hH.holds 12 (hL 12 (by decide))
                    have y13 : γ 13 = undef := hH.holds 13 (hL 13 (by decide))
                    have y14 : γ 14 = undef := hH.holds 14 (hL 14 (by decide))
                    have y15 : γ 15 = undef := hH.holds 15 (hL 15 (by decide))
                    have y16 : γ 16 = undef := hH.holds 16 (hL 16 (by decide))
                    have y17 : γ 17 = undef := hH.holds 17 (hL 17 (by decide))
                    have y18 : γ 18 = undef := hH.holds 18 (hL 18 (by decide))
                    have y19 : γ 19 = undef := hH.holds 19 (hL 19 (by decide))
                    have y20 : γ 20 = undef := hH.holds 20 (hL 20 (by decide))
                    have y21 : γ 21 = undef := hH.holds 21 (hL 21 (by decide))
                    have y22 : γ 22 = undef := hH.holds 22 (hL 22 (by decide))
                    have y23 : γ 23 = undef := hH.holds 23 (hL 23 (by decide))
                    have y24 : γ 24 = undef := hH.holds 24 (hL 24 (by decide))
                    have y25 : γ 25 = .bool (false) := hH.holds 25 (hL 25 (by decide))
                    have y26 : γ 26 = .bool (false) := hH.holds 26 (hL 26 (by decide))
                    rw [ha]
                    clear ha hH hL hLo
                    simp only [RV.putAll, Act.put, List.setIfInBounds_toArray, List.set_cons_zero, List.set_cons_succ, Nat.zero_add, Nat.reduceAdd, y0, y1, y2, y3, y4, y5, y6, y7, y8, y9, y10, y11, y12, y13, y14, y15, y16, y17, y18, y19, y20, y21, y22, y23, y24, y25, y26]
                    clear y0 y1 y2 y3 y4 y5 y6 y7 y8 y9 y10 y11 y12 y13 y14 y15 y16 y17 y18 y19 y20 y21 y22 y23 y24 y25 y26
                    have HB4 : Hid _ := b_step HB3.out hb8
                    clear hb8 q0 q1 q2 y0 y1 y2
                    go_wp2_with (fail)
                    go_roundg (i - (jj + 1))
                    case measure => have := HG3.out; omega
                    case rel => exact ⟨jj + 1, by go_num, by omega, rfl, HB4⟩
                · go_wp2_with (fail)
                  go_roundg (A.length - (i + 1))
                  case measure => have := HG2.out; omega
                  case rel => exact ⟨i + 1, by go_num, by omega, rfl, b_step HB2.out HB3.out⟩
          · go_wp2_with (fail)
            go_roundg (2 - (0 + 1))
            case measure => have := HG1.out; omega
            case rel => exact ⟨1, by go_num, by omega, rfl, HB2⟩
      · go_wp2_with (fail)
        go_loopg [8] E.length (fun gm s wr => ∃ i : Nat, s = .int .i64 (i : Int) ∧ i ≤ E.length ∧ gm = E.length - i ∧ Hid (Below X.heap.size X wr))
        case atStart => exact ⟨0, rfl, Nat.zero_le _, rfl, HB⟩
        case round =>
          obtain ⟨i, rfl, hi, hgm, HB2⟩ := hrel
          have HG2 : Hid _ := hgm
          clear hgm
          by_cases hit : i < E.length
          · obtain ⟨o9, c9, e9, _, _, hc9⟩ := LE.out.form
            cases e9
            have HCL : Hid _ := hc9
            clear hc9
            obtain ⟨g, off, e', x0, x1, x2⟩ := HCL.out i hit
            subst e'
            obtain ⟨px, py, pz, ep, hne, b1, b2, b3, HS'⟩ := HE.out.at hit
            rw [ep] at x0 x1 x2
            dsimp only at x0 x1 x2
            have EP : Hid _ := ep
            have HS : Hid _ := HS'
            clear ep HS'
            have n0 : IntKind.i64.wrap (-px) = -px := by rw [IntKind.wrap_i64]; omega
            have n1 : IntKind.i64.wrap (-py) = -py := by rw [IntKind.wrap_i64]; omega
            have n2 : IntKind.i64.wrap (-pz) = -pz := by rw [IntKind.wrap_i64]; omega
            clear b1 b2 b3
            have x0 := c_after HB2.out x0
            have x1 := c_after HB2.out x1
            have x2 := c_after HB2.out x2
            go_upto_region 14 with fail
            go_upto_region 15 with fail
            obtain ⟨W1, hW1⟩ : ∃ X : World, X = wr.alloc (.cells #[.int .i64 px, .int .i64 py, .int .i64 pz] 23) := ⟨_, rfl⟩
            obtain ⟨b9, hb9⟩ : ∃ b, b = wr.heap.size := ⟨_, rfl⟩
            have BX : Hid (Box3 W1 b9 ⟨px, py, pz⟩) := by rw [hW1, hb9]; exact Box3.new wr px py pz _
            have HB2 : Hid (Below X.heap.size X W1) := by rw [hW1]; exact b_step HB2.out (n_after _ _)
            rw [← hW1, ← hb9]
            clear hW1 hb9 x0 x1 x2
            obtain ⟨q0, q1, q2, _, _, _⟩ := BX.out
            dsimp only at q0 q1 q2
            refine RV.region_by (fun j v w => match j with | 0 => v = .agg #[.int .i64 (px), .int .i64 (py), .int .i64 (pz)] | 1 => v = .agg #[.int .i64 (0), .int .i64 (0), .int .i64 (0)] | 2 => v = .bool (false) | 3 => v = .bool (false) | 4 => v = .agg #[.int .i64 (px), .int .i64 (py), .int .i64 (pz)] | 5 => v = .agg #[.int .i64 (px), .int .i64 (py), .int .i64 (pz)] | 6 => v = .agg #[.int .i64 (px), .int .i64 (py), .int .i64 (pz)] | 7 => v = .bool (false) | 8 => v = .bool (false) | _ => True) (fun γ L w9 => Below W1.heap.size W1 w9) (by kernel_rfl) (by kernel_rfl) (by kernel_rfl) (by kernel_rfl) ?_ ?_ ?_
            · exact (Below.refl _ W1).drew
            · generalize hD : dstOf _ = D
              generalize hWA : waitsFor _ = WA
              generalize hZ : Act.mk _ _ = Z
              obtain ⟨R, hR⟩ : ∃ R : Nat → Value → World → Prop, R = (fun j v w => match j with | 0 => v = .agg #[.int .i64 (px), .int .i64 (py), .int .i64 (pz)] | 1 => v = .agg #[.int .i64 (0), .int .i64 (0), .int .i64 (0)] | 2 => v = .bool (false) | 3 => v = .bool (false) | 4 => v = .agg #[.int .i64 (px), .int .i64 (py), .int .i64 (pz)] | 5 => v = .agg #[.int .i64 (px), .int .i64 (py), .int .i64 (pz)] | 6 => v = .agg #[.int .i64 (px), .int .i64 (py), .int .i64 (pz)] | 7 => v = .bool (false) | 8 => v = .bool (false) | _ => True) := ⟨_, rfl⟩
              rw [← hR]
              have d0 : D 0 = some 44 := by rw [← hD]; rfl
              have d1 : D 1 = some 45 := by rw [← hD]; rfl
              have d2 : D 2 = some 46 := by rw [← hD]; rfl
              have d3 : D 3 = some 47 := by rw [← hD]; rfl
              have d4 : D 4 = some 48 := by rw [← hD]; rfl
              have d5 : D 5 = some 49 := by rw [← hD]; rfl
              have d6 : D 6 = some 50 := by rw [← hD]; rfl
              have d7 : D 7 = some 51 := by rw [← hD]; rfl
              have d8 : D 8 = some 52 := by rw [← hD]; rfl
              have r0 : ∀ v w, R 0 v w = (v = .agg #[.int .i64 (px), .int .i64 (py), .int .i64 (pz)]) := fun v w => by rw [hR]; rfl
              have r1 : ∀ v w, R 1 v w = (v = .agg #[.int .i64 (0), .int .i64 (0), .int .i64 (0)]) := fun v w => by rw [hR]; rfl
              have r2 : ∀ v w, R 2 v w = (v = .bool (false)) := fun v w => by rw [hR]; rfl
              have r3 : ∀ v w, R 3 v w = (v = .bool (false)) := fun v w => by rw [hR]; rfl
              have r4 : ∀ v w, R 4 v w = (v = .agg #[.int .i64 (px), .int .i64 (py), .int .i64 (pz)]) := fun v w => by rw [hR]; rfl
              have r5 : ∀ v w, R 5 v w = (v = .agg #[.int .i64 (px), .int .i64 (py), .int .i64 (pz)]) := fun v w => by rw [hR]; rfl
              have r6 : ∀ v w, R 6 v w = (v = .agg #[.int .i64 (px), .int .i64 (py), .int .i64 (pz)]) := fun v w => by rw [hR]; rfl
              have r7 : ∀ v w, R 7 v w = (v = .bool (false)) := fun v w => by rw [hR]; rfl
              have r8 : ∀ v w, R 8 v w = (v = .bool (false)) := fun v w => by rw [hR]; rfl
              have E9 : ∀ (γ : Nat → Value) (L : Nat → Bool) (a : Act) (w : World), RV.Held D WA R (fun γ L w9 => Below W1.heap.size W1 w9) Z γ L a w → a.tmps[9]? = some (.pointer (some ⟨b9, 0, none⟩)) := fun γ L a w hH => (hH.rest 9 (by rw [← hD]; exact RV.dst_free (by kernel_rfl))).trans (by rw [← hZ]; rfl)
              have K : ∀ j v w w', R j v w → R j v w' := by rw [hR]; intro j v w w' h; exact h
              clear hD hWA hZ hR
              refine RV.AllDo.cons 0 (RV.does_pure (fun γ v L w hl h => h) (fun γ L a w hH hl hA => by have e0 := E9 γ L a w hH; have hB9 := hH.glob; have z0 := c_after hB9 q0; have z1 := c_after hB9 q1; have z2 := c_after hB9 q2; exact ⟨.agg #[.int .i64 (px), .int .i64 (py), .int .i64 (pz)], by simp [execOp, go_sem, e0, z0, z1, z2], (r0 _ _).mpr rfl⟩)) ?_
              refine RV.AllDo.cons 1 (RV.does_pure (fun γ v L w hl h => h) (fun γ L a w hH hl hA => by exact ⟨.agg #[.int .i64 (0), .int .i64 (0), .int .i64 (0)], by simp [execOp, go_sem], (r1 _ _).mpr rfl⟩)) ?_
              refine RV.AllDo.cons 2 (RV.does_pure (fun γ v L w hl h => h) (fun γ L a w hH hl hA => by have l0 : L 0 = true := hA ⟨0, .data⟩ (by simp) rfl; have e0 := hH.slot 0 44 d0 l0; have g0 := hH.holds 0 l0; rw [r0] at g0; rw [g0] at e0; have l1 : L 1 = true := hA ⟨1, .data⟩ (by simp) rfl; have e1 := hH.slot 1 45 d1 l1; have g1 := hH.holds 1 l1; rw [r1] at g1; rw [g1] at e1; exact ⟨.bool (false), by simp [execOp, go_sem, e0, e1]; exact hne, (r2 _ _).mpr rfl⟩)) ?_
              refine RV.AllDo.cons 3 (RV.does_pure (fun γ v L w hl h => h) (fun γ L a w hH hl hA => by have l0 : L 2 = true := hA ⟨2, .data⟩ (by simp) rfl; have e0 := hH.slot 2 46 d2 l0; have g0 := hH.holds 2 l0; rw [r2] at g0; rw [g0] at e0; exact ⟨.bool (false), by simp [execOp, go_sem, e0], (r3 _ _).mpr rfl⟩)) ?_
              refine RV.AllDo.cons 4 (RV.does_guarded rfl d3 (fun v w h => by rw [r3] at h; exact h) (by simp) (RV.does_pure (fun γ v L w hl h => h) (fun γ L a w hH hl hA => by have e0 := E9 γ L a w hH; have hB9 := hH.glob; have z0 := c_after hB9 q0; have z1 := c_after hB9 q1; have z2 := c_after hB9 q2; exact ⟨.agg #[.int .i64 (px), .int .i64 (py), .int .i64 (pz)], by simp [execOp, go_sem, e0, z0, z1, z2], (r4 _ _).mpr rfl⟩))) ?_
              refine RV.AllDo.cons 5 (RV.does_guarded rfl d3 (fun v w h => by rw [r3] at h; exact h) (by simp) (RV.does_call (fun γ L a w hH hl hA => by have l0 : L 4 = true := hA ⟨4, .data⟩ (by simp) rfl; have e0 := hH.slot 4 48 d4 l0; have g0 := hH.holds 4 l0; rw [r4] at g0; rw [g0] at e0; have hB9 := hH.glob; exact ⟨19, #[.agg #[.int .i64 (px), .int .i64 (py), .int .i64 (pz)]], by simp [go_sem, e0], Calls.mono (HS.out w) (by rintro e w2 ⟨rfl, hb⟩; exact ⟨_, rfl, (r5 _ _).mpr rfl, fun j v _ h => K j v _ _ h, hB9.trans (hb.mono hB9.size)⟩)⟩))) ?_
              refine RV.AllDo.cons 6 (RV.does_guarded rfl d3 (fun v w h => by rw [r3] at h; exact h) (by simp) (RV.does_pure (fun γ v L w hl h => h) (fun γ L a w hH hl hA => by have e0 := E9 γ L a w hH; have hB9 := hH.glob; have z0 := c_after hB9 q0; have z1 := c_after hB9 q1; have z2 := c_after hB9 q2; exact ⟨.agg #[.int .i64 (px), .int .i64 (py), .int .i64 (pz)], by simp [execOp, go_sem, e0, z0, z1, z2], (r6 _ _).mpr rfl⟩))) ?_
              refine RV.AllDo.cons 7 (RV.does_guarded rfl d3 (fun v w h => by rw [r3] at h; exact h) (by simp) (RV.does_pure (fun γ v L w hl h => h) (fun γ L a w hH hl hA => by have l0 : L 5 = true := hA ⟨5, .data⟩ (by simp) rfl; have e0 := hH.slot 5 49 d5 l0; have g0 := hH.holds 5 l0; rw [r5] at g0; rw [g0] at e0; have l1 : L 6 = true := hA ⟨6, .data⟩ (by simp) rfl; have e1 := hH.slot 6 50 d6 l1; have g1 := hH.holds 6 l1; rw [r6] at g1; rw [g1] at e1; exact ⟨.bool (false), by simp [execOp, go_sem, e0, e1], (r7 _ _).mpr rfl⟩))) ?_
              refine RV.AllDo.cons 8 (RV.does_pure (fun γ v L w hl h => h) (fun γ L a w hH hl hA => by have l0 : L 3 = true := hA ⟨3, .data⟩ (by simp) rfl; have e0 := hH.slot 3 47 d3 l0; have g0 := hH.holds 3 l0; rw [r3] at g0; rw [g0] at e0; have l1 : L 7 = true := hA ⟨7, .data⟩ (by simp) rfl; have e1 := hH.slot 7 51 d7 l1; have g1 := hH.holds 7 l1; rw [r7] at g1; rw [g1] at e1; exact ⟨.bool (false), by simp [execOp, go_sem, e0, e1], (r8 _ _).mpr rfl⟩)) ?_
              exact RV.AllDo.nil
            · intro γ a5 w5 L9 hL hLo hH
              have ha := RV.held_act hH hL (by kernel_rfl) (by kernel_rfl)
              have hb8 := hH.glob
              have y0 : γ 0 = .agg #[.int .i64 (px), .int .i64 (py), .int .i64 (pz)] := hH.holds 0 (hL 0 (by decide))
              have y1 : γ 1 = .agg #[.int .i64 (0), .int .i64 (0), .int .i64 (0)] := hH.holds 1 (hL 1 (by decide))
              have y2 : γ 2 = .bool (false) := hH.holds 2 (hL 2 (by decide))
              have y3 : γ 3 = .bool (false) := hH.holds 3 (hL 3 (by decide))
              have y4 : γ 4 = .agg #[.int .i64 (px), .int .i64 (py), .int .i64 (pz)] := hH.holds 4 (hL 4 (by decide))
              have y5 : γ 5 = .agg #[.int .i64 (px), .int .i64 (py), .int .i64 (pz)] := hH.holds 5 (hL 5 (by decide))
              have y6 : γ 6 = .agg #[.int .i64 (px), .int .i64 (py), .int .i64 (pz)] := hH.holds 6 (hL 6 (by decide))
              have y7 : γ 7 = .bool (false) := hH.holds 7 (hL 7 (by decide))
              have y8 : γ 8 = .bool (false) := hH.holds 8 (hL 8 (by decide))
              rw [ha]
              clear ha hH hL hLo
              simp only [RV.putAll, Act.put, List.setIfInBounds_toArray, List.set_cons_zero, List.set_cons_succ, Nat.zero_add, Nat.reduceAdd, y0, y1, y2, y3, y4, y5, y6, y7, y8]
              clear y0 y1 y2 y3 y4 y5 y6 y7 y8
              have HB2 : Hid _ := b_step HB2.out hb8
              have BX : Hid _ := BX.out.step hb8
              clear hb8 q0 q1 q2 HS
              go_wp2_with (fail)
              obtain ⟨W2, hW2⟩ : ∃ X : World, X = w5 := ⟨_, rfl⟩
              rw [← hW2] at HB2 BX ⊢
              clear hW2
              go_loopg [10] i (fun gm s wr => ∃ jj : Nat, s = .int .i64 (jj : Int) ∧ jj ≤ i ∧ gm = i - jj ∧ Hid (Below W2.heap.size W2 wr))
              case atStart => exact ⟨0, rfl, Nat.zero_le _, rfl, Below.refl _ _⟩
              case round =>
                obtain ⟨jj, rfl, hj, hgm, HB3⟩ := hrel
                have HG3 : Hid _ := hgm
                clear hgm
                by_cases hjt : jj < i
                · obtain ⟨g', off', e', y0, y1, y2⟩ := HCL.out jj (by omega)
                  simp only [Option.some.injEq, Addr.mk.injEq, and_true] at e'
                  obtain ⟨rfl, rfl⟩ := e'
                  have y0 := c_after HB3.out (c_after HB2.out y0)
                  have y1 := c_after HB3.out (c_after HB2.out y1)
                  have y2 := c_after HB3.out (c_after HB2.out y2)
                  obtain ⟨lx, ly, lz, el⟩ : ∃ lx ly lz, pt E jj = ⟨lx, ly, lz⟩ := ⟨_, _, _, rfl⟩
                  obtain ⟨hd1, hd2'⟩ := HE.out.pair hit hjt EP.out el
                  rw [el] at y0 y1 y2
                  dsimp only at y0 y1 y2
                  clear el
                  have hd2 := hd2'
                  clear hd2'
                  have hd2 := hd2 rfl
                  obtain ⟨q0, q1, q2, _, _, _⟩ := BX.out.step HB3.out
                  dsimp only at q0 q1 q2
                  have hjz : (jj : Int) < (E.length : Int) := by omega
                  go_upto_region 20 with fail
                  refine RV.region_by (fun j v w => match j with | 0 => v = .slice (some ⟨g, off, none⟩) E.length ce | 1 => v = .int .i64 ((jj : Int)) | 2 => v = .pointer (some ⟨g, off + jj * 3, none⟩) | 3 => v = .agg #[.int .i64 (lx), .int .i64 (ly), .int .i64 (lz)] | 4 => v = .agg #[.int .i64 (px), .int .i64 (py), .int .i64 (pz)] | 5 => v = .bool (false) | 6 => v = .bool (false) | 7 => v = .int .i64 (1) | 8 => v = .bool (true) | 9 => v = .bool (true) | 10 => v = .slice (some ⟨g, off, none⟩) E.length ce | 11 => v = .int .i64 ((jj : Int)) | 12 => v = .pointer (some ⟨g, off + jj * 3, none⟩) | 13 => v = .agg #[.int .i64 (lx), .int .i64 (ly), .int .i64 (lz)] | 14 => v = .pointer (some ⟨b9, 0, none⟩) | 15 => v = .int .i64 (px) | 16 => v = .int .i64 (-px) | 17 => v = .pointer (some ⟨b9, 1, none⟩) | 18 => v = .int .i64 (py) | 19 => v = .int .i64 (-py) | 20 => v = .pointer (some ⟨b9, 2, none⟩) | 21 => v = .int .i64 (pz) | 22 => v = .int .i64 (-pz) | 23 => v = .agg #[.int .i64 (-px), .int .i64 (-py), .int .i64 (-pz)] | 24 => v = .bool (false) | 25 => v = .bool (false) | 26 => v = .bool (false) | _ => True) (fun γ L w9 => Below wr.heap.size wr w9) (by kernel_rfl) (by kernel_rfl) (by kernel_rfl) (by kernel_rfl) ?_ ?_ ?_
                  · exact (Below.refl _ wr).drew
                  · generalize hD : dstOf _ = D
                    generalize hWA : waitsFor _ = WA
                    generalize hZ : Act.mk _ _ = Z
                    obtain ⟨R, hR⟩ : ∃ R : Nat → Value → World → Prop, R = (fun j v w => match j with | 0 => v = .slice (some ⟨g, off, none⟩) E.length ce | 1 => v = .int .i64 ((jj : Int)) | 2 => v = .pointer (some ⟨g, off + jj * 3, none⟩) | 3 => v = .agg #[.int .i64 (lx), .int .i64 (ly), .int .i64 (lz)] | 4 => v = .agg #[.int .i64 (px), .int .i64 (py), .int .i64 (pz)] | 5 => v = .bool (false) | 6 => v = .bool (false) | 7 => v = .int .i64 (1) | 8 => v = .bool (true) | 9 => v = .bool (true) | 10 => v = .slice (some ⟨g, off, none⟩) E.length ce | 11 => v = .int .i64 ((jj : Int)) | 12 => v = .pointer (some ⟨g, off + jj * 3, none⟩) | 13 => v = .agg #[.int .i64 (lx), .int .i64 (ly), .int .i64 (lz)] | 14 => v = .pointer (some ⟨b9, 0, none⟩) | 15 => v = .int .i64 (px) | 16 => v = .int .i64 (-px) | 17 => v = .pointer (some ⟨b9, 1, none⟩) | 18 => v = .int .i64 (py) | 19 => v = .int .i64 (-py) | 20 => v = .pointer (some ⟨b9, 2, none⟩) | 21 => v = .int .i64 (pz) | 22 => v = .int .i64 (-pz) | 23 => v = .agg #[.int .i64 (-px), .int .i64 (-py), .int .i64 (-pz)] | 24 => v = .bool (false) | 25 => v = .bool (false) | 26 => v = .bool (false) | _ => True) := ⟨_, rfl⟩
                    rw [← hR]
                    have d0 : D 0 = some 58 := by rw [← hD]; rfl
                    have d1 : D 1 = some 59 := by rw [← hD]; rfl
                    have d2 : D 2 = some 60 := by rw [← hD]; rfl
                    have d3 : D 3 = some 61 := by rw [← hD]; rfl
                    have d4 : D 4 = some 62 := by rw [← hD]; rfl
                    have d5 : D 5 = some 63 := by rw [← hD]; rfl
                    have d6 : D 6 = some 64 := by rw [← hD]; rfl
                    have d7 : D 7 = some 65 := by rw [← hD]; rfl
                    have d8 : D 8 = some 66 := by rw [← hD]; rfl
                    have d9 : D 9 = some 67 := by rw [← hD]; rfl
                    have d10 : D 10 = some 68 := by rw [← hD]; rfl
                    have d11 : D 11 = some 69 := by rw [← hD]; rfl
                    have d12 : D 12 = some 70 := by rw [← hD]; rfl
                    have d13 : D 13 = some 71 := by rw [← hD]; rfl
                    have d14 : D 14 = some 72 := by rw [← hD]; rfl
                    have d15 : D 15 = some 73 := by rw [← hD]; rfl
                    have d16 : D 16 = some 74 := by rw [← hD]; rfl
                    have d17 : D 17 = some 75 := by rw [← hD]; rfl
                    have d18 : D 18 = some 76 := by rw [← hD]; rfl
                    have d19 : D 19 = some 77 := by rw [← hD]; rfl
                    have d20 : D 20 = some 78 := by rw [← hD]; rfl
                    have d21 : D 21 = some 79 := by rw [← hD]; rfl
                    have d22 : D 22 = some 80 := by rw [← hD]; rfl
                    have d23 : D 23 = some 81 := by rw [← hD]; rfl
                    have d24 : D 24 = some 82 := by rw [← hD]; rfl
                    have d25 : D 25 = some 83 := by rw [← hD]; rfl
                    have d26 : D 26 = some 84 := by rw [← hD]; rfl
                    have r0 : ∀ v w, R 0 v w = (v = .slice (some ⟨g, off, none⟩) E.length ce) := fun v w => by rw [hR]; rfl
                    have r1 : ∀ v w, R 1 v w = (v = .int .i64 ((jj : Int))) := fun v w => by rw [hR]; rfl
                    have r2 : ∀ v w, R 2 v w = (v = .pointer (some ⟨g, off + jj * 3, none⟩)) := fun v w => by rw [hR]; rfl
                    have r3 : ∀ v w, R 3 v w = (v = .agg #[.int .i64 (lx), .int .i64 (ly), .int .i64 (lz)]) := fun v w => by rw [hR]; rfl
                    have r4 : ∀ v w, R 4 v w = (v = .agg #[.int .i64 (px), .int .i64 (py), .int .i64 (pz)]) := fun v w => by rw [hR]; rfl
                    have r5 : ∀ v w, R 5 v w = (v = .bool (false)) := fun v w => by rw [hR]; rfl
                    have r6 : ∀ v w, R 6 v w = (v = .bool (false)) := fun v w => by rw [hR]; rfl
                    have r7 : ∀ v w, R 7 v w = (v = .int .i64 (1)) := fun v w => by rw [hR]; rfl
                    have r8 : ∀ v w, R 8 v w = (v = .bool (true)) := fun v w => by rw [hR]; rfl
                    have r9 : ∀ v w, R 9 v w = (v = .bool (true)) := fun v w => by rw [hR]; rfl
                    have r10 : ∀ v w, R 10 v w = (v = .slice (some ⟨g, off, none⟩) E.length ce) := fun v w => by rw [hR]; rfl
                    have r11 : ∀ v w, R 11 v w = (v = .int .i64 ((jj : Int))) := fun v w => by rw [hR]; rfl
                    have r12 : ∀ v w, R 12 v w = (v = .pointer (some ⟨g, off + jj * 3, none⟩)) := fun v w => by rw [hR]; rfl
                    have r13 : ∀ v w, R 13 v w = (v = .agg #[.int .i64 (lx), .int .i64 (ly), .int .i64 (lz)]) := fun v w => by rw [hR]; rfl
                    have r14 : ∀ v w, R 14 v w = (v = .pointer (some ⟨b9, 0, none⟩)) := fun v w => by rw [hR]; rfl
                    have r15 : ∀ v w, R 15 v w = (v = .int .i64 (px)) := fun v w => by rw [hR]; rfl
                    have r16 : ∀ v w, R 16 v w = (v = .int .i64 (-px)) := fun v w => by rw [hR]; rfl
                    have r17 : ∀ v w, R 17 v w = (v = .pointer (some ⟨b9, 1, none⟩)) := fun v w => by rw [hR]; rfl
                    have r18 : ∀ v w, R 18 v w = (v = .int .i64 (py)) := fun v w => by rw [hR]; rfl
                    have r19 : ∀ v w, R 19 v w = (v = .int .i64 (-py)) := fun v w => by rw [hR]; rfl
                    have r20 : ∀ v w, R 20 v w = (v = .pointer (some ⟨b9, 2, none⟩)) := fun v w => by rw [hR]; rfl
                    have r21 : ∀ v w, R 21 v w = (v = .int .i64 (pz)) := fun v w => by rw [hR]; rfl
                    have r22 : ∀ v w, R 22 v w = (v = .int .i64 (-pz)) := fun v w => by rw [hR]; rfl
                    have r23 : ∀ v w, R 23 v w = (v = .agg #[.int .i64 (-px), .int .i64 (-py), .int .i64 (-pz)]) := fun v w => by rw [hR]; rfl
                    have r24 : ∀ v w, R 24 v w = (v = .bool (false)) := fun v w => by rw [hR]; rfl
                    have r25 : ∀ v w, R 25 v w = (v = .bool (false)) := fun v w => by rw [hR]; rfl
                    have r26 : ∀ v w, R 26 v w = (v = .bool (false)) := fun v w => by rw [hR]; rfl
                    have E6 : ∀ (γ : Nat → Value) (L : Nat → Bool) (a : Act) (w : World), RV.Held D WA R (fun γ L w9 => Below wr.heap.size wr w9) Z γ L a w → a.tmps[6]? = some (.int .i64 (1)) := fun γ L a w hH => (hH.rest 6 (by rw [← hD]; exact RV.dst_free (by kernel_rfl))).trans (by rw [← hZ]; rfl)
                    have E7 : ∀ (γ : Nat → Value) (L : Nat → Bool) (a : Act) (w : World), RV.Held D WA R (fun γ L w9 => Below wr.heap.size wr w9) Z γ L a w → a.tmps[7]? = some (.slice (some ⟨g, off, none⟩) E.length ce) := fun γ L a w hH => (hH.rest 7 (by rw [← hD]; exact RV.dst_free (by kernel_rfl))).trans (by rw [← hZ]; rfl)
                    have E9 : ∀ (γ : Nat → Value) (L : Nat → Bool) (a : Act) (w : World), RV.Held D WA R (fun γ L w9 => Below wr.heap.size wr w9) Z γ L a w → a.tmps[9]? = some (.pointer (some ⟨b9, 0, none⟩)) := fun γ L a w hH => (hH.rest 9 (by rw [← hD]; exact RV.dst_free (by kernel_rfl))).trans (by rw [← hZ]; rfl)
                    have E10 : ∀ (γ : Nat → Value) (L : Nat → Bool) (a : Act) (w : World), RV.Held D WA R (fun γ L w9 => Below wr.heap.size wr w9) Z γ L a w → a.tmps[10]? = some (.int .i64 ((jj : Int))) := fun γ L a w hH => (hH.rest 10 (by rw [← hD]; exact RV.dst_free (by kernel_rfl))).trans (by rw [← hZ]; rfl)
                    have K : ∀ j v w w', R j v w → R j v w' := by rw [hR]; intro j v w w' h; exact h
                    clear hD hWA hZ hR
                    refine RV.AllDo.cons 0 (RV.does_pure (fun γ v L w hl h => h) (fun γ L a w hH hl hA => by have e0 := E7 γ L a w hH; exact ⟨.slice (some ⟨g, off, none⟩) E.length ce, by simp [execOp, go_sem, e0], (r0 _ _).mpr rfl⟩)) ?_
                    refine RV.AllDo.cons 1 (RV.does_pure (fun γ v L w hl h => h) (fun γ L a w hH hl hA => by have e0 := E10 γ L a w hH; exact ⟨.int .i64 ((jj : Int)), by simp [execOp, go_sem, e0], (r1 _ _).mpr rfl⟩)) ?_
                    refine RV.AllDo.cons 2 (RV.does_pure (fun γ v L w hl h => h) (fun γ L a w hH hl hA => by have l0 : L 0 = true := hA ⟨0, .data⟩ (by simp) rfl; have e0 := hH.slot 0 58 d0 l0; have g0 := hH.holds 0 l0; rw [r0] at g0; rw [g0] at e0; have l1 : L 1 = true := hA ⟨1, .data⟩ (by simp) rfl; have e1 := hH.slot 1 59 d1 l1; have g1 := hH.holds 1 l1; rw [r1] at g1; rw [g1] at e1; exact ⟨.pointer (some ⟨g, off + jj * 3, none⟩), by simp [execOp, go_sem, e0, e1, hjz], (r2 _ _).mpr rfl⟩)) ?_
                    refine RV.AllDo.cons 3 (RV.does_pure (fun γ v L w hl h => h) (fun γ L a w hH hl hA => by have l0 : L 2 = true := hA ⟨2, .data⟩ (by simp) rfl; have e0 := hH.slot 2 60 d2 l0; have g0 := hH.holds 2 l0; rw [r2] at g0; rw [g0] at e0; have hB9 := hH.glob; have v0 := c_after hB9 y0; have v1 := c_after hB9 y1; have v2 := c_after hB9 y2; exact ⟨.agg #[.int .i64 (lx), .int .i64 (ly), .int .i64 (lz)], by simp [execOp, go_sem, e0, v0, v1, v2], (r3 _ _).mpr rfl⟩)) ?_
                    refine RV.AllDo.cons 4 (RV.does_pure (fun γ v L w hl h => h) (fun γ L a w hH hl hA => by have e0 := E9 γ L a w hH; have hB9 := hH.glob; have z0 := c_after hB9 q0; have z1 := c_after hB9 q1; have z2 := c_after hB9 q2; exact ⟨.agg #[.int .i64 (px), .int .i64 (py), .int .i64 (pz)], by simp [execOp, go_sem, e0, z0, z1, z2], (r4 _ _).mpr rfl⟩)) ?_
                    refine RV.AllDo.cons 5 (RV.does_pure (fun γ v L w hl h => h) (fun γ L a w hH hl hA => by have l0 : L 3 = true := hA ⟨3, .data⟩ (by simp) rfl; have e0 := hH.slot 3 61 d3 l0; have g0 := hH.holds 3 l0; rw [r3] at g0; rw [g0] at e0; have l1 : L 4 = true := hA ⟨4, .data⟩ (by simp) rfl; have e1 := hH.slot 4 62 d4 l1; have g1 := hH.holds 4 l1; rw [r4] at g1; rw [g1] at e1; exact ⟨.bool (false), by simp [execOp, go_sem, e0, e1]; exact hd1, (r5 _ _).mpr rfl⟩)) ?_
                    refine RV.AllDo.cons 6 (RV.does_pure (fun γ v L w hl h => h) (fun γ L a w hH hl hA => by have l0 : L 5 = true := hA ⟨5, .data⟩ (by simp) rfl; have e0 := hH.slot 5 63 d5 l0; have g0 := hH.holds 5 l0; rw [r5] at g0; rw [g0] at e0; exact ⟨.bool (false), by simp [execOp, go_sem, e0], (r6 _ _).mpr rfl⟩)) ?_
                    refine RV.AllDo.cons 7 (RV.does_guarded rfl d6 (fun v w h => by rw [r6] at h; exact h) (by simp) (RV.does_pure (fun γ v L w hl h => h) (fun γ L a w hH hl hA => by have e0 := E6 γ L a w hH; exact ⟨.int .i64 (1), by simp [execOp, go_sem, e0], (r7 _ _).mpr rfl⟩))) ?_
                    refine RV.AllDo.cons 8 (RV.does_guarded rfl d6 (fun v w h => by rw [r6] at h; exact h) (by simp) (RV.does_pure (fun γ v L w hl h => h) (fun γ L a w hH hl hA => by have l0 : L 7 = true := hA ⟨7, .data⟩ (by simp) rfl; have e0 := hH.slot 7 65 d7 l0; have g0 := hH.holds 7 l0; rw [r7] at g0; rw [g0] at e0; exact ⟨.bool (true), by simp [execOp, go_sem, e0], (r8 _ _).mpr rfl⟩))) ?_
                    refine RV.AllDo.cons 9 (RV.does_guarded rfl d6 (fun v w h => by rw [r6] at h; exact h) (by simp) (RV.does_pure (fun γ v L w hl h => h) (fun γ L a w hH hl hA => by have l0 : L 8 = true := hA ⟨8, .data⟩ (by simp) rfl; have e0 := hH.slot 8 66 d8 l0; have g0 := hH.holds 8 l0; rw [r8] at g0; rw [g0] at e0; exact ⟨.bool (true), by simp [execOp, go_sem, e0], (r9 _ _).mpr rfl⟩))) ?_
                    refine RV.AllDo.cons 10 (RV.does_guarded rfl d9 (fun v w h => by rw [r9] at h; exact h) (by simp) (RV.does_pure (fun γ v L w hl h => h) (fun γ L a w hH hl hA => by have e0 := E7 γ L a w hH; exact ⟨.slice (some ⟨g, off, none⟩) E.length ce, by simp [execOp, go_sem, e0], (r10 _ _).mpr rfl⟩))) ?_
                    refine RV.AllDo.cons 11 (RV.does_guarded rfl d9 (fun v w h => by rw [r9] at h; exact h) (by simp) (RV.does_pure (fun γ v L w hl h => h) (fun γ L a w hH hl hA => by have e0 := E10 γ L a w hH; exact ⟨.int .i64 ((jj : Int)), by simp [execOp, go_sem, e0], (r11 _ _).mpr rfl⟩))) ?_
                    refine RV.AllDo.cons 12 (RV.does_guarded rfl d9 (fun v w h => by rw [r9] at h; exact h) (by simp) (RV.does_pure (fun γ v L w hl h => h) (fun γ L a w hH hl hA => by have l0 : L 10 = true := hA ⟨10, .data⟩ (by simp) rfl; have e0 := hH.slot 10 68 d10 l0; have g0 := hH.holds 10 l0; rw [r10] at g0; rw [g0] at e0; have l1 : L 11 = true := hA ⟨11, .data⟩ (by simp) rfl; have e1 := hH.slot 11 69 d11 l1; have g1 := hH.holds 11 l1; rw [r11] at g1; rw [g1] at e1; exact ⟨.pointer (some ⟨g, off + jj * 3, none⟩), by simp [execOp, go_sem, e0, e1, hjz], (r12 _ _).mpr rfl⟩))) ?_
                    refine RV.AllDo.cons 13 (RV.does_guarded rfl d9 (fun v w h => by rw [r9] at h; exact h) (by simp) (RV.does_pure (fun γ v L w hl h => h) (fun γ L a w hH hl hA => by have l0 : L 12 = true := hA ⟨12, .data⟩ (by simp) rfl; have e0 := hH.slot 12 70 d12 l0; have g0 := hH.holds 12 l0; rw [r12] at g0; rw [g0] at e0; have hB9 := hH.glob; have v0 := c_after hB9 y0; have v1 := c_after hB9 y1; have v2 := c_after hB9 y2; exact ⟨.agg #[.int .i64 (lx), .int .i64 (ly), .int .i64 (lz)], by simp [execOp, go_sem, e0, v0, v1, v2], (r13 _ _).mpr rfl⟩))) ?_
                    refine RV.AllDo.cons 14 (RV.does_guarded rfl d9 (fun v w h => by rw [r9] at h; exact h) (by simp) (RV.does_pure (fun γ v L w hl h => h) (fun γ L a w hH hl hA => by have e0 := E9 γ L a w hH; exact ⟨.pointer (some ⟨b9, 0, none⟩), by simp [execOp, go_sem, e0], (r14 _ _).mpr rfl⟩))) ?_
                    refine RV.AllDo.cons 15 (RV.does_guarded rfl d9 (fun v w h => by rw [r9] at h; exact h) (by simp) (RV.does_pure (fun γ v L w hl h => h) (fun γ L a w hH hl hA => by have l0 : L 14 = true := hA ⟨14, .data⟩ (by simp) rfl; have e0 := hH.slot 14 72 d14 l0; have g0 := hH.holds 14 l0; rw [r14] at g0; rw [g0] at e0; have hB9 := hH.glob; have z0 := c_after hB9 q0; exact ⟨.int .i64 (px), by simp [execOp, go_sem, e0, z0], (r15 _ _).mpr rfl⟩))) ?_
                    refine RV.AllDo.cons 16 (RV.does_guarded rfl d9 (fun v w h => by rw [r9] at h; exact h) (by simp) (RV.does_pure (fun γ v L w hl h => h) (fun γ L a w hH hl hA => by have l0 : L 15 = true := hA ⟨15, .data⟩ (by simp) rfl; have e0 := hH.slot 15 73 d15 l0; have g0 := hH.holds 15 l0; rw [r15] at g0; rw [g0] at e0; exact ⟨.int .i64 (-px), by simp [execOp, go_sem, e0, n0], (r16 _ _).mpr rfl⟩))) ?_
                    refine RV.AllDo.cons 17 (RV.does_guarded rfl d9 (fun v w h => by rw [r9] at h; exact h) (by simp) (RV.does_pure (fun γ v L w hl h => h) (fun γ L a w hH hl hA => by have e0 := E9 γ L a w hH; exact ⟨.pointer (some ⟨b9, 1, none⟩), by simp [execOp, go_sem, e0], (r17 _ _).mpr rfl⟩))) ?_
                    refine RV.AllDo.cons 18 (RV.does_guarded rfl d9 (fun v w h => by rw [r9] at h; exact h) (by simp) (RV.does_pure (fun γ v L w hl h => h) (fun γ L a w hH hl hA => by have l0 : L 17 = true := hA ⟨17, .data⟩ (by simp) rfl; have e0 := hH.slot 17 75 d17 l0; have g0 := hH.holds 17 l0; rw [r17] at g0; rw [g0] at e0; have hB9 := hH.glob; have z0 := c_after hB9 q1; exact ⟨.int .i64 (py), by simp [execOp, go_sem, e0, z0], (r18 _ _).mpr rfl⟩))) ?_
                    refine RV.AllDo.cons 19 (RV.does_guarded rfl d9 (fun v w h => by rw [r9] at h; exact h) (by simp) (RV.does_pure (fun γ v L w hl h => h) (fun γ L a w hH hl hA => by have l0 : L 18 = true := hA ⟨18, .data⟩ (by simp) rfl; have e0 := hH.slot 18 76 d18 l0; have g0 := hH.holds 18 l0; rw [r18] at g0; rw [g0] at e0; exact ⟨.int .i64 (-py), by simp [execOp, go_sem, e0, n1], (r19 _ _).mpr rfl⟩))) ?_
                    refine RV.AllDo.cons 20 (RV.does_guarded rfl d9 (fun v w h => by rw [r9] at h; exact h) (by simp) (RV.does_pure (fun γ v L w hl h => h) (fun γ L a w hH hl hA => by have e0 := E9 γ L a w hH; exact ⟨.pointer (some ⟨b9, 2, none⟩), by simp [execOp, go_sem, e0], (r20 _ _).mpr rfl⟩))) ?_
                    refine RV.AllDo.cons 21 (RV.does_guarded rfl d9 (fun v w h => by rw [r9] at h; exact h) (by simp) (RV.does_pure (fun γ v L w hl h => h) (fun γ L a w hH hl hA => by have l0 : L 20 = true := hA ⟨20, .data⟩ (by simp) rfl; have e0 := hH.slot 20 78 d20 l0; have g0 := hH.holds 20 l0; rw [r20] at g0; rw [g0] at e0; have hB9 := hH.glob; have z0 := c_after hB9 q2; exact ⟨.int .i64 (pz), by simp [execOp, go_sem, e0, z0], (r21 _ _).mpr rfl⟩))) ?_
                    refine RV.AllDo.cons 22 (RV.does_guarded rfl d9 (fun v w h => by rw [r9] at h; exact h) (by simp) (RV.does_pure (fun γ v L w hl h => h) (fun γ L a w hH hl hA => by have l0 : L 21 = true := hA ⟨21, .data⟩ (by simp) rfl; have e0 := hH.slot 21 79 d21 l0; have g0 := hH.holds 21 l0; rw [r21] at g0; rw [g0] at e0; exact ⟨.int .i64 (-pz), by simp [execOp, go_sem, e0, n2], (r22 _ _).mpr rfl⟩))) ?_
                    refine RV.AllDo.cons 23 (RV.does_guarded rfl d9 (fun v w h => by rw [r9] at h; exact h) (by simp) (RV.does_pure (fun γ v L w hl h => h) (fun γ L a w hH hl hA => by have l0 : L 16 = true := hA ⟨16, .data⟩ (by simp) rfl; have e0 := hH.slot 16 74 d16 l0; have g0 := hH.holds 16 l0; rw [r16] at g0; rw [g0] at e0; have l1 : L 19 = true := hA ⟨19, .data⟩ (by simp) rfl; have e1 := hH.slot 19 77 d19 l1; have g1 := hH.holds 19 l1; rw [r19] at g1; rw [g1] at e1; have l2 : L 22 = true := hA ⟨22, .data⟩ (by simp) rfl; have e2 := hH.slot 22 80 d22 l2; have g2 := hH.holds 22 l2; rw [r22] at g2; rw [g2] at e2; exact ⟨.agg #[.int .i64 (-px), .int .i64 (-py), .int .i64 (-pz)], by simp [execOp, go_sem, e0, e1, e2], (r23 _ _).mpr rfl⟩))) ?_
                    refine RV.AllDo.cons 24 (RV.does_guarded rfl d9 (fun v w h => by rw [r9] at h; exact h) (by simp) (RV.does_pure (fun γ v L w hl h => h) (fun γ L a w hH hl hA => by have l0 : L 13 = true := hA ⟨13, .data⟩ (by simp) rfl; have e0 := hH.slot 13 71 d13 l0; have g0 := hH.holds 13 l0; rw [r13] at g0; rw [g0] at e0; have l1 : L 23 = true := hA ⟨23, .data⟩ (by simp) rfl; have e1 := hH.slot 23 81 d23 l1; have g1 := hH.holds 23 l1; rw [r23] at g1; rw [g1] at e1; exact ⟨.bool (false), by simp [execOp, go_sem, e0, e1]; exact hd2, (r24 _ _).mpr rfl⟩))) ?_
                    refine RV.AllDo.cons 25 (RV.does_guarded rfl d6 (fun v w h => by rw [r6] at h; exact h) (by simp) (RV.does_pure (fun γ v L w hl h => h) (fun γ L a w hH hl hA => by have l0 : L 9 = true := hA ⟨9, .data⟩ (by simp) rfl; have e0 := hH.slot 9 67 d9 l0; have g0 := hH.holds 9 l0; rw [r9] at g0; rw [g0] at e0; have l1 : L 24 = true := hA ⟨24, .data⟩ (by simp) rfl; have e1 := hH.slot 24 82 d24 l1; have g1 := hH.holds 24 l1; rw [r24] at g1; rw [g1] at e1; exact ⟨.bool (false), by simp [execOp, go_sem, e0, e1], (r25 _ _).mpr rfl⟩))) ?_
                    refine RV.AllDo.cons 26 (RV.does_pure (fun γ v L w hl h => h) (fun γ L a w hH hl hA => by have l0 : L 6 = true := hA ⟨6, .data⟩ (by simp) rfl; have e0 := hH.slot 6 64 d6 l0; have g0 := hH.holds 6 l0; rw [r6] at g0; rw [g0] at e0; have l1 : L 25 = true := hA ⟨25, .data⟩ (by simp) rfl; have e1 := hH.slot 25 83 d25 l1; have g1 := hH.holds 25 l1; rw [r25] at g1; rw [g1] at e1; exact ⟨.bool (false), by simp [execOp, go_sem, e0, e1], (r26 _ _).mpr rfl⟩)) ?_
                    exact RV.AllDo.nil
                  · intro γ a5 w5 L9 hL hLo hH
                    have ha := RV.held_act hH hL (by kernel_rfl) (by kernel_rfl)
                    have hb8 := hH.glob
                    have y0 : γ 0 = .slice (some ⟨g, off, none⟩) E.length ce := hH.holds 0 (hL 0 (by decide))
                    have y1 : γ 1 = .int .i64 ((jj : Int)) := hH.holds 1 (hL 1 (by decide))
                    have y2 : γ 2 = .pointer (some ⟨g, off + jj * 3, none⟩) := hH.holds 2 (hL 2 (by decide))
                    have y3 : γ 3 = .agg #[.int .i64 (lx), .int .i64 (ly), .int .i64 (lz)] := hH.holds 3 (hL 3 (by decide))
                    have y4 : γ 4 = .agg #[.int .i64 (px), .int .i64 (py), .int .i64 (pz)] := hH.holds 4 (hL 4 (by decide))
                    have y5 : γ 5 = .bool (false) := hH.holds 5 (hL 5 (by decide))
                    have y6 : γ 6 = .bool (false) := hH.holds 6 (hL 6 (by decide))
                    have y7 : γ 7 = .int .i64 (1) := hH.holds 7 (hL 7 (by decide))
                    have y8 : γ 8 = .bool (true) := hH.holds 8 (hL 8 (by decide))
                    have y9 : γ 9 = .bool (true) := hH.holds 9 (hL 9 (by decide))
                    have y10 : γ 10 = .slice (some ⟨g, off, none⟩) E.length ce := hH.holds 10 (hL 10 (by decide))
                    have y11 : γ 11 = .int .i64 ((jj : Int)) := hH.holds 11 (hL 11 (by decide))
                    have y12 : γ 12 = .pointer (some ⟨g, off + jj * 3, none⟩) := hH.holds 12 (hL 12 (by decide))
                    have y13 : γ 13 = .agg #[.int .i64 (lx), .int .i64 (ly), .int .i64 (lz)] := hH.holds 13 (hL 13 (by decide))
                    have y14 : γ 14 = .pointer (some ⟨b9, 0, none⟩) := hH.holds 14 (hL 14 (by decide))
                    have y15 : γ 15 = .int .i64 (px) := hH.holds 15 (hL 15 (by decide))
                    have y16 : γ 16 = .int .i64 (-px) := hH.holds 16 (hL 16 (by decide))
                    have y17 : γ 17 = .pointer (some ⟨b9, 1, none⟩) := hH.holds 17 (hL 17 (by decide))
                    have y18 : γ 18 = .int .i64 (py) := hH.holds 18 (hL 18 (by decide))
                    have y19 : γ 19 = .int .i64 (-py) := hH.holds 19 (hL 19 (by decide))
                    have y20 : γ 20 = .pointer (some ⟨b9, 2, none⟩) := hH.holds 20 (hL 20 (by decide))
                    have y21 : γ 21 = .int .i64 (pz) := hH.holds 21 (hL 21 (by decide))
                    have y22 : γ 22 = .int .i64 (-pz) := hH.holds 22 (hL 22 (by decide))
                    have y23 : γ 23 = .agg #[.int .i64 (-px), .int .i64 (-py), .int .i64 (-pz)] := hH.holds 23 (hL 23 (by decide))
                    have y24 : γ 24 = .bool (false) := hH.holds 24 (hL 24 (by decide))
                    have y25 : γ 25 = .bool (false) := hH.holds 25 (hL 25 (by decide))
                    have y26 : γ 26 = .bool (false) := hH.holds 26 (hL 26 (by decide))
                    rw [ha]
                    clear ha hH hL hLo
                    simp only [RV.putAll, Act.put, List.setIfInBounds_toArray, List.set_cons_zero, List.set_cons_succ, Nat.zero_add, Nat.reduceAdd, y0, y1, y2, y3, y4, y5, y6, y7, y8, y9, y10, y11, y12, y13, y14, y15, y16, y17, y18, y19, y20, y21, y22, y23, y24, y25, y26]
                    clear y0 y1 y2 y3 y4 y5 y6 y7 y8 y9 y10 y11 y12 y13 y14 y15 y16 y17 y18 y19 y20 y21 y22 y23 y24 y25 y26
                    have HB4 : Hid _ := b_step HB3.out hb8
                    clear hb8 q0 q1 q2 y0 y1 y2
                    go_wp2_with (fail)
                    go_roundg (i - (jj + 1))
                    case measure => have := HG3.out; omega
                    case rel => exact ⟨jj + 1, by go_num, by omega, rfl, HB4⟩
                · go_wp2_with (fail)
                  go_roundg (E.length - (i + 1))
                  case measure => have := HG2.out; omega
                  case rel => exact ⟨i + 1, by go_num, by omega, rfl, b_step HB2.out HB3.out⟩
          · go_wp2_with (fail)
            go_roundg (2 - (1 + 1))
            case measure => have := HG1.out; omega
            case rel => exact ⟨2, by go_num, by omega, rfl, HB2⟩
    · go_wp2_with (fail)
      go_ret
      exact ⟨(show Ending.returned (Value.bool (decide (0 < P.length))) = _ by rw [decide_eq_true HP.out]), b_step hD.out HB.out⟩

/-! ### The row's step, after the guide's template -/
set_option maxRecDepth 100000 in
theorem lifted (os : Os) (started : os.Started) (H : Type) (enc : TypeId × Value → H) :
    ReturnsInHanded {} Try.checked os 7 .any (Rows.shapeTidySpec.pre6 enc Try.prog Try.f7 Rows.shapeTidyRow.domain false) (Rows.shapeTidySpec.post enc Try.prog Try.f7 false true false false) := by
  refine returnsInHanded_of_change (C := Try.checked) own started (by kernel_rfl) Try.func7
    (ChangeSpec.witness6 (enc := enc) (C := Try.checked) false ⟨#[], #[.agg #[.int .i64 0, .int .i64 0, .int .i64 0, .int .i64 0, .int .i64 0, .slice none 0 0]], []⟩ 8 (by kernel_rfl) (by kernel_rfl) (by kernel_rfl) (by kernel_rfl)) ?_
  intro W base args ds gs before hval0 hW hcnd _
  have hval : ∀ (j : Nat) t v, Try.f7.params[j]? = some t → args[j]? = some v → Value.okWide Try.prog W .any base t v := hval0
  have hW' := hW
  obtain ⟨p, q, hA0, hV, rfl, hfz, hnd⟩ := hW
  have hA : DataW.TrodAll enc Try.prog W 0 (fun _ => true) true Try.f7.params.toList args.toList ds p := hA0
  rw [Try.params7] at hA hval
  obtain ⟨v0, vs0, d0, ds0, p0, q0, hargs, rfl, rfl, h0, r0⟩ := trodAll_cons hA
  obtain ⟨rfl, rfl, rfl⟩ := trodAll_nil r0
  obtain rfl : args = #[v0] := by cases args; simp_all
  obtain ⟨rfl, rfl⟩ := trodVars_none hV
  have k0 := h0
  have lt0 : ∀ x ∈ p0, x.block < W.heap.size := by obtain ⟨m, hm⟩ := k0; exact DataW.trod_lt m _ _ _ hm
  obtain ⟨k, rr, x, y, z, o, L, c, rfl, hL, hF, wk, wr, wx, wy, wz⟩ := open_raw2 (hval 0 42 v0 rfl rfl) h0
  have bk_ := bounds_i64 wk
  have br_ := bounds_i64 wr
  have bx_ := bounds_i64 wx
  have by_ := bounds_i64 wy
  have bz_ := bounds_i64 wz
  clear hA0 hval0
  refine (walk k rr x y z o L c W hL hF (by omega) (by omega) (by omega) (by omega) (by omega)).mono fun e W' ⟨he, bel⟩ => ?_
  subst he
  exact ⟨_, rfl, _, _, _, [], _, [], hW', trodAll_mk1 (shut_bool Try.underlying4 _), (trodAll_cons_mk (Below.trod laidOut (by kernel_rfl) (of_decide_eq_true (by kernel_rfl)) k0 bel lt0) trodAll_mk0), rfl, bel.frame _, fun h => by cases h⟩

theorem over : Rows.shapeTidyRow.holds Try.pinned (OpenSpec.ofChange Rows.shapeTidySpec) :=
  OpenClaim.holds_of_wide 7 Try.f7 rfl rfl rfl rfl rfl rfl rfl ⟨rfl, rfl, rfl, rfl, rfl⟩ rfl rfl rfl rfl rfl (by kernel_rfl) Try.func7 (by kernel_rfl)
    (of_decide_eq_true (by kernel_rfl)) (by unfold Func.isWrapper; first | (rw [if_pos (by decide +kernel)]; kernel_rfl) | (rw [if_neg (by decide +kernel)]; exact ⟨rfl, rfl⟩))
    (fun os started H enc _ => lifted os started H enc)

end shapeTidy

theorem shapeTidy_holds : Rows.ShapeTidySaid := shapeTidy.over
#print axioms shapeTidy_holds
end Go.Proofs.Ytiicpdlaaklahaa
