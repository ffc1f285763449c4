/- The document's own Meet, Grown and Join of boxes: all inputs. -/
import Derived.Test.YtompnibhfdkkjaaGreatSPPlace6
import Derived.Test.YtompnibhfdkkjaaGreatSPPlace20
import Derived.Test.YtompnibhfdkkjaaGreatSPPlace14
import Derived.Test.YtompnibhfdkkjaaGreatSPPlace21
import Derived.Test.YtompnibhfdkkjaaGreatSPPlace9
import Derived.Test.YtompnibhfdkkjaaGreatSPPlace10
import Derived.Test.YtompnibhfdkkjaaGreatSPPlace11
import Derived.Test.YtompnibhfdkkjaaGreatSPPlace17
import Derived.Test.YtompnibhfdkkjaaGreatSPPlace5
import Derived.Test.YtompnibhfdkkjaaGreatSPPlace8
import Derived.Test.YtompnibhfdkkjaaGreatSPPlace1
import Derived.Test.YtompnibhfdkkjaaGreatSPPlace7
import Derived.Test.YtompnibhfdkkjaaGreatSPPlace19
import Derived.Test.YtompnibhfdkkjaaGreatSPPlace24
namespace Go.Proofs.YtompnibhfdkkjaaGreat
open Go.RowKit Go.Shelf
set_option linter.unusedVariables false

set_option maxHeartbeats 2000000 in
set_option maxRecDepth 100000 in
theorem rjoin_any (a b : Bx) (w0 : World) :
    Calls Tryz.prog 39 #[a.v, b.v] w0 fun e W => e = .returned (a.join b).v ∧ Below w0.heap.size w0 W := by
  obtain ⟨⟨x, y, z⟩, ⟨xh, yh, zh⟩⟩ := a
  obtain ⟨⟨x', y', z'⟩, ⟨xh', yh', zh'⟩⟩ := b
  unfold Bx.join Bx.v Pt.lesser Pt.greater lowI highI
  dsimp only
  obtain ⟨s0, h0⟩ : ∃ s, (if x' < x then x' else x) = s := ⟨_, rfl⟩
  obtain ⟨s1, h1⟩ : ∃ s, (if y' < y then y' else y) = s := ⟨_, rfl⟩
  obtain ⟨s2, h2⟩ : ∃ s, (if z' < z then z' else z) = s := ⟨_, rfl⟩
  obtain ⟨s3, h3⟩ : ∃ s, (if xh' > xh then xh' else xh) = s := ⟨_, rfl⟩
  obtain ⟨s4, h4⟩ : ∃ s, (if yh' > yh then yh' else yh) = s := ⟨_, rfl⟩
  obtain ⟨s5, h5⟩ : ∃ s, (if zh' > zh then zh' else zh) = s := ⟨_, rfl⟩
  rw [h0, h1, h2, h3, h4, h5]
  go_enter Tryz.func39, Tryz.ntmps39
  go_wp2
  exact bodyPost_ret (v := .agg #[.int .i64 s0, .int .i64 s1, .int .i64 s2, .int .i64 s3, .int .i64 s4, .int .i64 s5]) (by simp [results, Tryz.results39, go_sem]) rfl ⟨rfl, b_step (b_step (n_after w0 _) (n_after _ _)) (n_after _ _)⟩
set_option maxHeartbeats 2000000 in
set_option maxRecDepth 100000 in
theorem rgrown_any (a : Bx) (n : Int) (w0 : World) :
    Calls Tryz.prog 40 #[a.v, .int .i64 n] w0 fun e W => e = .returned (a.grown n).v ∧ Below w0.heap.size w0 W := by
  obtain ⟨⟨x, y, z⟩, ⟨xh, yh, zh⟩⟩ := a
  unfold Bx.grown Bx.v Pt.plus
  dsimp only
  rw [← wrap_sub x n]
  obtain ⟨s0, h0⟩ : ∃ s, IntKind.i64.wrap (x - n) = s := ⟨_, rfl⟩
  rw [← wrap_sub y n]
  obtain ⟨s1, h1⟩ : ∃ s, IntKind.i64.wrap (y - n) = s := ⟨_, rfl⟩
  rw [← wrap_sub z n]
  obtain ⟨s2, h2⟩ : ∃ s, IntKind.i64.wrap (z - n) = s := ⟨_, rfl⟩
  obtain ⟨s3, h3⟩ : ∃ s, IntKind.i64.wrap (xh + n) = s := ⟨_, rfl⟩
  obtain ⟨s4, h4⟩ : ∃ s, IntKind.i64.wrap (yh + n) = s := ⟨_, rfl⟩
  obtain ⟨s5, h5⟩ : ∃ s, IntKind.i64.wrap (zh + n) = s := ⟨_, rfl⟩
  rw [h0, h1, h2, h3, h4, h5]
  go_enter Tryz.func40, Tryz.ntmps40
  go_wp2
  exact bodyPost_ret (v := .agg #[.int .i64 s0, .int .i64 s1, .int .i64 s2, .int .i64 s3, .int .i64 s4, .int .i64 s5]) (by simp [results, Tryz.results40, go_sem]) rfl ⟨rfl, b_step (n_after w0 _) (n_after _ _)⟩
end Go.Proofs.YtompnibhfdkkjaaGreat
namespace Go.Proofs.YtompnibhfdkkjaaGreat
open Go.RowKit Go.Shelf
set_option linter.unusedVariables false

set_option maxHeartbeats 8000000 in
set_option maxRecDepth 100000 in
theorem rspan_any (P A E : List Pt) (r : Int) (pv av ev : Value) (w0 : World) (hp : Lies w0 pv P) (ha : Lies w0 av A) (he : Lies w0 ev E) :
    Calls Tryz.prog 13 #[coreV pv av ev r] w0 fun e W => e = .returned (spanP P r).v ∧ Below w0.heap.size w0 W := by
  obtain ⟨o, cap, rfl, hlc, hcm, hcell⟩ := hp.form
  obtain ⟨oa, ca, rfl, _⟩ := ha.form
  obtain ⟨oe, ce, rfl, _⟩ := he.form
  have HCL : Hid _ := hcell
  clear hp ha he hcell
  unfold coreV
  by_cases h0 : P = []
  · subst h0
    have e9 : spanP [] r = ⟨Pt.O, Pt.O⟩ := by simp [spanP]
    rw [e9]
    unfold Bx.v Pt.O
    dsimp only
    clear HCL
    go_enter Tryz.func13, Tryz.ntmps13
    go_wp2
    refine bodyPost_ret (v := .agg #[.int .i64 0, .int .i64 0, .int .i64 0, .int .i64 0, .int .i64 0, .int .i64 0]) (by simp [results, Tryz.results13, go_sem]) rfl ⟨rfl, ?_⟩
    exact b_step (n_after _ _) (n_after _ _)
  · have hlen : 0 < P.length := List.length_pos_iff.2 h0
    obtain ⟨g, off, rfl, x0, x1, x2⟩ := HCL.out 0 hlen
    have e9 : spanP P r = (spanK P P.length).grown r := by simp [spanP, h0]
    rw [e9]
    clear e9 h0
    simp only [Nat.zero_mul, Nat.add_zero] at x0 x1 x2
    obtain ⟨V, hV⟩ : ∃ V, V = (w0.alloc (.cells #[.slice (some ⟨g, off, none⟩) P.length cap, .slice oa A.length ca, .slice oe E.length ce, .int .i64 r] 24)).alloc (.cells #[.int .i64 0, .int .i64 0, .int .i64 0, .int .i64 0, .int .i64 0, .int .i64 0] 39) := ⟨_, rfl⟩
    obtain ⟨cb, hcb⟩ : ∃ b, b = w0.heap.size := ⟨_, rfl⟩
    obtain ⟨ob, hob⟩ : ∃ b, b = w0.heap.size + 1 := ⟨_, rfl⟩
    have hBV : Hid (Below w0.heap.size w0 V) := by show Below _ _ _; rw [hV]; exact b_step (n_after _ _) (n_after _ _)
    have C1 : Hid (Cells V cb [.slice (some ⟨g, off, none⟩) P.length cap, .slice oa A.length ca, .slice oe E.length ce, .int .i64 r]) := by show Cells _ _ _; rw [hV, hcb]; exact (Cells.new w0 _ _).step (n_after _ _)
    have C2 : Hid (Cells V ob [.int .i64 0, .int .i64 0, .int .i64 0, .int .i64 0, .int .i64 0, .int .i64 0]) := by show Cells _ _ _; rw [hV, hob]; have := Cells.new (w0.alloc (.cells #[.slice (some ⟨g, off, none⟩) P.length cap, .slice oa A.length ca, .slice oe E.length ce, .int .i64 r] 24)) [.int .i64 0, .int .i64 0, .int .i64 0, .int .i64 0, .int .i64 0, .int .i64 0] 39; rwa [World.size_alloc] at this
    have x0 := c_after hBV.out x0
    have x1 := c_after hBV.out x1
    have x2 := c_after hBV.out x2
    have hl : (0 : Int) < (P.length : Int) := by omega
    have hle : ((P.length : Int) == 0) = false := by rw [beq_eq_false_iff_ne]; omega
    have k0 := (C1.out 0 _ rfl).1
    go_enter Tryz.func13, Tryz.ntmps13
    go_upto_region 1 with fail
    rw [← hV, ← hob, ← hcb]
    have hoc : ob ≠ cb := by omega
    have hco : w0.heap.size ≤ ob ∧ cb < V.heap.size ∧ ob < V.heap.size := ⟨by omega, Cells.lt C1.out, Cells.lt C2.out⟩
    clear hV hcb hob
    have hgV : g < V.heap.size := World.block_lt_of_cell? _ _ x0
    obtain ⟨hco, hcV, hoV⟩ := hco
    go_upto_region 3 with fail
    obtain ⟨q0, hq0⟩ : ∃ q, q = pt P 0 := ⟨_, rfl⟩
    have HQ0 : Hid _ := hq0
    rw [← hq0] at x0 x1 x2
    clear hq0
    go_cut [3] from 10 to 18 (fun s3 wx => ∃ bb, s3 = .pointer (some ⟨bb, 0, none⟩) ∧ V.heap.size ≤ bb ∧ Hid (Cells wx bb [.int .i64 q0.x, .int .i64 q0.y, .int .i64 q0.z, .int .i64 q0.x, .int .i64 q0.y, .int .i64 q0.z]) ∧ Hid (Below V.heap.size V wx))
    case first =>
      go_region
      go_wp2_with (fail)
      go_meet
      case rel => exact ⟨_, rfl, Nat.le_refl _, (Cells.new V [.int .i64 q0.x, .int .i64 q0.y, .int .i64 q0.z, .int .i64 q0.x, .int .i64 q0.y, .int .i64 q0.z] 39).step (Below.refl _ _).drew, b_step (n_after _ _) (Below.refl _ _).drew⟩
    case rest =>
      obtain ⟨bb, rfl, hbb, CB, HBB⟩ := hcut
      have HKB : Hid (KB w0 wc (bb + 1) [(cb, [.slice (some ⟨g, off, none⟩) P.length cap, .slice oa A.length ca, .slice oe E.length ce, .int .i64 r]), (ob, [.int .i64 0, .int .i64 0, .int .i64 0, .int .i64 0, .int .i64 0, .int .i64 0])] bb (Bx.l (spanK P 0))) := by
        refine ⟨b_step hBV.out HBB.out, fun p hp => ?_, ?_, by omega, by have := hBV.out.size; omega, by have := hBV.out.size; omega, Cells.lt CB.out⟩
        · simp only [List.mem_cons, List.not_mem_nil, or_false] at hp
          rcases hp with rfl | rfl
          · exact ⟨by show _ < _; omega, by show _ ≠ _; omega, C1.out.step HBB.out⟩
          · exact ⟨by show _ < _; omega, by show _ ≠ _; omega, C2.out.step HBB.out⟩
        · have h9 := CB.out
          rw [HQ0.out] at h9
          exact h9
      clear CB HBB C1 C2 HQ0 k0 x0 x1 x2 hBV
      go_wp2_with (fail)
      go_loopg [4] P.length (fun gm s4 wr => ∃ i : Nat, s4 = .int .i64 (i : Int) ∧ i ≤ P.length ∧ gm = P.length - i ∧ Hid (KB w0 wr (bb + 1) [(cb, [.slice (some ⟨g, off, none⟩) P.length cap, .slice oa A.length ca, .slice oe E.length ce, .int .i64 r]), (ob, [.int .i64 0, .int .i64 0, .int .i64 0, .int .i64 0, .int .i64 0, .int .i64 0])] bb (Bx.l (spanK P i))))
      case atStart => exact ⟨0, rfl, Nat.zero_le _, rfl, HKB⟩
      case round =>
        clear HKB
        obtain ⟨i, rfl, hi, hgm, HKB⟩ := hrel
        have HG1 : Hid _ := hgm
        clear hgm
        have k0 := (HKB.out.at List.mem_cons_self 0 _ rfl).1
        have HS1 : Hid (spanK P (i + 1) = (spanK P i).join ⟨pt P i, pt P i⟩) := rfl
        by_cases hit : i < P.length
        · obtain ⟨g', f', e', x0, x1, x2⟩ := HCL.out i hit
          cases e'
          have x0 := c_after HKB.out.below x0
          have x1 := c_after HKB.out.below x1
          have x2 := c_after HKB.out.below x2
          have hit2 : (i : Int) < (P.length : Int) := by omega
          have HJ : Hid _ := fun w' => rjoin_any (spanK P i) ⟨pt P i, pt P i⟩ w'
          rw [← HS1.out] at HJ
          have HKE : Hid (∀ X, KB w0 X (bb + 1) [(cb, [.slice (some ⟨g, off, none⟩) P.length cap, .slice oa A.length ca, .slice oe E.length ce, .int .i64 r]), (ob, [.int .i64 0, .int .i64 0, .int .i64 0, .int .i64 0, .int .i64 0, .int .i64 0])] bb (Bx.l (spanK P (i + 1))) → ∃ i2 : Nat, Value.int .i64 ((i + 1 : Nat) : Int) = .int .i64 (i2 : Int) ∧ i2 ≤ P.length ∧ P.length - (i + 1) = P.length - i2 ∧ Hid (KB w0 X (bb + 1) [(cb, [.slice (some ⟨g, off, none⟩) P.length cap, .slice oa A.length ca, .slice oe E.length ce, .int .i64 r]), (ob, [.int .i64 0, .int .i64 0, .int .i64 0, .int .i64 0, .int .i64 0, .int .i64 0])] bb (Bx.l (spanK P i2)))) := fun X h => ⟨i + 1, rfl, by omega, rfl, h⟩
          generalize spanK P (i + 1) = jj at *
          generalize spanK P i = q at *
          generalize pt P i = p at *
          obtain ⟨⟨lx, ly, lz⟩, ⟨hx, hy, hz⟩⟩ := q
          obtain ⟨⟨j0, j1, j2⟩, ⟨j3, j4, j5⟩⟩ := jj
          obtain ⟨px, py, pz⟩ := p
          unfold Bx.v at HJ
          unfold Bx.l at HKB HKE
          dsimp only at HJ HKB HKE x0 x1 x2
          clear HS1 HCL
          have cc := fun k v h => HKB.out.box k v h
          obtain ⟨c0_, f0_⟩ := cc 0 _ rfl
          obtain ⟨c1_, f1_⟩ := cc 1 _ rfl
          obtain ⟨c2_, f2_⟩ := cc 2 _ rfl
          obtain ⟨c3_, f3_⟩ := cc 3 _ rfl
          obtain ⟨c4_, f4_⟩ := cc 4 _ rfl
          obtain ⟨c5_, f5_⟩ := cc 5 _ rfl
          clear cc
          go_upto_region 7 with fail
          refine RV.region_by (fun j v w => match j with | 0 => v = .agg #[.int .i64 (lx), .int .i64 (ly), .int .i64 (lz), .int .i64 (hx), .int .i64 (hy), .int .i64 (hz)] | 1 => v = .pointer (some ⟨cb, 0, none⟩) | 2 => v = .slice (some ⟨g, off, none⟩) P.length cap | 3 => v = .int .i64 ((i : Int)) | 4 => v = .pointer (some ⟨g, off + i * 3, none⟩) | 5 => v = .agg #[.int .i64 (px), .int .i64 (py), .int .i64 (pz)] | 6 => v = .pointer (some ⟨cb, 0, none⟩) | 7 => v = .slice (some ⟨g, off, none⟩) P.length cap | 8 => v = .int .i64 ((i : Int)) | 9 => v = .pointer (some ⟨g, off + i * 3, none⟩) | 10 => v = .agg #[.int .i64 (px), .int .i64 (py), .int .i64 (pz)] | 11 => v = .agg #[.int .i64 (px), .int .i64 (py), .int .i64 (pz), .int .i64 (px), .int .i64 (py), .int .i64 (pz)] | 12 => v = .agg #[.int .i64 (j0), .int .i64 (j1), .int .i64 (j2), .int .i64 (j3), .int .i64 (j4), .int .i64 (j5)] | 13 => True | _ => True) (fun γ L w9 => (L 13 = false ∧ Below wr.heap.size wr w9) ∨ (L 13 = true ∧ ∃ w, Below wr.heap.size wr w ∧ w9 = ((((((w.setCell ⟨bb, 0, none⟩ (.int .i64 (j0))).setCell ⟨bb, 1, none⟩ (.int .i64 (j1))).setCell ⟨bb, 2, none⟩ (.int .i64 (j2))).setCell ⟨bb, 3, none⟩ (.int .i64 (j3))).setCell ⟨bb, 4, none⟩ (.int .i64 (j4))).setCell ⟨bb, 5, none⟩ (.int .i64 (j5))))) (by kernel_rfl) (by kernel_rfl) (by kernel_rfl) (by kernel_rfl) ?_ ?_ ?_
          · exact Or.inl ⟨rfl, (Below.refl _ wr).drew⟩
          · generalize hD : dstOf _ = D
            generalize hWA : waitsFor _ = WA
            generalize hZ : Act.mk _ _ = Z
            obtain ⟨R, hR⟩ : ∃ R : Nat → Value → World → Prop, R = (fun j v w => match j with | 0 => v = .agg #[.int .i64 (lx), .int .i64 (ly), .int .i64 (lz), .int .i64 (hx), .int .i64 (hy), .int .i64 (hz)] | 1 => v = .pointer (some ⟨cb, 0, none⟩) | 2 => v = .slice (some ⟨g, off, none⟩) P.length cap | 3 => v = .int .i64 ((i : Int)) | 4 => v = .pointer (some ⟨g, off + i * 3, none⟩) | 5 => v = .agg #[.int .i64 (px), .int .i64 (py), .int .i64 (pz)] | 6 => v = .pointer (some ⟨cb, 0, none⟩) | 7 => v = .slice (some ⟨g, off, none⟩) P.length cap | 8 => v = .int .i64 ((i : Int)) | 9 => v = .pointer (some ⟨g, off + i * 3, none⟩) | 10 => v = .agg #[.int .i64 (px), .int .i64 (py), .int .i64 (pz)] | 11 => v = .agg #[.int .i64 (px), .int .i64 (py), .int .i64 (pz), .int .i64 (px), .int .i64 (py), .int .i64 (pz)] | 12 => v = .agg #[.int .i64 (j0), .int .i64 (j1), .int .i64 (j2), .int .i64 (j3), .int .i64 (j4), .int .i64 (j5)] | 13 => True | _ => True) := ⟨_, rfl⟩
            rw [← hR]
            have d0 : D 0 = some 26 := by rw [← hD]; rfl
            have d1 : D 1 = some 27 := by rw [← hD]; rfl
            have d2 : D 2 = some 28 := by rw [← hD]; rfl
            have d3 : D 3 = some 29 := by rw [← hD]; rfl
            have d4 : D 4 = some 30 := by rw [← hD]; rfl
            have d5 : D 5 = some 31 := by rw [← hD]; rfl
            have d6 : D 6 = some 32 := by rw [← hD]; rfl
            have d7 : D 7 = some 33 := by rw [← hD]; rfl
            have d8 : D 8 = some 34 := by rw [← hD]; rfl
            have d9 : D 9 = some 35 := by rw [← hD]; rfl
            have d10 : D 10 = some 36 := by rw [← hD]; rfl
            have d11 : D 11 = some 37 := by rw [← hD]; rfl
            have d12 : D 12 = some 38 := by rw [← hD]; rfl
            have r0 : ∀ v w, R 0 v w = (v = .agg #[.int .i64 (lx), .int .i64 (ly), .int .i64 (lz), .int .i64 (hx), .int .i64 (hy), .int .i64 (hz)]) := fun v w => by rw [hR]; rfl
            have r1 : ∀ v w, R 1 v w = (v = .pointer (some ⟨cb, 0, none⟩)) := fun v w => by rw [hR]; rfl
            have r2 : ∀ v w, R 2 v w = (v = .slice (some ⟨g, off, none⟩) P.length cap) := fun v w => by rw [hR]; rfl
            have r3 : ∀ v w, R 3 v w = (v = .int .i64 ((i : Int))) := fun v w => by rw [hR]; rfl
            have r4 : ∀ v w, R 4 v w = (v = .pointer (some ⟨g, off + i * 3, none⟩)) := fun v w => by rw [hR]; rfl
            have r5 : ∀ v w, R 5 v w = (v = .agg #[.int .i64 (px), .int .i64 (py), .int .i64 (pz)]) := fun v w => by rw [hR]; rfl
            have r6 : ∀ v w, R 6 v w = (v = .pointer (some ⟨cb, 0, none⟩)) := fun v w => by rw [hR]; rfl
            have r7 : ∀ v w, R 7 v w = (v = .slice (some ⟨g, off, none⟩) P.length cap) := fun v w => by rw [hR]; rfl
            have r8 : ∀ v w, R 8 v w = (v = .int .i64 ((i : Int))) := fun v w => by rw [hR]; rfl
            have r9 : ∀ v w, R 9 v w = (v = .pointer (some ⟨g, off + i * 3, none⟩)) := fun v w => by rw [hR]; rfl
            have r10 : ∀ v w, R 10 v w = (v = .agg #[.int .i64 (px), .int .i64 (py), .int .i64 (pz)]) := fun v w => by rw [hR]; rfl
            have r11 : ∀ v w, R 11 v w = (v = .agg #[.int .i64 (px), .int .i64 (py), .int .i64 (pz), .int .i64 (px), .int .i64 (py), .int .i64 (pz)]) := fun v w => by rw [hR]; rfl
            have r12 : ∀ v w, R 12 v w = (v = .agg #[.int .i64 (j0), .int .i64 (j1), .int .i64 (j2), .int .i64 (j3), .int .i64 (j4), .int .i64 (j5)]) := fun v w => by rw [hR]; rfl
            have r13 : ∀ v w, R 13 v w = (True) := fun v w => by rw [hR]; rfl
            have E1 : ∀ (γ : Nat → Value) (L : Nat → Bool) (a : Act) (w : World), RV.Held D WA R (fun γ L w9 => (L 13 = false ∧ Below wr.heap.size wr w9) ∨ (L 13 = true ∧ ∃ w, Below wr.heap.size wr w ∧ w9 = ((((((w.setCell ⟨bb, 0, none⟩ (.int .i64 (j0))).setCell ⟨bb, 1, none⟩ (.int .i64 (j1))).setCell ⟨bb, 2, none⟩ (.int .i64 (j2))).setCell ⟨bb, 3, none⟩ (.int .i64 (j3))).setCell ⟨bb, 4, none⟩ (.int .i64 (j4))).setCell ⟨bb, 5, none⟩ (.int .i64 (j5))))) Z γ L a w → a.tmps[1]? = some (.pointer (some ⟨cb, 0, none⟩)) := fun γ L a w hH => (hH.rest 1 (by rw [← hD]; exact RV.dst_free (by kernel_rfl))).trans (by rw [← hZ]; rfl)
            have E3 : ∀ (γ : Nat → Value) (L : Nat → Bool) (a : Act) (w : World), RV.Held D WA R (fun γ L w9 => (L 13 = false ∧ Below wr.heap.size wr w9) ∨ (L 13 = true ∧ ∃ w, Below wr.heap.size wr w ∧ w9 = ((((((w.setCell ⟨bb, 0, none⟩ (.int .i64 (j0))).setCell ⟨bb, 1, none⟩ (.int .i64 (j1))).setCell ⟨bb, 2, none⟩ (.int .i64 (j2))).setCell ⟨bb, 3, none⟩ (.int .i64 (j3))).setCell ⟨bb, 4, none⟩ (.int .i64 (j4))).setCell ⟨bb, 5, none⟩ (.int .i64 (j5))))) Z γ L a w → a.tmps[3]? = some (.pointer (some ⟨bb, 0, none⟩)) := fun γ L a w hH => (hH.rest 3 (by rw [← hD]; exact RV.dst_free (by kernel_rfl))).trans (by rw [← hZ]; rfl)
            have E4 : ∀ (γ : Nat → Value) (L : Nat → Bool) (a : Act) (w : World), RV.Held D WA R (fun γ L w9 => (L 13 = false ∧ Below wr.heap.size wr w9) ∨ (L 13 = true ∧ ∃ w, Below wr.heap.size wr w ∧ w9 = ((((((w.setCell ⟨bb, 0, none⟩ (.int .i64 (j0))).setCell ⟨bb, 1, none⟩ (.int .i64 (j1))).setCell ⟨bb, 2, none⟩ (.int .i64 (j2))).setCell ⟨bb, 3, none⟩ (.int .i64 (j3))).setCell ⟨bb, 4, none⟩ (.int .i64 (j4))).setCell ⟨bb, 5, none⟩ (.int .i64 (j5))))) Z γ L a w → a.tmps[4]? = some (.int .i64 ((i : Int))) := fun γ L a w hH => (hH.rest 4 (by rw [← hD]; exact RV.dst_free (by kernel_rfl))).trans (by rw [← hZ]; rfl)
            have K : ∀ j v w w', R j v w → R j v w' := by rw [hR]; intro j v w w' h; exact h
            have A_13_0 : WA 13 0 := by rw [← hWA]; exact ⟨_, rfl, ⟨0, .phase⟩, by simp, rfl, rfl⟩
            have A_13_2 : WA 13 2 := by rw [← hWA]; exact ⟨_, rfl, ⟨2, .phase⟩, by simp, rfl, rfl⟩
            have A_13_5 : WA 13 5 := by rw [← hWA]; exact ⟨_, rfl, ⟨5, .phase⟩, by simp, rfl, rfl⟩
            have A_13_7 : WA 13 7 := by rw [← hWA]; exact ⟨_, rfl, ⟨7, .phase⟩, by simp, rfl, rfl⟩
            have A_13_10 : WA 13 10 := by rw [← hWA]; exact ⟨_, rfl, ⟨10, .phase⟩, by simp, rfl, rfl⟩
            have A_13_12 : WA 13 12 := by rw [← hWA]; exact ⟨_, rfl, ⟨12, .phase⟩, by simp, rfl, rfl⟩
            clear hD hWA hZ hR
            refine RV.AllDo.cons 0 (RV.does_pure (fun γ v L w hl h => by rw [RV.more_ne (L := L) (i := 0) (j := 13) (by decide)]; exact h) (fun γ L a w hH hl hA => by have e0 := E3 γ L a w hH; have hB9 := early9 hH.glob (RV.not_yet hH A_13_0 hl); have z0 := c_after hB9 c0_; have z1 := c_after hB9 c1_; have z2 := c_after hB9 c2_; have z3 := c_after hB9 c3_; have z4 := c_after hB9 c4_; have z5 := c_after hB9 c5_; exact ⟨.agg #[.int .i64 (lx), .int .i64 (ly), .int .i64 (lz), .int .i64 (hx), .int .i64 (hy), .int .i64 (hz)], by simp [execOp, go_sem, e0, z0, z1, z2, z3, z4, z5], (r0 _ _).mpr rfl⟩)) ?_
            refine RV.AllDo.cons 1 (RV.does_pure (fun γ v L w hl h => by rw [RV.more_ne (L := L) (i := 1) (j := 13) (by decide)]; exact h) (fun γ L a w hH hl hA => by have e0 := E1 γ L a w hH; exact ⟨.pointer (some ⟨cb, 0, none⟩), by simp [execOp, go_sem, e0], (r1 _ _).mpr rfl⟩)) ?_
            refine RV.AllDo.cons 2 (RV.does_pure (fun γ v L w hl h => by rw [RV.more_ne (L := L) (i := 2) (j := 13) (by decide)]; exact h) (fun γ L a w hH hl hA => by have l0 : L 1 = true := hA ⟨1, .data⟩ (by simp) rfl; have e0 := hH.slot 1 27 d1 l0; have g0 := hH.holds 1 l0; rw [r1] at g0; rw [g0] at e0; have hB9 := early9 hH.glob (RV.not_yet hH A_13_2 hl); have z0 := c_after hB9 k0; exact ⟨.slice (some ⟨g, off, none⟩) P.length cap, by simp [execOp, go_sem, e0, z0], (r2 _ _).mpr rfl⟩)) ?_
            refine RV.AllDo.cons 3 (RV.does_pure (fun γ v L w hl h => by rw [RV.more_ne (L := L) (i := 3) (j := 13) (by decide)]; exact h) (fun γ L a w hH hl hA => by have e0 := E4 γ L a w hH; exact ⟨.int .i64 ((i : Int)), by simp [execOp, go_sem, e0], (r3 _ _).mpr rfl⟩)) ?_
            refine RV.AllDo.cons 4 (RV.does_pure (fun γ v L w hl h => by rw [RV.more_ne (L := L) (i := 4) (j := 13) (by decide)]; exact h) (fun γ L a w hH hl hA => by have l0 : L 2 = true := hA ⟨2, .data⟩ (by simp) rfl; have e0 := hH.slot 2 28 d2 l0; have g0 := hH.holds 2 l0; rw [r2] at g0; rw [g0] at e0; have l1 : L 3 = true := hA ⟨3, .data⟩ (by simp) rfl; have e1 := hH.slot 3 29 d3 l1; have g1 := hH.holds 3 l1; rw [r3] at g1; rw [g1] at e1; exact ⟨.pointer (some ⟨g, off + i * 3, none⟩), by simp [execOp, go_sem, e0, e1, hit2], (r4 _ _).mpr rfl⟩)) ?_
            refine RV.AllDo.cons 5 (RV.does_pure (fun γ v L w hl h => by rw [RV.more_ne (L := L) (i := 5) (j := 13) (by decide)]; exact h) (fun γ L a w hH hl hA => by have l0 : L 4 = true := hA ⟨4, .data⟩ (by simp) rfl; have e0 := hH.slot 4 30 d4 l0; have g0 := hH.holds 4 l0; rw [r4] at g0; rw [g0] at e0; have hB9 := early9 hH.glob (RV.not_yet hH A_13_5 hl); have v0 := c_after hB9 x0; have v1 := c_after hB9 x1; have v2 := c_after hB9 x2; exact ⟨.agg #[.int .i64 (px), .int .i64 (py), .int .i64 (pz)], by simp [execOp, go_sem, e0, v0, v1, v2], (r5 _ _).mpr rfl⟩)) ?_
            refine RV.AllDo.cons 6 (RV.does_pure (fun γ v L w hl h => by rw [RV.more_ne (L := L) (i := 6) (j := 13) (by decide)]; exact h) (fun γ L a w hH hl hA => by have e0 := E1 γ L a w hH; exact ⟨.pointer (some ⟨cb, 0, none⟩), by simp [execOp, go_sem, e0], (r6 _ _).mpr rfl⟩)) ?_
            refine RV.AllDo.cons 7 (RV.does_pure (fun γ v L w hl h => by rw [RV.more_ne (L := L) (i := 7) (j := 13) (by decide)]; exact h) (fun γ L a w hH hl hA => by have l0 : L 6 = true := hA ⟨6, .data⟩ (by simp) rfl; have e0 := hH.slot 6 32 d6 l0; have g0 := hH.holds 6 l0; rw [r6] at g0; rw [g0] at e0; have hB9 := early9 hH.glob (RV.not_yet hH A_13_7 hl); have z0 := c_after hB9 k0; exact ⟨.slice (some ⟨g, off, none⟩) P.length cap, by simp [execOp, go_sem, e0, z0], (r7 _ _).mpr rfl⟩)) ?_
            refine RV.AllDo.cons 8 (RV.does_pure (fun γ v L w hl h => by rw [RV.more_ne (L := L) (i := 8) (j := 13) (by decide)]; exact h) (fun γ L a w hH hl hA => by have e0 := E4 γ L a w hH; exact ⟨.int .i64 ((i : Int)), by simp [execOp, go_sem, e0], (r8 _ _).mpr rfl⟩)) ?_
            refine RV.AllDo.cons 9 (RV.does_pure (fun γ v L w hl h => by rw [RV.more_ne (L := L) (i := 9) (j := 13) (by decide)]; exact h) (fun γ L a w hH hl hA => by have l0 : L 7 = true := hA ⟨7, .data⟩ (by simp) rfl; have e0 := hH.slot 7 33 d7 l0; have g0 := hH.holds 7 l0; rw [r7] at g0; rw [g0] at e0; have l1 : L 8 = true := hA ⟨8, .data⟩ (by simp) rfl; have e1 := hH.slot 8 34 d8 l1; have g1 := hH.holds 8 l1; rw [r8] at g1; rw [g1] at e1; exact ⟨.pointer (some ⟨g, off + i * 3, none⟩), by simp [execOp, go_sem, e0, e1, hit2], (r9 _ _).mpr rfl⟩)) ?_
            refine RV.AllDo.cons 10 (RV.does_pure (fun γ v L w hl h => by rw [RV.more_ne (L := L) (i := 10) (j := 13) (by decide)]; exact h) (fun γ L a w hH hl hA => by have l0 : L 9 = true := hA ⟨9, .data⟩ (by simp) rfl; have e0 := hH.slot 9 35 d9 l0; have g0 := hH.holds 9 l0; rw [r9] at g0; rw [g0] at e0; have hB9 := early9 hH.glob (RV.not_yet hH A_13_10 hl); have v0 := c_after hB9 x0; have v1 := c_after hB9 x1; have v2 := c_after hB9 x2; exact ⟨.agg #[.int .i64 (px), .int .i64 (py), .int .i64 (pz)], by simp [execOp, go_sem, e0, v0, v1, v2], (r10 _ _).mpr rfl⟩)) ?_
            refine RV.AllDo.cons 11 (RV.does_pure (fun γ v L w hl h => by rw [RV.more_ne (L := L) (i := 11) (j := 13) (by decide)]; exact h) (fun γ L a w hH hl hA => by have l0 : L 5 = true := hA ⟨5, .data⟩ (by simp) rfl; have e0 := hH.slot 5 31 d5 l0; have g0 := hH.holds 5 l0; rw [r5] at g0; rw [g0] at e0; have l1 : L 10 = true := hA ⟨10, .data⟩ (by simp) rfl; have e1 := hH.slot 10 36 d10 l1; have g1 := hH.holds 10 l1; rw [r10] at g1; rw [g1] at e1; exact ⟨.agg #[.int .i64 (px), .int .i64 (py), .int .i64 (pz), .int .i64 (px), .int .i64 (py), .int .i64 (pz)], by simp [execOp, go_sem, e0, e1], (r11 _ _).mpr rfl⟩)) ?_
            refine RV.AllDo.cons 12 (RV.does_call (fun γ L a w hH hl hA => by have l0 : L 0 = true := hA ⟨0, .data⟩ (by simp) rfl; have e0 := hH.slot 0 26 d0 l0; have g0 := hH.holds 0 l0; rw [r0] at g0; rw [g0] at e0; have l1 : L 11 = true := hA ⟨11, .data⟩ (by simp) rfl; have e1 := hH.slot 11 37 d11 l1; have g1 := hH.holds 11 l1; rw [r11] at g1; rw [g1] at e1; have hB9 := early9 hH.glob (RV.not_yet hH A_13_12 hl); exact ⟨39, #[.agg #[.int .i64 (lx), .int .i64 (ly), .int .i64 (lz), .int .i64 (hx), .int .i64 (hy), .int .i64 (hz)], .agg #[.int .i64 (px), .int .i64 (py), .int .i64 (pz), .int .i64 (px), .int .i64 (py), .int .i64 (pz)]], by simp [go_sem, e0, e1], Calls.mono (HJ.out w) (by rintro e w2 ⟨rfl, hb⟩; exact ⟨_, rfl, (r12 _ _).mpr rfl, fun j v _ h => K j v _ _ h, Or.inl ⟨by rw [RV.more_ne (L := L) (i := 12) (j := 13) (by decide)]; exact RV.not_yet hH A_13_12 hl, hB9.trans (hb.mono hB9.size)⟩⟩)⟩)) ?_
            refine RV.AllDo.cons 13 (RV.does_store (fun γ L a w hH hl hA => by have e0 := E3 γ L a w hH; have l1 : L 12 = true := hA ⟨12, .data⟩ (by simp) rfl; have e1 := hH.slot 12 38 d12 l1; have g1 := hH.holds 12 l1; rw [r12] at g1; rw [g1] at e1; have hB9 := early9 hH.glob hl; have z0 := c_after hB9 c0_; have zf0 := f_after hB9 c0_ f0_; have z1 := c_after hB9 c1_; have zf1 := f_after hB9 c1_ f1_; have z2 := c_after hB9 c2_; have zf2 := f_after hB9 c2_ f2_; have z3 := c_after hB9 c3_; have zf3 := f_after hB9 c3_ f3_; have z4 := c_after hB9 c4_; have zf4 := f_after hB9 c4_ f4_; have z5 := c_after hB9 c5_; have zf5 := f_after hB9 c5_ f5_; exact ⟨((((((w.setCell ⟨bb, 0, none⟩ (.int .i64 (j0))).setCell ⟨bb, 1, none⟩ (.int .i64 (j1))).setCell ⟨bb, 2, none⟩ (.int .i64 (j2))).setCell ⟨bb, 3, none⟩ (.int .i64 (j3))).setCell ⟨bb, 4, none⟩ (.int .i64 (j4))).setCell ⟨bb, 5, none⟩ (.int .i64 (j5))), by simp [execOp, go_sem, e0, e1, z0, zf0, z1, zf1, z2, zf2, z3, zf3, z4, zf4, z5, zf5], (r13 _ _).mpr trivial, fun j v _ h => K j v _ _ h, Or.inr ⟨RV.more_self, w, hB9, rfl⟩⟩)) ?_
            exact RV.AllDo.nil
          · intro γ a5 w5 L9 hL hLo hH
            have ha := RV.held_act hH hL (by kernel_rfl) (by kernel_rfl)
            obtain ⟨w8, hb8, rfl⟩ := late9 hH.glob (hL 13 (by decide))
            have y0 : γ 0 = .agg #[.int .i64 (lx), .int .i64 (ly), .int .i64 (lz), .int .i64 (hx), .int .i64 (hy), .int .i64 (hz)] := hH.holds 0 (hL 0 (by decide))
            have y1 : γ 1 = .pointer (some ⟨cb, 0, none⟩) := hH.holds 1 (hL 1 (by decide))
            have y2 : γ 2 = .slice (some ⟨g, off, none⟩) P.length cap := hH.holds 2 (hL 2 (by decide))
            have y3 : γ 3 = .int .i64 ((i : Int)) := hH.holds 3 (hL 3 (by decide))
            have y4 : γ 4 = .pointer (some ⟨g, off + i * 3, none⟩) := hH.holds 4 (hL 4 (by decide))
            have y5 : γ 5 = .agg #[.int .i64 (px), .int .i64 (py), .int .i64 (pz)] := hH.holds 5 (hL 5 (by decide))
            have y6 : γ 6 = .pointer (some ⟨cb, 0, none⟩) := hH.holds 6 (hL 6 (by decide))
            have y7 : γ 7 = .slice (some ⟨g, off, none⟩) P.length cap := hH.holds 7 (hL 7 (by decide))
            have y8 : γ 8 = .int .i64 ((i : Int)) := hH.holds 8 (hL 8 (by decide))
            have y9 : γ 9 = .pointer (some ⟨g, off + i * 3, none⟩) := hH.holds 9 (hL 9 (by decide))
            have y10 : γ 10 = .agg #[.int .i64 (px), .int .i64 (py), .int .i64 (pz)] := hH.holds 10 (hL 10 (by decide))
            have y11 : γ 11 = .agg #[.int .i64 (px), .int .i64 (py), .int .i64 (pz), .int .i64 (px), .int .i64 (py), .int .i64 (pz)] := hH.holds 11 (hL 11 (by decide))
            have y12 : γ 12 = .agg #[.int .i64 (j0), .int .i64 (j1), .int .i64 (j2), .int .i64 (j3), .int .i64 (j4), .int .i64 (j5)] := hH.holds 12 (hL 12 (by decide))
            rw [ha]
            clear ha hH hL hLo
            simp only [RV.putAll, Act.put, List.setIfInBounds_toArray, List.set_cons_zero, List.set_cons_succ, Nat.zero_add, Nat.reduceAdd, y0, y1, y2, y3, y4, y5, y6, y7, y8, y9, y10, y11, y12]
            clear y0 y1 y2 y3 y4 y5 y6 y7 y8 y9 y10 y11 y12
            have HK9 : Hid _ := ((((((HKB.out.step hb8).put 0 (.int .i64 j0) (by simp)).put 1 (.int .i64 j1) (by simp)).put 2 (.int .i64 j2) (by simp)).put 3 (.int .i64 j3) (by simp)).put 4 (.int .i64 j4) (by simp)).put 5 (.int .i64 j5) (by simp)
            go_wp2_with (fail)
            go_roundg (P.length - (i + 1))
            case rel => exact HKE.out _ HK9.out
            case measure => have := HG1.out; omega
        · obtain rfl : i = P.length := by omega
          have HGR : Hid _ := fun w' => rgrown_any (spanK P P.length) r w'
          obtain ⟨jj, hjj⟩ : ∃ jj, jj = (spanK P P.length).grown r := ⟨_, rfl⟩
          rw [← hjj] at HGR
          have HJJ : Hid _ := hjj
          clear hjj
          clear HS1 HCL
          obtain ⟨q, hq⟩ : ∃ q, q = spanK P P.length := ⟨_, rfl⟩
          rw [← hq] at HGR HKB
          clear hq
          obtain ⟨⟨lx, ly, lz⟩, ⟨hx, hy, hz⟩⟩ := q
          obtain ⟨⟨j0, j1, j2⟩, ⟨j3, j4, j5⟩⟩ := jj
          unfold Bx.v at HGR
          unfold Bx.l at HKB
          dsimp only at HGR HKB
          have cc := fun k v h => (HKB.out.box k v h).1
          have c0_ := cc 0 _ rfl
          have c1_ := cc 1 _ rfl
          have c2_ := cc 2 _ rfl
          have c3_ := cc 3 _ rfl
          have c4_ := cc 4 _ rfl
          have c5_ := cc 5 _ rfl
          clear cc
          have k3 := (HKB.out.at List.mem_cons_self 3 _ rfl).1
          go_wp2_with (fail)
          refine Calls.mono (HGR.out _) ?_
          rintro e V3 ⟨rfl, hb⟩
          have HK3 : Hid _ := HKB.out.step hb
          clear hb HKB c0_ c1_ c2_ c3_ c4_ c5_ k3 k0 HGR
          have OC : Hid _ := HK3.out.at (List.mem_cons_of_mem _ List.mem_cons_self)
          obtain ⟨b0, d0⟩ := OC.out 0 _ rfl
          obtain ⟨b1, d1⟩ := OC.out 1 _ rfl
          obtain ⟨b2, d2⟩ := OC.out 2 _ rfl
          obtain ⟨b3, d3⟩ := OC.out 3 _ rfl
          obtain ⟨b4, d4⟩ := OC.out 4 _ rfl
          obtain ⟨b5, d5⟩ := OC.out 5 _ rfl
          go_wp2_with (fail)
          refine bodyPost_ret (v := .agg #[.int .i64 j0, .int .i64 j1, .int .i64 j2, .int .i64 j3, .int .i64 j4, .int .i64 j5]) (by simp [results, Tryz.results13, go_sem, b0, b1, b2, b3, b4, b5]) rfl ⟨by rw [← HJJ.out]; rfl, ?_⟩
          exact set6_below HK3.out.below hco ⟨⟨j0, j1, j2⟩, ⟨j3, j4, j5⟩⟩
end Go.Proofs.YtompnibhfdkkjaaGreat
namespace Go.Proofs.YtompnibhfdkkjaaGreat
open Go.RowKit Fx
namespace WM

theorem mul_in {a b A B : Int} (ha : -A ≤ a ∧ a ≤ A) (hb : -B ≤ b ∧ b ≤ B) : -(A * B) ≤ a * b ∧ a * b ≤ A * B := by
  have h1 := Int.mul_nonneg (show 0 ≤ A - a by omega) (show 0 ≤ B + b by omega)
  have h2 := Int.mul_nonneg (show 0 ≤ A + a by omega) (show 0 ≤ B - b by omega)
  have h3 := Int.mul_nonneg (show 0 ≤ A - a by omega) (show 0 ≤ B - b by omega)
  have h4 := Int.mul_nonneg (show 0 ≤ A + a by omega) (show 0 ≤ B + b by omega)
  simp only [Int.add_mul, Int.sub_mul, Int.mul_add, Int.mul_sub] at h1 h2 h3 h4
  omega

end WM
end Go.Proofs.YtompnibhfdkkjaaGreat
namespace Go.Proofs.YtompnibhfdkkjaaGreat
open Go.RowKit Fx
set_option linter.unusedVariables false

/-- A matrix of which no part is too great. -/
structure M9.Fit (m : M9) : Prop where
  h0 : -8589934592 ≤ m.a0 ∧ m.a0 ≤ 8589934592
  h1 : -8589934592 ≤ m.a1 ∧ m.a1 ≤ 8589934592
  h2 : -8589934592 ≤ m.a2 ∧ m.a2 ≤ 8589934592
  h3 : -8589934592 ≤ m.a3 ∧ m.a3 ≤ 8589934592
  h4 : -8589934592 ≤ m.a4 ∧ m.a4 ≤ 8589934592
  h5 : -8589934592 ≤ m.a5 ∧ m.a5 ≤ 8589934592
  h6 : -8589934592 ≤ m.a6 ∧ m.a6 ≤ 8589934592
  h7 : -8589934592 ≤ m.a7 ∧ m.a7 ≤ 8589934592
  h8 : -8589934592 ≤ m.a8 ∧ m.a8 ≤ 8589934592
end Go.Proofs.YtompnibhfdkkjaaGreat
namespace Go.Proofs.YtompnibhfdkkjaaGreat
open Go.RowKit Fx
set_option linter.unusedVariables false

def sgn (b : Bool) (x : Int) : Int := cond b (-x) x
/-- A matrix that turns parts about, or doesn't. -/
structure M9.Dg (m : M9) (b0 b1 b2 : Bool) : Prop where
  h0 : m.a0 = sgn b0 4294967296
  h1 : m.a1 = 0
  h2 : m.a2 = 0
  h3 : m.a3 = 0
  h4 : m.a4 = sgn b1 4294967296
  h5 : m.a5 = 0
  h6 : m.a6 = 0
  h7 : m.a7 = 0
  h8 : m.a8 = sgn b2 4294967296
end Go.Proofs.YtompnibhfdkkjaaGreat
namespace Go.Proofs.YtompnibhfdkkjaaGreat
open Go.RowKit Go.Shelf
set_option linter.unusedVariables false

def Pt.fits (p : Pt) : Prop := (-9223372036854775808 ≤ p.x ∧ p.x ≤ 9223372036854775807) ∧ (-9223372036854775808 ≤ p.y ∧ p.y ≤ 9223372036854775807) ∧ (-9223372036854775808 ≤ p.z ∧ p.z ≤ 9223372036854775807)
/-- A shape that may be. -/
structure Good (s : Sh) : Prop where
  k : 1 ≤ s.kind ∧ s.kind ≤ 4
  r : 1 ≤ s.radius ∧ s.radius ≤ 16384
  hx : 1 ≤ s.half.x ∧ s.half.x ≤ 65536
  hy : 1 ≤ s.half.y ∧ s.half.y ≤ 65536
  hz : 1 ≤ s.half.z ∧ s.half.z ≤ 65536
  none : s.kind ≤ 3 → s.pts = []
  ok : checkP s = 0
section
variable {p q s : Nat} {W7 : World} {B : Nat} {u : Value} {b3 k n : Nat} {xs news : List Value} {γ : Nat → Value} {L : Nat → Bool} {w : World}
end

end Go.Proofs.YtompnibhfdkkjaaGreat
namespace Go.Proofs.YtompnibhfdkkjaaGreat
open Go.RowKit Go.Shelf
set_option linter.unusedVariables false

set_option maxHeartbeats 2000000 in
set_option maxRecDepth 100000 in
theorem points_is (v u : Value) (L M : List Pt) (w : World) (hv : Lies w v L) (hu : Lies w u M) :
    Calls Tryz.prog 11 #[v, u] w fun e W => e = .returned (.bool (decide (L = M))) ∧ Below w.heap.size w W := by
  obtain ⟨o, c, rfl, hlc, hcm, hcell⟩ := hv.form
  obtain ⟨o', c', rfl, hlc', hcm', hcell'⟩ := hu.form
  have HC : Hid _ := hcell
  have HC' : Hid _ := hcell'
  clear hv hu hcell hcell'
  by_cases hl : L.length = M.length
  · rw [← hl] at hlc' ⊢
    have HLL : Hid (L.length = M.length) := hl
    clear hl
    obtain ⟨D, hD⟩ : ∃ D, decide (L = M) = D := ⟨_, rfl⟩
    rw [hD]
    have HD : Hid _ := hD
    clear hD
    go_enter Tryz.func11, Tryz.ntmps11
    go_wp2_with (fail)
    go_loopg [5] L.length (fun gm i wr => ∃ k : Nat, i = .int .i64 (k : Int) ∧ k ≤ L.length ∧ gm = L.length - k ∧ Hid (∀ j, j < k → pt L j = pt M j) ∧ Hid (Below w.heap.size w wr))
    case atStart => exact ⟨0, rfl, Nat.zero_le _, rfl, fun j hj => absurd hj (by omega), Below.refl _ w⟩
    case round =>
      obtain ⟨k, rfl, hk, hgm, HN, HB⟩ := hrel
      have HG : Hid _ := hgm
      clear hgm
      by_cases hlt : k < L.length
      · obtain ⟨g, off, rfl, x0, x1, x2⟩ := HC.out k hlt
        obtain ⟨g', off', rfl, y0, y1, y2⟩ := HC'.out k (by rw [← HLL.out]; exact hlt)
        have x0 := c_after HB.out x0
        have x1 := c_after HB.out x1
        have x2 := c_after HB.out x2
        have y0 := c_after HB.out y0
        have y1 := c_after HB.out y1
        have y2 := c_after HB.out y2
        have HNE : Hid (pt L k ≠ pt M k → D = false) := fun hne => by rw [← HD.out]; exact decide_eq_false (fun e => hne (by rw [e]))
        have HEQ : Hid (pt L k = pt M k → ∀ j, j < k + 1 → pt L j = pt M j) := fun e j hj => by
          by_cases ej : j = k
          · subst ej; exact e
          · exact HN.out j (by omega)
        rw [pt_eq] at HEQ
        rw [Ne, pt_eq] at HNE
        generalize (pt L k).x = lx at *
        generalize (pt L k).y = ly at *
        generalize (pt L k).z = lz at *
        generalize (pt M k).x = mx at *
        generalize (pt M k).y = my at *
        generalize (pt M k).z = mz at *
        by_cases ex : lx = mx
        · subst ex
          by_cases ey : ly = my
          · subst ey
            by_cases ez : lz = mz
            · subst ez
              have HE2 : Hid (∀ j, j < k + 1 → pt L j = pt M j) := HEQ.out ⟨rfl, rfl, rfl⟩
              clear HNE HEQ
              go_wp2_with (fail)
              go_region
              go_wp2_with (fail)
              go_roundg (L.length - (k + 1))
              case measure => have := HG.out; omega
              case rel => exact ⟨k + 1, by go_num, by omega, rfl, HE2, HB.out.drew⟩
            · have e : D = false := HNE.out (fun h => ez h.2.2)
              subst e
              have e1 : (lz == mz) = false := beq_eq_false_iff_ne.2 ez
              clear HNE HEQ
              go_wp2_with (fail)
              go_region
              go_wp2_with (fail)
              go_ret
              exact ⟨rfl, HB.out.drew⟩
          · have e : D = false := HNE.out (fun h => ey h.2.1)
            subst e
            have e1 : (ly == my) = false := beq_eq_false_iff_ne.2 ey
            clear HNE HEQ
            go_wp2_with (fail)
            go_region
            go_wp2_with (fail)
            go_ret
            exact ⟨rfl, HB.out.drew⟩
        · have e : D = false := HNE.out (fun h => ex h.1)
          subst e
          have e1 : (lx == mx) = false := beq_eq_false_iff_ne.2 ex
          clear HNE HEQ
          go_wp2_with (fail)
          go_region
          go_wp2_with (fail)
          go_ret
          exact ⟨rfl, HB.out.drew⟩
      · have e : D = true := by rw [← HD.out]; exact decide_eq_true (list_same HLL.out (fun i hi => HN.out i (by omega)))
        subst e
        go_wp2_with (fail)
        go_ret
        exact ⟨rfl, HB.out⟩
  · have hd : decide (L = M) = false := decide_eq_false (fun e => hl (by rw [e]))
    rw [hd]
    have hl' : ¬ (L.length : Int) = (M.length : Int) := by omega
    clear hd
    go_enter Tryz.func11, Tryz.ntmps11
    go_wp2_with (fail)
    go_ret
    exact ⟨rfl, Below.refl _ w⟩
theorem points_same6 (v u : Value) (L : List Pt) (w : World) (hv : Lies w v L) (hu : Lies w u L) :
    Calls Tryz.prog 11 #[v, u] w fun e W => e = .returned (.bool true) ∧ Below w.heap.size w W := by
  have h := points_is v u L L w hv hu
  rw [decide_eq_true rfl] at h
  exact h
end Go.Proofs.YtompnibhfdkkjaaGreat
namespace Go.Proofs.YtompnibhfdkkjaaGreat
open Go.RowKit Go.Shelf Fx
set_option linter.unusedVariables false

def Q4.v (q : Q4) : Value := .agg #[.int .i64 q.w, .int .i64 q.x, .int .i64 q.y, .int .i64 q.z]
end Go.Proofs.YtompnibhfdkkjaaGreat
namespace Go.Proofs.YtompnibhfdkkjaaGreat
open Go.RowKit Go.Shelf
set_option linter.unusedVariables false

/-- A right core at a right pose. -/
structure Came (t : Pt) (q : Q4) (P A E P2 A2 E2 : List Pt) : Prop where
  p : P2 = P.map ((rowsM q).ptV t)
  a : A2 = (rowsM q).dirs A
  e : E2 = (rowsM q).dirs E
  len : P2.length = P.length
  near : ∀ p ∈ P2, p.inB 8388608 = true
def cp0 : Value → Value
  | .tuple vs => vs.getD 0 undef
  | _ => undef
/-- While a right core is placed at a right pose, and laid into a box. -/
structure SG (X : World) (sr : Int) (Ps As Es : List Pt) (g2 g3 g4 g5 g7 : Value) (l2 l3 l4 l5 l7 l8 : Bool) (w : World) : Prop where
  be : Below X.heap.size X w
  t3 : l3 = true → ∃ (P2 A2 E2 : List Pt) (vp va ve : Value) (t : Pt) (q : Q4), g3 = .tuple #[.agg #[vp, va, ve, .int .i64 sr], .bool true] ∧ Three X w vp va ve P2 A2 E2 ∧ Came t q Ps As Es P2 A2 E2
  m4 : l4 = true → g4 = g3
  m5 : l5 = true → g5 = cp0 g3
  pd : l7 = true → ∃ b cs, g7 = .pointer (some ⟨b, 0, none⟩) ∧ X.heap.size ≤ b ∧ w.heap[b]? = some (.cells cs 24 (0, 0)) ∧ cs.size = 4 ∧ (l8 = true → l3 = true ∧ ∀ vp va ve, g3 = .tuple #[.agg #[vp, va, ve, .int .i64 sr], .bool true] → cs = #[vp, va, ve, .int .i64 sr])
section
variable {X w w' : World} {sr : Int} {Ps As Es : List Pt} {g2 g3 g4 g5 g7 : Value} {l2 l3 l4 l5 l7 l8 : Bool}
end
end Go.Proofs.YtompnibhfdkkjaaGreat
namespace Go.Proofs.YtompnibhfdkkjaaGreat
open Go.RowKit Go.Shelf
set_option linter.unusedVariables false

set_option maxHeartbeats 2000000 in
set_option maxRecDepth 100000 in
theorem cores6_same (vp va ve up ua ue : Value) (Pl A E : List Pt) (rd : Int) (w0 : World) (p1 : Lies w0 vp Pl) (a1 : Lies w0 va A) (e1 : Lies w0 ve E) (p2 : Lies w0 up Pl) (a2 : Lies w0 ua A) (e2 : Lies w0 ue E) :
    Calls Tryz.prog 10 #[.agg #[vp, va, ve, .int .i64 rd], .agg #[up, ua, ue, .int .i64 rd]] w0 fun e W => e = .returned (.bool true) ∧ Below w0.heap.size w0 W := by
  have H1 : Hid _ := fun w' (h : Below w0.heap.size w0 w') => points_same6 vp up Pl w' (p1.below h) (p2.below h)
  have H2 : Hid _ := fun w' (h : Below w0.heap.size w0 w') => points_same6 va ua A w' (a1.below h) (a2.below h)
  have H3 : Hid _ := fun w' (h : Below w0.heap.size w0 w') => points_same6 ve ue E w' (e1.below h) (e2.below h)
  obtain ⟨o1, c1, rfl, _⟩ := p1.form
  obtain ⟨o2, c2, rfl, _⟩ := a1.form
  obtain ⟨o3, c3, rfl, _⟩ := e1.form
  obtain ⟨o4, c4, rfl, _⟩ := p2.form
  obtain ⟨o5, c5, rfl, _⟩ := a2.form
  obtain ⟨o6, c6, rfl, _⟩ := e2.form
  clear p1 a1 e1 p2 a2 e2
  have B1 : Hid (Cells ((w0.alloc (.cells #[.slice o1 Pl.length c1, .slice o2 A.length c2, .slice o3 E.length c3, .int .i64 rd] 24)).alloc (.cells #[.slice o4 Pl.length c4, .slice o5 A.length c5, .slice o6 E.length c6, .int .i64 rd] 24)) w0.heap.size [.slice o1 Pl.length c1, .slice o2 A.length c2, .slice o3 E.length c3, .int .i64 rd]) := (Cells.new w0 [.slice o1 Pl.length c1, .slice o2 A.length c2, .slice o3 E.length c3, .int .i64 rd] _).step (n_after _ _)
  have B2 : Hid (Cells ((w0.alloc (.cells #[.slice o1 Pl.length c1, .slice o2 A.length c2, .slice o3 E.length c3, .int .i64 rd] 24)).alloc (.cells #[.slice o4 Pl.length c4, .slice o5 A.length c5, .slice o6 E.length c6, .int .i64 rd] 24)) (w0.heap.size + 1) [.slice o4 Pl.length c4, .slice o5 A.length c5, .slice o6 E.length c6, .int .i64 rd]) := by have := Cells.new (w0.alloc (.cells #[.slice o1 Pl.length c1, .slice o2 A.length c2, .slice o3 E.length c3, .int .i64 rd] 24)) [.slice o4 Pl.length c4, .slice o5 A.length c5, .slice o6 E.length c6, .int .i64 rd] 24; rwa [World.size_alloc] at this
  have hB : Hid (Below w0.heap.size w0 ((w0.alloc (.cells #[.slice o1 Pl.length c1, .slice o2 A.length c2, .slice o3 E.length c3, .int .i64 rd] 24)).alloc (.cells #[.slice o4 Pl.length c4, .slice o5 A.length c5, .slice o6 E.length c6, .int .i64 rd] 24))) := b_step (n_after w0 _) (n_after _ _)
  go_enter Tryz.func10, Tryz.ntmps10
  go_upto_region 1 with fail
  obtain ⟨V, hV⟩ : ∃ V : World, V = (w0.alloc (.cells #[.slice o1 Pl.length c1, .slice o2 A.length c2, .slice o3 E.length c3, .int .i64 rd] 24)).alloc (.cells #[.slice o4 Pl.length c4, .slice o5 A.length c5, .slice o6 E.length c6, .int .i64 rd] 24) := ⟨_, rfl⟩
  rw [← hV] at B1 B2 hB ⊢
  clear hV
  have s3 := (B1.out 3 _ rfl).1
  have t3 := (B2.out 3 _ rfl).1
  have s0 := (B1.out 0 _ rfl).1
  have t0 := (B2.out 0 _ rfl).1
  go_wp2_with (fail)
  refine Calls.mono (H1.out _ hB.out) ?_
  rintro e V1 ⟨rfl, h⟩
  have hB : Hid _ := b_step hB.out h
  have s1 := (Cells.step B1.out h 1 _ rfl).1
  have t1 := (Cells.step B2.out h 1 _ rfl).1
  have s2 := (Cells.step B1.out h 2 _ rfl).1
  have t2 := (Cells.step B2.out h 2 _ rfl).1
  clear s3 t3 s0 t0 h
  go_wp2_with (fail)
  refine Calls.mono (H2.out _ hB.out) ?_
  rintro e V2 ⟨rfl, h⟩
  have hB : Hid _ := b_step hB.out h
  have s2 := c_after h s2
  have t2 := c_after h t2
  clear s1 t1 h
  go_wp2_with (fail)
  refine Calls.mono (H3.out _ hB.out) ?_
  rintro e V3 ⟨rfl, h⟩
  have hB : Hid _ := b_step hB.out h
  clear s2 t2 h
  go_wp2_with (fail)
  go_ret
  exact ⟨rfl, hB.out⟩
end Go.Proofs.YtompnibhfdkkjaaGreat
namespace Go.Proofs.YtompnibhfdkkjaaGreat
open Go.RowKit Go.Shelf
set_option linter.unusedVariables false

def ball6 : Sh := ⟨1, 5, ⟨0, 0, 0⟩, []⟩
theorem ball6_ok : checkP ball6 = 0 := by decide +kernel
theorem ball6_pts : ptsP ball6 = [Pt.O] := by decide +kernel
theorem ball6_axes : axesP ball6 = [] := by decide +kernel
theorem ball6_edges : edgesP ball6 = [] := by decide +kernel
theorem ex_ok : placeOk ⟨4294967296, 0, -1⟩ ⟨4294967296, 0, 0, 0⟩ [Pt.O] [] [] = true := by decide +kernel
theorem ex_at : [Pt.O].map ((rowsM ⟨4294967296, 0, 0, 0⟩).ptV ⟨4294967296, 0, -1⟩) = [⟨4096, 0, -1⟩] := by decide +kernel
theorem ex_dirs : (rowsM ⟨4294967296, 0, 0, 0⟩).dirs [] = [] := by decide +kernel
theorem ex_span : (spanP [⟨4096, 0, -1⟩] 5).v = .agg #[.int .i64 4091, .int .i64 (-5), .int .i64 (-6), .int .i64 4101, .int .i64 5, .int .i64 4] := by
  have e : spanP [⟨4096, 0, -1⟩] 5 = ⟨⟨4091, -5, -6⟩, ⟨4101, 5, 4⟩⟩ := by rfl
  rw [e]; rfl
theorem lies_none (w : World) : Lies w (.slice none 0 0) [] := ⟨none, 0, rfl, Nat.le_refl _, by omega, fun i hi => by simp at hi⟩
set_option maxHeartbeats 4000000 in
set_option maxRecDepth 100000 in
theorem awake6_any (w0 : World) : Calls Tryz.prog 5 #[] w0 fun e W => e = .returned (.bool true) ∧ Below w0.heap.size w0 W := by
  have HC : Hid (Calls Tryz.prog 17 #[.agg #[.int .i64 1, .int .i64 5, .int .i64 0, .int .i64 0, .int .i64 0, .slice none 0 0]] w0 fun e W => ∃ o c o2 c2 o3 c3, e = .returned (.tuple #[.agg #[.slice o 1 c, .slice o2 0 c2, .slice o3 0 c3, .int .i64 5], .int .i64 0]) ∧ Hid (Lies W (.slice o 1 c) [Pt.O] ∧ Lies W (.slice o2 0 c2) [] ∧ Lies W (.slice o3 0 c3) []) ∧ Below w0.heap.size w0 W) := by
    have hc := core_any ball6 (.slice none 0 0) w0 (lies_none _)
    rw [ball6_ok, ball6_pts, ball6_axes, ball6_edges] at hc
    unfold Sh.v at hc
    dsimp only [ball6] at hc
    refine Calls.mono hc ?_
    rintro e W ⟨vp, va, ve, _, h⟩
    obtain ⟨rfl, h3⟩ := h rfl
    obtain ⟨o1, c1, rfl⟩ := rowp_form h3.rp
    obtain ⟨o2, c2, rfl⟩ := rowp_form h3.ra
    obtain ⟨o3, c3, rfl⟩ := rowp_form h3.re
    exact ⟨o1, c1, o2, c2, o3, c3, rfl, ⟨Lies.of_row h3.rp, Lies.of_row h3.ra, Lies.of_row h3.re⟩, h3.below⟩
  have HP : Hid (∀ o c o2 c2 o3 c3 (W : World), Lies W (.slice o 1 c) [Pt.O] → Lies W (.slice o2 0 c2) [] → Lies W (.slice o3 0 c3) [] → Calls Tryz.prog 6 #[.agg #[.slice o 1 c, .slice o2 0 c2, .slice o3 0 c3, .int .i64 5], .agg #[.int .i64 4294967296, .int .i64 0, .int .i64 (-1), .int .i64 4294967296, .int .i64 0, .int .i64 0, .int .i64 0]] W fun e W' => ∃ o c o2 c2 o3 c3, e = .returned (.tuple #[.agg #[.slice o 1 c, .slice o2 0 c2, .slice o3 0 c3, .int .i64 5], .bool true]) ∧ Hid (Lies W' (.slice o 1 c) [⟨4096, 0, -1⟩] ∧ Lies W' (.slice o2 0 c2) [] ∧ Lies W' (.slice o3 0 c3) []) ∧ Below W.heap.size W W') := by
    intro o c o2 c2 o3 c3 W l1 l2 l3
    have hc := place_any ⟨4294967296, 0, -1⟩ ⟨4294967296, 0, 0, 0⟩ [Pt.O] [] [] 5 _ _ _ W l1 l2 l3 (by decide) (by decide) (by decide)
    rw [ex_ok, ex_at, ex_dirs] at hc
    unfold coreV poseV at hc
    dsimp only at hc
    refine Calls.mono hc ?_
    rintro e W ⟨vp, va, ve, _, h⟩
    obtain ⟨rfl, h3⟩ := h rfl
    obtain ⟨o1, c1, rfl⟩ := rowp_form h3.rp
    obtain ⟨o2, c2, rfl⟩ := rowp_form h3.ra
    obtain ⟨o3, c3, rfl⟩ := rowp_form h3.re
    exact ⟨o1, c1, o2, c2, o3, c3, rfl, ⟨Lies.of_row h3.rp, Lies.of_row h3.ra, Lies.of_row h3.re⟩, h3.below⟩
  have HS : Hid (∀ o c o2 c2 o3 c3 (W : World), Lies W (.slice o 1 c) [⟨4096, 0, -1⟩] → Lies W (.slice o2 0 c2) [] → Lies W (.slice o3 0 c3) [] → Calls Tryz.prog 12 #[.agg #[.slice o 1 c, .slice o2 0 c2, .slice o3 0 c3, .int .i64 5]] W fun e W' => e = .returned (.agg #[.int .i64 4091, .int .i64 (-5), .int .i64 (-6), .int .i64 4101, .int .i64 5, .int .i64 4]) ∧ Below W.heap.size W W') := by
    intro o c o2 c2 o3 c3 W l1 l2 l3
    have hc := span_any [⟨4096, 0, -1⟩] [] [] 5 _ _ _ W l1 l2 l3
    rw [ex_span] at hc
    exact hc
  go_enter Tryz.func5, Tryz.ntmps5
  go_wp2_with (fail)
  refine Calls.mono HC.out ?_
  clear HC
  rintro e V1 ⟨o, c, o2, c2, o3, c3, rfl, HL, hb⟩
  have hB : Hid _ := b_step hb (n_after V1 (.cells #[.slice o 1 c, .slice o2 0 c2, .slice o3 0 c3, .int .i64 5] 24))
  have HL : Hid _ := And.intro (HL.out.1.below (n_after V1 (.cells #[.slice o 1 c, .slice o2 0 c2, .slice o3 0 c3, .int .i64 5] 24))) (And.intro (HL.out.2.1.below (n_after V1 (.cells #[.slice o 1 c, .slice o2 0 c2, .slice o3 0 c3, .int .i64 5] 24))) (HL.out.2.2.below (n_after V1 (.cells #[.slice o 1 c, .slice o2 0 c2, .slice o3 0 c3, .int .i64 5] 24))))
  clear hb
  go_wp2_with (fail)
  refine Calls.mono (HP.out _ _ _ _ _ _ _ HL.out.1 HL.out.2.1 HL.out.2.2) ?_
  clear HP HL
  rintro e V2 ⟨o, c, o2, c2, o3, c3, rfl, HL, hb⟩
  have hB : Hid _ := b_step (b_step hB.out hb) (n_after V2 (.cells #[.slice o 1 c, .slice o2 0 c2, .slice o3 0 c3, .int .i64 5] 24))
  have HL : Hid _ := And.intro (HL.out.1.below (n_after V2 (.cells #[.slice o 1 c, .slice o2 0 c2, .slice o3 0 c3, .int .i64 5] 24))) (And.intro (HL.out.2.1.below (n_after V2 (.cells #[.slice o 1 c, .slice o2 0 c2, .slice o3 0 c3, .int .i64 5] 24))) (HL.out.2.2.below (n_after V2 (.cells #[.slice o 1 c, .slice o2 0 c2, .slice o3 0 c3, .int .i64 5] 24))))
  have C1 : Hid (Cells (V2.alloc (.cells #[.slice o 1 c, .slice o2 0 c2, .slice o3 0 c3, .int .i64 5] 24)) V2.heap.size [.slice o 1 c, .slice o2 0 c2, .slice o3 0 c3, .int .i64 5]) := Cells.new _ _ _
  clear hb
  go_wp2_with (fail)
  refine Calls.mono (HS.out _ _ _ _ _ _ _ HL.out.1 HL.out.2.1 HL.out.2.2) ?_
  clear HS
  rintro e V3 ⟨rfl, hb⟩
  have hB3 : Hid _ := b_step (b_step hB.out hb) (n_after V3 (.cells #[.int .i64 4091, .int .i64 (-5), .int .i64 (-6), .int .i64 4101, .int .i64 5, .int .i64 4] 39))
  have hl2 : V2.heap.size < V3.heap.size := by have := hb.size; simp at this; omega
  have z0 := ((Cells.step C1.out hb) 0 _ rfl).1
  obtain ⟨o', c', e', _, _, hcell⟩ := (HL.out.1.below hb).form
  obtain ⟨g, off, e2, x0, x1, x2⟩ := hcell 0 (by decide)
  simp only [Value.slice.injEq] at e'
  rw [← e'.1] at e2
  subst e2
  have hgl : g < V3.heap.size := World.block_lt_of_cell? _ _ x0
  have x0 : V3.cell? ⟨g, off, none⟩ = some (.int .i64 4096) := x0
  have x1 : V3.cell? ⟨g, off + 1, none⟩ = some (.int .i64 0) := x1
  have x2 : V3.cell? ⟨g, off + 2, none⟩ = some (.int .i64 (-1)) := x2
  clear hcell e' hb C1 HL
  go_wp2_with (fail)
  go_ret
  exact ⟨rfl, hB3.out⟩
end Go.Proofs.YtompnibhfdkkjaaGreat
namespace Go.Proofs.YtompnibhfdkkjaaGreat
open Go.RowKit Go.Shelf
set_option linter.unusedVariables false

theorem place_uni (t : Pt) (q : Q4) (Ps As Es : List Pt) (r : Int) : ∃ (P' A' E' : List Pt) (r' : Int) (ok : Bool), (ok = false → P' = [] ∧ A' = [] ∧ E' = [] ∧ r' = 0) ∧ (ok = true → P' = Ps.map ((rowsM q).ptV t) ∧ A' = (rowsM q).dirs As ∧ E' = (rowsM q).dirs Es ∧ r' = r) ∧ ok = placeOk t q Ps As Es ∧
    A'.length ≤ As.length ∧
    ∀ (pv av ev : Value) (w0 : World), Lies w0 pv Ps → Lies w0 av As → Lies w0 ev Es → Ps.length < 1099511627776 → As.length < 1099511627776 → Es.length < 1099511627776 →
    (Calls Tryz.prog 6 #[coreV pv av ev r, poseV t q] w0 fun e W => ∃ vp va ve, e = .returned (.tuple #[.agg #[vp, va, ve, .int .i64 r'], .bool ok]) ∧ Three w0 W vp va ve P' A' E') ∧
    (Calls Tryz.prog 7 #[coreV pv av ev r, poseV t q] w0 fun e W => ∃ vp va ve, e = .returned (.tuple #[.agg #[vp, va, ve, .int .i64 r'], .bool ok]) ∧ Three w0 W vp va ve P' A' E') := by
  cases h : placeOk t q Ps As Es with
  | false =>
    refine ⟨[], [], [], 0, false, fun _ => ⟨rfl, rfl, rfl, rfl⟩, (fun h => by cases h), rfl, by simp, fun pv av ev w0 h1 h2 h3 n1 n2 n3 => ⟨?_, ?_⟩⟩
    · refine Calls.mono (place_any t q Ps As Es r pv av ev w0 h1 h2 h3 n1 n2 n3) ?_
      rintro e W ⟨vp, va, ve, k1, _⟩
      exact ⟨vp, va, ve, (k1 h).1, (k1 h).2⟩
    · refine Calls.mono (rplace_any t q Ps As Es r pv av ev w0 h1 h2 h3 n1 n2 n3) ?_
      rintro e W ⟨vp, va, ve, k1, _⟩
      exact ⟨vp, va, ve, (k1 h).1, (k1 h).2⟩
  | true =>
    refine ⟨Ps.map ((rowsM q).ptV t), (rowsM q).dirs As, (rowsM q).dirs Es, r, true, (fun h => by cases h), fun _ => ⟨rfl, rfl, rfl, rfl⟩, rfl, ?_, fun pv av ev w0 h1 h2 h3 n1 n2 n3 => ⟨?_, ?_⟩⟩
    · exact Nat.le_trans (List.length_filter_le _ _) (by simp)
    · refine Calls.mono (place_any t q Ps As Es r pv av ev w0 h1 h2 h3 n1 n2 n3) ?_
      rintro e W ⟨vp, va, ve, _, k1⟩
      exact ⟨vp, va, ve, (k1 h).1, (k1 h).2⟩
    · refine Calls.mono (rplace_any t q Ps As Es r pv av ev w0 h1 h2 h3 n1 n2 n3) ?_
      rintro e W ⟨vp, va, ve, _, k1⟩
      exact ⟨vp, va, ve, (k1 h).1, (k1 h).2⟩
theorem grown_none {w W : World} (hg : w.grownBy W none) : Below w.heap.size w W := ⟨hg.os, hg.tape, hg.output, hg.size, fun k hk => hg.block k hk (fun e => by cases e)⟩
/-- A list whose places may be written. -/
def Wrt (X : World) (base b1 b2 : Nat) (v : Value) : Prop := ∃ o n c, v = .slice o n c ∧ n ≤ c ∧ c ≤ 9223372036854775807 ∧ ∀ i, i < n → ∃ g, o = some ⟨g, 0, none⟩ ∧ base ≤ g ∧ g ≠ b1 ∧ g ≠ b2 ∧ (∃ z, X.cell? ⟨g, i * 3, none⟩ = some z) ∧ X.frozen? ⟨g, i * 3, none⟩ = false
theorem Wrt.put {X : World} {base b1 b2 : Nat} {v : Value} (h : Wrt X base b1 b2 v) (g k : Nat) (u : Value) : Wrt (X.setCell ⟨g, k, none⟩ u) base b1 b2 v := by
  obtain ⟨o, n, c, rfl, hn, hc, h9⟩ := h
  refine ⟨o, n, c, rfl, hn, hc, fun i hi => ?_⟩
  obtain ⟨g', e, h1, h2, h3, ⟨z, hz⟩, hf⟩ := h9 i hi
  refine ⟨g', e, h1, h2, h3, ?_, by simp [go_sem, hf]⟩
  by_cases ea : (⟨g', i * 3, none⟩ : Addr) = ⟨g, k, none⟩
  · simp only [Addr.mk.injEq, and_true] at ea
    obtain ⟨e1, e2⟩ := ea
    subst e1
    subst e2
    exact ⟨u, by simp [go_sem, hz]⟩
  · refine ⟨z, ?_⟩
    simp only [Addr.mk.injEq, and_true] at ea
    by_cases e1 : g' = g
    · subst e1
      have e2 : ¬ i * 3 = k := fun e2 => ea ⟨rfl, e2⟩
      simp [go_sem, hz]
    · simp [go_sem, hz]
theorem Wrt.of_row {X : World} {base b1 b2 : Nat} {v : Value} {L : List Pt} (h : X.ownsRow base 31 3 v L.length (fl3 L)) (h1 : v.ownBlock ≠ some b1) (h2 : v.ownBlock ≠ some b2) : Wrt X base b1 b2 v := by
  have hr := h
  rcases h.2 with ⟨rfl, h0⟩ | ⟨g, cap, cur, rfl, hb, hg, k1, k2, k3, k4⟩
  · exact ⟨none, 0, 0, rfl, Nat.le_refl _, by omega, fun i hi => by omega⟩
  · refine ⟨_, _, cap, rfl, k1, by unfold maxLen at k2; omega, fun i hi => ⟨g, rfl, hb, fun e => h1 (by rw [← e]; rfl), fun e => h2 (by rw [← e]; rfl), ⟨_, (hr.cellAt (i * 3) (by omega)).trans (fl3_at L i hi).1⟩, by simp [World.frozen?, hg]⟩⟩
structure LS (Xc X : World) (mb : Nat) (mc : List Value) (ab : Nat) (ac : List Value) (v1 v2 v3 : Value) : Prop where
  be : Below Xc.heap.size Xc X
  cm : Cells X mb mc
  ca : Cells X ab ac
  w1 : Wrt X Xc.heap.size mb ab v1
  w2 : Wrt X Xc.heap.size mb ab v2
  w3 : Wrt X Xc.heap.size mb ab v3
theorem LS.put {Xc X : World} {mb : Nat} {mc : List Value} {ab : Nat} {ac : List Value} {v1 v2 v3 : Value} (h : LS Xc X mb mc ab ac v1 v2 v3) {g : Nat} (hg : Xc.heap.size ≤ g) (h1 : g ≠ mb) (h2 : g ≠ ab) (k : Nat) (u : Value) : LS Xc (X.setCell ⟨g, k, none⟩ u) mb mc ab ac v1 v2 v3 :=
  ⟨h.be.setCell hg _, h.cm.apart (Ne.symm h1) _ _, h.ca.apart (Ne.symm h2) _ _, h.w1.put _ _ _, h.w2.put _ _ _, h.w3.put _ _ _⟩
theorem Wrt.at {X : World} {base b1 b2 : Nat} {o : Option Addr} {n c i : Nat} (h : Wrt X base b1 b2 (.slice o n c)) (hi : i < n) : ∃ g, o = some ⟨g, 0, none⟩ ∧ base ≤ g ∧ g ≠ b1 ∧ g ≠ b2 ∧ (∃ z, X.cell? ⟨g, i * 3, none⟩ = some z) ∧ X.frozen? ⟨g, i * 3, none⟩ = false := by
  obtain ⟨o', n', c', e, _, _, h9⟩ := h
  simp only [Value.slice.injEq] at e
  obtain ⟨rfl, rfl, rfl⟩ := e
  exact h9 i hi
end Go.Proofs.YtompnibhfdkkjaaGreat
