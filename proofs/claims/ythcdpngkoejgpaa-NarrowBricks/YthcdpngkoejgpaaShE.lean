/- Which shapes may be. -/
import Derived.Test.YthcdpngkoejgpaaShC
namespace Go.Proofs.Ythcdpngkoejgpaa
open Go.RowKit Go.Shelf
set_option linter.unusedVariables false

def mayP (L : List Pt) : Bool := decide (4 ≤ L.length ∧ L.length ≤ 12) && (L.all (fun p => p.inB 65536) && decide L.Nodup)
theorem Lies.take {w : World} {o : Option Addr} {n c : Nat} {L : List Pt} (h : Lies w (.slice o L.length c) L) (k : Nat) (hk : k ≤ L.length) : Lies w (.slice o k c) (L.take k) := by
  obtain ⟨o', c', e, h1, h2, h3⟩ := h.form
  simp only [Value.slice.injEq, true_and] at e
  obtain ⟨rfl, rfl⟩ := e
  have hl : (L.take k).length = k := by simp; omega
  refine ⟨o, c, by rw [hl], by omega, h2, fun i hi => ?_⟩
  rw [hl] at hi
  obtain ⟨g, off, e, a, b, c⟩ := h3 i (by omega)
  rw [pt_take hi]
  exact ⟨g, off, e, a, b, c⟩
theorem all_snoc (L : List Pt) (f : Pt → Bool) (k : Nat) (hk : k < L.length) : (L.take (k + 1)).all f = ((L.take k).all f && f (pt L k)) := by
  rw [take_pt hk]; simp
theorem nodup_snoc (L : List Pt) (k : Nat) (hk : k < L.length) (h : (L.take k).Nodup) : (L.take (k + 1)).Nodup ↔ pt L k ∉ L.take k := by
  rw [take_pt hk, List.nodup_append]
  constructor
  · intro hh hm
    exact hh.2.2 _ hm _ (by simp) rfl
  · intro hn
    refine ⟨h, by simp, fun a ha b hb e => hn ?_⟩
    rw [List.mem_singleton] at hb
    rw [← hb, ← e]; exact ha

set_option maxHeartbeats 2000000 in
set_option maxRecDepth 100000 in
theorem pointsMayBe_any (v : Value) (Ls : List Pt) (w0 : World) (hv : Lies w0 v Ls) :
    Calls Try.prog 113 #[v] w0 fun e W => e = .returned (.bool (mayP Ls)) ∧ Below w0.heap.size w0 W := by
  obtain ⟨o, c, rfl, hlc, hcm, hcell⟩ := hv.form
  have HV : Hid _ := hv
  have HC : Hid _ := hcell
  clear hv hcell
  obtain ⟨R, hR⟩ : ∃ R, mayP Ls = R := ⟨_, rfl⟩
  rw [hR]
  have HR : Hid _ := hR
  clear hR
  by_cases h4 : 4 ≤ Ls.length
  · by_cases h12 : Ls.length ≤ 12
    · have HR : Hid (R = (Ls.all (fun p => p.inB 65536) && decide Ls.Nodup)) := by show _ = _; rw [← HR.out]; unfold mayP; simp [h4, h12]
      have h4' : 4 ≤ (Ls.length : Int) := by omega
      have h12' : (Ls.length : Int) ≤ 12 := by omega
      go_enter Try.func113, Try.ntmps113
      go_wp2
      go_loopg [11] Ls.length (fun gm i wr => ∃ k : Nat, i = .int .i64 (k : Int) ∧ k ≤ Ls.length ∧ gm = Ls.length - k ∧ Hid ((Ls.take k).all (fun p => p.inB 65536) = true) ∧ Hid (Ls.take k).Nodup ∧ Hid (Below w0.heap.size w0 wr))
      case atStart => exact ⟨0, rfl, Nat.zero_le _, rfl, rfl, by simp [Hid], Below.refl _ _⟩
      case round =>
        obtain ⟨k, rfl, hk, hgm, HA, HN, HB⟩ := hrel
        have HG : Hid _ := hgm
        clear hgm
        by_cases hlt : k < Ls.length
        · obtain ⟨g, off, rfl, x0, x1, x2⟩ := HC.out k hlt
          have x0 := c_after HB.out x0
          have x1 := c_after HB.out x1
          have x2 := c_after HB.out x2
          have HS1 : Hid _ := all_snoc Ls (fun p => p.inB 65536) k hlt
          have HS2 : Hid _ := nodup_snoc Ls k hlt HN.out
          generalize hp : pt Ls k = p at *
          have HP : Hid _ := hp
          clear hp
          go_upto_region 6 with fail
          obtain ⟨V, hV⟩ : ∃ V : World, V = wr.alloc (.cells #[.int .i64 p.x, .int .i64 p.y, .int .i64 p.z] 26) := ⟨_, rfl⟩
          obtain ⟨bp, hbp⟩ : ∃ bp, bp = wr.heap.size := ⟨_, rfl⟩
          have bx : Box3 (wr.alloc (.cells #[.int .i64 p.x, .int .i64 p.y, .int .i64 p.z] 26)) wr.heap.size p := Box3.new wr p.x p.y p.z _
          have HBV : Hid (Below w0.heap.size w0 V) := by rw [hV]; exact b_step HB.out (n_after _ _)
          rw [← hV, ← hbp] at bx ⊢
          clear hV hbp x0 x1 x2
          obtain ⟨p0, p1, p2, _, _, _⟩ := bx
          have L1 : Hid _ := fun w' => within_any p 65536 w' (by decide) (by decide)
          have L2 : Hid (∀ w', Below V.heap.size V w' → Calls Try.prog 115 #[.slice (some ⟨g, off, none⟩) k c, p.v] w' fun e W => e = .returned (.bool (decide (p ∈ Ls.take k))) ∧ Below w'.heap.size w' W) := fun w' hb => contains_any _ (Ls.take k) p w' ((HV.out.take (n := 0) k hk).below (b_step HBV.out hb))
          unfold Pt.v at L1 L2
          have hkc : (k : Int) ≤ (c : Int) := by omega
          cases hw : p.inB 65536 with
          | false =>
            rw [hw] at L1
            have e : R = false := by
              rw [HR.out]
              have : Ls.all (fun p => p.inB 65536) = false := by
                rw [List.all_eq_false]
                exact ⟨p, by rw [← HP.out]; exact pt_mem hlt, by rw [hw]; decide⟩
              rw [this]; rfl
            subst e
            refine RV.region_by (fun j v w => match j with | 0 => v = .agg #[.int .i64 (p.x), .int .i64 (p.y), .int .i64 (p.z)] | 1 => v = .bool (false) | 2 => v = .bool (true) | 3 => v = .bool (true) | 4 => v = undef | 5 => v = undef | 6 => v = undef | 7 => v = undef | 8 => v = undef | 9 => v = .bool (true) | _ => True) (fun γ L w9 => Below V.heap.size V w9) (by kernel_rfl) (by kernel_rfl) (by kernel_rfl) (by kernel_rfl) ?_ ?_ ?_
            · exact (Below.refl _ V).drew
            · generalize hD : dstOf _ = D
              generalize hWA : waitsFor _ = WA
              generalize hZ : Act.mk _ _ = Z
              obtain ⟨R, hR⟩ : ∃ R : Nat → Value → World → Prop, R = (fun j v w => match j with | 0 => v = .agg #[.int .i64 (p.x), .int .i64 (p.y), .int .i64 (p.z)] | 1 => v = .bool (false) | 2 => v = .bool (true) | 3 => v = .bool (true) | 4 => v = undef | 5 => v = undef | 6 => v = undef | 7 => v = undef | 8 => v = undef | 9 => v = .bool (true) | _ => True) := ⟨_, rfl⟩
              rw [← hR]
              have d0 : D 0 = some 16 := by rw [← hD]; rfl
              have d1 : D 1 = some 17 := by rw [← hD]; rfl
              have d2 : D 2 = some 18 := by rw [← hD]; rfl
              have d3 : D 3 = some 19 := by rw [← hD]; rfl
              have d4 : D 4 = some 20 := by rw [← hD]; rfl
              have d5 : D 5 = some 21 := by rw [← hD]; rfl
              have d6 : D 6 = some 22 := by rw [← hD]; rfl
              have d7 : D 7 = some 23 := by rw [← hD]; rfl
              have d8 : D 8 = some 24 := by rw [← hD]; rfl
              have d9 : D 9 = some 25 := by rw [← hD]; rfl
              have r0 : ∀ v w, R 0 v w = (v = .agg #[.int .i64 (p.x), .int .i64 (p.y), .int .i64 (p.z)]) := fun v w => by rw [hR]; rfl
              have r1 : ∀ v w, R 1 v w = (v = .bool (false)) := fun v w => by rw [hR]; rfl
              have r2 : ∀ v w, R 2 v w = (v = .bool (true)) := fun v w => by rw [hR]; rfl
              have r3 : ∀ v w, R 3 v w = (v = .bool (true)) := fun v w => by rw [hR]; rfl
              have r4 : ∀ v w, R 4 v w = (v = undef) := fun v w => by rw [hR]; rfl
              have r5 : ∀ v w, R 5 v w = (v = undef) := fun v w => by rw [hR]; rfl
              have r6 : ∀ v w, R 6 v w = (v = undef) := fun v w => by rw [hR]; rfl
              have r7 : ∀ v w, R 7 v w = (v = undef) := fun v w => by rw [hR]; rfl
              have r8 : ∀ v w, R 8 v w = (v = undef) := fun v w => by rw [hR]; rfl
              have r9 : ∀ v w, R 9 v w = (v = .bool (true)) := fun v w => by rw [hR]; rfl
              have E0 : ∀ (γ : Nat → Value) (L : Nat → Bool) (a : Act) (w : World), RV.Held D WA R (fun γ L w9 => Below V.heap.size V w9) Z γ L a w → a.tmps[0]? = some (.slice (some ⟨g, off, none⟩) Ls.length c) := fun γ L a w hH => (hH.rest 0 (by rw [← hD]; exact RV.dst_free (by kernel_rfl))).trans (by rw [← hZ]; rfl)
              have E3 : ∀ (γ : Nat → Value) (L : Nat → Bool) (a : Act) (w : World), RV.Held D WA R (fun γ L w9 => Below V.heap.size V w9) Z γ L a w → a.tmps[3]? = some (.int .i64 ((k : Int))) := fun γ L a w hH => (hH.rest 3 (by rw [← hD]; exact RV.dst_free (by kernel_rfl))).trans (by rw [← hZ]; rfl)
              have E4 : ∀ (γ : Nat → Value) (L : Nat → Bool) (a : Act) (w : World), RV.Held D WA R (fun γ L w9 => Below V.heap.size V w9) Z γ L a w → a.tmps[4]? = some (.pointer (some ⟨bp, 0, none⟩)) := fun γ L a w hH => (hH.rest 4 (by rw [← hD]; exact RV.dst_free (by kernel_rfl))).trans (by rw [← hZ]; rfl)
              have K : ∀ j v w w', R j v w → R j v w' := by rw [hR]; intro j v w w' h; exact h
              clear hD hWA hZ hR
              refine RV.AllDo.cons 0 (RV.does_pure (fun γ v L w hl h => h) (fun γ L a w hH hl hA => by have e0 := E4 γ L a w hH; have hB9 := hH.glob; have z0 := c_after hB9 p0; have z1 := c_after hB9 p1; have z2 := c_after hB9 p2; exact ⟨.agg #[.int .i64 (p.x), .int .i64 (p.y), .int .i64 (p.z)], by simp [execOp, go_sem, e0, z0, z1, z2], (r0 _ _).mpr rfl⟩)) ?_
              refine RV.AllDo.cons 1 (RV.does_call (fun γ L a w hH hl hA => by have l0 : L 0 = true := hA ⟨0, .data⟩ (by simp) rfl; have e0 := hH.slot 0 16 d0 l0; have g0 := hH.holds 0 l0; rw [r0] at g0; rw [g0] at e0; have hB9 := hH.glob; exact ⟨116, #[.agg #[.int .i64 (p.x), .int .i64 (p.y), .int .i64 (p.z)], .int .i64 (65536)], by simp [go_sem, e0], Calls.mono (L1.out w) (by rintro e w2 ⟨rfl, hb⟩; exact ⟨_, rfl, (r1 _ _).mpr rfl, fun j v _ h => K j v _ _ h, hB9.trans (hb.mono hB9.size)⟩)⟩)) ?_
              refine RV.AllDo.cons 2 (RV.does_pure (fun γ v L w hl h => h) (fun γ L a w hH hl hA => by have l0 : L 1 = true := hA ⟨1, .data⟩ (by simp) rfl; have e0 := hH.slot 1 17 d1 l0; have g0 := hH.holds 1 l0; rw [r1] at g0; rw [g0] at e0; exact ⟨.bool (true), by simp [execOp, go_sem, e0], (r2 _ _).mpr rfl⟩)) ?_
              refine RV.AllDo.cons 3 (RV.does_pure (fun γ v L w hl h => h) (fun γ L a w hH hl hA => by have l0 : L 2 = true := hA ⟨2, .data⟩ (by simp) rfl; have e0 := hH.slot 2 18 d2 l0; have g0 := hH.holds 2 l0; rw [r2] at g0; rw [g0] at e0; exact ⟨.bool (true), by simp [execOp, go_sem, e0], (r3 _ _).mpr rfl⟩)) ?_
              refine RV.AllDo.cons 4 (RV.does_skip rfl d3 (fun v w h => by rw [r3] at h; exact h) (by simp) (fun w => (r4 _ _).mpr rfl) (fun γ v L w hl h => h)) ?_
              refine RV.AllDo.cons 5 (RV.does_skip rfl d3 (fun v w h => by rw [r3] at h; exact h) (by simp) (fun w => (r5 _ _).mpr rfl) (fun γ v L w hl h => h)) ?_
              refine RV.AllDo.cons 6 (RV.does_skip rfl d3 (fun v w h => by rw [r3] at h; exact h) (by simp) (fun w => (r6 _ _).mpr rfl) (fun γ v L w hl h => h)) ?_
              refine RV.AllDo.cons 7 (RV.does_skip rfl d3 (fun v w h => by rw [r3] at h; exact h) (by simp) (fun w => (r7 _ _).mpr rfl) (fun γ v L w hl h => h)) ?_
              refine RV.AllDo.cons 8 (RV.does_skip rfl d3 (fun v w h => by rw [r3] at h; exact h) (by simp) (fun w => (r8 _ _).mpr rfl) (fun γ v L w hl h => h)) ?_
              refine RV.AllDo.cons 9 (RV.does_pure (fun γ v L w hl h => h) (fun γ L a w hH hl hA => by have l0 : L 3 = true := hA ⟨3, .data⟩ (by simp) rfl; have e0 := hH.slot 3 19 d3 l0; have g0 := hH.holds 3 l0; rw [r3] at g0; rw [g0] at e0; have l1 : L 8 = true := hA ⟨8, .data⟩ (by simp) rfl; have e1 := hH.slot 8 24 d8 l1; have g1 := hH.holds 8 l1; rw [r8] at g1; rw [g1] at e1; exact ⟨.bool (true), by simp [execOp, go_sem, e0, e1], (r9 _ _).mpr rfl⟩)) ?_
              exact RV.AllDo.nil
            · intro γ a5 w5 L9 hL hLo hH
              have ha := RV.held_act hH hL (by kernel_rfl) (by kernel_rfl)
              have hb8 := hH.glob
              have y0 : γ 0 = .agg #[.int .i64 (p.x), .int .i64 (p.y), .int .i64 (p.z)] := hH.holds 0 (hL 0 (by decide))
              have y1 : γ 1 = .bool (false) := hH.holds 1 (hL 1 (by decide))
              have y2 : γ 2 = .bool (true) := hH.holds 2 (hL 2 (by decide))
              have y3 : γ 3 = .bool (true) := hH.holds 3 (hL 3 (by decide))
              have y4 : γ 4 = undef := hH.holds 4 (hL 4 (by decide))
              have y5 : γ 5 = undef := hH.holds 5 (hL 5 (by decide))
              have y6 : γ 6 = undef := hH.holds 6 (hL 6 (by decide))
              have y7 : γ 7 = undef := hH.holds 7 (hL 7 (by decide))
              have y8 : γ 8 = undef := hH.holds 8 (hL 8 (by decide))
              have y9 : γ 9 = .bool (true) := hH.holds 9 (hL 9 (by decide))
              rw [ha]
              clear ha hH hL hLo
              simp only [RV.putAll, Act.put, List.setIfInBounds_toArray, List.set_cons_zero, List.set_cons_succ, Nat.zero_add, Nat.reduceAdd, y0, y1, y2, y3, y4, y5, y6, y7, y8, y9]
              clear y0 y1 y2 y3 y4 y5 y6 y7 y8 y9
              have HB5 : Hid _ := HBV.out.trans (hb8.mono HBV.out.size)
              clear hb8 L1 L2 p0 p1 p2
              go_wp2_with (fail)
              go_ret
              exact ⟨rfl, HB5.out⟩
          | true =>
            rw [hw] at L1
            by_cases hm : p ∈ Ls.take k
            · have hd : decide (p ∈ Ls.take k) = true := decide_eq_true hm
              rw [hd] at L2
              have e : R = false := by
                rw [HR.out]
                have : decide Ls.Nodup = false := by
                  refine decide_eq_false fun hn => ?_
                  have := HS2.out.1 (hn.sublist (List.take_sublist _ _))
                  exact this hm
                rw [this]; simp
              subst e
              clear hd hm
              refine RV.region_by (fun j v w => match j with | 0 => v = .agg #[.int .i64 (p.x), .int .i64 (p.y), .int .i64 (p.z)] | 1 => v = .bool (true) | 2 => v = .bool (false) | 3 => v = .bool (false) | 4 => v = .slice (some ⟨g, off, none⟩) Ls.length c | 5 => v = .int .i64 ((k : Int)) | 6 => v = .slice (some ⟨g, off, none⟩) k c | 7 => v = .agg #[.int .i64 (p.x), .int .i64 (p.y), .int .i64 (p.z)] | 8 => v = .bool (true) | 9 => v = .bool (true) | _ => True) (fun γ L w9 => Below V.heap.size V w9) (by kernel_rfl) (by kernel_rfl) (by kernel_rfl) (by kernel_rfl) ?_ ?_ ?_
              · exact (Below.refl _ V).drew
              · generalize hD : dstOf _ = D
                generalize hWA : waitsFor _ = WA
                generalize hZ : Act.mk _ _ = Z
                obtain ⟨R, hR⟩ : ∃ R : Nat → Value → World → Prop, R = (fun j v w => match j with | 0 => v = .agg #[.int .i64 (p.x), .int .i64 (p.y), .int .i64 (p.z)] | 1 => v = .bool (true) | 2 => v = .bool (false) | 3 => v = .bool (false) | 4 => v = .slice (some ⟨g, off, none⟩) Ls.length c | 5 => v = .int .i64 ((k : Int)) | 6 => v = .slice (some ⟨g, off, none⟩) k c | 7 => v = .agg #[.int .i64 (p.x), .int .i64 (p.y), .int .i64 (p.z)] | 8 => v = .bool (true) | 9 => v = .bool (true) | _ => True) := ⟨_, rfl⟩
                rw [← hR]
                have d0 : D 0 = some 16 := by rw [← hD]; rfl
                have d1 : D 1 = some 17 := by rw [← hD]; rfl
                have d2 : D 2 = some 18 := by rw [← hD]; rfl
                have d3 : D 3 = some 19 := by rw [← hD]; rfl
                have d4 : D 4 = some 20 := by rw [← hD]; rfl
                have d5 : D 5 = some 21 := by rw [← hD]; rfl
                have d6 : D 6 = some 22 := by rw [← hD]; rfl
                have d7 : D 7 = some 23 := by rw [← hD]; rfl
                have d8 : D 8 = some 24 := by rw [← hD]; rfl
                have d9 : D 9 = some 25 := by rw [← hD]; rfl
                have r0 : ∀ v w, R 0 v w = (v = .agg #[.int .i64 (p.x), .int .i64 (p.y), .int .i64 (p.z)]) := fun v w => by rw [hR]; rfl
                have r1 : ∀ v w, R 1 v w = (v = .bool (true)) := fun v w => by rw [hR]; rfl
                have r2 : ∀ v w, R 2 v w = (v = .bool (false)) := fun v w => by rw [hR]; rfl
                have r3 : ∀ v w, R 3 v w = (v = .bool (false)) := fun v w => by rw [hR]; rfl
                have r4 : ∀ v w, R 4 v w = (v = .slice (some ⟨g, off, none⟩) Ls.length c) := fun v w => by rw [hR]; rfl
                have r5 : ∀ v w, R 5 v w = (v = .int .i64 ((k : Int))) := fun v w => by rw [hR]; rfl
                have r6 : ∀ v w, R 6 v w = (v = .slice (some ⟨g, off, none⟩) k c) := fun v w => by rw [hR]; rfl
                have r7 : ∀ v w, R 7 v w = (v = .agg #[.int .i64 (p.x), .int .i64 (p.y), .int .i64 (p.z)]) := fun v w => by rw [hR]; rfl
                have r8 : ∀ v w, R 8 v w = (v = .bool (true)) := fun v w => by rw [hR]; rfl
                have r9 : ∀ v w, R 9 v w = (v = .bool (true)) := fun v w => by rw [hR]; rfl
                have E0 : ∀ (γ : Nat → Value) (L : Nat → Bool) (a : Act) (w : World), RV.Held D WA R (fun γ L w9 => Below V.heap.size V w9) Z γ L a w → a.tmps[0]? = some (.slice (some ⟨g, off, none⟩) Ls.length c) := fun γ L a w hH => (hH.rest 0 (by rw [← hD]; exact RV.dst_free (by kernel_rfl))).trans (by rw [← hZ]; rfl)
                have E3 : ∀ (γ : Nat → Value) (L : Nat → Bool) (a : Act) (w : World), RV.Held D WA R (fun γ L w9 => Below V.heap.size V w9) Z γ L a w → a.tmps[3]? = some (.int .i64 ((k : Int))) := fun γ L a w hH => (hH.rest 3 (by rw [← hD]; exact RV.dst_free (by kernel_rfl))).trans (by rw [← hZ]; rfl)
                have E4 : ∀ (γ : Nat → Value) (L : Nat → Bool) (a : Act) (w : World), RV.Held D WA R (fun γ L w9 => Below V.heap.size V w9) Z γ L a w → a.tmps[4]? = some (.pointer (some ⟨bp, 0, none⟩)) := fun γ L a w hH => (hH.rest 4 (by rw [← hD]; exact RV.dst_free (by kernel_rfl))).trans (by rw [← hZ]; rfl)
                have K : ∀ j v w w', R j v w → R j v w' := by rw [hR]; intro j v w w' h; exact h
                clear hD hWA hZ hR
                refine RV.AllDo.cons 0 (RV.does_pure (fun γ v L w hl h => h) (fun γ L a w hH hl hA => by have e0 := E4 γ L a w hH; have hB9 := hH.glob; have z0 := c_after hB9 p0; have z1 := c_after hB9 p1; have z2 := c_after hB9 p2; exact ⟨.agg #[.int .i64 (p.x), .int .i64 (p.y), .int .i64 (p.z)], by simp [execOp, go_sem, e0, z0, z1, z2], (r0 _ _).mpr rfl⟩)) ?_
                refine RV.AllDo.cons 1 (RV.does_call (fun γ L a w hH hl hA => by have l0 : L 0 = true := hA ⟨0, .data⟩ (by simp) rfl; have e0 := hH.slot 0 16 d0 l0; have g0 := hH.holds 0 l0; rw [r0] at g0; rw [g0] at e0; have hB9 := hH.glob; exact ⟨116, #[.agg #[.int .i64 (p.x), .int .i64 (p.y), .int .i64 (p.z)], .int .i64 (65536)], by simp [go_sem, e0], Calls.mono (L1.out w) (by rintro e w2 ⟨rfl, hb⟩; exact ⟨_, rfl, (r1 _ _).mpr rfl, fun j v _ h => K j v _ _ h, hB9.trans (hb.mono hB9.size)⟩)⟩)) ?_
                refine RV.AllDo.cons 2 (RV.does_pure (fun γ v L w hl h => h) (fun γ L a w hH hl hA => by have l0 : L 1 = true := hA ⟨1, .data⟩ (by simp) rfl; have e0 := hH.slot 1 17 d1 l0; have g0 := hH.holds 1 l0; rw [r1] at g0; rw [g0] at e0; exact ⟨.bool (false), by simp [execOp, go_sem, e0], (r2 _ _).mpr rfl⟩)) ?_
                refine RV.AllDo.cons 3 (RV.does_pure (fun γ v L w hl h => h) (fun γ L a w hH hl hA => by have l0 : L 2 = true := hA ⟨2, .data⟩ (by simp) rfl; have e0 := hH.slot 2 18 d2 l0; have g0 := hH.holds 2 l0; rw [r2] at g0; rw [g0] at e0; exact ⟨.bool (false), by simp [execOp, go_sem, e0], (r3 _ _).mpr rfl⟩)) ?_
                refine RV.AllDo.cons 4 (RV.does_guarded rfl d3 (fun v w h => by rw [r3] at h; exact h) (by simp) (RV.does_pure (fun γ v L w hl h => h) (fun γ L a w hH hl hA => by have e0 := E0 γ L a w hH; exact ⟨.slice (some ⟨g, off, none⟩) Ls.length c, by simp [execOp, go_sem, e0], (r4 _ _).mpr rfl⟩))) ?_
                refine RV.AllDo.cons 5 (RV.does_guarded rfl d3 (fun v w h => by rw [r3] at h; exact h) (by simp) (RV.does_pure (fun γ v L w hl h => h) (fun γ L a w hH hl hA => by have e0 := E3 γ L a w hH; exact ⟨.int .i64 ((k : Int)), by simp [execOp, go_sem, e0], (r5 _ _).mpr rfl⟩))) ?_
                refine RV.AllDo.cons 6 (RV.does_guarded rfl d3 (fun v w h => by rw [r3] at h; exact h) (by simp) (RV.does_pure (fun γ v L w hl h => h) (fun γ L a w hH hl hA => by have l0 : L 4 = true := hA ⟨4, .data⟩ (by simp) rfl; have e0 := hH.slot 4 20 d4 l0; have g0 := hH.holds 4 l0; rw [r4] at g0; rw [g0] at e0; have l1 : L 5 = true := hA ⟨5, .data⟩ (by simp) rfl; have e1 := hH.slot 5 21 d5 l1; have g1 := hH.holds 5 l1; rw [r5] at g1; rw [g1] at e1; exact ⟨.slice (some ⟨g, off, none⟩) k c, by simp [execOp, go_sem, e0, e1, hkc], (r6 _ _).mpr rfl⟩))) ?_
                refine RV.AllDo.cons 7 (RV.does_guarded rfl d3 (fun v w h => by rw [r3] at h; exact h) (by simp) (RV.does_pure (fun γ v L w hl h => h) (fun γ L a w hH hl hA => by have e0 := E4 γ L a w hH; have hB9 := hH.glob; have z0 := c_after hB9 p0; have z1 := c_after hB9 p1; have z2 := c_after hB9 p2; exact ⟨.agg #[.int .i64 (p.x), .int .i64 (p.y), .int .i64 (p.z)], by simp [execOp, go_sem, e0, z0, z1, z2], (r7 _ _).mpr rfl⟩))) ?_
                refine RV.AllDo.cons 8 (RV.does_guarded rfl d3 (fun v w h => by rw [r3] at h; exact h) (by simp) (RV.does_call (fun γ L a w hH hl hA => by have l0 : L 6 = true := hA ⟨6, .data⟩ (by simp) rfl; have e0 := hH.slot 6 22 d6 l0; have g0 := hH.holds 6 l0; rw [r6] at g0; rw [g0] at e0; have l1 : L 7 = true := hA ⟨7, .data⟩ (by simp) rfl; have e1 := hH.slot 7 23 d7 l1; have g1 := hH.holds 7 l1; rw [r7] at g1; rw [g1] at e1; have hB9 := hH.glob; exact ⟨115, #[.slice (some ⟨g, off, none⟩) k c, .agg #[.int .i64 (p.x), .int .i64 (p.y), .int .i64 (p.z)]], by simp [go_sem, e0, e1], Calls.mono (L2.out w hB9) (by rintro e w2 ⟨rfl, hb⟩; exact ⟨_, rfl, (r8 _ _).mpr rfl, fun j v _ h => K j v _ _ h, hB9.trans (hb.mono hB9.size)⟩)⟩))) ?_
                refine RV.AllDo.cons 9 (RV.does_pure (fun γ v L w hl h => h) (fun γ L a w hH hl hA => by have l0 : L 3 = true := hA ⟨3, .data⟩ (by simp) rfl; have e0 := hH.slot 3 19 d3 l0; have g0 := hH.holds 3 l0; rw [r3] at g0; rw [g0] at e0; have l1 : L 8 = true := hA ⟨8, .data⟩ (by simp) rfl; have e1 := hH.slot 8 24 d8 l1; have g1 := hH.holds 8 l1; rw [r8] at g1; rw [g1] at e1; exact ⟨.bool (true), by simp [execOp, go_sem, e0, e1], (r9 _ _).mpr rfl⟩)) ?_
                exact RV.AllDo.nil
              · intro γ a5 w5 L9 hL hLo hH
                have ha := RV.held_act hH hL (by kernel_rfl) (by kernel_rfl)
                have hb8 := hH.glob
                have y0 : γ 0 = .agg #[.int .i64 (p.x), .int .i64 (p.y), .int .i64 (p.z)] := hH.holds 0 (hL 0 (by decide))
                have y1 : γ 1 = .bool (true) := hH.holds 1 (hL 1 (by decide))
                have y2 : γ 2 = .bool (false) := hH.holds 2 (hL 2 (by decide))
                have y3 : γ 3 = .bool (false) := hH.holds 3 (hL 3 (by decide))
                have y4 : γ 4 = .slice (some ⟨g, off, none⟩) Ls.length c := hH.holds 4 (hL 4 (by decide))
                have y5 : γ 5 = .int .i64 ((k : Int)) := hH.holds 5 (hL 5 (by decide))
                have y6 : γ 6 = .slice (some ⟨g, off, none⟩) k c := hH.holds 6 (hL 6 (by decide))
                have y7 : γ 7 = .agg #[.int .i64 (p.x), .int .i64 (p.y), .int .i64 (p.z)] := hH.holds 7 (hL 7 (by decide))
                have y8 : γ 8 = .bool (true) := hH.holds 8 (hL 8 (by decide))
                have y9 : γ 9 = .bool (true) := hH.holds 9 (hL 9 (by decide))
                rw [ha]
                clear ha hH hL hLo
                simp only [RV.putAll, Act.put, List.setIfInBounds_toArray, List.set_cons_zero, List.set_cons_succ, Nat.zero_add, Nat.reduceAdd, y0, y1, y2, y3, y4, y5, y6, y7, y8, y9]
                clear y0 y1 y2 y3 y4 y5 y6 y7 y8 y9
                have HB5 : Hid _ := HBV.out.trans (hb8.mono HBV.out.size)
                clear hb8 L1 L2 p0 p1 p2
                go_wp2_with (fail)
                go_ret
                exact ⟨rfl, HB5.out⟩
            · have hd : decide (p ∈ Ls.take k) = false := decide_eq_false hm
              rw [hd] at L2
              have HS1 : Hid ((Ls.take (k + 1)).all (fun p => p.inB 65536) = true) := by show _ = _; rw [HS1.out, HA.out, hw]; rfl
              have HS2 : Hid (Ls.take (k + 1)).Nodup := HS2.out.2 hm
              clear hd hm
              refine RV.region_by (fun j v w => match j with | 0 => v = .agg #[.int .i64 (p.x), .int .i64 (p.y), .int .i64 (p.z)] | 1 => v = .bool (true) | 2 => v = .bool (false) | 3 => v = .bool (false) | 4 => v = .slice (some ⟨g, off, none⟩) Ls.length c | 5 => v = .int .i64 ((k : Int)) | 6 => v = .slice (some ⟨g, off, none⟩) k c | 7 => v = .agg #[.int .i64 (p.x), .int .i64 (p.y), .int .i64 (p.z)] | 8 => v = .bool (false) | 9 => v = .bool (false) | _ => True) (fun γ L w9 => Below V.heap.size V w9) (by kernel_rfl) (by kernel_rfl) (by kernel_rfl) (by kernel_rfl) ?_ ?_ ?_
              · exact (Below.refl _ V).drew
              · generalize hD : dstOf _ = D
                generalize hWA : waitsFor _ = WA
                generalize hZ : Act.mk _ _ = Z
                obtain ⟨R, hR⟩ : ∃ R : Nat → Value → World → Prop, R = (fun j v w => match j with | 0 => v = .agg #[.int .i64 (p.x), .int .i64 (p.y), .int .i64 (p.z)] | 1 => v = .bool (true) | 2 => v = .bool (false) | 3 => v = .bool (false) | 4 => v = .slice (some ⟨g, off, none⟩) Ls.length c | 5 => v = .int .i64 ((k : Int)) | 6 => v = .slice (some ⟨g, off, none⟩) k c | 7 => v = .agg #[.int .i64 (p.x), .int .i64 (p.y), .int .i64 (p.z)] | 8 => v = .bool (false) | 9 => v = .bool (false) | _ => True) := ⟨_, rfl⟩
                rw [← hR]
                have d0 : D 0 = some 16 := by rw [← hD]; rfl
                have d1 : D 1 = some 17 := by rw [← hD]; rfl
                have d2 : D 2 = some 18 := by rw [← hD]; rfl
                have d3 : D 3 = some 19 := by rw [← hD]; rfl
                have d4 : D 4 = some 20 := by rw [← hD]; rfl
                have d5 : D 5 = some 21 := by rw [← hD]; rfl
                have d6 : D 6 = some 22 := by rw [← hD]; rfl
                have d7 : D 7 = some 23 := by rw [← hD]; rfl
                have d8 : D 8 = some 24 := by rw [← hD]; rfl
                have d9 : D 9 = some 25 := by rw [← hD]; rfl
                have r0 : ∀ v w, R 0 v w = (v = .agg #[.int .i64 (p.x), .int .i64 (p.y), .int .i64 (p.z)]) := fun v w => by rw [hR]; rfl
                have r1 : ∀ v w, R 1 v w = (v = .bool (true)) := fun v w => by rw [hR]; rfl
                have r2 : ∀ v w, R 2 v w = (v = .bool (false)) := fun v w => by rw [hR]; rfl
                have r3 : ∀ v w, R 3 v w = (v = .bool (false)) := fun v w => by rw [hR]; rfl
                have r4 : ∀ v w, R 4 v w = (v = .slice (some ⟨g, off, none⟩) Ls.length c) := fun v w => by rw [hR]; rfl
                have r5 : ∀ v w, R 5 v w = (v = .int .i64 ((k : Int))) := fun v w => by rw [hR]; rfl
                have r6 : ∀ v w, R 6 v w = (v = .slice (some ⟨g, off, none⟩) k c) := fun v w => by rw [hR]; rfl
                have r7 : ∀ v w, R 7 v w = (v = .agg #[.int .i64 (p.x), .int .i64 (p.y), .int .i64 (p.z)]) := fun v w => by rw [hR]; rfl
                have r8 : ∀ v w, R 8 v w = (v = .bool (false)) := fun v w => by rw [hR]; rfl
                have r9 : ∀ v w, R 9 v w = (v = .bool (false)) := fun v w => by rw [hR]; rfl
                have E0 : ∀ (γ : Nat → Value) (L : Nat → Bool) (a : Act) (w : World), RV.Held D WA R (fun γ L w9 => Below V.heap.size V w9) Z γ L a w → a.tmps[0]? = some (.slice (some ⟨g, off, none⟩) Ls.length c) := fun γ L a w hH => (hH.rest 0 (by rw [← hD]; exact RV.dst_free (by kernel_rfl))).trans (by rw [← hZ]; rfl)
                have E3 : ∀ (γ : Nat → Value) (L : Nat → Bool) (a : Act) (w : World), RV.Held D WA R (fun γ L w9 => Below V.heap.size V w9) Z γ L a w → a.tmps[3]? = some (.int .i64 ((k : Int))) := fun γ L a w hH => (hH.rest 3 (by rw [← hD]; exact RV.dst_free (by kernel_rfl))).trans (by rw [← hZ]; rfl)
                have E4 : ∀ (γ : Nat → Value) (L : Nat → Bool) (a : Act) (w : World), RV.Held D WA R (fun γ L w9 => Below V.heap.size V w9) Z γ L a w → a.tmps[4]? = some (.pointer (some ⟨bp, 0, none⟩)) := fun γ L a w hH => (hH.rest 4 (by rw [← hD]; exact RV.dst_free (by kernel_rfl))).trans (by rw [← hZ]; rfl)
                have K : ∀ j v w w', R j v w → R j v w' := by rw [hR]; intro j v w w' h; exact h
                clear hD hWA hZ hR
                refine RV.AllDo.cons 0 (RV.does_pure (fun γ v L w hl h => h) (fun γ L a w hH hl hA => by have e0 := E4 γ L a w hH; have hB9 := hH.glob; have z0 := c_after hB9 p0; have z1 := c_after hB9 p1; have z2 := c_after hB9 p2; exact ⟨.agg #[.int .i64 (p.x), .int .i64 (p.y), .int .i64 (p.z)], by simp [execOp, go_sem, e0, z0, z1, z2], (r0 _ _).mpr rfl⟩)) ?_
                refine RV.AllDo.cons 1 (RV.does_call (fun γ L a w hH hl hA => by have l0 : L 0 = true := hA ⟨0, .data⟩ (by simp) rfl; have e0 := hH.slot 0 16 d0 l0; have g0 := hH.holds 0 l0; rw [r0] at g0; rw [g0] at e0; have hB9 := hH.glob; exact ⟨116, #[.agg #[.int .i64 (p.x), .int .i64 (p.y), .int .i64 (p.z)], .int .i64 (65536)], by simp [go_sem, e0], Calls.mono (L1.out w) (by rintro e w2 ⟨rfl, hb⟩; exact ⟨_, rfl, (r1 _ _).mpr rfl, fun j v _ h => K j v _ _ h, hB9.trans (hb.mono hB9.size)⟩)⟩)) ?_
                refine RV.AllDo.cons 2 (RV.does_pure (fun γ v L w hl h => h) (fun γ L a w hH hl hA => by have l0 : L 1 = true := hA ⟨1, .data⟩ (by simp) rfl; have e0 := hH.slot 1 17 d1 l0; have g0 := hH.holds 1 l0; rw [r1] at g0; rw [g0] at e0; exact ⟨.bool (false), by simp [execOp, go_sem, e0], (r2 _ _).mpr rfl⟩)) ?_
                refine RV.AllDo.cons 3 (RV.does_pure (fun γ v L w hl h => h) (fun γ L a w hH hl hA => by have l0 : L 2 = true := hA ⟨2, .data⟩ (by simp) rfl; have e0 := hH.slot 2 18 d2 l0; have g0 := hH.holds 2 l0; rw [r2] at g0; rw [g0] at e0; exact ⟨.bool (false), by simp [execOp, go_sem, e0], (r3 _ _).mpr rfl⟩)) ?_
                refine RV.AllDo.cons 4 (RV.does_guarded rfl d3 (fun v w h => by rw [r3] at h; exact h) (by simp) (RV.does_pure (fun γ v L w hl h => h) (fun γ L a w hH hl hA => by have e0 := E0 γ L a w hH; exact ⟨.slice (some ⟨g, off, none⟩) Ls.length c, by simp [execOp, go_sem, e0], (r4 _ _).mpr rfl⟩))) ?_
                refine RV.AllDo.cons 5 (RV.does_guarded rfl d3 (fun v w h => by rw [r3] at h; exact h) (by simp) (RV.does_pure (fun γ v L w hl h => h) (fun γ L a w hH hl hA => by have e0 := E3 γ L a w hH; exact ⟨.int .i64 ((k : Int)), by simp [execOp, go_sem, e0], (r5 _ _).mpr rfl⟩))) ?_
                refine RV.AllDo.cons 6 (RV.does_guarded rfl d3 (fun v w h => by rw [r3] at h; exact h) (by simp) (RV.does_pure (fun γ v L w hl h => h) (fun γ L a w hH hl hA => by have l0 : L 4 = true := hA ⟨4, .data⟩ (by simp) rfl; have e0 := hH.slot 4 20 d4 l0; have g0 := hH.holds 4 l0; rw [r4] at g0; rw [g0] at e0; have l1 : L 5 = true := hA ⟨5, .data⟩ (by simp) rfl; have e1 := hH.slot 5 21 d5 l1; have g1 := hH.holds 5 l1; rw [r5] at g1; rw [g1] at e1; exact ⟨.slice (some ⟨g, off, none⟩) k c, by simp [execOp, go_sem, e0, e1, hkc], (r6 _ _).mpr rfl⟩))) ?_
                refine RV.AllDo.cons 7 (RV.does_guarded rfl d3 (fun v w h => by rw [r3] at h; exact h) (by simp) (RV.does_pure (fun γ v L w hl h => h) (fun γ L a w hH hl hA => by have e0 := E4 γ L a w hH; have hB9 := hH.glob; have z0 := c_after hB9 p0; have z1 := c_after hB9 p1; have z2 := c_after hB9 p2; exact ⟨.agg #[.int .i64 (p.x), .int .i64 (p.y), .int .i64 (p.z)], by simp [execOp, go_sem, e0, z0, z1, z2], (r7 _ _).mpr rfl⟩))) ?_
                refine RV.AllDo.cons 8 (RV.does_guarded rfl d3 (fun v w h => by rw [r3] at h; exact h) (by simp) (RV.does_call (fun γ L a w hH hl hA => by have l0 : L 6 = true := hA ⟨6, .data⟩ (by simp) rfl; have e0 := hH.slot 6 22 d6 l0; have g0 := hH.holds 6 l0; rw [r6] at g0; rw [g0] at e0; have l1 : L 7 = true := hA ⟨7, .data⟩ (by simp) rfl; have e1 := hH.slot 7 23 d7 l1; have g1 := hH.holds 7 l1; rw [r7] at g1; rw [g1] at e1; have hB9 := hH.glob; exact ⟨115, #[.slice (some ⟨g, off, none⟩) k c, .agg #[.int .i64 (p.x), .int .i64 (p.y), .int .i64 (p.z)]], by simp [go_sem, e0, e1], Calls.mono (L2.out w hB9) (by rintro e w2 ⟨rfl, hb⟩; exact ⟨_, rfl, (r8 _ _).mpr rfl, fun j v _ h => K j v _ _ h, hB9.trans (hb.mono hB9.size)⟩)⟩))) ?_
                refine RV.AllDo.cons 9 (RV.does_pure (fun γ v L w hl h => h) (fun γ L a w hH hl hA => by have l0 : L 3 = true := hA ⟨3, .data⟩ (by simp) rfl; have e0 := hH.slot 3 19 d3 l0; have g0 := hH.holds 3 l0; rw [r3] at g0; rw [g0] at e0; have l1 : L 8 = true := hA ⟨8, .data⟩ (by simp) rfl; have e1 := hH.slot 8 24 d8 l1; have g1 := hH.holds 8 l1; rw [r8] at g1; rw [g1] at e1; exact ⟨.bool (false), by simp [execOp, go_sem, e0, e1], (r9 _ _).mpr rfl⟩)) ?_
                exact RV.AllDo.nil
              · intro γ a5 w5 L9 hL hLo hH
                have ha := RV.held_act hH hL (by kernel_rfl) (by kernel_rfl)
                have hb8 := hH.glob
                have y0 : γ 0 = .agg #[.int .i64 (p.x), .int .i64 (p.y), .int .i64 (p.z)] := hH.holds 0 (hL 0 (by decide))
                have y1 : γ 1 = .bool (true) := hH.holds 1 (hL 1 (by decide))
                have y2 : γ 2 = .bool (false) := hH.holds 2 (hL 2 (by decide))
                have y3 : γ 3 = .bool (false) := hH.holds 3 (hL 3 (by decide))
                have y4 : γ 4 = .slice (some ⟨g, off, none⟩) Ls.length c := hH.holds 4 (hL 4 (by decide))
                have y5 : γ 5 = .int .i64 ((k : Int)) := hH.holds 5 (hL 5 (by decide))
                have y6 : γ 6 = .slice (some ⟨g, off, none⟩) k c := hH.holds 6 (hL 6 (by decide))
                have y7 : γ 7 = .agg #[.int .i64 (p.x), .int .i64 (p.y), .int .i64 (p.z)] := hH.holds 7 (hL 7 (by decide))
                have y8 : γ 8 = .bool (false) := hH.holds 8 (hL 8 (by decide))
                have y9 : γ 9 = .bool (false) := hH.holds 9 (hL 9 (by decide))
                rw [ha]
                clear ha hH hL hLo
                simp only [RV.putAll, Act.put, List.setIfInBounds_toArray, List.set_cons_zero, List.set_cons_succ, Nat.zero_add, Nat.reduceAdd, y0, y1, y2, y3, y4, y5, y6, y7, y8, y9]
                clear y0 y1 y2 y3 y4 y5 y6 y7 y8 y9
                have HB5 : Hid _ := HBV.out.trans (hb8.mono HBV.out.size)
                clear hb8 L1 L2 p0 p1 p2
                go_wp2_with (fail)
                go_roundg (Ls.length - (k + 1))
                case measure => have := HG.out; omega
                case rel => exact ⟨k + 1, by go_num, by omega, rfl, HS1, HS2, HB5⟩
        · have e : R = true := by
            rw [HR.out]
            have e1 := HA.out
            have e2 := HN.out
            rw [List.take_of_length_le (by omega : Ls.length ≤ k)] at e1 e2
            rw [e1, decide_eq_true e2]; rfl
          subst e
          go_wp2_with (fail)
          go_ret
          exact ⟨rfl, HB.out⟩
    · have e : R = false := by rw [← HR.out]; unfold mayP; simp [h12]
      subst e
      have h12' : ¬ (Ls.length : Int) ≤ 12 := by omega
      clear HR
      go_enter Try.func113, Try.ntmps113
      go_wp2
      go_ret
      exact ⟨rfl, Below.refl _ _⟩
  · have e : R = false := by rw [← HR.out]; unfold mayP; simp [h4]
    subst e
    have h4' : ¬ 4 ≤ (Ls.length : Int) := by omega
    clear HR
    go_enter Try.func113, Try.ntmps113
    go_wp2
    go_ret
    exact ⟨rfl, Below.refl _ _⟩
def halfOk (n : Int) : Bool := decide (1 ≤ n ∧ n ≤ 65536)
set_option maxHeartbeats 1000000 in
theorem halves_any (l : List Int) (g : Nat) (w : World) (hc : ∀ i, i < l.length → w.cell? ⟨g, i, none⟩ = some (.int .i64 (l.getD i 0))) (hl : l.length ≤ 100) :
    Calls Try.prog 112 #[.slice (some ⟨g, 0, none⟩) l.length l.length] w fun e W => e = .returned (.bool (l.all halfOk)) ∧ W = w := by
  have HC : Hid _ := hc
  clear hc
  obtain ⟨R, hR⟩ : ∃ R, l.all halfOk = R := ⟨_, rfl⟩
  rw [hR]
  have HR : Hid _ := hR
  clear hR
  go_enter Try.func112, Try.ntmps112
  go_wp2
  go_loop [7] (fun i => ∃ k : Nat, i = .int .i64 (k : Int) ∧ k ≤ l.length ∧ Hid ((l.take k).all halfOk = true)) (fun i => l.length - (intOf i).toNat)
  case atStart => exact ⟨0, rfl, Nat.zero_le _, rfl⟩
  case round =>
    obtain ⟨k, rfl, hk, HA⟩ := hrel
    by_cases hlt : k < l.length
    · have hcell := HC.out k hlt
      have hmem : l.getD k 0 ∈ l := by rw [List.getD_eq_getElem?_getD, List.getElem?_eq_getElem hlt]; exact List.getElem_mem hlt
      have HS : Hid ((l.take (k + 1)).all halfOk = ((l.take k).all halfOk && halfOk (l.getD k 0))) := by show _ = _; rw [List.take_succ_eq_append_getElem hlt, List.all_append, List.getD_eq_getElem?_getD, List.getElem?_eq_getElem hlt]; simp
      have HM : Hid (halfOk (l.getD k 0) = false → R = false) := fun h => by
        rw [← HR.out, List.all_eq_false]
        exact ⟨_, hmem, by rw [h]; decide⟩
      clear hmem
      generalize l.getD k 0 = n at *
      by_cases h1 : 1 ≤ n
      · by_cases h2 : n ≤ 65536
        · have HS : Hid ((l.take (k + 1)).all halfOk = true) := by show _ = _; rw [HS.out, HA.out]; simp [halfOk, h1, h2]
          go_wp2
          go_round
          case rel => exact ⟨k + 1, by go_num, by omega, HS⟩
          case measure => simp [intOf]; omega
        · have e : R = false := HM.out (by simp [halfOk, h2])
          subst e
          go_wp2
          go_ret
          exact ⟨rfl, rfl⟩
      · have e : R = false := HM.out (by simp [halfOk, h1])
        subst e
        go_wp2
        go_ret
        exact ⟨rfl, rfl⟩
    · have e : R = true := by
        have e1 := HA.out
        rw [List.take_of_length_le (by omega : l.length ≤ k)] at e1
        rw [← HR.out]; exact e1
      subst e
      go_wp2
      go_ret
      exact ⟨rfl, rfl⟩
end Go.Proofs.Ythcdpngkoejgpaa
