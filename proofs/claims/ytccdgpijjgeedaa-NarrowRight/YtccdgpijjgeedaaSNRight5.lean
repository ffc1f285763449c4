/- The document's own side of a plane; a law's part. -/
import Derived.Test.YtccdgpijjgeedaaSNRight4
set_option linter.unusedVariables false
namespace Go.Proofs.Ytccdgpijjgeedaa
section
open Go.RowKit Go.Shelf
theorem part_any (n : Int) (w : World) (hn : -9223372036854775808 <= n /\ n <= 9223372036854775807) :
  Calls Try.prog 60 #[.int .i64 n, .int .i64 65536] w fun e w' => e = .returned (.int .i64 (pickZ n 131073 - 65536)) /\ w' = w := by
 have HP : Hid _ := pick_any n 131073 w hn (by decide) (by decide)
 have l := pickZ_lo n (n := 131073) (by decide)
 have u := pickZ_hi n (n := 131073) (by decide)
 generalize pickZ n 131073 = q at *
 have e1 : IntKind.i64.wrap (q - 65536) = q - 65536 := by rw [IntKind.wrap_i64]; omega
 clear hn l u
 go_enter Try.func60, Try.ntmps60
 go_wp2_with (fail)
 refine Calls.mono HP.out ?_
 rintro e w' ⟨rfl, rfl⟩
 go_wp2_with (fail)
 go_ret
 exact ⟨rfl, rfl⟩
def lowD (L : List Pt) (n a : Pt) (k : Nat) : Int := (L.take k).foldl (fun s p => minI s (n.dot (p.sub a))) 0
def highD (L : List Pt) (n a : Pt) (k : Nat) : Int := (L.take k).foldl (fun s p => maxI s (n.dot (p.sub a))) 0
theorem lowD_next (L : List Pt) (n a : Pt) (k : Nat) (hk : k < L.length) : lowD L n a (k + 1) = minI (lowD L n a k) (n.dot ((pt L k).sub a)) := by unfold lowD; rw [take_pt hk, List.foldl_append]; rfl
theorem highD_next (L : List Pt) (n a : Pt) (k : Nat) (hk : k < L.length) : highD L n a (k + 1) = maxI (highD L n a k) (n.dot ((pt L k).sub a)) := by unfold highD; rw [take_pt hk, List.foldl_append]; rfl
def sideZ (L : List Pt) (n a : Pt) : Int := if highD L n a L.length <= 0 then 1 else if 0 <= lowD L n a L.length then -1 else 0
set_option maxHeartbeats 2000000 in
set_option maxRecDepth 100000 in
theorem side_any (v : Value) (Ls : List Pt) (n pa : Pt) (w0 : World) (hv : Lies w0 v Ls) (hl : Ls.length <= 100) (hin : ∀ p ∈ Ls, p.inB 65536 = true) (hain : pa.inB 65536 = true) (hnin : n.inB 34359738368 = true) :
  Calls Try.prog 84 #[v, n.v, pa.v] w0 fun e W => e = .returned (.int .i64 (sideZ Ls n pa)) /\ Below w0.heap.size w0 W := by
 obtain ⟨o, c, rfl, hlc, hcm, hcell⟩ := hv.form
 have HC : Hid _ := hcell
 have HIN : Hid _ := hin
 clear hcell hv hin
 have HS : Hid (sideZ Ls n pa = if highD Ls n pa Ls.length <= 0 then 1 else if 0 <= lowD Ls n pa Ls.length then -1 else 0) := rfl
 generalize sideZ Ls n pa = R at *
 have B1 : Hid (Box3 ((w0.alloc (.cells #[.int .i64 n.x, .int .i64 n.y, .int .i64 n.z] 26)).alloc (.cells #[.int .i64 pa.x, .int .i64 pa.y, .int .i64 pa.z] 26)) w0.heap.size n) := (Box3.new w0 n.x n.y n.z _).step (n_after _ _)
 have B2 : Hid (Box3 ((w0.alloc (.cells #[.int .i64 n.x, .int .i64 n.y, .int .i64 n.z] 26)).alloc (.cells #[.int .i64 pa.x, .int .i64 pa.y, .int .i64 pa.z] 26)) (w0.heap.size + 1) pa) := by have := Box3.new (w0.alloc (.cells #[.int .i64 n.x, .int .i64 n.y, .int .i64 n.z] 26)) pa.x pa.y pa.z 26; rwa [World.size_alloc] at this
 have hB : Hid (Below w0.heap.size w0 ((w0.alloc (.cells #[.int .i64 n.x, .int .i64 n.y, .int .i64 n.z] 26)).alloc (.cells #[.int .i64 pa.x, .int .i64 pa.y, .int .i64 pa.z] 26))) := b_step (n_after w0 _) (n_after _ _)
 unfold Pt.v
 go_enter Try.func84, Try.ntmps84
 go_wp2_with (fail)
 obtain ⟨V, hV⟩ : ∃ V : World, V = (w0.alloc (.cells #[.int .i64 n.x, .int .i64 n.y, .int .i64 n.z] 26)).alloc (.cells #[.int .i64 pa.x, .int .i64 pa.y, .int .i64 pa.z] 26) := ⟨_, rfl⟩
 obtain ⟨ba, hba⟩ : ∃ ba, ba = w0.heap.size + 1 := ⟨_, rfl⟩
 obtain ⟨bn, hbn⟩ : ∃ bn, bn = w0.heap.size := ⟨_, rfl⟩
 rw [<- hV] at B1 B2 hB ⊢
 rw [<- hba] at B2 ⊢
 rw [<- hbn] at B1 ⊢
 clear hV hba hbn
 go_loopg [7, 8, 9] Ls.length (fun gm s7 s8 s9 wr => ∃ k : Nat, s7 = .int .i64 (lowD Ls n pa k) /\ s8 = .int .i64 (highD Ls n pa k) /\ s9 = .int .i64 (k : Int) /\ k <= Ls.length /\ gm = Ls.length - k /\ Hid (Below V.heap.size V wr))
 case atStart => exact ⟨0, rfl, rfl, rfl, Nat.zero_le _, rfl, Below.refl _ _⟩
 case round =>
  obtain ⟨k, rfl, rfl, rfl, hk, hgm, HB⟩ := hrel
  have HG : Hid _ := hgm
  clear hgm
  by_cases hkt : k < Ls.length
  ·obtain ⟨g, off, rfl, x0, x1, x2⟩ := HC.out k hkt
   have x0 := c_after HB.out (c_after hB.out x0)
   have x1 := c_after HB.out (c_after hB.out x1)
   have x2 := c_after HB.out (c_after hB.out x2)
   have hmin := HIN.out _ (pt_mem hkt)
   have HN1 : Hid _ := lowD_next Ls n pa k hkt
   have HN2 : Hid _ := highD_next Ls n pa k hkt
   generalize pt Ls k = mo at *
   generalize lowD Ls n pa k = lo at *
   generalize highD Ls n pa k = hi at *
   have L1 : Hid _ := fun w' => minus_any mo pa w' (inB_mono hmin (by decide)) (inB_mono hain (by decide))
   have L2 : Hid _ := fun w' => rdot_any n (mo.sub pa) w' hnin (sub_in hmin hain)
   unfold Pt.v at L1 L2
   obtain ⟨q0, q1, q2, _, _, _⟩ := B1.out.step HB.out
   obtain ⟨p0, p1, p2, _, _, _⟩ := B2.out.step HB.out
   have hkz : (k : Int) < (Ls.length : Int) := by omega
   unfold minI at HN1
   unfold maxI at HN2
   obtain ⟨nl, e1⟩ : ∃ v, (if n.dot (mo.sub pa) < lo then n.dot (mo.sub pa) else lo) = v := ⟨_, rfl⟩
   obtain ⟨nh, e2⟩ : ∃ v, (if n.dot (mo.sub pa) > hi then n.dot (mo.sub pa) else hi) = v := ⟨_, rfl⟩
   rw [e1] at HN1
   rw [e2] at HN2
   go_upto_region 6 with fail
   refine RV.region_by (fun j v w => match j with | 0 => v = .agg #[.int .i64 (n.x), .int .i64 (n.y), .int .i64 (n.z)] | 1 => v = .slice (some ⟨g, off, none⟩) Ls.length c | 2 => v = .int .i64 ((k : Int)) | 3 => v = .pointer (some ⟨g, off + k * 3, none⟩) | 4 => v = .agg #[.int .i64 (mo.x), .int .i64 (mo.y), .int .i64 (mo.z)] | 5 => v = .agg #[.int .i64 (pa.x), .int .i64 (pa.y), .int .i64 (pa.z)] | 6 => v = .agg #[.int .i64 ((mo.sub pa).x), .int .i64 ((mo.sub pa).y), .int .i64 ((mo.sub pa).z)] | 7 => v = .int .i64 (n.dot (mo.sub pa)) | 8 => v = .int .i64 (n.dot (mo.sub pa)) | _ => True) (fun γ L w9 => Below wr.heap.size wr w9) (by kernel_rfl) (by kernel_rfl) (by kernel_rfl) (by kernel_rfl) ?_ ?_ ?_
   ·exact (Below.refl _ wr).drew
   ·generalize hD : dstOf _ = D
    generalize hWA : waitsFor _ = WA
    generalize hZ : Act.mk _ _ = Z
    refine RV.AllDo.name ?_
    intro R hR
    have d0 : D 0 = some 17 := by rw [<- hD]; rfl
    have d1 : D 1 = some 18 := by rw [<- hD]; rfl
    have d2 : D 2 = some 19 := by rw [<- hD]; rfl
    have d3 : D 3 = some 20 := by rw [<- hD]; rfl
    have d4 : D 4 = some 21 := by rw [<- hD]; rfl
    have d5 : D 5 = some 22 := by rw [<- hD]; rfl
    have d6 : D 6 = some 23 := by rw [<- hD]; rfl
    have d7 : D 7 = some 24 := by rw [<- hD]; rfl
    have d8 : D 8 = some 10 := by rw [<- hD]; rfl
    have r0 : ∀ v w, R 0 v w = (v = .agg #[.int .i64 (n.x), .int .i64 (n.y), .int .i64 (n.z)]) := fun v w => by rw [hR]; rfl
    have r1 : ∀ v w, R 1 v w = (v = .slice (some ⟨g, off, none⟩) Ls.length c) := fun v w => by rw [hR]; rfl
    have r2 : ∀ v w, R 2 v w = (v = .int .i64 ((k : Int))) := fun v w => by rw [hR]; rfl
    have r3 : ∀ v w, R 3 v w = (v = .pointer (some ⟨g, off + k * 3, none⟩)) := fun v w => by rw [hR]; rfl
    have r4 : ∀ v w, R 4 v w = (v = .agg #[.int .i64 (mo.x), .int .i64 (mo.y), .int .i64 (mo.z)]) := fun v w => by rw [hR]; rfl
    have r5 : ∀ v w, R 5 v w = (v = .agg #[.int .i64 (pa.x), .int .i64 (pa.y), .int .i64 (pa.z)]) := fun v w => by rw [hR]; rfl
    have r6 : ∀ v w, R 6 v w = (v = .agg #[.int .i64 ((mo.sub pa).x), .int .i64 ((mo.sub pa).y), .int .i64 ((mo.sub pa).z)]) := fun v w => by rw [hR]; rfl
    have r7 : ∀ v w, R 7 v w = (v = .int .i64 (n.dot (mo.sub pa))) := fun v w => by rw [hR]; rfl
    have r8 : ∀ v w, R 8 v w = (v = .int .i64 (n.dot (mo.sub pa))) := fun v w => by rw [hR]; rfl
    have F0_ : ∀ j, D j ≠ some 0 := by rw [<- hD]; exact RV.dst_free (by kernel_rfl)
    have Z0_ : Z.tmps[0]? = some (.slice (some ⟨g, off, none⟩) Ls.length c) := by rw [<- hZ]; rfl
    have F4_ : ∀ j, D j ≠ some 4 := by rw [<- hD]; exact RV.dst_free (by kernel_rfl)
    have Z4_ : Z.tmps[4]? = some (.pointer (some ⟨bn, 0, none⟩)) := by rw [<- hZ]; rfl
    have F5_ : ∀ j, D j ≠ some 5 := by rw [<- hD]; exact RV.dst_free (by kernel_rfl)
    have Z5_ : Z.tmps[5]? = some (.pointer (some ⟨ba, 0, none⟩)) := by rw [<- hZ]; rfl
    have F9_ : ∀ j, D j ≠ some 9 := by rw [<- hD]; exact RV.dst_free (by kernel_rfl)
    have Z9_ : Z.tmps[9]? = some (.int .i64 ((k : Int))) := by rw [<- hZ]; rfl
    have K : ∀ j v w w', R j v w -> R j v w' := by rw [hR]; intro j v w w' h; exact h
    clear hD hWA hZ hR
    refine RV.cc 0 (RV.dp (fun γ v L w hl h => h) (fun γ L a w hH hl hA => by have e0 := ((hH.rest 4 F4_).trans Z4_); have hB9 := hH.glob; have z0 := c_after hB9 q0; have z1 := c_after hB9 q1; have z2 := c_after hB9 q2; exact ⟨.agg #[.int .i64 (n.x), .int .i64 (n.y), .int .i64 (n.z)], by simp [execOp, go_sem, e0, z0, z1, z2], (r0 _ _).mpr rfl⟩)) ?_
    refine RV.cc 1 (RV.dp (fun γ v L w hl h => h) (fun γ L a w hH hl hA => by have e0 := ((hH.rest 0 F0_).trans Z0_); exact ⟨.slice (some ⟨g, off, none⟩) Ls.length c, by simp [execOp, go_sem, e0], (r1 _ _).mpr rfl⟩)) ?_
    refine RV.cc 2 (RV.dp (fun γ v L w hl h => h) (fun γ L a w hH hl hA => by have e0 := ((hH.rest 9 F9_).trans Z9_); exact ⟨.int .i64 ((k : Int)), by simp [execOp, go_sem, e0], (r2 _ _).mpr rfl⟩)) ?_
    refine RV.cc 3 (RV.dp (fun γ v L w hl h => h) (fun γ L a w hH hl hA => by have e0 := hH.got d1 r1 (hA ⟨1, .data⟩ (by simp) rfl); have e1 := hH.got d2 r2 (hA ⟨2, .data⟩ (by simp) rfl); exact ⟨.pointer (some ⟨g, off + k * 3, none⟩), by simp [execOp, go_sem, e0, e1, hkz], (r3 _ _).mpr rfl⟩)) ?_
    refine RV.cc 4 (RV.dp (fun γ v L w hl h => h) (fun γ L a w hH hl hA => by have e0 := hH.got d3 r3 (hA ⟨3, .data⟩ (by simp) rfl); have hB9 := hH.glob; have v0 := c_after hB9 x0; have v1 := c_after hB9 x1; have v2 := c_after hB9 x2; exact ⟨.agg #[.int .i64 (mo.x), .int .i64 (mo.y), .int .i64 (mo.z)], by simp [execOp, go_sem, e0, v0, v1, v2], (r4 _ _).mpr rfl⟩)) ?_
    refine RV.cc 5 (RV.dp (fun γ v L w hl h => h) (fun γ L a w hH hl hA => by have e0 := ((hH.rest 5 F5_).trans Z5_); have hB9 := hH.glob; have z0 := c_after hB9 p0; have z1 := c_after hB9 p1; have z2 := c_after hB9 p2; exact ⟨.agg #[.int .i64 (pa.x), .int .i64 (pa.y), .int .i64 (pa.z)], by simp [execOp, go_sem, e0, z0, z1, z2], (r5 _ _).mpr rfl⟩)) ?_
    refine RV.cc 6 (RV.dc (fun γ L a w hH hl hA => by have e0 := hH.got d4 r4 (hA ⟨4, .data⟩ (by simp) rfl); have e1 := hH.got d5 r5 (hA ⟨5, .data⟩ (by simp) rfl); have hB9 := hH.glob; exact ⟨39, #[.agg #[.int .i64 (mo.x), .int .i64 (mo.y), .int .i64 (mo.z)], .agg #[.int .i64 (pa.x), .int .i64 (pa.y), .int .i64 (pa.z)]], by simp [go_sem, e0, e1], Calls.mono (L1.out w) (by rintro e w2 ⟨rfl, hb⟩; exact ⟨_, rfl, (r6 _ _).mpr rfl, fun j v _ h => K j v _ _ h, hB9.trans (hb.mono hB9.size)⟩)⟩)) ?_
    refine RV.cc 7 (RV.dc (fun γ L a w hH hl hA => by have e0 := hH.got d0 r0 (hA ⟨0, .data⟩ (by simp) rfl); have e1 := hH.got d6 r6 (hA ⟨6, .data⟩ (by simp) rfl); have hB9 := hH.glob; exact ⟨30, #[.agg #[.int .i64 (n.x), .int .i64 (n.y), .int .i64 (n.z)], .agg #[.int .i64 ((mo.sub pa).x), .int .i64 ((mo.sub pa).y), .int .i64 ((mo.sub pa).z)]], by simp [go_sem, e0, e1], Calls.mono (L2.out w) (by rintro e w2 ⟨rfl, hb⟩; exact ⟨_, rfl, (r7 _ _).mpr rfl, fun j v _ h => K j v _ _ h, hB9.trans (hb.mono hB9.size)⟩)⟩)) ?_
    refine RV.cc 8 (RV.dp (fun γ v L w hl h => h) (fun γ L a w hH hl hA => by have e0 := hH.got d7 r7 (hA ⟨7, .data⟩ (by simp) rfl); exact ⟨.int .i64 (n.dot (mo.sub pa)), by simp [execOp, go_sem, e0], (r8 _ _).mpr rfl⟩)) ?_
    exact RV.AllDo.nil
   ·intro γ a5 w5 L9 hL hLo hH
    have ha := RV.held_act hH hL (by kernel_rfl) (by kernel_rfl)
    have hb8 := hH.glob
    have y0 : γ 0 = .agg #[.int .i64 (n.x), .int .i64 (n.y), .int .i64 (n.z)] := hH.holds 0 (hL 0 (by decide))
    have y1 : γ 1 = .slice (some ⟨g, off, none⟩) Ls.length c := hH.holds 1 (hL 1 (by decide))
    have y2 : γ 2 = .int .i64 ((k : Int)) := hH.holds 2 (hL 2 (by decide))
    have y3 : γ 3 = .pointer (some ⟨g, off + k * 3, none⟩) := hH.holds 3 (hL 3 (by decide))
    have y4 : γ 4 = .agg #[.int .i64 (mo.x), .int .i64 (mo.y), .int .i64 (mo.z)] := hH.holds 4 (hL 4 (by decide))
    have y5 : γ 5 = .agg #[.int .i64 (pa.x), .int .i64 (pa.y), .int .i64 (pa.z)] := hH.holds 5 (hL 5 (by decide))
    have y6 : γ 6 = .agg #[.int .i64 ((mo.sub pa).x), .int .i64 ((mo.sub pa).y), .int .i64 ((mo.sub pa).z)] := hH.holds 6 (hL 6 (by decide))
    have y7 : γ 7 = .int .i64 (n.dot (mo.sub pa)) := hH.holds 7 (hL 7 (by decide))
    have y8 : γ 8 = .int .i64 (n.dot (mo.sub pa)) := hH.holds 8 (hL 8 (by decide))
    rw [ha]
    clear ha hH hL hLo
    simp only [RV.putAll, Act.put, List.setIfInBounds_toArray, List.set_cons_zero, List.set_cons_succ, Nat.zero_add, Nat.reduceAdd, y0, y1, y2, y3, y4, y5, y6, y7, y8]
    clear y0 y1 y2 y3 y4 y5 y6 y7 y8
    have HB7 : Hid _ := b_step HB.out hb8
    clear hb8 L1 L2 q0 q1 q2 p0 p1 p2 x0 x1 x2
    go_wp2_with (fail)
    go_roundg (Ls.length - (k + 1))
    case measure => have := HG.out; omega
    case rel => exact ⟨k + 1, by rw [HN1.out], by rw [HN2.out], by go_num, by omega, rfl, HB7⟩
  ·have e : k = Ls.length := by omega
   subst e
   generalize lowD Ls n pa Ls.length = lo at *
   generalize highD Ls n pa Ls.length = hi at *
   by_cases h1 : hi <= 0
   ·have e : R = 1 := by rw [HS.out, if_pos h1]
    subst e
    clear HS
    go_wp2_with (fail)
    go_ret
    exact ⟨rfl, b_step hB.out HB.out⟩
   ·by_cases h2 : 0 <= lo
    ·have e : R = -1 := by rw [HS.out, if_neg h1, if_pos h2]
     subst e
     clear HS
     go_wp2_with (fail)
     go_ret
     exact ⟨rfl, b_step hB.out HB.out⟩
    ·have e : R = 0 := by rw [HS.out, if_neg h1, if_neg h2]
     subst e
     clear HS
     go_wp2_with (fail)
     go_ret
     exact ⟨rfl, b_step hB.out HB.out⟩
end
end Go.Proofs.Ytccdgpijjgeedaa
