/- The reference's sums of products (tumblerref01). -/
import Derived.Test.YtioailboehpcaaaRef7
import Derived.Test.YtioailboehpcaaaDot
import Derived.Deep.RegionHeld3
namespace Go.Proofs.Ytioailboehpcaaa
open Go.RowKit Ref Fx

theorem prods_fit {l m : List Int} (k : Nat) (hl : l.length ≤ 8) (h : l.any great = false) (h' : m.any great = false) : (prods (l.take k) (m.take k)).natAbs < 3138550867693340381917894711603833208051177722232017256448 := by
  have := prods_bound (l.take k) (m.take k) (any_take k h) (any_take k h')
  have e : (l.take k).length ≤ 8 := by simp; omega
  have := Nat.mul_le_mul_right 21267647932558653957237540927630737409 e
  omega
theorem prod_fit {a b : Int} (ha : great a = false) (hb : great b = false) : (a * b).natAbs < 3138550867693340381917894711603833208051177722232017256448 := by
  have h1 := (not_great a).1 ha
  have h2 := (not_great b).1 hb
  rw [Int.natAbs_mul]
  exact Nat.lt_of_le_of_lt (Nat.mul_le_mul (show a.natAbs ≤ 4611686018427387903 by omega) (show b.natAbs ≤ 4611686018427387903 by omega)) (by decide)

set_option maxHeartbeats 4000000 in
theorem sumw_any (zs ys : List Int) (ba oa bb ob cap cap' : Nat) (w : World) (hl : zs.length ≤ 8) (he : zs.length = ys.length) (hg : zs.any great = false) (hg' : ys.any great = false)
    (hz : ∀ k, k < zs.length → w.cell? ⟨ba, oa + k, none⟩ = some (.int .i64 (zs.getD k 0))) (hy : ∀ k, k < ys.length → w.cell? ⟨bb, ob + k, none⟩ = some (.int .i64 (ys.getD k 0))) :
    Calls Try.prog 62 #[.slice (some ⟨ba, oa, none⟩) zs.length cap, .slice (some ⟨bb, ob, none⟩) ys.length cap'] w fun e w' => ∃ s d, e = .returned (wv s d) ∧ Hid (Digs d ∧ sv s d = prods zs ys) ∧ Hid (Below w.heap.size w w') := by
  have HZ : Hid _ := hz
  have HY : Hid _ := hy
  have HG : Hid (zs.any great = false ∧ ys.any great = false) := ⟨hg, hg'⟩
  have HE : Hid _ := he
  have hly : ys.length ≤ 8 := by omega
  clear hz hy hg hg' he
  go_enter Try.func62, Try.ntmps62
  go_wp2
  go_loopw [6] (fun i wr => ∃ (k : Nat) (s : Bool) (d : Nat → Int), k ≤ zs.length ∧ i = .int .i64 k ∧ Hid (Digs d ∧ sv s d = prods (zs.take k) (ys.take k)) ∧ Hid (Lies wr w.heap.size false (fun _ => 0)) ∧ Hid (Lies wr (w.heap.size + 1) s d) ∧ Hid (Below w.heap.size w wr)) (fun i _ => zs.length - (intOf i).toNat)
  case atStart => exact ⟨0, false, fun _ => 0, Nat.zero_le _, rfl, ⟨fun j _ => by simp, by simp [sv, val, prods]⟩, Lies.alloc (lies_new w false (fun _ => 0) 84) _, by show Lies _ _ _ _; have := lies_new (w.alloc (.cells #[.bool false, .int .i64 0, .int .i64 0, .int .i64 0, .int .i64 0, .int .i64 0, .int .i64 0, .int .i64 0, .int .i64 0] 84)) false (fun _ => 0) 84; simpa only [World.size_alloc] using this, (new_after w _).alloc (by simp) _⟩
  case round =>
    obtain ⟨k, s, d, hk, rfl, HD, HR, HO, HB⟩ := hrel
    by_cases hlt : k < zs.length
    · have hlt2 : k < ys.length := by have := HE.out; omega
      have c1 := cell_after HB.out (HZ.out k hlt)
      have c2 := cell_after HB.out (HY.out k hlt2)
      have g1 := getD_small HG.out.1 hlt
      have g2 := getD_small HG.out.2 hlt2
      have HS : Hid _ := prods_step k zs ys hlt hlt2
      have HP : Hid _ := prod_fit g1 g2
      have HQ : Hid _ := prods_fit k hl HG.out.1 HG.out.2
      obtain ⟨z, ez⟩ : ∃ z, zs.getD k 0 = z := ⟨_, rfl⟩
      obtain ⟨y, ey⟩ : ∃ y, ys.getD k 0 = y := ⟨_, rfl⟩
      rw [ez] at c1 g1 HS HP
      rw [ey] at c2 g2 HS HP
      have bz := (not_great z).1 g1
      have bY := (not_great y).1 g2
      clear ez ey g1 g2
      have i0 : (0 : Int) ≤ (k : Int) := by omega
      have i1 : (k : Int) < (zs.length : Int) := by omega
      have i2 : (k : Int) < (ys.length : Int) := by omega
      have HB : Hid (Below w.heap.size w wr.drew) := HB.out.drew
      have HO : Hid (Lies wr.drew (w.heap.size + 1) s d) := HO.out.drew
      have HR : Hid (Lies wr.drew w.heap.size false (fun _ => 0)) := HR.out.drew
      obtain ⟨a0, a1, a2, a3, a4, a5, a6, a7, a8⟩ := HO.out.cells
      obtain ⟨f0, f1, f2, f3, f4, f5, f6, f7, f8⟩ := HO.out.frees
      have c1 : wr.drew.cell? ⟨ba, oa + k, none⟩ = some (.int .i64 z) := c1
      have c2 : wr.drew.cell? ⟨bb, ob + k, none⟩ = some (.int .i64 y) := c2
      have HA : True := trivial
      go_wp2
      go_region_with (first
        | (go_at_call 68; refine (of_any _ _ (by omega) (by omega)).mono ?_; rintro e w1 ⟨u, e1, rfl, S, B⟩; have HA := And.intro HA S.out; have f0 := frozen_after B.out a0 f0; have a0 := cell_after B.out a0; have f1 := frozen_after B.out a1 f1; have a1 := cell_after B.out a1; have f2 := frozen_after B.out a2 f2; have a2 := cell_after B.out a2; have f3 := frozen_after B.out a3 f3; have a3 := cell_after B.out a3; have f4 := frozen_after B.out a4 f4; have a4 := cell_after B.out a4; have f5 := frozen_after B.out a5 f5; have a5 := cell_after B.out a5; have f6 := frozen_after B.out a6 f6; have a6 := cell_after B.out a6; have f7 := frozen_after B.out a7 f7; have a7 := cell_after B.out a7; have f8 := frozen_after B.out a8 f8; have a8 := cell_after B.out a8; have c1 := cell_after B.out c1; have c2 := cell_after B.out c2; have HO : Hid _ := Lies.below HO.out B.out HO.out.lt; have HR : Hid _ := Lies.below HR.out B.out HR.out.lt; have HB : Hid _ := below_step HB.out B.out)
        | (go_at_call 67; refine (times_any _ _ _ _ _ HA.1.2.1 HA.2.1 (by rw [HA.1.2.2, HA.2.2]; exact Nat.lt_trans HP.out (by decide))).mono ?_; rintro e w1 ⟨u, e1, rfl, S, B⟩; have HT : Hid (Digs e1 ∧ sv u e1 = z * y) := ⟨S.out.1, by rw [S.out.2, HA.1.2.2, HA.2.2]⟩; have f0 := frozen_after B.out a0 f0; have a0 := cell_after B.out a0; have f1 := frozen_after B.out a1 f1; have a1 := cell_after B.out a1; have f2 := frozen_after B.out a2 f2; have a2 := cell_after B.out a2; have f3 := frozen_after B.out a3 f3; have a3 := cell_after B.out a3; have f4 := frozen_after B.out a4 f4; have a4 := cell_after B.out a4; have f5 := frozen_after B.out a5 f5; have a5 := cell_after B.out a5; have f6 := frozen_after B.out a6 f6; have a6 := cell_after B.out a6; have f7 := frozen_after B.out a7 f7; have a7 := cell_after B.out a7; have f8 := frozen_after B.out a8 f8; have a8 := cell_after B.out a8; have c1 := cell_after B.out c1; have c2 := cell_after B.out c2; have HO : Hid _ := Lies.below HO.out B.out HO.out.lt; have HR : Hid _ := Lies.below HR.out B.out HR.out.lt; have HB : Hid _ := below_step HB.out B.out)
        | (go_at_call 70; refine (plusw_any _ _ _ _ _ HD.out.1 HT.out.1 (by rw [HD.out.2, HT.out.2]; have h1 := HP.out; have h2 := HQ.out; omega)).mono ?_; rintro e w1 ⟨u, e1, rfl, S, B⟩; have HU : Hid (Digs e1 ∧ sv u e1 = prods (zs.take (k + 1)) (ys.take (k + 1))) := ⟨S.out.1, by rw [S.out.2, HD.out.2, HT.out.2, HS.out]⟩; have f0 := frozen_after B.out a0 f0; have a0 := cell_after B.out a0; have f1 := frozen_after B.out a1 f1; have a1 := cell_after B.out a1; have f2 := frozen_after B.out a2 f2; have a2 := cell_after B.out a2; have f3 := frozen_after B.out a3 f3; have a3 := cell_after B.out a3; have f4 := frozen_after B.out a4 f4; have a4 := cell_after B.out a4; have f5 := frozen_after B.out a5 f5; have a5 := cell_after B.out a5; have f6 := frozen_after B.out a6 f6; have a6 := cell_after B.out a6; have f7 := frozen_after B.out a7 f7; have a7 := cell_after B.out a7; have f8 := frozen_after B.out a8 f8; have a8 := cell_after B.out a8; have c1 := cell_after B.out c1; have c2 := cell_after B.out c2; have HO : Hid _ := Lies.below HO.out B.out HO.out.lt; have HR : Hid _ := Lies.below HR.out B.out HR.out.lt; have HB : Hid _ := below_step HB.out B.out))
      all_goals (
        have X1 : Hid _ := lies_nine (s := u) (d := e1) HO.out
        have X2 : Hid _ := Lies.nine (s := u) (d := e1) (b := w.heap.size + 1) HR.out (by omega)
        have X3 : Hid _ := below_nine (b := w.heap.size + 1) (v0 := .bool u) (v1 := .int .i64 (e1 0)) (v2 := .int .i64 (e1 1)) (v3 := .int .i64 (e1 2)) (v4 := .int .i64 (e1 3)) (v5 := .int .i64 (e1 4)) (v6 := .int .i64 (e1 5)) (v7 := .int .i64 (e1 6)) (v8 := .int .i64 (e1 7)) HB.out (by omega)
        clear a0 f0 a1 f1 a2 f2 a3 f3 a4 f4 a5 f5 a6 f6 a7 f7 a8 f8 HO HR HB HA HT HP HQ
        go_wp2
        go_roundw
        case rel => exact ⟨k + 1, u, e1, by omega, by go_num, HU.out, X2.out, X1.out, X3.out⟩
        case measure => simp [intOf]; omega)
    · have hk8 : (zs.length : Int) ≤ (k : Int) := by omega
      have HV : Hid (Digs d ∧ sv s d = prods zs ys) := by
        obtain ⟨d1, d2⟩ := HD.out
        have e : k = zs.length := by omega
        rw [e, List.take_length, HE.out, List.take_length] at d2
        exact ⟨d1, d2⟩
      obtain ⟨c0, c1, c2, c3, c4, c5, c6, c7, c8⟩ := HO.out.cells
      obtain ⟨r0, r1, r2, r3, r4, r5, r6, r7, r8⟩ := HR.out.cells
      obtain ⟨f0, f1, f2, f3, f4, f5, f6, f7, f8⟩ := HR.out.frees
      clear HD HZ HY HG
      go_wp2
      try simp only [Exit.inBlock, Exit.then]
      refine bodyPost_ret (by simp [results, Try.results62, go_sem, r0, r1, r2, r3, r4, r5, r6, r7, r8]; try rfl) rfl ?_
      exact ⟨_, d, rfl, HV.out, below_nine HB.out (by omega)⟩
end Go.Proofs.Ytioailboehpcaaa
