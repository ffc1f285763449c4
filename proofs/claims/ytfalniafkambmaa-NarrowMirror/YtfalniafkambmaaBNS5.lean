/- The document's own test of flat hulls. -/
import Derived.Test.YtfalniafkambmaaBNS0
import Derived.Test.YtfalniafkambmaaBNS4
import Derived.Test.YtfalniafkambmaaBNS1
import Derived.Test.YtfalniafkambmaaBNS2
namespace Go.Proofs.Ytfalniafkambmaa
open Go.RowKit Go.Shelf
set_option linter.unusedVariables false

theorem arr3 {cs : Array Value} (h : cs.size = 3) : ∃ a b c, cs = #[a, b, c] := by
  obtain ⟨l⟩ := cs
  match l, h with
  | [a, b, c], _ => exact ⟨a, b, c, rfl⟩
set_option maxHeartbeats 2000000 in
set_option maxRecDepth 100000 in
theorem rflat_any (v : Value) (Ls : List Pt) (w0 : World) (hv : Lies w0 v Ls) (h4 : 4 ≤ Ls.length) (h12 : Ls.length ≤ 12) (hin : ∀ p ∈ Ls, p.inB 65536 = true) (hne : pt Ls 0 ≠ pt Ls 1) :
    Calls Try.prog 57 #[v] w0 fun e W => e = .returned (.bool (flatP Ls)) ∧ Below w0.heap.size w0 W := by
  obtain ⟨o, c, rfl, hlc, hcm, hcell⟩ := hv.form
  have HC : Hid _ := hcell
  have HIN : Hid _ := hin
  obtain ⟨g, off, rfl, _, _, _⟩ := hcell 0 (by omega)
  clear hcell hv hin
  have HF : Hid _ := flatR_iff (show 2 ≤ Ls.length by omega) hne
  clear hne
  obtain ⟨R, hR⟩ : ∃ R, flatP Ls = R := ⟨_, rfl⟩
  rw [hR] at HF ⊢
  clear hR
  go_enter Try.func57, Try.ntmps57
  go_wp2_with (fail)
  go_loopg [3] Ls.length (fun gm s wr => ∃ i : Nat, s = .int .i64 (i : Int) ∧ i ≤ Ls.length ∧ gm = Ls.length - i ∧ Hid (∀ i' k m q, i' < i → m < k → k < i' → q < Ls.length → vol (pt Ls m) (pt Ls k) (pt Ls i') (pt Ls q) = 0) ∧ Hid (Below w0.heap.size w0 wr))
  case atStart => exact ⟨0, rfl, Nat.zero_le _, rfl, fun i' k m q h => absurd h (Nat.not_lt_zero _), Below.refl _ _⟩
  case round =>
    obtain ⟨i, rfl, hi, hgm, HA, HBi⟩ := hrel
    have HG1 : Hid _ := hgm
    clear hgm
    by_cases hit : i < Ls.length
    · go_wp2_with (fail)
      go_loopg [4] i (fun gm s wr => ∃ k : Nat, s = .int .i64 (k : Int) ∧ k ≤ i ∧ gm = i - k ∧ Hid (∀ k' m q, k' < k → m < k' → q < Ls.length → vol (pt Ls m) (pt Ls k') (pt Ls i) (pt Ls q) = 0) ∧ Hid (Below w0.heap.size w0 wr))
      case atStart => exact ⟨0, rfl, Nat.zero_le _, rfl, fun k' m q h => absurd h (Nat.not_lt_zero _), HBi⟩
      case round =>
        clear HBi
        obtain ⟨k, rfl, hk, hgm, HA2, HBk⟩ := hrel
        have HG2 : Hid _ := hgm
        clear hgm
        by_cases hkt : k < i
        · have hkl : k < Ls.length := by omega
          go_wp2_with (fail)
          go_loopg [5] k (fun gm s wr => ∃ m : Nat, s = .int .i64 (m : Int) ∧ m ≤ k ∧ gm = k - m ∧ Hid (∀ m' q, m' < m → q < Ls.length → vol (pt Ls m') (pt Ls k) (pt Ls i) (pt Ls q) = 0) ∧ Hid (Below w0.heap.size w0 wr))
          case atStart => exact ⟨0, rfl, Nat.zero_le _, rfl, fun m' q h => absurd h (Nat.not_lt_zero _), HBk⟩
          case round =>
            clear HBk
            obtain ⟨m, rfl, hm, hgm, HA3, HBm⟩ := hrel
            have HG3 : Hid _ := hgm
            clear hgm
            by_cases hmt : m < k
            · have hml : m < Ls.length := by omega
              obtain ⟨g', off', e', x0, x1, x2⟩ := HC.out i hit
              simp only [Option.some.injEq, Addr.mk.injEq, and_true] at e'
              obtain ⟨rfl, rfl⟩ := e'
              obtain ⟨g', off', e', y0, y1, y2⟩ := HC.out k hkl
              simp only [Option.some.injEq, Addr.mk.injEq, and_true] at e'
              obtain ⟨rfl, rfl⟩ := e'
              obtain ⟨g', off', e', z0, z1, z2⟩ := HC.out m hml
              simp only [Option.some.injEq, Addr.mk.injEq, and_true] at e'
              obtain ⟨rfl, rfl⟩ := e'
              have x0 := c_after HBm.out x0
              have x1 := c_after HBm.out x1
              have x2 := c_after HBm.out x2
              have y0 := c_after HBm.out y0
              have y1 := c_after HBm.out y1
              have y2 := c_after HBm.out y2
              have HZ : Hid _ := And.intro z0 (And.intro z1 z2)
              have z0 := c_after HBm.out z0
              have z1 := c_after HBm.out z1
              have z2 := c_after HBm.out z2
              have hain := HIN.out _ (pt_mem hml)
              have hbin := HIN.out _ (pt_mem hkl)
              have hcin := HIN.out _ (pt_mem hit)
              have HM : Hid ((∃ q, q < Ls.length ∧ vol (pt Ls m) (pt Ls k) (pt Ls i) (pt Ls q) ≠ 0) → R = false) := fun ⟨q, h1, h2⟩ => by
                cases R with
                | false => rfl
                | true => exact absurd (HF.out.2 rfl i k m q hmt hkt hit h1) h2
              have HS3 : Hid ((∀ q, q < Ls.length → vol (pt Ls m) (pt Ls k) (pt Ls i) (pt Ls q) = 0) → ∀ m' q, m' < m + 1 → q < Ls.length → vol (pt Ls m') (pt Ls k) (pt Ls i) (pt Ls q) = 0) := fun h m' q h1 h2 => by
                by_cases e : m' = m
                · subst e; exact h q h2
                · exact HA3.out m' q (by omega) h2
              generalize pt Ls i = pc at *
              generalize pt Ls k = pb at *
              generalize pt Ls m = pa at *
              have L3 : Hid _ := fun w' => normal_any pa pb pc w' hain hbin hcin
              have hnin := cross_in (sub_in hbin hain) (sub_in hcin hain)
              have HVO : Hid (∀ q, vol pa pb pc q = ((pb.sub pa).cross (pc.sub pa)).dot (q.sub pa)) := fun q => rfl
              generalize (pb.sub pa).cross (pc.sub pa) = n at *
              unfold Pt.v at L3
              have hiz : (i : Int) < (Ls.length : Int) := by omega
              have hkz : (k : Int) < (Ls.length : Int) := by omega
              have hmz : (m : Int) < (Ls.length : Int) := by omega
              go_upto_region 10 with fail
              refine RV.region_is [.some (.slice (some ⟨g, off, none⟩) Ls.length c), .some (.int .i64 (m : Int)), .some (.pointer (some ⟨g, off + m * 3, none⟩)), .some (.agg #[.int .i64 pa.x, .int .i64 pa.y, .int .i64 pa.z]), .some (.slice (some ⟨g, off, none⟩) Ls.length c), .some (.int .i64 (k : Int)), .some (.pointer (some ⟨g, off + k * 3, none⟩)), .some (.agg #[.int .i64 pb.x, .int .i64 pb.y, .int .i64 pb.z]), .some (.slice (some ⟨g, off, none⟩) Ls.length c), .some (.int .i64 (i : Int)), .some (.pointer (some ⟨g, off + i * 3, none⟩)), .some (.agg #[.int .i64 pc.x, .int .i64 pc.y, .int .i64 pc.z]), .some (.agg #[.int .i64 n.x, .int .i64 n.y, .int .i64 n.z]), none, none] [25, 26, 27, 28, 29, 30, 31, 32, 33, 34, 35, 36, 37, 7, 0] [(0, .slice (some ⟨g, off, none⟩) Ls.length c), (3, .int .i64 (i : Int)), (4, .int .i64 (k : Int)), (5, .int .i64 (m : Int))] (fun γ L w => Below wr.heap.size wr w ∧ RV.Pend wr 23 13 14 #[.int .i64 n.x, .int .i64 n.y, .int .i64 n.z] γ L w) (by kernel_rfl) (by kernel_rfl) (by kernel_rfl) (by kernel_rfl) (by kernel_rfl) (by kernel_rfl) (by kernel_rfl) ⟨rfl, rfl, rfl, rfl, trivial⟩ ?_ ?_ ?_
              · exact ⟨(Below.refl _ wr).drew, RV.Pend.start rfl⟩
              · intro D WA Z hD hWA hZ T
                simp only [RV.Outs, RV.Slots, Nat.reduceAdd] at T
                iterate 12 first
                  | (refine RV.AllDo.cons _ (RV.pu T (fun γ v L w hl h => ⟨h.1, h.2.other v (by decide) (by decide)⟩) (fun γ L a w hH hl h9 k9 => ⟨_, ?_, rfl⟩)) ?_; · simp [execOp, go_sem, h9])
                  | (refine RV.AllDo.cons _ (RV.pu T (fun γ v L w hl h => ⟨h.1, h.2.other v (by decide) (by decide)⟩) (fun γ L a w hH hl h9 k9 => ⟨_, ?_, rfl⟩)) ?_; · simp [Region.binds] at k9; simp [execOp, go_sem, h9, k9, hmz, hkz, hiz])
                  | (refine RV.AllDo.cons _ (RV.pu T (fun γ v L w hl h => ⟨h.1, h.2.other v (by decide) (by decide)⟩) (fun γ L a w hH hl h9 k9 => ⟨_, ?_, rfl⟩)) ?_; · have v0 := c_after hH.glob.1 z0; have v1 := c_after hH.glob.1 z1; have v2 := c_after hH.glob.1 z2; simp [Region.binds] at k9; simp [execOp, go_sem, h9, k9, v0, v1, v2])
                  | (refine RV.AllDo.cons _ (RV.pu T (fun γ v L w hl h => ⟨h.1, h.2.other v (by decide) (by decide)⟩) (fun γ L a w hH hl h9 k9 => ⟨_, ?_, rfl⟩)) ?_; · have v0 := c_after hH.glob.1 y0; have v1 := c_after hH.glob.1 y1; have v2 := c_after hH.glob.1 y2; simp [Region.binds] at k9; simp [execOp, go_sem, h9, k9, v0, v1, v2])
                  | (refine RV.AllDo.cons _ (RV.pu T (fun γ v L w hl h => ⟨h.1, h.2.other v (by decide) (by decide)⟩) (fun γ L a w hH hl h9 k9 => ⟨_, ?_, rfl⟩)) ?_; · have v0 := c_after hH.glob.1 x0; have v1 := c_after hH.glob.1 x1; have v2 := c_after hH.glob.1 x2; simp [Region.binds] at k9; simp [execOp, go_sem, h9, k9, v0, v1, v2])
                refine RV.AllDo.cons _ (RV.does_call (fun γ L a w hH hl hA => by have h9 := T γ L a w hH; have k9 := hA; simp [Region.binds] at k9; exact ⟨58, #[.agg #[.int .i64 pa.x, .int .i64 pa.y, .int .i64 pa.z], .agg #[.int .i64 pb.x, .int .i64 pb.y, .int .i64 pb.z], .agg #[.int .i64 pc.x, .int .i64 pc.y, .int .i64 pc.z]], by simp [go_sem, h9, k9], Calls.mono (L3.out w) (by rintro e w2 ⟨rfl, hb⟩; exact ⟨_, rfl, rfl, fun j v _ h => h.keep _, hH.glob.1.trans (hb.mono hH.glob.1.size), (hH.glob.2.below hb).other _ (by decide) (by decide)⟩)⟩)) ?_
                refine RV.AllDo.cons _ (RV.does_step (fun γ L a w hH hl hA => by have h10 : L 14 = false := RV.not_yet hH (RV.wt (j := 14) (i := 13) hWA (by kernel_rfl)) hl; exact ⟨.pointer (some ⟨w.heap.size, 0, none⟩), w.alloc (.cells #[.int .i64 0, .int .i64 0, .int .i64 0] 23), by simp [execOp, go_sem], trivial, fun j v _ h => h.keep _, hH.glob.1.alloc hH.glob.1.size _, RV.Pend.made _ rfl hH.glob.1.size h10 (by decide)⟩)) ?_
                refine RV.AllDo.cons _ (RV.does_store (fun γ L a w hH hl hA => by have h9 := T γ L a w hH; have k9 := hA; simp [Region.binds] at k9; have l0 : L 13 = true := hA ⟨13, .data⟩ (by simp) rfl; have e0 := hH.slot 13 6 (by rw [← hD]; rfl) l0; obtain ⟨b, cs, hb1, hb2, hb3, hb4, _⟩ := hH.glob.2 l0; rw [hb1] at e0; obtain ⟨u0, u1, u2, rfl⟩ := arr3 hb4; have z09 : w.cell? ⟨b, 0, none⟩ = some u0 := (by simp [World.cell?, hb3]); have z19 : w.cell? ⟨b, 1, none⟩ = some u1 := (by simp [World.cell?, hb3]); have z29 : w.cell? ⟨b, 2, none⟩ = some u2 := (by simp [World.cell?, hb3]); have zf : ∀ o, w.frozen? ⟨b, o, none⟩ = false := fun o => (by simp [World.frozen?, hb3]); exact ⟨(((w.setCell ⟨b, 0, none⟩ (.int .i64 n.x)).setCell ⟨b, 1, none⟩ (.int .i64 n.y)).setCell ⟨b, 2, none⟩ (.int .i64 n.z)), by simp [execOp, go_sem, e0, z09, z19, z29, zf, h9, k9], trivial, fun j v _ h => h.keep _, ((hH.glob.1.setCell hb2 _).setCell hb2 _).setCell hb2 _, RV.Pend.filled hb1 hb2 (by have q0 := Go.heap_setCell_same w b 0 _ _ (.int .i64 n.x) hb3; have q1 := Go.heap_setCell_same _ b 1 _ _ (.int .i64 n.y) q0; have q2 := Go.heap_setCell_same _ b 2 _ _ (.int .i64 n.z) q1; simpa using q2) (by decide) _⟩)) ?_
                exact RV.AllDo.nil
              · intro γ w5 L9 hL hI9 hG9
                obtain ⟨bn, cs, hb1, hb2, hb3, _, hb5⟩ := hG9.2 (hL 13 (by decide))
                rw [hb5 (hL 14 (by decide))] at hb3
                have hB5 := hG9.1
                clear hL hb5 hI9 hG9
                simp only [RV.putL, Act.put, List.setIfInBounds_toArray, List.set_cons_zero, List.set_cons_succ, Nat.reduceAdd]
                rw [hb1]
                obtain ⟨W5, hW5⟩ : ∃ X : World, X = w5 := ⟨_, rfl⟩
                rw [← hW5] at hB5 hb3 ⊢
                have BN : Hid (Box3 W5 bn n) := ⟨by simp [World.cell?, hb3], by simp [World.cell?, hb3], by simp [World.cell?, hb3], by simp [World.frozen?, hb3], by simp [World.frozen?, hb3], by simp [World.frozen?, hb3]⟩
                have HB5 : Hid (Below w0.heap.size w0 W5) := b_step HBm.out hB5
                clear hW5 hb1 hb3 hB5 L3 x0 x1 x2 y0 y1 y2 z0 z1 z2
                go_wp2_with (fail)
                go_loopg [7] Ls.length (fun gm s wx => ∃ q : Nat, s = .int .i64 (q : Int) ∧ q ≤ Ls.length ∧ gm = Ls.length - q ∧ Hid (∀ q', q' < q → vol pa pb pc (pt Ls q') = 0) ∧ Hid (Below W5.heap.size W5 wx))
                case atStart => exact ⟨0, rfl, Nat.zero_le _, rfl, fun q' h => absurd h (Nat.not_lt_zero _), Below.refl _ _⟩
                case round =>
                  obtain ⟨q, rfl, hq, hgm, HA4, HBq⟩ := hrel
                  have HG4 : Hid _ := hgm
                  clear hgm
                  by_cases hqt : q < Ls.length
                  · obtain ⟨g', off', e', x0, x1, x2⟩ := HC.out q hqt
                    simp only [Option.some.injEq, Addr.mk.injEq, and_true] at e'
                    obtain ⟨rfl, rfl⟩ := e'
                    have x0 := c_after (b_step HB5.out HBq.out) x0
                    have x1 := c_after (b_step HB5.out HBq.out) x1
                    have x2 := c_after (b_step HB5.out HBq.out) x2
                    have y0 := c_after (b_step HB5.out HBq.out) HZ.out.1
                    have y1 := c_after (b_step HB5.out HBq.out) HZ.out.2.1
                    have y2 := c_after (b_step HB5.out HBq.out) HZ.out.2.2
                    have hmin := HIN.out _ (pt_mem hqt)
                    have HM2 : Hid (¬ vol pa pb pc (pt Ls q) = 0 → R = false) := fun h => HM.out ⟨q, hqt, h⟩
                    have HS4 : Hid (vol pa pb pc (pt Ls q) = 0 → ∀ q', q' < q + 1 → vol pa pb pc (pt Ls q') = 0) := fun h q' h1 => by
                      by_cases e : q' = q
                      · subst e; exact h
                      · exact HA4.out q' (by omega)
                    rw [HVO.out] at HM2 HS4
                    generalize pt Ls q = mo at *
                    have L1 : Hid _ := fun w' => minus_any mo pa w' (inB_mono hmin (by decide)) (inB_mono hain (by decide))
                    have L2 : Hid _ := fun w' => rdot_any n (mo.sub pa) w' hnin (sub_in hmin hain)
                    unfold Pt.v at L1 L2
                    obtain ⟨q0, q1, q2, _, _, _⟩ := BN.out.step HBq.out
                    have hqz : (q : Int) < (Ls.length : Int) := by omega
                    go_upto_region 14 with fail
                    refine RV.region_is [.some (.agg #[.int .i64 (n.x), .int .i64 (n.y), .int .i64 (n.z)]), .some (.slice (some ⟨g, off, none⟩) Ls.length c), .some (.int .i64 ((q : Int))), .some (.pointer (some ⟨g, off + q * 3, none⟩)), .some (.agg #[.int .i64 (mo.x), .int .i64 (mo.y), .int .i64 (mo.z)]), .some (.slice (some ⟨g, off, none⟩) Ls.length c), .some (.int .i64 ((m : Int))), .some (.pointer (some ⟨g, off + m * 3, none⟩)), .some (.agg #[.int .i64 (pa.x), .int .i64 (pa.y), .int .i64 (pa.z)]), .some (.agg #[.int .i64 ((mo.sub pa).x), .int .i64 ((mo.sub pa).y), .int .i64 ((mo.sub pa).z)]), .some (.int .i64 (n.dot (mo.sub pa))), .some (.bool (n.dot (mo.sub pa) != 0))] [44, 45, 46, 47, 48, 49, 50, 51, 52, 53, 54, 55] [(0, .slice (some ⟨g, off, none⟩) Ls.length c), (5, .int .i64 ((m : Int))), (6, .pointer (some ⟨bn, 0, none⟩)), (7, .int .i64 ((q : Int)))] (fun γ L w9 => Below wr.heap.size wr w9) (by kernel_rfl) (by kernel_rfl) (by kernel_rfl) (by kernel_rfl) (by kernel_rfl) (by kernel_rfl) (by kernel_rfl) ⟨rfl, rfl, rfl, rfl, trivial⟩ ?_ ?_ ?_
                    · exact (Below.refl _ wr).drew
                    · intro D WA Z hD hWA hZ T
                      simp only [RV.Outs, RV.Slots, Nat.reduceAdd] at T
                      iterate 9 first
                        | (refine RV.AllDo.cons _ (RV.pu T (fun γ v L w hl h => h) (fun γ L a w hH hl h9 k9 => ⟨_, ?_, rfl⟩)) ?_; · simp [execOp, go_sem, h9])
                        | (refine RV.AllDo.cons _ (RV.pu T (fun γ v L w hl h => h) (fun γ L a w hH hl h9 k9 => ⟨_, ?_, rfl⟩)) ?_; · simp [Region.binds] at k9; simp [execOp, go_sem, h9, k9, hqz, hmz])
                        | (refine RV.AllDo.cons _ (RV.pu T (fun γ v L w hl h => h) (fun γ L a w hH hl h9 k9 => ⟨_, ?_, rfl⟩)) ?_; · have hB9 := hH.glob; have v0 := c_after hB9 x0; have v1 := c_after hB9 x1; have v2 := c_after hB9 x2; simp [Region.binds] at k9; simp [execOp, go_sem, h9, k9, v0, v1, v2])
                        | (refine RV.AllDo.cons _ (RV.pu T (fun γ v L w hl h => h) (fun γ L a w hH hl h9 k9 => ⟨_, ?_, rfl⟩)) ?_; · have hB9 := hH.glob; have v0 := c_after hB9 y0; have v1 := c_after hB9 y1; have v2 := c_after hB9 y2; simp [Region.binds] at k9; simp [execOp, go_sem, h9, k9, v0, v1, v2])
                        | (refine RV.AllDo.cons _ (RV.pu T (fun γ v L w hl h => h) (fun γ L a w hH hl h9 k9 => ⟨_, ?_, rfl⟩)) ?_; · have hB9 := hH.glob; have q0 := c_after hB9 q0; have q1 := c_after hB9 q1; have q2 := c_after hB9 q2; simp [execOp, go_sem, h9, q0, q1, q2])
                      refine RV.AllDo.cons _ (RV.does_call (fun γ L a w hH hl hA => by have h9 := T γ L a w hH; have k9 := hA; simp [Region.binds] at k9; have hB9 := hH.glob; exact ⟨21, #[.agg #[.int .i64 (mo.x), .int .i64 (mo.y), .int .i64 (mo.z)], .agg #[.int .i64 (pa.x), .int .i64 (pa.y), .int .i64 (pa.z)]], by simp [go_sem, h9, k9], Calls.mono (L1.out w) (by rintro e w2 ⟨rfl, hb⟩; exact ⟨_, rfl, rfl, fun j v _ h => h.keep _, hB9.trans (hb.mono hB9.size)⟩)⟩)) ?_
                      refine RV.AllDo.cons _ (RV.does_call (fun γ L a w hH hl hA => by have h9 := T γ L a w hH; have k9 := hA; simp [Region.binds] at k9; have hB9 := hH.glob; exact ⟨22, #[.agg #[.int .i64 (n.x), .int .i64 (n.y), .int .i64 (n.z)], .agg #[.int .i64 ((mo.sub pa).x), .int .i64 ((mo.sub pa).y), .int .i64 ((mo.sub pa).z)]], by simp [go_sem, h9, k9], Calls.mono (L2.out w) (by rintro e w2 ⟨rfl, hb⟩; exact ⟨_, rfl, rfl, fun j v _ h => h.keep _, hB9.trans (hb.mono hB9.size)⟩)⟩)) ?_
                      (refine RV.AllDo.cons _ (RV.pu T (fun γ v L w hl h => h) (fun γ L a w hH hl h9 k9 => ⟨_, ?_, rfl⟩)) ?_; · simp [Region.binds] at k9; simp [execOp, go_sem, h9, k9])
                      exact RV.AllDo.nil
                    · intro γ w5 L9 hL hI9 hG9
                      have hb8 := hG9
                      clear hL hI9 hG9
                      simp only [RV.putL, Act.put, List.setIfInBounds_toArray, List.set_cons_zero, List.set_cons_succ]
                      have HB7 : Hid _ := b_step HBq.out hb8
                      clear hb8 L1 L2 q0 q1 q2 x0 x1 x2
                      generalize n.dot (mo.sub pa) = dd at *
                      by_cases hd : dd = 0
                      · have HS5 : Hid _ := HS4.out hd
                        subst hd
                        clear HM2
                        go_wp2_with (fail)
                        go_roundg (Ls.length - (q + 1))
                        case measure => have := HG4.out; omega
                        case rel => exact ⟨q + 1, by go_num, by omega, rfl, HS5, HB7⟩
                      · have e : R = false := HM2.out hd
                        subst e
                        have hd2 : (dd != 0) = true := bne_iff_ne.2 hd
                        go_wp2_with (fail)
                        go_ret
                        exact ⟨rfl, b_step HB5.out HB7.out⟩
                  · have HS3 : Hid _ := HS3.out (fun q' h => HA4.out q' (by omega))
                    go_wp2_with (fail)
                    go_roundg (k - (m + 1))
                    case measure => have := HG3.out; omega
                    case rel => exact ⟨m + 1, by go_num, by omega, rfl, HS3, b_step HB5.out HBq.out⟩
            · have HS2 : Hid (∀ k' m q, k' < k + 1 → m < k' → q < Ls.length → vol (pt Ls m) (pt Ls k') (pt Ls i) (pt Ls q) = 0) := fun k' m' q h1 h2 h3 => by
                by_cases e : k' = k
                · subst e; exact HA3.out m' q (by omega) h3
                · exact HA2.out k' m' q (by omega) h2 h3
              go_wp2_with (fail)
              go_roundg (i - (k + 1))
              case measure => have := HG2.out; omega
              case rel => exact ⟨k + 1, by go_num, by omega, rfl, HS2, HBm⟩
        · have HS1 : Hid (∀ i' k m q, i' < i + 1 → m < k → k < i' → q < Ls.length → vol (pt Ls m) (pt Ls k) (pt Ls i') (pt Ls q) = 0) := fun i' k' m' q h1 h2 h3 h4 => by
            by_cases e : i' = i
            · subst e; exact HA2.out k' m' q (by omega) h2 h4
            · exact HA.out i' k' m' q (by omega) h2 h3 h4
          go_wp2_with (fail)
          go_roundg (Ls.length - (i + 1))
          case measure => have := HG1.out; omega
          case rel => exact ⟨i + 1, by go_num, by omega, rfl, HS1, HBk⟩
    · have e : R = true := HF.out.1 (fun i' k' m' q h1 h2 h3 h4 => HA.out i' k' m' q (by omega) h1 h2 h4)
      subst e
      go_wp2_with (fail)
      go_ret
      exact ⟨rfl, HBi.out⟩
end Go.Proofs.Ytfalniafkambmaa
namespace Go.Proofs.Ytfalniafkambmaa
open Go.RowKit Go.Shelf
set_option linter.unusedVariables false

theorem pt_getElem {L : List Pt} {i : Nat} (h : i < L.length) : pt L i = L[i] := by unfold pt; simp [h]
theorem may_iff {L : List Pt} (h4 : 4 ≤ L.length) (h12 : L.length ≤ 12) : mayP L = true ↔ ∀ j, j < L.length → (pt L j).inB 65536 = true ∧ ∀ j', j' < j → pt L j' ≠ pt L j := by
  unfold mayP
  rw [decide_eq_true (p := 4 ≤ L.length ∧ L.length ≤ 12) ⟨h4, h12⟩, Bool.true_and, Bool.and_eq_true, decide_eq_true_eq, List.all_eq_true]
  constructor
  · rintro ⟨h1, h2⟩ j hj
    refine ⟨h1 _ (pt_mem hj), fun j' hj' e => ?_⟩
    rw [pt_getElem hj, pt_getElem (by omega : j' < L.length)] at e
    exact (List.pairwise_iff_getElem.1 h2 j' j (by omega) hj hj') e
  · intro h
    refine ⟨fun p hp => ?_, List.pairwise_iff_getElem.2 fun i j hi hj hij e => ?_⟩
    · obtain ⟨i, hi, rfl⟩ := List.getElem_of_mem hp
      rw [← pt_getElem hi]; exact (h i hi).1
    · exact (h j hj).2 i hij (by rw [pt_getElem hi, pt_getElem hj]; exact e)
set_option maxHeartbeats 2000000 in
set_option maxRecDepth 100000 in
theorem rform_hull (r : Int) (hf : Pt) (pv : Value) (Ls : List Pt) (w : World) (hv : Lies w pv Ls) :
    Calls Try.prog 56 #[.agg #[.int .i64 4, .int .i64 r, .int .i64 hf.x, .int .i64 hf.y, .int .i64 hf.z, pv]] w fun e W => e = .returned (.bool (inR r 0 16384 && mayP Ls)) ∧ Below w.heap.size w W := by
  obtain ⟨hx, hy, hz⟩ := hf
  obtain ⟨o, c, rfl, hlc, hcm, hcell⟩ := hv.form
  have HC : Hid _ := hcell
  clear hcell hv
  dsimp only
  have hB : Hid (Below w.heap.size w (w.alloc (.cells #[.int .i64 4, .int .i64 r, .int .i64 hx, .int .i64 hy, .int .i64 hz, .slice o Ls.length c] 54))) := n_after w _
  have B1 : Hid (Cells (w.alloc (.cells #[.int .i64 4, .int .i64 r, .int .i64 hx, .int .i64 hy, .int .i64 hz, .slice o Ls.length c] 54)) w.heap.size [.int .i64 4, .int .i64 r, .int .i64 hx, .int .i64 hy, .int .i64 hz, .slice o Ls.length c]) := Cells.new w [.int .i64 4, .int .i64 r, .int .i64 hx, .int .i64 hy, .int .i64 hz, .slice o Ls.length c] _
  cases hb : inR r 0 16384 with
  | false =>
    go_enter Try.func56, Try.ntmps56
    go_wp2_with (fail)
    refine Calls.mono (rin_is r 0 16384 _ false hb) ?_
    rintro e w' ⟨rfl, rfl⟩
    go_wp2_with (fail)
    go_ret
    exact ⟨rfl, hB.out⟩
  | true =>
    cases hl : inR (Ls.length : Int) 4 12 with
    | false =>
      have e : mayP Ls = false := by
        unfold mayP
        rw [decide_eq_false (p := 4 ≤ Ls.length ∧ Ls.length ≤ 12) (by have := of_decide_eq_false hl; omega)]; rfl
      rw [e]
      clear e
      go_enter Try.func56, Try.ntmps56
      go_wp2_with (fail)
      refine Calls.mono (rin_is r 0 16384 _ true hb) ?_
      rintro e w' ⟨rfl, rfl⟩
      go_wp2_with (fail)
      refine Calls.mono (rin_is _ 4 12 _ false hl) ?_
      rintro e w' ⟨rfl, rfl⟩
      go_wp2_with (fail)
      go_ret
      exact ⟨rfl, hB.out⟩
    | true =>
      have h4 : 4 ≤ Ls.length := by have := of_decide_eq_true hl; omega
      have h12 : Ls.length ≤ 12 := by have := of_decide_eq_true hl; omega
      have HF : Hid _ := may_iff h4 h12
      generalize mayP Ls = R at *
      obtain ⟨g, off, rfl, _, _, _⟩ := HC.out 0 (by omega)
      go_enter Try.func56, Try.ntmps56
      go_wp2_with (fail)
      refine Calls.mono (rin_is r 0 16384 _ true hb) ?_
      rintro e w' ⟨rfl, rfl⟩
      go_wp2_with (fail)
      refine Calls.mono (rin_is _ 4 12 _ true hl) ?_
      rintro e V ⟨rfl, rfl⟩
      clear hb hl
      go_wp2_with (fail)
      obtain ⟨V, hV⟩ : ∃ V : World, V = w.alloc (.cells #[.int .i64 4, .int .i64 r, .int .i64 hx, .int .i64 hy, .int .i64 hz, .slice (some ⟨g, off, none⟩) Ls.length c] 54) := ⟨_, rfl⟩
      rw [← hV] at B1 hB ⊢
      clear hV
      go_loopg [4] Ls.length (fun gm s wr => ∃ i : Nat, s = .int .i64 (i : Int) ∧ i ≤ Ls.length ∧ gm = Ls.length - i ∧ Hid (∀ j, j < i → (pt Ls j).inB 65536 = true ∧ ∀ j', j' < j → pt Ls j' ≠ pt Ls j) ∧ Hid (Below V.heap.size V wr))
      case atStart => exact ⟨0, rfl, Nat.zero_le _, rfl, fun j h => absurd h (Nat.not_lt_zero _), Below.refl _ _⟩
      case round =>
        obtain ⟨i, rfl, hi, hgm, HA, HBi⟩ := hrel
        have HG1 : Hid _ := hgm
        clear hgm
        have s5 := (Cells.step B1.out HBi.out 5 _ rfl).1
        by_cases hit : i < Ls.length
        · obtain ⟨g', off', e', x0, x1, x2⟩ := HC.out i hit
          simp only [Option.some.injEq, Addr.mk.injEq, and_true] at e'
          obtain ⟨rfl, rfl⟩ := e'
          have HX : Hid _ := And.intro (c_after hB.out x0) (And.intro (c_after hB.out x1) (c_after hB.out x2))
          clear x0 x1 x2
          have x0 := c_after HBi.out HX.out.1
          have x1 := c_after HBi.out HX.out.2.1
          have x2 := c_after HBi.out HX.out.2.2
          have HW : Hid _ := fun w' => rwithin_any (pt Ls i) (-65536) 65536 w'
          rw [inP_sym] at HW
          have HM : Hid ((pt Ls i).inB 65536 = false → R = false) := fun h => by
            cases R with
            | false => rfl
            | true => have := (HF.out.1 rfl i hit).1; rw [h] at this; cases this
          have HM2 : Hid (∀ k, k < i → pt Ls k = pt Ls i → R = false) := fun k hk h => by
            cases R with
            | false => rfl
            | true => exact absurd h ((HF.out.1 rfl i hit).2 k hk)
          have HS1 : Hid ((pt Ls i).inB 65536 = true → (∀ j', j' < i → pt Ls j' ≠ pt Ls i) → ∀ j, j < i + 1 → (pt Ls j).inB 65536 = true ∧ ∀ j', j' < j → pt Ls j' ≠ pt Ls j) := fun h1 h2 j hj => by
            by_cases e : j = i
            · subst e; exact ⟨h1, h2⟩
            · exact HA.out j (by omega)
          generalize pt Ls i = pc at *
          unfold Pt.v at HW
          generalize pc.inB 65536 = t at *
          go_wp2_with (fail)
          refine Calls.mono (HW.out _) ?_
          rintro e V1 ⟨rfl, hb1⟩
          have HB1 : Hid _ := b_step HBi.out hb1
          clear hb1 x0 x1 x2 s5 HW
          cases t with
          | false =>
            have e : R = false := HM.out rfl
            subst e
            go_wp2_with (fail)
            go_ret
            exact ⟨rfl, b_step hB.out HB1.out⟩
          | true =>
            have HS2 : Hid _ := HS1.out rfl
            clear HS1 HM
            go_wp2_with (fail)
            go_loopg [6] i (fun gm s wr => ∃ k : Nat, s = .int .i64 (k : Int) ∧ k ≤ i ∧ gm = i - k ∧ Hid (∀ j', j' < k → pt Ls j' ≠ pc) ∧ Hid (Below V.heap.size V wr))
            case atStart => exact ⟨0, rfl, Nat.zero_le _, rfl, fun j' h => absurd h (Nat.not_lt_zero _), HB1⟩
            case round =>
              obtain ⟨k, rfl, hk, hgm, HA2, HBk⟩ := hrel
              have HG2 : Hid _ := hgm
              clear hgm
              by_cases hkt : k < i
              · have hkl : k < Ls.length := by omega
                obtain ⟨g', off', e', y0, y1, y2⟩ := HC.out k hkl
                simp only [Option.some.injEq, Addr.mk.injEq, and_true] at e'
                obtain ⟨rfl, rfl⟩ := e'
                have y0 := c_after (b_step hB.out HBk.out) y0
                have y1 := c_after (b_step hB.out HBk.out) y1
                have y2 := c_after (b_step hB.out HBk.out) y2
                have x0 := c_after HBk.out HX.out.1
                have x1 := c_after HBk.out HX.out.2.1
                have x2 := c_after HBk.out HX.out.2.2
                have s5 := (Cells.step B1.out HBk.out 5 _ rfl).1
                have HEQ : Hid (pt Ls k = pc → R = false) := HM2.out k hkt
                have HNE : Hid (¬ pt Ls k = pc → ∀ j', j' < k + 1 → pt Ls j' ≠ pc) := fun h j' hj => by
                  by_cases e : j' = k
                  · subst e; exact h
                  · exact HA2.out j' (by omega)
                rw [pt_eq] at HEQ HNE
                generalize (pt Ls k).x = lx at *
                generalize (pt Ls k).y = ly at *
                generalize (pt Ls k).z = lz at *
                by_cases ex : lx = pc.x
                · by_cases ey : ly = pc.y
                  · by_cases ez : lz = pc.z
                    · have e : R = false := HEQ.out ⟨ex, ey, ez⟩
                      subst e ex ey ez
                      go_wp2_with (fail)
                      go_region
                      go_wp2_with (fail)
                      go_ret
                      exact ⟨rfl, b_step hB.out HBk.out.drew⟩
                    · have HN : Hid _ := HNE.out (fun h => ez h.2.2)
                      have e1 : (lz == pc.z) = false := beq_eq_false_iff_ne.2 ez
                      clear HEQ HNE
                      go_wp2_with (fail)
                      go_region
                      go_wp2_with (fail)
                      go_roundg (i - (k + 1))
                      case measure => have := HG2.out; omega
                      case rel => exact ⟨k + 1, by go_num, by omega, rfl, HN, HBk.out.drew⟩
                  · have HN : Hid _ := HNE.out (fun h => ey h.2.1)
                    have e1 : (ly == pc.y) = false := beq_eq_false_iff_ne.2 ey
                    clear HEQ HNE
                    go_wp2_with (fail)
                    go_region
                    go_wp2_with (fail)
                    go_roundg (i - (k + 1))
                    case measure => have := HG2.out; omega
                    case rel => exact ⟨k + 1, by go_num, by omega, rfl, HN, HBk.out.drew⟩
                · have HN : Hid _ := HNE.out (fun h => ex h.1)
                  have e1 : (lx == pc.x) = false := beq_eq_false_iff_ne.2 ex
                  clear HEQ HNE
                  go_wp2_with (fail)
                  go_region
                  go_wp2_with (fail)
                  go_roundg (i - (k + 1))
                  case measure => have := HG2.out; omega
                  case rel => exact ⟨k + 1, by go_num, by omega, rfl, HN, HBk.out.drew⟩
              · have HS3 : Hid _ := HS2.out (fun j' h => HA2.out j' (by omega))
                go_wp2_with (fail)
                go_roundg (Ls.length - (i + 1))
                case measure => have := HG1.out; omega
                case rel => exact ⟨i + 1, by go_num, by omega, rfl, HS3, HBk⟩
        · have e : R = true := HF.out.2 (fun j hj => HA.out j (by omega))
          subst e
          go_wp2_with (fail)
          go_ret
          exact ⟨rfl, b_step hB.out HBi.out⟩
end Go.Proofs.Ytfalniafkambmaa
namespace Go.Proofs.Ytfalniafkambmaa
open Go.RowKit Go.Shelf
set_option linter.unusedVariables false

set_option maxHeartbeats 2000000 in
set_option maxRecDepth 100000 in
theorem rform_any (s : Sh) (pv : Value) (w : World) (hv : Lies w pv s.pts) :
    Calls Try.prog 56 #[s.v pv] w fun e W => e = .returned (.bool (formP s)) ∧ Below w.heap.size w W := by
  obtain ⟨k, r, ⟨hx, hy, hz⟩, L⟩ := s
  have HF : Hid (formP ⟨k, r, ⟨hx, hy, hz⟩, L⟩ = if k = 1 then inR r 1 16384 else if k = 2 then inR r 1 16384 && halfOk hx else if k = 3 then inR r 0 16384 && (halfOk hx && (halfOk hy && halfOk hz)) else if k = 4 then inR r 0 16384 && mayP L else false) := rfl
  generalize formP ⟨k, r, ⟨hx, hy, hz⟩, L⟩ = F at *
  have HV : Hid _ := hv
  have hB : Hid (Below w.heap.size w (w.alloc (.cells #[.int .i64 k, .int .i64 r, .int .i64 hx, .int .i64 hy, .int .i64 hz, pv] 54))) := n_after w _
  have B1 : Hid (Cells (w.alloc (.cells #[.int .i64 k, .int .i64 r, .int .i64 hx, .int .i64 hy, .int .i64 hz, pv] 54)) w.heap.size [.int .i64 k, .int .i64 r, .int .i64 hx, .int .i64 hy, .int .i64 hz, pv]) := Cells.new w [.int .i64 k, .int .i64 r, .int .i64 hx, .int .i64 hy, .int .i64 hz, pv] _
  obtain ⟨o, c, rfl, hlc, hcm, _⟩ := hv.form
  dsimp only at hlc hcm hB HV ⊢
  clear hv
  unfold Sh.v
  dsimp only
  by_cases k1 : k = 1
  · subst k1
    have e : F = inR r 1 16384 := HF.out
    subst e
    generalize hb : inR r 1 16384 = t
    go_enter Try.func56, Try.ntmps56
    go_wp2_with (fail)
    refine Calls.mono (rin_is r 1 16384 _ t hb) ?_
    rintro e w' ⟨rfl, rfl⟩
    go_wp2_with (fail)
    go_ret
    exact ⟨rfl, hB.out⟩
  by_cases k2 : k = 2
  · subst k2
    have e : F = (inR r 1 16384 && halfOk hx) := HF.out
    cases hb : inR r 1 16384 with
    | false =>
      rw [hb] at e
      subst e
      go_enter Try.func56, Try.ntmps56
      go_wp2_with (fail)
      refine Calls.mono (rin_is r 1 16384 _ false hb) ?_
      rintro e w' ⟨rfl, rfl⟩
      go_wp2_with (fail)
      go_ret
      exact ⟨rfl, hB.out⟩
    | true =>
      rw [hb] at e
      have e2 : F = inR hx 1 65536 := e
      clear e
      subst e2
      generalize hh : inR hx 1 65536 = t
      go_enter Try.func56, Try.ntmps56
      go_wp2_with (fail)
      refine Calls.mono (rin_is r 1 16384 _ true hb) ?_
      rintro e w' ⟨rfl, rfl⟩
      go_wp2_with (fail)
      refine Calls.mono (rin_is hx 1 65536 _ t hh) ?_
      rintro e w' ⟨rfl, rfl⟩
      go_wp2_with (fail)
      go_ret
      exact ⟨rfl, hB.out⟩
  by_cases k3 : k = 3
  · subst k3
    have e : F = (inR r 0 16384 && inP ⟨hx, hy, hz⟩ 1 65536) := HF.out
    have HW : Hid _ := fun w' => rwithin_any ⟨hx, hy, hz⟩ 1 65536 w'
    generalize inP ⟨hx, hy, hz⟩ 1 65536 = u at *
    unfold Pt.v at HW
    dsimp only at HW
    subst e
    generalize hb : inR r 0 16384 = t
    have c2 := (B1.out 2 _ rfl).1
    have c3 := (B1.out 3 _ rfl).1
    have c4 := (B1.out 4 _ rfl).1
    go_enter Try.func56, Try.ntmps56
    go_wp2_with (fail)
    refine Calls.mono (HW.out _) ?_
    rintro e V ⟨rfl, hb2⟩
    have c1 := (Cells.step B1.out hb2 1 _ rfl).1
    have hB2 : Hid _ := b_step hB.out hb2
    clear hb2 c2 c3 c4
    cases t with
    | false =>
      go_wp2_with (fail)
      refine Calls.mono (rin_is r 0 16384 _ false hb) ?_
      rintro e w' ⟨rfl, rfl⟩
      go_wp2_with (fail)
      go_ret
      exact ⟨rfl, hB2.out⟩
    | true =>
      go_wp2_with (fail)
      refine Calls.mono (rin_is r 0 16384 _ true hb) ?_
      rintro e w' ⟨rfl, rfl⟩
      go_wp2_with (fail)
      go_ret
      exact ⟨rfl, hB2.out⟩
  by_cases k4 : k = 4
  · subst k4
    have e : F = (inR r 0 16384 && mayP L) := HF.out
    rw [e]
    exact rform_hull r ⟨hx, hy, hz⟩ _ L w HV.out
  · have e : F = false := by rw [HF.out, if_neg k1, if_neg k2, if_neg k3, if_neg k4]
    subst e
    go_enter Try.func56, Try.ntmps56
    go_wp2
    go_ret
    exact ⟨rfl, hB.out⟩
set_option maxHeartbeats 1000000 in
set_option maxRecDepth 100000 in
theorem rcheck_any (s : Sh) (pv : Value) (w : World) (hv : Lies w pv s.pts) :
    Calls Try.prog 31 #[s.v pv] w fun e W => e = .returned (.int .i64 (checkP s)) ∧ Below w.heap.size w W := by
  have hB : Hid (Below w.heap.size w (w.alloc (.cells #[.int .i64 s.kind, .int .i64 s.radius, .int .i64 s.half.x, .int .i64 s.half.y, .int .i64 s.half.z, pv] 54))) := n_after w _
  have HF : Hid _ := rform_any s pv (w.alloc (.cells #[.int .i64 s.kind, .int .i64 s.radius, .int .i64 s.half.x, .int .i64 s.half.y, .int .i64 s.half.z, pv] 54)) (hv.below hB.out)
  have HC : Hid (checkP s = if formP s then (if s.kind = 4 ∧ flatP s.pts = true then 51 else 0) else 50) := rfl
  have HM : Hid (formP s = true → s.kind = 4 → mayP s.pts = true) := fun a b => form_hull a b
  generalize checkP s = C at *
  have HV : Hid _ := hv
  obtain ⟨o, c, rfl, hlc, hcm, _⟩ := hv.form
  clear hv
  generalize formP s = F at *
  obtain ⟨k, r, ⟨hx, hy, hz⟩, L⟩ := s
  unfold Sh.v at *
  dsimp only at *
  cases F with
  | false =>
    have e : C = 50 := HC.out
    subst e
    go_enter Try.func31, Try.ntmps31
    go_wp2_with (go_at_call 56; refine Calls.mono HF.out ?_; rintro e V ⟨rfl, hb⟩)
    go_ret
    exact ⟨rfl, b_step hB.out hb⟩
  | true =>
    have c0 : (w.alloc (.cells #[.int .i64 k, .int .i64 r, .int .i64 hx, .int .i64 hy, .int .i64 hz, .slice o L.length c] 54)).cell? ⟨w.heap.size, 0, none⟩ = some (.int .i64 k) := by simp
    have c5 : (w.alloc (.cells #[.int .i64 k, .int .i64 r, .int .i64 hx, .int .i64 hy, .int .i64 hz, .slice o L.length c] 54)).cell? ⟨w.heap.size, 5, none⟩ = some (.slice o L.length c) := by simp
    by_cases k4 : k = 4
    · subst k4
      obtain ⟨m1, m2, m3, m4⟩ := may_parts (HM.out rfl rfl)
      have m3 : Hid _ := m3
      have m5 : Hid (pt L 0 ≠ pt L 1) := fun e => by
        rw [pt_getElem (by omega : 0 < L.length), pt_getElem (by omega : 1 < L.length)] at e
        exact (List.pairwise_iff_getElem.1 m4 0 1 (by omega) (by omega) (by omega)) e
      have HC : Hid (C = if flatP L = true then 51 else 0) := by show _ = _; rw [HC.out]; simp
      go_enter Try.func31, Try.ntmps31
      go_wp2_with (fail)
      refine Calls.mono HF.out ?_
      clear HF
      rintro e V ⟨rfl, hb⟩
      have d0 := c_after hb c0
      have d5 := c_after hb c5
      have hB2 : Hid _ := b_step hB.out hb
      clear hb c0 c5
      go_wp2_with (fail)
      refine Calls.mono (rflat_any _ L V (HV.out.below hB2.out) m1 m2 m3.out m5.out) ?_
      rintro e V2 ⟨rfl, hb⟩
      clear d0 d5
      generalize flatP L = fl at *
      cases fl with
      | true =>
        have e : C = 51 := HC.out
        subst e
        go_wp2_with (fail)
        go_ret
        exact ⟨rfl, b_step hB2.out hb⟩
      | false =>
        have e : C = 0 := HC.out
        subst e
        go_wp2_with (fail)
        go_ret
        exact ⟨rfl, b_step hB2.out hb⟩
    · have e : C = 0 := by rw [HC.out, if_pos rfl, if_neg (fun h => k4 h.1)]
      subst e
      go_enter Try.func31, Try.ntmps31
      go_wp2_with (fail)
      refine Calls.mono HF.out ?_
      clear HF
      rintro e V ⟨rfl, hb⟩
      have d0 := c_after hb c0
      have hB2 : Hid _ := b_step hB.out hb
      clear hb c0 c5
      go_wp2_with (fail)
      go_ret
      exact ⟨rfl, hB2.out⟩
end Go.Proofs.Ytfalniafkambmaa
namespace Go.Proofs.Ytfalniafkambmaa
open Go.RowKit Go.Shelf Fx
set_option linter.unusedVariables false

def maxI (n a : Int) : Int := if a > n then a else n
def minI (n a : Int) : Int := if a < n then a else n
end Go.Proofs.Ytfalniafkambmaa
namespace Go.Proofs.Ytfalniafkambmaa
open Go.RowKit Go.Shelf
set_option linter.unusedVariables false

def pickZ (c n : Int) : Int := (if c < 0 then -(c + 1) else c) % n
theorem pickZ_lo (c : Int) {n : Int} (hn : 0 < n) : 0 ≤ pickZ c n := Int.emod_nonneg _ (by omega)
theorem pickZ_hi (c : Int) {n : Int} (hn : 0 < n) : pickZ c n < n := Int.emod_lt_of_pos _ hn
theorem pick_any (c n : Int) (w : World) (hc : -9223372036854775808 ≤ c ∧ c ≤ 9223372036854775807) (hn : 0 < n) (hn' : n ≤ 9223372036854775807) :
    Calls Try.prog 33 #[.int .i64 c, .int .i64 n] w fun e w' => e = .returned (.int .i64 (pickZ c n)) ∧ w' = w := by
  unfold pickZ
  by_cases h : c < 0
  · have hb : 0 ≤ -(c + 1) := by omega
    have hb' : -(c + 1) ≤ 9223372036854775807 := by omega
    have hz : (n == 0) = false := beq_eq_false_iff_ne.2 (by omega)
    rw [if_pos h]
    go_enter Try.func33, Try.ntmps33
    go_wp2
    go_ret
    have e : (c + 1).tmod n = -(-(c + 1) % n) := by
      rw [← Int.tmod_eq_emod_of_nonneg hb, Int.neg_tmod, Int.neg_neg]
    exact ⟨by rw [e, Int.neg_neg]; rfl, rfl⟩
  · have hz : (n == 0) = false := beq_eq_false_iff_ne.2 (by omega)
    rw [if_neg h]
    go_enter Try.func33, Try.ntmps33
    go_wp2
    go_ret
    exact ⟨rfl, rfl⟩
theorem pick_below (c n : Int) (w : World) (hc : -9223372036854775808 ≤ c ∧ c ≤ 9223372036854775807) (hn : 0 < n) (hn' : n ≤ 9223372036854775807) :
    Calls Try.prog 33 #[.int .i64 c, .int .i64 n] w fun e w' => e = .returned (.int .i64 (pickZ c n)) ∧ Below w.heap.size w w' :=
  Calls.mono (pick_any c n w hc hn hn') (by rintro e w2 ⟨rfl, rfl⟩; exact ⟨rfl, Below.refl _ _⟩)
theorem arr6 {cs : Array Value} (h : cs.size = 6) : ∃ a b c d e f, cs = #[a, b, c, d, e, f] := by
  obtain ⟨l⟩ := cs
  match l, h with
  | [a, b, c, d, e, f], _ => exact ⟨a, b, c, d, e, f, rfl⟩
end Go.Proofs.Ytfalniafkambmaa
namespace Go.Proofs.Ytfalniafkambmaa
open Go.RowKit Go.Shelf
set_option linter.unusedVariables false

theorem part_any (n : Int) (w : World) (hn : -9223372036854775808 ≤ n ∧ n ≤ 9223372036854775807) :
    Calls Try.prog 34 #[.int .i64 n, .int .i64 65536] w fun e w' => e = .returned (.int .i64 (pickZ n 131073 - 65536)) ∧ w' = w := by
  have HP : Hid _ := pick_any n 131073 w hn (by decide) (by decide)
  have l := pickZ_lo n (n := 131073) (by decide)
  have u := pickZ_hi n (n := 131073) (by decide)
  generalize pickZ n 131073 = q at *
  have e1 : IntKind.i64.wrap (q - 65536) = q - 65536 := by rw [IntKind.wrap_i64]; omega
  clear hn l u
  go_enter Try.func34, Try.ntmps34
  go_wp2_with (fail)
  refine Calls.mono HP.out ?_
  rintro e w' ⟨rfl, rfl⟩
  go_wp2_with (fail)
  go_ret
  exact ⟨rfl, rfl⟩
def lowD (L : List Pt) (n a : Pt) (k : Nat) : Int := (L.take k).foldl (fun s p => minI s (n.dot (p.sub a))) 0
def highD (L : List Pt) (n a : Pt) (k : Nat) : Int := (L.take k).foldl (fun s p => maxI s (n.dot (p.sub a))) 0
theorem lowD_next (L : List Pt) (n a : Pt) (k : Nat) (hk : k < L.length) : lowD L n a (k + 1) = minI (lowD L n a k) (n.dot ((pt L k).sub a)) := by unfold lowD; rw [take_pt hk, List.foldl_append]; rfl
theorem highD_next (L : List Pt) (n a : Pt) (k : Nat) (hk : k < L.length) : highD L n a (k + 1) = maxI (highD L n a k) (n.dot ((pt L k).sub a)) := by unfold highD; rw [take_pt hk, List.foldl_append]; rfl
/-- 1: all points are behind the plane, -1: all are ahead of it, 0 else. -/
def sideZ (L : List Pt) (n a : Pt) : Int := if highD L n a L.length ≤ 0 then 1 else if 0 ≤ lowD L n a L.length then -1 else 0
set_option maxHeartbeats 2000000 in
set_option maxRecDepth 100000 in
theorem side_any (v : Value) (Ls : List Pt) (n pa : Pt) (w0 : World) (hv : Lies w0 v Ls) (hl : Ls.length ≤ 100) (hin : ∀ p ∈ Ls, p.inB 65536 = true) (hain : pa.inB 65536 = true) (hnin : n.inB 34359738368 = true) :
    Calls Try.prog 59 #[v, n.v, pa.v] w0 fun e W => e = .returned (.int .i64 (sideZ Ls n pa)) ∧ Below w0.heap.size w0 W := by
  obtain ⟨o, c, rfl, hlc, hcm, hcell⟩ := hv.form
  have HC : Hid _ := hcell
  have HIN : Hid _ := hin
  clear hcell hv hin
  have HS : Hid (sideZ Ls n pa = if highD Ls n pa Ls.length ≤ 0 then 1 else if 0 ≤ lowD Ls n pa Ls.length then -1 else 0) := rfl
  generalize sideZ Ls n pa = R at *
  have B1 : Hid (Box3 ((w0.alloc (.cells #[.int .i64 n.x, .int .i64 n.y, .int .i64 n.z] 23)).alloc (.cells #[.int .i64 pa.x, .int .i64 pa.y, .int .i64 pa.z] 23)) w0.heap.size n) := (Box3.new w0 n.x n.y n.z _).step (n_after _ _)
  have B2 : Hid (Box3 ((w0.alloc (.cells #[.int .i64 n.x, .int .i64 n.y, .int .i64 n.z] 23)).alloc (.cells #[.int .i64 pa.x, .int .i64 pa.y, .int .i64 pa.z] 23)) (w0.heap.size + 1) pa) := by have := Box3.new (w0.alloc (.cells #[.int .i64 n.x, .int .i64 n.y, .int .i64 n.z] 23)) pa.x pa.y pa.z 23; rwa [World.size_alloc] at this
  have hB : Hid (Below w0.heap.size w0 ((w0.alloc (.cells #[.int .i64 n.x, .int .i64 n.y, .int .i64 n.z] 23)).alloc (.cells #[.int .i64 pa.x, .int .i64 pa.y, .int .i64 pa.z] 23))) := b_step (n_after w0 _) (n_after _ _)
  unfold Pt.v
  go_enter Try.func59, Try.ntmps59
  go_wp2_with (fail)
  obtain ⟨V, hV⟩ : ∃ V : World, V = (w0.alloc (.cells #[.int .i64 n.x, .int .i64 n.y, .int .i64 n.z] 23)).alloc (.cells #[.int .i64 pa.x, .int .i64 pa.y, .int .i64 pa.z] 23) := ⟨_, rfl⟩
  obtain ⟨ba, hba⟩ : ∃ ba, ba = w0.heap.size + 1 := ⟨_, rfl⟩
  obtain ⟨bn, hbn⟩ : ∃ bn, bn = w0.heap.size := ⟨_, rfl⟩
  rw [← hV] at B1 B2 hB ⊢
  rw [← hba] at B2 ⊢
  rw [← hbn] at B1 ⊢
  clear hV hba hbn
  go_loopg [7, 8, 9] Ls.length (fun gm s7 s8 s9 wr => ∃ k : Nat, s7 = .int .i64 (lowD Ls n pa k) ∧ s8 = .int .i64 (highD Ls n pa k) ∧ s9 = .int .i64 (k : Int) ∧ k ≤ Ls.length ∧ gm = Ls.length - k ∧ Hid (Below V.heap.size V wr))
  case atStart => exact ⟨0, rfl, rfl, rfl, Nat.zero_le _, rfl, Below.refl _ _⟩
  case round =>
    obtain ⟨k, rfl, rfl, rfl, hk, hgm, HB⟩ := hrel
    have HG : Hid _ := hgm
    clear hgm
    by_cases hkt : k < Ls.length
    · obtain ⟨g, off, rfl, x0, x1, x2⟩ := HC.out k hkt
      have x0 := c_after HB.out (c_after hB.out x0)
      have x1 := c_after HB.out (c_after hB.out x1)
      have x2 := c_after HB.out (c_after hB.out x2)
      have hmin := HIN.out _ (pt_mem hkt)
      have HN1 : Hid _ := lowD_next Ls n pa k hkt
      have HN2 : Hid _ := highD_next Ls n pa k hkt
      generalize pt Ls k = mo at *
      generalize lowD Ls n pa k = lo at *
      generalize highD Ls n pa k = hi at *
      have L1 : Hid _ := fun w' => minus_any mo pa w' (inB_mono hmin (by decide)) (inB_mono hain (by decide))
      have L2 : Hid _ := fun w' => rdot_any n (mo.sub pa) w' hnin (sub_in hmin hain)
      unfold Pt.v at L1 L2
      obtain ⟨q0, q1, q2, _, _, _⟩ := B1.out.step HB.out
      obtain ⟨p0, p1, p2, _, _, _⟩ := B2.out.step HB.out
      have hkz : (k : Int) < (Ls.length : Int) := by omega
      unfold minI at HN1
      unfold maxI at HN2
      obtain ⟨nl, e1⟩ : ∃ v, (if n.dot (mo.sub pa) < lo then n.dot (mo.sub pa) else lo) = v := ⟨_, rfl⟩
      obtain ⟨nh, e2⟩ : ∃ v, (if n.dot (mo.sub pa) > hi then n.dot (mo.sub pa) else hi) = v := ⟨_, rfl⟩
      rw [e1] at HN1
      rw [e2] at HN2
      go_upto_region 6 with fail
      refine RV.region_is [.some (.agg #[.int .i64 (n.x), .int .i64 (n.y), .int .i64 (n.z)]), .some (.slice (some ⟨g, off, none⟩) Ls.length c), .some (.int .i64 ((k : Int))), .some (.pointer (some ⟨g, off + k * 3, none⟩)), .some (.agg #[.int .i64 (mo.x), .int .i64 (mo.y), .int .i64 (mo.z)]), .some (.agg #[.int .i64 (pa.x), .int .i64 (pa.y), .int .i64 (pa.z)]), .some (.agg #[.int .i64 ((mo.sub pa).x), .int .i64 ((mo.sub pa).y), .int .i64 ((mo.sub pa).z)]), .some (.int .i64 (n.dot (mo.sub pa))), .some (.int .i64 (n.dot (mo.sub pa)))] [18, 19, 20, 21, 22, 23, 24, 25, 11] [(0, .slice (some ⟨g, off, none⟩) Ls.length c), (4, .pointer (some ⟨bn, 0, none⟩)), (5, .pointer (some ⟨ba, 0, none⟩)), (9, .int .i64 ((k : Int)))] (fun γ L w9 => Below wr.heap.size wr w9) (by kernel_rfl) (by kernel_rfl) (by kernel_rfl) (by kernel_rfl) (by kernel_rfl) (by kernel_rfl) (by kernel_rfl) ⟨rfl, rfl, rfl, rfl, trivial⟩ ?_ ?_ ?_
      · exact (Below.refl _ wr).drew
      · intro D WA Z hD hWA hZ T
        simp only [RV.Outs, RV.Slots, Nat.reduceAdd] at T
        iterate 6 first
          | (refine RV.AllDo.cons _ (RV.pu T (fun γ v L w hl h => h) (fun γ L a w hH hl h9 k9 => ⟨_, ?_, rfl⟩)) ?_; · simp [execOp, go_sem, h9])
          | (refine RV.AllDo.cons _ (RV.pu T (fun γ v L w hl h => h) (fun γ L a w hH hl h9 k9 => ⟨_, ?_, rfl⟩)) ?_; · simp [Region.binds] at k9; simp [execOp, go_sem, h9, k9, hkz])
          | (refine RV.AllDo.cons _ (RV.pu T (fun γ v L w hl h => h) (fun γ L a w hH hl h9 k9 => ⟨_, ?_, rfl⟩)) ?_; · have hB9 := hH.glob; have v0 := c_after hB9 x0; have v1 := c_after hB9 x1; have v2 := c_after hB9 x2; simp [Region.binds] at k9; simp [execOp, go_sem, h9, k9, v0, v1, v2])
          | (refine RV.AllDo.cons _ (RV.pu T (fun γ v L w hl h => h) (fun γ L a w hH hl h9 k9 => ⟨_, ?_, rfl⟩)) ?_; · have hB9 := hH.glob; have q0 := c_after hB9 q0; have q1 := c_after hB9 q1; have q2 := c_after hB9 q2; have q3 := c_after hB9 p0; have q4 := c_after hB9 p1; have q5 := c_after hB9 p2; simp [execOp, go_sem, h9, q0, q1, q2, q3, q4, q5])
        refine RV.AllDo.cons _ (RV.does_call (fun γ L a w hH hl hA => by have h9 := T γ L a w hH; have k9 := hA; simp [Region.binds] at k9; have hB9 := hH.glob; exact ⟨21, #[.agg #[.int .i64 (mo.x), .int .i64 (mo.y), .int .i64 (mo.z)], .agg #[.int .i64 (pa.x), .int .i64 (pa.y), .int .i64 (pa.z)]], by simp [go_sem, h9, k9], Calls.mono (L1.out w) (by rintro e w2 ⟨rfl, hb⟩; exact ⟨_, rfl, rfl, fun j v _ h => h.keep _, hB9.trans (hb.mono hB9.size)⟩)⟩)) ?_
        refine RV.AllDo.cons _ (RV.does_call (fun γ L a w hH hl hA => by have h9 := T γ L a w hH; have k9 := hA; simp [Region.binds] at k9; have hB9 := hH.glob; exact ⟨22, #[.agg #[.int .i64 (n.x), .int .i64 (n.y), .int .i64 (n.z)], .agg #[.int .i64 ((mo.sub pa).x), .int .i64 ((mo.sub pa).y), .int .i64 ((mo.sub pa).z)]], by simp [go_sem, h9, k9], Calls.mono (L2.out w) (by rintro e w2 ⟨rfl, hb⟩; exact ⟨_, rfl, rfl, fun j v _ h => h.keep _, hB9.trans (hb.mono hB9.size)⟩)⟩)) ?_
        (refine RV.AllDo.cons _ (RV.pu T (fun γ v L w hl h => h) (fun γ L a w hH hl h9 k9 => ⟨_, ?_, rfl⟩)) ?_; · simp [Region.binds] at k9; simp [execOp, go_sem, h9, k9])
        exact RV.AllDo.nil
      · intro γ w5 L9 hL hI9 hG9
        have hb8 := hG9
        clear hL hI9 hG9
        simp only [RV.putL, Act.put, List.setIfInBounds_toArray, List.set_cons_zero, List.set_cons_succ]
        have HB7 : Hid _ := b_step HB.out hb8
        clear hb8 L1 L2 q0 q1 q2 p0 p1 p2 x0 x1 x2
        go_wp2_with (fail)
        go_roundg (Ls.length - (k + 1))
        case measure => have := HG.out; omega
        case rel => exact ⟨k + 1, by rw [HN1.out], by rw [HN2.out], by go_num, by omega, rfl, HB7⟩
    · have e : k = Ls.length := by omega
      subst e
      generalize lowD Ls n pa Ls.length = lo at *
      generalize highD Ls n pa Ls.length = hi at *
      by_cases h1 : hi ≤ 0
      · have e : R = 1 := by rw [HS.out, if_pos h1]
        subst e
        clear HS
        go_wp2_with (fail)
        go_ret
        exact ⟨rfl, b_step hB.out HB.out⟩
      · by_cases h2 : 0 ≤ lo
        · have e : R = -1 := by rw [HS.out, if_neg h1, if_pos h2]
          subst e
          clear HS
          go_wp2_with (fail)
          go_ret
          exact ⟨rfl, b_step hB.out HB.out⟩
        · have e : R = 0 := by rw [HS.out, if_neg h1, if_neg h2]
          subst e
          clear HS
          go_wp2_with (fail)
          go_ret
          exact ⟨rfl, b_step hB.out HB.out⟩
end Go.Proofs.Ytfalniafkambmaa
