/- The document's own farthest of layer 9. -/
import Derived.Test.YtccdgpijjgeedaaKNrP
import Derived.BigQuiet
namespace Go.Proofs.Ytccdgpijjgeedaa
open Go.RowKit Go.Shelf
set_option linter.unusedVariables false

/-- A dot product, step by step. -/
theorem dot_steps {n p : Pt} (hn : n.inB 67108864 = true) (hp : p.inB 67108864 = true) : ∃ a b c d : Int, IntKind.i64.wrap (n.x * p.x) = a ∧ IntKind.i64.wrap (n.y * p.y) = b ∧ IntKind.i64.wrap (a + b) = c ∧ IntKind.i64.wrap (n.z * p.z) = d ∧ IntKind.i64.wrap (c + d) = n.dot p := by
  rw [Pt.inB_iff] at hn hp
  have h1 := mul_in hn.1 hp.1
  have h2 := mul_in hn.2.1 hp.2.1
  have h3 := mul_in hn.2.2 hp.2.2
  refine ⟨n.x * p.x, n.y * p.y, n.x * p.x + n.y * p.y, n.z * p.z, ?_, ?_, ?_, ?_, ?_⟩
  · rw [IntKind.wrap_i64]; omega
  · rw [IntKind.wrap_i64]; omega
  · rw [IntKind.wrap_i64]; omega
  · rw [IntKind.wrap_i64]; omega
  · unfold Pt.dot; rw [IntKind.wrap_i64]; omega
set_option maxHeartbeats 4000000 in
set_option maxRecDepth 100000 in
theorem rfar9_any (n : Pt) (P : List Pt) (v : Value) (w0 : World) (hv : Lies w0 v P) (h0 : 0 < P.length) (hn : n.inB 67108864 = true) (hP : ∀ p ∈ P, p.inB 67108864 = true) :
    Calls Try.prog 56 #[v, n.v] w0 fun e W => e = .returned (.int .i64 (hiP n P)) ∧ Below w0.heap.size w0 W := by
  obtain ⟨o, cap, rfl, hlc, hcm, hcell⟩ := hv.form
  have HC : Hid _ := hcell
  have HD : Hid (∀ i, i < P.length → ∃ a b c d : Int, IntKind.i64.wrap (n.x * (pt P i).x) = a ∧ IntKind.i64.wrap (n.y * (pt P i).y) = b ∧ IntKind.i64.wrap (a + b) = c ∧ IntKind.i64.wrap (n.z * (pt P i).z) = d ∧ IntKind.i64.wrap (c + d) = n.dot (pt P i)) := fun i hi => dot_steps hn (hP _ (pt_mem hi))
  have HE : Hid (hiP n P = hiK n P (P.length - 1)) := rfl
  have HK0 : Hid (n.dot (pt P 0) = hiK n P 0) := rfl
  have HKS : Hid (∀ k, hiK n P (k + 1) = max (hiK n P k) (n.dot (pt P (k + 1)))) := fun k => rfl
  generalize hiP n P = R9 at *
  generalize hiK n P = hk at *
  generalize hdt : (fun i => n.dot (pt P i)) = dt at *
  have hdt' : ∀ i, n.dot (pt P i) = dt i := fun i => by rw [← hdt]
  simp only [hdt'] at HD HK0 HKS
  clear hdt hdt' hv hn hP hcell
  obtain ⟨x, y, z⟩ := n
  unfold Pt.v
  dsimp only at *
  obtain ⟨V, hV⟩ : ∃ V, V = w0.alloc (.cells #[.int .i64 x, .int .i64 y, .int .i64 z] 26) := ⟨_, rfl⟩
  obtain ⟨nb, hnb⟩ : ∃ b, b = w0.heap.size := ⟨_, rfl⟩
  have HB : Hid (Below w0.heap.size w0 V) := by show Below _ _ _; rw [hV]; exact n_after _ _
  have CN : Hid (Cel V nb [.int .i64 x, .int .i64 y, .int .i64 z]) := by show Cel _ _ _; rw [hV, hnb]; exact Cel.new _ _ _
  go_enter Try.func56, Try.ntmps56
  go_upto_region 1 with fail
  rw [← hV, ← hnb]
  clear hV hnb
  have d0 := CN.out 0 _ rfl
  have d1 := CN.out 1 _ rfl
  have d2 := CN.out 2 _ rfl
  go_cut [5] from 7 to 64 (fun s5 wx => s5 = .int .i64 (hk 0) ∧ Hid (Below V.heap.size V wx))
  case first =>
    obtain ⟨g, f, rfl, x0, x1, x2⟩ := HC.out 0 h0
    rw [Nat.zero_mul, Nat.add_zero] at x0 x1 x2
    have x0 := c_after HB.out x0
    have x1 := c_after HB.out x1
    have x2 := c_after HB.out x2
    obtain ⟨a, b, c, d, w1, w2, w3, w4, w5⟩ := HD.out 0 h0
    rw [HK0.out] at w5
    generalize hk 0 = kk at *
    generalize (pt P 0).x = px at *
    generalize (pt P 0).y = py at *
    generalize (pt P 0).z = pz at *
    go_quiet (fail)
    go_wp2_with (fail)
    go_meet
    case rel => exact ⟨rfl, ⟨rfl, rfl, rfl, Nat.le_refl _, fun _ _ => rfl⟩⟩
  case rest =>
    obtain ⟨rfl, HB1⟩ := hcut
    clear d0 d1 d2
    go_wp2_with (fail)
    go_loopg [5, 6] P.length (fun gm s5 s6 wr => ∃ k : Nat, s5 = .int .i64 (hk k) ∧ s6 = .int .i64 ((k : Int) + 1) ∧ k + 1 ≤ P.length ∧ Hid (gm = P.length - k) ∧ Hid (Below V.heap.size V wr))
    case atStart => exact ⟨0, rfl, rfl, by omega, by show _ = _; omega, HB1⟩
    case round =>
      obtain ⟨k, rfl, rfl, hk1, HG, HB2⟩ := hrel
      have HB3 : Hid (Below w0.heap.size w0 wr) := b_step HB.out HB2.out
      by_cases hit : k + 1 < P.length
      · obtain ⟨g, f, rfl, x0, x1, x2⟩ := HC.out (k + 1) hit
        have x0 := c_after HB3.out x0
        have x1 := c_after HB3.out x1
        have x2 := c_after HB3.out x2
        have d0 := c_after HB2.out (CN.out 0 _ rfl)
        have d1 := c_after HB2.out (CN.out 1 _ rfl)
        have d2 := c_after HB2.out (CN.out 2 _ rfl)
        obtain ⟨a, b, c, d, w1, w2, w3, w4, w5⟩ := HD.out (k + 1) hit
        have HS : Hid _ := HKS.out k
        obtain ⟨kk, hkk⟩ : ∃ z, hk k = z := ⟨_, rfl⟩
        obtain ⟨kl, hkl⟩ : ∃ z, hk (k + 1) = z := ⟨_, rfl⟩
        rw [hkk, hkl] at HS
        rw [hkk]
        generalize dt (k + 1) = dd at *
        have zm : (if kk < dd then dd else kk) = kl := by rw [HS.out]; split <;> omega
        generalize (pt P (k + 1)).x = px at *
        generalize (pt P (k + 1)).y = py at *
        generalize (pt P (k + 1)).z = pz at *
        go_upto_region 5 with fail
        go_quiet (fail)
        go_wp2_with (fail)
        go_roundg (P.length - (k + 1))
        case rel => exact ⟨k + 1, by rw [hkl], by simp, by omega, rfl, HB2.out.trans ⟨rfl, rfl, rfl, Nat.le_refl _, fun _ _ => rfl⟩⟩
        case measure => have := HG.out; omega
      · obtain e9 : P.length - 1 = k := by omega
        have HE9 : Hid (R9 = hk k) := by show _ = _; rw [HE.out, e9]
        clear HE e9
        go_wp2_with (fail)
        go_ret
        exact ⟨by rw [HE9.out]; rfl, HB3.out⟩
end Go.Proofs.Ytccdgpijjgeedaa
