/- Reach, as package narrow tells it. -/
import Derived.Test.YtccdgpijjgeedaaSNRight24
import Derived.Test.YtccdgpijjgeedaaSNRight3
import Derived.BigQuiet
set_option linter.unusedVariables false
namespace Go.Proofs.Ytccdgpijjgeedaa
section
open Go.RowKit Go.Shelf
def reachOk (P : List Pt) (n : Pt) : Bool := !decide ((P.length : Int) = 0) && (n.inB 67108864 && P.all (·.inB 67108864))
def reachV (P : List Pt) (n : Pt) : Value := cond (reachOk P n) (.tuple #[.int .i64 (loP n P), .int .i64 (hiP n P)]) (.tuple #[.int .i64 0, .int .i64 0])
set_option maxHeartbeats 4000000 in
set_option maxRecDepth 100000 in
theorem nreach_any (c : Cr) (n : Pt) (pv av ev : Value) (w0 : World) (hp : Lies w0 pv c.P) (ha : Lies w0 av c.A) (he : Lies w0 ev c.E) :
  Calls Try.prog 14 #[coreA pv av ev c.r, n.v] w0 fun e W => e = .returned (reachV c.P n) /\ Below w0.heap.size w0 W := by
 obtain ⟨P, A, E, r⟩ := c
 dsimp only at *
 have HE : Hid _ := fun (w' : World) (h : Below w0.heap.size w0 w') (h0 : ¬ (P.length : Int) = 0) (h1 : n.inB 67108864 = true) (h2 : P.all (·.inB 67108864) = true) => nends_any n P pv w' (hp.below h) (by omega) h1 (fun p hp => List.all_eq_true.1 h2 p hp)
 have H2 : Hid _ := fun (w' : World) (h : Below w0.heap.size w0 w') => nall_any P 67108864 _ w' (hp.below h) (by decide) (by decide)
 have H1 : Hid _ := fun w' => nwithin_any n 67108864 w' (by decide) (by decide)
 obtain ⟨o, cap, rfl, hlc, hcm, _⟩ := hp.form
 obtain ⟨o2, cap2, rfl, _, _, _⟩ := ha.form
 obtain ⟨o3, cap3, rfl, _, _, _⟩ := he.form
 clear hp ha he hlc hcm
 have HR : Hid (reachV P n = cond (!decide ((P.length : Int) = 0) && (n.inB 67108864 && P.all (·.inB 67108864))) (.tuple #[.int .i64 (loP n P), .int .i64 (hiP n P)]) (.tuple #[.int .i64 0, .int .i64 0])) := rfl
 generalize reachV P n = R9 at *
 generalize P.all (·.inB 67108864) = k2 at *
 generalize n.inB 67108864 = k1 at *
 generalize loP n P = lo at *
 generalize hiP n P = hi at *
 obtain ⟨x, y, z⟩ := n
 unfold coreA Pt.v at *
 dsimp only at *
 obtain ⟨V, hV⟩ : ∃ V, V = (w0.alloc (.cells #[.slice o P.length cap, .slice o2 A.length cap2, .slice o3 E.length cap3, .int .i64 r] 24)).alloc (.cells #[.int .i64 x, .int .i64 y, .int .i64 z] 26) := ⟨_, rfl⟩
 obtain ⟨cb, hcb⟩ : ∃ b, b = w0.heap.size := ⟨_, rfl⟩
 obtain ⟨nb, hnb⟩ : ∃ b, b = w0.heap.size + 1 := ⟨_, rfl⟩
 have HB : Hid (Below w0.heap.size w0 V) := by show Below _ _ _; rw [hV]; exact b_step (n_after _ _) (n_after _ _)
 have c9 := Cel.two w0 [.slice o P.length cap, .slice o2 A.length cap2, .slice o3 E.length cap3, .int .i64 r] [.int .i64 x, .int .i64 y, .int .i64 z] 24 26
 have CC : Hid (Cel V cb [.slice o P.length cap, .slice o2 A.length cap2, .slice o3 E.length cap3, .int .i64 r]) := by show Cel _ _ _; rw [hV, hcb]; exact c9.1
 have CN : Hid (Cel V nb [.int .i64 x, .int .i64 y, .int .i64 z]) := by show Cel _ _ _; rw [hV, hnb]; exact c9.2
 clear c9
 go_enter Try.func14, Try.ntmps14
 go_upto_region 1 with fail
 rw [<- hV, <- hnb, <- hcb]
 clear hV hcb hnb
 have q0 := CC.out 0 _ rfl
 have d0 := CN.out 0 _ rfl
 have d1 := CN.out 1 _ rfl
 have d2 := CN.out 2 _ rfl
 by_cases hl : (P.length : Int) = 0
 ·rw [decide_eq_true hl] at HR
  go_wp2_with (fail)
  exact bodyPost_ret (v := .tuple #[.int .i64 0, .int .i64 0]) (by simp [results, Try.results14, go_sem]) rfl ⟨by rw [HR.out]; rfl, HB.out⟩
 ·rw [decide_eq_false hl] at HR
  have hl2 : ¬ P.length = 0 := by omega
  have hl3 : ¬ P = [] := fun e => hl2 (by rw [e]; rfl)
  go_wp2_with (fail)
  refine Calls.mono (H1.out _) ?_
  rintro e V1 ⟨rfl, hb⟩
  have CC : Hid _ := Cel.step CC.out hb
  have CN : Hid _ := Cel.step CN.out hb
  have HB : Hid _ := b_step HB.out hb
  clear hb q0 d0 d1 d2
  have q0 := CC.out 0 _ rfl
  cases k1 with
  | false =>
   go_wp2_with (fail)
   exact bodyPost_ret (v := .tuple #[.int .i64 0, .int .i64 0]) (by simp [results, Try.results14, go_sem]) rfl ⟨by rw [HR.out]; rfl, HB.out⟩
  | true =>
   go_wp2_with (fail)
   refine Calls.mono (H2.out _ HB.out) ?_
   rintro e V2 ⟨rfl, hb⟩
   have CC : Hid _ := Cel.step CC.out hb
   have CN : Hid _ := Cel.step CN.out hb
   have HB : Hid _ := b_step HB.out hb
   clear hb q0
   have q0 := CC.out 0 _ rfl
   have d0 := CN.out 0 _ rfl
   have d1 := CN.out 1 _ rfl
   have d2 := CN.out 2 _ rfl
   cases k2 with
   | false =>
    go_wp2_with (fail)
    exact bodyPost_ret (v := .tuple #[.int .i64 0, .int .i64 0]) (by simp [results, Try.results14, go_sem]) rfl ⟨by rw [HR.out]; rfl, HB.out⟩
   | true =>
    go_wp2_with (fail)
    refine Calls.mono (HE.out _ HB.out hl trivial trivial) ?_
    rintro e V3 ⟨rfl, hb⟩
    have HB : Hid _ := b_step HB.out hb
    clear hb q0 d0 d1 d2
    go_wp2_with (fail)
    exact bodyPost_ret (v := .tuple #[.int .i64 lo, .int .i64 hi]) (by simp [results, Try.results14, go_sem]) rfl ⟨by rw [HR.out]; rfl, HB.out⟩
end
section
open Go.RowKit Go.Shelf
set_option maxHeartbeats 2000000 in
set_option maxRecDepth 100000 in
theorem rlong9_any (p0 : Pt) (w0 : World) :
  Calls Try.prog 55 #[p0.v] w0 fun e W => e = .returned p0.lng.v /\ Below w0.heap.size w0 W := by
 have HS : Hid _ := fun w' => rshort_any p0 w'
 have HX : Hid (∀ q : Pt, ∀ w', Calls Try.prog 29 #[q.v, .int .i64 524288] w' fun e W => e = .returned (.bool (q.inB 524288)) /\ Below w'.heap.size w' W) := fun q w' => rin9_any q 524288 w' (by decide)
 have HL : Hid (p0.lng = if p0.short = Pt.O then Pt.O else lngF 20 p0.short) := rfl
 have HI0 := short_in p0
 have bx0 : Hid (Box3 ((w0.alloc (.cells #[.int .i64 p0.x, .int .i64 p0.y, .int .i64 p0.z] 26)).alloc (.cells #[.int .i64 0, .int .i64 0, .int .i64 0] 26)) w0.heap.size p0) := (Box3.new w0 p0.x p0.y p0.z _).step (n_after _ _)
 have bx1 : Hid (Box3 ((w0.alloc (.cells #[.int .i64 p0.x, .int .i64 p0.y, .int .i64 p0.z] 26)).alloc (.cells #[.int .i64 0, .int .i64 0, .int .i64 0] 26)) (w0.heap.size + 1) Pt.O) := by have := Box3.new (w0.alloc (.cells #[.int .i64 p0.x, .int .i64 p0.y, .int .i64 p0.z] 26)) 0 0 0 26; rwa [World.size_alloc] at this
 have hB0 : Hid (Below w0.heap.size w0 ((w0.alloc (.cells #[.int .i64 p0.x, .int .i64 p0.y, .int .i64 p0.z] 26)).alloc (.cells #[.int .i64 0, .int .i64 0, .int .i64 0] 26))) := b_step (n_after w0 _) (n_after _ _)
 generalize p0.short = p at *
 generalize p0.lng = r at *
 obtain ⟨px, py, pz⟩ := p0
 obtain ⟨W0, hW0⟩ : ∃ W0, W0 = ((w0.alloc (.cells #[.int .i64 px, .int .i64 py, .int .i64 pz] 26)).alloc (.cells #[.int .i64 0, .int .i64 0, .int .i64 0] 26)) := ⟨_, rfl⟩
 dsimp only at bx0 bx1 hB0
 rw [<- hW0] at bx0 bx1 hB0
 obtain ⟨c0, c1, c2, _, _, _⟩ := bx0.out
 unfold Pt.v at *
 dsimp only at *
 go_enter Try.func55, Try.ntmps55
 go_upto_region 1 with fail
 rw [<- hW0]
 clear hW0
 go_wp2_with (fail)
 refine Calls.mono (HS.out _) ?_
 clear HS
 rintro e V ⟨rfl, hb⟩
 have bx0 : Hid (Box3 V w0.heap.size ⟨px, py, pz⟩) := bx0.out.step hb
 have bx2 : Hid (Box3 V (w0.heap.size + 1) Pt.O) := bx1.out.step hb
 have hB2 : Hid _ := b_step hB0.out hb
 clear hb c0 c1 c2 bx1 hB0
 obtain ⟨c0, c1, c2, f0, f1, f2⟩ := bx0.out
 dsimp only at c0 c1 c2
 obtain ⟨sx, sy, sz⟩ := p
 dsimp only at *
 go_upto_region 2 with fail
 have bx1 : Hid (Box3 (set3 V w0.heap.size sx sy sz) w0.heap.size ⟨sx, sy, sz⟩) := bx0.out.set _ _ _
 have bx2 : Hid (Box3 (set3 V w0.heap.size sx sy sz) (w0.heap.size + 1) Pt.O) := bx2.out.other (by omega) _ _ _
 have hB2 : Hid (Below w0.heap.size w0 (set3 V w0.heap.size sx sy sz)) := set3_below hB2.out (Nat.le_refl _) _ _ _
 unfold set3 at bx1 bx2 hB2
 generalize ((V.setCell ⟨w0.heap.size, 0, none⟩ (.int .i64 sx)).setCell ⟨w0.heap.size, 1, none⟩ (.int .i64 sy)).setCell ⟨w0.heap.size, 2, none⟩ (.int .i64 sz) = W1 at *
 clear c0 c1 c2 f0 f1 f2 bx0
 obtain ⟨c0, c1, c2, f0, f1, f2⟩ := bx1.out
 dsimp only at c0 c1 c2
 by_cases hz : (⟨sx, sy, sz⟩ : Pt) = Pt.O
 ·have e9 : r = Pt.O := by rw [HL.out, if_pos hz]
  subst e9
  have e3 : sx = 0 /\ sy = 0 /\ sz = 0 := by simpa [Pt.O] using hz
  obtain ⟨rfl, rfl, rfl⟩ := e3
  clear HL hz
  obtain ⟨c3, c4, c5, f3, f4, f5⟩ := bx2.out
  simp only [Pt.O] at c3 c4 c5
  go_wp2_with (fail)
  refine bodyPost_ret (v := .agg #[.int .i64 0, .int .i64 0, .int .i64 0]) (by simp [results, Try.results55, go_sem, c3, c4, c5]) rfl ⟨rfl, ?_⟩
  exact set3_below hB2.out (by omega) 0 0 0
 ·have HR : Hid (r = lngF 20 ⟨sx, sy, sz⟩) := by show _ = _; rw [HL.out, if_neg hz]
  have HB0 : Hid (Pt.far ⟨sx, sy, sz⟩ (20 - 20)) := far_zero hz
  have hz3 : sx = 0 -> sy = 0 -> ¬ sz = 0 := fun a b c => hz (by rw [a, b, c]; rfl)
  clear HL hz HI0
  go_cut [8] from 5 (fun s7 wx => s7 = .bool false /\ wx = W1)
  case first =>
   go_wp2_with (fail)
   all_goals first
    | (exfalso; exact hz3 (by assumption) (by assumption) (by assumption))
    | (go_meet; case rel => exact ⟨rfl, rfl⟩)
  case rest =>
   obtain ⟨rfl, e9⟩ := hcut
   subst e9
   clear hz3 c0 c1 c2 f0 f1 f2
   go_wp2_with (fail)
   go_loopg [] 20 (fun g wr => ∃ q : Pt, Hid (Box3 wr w0.heap.size q) /\ Hid (Box3 wr (w0.heap.size + 1) Pt.O) /\ Hid (Below w0.heap.size w0 wr) /\ g <= 20 /\ Hid (lngF g q = lngF 20 ⟨sx, sy, sz⟩) /\ Hid (q.far (20 - g)))
   case atStart => exact ⟨_, bx1, bx2, hB2, Nat.le_refl _, rfl, HB0⟩
   case round =>
    clear bx1 bx2 hB2 HB0
    obtain ⟨q, b0, b1, hB, hg, HF, HI⟩ := hrel
    have hG : Hid _ := hg
    clear hg
    obtain ⟨c0, c1, c2, f0, f1, f2⟩ := b0.out
    go_wp2_with (fail)
    refine Calls.mono (HX.out q _) ?_
    rintro e V3 ⟨rfl, hb⟩
    clear c0 c1 c2 f0 f1 f2
    have b0 : Hid _ := b0.out.step hb
    have b1 : Hid _ := b1.out.step hb
    have hB : Hid _ := b_step hB.out hb
    clear hb
    cases hq : q.inB 524288 with
    | true =>
     have h1g := far_lt hq HI.out
     obtain ⟨g', hg'⟩ : ∃ g', gk = g' + 1 := ⟨gk - 1, by omega⟩
     subst hg'
     have HJ1 : Hid _ := lngF_step (g := g') hq
     have HJ2 : Hid (q.dbl.far (20 - g')) := by have h5 := far_dbl HI.out; rwa [show 20 - (g' + 1) + 1 = 20 - g' by have := hG.out; omega] at h5
     clear h1g
     have hqi := (Pt.inB_iff q 524288).1 hq
     have u0 : IntKind.i64.wrap (2 * q.x) = q.dbl.x := by unfold Pt.dbl; dsimp only; rw [IntKind.wrap_i64]; omega
     have u1 : IntKind.i64.wrap (2 * q.y) = q.dbl.y := by unfold Pt.dbl; dsimp only; rw [IntKind.wrap_i64]; omega
     have u2 : IntKind.i64.wrap (2 * q.z) = q.dbl.z := by unfold Pt.dbl; dsimp only; rw [IntKind.wrap_i64]; omega
     have b9 : Hid (Box3 (set3 V3 w0.heap.size q.dbl.x q.dbl.y q.dbl.z) w0.heap.size q.dbl) := b0.out.set _ _ _
     have b8 : Hid (Box3 (set3 V3 w0.heap.size q.dbl.x q.dbl.y q.dbl.z) (w0.heap.size + 1) Pt.O) := b1.out.other (by omega) _ _ _
     have hB9 : Hid (Below w0.heap.size w0 (set3 V3 w0.heap.size q.dbl.x q.dbl.y q.dbl.z)) := set3_below hB.out (Nat.le_refl _) _ _ _
     obtain ⟨c0, c1, c2, f0, f1, f2⟩ := b0.out
     unfold set3 at b9 b8 hB9
     clear b0 b1 hB hqi hq
     go_wp2_with (fail)
     go_roundg g'
     case rel => exact ⟨q.dbl, b9, b8, hB9, by have := hG.out; omega, by show _ = _; rw [<- HJ1.out]; exact HF.out, HJ2⟩
     case measure => omega
    | false =>
     have e9 : r = q := by rw [HR.out, <- HF.out, lngF_stop hq]
     subst e9
     obtain ⟨c0, c1, c2, f0, f1, f2⟩ := b0.out
     obtain ⟨c3, c4, c5, f3, f4, f5⟩ := b1.out
     simp only [Pt.O] at c3 c4 c5
     go_wp2_with (fail)
     refine bodyPost_ret (v := .agg #[.int .i64 r.x, .int .i64 r.y, .int .i64 r.z]) (by simp [results, Try.results55, go_sem, c3, c4, c5]) rfl ⟨rfl, ?_⟩
     exact set3_below hB.out (by omega) r.x r.y r.z
end
section
open Go.RowKit Go.Shelf
theorem dot_steps {n p : Pt} (hn : n.inB 67108864 = true) (hp : p.inB 67108864 = true) : ∃ a b c d : Int, IntKind.i64.wrap (n.x * p.x) = a /\ IntKind.i64.wrap (n.y * p.y) = b /\ IntKind.i64.wrap (a + b) = c /\ IntKind.i64.wrap (n.z * p.z) = d /\ IntKind.i64.wrap (c + d) = n.dot p := by
 rw [Pt.inB_iff] at hn hp
 have h1 := mul_in hn.1 hp.1
 have h2 := mul_in hn.2.1 hp.2.1
 have h3 := mul_in hn.2.2 hp.2.2
 refine ⟨n.x * p.x, n.y * p.y, n.x * p.x + n.y * p.y, n.z * p.z, ?_, ?_, ?_, ?_, ?_⟩
 ·rw [IntKind.wrap_i64]; omega
 ·rw [IntKind.wrap_i64]; omega
 ·rw [IntKind.wrap_i64]; omega
 ·rw [IntKind.wrap_i64]; omega
 ·unfold Pt.dot; rw [IntKind.wrap_i64]; omega
set_option maxHeartbeats 4000000 in
set_option maxRecDepth 100000 in
theorem rfar9_any (n : Pt) (P : List Pt) (v : Value) (w0 : World) (hv : Lies w0 v P) (h0 : 0 < P.length) (hn : n.inB 67108864 = true) (hP : ∀ p ∈ P, p.inB 67108864 = true) :
  Calls Try.prog 56 #[v, n.v] w0 fun e W => e = .returned (.int .i64 (hiP n P)) /\ Below w0.heap.size w0 W := by
 obtain ⟨o, cap, rfl, hlc, hcm, hcell⟩ := hv.form
 have HC : Hid _ := hcell
 have HD : Hid (∀ i, i < P.length -> ∃ a b c d : Int, IntKind.i64.wrap (n.x * (pt P i).x) = a /\ IntKind.i64.wrap (n.y * (pt P i).y) = b /\ IntKind.i64.wrap (a + b) = c /\ IntKind.i64.wrap (n.z * (pt P i).z) = d /\ IntKind.i64.wrap (c + d) = n.dot (pt P i)) := fun i hi => dot_steps hn (hP _ (pt_mem hi))
 have HE : Hid (hiP n P = hiK n P (P.length - 1)) := rfl
 have HK0 : Hid (n.dot (pt P 0) = hiK n P 0) := rfl
 have HKS : Hid (∀ k, hiK n P (k + 1) = max (hiK n P k) (n.dot (pt P (k + 1)))) := fun k => rfl
 generalize hiP n P = R9 at *
 generalize hiK n P = hk at *
 generalize hdt : (fun i => n.dot (pt P i)) = dt at *
 have hdt' : ∀ i, n.dot (pt P i) = dt i := fun i => by rw [<- hdt]
 simp only [hdt'] at HD HK0 HKS
 clear hdt hdt' hv hn hP hcell
 obtain ⟨x, y, z⟩ := n
 unfold Pt.v
 dsimp only at *
 obtain ⟨V, hV⟩ : ∃ V, V = w0.alloc (.cells #[.int .i64 x, .int .i64 y, .int .i64 z] 26) := ⟨_, rfl⟩
 obtain ⟨nb, hnb⟩ : ∃ b, b = w0.heap.size := ⟨_, rfl⟩
 have HB : Hid (Below w0.heap.size w0 V) := by show Below _ _ _; rw [hV]; exact n_after _ _
 have CN : Hid (Cel V nb [.int .i64 x, .int .i64 y, .int .i64 z]) := by show Cel _ _ _; rw [hV, hnb]; exact Cel.new _ _ _
 go_enter Try.func56, Try.ntmps56
 go_upto_region 1 with fail
 rw [<- hV, <- hnb]
 clear hV hnb
 have d0 := CN.out 0 _ rfl
 have d1 := CN.out 1 _ rfl
 have d2 := CN.out 2 _ rfl
 go_cut [5] from 7 to 64 (fun s5 wx => s5 = .int .i64 (hk 0) /\ Hid (Below V.heap.size V wx))
 case first =>
  obtain ⟨g, f, rfl, x0, x1, x2⟩ := HC.out 0 h0
  rw [Nat.zero_mul, Nat.add_zero] at x0 x1 x2
  have x0 := c_after HB.out x0
  have x1 := c_after HB.out x1
  have x2 := c_after HB.out x2
  obtain ⟨a, b, c, d, w1, w2, w3, w4, w5⟩ := HD.out 0 h0
  rw [HK0.out] at w5
  generalize hk 0 = kk at *
  generalize (pt P 0).x = px at *
  generalize (pt P 0).y = py at *
  generalize (pt P 0).z = pz at *
  go_quiet (fail)
  go_wp2_with (fail)
  go_meet
  case rel => exact ⟨rfl, ⟨rfl, rfl, rfl, Nat.le_refl _, fun _ _ => rfl⟩⟩
 case rest =>
  obtain ⟨rfl, HB1⟩ := hcut
  clear d0 d1 d2
  go_wp2_with (fail)
  go_loopg [5, 6] P.length (fun gm s5 s6 wr => ∃ k : Nat, s5 = .int .i64 (hk k) /\ s6 = .int .i64 ((k : Int) + 1) /\ k + 1 <= P.length /\ Hid (gm = P.length - k) /\ Hid (Below V.heap.size V wr))
  case atStart => exact ⟨0, rfl, rfl, by omega, by show _ = _; omega, HB1⟩
  case round =>
   obtain ⟨k, rfl, rfl, hk1, HG, HB2⟩ := hrel
   have HB3 : Hid (Below w0.heap.size w0 wr) := b_step HB.out HB2.out
   by_cases hit : k + 1 < P.length
   ·obtain ⟨g, f, rfl, x0, x1, x2⟩ := HC.out (k + 1) hit
    have x0 := c_after HB3.out x0
    have x1 := c_after HB3.out x1
    have x2 := c_after HB3.out x2
    have d0 := c_after HB2.out (CN.out 0 _ rfl)
    have d1 := c_after HB2.out (CN.out 1 _ rfl)
    have d2 := c_after HB2.out (CN.out 2 _ rfl)
    obtain ⟨a, b, c, d, w1, w2, w3, w4, w5⟩ := HD.out (k + 1) hit
    have HS : Hid _ := HKS.out k
    obtain ⟨kk, hkk⟩ : ∃ z, hk k = z := ⟨_, rfl⟩
    obtain ⟨kl, hkl⟩ : ∃ z, hk (k + 1) = z := ⟨_, rfl⟩
    rw [hkk, hkl] at HS
    rw [hkk]
    generalize dt (k + 1) = dd at *
    have zm : (if kk < dd then dd else kk) = kl := by rw [HS.out]; split <;> omega
    generalize (pt P (k + 1)).x = px at *
    generalize (pt P (k + 1)).y = py at *
    generalize (pt P (k + 1)).z = pz at *
    go_upto_region 5 with fail
    go_quiet (fail)
    go_wp2_with (fail)
    go_roundg (P.length - (k + 1))
    case rel => exact ⟨k + 1, by rw [hkl], by simp, by omega, rfl, HB2.out.trans ⟨rfl, rfl, rfl, Nat.le_refl _, fun _ _ => rfl⟩⟩
    case measure => have := HG.out; omega
   ·obtain e9 : P.length - 1 = k := by omega
    have HE9 : Hid (R9 = hk k) := by show _ = _; rw [HE.out, e9]
    clear HE e9
    go_wp2_with (fail)
    go_ret
    exact ⟨by rw [HE9.out]; rfl, HB3.out⟩
end
section
open Go.RowKit Go.Shelf
set_option maxHeartbeats 4000000 in
set_option maxRecDepth 100000 in
theorem rgap9_any (a b : Cr) (n : Pt) (pv av ev qv bv fv : Value) (w0 : World) (hp : Lies w0 pv a.P) (ha : Lies w0 av a.A) (he : Lies w0 ev a.E) (hq : Lies w0 qv b.P) (hb : Lies w0 bv b.A) (hf : Lies w0 fv b.E)
  (h0 : 0 < a.P.length) (h1 : 0 < b.P.length) (hP : ∀ p ∈ a.P, p.inB 16777216 = true) (hQ : ∀ p ∈ b.P, p.inB 16777216 = true) (hr : 0 <= a.r /\ a.r <= 65536) (hs : 0 <= b.r /\ b.r <= 65536) (hn : n.inB 1048576 = true) (hd : 0 < dn n) :
  Calls Try.prog 25 #[coreA pv av ev a.r, coreA qv bv fv b.r, n.v] w0 fun e W => e = .returned (.int .i64 (gapZ a.P b.P a.r b.r n)) /\ Below w0.heap.size w0 W := by
 obtain ⟨P, A, E, r⟩ := a
 obtain ⟨Q, B, F, s⟩ := b
 dsimp only at *
 obtain ⟨o, cap, rfl, hlc, hcm, _⟩ := hp.form
 obtain ⟨o2, cap2, rfl, _, _, _⟩ := ha.form
 obtain ⟨o3, cap3, rfl, _, _, _⟩ := he.form
 obtain ⟨o4, cap4, rfl, _, _, _⟩ := hq.form
 obtain ⟨o5, cap5, rfl, _, _, _⟩ := hb.form
 obtain ⟨o6, cap6, rfl, _, _, _⟩ := hf.form
 have hnn : n.neg.inB 67108864 = true := by rw [Pt.inB_iff] at hn ⊢; unfold Pt.neg; dsimp only; omega
 have HE1 : Hid _ := fun (w' : World) (h : Below w0.heap.size w0 w') => rfar9_any n P _ w' (hp.below h) h0 (inB_mono hn (by decide)) (fun p h => inB_mono (hP p h) (by decide))
 have HE2 : Hid _ := fun (w' : World) (h : Below w0.heap.size w0 w') => rfar9_any n.neg Q _ w' (hq.below h) h1 hnn (fun p h => inB_mono (hQ p h) (by decide))
 rw [show hiP n.neg Q = -(loP n Q) from hiK_neg n Q _] at HE2
 have HS : Hid _ := fun w' => rsizes9_any n w'
 have hin : n.inB 16777216 = true := inB_mono hn (by decide)
 have e1 : dnT n = dn n := by simp [dnT, hin]
 have e2 : upT n = up n := by simp [upT, hin]
 rw [e1, e2] at HS
 have hu : up n = dn n \/ up n = dn n + 1 := by unfold up; split <;> simp
 have hdr := dn_rng hin
 obtain ⟨g1, g2⟩ := gap_rng h0 h1 hP hQ hn
 rw [Pt.inB_iff] at hn
 have HG : Hid (gapZ P Q r s n = (if 0 <= loP n Q - hiP n P then (loP n Q - hiP n P).tdiv (up n) else -((dn n - 1 - (loP n Q - hiP n P)).tdiv (dn n))) - r - s) := rfl
 clear hp ha he hq hb hf hin e1 e2 hP hQ h0 h1 hnn
 generalize loP n Q = lo at *
 generalize hiP n P = hi at *
 generalize dn n = d at *
 generalize up n = u at *
 generalize gapZ P Q r s n = res at *
 obtain ⟨nx, ny, nz⟩ := n
 unfold coreA Pt.v Pt.neg at *
 dsimp only at *
 obtain ⟨mx, hmx⟩ : ∃ z, -nx = z := ⟨_, rfl⟩
 obtain ⟨my, hmy⟩ : ∃ z, -ny = z := ⟨_, rfl⟩
 obtain ⟨mz, hmz⟩ : ∃ z, -nz = z := ⟨_, rfl⟩
 obtain ⟨nl, hnl⟩ : ∃ z, -lo = z := ⟨_, rfl⟩
 have wx : IntKind.i64.wrap (-nx) = mx := by rw [hmx, IntKind.wrap_i64]; omega
 have wy : IntKind.i64.wrap (-ny) = my := by rw [hmy, IntKind.wrap_i64]; omega
 have wz : IntKind.i64.wrap (-nz) = mz := by rw [hmz, IntKind.wrap_i64]; omega
 have wl : IntKind.i64.wrap (-nl) = lo := by rw [<- hnl, IntKind.wrap_i64]; omega
 rw [hmx, hmy, hmz, hnl] at HE2
 clear hmx hmy hmz hnl hn
 obtain ⟨V, hV⟩ : ∃ V, V = ((w0.alloc (.cells #[.slice o P.length cap, .slice o2 A.length cap2, .slice o3 E.length cap3, .int .i64 r] 24)).alloc (.cells #[.slice o4 Q.length cap4, .slice o5 B.length cap5, .slice o6 F.length cap6, .int .i64 s] 24)).alloc (.cells #[.int .i64 nx, .int .i64 ny, .int .i64 nz] 26) := ⟨_, rfl⟩
 obtain ⟨cb, hcb⟩ : ∃ b, b = w0.heap.size := ⟨_, rfl⟩
 have HB : Hid (Below w0.heap.size w0 V) := by show Below _ _ _; rw [hV]; exact b_step (b_step (n_after _ _) (n_after _ _)) (n_after _ _)
 have HC : Hid (V.cell? ⟨cb, 0, none⟩ = some (.slice o P.length cap) /\ V.cell? ⟨cb, 3, none⟩ = some (.int .i64 r) /\ V.cell? ⟨cb + 1, 0, none⟩ = some (.slice o4 Q.length cap4) /\ V.cell? ⟨cb + 1, 3, none⟩ = some (.int .i64 s) /\ V.cell? ⟨cb + 1 + 1, 0, none⟩ = some (.int .i64 nx) /\ V.cell? ⟨cb + 1 + 1, 1, none⟩ = some (.int .i64 ny) /\ V.cell? ⟨cb + 1 + 1, 2, none⟩ = some (.int .i64 nz)) := by
  show _ /\ _
  rw [hV, hcb]
  simp [go_sem]
 go_enter Try.func25, Try.ntmps25
 go_upto_region 1 with fail
 rw [<- hV, <- hcb]
 clear hV hcb
 obtain ⟨q0, q3, r0, r3, n0, n1, n2⟩ := HC.out
 clear HC
 go_wp2_with (fail)
 refine Calls.mono (HE1.out _ HB.out) ?_
 rintro e V1 ⟨rfl, hb⟩
 have q3 := c_after hb q3
 have r0 := c_after hb r0
 have r3 := c_after hb r3
 have n0 := c_after hb n0
 have n1 := c_after hb n1
 have n2 := c_after hb n2
 have HB : Hid _ := b_step HB.out hb
 clear hb HE1 q0
 go_wp2_with (fail)
 refine Calls.mono (HE2.out _ HB.out) ?_
 rintro e V2 ⟨rfl, hb⟩
 have q3 := c_after hb q3
 have r3 := c_after hb r3
 have n0 := c_after hb n0
 have n1 := c_after hb n1
 have n2 := c_after hb n2
 have HB : Hid _ := b_step HB.out hb
 clear hb HE2 wx wy wz
 obtain ⟨rm, hrm⟩ : ∃ m, lo - hi = m := ⟨_, rfl⟩
 have hrw : IntKind.i64.wrap (lo - hi) = rm := by rw [hrm, IntKind.wrap_i64]; omega
 rw [hrm] at HG
 have HRM : Hid _ := hrm
 clear hrm
 go_wp2_with (fail)
 refine Calls.mono (HS.out _) ?_
 rintro e V3 ⟨rfl, hb⟩
 have q3 := c_after hb q3
 have r3 := c_after hb r3
 have HB : Hid _ := b_step HB.out hb
 clear hb HS n0 n1 n2 wl hrw
 by_cases hge : 0 <= rm
 ·rw [if_pos hge] at HG
  have hu0 : 0 < u := by omega
  have ht := tdiv_rng (a := rm) (b := u) (C := 105553116266496) ⟨hge, by have := HRM.out; omega⟩ hu0
  obtain ⟨t, ht2⟩ : ∃ t, rm.tdiv u = t := ⟨_, rfl⟩
  rw [ht2] at HG ht
  have hune : ¬ u = 0 := by omega
  have htw : wrap64 t = t := w64 (by omega) (by omega)
  obtain ⟨i1, hi1⟩ : ∃ z, t - r = z := ⟨_, rfl⟩
  have wi1 : IntKind.i64.wrap (t - r) = i1 := by rw [hi1, IntKind.wrap_i64]; omega
  obtain ⟨i2, hi2⟩ : ∃ z, i1 - s = z := ⟨_, rfl⟩
  have wi2 : IntKind.i64.wrap (i1 - s) = i2 := by rw [hi2, IntKind.wrap_i64]; omega
  rw [hi1, hi2] at HG
  clear hi1 hi2
  go_upto_region 6 with fail
  go_quiet (fail)
  go_wp2_with (fail)
  go_ret
  exact ⟨by rw [HG.out]; rfl, HB.out.trans ⟨rfl, rfl, rfl, Nat.le_refl _, fun _ _ => rfl⟩⟩
 ·rw [if_neg hge] at HG
  obtain ⟨k, hk⟩ : ∃ k, d - 1 - rm = k := ⟨_, rfl⟩
  have hkr : 0 <= k /\ k <= 211106232532992 := by have := HRM.out; omega
  have ht := tdiv_rng (a := k) (b := d) (C := 211106232532992) hkr (by omega)
  obtain ⟨t, ht2⟩ : ∃ t, k.tdiv d = t := ⟨_, rfl⟩
  rw [hk, ht2] at HG
  rw [ht2] at ht
  have hune : ¬ d = 0 := by omega
  have hrr : -52776558133248 - 52776558133248 <= rm := by have := HRM.out; omega
  obtain ⟨j1, hj1⟩ : ∃ z, -rm = z := ⟨_, rfl⟩
  have wj1 : IntKind.i64.wrap (-rm) = j1 := by rw [hj1, IntKind.wrap_i64]; omega
  obtain ⟨j2, hj2⟩ : ∃ z, j1 + d = z := ⟨_, rfl⟩
  have wj2 : IntKind.i64.wrap (j1 + d) = j2 := by rw [hj2, IntKind.wrap_i64]; omega
  have wj3 : IntKind.i64.wrap (j2 - 1) = k := by rw [IntKind.wrap_i64]; omega
  have htw : wrap64 t = t := w64 (by omega) (by omega)
  obtain ⟨j4, hj4⟩ : ∃ z, -t = z := ⟨_, rfl⟩
  have wj4 : IntKind.i64.wrap (-t) = j4 := by rw [hj4, IntKind.wrap_i64]; omega
  obtain ⟨i1, hi1⟩ : ∃ z, j4 - r = z := ⟨_, rfl⟩
  have wi1 : IntKind.i64.wrap (j4 - r) = i1 := by rw [hi1, IntKind.wrap_i64]; omega
  obtain ⟨i2, hi2⟩ : ∃ z, i1 - s = z := ⟨_, rfl⟩
  have wi2 : IntKind.i64.wrap (i1 - s) = i2 := by rw [hi2, IntKind.wrap_i64]; omega
  rw [hj4, hi1, hi2] at HG
  clear hj1 hj2 hj4 hi1 hi2 hk
  go_upto_region 7 with fail
  go_quiet (fail)
  go_wp2_with (fail)
  go_ret
  exact ⟨by rw [HG.out]; rfl, HB.out.trans ⟨rfl, rfl, rfl, Nat.le_refl _, fun _ _ => rfl⟩⟩
end
section
open Go.RowKit Go.Shelf
theorem loK_prev (n : Pt) (P : List Pt) (i : Nat) : min (loK n P (i - 1)) (n.dot (pt P i)) = loK n P i := by
 cases i with
 | zero => exact Int.min_self _
 | succ k => rfl
theorem hiK_prev (n : Pt) (P : List Pt) (i : Nat) : max (hiK n P (i - 1)) (n.dot (pt P i)) = hiK n P i := by
 cases i with
 | zero => exact Int.max_self _
 | succ k => rfl
set_option maxHeartbeats 4000000 in
set_option maxRecDepth 100000 in
theorem rreach9_any (c : Cr) (n : Pt) (pv av ev : Value) (w0 : World) (hp : Lies w0 pv c.P) (ha : Lies w0 av c.A) (he : Lies w0 ev c.E) :
  Calls Try.prog 15 #[coreA pv av ev c.r, n.v] w0 fun e W => e = .returned (reachV c.P n) /\ Below w0.heap.size w0 W := by
 obtain ⟨P, A, E, r⟩ := c
 dsimp only at *
 have H2 : Hid _ := fun (w' : World) (h : Below w0.heap.size w0 w') => rall9_any P 67108864 _ w' (hp.below h) (by decide) (by decide)
 have H1 : Hid _ := fun w' => rin9_any n 67108864 w' (by decide)
 obtain ⟨o, cap, rfl, hlc, hcm, hcell⟩ := hp.form
 have HC : Hid _ := hcell
 obtain ⟨o2, cap2, rfl, _, _, _⟩ := ha.form
 obtain ⟨o3, cap3, rfl, _, _, _⟩ := he.form
 clear hp ha he hcell
 have HR : Hid (reachV P n = cond (!decide ((P.length : Int) = 0) && (n.inB 67108864 && P.all (·.inB 67108864))) (.tuple #[.int .i64 (loP n P), .int .i64 (hiP n P)]) (.tuple #[.int .i64 0, .int .i64 0])) := rfl
 have HLE : Hid (loP n P = loK n P (P.length - 1)) := rfl
 have HHE : Hid (hiP n P = hiK n P (P.length - 1)) := rfl
 have HL0 : Hid (n.dot (pt P 0) = loK n P 0) := rfl
 have HH0 : Hid (n.dot (pt P 0) = hiK n P 0) := rfl
 have HLS : Hid _ := fun i => loK_prev n P i
 have HHS : Hid _ := fun i => hiK_prev n P i
 have HD : Hid (n.inB 67108864 = true -> P.all (·.inB 67108864) = true -> ∀ i, i < P.length -> ∀ w', Calls Try.prog 30 #[n.v, (pt P i).v] w' fun e W => e = .returned (.int .i64 (n.dot (pt P i))) /\ Below w'.heap.size w' W) := fun h1 h2 i hi w' => nrdot_any n (pt P i) w' (inB_mono h1 (by decide)) (inB_mono (List.all_eq_true.1 h2 _ (pt_mem hi)) (by decide))
 generalize reachV P n = R9 at *
 generalize P.all (·.inB 67108864) = k2 at *
 generalize n.inB 67108864 = k1 at *
 generalize loP n P = lo at *
 generalize hiP n P = hi at *
 generalize loK n P = lk at *
 generalize hiK n P = hk at *
 generalize hdt : (fun i => n.dot (pt P i)) = dt at *
 have hdt' : ∀ i, n.dot (pt P i) = dt i := fun i => by rw [<- hdt]
 simp only [hdt'] at HD HL0 HH0 HLS HHS
 clear hdt hdt'
 obtain ⟨x, y, z⟩ := n
 unfold coreA Pt.v at *
 dsimp only at *
 obtain ⟨V, hV⟩ : ∃ V, V = (w0.alloc (.cells #[.slice o P.length cap, .slice o2 A.length cap2, .slice o3 E.length cap3, .int .i64 r] 24)).alloc (.cells #[.int .i64 x, .int .i64 y, .int .i64 z] 26) := ⟨_, rfl⟩
 obtain ⟨cb, hcb⟩ : ∃ b, b = w0.heap.size := ⟨_, rfl⟩
 obtain ⟨nb, hnb⟩ : ∃ b, b = w0.heap.size + 1 := ⟨_, rfl⟩
 have HB : Hid (Below w0.heap.size w0 V) := by show Below _ _ _; rw [hV]; exact b_step (n_after _ _) (n_after _ _)
 have c9 := Cel.two w0 [.slice o P.length cap, .slice o2 A.length cap2, .slice o3 E.length cap3, .int .i64 r] [.int .i64 x, .int .i64 y, .int .i64 z] 24 26
 have CC : Hid (Cel V cb [.slice o P.length cap, .slice o2 A.length cap2, .slice o3 E.length cap3, .int .i64 r]) := by show Cel _ _ _; rw [hV, hcb]; exact c9.1
 have CN : Hid (Cel V nb [.int .i64 x, .int .i64 y, .int .i64 z]) := by show Cel _ _ _; rw [hV, hnb]; exact c9.2
 clear c9
 go_enter Try.func15, Try.ntmps15
 go_upto_region 1 with fail
 rw [<- hV, <- hnb, <- hcb]
 clear hV hcb hnb
 have d0 := CN.out 0 _ rfl
 have d1 := CN.out 1 _ rfl
 have d2 := CN.out 2 _ rfl
 go_wp2_with (fail)
 refine Calls.mono (H1.out _) ?_
 rintro e V1 ⟨rfl, hb⟩
 have CC : Hid _ := Cel.step CC.out hb
 have CN : Hid _ := Cel.step CN.out hb
 have HB : Hid _ := b_step HB.out hb
 clear hb d0 d1 d2
 have q0 := CC.out 0 _ rfl
 go_wp2_with (fail)
 refine Calls.mono (H2.out _ HB.out) ?_
 rintro e V2 ⟨rfl, hb⟩
 have CC : Hid _ := Cel.step CC.out hb
 have CN : Hid _ := Cel.step CN.out hb
 have HB : Hid _ := b_step HB.out hb
 clear hb q0 H1 H2
 have q0 := CC.out 0 _ rfl
 by_cases hl : (P.length : Int) = 0
 ·rw [decide_eq_true hl] at HR
  go_wp2_with (fail)
  exact bodyPost_ret (v := .tuple #[.int .i64 0, .int .i64 0]) (by simp [results, Try.results15, go_sem]) rfl ⟨by rw [HR.out]; rfl, HB.out⟩
 ·rw [decide_eq_false hl] at HR
  have hl2 : ¬ P.length = 0 := by omega
  have hl3 : ¬ P = [] := fun e => hl2 (by rw [e]; rfl)
  cases k1 with
  | false =>
   go_wp2_with (fail)
   exact bodyPost_ret (v := .tuple #[.int .i64 0, .int .i64 0]) (by simp [results, Try.results15, go_sem]) rfl ⟨by rw [HR.out]; rfl, HB.out⟩
  | true =>
   cases k2 with
   | false =>
    go_wp2_with (fail)
    exact bodyPost_ret (v := .tuple #[.int .i64 0, .int .i64 0]) (by simp [results, Try.results15, go_sem]) rfl ⟨by rw [HR.out]; rfl, HB.out⟩
   | true =>
    have HD9 : Hid (∀ i, i < P.length -> ∀ w', Calls Try.prog 30 #[.agg #[.int .i64 x, .int .i64 y, .int .i64 z], .agg #[.int .i64 (pt P i).x, .int .i64 (pt P i).y, .int .i64 (pt P i).z]] w' fun e W => e = .returned (.int .i64 (dt i)) /\ Below w'.heap.size w' W) := fun i hi w' => HD.out (by first | rfl | trivial) (by first | rfl | trivial) i hi w'
    clear HD
    have HR : Hid (R9 = .tuple #[.int .i64 lo, .int .i64 hi]) := HR.out
    go_upto_region 5 with fail
    clear q0
    go_cut [8] from 12 to 57 (fun s8 wx => s8 = .int .i64 (dt 0) /\ Hid (Below V2.heap.size V2 wx))
    case first =>
     have h00 : 0 < P.length := by omega
     obtain ⟨g, f, rfl, x0, x1, x2⟩ := HC.out 0 h00
     rw [Nat.zero_mul, Nat.add_zero] at x0 x1 x2
     have x0 := c_after HB.out x0
     have x1 := c_after HB.out x1
     have x2 := c_after HB.out x2
     have HDD : Hid _ := HD9.out 0 h00
     generalize dt 0 = dd at *
     generalize (pt P 0).x = px at *
     generalize (pt P 0).y = py at *
     generalize (pt P 0).z = pz at *
     have q0 := CC.out 0 _ rfl
     have d0_ := CN.out 0 _ rfl
     have d1_ := CN.out 1 _ rfl
     have d2_ := CN.out 2 _ rfl
     refine RV.region_by (fun j v w => match j with | 0 => v = .agg #[.int .i64 (x), .int .i64 (y), .int .i64 (z)] | 1 => v = .pointer (some ⟨cb, 0, none⟩) | 2 => v = .slice (some ⟨g, f, none⟩) P.length cap | 3 => v = .pointer (some ⟨g, f, none⟩) | 4 => v = .agg #[.int .i64 (px), .int .i64 (py), .int .i64 (pz)] | 5 => v = .int .i64 (dd) | 6 => v = .int .i64 (dd) | _ => True) (fun γ L w9 => Below V2.heap.size V2 w9) (by kernel_rfl) (by kernel_rfl) (by kernel_rfl) (by kernel_rfl) ?_ ?_ ?_
     ·exact (Below.refl _ V2).drew
     ·generalize hD : dstOf _ = D
      generalize hWA : waitsFor _ = WA
      generalize hZ : Act.mk _ _ = Z
      refine RV.AllDo.name ?_
      intro R hR
      have d0 : D 0 = some 29 := by rw [<- hD]; rfl
      have d1 : D 1 = some 30 := by rw [<- hD]; rfl
      have d2 : D 2 = some 31 := by rw [<- hD]; rfl
      have d3 : D 3 = some 32 := by rw [<- hD]; rfl
      have d4 : D 4 = some 33 := by rw [<- hD]; rfl
      have d5 : D 5 = some 34 := by rw [<- hD]; rfl
      have d6 : D 6 = some 8 := by rw [<- hD]; rfl
      have r0 : ∀ v w, R 0 v w = (v = .agg #[.int .i64 (x), .int .i64 (y), .int .i64 (z)]) := fun v w => by rw [hR]; rfl
      have r1 : ∀ v w, R 1 v w = (v = .pointer (some ⟨cb, 0, none⟩)) := fun v w => by rw [hR]; rfl
      have r2 : ∀ v w, R 2 v w = (v = .slice (some ⟨g, f, none⟩) P.length cap) := fun v w => by rw [hR]; rfl
      have r3 : ∀ v w, R 3 v w = (v = .pointer (some ⟨g, f, none⟩)) := fun v w => by rw [hR]; rfl
      have r4 : ∀ v w, R 4 v w = (v = .agg #[.int .i64 (px), .int .i64 (py), .int .i64 (pz)]) := fun v w => by rw [hR]; rfl
      have r5 : ∀ v w, R 5 v w = (v = .int .i64 (dd)) := fun v w => by rw [hR]; rfl
      have r6 : ∀ v w, R 6 v w = (v = .int .i64 (dd)) := fun v w => by rw [hR]; rfl
      have F2_ : ∀ j, D j ≠ some 2 := by rw [<- hD]; exact RV.dst_free (by kernel_rfl)
      have Z2_ : Z.tmps[2]? = some (.pointer (some ⟨cb, 0, none⟩)) := by rw [<- hZ]; rfl
      have F3_ : ∀ j, D j ≠ some 3 := by rw [<- hD]; exact RV.dst_free (by kernel_rfl)
      have Z3_ : Z.tmps[3]? = some (.pointer (some ⟨nb, 0, none⟩)) := by rw [<- hZ]; rfl
      have K : ∀ j v w w', R j v w -> R j v w' := by rw [hR]; intro j v w w' h; exact h
      clear hD hWA hZ hR
      refine RV.cc 0 (RV.dp (fun γ v L w hl h => h) (fun γ L a w hH hl hA => by have e0 := ((hH.rest 3 F3_).trans Z3_); have hB9 := hH.glob; have z0 := c_after hB9 d0_; have z1 := c_after hB9 d1_; have z2 := c_after hB9 d2_; exact ⟨.agg #[.int .i64 (x), .int .i64 (y), .int .i64 (z)], by simp [execOp, go_sem, e0, z0, z1, z2], (r0 _ _).mpr rfl⟩)) ?_
      refine RV.cc 1 (RV.dp (fun γ v L w hl h => h) (fun γ L a w hH hl hA => by have e0 := ((hH.rest 2 F2_).trans Z2_); exact ⟨.pointer (some ⟨cb, 0, none⟩), by simp [execOp, go_sem, e0], (r1 _ _).mpr rfl⟩)) ?_
      refine RV.cc 2 (RV.dp (fun γ v L w hl h => h) (fun γ L a w hH hl hA => by have e0 := hH.got d1 r1 (hA ⟨1, .data⟩ (by simp) rfl); have hB9 := hH.glob; have z0 := c_after hB9 q0; exact ⟨.slice (some ⟨g, f, none⟩) P.length cap, by simp [execOp, go_sem, e0, z0], (r2 _ _).mpr rfl⟩)) ?_
      refine RV.cc 3 (RV.dp (fun γ v L w hl h => h) (fun γ L a w hH hl hA => by have e0 := hH.got d2 r2 (hA ⟨2, .data⟩ (by simp) rfl); exact ⟨.pointer (some ⟨g, f, none⟩), by simp [execOp, go_sem, e0, h00], (r3 _ _).mpr rfl⟩)) ?_
      refine RV.cc 4 (RV.dp (fun γ v L w hl h => h) (fun γ L a w hH hl hA => by have e0 := hH.got d3 r3 (hA ⟨3, .data⟩ (by simp) rfl); have hB9 := hH.glob; have z0 := c_after hB9 x0; have z1 := c_after hB9 x1; have z2 := c_after hB9 x2; exact ⟨.agg #[.int .i64 (px), .int .i64 (py), .int .i64 (pz)], by simp [execOp, go_sem, e0, z0, z1, z2], (r4 _ _).mpr rfl⟩)) ?_
      refine RV.cc 5 (RV.dc (fun γ L a w hH hl hA => by have e0 := hH.got d0 r0 (hA ⟨0, .data⟩ (by simp) rfl); have e1 := hH.got d4 r4 (hA ⟨4, .data⟩ (by simp) rfl); have hB9 := hH.glob; exact ⟨30, #[.agg #[.int .i64 (x), .int .i64 (y), .int .i64 (z)], .agg #[.int .i64 (px), .int .i64 (py), .int .i64 (pz)]], by simp [go_sem, e0, e1], Calls.mono (HDD.out w) (by rintro e w2 ⟨rfl, hb⟩; exact ⟨_, rfl, (r5 _ _).mpr rfl, fun j v _ h => K j v _ _ h, hB9.trans (hb.mono hB9.size)⟩)⟩)) ?_
      refine RV.cc 6 (RV.dp (fun γ v L w hl h => h) (fun γ L a w hH hl hA => by have e0 := hH.got d5 r5 (hA ⟨5, .data⟩ (by simp) rfl); exact ⟨.int .i64 (dd), by simp [execOp, go_sem, e0], (r6 _ _).mpr rfl⟩)) ?_
      exact RV.AllDo.nil
     ·intro γ a5 w5 L9 hL hLo hH
      have ha := RV.held_act hH hL (by kernel_rfl) (by kernel_rfl)
      have hb8 := hH.glob
      have y0 : γ 0 = .agg #[.int .i64 (x), .int .i64 (y), .int .i64 (z)] := hH.holds 0 (hL 0 (by decide))
      have y1 : γ 1 = .pointer (some ⟨cb, 0, none⟩) := hH.holds 1 (hL 1 (by decide))
      have y2 : γ 2 = .slice (some ⟨g, f, none⟩) P.length cap := hH.holds 2 (hL 2 (by decide))
      have y3 : γ 3 = .pointer (some ⟨g, f, none⟩) := hH.holds 3 (hL 3 (by decide))
      have y4 : γ 4 = .agg #[.int .i64 (px), .int .i64 (py), .int .i64 (pz)] := hH.holds 4 (hL 4 (by decide))
      have y5 : γ 5 = .int .i64 (dd) := hH.holds 5 (hL 5 (by decide))
      have y6 : γ 6 = .int .i64 (dd) := hH.holds 6 (hL 6 (by decide))
      rw [ha]
      clear ha hH hL hLo
      simp only [RV.putAll, Act.put, List.setIfInBounds_toArray, List.set_cons_zero, List.set_cons_succ, Nat.zero_add, Nat.reduceAdd, y0, y1, y2, y3, y4, y5, y6]
      clear y0 y1 y2 y3 y4 y5 y6
      have HZ : Hid _ := hb8
      go_wp2_with (fail)
      go_meet
      case rel => exact ⟨rfl, HZ⟩
    case rest =>
     obtain ⟨rfl, HB1⟩ := hcut
     go_wp2_with (fail)
     go_loopg [8, 9, 10] P.length (fun gm s8 s9 s10 wr => ∃ i : Nat, s8 = .int .i64 (lk (i - 1)) /\ s9 = .int .i64 (hk (i - 1)) /\ s10 = .int .i64 (i : Int) /\ i <= P.length /\ Hid (gm = P.length - i) /\ Hid (Below V2.heap.size V2 wr))
     case atStart => exact ⟨0, by rw [HL0.out], by rw [HH0.out], rfl, Nat.zero_le _, rfl, HB1⟩
     case round =>
      obtain ⟨i, rfl, rfl, rfl, hi9, HG, HB2⟩ := hrel
      have HB3 : Hid (Below w0.heap.size w0 wr) := b_step HB.out HB2.out
      have q0 := c_after HB2.out (CC.out 0 _ rfl)
      by_cases hit : i < P.length
      ·obtain ⟨g, f, rfl, x0, x1, x2⟩ := HC.out i hit
       have x0 := c_after HB3.out x0
       have x1 := c_after HB3.out x1
       have x2 := c_after HB3.out x2
       have HDD : Hid _ := HD9.out i hit
       have HS1 : Hid _ := HLS.out i
       have HS2 : Hid _ := HHS.out i
       generalize dt i = dd at *
       obtain ⟨la, hla⟩ : ∃ z, lk (i - 1) = z := ⟨_, rfl⟩
       obtain ⟨lb, hlb⟩ : ∃ z, lk i = z := ⟨_, rfl⟩
       obtain ⟨ma, hma⟩ : ∃ z, hk (i - 1) = z := ⟨_, rfl⟩
       obtain ⟨mb, hmb⟩ : ∃ z, hk i = z := ⟨_, rfl⟩
       rw [hla, hlb] at HS1
       rw [hma, hmb] at HS2
       rw [hla, hma]
       have zl : (if dd < la then dd else la) = lb := by rw [<- HS1.out]; split <;> omega
       have zm : (if ma < dd then dd else ma) = mb := by rw [<- HS2.out]; split <;> omega
       generalize (pt P i).x = px at *
       generalize (pt P i).y = py at *
       generalize (pt P i).z = pz at *
       have d0_ := c_after HB2.out (CN.out 0 _ rfl)
       have d1_ := c_after HB2.out (CN.out 1 _ rfl)
       have d2_ := c_after HB2.out (CN.out 2 _ rfl)
       go_upto_region 10 with fail
       go_cut [11] from 36 to 55 (fun s11 wx => s11 = .int .i64 dd /\ Hid (Below wr.heap.size wr wx))
       case first =>
        refine RV.region_by (fun j v w => match j with | 0 => v = .agg #[.int .i64 (x), .int .i64 (y), .int .i64 (z)] | 1 => v = .pointer (some ⟨cb, 0, none⟩) | 2 => v = .slice (some ⟨g, f, none⟩) P.length cap | 3 => v = .int .i64 ((i : Int)) | 4 => v = .pointer (some ⟨g, f + i * 3, none⟩) | 5 => v = .agg #[.int .i64 (px), .int .i64 (py), .int .i64 (pz)] | 6 => v = .int .i64 (dd) | 7 => v = .int .i64 (dd) | _ => True) (fun γ L w9 => Below wr.heap.size wr w9) (by kernel_rfl) (by kernel_rfl) (by kernel_rfl) (by kernel_rfl) ?_ ?_ ?_
        ·exact (Below.refl _ wr).drew
        ·generalize hD : dstOf _ = D
         generalize hWA : waitsFor _ = WA
         generalize hZ : Act.mk _ _ = Z
         refine RV.AllDo.name ?_
         intro R hR
         have d0 : D 0 = some 43 := by rw [<- hD]; rfl
         have d1 : D 1 = some 44 := by rw [<- hD]; rfl
         have d2 : D 2 = some 45 := by rw [<- hD]; rfl
         have d3 : D 3 = some 46 := by rw [<- hD]; rfl
         have d4 : D 4 = some 47 := by rw [<- hD]; rfl
         have d5 : D 5 = some 48 := by rw [<- hD]; rfl
         have d6 : D 6 = some 49 := by rw [<- hD]; rfl
         have d7 : D 7 = some 11 := by rw [<- hD]; rfl
         have r0 : ∀ v w, R 0 v w = (v = .agg #[.int .i64 (x), .int .i64 (y), .int .i64 (z)]) := fun v w => by rw [hR]; rfl
         have r1 : ∀ v w, R 1 v w = (v = .pointer (some ⟨cb, 0, none⟩)) := fun v w => by rw [hR]; rfl
         have r2 : ∀ v w, R 2 v w = (v = .slice (some ⟨g, f, none⟩) P.length cap) := fun v w => by rw [hR]; rfl
         have r3 : ∀ v w, R 3 v w = (v = .int .i64 ((i : Int))) := fun v w => by rw [hR]; rfl
         have r4 : ∀ v w, R 4 v w = (v = .pointer (some ⟨g, f + i * 3, none⟩)) := fun v w => by rw [hR]; rfl
         have r5 : ∀ v w, R 5 v w = (v = .agg #[.int .i64 (px), .int .i64 (py), .int .i64 (pz)]) := fun v w => by rw [hR]; rfl
         have r6 : ∀ v w, R 6 v w = (v = .int .i64 (dd)) := fun v w => by rw [hR]; rfl
         have r7 : ∀ v w, R 7 v w = (v = .int .i64 (dd)) := fun v w => by rw [hR]; rfl
         have F2_ : ∀ j, D j ≠ some 2 := by rw [<- hD]; exact RV.dst_free (by kernel_rfl)
         have Z2_ : Z.tmps[2]? = some (.pointer (some ⟨cb, 0, none⟩)) := by rw [<- hZ]; rfl
         have F3_ : ∀ j, D j ≠ some 3 := by rw [<- hD]; exact RV.dst_free (by kernel_rfl)
         have Z3_ : Z.tmps[3]? = some (.pointer (some ⟨nb, 0, none⟩)) := by rw [<- hZ]; rfl
         have F10_ : ∀ j, D j ≠ some 10 := by rw [<- hD]; exact RV.dst_free (by kernel_rfl)
         have Z10_ : Z.tmps[10]? = some (.int .i64 ((i : Int))) := by rw [<- hZ]; rfl
         have K : ∀ j v w w', R j v w -> R j v w' := by rw [hR]; intro j v w w' h; exact h
         clear hD hWA hZ hR
         refine RV.cc 0 (RV.dp (fun γ v L w hl h => h) (fun γ L a w hH hl hA => by have e0 := ((hH.rest 3 F3_).trans Z3_); have hB9 := hH.glob; have z0 := c_after hB9 d0_; have z1 := c_after hB9 d1_; have z2 := c_after hB9 d2_; exact ⟨.agg #[.int .i64 (x), .int .i64 (y), .int .i64 (z)], by simp [execOp, go_sem, e0, z0, z1, z2], (r0 _ _).mpr rfl⟩)) ?_
         refine RV.cc 1 (RV.dp (fun γ v L w hl h => h) (fun γ L a w hH hl hA => by have e0 := ((hH.rest 2 F2_).trans Z2_); exact ⟨.pointer (some ⟨cb, 0, none⟩), by simp [execOp, go_sem, e0], (r1 _ _).mpr rfl⟩)) ?_
         refine RV.cc 2 (RV.dp (fun γ v L w hl h => h) (fun γ L a w hH hl hA => by have e0 := hH.got d1 r1 (hA ⟨1, .data⟩ (by simp) rfl); have hB9 := hH.glob; have z0 := c_after hB9 q0; exact ⟨.slice (some ⟨g, f, none⟩) P.length cap, by simp [execOp, go_sem, e0, z0], (r2 _ _).mpr rfl⟩)) ?_
         refine RV.cc 3 (RV.dp (fun γ v L w hl h => h) (fun γ L a w hH hl hA => by have e0 := ((hH.rest 10 F10_).trans Z10_); exact ⟨.int .i64 ((i : Int)), by simp [execOp, go_sem, e0], (r3 _ _).mpr rfl⟩)) ?_
         refine RV.cc 4 (RV.dp (fun γ v L w hl h => h) (fun γ L a w hH hl hA => by have e0 := hH.got d2 r2 (hA ⟨2, .data⟩ (by simp) rfl); have e1 := hH.got d3 r3 (hA ⟨3, .data⟩ (by simp) rfl); exact ⟨.pointer (some ⟨g, f + i * 3, none⟩), by simp [execOp, go_sem, e0, e1, hit], (r4 _ _).mpr rfl⟩)) ?_
         refine RV.cc 5 (RV.dp (fun γ v L w hl h => h) (fun γ L a w hH hl hA => by have e0 := hH.got d4 r4 (hA ⟨4, .data⟩ (by simp) rfl); have hB9 := hH.glob; have z0 := c_after hB9 x0; have z1 := c_after hB9 x1; have z2 := c_after hB9 x2; exact ⟨.agg #[.int .i64 (px), .int .i64 (py), .int .i64 (pz)], by simp [execOp, go_sem, e0, z0, z1, z2], (r5 _ _).mpr rfl⟩)) ?_
         refine RV.cc 6 (RV.dc (fun γ L a w hH hl hA => by have e0 := hH.got d0 r0 (hA ⟨0, .data⟩ (by simp) rfl); have e1 := hH.got d5 r5 (hA ⟨5, .data⟩ (by simp) rfl); have hB9 := hH.glob; exact ⟨30, #[.agg #[.int .i64 (x), .int .i64 (y), .int .i64 (z)], .agg #[.int .i64 (px), .int .i64 (py), .int .i64 (pz)]], by simp [go_sem, e0, e1], Calls.mono (HDD.out w) (by rintro e w2 ⟨rfl, hb⟩; exact ⟨_, rfl, (r6 _ _).mpr rfl, fun j v _ h => K j v _ _ h, hB9.trans (hb.mono hB9.size)⟩)⟩)) ?_
         refine RV.cc 7 (RV.dp (fun γ v L w hl h => h) (fun γ L a w hH hl hA => by have e0 := hH.got d6 r6 (hA ⟨6, .data⟩ (by simp) rfl); exact ⟨.int .i64 (dd), by simp [execOp, go_sem, e0], (r7 _ _).mpr rfl⟩)) ?_
         exact RV.AllDo.nil
        ·intro γ a5 w5 L9 hL hLo hH
         have ha := RV.held_act hH hL (by kernel_rfl) (by kernel_rfl)
         have hb8 := hH.glob
         have y0 : γ 0 = .agg #[.int .i64 (x), .int .i64 (y), .int .i64 (z)] := hH.holds 0 (hL 0 (by decide))
         have y1 : γ 1 = .pointer (some ⟨cb, 0, none⟩) := hH.holds 1 (hL 1 (by decide))
         have y2 : γ 2 = .slice (some ⟨g, f, none⟩) P.length cap := hH.holds 2 (hL 2 (by decide))
         have y3 : γ 3 = .int .i64 ((i : Int)) := hH.holds 3 (hL 3 (by decide))
         have y4 : γ 4 = .pointer (some ⟨g, f + i * 3, none⟩) := hH.holds 4 (hL 4 (by decide))
         have y5 : γ 5 = .agg #[.int .i64 (px), .int .i64 (py), .int .i64 (pz)] := hH.holds 5 (hL 5 (by decide))
         have y6 : γ 6 = .int .i64 (dd) := hH.holds 6 (hL 6 (by decide))
         have y7 : γ 7 = .int .i64 (dd) := hH.holds 7 (hL 7 (by decide))
         rw [ha]
         clear ha hH hL hLo
         simp only [RV.putAll, Act.put, List.setIfInBounds_toArray, List.set_cons_zero, List.set_cons_succ, Nat.zero_add, Nat.reduceAdd, y0, y1, y2, y3, y4, y5, y6, y7]
         clear y0 y1 y2 y3 y4 y5 y6 y7
         have HZ : Hid _ := hb8
         go_wp2_with (fail)
         go_meet
         case rel => exact ⟨rfl, HZ⟩
       case rest =>
        obtain ⟨rfl, HB4⟩ := hcut
        clear x0 x1 x2 q0 d0_ d1_ d2_ HDD
        go_wp2_with (fail)
        go_roundg (P.length - (i + 1))
        case rel => exact ⟨i + 1, by rw [Nat.add_sub_cancel, hlb], by rw [Nat.add_sub_cancel, hmb], by simp, by omega, rfl, b_step HB2.out HB4.out⟩
        case measure => have := HG.out; omega
      ·obtain rfl : i = P.length := by omega
       have e1 : Hid _ := HLE.out
       have e2 : Hid _ := HHE.out
       clear HLE HHE
       go_wp2_with (fail)
       exact bodyPost_ret (v := .tuple #[.int .i64 (lk (P.length - 1)), .int .i64 (hk (P.length - 1))]) (by simp [results, Try.results15, go_sem]) rfl ⟨by rw [HR.out, e1.out, e2.out], HB3.out⟩
end
end Go.Proofs.Ytccdgpijjgeedaa
