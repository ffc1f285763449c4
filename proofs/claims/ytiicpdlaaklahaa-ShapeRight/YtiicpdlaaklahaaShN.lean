/- Half widths of a core, and a box's inertia. -/
import Derived.Test.YtiicpdlaaklahaaShL
namespace Go.Proofs.Ytiicpdlaaklahaa
open Go.RowKit Go.Shelf Fx
set_option linter.unusedVariables false

def minP (a p : Pt) : Pt := ⟨minI a.x p.x, minI a.y p.y, minI a.z p.z⟩
def maxP (a p : Pt) : Pt := ⟨maxI a.x p.x, maxI a.y p.y, maxI a.z p.z⟩
def lowOf (P : List Pt) (k : Nat) : Pt := (P.take k).foldl minP (pt P 0)
def highOf (P : List Pt) (k : Nat) : Pt := (P.take k).foldl maxP (pt P 0)
theorem low_next (P : List Pt) (k : Nat) (hk : k < P.length) : lowOf P (k + 1) = minP (lowOf P k) (pt P k) := by unfold lowOf; rw [take_pt hk, List.foldl_append]; rfl
theorem high_next (P : List Pt) (k : Nat) (hk : k < P.length) : highOf P (k + 1) = maxP (highOf P k) (pt P k) := by unfold highOf; rw [take_pt hk, List.foldl_append]; rfl
theorem low_high_in (P : List Pt) (m : Int) (hin : ∀ p ∈ P, p.inB m = true) (h0 : 0 < P.length) : ∀ k, k ≤ P.length → (lowOf P k).inB m = true ∧ (highOf P k).inB m = true ∧ ((lowOf P k).x ≤ (highOf P k).x ∧ (lowOf P k).y ≤ (highOf P k).y ∧ (lowOf P k).z ≤ (highOf P k).z) := by
  intro k
  induction k with
  | zero =>
    intro _
    have := hin _ (pt_mem h0)
    refine ⟨this, this, Int.le_refl _, Int.le_refl _, Int.le_refl _⟩
  | succ k ih =>
    intro hk
    obtain ⟨h1, h2, h3⟩ := ih (by omega)
    have hp := hin _ (pt_mem (show k < P.length by omega))
    rw [low_next P k (by omega), high_next P k (by omega)]
    rw [Pt.inB_iff] at h1 h2 hp ⊢
    rw [Pt.inB_iff]
    unfold minP maxP minI maxI
    dsimp only
    refine ⟨⟨?_, ?_, ?_⟩, ⟨?_, ?_, ?_⟩, ?_, ?_, ?_⟩ <;> (split <;> first | omega | (split <;> omega))
/-- A core's half width of one direction, in FX. -/
def hw (lo hi r : Int) : Int := ((hi - lo).tdiv 2 + r) * 1048576
def widths (P : List Pt) (r : Int) : Pt := ⟨hw (lowOf P P.length).x (highOf P P.length).x r, hw (lowOf P P.length).y (highOf P P.length).y r, hw (lowOf P P.length).z (highOf P P.length).z r⟩
theorem hw_in {lo hi r : Int} (h1 : -65536 ≤ lo) (h2 : hi ≤ 65536) (h3 : lo ≤ hi) (h4 : 0 ≤ r) (h5 : r ≤ 16384) : 0 ≤ hw lo hi r ∧ hw lo hi r ≤ 85899345920 ∧ 0 ≤ (hi - lo).tdiv 2 ∧ (hi - lo).tdiv 2 ≤ 65536 := by
  unfold hw
  have e : (hi - lo).tdiv 2 = (hi - lo) / 2 := Int.tdiv_eq_ediv_of_nonneg (by omega)
  rw [e]
  omega
set_option maxHeartbeats 1000000 in
theorem inFX_any (q r : Int) (ba : Nat) (w : World) (hc : w.cell? ⟨ba, 3, none⟩ = some (.int .i64 r)) (h0 : 0 ≤ q) (h1 : q ≤ 65536) (h4 : 0 ≤ r) (h5 : r ≤ 16384) :
    Calls Try.prog 74 #[.int .i64 q, .pointer (some ⟨ba, 0, none⟩)] w fun e W => e = .returned (.int .i64 ((q + r) * 1048576)) ∧ Below w.heap.size w W := by
  go_enter Try.func74, Try.ntmps74
  go_wp2
  go_ret
  exact ⟨rfl, Below.refl _ _⟩
set_option maxHeartbeats 2000000 in
set_option maxRecDepth 100000 in
theorem halfWidths_any (vp va ve : Value) (P : List Pt) (r : Int) (w0 : World) (hv : Lies w0 vp P) (h0 : 0 < P.length) (hl : P.length ≤ 100) (hin : ∀ p ∈ P, p.inB 65536 = true) (h4 : 0 ≤ r) (h5 : r ≤ 16384) (f2 : ∃ o n c, va = .slice o n c) (f3 : ∃ o n c, ve = .slice o n c) :
    Calls Try.prog 58 #[.agg #[vp, va, ve, .int .i64 r]] w0 fun e W => e = .returned (widths P r).v ∧ Below w0.heap.size w0 W := by
  obtain ⟨o2, n2, c2, rfl⟩ := f2
  obtain ⟨o3, n3, c3, rfl⟩ := f3
  obtain ⟨o, c, rfl, hlc, hcm, hcell⟩ := hv.form
  obtain ⟨g, off, rfl, x0, x1, x2⟩ := hcell 0 h0
  have HC : Hid _ := hcell
  have HIN : Hid _ := fun k hk => low_high_in P 65536 hin h0 k hk
  clear hcell hv hin
  simp only [Nat.zero_mul, Nat.add_zero] at x0 x1 x2
  have hgl : g < w0.heap.size := World.block_lt_of_cell? _ _ x0
  have HWD : Hid (widths P r = ⟨hw (lowOf P P.length).x (highOf P P.length).x r, hw (lowOf P P.length).y (highOf P P.length).y r, hw (lowOf P P.length).z (highOf P P.length).z r⟩) := rfl
  have HL0 : Hid (lowOf P 0 = pt P 0) := rfl
  have HH0 : Hid (highOf P 0 = pt P 0) := rfl
  generalize widths P r = wd at *
  generalize pt P 0 = pa at *
  have B1 : Hid (Cells ((w0.alloc (.cells #[.slice (some ⟨g, off, none⟩) P.length c, .slice o2 n2 c2, .slice o3 n3 c3, .int .i64 r] 31)).alloc (.cells #[.int .i64 0, .int .i64 0, .int .i64 0] 34)) w0.heap.size [.slice (some ⟨g, off, none⟩) P.length c, .slice o2 n2 c2, .slice o3 n3 c3, .int .i64 r]) := Cells.step (Cells.new w0 [.slice (some ⟨g, off, none⟩) P.length c, .slice o2 n2 c2, .slice o3 n3 c3, .int .i64 r] _) (n_after _ _)
  have B2 : Hid (Box3 ((w0.alloc (.cells #[.slice (some ⟨g, off, none⟩) P.length c, .slice o2 n2 c2, .slice o3 n3 c3, .int .i64 r] 31)).alloc (.cells #[.int .i64 0, .int .i64 0, .int .i64 0] 34)) (w0.heap.size + 1) Pt.O) := by have := Box3.new (w0.alloc (.cells #[.slice (some ⟨g, off, none⟩) P.length c, .slice o2 n2 c2, .slice o3 n3 c3, .int .i64 r] 31)) 0 0 0 34; rwa [World.size_alloc] at this
  have hB : Hid (Below w0.heap.size w0 ((w0.alloc (.cells #[.slice (some ⟨g, off, none⟩) P.length c, .slice o2 n2 c2, .slice o3 n3 c3, .int .i64 r] 31)).alloc (.cells #[.int .i64 0, .int .i64 0, .int .i64 0] 34))) := b_step (n_after w0 _) (n_after _ _)
  unfold Pt.v
  go_enter Try.func58, Try.ntmps58
  go_upto_region 1 with fail
  obtain ⟨V, hV⟩ : ∃ V : World, V = (w0.alloc (.cells #[.slice (some ⟨g, off, none⟩) P.length c, .slice o2 n2 c2, .slice o3 n3 c3, .int .i64 r] 31)).alloc (.cells #[.int .i64 0, .int .i64 0, .int .i64 0] 34) := ⟨_, rfl⟩
  rw [← hV] at B1 B2 hB ⊢
  clear hV
  have y0 := c_after hB.out x0
  have y1 := c_after hB.out x1
  have y2 := c_after hB.out x2
  have s0 := (B1.out 0 _ rfl).1
  have hgV : g < V.heap.size := World.block_lt_of_cell? _ _ y0
  have hwV : w0.heap.size < V.heap.size := World.block_lt_of_cell? _ _ s0
  clear x0 x1 x2
  go_cut [3, 4] from 9 (fun s3 s4 wc => ∃ bl bh, s3 = .pointer (some ⟨bl, 0, none⟩) ∧ s4 = .pointer (some ⟨bh, 0, none⟩) ∧ bl ≠ bh ∧ V.heap.size ≤ bl ∧ V.heap.size ≤ bh ∧ Hid (Box3 wc bl pa) ∧ Hid (Box3 wc bh pa) ∧ Hid (Below V.heap.size V wc))
  case first =>
    go_region
    · go_wp2_with (fail)
      go_meet
      case rel => exact ⟨_, _, rfl, rfl, by omega, by omega, by omega, (Box3.new V pa.x pa.y pa.z _).step ((n_after _ _).drew), (by have := Box3.new (V.alloc (.cells #[.int .i64 pa.x, .int .i64 pa.y, .int .i64 pa.z] 23)) pa.x pa.y pa.z 23; rw [World.size_alloc] at this; exact this.step (Below.refl _ _).drew), (b_step (n_after V _) (n_after _ _)).drew⟩
    · go_wp2_with (fail)
      go_meet
      case rel => exact ⟨_, _, rfl, rfl, by omega, by omega, by omega, (by have := Box3.new (V.alloc (.cells #[.int .i64 pa.x, .int .i64 pa.y, .int .i64 pa.z] 23)) pa.x pa.y pa.z 23; rw [World.size_alloc] at this; exact this.step (Below.refl _ _).drew), (Box3.new V pa.x pa.y pa.z _).step ((n_after _ _).drew), (b_step (n_after V _) (n_after _ _)).drew⟩
  case rest =>
    obtain ⟨bl, bh, rfl, rfl, hbl, hV1, hV2, BL, BH, HB⟩ := hcut
    clear y0 y1 y2 s0
    have s0 := (Cells.step B1.out HB.out 0 _ rfl).1
    go_wp2_with (fail)
    clear s0
    go_loopg [20] P.length (fun gm i wr => ∃ k : Nat, i = .int .i64 (k : Int) ∧ k ≤ P.length ∧ gm = P.length - k ∧ Hid (Box3 wr bl (lowOf P k)) ∧ Hid (Box3 wr bh (highOf P k)) ∧ Hid (Below V.heap.size V wr))
    case atStart => exact ⟨0, rfl, Nat.zero_le _, rfl, by rw [HL0.out]; exact BL, by rw [HH0.out]; exact BH, HB⟩
    case round =>
      clear BL BH HB
      obtain ⟨k, rfl, hk, hgm, BL, BH, HB⟩ := hrel
      have HG : Hid _ := hgm
      clear hgm
      by_cases hlt : k < P.length
      · obtain ⟨g', off', e', x0, x1, x2⟩ := HC.out k hlt
        simp only [Option.some.injEq, Addr.mk.injEq, and_true] at e'
        obtain ⟨rfl, rfl⟩ := e'
        have x0 := c_after HB.out (c_after hB.out x0)
        have x1 := c_after HB.out (c_after hB.out x1)
        have x2 := c_after HB.out (c_after hB.out x2)
        have HN1 : Hid _ := low_next P k hlt
        have HN2 : Hid _ := high_next P k hlt
        generalize pt P k = p at *
        generalize lowOf P k = lo at *
        generalize highOf P k = hi at *
        unfold minP minI at HN1
        unfold maxP maxI at HN2
        obtain ⟨nlx, e1⟩ : ∃ v, (if p.x < lo.x then p.x else lo.x) = v := ⟨_, rfl⟩
        obtain ⟨nly, e2⟩ : ∃ v, (if p.y < lo.y then p.y else lo.y) = v := ⟨_, rfl⟩
        obtain ⟨nlz, e3⟩ : ∃ v, (if p.z < lo.z then p.z else lo.z) = v := ⟨_, rfl⟩
        obtain ⟨nhx, e4⟩ : ∃ v, (if p.x > hi.x then p.x else hi.x) = v := ⟨_, rfl⟩
        obtain ⟨nhy, e5⟩ : ∃ v, (if p.y > hi.y then p.y else hi.y) = v := ⟨_, rfl⟩
        obtain ⟨nhz, e6⟩ : ∃ v, (if p.z > hi.z then p.z else hi.z) = v := ⟨_, rfl⟩
        rw [e1, e2, e3] at HN1
        rw [e4, e5, e6] at HN2
        go_upto_region 5 with fail
        obtain ⟨W1, hW1⟩ : ∃ W1 : World, W1 = wr.alloc (.cells #[.int .i64 p.x, .int .i64 p.y, .int .i64 p.z] 23) := ⟨_, rfl⟩
        obtain ⟨bp, hbp⟩ : ∃ bp, bp = wr.heap.size := ⟨_, rfl⟩
        have BP : Hid (Box3 (wr.alloc (.cells #[.int .i64 p.x, .int .i64 p.y, .int .i64 p.z] 23)) wr.heap.size p) := Box3.new wr p.x p.y p.z _
        have hX : Below wr.heap.size wr W1 := by rw [hW1]; exact n_after _ _
        have hl1 : bl < bp := by rw [hbp]; exact BL.out.lt
        have hl2 : bh < bp := by rw [hbp]; exact BH.out.lt
        rw [← hW1, ← hbp] at BP ⊢
        clear hW1 hbp x0 x1 x2
        have BL : Hid _ := BL.out.step hX
        have BH : Hid _ := BH.out.step hX
        have HB : Hid _ := b_step HB.out hX
        clear hX
        obtain ⟨l0, l1, l2, lf0, lf1, lf2⟩ := BL.out
        obtain ⟨p0, p1, p2, _, _, _⟩ := BP.out
        go_upto_region 6 with fail
        have BH2 : Hid (Box3 (set3 W1 bl nlx nly nlz) bh hi) := BH.out.other (by omega) _ _ _
        have BP2 : Hid (Box3 (set3 W1 bl nlx nly nlz) bp p) := BP.out.other (by omega) _ _ _
        have BL2 : Hid (Box3 (set3 W1 bl nlx nly nlz) bl ⟨nlx, nly, nlz⟩) := BL.out.set _ _ _
        have HB2 : Hid (Below V.heap.size V (set3 W1 bl nlx nly nlz)) := set3_below HB.out (by omega) _ _ _
        generalize hW2 : set3 W1 bl nlx nly nlz = W2 at *
        unfold set3 at hW2
        rw [hW2]
        clear hW2 l0 l1 l2 lf0 lf1 lf2 p0 p1 p2 BL BH BP HB
        obtain ⟨l0, l1, l2, lf0, lf1, lf2⟩ := BH2.out
        obtain ⟨p0, p1, p2, _, _, _⟩ := BP2.out
        have BH3 : Hid (Box3 (set3 W2 bh nhx nhy nhz) bh ⟨nhx, nhy, nhz⟩) := BH2.out.set _ _ _
        have BL3 : Hid (Box3 (set3 W2 bh nhx nhy nhz) bl ⟨nlx, nly, nlz⟩) := BL2.out.other (by omega) _ _ _
        have HB3 : Hid (Below V.heap.size V (set3 W2 bh nhx nhy nhz)) := set3_below HB2.out (by omega) _ _ _
        unfold set3 at BH3 BL3 HB3
        go_wp2_with (fail)
        go_roundg (P.length - (k + 1))
        case measure => have := HG.out; omega
        case rel => exact ⟨k + 1, by go_num, by omega, rfl, by rw [HN1.out]; exact BL3, by rw [HN2.out]; exact BH3, HB3⟩
      · have e : k = P.length := by omega
        subst e
        obtain ⟨i1, i2, i3⟩ := HIN.out P.length (Nat.le_refl _)
        rw [Pt.inB_iff] at i1 i2
        generalize lowOf P P.length = lo at *
        generalize highOf P P.length = hi at *
        obtain ⟨hx1, hx2, hx3, hx4⟩ := hw_in (r := r) i1.1.1 i2.1.2 i3.1 h4 h5
        obtain ⟨hy1, hy2, hy3, hy4⟩ := hw_in (r := r) i1.2.1.1 i2.2.1.2 i3.2.1 h4 h5
        obtain ⟨hz1, hz2, hz3, hz4⟩ := hw_in (r := r) i1.2.2.1 i2.2.2.2 i3.2.2 h4 h5
        have M1 : Hid _ := fun w' => less_any hi lo w' (by rw [Pt.inB_iff]; omega) (by rw [Pt.inB_iff]; omega)
        have M2 : Hid _ := fun w' => divided_any (hi.sub lo) 2 w' (by rw [Pt.inB_iff]; unfold Pt.sub; dsimp only; omega) (by decide) (by decide)
        have HD : Hid (wd = ⟨(((hi.sub lo).by 2).x + r) * 1048576, (((hi.sub lo).by 2).y + r) * 1048576, (((hi.sub lo).by 2).z + r) * 1048576⟩) := HWD.out
        have hdx : 0 ≤ ((hi.sub lo).by 2).x ∧ ((hi.sub lo).by 2).x ≤ 65536 := ⟨hx3, hx4⟩
        have hdy : 0 ≤ ((hi.sub lo).by 2).y ∧ ((hi.sub lo).by 2).y ≤ 65536 := ⟨hy3, hy4⟩
        have hdz : 0 ≤ ((hi.sub lo).by 2).z ∧ ((hi.sub lo).by 2).z ≤ 65536 := ⟨hz3, hz4⟩
        clear HWD HIN i1 i2 i3 hx1 hx2 hx3 hx4 hy1 hy2 hy3 hy4 hz1 hz2 hz3 hz4
        generalize (hi.sub lo).by 2 = dd at *
        unfold Pt.v at M1 M2
        obtain ⟨l0, l1, l2, _, _, _⟩ := BL.out
        obtain ⟨p0, p1, p2, _, _, _⟩ := BH.out
        go_wp2_with (fail)
        refine Calls.mono (M1.out _) ?_
        rintro e W2 ⟨rfl, hb⟩
        have HB : Hid _ := b_step HB.out hb
        clear hb l0 l1 l2 p0 p1 p2 BL BH M1
        go_wp2_with (fail)
        refine Calls.mono (M2.out _) ?_
        rintro e W3 ⟨rfl, hb⟩
        have HB : Hid _ := b_step HB.out hb
        clear hb M2
        go_upto_region 10 with fail
        obtain ⟨W4, hW4⟩ : ∃ W4 : World, W4 = W3.alloc (.cells #[.int .i64 dd.x, .int .i64 dd.y, .int .i64 dd.z] 23) := ⟨_, rfl⟩
        obtain ⟨bd, hbd⟩ : ∃ bd, bd = W3.heap.size := ⟨_, rfl⟩
        have BD : Hid (Box3 (W3.alloc (.cells #[.int .i64 dd.x, .int .i64 dd.y, .int .i64 dd.z] 23)) W3.heap.size dd) := Box3.new W3 dd.x dd.y dd.z _
        have hX : Below W3.heap.size W3 W4 := by rw [hW4]; exact n_after _ _
        rw [← hW4, ← hbd] at BD ⊢
        clear hW4 hbd
        have HB : Hid _ := b_step HB.out hX
        clear hX
        have D1 := Cells.step B1.out HB.out
        have D2 := B2.out.step HB.out
        obtain ⟨x0, x1, x2, _, _, _⟩ := BD.out
        obtain ⟨o0, o1, o2, f0, f1, f2⟩ := D2
        simp only [Pt.O] at o0 o1 o2
        have s3 := (D1 3 _ rfl).1
        have hBW : Hid _ := b_step hB.out HB.out
        clear D1 B1 B2
        go_upto_region 10 with fail
        refine RV.region_by (fun j v w => match j with | 0 => v = .func (.func 74) #[] #[.pointer (some ⟨w0.heap.size, 0, none⟩)] | 1 => v = .pointer (some ⟨bd, 0, none⟩) | 2 => v = .int .i64 (dd.x) | 3 => v = .int .i64 ((dd.x + r) * 1048576) | 4 => v = .func (.func 74) #[] #[.pointer (some ⟨w0.heap.size, 0, none⟩)] | 5 => v = .pointer (some ⟨bd, 1, none⟩) | 6 => v = .int .i64 (dd.y) | 7 => v = .int .i64 ((dd.y + r) * 1048576) | 8 => v = .func (.func 74) #[] #[.pointer (some ⟨w0.heap.size, 0, none⟩)] | 9 => v = .pointer (some ⟨bd, 2, none⟩) | 10 => v = .int .i64 (dd.z) | 11 => v = .int .i64 ((dd.z + r) * 1048576) | 12 => v = .agg #[.int .i64 ((dd.x + r) * 1048576), .int .i64 ((dd.y + r) * 1048576), .int .i64 ((dd.z + r) * 1048576)] | 13 => True | _ => True) (fun γ L w9 => (L 13 = false ∧ Below W4.heap.size W4 w9) ∨ (L 13 = true ∧ ∃ w, Below W4.heap.size W4 w ∧ w9 = (((w.setCell ⟨(w0.heap.size + 1), 0, none⟩ (.int .i64 ((dd.x + r) * 1048576))).setCell ⟨(w0.heap.size + 1), 1, none⟩ (.int .i64 ((dd.y + r) * 1048576))).setCell ⟨(w0.heap.size + 1), 2, none⟩ (.int .i64 ((dd.z + r) * 1048576))))) (by kernel_rfl) (by kernel_rfl) (by kernel_rfl) (by kernel_rfl) ?_ ?_ ?_
        · exact Or.inl ⟨rfl, (Below.refl _ W4).drew⟩
        · generalize hD : dstOf _ = D
          generalize hWA : waitsFor _ = WA
          generalize hZ : Act.mk _ _ = Z
          obtain ⟨R, hR⟩ : ∃ R : Nat → Value → World → Prop, R = (fun j v w => match j with | 0 => v = .func (.func 74) #[] #[.pointer (some ⟨w0.heap.size, 0, none⟩)] | 1 => v = .pointer (some ⟨bd, 0, none⟩) | 2 => v = .int .i64 (dd.x) | 3 => v = .int .i64 ((dd.x + r) * 1048576) | 4 => v = .func (.func 74) #[] #[.pointer (some ⟨w0.heap.size, 0, none⟩)] | 5 => v = .pointer (some ⟨bd, 1, none⟩) | 6 => v = .int .i64 (dd.y) | 7 => v = .int .i64 ((dd.y + r) * 1048576) | 8 => v = .func (.func 74) #[] #[.pointer (some ⟨w0.heap.size, 0, none⟩)] | 9 => v = .pointer (some ⟨bd, 2, none⟩) | 10 => v = .int .i64 (dd.z) | 11 => v = .int .i64 ((dd.z + r) * 1048576) | 12 => v = .agg #[.int .i64 ((dd.x + r) * 1048576), .int .i64 ((dd.y + r) * 1048576), .int .i64 ((dd.z + r) * 1048576)] | 13 => True | _ => True) := ⟨_, rfl⟩
          rw [← hR]
          have d0 : D 0 = some 62 := by rw [← hD]; rfl
          have d1 : D 1 = some 63 := by rw [← hD]; rfl
          have d2 : D 2 = some 64 := by rw [← hD]; rfl
          have d3 : D 3 = some 65 := by rw [← hD]; rfl
          have d4 : D 4 = some 66 := by rw [← hD]; rfl
          have d5 : D 5 = some 67 := by rw [← hD]; rfl
          have d6 : D 6 = some 68 := by rw [← hD]; rfl
          have d7 : D 7 = some 69 := by rw [← hD]; rfl
          have d8 : D 8 = some 70 := by rw [← hD]; rfl
          have d9 : D 9 = some 71 := by rw [← hD]; rfl
          have d10 : D 10 = some 72 := by rw [← hD]; rfl
          have d11 : D 11 = some 73 := by rw [← hD]; rfl
          have d12 : D 12 = some 74 := by rw [← hD]; rfl
          have r0 : ∀ v w, R 0 v w = (v = .func (.func 74) #[] #[.pointer (some ⟨w0.heap.size, 0, none⟩)]) := fun v w => by rw [hR]; rfl
          have r1 : ∀ v w, R 1 v w = (v = .pointer (some ⟨bd, 0, none⟩)) := fun v w => by rw [hR]; rfl
          have r2 : ∀ v w, R 2 v w = (v = .int .i64 (dd.x)) := fun v w => by rw [hR]; rfl
          have r3 : ∀ v w, R 3 v w = (v = .int .i64 ((dd.x + r) * 1048576)) := fun v w => by rw [hR]; rfl
          have r4 : ∀ v w, R 4 v w = (v = .func (.func 74) #[] #[.pointer (some ⟨w0.heap.size, 0, none⟩)]) := fun v w => by rw [hR]; rfl
          have r5 : ∀ v w, R 5 v w = (v = .pointer (some ⟨bd, 1, none⟩)) := fun v w => by rw [hR]; rfl
          have r6 : ∀ v w, R 6 v w = (v = .int .i64 (dd.y)) := fun v w => by rw [hR]; rfl
          have r7 : ∀ v w, R 7 v w = (v = .int .i64 ((dd.y + r) * 1048576)) := fun v w => by rw [hR]; rfl
          have r8 : ∀ v w, R 8 v w = (v = .func (.func 74) #[] #[.pointer (some ⟨w0.heap.size, 0, none⟩)]) := fun v w => by rw [hR]; rfl
          have r9 : ∀ v w, R 9 v w = (v = .pointer (some ⟨bd, 2, none⟩)) := fun v w => by rw [hR]; rfl
          have r10 : ∀ v w, R 10 v w = (v = .int .i64 (dd.z)) := fun v w => by rw [hR]; rfl
          have r11 : ∀ v w, R 11 v w = (v = .int .i64 ((dd.z + r) * 1048576)) := fun v w => by rw [hR]; rfl
          have r12 : ∀ v w, R 12 v w = (v = .agg #[.int .i64 ((dd.x + r) * 1048576), .int .i64 ((dd.y + r) * 1048576), .int .i64 ((dd.z + r) * 1048576)]) := fun v w => by rw [hR]; rfl
          have r13 : ∀ v w, R 13 v w = (True) := fun v w => by rw [hR]; rfl
          have E2 : ∀ (γ : Nat → Value) (L : Nat → Bool) (a : Act) (w : World), RV.Held D WA R (fun γ L w9 => (L 13 = false ∧ Below W4.heap.size W4 w9) ∨ (L 13 = true ∧ ∃ w, Below W4.heap.size W4 w ∧ w9 = (((w.setCell ⟨(w0.heap.size + 1), 0, none⟩ (.int .i64 ((dd.x + r) * 1048576))).setCell ⟨(w0.heap.size + 1), 1, none⟩ (.int .i64 ((dd.y + r) * 1048576))).setCell ⟨(w0.heap.size + 1), 2, none⟩ (.int .i64 ((dd.z + r) * 1048576))))) Z γ L a w → a.tmps[2]? = some (.pointer (some ⟨(w0.heap.size + 1), 0, none⟩)) := fun γ L a w hH => (hH.rest 2 (by rw [← hD]; exact RV.dst_free (by kernel_rfl))).trans (by rw [← hZ]; rfl)
          have E7 : ∀ (γ : Nat → Value) (L : Nat → Bool) (a : Act) (w : World), RV.Held D WA R (fun γ L w9 => (L 13 = false ∧ Below W4.heap.size W4 w9) ∨ (L 13 = true ∧ ∃ w, Below W4.heap.size W4 w ∧ w9 = (((w.setCell ⟨(w0.heap.size + 1), 0, none⟩ (.int .i64 ((dd.x + r) * 1048576))).setCell ⟨(w0.heap.size + 1), 1, none⟩ (.int .i64 ((dd.y + r) * 1048576))).setCell ⟨(w0.heap.size + 1), 2, none⟩ (.int .i64 ((dd.z + r) * 1048576))))) Z γ L a w → a.tmps[7]? = some (.pointer (some ⟨bd, 0, none⟩)) := fun γ L a w hH => (hH.rest 7 (by rw [← hD]; exact RV.dst_free (by kernel_rfl))).trans (by rw [← hZ]; rfl)
          have E8 : ∀ (γ : Nat → Value) (L : Nat → Bool) (a : Act) (w : World), RV.Held D WA R (fun γ L w9 => (L 13 = false ∧ Below W4.heap.size W4 w9) ∨ (L 13 = true ∧ ∃ w, Below W4.heap.size W4 w ∧ w9 = (((w.setCell ⟨(w0.heap.size + 1), 0, none⟩ (.int .i64 ((dd.x + r) * 1048576))).setCell ⟨(w0.heap.size + 1), 1, none⟩ (.int .i64 ((dd.y + r) * 1048576))).setCell ⟨(w0.heap.size + 1), 2, none⟩ (.int .i64 ((dd.z + r) * 1048576))))) Z γ L a w → a.tmps[8]? = some (.func (.func 74) #[] #[.pointer (some ⟨w0.heap.size, 0, none⟩)]) := fun γ L a w hH => (hH.rest 8 (by rw [← hD]; exact RV.dst_free (by kernel_rfl))).trans (by rw [← hZ]; rfl)
          have K : ∀ j v w w', R j v w → R j v w' := by rw [hR]; intro j v w w' h; exact h
          have A_13_2 : WA 13 2 := by rw [← hWA]; exact ⟨_, rfl, ⟨2, .phase⟩, by simp, rfl, rfl⟩
          have A_13_3 : WA 13 3 := by rw [← hWA]; exact ⟨_, rfl, ⟨3, .phase⟩, by simp, rfl, rfl⟩
          have A_13_6 : WA 13 6 := by rw [← hWA]; exact ⟨_, rfl, ⟨6, .phase⟩, by simp, rfl, rfl⟩
          have A_13_7 : WA 13 7 := by rw [← hWA]; exact ⟨_, rfl, ⟨7, .phase⟩, by simp, rfl, rfl⟩
          have A_13_10 : WA 13 10 := by rw [← hWA]; exact ⟨_, rfl, ⟨10, .phase⟩, by simp, rfl, rfl⟩
          have A_13_11 : WA 13 11 := by rw [← hWA]; exact ⟨_, rfl, ⟨11, .phase⟩, by simp, rfl, rfl⟩
          clear hD hWA hZ hR
          refine RV.AllDo.cons 0 (RV.does_pure (fun γ v L w hl h => by rw [RV.more_ne (L := L) (i := 0) (j := 13) (by decide)]; exact h) (fun γ L a w hH hl hA => by have e0 := E8 γ L a w hH; exact ⟨.func (.func 74) #[] #[.pointer (some ⟨w0.heap.size, 0, none⟩)], by simp [execOp, go_sem, e0], (r0 _ _).mpr rfl⟩)) ?_
          refine RV.AllDo.cons 1 (RV.does_pure (fun γ v L w hl h => by rw [RV.more_ne (L := L) (i := 1) (j := 13) (by decide)]; exact h) (fun γ L a w hH hl hA => by have e0 := E7 γ L a w hH; exact ⟨.pointer (some ⟨bd, 0, none⟩), by simp [execOp, go_sem, e0], (r1 _ _).mpr rfl⟩)) ?_
          refine RV.AllDo.cons 2 (RV.does_pure (fun γ v L w hl h => by rw [RV.more_ne (L := L) (i := 2) (j := 13) (by decide)]; exact h) (fun γ L a w hH hl hA => by have l0 : L 1 = true := hA ⟨1, .data⟩ (by simp) rfl; have e0 := hH.slot 1 63 d1 l0; have g0 := hH.holds 1 l0; rw [r1] at g0; rw [g0] at e0; have hB9 := early9 hH.glob (RV.not_yet hH A_13_2 hl); have z0 := c_after hB9 x0; exact ⟨.int .i64 (dd.x), by simp [execOp, go_sem, e0, z0], (r2 _ _).mpr rfl⟩)) ?_
          refine RV.AllDo.cons 3 (RV.does_call (fun γ L a w hH hl hA => by have l0 : L 0 = true := hA ⟨0, .data⟩ (by simp) rfl; have e0 := hH.slot 0 62 d0 l0; have g0 := hH.holds 0 l0; rw [r0] at g0; rw [g0] at e0; have l1 : L 2 = true := hA ⟨2, .data⟩ (by simp) rfl; have e1 := hH.slot 2 64 d2 l1; have g1 := hH.holds 2 l1; rw [r2] at g1; rw [g1] at e1; have hB9 := early9 hH.glob (RV.not_yet hH A_13_3 hl); exact ⟨74, #[.int .i64 dd.x, .pointer (some ⟨w0.heap.size, 0, none⟩)], by simp [go_sem, e0, e1], Calls.mono (inFX_any dd.x r w0.heap.size w (c_after hB9 s3) hdx.1 hdx.2 h4 h5) (by rintro e w2 ⟨rfl, hb⟩; exact ⟨_, rfl, (r3 _ _).mpr rfl, fun j v _ h => K j v _ _ h, Or.inl ⟨by rw [RV.more_ne (L := L) (i := 3) (j := 13) (by decide)]; exact RV.not_yet hH A_13_3 hl, hB9.trans (hb.mono hB9.size)⟩⟩)⟩)) ?_
          refine RV.AllDo.cons 4 (RV.does_pure (fun γ v L w hl h => by rw [RV.more_ne (L := L) (i := 4) (j := 13) (by decide)]; exact h) (fun γ L a w hH hl hA => by have e0 := E8 γ L a w hH; exact ⟨.func (.func 74) #[] #[.pointer (some ⟨w0.heap.size, 0, none⟩)], by simp [execOp, go_sem, e0], (r4 _ _).mpr rfl⟩)) ?_
          refine RV.AllDo.cons 5 (RV.does_pure (fun γ v L w hl h => by rw [RV.more_ne (L := L) (i := 5) (j := 13) (by decide)]; exact h) (fun γ L a w hH hl hA => by have e0 := E7 γ L a w hH; exact ⟨.pointer (some ⟨bd, 1, none⟩), by simp [execOp, go_sem, e0], (r5 _ _).mpr rfl⟩)) ?_
          refine RV.AllDo.cons 6 (RV.does_pure (fun γ v L w hl h => by rw [RV.more_ne (L := L) (i := 6) (j := 13) (by decide)]; exact h) (fun γ L a w hH hl hA => by have l0 : L 5 = true := hA ⟨5, .data⟩ (by simp) rfl; have e0 := hH.slot 5 67 d5 l0; have g0 := hH.holds 5 l0; rw [r5] at g0; rw [g0] at e0; have hB9 := early9 hH.glob (RV.not_yet hH A_13_6 hl); have z0 := c_after hB9 x1; exact ⟨.int .i64 (dd.y), by simp [execOp, go_sem, e0, z0], (r6 _ _).mpr rfl⟩)) ?_
          refine RV.AllDo.cons 7 (RV.does_call (fun γ L a w hH hl hA => by have l0 : L 4 = true := hA ⟨4, .data⟩ (by simp) rfl; have e0 := hH.slot 4 66 d4 l0; have g0 := hH.holds 4 l0; rw [r4] at g0; rw [g0] at e0; have l1 : L 6 = true := hA ⟨6, .data⟩ (by simp) rfl; have e1 := hH.slot 6 68 d6 l1; have g1 := hH.holds 6 l1; rw [r6] at g1; rw [g1] at e1; have hB9 := early9 hH.glob (RV.not_yet hH A_13_7 hl); exact ⟨74, #[.int .i64 dd.y, .pointer (some ⟨w0.heap.size, 0, none⟩)], by simp [go_sem, e0, e1], Calls.mono (inFX_any dd.y r w0.heap.size w (c_after hB9 s3) hdy.1 hdy.2 h4 h5) (by rintro e w2 ⟨rfl, hb⟩; exact ⟨_, rfl, (r7 _ _).mpr rfl, fun j v _ h => K j v _ _ h, Or.inl ⟨by rw [RV.more_ne (L := L) (i := 7) (j := 13) (by decide)]; exact RV.not_yet hH A_13_7 hl, hB9.trans (hb.mono hB9.size)⟩⟩)⟩)) ?_
          refine RV.AllDo.cons 8 (RV.does_pure (fun γ v L w hl h => by rw [RV.more_ne (L := L) (i := 8) (j := 13) (by decide)]; exact h) (fun γ L a w hH hl hA => by have e0 := E8 γ L a w hH; exact ⟨.func (.func 74) #[] #[.pointer (some ⟨w0.heap.size, 0, none⟩)], by simp [execOp, go_sem, e0], (r8 _ _).mpr rfl⟩)) ?_
          refine RV.AllDo.cons 9 (RV.does_pure (fun γ v L w hl h => by rw [RV.more_ne (L := L) (i := 9) (j := 13) (by decide)]; exact h) (fun γ L a w hH hl hA => by have e0 := E7 γ L a w hH; exact ⟨.pointer (some ⟨bd, 2, none⟩), by simp [execOp, go_sem, e0], (r9 _ _).mpr rfl⟩)) ?_
          refine RV.AllDo.cons 10 (RV.does_pure (fun γ v L w hl h => by rw [RV.more_ne (L := L) (i := 10) (j := 13) (by decide)]; exact h) (fun γ L a w hH hl hA => by have l0 : L 9 = true := hA ⟨9, .data⟩ (by simp) rfl; have e0 := hH.slot 9 71 d9 l0; have g0 := hH.holds 9 l0; rw [r9] at g0; rw [g0] at e0; have hB9 := early9 hH.glob (RV.not_yet hH A_13_10 hl); have z0 := c_after hB9 x2; exact ⟨.int .i64 (dd.z), by simp [execOp, go_sem, e0, z0], (r10 _ _).mpr rfl⟩)) ?_
          refine RV.AllDo.cons 11 (RV.does_call (fun γ L a w hH hl hA => by have l0 : L 8 = true := hA ⟨8, .data⟩ (by simp) rfl; have e0 := hH.slot 8 70 d8 l0; have g0 := hH.holds 8 l0; rw [r8] at g0; rw [g0] at e0; have l1 : L 10 = true := hA ⟨10, .data⟩ (by simp) rfl; have e1 := hH.slot 10 72 d10 l1; have g1 := hH.holds 10 l1; rw [r10] at g1; rw [g1] at e1; have hB9 := early9 hH.glob (RV.not_yet hH A_13_11 hl); exact ⟨74, #[.int .i64 dd.z, .pointer (some ⟨w0.heap.size, 0, none⟩)], by simp [go_sem, e0, e1], Calls.mono (inFX_any dd.z r w0.heap.size w (c_after hB9 s3) hdz.1 hdz.2 h4 h5) (by rintro e w2 ⟨rfl, hb⟩; exact ⟨_, rfl, (r11 _ _).mpr rfl, fun j v _ h => K j v _ _ h, Or.inl ⟨by rw [RV.more_ne (L := L) (i := 11) (j := 13) (by decide)]; exact RV.not_yet hH A_13_11 hl, hB9.trans (hb.mono hB9.size)⟩⟩)⟩)) ?_
          refine RV.AllDo.cons 12 (RV.does_pure (fun γ v L w hl h => by rw [RV.more_ne (L := L) (i := 12) (j := 13) (by decide)]; exact h) (fun γ L a w hH hl hA => by have l0 : L 3 = true := hA ⟨3, .data⟩ (by simp) rfl; have e0 := hH.slot 3 65 d3 l0; have g0 := hH.holds 3 l0; rw [r3] at g0; rw [g0] at e0; have l1 : L 7 = true := hA ⟨7, .data⟩ (by simp) rfl; have e1 := hH.slot 7 69 d7 l1; have g1 := hH.holds 7 l1; rw [r7] at g1; rw [g1] at e1; have l2 : L 11 = true := hA ⟨11, .data⟩ (by simp) rfl; have e2 := hH.slot 11 73 d11 l2; have g2 := hH.holds 11 l2; rw [r11] at g2; rw [g2] at e2; exact ⟨.agg #[.int .i64 ((dd.x + r) * 1048576), .int .i64 ((dd.y + r) * 1048576), .int .i64 ((dd.z + r) * 1048576)], by simp [execOp, go_sem, e0, e1, e2], (r12 _ _).mpr rfl⟩)) ?_
          refine RV.AllDo.cons 13 (RV.does_store (fun γ L a w hH hl hA => by have e0 := E2 γ L a w hH; have l1 : L 12 = true := hA ⟨12, .data⟩ (by simp) rfl; have e1 := hH.slot 12 74 d12 l1; have g1 := hH.holds 12 l1; rw [r12] at g1; rw [g1] at e1; have hB9 := early9 hH.glob hl; have z0 := c_after hB9 o0; have zf0 := f_after hB9 o0 f0; have z1 := c_after hB9 o1; have zf1 := f_after hB9 o1 f1; have z2 := c_after hB9 o2; have zf2 := f_after hB9 o2 f2; exact ⟨(((w.setCell ⟨(w0.heap.size + 1), 0, none⟩ (.int .i64 ((dd.x + r) * 1048576))).setCell ⟨(w0.heap.size + 1), 1, none⟩ (.int .i64 ((dd.y + r) * 1048576))).setCell ⟨(w0.heap.size + 1), 2, none⟩ (.int .i64 ((dd.z + r) * 1048576))), by simp [execOp, go_sem, e0, e1, z0, zf0, z1, zf1, z2, zf2], (r13 _ _).mpr trivial, fun j v _ h => K j v _ _ h, Or.inr ⟨RV.more_self, w, hB9, rfl⟩⟩)) ?_
          exact RV.AllDo.nil
        · intro γ a5 w5 L9 hL hLo hH
          have ha := RV.held_act hH hL (by kernel_rfl) (by kernel_rfl)
          obtain ⟨w8, hb8, rfl⟩ := late9 hH.glob (hL 13 (by decide))
          have y0 : γ 0 = .func (.func 74) #[] #[.pointer (some ⟨w0.heap.size, 0, none⟩)] := hH.holds 0 (hL 0 (by decide))
          have y1 : γ 1 = .pointer (some ⟨bd, 0, none⟩) := hH.holds 1 (hL 1 (by decide))
          have y2 : γ 2 = .int .i64 (dd.x) := hH.holds 2 (hL 2 (by decide))
          have y3 : γ 3 = .int .i64 ((dd.x + r) * 1048576) := hH.holds 3 (hL 3 (by decide))
          have y4 : γ 4 = .func (.func 74) #[] #[.pointer (some ⟨w0.heap.size, 0, none⟩)] := hH.holds 4 (hL 4 (by decide))
          have y5 : γ 5 = .pointer (some ⟨bd, 1, none⟩) := hH.holds 5 (hL 5 (by decide))
          have y6 : γ 6 = .int .i64 (dd.y) := hH.holds 6 (hL 6 (by decide))
          have y7 : γ 7 = .int .i64 ((dd.y + r) * 1048576) := hH.holds 7 (hL 7 (by decide))
          have y8 : γ 8 = .func (.func 74) #[] #[.pointer (some ⟨w0.heap.size, 0, none⟩)] := hH.holds 8 (hL 8 (by decide))
          have y9 : γ 9 = .pointer (some ⟨bd, 2, none⟩) := hH.holds 9 (hL 9 (by decide))
          have y10 : γ 10 = .int .i64 (dd.z) := hH.holds 10 (hL 10 (by decide))
          have y11 : γ 11 = .int .i64 ((dd.z + r) * 1048576) := hH.holds 11 (hL 11 (by decide))
          have y12 : γ 12 = .agg #[.int .i64 ((dd.x + r) * 1048576), .int .i64 ((dd.y + r) * 1048576), .int .i64 ((dd.z + r) * 1048576)] := hH.holds 12 (hL 12 (by decide))
          rw [ha]
          clear ha hH hL hLo
          simp only [RV.putAll, Act.put, List.setIfInBounds_toArray, List.set_cons_zero, List.set_cons_succ, Nat.zero_add, Nat.reduceAdd, y0, y1, y2, y3, y4, y5, y6, y7, y8, y9, y10, y11, y12]
          clear y0 y1 y2 y3 y4 y5 y6 y7 y8 y9 y10 y11 y12
          have q0 := c_after hb8 o0
          have q1 := c_after hb8 o1
          have q2 := c_after hb8 o2
          have hE : Hid _ := b_step hBW.out hb8
          go_wp2_with (fail)
          have e := HD.out
          subst e
          refine bodyPost_ret (v := .agg #[.int .i64 ((dd.x + r) * 1048576), .int .i64 ((dd.y + r) * 1048576), .int .i64 ((dd.z + r) * 1048576)]) (by simp [results, Try.results58, go_sem, q0, q1, q2]) rfl ⟨rfl, ?_⟩
          exact set3_below hE.out (by omega) _ _ _
end Go.Proofs.Ytiicpdlaaklahaa
