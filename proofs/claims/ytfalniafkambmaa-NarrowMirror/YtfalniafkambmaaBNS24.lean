/- Two raw shapes at raw poses, near one another: their cores may be told apart. -/
import Derived.Test.YtfalniafkambmaaBNS0
import Derived.Test.YtfalniafkambmaaBNS23
import Derived.Test.YtfalniafkambmaaProg
import Derived.Lib.SmallJoins
import Derived.OpenShut
import Derived.Test.YtfalniafkambmaaBNS6
import Derived.Deep.Slices
namespace Go.Proofs.Ytfalniafkambmaa
open Go.RowKit Go.Shelf
set_option linter.unusedVariables false

/-- A list that lies behind a place. -/
def farL (n : Nat) (v : Value) (L : List Pt) : Prop := ∀ q k c, v = .slice (some q) k c → L ≠ [] → n ≤ q.block
theorem own_farL {W : World} {base m n : Nat} {v : Value} {xs : List Value} {L : List Pt} (h : W.ownsRow base 23 3 v n xs) (hm : m ≤ base) : farL m v L := fun q k c e _ => by
  subst e
  have := (h.lt q.block rfl).1
  omega
theorem Lies.put4 {W : World} {v : Value} {Ls : List Pt} (h : Lies W v Ls) {b : Nat} (hne : ∀ q n c, v = .slice (some q) n c → Ls ≠ [] → q.block ≠ b) (x y z u : Value) : Lies (set4 W b x y z u) v Ls := (h.put hne x y z).grown (setg _ b 3 u) hne
theorem cells_apart4 {W : World} {b b' : Nat} {vs : List Value} (h : Cells W b vs) (hne : b ≠ b') (v0 v1 v2 v3 : Value) : Cells (set4 W b' v0 v1 v2 v3) b vs := by
  unfold set4
  exact (((Cells.apart h hne 0 v0).apart hne 1 v1).apart hne 2 v2).apart hne 3 v3
set_option maxHeartbeats 16000000 in
set_option maxRecDepth 100000 in
theorem cores_any (k1 r1 x1 y1 z1 : Int) (o1 : Option Addr) (L1 : List Pt) (c1 : Nat) (k2 r2 x2 y2 z2 : Int) (o2 : Option Addr) (L2 : List Pt) (c2 : Nat) (p0 p1 p2 p3 p4 p5 p6 q0 q1 q2 q3 q4 q5 q6 nr wx wy wz : Int) (w0 : World)
    (hb : ∀ v ∈ ([k1, r1, x1, y1, z1, k2, r2, x2, y2, z2, p0, p1, p2, p3, p4, p5, p6, q0, q1, q2, q3, q4, q5, q6, nr, wx, wy, wz] : List Int), -9223372036854775808 ≤ v ∧ v ≤ 9223372036854775807) (hL1 : Lies w0 (.slice o1 L1.length c1) L1) (hF1 : ∀ p ∈ L1, p.fits) (hL2 : Lies w0 (.slice o2 L2.length c2) L2) (hF2 : ∀ p ∈ L2, p.fits) :
    Calls Try.prog 6 #[.agg #[.int .i64 k1, .int .i64 r1, .int .i64 x1, .int .i64 y1, .int .i64 z1, .slice o1 L1.length c1, .int .i64 k2, .int .i64 r2, .int .i64 x2, .int .i64 y2, .int .i64 z2, .slice o2 L2.length c2, .int .i64 p0, .int .i64 p1, .int .i64 p2, .int .i64 p3, .int .i64 p4, .int .i64 p5, .int .i64 p6, .int .i64 q0, .int .i64 q1, .int .i64 q2, .int .i64 q3, .int .i64 q4, .int .i64 q5, .int .i64 q6, .int .i64 nr, .int .i64 wx, .int .i64 wy, .int .i64 wz]] w0 fun e W => ∃ (a b : Cr) (va1 va2 va3 vb1 vb2 vb3 : Value), e = .returned (.tuple #[.agg #[va1, va2, va3, .int .i64 a.r], .agg #[vb1, vb2, vb3, .int .i64 b.r]]) ∧ Hid (Lies W va1 a.P ∧ Lies W va2 a.A ∧ Lies W va3 a.E ∧ Lies W vb1 b.P ∧ Lies W vb2 b.A ∧ Lies W vb3 b.E ∧ Below w0.heap.size w0 W) ∧ mayN a ∧ mayN b ∧ (1 ≤ a.r ∧ a.r ≤ 16384) ∧ (1 ≤ b.r ∧ b.r ≤ 16384) ∧ Hid (farL w0.heap.size va1 a.P ∧ farL w0.heap.size va2 a.A ∧ farL w0.heap.size va3 a.E ∧ farL w0.heap.size vb1 b.P ∧ farL w0.heap.size vb2 b.A ∧ farL w0.heap.size vb3 b.E) := by
  have b_k1 := hb k1 (by simp)
  have b_r1 := hb r1 (by simp)
  have b_x1 := hb x1 (by simp)
  have b_y1 := hb y1 (by simp)
  have b_z1 := hb z1 (by simp)
  have b_k2 := hb k2 (by simp)
  have b_r2 := hb r2 (by simp)
  have b_x2 := hb x2 (by simp)
  have b_y2 := hb y2 (by simp)
  have b_z2 := hb z2 (by simp)
  have b_p0 := hb p0 (by simp)
  have b_p1 := hb p1 (by simp)
  have b_p2 := hb p2 (by simp)
  have b_p3 := hb p3 (by simp)
  have b_p4 := hb p4 (by simp)
  have b_p5 := hb p5 (by simp)
  have b_p6 := hb p6 (by simp)
  have b_q0 := hb q0 (by simp)
  have b_q1 := hb q1 (by simp)
  have b_q2 := hb q2 (by simp)
  have b_q3 := hb q3 (by simp)
  have b_q4 := hb q4 (by simp)
  have b_q5 := hb q5 (by simp)
  have b_q6 := hb q6 (by simp)
  have b_nr := hb nr (by simp)
  have b_wx := hb wx (by simp)
  have b_wy := hb wy (by simp)
  have b_wz := hb wz (by simp)
  have HPL : Hid _ := fun w' (h : Below w0.heap.size w0 w') => placed_any k1 r1 x1 y1 z1 (.slice o1 L1.length c1) L1 p0 p1 p2 p3 p4 p5 p6 w' b_k1 b_r1 b_x1 b_y1 b_z1 (hL1.below h) hF1 b_p0 b_p1 b_p2 b_p3 b_p4 b_p5 b_p6
  have HR2 : Hid _ := fun w' (h : Below w0.heap.size w0 w') => right_any k2 r2 x2 y2 z2 (.slice o2 L2.length c2) L2 w' b_k2 b_r2 b_x2 b_y2 b_z2 (hL2.below h) hF2
  have HQ1 : Hid _ := fun w' => right6_any p0 p1 p2 p3 p4 p5 p6 w' b_p0 b_p1 b_p2 b_p3 b_p4 b_p5 b_p6
  have HQ2 : Hid _ := fun w' => right6_any q0 q1 q2 q3 q4 q5 q6 w' b_q0 b_q1 b_q2 b_q3 b_q4 b_q5 b_q6
  have HNR : Hid _ := fun w' => npick_below nr 131072 w' b_nr (by decide) (by decide)
  have l_n := pickY_lo nr (n := 131072) (by decide)
  have u_n := pickY_hi nr (n := 131072) (by decide)
  generalize pickY nr 131072 = n1 at *
  obtain ⟨n, hn⟩ : ∃ m, 1 + n1 = m := ⟨_, rfl⟩
  have w_n : IntKind.i64.wrap (1 + n1) = n := by rw [hn, IntKind.wrap_i64]; omega
  have hnr : 1 ≤ n ∧ n ≤ 131072 := by omega
  obtain ⟨n2, hn2⟩ : ∃ m, 2 * n = m := ⟨_, rfl⟩
  have w_n2 : IntKind.i64.wrap (2 * n) = n2 := by rw [hn2, IntKind.wrap_i64]; omega
  have HWx : Hid _ := fun w' => npick_below wx n2 w' b_wx (by omega) (by omega)
  have l_x := pickY_lo wx (n := n2) (by omega)
  have u_x := pickY_hi wx (n := n2) (by omega)
  generalize pickY wx n2 = gx at *
  obtain ⟨dx, hdx⟩ : ∃ m, gx - n = m := ⟨_, rfl⟩
  have w_dx : IntKind.i64.wrap (gx - n) = dx := by rw [hdx, IntKind.wrap_i64]; omega
  obtain ⟨mx, hmx⟩ : ∃ m, dx * 1048576 = m := ⟨_, rfl⟩
  have w_mx : IntKind.i64.wrap (dx * 1048576) = mx := by rw [hmx, IntKind.wrap_i64]; omega
  have hmrx : -137438953472 ≤ mx ∧ mx ≤ 137438953472 := by omega
  have HWy : Hid _ := fun w' => npick_below wy n2 w' b_wy (by omega) (by omega)
  have l_y := pickY_lo wy (n := n2) (by omega)
  have u_y := pickY_hi wy (n := n2) (by omega)
  generalize pickY wy n2 = gy at *
  obtain ⟨dy, hdy⟩ : ∃ m, gy - n = m := ⟨_, rfl⟩
  have w_dy : IntKind.i64.wrap (gy - n) = dy := by rw [hdy, IntKind.wrap_i64]; omega
  obtain ⟨my, hmy⟩ : ∃ m, dy * 1048576 = m := ⟨_, rfl⟩
  have w_my : IntKind.i64.wrap (dy * 1048576) = my := by rw [hmy, IntKind.wrap_i64]; omega
  have hmry : -137438953472 ≤ my ∧ my ≤ 137438953472 := by omega
  have HWz : Hid _ := fun w' => npick_below wz n2 w' b_wz (by omega) (by omega)
  have l_z := pickY_lo wz (n := n2) (by omega)
  have u_z := pickY_hi wz (n := n2) (by omega)
  generalize pickY wz n2 = gz at *
  obtain ⟨dz, hdz⟩ : ∃ m, gz - n = m := ⟨_, rfl⟩
  have w_dz : IntKind.i64.wrap (gz - n) = dz := by rw [hdz, IntKind.wrap_i64]; omega
  obtain ⟨mz, hmz⟩ : ∃ m, dz * 1048576 = m := ⟨_, rfl⟩
  have w_mz : IntKind.i64.wrap (dz * 1048576) = mz := by rw [hmz, IntKind.wrap_i64]; omega
  have hmrz : -137438953472 ≤ mz ∧ mz ≤ 137438953472 := by omega
  clear hb b_k1 b_r1 b_x1 b_y1 b_z1 b_k2 b_r2 b_x2 b_y2 b_z2 b_p0 b_p1 b_p2 b_p3 b_p4 b_p5 b_p6 b_q0 b_q1 b_q2 b_q3 b_q4 b_q5 b_q6 b_nr b_wx b_wy b_wz hL1 hF1 hL2 hF2 hn hn2 l_n u_n l_x u_x hdx hmx l_y u_y hdy hmy l_z u_z hdz hmz
  obtain ⟨W1, hW1⟩ : ∃ W1, W1 = ((w0.alloc (.cells #[.int .i64 k1, .int .i64 r1, .int .i64 x1, .int .i64 y1, .int .i64 z1, .slice o1 L1.length c1, .int .i64 k2, .int .i64 r2, .int .i64 x2, .int .i64 y2, .int .i64 z2, .slice o2 L2.length c2, .int .i64 p0, .int .i64 p1, .int .i64 p2, .int .i64 p3, .int .i64 p4, .int .i64 p5, .int .i64 p6, .int .i64 q0, .int .i64 q1, .int .i64 q2, .int .i64 q3, .int .i64 q4, .int .i64 q5, .int .i64 q6, .int .i64 nr, .int .i64 wx, .int .i64 wy, .int .i64 wz] 33)).alloc (.cells #[.slice none 0 0, .slice none 0 0, .slice none 0 0, .int .i64 0] 36)).alloc (.cells #[.slice none 0 0, .slice none 0 0, .slice none 0 0, .int .i64 0] 36) := ⟨_, rfl⟩
  have CW : Hid (Cells W1 w0.heap.size [.int .i64 k1, .int .i64 r1, .int .i64 x1, .int .i64 y1, .int .i64 z1, .slice o1 L1.length c1, .int .i64 k2, .int .i64 r2, .int .i64 x2, .int .i64 y2, .int .i64 z2, .slice o2 L2.length c2, .int .i64 p0, .int .i64 p1, .int .i64 p2, .int .i64 p3, .int .i64 p4, .int .i64 p5, .int .i64 p6, .int .i64 q0, .int .i64 q1, .int .i64 q2, .int .i64 q3, .int .i64 q4, .int .i64 q5, .int .i64 q6, .int .i64 nr, .int .i64 wx, .int .i64 wy, .int .i64 wz]) := by show Cells _ _ _; rw [hW1]; exact ((Cells.new w0 [.int .i64 k1, .int .i64 r1, .int .i64 x1, .int .i64 y1, .int .i64 z1, .slice o1 L1.length c1, .int .i64 k2, .int .i64 r2, .int .i64 x2, .int .i64 y2, .int .i64 z2, .slice o2 L2.length c2, .int .i64 p0, .int .i64 p1, .int .i64 p2, .int .i64 p3, .int .i64 p4, .int .i64 p5, .int .i64 p6, .int .i64 q0, .int .i64 q1, .int .i64 q2, .int .i64 q3, .int .i64 q4, .int .i64 q5, .int .i64 q6, .int .i64 nr, .int .i64 wx, .int .i64 wy, .int .i64 wz] _).step (n_after _ _)).step (n_after _ _)
  have CR : Hid (Cells W1 (w0.heap.size + 1) [.slice none 0 0, .slice none 0 0, .slice none 0 0, .int .i64 0]) := by show Cells _ _ _; rw [hW1]; have h9 := (Cells.new (w0.alloc (.cells #[.int .i64 k1, .int .i64 r1, .int .i64 x1, .int .i64 y1, .int .i64 z1, .slice o1 L1.length c1, .int .i64 k2, .int .i64 r2, .int .i64 x2, .int .i64 y2, .int .i64 z2, .slice o2 L2.length c2, .int .i64 p0, .int .i64 p1, .int .i64 p2, .int .i64 p3, .int .i64 p4, .int .i64 p5, .int .i64 p6, .int .i64 q0, .int .i64 q1, .int .i64 q2, .int .i64 q3, .int .i64 q4, .int .i64 q5, .int .i64 q6, .int .i64 nr, .int .i64 wx, .int .i64 wy, .int .i64 wz] 33)) [.slice none 0 0, .slice none 0 0, .slice none 0 0, .int .i64 0] 36).step (n_after _ (.cells #[.slice none 0 0, .slice none 0 0, .slice none 0 0, .int .i64 0] 36)); rw [World.size_alloc] at h9; exact h9
  have CS : Hid (Cells W1 (w0.heap.size + 1 + 1) [.slice none 0 0, .slice none 0 0, .slice none 0 0, .int .i64 0]) := by show Cells _ _ _; rw [hW1]; have h9 := Cells.new ((w0.alloc (.cells #[.int .i64 k1, .int .i64 r1, .int .i64 x1, .int .i64 y1, .int .i64 z1, .slice o1 L1.length c1, .int .i64 k2, .int .i64 r2, .int .i64 x2, .int .i64 y2, .int .i64 z2, .slice o2 L2.length c2, .int .i64 p0, .int .i64 p1, .int .i64 p2, .int .i64 p3, .int .i64 p4, .int .i64 p5, .int .i64 p6, .int .i64 q0, .int .i64 q1, .int .i64 q2, .int .i64 q3, .int .i64 q4, .int .i64 q5, .int .i64 q6, .int .i64 nr, .int .i64 wx, .int .i64 wy, .int .i64 wz] 33)).alloc (.cells #[.slice none 0 0, .slice none 0 0, .slice none 0 0, .int .i64 0] 36)) [.slice none 0 0, .slice none 0 0, .slice none 0 0, .int .i64 0] 36; rw [World.size_alloc, World.size_alloc] at h9; exact h9
  have HB : Hid (Below w0.heap.size w0 W1) := by show Below _ _ _; rw [hW1]; exact b_step (b_step (n_after _ _) (n_after _ _)) (n_after _ _)
  obtain ⟨tb, htb⟩ : ∃ b, b = w0.heap.size := ⟨_, rfl⟩
  obtain ⟨ra, hra⟩ : ∃ b, b = w0.heap.size + 1 := ⟨_, rfl⟩
  obtain ⟨rb, hrb⟩ : ∃ b, b = w0.heap.size + 1 + 1 := ⟨_, rfl⟩
  rw [← hrb] at CS
  rw [← hra] at CR
  rw [← htb] at CW
  have hro : w0.heap.size ≤ ra ∧ w0.heap.size ≤ rb ∧ ra ≠ rb ∧ w0.heap.size ≤ tb := by omega
  have hrl : ra < W1.heap.size ∧ rb < W1.heap.size := ⟨Cells.lt CR.out, Cells.lt CS.out⟩
  go_enter Try.func6, Try.ntmps6
  go_upto_region 1 with fail
  rw [← hW1, ← hrb, ← hra, ← htb]
  clear hW1 htb hra hrb
  have x0 := (CW.out 0 _ rfl).1
  have x1 := (CW.out 1 _ rfl).1
  have x2 := (CW.out 2 _ rfl).1
  have x3 := (CW.out 3 _ rfl).1
  have x4 := (CW.out 4 _ rfl).1
  have x5 := (CW.out 5 _ rfl).1
  have x12 := (CW.out 12 _ rfl).1
  have x13 := (CW.out 13 _ rfl).1
  have x14 := (CW.out 14 _ rfl).1
  have x15 := (CW.out 15 _ rfl).1
  have x16 := (CW.out 16 _ rfl).1
  have x17 := (CW.out 17 _ rfl).1
  have x18 := (CW.out 18 _ rfl).1
  go_wp2_with (fail)
  refine Calls.mono (HPL.out _ HB.out) ?_
  rintro e V1 ⟨a, va1, va2, va3, rfl, hT, hMA, hRA⟩
  have NA : Hid _ := And.intro (own_far hT.out.rp hrl.1 (Ls := a.P)) (And.intro (own_far hT.out.ra hrl.1 (Ls := a.A)) (And.intro (own_far hT.out.re hrl.1 (Ls := a.E)) (And.intro (own_far hT.out.rp hrl.2 (Ls := a.P)) (And.intro (own_far hT.out.ra hrl.2 (Ls := a.A)) (own_far hT.out.re hrl.2 (Ls := a.E))))))
  have FA : Hid (farL w0.heap.size va1 a.P ∧ farL w0.heap.size va2 a.A ∧ farL w0.heap.size va3 a.E) := ⟨own_farL hT.out.rp HB.out.size, own_farL hT.out.ra HB.out.size, own_farL hT.out.re HB.out.size⟩
  have hb := hT.out.below
  obtain ⟨ao1, ac1, rfl⟩ := rowp_form hT.out.rp
  obtain ⟨ao2, ac2, rfl⟩ := rowp_form hT.out.ra
  obtain ⟨ao3, ac3, rfl⟩ := rowp_form hT.out.re
  have A1 : Hid _ := Lies.of_row hT.out.rp
  have A2 : Hid _ := Lies.of_row hT.out.ra
  have A3 : Hid _ := Lies.of_row hT.out.re
  have CW : Hid _ := Cells.step CW.out hb
  have CR : Hid _ := Cells.step CR.out hb
  have CS : Hid _ := Cells.step CS.out hb
  have HB : Hid _ := b_step HB.out hb
  have HMA : Hid _ := And.intro hMA hRA
  clear hb hT hMA hRA HPL x0 x1 x2 x3 x4 x5 x12 x13 x14 x15 x16 x17 x18
  obtain ⟨Pa, Aa, Ea, sa⟩ := a
  dsimp only at *
  obtain ⟨X1, hX1⟩ : ∃ V, V = V1.alloc (.cells #[.slice ao1 Pa.length ac1, .slice ao2 Aa.length ac2, .slice ao3 Ea.length ac3, .int .i64 sa] 36) := ⟨_, rfl⟩
  obtain ⟨ab, hab⟩ : ∃ b, b = V1.heap.size := ⟨_, rfl⟩
  have hal : ab ≠ ra ∧ ab ≠ rb := by have i1 := Cells.lt CR.out; have i2 := Cells.lt CS.out; omega
  have hbx : Below V1.heap.size V1 X1 := by rw [hX1]; exact n_after _ _
  have CA : Hid (Cells X1 ab [.slice ao1 Pa.length ac1, .slice ao2 Aa.length ac2, .slice ao3 Ea.length ac3, .int .i64 sa]) := by show Cells _ _ _; rw [hX1, hab]; exact Cells.new _ _ _
  go_upto_region 2 with fail
  rw [← hX1, ← hab]
  have CW : Hid _ := Cells.step CW.out hbx
  have CR : Hid _ := Cells.step CR.out hbx
  have CS : Hid _ := Cells.step CS.out hbx
  have A1 : Hid _ := A1.out.below hbx
  have A2 : Hid _ := A2.out.below hbx
  have A3 : Hid _ := A3.out.below hbx
  have HB : Hid _ := b_step HB.out hbx
  clear hX1 hab hbx
  have x6 := (CW.out 6 _ rfl).1
  have x7 := (CW.out 7 _ rfl).1
  have x8 := (CW.out 8 _ rfl).1
  have x9 := (CW.out 9 _ rfl).1
  have x10 := (CW.out 10 _ rfl).1
  have x11 := (CW.out 11 _ rfl).1
  go_wp2_with (fail)
  refine Calls.mono (HR2.out _ HB.out) ?_
  rintro e V2 ⟨sh, u, rfl, hrow, hgd, _⟩
  have hb := hrow.below
  have HC : Hid _ := rcore_any sh u V2 hrow.lies
  have CW : Hid _ := Cells.step CW.out hb
  have CR : Hid _ := Cells.step CR.out hb
  have CS : Hid _ := Cells.step CS.out hb
  have CA : Hid _ := Cells.step CA.out hb
  have A1 : Hid _ := A1.out.below hb
  have A2 : Hid _ := A2.out.below hb
  have A3 : Hid _ := A3.out.below hb
  have HB : Hid _ := b_step HB.out hb
  have HGD : Hid _ := hgd
  have hr3 : ra < V2.heap.size ∧ rb < V2.heap.size := ⟨Cells.lt CR.out, Cells.lt CS.out⟩
  clear hb HR2 hrow hgd x6 x7 x8 x9 x10 x11
  unfold Sh.v at HC
  go_wp2_with (fail)
  refine Calls.mono HC.out ?_
  rintro e V3 ⟨vp, va, ve, _, hok⟩
  obtain ⟨rfl, h3⟩ := hok HGD.out.ok
  have hb := h3.below
  have CW : Hid _ := Cells.step CW.out hb
  have CR : Hid _ := Cells.step CR.out hb
  have CS : Hid _ := Cells.step CS.out hb
  have CA : Hid _ := Cells.step CA.out hb
  have A1 : Hid _ := A1.out.below hb
  have A2 : Hid _ := A2.out.below hb
  have A3 : Hid _ := A3.out.below hb
  have HB : Hid _ := b_step HB.out hb
  obtain ⟨co1, cc1, rfl⟩ := rowp_form h3.rp
  obtain ⟨co2, cc2, rfl⟩ := rowp_form h3.ra
  obtain ⟨co3, cc3, rfl⟩ := rowp_form h3.re
  have C1 : Hid _ := Lies.of_row h3.rp
  have C2 : Hid _ := Lies.of_row h3.ra
  have C3 : Hid _ := Lies.of_row h3.re
  clear hb h3 HC hok
  have HPn : Hid _ := gd_pts HGD.out
  have HPi : Hid _ := gd_in HGD.out
  have HAt : Hid (∀ p ∈ axesP sh, p ≠ Pt.O ∧ p.short = p) := (gd_axes HGD.out).1
  have HEt : Hid (∀ p ∈ edgesP sh, p ≠ Pt.O ∧ p.short = p) := (gd_edges HGD.out).1
  have HAl : Hid _ := gd_alen HGD.out
  have hPl : (ptsP sh).length < 1099511627776 := by have := gd_len HGD.out; omega
  have HMY : Hid (∀ t q P2 A2 E2, Came t q (ptsP sh) (axesP sh) (edgesP sh) P2 A2 E2 → mayN ⟨P2, A2, E2, sh.radius⟩) := fun t q P2 A2 E2 h => came_near HGD.out h
  have HRR : Hid (1 ≤ sh.radius ∧ sh.radius ≤ 16384) := HGD.out.r
  generalize ptsP sh = Ps at *
  generalize axesP sh = As at *
  generalize edgesP sh = Es at *
  generalize sh.radius = sr at *
  clear HGD
  obtain ⟨X2, hX2⟩ : ∃ V, V = V3.alloc (.cells #[.slice co1 Ps.length cc1, .slice co2 As.length cc2, .slice co3 Es.length cc3, .int .i64 sr] 36) := ⟨_, rfl⟩
  obtain ⟨cb, hcb⟩ : ∃ b, b = V3.heap.size := ⟨_, rfl⟩
  have hbx : Below V3.heap.size V3 X2 := by rw [hX2]; exact n_after _ _
  have CC : Hid (Cells X2 cb [.slice co1 Ps.length cc1, .slice co2 As.length cc2, .slice co3 Es.length cc3, .int .i64 sr]) := by show Cells _ _ _; rw [hX2, hcb]; exact Cells.new _ _ _
  go_upto_region 3 with fail
  rw [← hX2, ← hcb]
  have CW : Hid _ := Cells.step CW.out hbx
  have CR : Hid _ := Cells.step CR.out hbx
  have CS : Hid _ := Cells.step CS.out hbx
  have CA : Hid _ := Cells.step CA.out hbx
  have A1 : Hid _ := A1.out.below hbx
  have A2 : Hid _ := A2.out.below hbx
  have A3 : Hid _ := A3.out.below hbx
  have C1 : Hid _ := C1.out.below hbx
  have C2 : Hid _ := C2.out.below hbx
  have C3 : Hid _ := C3.out.below hbx
  have HB : Hid _ := b_step HB.out hbx
  clear hX2 hcb hbx
  have x12 := (CW.out 12 _ rfl).1
  have x13 := (CW.out 13 _ rfl).1
  have x14 := (CW.out 14 _ rfl).1
  have x15 := (CW.out 15 _ rfl).1
  have x16 := (CW.out 16 _ rfl).1
  have x17 := (CW.out 17 _ rfl).1
  have x18 := (CW.out 18 _ rfl).1
  go_wp2_with (fail)
  refine Calls.mono (HQ1.out _) ?_
  rintro e V4 ⟨t1, qt1, rfl, ht1, _, hb⟩
  have CW : Hid _ := Cells.step CW.out hb
  have CR : Hid _ := Cells.step CR.out hb
  have CS : Hid _ := Cells.step CS.out hb
  have CA : Hid _ := Cells.step CA.out hb
  have CC : Hid _ := Cells.step CC.out hb
  have A1 : Hid _ := A1.out.below hb
  have A2 : Hid _ := A2.out.below hb
  have A3 : Hid _ := A3.out.below hb
  have C1 : Hid _ := C1.out.below hb
  have C2 : Hid _ := C2.out.below hb
  have C3 : Hid _ := C3.out.below hb
  have HB : Hid _ := b_step HB.out hb
  clear hb HQ1 x12 x13 x14 x15 x16 x17 x18
  obtain ⟨X3, hX3⟩ : ∃ V, V = V4.alloc (.cells #[.int .i64 t1.x, .int .i64 t1.y, .int .i64 t1.z, .int .i64 qt1.w, .int .i64 qt1.x, .int .i64 qt1.y, .int .i64 qt1.z] 56) := ⟨_, rfl⟩
  obtain ⟨pb, hpb⟩ : ∃ b, b = V4.heap.size := ⟨_, rfl⟩
  have hbx : Below V4.heap.size V4 X3 := by rw [hX3]; exact n_after _ _
  have CP : Hid (Cells X3 pb [.int .i64 t1.x, .int .i64 t1.y, .int .i64 t1.z, .int .i64 qt1.w, .int .i64 qt1.x, .int .i64 qt1.y, .int .i64 qt1.z]) := by show Cells _ _ _; rw [hX3, hpb]; exact Cells.new _ _ _
  unfold poseV
  go_upto_region 4 with fail
  rw [← hX3, ← hpb]
  have CW : Hid _ := Cells.step CW.out hbx
  have CR : Hid _ := Cells.step CR.out hbx
  have CS : Hid _ := Cells.step CS.out hbx
  have CA : Hid _ := Cells.step CA.out hbx
  have CC : Hid _ := Cells.step CC.out hbx
  have A1 : Hid _ := A1.out.below hbx
  have A2 : Hid _ := A2.out.below hbx
  have A3 : Hid _ := A3.out.below hbx
  have C1 : Hid _ := C1.out.below hbx
  have C2 : Hid _ := C2.out.below hbx
  have C3 : Hid _ := C3.out.below hbx
  have HB : Hid _ := b_step HB.out hbx
  clear hX3 hpb hbx
  have x19 := (CW.out 19 _ rfl).1
  have x20 := (CW.out 20 _ rfl).1
  have x21 := (CW.out 21 _ rfl).1
  have x22 := (CW.out 22 _ rfl).1
  have x23 := (CW.out 23 _ rfl).1
  have x24 := (CW.out 24 _ rfl).1
  have x25 := (CW.out 25 _ rfl).1
  go_wp2_with (fail)
  refine Calls.mono (HQ2.out _) ?_
  rintro e V5 ⟨t2, qt2, rfl, ht2, hq2, hb⟩
  have CW : Hid _ := Cells.step CW.out hb
  have CR : Hid _ := Cells.step CR.out hb
  have CS : Hid _ := Cells.step CS.out hb
  have CA : Hid _ := Cells.step CA.out hb
  have CC : Hid _ := Cells.step CC.out hb
  have CP : Hid _ := Cells.step CP.out hb
  have A1 : Hid _ := A1.out.below hb
  have A2 : Hid _ := A2.out.below hb
  have A3 : Hid _ := A3.out.below hb
  have C1 : Hid _ := C1.out.below hb
  have C2 : Hid _ := C2.out.below hb
  have C3 : Hid _ := C3.out.below hb
  have HB : Hid _ := b_step HB.out hb
  have HQW : Hid _ := hq2
  clear hb HQ2 hq2 ht2 x19 x20 x21 x22 x23 x24 x25
  obtain ⟨X4, hX4⟩ : ∃ V, V = V5.alloc (.cells #[.int .i64 t2.x, .int .i64 t2.y, .int .i64 t2.z, .int .i64 qt2.w, .int .i64 qt2.x, .int .i64 qt2.y, .int .i64 qt2.z] 56) := ⟨_, rfl⟩
  obtain ⟨qb, hqb⟩ : ∃ b, b = V5.heap.size := ⟨_, rfl⟩
  have hbx : Below V5.heap.size V5 X4 := by rw [hX4]; exact n_after _ _
  have CQ : Hid (Cells X4 qb [.int .i64 t2.x, .int .i64 t2.y, .int .i64 t2.z, .int .i64 qt2.w, .int .i64 qt2.x, .int .i64 qt2.y, .int .i64 qt2.z]) := by show Cells _ _ _; rw [hX4, hqb]; exact Cells.new _ _ _
  have NQ : Hid _ := And.intro (A1.out.far (Nat.le_of_eq hqb.symm)) (And.intro (A2.out.far (Nat.le_of_eq hqb.symm)) (And.intro (A3.out.far (Nat.le_of_eq hqb.symm)) (And.intro (C1.out.far (Nat.le_of_eq hqb.symm)) (And.intro (C2.out.far (Nat.le_of_eq hqb.symm)) (C3.out.far (Nat.le_of_eq hqb.symm))))))
  have hqn : w0.heap.size ≤ qb ∧ tb ≠ qb ∧ ra ≠ qb ∧ rb ≠ qb ∧ ab ≠ qb ∧ cb ≠ qb ∧ pb ≠ qb := by
    have i1 := Cells.lt CW.out
    have i2 := Cells.lt CR.out
    have i3 := Cells.lt CS.out
    have i4 := Cells.lt CA.out
    have i5 := Cells.lt CC.out
    have i6 := Cells.lt CP.out
    have i7 := HB.out.size
    omega
  unfold poseV
  go_upto_region 5 with fail
  rw [← hX4, ← hqb]
  have CW : Hid _ := Cells.step CW.out hbx
  have CR : Hid _ := Cells.step CR.out hbx
  have CS : Hid _ := Cells.step CS.out hbx
  have CA : Hid _ := Cells.step CA.out hbx
  have CC : Hid _ := Cells.step CC.out hbx
  have CP : Hid _ := Cells.step CP.out hbx
  have A1 : Hid _ := A1.out.below hbx
  have A2 : Hid _ := A2.out.below hbx
  have A3 : Hid _ := A3.out.below hbx
  have C1 : Hid _ := C1.out.below hbx
  have C2 : Hid _ := C2.out.below hbx
  have C3 : Hid _ := C3.out.below hbx
  have HB : Hid _ := b_step HB.out hbx
  clear hX4 hqb hbx
  have x26 := (CW.out 26 _ rfl).1
  go_wp2_with (fail)
  refine Calls.mono (HNR.out _) ?_
  rintro e V6 ⟨rfl, hb⟩
  have CW : Hid _ := Cells.step CW.out hb
  have CR : Hid _ := Cells.step CR.out hb
  have CS : Hid _ := Cells.step CS.out hb
  have CA : Hid _ := Cells.step CA.out hb
  have CC : Hid _ := Cells.step CC.out hb
  have CP : Hid _ := Cells.step CP.out hb
  have CQ : Hid _ := Cells.step CQ.out hb
  have A1 : Hid _ := A1.out.below hb
  have A2 : Hid _ := A2.out.below hb
  have A3 : Hid _ := A3.out.below hb
  have C1 : Hid _ := C1.out.below hb
  have C2 : Hid _ := C2.out.below hb
  have C3 : Hid _ := C3.out.below hb
  have HB : Hid _ := b_step HB.out hb
  clear hb HNR x26
  rw [Pt.inB_iff] at ht1
  obtain ⟨t1x, t1y, t1z⟩ := t1
  dsimp only at ht1 CP
  obtain ⟨sx, hsx⟩ : ∃ m, t1x + mx = m := ⟨_, rfl⟩
  have w_sx : IntKind.i64.wrap (t1x + mx) = sx := by rw [hsx, IntKind.wrap_i64]; omega
  obtain ⟨sy, hsy⟩ : ∃ m, t1y + my = m := ⟨_, rfl⟩
  have w_sy : IntKind.i64.wrap (t1y + my) = sy := by rw [hsy, IntKind.wrap_i64]; omega
  obtain ⟨sz, hsz⟩ : ∃ m, t1z + mz = m := ⟨_, rfl⟩
  have w_sz : IntKind.i64.wrap (t1z + mz) = sz := by rw [hsz, IntKind.wrap_i64]; omega
  have HTI : Hid ((⟨sx, sy, sz⟩ : Pt).inB 5497558138880 = true) := by show _ = _; rw [Pt.inB_iff]; dsimp only; omega
  clear ht1 hsx hsy hsz
  have x27 := (CW.out 27 _ rfl).1
  have x28 := (CW.out 28 _ rfl).1
  have x29 := (CW.out 29 _ rfl).1
  have u0 := (CP.out 0 _ rfl).1
  have u1 := (CP.out 1 _ rfl).1
  have u2 := (CP.out 2 _ rfl).1
  have v0 := (CQ.out 0 _ rfl).1
  have v1 := (CQ.out 1 _ rfl).1
  have v2 := (CQ.out 2 _ rfl).1
  have vf0 := (CQ.out 0 _ rfl).2
  have vf1 := (CQ.out 1 _ rfl).2
  have vf2 := (CQ.out 2 _ rfl).2
  go_upto_region 6 with fail
  go_cut [] from 34 to 74 (fun wx => ∃ w8 : World, wx = ((w8.setCell ⟨qb, 0, none⟩ (.int .i64 sx)).setCell ⟨qb, 1, none⟩ (.int .i64 sy)).setCell ⟨qb, 2, none⟩ (.int .i64 sz) ∧ Hid (Below V6.heap.size V6 w8))
  case first =>
    clear CW CR CS CA CC CP CQ A1 A2 A3 C1 C2 C3 HB
    refine RV.region_is [.some (.pointer (some ⟨pb, 0, none⟩)), .some (.pointer (some ⟨pb, 0, none⟩)), .some (.int .i64 (t1x)), .some (.pointer (some ⟨tb, 27, none⟩)), .some (.pointer (some ⟨tb, 27, none⟩)), .some (.int .i64 (wx)), .some (.int .i64 (n)), .some (.int .i64 (n2)), .some (.int .i64 (gx)), .some (.int .i64 (n)), .some (.int .i64 (dx)), .some (.int .i64 (mx)), .some (.int .i64 (sx)), .some (.pointer (some ⟨pb, 0, none⟩)), .some (.pointer (some ⟨pb, 1, none⟩)), .some (.int .i64 (t1y)), .some (.pointer (some ⟨tb, 27, none⟩)), .some (.pointer (some ⟨tb, 28, none⟩)), .some (.int .i64 (wy)), .some (.int .i64 (n)), .some (.int .i64 (n2)), .some (.int .i64 (gy)), .some (.int .i64 (n)), .some (.int .i64 (dy)), .some (.int .i64 (my)), .some (.int .i64 (sy)), .some (.pointer (some ⟨pb, 0, none⟩)), .some (.pointer (some ⟨pb, 2, none⟩)), .some (.int .i64 (t1z)), .some (.pointer (some ⟨tb, 27, none⟩)), .some (.pointer (some ⟨tb, 29, none⟩)), .some (.int .i64 (wz)), .some (.int .i64 (n)), .some (.int .i64 (n2)), .some (.int .i64 (gz)), .some (.int .i64 (n)), .some (.int .i64 (dz)), .some (.int .i64 (mz)), .some (.int .i64 (sz)), .some (.agg #[.int .i64 (sx), .int .i64 (sy), .int .i64 (sz)]), .some (.pointer (some ⟨qb, 0, none⟩)), none] [35, 36, 37, 38, 39, 40, 41, 42, 43, 44, 45, 46, 47, 48, 49, 50, 51, 52, 53, 54, 55, 56, 57, 58, 59, 60, 61, 62, 63, 64, 65, 66, 67, 68, 69, 70, 71, 72, 73, 74, 75, 0] [(1, .pointer (some ⟨tb, 0, none⟩)), (7, .pointer (some ⟨pb, 0, none⟩)), (8, .pointer (some ⟨qb, 0, none⟩)), (9, .int .i64 (n))] (fun γ L w9 => (L 41 = false ∧ Below V6.heap.size V6 w9) ∨ (L 41 = true ∧ ∃ w, Below V6.heap.size V6 w ∧ w9 = (((w.setCell ⟨qb, 0, none⟩ (.int .i64 (sx))).setCell ⟨qb, 1, none⟩ (.int .i64 (sy))).setCell ⟨qb, 2, none⟩ (.int .i64 (sz))))) (by kernel_rfl) (by kernel_rfl) (by kernel_rfl) (by kernel_rfl) (by kernel_rfl) (by kernel_rfl) (by kernel_rfl) ⟨rfl, rfl, rfl, rfl, trivial⟩ ?_ ?_ ?_
    · exact Or.inl ⟨rfl, (Below.refl _ V6).drew⟩
    · intro D WA Z hD hWA hZ T
      simp only [RV.Outs, RV.Slots, Nat.reduceAdd] at T
      iterate 8 first
        | (refine RV.AllDo.cons _ (RV.pu T (fun γ v L w hl h => by rw [RV.more_ne (L := L) (i := _) (j := 41) (by decide)]; exact h) (fun γ L a w hH hl h9 k9 => ⟨_, ?_, rfl⟩)) ?_; · simp [execOp, go_sem, h9])
        | (refine RV.AllDo.cons _ (RV.pu T (fun γ v L w hl h => by rw [RV.more_ne (L := L) (i := _) (j := 41) (by decide)]; exact h) (fun γ L a w hH hl h9 k9 => ⟨_, ?_, rfl⟩)) ?_; · simp [Region.binds] at k9; simp [execOp, go_sem, h9, k9, w_n2])
        | (refine RV.AllDo.cons _ (RV.pu T (fun γ v L w hl h => by rw [RV.more_ne (L := L) (i := _) (j := 41) (by decide)]; exact h) (fun γ L a w hH hl h9 k9 => ⟨_, ?_, rfl⟩)) ?_; · have hB9 := early9 hH.glob (RV.not_yet hH (RV.wt (j := 41) hWA (by kernel_rfl)) hl); have q0 := c_after hB9 u0; have q1 := c_after hB9 x27; simp [Region.binds] at k9; simp [execOp, go_sem, h9, k9, q0, q1])
      refine RV.AllDo.cons _ (RV.does_call (fun γ L a w hH hl hA => by have h9 := T γ L a w hH; have k9 := hA; simp [Region.binds] at k9; have hB9 := early9 hH.glob (RV.not_yet hH (RV.wt (j := 41) (i := 8) hWA (by kernel_rfl)) hl); exact ⟨9, #[.int .i64 (wx), .int .i64 (n2)], by simp [go_sem, h9, k9], Calls.mono (HWx.out w) (by rintro e w2 ⟨rfl, hb⟩; exact ⟨_, rfl, rfl, fun j v _ h => h.keep _, Or.inl ⟨by rw [RV.more_ne (L := L) (i := 8) (j := 41) (by decide)]; exact RV.not_yet hH (RV.wt (j := 41) (i := 8) hWA (by kernel_rfl)) hl, hB9.trans (hb.mono hB9.size)⟩⟩)⟩)) ?_
      iterate 12 first
        | (refine RV.AllDo.cons _ (RV.pu T (fun γ v L w hl h => by rw [RV.more_ne (L := L) (i := _) (j := 41) (by decide)]; exact h) (fun γ L a w hH hl h9 k9 => ⟨_, ?_, rfl⟩)) ?_; · simp [execOp, go_sem, h9])
        | (refine RV.AllDo.cons _ (RV.pu T (fun γ v L w hl h => by rw [RV.more_ne (L := L) (i := _) (j := 41) (by decide)]; exact h) (fun γ L a w hH hl h9 k9 => ⟨_, ?_, rfl⟩)) ?_; · simp [Region.binds] at k9; simp [execOp, go_sem, h9, k9, w_dx, w_mx, w_sx, w_n2])
        | (refine RV.AllDo.cons _ (RV.pu T (fun γ v L w hl h => by rw [RV.more_ne (L := L) (i := _) (j := 41) (by decide)]; exact h) (fun γ L a w hH hl h9 k9 => ⟨_, ?_, rfl⟩)) ?_; · have hB9 := early9 hH.glob (RV.not_yet hH (RV.wt (j := 41) hWA (by kernel_rfl)) hl); have q0 := c_after hB9 u1; have q1 := c_after hB9 x28; simp [Region.binds] at k9; simp [execOp, go_sem, h9, k9, q0, q1])
      refine RV.AllDo.cons _ (RV.does_call (fun γ L a w hH hl hA => by have h9 := T γ L a w hH; have k9 := hA; simp [Region.binds] at k9; have hB9 := early9 hH.glob (RV.not_yet hH (RV.wt (j := 41) (i := 21) hWA (by kernel_rfl)) hl); exact ⟨9, #[.int .i64 (wy), .int .i64 (n2)], by simp [go_sem, h9, k9], Calls.mono (HWy.out w) (by rintro e w2 ⟨rfl, hb⟩; exact ⟨_, rfl, rfl, fun j v _ h => h.keep _, Or.inl ⟨by rw [RV.more_ne (L := L) (i := 21) (j := 41) (by decide)]; exact RV.not_yet hH (RV.wt (j := 41) (i := 21) hWA (by kernel_rfl)) hl, hB9.trans (hb.mono hB9.size)⟩⟩)⟩)) ?_
      iterate 12 first
        | (refine RV.AllDo.cons _ (RV.pu T (fun γ v L w hl h => by rw [RV.more_ne (L := L) (i := _) (j := 41) (by decide)]; exact h) (fun γ L a w hH hl h9 k9 => ⟨_, ?_, rfl⟩)) ?_; · simp [execOp, go_sem, h9])
        | (refine RV.AllDo.cons _ (RV.pu T (fun γ v L w hl h => by rw [RV.more_ne (L := L) (i := _) (j := 41) (by decide)]; exact h) (fun γ L a w hH hl h9 k9 => ⟨_, ?_, rfl⟩)) ?_; · simp [Region.binds] at k9; simp [execOp, go_sem, h9, k9, w_dy, w_my, w_sy, w_n2])
        | (refine RV.AllDo.cons _ (RV.pu T (fun γ v L w hl h => by rw [RV.more_ne (L := L) (i := _) (j := 41) (by decide)]; exact h) (fun γ L a w hH hl h9 k9 => ⟨_, ?_, rfl⟩)) ?_; · have hB9 := early9 hH.glob (RV.not_yet hH (RV.wt (j := 41) hWA (by kernel_rfl)) hl); have q0 := c_after hB9 u2; have q1 := c_after hB9 x29; simp [Region.binds] at k9; simp [execOp, go_sem, h9, k9, q0, q1])
      refine RV.AllDo.cons _ (RV.does_call (fun γ L a w hH hl hA => by have h9 := T γ L a w hH; have k9 := hA; simp [Region.binds] at k9; have hB9 := early9 hH.glob (RV.not_yet hH (RV.wt (j := 41) (i := 34) hWA (by kernel_rfl)) hl); exact ⟨9, #[.int .i64 (wz), .int .i64 (n2)], by simp [go_sem, h9, k9], Calls.mono (HWz.out w) (by rintro e w2 ⟨rfl, hb⟩; exact ⟨_, rfl, rfl, fun j v _ h => h.keep _, Or.inl ⟨by rw [RV.more_ne (L := L) (i := 34) (j := 41) (by decide)]; exact RV.not_yet hH (RV.wt (j := 41) (i := 34) hWA (by kernel_rfl)) hl, hB9.trans (hb.mono hB9.size)⟩⟩)⟩)) ?_
      iterate 6 first
        | (refine RV.AllDo.cons _ (RV.pu T (fun γ v L w hl h => by rw [RV.more_ne (L := L) (i := _) (j := 41) (by decide)]; exact h) (fun γ L a w hH hl h9 k9 => ⟨_, ?_, rfl⟩)) ?_; · simp [execOp, go_sem, h9])
        | (refine RV.AllDo.cons _ (RV.pu T (fun γ v L w hl h => by rw [RV.more_ne (L := L) (i := _) (j := 41) (by decide)]; exact h) (fun γ L a w hH hl h9 k9 => ⟨_, ?_, rfl⟩)) ?_; · simp [Region.binds] at k9; simp [execOp, go_sem, h9, k9, w_dz, w_mz, w_sz])
      refine RV.AllDo.cons _ (RV.does_store (fun γ L a w hH hl hA => by have h9 := T γ L a w hH; have k9 := hA; simp [Region.binds] at k9; have hB9 := early9 hH.glob hl; have z0 := c_after hB9 v0; have zf0 := f_after hB9 v0 vf0; have z1 := c_after hB9 v1; have zf1 := f_after hB9 v1 vf1; have z2 := c_after hB9 v2; have zf2 := f_after hB9 v2 vf2; exact ⟨(((w.setCell ⟨qb, 0, none⟩ (.int .i64 (sx))).setCell ⟨qb, 1, none⟩ (.int .i64 (sy))).setCell ⟨qb, 2, none⟩ (.int .i64 (sz))), by simp [execOp, go_sem, z0, zf0, z1, zf1, z2, zf2, h9, k9], trivial, fun j v _ h => h.keep _, Or.inr ⟨RV.more_self, w, hB9, rfl⟩⟩)) ?_
      exact RV.AllDo.nil
    · intro γ w5 L9 hL hI9 hG9
      obtain ⟨w8, hb8, rfl⟩ := late9 hG9 (hL 41 (by decide))
      clear hL hI9 hG9
      simp only [RV.putL, Act.put, List.setIfInBounds_toArray, List.set_cons_zero, List.set_cons_succ]
      have HZ : Hid _ := hb8
      go_wp2_with (fail)
      go_meet
      case rel => exact ⟨w8, rfl, HZ⟩
  case rest =>
    obtain ⟨w8, hw8, HZ⟩ := hcut
    have CR : Hid _ := (Cells.step CR.out HZ.out).put3 hqn.2.2.1 (.int .i64 sx) (.int .i64 sy) (.int .i64 sz)
    rw [← hw8] at CR
    have CS : Hid _ := (Cells.step CS.out HZ.out).put3 hqn.2.2.2.1 (.int .i64 sx) (.int .i64 sy) (.int .i64 sz)
    rw [← hw8] at CS
    have CA : Hid _ := (Cells.step CA.out HZ.out).put3 hqn.2.2.2.2.1 (.int .i64 sx) (.int .i64 sy) (.int .i64 sz)
    rw [← hw8] at CA
    have CC : Hid _ := (Cells.step CC.out HZ.out).put3 hqn.2.2.2.2.2.1 (.int .i64 sx) (.int .i64 sy) (.int .i64 sz)
    rw [← hw8] at CC
    have CQ : Hid (Cells wc qb [.int .i64 sx, .int .i64 sy, .int .i64 sz, .int .i64 qt2.w, .int .i64 qt2.x, .int .i64 qt2.y, .int .i64 qt2.z]) := by show Cells _ _ _; rw [hw8]; exact (((Cells.step CQ.out HZ.out).set 0 (.int .i64 sx) (by simp)).set 1 (.int .i64 sy) (by simp)).set 2 (.int .i64 sz) (by simp)
    have A1 : Hid _ := (A1.out.below HZ.out).put NQ.out.1 (.int .i64 sx) (.int .i64 sy) (.int .i64 sz)
    rw [← hw8] at A1
    have A2 : Hid _ := (A2.out.below HZ.out).put NQ.out.2.1 (.int .i64 sx) (.int .i64 sy) (.int .i64 sz)
    rw [← hw8] at A2
    have A3 : Hid _ := (A3.out.below HZ.out).put NQ.out.2.2.1 (.int .i64 sx) (.int .i64 sy) (.int .i64 sz)
    rw [← hw8] at A3
    have C1 : Hid _ := (C1.out.below HZ.out).put NQ.out.2.2.2.1 (.int .i64 sx) (.int .i64 sy) (.int .i64 sz)
    rw [← hw8] at C1
    have C2 : Hid _ := (C2.out.below HZ.out).put NQ.out.2.2.2.2.1 (.int .i64 sx) (.int .i64 sy) (.int .i64 sz)
    rw [← hw8] at C2
    have C3 : Hid _ := (C3.out.below HZ.out).put NQ.out.2.2.2.2.2 (.int .i64 sx) (.int .i64 sy) (.int .i64 sz)
    rw [← hw8] at C3
    have HB : Hid (Below w0.heap.size w0 wc) := by show Below _ _ _; rw [hw8]; exact (((b_step HB.out HZ.out).setCell hqn.1 _).setCell hqn.1 _).setCell hqn.1 _
    clear hw8 HZ w8 CW CP NQ x27 x28 x29 u0 u1 u2 v0 v1 v2 vf0 vf1 vf2
    have HPC : Hid _ := rplace_right ⟨sx, sy, sz⟩ qt2 HTI.out HQW.out Ps As Es HPn.out HPi.out HAt.out HEt.out hPl HAl.out.1 HAl.out.2 sr _ _ _ _ _ _ wc C1.out C2.out C3.out
    have hr5 : ra < wc.heap.size ∧ rb < wc.heap.size := ⟨Cells.lt CR.out, Cells.lt CS.out⟩
    have x0 := (CC.out 0 _ rfl).1
    have x1 := (CC.out 1 _ rfl).1
    have x2 := (CC.out 2 _ rfl).1
    have x3 := (CC.out 3 _ rfl).1
    have v0 := (CQ.out 0 _ rfl).1
    have v1 := (CQ.out 1 _ rfl).1
    have v2 := (CQ.out 2 _ rfl).1
    have v3 := (CQ.out 3 _ rfl).1
    have v4 := (CQ.out 4 _ rfl).1
    have v5 := (CQ.out 5 _ rfl).1
    have v6 := (CQ.out 6 _ rfl).1
    unfold poseV at HPC
    dsimp only at HPC
    go_wp2_with (fail)
    refine Calls.mono HPC.out ?_
    rintro e V8 ⟨Pb, Ab, Eb, vb1, vb2, vb3, rfl, hT, hC⟩
    have NB : Hid _ := And.intro (own_far hT.rp hr5.1 (Ls := Pb)) (And.intro (own_far hT.ra hr5.1 (Ls := Ab)) (And.intro (own_far hT.re hr5.1 (Ls := Eb)) (And.intro (own_far hT.rp hr5.2 (Ls := Pb)) (And.intro (own_far hT.ra hr5.2 (Ls := Ab)) (own_far hT.re hr5.2 (Ls := Eb))))))
    have FB : Hid (farL w0.heap.size vb1 Pb ∧ farL w0.heap.size vb2 Ab ∧ farL w0.heap.size vb3 Eb) := ⟨own_farL hT.rp HB.out.size, own_farL hT.ra HB.out.size, own_farL hT.re HB.out.size⟩
    have hb := hT.below
    obtain ⟨bo1, bc1, rfl⟩ := rowp_form hT.rp
    obtain ⟨bo2, bc2, rfl⟩ := rowp_form hT.ra
    obtain ⟨bo3, bc3, rfl⟩ := rowp_form hT.re
    have B1 : Hid _ := Lies.of_row hT.rp
    have B2 : Hid _ := Lies.of_row hT.ra
    have B3 : Hid _ := Lies.of_row hT.re
    have HMB : Hid _ := HMY.out _ _ _ _ _ hC
    have CR : Hid _ := Cells.step CR.out hb
    have CS : Hid _ := Cells.step CS.out hb
    have CA : Hid _ := Cells.step CA.out hb
    have A1 : Hid _ := A1.out.below hb
    have A2 : Hid _ := A2.out.below hb
    have A3 : Hid _ := A3.out.below hb
    have HB : Hid _ := b_step HB.out hb
    clear hb hT hC HPC HMY CC CQ C1 C2 C3 x0 x1 x2 x3 v0 v1 v2 v3 v4 v5 v6
    obtain ⟨X8, hX8⟩ : ∃ V, V = V8.alloc (.cells #[.slice bo1 Pb.length bc1, .slice bo2 Ab.length bc2, .slice bo3 Eb.length bc3, .int .i64 sr] 36) := ⟨_, rfl⟩
    obtain ⟨db, hdb⟩ : ∃ b, b = V8.heap.size := ⟨_, rfl⟩
    have hdl : db ≠ ra ∧ db ≠ rb := by have i1 := Cells.lt CR.out; have i2 := Cells.lt CS.out; omega
    have hbx : Below V8.heap.size V8 X8 := by rw [hX8]; exact n_after _ _
    have CD : Hid (Cells X8 db [.slice bo1 Pb.length bc1, .slice bo2 Ab.length bc2, .slice bo3 Eb.length bc3, .int .i64 sr]) := by show Cells _ _ _; rw [hX8, hdb]; exact Cells.new _ _ _
    go_upto_region 8 with fail
    rw [← hX8, ← hdb]
    have CR : Hid _ := Cells.step CR.out hbx
    have CS : Hid _ := Cells.step CS.out hbx
    have CA : Hid _ := Cells.step CA.out hbx
    have A1 : Hid _ := A1.out.below hbx
    have A2 : Hid _ := A2.out.below hbx
    have A3 : Hid _ := A3.out.below hbx
    have B1 : Hid _ := B1.out.below hbx
    have B2 : Hid _ := B2.out.below hbx
    have B3 : Hid _ := B3.out.below hbx
    have HB : Hid _ := b_step HB.out hbx
    clear hX8 hdb hbx
    obtain ⟨N1, N2, N3, N4, N5, N6⟩ := NA.out
    obtain ⟨M1, M2, M3, M4, M5, M6⟩ := NB.out
    have FIN : Hid (∀ w9 : World, Below X8.heap.size X8 w9 → ∀ W9 : World, (W9 = set4 (set4 w9 ra (.slice ao1 Pa.length ac1) (.slice ao2 Aa.length ac2) (.slice ao3 Ea.length ac3) (.int .i64 sa)) rb (.slice bo1 Pb.length bc1) (.slice bo2 Ab.length bc2) (.slice bo3 Eb.length bc3) (.int .i64 sr) ∨ W9 = set4 (set4 w9 rb (.slice bo1 Pb.length bc1) (.slice bo2 Ab.length bc2) (.slice bo3 Eb.length bc3) (.int .i64 sr)) ra (.slice ao1 Pa.length ac1) (.slice ao2 Aa.length ac2) (.slice ao3 Ea.length ac3) (.int .i64 sa)) →
        Lies W9 (.slice ao1 Pa.length ac1) Pa ∧ Lies W9 (.slice ao2 Aa.length ac2) Aa ∧ Lies W9 (.slice ao3 Ea.length ac3) Ea ∧ Lies W9 (.slice bo1 Pb.length bc1) Pb ∧ Lies W9 (.slice bo2 Ab.length bc2) Ab ∧ Lies W9 (.slice bo3 Eb.length bc3) Eb ∧ Below w0.heap.size w0 W9) := fun w9 h9 W9 e => by
      rcases e with rfl | rfl
      · exact ⟨((A1.out.below h9).put4 N1 _ _ _ _).put4 N4 _ _ _ _, ((A2.out.below h9).put4 N2 _ _ _ _).put4 N5 _ _ _ _, ((A3.out.below h9).put4 N3 _ _ _ _).put4 N6 _ _ _ _, ((B1.out.below h9).put4 M1 _ _ _ _).put4 M4 _ _ _ _, ((B2.out.below h9).put4 M2 _ _ _ _).put4 M5 _ _ _ _, ((B3.out.below h9).put4 M3 _ _ _ _).put4 M6 _ _ _ _, set4_below (set4_below (b_step HB.out h9) hro.1 _ _ _ _) hro.2.1 _ _ _ _⟩
      · exact ⟨((A1.out.below h9).put4 N4 _ _ _ _).put4 N1 _ _ _ _, ((A2.out.below h9).put4 N5 _ _ _ _).put4 N2 _ _ _ _, ((A3.out.below h9).put4 N6 _ _ _ _).put4 N3 _ _ _ _, ((B1.out.below h9).put4 M4 _ _ _ _).put4 M1 _ _ _ _, ((B2.out.below h9).put4 M5 _ _ _ _).put4 M2 _ _ _ _, ((B3.out.below h9).put4 M6 _ _ _ _).put4 M3 _ _ _ _, set4_below (set4_below (b_step HB.out h9) hro.2.1 _ _ _ _) hro.1 _ _ _ _⟩
    clear N1 N2 N3 N4 N5 N6 M1 M2 M3 M4 M5 M6 NA NB A1 A2 A3 B1 B2 B3 HB
    have hne := hro.2.2.1
    have hne' : rb ≠ ra := Ne.symm hro.2.2.1
    obtain ⟨hl1, hl2⟩ := hal
    obtain ⟨hl3, hl4⟩ := hdl
    have x0 := (CA.out 0 _ rfl).1
    have x1 := (CA.out 1 _ rfl).1
    have x2 := (CA.out 2 _ rfl).1
    have x3 := (CA.out 3 _ rfl).1
    have v0 := (CD.out 0 _ rfl).1
    have v1 := (CD.out 1 _ rfl).1
    have v2 := (CD.out 2 _ rfl).1
    have v3 := (CD.out 3 _ rfl).1
    obtain ⟨y0, yf0⟩ := CR.out 0 _ rfl
    obtain ⟨y1, yf1⟩ := CR.out 1 _ rfl
    obtain ⟨y2, yf2⟩ := CR.out 2 _ rfl
    obtain ⟨y3, yf3⟩ := CR.out 3 _ rfl
    obtain ⟨u0, uf0⟩ := CS.out 0 _ rfl
    obtain ⟨u1, uf1⟩ := CS.out 1 _ rfl
    obtain ⟨u2, uf2⟩ := CS.out 2 _ rfl
    obtain ⟨u3, uf3⟩ := CS.out 3 _ rfl
    obtain ⟨W8, hW8⟩ : ∃ W, W = set4 (set4 X8 ra (.slice ao1 Pa.length ac1) (.slice ao2 Aa.length ac2) (.slice ao3 Ea.length ac3) (.int .i64 sa)) rb (.slice bo1 Pb.length bc1) (.slice bo2 Ab.length bc2) (.slice bo3 Eb.length bc3) (.int .i64 sr) := ⟨_, rfl⟩
    have g1 := Cells.set4 CR.out (.slice ao1 Pa.length ac1) (.slice ao2 Aa.length ac2) (.slice ao3 Ea.length ac3) (.int .i64 sa)
    have g2 := cells_apart4 g1 hne (.slice bo1 Pb.length bc1) (.slice bo2 Ab.length bc2) (.slice bo3 Eb.length bc3) (.int .i64 sr)
    have g3 := cells_apart4 CS.out hne' (.slice ao1 Pa.length ac1) (.slice ao2 Aa.length ac2) (.slice ao3 Ea.length ac3) (.int .i64 sa)
    have g4 := Cells.set4 g3 (.slice bo1 Pb.length bc1) (.slice bo2 Ab.length bc2) (.slice bo3 Eb.length bc3) (.int .i64 sr)
    rw [← hW8] at g2 g4
    have D1 : Hid _ := g2
    have D2 : Hid _ := g4
    clear g1 g2 g3 g4
    have F8 : Hid _ := FIN.out X8 (Below.refl _ _) W8 (by rw [hW8]; exact Or.inl rfl)
    have hdr : Below W8.heap.size W8 W8.drew := (Below.refl _ _).drew
    have G1 : Hid _ := Cells.step D1.out hdr
    have G2 : Hid _ := Cells.step D2.out hdr
    clear D1 D2
    have F9 : Hid _ := And.intro (F8.out.1.below hdr) (And.intro (F8.out.2.1.below hdr) (And.intro (F8.out.2.2.1.below hdr) (And.intro (F8.out.2.2.2.1.below hdr) (And.intro (F8.out.2.2.2.2.1.below hdr) (And.intro (F8.out.2.2.2.2.2.1.below hdr) (b_step F8.out.2.2.2.2.2.2 hdr))))))
    unfold set4 at hW8
    clear FIN F8 hdr
    go_region
    rw [← hW8]
    clear hW8 x0 x1 x2 x3 v0 v1 v2 v3 y0 y1 y2 y3 yf0 yf1 yf2 yf3 u0 u1 u2 u3 uf0 uf1 uf2 uf3
    generalize W8.drew = W9 at *
    have y0 := (G1.out 0 _ rfl).1
    have u0 := (G2.out 0 _ rfl).1
    have y1 := (G1.out 1 _ rfl).1
    have u1 := (G2.out 1 _ rfl).1
    have y2 := (G1.out 2 _ rfl).1
    have u2 := (G2.out 2 _ rfl).1
    have y3 := (G1.out 3 _ rfl).1
    have u3 := (G2.out 3 _ rfl).1
    go_step
    rename_i hK
    refine hK _ _ ?_
    go_step
    exact bodyPost_ret (v := .tuple #[.agg #[.slice ao1 Pa.length ac1, .slice ao2 Aa.length ac2, .slice ao3 Ea.length ac3, .int .i64 sa], .agg #[.slice bo1 Pb.length bc1, .slice bo2 Ab.length bc2, .slice bo3 Eb.length bc3, .int .i64 sr]]) (by simp [results, Try.results6, go_sem, y0, y1, y2, y3, u0, u1, u2, u3]) rfl ⟨⟨Pa, Aa, Ea, sa⟩, ⟨Pb, Ab, Eb, sr⟩, _, _, _, _, _, _, rfl, F9, HMA.out.1, HMB.out, HMA.out.2, HRR.out, FA.out.1, FA.out.2.1, FA.out.2.2, FB.out.1, FB.out.2.1, FB.out.2.2⟩
end Go.Proofs.Ytfalniafkambmaa
namespace Go.Proofs.Ytfalniafkambmaa
open Go.ChangeShapes Go.WideShapes Go.Deep Go.Joins

section
variable {H : Type} {enc : TypeId × Value → H} {w : World} {base : Nat} {spare : Nat → Bool} {held : Bool}

theorem lit_of {n : Nat} {c : Value} {y : DataW H × List MemPlace} (h : DataW.trod enc Try.prog w base spare held n 3 [c] = some y) : ∃ x : Int, c = .int .i64 x ∧ y = (.lit (.int .i64 x), []) ∧ (Lit.int .i64 x).wf = true := by
  obtain ⟨x, h1, h2, h3⟩ := DataW.trod_int Try.underlying3 h
  simp at h1
  exact ⟨x, h1, h2, h3⟩
end
end Go.Proofs.Ytfalniafkambmaa
namespace Go.Proofs.Ytfalniafkambmaa
open Go.ChangeShapes Go.WideShapes Go.Deep Go.Joins
set_option linter.unusedVariables false

theorem points_of {H : Type} {enc : TypeId × Value → H} {W : World} {base : Nat} {spare : Nat → Bool} {held : Bool} {a : Option Addr} {len cap fuel : Nat} {x : DataW H × List MemPlace}
    (h : DataW.trod enc Try.prog W base spare held fuel 24 [.slice a len cap] = some x) : ∃ L : List Pt, L.length = len ∧ Lies W (.slice a len cap) L ∧ ∀ p ∈ L, p.fits := by
  rcases Deep.open_slice Try.underlying24 h with ⟨hcs, _⟩ | ⟨y, l, c, m, n, D, Pl, hcs, _, hl, hm, hmm, _, hx⟩
  · simp at hcs
    obtain ⟨rfl, rfl, rfl⟩ := hcs
    exact ⟨[], rfl, ⟨none, 0, rfl, by simp, by omega, fun i hi => by simp at hi⟩, by simp⟩
  · simp at hcs
    obtain ⟨rfl, rfl, rfl⟩ := hcs
    unfold maxLen at hm
    have hlm : len ≤ m := by rw [hmm]; split <;> omega
    have hc3 : Try.prog.cellsOf 23 = 3 := by kernel_rfl
    have hc1 : Try.prog.cellsOf 3 = 1 := by kernel_rfl
    have each : ∀ i, i < len → ∃ q : Pt, (W.cell? ((y.add (i * 3)).add 0) = some (.int .i64 q.x) ∧ W.cell? ((y.add (i * 3)).add 1) = some (.int .i64 q.y) ∧ W.cell? ((y.add (i * 3)).add 2) = some (.int .i64 q.z)) ∧ q.fits := by
      intro i hi
      obtain ⟨cs', hcells, ht⟩ := hx i (by omega)
      rw [hc3] at hcells
      obtain ⟨_, hlen, hcell⟩ := World.cells?_some hcells
      obtain ⟨xs, k, _, _, _, hxl, hel⟩ := DataW.trod_struct Try.underlying23 ht
      have get : ∀ (v : Value) (j : Nat), ((cs'.drop j).take 1) = [v] → cs'[j]? = some v := fun v j h => by
        have h2 : ((cs'.drop j).take 1)[0]? = some v := by rw [h]; rfl
        simpa [List.getElem?_take, List.getElem?_drop] using h2
      have some_of : ∀ j, j < 3 → ∃ z, xs[j]? = some z := fun j hj => ⟨_, List.getElem?_eq_getElem (by rw [hxl]; exact hj)⟩
      have e0 := hel 0 _ rfl
      have e1 := hel 1 _ rfl
      have e2 := hel 2 _ rfl
      obtain ⟨z0, hz0⟩ := some_of 0 (by omega)
      obtain ⟨z1, hz1⟩ := some_of 1 (by omega)
      obtain ⟨z2, hz2⟩ := some_of 2 (by omega)
      rw [hz0] at e0
      rw [hz1] at e1
      rw [hz2] at e2
      obtain ⟨p, hp, _, wp⟩ := DataW.trod_int Try.underlying3 e0
      obtain ⟨q, hq, _, wq⟩ := DataW.trod_int Try.underlying3 e1
      obtain ⟨r, hr, _, wr⟩ := DataW.trod_int Try.underlying3 e2
      have hp2 : (cs'.drop 0).take (Try.prog.cellsOf 3) = [.int .i64 p] := hp
      have hq2 : (cs'.drop 1).take (Try.prog.cellsOf 3) = [.int .i64 q] := hq
      have hr2 : (cs'.drop 2).take (Try.prog.cellsOf 3) = [.int .i64 r] := hr
      rw [hc1] at hp2 hq2 hr2
      have b0 := bounds_i64 wp
      have b1 := bounds_i64 wq
      have b2 := bounds_i64 wr
      exact ⟨⟨p, q, r⟩, ⟨(hcell 0 (by omega)).trans (get _ 0 hp2), (hcell 1 (by omega)).trans (get _ 1 hq2), (hcell 2 (by omega)).trans (get _ 2 hr2)⟩, ⟨by dsimp only; omega, by dsimp only; omega⟩, ⟨by dsimp only; omega, by dsimp only; omega⟩, ⟨by dsimp only; omega, by dsimp only; omega⟩⟩
    have ch : ∃ (l : Nat → Pt), ∀ i, i < len → (W.cell? ((y.add (i * 3)).add 0) = some (.int .i64 (l i).x) ∧ W.cell? ((y.add (i * 3)).add 1) = some (.int .i64 (l i).y) ∧ W.cell? ((y.add (i * 3)).add 2) = some (.int .i64 (l i).z)) ∧ (l i).fits := by
      refine ⟨fun i => if h : i < len then (each i h).choose else Pt.O, fun i hi => ?_⟩
      simp only [dif_pos hi]
      exact (each i hi).choose_spec
    obtain ⟨l, hall⟩ := ch
    have hln : ((List.range len).map l).length = len := by simp
    have hpt : ∀ i, i < len → pt ((List.range len).map l) i = l i := fun i hi => by unfold pt; simp [hi]
    refine ⟨(List.range len).map l, hln, ⟨some y, cap, by rw [hln], by rw [hln]; exact hl, by omega, fun i hi => ?_⟩, fun p hp => ?_⟩
    · rw [hln] at hi
      obtain ⟨b, off, spot⟩ := y
      obtain ⟨⟨h0, h1, h2⟩, _⟩ := hall i hi
      have hs : spot = none := by simpa [Addr.add] using World.cell?_spot (hall 0 (by omega)).1.1
      subst hs
      have ad : ∀ i j, ((⟨b, off, none⟩ : Addr).add (i * 3)).add j = ⟨b, off + i * 3 + j, none⟩ := fun i j => by
        unfold Addr.add
        split <;> split <;> simp_all
      rw [ad] at h0 h1 h2
      exact ⟨b, off, rfl, by rw [hpt i hi]; exact h0, by rw [hpt i hi]; exact h1, by rw [hpt i hi]; exact h2⟩
    · rw [List.mem_map] at hp
      obtain ⟨i, hi, rfl⟩ := hp
      exact (hall i (by simpa using hi)).2
end Go.Proofs.Ytfalniafkambmaa
namespace Go.Proofs.Ytfalniafkambmaa
open Go.ChangeShapes Go.WideShapes Go.Deep Go.Joins
set_option linter.unusedVariables false

section
variable {H : Type} {enc : TypeId × Value → H} {w : World} {base : Nat} {spare : Nat → Bool} {held : Bool}
theorem vec_of {n : Nat} {u0 u1 u2 : Value} {z : DataW H × List MemPlace} (h : DataW.trod enc Try.prog w base spare held n 27 [u0, u1, u2] = some z) : ∃ x0 x1 x2 : Int, u0 = .int .i64 x0 ∧ u1 = .int .i64 x1 ∧ u2 = .int .i64 x2 ∧ (Lit.int .i64 x0).wf = true ∧ (Lit.int .i64 x1).wf = true ∧ (Lit.int .i64 x2).wf = true := by
  have hc1 : Try.prog.cellsOf 3 = 1 := by kernel_rfl
  obtain ⟨ys, m, _, _, _, hyl, hey⟩ := DataW.trod_struct Try.underlying27 h
  have some_y : ∀ j, j < 3 → ∃ z, ys[j]? = some z := fun j hj => ⟨_, List.getElem?_eq_getElem (by rw [hyl]; exact hj)⟩
  obtain ⟨y0, hy0⟩ := some_y 0 (by omega)
  have g0 := hey 0 _ rfl
  rw [hy0] at g0
  have p0 : DataW.trod enc Try.prog w base spare held m 3 [u0] = some y0 := by have this : DataW.trod enc Try.prog w base spare held m 3 (([u0, u1, u2].drop 0).take (Try.prog.cellsOf 3)) = some y0 := g0; rw [hc1] at this; exact this
  obtain ⟨y1, hy1⟩ := some_y 1 (by omega)
  have g1 := hey 1 _ rfl
  rw [hy1] at g1
  have p1 : DataW.trod enc Try.prog w base spare held m 3 [u1] = some y1 := by have this : DataW.trod enc Try.prog w base spare held m 3 (([u0, u1, u2].drop 1).take (Try.prog.cellsOf 3)) = some y1 := g1; rw [hc1] at this; exact this
  obtain ⟨y2, hy2⟩ := some_y 2 (by omega)
  have g2 := hey 2 _ rfl
  rw [hy2] at g2
  have p2 : DataW.trod enc Try.prog w base spare held m 3 [u2] = some y2 := by have this : DataW.trod enc Try.prog w base spare held m 3 (([u0, u1, u2].drop 2).take (Try.prog.cellsOf 3)) = some y2 := g2; rw [hc1] at this; exact this
  obtain ⟨x0, rfl, _, k0⟩ := lit_of p0
  obtain ⟨x1, rfl, _, k1⟩ := lit_of p1
  obtain ⟨x2, rfl, _, k2⟩ := lit_of p2
  exact ⟨x0, x1, x2, rfl, rfl, rfl, k0, k1, k2⟩
theorem quat_of {n : Nat} {u0 u1 u2 u3 : Value} {z : DataW H × List MemPlace} (h : DataW.trod enc Try.prog w base spare held n 29 [u0, u1, u2, u3] = some z) : ∃ x0 x1 x2 x3 : Int, u0 = .int .i64 x0 ∧ u1 = .int .i64 x1 ∧ u2 = .int .i64 x2 ∧ u3 = .int .i64 x3 ∧ (Lit.int .i64 x0).wf = true ∧ (Lit.int .i64 x1).wf = true ∧ (Lit.int .i64 x2).wf = true ∧ (Lit.int .i64 x3).wf = true := by
  have hc1 : Try.prog.cellsOf 3 = 1 := by kernel_rfl
  obtain ⟨ys, m, _, _, _, hyl, hey⟩ := DataW.trod_struct Try.underlying29 h
  have some_y : ∀ j, j < 4 → ∃ z, ys[j]? = some z := fun j hj => ⟨_, List.getElem?_eq_getElem (by rw [hyl]; exact hj)⟩
  obtain ⟨y0, hy0⟩ := some_y 0 (by omega)
  have g0 := hey 0 _ rfl
  rw [hy0] at g0
  have p0 : DataW.trod enc Try.prog w base spare held m 3 [u0] = some y0 := by have this : DataW.trod enc Try.prog w base spare held m 3 (([u0, u1, u2, u3].drop 0).take (Try.prog.cellsOf 3)) = some y0 := g0; rw [hc1] at this; exact this
  obtain ⟨y1, hy1⟩ := some_y 1 (by omega)
  have g1 := hey 1 _ rfl
  rw [hy1] at g1
  have p1 : DataW.trod enc Try.prog w base spare held m 3 [u1] = some y1 := by have this : DataW.trod enc Try.prog w base spare held m 3 (([u0, u1, u2, u3].drop 1).take (Try.prog.cellsOf 3)) = some y1 := g1; rw [hc1] at this; exact this
  obtain ⟨y2, hy2⟩ := some_y 2 (by omega)
  have g2 := hey 2 _ rfl
  rw [hy2] at g2
  have p2 : DataW.trod enc Try.prog w base spare held m 3 [u2] = some y2 := by have this : DataW.trod enc Try.prog w base spare held m 3 (([u0, u1, u2, u3].drop 2).take (Try.prog.cellsOf 3)) = some y2 := g2; rw [hc1] at this; exact this
  obtain ⟨y3, hy3⟩ := some_y 3 (by omega)
  have g3 := hey 3 _ rfl
  rw [hy3] at g3
  have p3 : DataW.trod enc Try.prog w base spare held m 3 [u3] = some y3 := by have this : DataW.trod enc Try.prog w base spare held m 3 (([u0, u1, u2, u3].drop 3).take (Try.prog.cellsOf 3)) = some y3 := g3; rw [hc1] at this; exact this
  obtain ⟨x0, rfl, _, k0⟩ := lit_of p0
  obtain ⟨x1, rfl, _, k1⟩ := lit_of p1
  obtain ⟨x2, rfl, _, k2⟩ := lit_of p2
  obtain ⟨x3, rfl, _, k3⟩ := lit_of p3
  exact ⟨x0, x1, x2, x3, rfl, rfl, rfl, rfl, k0, k1, k2, k3⟩
end
end Go.Proofs.Ytfalniafkambmaa
