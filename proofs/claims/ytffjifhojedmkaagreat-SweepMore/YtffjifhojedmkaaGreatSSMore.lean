/- With more in the way a ray is not free for longer; what is near or over stays so with more beside it: for all raw shapes and poses, points and ways. -/
import Derived.Test.YtffjifhojedmkaaGreatSSMore18
import Derived.Deep.MidRow
import Derived.Test.YtffjifhojedmkaaGreatRows
import Derived.ProofKit
import Derived.OpenShut
set_option linter.unusedVariables false
namespace Go.Proofs.YtffjifhojedmkaaGreat
section
namespace sweepMore
open Go.ChangeShapes Go.WideShapes Go.ChangeAt Go.RowKit Go.Shelf
theorem own : ownKnob Tryz.prog.godebug = none := by kernel_rfl
theorem laidOut : laidOutB Tryz.prog = true := by kernel_rfl
theorem ray_mono (p w : Pt) (b c : Cr) : ∃ (n m : Int) (i j : Int) (x y : Bool), rayV (dotC p) w [b] = .tuple #[.int .i64 i, .int .i64 n, .bool x] /\ rayV (dotC p) w [b, c] = .tuple #[.int .i64 j, .int .i64 m, .bool y] /\ m <= n /\ (x = true -> y = true) := by
 unfold rayV
 by_cases hg : goB (dotC p) w = true
 ·rw [hg, if_pos rfl, if_pos rfl]
  have e1 : bestK (rayT (dotC p) w) rayB [b] [b].length = bestK (rayT (dotC p) w) rayB [b, c] 1 := rfl
  have e2 : [b, c].length = 1 + 1 := rfl
  rw [e1, e2]
  cases ht : rayT (dotC p) w (cr [b, c] 1) with
  | none =>
   rw [bestK_no _ _ _ ht]
   cases bestK (rayT (dotC p) w) rayB [b, c] 1 with
   | none => exact ⟨_, _, _, _, _, _, rfl, rfl, Int.le_refl _, id⟩
   | some x => exact ⟨_, _, _, _, _, _, rfl, rfl, Int.le_refl _, id⟩
  | some k =>
   have hk : k < 16 := by
    unfold rayT at ht
    split at ht
    ·next h =>
     simp only [Bool.and_eq_true, decide_eq_true_eq] at h
     cases ht
     exact h.2
    ·cases ht
   cases hb : bestK (rayT (dotC p) w) rayB [b, c] 1 with
   | none =>
    rw [bestK_first _ _ _ ht hb]
    exact ⟨_, _, _, _, _, _, rfl, rfl, by omega, fun _ => rfl⟩
   | some x =>
    obtain ⟨j, m⟩ := x
    rw [bestK_more _ _ _ ht hb]
    by_cases hl : k < m
    ·rw [if_pos (by unfold rayB; exact decide_eq_true hl)]
     exact ⟨_, _, _, _, _, _, rfl, rfl, by omega, id⟩
    ·rw [if_neg (by unfold rayB; simpa using hl)]
     exact ⟨_, _, _, _, _, _, rfl, rfl, Int.le_refl _, id⟩
 ·rw [if_neg hg, if_neg hg]
  exact ⟨_, _, _, _, _, _, rfl, rfl, Int.le_refl _, id⟩
theorem near_mono {a b c : Cr} (ha : mayC a = true) (hb : mayC b = true) : ∃ (i j g1 g2 g3 g h1 h2 h3 h : Int), nearV (bestK (nearT a) nearB [b] [b].length) = .tuple #[.int .i64 i, .agg #[.int .i64 g1, .int .i64 g2, .int .i64 g3, .int .i64 g], .bool true] /\ nearV (bestK (nearT a) nearB [b, c] [b, c].length) = .tuple #[.int .i64 j, .agg #[.int .i64 h1, .int .i64 h2, .int .i64 h3, .int .i64 h], .bool true] /\ h <= g := by
 have e1 : bestK (nearT a) nearB [b] [b].length = bestK (nearT a) nearB [b, c] 1 := rfl
 have e2 : [b, c].length = 1 + 1 := rfl
 have t0 : nearT a (cr [b, c] 0) = some (told a b) := by unfold nearT; rw [if_pos (by rw [ha]; exact hb)]; rfl
 have e0 : bestK (nearT a) nearB [b, c] (0 + 1) = some (0, told a b) := bestK_first _ _ _ t0 rfl
 rw [e1, e2, e0]
 cases ht : nearT a (cr [b, c] 1) with
 | none =>
  rw [bestK_no _ _ _ ht, e0]
  exact ⟨_, _, _, _, _, _, _, _, _, _, rfl, rfl, Int.le_refl _⟩
 | some x =>
  rw [bestK_more _ _ _ ht e0]
  by_cases hl : x.2 < (told a b).2
  ·rw [if_pos (by unfold nearB; exact decide_eq_true hl)]
   exact ⟨_, _, _, _, _, _, _, _, _, _, rfl, rfl, by omega⟩
  ·rw [if_neg (by unfold nearB; simpa using hl)]
   exact ⟨_, _, _, _, _, _, _, _, _, _, rfl, rfl, Int.le_refl _⟩
theorem over_cell {W : World} {base : Nat} {o : Option Addr} {c : Nat} {L : List Nat} (h : W.ownsRow base 3 1 (.slice o L.length c) L.length (intsV L)) (h0 : L[0]? = some 0) : ∃ g, o = some ⟨g, 0, none⟩ /\ W.cell? ⟨g, 0, none⟩ = some (.int .i64 0) := by
 have hl : 0 < L.length := (List.getElem?_eq_some_iff.1 h0).1
 rcases h.2 with ⟨e, hz⟩ | ⟨g, cap, cur, e, _⟩
 ·omega
 ·simp only [Value.slice.injEq] at e
  obtain ⟨rfl, _, rfl⟩ := e
  refine ⟨g, rfl, (h.cellAt 0 (by omega)).trans ?_⟩
  unfold intsV
  rw [List.getElem?_map, h0]
  rfl
theorem over_mono (a b c : Cr) : ∃ x y : List Nat, overK a [b] [b].length = x /\ overK a [b, c] [b, c].length = y /\ x.length <= y.length /\ (x.length = 0 \/ (y[0]? = some 0 /\ 0 < y.length /\ x.length ≠ 0)) := by
 refine ⟨_, _, rfl, rfl, ?_⟩
 have e1 : overK a [b] [b].length = overK a [b, c] 1 := rfl
 have e2 : [b, c].length = 1 + 1 := rfl
 have e3 : overK a [b, c] (1 + 1) = if mayC a && mayC (cr [b, c] 1) && decide ((told a (cr [b, c] 1)).2 < 1) then overK a [b, c] 1 ++ [1] else overK a [b, c] 1 := rfl
 have e4 : overK a [b, c] 1 = if mayC a && mayC (cr [b, c] 0) && decide ((told a (cr [b, c] 0)).2 < 1) then [] ++ [0] else [] := rfl
 rw [e1, e2, e3, e4]
 generalize (mayC a && mayC (cr [b, c] 1) && decide ((told a (cr [b, c] 1)).2 < 1)) = p
 generalize (mayC a && mayC (cr [b, c] 0) && decide ((told a (cr [b, c] 0)).2 < 1)) = q
 cases p <;> cases q <;> simp
set_option maxHeartbeats 32000000 in
set_option maxRecDepth 100000 in
theorem walk (k1t r1t x1t y1t z1t : Int) (o1t : Option Addr) (L1t : List Pt) (c1t : Nat) (k2t r2t x2t y2t z2t : Int) (o2t : Option Addr) (L2t : List Pt) (c2t : Nat) (p0t p1t p2t p3t p4t p5t p6t q0t q1t q2t q3t q4t q5t q6t nrt wxt wyt wzt : Int) (k1u r1u x1u y1u z1u : Int) (o1u : Option Addr) (L1u : List Pt) (c1u : Nat) (k2u r2u x2u y2u z2u : Int) (o2u : Option Addr) (L2u : List Pt) (c2u : Nat) (p0u p1u p2u p3u p4u p5u p6u q0u q1u q2u q3u q4u q5u q6u nru wxu wyu wzu : Int) (fx fy fz vx vy vz : Int) (w0 : World) (hbt : ∀ v ∈ ([k1t, r1t, x1t, y1t, z1t, k2t, r2t, x2t, y2t, z2t, p0t, p1t, p2t, p3t, p4t, p5t, p6t, q0t, q1t, q2t, q3t, q4t, q5t, q6t, nrt, wxt, wyt, wzt] : List Int), -9223372036854775808 <= v /\ v <= 9223372036854775807) (hL1t : Lies w0 (.slice o1t L1t.length c1t) L1t) (hF1t : ∀ p ∈ L1t, p.fits) (hL2t : Lies w0 (.slice o2t L2t.length c2t) L2t) (hF2t : ∀ p ∈ L2t, p.fits) (hbu : ∀ v ∈ ([k1u, r1u, x1u, y1u, z1u, k2u, r2u, x2u, y2u, z2u, p0u, p1u, p2u, p3u, p4u, p5u, p6u, q0u, q1u, q2u, q3u, q4u, q5u, q6u, nru, wxu, wyu, wzu] : List Int), -9223372036854775808 <= v /\ v <= 9223372036854775807) (hL1u : Lies w0 (.slice o1u L1u.length c1u) L1u) (hF1u : ∀ p ∈ L1u, p.fits) (hL2u : Lies w0 (.slice o2u L2u.length c2u) L2u) (hF2u : ∀ p ∈ L2u, p.fits) (bfx : -9223372036854775808 <= fx /\ fx <= 9223372036854775807) (bfy : -9223372036854775808 <= fy /\ fy <= 9223372036854775807) (bfz : -9223372036854775808 <= fz /\ fz <= 9223372036854775807) (bvx : -9223372036854775808 <= vx /\ vx <= 9223372036854775807) (bvy : -9223372036854775808 <= vy /\ vy <= 9223372036854775807) (bvz : -9223372036854775808 <= vz /\ vz <= 9223372036854775807) :
  Calls Tryz.prog 7 #[.agg #[.int .i64 k1t, .int .i64 r1t, .int .i64 x1t, .int .i64 y1t, .int .i64 z1t, .slice o1t L1t.length c1t, .int .i64 k2t, .int .i64 r2t, .int .i64 x2t, .int .i64 y2t, .int .i64 z2t, .slice o2t L2t.length c2t, .int .i64 p0t, .int .i64 p1t, .int .i64 p2t, .int .i64 p3t, .int .i64 p4t, .int .i64 p5t, .int .i64 p6t, .int .i64 q0t, .int .i64 q1t, .int .i64 q2t, .int .i64 q3t, .int .i64 q4t, .int .i64 q5t, .int .i64 q6t, .int .i64 nrt, .int .i64 wxt, .int .i64 wyt, .int .i64 wzt], .agg #[.int .i64 k1u, .int .i64 r1u, .int .i64 x1u, .int .i64 y1u, .int .i64 z1u, .slice o1u L1u.length c1u, .int .i64 k2u, .int .i64 r2u, .int .i64 x2u, .int .i64 y2u, .int .i64 z2u, .slice o2u L2u.length c2u, .int .i64 p0u, .int .i64 p1u, .int .i64 p2u, .int .i64 p3u, .int .i64 p4u, .int .i64 p5u, .int .i64 p6u, .int .i64 q0u, .int .i64 q1u, .int .i64 q2u, .int .i64 q3u, .int .i64 q4u, .int .i64 q5u, .int .i64 q6u, .int .i64 nru, .int .i64 wxu, .int .i64 wyu, .int .i64 wzu], .agg #[.int .i64 fx, .int .i64 fy, .int .i64 fz], .agg #[.int .i64 vx, .int .i64 vy, .int .i64 vz]] w0 fun e w' => e = .returned (.bool true) /\ Below w0.heap.size w0 w' := by
 have HC1 : Hid _ := fun w' (h : Below w0.heap.size w0 w') => cores_any k1t r1t x1t y1t z1t o1t L1t c1t k2t r2t x2t y2t z2t o2t L2t c2t p0t p1t p2t p3t p4t p5t p6t q0t q1t q2t q3t q4t q5t q6t nrt wxt wyt wzt w' hbt (hL1t.below h) hF1t (hL2t.below h) hF2t
 have HC2 : Hid _ := fun w' (h : Below w0.heap.size w0 w') => cores_any k1u r1u x1u y1u z1u o1u L1u c1u k2u r2u x2u y2u z2u o2u L2u c2u p0u p1u p2u p3u p4u p5u p6u q0u q1u q2u q3u q4u q5u q6u nru wxu wyu wzu w' hbu (hL1u.below h) hF1u (hL2u.below h) hF2u
 have AW : Hid _ := fun W => wawake_any W
 have HWx : Hid _ := fun W => wpick_b fx 65536 W bfx (by decide) (by decide)
 have HVx : Hid _ := fun W => wpick_b vx 131072 W bvx (by decide) (by decide)
 have HWy : Hid _ := fun W => wpick_b fy 65536 W bfy (by decide) (by decide)
 have HVy : Hid _ := fun W => wpick_b vy 131072 W bvy (by decide) (by decide)
 have HWz : Hid _ := fun W => wpick_b fz 65536 W bfz (by decide) (by decide)
 have HVz : Hid _ := fun W => wpick_b vz 131072 W bvz (by decide) (by decide)
 obtain ⟨gx, hgx⟩ : ∃ x, pickY fx 65536 = x := ⟨_, rfl⟩
 have lgx := pickY_lo fx (n := 65536) (by decide)
 have mgx := pickY_hi fx (n := 65536) (by decide)
 rw [hgx] at HWx lgx mgx
 obtain ⟨ex, hex⟩ : ∃ x, pickY vx 131072 = x := ⟨_, rfl⟩
 have lex := pickY_lo vx (n := 131072) (by decide)
 have mex := pickY_hi vx (n := 131072) (by decide)
 rw [hex] at HVx lex mex
 obtain ⟨gy, hgy⟩ : ∃ x, pickY fy 65536 = x := ⟨_, rfl⟩
 have lgy := pickY_lo fy (n := 65536) (by decide)
 have mgy := pickY_hi fy (n := 65536) (by decide)
 rw [hgy] at HWy lgy mgy
 obtain ⟨ey, hey⟩ : ∃ x, pickY vy 131072 = x := ⟨_, rfl⟩
 have ley := pickY_lo vy (n := 131072) (by decide)
 have mey := pickY_hi vy (n := 131072) (by decide)
 rw [hey] at HVy ley mey
 obtain ⟨gz, hgz⟩ : ∃ x, pickY fz 65536 = x := ⟨_, rfl⟩
 have lgz := pickY_lo fz (n := 65536) (by decide)
 have mgz := pickY_hi fz (n := 65536) (by decide)
 rw [hgz] at HWz lgz mgz
 obtain ⟨ez, hez⟩ : ∃ x, pickY vz 131072 = x := ⟨_, rfl⟩
 have lez := pickY_lo vz (n := 131072) (by decide)
 have mez := pickY_hi vz (n := 131072) (by decide)
 rw [hez] at HVz lez mez
 clear hbt hL1t hF1t hL2t hF2t hbu hL1u hF1u hL2u hF2u bfx bfy bfz bvx bvy bvz hgx hgy hgz hex hey hez
 obtain ⟨A1, hA1⟩ : ∃ V, V = w0.alloc (.cells #[.int .i64 k1t, .int .i64 r1t, .int .i64 x1t, .int .i64 y1t, .int .i64 z1t, .slice o1t L1t.length c1t, .int .i64 k2t, .int .i64 r2t, .int .i64 x2t, .int .i64 y2t, .int .i64 z2t, .slice o2t L2t.length c2t, .int .i64 p0t, .int .i64 p1t, .int .i64 p2t, .int .i64 p3t, .int .i64 p4t, .int .i64 p5t, .int .i64 p6t, .int .i64 q0t, .int .i64 q1t, .int .i64 q2t, .int .i64 q3t, .int .i64 q4t, .int .i64 q5t, .int .i64 q6t, .int .i64 nrt, .int .i64 wxt, .int .i64 wyt, .int .i64 wzt] 33) := ⟨_, rfl⟩
 obtain ⟨A2, hA2⟩ : ∃ V, V = A1.alloc (.cells #[.int .i64 k1u, .int .i64 r1u, .int .i64 x1u, .int .i64 y1u, .int .i64 z1u, .slice o1u L1u.length c1u, .int .i64 k2u, .int .i64 r2u, .int .i64 x2u, .int .i64 y2u, .int .i64 z2u, .slice o2u L2u.length c2u, .int .i64 p0u, .int .i64 p1u, .int .i64 p2u, .int .i64 p3u, .int .i64 p4u, .int .i64 p5u, .int .i64 p6u, .int .i64 q0u, .int .i64 q1u, .int .i64 q2u, .int .i64 q3u, .int .i64 q4u, .int .i64 q5u, .int .i64 q6u, .int .i64 nru, .int .i64 wxu, .int .i64 wyu, .int .i64 wzu] 33) := ⟨_, rfl⟩
 obtain ⟨A3, hA3⟩ : ∃ V, V = A2.alloc (.cells #[.int .i64 fx, .int .i64 fy, .int .i64 fz] 23) := ⟨_, rfl⟩
 obtain ⟨W1, hW1⟩ : ∃ V, V = A3.alloc (.cells #[.int .i64 vx, .int .i64 vy, .int .i64 vz] 23) := ⟨_, rfl⟩
 have z1 : A1.heap.size = w0.heap.size + 1 := by rw [hA1, World.size_alloc]
 have z2 : A2.heap.size = w0.heap.size + 1 + 1 := by rw [hA2, World.size_alloc, z1]
 have z3 : A3.heap.size = w0.heap.size + 1 + 1 + 1 := by rw [hA3, World.size_alloc, z2]
 have k1 := n_after w0 (.cells #[.int .i64 k1t, .int .i64 r1t, .int .i64 x1t, .int .i64 y1t, .int .i64 z1t, .slice o1t L1t.length c1t, .int .i64 k2t, .int .i64 r2t, .int .i64 x2t, .int .i64 y2t, .int .i64 z2t, .slice o2t L2t.length c2t, .int .i64 p0t, .int .i64 p1t, .int .i64 p2t, .int .i64 p3t, .int .i64 p4t, .int .i64 p5t, .int .i64 p6t, .int .i64 q0t, .int .i64 q1t, .int .i64 q2t, .int .i64 q3t, .int .i64 q4t, .int .i64 q5t, .int .i64 q6t, .int .i64 nrt, .int .i64 wxt, .int .i64 wyt, .int .i64 wzt] 33)
 have k2 := n_after A1 (.cells #[.int .i64 k1u, .int .i64 r1u, .int .i64 x1u, .int .i64 y1u, .int .i64 z1u, .slice o1u L1u.length c1u, .int .i64 k2u, .int .i64 r2u, .int .i64 x2u, .int .i64 y2u, .int .i64 z2u, .slice o2u L2u.length c2u, .int .i64 p0u, .int .i64 p1u, .int .i64 p2u, .int .i64 p3u, .int .i64 p4u, .int .i64 p5u, .int .i64 p6u, .int .i64 q0u, .int .i64 q1u, .int .i64 q2u, .int .i64 q3u, .int .i64 q4u, .int .i64 q5u, .int .i64 q6u, .int .i64 nru, .int .i64 wxu, .int .i64 wyu, .int .i64 wzu] 33)
 have k3 := n_after A2 (.cells #[.int .i64 fx, .int .i64 fy, .int .i64 fz] 23)
 have k4 := n_after A3 (.cells #[.int .i64 vx, .int .i64 vy, .int .i64 vz] 23)
 rw [<- hA1] at k1
 rw [<- hA2] at k2
 rw [<- hA3] at k3
 rw [<- hW1] at k4
 obtain ⟨tb, htb⟩ : ∃ b, b = w0.heap.size := ⟨_, rfl⟩
 obtain ⟨ub, hub⟩ : ∃ b, b = w0.heap.size + 1 := ⟨_, rfl⟩
 obtain ⟨fb, hfb⟩ : ∃ b, b = w0.heap.size + 1 + 1 := ⟨_, rfl⟩
 obtain ⟨vb, hvb⟩ : ∃ b, b = w0.heap.size + 1 + 1 + 1 := ⟨_, rfl⟩
 have n1 := Cel.new w0 [.int .i64 k1t, .int .i64 r1t, .int .i64 x1t, .int .i64 y1t, .int .i64 z1t, .slice o1t L1t.length c1t, .int .i64 k2t, .int .i64 r2t, .int .i64 x2t, .int .i64 y2t, .int .i64 z2t, .slice o2t L2t.length c2t, .int .i64 p0t, .int .i64 p1t, .int .i64 p2t, .int .i64 p3t, .int .i64 p4t, .int .i64 p5t, .int .i64 p6t, .int .i64 q0t, .int .i64 q1t, .int .i64 q2t, .int .i64 q3t, .int .i64 q4t, .int .i64 q5t, .int .i64 q6t, .int .i64 nrt, .int .i64 wxt, .int .i64 wyt, .int .i64 wzt] 33
 have n2 := Cel.new A1 [.int .i64 k1u, .int .i64 r1u, .int .i64 x1u, .int .i64 y1u, .int .i64 z1u, .slice o1u L1u.length c1u, .int .i64 k2u, .int .i64 r2u, .int .i64 x2u, .int .i64 y2u, .int .i64 z2u, .slice o2u L2u.length c2u, .int .i64 p0u, .int .i64 p1u, .int .i64 p2u, .int .i64 p3u, .int .i64 p4u, .int .i64 p5u, .int .i64 p6u, .int .i64 q0u, .int .i64 q1u, .int .i64 q2u, .int .i64 q3u, .int .i64 q4u, .int .i64 q5u, .int .i64 q6u, .int .i64 nru, .int .i64 wxu, .int .i64 wyu, .int .i64 wzu] 33
 have n3 := CelW.new A2 [.int .i64 fx, .int .i64 fy, .int .i64 fz] 23
 have n4 := CelW.new A3 [.int .i64 vx, .int .i64 vy, .int .i64 vz] 23
 rw [<- hA1, <- htb] at n1
 rw [<- hA2, z1, <- hub] at n2
 rw [<- hA3, z2, <- hfb] at n3
 rw [<- hW1, z3, <- hvb] at n4
 have m1 := ((n1.step k2).step k3).step k4
 have m2 := (n2.step k3).step k4
 have CF : Hid (CelW W1 fb [.int .i64 fx, .int .i64 fy, .int .i64 fz]) := n3.step k4
 have CV : Hid (CelW W1 vb [.int .i64 vx, .int .i64 vy, .int .i64 vz]) := n4
 have hB1 : Below w0.heap.size w0 W1 := b_step (b_step (b_step k1 k2) k3) k4
 have hlv := CelW.lt CV.out
 have HS : Hid (SB w0 W1 W1.heap.size fb vb [(tb, [.int .i64 k1t, .int .i64 r1t, .int .i64 x1t, .int .i64 y1t, .int .i64 z1t, .slice o1t L1t.length c1t, .int .i64 k2t, .int .i64 r2t, .int .i64 x2t, .int .i64 y2t, .int .i64 z2t, .slice o2t L2t.length c2t, .int .i64 p0t, .int .i64 p1t, .int .i64 p2t, .int .i64 p3t, .int .i64 p4t, .int .i64 p5t, .int .i64 p6t, .int .i64 q0t, .int .i64 q1t, .int .i64 q2t, .int .i64 q3t, .int .i64 q4t, .int .i64 q5t, .int .i64 q6t, .int .i64 nrt, .int .i64 wxt, .int .i64 wyt, .int .i64 wzt]), (ub, [.int .i64 k1u, .int .i64 r1u, .int .i64 x1u, .int .i64 y1u, .int .i64 z1u, .slice o1u L1u.length c1u, .int .i64 k2u, .int .i64 r2u, .int .i64 x2u, .int .i64 y2u, .int .i64 z2u, .slice o2u L2u.length c2u, .int .i64 p0u, .int .i64 p1u, .int .i64 p2u, .int .i64 p3u, .int .i64 p4u, .int .i64 p5u, .int .i64 p6u, .int .i64 q0u, .int .i64 q1u, .int .i64 q2u, .int .i64 q3u, .int .i64 q4u, .int .i64 q5u, .int .i64 q6u, .int .i64 nru, .int .i64 wxu, .int .i64 wyu, .int .i64 wzu])] []) := ⟨hB1, Nat.le_refl _, (by have := CelW.lt CF.out; omega), fun p hp => (by rcases List.mem_cons.1 hp with rfl | hp; exact m1; rw [List.mem_singleton.1 hp]; exact m2), fun p hp => (by rcases List.mem_cons.1 hp with rfl | hp; (show tb ≠ fb /\ tb ≠ vb; omega); rw [List.mem_singleton.1 hp]; (show ub ≠ fb /\ ub ≠ vb; omega)), (fun p hp => by cases hp), (fun p hp => by cases hp)⟩
 have HLT : Hid (w0.heap.size <= fb /\ w0.heap.size <= vb /\ fb ≠ vb /\ tb < fb /\ ub < fb) := by show _ /\ _; omega
 clear n1 n2 n3 n4 m1 m2 hB1 hlv k1 k2 k3 k4
 go_enter Tryz.func7, Tryz.ntmps7
 go_upto_region 1 with fail
 rw [<- hA1, <- hA2, <- hA3, <- hW1, <- hvb, <- hfb, <- hub, <- htb]
 clear hW1 hA1 hA2 hA3 z1 z2 z3 htb hub hfb hvb
 go_wp2_with (fail)
 refine Calls.mono (AW.out _) ?_
 rintro e V1 ⟨rfl, hb⟩
 have HS : Hid _ := HS.out.step hb
 have CF : Hid (CelW _ _ _) := CF.out.step hb
 have CV : Hid (CelW _ _ _) := CV.out.step hb
 clear hb AW
 have HRG : Hid (World.rangeAt V1 tb 0 [.int .i64 k1t, .int .i64 r1t, .int .i64 x1t, .int .i64 y1t, .int .i64 z1t, .slice o1t L1t.length c1t, .int .i64 k2t, .int .i64 r2t, .int .i64 x2t, .int .i64 y2t, .int .i64 z2t, .slice o2t L2t.length c2t, .int .i64 p0t, .int .i64 p1t, .int .i64 p2t, .int .i64 p3t, .int .i64 p4t, .int .i64 p5t, .int .i64 p6t, .int .i64 q0t, .int .i64 q1t, .int .i64 q2t, .int .i64 q3t, .int .i64 q4t, .int .i64 q5t, .int .i64 q6t, .int .i64 nrt, .int .i64 wxt, .int .i64 wyt, .int .i64 wzt]) := fun j v e => by rw [Nat.zero_add]; exact (HS.out.bx _ ms) j v e
 go_wp2_with (refine wpList_load_mid rfl 33 _ rfl tb 0 rfl _ _ HRG.out Tryz.underlying33 rfl (by kernel_rfl) ?_)
 refine Calls.mono (HC1.out _ HS.out.below) ?_
 rintro e V2 ⟨a, b, av1, av2, av3, bv1, bv2, bv3, rfl, HLI, hNa, hNb, hRa, hRb, HFR⟩
 obtain ⟨hl1, hl2, hl3, hl4, hl5, hl6, hb⟩ := HLI.out
 obtain ⟨ao1, ac1, rfl, _⟩ := hl1.form
 obtain ⟨ao2, ac2, rfl, _⟩ := hl2.form
 obtain ⟨ao3, ac3, rfl, _⟩ := hl3.form
 obtain ⟨bo1, bc1, rfl, _⟩ := hl4.form
 obtain ⟨bo2, bc2, rfl, _⟩ := hl5.form
 obtain ⟨bo3, bc3, rfl, _⟩ := hl6.form
 obtain ⟨hf1, hf2, hf3, hf4, hf5, hf6⟩ := HFR.out
 have hn9 := HS.out.hn
 have HS : Hid _ := (((((((HS.out.step hb).lay hl6 (hf6.le hn9)).lay hl5 (hf5.le hn9)).lay hl4 (hf4.le hn9)).lay hl3 (hf3.le hn9)).lay hl2 (hf2.le hn9)).lay hl1 (hf1.le hn9))
 have CF : Hid (CelW _ _ _) := CF.out.step hb
 have CV : Hid (CelW _ _ _) := CV.out.step hb
 clear HLI hl1 hl2 hl3 hl4 hl5 hl6 hb HC1 HRG HFR hf1 hf2 hf3 hf4 hf5 hf6 hn9
 obtain ⟨V2x, hX⟩ : ∃ V, V = (V2.alloc (.cells #[.slice ao1 a.P.length ac1, .slice ao2 a.A.length ac2, .slice ao3 a.E.length ac3, .int .i64 a.r] 35)).alloc (.cells #[.slice bo1 b.P.length bc1, .slice bo2 b.A.length bc2, .slice bo3 b.E.length bc3, .int .i64 b.r] 35) := ⟨_, rfl⟩
 obtain ⟨ab, hab⟩ : ∃ b, b = V2.heap.size := ⟨_, rfl⟩
 obtain ⟨bb, hbb⟩ : ∃ b, b = V2.heap.size + 1 := ⟨_, rfl⟩
 have hbx : Below V2.heap.size V2 V2x := by rw [hX]; exact b_step (n_after _ _) (n_after _ _)
 have n2 := Cel.new (V2.alloc (.cells #[.slice ao1 a.P.length ac1, .slice ao2 a.A.length ac2, .slice ao3 a.E.length ac3, .int .i64 a.r] 35)) [.slice bo1 b.P.length bc1, .slice bo2 b.A.length bc2, .slice bo3 b.E.length bc3, .int .i64 b.r] 35
 rw [World.size_alloc] at n2
 have m1 : Cel V2x ab [.slice ao1 a.P.length ac1, .slice ao2 a.A.length ac2, .slice ao3 a.E.length ac3, .int .i64 a.r] := by rw [hX, hab]; exact (Cel.new _ [.slice ao1 a.P.length ac1, .slice ao2 a.A.length ac2, .slice ao3 a.E.length ac3, .int .i64 a.r] _).step (n_after _ _)
 have m2 : Cel V2x bb [.slice bo1 b.P.length bc1, .slice bo2 b.A.length bc2, .slice bo3 b.E.length bc3, .int .i64 b.r] := by rw [hX, hbb]; exact n2
 have hn9 := HS.out.hn
 have HS : Hid _ := ((HS.out.step hbx).add m2 (by omega)).add m1 (by omega)
 have CF : Hid (CelW _ _ _) := CF.out.step hbx
 have CV : Hid (CelW _ _ _) := CV.out.step hbx
 clear n2 m1 m2 hn9
 go_upto_region 3 with fail
 rw [<- hX, <- hbb, <- hab]
 clear hX hab hbb hbx
 have HRG : Hid (World.rangeAt V2x ub 0 [.int .i64 k1u, .int .i64 r1u, .int .i64 x1u, .int .i64 y1u, .int .i64 z1u, .slice o1u L1u.length c1u, .int .i64 k2u, .int .i64 r2u, .int .i64 x2u, .int .i64 y2u, .int .i64 z2u, .slice o2u L2u.length c2u, .int .i64 p0u, .int .i64 p1u, .int .i64 p2u, .int .i64 p3u, .int .i64 p4u, .int .i64 p5u, .int .i64 p6u, .int .i64 q0u, .int .i64 q1u, .int .i64 q2u, .int .i64 q3u, .int .i64 q4u, .int .i64 q5u, .int .i64 q6u, .int .i64 nru, .int .i64 wxu, .int .i64 wyu, .int .i64 wzu]) := fun j v e => by rw [Nat.zero_add]; exact (HS.out.bx _ (mc (mc (mc (ms))))) j v e
 go_wp2_with (refine wpList_load_mid rfl 33 _ rfl ub 0 rfl _ _ HRG.out Tryz.underlying33 rfl (by kernel_rfl) ?_)
 refine Calls.mono (HC2.out _ HS.out.below) ?_
 rintro e V3 ⟨c, d, cv1, cv2, cv3, dv1, dv2, dv3, rfl, HLI, hNc, hNd, hRc, hRd, HFR⟩
 obtain ⟨hl1, hl2, hl3, hl4, hl5, hl6, hb⟩ := HLI.out
 obtain ⟨co1, cc1, rfl, _⟩ := hl1.form
 obtain ⟨co2, cc2, rfl, _⟩ := hl2.form
 obtain ⟨co3, cc3, rfl, _⟩ := hl3.form
 obtain ⟨do1, dc1, rfl, _⟩ := hl4.form
 obtain ⟨do2, dc2, rfl, _⟩ := hl5.form
 obtain ⟨do3, dc3, rfl, _⟩ := hl6.form
 obtain ⟨hf1, hf2, hf3, hf4, hf5, hf6⟩ := HFR.out
 have hn9 := HS.out.hn
 have HS : Hid _ := (((((((HS.out.step hb).lay hl6 (hf6.le hn9)).lay hl5 (hf5.le hn9)).lay hl4 (hf4.le hn9)).lay hl3 (hf3.le hn9)).lay hl2 (hf2.le hn9)).lay hl1 (hf1.le hn9))
 have CF : Hid (CelW _ _ _) := CF.out.step hb
 have CV : Hid (CelW _ _ _) := CV.out.step hb
 clear HLI hl1 hl2 hl3 hl4 hl5 hl6 hb HC2 HRG HFR hf1 hf2 hf3 hf4 hf5 hf6 hn9
 obtain ⟨V3x, hX⟩ : ∃ V, V = (V3.alloc (.cells #[.slice co1 c.P.length cc1, .slice co2 c.A.length cc2, .slice co3 c.E.length cc3, .int .i64 c.r] 35)).alloc (.cells #[.slice do1 d.P.length dc1, .slice do2 d.A.length dc2, .slice do3 d.E.length dc3, .int .i64 d.r] 35) := ⟨_, rfl⟩
 obtain ⟨cb, hcb⟩ : ∃ b, b = V3.heap.size := ⟨_, rfl⟩
 obtain ⟨db, hdb⟩ : ∃ b, b = V3.heap.size + 1 := ⟨_, rfl⟩
 have hbx : Below V3.heap.size V3 V3x := by rw [hX]; exact b_step (n_after _ _) (n_after _ _)
 have n2 := Cel.new (V3.alloc (.cells #[.slice co1 c.P.length cc1, .slice co2 c.A.length cc2, .slice co3 c.E.length cc3, .int .i64 c.r] 35)) [.slice do1 d.P.length dc1, .slice do2 d.A.length dc2, .slice do3 d.E.length dc3, .int .i64 d.r] 35
 rw [World.size_alloc] at n2
 have m1 : Cel V3x cb [.slice co1 c.P.length cc1, .slice co2 c.A.length cc2, .slice co3 c.E.length cc3, .int .i64 c.r] := by rw [hX, hcb]; exact (Cel.new _ [.slice co1 c.P.length cc1, .slice co2 c.A.length cc2, .slice co3 c.E.length cc3, .int .i64 c.r] _).step (n_after _ _)
 have m2 : Cel V3x db [.slice do1 d.P.length dc1, .slice do2 d.A.length dc2, .slice do3 d.E.length dc3, .int .i64 d.r] := by rw [hX, hdb]; exact n2
 have hn9 := HS.out.hn
 have HS : Hid _ := ((HS.out.step hbx).add m2 (by omega)).add m1 (by omega)
 have CF : Hid (CelW _ _ _) := CF.out.step hbx
 have CV : Hid (CelW _ _ _) := CV.out.step hbx
 clear n2 m1 m2 hn9
 go_upto_region 4 with fail
 rw [<- hX, <- hdb, <- hcb]
 clear hX hcb hdb hbx
 have HCb : Hid (Cel V3x cb [.slice co1 c.P.length cc1, .slice co2 c.A.length cc2, .slice co3 c.E.length cc3, .int .i64 c.r]) := HS.out.bx _ ms
 have HAb : Hid (Cel V3x ab [.slice ao1 a.P.length ac1, .slice ao2 a.A.length ac2, .slice ao3 a.E.length ac3, .int .i64 a.r]) := HS.out.bx _ (mc (mc (ms)))
 have HBb : Hid (Cel V3x bb [.slice bo1 b.P.length bc1, .slice bo2 b.A.length bc2, .slice bo3 b.E.length bc3, .int .i64 b.r]) := HS.out.bx _ (mc (mc (mc (ms))))
 have xa2 := HAb.out 2 _ rfl
 have xb2 := HBb.out 2 _ rfl
 have xc2 := HCb.out 2 _ rfl
 by_cases ha16 : (16 : Int) < (a.E.length : Int)
 ·go_wp2_with (fail)
  go_ret
  exact ⟨rfl, HS.out.below⟩
 by_cases hb16 : (16 : Int) < (b.E.length : Int)
 ·go_wp2_with (fail)
  go_ret
  exact ⟨rfl, HS.out.below⟩
 by_cases hc16 : (16 : Int) < (c.E.length : Int)
 ·go_wp2_with (fail)
  go_ret
  exact ⟨rfl, HS.out.below⟩
 obtain ⟨fa1, fa2, _, _⟩ := may_facts hNa.1
 have hla := HS.out.lz (.slice ao1 a.P.length ac1, a.P) (mc (mc (mc (mc (mc (mc (ms)))))))
 obtain ⟨o', cap', e', _, _, hcl⟩ := hla.form
 cases e'
 obtain ⟨ge, fe, rfl, y0, y1, y2⟩ := hcl 0 fa1
 have hin := fa2 _ (pt_mem fa1)
 obtain ⟨⟨ox, oy, oz⟩, hpe⟩ : ∃ x, pt a.P 0 = x := ⟨_, rfl⟩
 rw [hpe] at y0 y1 y2 hin
 rw [Pt.inB_iff] at hin
 dsimp only at y0 y1 y2 hin
 have hpl : (0 : Int) < (a.P.length : Int) := by omega
 have xa0 := HAb.out 0 _ rfl
 obtain ⟨X, hX⟩ : ∃ V, V = V3x.alloc (.cells #[.int .i64 ox, .int .i64 oy, .int .i64 oz] 23) := ⟨_, rfl⟩
 obtain ⟨ob, hob⟩ : ∃ b, b = V3x.heap.size := ⟨_, rfl⟩
 have hbx : Below V3x.heap.size V3x X := by rw [hX]; exact n_after _ _
 have mo : Cel X ob [.int .i64 ox, .int .i64 oy, .int .i64 oz] := by rw [hX, hob]; exact Cel.new _ [.int .i64 ox, .int .i64 oy, .int .i64 oz] _
 have HOB : Hid (fb < ob /\ vb < ob) := by have h1 := CelW.lt CF.out; have h2 := CelW.lt CV.out; show _ /\ _; omega
 have hn9 := HS.out.hn
 have HS : Hid _ := (HS.out.step hbx).add mo (by omega)
 have CF : Hid (CelW _ _ _) := CF.out.step hbx
 have CV : Hid (CelW _ _ _) := CV.out.step hbx
 clear mo hcl hla hpe hn9
 simp only [Nat.zero_mul, Nat.add_zero] at y0 y1 y2
 go_upto_region 7 with fail
 rw [<- hX, <- hob]
 clear hX hob hbx y0 y1 y2 xa0 xa2 xb2 xc2 HAb HBb HCb
 obtain ⟨tx, htx⟩ : ∃ x, ox + gx = x := ⟨_, rfl⟩
 obtain ⟨sx, hsx⟩ : ∃ x, tx - 32768 = x := ⟨_, rfl⟩
 have w_tx : IntKind.i64.wrap (ox + gx) = tx := by rw [htx, IntKind.wrap_i64]; omega
 have w_sx : IntKind.i64.wrap (tx - 32768) = sx := by rw [hsx, IntKind.wrap_i64]; omega
 obtain ⟨ux, hux⟩ : ∃ x, ex - 65536 = x := ⟨_, rfl⟩
 have w_ux : IntKind.i64.wrap (ex - 65536) = ux := by rw [hux, IntKind.wrap_i64]; omega
 obtain ⟨ty, hty⟩ : ∃ x, oy + gy = x := ⟨_, rfl⟩
 obtain ⟨sy, hsy⟩ : ∃ x, ty - 32768 = x := ⟨_, rfl⟩
 have w_ty : IntKind.i64.wrap (oy + gy) = ty := by rw [hty, IntKind.wrap_i64]; omega
 have w_sy : IntKind.i64.wrap (ty - 32768) = sy := by rw [hsy, IntKind.wrap_i64]; omega
 obtain ⟨uy, huy⟩ : ∃ x, ey - 65536 = x := ⟨_, rfl⟩
 have w_uy : IntKind.i64.wrap (ey - 65536) = uy := by rw [huy, IntKind.wrap_i64]; omega
 obtain ⟨tz, htz⟩ : ∃ x, oz + gz = x := ⟨_, rfl⟩
 obtain ⟨sz, hsz⟩ : ∃ x, tz - 32768 = x := ⟨_, rfl⟩
 have w_tz : IntKind.i64.wrap (oz + gz) = tz := by rw [htz, IntKind.wrap_i64]; omega
 have w_sz : IntKind.i64.wrap (tz - 32768) = sz := by rw [hsz, IntKind.wrap_i64]; omega
 obtain ⟨uz, huz⟩ : ∃ x, ez - 65536 = x := ⟨_, rfl⟩
 have w_uz : IntKind.i64.wrap (ez - 65536) = uz := by rw [huz, IntKind.wrap_i64]; omega
 clear htx hsx hux lgx mgx lex mex hty hsy huy lgy mgy ley mey htz hsz huz lgz mgz lez mez hin hpl fa1 fa2
 have HOx : Hid (Cel X ob [.int .i64 ox, .int .i64 oy, .int .i64 oz]) := HS.out.bx _ ms
 have au0 := HOx.out 0 _ rfl
 have au1 := HOx.out 1 _ rfl
 have au2 := HOx.out 2 _ rfl
 obtain ⟨v0, vf0⟩ := CF.out 0 _ rfl
 obtain ⟨v1, vf1⟩ := CF.out 1 _ rfl
 obtain ⟨v2, vf2⟩ := CF.out 2 _ rfl
 go_cut [6, 7, 9, 10, 11, 12] from 0 to 84 (fun s6 s7 s9 s10 s11 s12 wx => s6 = .pointer (some ⟨fb, 0, none⟩) /\ s7 = .pointer (some ⟨vb, 0, none⟩) /\ s9 = .bool true /\ s10 = .pointer (some ⟨ab, 0, none⟩) /\ s11 = .pointer (some ⟨bb, 0, none⟩) /\ s12 = .pointer (some ⟨cb, 0, none⟩) /\ ∃ w8, wx = set3 w8 fb sx sy sz /\ Hid (Below X.heap.size X w8))
 case first =>
  refine RV.region_by (fun j v w => match j with | 0 => v = .pointer (some ⟨ob, 0, none⟩) | 1 => v = .int .i64 (ox) | 2 => v = .pointer (some ⟨fb, 0, none⟩) | 3 => v = .int .i64 (fx) | 4 => v = .int .i64 (gx) | 5 => v = .int .i64 (tx) | 6 => v = .int .i64 (sx) | 7 => v = .pointer (some ⟨ob, 1, none⟩) | 8 => v = .int .i64 (oy) | 9 => v = .pointer (some ⟨fb, 1, none⟩) | 10 => v = .int .i64 (fy) | 11 => v = .int .i64 (gy) | 12 => v = .int .i64 (ty) | 13 => v = .int .i64 (sy) | 14 => v = .pointer (some ⟨ob, 2, none⟩) | 15 => v = .int .i64 (oz) | 16 => v = .pointer (some ⟨fb, 2, none⟩) | 17 => v = .int .i64 (fz) | 18 => v = .int .i64 (gz) | 19 => v = .int .i64 (tz) | 20 => v = .int .i64 (sz) | 21 => v = .agg #[.int .i64 (sx), .int .i64 (sy), .int .i64 (sz)] | 22 => True | _ => True) (fun γ L w9 => (L 22 = false /\ Below X.heap.size X w9) \/ (L 22 = true /\ ∃ w, Below X.heap.size X w /\ w9 = (((w.setCell ⟨fb, 0, none⟩ (.int .i64 (sx))).setCell ⟨fb, 1, none⟩ (.int .i64 (sy))).setCell ⟨fb, 2, none⟩ (.int .i64 (sz))))) (by kernel_rfl) (by kernel_rfl) (by kernel_rfl) (by kernel_rfl) ?_ ?_ ?_
  ·exact Or.inl ⟨rfl, (Below.refl _ X).drew⟩
  ·generalize hD : dstOf _ = D
   generalize hWA : waitsFor _ = WA
   generalize hZ : Act.mk _ _ = Z
   refine RV.AllDo.name ?_
   intro R hR
   have d0 : D 0 = some 63 := by rw [<- hD]; rfl
   have d1 : D 1 = some 64 := by rw [<- hD]; rfl
   have d2 : D 2 = some 65 := by rw [<- hD]; rfl
   have d3 : D 3 = some 66 := by rw [<- hD]; rfl
   have d4 : D 4 = some 67 := by rw [<- hD]; rfl
   have d5 : D 5 = some 68 := by rw [<- hD]; rfl
   have d6 : D 6 = some 69 := by rw [<- hD]; rfl
   have d7 : D 7 = some 70 := by rw [<- hD]; rfl
   have d8 : D 8 = some 71 := by rw [<- hD]; rfl
   have d9 : D 9 = some 72 := by rw [<- hD]; rfl
   have d10 : D 10 = some 73 := by rw [<- hD]; rfl
   have d11 : D 11 = some 74 := by rw [<- hD]; rfl
   have d12 : D 12 = some 75 := by rw [<- hD]; rfl
   have d13 : D 13 = some 76 := by rw [<- hD]; rfl
   have d14 : D 14 = some 77 := by rw [<- hD]; rfl
   have d15 : D 15 = some 78 := by rw [<- hD]; rfl
   have d16 : D 16 = some 79 := by rw [<- hD]; rfl
   have d17 : D 17 = some 80 := by rw [<- hD]; rfl
   have d18 : D 18 = some 81 := by rw [<- hD]; rfl
   have d19 : D 19 = some 82 := by rw [<- hD]; rfl
   have d20 : D 20 = some 83 := by rw [<- hD]; rfl
   have d21 : D 21 = some 84 := by rw [<- hD]; rfl
   have r0 : ∀ v w, R 0 v w = (v = .pointer (some ⟨ob, 0, none⟩)) := fun v w => by rw [hR]; rfl
   have r1 : ∀ v w, R 1 v w = (v = .int .i64 (ox)) := fun v w => by rw [hR]; rfl
   have r2 : ∀ v w, R 2 v w = (v = .pointer (some ⟨fb, 0, none⟩)) := fun v w => by rw [hR]; rfl
   have r3 : ∀ v w, R 3 v w = (v = .int .i64 (fx)) := fun v w => by rw [hR]; rfl
   have r4 : ∀ v w, R 4 v w = (v = .int .i64 (gx)) := fun v w => by rw [hR]; rfl
   have r5 : ∀ v w, R 5 v w = (v = .int .i64 (tx)) := fun v w => by rw [hR]; rfl
   have r6 : ∀ v w, R 6 v w = (v = .int .i64 (sx)) := fun v w => by rw [hR]; rfl
   have r7 : ∀ v w, R 7 v w = (v = .pointer (some ⟨ob, 1, none⟩)) := fun v w => by rw [hR]; rfl
   have r8 : ∀ v w, R 8 v w = (v = .int .i64 (oy)) := fun v w => by rw [hR]; rfl
   have r9 : ∀ v w, R 9 v w = (v = .pointer (some ⟨fb, 1, none⟩)) := fun v w => by rw [hR]; rfl
   have r10 : ∀ v w, R 10 v w = (v = .int .i64 (fy)) := fun v w => by rw [hR]; rfl
   have r11 : ∀ v w, R 11 v w = (v = .int .i64 (gy)) := fun v w => by rw [hR]; rfl
   have r12 : ∀ v w, R 12 v w = (v = .int .i64 (ty)) := fun v w => by rw [hR]; rfl
   have r13 : ∀ v w, R 13 v w = (v = .int .i64 (sy)) := fun v w => by rw [hR]; rfl
   have r14 : ∀ v w, R 14 v w = (v = .pointer (some ⟨ob, 2, none⟩)) := fun v w => by rw [hR]; rfl
   have r15 : ∀ v w, R 15 v w = (v = .int .i64 (oz)) := fun v w => by rw [hR]; rfl
   have r16 : ∀ v w, R 16 v w = (v = .pointer (some ⟨fb, 2, none⟩)) := fun v w => by rw [hR]; rfl
   have r17 : ∀ v w, R 17 v w = (v = .int .i64 (fz)) := fun v w => by rw [hR]; rfl
   have r18 : ∀ v w, R 18 v w = (v = .int .i64 (gz)) := fun v w => by rw [hR]; rfl
   have r19 : ∀ v w, R 19 v w = (v = .int .i64 (tz)) := fun v w => by rw [hR]; rfl
   have r20 : ∀ v w, R 20 v w = (v = .int .i64 (sz)) := fun v w => by rw [hR]; rfl
   have r21 : ∀ v w, R 21 v w = (v = .agg #[.int .i64 (sx), .int .i64 (sy), .int .i64 (sz)]) := fun v w => by rw [hR]; rfl
   have r22 : ∀ v w, R 22 v w = (True) := fun v w => by rw [hR]; rfl
   have F6_ : ∀ j, D j ≠ some 6 := by rw [<- hD]; exact RV.dst_free (by kernel_rfl)
   have Z6_ : Z.tmps[6]? = some (.pointer (some ⟨fb, 0, none⟩)) := by rw [<- hZ]; rfl
   have F14_ : ∀ j, D j ≠ some 14 := by rw [<- hD]; exact RV.dst_free (by kernel_rfl)
   have Z14_ : Z.tmps[14]? = some (.pointer (some ⟨ob, 0, none⟩)) := by rw [<- hZ]; rfl
   have K : ∀ j v w w', R j v w -> R j v w' := by rw [hR]; intro j v w w' h; exact h
   have A_22_1 : WA 22 1 := by rw [<- hWA]; exact ⟨_, rfl, ⟨1, .phase⟩, by simp, rfl, rfl⟩
   have A_22_3 : WA 22 3 := by rw [<- hWA]; exact ⟨_, rfl, ⟨3, .phase⟩, by simp, rfl, rfl⟩
   have A_22_4 : WA 22 4 := by rw [<- hWA]; exact ⟨_, rfl, ⟨4, .phase⟩, by simp, rfl, rfl⟩
   have A_22_8 : WA 22 8 := by rw [<- hWA]; exact ⟨_, rfl, ⟨8, .phase⟩, by simp, rfl, rfl⟩
   have A_22_10 : WA 22 10 := by rw [<- hWA]; exact ⟨_, rfl, ⟨10, .phase⟩, by simp, rfl, rfl⟩
   have A_22_11 : WA 22 11 := by rw [<- hWA]; exact ⟨_, rfl, ⟨11, .phase⟩, by simp, rfl, rfl⟩
   have A_22_15 : WA 22 15 := by rw [<- hWA]; exact ⟨_, rfl, ⟨15, .phase⟩, by simp, rfl, rfl⟩
   have A_22_17 : WA 22 17 := by rw [<- hWA]; exact ⟨_, rfl, ⟨17, .phase⟩, by simp, rfl, rfl⟩
   have A_22_18 : WA 22 18 := by rw [<- hWA]; exact ⟨_, rfl, ⟨18, .phase⟩, by simp, rfl, rfl⟩
   clear hD hWA hZ hR
   refine RV.cc 0 (RV.dp (fun γ v L w hl h => by rw [RV.mn (L := L) (i := 0) (j := 22) (by decide)]; exact h) (fun γ L a w hH hl hA => by have e0 := ((hH.rest 14 F14_).trans Z14_); exact ⟨.pointer (some ⟨ob, 0, none⟩), by simp [execOp, go_sem, e0], (r0 _ _).mpr rfl⟩)) ?_
   refine RV.cc 1 (RV.dp (fun γ v L w hl h => by rw [RV.mn (L := L) (i := 1) (j := 22) (by decide)]; exact h) (fun γ L a w hH hl hA => by have e0 := hH.got d0 r0 (hA ⟨0, .data⟩ (by simp) rfl); have hB9 := early9 hH.glob (RV.ny hH A_22_1 hl); have z0 := c_after hB9 au0; exact ⟨.int .i64 (ox), by simp [execOp, go_sem, e0, z0], (r1 _ _).mpr rfl⟩)) ?_
   refine RV.cc 2 (RV.dp (fun γ v L w hl h => by rw [RV.mn (L := L) (i := 2) (j := 22) (by decide)]; exact h) (fun γ L a w hH hl hA => by have e0 := ((hH.rest 6 F6_).trans Z6_); exact ⟨.pointer (some ⟨fb, 0, none⟩), by simp [execOp, go_sem, e0], (r2 _ _).mpr rfl⟩)) ?_
   refine RV.cc 3 (RV.dp (fun γ v L w hl h => by rw [RV.mn (L := L) (i := 3) (j := 22) (by decide)]; exact h) (fun γ L a w hH hl hA => by have e0 := hH.got d2 r2 (hA ⟨2, .data⟩ (by simp) rfl); have hB9 := early9 hH.glob (RV.ny hH A_22_3 hl); have z0 := c_after hB9 v0; exact ⟨.int .i64 (fx), by simp [execOp, go_sem, e0, z0], (r3 _ _).mpr rfl⟩)) ?_
   refine RV.cc 4 (RV.dc (fun γ L a w hH hl hA => by have e0 := hH.got d3 r3 (hA ⟨3, .data⟩ (by simp) rfl); have hB9 := early9 hH.glob (RV.ny hH A_22_4 hl); exact ⟨12, #[.int .i64 (fx), .int .i64 (65536)], by simp [go_sem, e0], Calls.mono (HWx.out w) (by rintro e w2 ⟨rfl, hb⟩; exact ⟨_, rfl, (r4 _ _).mpr rfl, fun j v _ h => K j v _ _ h, Or.inl ⟨by rw [RV.mn (L := L) (i := 4) (j := 22) (by decide)]; exact RV.ny hH A_22_4 hl, hB9.trans (hb.mono hB9.size)⟩⟩)⟩)) ?_
   refine RV.cc 5 (RV.dp (fun γ v L w hl h => by rw [RV.mn (L := L) (i := 5) (j := 22) (by decide)]; exact h) (fun γ L a w hH hl hA => by have e0 := hH.got d1 r1 (hA ⟨1, .data⟩ (by simp) rfl); have e1 := hH.got d4 r4 (hA ⟨4, .data⟩ (by simp) rfl); exact ⟨.int .i64 (tx), by simp [execOp, go_sem, e0, e1, w_tx], (r5 _ _).mpr rfl⟩)) ?_
   refine RV.cc 6 (RV.dp (fun γ v L w hl h => by rw [RV.mn (L := L) (i := 6) (j := 22) (by decide)]; exact h) (fun γ L a w hH hl hA => by have e0 := hH.got d5 r5 (hA ⟨5, .data⟩ (by simp) rfl); exact ⟨.int .i64 (sx), by simp [execOp, go_sem, e0, w_sx], (r6 _ _).mpr rfl⟩)) ?_
   refine RV.cc 7 (RV.dp (fun γ v L w hl h => by rw [RV.mn (L := L) (i := 7) (j := 22) (by decide)]; exact h) (fun γ L a w hH hl hA => by have e0 := ((hH.rest 14 F14_).trans Z14_); exact ⟨.pointer (some ⟨ob, 1, none⟩), by simp [execOp, go_sem, e0], (r7 _ _).mpr rfl⟩)) ?_
   refine RV.cc 8 (RV.dp (fun γ v L w hl h => by rw [RV.mn (L := L) (i := 8) (j := 22) (by decide)]; exact h) (fun γ L a w hH hl hA => by have e0 := hH.got d7 r7 (hA ⟨7, .data⟩ (by simp) rfl); have hB9 := early9 hH.glob (RV.ny hH A_22_8 hl); have z0 := c_after hB9 au1; exact ⟨.int .i64 (oy), by simp [execOp, go_sem, e0, z0], (r8 _ _).mpr rfl⟩)) ?_
   refine RV.cc 9 (RV.dp (fun γ v L w hl h => by rw [RV.mn (L := L) (i := 9) (j := 22) (by decide)]; exact h) (fun γ L a w hH hl hA => by have e0 := ((hH.rest 6 F6_).trans Z6_); exact ⟨.pointer (some ⟨fb, 1, none⟩), by simp [execOp, go_sem, e0], (r9 _ _).mpr rfl⟩)) ?_
   refine RV.cc 10 (RV.dp (fun γ v L w hl h => by rw [RV.mn (L := L) (i := 10) (j := 22) (by decide)]; exact h) (fun γ L a w hH hl hA => by have e0 := hH.got d9 r9 (hA ⟨9, .data⟩ (by simp) rfl); have hB9 := early9 hH.glob (RV.ny hH A_22_10 hl); have z0 := c_after hB9 v1; exact ⟨.int .i64 (fy), by simp [execOp, go_sem, e0, z0], (r10 _ _).mpr rfl⟩)) ?_
   refine RV.cc 11 (RV.dc (fun γ L a w hH hl hA => by have e0 := hH.got d10 r10 (hA ⟨10, .data⟩ (by simp) rfl); have hB9 := early9 hH.glob (RV.ny hH A_22_11 hl); exact ⟨12, #[.int .i64 (fy), .int .i64 (65536)], by simp [go_sem, e0], Calls.mono (HWy.out w) (by rintro e w2 ⟨rfl, hb⟩; exact ⟨_, rfl, (r11 _ _).mpr rfl, fun j v _ h => K j v _ _ h, Or.inl ⟨by rw [RV.mn (L := L) (i := 11) (j := 22) (by decide)]; exact RV.ny hH A_22_11 hl, hB9.trans (hb.mono hB9.size)⟩⟩)⟩)) ?_
   refine RV.cc 12 (RV.dp (fun γ v L w hl h => by rw [RV.mn (L := L) (i := 12) (j := 22) (by decide)]; exact h) (fun γ L a w hH hl hA => by have e0 := hH.got d8 r8 (hA ⟨8, .data⟩ (by simp) rfl); have e1 := hH.got d11 r11 (hA ⟨11, .data⟩ (by simp) rfl); exact ⟨.int .i64 (ty), by simp [execOp, go_sem, e0, e1, w_ty], (r12 _ _).mpr rfl⟩)) ?_
   refine RV.cc 13 (RV.dp (fun γ v L w hl h => by rw [RV.mn (L := L) (i := 13) (j := 22) (by decide)]; exact h) (fun γ L a w hH hl hA => by have e0 := hH.got d12 r12 (hA ⟨12, .data⟩ (by simp) rfl); exact ⟨.int .i64 (sy), by simp [execOp, go_sem, e0, w_sy], (r13 _ _).mpr rfl⟩)) ?_
   refine RV.cc 14 (RV.dp (fun γ v L w hl h => by rw [RV.mn (L := L) (i := 14) (j := 22) (by decide)]; exact h) (fun γ L a w hH hl hA => by have e0 := ((hH.rest 14 F14_).trans Z14_); exact ⟨.pointer (some ⟨ob, 2, none⟩), by simp [execOp, go_sem, e0], (r14 _ _).mpr rfl⟩)) ?_
   refine RV.cc 15 (RV.dp (fun γ v L w hl h => by rw [RV.mn (L := L) (i := 15) (j := 22) (by decide)]; exact h) (fun γ L a w hH hl hA => by have e0 := hH.got d14 r14 (hA ⟨14, .data⟩ (by simp) rfl); have hB9 := early9 hH.glob (RV.ny hH A_22_15 hl); have z0 := c_after hB9 au2; exact ⟨.int .i64 (oz), by simp [execOp, go_sem, e0, z0], (r15 _ _).mpr rfl⟩)) ?_
   refine RV.cc 16 (RV.dp (fun γ v L w hl h => by rw [RV.mn (L := L) (i := 16) (j := 22) (by decide)]; exact h) (fun γ L a w hH hl hA => by have e0 := ((hH.rest 6 F6_).trans Z6_); exact ⟨.pointer (some ⟨fb, 2, none⟩), by simp [execOp, go_sem, e0], (r16 _ _).mpr rfl⟩)) ?_
   refine RV.cc 17 (RV.dp (fun γ v L w hl h => by rw [RV.mn (L := L) (i := 17) (j := 22) (by decide)]; exact h) (fun γ L a w hH hl hA => by have e0 := hH.got d16 r16 (hA ⟨16, .data⟩ (by simp) rfl); have hB9 := early9 hH.glob (RV.ny hH A_22_17 hl); have z0 := c_after hB9 v2; exact ⟨.int .i64 (fz), by simp [execOp, go_sem, e0, z0], (r17 _ _).mpr rfl⟩)) ?_
   refine RV.cc 18 (RV.dc (fun γ L a w hH hl hA => by have e0 := hH.got d17 r17 (hA ⟨17, .data⟩ (by simp) rfl); have hB9 := early9 hH.glob (RV.ny hH A_22_18 hl); exact ⟨12, #[.int .i64 (fz), .int .i64 (65536)], by simp [go_sem, e0], Calls.mono (HWz.out w) (by rintro e w2 ⟨rfl, hb⟩; exact ⟨_, rfl, (r18 _ _).mpr rfl, fun j v _ h => K j v _ _ h, Or.inl ⟨by rw [RV.mn (L := L) (i := 18) (j := 22) (by decide)]; exact RV.ny hH A_22_18 hl, hB9.trans (hb.mono hB9.size)⟩⟩)⟩)) ?_
   refine RV.cc 19 (RV.dp (fun γ v L w hl h => by rw [RV.mn (L := L) (i := 19) (j := 22) (by decide)]; exact h) (fun γ L a w hH hl hA => by have e0 := hH.got d15 r15 (hA ⟨15, .data⟩ (by simp) rfl); have e1 := hH.got d18 r18 (hA ⟨18, .data⟩ (by simp) rfl); exact ⟨.int .i64 (tz), by simp [execOp, go_sem, e0, e1, w_tz], (r19 _ _).mpr rfl⟩)) ?_
   refine RV.cc 20 (RV.dp (fun γ v L w hl h => by rw [RV.mn (L := L) (i := 20) (j := 22) (by decide)]; exact h) (fun γ L a w hH hl hA => by have e0 := hH.got d19 r19 (hA ⟨19, .data⟩ (by simp) rfl); exact ⟨.int .i64 (sz), by simp [execOp, go_sem, e0, w_sz], (r20 _ _).mpr rfl⟩)) ?_
   refine RV.cc 21 (RV.dp (fun γ v L w hl h => by rw [RV.mn (L := L) (i := 21) (j := 22) (by decide)]; exact h) (fun γ L a w hH hl hA => by have e0 := hH.got d6 r6 (hA ⟨6, .data⟩ (by simp) rfl); have e1 := hH.got d13 r13 (hA ⟨13, .data⟩ (by simp) rfl); have e2 := hH.got d20 r20 (hA ⟨20, .data⟩ (by simp) rfl); exact ⟨.agg #[.int .i64 (sx), .int .i64 (sy), .int .i64 (sz)], by simp [execOp, go_sem, e0, e1, e2], (r21 _ _).mpr rfl⟩)) ?_
   refine RV.cc 22 (RV.does_store (fun γ L a w hH hl hA => by have e0 := ((hH.rest 6 F6_).trans Z6_); have e1 := hH.got d21 r21 (hA ⟨21, .data⟩ (by simp) rfl); have hB9 := early9 hH.glob hl; have z0 := c_after hB9 v0; have zf0 := f_after hB9 v0 vf0; have z1 := c_after hB9 v1; have zf1 := f_after hB9 v1 vf1; have z2 := c_after hB9 v2; have zf2 := f_after hB9 v2 vf2; exact ⟨(((w.setCell ⟨fb, 0, none⟩ (.int .i64 (sx))).setCell ⟨fb, 1, none⟩ (.int .i64 (sy))).setCell ⟨fb, 2, none⟩ (.int .i64 (sz))), by simp [execOp, go_sem, e0, e1, z0, zf0, z1, zf1, z2, zf2], (r22 _ _).mpr trivial, fun j v _ h => K j v _ _ h, Or.inr ⟨RV.more_self, w, hB9, rfl⟩⟩)) ?_
   exact RV.AllDo.nil
  ·intro γ a5 w5 L9 hL hLo hH
   have ha := RV.held_act hH hL (by kernel_rfl) (by kernel_rfl)
   obtain ⟨w8, hb8, rfl⟩ := late9 hH.glob (hL 22 (by decide))
   have y0 : γ 0 = .pointer (some ⟨ob, 0, none⟩) := hH.holds 0 (hL 0 (by decide))
   have y1 : γ 1 = .int .i64 (ox) := hH.holds 1 (hL 1 (by decide))
   have y2 : γ 2 = .pointer (some ⟨fb, 0, none⟩) := hH.holds 2 (hL 2 (by decide))
   have y3 : γ 3 = .int .i64 (fx) := hH.holds 3 (hL 3 (by decide))
   have y4 : γ 4 = .int .i64 (gx) := hH.holds 4 (hL 4 (by decide))
   have y5 : γ 5 = .int .i64 (tx) := hH.holds 5 (hL 5 (by decide))
   have y6 : γ 6 = .int .i64 (sx) := hH.holds 6 (hL 6 (by decide))
   have y7 : γ 7 = .pointer (some ⟨ob, 1, none⟩) := hH.holds 7 (hL 7 (by decide))
   have y8 : γ 8 = .int .i64 (oy) := hH.holds 8 (hL 8 (by decide))
   have y9 : γ 9 = .pointer (some ⟨fb, 1, none⟩) := hH.holds 9 (hL 9 (by decide))
   have y10 : γ 10 = .int .i64 (fy) := hH.holds 10 (hL 10 (by decide))
   have y11 : γ 11 = .int .i64 (gy) := hH.holds 11 (hL 11 (by decide))
   have y12 : γ 12 = .int .i64 (ty) := hH.holds 12 (hL 12 (by decide))
   have y13 : γ 13 = .int .i64 (sy) := hH.holds 13 (hL 13 (by decide))
   have y14 : γ 14 = .pointer (some ⟨ob, 2, none⟩) := hH.holds 14 (hL 14 (by decide))
   have y15 : γ 15 = .int .i64 (oz) := hH.holds 15 (hL 15 (by decide))
   have y16 : γ 16 = .pointer (some ⟨fb, 2, none⟩) := hH.holds 16 (hL 16 (by decide))
   have y17 : γ 17 = .int .i64 (fz) := hH.holds 17 (hL 17 (by decide))
   have y18 : γ 18 = .int .i64 (gz) := hH.holds 18 (hL 18 (by decide))
   have y19 : γ 19 = .int .i64 (tz) := hH.holds 19 (hL 19 (by decide))
   have y20 : γ 20 = .int .i64 (sz) := hH.holds 20 (hL 20 (by decide))
   have y21 : γ 21 = .agg #[.int .i64 (sx), .int .i64 (sy), .int .i64 (sz)] := hH.holds 21 (hL 21 (by decide))
   rw [ha]
   clear ha hH hL hLo
   simp only [RV.putAll, Act.put, List.setIfInBounds_toArray, List.set_cons_zero, List.set_cons_succ, Nat.zero_add, Nat.reduceAdd, y0, y1, y2, y3, y4, y5, y6, y7, y8, y9, y10, y11, y12, y13, y14, y15, y16, y17, y18, y19, y20, y21]
   clear y0 y1 y2 y3 y4 y5 y6 y7 y8 y9 y10 y11 y12 y13 y14 y15 y16 y17 y18 y19 y20 y21
   have HZ : Hid _ := hb8
   go_wp2_with (fail)
   go_meet
   case rel => exact ⟨rfl, rfl, rfl, rfl, rfl, rfl, w8, rfl, HZ⟩
 case rest =>
  obtain ⟨rfl, rfl, rfl, rfl, rfl, rfl, w8, e8, HZ⟩ := hcut
  rw [e8]
  have hne : vb ≠ fb := fun e => HLT.out.2.2.1 e.symm
  obtain ⟨Y, hY⟩ : ∃ V, V = set3 w8 fb sx sy sz := ⟨_, rfl⟩
  have HS : Hid _ := (HS.out.step HZ.out).put (Or.inl rfl) sx sy sz
  have CV2 : Hid (CelW Y vb [.int .i64 vx, .int .i64 vy, .int .i64 vz]) := by show CelW _ _ _; rw [hY]; unfold set3; exact (((CelW.step CV.out HZ.out).other hne _ _).other hne _ _).other hne _ _
  have CF2 : Hid (Cel Y fb [.int .i64 sx, .int .i64 sy, .int .i64 sz]) := by show Cel _ _ _; rw [hY]; unfold set3; exact CelW.cel ((((CelW.step CF.out HZ.out).set 0 (.int .i64 sx) (by simp)).set 1 (.int .i64 sy) (by simp)).set 2 (.int .i64 sz) (by simp))
  rw [<- hY] at HS ⊢
  clear hY HZ e8 CV CF au0 au1 au2 v0 v1 v2 vf0 vf1 vf2 HOx
  obtain ⟨v0, vf0⟩ := CV2.out 0 _ rfl
  obtain ⟨v1, vf1⟩ := CV2.out 1 _ rfl
  obtain ⟨v2, vf2⟩ := CV2.out 2 _ rfl
  go_upto_region 8 with fail
  go_cut [] from 85 to 97 (fun wx => ∃ w8, wx = set3 w8 vb ux uy uz /\ Hid (Below Y.heap.size Y w8))
  case first =>
   refine RV.region_by (fun j v w => match j with | 0 => v = .pointer (some ⟨vb, 0, none⟩) | 1 => v = .int .i64 (vx) | 2 => v = .int .i64 (ex) | 3 => v = .int .i64 (ux) | 4 => v = .pointer (some ⟨vb, 1, none⟩) | 5 => v = .int .i64 (vy) | 6 => v = .int .i64 (ey) | 7 => v = .int .i64 (uy) | 8 => v = .pointer (some ⟨vb, 2, none⟩) | 9 => v = .int .i64 (vz) | 10 => v = .int .i64 (ez) | 11 => v = .int .i64 (uz) | 12 => v = .agg #[.int .i64 (ux), .int .i64 (uy), .int .i64 (uz)] | 13 => True | _ => True) (fun γ L w9 => (L 13 = false /\ Below Y.heap.size Y w9) \/ (L 13 = true /\ ∃ w, Below Y.heap.size Y w /\ w9 = (((w.setCell ⟨vb, 0, none⟩ (.int .i64 (ux))).setCell ⟨vb, 1, none⟩ (.int .i64 (uy))).setCell ⟨vb, 2, none⟩ (.int .i64 (uz))))) (by kernel_rfl) (by kernel_rfl) (by kernel_rfl) (by kernel_rfl) ?_ ?_ ?_
   ·exact Or.inl ⟨rfl, (Below.refl _ Y).drew⟩
   ·generalize hD : dstOf _ = D
    generalize hWA : waitsFor _ = WA
    generalize hZ : Act.mk _ _ = Z
    refine RV.AllDo.name ?_
    intro R hR
    have d0 : D 0 = some 85 := by rw [<- hD]; rfl
    have d1 : D 1 = some 86 := by rw [<- hD]; rfl
    have d2 : D 2 = some 87 := by rw [<- hD]; rfl
    have d3 : D 3 = some 88 := by rw [<- hD]; rfl
    have d4 : D 4 = some 89 := by rw [<- hD]; rfl
    have d5 : D 5 = some 90 := by rw [<- hD]; rfl
    have d6 : D 6 = some 91 := by rw [<- hD]; rfl
    have d7 : D 7 = some 92 := by rw [<- hD]; rfl
    have d8 : D 8 = some 93 := by rw [<- hD]; rfl
    have d9 : D 9 = some 94 := by rw [<- hD]; rfl
    have d10 : D 10 = some 95 := by rw [<- hD]; rfl
    have d11 : D 11 = some 96 := by rw [<- hD]; rfl
    have d12 : D 12 = some 97 := by rw [<- hD]; rfl
    have r0 : ∀ v w, R 0 v w = (v = .pointer (some ⟨vb, 0, none⟩)) := fun v w => by rw [hR]; rfl
    have r1 : ∀ v w, R 1 v w = (v = .int .i64 (vx)) := fun v w => by rw [hR]; rfl
    have r2 : ∀ v w, R 2 v w = (v = .int .i64 (ex)) := fun v w => by rw [hR]; rfl
    have r3 : ∀ v w, R 3 v w = (v = .int .i64 (ux)) := fun v w => by rw [hR]; rfl
    have r4 : ∀ v w, R 4 v w = (v = .pointer (some ⟨vb, 1, none⟩)) := fun v w => by rw [hR]; rfl
    have r5 : ∀ v w, R 5 v w = (v = .int .i64 (vy)) := fun v w => by rw [hR]; rfl
    have r6 : ∀ v w, R 6 v w = (v = .int .i64 (ey)) := fun v w => by rw [hR]; rfl
    have r7 : ∀ v w, R 7 v w = (v = .int .i64 (uy)) := fun v w => by rw [hR]; rfl
    have r8 : ∀ v w, R 8 v w = (v = .pointer (some ⟨vb, 2, none⟩)) := fun v w => by rw [hR]; rfl
    have r9 : ∀ v w, R 9 v w = (v = .int .i64 (vz)) := fun v w => by rw [hR]; rfl
    have r10 : ∀ v w, R 10 v w = (v = .int .i64 (ez)) := fun v w => by rw [hR]; rfl
    have r11 : ∀ v w, R 11 v w = (v = .int .i64 (uz)) := fun v w => by rw [hR]; rfl
    have r12 : ∀ v w, R 12 v w = (v = .agg #[.int .i64 (ux), .int .i64 (uy), .int .i64 (uz)]) := fun v w => by rw [hR]; rfl
    have r13 : ∀ v w, R 13 v w = (True) := fun v w => by rw [hR]; rfl
    have F7_ : ∀ j, D j ≠ some 7 := by rw [<- hD]; exact RV.dst_free (by kernel_rfl)
    have Z7_ : Z.tmps[7]? = some (.pointer (some ⟨vb, 0, none⟩)) := by rw [<- hZ]; rfl
    have K : ∀ j v w w', R j v w -> R j v w' := by rw [hR]; intro j v w w' h; exact h
    have A_13_1 : WA 13 1 := by rw [<- hWA]; exact ⟨_, rfl, ⟨1, .phase⟩, by simp, rfl, rfl⟩
    have A_13_2 : WA 13 2 := by rw [<- hWA]; exact ⟨_, rfl, ⟨2, .phase⟩, by simp, rfl, rfl⟩
    have A_13_5 : WA 13 5 := by rw [<- hWA]; exact ⟨_, rfl, ⟨5, .phase⟩, by simp, rfl, rfl⟩
    have A_13_6 : WA 13 6 := by rw [<- hWA]; exact ⟨_, rfl, ⟨6, .phase⟩, by simp, rfl, rfl⟩
    have A_13_9 : WA 13 9 := by rw [<- hWA]; exact ⟨_, rfl, ⟨9, .phase⟩, by simp, rfl, rfl⟩
    have A_13_10 : WA 13 10 := by rw [<- hWA]; exact ⟨_, rfl, ⟨10, .phase⟩, by simp, rfl, rfl⟩
    clear hD hWA hZ hR
    refine RV.cc 0 (RV.dp (fun γ v L w hl h => by rw [RV.mn (L := L) (i := 0) (j := 13) (by decide)]; exact h) (fun γ L a w hH hl hA => by have e0 := ((hH.rest 7 F7_).trans Z7_); exact ⟨.pointer (some ⟨vb, 0, none⟩), by simp [execOp, go_sem, e0], (r0 _ _).mpr rfl⟩)) ?_
    refine RV.cc 1 (RV.dp (fun γ v L w hl h => by rw [RV.mn (L := L) (i := 1) (j := 13) (by decide)]; exact h) (fun γ L a w hH hl hA => by have e0 := hH.got d0 r0 (hA ⟨0, .data⟩ (by simp) rfl); have hB9 := early9 hH.glob (RV.ny hH A_13_1 hl); have z0 := c_after hB9 v0; exact ⟨.int .i64 (vx), by simp [execOp, go_sem, e0, z0], (r1 _ _).mpr rfl⟩)) ?_
    refine RV.cc 2 (RV.dc (fun γ L a w hH hl hA => by have e0 := hH.got d1 r1 (hA ⟨1, .data⟩ (by simp) rfl); have hB9 := early9 hH.glob (RV.ny hH A_13_2 hl); exact ⟨12, #[.int .i64 (vx), .int .i64 (131072)], by simp [go_sem, e0], Calls.mono (HVx.out w) (by rintro e w2 ⟨rfl, hb⟩; exact ⟨_, rfl, (r2 _ _).mpr rfl, fun j v _ h => K j v _ _ h, Or.inl ⟨by rw [RV.mn (L := L) (i := 2) (j := 13) (by decide)]; exact RV.ny hH A_13_2 hl, hB9.trans (hb.mono hB9.size)⟩⟩)⟩)) ?_
    refine RV.cc 3 (RV.dp (fun γ v L w hl h => by rw [RV.mn (L := L) (i := 3) (j := 13) (by decide)]; exact h) (fun γ L a w hH hl hA => by have e0 := hH.got d2 r2 (hA ⟨2, .data⟩ (by simp) rfl); exact ⟨.int .i64 (ux), by simp [execOp, go_sem, e0, w_ux], (r3 _ _).mpr rfl⟩)) ?_
    refine RV.cc 4 (RV.dp (fun γ v L w hl h => by rw [RV.mn (L := L) (i := 4) (j := 13) (by decide)]; exact h) (fun γ L a w hH hl hA => by have e0 := ((hH.rest 7 F7_).trans Z7_); exact ⟨.pointer (some ⟨vb, 1, none⟩), by simp [execOp, go_sem, e0], (r4 _ _).mpr rfl⟩)) ?_
    refine RV.cc 5 (RV.dp (fun γ v L w hl h => by rw [RV.mn (L := L) (i := 5) (j := 13) (by decide)]; exact h) (fun γ L a w hH hl hA => by have e0 := hH.got d4 r4 (hA ⟨4, .data⟩ (by simp) rfl); have hB9 := early9 hH.glob (RV.ny hH A_13_5 hl); have z0 := c_after hB9 v1; exact ⟨.int .i64 (vy), by simp [execOp, go_sem, e0, z0], (r5 _ _).mpr rfl⟩)) ?_
    refine RV.cc 6 (RV.dc (fun γ L a w hH hl hA => by have e0 := hH.got d5 r5 (hA ⟨5, .data⟩ (by simp) rfl); have hB9 := early9 hH.glob (RV.ny hH A_13_6 hl); exact ⟨12, #[.int .i64 (vy), .int .i64 (131072)], by simp [go_sem, e0], Calls.mono (HVy.out w) (by rintro e w2 ⟨rfl, hb⟩; exact ⟨_, rfl, (r6 _ _).mpr rfl, fun j v _ h => K j v _ _ h, Or.inl ⟨by rw [RV.mn (L := L) (i := 6) (j := 13) (by decide)]; exact RV.ny hH A_13_6 hl, hB9.trans (hb.mono hB9.size)⟩⟩)⟩)) ?_
    refine RV.cc 7 (RV.dp (fun γ v L w hl h => by rw [RV.mn (L := L) (i := 7) (j := 13) (by decide)]; exact h) (fun γ L a w hH hl hA => by have e0 := hH.got d6 r6 (hA ⟨6, .data⟩ (by simp) rfl); exact ⟨.int .i64 (uy), by simp [execOp, go_sem, e0, w_uy], (r7 _ _).mpr rfl⟩)) ?_
    refine RV.cc 8 (RV.dp (fun γ v L w hl h => by rw [RV.mn (L := L) (i := 8) (j := 13) (by decide)]; exact h) (fun γ L a w hH hl hA => by have e0 := ((hH.rest 7 F7_).trans Z7_); exact ⟨.pointer (some ⟨vb, 2, none⟩), by simp [execOp, go_sem, e0], (r8 _ _).mpr rfl⟩)) ?_
    refine RV.cc 9 (RV.dp (fun γ v L w hl h => by rw [RV.mn (L := L) (i := 9) (j := 13) (by decide)]; exact h) (fun γ L a w hH hl hA => by have e0 := hH.got d8 r8 (hA ⟨8, .data⟩ (by simp) rfl); have hB9 := early9 hH.glob (RV.ny hH A_13_9 hl); have z0 := c_after hB9 v2; exact ⟨.int .i64 (vz), by simp [execOp, go_sem, e0, z0], (r9 _ _).mpr rfl⟩)) ?_
    refine RV.cc 10 (RV.dc (fun γ L a w hH hl hA => by have e0 := hH.got d9 r9 (hA ⟨9, .data⟩ (by simp) rfl); have hB9 := early9 hH.glob (RV.ny hH A_13_10 hl); exact ⟨12, #[.int .i64 (vz), .int .i64 (131072)], by simp [go_sem, e0], Calls.mono (HVz.out w) (by rintro e w2 ⟨rfl, hb⟩; exact ⟨_, rfl, (r10 _ _).mpr rfl, fun j v _ h => K j v _ _ h, Or.inl ⟨by rw [RV.mn (L := L) (i := 10) (j := 13) (by decide)]; exact RV.ny hH A_13_10 hl, hB9.trans (hb.mono hB9.size)⟩⟩)⟩)) ?_
    refine RV.cc 11 (RV.dp (fun γ v L w hl h => by rw [RV.mn (L := L) (i := 11) (j := 13) (by decide)]; exact h) (fun γ L a w hH hl hA => by have e0 := hH.got d10 r10 (hA ⟨10, .data⟩ (by simp) rfl); exact ⟨.int .i64 (uz), by simp [execOp, go_sem, e0, w_uz], (r11 _ _).mpr rfl⟩)) ?_
    refine RV.cc 12 (RV.dp (fun γ v L w hl h => by rw [RV.mn (L := L) (i := 12) (j := 13) (by decide)]; exact h) (fun γ L a w hH hl hA => by have e0 := hH.got d3 r3 (hA ⟨3, .data⟩ (by simp) rfl); have e1 := hH.got d7 r7 (hA ⟨7, .data⟩ (by simp) rfl); have e2 := hH.got d11 r11 (hA ⟨11, .data⟩ (by simp) rfl); exact ⟨.agg #[.int .i64 (ux), .int .i64 (uy), .int .i64 (uz)], by simp [execOp, go_sem, e0, e1, e2], (r12 _ _).mpr rfl⟩)) ?_
    refine RV.cc 13 (RV.does_store (fun γ L a w hH hl hA => by have e0 := ((hH.rest 7 F7_).trans Z7_); have e1 := hH.got d12 r12 (hA ⟨12, .data⟩ (by simp) rfl); have hB9 := early9 hH.glob hl; have z0 := c_after hB9 v0; have zf0 := f_after hB9 v0 vf0; have z1 := c_after hB9 v1; have zf1 := f_after hB9 v1 vf1; have z2 := c_after hB9 v2; have zf2 := f_after hB9 v2 vf2; exact ⟨(((w.setCell ⟨vb, 0, none⟩ (.int .i64 (ux))).setCell ⟨vb, 1, none⟩ (.int .i64 (uy))).setCell ⟨vb, 2, none⟩ (.int .i64 (uz))), by simp [execOp, go_sem, e0, e1, z0, zf0, z1, zf1, z2, zf2], (r13 _ _).mpr trivial, fun j v _ h => K j v _ _ h, Or.inr ⟨RV.more_self, w, hB9, rfl⟩⟩)) ?_
    exact RV.AllDo.nil
   ·intro γ a5 w5 L9 hL hLo hH
    have ha := RV.held_act hH hL (by kernel_rfl) (by kernel_rfl)
    obtain ⟨w8, hb8, rfl⟩ := late9 hH.glob (hL 13 (by decide))
    have y0 : γ 0 = .pointer (some ⟨vb, 0, none⟩) := hH.holds 0 (hL 0 (by decide))
    have y1 : γ 1 = .int .i64 (vx) := hH.holds 1 (hL 1 (by decide))
    have y2 : γ 2 = .int .i64 (ex) := hH.holds 2 (hL 2 (by decide))
    have y3 : γ 3 = .int .i64 (ux) := hH.holds 3 (hL 3 (by decide))
    have y4 : γ 4 = .pointer (some ⟨vb, 1, none⟩) := hH.holds 4 (hL 4 (by decide))
    have y5 : γ 5 = .int .i64 (vy) := hH.holds 5 (hL 5 (by decide))
    have y6 : γ 6 = .int .i64 (ey) := hH.holds 6 (hL 6 (by decide))
    have y7 : γ 7 = .int .i64 (uy) := hH.holds 7 (hL 7 (by decide))
    have y8 : γ 8 = .pointer (some ⟨vb, 2, none⟩) := hH.holds 8 (hL 8 (by decide))
    have y9 : γ 9 = .int .i64 (vz) := hH.holds 9 (hL 9 (by decide))
    have y10 : γ 10 = .int .i64 (ez) := hH.holds 10 (hL 10 (by decide))
    have y11 : γ 11 = .int .i64 (uz) := hH.holds 11 (hL 11 (by decide))
    have y12 : γ 12 = .agg #[.int .i64 (ux), .int .i64 (uy), .int .i64 (uz)] := hH.holds 12 (hL 12 (by decide))
    rw [ha]
    clear ha hH hL hLo
    simp only [RV.putAll, Act.put, List.setIfInBounds_toArray, List.set_cons_zero, List.set_cons_succ, Nat.zero_add, Nat.reduceAdd, y0, y1, y2, y3, y4, y5, y6, y7, y8, y9, y10, y11, y12]
    clear y0 y1 y2 y3 y4 y5 y6 y7 y8 y9 y10 y11 y12
    have HZ : Hid _ := hb8
    go_wp2_with (fail)
    go_meet
    case rel => exact ⟨w8, rfl, HZ⟩
  case rest =>
   obtain ⟨w9, e9, HZ⟩ := hcut
   rw [e9]
   obtain ⟨Z, hZ⟩ : ∃ V, V = set3 w9 vb ux uy uz := ⟨_, rfl⟩
   have HS : Hid _ := (HS.out.step HZ.out).put (Or.inr rfl) ux uy uz
   have CF3 : Hid (Cel Z fb [.int .i64 sx, .int .i64 sy, .int .i64 sz]) := by show Cel _ _ _; rw [hZ]; exact cel_set3 (Cel.step CF2.out HZ.out) (fun e => hne e.symm) _ _ _
   have CV3 : Hid (Cel Z vb [.int .i64 ux, .int .i64 uy, .int .i64 uz]) := by show Cel _ _ _; rw [hZ]; unfold set3; exact CelW.cel ((((CelW.step CV2.out HZ.out).set 0 (.int .i64 ux) (by simp)).set 1 (.int .i64 uy) (by simp)).set 2 (.int .i64 uz) (by simp))
   rw [<- hZ] at HS ⊢
   clear hZ HZ e9 CV2 CF2 v0 v1 v2 vf0 vf1 vf2
   have HCb : Hid (Cel Z cb [.slice co1 c.P.length cc1, .slice co2 c.A.length cc2, .slice co3 c.E.length cc3, .int .i64 c.r]) := HS.out.bx _ (mc (ms))
   have HBb : Hid (Cel Z bb [.slice bo1 b.P.length bc1, .slice bo2 b.A.length bc2, .slice bo3 b.E.length bc3, .int .i64 b.r]) := HS.out.bx _ (mc (mc (mc (mc (ms)))))
   have x0 := HBb.out 0 _ rfl
   have x1 := HBb.out 1 _ rfl
   have x2 := HBb.out 2 _ rfl
   have x3 := HBb.out 3 _ rfl
   have y0 := HCb.out 0 _ rfl
   have y1 := HCb.out 1 _ rfl
   have y2 := HCb.out 2 _ rfl
   have y3 := HCb.out 3 _ rfl
   obtain ⟨Q, hQ⟩ : ∃ V, V = (Z.alloc (.cells #[.slice bo1 b.P.length bc1, .slice bo2 b.A.length bc2, .slice bo3 b.E.length bc3, .int .i64 b.r] 35)).alloc (.cells #[.slice bo1 b.P.length bc1, .slice bo2 b.A.length bc2, .slice bo3 b.E.length bc3, .int .i64 b.r, .slice co1 c.P.length cc1, .slice co2 c.A.length cc2, .slice co3 c.E.length cc3, .int .i64 c.r] 35) := ⟨_, rfl⟩
   obtain ⟨lb, hlb⟩ : ∃ b, b = Z.heap.size := ⟨_, rfl⟩
   obtain ⟨mb, hmb⟩ : ∃ b, b = Z.heap.size + 1 := ⟨_, rfl⟩
   have hbq : Below Z.heap.size Z Q := by rw [hQ]; exact b_step (n_after _ _) (n_after _ _)
   have n2 := Cel.new (Z.alloc (.cells #[.slice bo1 b.P.length bc1, .slice bo2 b.A.length bc2, .slice bo3 b.E.length bc3, .int .i64 b.r] 35)) [.slice bo1 b.P.length bc1, .slice bo2 b.A.length bc2, .slice bo3 b.E.length bc3, .int .i64 b.r, .slice co1 c.P.length cc1, .slice co2 c.A.length cc2, .slice co3 c.E.length cc3, .int .i64 c.r] 35
   rw [World.size_alloc] at n2
   have m1 : Cel Q lb [.slice bo1 b.P.length bc1, .slice bo2 b.A.length bc2, .slice bo3 b.E.length bc3, .int .i64 b.r] := by rw [hQ, hlb]; exact (Cel.new Z [.slice bo1 b.P.length bc1, .slice bo2 b.A.length bc2, .slice bo3 b.E.length bc3, .int .i64 b.r] 35).step (n_after _ _)
   have m2 : Cel Q mb [.slice bo1 b.P.length bc1, .slice bo2 b.A.length bc2, .slice bo3 b.E.length bc3, .int .i64 b.r, .slice co1 c.P.length cc1, .slice co2 c.A.length cc2, .slice co3 c.E.length cc3, .int .i64 c.r] := by rw [hQ, hmb]; exact n2
   have HS : Hid _ := HS.out.step hbq
   have CF3 : Hid (Cel _ _ _) := CF3.out.step hbq
   have CV3 : Hid (Cel _ _ _) := CV3.out.step hbq
   have b1 := HS.out.lz (.slice bo1 b.P.length bc1, b.P) (mc (mc (mc (mc (mc (mc (mc (mc (mc (ms))))))))))
   have b2 := HS.out.lz (.slice bo2 b.A.length bc2, b.A) (mc (mc (mc (mc (mc (mc (mc (mc (mc (mc (ms)))))))))))
   have b3 := HS.out.lz (.slice bo3 b.E.length bc3, b.E) (mc (mc (mc (mc (mc (mc (mc (mc (mc (mc (mc (ms))))))))))))
   have c1 := HS.out.lz (.slice co1 c.P.length cc1, c.P) ms
   have c2 := HS.out.lz (.slice co2 c.A.length cc2, c.A) (mc (ms))
   have c3 := HS.out.lz (.slice co3 c.E.length cc3, c.E) (mc (mc (ms)))
   have HL1 : Hid (LiesC Q (.slice (some ⟨lb, 0, none⟩) 1 1) [b]) := liesC_one m1 b1 b2 b3
   have HL2 : Hid (LiesC Q (.slice (some ⟨mb, 0, none⟩) 2 2) [b, c]) := liesC_two m2 b1 b2 b3 c1 c2 c3
   have hbl8 := Cel.lt HBb.out
   have hcl8 := Cel.lt HCb.out
   clear n2 m1 m2 b1 b2 b3 c1 c2 c3 HBb HCb
   go_upto_region 11 with fail
   rw [<- hQ, <- hmb, <- hlb]
   clear hQ hmb hlb hbq x0 x1 x2 x3 y0 y1 y2 y3 hbl8 hcl8
   have HR1 : Hid _ := fun (w' : World) (h : Below Q.heap.size Q w') => wray_any ⟨sx, sy, sz⟩ ⟨ux, uy, uz⟩ [b] _ w' (HL1.out.below h)
   have HR2 : Hid _ := fun (w' : World) (h : Below Q.heap.size Q w') => wray_any ⟨sx, sy, sz⟩ ⟨ux, uy, uz⟩ [b, c] _ w' (HL2.out.below h)
   have a1 := HS.out.lz (.slice (some ⟨ge, fe, none⟩) a.P.length ac1, a.P) (mc (mc (mc (mc (mc (mc (ms)))))))
   have a2 := HS.out.lz (.slice ao2 a.A.length ac2, a.A) (mc (mc (mc (mc (mc (mc (mc (ms))))))))
   have a3 := HS.out.lz (.slice ao3 a.E.length ac3, a.E) (mc (mc (mc (mc (mc (mc (mc (mc (ms)))))))))
   have HO1 : Hid _ := fun (w' : World) (h : Below Q.heap.size Q w') => wover_any a [b] _ _ _ _ w' (HL1.out.below h) (a1.below h) (a2.below h) (a3.below h) (by simp)
   have HO2 : Hid _ := fun (w' : World) (h : Below Q.heap.size Q w') => wover_any a [b, c] _ _ _ _ w' (HL2.out.below h) (a1.below h) (a2.below h) (a3.below h) (by simp)
   have HN1 : Hid _ := fun (w' : World) (h : Below Q.heap.size Q w') => wnear_any a [b] _ _ _ _ w' (HL1.out.below h) (a1.below h) (a2.below h) (a3.below h)
   have HN2 : Hid _ := fun (w' : World) (h : Below Q.heap.size Q w') => wnear_any a [b, c] _ _ _ _ w' (HL2.out.below h) (a1.below h) (a2.below h) (a3.below h)
   obtain ⟨rn, rm, ri, rj, rx, ry, er1, er2, hrm, hrx⟩ := ray_mono ⟨sx, sy, sz⟩ ⟨ux, uy, uz⟩ b c
   obtain ⟨ni, nj, g1, g2, g3, gg, h1, h2, h3, hh, en1, en2, hnm⟩ := near_mono (c := c) hNa.1 hNb.1
   obtain ⟨ol, pl, eo1, eo2, hol, hpl⟩ := over_mono a b c
   rw [er1] at HR1
   rw [er2] at HR2
   rw [eo1] at HO1
   rw [eo2] at HO2
   rw [en1] at HN1
   rw [en2] at HN2
   have HAb : Hid (Cel Q ab [.slice (some ⟨ge, fe, none⟩) a.P.length ac1, .slice ao2 a.A.length ac2, .slice ao3 a.E.length ac3, .int .i64 a.r]) := HS.out.bx _ (mc (mc (mc (ms))))
   have HB : Hid _ := HS.out.below
   have HQ : Hid (Below Q.heap.size Q Q) := Below.refl _ _
   clear er1 er2 eo1 eo2 en1 en2 a1 a2 a3 HS HL1 HL2 hNa hNb hNc hNd hRa hRb hRc hRd HLT HOB
   unfold Pt.v at HR1 HR2
   unfold coreA at HO1 HO2 HN1 HN2
   dsimp only at HR1 HR2
   have x0 := CF3.out 0 _ rfl
   have x1 := CF3.out 1 _ rfl
   have x2 := CF3.out 2 _ rfl
   have y0 := CV3.out 0 _ rfl
   have y1 := CV3.out 1 _ rfl
   have y2 := CV3.out 2 _ rfl
   go_wp2_with (fail)
   refine Calls.mono (HR1.out _ HQ.out) ?_
   rintro e Q1 ⟨rfl, hb⟩
   have HQ : Hid _ := b_step HQ.out hb
   have CF3 : Hid (Cel _ _ _) := CF3.out.step hb
   have CV3 : Hid (Cel _ _ _) := CV3.out.step hb
   have HAb : Hid (Cel _ _ _) := HAb.out.step hb
   clear hb x0 x1 x2 y0 y1 y2 HR1
   have x0 := CF3.out 0 _ rfl
   have x1 := CF3.out 1 _ rfl
   have x2 := CF3.out 2 _ rfl
   have y0 := CV3.out 0 _ rfl
   have y1 := CV3.out 1 _ rfl
   have y2 := CV3.out 2 _ rfl
   go_wp2_with (fail)
   refine Calls.mono (HR2.out _ HQ.out) ?_
   rintro e Q2 ⟨rfl, hb⟩
   have HQ : Hid _ := b_step HQ.out hb
   have HAb : Hid (Cel _ _ _) := HAb.out.step hb
   clear hb x0 x1 x2 y0 y1 y2 HR2 CF3 CV3
   have x0 := HAb.out 0 _ rfl
   have x1 := HAb.out 1 _ rfl
   have x2 := HAb.out 2 _ rfl
   have x3 := HAb.out 3 _ rfl
   have hrn : ¬ rn < rm := by omega
   clear hrm
   have hxy : rx = false \/ rx = true /\ ry = true := by cases rx; exact Or.inl rfl; exact Or.inr ⟨rfl, hrx rfl⟩
   clear hrx
   rcases hxy with rfl | ⟨rfl, rfl⟩
   all_goals
    go_wp2_with (fail)
    refine Calls.mono (HO1.out _ HQ.out) ?_
    rintro e Q3 ⟨u, rfl, hrow, hb⟩
    have HQ : Hid _ := b_step HQ.out hb
    have HAb : Hid (Cel _ _ _) := HAb.out.step hb
    obtain ⟨xo, xc, rfl⟩ := rowi_form hrow
    clear hb hrow hrn x0 x1 x2 x3 HO1
    have x0 := HAb.out 0 _ rfl
    have x1 := HAb.out 1 _ rfl
    have x2 := HAb.out 2 _ rfl
    have x3 := HAb.out 3 _ rfl
    go_wp2_with (fail)
    refine Calls.mono (HO2.out _ HQ.out) ?_
    rintro e Q4 ⟨u4, rfl, hrow, hb⟩
    have HQ : Hid _ := b_step HQ.out hb
    have HAb : Hid (Cel _ _ _) := HAb.out.step hb
    have HRY : Hid _ := hrow
    obtain ⟨yo, yc, rfl⟩ := rowi_form hrow
    clear hb hrow x0 x1 x2 x3 HO2
    have x0 := HAb.out 0 _ rfl
    have x1 := HAb.out 1 _ rfl
    have x2 := HAb.out 2 _ rfl
    have x3 := HAb.out 3 _ rfl
    go_wp2_with (fail)
    refine Calls.mono (HN1.out _ HQ.out) ?_
    rintro e Q5 ⟨rfl, hb⟩
    have HQ : Hid _ := b_step HQ.out hb
    have HAb : Hid (Cel _ _ _) := HAb.out.step hb
    have HRY : Hid _ := own_below HRY.out hb
    clear hb x0 x1 x2 x3 HN1
    obtain ⟨Q6, hQ6⟩ : ∃ V, V = Q5.alloc (.cells #[.int .i64 g1, .int .i64 g2, .int .i64 g3, .int .i64 gg] 45) := ⟨_, rfl⟩
    obtain ⟨xb, hxb⟩ : ∃ b, b = Q5.heap.size := ⟨_, rfl⟩
    have hb6 : Below Q5.heap.size Q5 Q6 := by rw [hQ6]; exact n_after _ _
    have CG : Hid (Cel Q6 xb [.int .i64 g1, .int .i64 g2, .int .i64 g3, .int .i64 gg]) := by show Cel _ _ _; rw [hQ6, hxb]; exact Cel.new _ [.int .i64 g1, .int .i64 g2, .int .i64 g3, .int .i64 gg] _
    have HQ : Hid _ := b_step HQ.out hb6
    have HAb : Hid (Cel _ _ _) := HAb.out.step hb6
    have HRY : Hid _ := own_below HRY.out hb6
    go_upto_region 18 with fail
    rw [<- hQ6, <- hxb]
    clear hQ6 hxb hb6
    have x0 := HAb.out 0 _ rfl
    have x1 := HAb.out 1 _ rfl
    have x2 := HAb.out 2 _ rfl
    have x3 := HAb.out 3 _ rfl
    go_wp2_with (fail)
    refine Calls.mono (HN2.out _ HQ.out) ?_
    rintro e Q7 ⟨rfl, hb⟩
    have HQ : Hid _ := b_step HQ.out hb
    have CG : Hid (Cel _ _ _) := CG.out.step hb
    have HRY : Hid _ := own_below HRY.out hb
    clear hb x0 x1 x2 x3 HN2 HAb
    obtain ⟨Q8, hQ8⟩ : ∃ V, V = Q7.alloc (.cells #[.int .i64 h1, .int .i64 h2, .int .i64 h3, .int .i64 hh] 45) := ⟨_, rfl⟩
    obtain ⟨yb, hyb⟩ : ∃ b, b = Q7.heap.size := ⟨_, rfl⟩
    have hb8 : Below Q7.heap.size Q7 Q8 := by rw [hQ8]; exact n_after _ _
    have CH : Hid (Cel Q8 yb [.int .i64 h1, .int .i64 h2, .int .i64 h3, .int .i64 hh]) := by show Cel _ _ _; rw [hQ8, hyb]; exact Cel.new _ [.int .i64 h1, .int .i64 h2, .int .i64 h3, .int .i64 hh] _
    have HQ : Hid _ := b_step HQ.out hb8
    have CG : Hid (Cel _ _ _) := CG.out.step hb8
    have HRY : Hid _ := own_below HRY.out hb8
    go_upto_region 19 with fail
    rw [<- hQ8, <- hyb]
    clear hQ8 hyb hb8
    have u3 := CG.out 3 _ rfl
    have v3 := CH.out 3 _ rfl
    have hge : ¬ (pl.length : Int) < (ol.length : Int) := by omega
    have hle2 : (ol.length : Int) <= (pl.length : Int) := by omega
    have HF : Hid (Below w0.heap.size w0 Q8) := b_step HB.out HQ.out
    rcases hpl with hz | ⟨hp0, hpl1, hz⟩
    ·clear hol HRY hge
     generalize pl.length = pn at *
     generalize ol.length = on at *
     subst hz
     have hle3 : (0 : Int) <= (pn : Int) := Int.natCast_nonneg pn
     clear hle2
     go_wp2_with (fail)
     go_ret
     exact ⟨rfl, HF.out⟩
    ·obtain ⟨g9, rfl, hcell⟩ := over_cell HRY.out hp0
     clear hp0 hol HRY hge
     generalize pl.length = pn at *
     generalize ol.length = on at *
     have hpl2 : (0 : Int) < (pn : Int) := Int.natCast_pos.2 hpl1
     have hz' : ¬ ((on : Int) = 0) := Int.natCast_ne_zero.2 hz
     clear hz hpl1
     go_wp2_with (fail)
     go_ret
     exact ⟨rfl, HF.out⟩
set_option maxRecDepth 100000 in
theorem lifted (os : Os) (started : os.Started) (H : Type) (enc : TypeId × Value -> H) :
  ReturnsInHanded {} Tryz.checked os 7 .any (Rows.sweepMoreSpec.pre6 enc Tryz.prog Tryz.f7 Rows.sweepMoreRow.domain false) (Rows.sweepMoreSpec.post enc Tryz.prog Tryz.f7 false true false false) := by
 refine returnsInHanded_of_change (C := Tryz.checked) own started (by kernel_rfl) Tryz.func7
  (ChangeSpec.witness6 (enc := enc) (C := Tryz.checked) false ⟨#[], #[.agg #[.int .i64 0, .int .i64 0, .int .i64 0, .int .i64 0, .int .i64 0, .slice none 0 0, .int .i64 0, .int .i64 0, .int .i64 0, .int .i64 0, .int .i64 0, .slice none 0 0, .int .i64 0, .int .i64 0, .int .i64 0, .int .i64 0, .int .i64 0, .int .i64 0, .int .i64 0, .int .i64 0, .int .i64 0, .int .i64 0, .int .i64 0, .int .i64 0, .int .i64 0, .int .i64 0, .int .i64 0, .int .i64 0, .int .i64 0, .int .i64 0], .agg #[.int .i64 0, .int .i64 0, .int .i64 0, .int .i64 0, .int .i64 0, .slice none 0 0, .int .i64 0, .int .i64 0, .int .i64 0, .int .i64 0, .int .i64 0, .slice none 0 0, .int .i64 0, .int .i64 0, .int .i64 0, .int .i64 0, .int .i64 0, .int .i64 0, .int .i64 0, .int .i64 0, .int .i64 0, .int .i64 0, .int .i64 0, .int .i64 0, .int .i64 0, .int .i64 0, .int .i64 0, .int .i64 0, .int .i64 0, .int .i64 0], .agg #[.int .i64 0, .int .i64 0, .int .i64 0], .agg #[.int .i64 0, .int .i64 0, .int .i64 0]], []⟩ 8 (by kernel_rfl) (by kernel_rfl) (by kernel_rfl) (by kernel_rfl)) ?_
 intro W base args ds gs before hval0 hW hcnd _
 have hval : ∀ (j : Nat) t v, Tryz.f7.params[j]? = some t -> args[j]? = some v -> Value.okWide Tryz.prog W .any base t v := hval0
 have hW' := hW
 obtain ⟨p, q, hA0, hV, rfl, hfz, hnd⟩ := hW
 have hA : DataW.TrodAll enc Tryz.prog W 0 (fun _ => true) true Tryz.f7.params.toList args.toList ds p := hA0
 rw [Tryz.params7] at hA hval
 obtain ⟨v0, vs0, d0, ds0, p0, q0, hargs, rfl, rfl, h0, r0⟩ := trodAll_cons hA
 obtain ⟨v1, vs1, d1, ds1, p1, q1, rfl, rfl, rfl, h1, r1⟩ := trodAll_cons r0
 obtain ⟨v2, vs2, d2, ds2, p2, q2, rfl, rfl, rfl, h2, r2⟩ := trodAll_cons r1
 obtain ⟨v3, vs3, d3, ds3, p3, q3, rfl, rfl, rfl, h3, r3⟩ := trodAll_cons r2
 obtain ⟨rfl, rfl, rfl⟩ := trodAll_nil r3
 obtain rfl : args = #[v0, v1, v2, v3] := by cases args; simp_all
 obtain ⟨rfl, rfl⟩ := trodVars_none hV
 have k0 := h0
 have lt0 : ∀ x ∈ p0, x.block < W.heap.size := by obtain ⟨m, hm⟩ := k0; exact DataW.trod_lt m _ _ _ hm
 obtain ⟨k1t, r1t, x1t, y1t, z1t, o1t, L1t, c1t, k2t, r2t, x2t, y2t, z2t, o2t, L2t, c2t, p0t, p1t, p2t, p3t, p4t, p5t, p6t, q0t, q1t, q2t, q3t, q4t, q5t, q6t, nrt, wxt, wyt, wzt, rfl, hL1t, hF1t, hL2t, hF2t, hbst⟩ := open_two (hval 0 33 v0 rfl rfl) h0
 have k1 := h1
 have lt1 : ∀ x ∈ p1, x.block < W.heap.size := by obtain ⟨m, hm⟩ := k1; exact DataW.trod_lt m _ _ _ hm
 obtain ⟨k1u, r1u, x1u, y1u, z1u, o1u, L1u, c1u, k2u, r2u, x2u, y2u, z2u, o2u, L2u, c2u, p0u, p1u, p2u, p3u, p4u, p5u, p6u, q0u, q1u, q2u, q3u, q4u, q5u, q6u, nru, wxu, wyu, wzu, rfl, hL1u, hF1u, hL2u, hF2u, hbsu⟩ := open_two (hval 1 33 v1 rfl rfl) h1
 have k2 := h2
 have lt2 : ∀ x ∈ p2, x.block < W.heap.size := by obtain ⟨m, hm⟩ := k2; exact DataW.trod_lt m _ _ _ hm
 obtain ⟨tx2, ty2, tz2, rfl, _, _, nx2, ny2, nz2⟩ := open_point (hval 2 23 v2 rfl rfl) h2
 have btx2_ := bounds_i64 nx2
 have bty2_ := bounds_i64 ny2
 have btz2_ := bounds_i64 nz2
 have k3 := h3
 have lt3 : ∀ x ∈ p3, x.block < W.heap.size := by obtain ⟨m, hm⟩ := k3; exact DataW.trod_lt m _ _ _ hm
 obtain ⟨tx3, ty3, tz3, rfl, _, _, nx3, ny3, nz3⟩ := open_point (hval 3 23 v3 rfl rfl) h3
 have btx3_ := bounds_i64 nx3
 have bty3_ := bounds_i64 ny3
 have btz3_ := bounds_i64 nz3
 clear hA0 hval0
 refine (walk k1t r1t x1t y1t z1t o1t L1t c1t k2t r2t x2t y2t z2t o2t L2t c2t p0t p1t p2t p3t p4t p5t p6t q0t q1t q2t q3t q4t q5t q6t nrt wxt wyt wzt k1u r1u x1u y1u z1u o1u L1u c1u k2u r2u x2u y2u z2u o2u L2u c2u p0u p1u p2u p3u p4u p5u p6u q0u q1u q2u q3u q4u q5u q6u nru wxu wyu wzu tx2 ty2 tz2 tx3 ty3 tz3 W hbst hL1t hF1t hL2t hF2t hbsu hL1u hF1u hL2u hF2u (by omega) (by omega) (by omega) (by omega) (by omega) (by omega)).mono fun e W' ⟨he, bel⟩ => ?_
 subst he
 exact ⟨_, rfl, _, _, _, [], _, [], hW', trodAll_mk1 (shut_bool Tryz.underlying4 _), (trodAll_cons_mk (Below.trod laidOut (by kernel_rfl) (of_decide_eq_true (by kernel_rfl)) k0 bel lt0) (trodAll_cons_mk (Below.trod laidOut (by kernel_rfl) (of_decide_eq_true (by kernel_rfl)) k1 bel lt1) (trodAll_cons_mk (Below.trod laidOut (by kernel_rfl) (of_decide_eq_true (by kernel_rfl)) k2 bel lt2) (trodAll_cons_mk (Below.trod laidOut (by kernel_rfl) (of_decide_eq_true (by kernel_rfl)) k3 bel lt3) trodAll_mk0)))), rfl, bel.frame _, fun h => by cases h⟩
theorem over : Rows.sweepMoreRow.holds Tryz.pinned (OpenSpec.ofChange Rows.sweepMoreSpec) :=
 OpenClaim.holds_of_wide 7 Tryz.f7 rfl rfl rfl rfl rfl rfl rfl ⟨rfl, rfl, rfl, rfl, rfl⟩ rfl rfl rfl rfl rfl (by kernel_rfl) Tryz.func7 (by kernel_rfl)
  (of_decide_eq_true (by kernel_rfl)) (by unfold Func.isWrapper; first | (rw [if_pos (by decide +kernel)]; kernel_rfl) | (rw [if_neg (by decide +kernel)]; exact ⟨rfl, rfl⟩))
  (fun os started H enc _ => lifted os started H enc)
end sweepMore
theorem sweepMore_holds : Rows.SweepMoreSaid := sweepMore.over
#print axioms sweepMore_holds
end
end Go.Proofs.YtffjifhojedmkaaGreat
