/- Placed cores: plain numbers. What is within the world can be placed; turns that turn nothing, or half about. -/
import Derived.Test.YtocdompopadanaaGreatKPsL
import Derived.Test.YtocdompopadanaaGreatKCross
namespace Go.Proofs.YtocdompopadanaaGreat
open Go.RowKit Fx
set_option linter.unusedVariables false

/-- A matrix of which no part is too great. -/
structure M9.Fit (m : M9) : Prop where
  h0 : -8589934592 ≤ m.a0 ∧ m.a0 ≤ 8589934592
  h1 : -8589934592 ≤ m.a1 ∧ m.a1 ≤ 8589934592
  h2 : -8589934592 ≤ m.a2 ∧ m.a2 ≤ 8589934592
  h3 : -8589934592 ≤ m.a3 ∧ m.a3 ≤ 8589934592
  h4 : -8589934592 ≤ m.a4 ∧ m.a4 ≤ 8589934592
  h5 : -8589934592 ≤ m.a5 ∧ m.a5 ≤ 8589934592
  h6 : -8589934592 ≤ m.a6 ∧ m.a6 ≤ 8589934592
  h7 : -8589934592 ≤ m.a7 ∧ m.a7 ≤ 8589934592
  h8 : -8589934592 ≤ m.a8 ∧ m.a8 ≤ 8589934592
theorem rows_fit {q : Q4} (h : WM.Whole q.w q.x q.y q.z) : rowsB q = false ∧ (rowsM q).Fit := by
  obtain ⟨hw, hx, hy, hz, hN1, hN2⟩ := id h
  obtain ⟨hbad, n0, n1, n2, n3, n4, n5, n6, n7, n8⟩ := WM.rows_near hw hx hy hz hN2
  refine ⟨hbad, ?_⟩
  unfold rowsM rowsB
  rw [hbad]
  exact ⟨n0.2.2, n1.2.2, n2.2.2, n3.2.2, n4.2.2, n5.2.2, n6.2.2, n7.2.2, n8.2.2⟩
theorem turn_some {m : M9} (h : m.Fit) {x : Pt} {B : Int} (hx : x.inB B = true) (hB : B ≤ 1125899906842624) : ∃ r, m.turn x = some r ∧ r.inB (6 * B + 1) = true := by
  obtain ⟨k0, k1, k2⟩ := (Pt.inB_iff _ _).1 hx
  obtain ⟨r0, e0, _, b0⟩ := WM.dot3 h.h0 h.h1 h.h2 k0 k1 k2 hB
  obtain ⟨r1, e1, _, b1⟩ := WM.dot3 h.h3 h.h4 h.h5 k0 k1 k2 hB
  obtain ⟨r2, e2, _, b2⟩ := WM.dot3 h.h6 h.h7 h.h8 k0 k1 k2 hB
  refine ⟨⟨r0, r1, r2⟩, ?_, (Pt.inB_iff _ _).2 ⟨b0, b1, b2⟩⟩
  unfold M9.turn
  rw [e0, e1, e2]; rfl
theorem times_in {p : Pt} {B n : Int} (h : p.inB B = true) (hn : 0 ≤ n) (hb : B * n ≤ 9223372036854775807) : p.times n = ⟨p.x * n, p.y * n, p.z * n⟩ ∧ (p.times n).inB (B * n) = true := by
  obtain ⟨k0, k1, k2⟩ := (Pt.inB_iff _ _).1 h
  have j0 := WM.mul_in k0 (show -n ≤ n ∧ n ≤ n by omega)
  have j1 := WM.mul_in k1 (show -n ≤ n ∧ n ≤ n by omega)
  have j2 := WM.mul_in k2 (show -n ≤ n ∧ n ≤ n by omega)
  have e : p.times n = ⟨p.x * n, p.y * n, p.z * n⟩ := by
    unfold Pt.times
    congr 1
    · rw [IntKind.wrap_i64]; omega
    · rw [IntKind.wrap_i64]; omega
    · rw [IntKind.wrap_i64]; omega
  rw [e]
  exact ⟨rfl, (Pt.inB_iff _ _).2 ⟨j0, j1, j2⟩⟩
theorem add_some {x y : Int} (h : -4611686018427387903 ≤ x + y ∧ x + y ≤ 4611686018427387903) (hx : -4611686018427387903 ≤ x ∧ x ≤ 4611686018427387903) (hy : -4611686018427387903 ≤ y ∧ y ≤ 4611686018427387903) : add x y = some (x + y) := by
  unfold add
  simp [told, (not_great x).2 (by omega), (not_great y).2 (by omega), (not_great (x + y)).2 (by omega)]
theorem addO_some {x y : Pt} {A B : Int} (hx : x.inB A = true) (hy : y.inB B = true) (h : A + B ≤ 4611686018427387903) (hA : 0 ≤ A) (hB : 0 ≤ B) : x.addO y = some ⟨x.x + y.x, x.y + y.y, x.z + y.z⟩ := by
  obtain ⟨k0, k1, k2⟩ := (Pt.inB_iff _ _).1 hx
  obtain ⟨j0, j1, j2⟩ := (Pt.inB_iff _ _).1 hy
  unfold Pt.addO
  rw [add_some (by omega) (by omega) (by omega), add_some (by omega) (by omega) (by omega), add_some (by omega) (by omega) (by omega)]; rfl
/-- Where a point comes to. -/
theorem point_some {m : M9} (h : m.Fit) {t p : Pt} (ht : t.inB 5497558138880 = true) (hp : p.inB 65536 = true) : ∃ u : Pt, m.turn ⟨p.x * 1048576, p.y * 1048576, p.z * 1048576⟩ = some u ∧ u.inB 412316860417 = true ∧ m.ptB t p = false ∧ m.ptV t p = ⟨(u.x + t.x) / 1048576, (u.y + t.y) / 1048576, (u.z + t.z) / 1048576⟩ ∧ (m.ptV t p).inB 8388608 = true := by
  obtain ⟨e1, hb⟩ := times_in (n := 1048576) hp (by decide) (by decide)
  rw [e1] at hb
  obtain ⟨u, e2, hu⟩ := turn_some h hb (by decide)
  have hu : u.inB 412316860417 = true := inB_mono hu (by decide)
  have e3 := addO_some hu ht (by decide) (by decide) (by decide)
  refine ⟨u, e2, hu, ?_, ?_⟩
  · unfold M9.ptB M9.at1
    rw [e1, e2]
    simp [e3]
  · have e4 : m.ptV t p = ⟨(u.x + t.x) / 1048576, (u.y + t.y) / 1048576, (u.z + t.z) / 1048576⟩ := by
      unfold M9.ptV M9.at2 M9.at1
      rw [e1, e2]
      simp only [Option.getD_some, e3]
      rfl
    refine ⟨e4, ?_⟩
    rw [e4]
    obtain ⟨k0, k1, k2⟩ := (Pt.inB_iff _ _).1 hu
    obtain ⟨j0, j1, j2⟩ := (Pt.inB_iff _ _).1 ht
    rw [Pt.inB_iff]
    dsimp only
    omega
/-- A direction is made long by a power of two. -/
theorem longF_is (n : Nat) (p : Pt) (h : p.inB 1048576 = true) : (longF n p).inB 1048576 = true ∧ ∃ j : Nat, longF n p = ⟨2 ^ j * p.x, 2 ^ j * p.y, 2 ^ j * p.z⟩ := by
  induction n generalizing p with
  | zero => exact ⟨h, 0, by simp [longF]⟩
  | succ n ih =>
    by_cases hq : p.inB 524288 = true
    · have hI := (Pt.inB_iff _ _).1 hq
      have e : p.plus p = ⟨2 * p.x, 2 * p.y, 2 * p.z⟩ := by
        unfold Pt.plus
        congr 1
        · rw [IntKind.wrap_i64]; omega
        · rw [IntKind.wrap_i64]; omega
        · rw [IntKind.wrap_i64]; omega
      obtain ⟨h1, j, h2⟩ := ih (p.plus p) (by rw [e, Pt.inB_iff]; dsimp only; omega)
      have e9 : longF (n + 1) p = longF n (p.plus p) := by simp [longF, hq]
      rw [e9]
      refine ⟨h1, j + 1, ?_⟩
      rw [h2, e]
      simp only [Int.pow_succ, Int.mul_assoc]
    · have e9 : longF (n + 1) p = p := by simp [longF, hq]
      rw [e9]
      exact ⟨h, 0, by simp⟩
theorem long_is (p : Pt) (h : p.inB 1048576 = true) : p.long.inB 1048576 = true ∧ ∃ j : Nat, p.long = ⟨2 ^ j * p.x, 2 ^ j * p.y, 2 ^ j * p.z⟩ := by
  unfold Pt.long
  split
  · exact ⟨h, 0, by simp⟩
  · exact longF_is 20 p h
theorem dir_some {m : M9} (h : m.Fit) {p : Pt} (hp : p.inB 1048576 = true) : m.dirB p = false := by
  obtain ⟨e1, hb⟩ := times_in (n := 4096) (long_is p hp).1 (by decide) (by decide)
  obtain ⟨u, e2, hu⟩ := turn_some h hb (by decide)
  unfold M9.dirB
  rw [e2]; rfl
theorem all_win {L : List Pt} {m n : Int} (h : ∀ p ∈ L, p.inB m = true) (hm : m ≤ n) (h1 : 0 ≤ n) (h2 : n ≤ 9223372036854775807) : (L.all fun p => p.win n) = true := by
  rw [List.all_eq_true]
  intro p hp
  rw [win_in _ _ h1 h2]
  exact inB_mono (h p hp) hm
/-- What is within the world can be placed. -/
theorem place_ok {t : Pt} {q : Q4} {P A E : List Pt} (hq : WM.Whole q.w q.x q.y q.z) (ht : t.inB 5497558138880 = true) (h0 : 0 < P.length) (hP : ∀ p ∈ P, p.inB 65536 = true) (hA : ∀ p ∈ A, p.inB 1048576 = true) (hE : ∀ p ∈ E, p.inB 1048576 = true) : placeOk t q P A E = true := by
  obtain ⟨hb, hf⟩ := rows_fit hq
  have b1 : P.any ((rowsM q).ptB t) = false := by
    rw [List.any_eq_false]
    intro p hp
    obtain ⟨_, _, _, e, _⟩ := point_some hf ht (hP p hp)
    simp [e]
  have b2 : A.any (rowsM q).dirB = false := by
    rw [List.any_eq_false]
    intro p hp
    simp [dir_some hf (hA p hp)]
  have b3 : E.any (rowsM q).dirB = false := by
    rw [List.any_eq_false]
    intro p hp
    simp [dir_some hf (hE p hp)]
  have n1 : nearP (P.map ((rowsM q).ptV t)) = true := by
    refine all_win (m := 8388608) (fun p hp => ?_) (Int.le_refl _) (by decide) (by decide)
    obtain ⟨x, hx, rfl⟩ := List.mem_map.1 hp
    obtain ⟨_, _, _, _, _, e⟩ := point_some hf ht (hP x hx)
    exact e
  unfold placeOk placeableP badP
  rw [all_win hP (by decide) (by decide) (by decide), all_win hA (by decide) (by decide) (by decide), all_win hE (by decide) (by decide) (by decide), hb, b1, b2, b3, n1, decide_eq_true h0]
  rfl
end Go.Proofs.YtocdompopadanaaGreat
/- Turns that turn nothing, or half about: plain numbers. -/
namespace Go.Proofs.YtocdompopadanaaGreat
open Go.RowKit Fx
set_option linter.unusedVariables false

def sgn (b : Bool) (x : Int) : Int := cond b (-x) x
def Pt.flip (b0 b1 b2 : Bool) (p : Pt) : Pt := ⟨sgn b0 p.x, sgn b1 p.y, sgn b2 p.z⟩
theorem sgn_sgn (b : Bool) (x : Int) : sgn b (sgn b x) = x := by cases b <;> simp [sgn]
theorem flip_flip (b0 b1 b2 : Bool) (p : Pt) : (p.flip b0 b1 b2).flip b0 b1 b2 = p := by cases p; simp [Pt.flip, sgn_sgn]
theorem sgn_abs (b : Bool) (x : Int) : (sgn b x).natAbs = x.natAbs := by cases b <;> simp [sgn]
theorem flip_in (b0 b1 b2 : Bool) (p : Pt) (m : Int) : (p.flip b0 b1 b2).inB m = p.inB m := by
  rw [Bool.eq_iff_iff, Pt.inB_iff, Pt.inB_iff]
  unfold Pt.flip
  dsimp only
  cases b0 <;> cases b1 <;> cases b2 <;> simp only [sgn, cond_true, cond_false] <;> omega
theorem flip_g (b0 b1 b2 : Bool) (p : Pt) : (p.flip b0 b1 b2).g = p.g := by unfold Pt.g Pt.flip; simp only [sgn_abs]
theorem flip_ne {b0 b1 b2 : Bool} {p : Pt} (h : p ≠ Pt.O) : p.flip b0 b1 b2 ≠ Pt.O := fun e => h (by rw [← flip_flip b0 b1 b2 p, e]; cases b0 <;> cases b1 <;> cases b2 <;> rfl)
/-- A matrix that turns parts about, or doesn't. -/
structure M9.Dg (m : M9) (b0 b1 b2 : Bool) : Prop where
  h0 : m.a0 = sgn b0 4294967296
  h1 : m.a1 = 0
  h2 : m.a2 = 0
  h3 : m.a3 = 0
  h4 : m.a4 = sgn b1 4294967296
  h5 : m.a5 = 0
  h6 : m.a6 = 0
  h7 : m.a7 = 0
  h8 : m.a8 = sgn b2 4294967296
theorem sgn_fit (b : Bool) : -8589934592 ≤ sgn b 4294967296 ∧ sgn b 4294967296 ≤ 8589934592 := by cases b <;> decide
theorem diag_turn {m : M9} {b0 b1 b2 : Bool} (h : m.Dg b0 b1 b2) {x : Pt} {B : Int} (hx : x.inB B = true) (hB : B ≤ 1125899906842624) : m.turn x = some (x.flip b0 b1 b2) := by
  obtain ⟨k0, k1, k2⟩ := (Pt.inB_iff _ _).1 hx
  have z : -8589934592 ≤ (0 : Int) ∧ (0 : Int) ≤ 8589934592 := by decide
  obtain ⟨r0, e0, ⟨l0, u0⟩, _⟩ := WM.dot3 (sgn_fit b0) z z k0 k1 k2 hB
  obtain ⟨r1, e1, ⟨l1, u1⟩, _⟩ := WM.dot3 z (sgn_fit b1) z k0 k1 k2 hB
  obtain ⟨r2, e2, ⟨l2, u2⟩, _⟩ := WM.dot3 z z (sgn_fit b2) k0 k1 k2 hB
  unfold M9.turn
  rw [h.h0, h.h1, h.h2, h.h3, h.h4, h.h5, h.h6, h.h7, h.h8, e0, e1, e2]
  have q0 : r0 = sgn b0 x.x := by cases b0 <;> simp only [sgn, cond_true, cond_false] at * <;> omega
  have q1 : r1 = sgn b1 x.y := by cases b1 <;> simp only [sgn, cond_true, cond_false] at * <;> omega
  have q2 : r2 = sgn b2 x.z := by cases b2 <;> simp only [sgn, cond_true, cond_false] at * <;> omega
  rw [q0, q1, q2]; rfl
theorem diag_point {m : M9} {b0 b1 b2 : Bool} (h : m.Dg b0 b1 b2) {p : Pt} (hp : p.inB 65536 = true) : m.ptV Pt.O p = p.flip b0 b1 b2 := by
  obtain ⟨e1, hb⟩ := times_in (n := 1048576) hp (by decide) (by decide)
  have e2 := diag_turn h hb (by decide)
  have hf : ((p.times 1048576).flip b0 b1 b2).inB (65536 * 1048576) = true := by rw [flip_in]; exact hb
  have e3 := addO_some (y := Pt.O) (B := 0) hf (by decide) (by decide) (by decide) (by decide)
  unfold M9.ptV M9.at2 M9.at1
  rw [e2]
  simp only [Option.getD_some, e3]
  rw [e1]
  unfold Pt.grain Pt.flip Pt.O
  dsimp only
  cases b0 <;> cases b1 <;> cases b2 <;> simp only [sgn, cond_true, cond_false, Pt.mk.injEq] <;> omega
theorem g_pow (j : Nat) (p : Pt) : Pt.g ⟨2 ^ j * p.x, 2 ^ j * p.y, 2 ^ j * p.z⟩ = 2 ^ j * p.g := by
  unfold Pt.g
  dsimp only
  have e : ((2 : Int) ^ j).natAbs = 2 ^ j := by rw [Int.natAbs_pow]; rfl
  rw [Int.natAbs_mul, Int.natAbs_mul, Int.natAbs_mul, e, Nat.gcd_mul_left, Nat.gcd_mul_left]
theorem short_g {p : Pt} (h0 : p ≠ Pt.O) (h : p.short = p) : p.g = 1 ∧ p.inB 1048576 = true := by
  refine ⟨?_, h ▸ short_in p⟩
  rw [← h]
  unfold Pt.short
  split
  · exact low_g (halveF_ne _ _ (low_ne h0))
  · rename_i hb
    exfalso
    apply h0
    rw [← h]
    unfold Pt.short
    rw [if_neg hb]
theorem short_pow {p : Pt} (hg : p.g = 1) (hb : p.inB 1048576 = true) (j : Nat) (hin : Pt.inB ⟨2 ^ j * p.x, 2 ^ j * p.y, 2 ^ j * p.z⟩ 4398046511104 = true) : Pt.short ⟨2 ^ j * p.x, 2 ^ j * p.y, 2 ^ j * p.z⟩ = p := by
  have hpos : (0 : Int) < 2 ^ j := Int.pow_pos (by decide)
  have e : Pt.low ⟨2 ^ j * p.x, 2 ^ j * p.y, 2 ^ j * p.z⟩ = p := by
    unfold Pt.low
    rw [g_pow, hg, Nat.mul_one]
    have h2 : (2 : Nat) ^ j ≠ 0 := Nat.ne_of_gt (Nat.pow_pos (by decide))
    rw [if_neg h2]
    unfold Pt.by
    dsimp only
    have e2 : ((2 ^ j : Nat) : Int) = (2 : Int) ^ j := by simp
    rw [e2, Int.mul_tdiv_cancel_left _ (Int.ne_of_gt hpos), Int.mul_tdiv_cancel_left _ (Int.ne_of_gt hpos), Int.mul_tdiv_cancel_left _ (Int.ne_of_gt hpos)]
  unfold Pt.short
  rw [if_pos hin, e]
  rw [show p.half = p from halveF_id _ _ hb, low_one hg]
theorem diag_dir {m : M9} {b0 b1 b2 : Bool} (h : m.Dg b0 b1 b2) {p : Pt} (h0 : p ≠ Pt.O) (hs : p.short = p) : m.dirV p = p.flip b0 b1 b2 := by
  obtain ⟨hg, hb⟩ := short_g h0 hs
  obtain ⟨hl, j, ej⟩ := long_is p hb
  obtain ⟨e1, hb1⟩ := times_in (n := 4096) hl (by decide) (by decide)
  have e2 := diag_turn h hb1 (by decide)
  have e3 : (m.dirT p).quo 4096 = p.long.flip b0 b1 b2 := by
    unfold M9.dirT
    rw [e2]
    simp only [Option.getD_some]
    rw [e1]
    have hI := (Pt.inB_iff _ _).1 hl
    generalize p.long = L at *
    unfold Pt.quo Pt.flip
    dsimp only
    have k : ∀ b x, (-1048576 ≤ x ∧ x ≤ 1048576) → wrap64 ((sgn b (x * 4096)).tdiv 4096) = sgn b x := by
      intro b x hx
      have : sgn b (x * 4096) = sgn b x * 4096 := by cases b <;> simp only [sgn, cond_true, cond_false] <;> omega
      rw [this, Int.mul_tdiv_cancel _ (by decide)]
      refine w64 ?_ ?_ <;> cases b <;> simp only [sgn, cond_true, cond_false] <;> omega
    rw [k b0 _ hI.1, k b1 _ hI.2.1, k b2 _ hI.2.2]
  unfold M9.dirV
  rw [e3, ej]
  have e4 : Pt.flip b0 b1 b2 ⟨2 ^ j * p.x, 2 ^ j * p.y, 2 ^ j * p.z⟩ = ⟨2 ^ j * (p.flip b0 b1 b2).x, 2 ^ j * (p.flip b0 b1 b2).y, 2 ^ j * (p.flip b0 b1 b2).z⟩ := by
    unfold Pt.flip
    dsimp only
    cases b0 <;> cases b1 <;> cases b2 <;> simp only [sgn, cond_true, cond_false, Int.mul_neg]
  rw [e4]
  refine short_pow (by rw [flip_g]; exact hg) (by rw [flip_in]; exact hb) j ?_
  rw [← e4, flip_in, ← ej]
  exact inB_mono hl (by decide)
theorem diag_dirs {m : M9} {b0 b1 b2 : Bool} (h : m.Dg b0 b1 b2) {E : List Pt} (hE : ∀ p ∈ E, p ≠ Pt.O ∧ p.short = p) : m.dirs E = E.map (Pt.flip b0 b1 b2) := by
  unfold M9.dirs
  have e : E.map m.dirV = E.map (Pt.flip b0 b1 b2) := List.map_congr_left fun p hp => diag_dir h (hE p hp).1 (hE p hp).2
  rw [e, List.filter_eq_self]
  intro p hp
  obtain ⟨x, hx, rfl⟩ := List.mem_map.1 hp
  exact decide_eq_true (flip_ne (hE x hx).1)
theorem diag_points {m : M9} {b0 b1 b2 : Bool} (h : m.Dg b0 b1 b2) {P : List Pt} (hP : ∀ p ∈ P, p.inB 65536 = true) : P.map (m.ptV Pt.O) = P.map (Pt.flip b0 b1 b2) := List.map_congr_left fun p hp => diag_point h (hP p hp)
theorem flip_short {b0 b1 b2 : Bool} {p : Pt} (h0 : p ≠ Pt.O) (h : p.short = p) : (p.flip b0 b1 b2).short = p.flip b0 b1 b2 := by
  obtain ⟨hg, hb⟩ := short_g h0 h
  have e := short_pow (p := p.flip b0 b1 b2) (by rw [flip_g]; exact hg) (by rw [flip_in]; exact hb) 0 (by have h9 := inB_mono (n := 4398046511104) hb (by decide); rw [← flip_in b0 b1 b2] at h9; simpa using h9)
  simpa using e
theorem map_flip_flip (b0 b1 b2 : Bool) (L : List Pt) : (L.map (Pt.flip b0 b1 b2)).map (Pt.flip b0 b1 b2) = L := by
  rw [List.map_map]
  have : (Pt.flip b0 b1 b2 ∘ Pt.flip b0 b1 b2) = id := by funext p; exact flip_flip b0 b1 b2 p
  rw [this, List.map_id]
theorem rows_one : rowsB ⟨4294967296, 0, 0, 0⟩ = false ∧ (rowsM ⟨4294967296, 0, 0, 0⟩).Dg false false false := ⟨by decide +kernel, ⟨by decide +kernel, by decide +kernel, by decide +kernel, by decide +kernel, by decide +kernel, by decide +kernel, by decide +kernel, by decide +kernel, by decide +kernel⟩⟩
theorem rows_x : rowsB ⟨0, 4294967296, 0, 0⟩ = false ∧ (rowsM ⟨0, 4294967296, 0, 0⟩).Dg false true true := ⟨by decide +kernel, ⟨by decide +kernel, by decide +kernel, by decide +kernel, by decide +kernel, by decide +kernel, by decide +kernel, by decide +kernel, by decide +kernel, by decide +kernel⟩⟩
theorem rows_y : rowsB ⟨0, 0, 4294967296, 0⟩ = false ∧ (rowsM ⟨0, 0, 4294967296, 0⟩).Dg true false true := ⟨by decide +kernel, ⟨by decide +kernel, by decide +kernel, by decide +kernel, by decide +kernel, by decide +kernel, by decide +kernel, by decide +kernel, by decide +kernel, by decide +kernel⟩⟩
theorem rows_z : rowsB ⟨0, 0, 0, 4294967296⟩ = false ∧ (rowsM ⟨0, 0, 0, 4294967296⟩).Dg true true false := ⟨by decide +kernel, ⟨by decide +kernel, by decide +kernel, by decide +kernel, by decide +kernel, by decide +kernel, by decide +kernel, by decide +kernel, by decide +kernel, by decide +kernel⟩⟩
end Go.Proofs.YtocdompopadanaaGreat
