/- Package pose: directions that are made long, turned, and made short. -/
import Derived.Test.YtocdompopadanaaPsF
import Derived.Test.YtocdompopadanaaPsG
namespace Go.Proofs.Ytocdompopadanaa
open Go.RowKit Go.Shelf
set_option linter.unusedVariables false

theorem win_in (p : Pt) (m : Int) (h1 : 0 ≤ m) (h2 : m ≤ 9223372036854775807) : p.win m = p.inB m := by
  have e : IntKind.i64.wrap (-m) = -m := by rw [IntKind.wrap_i64]; omega
  unfold Pt.win Pt.le
  rw [e, Bool.eq_iff_iff, Pt.inB_iff]
  simp only [Bool.and_eq_true, decide_eq_true_eq]
  omega
def longF : Nat → Pt → Pt
  | 0, p => p
  | n + 1, p => if p.inB 524288 then longF n (p.plus p) else p
def Pt.long (p : Pt) : Pt := if p = Pt.O then p else longF 20 p
def Pt.big (p : Pt) (n : Nat) : Prop := 2 ^ n ≤ p.x.natAbs ∨ 2 ^ n ≤ p.y.natAbs ∨ 2 ^ n ≤ p.z.natAbs
theorem big_lt {q : Pt} {g : Nat} (hq : q.inB 524288 = true) (hb : q.big (20 - g)) : 1 ≤ g := by
  rw [Pt.inB_iff] at hq
  rcases Nat.eq_zero_or_pos g with rfl | h
  · unfold Pt.big at hb
    simp only [Nat.sub_zero, Nat.reducePow] at hb
    omega
  · exact h
theorem long_step {q : Pt} {g : Nat} (hq : q.inB 524288 = true) (hb : q.big (20 - (g + 1))) (hg : g + 1 ≤ 20) : longF (g + 1) q = longF g (q.plus q) ∧ (q.plus q).big (20 - g) ∧ q.plus q = ⟨2 * q.x, 2 * q.y, 2 * q.z⟩ := by
  have hI := (Pt.inB_iff _ _).1 hq
  have e : q.plus q = ⟨2 * q.x, 2 * q.y, 2 * q.z⟩ := by
    unfold Pt.plus
    congr 1
    · rw [IntKind.wrap_i64]; omega
    · rw [IntKind.wrap_i64]; omega
    · rw [IntKind.wrap_i64]; omega
  refine ⟨by simp [longF, hq], ?_, e⟩
  rw [e]
  unfold Pt.big at *
  have : 20 - g = (20 - (g + 1)) + 1 := by omega
  rw [this, Nat.pow_succ]
  dsimp only
  omega
theorem big_zero {p : Pt} (h : p ≠ Pt.O) : p.big 0 := by
  unfold Pt.big
  apply Classical.byContradiction
  intro hn
  apply h
  obtain ⟨x, y, z⟩ := p
  simp only [Nat.pow_zero] at hn
  have h1 : x = 0 := by omega
  have h2 : y = 0 := by omega
  have h3 : z = 0 := by omega
  rw [h1, h2, h3]; rfl

set_option maxHeartbeats 2000000 in
set_option maxRecDepth 100000 in
theorem long_any (p : Pt) (w0 : World) :
    Calls Try.prog 81 #[p.v] w0 fun e W => e = .returned p.long.v ∧ Below w0.heap.size w0 W := by
  have HX : Hid (∀ q : Pt, ∀ w', Calls Try.prog 58 #[q.v, .int .i64 524288] w' fun e W => e = .returned (.bool (q.inB 524288)) ∧ Below w'.heap.size w' W) := fun q w' => (pwithin_any q 524288 w').mono fun e W h => by rw [win_in _ _ (by decide) (by decide)] at h; exact h
  have HP : Hid (∀ q : Pt, ∀ w', Calls Try.prog 21 #[q.v, q.v] w' fun e W => e = .returned (q.plus q).v ∧ Below w'.heap.size w' W) := fun q w' => pplus_any q q w'
  have bx0 : Hid (Box3 ((w0.alloc (.cells #[.int .i64 p.x, .int .i64 p.y, .int .i64 p.z] 23)).alloc (.cells #[.int .i64 0, .int .i64 0, .int .i64 0] 23)) w0.heap.size p) := (Box3.new w0 p.x p.y p.z _).step (n_after _ _)
  have bx1 : Hid (Box3 ((w0.alloc (.cells #[.int .i64 p.x, .int .i64 p.y, .int .i64 p.z] 23)).alloc (.cells #[.int .i64 0, .int .i64 0, .int .i64 0] 23)) (w0.heap.size + 1) Pt.O) := by have := Box3.new (w0.alloc (.cells #[.int .i64 p.x, .int .i64 p.y, .int .i64 p.z] 23)) 0 0 0 23; rwa [World.size_alloc] at this
  have hB0 : Hid (Below w0.heap.size w0 ((w0.alloc (.cells #[.int .i64 p.x, .int .i64 p.y, .int .i64 p.z] 23)).alloc (.cells #[.int .i64 0, .int .i64 0, .int .i64 0] 23))) := b_step (n_after w0 _) (n_after _ _)
  by_cases hz : p = Pt.O
  · have e9 : p.long = Pt.O := by unfold Pt.long; rw [if_pos hz]; exact hz
    rw [e9]
    subst hz
    unfold Pt.v Pt.O
    dsimp only
    clear bx0 bx1 e9 HX HP
    go_enter Try.func81, Try.ntmps81
    go_wp2_with (fail)
    refine bodyPost_ret (v := .agg #[.int .i64 0, .int .i64 0, .int .i64 0]) (by simp [results, Try.results81, go_sem]) rfl ⟨rfl, ?_⟩
    exact b_step (n_after _ _) (n_after _ _)
  · have e9 : p.long = longF 20 p := by unfold Pt.long; rw [if_neg hz]
    obtain ⟨r, hr⟩ : ∃ r, p.long = r := ⟨_, rfl⟩
    rw [hr]
    have HR : Hid (r = longF 20 p) := by show _ = _; rw [← hr]; exact e9
    have HB0 : Hid (p.big (20 - 20)) := big_zero hz
    have hz3 : p.x = 0 → p.y = 0 → ¬ p.z = 0 := fun a b c => hz (by cases p; simp only [Pt.O] at *; simp [a, b, c])
    clear hr e9 hz
    unfold Pt.v at *
    go_enter Try.func81, Try.ntmps81
    go_upto_region 1 with fail
    obtain ⟨W1, hW1⟩ : ∃ W1, W1 = ((w0.alloc (.cells #[.int .i64 p.x, .int .i64 p.y, .int .i64 p.z] 23)).alloc (.cells #[.int .i64 0, .int .i64 0, .int .i64 0] 23)) := ⟨_, rfl⟩
    rw [← hW1] at bx0 bx1 hB0 ⊢
    clear hW1
    obtain ⟨av, hav⟩ : ∃ av, av = Value.agg #[.int .i64 p.x, .int .i64 p.y, .int .i64 p.z] := ⟨_, rfl⟩
    rw [← hav]
    clear hav
    obtain ⟨c0, c1, c2, f0, f1, f2⟩ := bx0.out
    go_cut [5] from 3 (fun s5 wx => s5 = .bool false ∧ wx = W1)
    case first =>
      go_wp2_with (fail)
      all_goals first
        | (exfalso; exact hz3 (by assumption) (by assumption) (by assumption))
        | (go_meet; case rel => exact ⟨rfl, rfl⟩)
    case rest =>
      obtain ⟨rfl, e9⟩ := hcut
      subst e9
      clear hz3 c0 c1 c2 f0 f1 f2
      go_wp2_with (fail)
      go_loopg [] 20 (fun g wr => ∃ q : Pt, Hid (Box3 wr w0.heap.size q) ∧ Hid (Box3 wr (w0.heap.size + 1) Pt.O) ∧ Hid (Below w0.heap.size w0 wr) ∧ g ≤ 20 ∧ Hid (longF g q = longF 20 p) ∧ Hid (q.big (20 - g)))
      case atStart => exact ⟨p, bx0, bx1, hB0, Nat.le_refl _, rfl, HB0⟩
      case round =>
        clear bx0 bx1 hB0 HB0
        obtain ⟨q, b0, b1, hB, hg, HF, HI⟩ := hrel
        have hG : Hid _ := hg
        clear hg
        obtain ⟨c0, c1, c2, f0, f1, f2⟩ := b0.out
        go_wp2_with (fail)
        refine Calls.mono (HX.out q _) ?_
        rintro e V3 ⟨rfl, hb⟩
        clear c0 c1 c2 f0 f1 f2
        have b0 : Hid _ := b0.out.step hb
        have b1 : Hid _ := b1.out.step hb
        have hB : Hid _ := b_step hB.out hb
        clear hb
        cases hq : q.inB 524288 with
        | true =>
          have h1g := big_lt hq HI.out
          obtain ⟨g', hg'⟩ : ∃ g', gk = g' + 1 := ⟨gk - 1, by omega⟩
          subst hg'
          obtain ⟨s1, s2, s3⟩ := long_step hq HI.out hG.out
          have HJ : Hid _ := And.intro s1 (And.intro s2 s3)
          have HP2 : Hid _ := HP.out q
          clear s1 s2 s3 h1g
          obtain ⟨c0, c1, c2, f0, f1, f2⟩ := b0.out
          go_wp2_with (fail)
          refine Calls.mono (HP2.out _) ?_
          rintro e V4 ⟨rfl, hb⟩
          clear HP2
          have b9 : Hid (Box3 (set3 V4 w0.heap.size (q.plus q).x (q.plus q).y (q.plus q).z) w0.heap.size (q.plus q)) := (b0.out.step hb).set _ _ _
          have b8 : Hid (Box3 (set3 V4 w0.heap.size (q.plus q).x (q.plus q).y (q.plus q).z) (w0.heap.size + 1) Pt.O) := (b1.out.step hb).other (by omega) _ _ _
          have hB9 : Hid (Below w0.heap.size w0 (set3 V4 w0.heap.size (q.plus q).x (q.plus q).y (q.plus q).z)) := set3_below (b_step hB.out hb) (Nat.le_refl _) _ _ _
          have d0 := c_after hb c0
          have d1 := c_after hb c1
          have d2 := c_after hb c2
          have f0 := f_after hb c0 f0
          have f1 := f_after hb c1 f1
          have f2 := f_after hb c2 f2
          unfold set3 at b9 b8 hB9
          clear hb c0 c1 c2 b0 b1 hB
          go_wp2_with (fail)
          go_roundg g'
          case rel => exact ⟨q.plus q, b9, b8, hB9, by have := hG.out; omega, by show _ = _; rw [← HJ.out.1]; exact HF.out, HJ.out.2.1⟩
          case measure => omega
        | false =>
          have e9 : r = q := by rw [HR.out, ← HF.out]; cases gk <;> simp [longF, hq]
          subst e9
          obtain ⟨c0, c1, c2, f0, f1, f2⟩ := b0.out
          obtain ⟨c3, c4, c5, f3, f4, f5⟩ := b1.out
          simp only [Pt.O] at c3 c4 c5
          go_wp2_with (fail)
          refine bodyPost_ret (v := .agg #[.int .i64 r.x, .int .i64 r.y, .int .i64 r.z]) (by simp [results, Try.results81, go_sem, c3, c4, c5]) rfl ⟨rfl, ?_⟩
          exact set3_below hB.out (by omega) r.x r.y r.z

/-- What becomes of a direction; whether something was too great. -/
def M9.dirT (m : M9) (p : Pt) : Pt := (m.turn (p.long.times 4096)).getD Pt.O
def Pt.quo (p : Pt) (n : Int) : Pt := ⟨wrap64 (p.x.tdiv n), wrap64 (p.y.tdiv n), wrap64 (p.z.tdiv n)⟩
def M9.dirV (m : M9) (p : Pt) : Pt := ((m.dirT p).quo 4096).short
def M9.dirB (m : M9) (p : Pt) : Bool := (m.turn (p.long.times 4096)).isNone
set_option maxHeartbeats 2000000 in
set_option maxRecDepth 100000 in
theorem direction_any (fb : Nat) (f : Bool) (m : M9) (t p : Pt) (w0 : World) (hF : Cells w0 fb (frL f m t)) :
    Calls Try.prog 55 #[.pointer (some ⟨fb, 0, none⟩), p.v] w0 fun e W => e = .returned (m.dirV p).v ∧ Hid (After ⟨fb, 0, none⟩ (f || m.dirB p) w0 W) := by
  have HL : Hid _ := fun w' => long_any p w'
  have HT : Hid _ := fun (w : World) (g : Bool) => turned_any fb g m t p.long 4096 w
  have HS : Hid _ := fun w' => short_any ((m.dirT p).quo 4096) w'
  have hlt := hF.lt
  rw [show (m.turn (p.long.times 4096)).getD Pt.O = m.dirT p from rfl, show (m.turn (p.long.times 4096)).isNone = m.dirB p from rfl] at HT
  rw [show m.dirV p = ((m.dirT p).quo 4096).short from rfl]
  generalize ((m.dirT p).quo 4096).short = r at *
  rw [show (m.dirT p).quo 4096 = ⟨wrap64 ((m.dirT p).x.tdiv 4096), wrap64 ((m.dirT p).y.tdiv 4096), wrap64 ((m.dirT p).z.tdiv 4096)⟩ from rfl] at HS
  generalize m.dirT p = q at *
  generalize m.dirB p = bd at *
  generalize p.long = pl at *
  have hF0 : Hid _ := hF
  clear hF
  obtain ⟨x, y, z⟩ := p
  obtain ⟨x1, y1, z1⟩ := pl
  obtain ⟨x2, y2, z2⟩ := q
  obtain ⟨x3, y3, z3⟩ := r
  unfold Pt.v at *
  dsimp only at *
  go_enter Try.func55, Try.ntmps55
  go_wp2_with (fail)
  obtain ⟨V, hV⟩ : ∃ V : World, V = (w0.alloc (.cells #[.int .i64 x, .int .i64 y, .int .i64 z] 23)).alloc (.cells #[.int .i64 0, .int .i64 0, .int .i64 0] 23) := ⟨_, rfl⟩
  obtain ⟨pb, hpb⟩ : ∃ b, b = w0.heap.size := ⟨_, rfl⟩
  obtain ⟨ob, hob'⟩ : ∃ b, b = w0.heap.size + 1 := ⟨_, rfl⟩
  have hBV : Hid (Below w0.heap.size w0 V) := by show Below _ _ _; rw [hV]; exact b_step (n_after _ _) (n_after _ _)
  have B2 : Hid (Box3 V ob Pt.O) := by show Box3 _ _ _; rw [hV, hob']; have := Box3.new (w0.alloc (.cells #[.int .i64 x, .int .i64 y, .int .i64 z] 23)) 0 0 0 23; rwa [World.size_alloc] at this
  rw [← hV, ← hob', ← hpb]
  have hob : w0.heap.size ≤ ob := by omega
  have hof : ob ≠ fb := by omega
  clear hV hpb hob'
  refine Calls.mono (HL.out _) ?_
  rintro e V1 ⟨rfl, hb⟩
  have G1 : Hid (FG w0 fb f m t V1) := (FG.start hF0.out hBV.out).step hb
  have B2 : Hid _ := B2.out.step hb
  clear hb hBV HL
  go_wp2_with (fail)
  refine Calls.mono (HT.out _ _ G1.out.fr) ?_
  rintro e V2 ⟨rfl, A⟩
  have G2 : Hid (FG w0 fb (f || bd) m t V2) := G1.out.after A.out
  have B2 : Hid _ := B2.out.after A.out hof
  clear A G1 HT
  go_wp2_with (fail)
  refine Calls.mono (HS.out _) ?_
  rintro e V3 ⟨rfl, hb⟩
  have G3 : Hid (FG w0 fb (f || bd) m t V3) := (G2.out.step (n_after _ _)).step hb
  have B3 : Hid _ := (B2.out.step (n_after _ _)).step hb
  clear hb G2 B2 HS
  obtain ⟨c0, c1, c2, f0, f1, f2⟩ := B3.out
  simp only [Pt.O] at c0 c1 c2
  go_wp2_with (fail)
  refine bodyPost_ret (v := .agg #[.int .i64 x3, .int .i64 y3, .int .i64 z3]) (by simp [results, Try.results55, go_sem, c0, c1, c2]) rfl ⟨rfl, ?_⟩
  exact (G3.out.set3 x3 y3 z3 hob hof).done

/-- Directions that are turned: those that are not noughts. -/
def M9.dirs (m : M9) (A : List Pt) : List Pt := (A.map m.dirV).filter (fun p => decide (p ≠ Pt.O))
def dirsK (enc : Nat → Pt) (k : Nat) : List Pt := (firsts enc k).filter (fun p => decide (p ≠ Pt.O))
theorem dirsK_yes (enc : Nat → Pt) (k : Nat) (h : enc k ≠ Pt.O) : dirsK enc (k + 1) = dirsK enc k ++ [enc k] := by unfold dirsK; rw [firsts_succ, List.filter_append]; simp [h]
theorem dirsK_no (enc : Nat → Pt) (k : Nat) (h : enc k = Pt.O) : dirsK enc (k + 1) = dirsK enc k := by unfold dirsK; rw [firsts_succ, List.filter_append]; simp [h]
theorem dirsK_length (enc : Nat → Pt) (k : Nat) : (dirsK enc k).length ≤ k := by have := List.length_filter_le (fun p => decide (p ≠ Pt.O)) (firsts enc k); rw [firsts_length] at this; exact this
/-- Whether one of the first k is bad. -/
def anyK (f : Nat → Bool) : Nat → Bool
  | 0 => false
  | k + 1 => anyK f k || f k
theorem anyK_any (Ls : List Pt) (f : Pt → Bool) : anyK (fun k => f (pt Ls k)) Ls.length = Ls.any f := by
  have key : ∀ k, k ≤ Ls.length → anyK (fun k => f (pt Ls k)) k = (Ls.take k).any f := by
    intro k
    induction k with
    | zero => intro _; simp [anyK]
    | succ k ih =>
      intro hk
      rw [List.take_succ_eq_append_getElem (by omega), List.any_append, ← ih (by omega)]
      simp [anyK, pt, List.getElem?_eq_getElem (show k < Ls.length by omega)]
  rw [key _ (Nat.le_refl _), List.take_length]
theorem after_grown {W W' : World} {b : Nat} {g : Bool} (A : After ⟨b, 0, none⟩ g W W') : W.grownBy W' (some b) := ⟨A.kept.1, A.kept.2.1, A.kept.2.2.1, A.size, fun k hk hn => A.kept.2.2.2 k hk (fun e => hn (by rw [e]))⟩
theorem Cells.keepO {S : Nat → Prop} {A B : World} {b : Nat} {vs : List Value} (h : Cells A b vs) (hk : KeepO S A B) (hb : S b) : Cells B b vs := fun i v e =>
  ⟨hk.cell (q := ⟨b, i, none⟩) hb (h i v e).1, (hk.frozen (q := ⟨b, i, none⟩) hb (h i v e).1).trans (h i v e).2⟩
theorem Cells.grew {A B : World} {row : Option Nat} {b : Nat} {vs : List Value} (h : Cells A b vs) (hg : A.grownBy B row) (hb : ∀ r, row = some r → r ≠ b) : Cells B b vs := fun i v e => by
  have hlt := World.block_lt_of_cell? _ _ (h i v e).1
  have hbl := hg.block b hlt (fun e => hb b e.symm rfl)
  exact ⟨(World.cell?_of_block (w := A) hbl).trans (h i v e).1, (World.frozen?_of_block (w := A) hbl).trans (h i v e).2⟩
end Go.Proofs.Ytocdompopadanaa
