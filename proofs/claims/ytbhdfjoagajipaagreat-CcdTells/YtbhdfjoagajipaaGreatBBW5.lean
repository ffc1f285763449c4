/- Package narrow: Apart. -/
import Derived.Test.YtbhdfjoagajipaaGreatBBW4
import Derived.Test.YtbhdfjoagajipaaGreatBBW2
namespace Go.Proofs.YtbhdfjoagajipaaGreat
open Go.RowKit Go.Shelf
attribute [local go_sem] Oper.semAt_some
set_option linter.unusedVariables false

/-- A block's cells, which may be written. -/
def CelW (W : World) (b : Nat) (vs : List Value) : Prop := ∀ i v, vs[i]? = some v → W.cell? ⟨b, i, none⟩ = some v ∧ W.frozen? ⟨b, i, none⟩ = false
theorem CelW.step {A B : World} {b : Nat} {vs : List Value} (h : CelW A b vs) (hb : Below A.heap.size A B) : CelW B b vs := fun i v e => ⟨c_after hb (h i v e).1, f_after hb (h i v e).1 (h i v e).2⟩
theorem CelW.new (w : World) (vs : List Value) (t : TypeId) : CelW (w.alloc (.cells vs.toArray t)) w.heap.size vs := fun i v e => ⟨Cel.new w vs t i v e, by unfold World.frozen?; rw [World.alloc_heap_new]; simp⟩
theorem CelW.cel {W : World} {b : Nat} {vs : List Value} (h : CelW W b vs) : Cel W b vs := fun i v e => (h i v e).1
theorem CelW.lt {W : World} {b : Nat} {u : Value} {vs : List Value} (h : CelW W b (u :: vs)) : b < W.heap.size := h.cel.lt
theorem CelW.grown {A B : World} {b : Nat} {vs : List Value} {row : Option Nat} (h : CelW A b vs) (hg : A.grownBy B row) (hr : row ≠ some b) : CelW B b vs := fun i v e =>
  ⟨hg.cell (h i v e).1 (fun e9 => hr e9.symm), (World.frozen?_of_block (w := A) (hg.block b (World.block_lt_of_cell? _ _ (h i v e).1) (fun e9 => hr e9.symm))).trans (h i v e).2⟩
theorem CelW.set {W : World} {b : Nat} {vs : List Value} (h : CelW W b vs) (j : Nat) (u : Value) (hj : j < vs.length) : CelW (W.setCell ⟨b, j, none⟩ u) b (vs.set j u) := fun i v e => by
  rw [List.getElem?_set] at e
  by_cases hi : j = i
  · subst hi
    simp [hj] at e
    subst e
    obtain ⟨h1, h2⟩ := h j vs[j] (List.getElem?_eq_getElem hj)
    exact ⟨by simp [go_sem, h1], by simp [go_sem, h2]⟩
  · rw [if_neg hi] at e
    obtain ⟨h1, h2⟩ := h i v e
    have hi' : ¬ i = j := fun e => hi e.symm
    exact ⟨by simp [go_sem, h1], by simp [go_sem, h2]⟩
theorem CelW.other {W : World} {b c : Nat} {vs : List Value} (h : CelW W b vs) (hne : b ≠ c) (o : Nat) (u : Value) : CelW (W.setCell ⟨c, o, none⟩ u) b vs := fun i v e => by
  obtain ⟨h1, h2⟩ := h i v e
  exact ⟨by simp [go_sem, h1], by simp [go_sem, h2]⟩

theorem neg_dot2 (n p : Pt) : n.neg.dot p.neg = n.dot p := by unfold Pt.neg Pt.dot; dsimp only; simp only [Int.neg_mul_neg]
theorem dn_neg (n : Pt) : dn n.neg = dn n := by unfold dn; rw [neg_dot2]
/-- Every candidate is long. -/
theorem both_long : ∀ (L : List Pt) (n : Pt), n ∈ both L → n.inB 1048576 = true ∧ 524288 ≤ dn n
  | [], n, h => by simp [both] at h
  | p :: r, n, h => by
    unfold both at h
    split at h
    · exact both_long r n h
    · next hz =>
      rcases List.mem_cons.1 h with rfl | h
      · exact lng_far hz
      · rcases List.mem_cons.1 h with rfl | h
        · rw [neg_in, dn_neg]; exact lng_far hz
        · exact both_long r n h
/-- What is known so far: the boxes' cells. -/
def stA (d : Int) : Bs → List Value
  | none => [.int .i64 0, .int .i64 0, .int .i64 1048576, .int .i64 d]
  | some (m, h) => [.int .i64 m.x, .int .i64 m.y, .int .i64 m.z, .int .i64 h]
def stF (s : Bs) : Bool := s.isSome
theorem best_next (g : Pt → Int) (T : List Pt) {k : Nat} (h : k < T.length) : bestL g none (T.take (k + 1)) = bestS g (bestL g none (T.take k)) (pt T k) := by
  unfold bestL
  rw [take_pt h, List.foldl_append]
  rfl
structure SA (w0 w2 : World) (rb bb fb : Nat) (d : Int) (s : Bs) (V : World) : Prop where
  best : CelW V bb (stA d s)
  found : CelW V fb [.bool (stF s)]
  res : CelW V rb [.int .i64 0, .int .i64 0, .int .i64 0, .int .i64 0]
  keep : KeepC (fun b => b ≠ bb ∧ b ≠ fb) w2 V
  below : Below w0.heap.size w0 V
theorem SA.step {w0 w2 : World} {rb bb fb : Nat} {d : Int} {s : Bs} {A B : World} (h : SA w0 w2 rb bb fb d s A) (hb : Below A.heap.size A B) : SA w0 w2 rb bb fb d s B :=
  ⟨h.best.step hb, h.found.step hb, h.res.step hb, h.keep.trans (KeepC.below hb), b_step h.below hb⟩
theorem may_facts {c : Cr} (h : mayC c = true) : 0 < c.P.length ∧ (∀ p ∈ c.P, p.inB 16777216 = true) ∧ (∀ p ∈ c.E, p.inB 1048576 = true) ∧ (0 ≤ c.r ∧ c.r ≤ 65536) := by
  unfold mayC at h
  simp only [Bool.and_eq_true, decide_eq_true_eq, List.all_eq_true] at h
  exact ⟨by omega, h.1.1.1.2, h.1.2.2, h.2⟩
theorem SA.own {w0 w2 : World} {rb bb fb : Nat} {d : Int} {s : Bs} {A B : World} {row : Option Nat} (h : SA w0 w2 rb bb fb d s A) (hg : A.grownBy B row) (hr : ∀ r, row = some r → w2.heap.size ≤ r ∧ ∃ o : Obj, A.heap[r]? = some o ∧ o.isCells = false) (h1 : bb < w2.heap.size) (h2 : fb < w2.heap.size) (h4 : rb < w2.heap.size) (h3 : w0.heap.size ≤ w2.heap.size) : SA w0 w2 rb bb fb d s B :=
  ⟨h.best.grown hg (fun e => by have := (hr _ e).1; omega), h.found.grown hg (fun e => by have := (hr _ e).1; omega), h.res.grown hg (fun e => by have := (hr _ e).1; omega), h.keep.own hg hr, h.below.grown hg h.below.size (fun k e => by have := (hr k e).1; omega)⟩
theorem lies_lt {w : World} {v : Value} {L : List Pt} (h : Lies w v L) : ∀ q n c, v = .slice (some q) n c → L ≠ [] → q.block < w.heap.size := fun q n c e hne => by
  obtain ⟨o, k, e2, _, _, h9⟩ := h.form
  rw [e] at e2
  cases e2
  obtain ⟨g, f, e3, x0, _⟩ := h9 0 (List.length_pos_iff.2 hne)
  cases e3
  exact World.block_lt_of_cell? _ _ x0
def set5 (V : World) (bb fb : Nat) (x y z g : Int) : World := ((((V.setCell ⟨bb, 0, none⟩ (.int .i64 x)).setCell ⟨bb, 1, none⟩ (.int .i64 y)).setCell ⟨bb, 2, none⟩ (.int .i64 z)).setCell ⟨bb, 3, none⟩ (.int .i64 g)).setCell ⟨fb, 0, none⟩ (.bool true)
theorem stA_len (d : Int) (s : Bs) : (stA d s).length = 4 := by cases s <;> rfl
theorem stA_set (d : Int) (s : Bs) (x y z g : Int) : ((((stA d s).set 0 (.int .i64 x)).set 1 (.int .i64 y)).set 2 (.int .i64 z)).set 3 (.int .i64 g) = [.int .i64 x, .int .i64 y, .int .i64 z, .int .i64 g] := by cases s <;> rfl
theorem SA.put {w0 w2 : World} {rb bb fb : Nat} {d : Int} {s : Bs} {V : World} (h : SA w0 w2 rb bb fb d s V) (hne : bb ≠ fb) (hr1 : rb ≠ bb) (hr2 : rb ≠ fb) (h1 : w0.heap.size ≤ bb) (h2 : w0.heap.size ≤ fb) (x y z g : Int) :
    SA w0 w2 rb bb fb d (some (⟨x, y, z⟩, g)) (set5 V bb fb x y z g) ∧ KeepC (fun b => b ≠ bb ∧ b ≠ fb) V (set5 V bb fb x y z g) ∧ ∀ m, KeepsFrom m V (set5 V bb fb x y z g) := by
  have hl := stA_len d s
  have kc : KeepC (fun b => b ≠ bb ∧ b ≠ fb) V (set5 V bb fb x y z g) := by
    unfold set5
    refine ⟨by simp [World.setCell], fun q v hq hv => ?_⟩
    have e1 : ∀ (X : World) (b o : Nat) (u : Value), q.block ≠ b → X.cell? q = some v → (X.setCell ⟨b, o, none⟩ u).cell? q = some v := fun X b o u hb hx =>
      (World.cell?_of_block (w := X) (Below.heap_setCell _ _ _ q.block hb)).trans hx
    exact e1 _ _ _ _ hq.2 (e1 _ _ _ _ hq.1 (e1 _ _ _ _ hq.1 (e1 _ _ _ _ hq.1 (e1 _ _ _ _ hq.1 hv))))
  refine ⟨⟨?_, ?_, ((((h.res.other hr1 _ _).other hr1 _ _).other hr1 _ _).other hr1 _ _).other hr2 _ _, h.keep.trans kc, ?_⟩, kc, fun m => ?_⟩
  · have h9 := ((((h.best.set 0 (.int .i64 x) (by omega)).set 1 (.int .i64 y) (by simp; omega)).set 2 (.int .i64 z) (by simp; omega)).set 3 (.int .i64 g) (by simp; omega))
    rw [stA_set] at h9
    exact h9.other hne _ _
  · exact (((((h.found.other (Ne.symm hne) _ _).other (Ne.symm hne) _ _).other (Ne.symm hne) _ _).other (Ne.symm hne) _ _).set 0 (.bool true) (by simp))
  · exact ((((h.below.setCell h1 _).setCell h1 _).setCell h1 _).setCell h1 _).setCell h2 _
  · exact ((((((KeepsOthers.setCell V _ _).from m).trans ((KeepsOthers.setCell _ _ _).from m)).trans ((KeepsOthers.setCell _ _ _).from m)).trans ((KeepsOthers.setCell _ _ _).from m)).trans ((KeepsOthers.setCell _ _ _).from m))
/-- What is told. -/
def apartV (a b : Cr) : Value := if mayC a && mayC b then .agg #[.int .i64 (told a b).1.x, .int .i64 (told a b).1.y, .int .i64 (told a b).1.z, .int .i64 (told a b).2] else .agg #[.int .i64 0, .int .i64 0, .int .i64 0, .int .i64 0]

set_option maxRecDepth 100000 in
set_option maxHeartbeats 16000000 in
theorem napart_any (P A E Q B Fl : List Pt) (r s : Int) (va1 va2 va3 vb1 vb2 vb3 : Value) (w0 : World)
    (hP : Lies w0 va1 P) (hA : Lies w0 va2 A) (hE : Lies w0 va3 E) (hQ : Lies w0 vb1 Q) (hB : Lies w0 vb2 B) (hF : Lies w0 vb3 Fl) :
    Calls Tryz.prog 60 #[coreA va1 va2 va3 r, coreA vb1 vb2 vb3 s] w0 fun e W => e = .returned (.tuple #[apartV ⟨P, A, E, r⟩ ⟨Q, B, Fl, s⟩, .bool (mayC ⟨P, A, E, r⟩ && mayC ⟨Q, B, Fl, s⟩)]) ∧ Below w0.heap.size w0 W := by
  have M1 : Hid _ := fun (w' : World) (h : Below w0.heap.size w0 w') => nmay_any ⟨P, A, E, r⟩ va1 va2 va3 w' (hP.below h) (hA.below h) (hE.below h)
  have M2 : Hid _ := fun (w' : World) (h : Below w0.heap.size w0 w') => nmay_any ⟨Q, B, Fl, s⟩ vb1 vb2 vb3 w' (hQ.below h) (hB.below h) (hF.below h)
  have LP : Hid _ := hP
  have LA : Hid _ := hA
  have LE : Hid _ := hE
  have LQ : Hid _ := hQ
  have LB : Hid _ := hB
  have LF : Hid _ := hF
  obtain ⟨o1, k1, rfl, _⟩ := hP.form
  obtain ⟨o2, k2, rfl, _⟩ := hA.form
  obtain ⟨o3, k3, rfl, _⟩ := hE.form
  obtain ⟨o4, k4, rfl, _⟩ := hQ.form
  obtain ⟨o5, k5, rfl, _⟩ := hB.form
  obtain ⟨o6, k6, rfl, _⟩ := hF.form
  clear hP hA hE hQ hB hF
  unfold coreA at *
  dsimp only at *
  obtain ⟨W1, hW1⟩ : ∃ V, V = ((w0.alloc (.cells #[.slice o1 P.length k1, .slice o2 A.length k2, .slice o3 E.length k3, .int .i64 r] 35)).alloc (.cells #[.slice o4 Q.length k4, .slice o5 B.length k5, .slice o6 Fl.length k6, .int .i64 s] 35)).alloc (.cells #[.int .i64 0, .int .i64 0, .int .i64 0, .int .i64 0] 71) := ⟨_, rfl⟩
  have c2 := Cel.two w0 [.slice o1 P.length k1, .slice o2 A.length k2, .slice o3 E.length k3, .int .i64 r] [.slice o4 Q.length k4, .slice o5 B.length k5, .slice o6 Fl.length k6, .int .i64 s] 35 35
  have CA : Hid (Cel W1 w0.heap.size [.slice o1 P.length k1, .slice o2 A.length k2, .slice o3 E.length k3, .int .i64 r]) := by show Cel _ _ _; rw [hW1]; exact c2.1.step (n_after _ _)
  have CB : Hid (Cel W1 (w0.heap.size + 1) [.slice o4 Q.length k4, .slice o5 B.length k5, .slice o6 Fl.length k6, .int .i64 s]) := by show Cel _ _ _; rw [hW1]; exact c2.2.step (n_after _ _)
  have CR : Hid (CelW W1 (w0.heap.size + 1 + 1) [.int .i64 0, .int .i64 0, .int .i64 0, .int .i64 0]) := by show CelW _ _ _; rw [hW1]; have h9 := CelW.new ((w0.alloc (.cells #[.slice o1 P.length k1, .slice o2 A.length k2, .slice o3 E.length k3, .int .i64 r] 35)).alloc (.cells #[.slice o4 Q.length k4, .slice o5 B.length k5, .slice o6 Fl.length k6, .int .i64 s] 35)) [.int .i64 0, .int .i64 0, .int .i64 0, .int .i64 0] 71; rw [World.size_alloc, World.size_alloc] at h9; exact h9
  have HB : Hid (Below w0.heap.size w0 W1) := by show Below _ _ _; rw [hW1]; exact b_step (b_step (n_after _ _) (n_after _ _)) (n_after _ _)
  obtain ⟨ab, hab⟩ : ∃ b, b = w0.heap.size := ⟨_, rfl⟩
  obtain ⟨bb_, hbb_⟩ : ∃ b, b = w0.heap.size + 1 := ⟨_, rfl⟩
  obtain ⟨rb, hrb⟩ : ∃ b, b = w0.heap.size + 1 + 1 := ⟨_, rfl⟩
  have hs1 : W1.heap.size = rb + 1 := by rw [hW1, hrb]; simp
  have hrb0 : w0.heap.size ≤ rb := by omega
  have hlt : ab < bb_ ∧ bb_ < rb := by omega
  rw [← hrb] at CR
  rw [← hbb_] at CB
  rw [← hab] at CA
  have x0 := CA.out 0 _ rfl
  have x1 := CA.out 1 _ rfl
  have x2 := CA.out 2 _ rfl
  have x3 := CA.out 3 _ rfl
  have y0 := CB.out 0 _ rfl
  have y1 := CB.out 1 _ rfl
  have y2 := CB.out 2 _ rfl
  have y3 := CB.out 3 _ rfl
  refine (callsIn_wide (n := 9)).1 ?_
  refine callsIn_of_wp_marks Tryz.func60 rfl trivial ?_ rfl
  simp only [Tryz.ntmps60, List.size_toArray, List.length_cons, List.length_nil, Nat.reduceAdd, Nat.reduceSub, Array.replicate_succ, Array.replicate_zero, List.push_toArray, List.append_toArray, List.nil_append, List.cons_append]
  gi_wp2
  rw [← hW1, ← hrb, ← hbb_, ← hab]
  clear hW1 hab hbb_ hrb
  refine ⟨trivial, (callsIn_wide.2 (M1.out _ HB.out)).mono ?_⟩
  rintro e V1 ⟨rfl, hb1⟩
  have CA : Hid _ := Cel.step CA.out hb1
  have CB : Hid _ := Cel.step CB.out hb1
  have CR : Hid _ := CelW.step CR.out hb1
  have HB : Hid _ := b_step HB.out hb1
  have hs2 : rb < V1.heap.size := CelW.lt CR.out
  clear hb1 x0 x1 x2 x3 y0 y1 y2 y3 M1 hs1
  cases hm1 : mayC ⟨P, A, E, r⟩ with
  | false =>
    have HV : Hid (apartV ⟨P, A, E, r⟩ ⟨Q, B, Fl, s⟩ = .agg #[.int .i64 0, .int .i64 0, .int .i64 0, .int .i64 0]) := by show _ = _; unfold apartV; rw [hm1]; rfl
    have hm1' : Hid _ := hm1
    clear hm1
    obtain ⟨z0, z0'⟩ := CR.out 0 _ rfl
    obtain ⟨z1, z1'⟩ := CR.out 1 _ rfl
    obtain ⟨z2, z2'⟩ := CR.out 2 _ rfl
    obtain ⟨z3, z3'⟩ := CR.out 3 _ rfl
    gi_wp2
    refine ⟨trivial, ?_⟩
    gi_wp2
    exact ⟨.tuple #[.agg #[.int .i64 0, .int .i64 0, .int .i64 0, .int .i64 0], .bool false], by simp [results, Tryz.results60, go_sem, z0, z1, z2, z3], by rw [HV.out, hm1'.out]; rfl, ((((HB.out.setCell hrb0 _).setCell hrb0 _).setCell hrb0 _).setCell hrb0 _)⟩
  | true =>
    have hm1' : Hid _ := hm1
    clear hm1
    have x0 := CA.out 0 _ rfl
    have x1 := CA.out 1 _ rfl
    have x2 := CA.out 2 _ rfl
    have x3 := CA.out 3 _ rfl
    have y0 := CB.out 0 _ rfl
    have y1 := CB.out 1 _ rfl
    have y2 := CB.out 2 _ rfl
    have y3 := CB.out 3 _ rfl
    gi_wp2
    refine ⟨trivial, (callsIn_wide.2 (M2.out _ HB.out)).mono ?_⟩
    rintro e V2 ⟨rfl, hb1⟩
    have CA : Hid _ := Cel.step CA.out hb1
    have CB : Hid _ := Cel.step CB.out hb1
    have CR : Hid _ := CelW.step CR.out hb1
    have HB : Hid _ := b_step HB.out hb1
    have hs2 : rb < V2.heap.size := CelW.lt CR.out
    clear hb1 x0 x1 x2 x3 y0 y1 y2 y3 M2
    cases hm2 : mayC ⟨Q, B, Fl, s⟩ with
    | false =>
      have HV : Hid (apartV ⟨P, A, E, r⟩ ⟨Q, B, Fl, s⟩ = .agg #[.int .i64 0, .int .i64 0, .int .i64 0, .int .i64 0]) := by show _ = _; unfold apartV; rw [hm1'.out, hm2]; rfl
      have hm2' : Hid _ := hm2
      clear hm2
      obtain ⟨z0, z0'⟩ := CR.out 0 _ rfl
      obtain ⟨z1, z1'⟩ := CR.out 1 _ rfl
      obtain ⟨z2, z2'⟩ := CR.out 2 _ rfl
      obtain ⟨z3, z3'⟩ := CR.out 3 _ rfl
      gi_wp2
      exact ⟨.tuple #[.agg #[.int .i64 0, .int .i64 0, .int .i64 0, .int .i64 0], .bool false], by simp [results, Tryz.results60, go_sem, z0, z1, z2, z3], by rw [HV.out, hm1'.out, hm2'.out]; rfl, ((((HB.out.setCell hrb0 _).setCell hrb0 _).setCell hrb0 _).setCell hrb0 _)⟩
    | true =>
      obtain ⟨fp, fi, fe, fr⟩ := may_facts hm1'.out
      obtain ⟨gp, gi_, ge, gr⟩ := may_facts hm2
      dsimp only at fp fi fe fr gp gi_ ge gr
      have hm2' : Hid _ := hm2
      clear hm2
      have x0 := CA.out 0 _ rfl
      have x1 := CA.out 1 _ rfl
      have x2 := CA.out 2 _ rfl
      have x3 := CA.out 3 _ rfl
      have y0 := CB.out 0 _ rfl
      have y1 := CB.out 1 _ rfl
      have y2 := CB.out 2 _ rfl
      have y3 := CB.out 3 _ rfl
      obtain ⟨dd, hdd⟩ : ∃ d, -r - s = d := ⟨_, rfl⟩
      have hdw : IntKind.i64.wrap (-r - s) = dd := by rw [hdd, IntKind.wrap_i64]; omega
      have HDD : Hid _ := hdd
      clear hdd
      have ball := b_step (n_after V2 (.cells #[.int .i64 0, .int .i64 0, .int .i64 1048576, .int .i64 dd] 71)) (n_after (V2.alloc (.cells #[.int .i64 0, .int .i64 0, .int .i64 1048576, .int .i64 dd] 71)) (.cells #[.bool false] 4))
      have x0w := c_after ball x0
      have x1w := c_after ball x1
      have x2w := c_after ball x2
      have x3w := c_after ball x3
      have y0w := c_after ball y0
      have y1w := c_after ball y1
      have y2w := c_after ball y2
      have y3w := c_after ball y3
      gi_wp2
      refine ⟨trivial, (callsIn_wide.2 (ncandidates_in _ _ _ _ _ _ r s _)).mono ?_⟩
      rintro e W9 ⟨rfl, rfl⟩
      gi_wp2
      clear x0 x1 x2 x3 y0 y1 y2 y3 x0w x1w x2w x3w y0w y1w y2w y3w ball
      obtain ⟨W3, hW3⟩ : ∃ V, V = (((V2.alloc (.cells #[.int .i64 0, .int .i64 0, .int .i64 1048576, .int .i64 dd] 71)).alloc (.cells #[.bool false] 4)).alloc (.cells #[.slice o1 P.length k1, .slice o2 A.length k2, .slice o3 E.length k3, .int .i64 r] 35)).alloc (.cells #[.slice o4 Q.length k4, .slice o5 B.length k5, .slice o6 Fl.length k6, .int .i64 s] 35) := ⟨_, rfl⟩
      obtain ⟨bb, hbb⟩ : ∃ b, b = V2.heap.size := ⟨_, rfl⟩
      obtain ⟨fb, hfb⟩ : ∃ b, b = V2.heap.size + 1 := ⟨_, rfl⟩
      obtain ⟨Ba, hBa⟩ : ∃ b, b = V2.heap.size + 1 + 1 := ⟨_, rfl⟩
      obtain ⟨V4, hV4⟩ : ∃ V, V = (V2.alloc (.cells #[.int .i64 0, .int .i64 0, .int .i64 1048576, .int .i64 dd] 71)).alloc (.cells #[.bool false] 4) := ⟨_, rfl⟩
      have hs4 : V4.heap.size = Ba := by rw [hV4, hBa]; simp
      rw [← hV4] at hW3
      have b34 : Below V4.heap.size V4 W3 := by rw [hW3]; exact b_step (n_after _ _) (n_after _ _)
      have b24 : Below V2.heap.size V2 V4 := by rw [hV4]; exact b_step (n_after _ _) (n_after _ _)
      have CB4 : CelW V4 bb [.int .i64 0, .int .i64 0, .int .i64 1048576, .int .i64 dd] := by rw [hV4, hbb]; exact (CelW.new _ _ _).step (n_after _ _)
      have CF4 : CelW V4 fb [.bool false] := by rw [hV4, hfb]; have h9 := CelW.new (V2.alloc (.cells #[.int .i64 0, .int .i64 0, .int .i64 1048576, .int .i64 dd] 71)) [.bool false] 4; rw [World.size_alloc] at h9; exact h9
      have c2 := Cel.two V4 [.slice o1 P.length k1, .slice o2 A.length k2, .slice o3 E.length k3, .int .i64 r] [.slice o4 Q.length k4, .slice o5 B.length k5, .slice o6 Fl.length k6, .int .i64 s] 35 35
      rw [← hW3, hs4] at c2
      have b23 : Below V2.heap.size V2 W3 := b_step b24 b34
      have hs3 : Ba + 1 < W3.heap.size := Cel.lt c2.2
      rw [← hV4, ← hW3, ← hBa, ← hfb, ← hbb]
      have hord : rb < bb ∧ bb < fb ∧ fb < Ba := by omega
      have CA3 : Hid _ := Cel.step CA.out b23
      have CB3 : Hid _ := Cel.step CB.out b23
      have CR3 : Hid _ := CelW.step CR.out b23
      have HB3 : Hid _ := b_step HB.out b23
      have hSA : SA w0 W3 rb bb fb dd (bestL (gapZ P Q r s) none ((both (candL ⟨P, A, E, r⟩ ⟨Q, B, Fl, s⟩)).take 0)) W3 := ⟨CB4.step b34, CF4.step b34, CR3.out, KeepC.refl _ _, HB3.out⟩
      have hw3 : w0.heap.size ≤ W3.heap.size := HB3.out.size
      have hw0 : w0.heap.size ≤ rb := hrb0
      clear hW3 hV4 hbb hfb hBa hs4 b34 b24 b23 CB4 CF4 CA CB CR HB V4
      refine' range_t (n := 9) (by omega) (gf := 136) (lb := #[.pointer (some ⟨Ba, 0, none⟩), .pointer (some ⟨Ba + 1, 0, none⟩)]) rfl (enters_of Tryz.func136 (by kernel_rfl) rfl)
        (ncands_tells (9 - 1) (by omega) Ba (Ba + 1) P A E Q B Fl _ _ _ _ _ _ r s (fun b => b ≠ bb ∧ b ≠ fb) W3 c2.1 c2.2 (LP.out.below HB3.out) (LA.out.below HB3.out) (LE.out.below HB3.out) (LQ.out.below HB3.out) (LB.out.below HB3.out) (LF.out.below HB3.out)
          (fun q m c e h => by have := lies_lt LP.out q m c e h; omega) (fun q m c e h => by have := lies_lt LA.out q m c e h; omega) (fun q m c e h => by have := lies_lt LE.out q m c e h; omega) (fun q m c e h => by have := lies_lt LQ.out q m c e h; omega) (fun q m c e h => by have := lies_lt LB.out q m c e h; omega) (fun q m c e h => by have := lies_lt LF.out q m c e h; omega)
          (by omega) (by omega) (fun b h => by omega) fi gi_ fe ge) rfl
        (fun k V => SA w0 W3 rb bb fb dd (bestL (gapZ P Q r s) none ((both (candL ⟨P, A, E, r⟩ ⟨Q, B, Fl, s⟩)).take k)) V)
        (fun k A B row hs hg hr => hs.own hg hr (by omega) (by omega) (by omega) hw3) hSA _ 23 ?assign ?body ?done
      case assign =>
        intro lq k V nb K hk hnb hK
        unfold Pt.v
        gi_wp2
        rw [← hnb]
        exact hK
      case body =>
        rintro lq k V nb hk hIw hnb hob
        have hS := hIw V ⟨rfl, rfl, rfl, Nat.le_refl _, fun _ _ _ => rfl⟩
        clear hIw
        obtain ⟨hn1, hn2⟩ := both_long _ _ (pt_mem hk)
        have HNX : Hid _ := best_next (gapZ P Q r s) _ hk
        have y0 : V.cell? ⟨nb, 0, none⟩ = some (.int .i64 (pt (both (candL ⟨P, A, E, r⟩ ⟨Q, B, Fl, s⟩)) k).x) := by simp [World.cell?, hob]
        have y1 : V.cell? ⟨nb, 1, none⟩ = some (.int .i64 (pt (both (candL ⟨P, A, E, r⟩ ⟨Q, B, Fl, s⟩)) k).y) := by simp [World.cell?, hob]
        have y2 : V.cell? ⟨nb, 2, none⟩ = some (.int .i64 (pt (both (candL ⟨P, A, E, r⟩ ⟨Q, B, Fl, s⟩)) k).z) := by simp [World.cell?, hob]
        have HGP : Hid _ := ngap_any ⟨P, A, E, r⟩ ⟨Q, B, Fl, s⟩ (pt (both (candL ⟨P, A, E, r⟩ ⟨Q, B, Fl, s⟩)) k) _ _ _ _ _ _ V (LP.out.below hS.below) (LA.out.below hS.below) (LE.out.below hS.below) (LQ.out.below hS.below) (LB.out.below hS.below) (LF.out.below hS.below) fp gp fi gi_ fr gr hn1 (by omega)
        have CAV := Cel.keepC CA3.out hS.keep ⟨by omega, by omega⟩
        have CBV := Cel.keepC CB3.out hS.keep ⟨by omega, by omega⟩
        have a0 := CAV 0 _ rfl
        have a1 := CAV 1 _ rfl
        have a2 := CAV 2 _ rfl
        have a3 := CAV 3 _ rfl
        have e0 := CBV 0 _ rfl
        have e1 := CBV 1 _ rfl
        have e2 := CBV 2 _ rfl
        have e3 := CBV 3 _ rfl
        have HSV : Hid _ := hS
        clear hS CAV CBV hob hn1 hn2 hSA
        dsimp only at HGP
        have HNX2 : Hid (bestL (gapZ P Q r s) none ((both (candL ⟨P, A, E, r⟩ ⟨Q, B, Fl, s⟩)).take (k + 1)) = match bestL (gapZ P Q r s) none ((both (candL ⟨P, A, E, r⟩ ⟨Q, B, Fl, s⟩)).take k) with | none => some (pt (both (candL ⟨P, A, E, r⟩ ⟨Q, B, Fl, s⟩)) k, gapZ P Q r s (pt (both (candL ⟨P, A, E, r⟩ ⟨Q, B, Fl, s⟩)) k)) | some (m, h) => if h < gapZ P Q r s (pt (both (candL ⟨P, A, E, r⟩ ⟨Q, B, Fl, s⟩)) k) then some (pt (both (candL ⟨P, A, E, r⟩ ⟨Q, B, Fl, s⟩)) k, gapZ P Q r s (pt (both (candL ⟨P, A, E, r⟩ ⟨Q, B, Fl, s⟩)) k)) else some (m, h)) := HNX.out
        clear HNX
        generalize gapZ P Q r s (pt (both (candL ⟨P, A, E, r⟩ ⟨Q, B, Fl, s⟩)) k) = gg at *
        generalize bestL (gapZ P Q r s) none ((both (candL ⟨P, A, E, r⟩ ⟨Q, B, Fl, s⟩)).take k) = s1 at *
        generalize pt (both (candL ⟨P, A, E, r⟩ ⟨Q, B, Fl, s⟩)) k = nn at *
        obtain ⟨nx, ny, nz⟩ := nn
        unfold coreA Pt.v at HGP
        dsimp only at *
        gi_wp2
        refine ⟨trivial, CallsIn.mono (CallsIn.inRound lq (callsIn_wide.2 HGP.out)) ?_⟩
        rintro e V5 ⟨rfl, hb5⟩
        have HS5 : Hid _ := HSV.out.step hb5
        have z0 := c_after hb5 y0
        have z1 := c_after hb5 y1
        have z2 := c_after hb5 y2
        have k5 : Hid (KeepC (fun b => (b ≠ bb ∧ b ≠ fb) ∧ b ≠ nb) V V5) := KeepC.below hb5
        have f5 : Hid (KeepsFrom W3.heap.size V V5) := keeps_below hb5
        have hput := HS5.out.put (by omega) (by omega) (by omega) (by omega) (by omega) nx ny nz gg
        have HPU : Hid _ := hput
        clear hput hb5 y0 y1 y2 a0 a1 a2 a3 e0 e1 e2 e3 HGP
        have hbl : bb < V5.heap.size ∧ fb < V5.heap.size := ⟨by have := HS5.out.keep.size; omega, by have := HS5.out.keep.size; omega⟩
        cases s1 with
        | none =>
          have HE9 : Hid (bestL (gapZ P Q r s) none ((both (candL ⟨P, A, E, r⟩ ⟨Q, B, Fl, s⟩)).take (k + 1)) = some (⟨nx, ny, nz⟩, gg)) := HNX2.out
          clear HNX2
          unfold set5 at HPU
          obtain ⟨u0, v0⟩ := HS5.out.best 0 _ rfl
          obtain ⟨u1, v1⟩ := HS5.out.best 1 _ rfl
          obtain ⟨u2, v2⟩ := HS5.out.best 2 _ rfl
          obtain ⟨u3, v3⟩ := HS5.out.best 3 _ rfl
          obtain ⟨u4, v4⟩ := HS5.out.found 0 _ rfl
          simp only [stF, Option.isSome] at u4
          have hnf : fb ≠ bb := by omega
          gi_wp2
          exact ⟨f5.out.trans (HPU.out.2.2 _), k5.out.trans (HPU.out.2.1.mono (fun b h => h.1)), by dsimp only; rw [HE9.out]; exact HPU.out.1⟩
        | some mh =>
          obtain ⟨⟨mx, my, mz⟩, h⟩ := mh
          obtain ⟨u0, v0⟩ := HS5.out.best 0 _ rfl
          obtain ⟨u1, v1⟩ := HS5.out.best 1 _ rfl
          obtain ⟨u2, v2⟩ := HS5.out.best 2 _ rfl
          obtain ⟨u3, v3⟩ := HS5.out.best 3 _ rfl
          obtain ⟨u4, v4⟩ := HS5.out.found 0 _ rfl
          simp only [stF, Option.isSome] at u4
          dsimp only at u0 u1 u2 u3 HNX2
          have hnf : fb ≠ bb := by omega
          by_cases hlt9 : h < gg
          · have HE9 : Hid (bestL (gapZ P Q r s) none ((both (candL ⟨P, A, E, r⟩ ⟨Q, B, Fl, s⟩)).take (k + 1)) = some (⟨nx, ny, nz⟩, gg)) := by show _ = _; rw [HNX2.out, if_pos hlt9]
            clear HNX2
            unfold set5 at HPU
            gi_wp2
            exact ⟨f5.out.trans (HPU.out.2.2 _), k5.out.trans (HPU.out.2.1.mono (fun b h => h.1)), by dsimp only; rw [HE9.out]; exact HPU.out.1⟩
          · have HE9 : Hid (bestL (gapZ P Q r s) none ((both (candL ⟨P, A, E, r⟩ ⟨Q, B, Fl, s⟩)).take (k + 1)) = some (⟨mx, my, mz⟩, h)) := by show _ = _; rw [HNX2.out, if_neg hlt9]
            clear HNX2
            gi_wp2
            exact ⟨f5.out, k5.out, by dsimp only; rw [HE9.out]; exact HS5.out⟩
      case done =>
        rintro D V hD hS hKD
        rw [List.take_length] at hS
        have hD' : rb < D := by omega
        have HV : Hid (∀ x y z g, stA dd (bestL (gapZ P Q r s) none (both (candL ⟨P, A, E, r⟩ ⟨Q, B, Fl, s⟩))) = [.int .i64 x, .int .i64 y, .int .i64 z, .int .i64 g] → apartV ⟨P, A, E, r⟩ ⟨Q, B, Fl, s⟩ = .agg #[.int .i64 x, .int .i64 y, .int .i64 z, .int .i64 g]) := fun x y z g h => by
          unfold apartV told
          rw [hm1'.out, hm2'.out]
          dsimp only
          cases hb : bestL (gapZ P Q r s) none (both (candL ⟨P, A, E, r⟩ ⟨Q, B, Fl, s⟩)) with
          | none =>
            rw [hb] at h
            simp only [stA, List.cons.injEq, Value.int.injEq, true_and, and_true] at h
            obtain ⟨rfl, rfl, rfl, rfl⟩ := h
            have := HDD.out
            simp [this]
          | some mh =>
            rw [hb] at h
            simp only [stA, List.cons.injEq, Value.int.injEq, true_and, and_true] at h
            obtain ⟨rfl, rfl, rfl, rfl⟩ := h
            rfl
        obtain ⟨x, y, z, g, hst⟩ : ∃ x y z g, stA dd (bestL (gapZ P Q r s) none (both (candL ⟨P, A, E, r⟩ ⟨Q, B, Fl, s⟩))) = [.int .i64 x, .int .i64 y, .int .i64 z, .int .i64 g] := by
          cases bestL (gapZ P Q r s) none (both (candL ⟨P, A, E, r⟩ ⟨Q, B, Fl, s⟩)) with
          | none => exact ⟨_, _, _, _, rfl⟩
          | some mh => exact ⟨_, _, _, _, rfl⟩
        have HVV : Hid _ := HV.out x y z g hst
        have hbest := hS.best
        rw [hst] at hbest
        obtain ⟨u0, _⟩ := hbest 0 _ rfl
        obtain ⟨u1, _⟩ := hbest 1 _ rfl
        obtain ⟨u2, _⟩ := hbest 2 _ rfl
        obtain ⟨u3, _⟩ := hbest 3 _ rfl
        obtain ⟨t0, t0'⟩ := hS.res 0 _ rfl
        obtain ⟨t1, t1'⟩ := hS.res 1 _ rfl
        obtain ⟨t2, t2'⟩ := hS.res 2 _ rfl
        obtain ⟨t3, t3'⟩ := hS.res 3 _ rfl
        have hR9 : Hid _ := (((hS.res.set 0 (.int .i64 x) (by simp)).set 1 (.int .i64 y) (by simp)).set 2 (.int .i64 z) (by simp)).set 3 (.int .i64 g) (by simp)
        have hB9 : Hid (Below w0.heap.size w0 ((((V.setCell ⟨rb, 0, none⟩ (.int .i64 x)).setCell ⟨rb, 1, none⟩ (.int .i64 y)).setCell ⟨rb, 2, none⟩ (.int .i64 z)).setCell ⟨rb, 3, none⟩ (.int .i64 g))) := (((hS.below.setCell hw0 _).setCell hw0 _).setCell hw0 _).setCell hw0 _
        clear hS hbest hst HV
        have hKD9 : Hid ((((((V.setCell ⟨rb, 0, none⟩ (.int .i64 x)).setCell ⟨rb, 1, none⟩ (.int .i64 y)).setCell ⟨rb, 2, none⟩ (.int .i64 z)).setCell ⟨rb, 3, none⟩ (.int .i64 g))).heap[D]? = some (.deferred (some []))) := by
          show _ = _
          have hne : D ≠ rb := by omega
          rw [Below.heap_setCell _ _ _ D hne, Below.heap_setCell _ _ _ D hne, Below.heap_setCell _ _ _ D hne, Below.heap_setCell _ _ _ D hne]
          exact hKD
        have hw9 : w0.heap.size ≤ D := by omega
        gi_wp2
        generalize (((V.setCell ⟨rb, 0, none⟩ (.int .i64 x)).setCell ⟨rb, 1, none⟩ (.int .i64 y)).setCell ⟨rb, 2, none⟩ (.int .i64 z)).setCell ⟨rb, 3, none⟩ (.int .i64 g) = V9 at *
        refine ⟨by simp, .inl ⟨_, _, rfl, run_takeDeferred hKD9.out, ?_⟩⟩
        have hR8 := CelW.grown hR9.out (grownBy_putObj' V9 D (.deferred none)) (fun e => by cases e; omega)
        obtain ⟨q0, _⟩ := hR8 0 (.int .i64 x) rfl
        obtain ⟨q1, _⟩ := hR8 1 (.int .i64 y) rfl
        obtain ⟨q2, _⟩ := hR8 2 (.int .i64 z) rfl
        obtain ⟨q3, _⟩ := hR8 3 (.int .i64 g) rfl
        exact ⟨.tuple #[.agg #[.int .i64 x, .int .i64 y, .int .i64 z, .int .i64 g], .bool true], by simp [results, Tryz.results60, go_sem, q0, q1, q2, q3], by rw [HVV.out, hm1'.out, hm2'.out]; rfl, hB9.out.grown (grownBy_putObj' V9 D (.deferred none)) hB9.out.size (fun k e => by cases e; exact hw9)⟩
end Go.Proofs.YtbhdfjoagajipaaGreat
namespace Go.Proofs.YtbhdfjoagajipaaGreat
open Go.RowKit Go.Shelf
set_option linter.unusedVariables false

theorem dn_x (m : Int) (h : 0 ≤ m) : dn ⟨m, 0, 0⟩ = m ∧ dn ⟨-m, 0, 0⟩ = m ∧ up ⟨m, 0, 0⟩ = m ∧ up ⟨-m, 0, 0⟩ = m := by
  have e1 : Pt.dot ⟨m, 0, 0⟩ ⟨m, 0, 0⟩ = m * m := by unfold Pt.dot; dsimp only; omega
  have e2 : Pt.dot ⟨-m, 0, 0⟩ ⟨-m, 0, 0⟩ = m * m := by unfold Pt.dot; dsimp only; rw [Int.neg_mul_neg]; omega
  have h3 : m * m < (m + 1) * (m + 1) := by rw [Int.add_mul, Int.mul_add]; omega
  have d1 : dn ⟨m, 0, 0⟩ = m := (dn_of (n := ⟨m, 0, 0⟩) h (by rw [e1]; exact Int.le_refl _) (by rw [e1]; exact h3)).symm
  have d2 : dn ⟨-m, 0, 0⟩ = m := (dn_of (n := ⟨-m, 0, 0⟩) h (by rw [e2]; exact Int.le_refl _) (by rw [e2]; exact h3)).symm
  exact ⟨d1, d2, by unfold up; rw [d1, e1, if_pos rfl], by unfold up; rw [d2, e2, if_pos rfl]⟩
theorem ex_short : Pt.short ⟨10, 0, 0⟩ = ⟨1, 0, 0⟩ ∧ Pt.short ⟨1, 0, 0⟩ = ⟨1, 0, 0⟩ := by
  have h : ∀ p : Pt, p.inB 1048576 = true → p.short = p.low.low := fun p hp => by
    unfold Pt.short
    rw [if_pos (inB_mono hp (by decide))]
    unfold Pt.half
    rw [halveF_id _ _ (Pt.low_in hp)]
  rw [h _ (by decide), h _ (by decide)]
  decide
theorem ex_lng : Pt.lng ⟨1, 0, 0⟩ = ⟨1048576, 0, 0⟩ := by
  unfold Pt.lng
  rw [ex_short.2, if_neg (by decide)]
  simp [lngF, Pt.inB, Pt.dbl]
theorem told_of {a b : Cr} {x : Pt × Int} (h : bestL (gapZ a.P b.P a.r b.r) none (both (candL a b)) = some x) : told a b = x := by unfold told; rw [h]
theorem lies_nil9 (w : World) : Lies w (.slice none 0 0) [] := ⟨none, 0, rfl, Nat.le_refl _, by omega, fun i hi => by simp at hi⟩
theorem lies_one9 {W : World} {b : Nat} {p : Pt} (h : Cel W b [.int .i64 p.x, .int .i64 p.y, .int .i64 p.z]) : Lies W (.slice (some ⟨b, 0, none⟩) 1 1) [p] := by
  refine ⟨_, 1, rfl, Nat.le_refl _, by omega, fun i hi => ⟨b, 0, rfl, ?_⟩⟩
  have e : i = 0 := by simp at hi; exact hi
  subst e
  exact ⟨h 0 _ rfl, h 1 _ rfl, h 2 _ rfl⟩

end Go.Proofs.YtbhdfjoagajipaaGreat
namespace Go.Proofs.YtbhdfjoagajipaaGreat
set_option linter.unusedVariables false

def Pt.mov (p q : Pt) : Pt := ⟨p.x + q.x, p.y + q.y, p.z + q.z⟩
/-- The way by a part. -/
def wayBy (w : Pt) (k : Int) : Pt := ⟨(w.x * k).tdiv 16, (w.y * k).tdiv 16, (w.z * k).tdiv 16⟩
def goB (a : Cr) (w : Pt) : Bool := decide (1 ≤ a.P.length ∧ a.P.length ≤ 16) && a.P.all (·.inB 16777216) && (decide (a.A.length ≤ 128) && a.A.all (·.inB 1048576)) && (decide (a.E.length ≤ 128) && a.E.all (·.inB 1048576)) && decide (0 ≤ a.r ∧ a.r ≤ 65536) && w.inB 4194304
def keepD (L : List Pt) : List Pt := (L.filter (fun p => decide (p ≠ Pt.O))).take 128
def nilC : Cr := ⟨[], [], [], 0⟩
def trailC (a : Cr) (w : Pt) (k : Int) : Cr :=
  if goB a w && decide (0 ≤ k ∧ k ≤ 16) then ⟨a.P ++ a.P.map (·.mov (wayBy w k)), keepD (a.A ++ a.E.map (fun e => (e.cross w.short).short)), keepD (a.E ++ [w.short]), a.r⟩ else nilC
/-- What Apart tells, whatever it is asked of. -/
def apP (a b : Cr) : Pt × Int := if mayC a && mayC b then told a b else (⟨0, 0, 0⟩, 0)
def castF (a : Cr) (w : Pt) (b : Cr) : Nat → Nat → Pt × Int → Nat × (Pt × Int)
  | 0, k, x => (k, x)
  | n + 1, k, x => if (apP (trailC a w (k + 1)) b).2 < 0 then (k, x) else castF a w b n (k + 1) (apP (trailC a w (k + 1)) b)
def castB (a : Cr) (w : Pt) (b : Cr) : Bool := goB a w && (a.P.map (·.mov w)).all (·.inB 16777216) && mayC b
def castR (a : Cr) (w : Pt) (b : Cr) : Nat × (Pt × Int) := if castB a w b then (if (apP a b).2 < 0 then (0, apP a b) else castF a w b 16 0 (apP a b)) else (0, ⟨0, 0, 0⟩, 0)

theorem go_parts {a : Cr} {w : Pt} (h : goB a w = true) : mayC a = true ∧ a.P.length ≤ 16 ∧ w.inB 4194304 = true ∧ (∀ p ∈ a.P, p.inB 16777216 = true) ∧ (∀ p ∈ a.A, p.inB 1048576 = true) ∧ (∀ p ∈ a.E, p.inB 1048576 = true) := by
  unfold goB at h
  simp only [Bool.and_eq_true, decide_eq_true_eq, List.all_eq_true] at h
  obtain ⟨⟨⟨⟨⟨h1, h2⟩, h3⟩, h4⟩, h5⟩, h6⟩ := h
  refine ⟨?_, h1.2, h6, h2, h3.2, h4.2⟩
  unfold mayC
  simp only [Bool.and_eq_true, decide_eq_true_eq, List.all_eq_true]
  exact ⟨⟨⟨⟨⟨h1.1, by omega⟩, h2⟩, h3⟩, h4⟩, h5⟩
theorem go_of {a : Cr} {w : Pt} (h : mayC a = true) (h2 : a.P.length ≤ 16) (h3 : w.inB 4194304 = true) : goB a w = true := by
  unfold mayC at h
  unfold goB
  simp only [Bool.and_eq_true, decide_eq_true_eq, List.all_eq_true] at h ⊢
  obtain ⟨⟨⟨⟨h1, h4⟩, h5⟩, h6⟩, h7⟩ := h
  exact ⟨⟨⟨⟨⟨⟨h1.1, h2⟩, h4⟩, h5⟩, h6⟩, h7⟩, h3⟩
theorem keep_len (L : List Pt) : (keepD L).length ≤ 128 := by unfold keepD; rw [List.length_take]; omega
theorem keep_mem {L : List Pt} {p : Pt} (h : p ∈ keepD L) : p ∈ L := (List.mem_filter.1 (List.mem_of_mem_take h)).1
theorem part_between {x k : Int} (hk : 0 ≤ k ∧ k ≤ 16) : (0 ≤ x → 0 ≤ (x * k).tdiv 16 ∧ (x * k).tdiv 16 ≤ x) ∧ (x ≤ 0 → x ≤ (x * k).tdiv 16 ∧ (x * k).tdiv 16 ≤ 0) := by
  have key : ∀ y : Int, 0 ≤ y → 0 ≤ (y * k).tdiv 16 ∧ (y * k).tdiv 16 ≤ y := fun y hy => by
    have h0 : 0 ≤ y * k := Int.mul_nonneg hy hk.1
    have h1 : y * k ≤ y * 16 := Int.mul_le_mul_of_nonneg_left hk.2 hy
    rw [Int.tdiv_eq_ediv_of_nonneg h0]
    omega
  refine ⟨key x, fun hx => ?_⟩
  have := key (-x) (by omega)
  rw [Int.neg_mul, Int.neg_tdiv] at this
  omega
theorem mov_between {p w : Pt} {k m : Int} (hk : 0 ≤ k ∧ k ≤ 16) (h0 : p.inB m = true) (h1 : (p.mov w).inB m = true) : (p.mov (wayBy w k)).inB m = true := by
  rw [Pt.inB_iff] at *
  unfold Pt.mov wayBy at *
  dsimp only at *
  have hx := part_between (x := w.x) hk
  have hy := part_between (x := w.y) hk
  have hz := part_between (x := w.z) hk
  omega
theorem wayBy_full (w : Pt) : wayBy w 16 = w := by
  unfold wayBy
  have h : ∀ x : Int, (x * 16).tdiv 16 = x := fun x => Int.mul_tdiv_cancel x (by decide)
  rw [h, h, h]
/-- A Trail may be where its points may be. -/
theorem trail_may {a : Cr} {w : Pt} (h : goB a w = true) {k : Int} (hk : 0 ≤ k ∧ k ≤ 16) : mayC (trailC a w k) = (a.P.map (·.mov (wayBy w k))).all (·.inB 16777216) := by
  obtain ⟨h1, h2, h3, h4, h5, h6⟩ := go_parts h
  have e : trailC a w k = ⟨a.P ++ a.P.map (·.mov (wayBy w k)), keepD (a.A ++ a.E.map (fun e => (e.cross w.short).short)), keepD (a.E ++ [w.short]), a.r⟩ := by unfold trailC; rw [h, decide_eq_true hk]; rfl
  rw [e]
  unfold mayC at h1 ⊢
  dsimp only
  rw [Bool.eq_iff_iff]
  simp only [Bool.and_eq_true, decide_eq_true_eq, List.all_eq_true, List.length_append, List.length_map] at h1 ⊢
  refine ⟨fun g p hp => g.1.1.1.2 p (List.mem_append_right _ hp), fun g => ⟨⟨⟨⟨by omega, fun p hp => ?_⟩, ⟨keep_len _, fun p hp => ?_⟩⟩, ⟨keep_len _, fun p hp => ?_⟩⟩, h1.2⟩⟩
  · rcases List.mem_append.1 hp with hp | hp
    · exact h4 p hp
    · exact g p hp
  · rcases List.mem_append.1 (keep_mem hp) with hp | hp
    · exact h5 p hp
    · obtain ⟨e, _, rfl⟩ := List.mem_map.1 hp
      exact short_in _
  · rcases List.mem_append.1 (keep_mem hp) with hp | hp
    · exact h6 p hp
    · rw [List.mem_singleton.1 hp]
      exact short_in _
theorem trail_of {a b : Cr} {w : Pt} (h : castB a w b = true) {k : Int} (hk : 0 ≤ k ∧ k ≤ 16) : mayC (trailC a w k) = true := by
  unfold castB at h
  simp only [Bool.and_eq_true] at h
  rw [trail_may h.1.1 hk, List.all_eq_true]
  intro p hp
  obtain ⟨q, hq, rfl⟩ := List.mem_map.1 hp
  exact mov_between hk ((go_parts h.1.1).2.2.2.1 q hq) (List.all_eq_true.1 h.1.2 _ (List.mem_map.2 ⟨q, hq, rfl⟩))
theorem cast_parts {a b : Cr} {w : Pt} (h : castB a w b = true) : goB a w = true ∧ mayC a = true ∧ mayC b = true := by
  unfold castB at h
  simp only [Bool.and_eq_true] at h
  exact ⟨h.1.1, (go_parts h.1.1).1, h.2⟩
/-- Two cores along the first axis. -/
theorem told_x {a b : Cr} {g h : Int} {M : List Pt} (hL : both (candL a b) = ⟨1048576, 0, 0⟩ :: ⟨-1048576, 0, 0⟩ :: M) (hM : ∀ n ∈ M, n = ⟨1048576, 0, 0⟩ ∨ n = ⟨-1048576, 0, 0⟩)
    (h1 : room ⟨1048576, 0, 0⟩ a.P b.P = g * 1048576) (h2 : room ⟨-1048576, 0, 0⟩ a.P b.P = h * 1048576) (hg : h ≤ g) : told a b = (⟨1048576, 0, 0⟩, g - a.r - b.r) := by
  obtain ⟨d1, d2, u1, u2⟩ := dn_x 1048576 (by omega)
  have gz : ∀ {n : Pt} {k : Int}, dn n = 1048576 → up n = 1048576 → room n a.P b.P = k * 1048576 → gapZ a.P b.P a.r b.r n = k - a.r - b.r := fun {n k} e1 e2 e3 => by
    unfold gapZ gap0
    rw [e1, e2, e3]
    split
    · next hp => rw [Int.mul_tdiv_cancel _ (by decide)]
    · next hp =>
      rw [Int.tdiv_eq_ediv_of_nonneg (by omega)]
      have : (1048576 - 1 - k * 1048576) / 1048576 = -k := by omega
      rw [this]
      omega
  have e1 := gz d1 u1 h1
  have e2 := gz d2 u2 h2
  apply told_of
  rw [hL]
  have key : ∀ M : List Pt, (∀ n ∈ M, n = (⟨1048576, 0, 0⟩ : Pt) ∨ n = ⟨-1048576, 0, 0⟩) → List.foldl (bestS (gapZ a.P b.P a.r b.r)) (some (⟨1048576, 0, 0⟩, g - a.r - b.r)) M = some (⟨1048576, 0, 0⟩, g - a.r - b.r) := by
    intro M
    induction M with
    | nil => intro _; rfl
    | cons n r ih =>
      intro hn
      rw [List.foldl_cons]
      have : bestS (gapZ a.P b.P a.r b.r) (some (⟨1048576, 0, 0⟩, g - a.r - b.r)) n = some (⟨1048576, 0, 0⟩, g - a.r - b.r) := by
        unfold bestS
        dsimp only
        rcases hn n (List.mem_cons_self ..) with rfl | rfl
        · rw [e1, if_neg (by omega)]
        · rw [e2, if_neg (by omega)]
      rw [this]
      exact ih (fun m hm => hn m (List.mem_cons_of_mem _ hm))
  unfold bestL
  rw [List.foldl_cons]
  have e3 : bestS (gapZ a.P b.P a.r b.r) none ⟨1048576, 0, 0⟩ = some (⟨1048576, 0, 0⟩, g - a.r - b.r) := by unfold bestS; dsimp only; rw [e1]
  rw [e3]
  exact key _ (fun n hn => (List.mem_cons.1 hn).elim Or.inr (hM n))
end Go.Proofs.YtbhdfjoagajipaaGreat
namespace Go.Proofs.YtbhdfjoagajipaaGreat
open Go.RowKit Go.Shelf
set_option linter.unusedVariables false

theorem wbetween_any (n a b : Int) (w : World) :
    Calls Tryz.prog 66 #[.int .i64 n, .int .i64 a, .int .i64 b] w fun e w' => e = .returned (.bool (decide (a ≤ n ∧ n ≤ b))) ∧ w' = w := by
  by_cases h1 : a ≤ n
  · go_enter Tryz.func66, Tryz.ntmps66
    go_wp2
    go_ret
    exact ⟨by simp [h1], rfl⟩
  · go_enter Tryz.func66, Tryz.ntmps66
    go_wp2
    go_ret
    exact ⟨by simp; omega, rfl⟩

set_option maxHeartbeats 1000000 in
theorem wwithin_any (p : Pt) (m : Int) (w : World) (hm : 0 ≤ m) (hm' : m ≤ 1152921504606846976) :
    Calls Tryz.prog 107 #[p.v, .int .i64 m] w fun e W => e = .returned (.bool (p.inB m)) ∧ Below w.heap.size w W := by
  obtain ⟨x, y, z⟩ := p
  have HE : Hid (∀ b : Bool, (b = true ↔ (-m ≤ x ∧ x ≤ m) ∧ (-m ≤ y ∧ y ≤ m) ∧ (-m ≤ z ∧ z ≤ m)) → Pt.inB ⟨x, y, z⟩ m = b) := fun b h => by
    rw [Bool.eq_iff_iff, h, Pt.inB_iff]
  unfold Pt.v
  go_enter Tryz.func107, Tryz.ntmps107
  go_wp2
  all_goals
    go_ret
    exact ⟨congrArg (fun b => Ending.returned (.bool b)) (HE.out _ ⟨fun h => by first | (cases h; done) | omega | (have h' := of_decide_eq_true h; omega), fun h => by first | rfl | (exfalso; omega) | exact decide_eq_true (by omega)⟩).symm, n_after w _⟩
set_option maxHeartbeats 2000000 in
set_option maxRecDepth 100000 in
theorem wall_any (Ls : List Pt) (m : Int) (v : Value) (w : World) (hv : Lies w v Ls) (hm : 0 ≤ m) (hm' : m ≤ 1152921504606846976) :
    Calls Tryz.prog 58 #[v, .int .i64 m] w fun e W => e = .returned (.bool (Ls.all (·.inB m))) ∧ Below w.heap.size w W := by
  obtain ⟨o, cap, rfl, hlc, hcm, hcell⟩ := hv.form
  have HC : Hid _ := hcell
  have HW : Hid _ := fun (p : Pt) (w' : World) => wwithin_any p m w' hm hm'
  clear hv hcell
  go_enter Tryz.func58, Tryz.ntmps58
  go_wp2_with (fail)
  go_loopg [9] Ls.length (fun gm s wr => ∃ i : Nat, s = .int .i64 (i : Int) ∧ i ≤ Ls.length ∧ gm = Ls.length - i ∧ Hid (∀ p ∈ Ls.take i, p.inB m = true) ∧ Hid (Below w.heap.size w wr))
  case atStart => exact ⟨0, rfl, Nat.zero_le _, rfl, by simp [Hid], Below.refl _ _⟩
  case round =>
    obtain ⟨i, rfl, hi, hgm, HT, HB⟩ := hrel
    have HG1 : Hid _ := hgm
    clear hgm
    by_cases hit : i < Ls.length
    · obtain ⟨g, f, rfl, x0, x1, x2⟩ := HC.out i hit
      have y0 := c_after HB.out x0
      have y1 := c_after HB.out x1
      have y2 := c_after HB.out x2
      have HWp : Hid _ := fun w' => HW.out (pt Ls i) w'
      have HTK : Hid (Ls.take (i + 1) = Ls.take i ++ [pt Ls i]) := take_pt hit
      have HM : Hid (pt Ls i ∈ Ls) := pt_mem hit
      generalize pt Ls i = q at *
      obtain ⟨qx, qy, qz⟩ := q
      unfold Pt.v at HWp
      dsimp only at *
      clear x0 x1 x2 HC HW
      go_wp2_with (fail)
      refine Calls.mono (HWp.out _) ?_
      rintro e V ⟨rfl, hb⟩
      have HB2 : Hid _ := b_step HB.out (b_step (n_after _ _) hb)
      clear hb y0 y1 y2
      cases hin : Pt.inB ⟨qx, qy, qz⟩ m with
      | true =>
        have HIN : Hid _ := hin
        clear hin
        go_wp2_with (fail)
        go_roundg (Ls.length - (i + 1))
        case rel =>
          refine ⟨i + 1, by simp, by omega, rfl, fun p hp => ?_, HB2⟩
          rw [HTK.out, List.mem_append] at hp
          rcases hp with hp | hp
          · exact HT.out p hp
          · rw [List.mem_singleton.1 hp]; exact HIN.out
        case measure => have := HG1.out; omega
      | false =>
        have HAL : Hid (Ls.all (·.inB m) = false) := by
          show _ = _
          rw [List.all_eq_false]
          exact ⟨_, HM.out, by rw [hin]; decide⟩
        clear hin
        go_wp2_with (fail)
        go_ret
        exact ⟨by rw [HAL.out]; rfl, HB2.out⟩
    · obtain rfl : i = Ls.length := by omega
      have HAL : Hid (Ls.all (·.inB m) = true) := by
        show _ = _
        rw [List.all_eq_true]
        intro p hp
        exact HT.out p (by rw [List.take_length]; exact hp)
      go_wp2_with (fail)
      go_ret
      exact ⟨by rw [HAL.out]; rfl, HB.out⟩
set_option maxHeartbeats 2000000 in
set_option maxRecDepth 100000 in
theorem wdir_any (Ls : List Pt) (v : Value) (w : World) (hv : Lies w v Ls) :
    Calls Tryz.prog 106 #[v] w fun e W => e = .returned (.bool (decide (Ls.length ≤ 128) && Ls.all (·.inB 1048576))) ∧ Below w.heap.size w W := by
  have HA : Hid _ := fun (w' : World) (h : Lies w' v Ls) => wall_any Ls 1048576 v w' h (by decide) (by decide)
  obtain ⟨o, cap, rfl, hlc, hcm, _⟩ := hv.form
  have HV : Hid _ := hv
  clear hv
  by_cases h : Ls.length ≤ 128
  · have h' : (Ls.length : Int) ≤ 128 := by omega
    have HD : Hid (decide (Ls.length ≤ 128) = true) := decide_eq_true h
    clear h
    go_enter Tryz.func106, Tryz.ntmps106
    go_wp2_with (fail)
    refine Calls.mono (HA.out _ HV.out) ?_
    rintro e V ⟨rfl, hb⟩
    go_wp2_with (fail)
    go_ret
    exact ⟨by rw [HD.out]; rfl, hb⟩
  · have h' : ¬ (Ls.length : Int) ≤ 128 := by omega
    have HD : Hid (decide (Ls.length ≤ 128) = false) := decide_eq_false h
    clear h
    go_enter Tryz.func106, Tryz.ntmps106
    go_wp2_with (fail)
    go_ret
    exact ⟨by rw [HD.out]; rfl, Below.refl _ _⟩
set_option maxHeartbeats 1000000 in
theorem wplus_any (p q : Pt) (w : World) (hp : p.inB 1152921504606846976 = true) (hq : q.inB 1152921504606846976 = true) :
    Calls Tryz.prog 108 #[p.v, q.v] w fun e W => e = .returned (p.mov q).v ∧ Below w.heap.size w W := by
  obtain ⟨x, y, z⟩ := p
  obtain ⟨x', y', z'⟩ := q
  rw [Pt.inB_iff] at hp hq
  unfold Pt.v Pt.mov
  dsimp only at *
  go_enter Tryz.func108, Tryz.ntmps108
  go_wp2
  exact bodyPost_ret (v := .agg #[.int .i64 (x + x'), .int .i64 (y + y'), .int .i64 (z + z')]) (by simp [results, Tryz.results108, go_sem]) rfl ⟨rfl, (((Below.refl _ w).alloc (Nat.le_refl _) _).alloc (by simp) _).alloc (by simp; omega) _⟩
set_option maxHeartbeats 1000000 in
theorem wcross_any (p q : Pt) (w : World) (hp : p.inB 1048576 = true) (hq : q.inB 1048576 = true) :
    Calls Tryz.prog 116 #[p.v, q.v] w fun e W => e = .returned (p.cross q).v ∧ Below w.heap.size w W := by
  obtain ⟨x, y, z⟩ := p
  obtain ⟨x', y', z'⟩ := q
  rw [Pt.inB_iff] at hp hq
  unfold Pt.v Pt.cross
  dsimp only at *
  have h1 := prod_in hp.2.1 hq.2.2 (by decide)
  have h2 := prod_in hp.2.2 hq.2.1 (by decide)
  have h3 := prod_in hp.2.2 hq.1 (by decide)
  have h4 := prod_in hp.1 hq.2.2 (by decide)
  have h5 := prod_in hp.1 hq.2.1 (by decide)
  have h6 := prod_in hp.2.1 hq.1 (by decide)
  clear hp hq
  go_enter Tryz.func116, Tryz.ntmps116
  go_wp2
  refine bodyPost_ret (v := .agg #[.int .i64 (y * z' - z * y'), .int .i64 (z * x' - x * z'), .int .i64 (x * y' - y * x')]) ?_ rfl ⟨rfl, (((Below.refl _ w).alloc (Nat.le_refl _) _).alloc (by simp) _).alloc (by simp; omega) _⟩
  simp [results, Tryz.results116, go_sem]
theorem wayBy_in {p : Pt} {k : Int} (hp : p.inB 4194304 = true) (hk : 0 ≤ k ∧ k ≤ 16) : (wayBy p k).inB 4194304 = true := by
  rw [Pt.inB_iff] at *
  have hx := part_between (x := p.x) hk
  have hy := part_between (x := p.y) hk
  have hz := part_between (x := p.z) hk
  unfold wayBy
  dsimp only
  omega
set_option maxHeartbeats 1000000 in
theorem wpart_any (p : Pt) (k : Int) (w : World) (hp : p.inB 4194304 = true) (hk : 0 ≤ k ∧ k ≤ 16) :
    Calls Tryz.prog 69 #[p.v, .int .i64 k] w fun e W => e = .returned (wayBy p k).v ∧ Below w.heap.size w W := by
  have hin := wayBy_in hp hk
  obtain ⟨x, y, z⟩ := p
  rw [Pt.inB_iff] at hp hin
  unfold wayBy at *
  unfold Pt.v
  dsimp only at *
  have h1 := prod_in (A := 4194304) (B := 16) hp.1 ⟨by omega, hk.2⟩ (by decide)
  have h2 := prod_in (A := 4194304) (B := 16) hp.2.1 ⟨by omega, hk.2⟩ (by decide)
  have h3 := prod_in (A := 4194304) (B := 16) hp.2.2 ⟨by omega, hk.2⟩ (by decide)
  have e1 : wrap64 (x * k) = x * k := w64 (by omega) (by omega)
  have e2 : wrap64 (y * k) = y * k := w64 (by omega) (by omega)
  have e3 : wrap64 (z * k) = z * k := w64 (by omega) (by omega)
  have e4 : wrap64 ((x * k).tdiv 16) = (x * k).tdiv 16 := w64 (by omega) (by omega)
  have e5 : wrap64 ((y * k).tdiv 16) = (y * k).tdiv 16 := w64 (by omega) (by omega)
  have e6 : wrap64 ((z * k).tdiv 16) = (z * k).tdiv 16 := w64 (by omega) (by omega)
  clear hp hin h1 h2 h3
  go_enter Tryz.func69, Tryz.ntmps69
  go_wp2
  exact bodyPost_ret (v := .agg #[.int .i64 ((x * k).tdiv 16), .int .i64 ((y * k).tdiv 16), .int .i64 ((z * k).tdiv 16)]) (by simp [results, Tryz.results69, go_sem, e1, e2, e3, e4, e5, e6]) rfl ⟨rfl, ((Below.refl _ w).alloc (Nat.le_refl _) _).alloc (by simp) _⟩
set_option maxHeartbeats 4000000 in
set_option maxRecDepth 100000 in
theorem wgo_any (c : Cr) (wy : Pt) (pv av ev : Value) (w0 : World) (hp : Lies w0 pv c.P) (ha : Lies w0 av c.A) (he : Lies w0 ev c.E) :
    Calls Tryz.prog 57 #[coreA pv av ev c.r, wy.v] w0 fun e W => e = .returned (.bool (goB c wy)) ∧ Below w0.heap.size w0 W := by
  obtain ⟨P, A, E, r⟩ := c
  dsimp only at *
  obtain ⟨o, cap, rfl, hlc, hcm, _⟩ := hp.form
  obtain ⟨o2, cap2, rfl, _, _, _⟩ := ha.form
  obtain ⟨o3, cap3, rfl, _, _, _⟩ := he.form
  have H1 : Hid _ := fun w' => wbetween_any (P.length : Int) 1 16 w'
  have H2 : Hid _ := fun (w' : World) (h : Below w0.heap.size w0 w') => wall_any P 16777216 _ w' (hp.below h) (by decide) (by decide)
  have H3 : Hid _ := fun (w' : World) (h : Below w0.heap.size w0 w') => wdir_any A _ w' (ha.below h)
  have H4 : Hid _ := fun (w' : World) (h : Below w0.heap.size w0 w') => wdir_any E _ w' (he.below h)
  have H5 : Hid _ := fun w' => wbetween_any r 0 65536 w'
  have H6 : Hid _ := fun w' => wwithin_any wy 4194304 w' (by decide) (by decide)
  have HM : Hid (goB ⟨P, A, E, r⟩ wy = (decide (1 ≤ P.length ∧ P.length ≤ 16) && P.all (·.inB 16777216) && (decide (A.length ≤ 128) && A.all (·.inB 1048576)) && (decide (E.length ≤ 128) && E.all (·.inB 1048576)) && decide (0 ≤ r ∧ r ≤ 65536) && wy.inB 4194304)) := rfl
  have e1 : decide (1 ≤ (P.length : Int) ∧ (P.length : Int) ≤ 16) = decide (1 ≤ P.length ∧ P.length ≤ 16) := by simp only [decide_eq_decide]; omega
  rw [e1] at H1
  clear hp ha he e1
  generalize decide (1 ≤ P.length ∧ P.length ≤ 16) = k1 at *
  generalize P.all (·.inB 16777216) = k2 at *
  generalize (decide (A.length ≤ 128) && A.all (·.inB 1048576)) = k3 at *
  generalize (decide (E.length ≤ 128) && E.all (·.inB 1048576)) = k4 at *
  generalize decide (0 ≤ r ∧ r ≤ 65536) = k5 at *
  generalize wy.inB 4194304 = k6 at *
  obtain ⟨wx, wY, wz⟩ := wy
  unfold Pt.v at *
  unfold coreA at *
  dsimp only at *
  go_enter Tryz.func57, Tryz.ntmps57
  obtain ⟨V, hV⟩ : ∃ V, V = (w0.alloc (.cells #[.slice o P.length cap, .slice o2 A.length cap2, .slice o3 E.length cap3, .int .i64 r] 35)).alloc (.cells #[.int .i64 wx, .int .i64 wY, .int .i64 wz] 23) := ⟨_, rfl⟩
  obtain ⟨cb, hcb⟩ : ∃ b, b = w0.heap.size := ⟨_, rfl⟩
  obtain ⟨wb, hwb⟩ : ∃ b, b = w0.heap.size + 1 := ⟨_, rfl⟩
  have HB : Hid (Below w0.heap.size w0 V) := by show Below _ _ _; rw [hV]; exact b_step (n_after _ _) (n_after _ _)
  have HC : Hid (Cel V cb [.slice o P.length cap, .slice o2 A.length cap2, .slice o3 E.length cap3, .int .i64 r]) := by show Cel _ _ _; rw [hV, hcb]; exact (Cel.new _ [.slice o P.length cap, .slice o2 A.length cap2, .slice o3 E.length cap3, .int .i64 r] _).step (n_after _ _)
  have n2 := Cel.new (w0.alloc (.cells #[.slice o P.length cap, .slice o2 A.length cap2, .slice o3 E.length cap3, .int .i64 r] 35)) [.int .i64 wx, .int .i64 wY, .int .i64 wz] 23
  rw [World.size_alloc] at n2
  have HW : Hid (Cel V wb [.int .i64 wx, .int .i64 wY, .int .i64 wz]) := by show Cel _ _ _; rw [hV, hwb]; exact n2
  clear n2
  go_upto_region 1 with fail
  rw [← hV, ← hwb, ← hcb]
  clear hV hcb hwb
  have q0 := HC.out 0 _ rfl
  go_wp2_with (fail)
  refine Calls.mono (H1.out _) ?_
  rintro e V1 ⟨rfl, rfl⟩
  cases k1 with
  | false =>
    go_wp2_with (fail)
    go_ret
    exact ⟨by rw [HM.out]; rfl, HB.out⟩
  | true =>
    go_wp2_with (fail)
    refine Calls.mono (H2.out _ HB.out) ?_
    rintro e V2 ⟨rfl, hb⟩
    have HC : Hid (Cel _ _ _) := HC.out.step hb
    have HW : Hid (Cel _ _ _) := HW.out.step hb
    have HB : Hid _ := b_step HB.out hb
    have q1 := HC.out 1 _ rfl
    clear hb q0
    cases k2 with
    | false =>
      go_wp2_with (fail)
      go_ret
      exact ⟨by rw [HM.out]; rfl, HB.out⟩
    | true =>
      go_wp2_with (fail)
      refine Calls.mono (H3.out _ HB.out) ?_
      rintro e V3 ⟨rfl, hb⟩
      have HC : Hid (Cel _ _ _) := HC.out.step hb
      have HW : Hid (Cel _ _ _) := HW.out.step hb
      have HB : Hid _ := b_step HB.out hb
      have q2 := HC.out 2 _ rfl
      clear hb q1
      cases k3 with
      | false =>
        go_wp2_with (fail)
        go_ret
        exact ⟨by rw [HM.out]; rfl, HB.out⟩
      | true =>
        go_wp2_with (fail)
        refine Calls.mono (H4.out _ HB.out) ?_
        rintro e V4 ⟨rfl, hb⟩
        have HC : Hid (Cel _ _ _) := HC.out.step hb
        have HW : Hid (Cel _ _ _) := HW.out.step hb
        have HB : Hid _ := b_step HB.out hb
        have q3 := HC.out 3 _ rfl
        clear hb q2
        cases k4 with
        | false =>
          go_wp2_with (fail)
          go_ret
          exact ⟨by rw [HM.out]; rfl, HB.out⟩
        | true =>
          go_wp2_with (fail)
          refine Calls.mono (H5.out _) ?_
          rintro e V5 ⟨rfl, rfl⟩
          have z0 := HW.out 0 _ rfl
          have z1 := HW.out 1 _ rfl
          have z2 := HW.out 2 _ rfl
          clear q3
          cases k5 with
          | false =>
            go_wp2_with (fail)
            go_ret
            exact ⟨by rw [HM.out]; rfl, HB.out⟩
          | true =>
            go_wp2_with (fail)
            refine Calls.mono (H6.out _) ?_
            rintro e V6 ⟨rfl, hb⟩
            have HB : Hid _ := b_step HB.out hb
            go_wp2_with (fail)
            go_ret
            exact ⟨by rw [HM.out]; rfl, HB.out⟩
end Go.Proofs.YtbhdfjoagajipaaGreat
namespace Go.Proofs.YtbhdfjoagajipaaGreat
open Go.RowKit Go.Shelf
set_option linter.unusedVariables false

def cr (L : List Cr) (i : Nat) : Cr := L[i]?.getD nilC
/-- A list of cores that lies in the world. -/
structure LiesC (W : World) (v : Value) (L : List Cr) : Prop where
  form : ∃ o cap, v = .slice o L.length cap ∧ L.length ≤ cap ∧ cap ≤ 9223372036854775807 ∧ ∀ i, i < L.length → ∃ g off pv av ev, o = some ⟨g, off, none⟩ ∧ W.cell? ⟨g, off + i * 4, none⟩ = some pv ∧ W.cell? ⟨g, off + i * 4 + 1, none⟩ = some av ∧ W.cell? ⟨g, off + i * 4 + 2, none⟩ = some ev ∧ W.cell? ⟨g, off + i * 4 + 3, none⟩ = some (.int .i64 (cr L i).r) ∧ Lies W pv (cr L i).P ∧ Lies W av (cr L i).A ∧ Lies W ev (cr L i).E
theorem LiesC.below {w W : World} {v : Value} {L : List Cr} (h : LiesC w v L) (hb : Below w.heap.size w W) : LiesC W v L := by
  obtain ⟨o, cap, e, h1, h2, h3⟩ := h.form
  refine ⟨o, cap, e, h1, h2, fun i hi => ?_⟩
  obtain ⟨g, off, pv, av, ev, e, a, b, c, d, l1, l2, l3⟩ := h3 i hi
  exact ⟨g, off, pv, av, ev, e, c_after hb a, c_after hb b, c_after hb c, c_after hb d, l1.below hb, l2.below hb, l3.below hb⟩
section
variable {T : Type} (tell : Cr → Option T) (lt : T → T → Bool) (L : List Cr)
end
end Go.Proofs.YtbhdfjoagajipaaGreat
namespace Go.Proofs.YtbhdfjoagajipaaGreat
open Go.RowKit Go.Shelf
set_option linter.unusedVariables false

set_option maxHeartbeats 1000000 in
theorem nminus_any (p q : Pt) (w : World) (hp : p.inB 1152921504606846976 = true) (hq : q.inB 1152921504606846976 = true) :
    Calls Tryz.prog 8 #[p.v, q.v] w fun e W => e = .returned (p.sub q).v ∧ Below w.heap.size w W := by
  obtain ⟨x, y, z⟩ := p
  obtain ⟨x', y', z'⟩ := q
  rw [Pt.inB_iff] at hp hq
  unfold Pt.v Pt.sub
  dsimp only at *
  go_enter Tryz.func8, Tryz.ntmps8
  go_wp2
  exact bodyPost_ret (v := .agg #[.int .i64 (x - x'), .int .i64 (y - y'), .int .i64 (z - z')]) (by simp [results, Tryz.results8, go_sem]) rfl ⟨rfl, (((Below.refl _ w).alloc (Nat.le_refl _) _).alloc (by simp) _).alloc (by simp; omega) _⟩
set_option maxHeartbeats 1000000 in
theorem nrdot_any (p q : Pt) (w : World) (hp : p.inB 536870912 = true) (hq : q.inB 536870912 = true) :
    Calls Tryz.prog 130 #[p.v, q.v] w fun e W => e = .returned (.int .i64 (p.dot q)) ∧ Below w.heap.size w W := by
  obtain ⟨x, y, z⟩ := p
  obtain ⟨x', y', z'⟩ := q
  rw [Pt.inB_iff] at hp hq
  unfold Pt.v Pt.dot
  dsimp only at *
  have h1 := prod_in hp.1 hq.1 (by decide)
  have h2 := prod_in hp.2.1 hq.2.1 (by decide)
  have h3 := prod_in hp.2.2 hq.2.2 (by decide)
  clear hp hq
  go_enter Tryz.func130, Tryz.ntmps130
  go_wp2
  go_ret
  exact ⟨rfl, ((Below.refl _ w).alloc (Nat.le_refl _) _).alloc (by simp) _⟩
end Go.Proofs.YtbhdfjoagajipaaGreat
namespace Go.Proofs.YtbhdfjoagajipaaGreat
open Go.RowKit Go.Shelf
set_option linter.unusedVariables false

set_option maxHeartbeats 2000000 in
theorem rin9_any (p : Pt) (m : Int) (w : World) (hm : 0 ≤ m ∧ m ≤ 4611686018427387903) :
    Calls Tryz.prog 146 #[p.v, .int .i64 m] w fun e W => e = .returned (.bool (p.inB m)) ∧ Below w.heap.size w W := by
  have HI : Hid (p.inB m = decide ((-m ≤ p.x ∧ p.x ≤ m) ∧ (-m ≤ p.y ∧ p.y ≤ m) ∧ (-m ≤ p.z ∧ p.z ≤ m))) := rfl
  obtain ⟨R9, hR9⟩ : ∃ R9, p.inB m = R9 := ⟨_, rfl⟩
  rw [hR9] at HI ⊢
  clear hR9
  obtain ⟨x, y, z⟩ := p
  unfold Pt.v
  dsimp only at *
  obtain ⟨mm, hmm⟩ : ∃ mm, IntKind.i64.wrap (-m) = mm := ⟨_, rfl⟩
  have hm9 : mm = -m := by rw [← hmm, IntKind.wrap_i64]; omega
  rw [← hm9] at HI
  have HM : Hid _ := hm
  clear hm9 hm
  by_cases h1 : mm ≤ x
  · by_cases h2 : x ≤ m
    · by_cases h3 : mm ≤ y
      · by_cases h4 : y ≤ m
        · by_cases h5 : mm ≤ z
          · by_cases h6 : z ≤ m
            · have e9 : R9 = true := by rw [HI.out]; simp [h1, h2, h3, h4, h5, h6]
              subst e9
              go_enter Tryz.func146, Tryz.ntmps146
              go_wp2
              go_ret
              exact ⟨rfl, n_after _ _⟩
            · have e9 : R9 = false := by rw [HI.out]; simp [h6]
              subst e9
              go_enter Tryz.func146, Tryz.ntmps146
              go_wp2
              go_ret
              exact ⟨rfl, n_after _ _⟩
          · have e9 : R9 = false := by rw [HI.out]; simp [h5]
            subst e9
            go_enter Tryz.func146, Tryz.ntmps146
            go_wp2
            go_ret
            exact ⟨rfl, n_after _ _⟩
        · have e9 : R9 = false := by rw [HI.out]; simp [h4]
          subst e9
          go_enter Tryz.func146, Tryz.ntmps146
          go_wp2
          go_ret
          exact ⟨rfl, n_after _ _⟩
      · have e9 : R9 = false := by rw [HI.out]; simp [h3]
        subst e9
        go_enter Tryz.func146, Tryz.ntmps146
        go_wp2
        go_ret
        exact ⟨rfl, n_after _ _⟩
    · have e9 : R9 = false := by rw [HI.out]; simp [h2]
      subst e9
      go_enter Tryz.func146, Tryz.ntmps146
      go_wp2
      go_ret
      exact ⟨rfl, n_after _ _⟩
  · have e9 : R9 = false := by rw [HI.out]; simp [h1]
    subst e9
    go_enter Tryz.func146, Tryz.ntmps146
    go_wp2
    go_ret
    exact ⟨rfl, n_after _ _⟩
set_option maxHeartbeats 2000000 in
set_option maxRecDepth 100000 in
theorem rall9_any (Ls : List Pt) (m : Int) (v : Value) (w : World) (hv : Lies w v Ls) (hm : 0 ≤ m) (hm' : m ≤ 1152921504606846976) :
    Calls Tryz.prog 117 #[v, .int .i64 m] w fun e W => e = .returned (.bool (Ls.all (·.inB m))) ∧ Below w.heap.size w W := by
  obtain ⟨o, cap, rfl, hlc, hcm, hcell⟩ := hv.form
  have HC : Hid _ := hcell
  have HW : Hid _ := fun (p : Pt) (w' : World) => rin9_any p m w' ⟨hm, by omega⟩
  clear hv hcell
  go_enter Tryz.func117, Tryz.ntmps117
  go_wp2_with (fail)
  go_loopg [5] Ls.length (fun gm s wr => ∃ i : Nat, s = .int .i64 (i : Int) ∧ i ≤ Ls.length ∧ gm = Ls.length - i ∧ Hid (∀ p ∈ Ls.take i, p.inB m = true) ∧ Hid (Below w.heap.size w wr))
  case atStart => exact ⟨0, rfl, Nat.zero_le _, rfl, by simp [Hid], Below.refl _ _⟩
  case round =>
    obtain ⟨i, rfl, hi, hgm, HT, HB⟩ := hrel
    have HG1 : Hid _ := hgm
    clear hgm
    by_cases hit : i < Ls.length
    · obtain ⟨g, f, rfl, x0, x1, x2⟩ := HC.out i hit
      have y0 := c_after HB.out x0
      have y1 := c_after HB.out x1
      have y2 := c_after HB.out x2
      have HWp : Hid _ := fun w' => HW.out (pt Ls i) w'
      have HTK : Hid (Ls.take (i + 1) = Ls.take i ++ [pt Ls i]) := take_pt hit
      have HM : Hid (pt Ls i ∈ Ls) := pt_mem hit
      generalize pt Ls i = q at *
      obtain ⟨qx, qy, qz⟩ := q
      unfold Pt.v at HWp
      dsimp only at *
      clear x0 x1 x2 HC HW
      go_wp2_with (fail)
      refine Calls.mono (HWp.out _) ?_
      rintro e V ⟨rfl, hb⟩
      have HB2 : Hid _ := b_step HB.out hb
      clear hb y0 y1 y2
      cases hin : Pt.inB ⟨qx, qy, qz⟩ m with
      | true =>
        have HIN : Hid _ := hin
        clear hin
        go_wp2_with (fail)
        go_roundg (Ls.length - (i + 1))
        case rel =>
          refine ⟨i + 1, by simp, by omega, rfl, fun p hp => ?_, HB2⟩
          rw [HTK.out, List.mem_append] at hp
          rcases hp with hp | hp
          · exact HT.out p hp
          · rw [List.mem_singleton.1 hp]; exact HIN.out
        case measure => have := HG1.out; omega
      | false =>
        have HAL : Hid (Ls.all (·.inB m) = false) := by
          show _ = _
          rw [List.all_eq_false]
          exact ⟨_, HM.out, by rw [hin]; decide⟩
        clear hin
        go_wp2_with (fail)
        go_ret
        exact ⟨by rw [HAL.out]; rfl, HB2.out⟩
    · obtain rfl : i = Ls.length := by omega
      have HAL : Hid (Ls.all (·.inB m) = true) := by
        show _ = _
        rw [List.all_eq_true]
        intro p hp
        exact HT.out p (by rw [List.take_length]; exact hp)
      go_wp2_with (fail)
      go_ret
      exact ⟨by rw [HAL.out]; rfl, HB.out⟩
end Go.Proofs.YtbhdfjoagajipaaGreat
namespace Go.Proofs.YtbhdfjoagajipaaGreat
open Go.RowKit Go.Shelf
set_option linter.unusedVariables false

set_option maxHeartbeats 4000000 in
set_option maxRecDepth 100000 in
theorem rsizes9_any (n : Pt) (w : World) :
    Calls Tryz.prog 149 #[n.v] w fun e W => e = .returned (.tuple #[.int .i64 (dnT n), .int .i64 (upT n)]) ∧ Below w.heap.size w W := by
  have HW : Hid _ := fun w' => rin9_any n 16777216 w' (by decide)
  have HD : Hid _ := fun w' (h : n.inB 16777216 = true) => nrdot_any n n w' (inB_mono h (by decide)) (inB_mono h (by decide))
  cases hin : n.inB 16777216 with
  | true =>
    obtain ⟨q0, q1⟩ := dot_rng hin
    have HT1 : Hid (dnT n = dn n) := by show _ = _; simp [dnT, hin]
    have HT2 : Hid (upT n = if dn n * dn n = n.dot n then dn n else dn n + 1) := by show _ = _; simp [upT, up, hin]
    have HDO : Hid (∀ r : Int, 0 ≤ r → r * r ≤ n.dot n → n.dot n < (r + 1) * (r + 1) → r = dn n) := fun r h1 h2 h3 => dn_of h1 h2 h3
    have HW1 : Hid _ := fun w' => HW.out w'
    simp only [hin] at HW1
    have HD1 : Hid _ := fun w' => HD.out w' hin
    clear hin HW HD
    generalize dn n = d at *
    generalize n.dot n = q at *
    obtain ⟨x, y, z⟩ := n
    unfold Pt.v at *
    dsimp only at *
    go_enter Tryz.func149, Tryz.ntmps149
    go_wp2_with (fail)
    refine Calls.mono (HW1.out _) ?_
    rintro e V ⟨rfl, hb⟩
    have B3 : Hid _ := (Box3.new w x y z 23).step hb
    have hB : Hid _ := b_step (n_after w _) hb
    clear hb
    obtain ⟨c0, c1, c2, _, _, _⟩ := B3.out
    go_wp2_with (fail)
    refine Calls.mono (HD1.out _) ?_
    rintro e V2 ⟨rfl, hb⟩
    have hB : Hid _ := b_step hB.out hb
    clear hb c0 c1 c2 B3 HD1 HW1
    go_wp2_with (fail)
    go_loopg [6, 7] 67108864 (fun gm s6 s7 wr => ∃ lo hi : Int, s6 = .int .i64 lo ∧ s7 = .int .i64 hi ∧ wr = V2 ∧ 0 ≤ lo ∧ lo < hi ∧ hi ≤ 67108864 ∧ Hid (gm = (hi - lo).toNat) ∧ Hid (lo * lo ≤ q) ∧ Hid (q < hi * hi))
    case atStart => exact ⟨0, 67108864, rfl, rfl, rfl, by omega, by omega, by omega, by show _ = _; omega, by show _ ≤ _; omega, by show _ < _; omega⟩
    case round =>
      obtain ⟨lo, hi, rfl, rfl, rfl, h0, h1, h2, HG, HL, HH⟩ := hrel
      obtain ⟨k, hk⟩ : ∃ k, hi - lo = k := ⟨_, rfl⟩
      have hkw : IntKind.i64.wrap (hi - lo) = k := by rw [hk, IntKind.wrap_i64]; omega
      have HK : Hid _ := hk
      clear hk
      by_cases hgt : 1 < k
      · obtain ⟨sm, hsm⟩ : ∃ k, lo + hi = k := ⟨_, rfl⟩
        have hsw : IntKind.i64.wrap (lo + hi) = sm := by rw [hsm, IntKind.wrap_i64]; omega
        obtain ⟨mid, hmid⟩ : ∃ c, sm.tdiv 2 = c := ⟨_, rfl⟩
        have hm9 : lo < mid ∧ mid < hi := by
          have := Int.tdiv_eq_ediv_of_nonneg (a := sm) (b := 2) (by omega)
          have := HK.out
          omega
        have hcw : wrap64 mid = mid := w64 (by omega) (by omega)
        have hmm := mul_in (a := mid) (b := mid) (A := 67108864) (B := 67108864) (by omega) (by omega)
        obtain ⟨sq, hsq⟩ : ∃ c, mid * mid = c := ⟨_, rfl⟩
        have hqw : IntKind.i64.wrap (mid * mid) = sq := by rw [hsq, IntKind.wrap_i64]; omega
        have HSQ : Hid _ := hsq
        have HM9 : Hid _ := hm9
        clear hsm hsq hmm hm9
        by_cases hle : sq ≤ q
        · have HQ2 : Hid (mid * mid ≤ q) := by show _ ≤ _; rw [HSQ.out]; exact hle
          go_wp2_with (fail)
          go_roundg ((hi - mid).toNat)
          case rel => have := HM9.out; exact ⟨mid, hi, (by first | rfl | rw [hcw]), rfl, rfl, by omega, by omega, by omega, rfl, HQ2, HH⟩
          case measure => have := HM9.out; have := HG.out; omega
        · have HQ2 : Hid (q < mid * mid) := by show _ < _; rw [HSQ.out]; omega
          go_wp2_with (fail)
          go_roundg ((mid - lo).toNat)
          case rel => have := HM9.out; exact ⟨lo, mid, rfl, (by first | rfl | rw [hcw]), rfl, by omega, by omega, by omega, rfl, HL, HQ2⟩
          case measure => have := HM9.out; have := HG.out; omega
      · have e9 : hi = lo + 1 := by have := HK.out; omega
        have ed : lo = d := HDO.out lo h0 HL.out (by have := HH.out; rw [e9] at this; exact this)
        subst ed
        have hmm := mul_in (a := lo) (b := lo) (A := 67108864) (B := 67108864) (by omega) (by omega)
        obtain ⟨sq, hsq⟩ : ∃ sq, lo * lo = sq := ⟨_, rfl⟩
        have hsw : IntKind.i64.wrap (lo * lo) = sq := by rw [hsq, IntKind.wrap_i64]; omega
        rw [hsq] at HT2
        clear hmm hsq HDO HL HH HG HK e9
        by_cases he : sq = q
        · rw [if_pos he] at HT2
          go_wp2_with (fail)
          exact bodyPost_ret (v := .tuple #[.int .i64 lo, .int .i64 lo]) (by simp [results, Tryz.results149, go_sem]) rfl ⟨by rw [HT1.out, HT2.out], hB.out⟩
        · rw [if_neg he] at HT2
          have hw1 : IntKind.i64.wrap (lo + 1) = lo + 1 := by rw [IntKind.wrap_i64]; omega
          go_wp2_with (fail)
          exact bodyPost_ret (v := .tuple #[.int .i64 lo, .int .i64 (lo + 1)]) (by simp [results, Tryz.results149, go_sem]) rfl ⟨by rw [HT1.out, HT2.out], hB.out⟩
  | false =>
    have HT1 : Hid (dnT n = 0) := by show _ = _; simp [dnT, hin]
    have HT2 : Hid (upT n = 0) := by show _ = _; simp [upT, hin]
    have HW1 : Hid _ := fun w' => HW.out w'
    simp only [hin] at HW1
    clear hin HD HW
    obtain ⟨x, y, z⟩ := n
    unfold Pt.v at *
    dsimp only at *
    go_enter Tryz.func149, Tryz.ntmps149
    go_wp2_with (fail)
    refine Calls.mono (HW1.out _) ?_
    rintro e V ⟨rfl, hb⟩
    have hB : Hid _ := b_step (n_after w _) hb
    clear hb
    go_wp2_with (fail)
    exact bodyPost_ret (v := .tuple #[.int .i64 0, .int .i64 0]) (by simp [results, Tryz.results149, go_sem]) rfl ⟨by rw [HT1.out, HT2.out], hB.out⟩
end Go.Proofs.YtbhdfjoagajipaaGreat
