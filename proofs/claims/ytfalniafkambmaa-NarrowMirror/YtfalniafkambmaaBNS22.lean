/- Package narrow: Apart. -/
import Derived.Test.YtfalniafkambmaaBNS21
import Derived.Test.YtfalniafkambmaaBNS0
import Derived.Test.YtfalniafkambmaaBNS4
import Derived.BigQuiet
import Derived.Test.YtfalniafkambmaaBNS2
import Derived.Test.YtfalniafkambmaaBNS6
namespace Go.Proofs.Ytfalniafkambmaa
open Go.RowKit Go.Shelf
attribute [local go_sem] Oper.semAt_some
set_option linter.unusedVariables false

/-- A block's cells, which may be written. -/
def CelW (W : World) (b : Nat) (vs : List Value) : Prop := ∀ i v, vs[i]? = some v → W.cell? ⟨b, i, none⟩ = some v ∧ W.frozen? ⟨b, i, none⟩ = false
theorem CelW.step {A B : World} {b : Nat} {vs : List Value} (h : CelW A b vs) (hb : Below A.heap.size A B) : CelW B b vs := fun i v e => ⟨c_after hb (h i v e).1, f_after hb (h i v e).1 (h i v e).2⟩
theorem CelW.new (w : World) (vs : List Value) (t : TypeId) : CelW (w.alloc (.cells vs.toArray t)) w.heap.size vs := fun i v e => ⟨Cel.new w vs t i v e, by unfold World.frozen?; rw [World.alloc_heap_new]; simp⟩
theorem CelW.cel {W : World} {b : Nat} {vs : List Value} (h : CelW W b vs) : Cel W b vs := fun i v e => (h i v e).1
theorem CelW.lt {W : World} {b : Nat} {u : Value} {vs : List Value} (h : CelW W b (u :: vs)) : b < W.heap.size := h.cel.lt
theorem CelW.grown {A B : World} {b : Nat} {vs : List Value} {row : Option Nat} (h : CelW A b vs) (hg : A.grownBy B row) (hr : row ≠ some b) : CelW B b vs := fun i v e =>
  ⟨hg.cell (h i v e).1 (fun e9 => hr e9.symm), (World.frozen?_of_block (w := A) (hg.block b (World.block_lt_of_cell? _ _ (h i v e).1) (fun e9 => hr e9.symm))).trans (h i v e).2⟩
theorem CelW.set {W : World} {b : Nat} {vs : List Value} (h : CelW W b vs) (j : Nat) (u : Value) (hj : j < vs.length) : CelW (W.setCell ⟨b, j, none⟩ u) b (vs.set j u) := fun i v e => by
  rw [List.getElem?_set] at e
  by_cases hi : j = i
  · subst hi
    simp [hj] at e
    subst e
    obtain ⟨h1, h2⟩ := h j vs[j] (List.getElem?_eq_getElem hj)
    exact ⟨by simp [go_sem, h1], by simp [go_sem, h2]⟩
  · rw [if_neg hi] at e
    obtain ⟨h1, h2⟩ := h i v e
    have hi' : ¬ i = j := fun e => hi e.symm
    exact ⟨by simp [go_sem, h1], by simp [go_sem, h2]⟩
theorem CelW.other {W : World} {b c : Nat} {vs : List Value} (h : CelW W b vs) (hne : b ≠ c) (o : Nat) (u : Value) : CelW (W.setCell ⟨c, o, none⟩ u) b vs := fun i v e => by
  obtain ⟨h1, h2⟩ := h i v e
  exact ⟨by simp [go_sem, h1], by simp [go_sem, h2]⟩

theorem neg_dot2 (n p : Pt) : n.neg.dot p.neg = n.dot p := by unfold Pt.neg Pt.dot; dsimp only; simp only [Int.neg_mul_neg]
theorem dn_neg (n : Pt) : dn n.neg = dn n := by unfold dn; rw [neg_dot2]
/-- Every candidate is long. -/
theorem both_long : ∀ (L : List Pt) (n : Pt), n ∈ both L → n.inB 1048576 = true ∧ 524288 ≤ dn n
  | [], n, h => by simp [both] at h
  | p :: r, n, h => by
    unfold both at h
    split at h
    · exact both_long r n h
    · next hz =>
      rcases List.mem_cons.1 h with rfl | h
      · exact lng_far hz
      · rcases List.mem_cons.1 h with rfl | h
        · rw [neg_in, dn_neg]; exact lng_far hz
        · exact both_long r n h
/-- What is known so far: the boxes' cells. -/
def stA (d : Int) : Bs → List Value
  | none => [.int .i64 0, .int .i64 0, .int .i64 1048576, .int .i64 d]
  | some (m, h) => [.int .i64 m.x, .int .i64 m.y, .int .i64 m.z, .int .i64 h]
def stF (s : Bs) : Bool := s.isSome
theorem best_next (g : Pt → Int) (T : List Pt) {k : Nat} (h : k < T.length) : bestL g none (T.take (k + 1)) = bestS g (bestL g none (T.take k)) (pt T k) := by
  unfold bestL
  rw [take_pt h, List.foldl_append]
  rfl
structure SA (w0 w2 : World) (rb bb fb : Nat) (d : Int) (s : Bs) (V : World) : Prop where
  best : CelW V bb (stA d s)
  found : CelW V fb [.bool (stF s)]
  res : CelW V rb [.int .i64 0, .int .i64 0, .int .i64 0, .int .i64 0]
  keep : KeepC (fun b => b ≠ bb ∧ b ≠ fb) w2 V
  below : Below w0.heap.size w0 V
theorem SA.step {w0 w2 : World} {rb bb fb : Nat} {d : Int} {s : Bs} {A B : World} (h : SA w0 w2 rb bb fb d s A) (hb : Below A.heap.size A B) : SA w0 w2 rb bb fb d s B :=
  ⟨h.best.step hb, h.found.step hb, h.res.step hb, h.keep.trans (KeepC.below hb), b_step h.below hb⟩
theorem may_facts {c : Cr} (h : mayC c = true) : 0 < c.P.length ∧ (∀ p ∈ c.P, p.inB 16777216 = true) ∧ (∀ p ∈ c.E, p.inB 1048576 = true) ∧ (0 ≤ c.r ∧ c.r ≤ 65536) := by
  unfold mayC at h
  simp only [Bool.and_eq_true, decide_eq_true_eq, List.all_eq_true] at h
  exact ⟨by omega, h.1.1.1.2, h.1.2.2, h.2⟩
theorem SA.own {w0 w2 : World} {rb bb fb : Nat} {d : Int} {s : Bs} {A B : World} {row : Option Nat} (h : SA w0 w2 rb bb fb d s A) (hg : A.grownBy B row) (hr : ∀ r, row = some r → w2.heap.size ≤ r ∧ ∃ o : Obj, A.heap[r]? = some o ∧ o.isCells = false) (h1 : bb < w2.heap.size) (h2 : fb < w2.heap.size) (h4 : rb < w2.heap.size) (h3 : w0.heap.size ≤ w2.heap.size) : SA w0 w2 rb bb fb d s B :=
  ⟨h.best.grown hg (fun e => by have := (hr _ e).1; omega), h.found.grown hg (fun e => by have := (hr _ e).1; omega), h.res.grown hg (fun e => by have := (hr _ e).1; omega), h.keep.own hg hr, h.below.grown hg h.below.size (fun k e => by have := (hr k e).1; omega)⟩
theorem lies_lt {w : World} {v : Value} {L : List Pt} (h : Lies w v L) : ∀ q n c, v = .slice (some q) n c → L ≠ [] → q.block < w.heap.size := fun q n c e hne => by
  obtain ⟨o, k, e2, _, _, h9⟩ := h.form
  rw [e] at e2
  cases e2
  obtain ⟨g, f, e3, x0, _⟩ := h9 0 (List.length_pos_iff.2 hne)
  cases e3
  exact World.block_lt_of_cell? _ _ x0
def set5 (V : World) (bb fb : Nat) (x y z g : Int) : World := ((((V.setCell ⟨bb, 0, none⟩ (.int .i64 x)).setCell ⟨bb, 1, none⟩ (.int .i64 y)).setCell ⟨bb, 2, none⟩ (.int .i64 z)).setCell ⟨bb, 3, none⟩ (.int .i64 g)).setCell ⟨fb, 0, none⟩ (.bool true)
theorem stA_len (d : Int) (s : Bs) : (stA d s).length = 4 := by cases s <;> rfl
theorem stA_set (d : Int) (s : Bs) (x y z g : Int) : ((((stA d s).set 0 (.int .i64 x)).set 1 (.int .i64 y)).set 2 (.int .i64 z)).set 3 (.int .i64 g) = [.int .i64 x, .int .i64 y, .int .i64 z, .int .i64 g] := by cases s <;> rfl
theorem SA.put {w0 w2 : World} {rb bb fb : Nat} {d : Int} {s : Bs} {V : World} (h : SA w0 w2 rb bb fb d s V) (hne : bb ≠ fb) (hr1 : rb ≠ bb) (hr2 : rb ≠ fb) (h1 : w0.heap.size ≤ bb) (h2 : w0.heap.size ≤ fb) (x y z g : Int) :
    SA w0 w2 rb bb fb d (some (⟨x, y, z⟩, g)) (set5 V bb fb x y z g) ∧ KeepC (fun b => b ≠ bb ∧ b ≠ fb) V (set5 V bb fb x y z g) ∧ ∀ m, KeepsFrom m V (set5 V bb fb x y z g) := by
  have hl := stA_len d s
  have kc : KeepC (fun b => b ≠ bb ∧ b ≠ fb) V (set5 V bb fb x y z g) := by
    unfold set5
    refine ⟨by simp [World.setCell], fun q v hq hv => ?_⟩
    have e1 : ∀ (X : World) (b o : Nat) (u : Value), q.block ≠ b → X.cell? q = some v → (X.setCell ⟨b, o, none⟩ u).cell? q = some v := fun X b o u hb hx =>
      (World.cell?_of_block (w := X) (Below.heap_setCell _ _ _ q.block hb)).trans hx
    exact e1 _ _ _ _ hq.2 (e1 _ _ _ _ hq.1 (e1 _ _ _ _ hq.1 (e1 _ _ _ _ hq.1 (e1 _ _ _ _ hq.1 hv))))
  refine ⟨⟨?_, ?_, ((((h.res.other hr1 _ _).other hr1 _ _).other hr1 _ _).other hr1 _ _).other hr2 _ _, h.keep.trans kc, ?_⟩, kc, fun m => ?_⟩
  · have h9 := ((((h.best.set 0 (.int .i64 x) (by omega)).set 1 (.int .i64 y) (by simp; omega)).set 2 (.int .i64 z) (by simp; omega)).set 3 (.int .i64 g) (by simp; omega))
    rw [stA_set] at h9
    exact h9.other hne _ _
  · exact (((((h.found.other (Ne.symm hne) _ _).other (Ne.symm hne) _ _).other (Ne.symm hne) _ _).other (Ne.symm hne) _ _).set 0 (.bool true) (by simp))
  · exact ((((h.below.setCell h1 _).setCell h1 _).setCell h1 _).setCell h1 _).setCell h2 _
  · exact ((((((KeepsOthers.setCell V _ _).from m).trans ((KeepsOthers.setCell _ _ _).from m)).trans ((KeepsOthers.setCell _ _ _).from m)).trans ((KeepsOthers.setCell _ _ _).from m)).trans ((KeepsOthers.setCell _ _ _).from m))
/-- What is told. -/
def apartV (a b : Cr) : Value := if mayC a && mayC b then .agg #[.int .i64 (told a b).1.x, .int .i64 (told a b).1.y, .int .i64 (told a b).1.z, .int .i64 (told a b).2] else .agg #[.int .i64 0, .int .i64 0, .int .i64 0, .int .i64 0]

set_option maxRecDepth 100000 in
set_option maxHeartbeats 16000000 in
theorem napart_any (P A E Q B Fl : List Pt) (r s : Int) (va1 va2 va3 vb1 vb2 vb3 : Value) (w0 : World)
    (hP : Lies w0 va1 P) (hA : Lies w0 va2 A) (hE : Lies w0 va3 E) (hQ : Lies w0 vb1 Q) (hB : Lies w0 vb2 B) (hF : Lies w0 vb3 Fl) :
    Calls Try.prog 7 #[coreA va1 va2 va3 r, coreA vb1 vb2 vb3 s] w0 fun e W => e = .returned (.tuple #[apartV ⟨P, A, E, r⟩ ⟨Q, B, Fl, s⟩, .bool (mayC ⟨P, A, E, r⟩ && mayC ⟨Q, B, Fl, s⟩)]) ∧ Below w0.heap.size w0 W := by
  have M1 : Hid _ := fun (w' : World) (h : Below w0.heap.size w0 w') => nmay_any ⟨P, A, E, r⟩ va1 va2 va3 w' (hP.below h) (hA.below h) (hE.below h)
  have M2 : Hid _ := fun (w' : World) (h : Below w0.heap.size w0 w') => nmay_any ⟨Q, B, Fl, s⟩ vb1 vb2 vb3 w' (hQ.below h) (hB.below h) (hF.below h)
  have LP : Hid _ := hP
  have LA : Hid _ := hA
  have LE : Hid _ := hE
  have LQ : Hid _ := hQ
  have LB : Hid _ := hB
  have LF : Hid _ := hF
  obtain ⟨o1, k1, rfl, _⟩ := hP.form
  obtain ⟨o2, k2, rfl, _⟩ := hA.form
  obtain ⟨o3, k3, rfl, _⟩ := hE.form
  obtain ⟨o4, k4, rfl, _⟩ := hQ.form
  obtain ⟨o5, k5, rfl, _⟩ := hB.form
  obtain ⟨o6, k6, rfl, _⟩ := hF.form
  clear hP hA hE hQ hB hF
  unfold coreA at *
  dsimp only at *
  obtain ⟨W1, hW1⟩ : ∃ V, V = ((w0.alloc (.cells #[.slice o1 P.length k1, .slice o2 A.length k2, .slice o3 E.length k3, .int .i64 r] 36)).alloc (.cells #[.slice o4 Q.length k4, .slice o5 B.length k5, .slice o6 Fl.length k6, .int .i64 s] 36)).alloc (.cells #[.int .i64 0, .int .i64 0, .int .i64 0, .int .i64 0] 40) := ⟨_, rfl⟩
  have c2 := Cel.two w0 [.slice o1 P.length k1, .slice o2 A.length k2, .slice o3 E.length k3, .int .i64 r] [.slice o4 Q.length k4, .slice o5 B.length k5, .slice o6 Fl.length k6, .int .i64 s] 36 36
  have CA : Hid (Cel W1 w0.heap.size [.slice o1 P.length k1, .slice o2 A.length k2, .slice o3 E.length k3, .int .i64 r]) := by show Cel _ _ _; rw [hW1]; exact c2.1.step (n_after _ _)
  have CB : Hid (Cel W1 (w0.heap.size + 1) [.slice o4 Q.length k4, .slice o5 B.length k5, .slice o6 Fl.length k6, .int .i64 s]) := by show Cel _ _ _; rw [hW1]; exact c2.2.step (n_after _ _)
  have CR : Hid (CelW W1 (w0.heap.size + 1 + 1) [.int .i64 0, .int .i64 0, .int .i64 0, .int .i64 0]) := by show CelW _ _ _; rw [hW1]; have h9 := CelW.new ((w0.alloc (.cells #[.slice o1 P.length k1, .slice o2 A.length k2, .slice o3 E.length k3, .int .i64 r] 36)).alloc (.cells #[.slice o4 Q.length k4, .slice o5 B.length k5, .slice o6 Fl.length k6, .int .i64 s] 36)) [.int .i64 0, .int .i64 0, .int .i64 0, .int .i64 0] 40; rw [World.size_alloc, World.size_alloc] at h9; exact h9
  have HB : Hid (Below w0.heap.size w0 W1) := by show Below _ _ _; rw [hW1]; exact b_step (b_step (n_after _ _) (n_after _ _)) (n_after _ _)
  obtain ⟨ab, hab⟩ : ∃ b, b = w0.heap.size := ⟨_, rfl⟩
  obtain ⟨bb_, hbb_⟩ : ∃ b, b = w0.heap.size + 1 := ⟨_, rfl⟩
  obtain ⟨rb, hrb⟩ : ∃ b, b = w0.heap.size + 1 + 1 := ⟨_, rfl⟩
  have hs1 : W1.heap.size = rb + 1 := by rw [hW1, hrb]; simp
  have hrb0 : w0.heap.size ≤ rb := by omega
  have hlt : ab < bb_ ∧ bb_ < rb := by omega
  rw [← hrb] at CR
  rw [← hbb_] at CB
  rw [← hab] at CA
  have x0 := CA.out 0 _ rfl
  have x1 := CA.out 1 _ rfl
  have x2 := CA.out 2 _ rfl
  have x3 := CA.out 3 _ rfl
  have y0 := CB.out 0 _ rfl
  have y1 := CB.out 1 _ rfl
  have y2 := CB.out 2 _ rfl
  have y3 := CB.out 3 _ rfl
  refine (callsIn_wide (n := 9)).1 ?_
  refine callsIn_of_wp_marks Try.func7 rfl trivial ?_ rfl
  simp only [Try.ntmps7, List.size_toArray, List.length_cons, List.length_nil, Nat.reduceAdd, Nat.reduceSub, Array.replicate_succ, Array.replicate_zero, List.push_toArray, List.append_toArray, List.nil_append, List.cons_append]
  gi_wp2
  rw [← hW1, ← hrb, ← hbb_, ← hab]
  clear hW1 hab hbb_ hrb
  refine ⟨trivial, (callsIn_wide.2 (M1.out _ HB.out)).mono ?_⟩
  rintro e V1 ⟨rfl, hb1⟩
  have CA : Hid _ := Cel.step CA.out hb1
  have CB : Hid _ := Cel.step CB.out hb1
  have CR : Hid _ := CelW.step CR.out hb1
  have HB : Hid _ := b_step HB.out hb1
  have hs2 : rb < V1.heap.size := CelW.lt CR.out
  clear hb1 x0 x1 x2 x3 y0 y1 y2 y3 M1 hs1
  cases hm1 : mayC ⟨P, A, E, r⟩ with
  | false =>
    have HV : Hid (apartV ⟨P, A, E, r⟩ ⟨Q, B, Fl, s⟩ = .agg #[.int .i64 0, .int .i64 0, .int .i64 0, .int .i64 0]) := by show _ = _; unfold apartV; rw [hm1]; rfl
    have hm1' : Hid _ := hm1
    clear hm1
    obtain ⟨z0, z0'⟩ := CR.out 0 _ rfl
    obtain ⟨z1, z1'⟩ := CR.out 1 _ rfl
    obtain ⟨z2, z2'⟩ := CR.out 2 _ rfl
    obtain ⟨z3, z3'⟩ := CR.out 3 _ rfl
    gi_wp2
    refine ⟨trivial, ?_⟩
    gi_wp2
    exact ⟨.tuple #[.agg #[.int .i64 0, .int .i64 0, .int .i64 0, .int .i64 0], .bool false], by simp [results, Try.results7, go_sem, z0, z1, z2, z3], by rw [HV.out, hm1'.out]; rfl, ((((HB.out.setCell hrb0 _).setCell hrb0 _).setCell hrb0 _).setCell hrb0 _)⟩
  | true =>
    have hm1' : Hid _ := hm1
    clear hm1
    have x0 := CA.out 0 _ rfl
    have x1 := CA.out 1 _ rfl
    have x2 := CA.out 2 _ rfl
    have x3 := CA.out 3 _ rfl
    have y0 := CB.out 0 _ rfl
    have y1 := CB.out 1 _ rfl
    have y2 := CB.out 2 _ rfl
    have y3 := CB.out 3 _ rfl
    gi_wp2
    refine ⟨trivial, (callsIn_wide.2 (M2.out _ HB.out)).mono ?_⟩
    rintro e V2 ⟨rfl, hb1⟩
    have CA : Hid _ := Cel.step CA.out hb1
    have CB : Hid _ := Cel.step CB.out hb1
    have CR : Hid _ := CelW.step CR.out hb1
    have HB : Hid _ := b_step HB.out hb1
    have hs2 : rb < V2.heap.size := CelW.lt CR.out
    clear hb1 x0 x1 x2 x3 y0 y1 y2 y3 M2
    cases hm2 : mayC ⟨Q, B, Fl, s⟩ with
    | false =>
      have HV : Hid (apartV ⟨P, A, E, r⟩ ⟨Q, B, Fl, s⟩ = .agg #[.int .i64 0, .int .i64 0, .int .i64 0, .int .i64 0]) := by show _ = _; unfold apartV; rw [hm1'.out, hm2]; rfl
      have hm2' : Hid _ := hm2
      clear hm2
      obtain ⟨z0, z0'⟩ := CR.out 0 _ rfl
      obtain ⟨z1, z1'⟩ := CR.out 1 _ rfl
      obtain ⟨z2, z2'⟩ := CR.out 2 _ rfl
      obtain ⟨z3, z3'⟩ := CR.out 3 _ rfl
      gi_wp2
      exact ⟨.tuple #[.agg #[.int .i64 0, .int .i64 0, .int .i64 0, .int .i64 0], .bool false], by simp [results, Try.results7, go_sem, z0, z1, z2, z3], by rw [HV.out, hm1'.out, hm2'.out]; rfl, ((((HB.out.setCell hrb0 _).setCell hrb0 _).setCell hrb0 _).setCell hrb0 _)⟩
    | true =>
      obtain ⟨fp, fi, fe, fr⟩ := may_facts hm1'.out
      obtain ⟨gp, gi_, ge, gr⟩ := may_facts hm2
      dsimp only at fp fi fe fr gp gi_ ge gr
      have hm2' : Hid _ := hm2
      clear hm2
      have x0 := CA.out 0 _ rfl
      have x1 := CA.out 1 _ rfl
      have x2 := CA.out 2 _ rfl
      have x3 := CA.out 3 _ rfl
      have y0 := CB.out 0 _ rfl
      have y1 := CB.out 1 _ rfl
      have y2 := CB.out 2 _ rfl
      have y3 := CB.out 3 _ rfl
      obtain ⟨dd, hdd⟩ : ∃ d, -r - s = d := ⟨_, rfl⟩
      have hdw : IntKind.i64.wrap (-r - s) = dd := by rw [hdd, IntKind.wrap_i64]; omega
      have HDD : Hid _ := hdd
      clear hdd
      have ball := b_step (n_after V2 (.cells #[.int .i64 0, .int .i64 0, .int .i64 1048576, .int .i64 dd] 40)) (n_after (V2.alloc (.cells #[.int .i64 0, .int .i64 0, .int .i64 1048576, .int .i64 dd] 40)) (.cells #[.bool false] 4))
      have x0w := c_after ball x0
      have x1w := c_after ball x1
      have x2w := c_after ball x2
      have x3w := c_after ball x3
      have y0w := c_after ball y0
      have y1w := c_after ball y1
      have y2w := c_after ball y2
      have y3w := c_after ball y3
      gi_wp2
      refine ⟨trivial, (callsIn_wide.2 (ncandidates_in _ _ _ _ _ _ r s _)).mono ?_⟩
      rintro e W9 ⟨rfl, rfl⟩
      gi_wp2
      clear x0 x1 x2 x3 y0 y1 y2 y3 x0w x1w x2w x3w y0w y1w y2w y3w ball
      obtain ⟨W3, hW3⟩ : ∃ V, V = (((V2.alloc (.cells #[.int .i64 0, .int .i64 0, .int .i64 1048576, .int .i64 dd] 40)).alloc (.cells #[.bool false] 4)).alloc (.cells #[.slice o1 P.length k1, .slice o2 A.length k2, .slice o3 E.length k3, .int .i64 r] 36)).alloc (.cells #[.slice o4 Q.length k4, .slice o5 B.length k5, .slice o6 Fl.length k6, .int .i64 s] 36) := ⟨_, rfl⟩
      obtain ⟨bb, hbb⟩ : ∃ b, b = V2.heap.size := ⟨_, rfl⟩
      obtain ⟨fb, hfb⟩ : ∃ b, b = V2.heap.size + 1 := ⟨_, rfl⟩
      obtain ⟨Ba, hBa⟩ : ∃ b, b = V2.heap.size + 1 + 1 := ⟨_, rfl⟩
      obtain ⟨V4, hV4⟩ : ∃ V, V = (V2.alloc (.cells #[.int .i64 0, .int .i64 0, .int .i64 1048576, .int .i64 dd] 40)).alloc (.cells #[.bool false] 4) := ⟨_, rfl⟩
      have hs4 : V4.heap.size = Ba := by rw [hV4, hBa]; simp
      rw [← hV4] at hW3
      have b34 : Below V4.heap.size V4 W3 := by rw [hW3]; exact b_step (n_after _ _) (n_after _ _)
      have b24 : Below V2.heap.size V2 V4 := by rw [hV4]; exact b_step (n_after _ _) (n_after _ _)
      have CB4 : CelW V4 bb [.int .i64 0, .int .i64 0, .int .i64 1048576, .int .i64 dd] := by rw [hV4, hbb]; exact (CelW.new _ _ _).step (n_after _ _)
      have CF4 : CelW V4 fb [.bool false] := by rw [hV4, hfb]; have h9 := CelW.new (V2.alloc (.cells #[.int .i64 0, .int .i64 0, .int .i64 1048576, .int .i64 dd] 40)) [.bool false] 4; rw [World.size_alloc] at h9; exact h9
      have c2 := Cel.two V4 [.slice o1 P.length k1, .slice o2 A.length k2, .slice o3 E.length k3, .int .i64 r] [.slice o4 Q.length k4, .slice o5 B.length k5, .slice o6 Fl.length k6, .int .i64 s] 36 36
      rw [← hW3, hs4] at c2
      have b23 : Below V2.heap.size V2 W3 := b_step b24 b34
      have hs3 : Ba + 1 < W3.heap.size := Cel.lt c2.2
      rw [← hV4, ← hW3, ← hBa, ← hfb, ← hbb]
      have hord : rb < bb ∧ bb < fb ∧ fb < Ba := by omega
      have CA3 : Hid _ := Cel.step CA.out b23
      have CB3 : Hid _ := Cel.step CB.out b23
      have CR3 : Hid _ := CelW.step CR.out b23
      have HB3 : Hid _ := b_step HB.out b23
      have hSA : SA w0 W3 rb bb fb dd (bestL (gapZ P Q r s) none ((both (candL ⟨P, A, E, r⟩ ⟨Q, B, Fl, s⟩)).take 0)) W3 := ⟨CB4.step b34, CF4.step b34, CR3.out, KeepC.refl _ _, HB3.out⟩
      have hw3 : w0.heap.size ≤ W3.heap.size := HB3.out.size
      have hw0 : w0.heap.size ≤ rb := hrb0
      clear hW3 hV4 hbb hfb hBa hs4 b34 b24 b23 CB4 CF4 CA CB CR HB V4
      refine' range_t (n := 9) (by omega) (gf := 47) (lb := #[.pointer (some ⟨Ba, 0, none⟩), .pointer (some ⟨Ba + 1, 0, none⟩)]) rfl (enters_of Try.func47 (by kernel_rfl) rfl)
        (ncands_tells (9 - 1) (by omega) Ba (Ba + 1) P A E Q B Fl _ _ _ _ _ _ r s (fun b => b ≠ bb ∧ b ≠ fb) W3 c2.1 c2.2 (LP.out.below HB3.out) (LA.out.below HB3.out) (LE.out.below HB3.out) (LQ.out.below HB3.out) (LB.out.below HB3.out) (LF.out.below HB3.out)
          (fun q m c e h => by have := lies_lt LP.out q m c e h; omega) (fun q m c e h => by have := lies_lt LA.out q m c e h; omega) (fun q m c e h => by have := lies_lt LE.out q m c e h; omega) (fun q m c e h => by have := lies_lt LQ.out q m c e h; omega) (fun q m c e h => by have := lies_lt LB.out q m c e h; omega) (fun q m c e h => by have := lies_lt LF.out q m c e h; omega)
          (by omega) (by omega) (fun b h => by omega) fi gi_ fe ge) rfl
        (fun k V => SA w0 W3 rb bb fb dd (bestL (gapZ P Q r s) none ((both (candL ⟨P, A, E, r⟩ ⟨Q, B, Fl, s⟩)).take k)) V)
        (fun k A B row hs hg hr => hs.own hg hr (by omega) (by omega) (by omega) hw3) hSA _ 23 ?assign ?body ?done
      case assign =>
        intro lq k V nb K hk hnb hK
        unfold Pt.v
        gi_wp2
        rw [← hnb]
        exact hK
      case body =>
        rintro lq k V nb hk hIw hnb hob
        have hS := hIw V ⟨rfl, rfl, rfl, Nat.le_refl _, fun _ _ _ => rfl⟩
        clear hIw
        obtain ⟨hn1, hn2⟩ := both_long _ _ (pt_mem hk)
        have HNX : Hid _ := best_next (gapZ P Q r s) _ hk
        have y0 : V.cell? ⟨nb, 0, none⟩ = some (.int .i64 (pt (both (candL ⟨P, A, E, r⟩ ⟨Q, B, Fl, s⟩)) k).x) := by simp [World.cell?, hob]
        have y1 : V.cell? ⟨nb, 1, none⟩ = some (.int .i64 (pt (both (candL ⟨P, A, E, r⟩ ⟨Q, B, Fl, s⟩)) k).y) := by simp [World.cell?, hob]
        have y2 : V.cell? ⟨nb, 2, none⟩ = some (.int .i64 (pt (both (candL ⟨P, A, E, r⟩ ⟨Q, B, Fl, s⟩)) k).z) := by simp [World.cell?, hob]
        have HGP : Hid _ := ngap_any ⟨P, A, E, r⟩ ⟨Q, B, Fl, s⟩ (pt (both (candL ⟨P, A, E, r⟩ ⟨Q, B, Fl, s⟩)) k) _ _ _ _ _ _ V (LP.out.below hS.below) (LA.out.below hS.below) (LE.out.below hS.below) (LQ.out.below hS.below) (LB.out.below hS.below) (LF.out.below hS.below) fp gp fi gi_ fr gr hn1 (by omega)
        have CAV := Cel.keepC CA3.out hS.keep ⟨by omega, by omega⟩
        have CBV := Cel.keepC CB3.out hS.keep ⟨by omega, by omega⟩
        have a0 := CAV 0 _ rfl
        have a1 := CAV 1 _ rfl
        have a2 := CAV 2 _ rfl
        have a3 := CAV 3 _ rfl
        have e0 := CBV 0 _ rfl
        have e1 := CBV 1 _ rfl
        have e2 := CBV 2 _ rfl
        have e3 := CBV 3 _ rfl
        have HSV : Hid _ := hS
        clear hS CAV CBV hob hn1 hn2 hSA
        dsimp only at HGP
        have HNX2 : Hid (bestL (gapZ P Q r s) none ((both (candL ⟨P, A, E, r⟩ ⟨Q, B, Fl, s⟩)).take (k + 1)) = match bestL (gapZ P Q r s) none ((both (candL ⟨P, A, E, r⟩ ⟨Q, B, Fl, s⟩)).take k) with | none => some (pt (both (candL ⟨P, A, E, r⟩ ⟨Q, B, Fl, s⟩)) k, gapZ P Q r s (pt (both (candL ⟨P, A, E, r⟩ ⟨Q, B, Fl, s⟩)) k)) | some (m, h) => if h < gapZ P Q r s (pt (both (candL ⟨P, A, E, r⟩ ⟨Q, B, Fl, s⟩)) k) then some (pt (both (candL ⟨P, A, E, r⟩ ⟨Q, B, Fl, s⟩)) k, gapZ P Q r s (pt (both (candL ⟨P, A, E, r⟩ ⟨Q, B, Fl, s⟩)) k)) else some (m, h)) := HNX.out
        clear HNX
        generalize gapZ P Q r s (pt (both (candL ⟨P, A, E, r⟩ ⟨Q, B, Fl, s⟩)) k) = gg at *
        generalize bestL (gapZ P Q r s) none ((both (candL ⟨P, A, E, r⟩ ⟨Q, B, Fl, s⟩)).take k) = s1 at *
        generalize pt (both (candL ⟨P, A, E, r⟩ ⟨Q, B, Fl, s⟩)) k = nn at *
        obtain ⟨nx, ny, nz⟩ := nn
        unfold coreA Pt.v at HGP
        dsimp only at *
        gi_wp2
        refine ⟨trivial, CallsIn.mono (CallsIn.inRound lq (callsIn_wide.2 HGP.out)) ?_⟩
        rintro e V5 ⟨rfl, hb5⟩
        have HS5 : Hid _ := HSV.out.step hb5
        have z0 := c_after hb5 y0
        have z1 := c_after hb5 y1
        have z2 := c_after hb5 y2
        have k5 : Hid (KeepC (fun b => (b ≠ bb ∧ b ≠ fb) ∧ b ≠ nb) V V5) := KeepC.below hb5
        have f5 : Hid (KeepsFrom W3.heap.size V V5) := keeps_below hb5
        have hput := HS5.out.put (by omega) (by omega) (by omega) (by omega) (by omega) nx ny nz gg
        have HPU : Hid _ := hput
        clear hput hb5 y0 y1 y2 a0 a1 a2 a3 e0 e1 e2 e3 HGP
        have hbl : bb < V5.heap.size ∧ fb < V5.heap.size := ⟨by have := HS5.out.keep.size; omega, by have := HS5.out.keep.size; omega⟩
        cases s1 with
        | none =>
          have HE9 : Hid (bestL (gapZ P Q r s) none ((both (candL ⟨P, A, E, r⟩ ⟨Q, B, Fl, s⟩)).take (k + 1)) = some (⟨nx, ny, nz⟩, gg)) := HNX2.out
          clear HNX2
          unfold set5 at HPU
          obtain ⟨u0, v0⟩ := HS5.out.best 0 _ rfl
          obtain ⟨u1, v1⟩ := HS5.out.best 1 _ rfl
          obtain ⟨u2, v2⟩ := HS5.out.best 2 _ rfl
          obtain ⟨u3, v3⟩ := HS5.out.best 3 _ rfl
          obtain ⟨u4, v4⟩ := HS5.out.found 0 _ rfl
          simp only [stF, Option.isSome] at u4
          have hnf : fb ≠ bb := by omega
          gi_wp2
          exact ⟨f5.out.trans (HPU.out.2.2 _), k5.out.trans (HPU.out.2.1.mono (fun b h => h.1)), by dsimp only; rw [HE9.out]; exact HPU.out.1⟩
        | some mh =>
          obtain ⟨⟨mx, my, mz⟩, h⟩ := mh
          obtain ⟨u0, v0⟩ := HS5.out.best 0 _ rfl
          obtain ⟨u1, v1⟩ := HS5.out.best 1 _ rfl
          obtain ⟨u2, v2⟩ := HS5.out.best 2 _ rfl
          obtain ⟨u3, v3⟩ := HS5.out.best 3 _ rfl
          obtain ⟨u4, v4⟩ := HS5.out.found 0 _ rfl
          simp only [stF, Option.isSome] at u4
          dsimp only at u0 u1 u2 u3 HNX2
          have hnf : fb ≠ bb := by omega
          by_cases hlt9 : h < gg
          · have HE9 : Hid (bestL (gapZ P Q r s) none ((both (candL ⟨P, A, E, r⟩ ⟨Q, B, Fl, s⟩)).take (k + 1)) = some (⟨nx, ny, nz⟩, gg)) := by show _ = _; rw [HNX2.out, if_pos hlt9]
            clear HNX2
            unfold set5 at HPU
            gi_wp2
            exact ⟨f5.out.trans (HPU.out.2.2 _), k5.out.trans (HPU.out.2.1.mono (fun b h => h.1)), by dsimp only; rw [HE9.out]; exact HPU.out.1⟩
          · have HE9 : Hid (bestL (gapZ P Q r s) none ((both (candL ⟨P, A, E, r⟩ ⟨Q, B, Fl, s⟩)).take (k + 1)) = some (⟨mx, my, mz⟩, h)) := by show _ = _; rw [HNX2.out, if_neg hlt9]
            clear HNX2
            gi_wp2
            exact ⟨f5.out, k5.out, by dsimp only; rw [HE9.out]; exact HS5.out⟩
      case done =>
        rintro D V hD hS hKD
        rw [List.take_length] at hS
        have hD' : rb < D := by omega
        have HV : Hid (∀ x y z g, stA dd (bestL (gapZ P Q r s) none (both (candL ⟨P, A, E, r⟩ ⟨Q, B, Fl, s⟩))) = [.int .i64 x, .int .i64 y, .int .i64 z, .int .i64 g] → apartV ⟨P, A, E, r⟩ ⟨Q, B, Fl, s⟩ = .agg #[.int .i64 x, .int .i64 y, .int .i64 z, .int .i64 g]) := fun x y z g h => by
          unfold apartV told
          rw [hm1'.out, hm2'.out]
          dsimp only
          cases hb : bestL (gapZ P Q r s) none (both (candL ⟨P, A, E, r⟩ ⟨Q, B, Fl, s⟩)) with
          | none =>
            rw [hb] at h
            simp only [stA, List.cons.injEq, Value.int.injEq, true_and, and_true] at h
            obtain ⟨rfl, rfl, rfl, rfl⟩ := h
            have := HDD.out
            simp [this]
          | some mh =>
            rw [hb] at h
            simp only [stA, List.cons.injEq, Value.int.injEq, true_and, and_true] at h
            obtain ⟨rfl, rfl, rfl, rfl⟩ := h
            rfl
        obtain ⟨x, y, z, g, hst⟩ : ∃ x y z g, stA dd (bestL (gapZ P Q r s) none (both (candL ⟨P, A, E, r⟩ ⟨Q, B, Fl, s⟩))) = [.int .i64 x, .int .i64 y, .int .i64 z, .int .i64 g] := by
          cases bestL (gapZ P Q r s) none (both (candL ⟨P, A, E, r⟩ ⟨Q, B, Fl, s⟩)) with
          | none => exact ⟨_, _, _, _, rfl⟩
          | some mh => exact ⟨_, _, _, _, rfl⟩
        have HVV : Hid _ := HV.out x y z g hst
        have hbest := hS.best
        rw [hst] at hbest
        obtain ⟨u0, _⟩ := hbest 0 _ rfl
        obtain ⟨u1, _⟩ := hbest 1 _ rfl
        obtain ⟨u2, _⟩ := hbest 2 _ rfl
        obtain ⟨u3, _⟩ := hbest 3 _ rfl
        obtain ⟨t0, t0'⟩ := hS.res 0 _ rfl
        obtain ⟨t1, t1'⟩ := hS.res 1 _ rfl
        obtain ⟨t2, t2'⟩ := hS.res 2 _ rfl
        obtain ⟨t3, t3'⟩ := hS.res 3 _ rfl
        have hR9 : Hid _ := (((hS.res.set 0 (.int .i64 x) (by simp)).set 1 (.int .i64 y) (by simp)).set 2 (.int .i64 z) (by simp)).set 3 (.int .i64 g) (by simp)
        have hB9 : Hid (Below w0.heap.size w0 ((((V.setCell ⟨rb, 0, none⟩ (.int .i64 x)).setCell ⟨rb, 1, none⟩ (.int .i64 y)).setCell ⟨rb, 2, none⟩ (.int .i64 z)).setCell ⟨rb, 3, none⟩ (.int .i64 g))) := (((hS.below.setCell hw0 _).setCell hw0 _).setCell hw0 _).setCell hw0 _
        clear hS hbest hst HV
        have hKD9 : Hid ((((((V.setCell ⟨rb, 0, none⟩ (.int .i64 x)).setCell ⟨rb, 1, none⟩ (.int .i64 y)).setCell ⟨rb, 2, none⟩ (.int .i64 z)).setCell ⟨rb, 3, none⟩ (.int .i64 g))).heap[D]? = some (.deferred (some []))) := by
          show _ = _
          have hne : D ≠ rb := by omega
          rw [Below.heap_setCell _ _ _ D hne, Below.heap_setCell _ _ _ D hne, Below.heap_setCell _ _ _ D hne, Below.heap_setCell _ _ _ D hne]
          exact hKD
        have hw9 : w0.heap.size ≤ D := by omega
        gi_wp2
        generalize (((V.setCell ⟨rb, 0, none⟩ (.int .i64 x)).setCell ⟨rb, 1, none⟩ (.int .i64 y)).setCell ⟨rb, 2, none⟩ (.int .i64 z)).setCell ⟨rb, 3, none⟩ (.int .i64 g) = V9 at *
        refine ⟨by simp, .inl ⟨_, _, rfl, run_takeDeferred hKD9.out, ?_⟩⟩
        have hR8 := CelW.grown hR9.out (grownBy_putObj' V9 D (.deferred none)) (fun e => by cases e; omega)
        obtain ⟨q0, _⟩ := hR8 0 (.int .i64 x) rfl
        obtain ⟨q1, _⟩ := hR8 1 (.int .i64 y) rfl
        obtain ⟨q2, _⟩ := hR8 2 (.int .i64 z) rfl
        obtain ⟨q3, _⟩ := hR8 3 (.int .i64 g) rfl
        exact ⟨.tuple #[.agg #[.int .i64 x, .int .i64 y, .int .i64 z, .int .i64 g], .bool true], by simp [results, Try.results7, go_sem, q0, q1, q2, q3], by rw [HVV.out, hm1'.out, hm2'.out]; rfl, hB9.out.grown (grownBy_putObj' V9 D (.deferred none)) hB9.out.size (fun k e => by cases e; exact hw9)⟩
end Go.Proofs.Ytfalniafkambmaa
namespace Go.Proofs.Ytfalniafkambmaa
open Go.RowKit Go.Shelf
set_option linter.unusedVariables false

theorem dn_x (m : Int) (h : 0 ≤ m) : dn ⟨m, 0, 0⟩ = m ∧ dn ⟨-m, 0, 0⟩ = m ∧ up ⟨m, 0, 0⟩ = m ∧ up ⟨-m, 0, 0⟩ = m := by
  have e1 : Pt.dot ⟨m, 0, 0⟩ ⟨m, 0, 0⟩ = m * m := by unfold Pt.dot; dsimp only; omega
  have e2 : Pt.dot ⟨-m, 0, 0⟩ ⟨-m, 0, 0⟩ = m * m := by unfold Pt.dot; dsimp only; rw [Int.neg_mul_neg]; omega
  have h3 : m * m < (m + 1) * (m + 1) := by rw [Int.add_mul, Int.mul_add]; omega
  have d1 : dn ⟨m, 0, 0⟩ = m := (dn_of (n := ⟨m, 0, 0⟩) h (by rw [e1]; exact Int.le_refl _) (by rw [e1]; exact h3)).symm
  have d2 : dn ⟨-m, 0, 0⟩ = m := (dn_of (n := ⟨-m, 0, 0⟩) h (by rw [e2]; exact Int.le_refl _) (by rw [e2]; exact h3)).symm
  exact ⟨d1, d2, by unfold up; rw [d1, e1, if_pos rfl], by unfold up; rw [d2, e2, if_pos rfl]⟩
theorem ex_short : Pt.short ⟨10, 0, 0⟩ = ⟨1, 0, 0⟩ ∧ Pt.short ⟨1, 0, 0⟩ = ⟨1, 0, 0⟩ := by
  have h : ∀ p : Pt, p.inB 1048576 = true → p.short = p.low.low := fun p hp => by
    unfold Pt.short
    rw [if_pos (inB_mono hp (by decide))]
    unfold Pt.half
    rw [halveF_id _ _ (Pt.low_in hp)]
  rw [h _ (by decide), h _ (by decide)]
  decide
theorem ex_lng : Pt.lng ⟨1, 0, 0⟩ = ⟨1048576, 0, 0⟩ := by
  unfold Pt.lng
  rw [ex_short.2, if_neg (by decide)]
  simp [lngF, Pt.inB, Pt.dbl]
theorem ex_cands : both (candL ⟨[⟨0, 0, 0⟩], [], [], 2⟩ ⟨[⟨10, 0, 0⟩], [], [], 3⟩) = [⟨1048576, 0, 0⟩, ⟨-1048576, 0, 0⟩] := by
  have e1 : candL ⟨[⟨0, 0, 0⟩], [], [], 2⟩ ⟨[⟨10, 0, 0⟩], [], [], 3⟩ = [⟨1, 0, 0⟩] := by
    unfold candL crossL wayL wayR wayG wayD
    simp [Pt.sub, ex_short.1]
  rw [e1]
  unfold both
  rw [ex_lng, if_neg (by decide)]
  rfl
theorem told_of {a b : Cr} {x : Pt × Int} (h : bestL (gapZ a.P b.P a.r b.r) none (both (candL a b)) = some x) : told a b = x := by unfold told; rw [h]
theorem ex_rooms : room ⟨1048576, 0, 0⟩ [⟨0, 0, 0⟩] [⟨10, 0, 0⟩] = 10485760 ∧ room ⟨-1048576, 0, 0⟩ [⟨0, 0, 0⟩] [⟨10, 0, 0⟩] = -10485760 := by
  unfold room loP hiP
  simp [loK, hiK, pt, Pt.dot]
theorem ex_g1 : gapZ [⟨0, 0, 0⟩] [⟨10, 0, 0⟩] 2 3 ⟨1048576, 0, 0⟩ = 5 := by
  obtain ⟨h1, h2, h3, h4⟩ := dn_x 1048576 (by omega)
  unfold gapZ gap0
  rw [ex_rooms.1, h3, if_pos (by omega)]
  simp
theorem ex_g2 : gapZ [⟨0, 0, 0⟩] [⟨10, 0, 0⟩] 2 3 ⟨-1048576, 0, 0⟩ = -15 := by
  obtain ⟨h1, h2, h3, h4⟩ := dn_x 1048576 (by omega)
  unfold gapZ gap0
  rw [ex_rooms.2, h2, if_neg (by omega)]
  simp
theorem best_two (g : Pt → Int) (p q : Pt) (h : ¬ g p < g q) : bestL g none [p, q] = some (p, g p) := by
  unfold bestL
  simp [List.foldl, bestS, h]
theorem ex_told : told ⟨[⟨0, 0, 0⟩], [], [], 2⟩ ⟨[⟨10, 0, 0⟩], [], [], 3⟩ = (⟨1048576, 0, 0⟩, 5) := by
  have hb := best_two (gapZ [⟨0, 0, 0⟩] [⟨10, 0, 0⟩] 2 3) ⟨1048576, 0, 0⟩ ⟨-1048576, 0, 0⟩ (by rw [ex_g1, ex_g2]; omega)
  rw [ex_g1, ← ex_cands] at hb
  exact told_of hb
theorem ex_may : mayC ⟨[⟨0, 0, 0⟩], [], [], 2⟩ = true ∧ mayC ⟨[⟨10, 0, 0⟩], [], [], 3⟩ = true ∧ mayC ⟨[], [], [], 0⟩ = false := by decide
theorem ex_sizes : dnT ⟨1, 1, 0⟩ = 1 ∧ upT ⟨1, 1, 0⟩ = 2 := by decide
theorem lies_nil9 (w : World) : Lies w (.slice none 0 0) [] := ⟨none, 0, rfl, Nat.le_refl _, by omega, fun i hi => by simp at hi⟩
theorem lies_one9 {W : World} {b : Nat} {p : Pt} (h : Cel W b [.int .i64 p.x, .int .i64 p.y, .int .i64 p.z]) : Lies W (.slice (some ⟨b, 0, none⟩) 1 1) [p] := by
  refine ⟨_, 1, rfl, Nat.le_refl _, by omega, fun i hi => ⟨b, 0, rfl, ?_⟩⟩
  have e : i = 0 := by simp at hi; exact hi
  subst e
  exact ⟨h 0 _ rfl, h 1 _ rfl, h 2 _ rfl⟩

set_option maxRecDepth 100000 in
set_option maxHeartbeats 8000000 in
theorem awake9_any (w : World) : Calls Try.prog 5 #[] w fun e W => e = .returned (.bool true) ∧ Below w.heap.size w W := by
  obtain ⟨m1, m2, m3⟩ := ex_may
  obtain ⟨z1, z2⟩ := ex_sizes
  obtain ⟨W1, hW1⟩ : ∃ V, V = (((w.alloc (.cells #[.int .i64 0, .int .i64 0, .int .i64 0] 23)).alloc (.cells #[.slice (some ⟨w.heap.size, 0, none⟩) 1 1, .slice none 0 0, .slice none 0 0, .int .i64 2] 36)).alloc (.cells #[.int .i64 10, .int .i64 0, .int .i64 0] 23)).alloc (.cells #[.slice (some ⟨w.heap.size + 1 + 1, 0, none⟩) 1 1, .slice none 0 0, .slice none 0 0, .int .i64 3] 36) := ⟨_, rfl⟩
  have c1 := Cel.two w [.int .i64 0, .int .i64 0, .int .i64 0] [.slice (some ⟨w.heap.size, 0, none⟩) 1 1, .slice none 0 0, .slice none 0 0, .int .i64 2] 23 36
  have c2 := Cel.two ((w.alloc (.cells #[.int .i64 0, .int .i64 0, .int .i64 0] 23)).alloc (.cells #[.slice (some ⟨w.heap.size, 0, none⟩) 1 1, .slice none 0 0, .slice none 0 0, .int .i64 2] 36)) [.int .i64 10, .int .i64 0, .int .i64 0] [.slice (some ⟨w.heap.size + 1 + 1, 0, none⟩) 1 1, .slice none 0 0, .slice none 0 0, .int .i64 3] 23 36
  rw [World.size_alloc, World.size_alloc] at c2
  have b2 : Below (((w.alloc (.cells #[.int .i64 0, .int .i64 0, .int .i64 0] 23)).alloc (.cells #[.slice (some ⟨w.heap.size, 0, none⟩) 1 1, .slice none 0 0, .slice none 0 0, .int .i64 2] 36))).heap.size ((w.alloc (.cells #[.int .i64 0, .int .i64 0, .int .i64 0] 23)).alloc (.cells #[.slice (some ⟨w.heap.size, 0, none⟩) 1 1, .slice none 0 0, .slice none 0 0, .int .i64 2] 36)) W1 := by rw [hW1]; exact b_step (n_after _ _) (n_after _ _)
  have CP : Hid (Cel W1 w.heap.size [.int .i64 0, .int .i64 0, .int .i64 0]) := c1.1.step b2
  have CA : Hid (Cel W1 (w.heap.size + 1) [.slice (some ⟨w.heap.size, 0, none⟩) 1 1, .slice none 0 0, .slice none 0 0, .int .i64 2]) := c1.2.step b2
  have CQ : Hid (Cel W1 (w.heap.size + 1 + 1) [.int .i64 10, .int .i64 0, .int .i64 0]) := by show Cel _ _ _; rw [hW1]; exact c2.1
  have CB : Hid (Cel W1 (w.heap.size + 1 + 1 + 1) [.slice (some ⟨w.heap.size + 1 + 1, 0, none⟩) 1 1, .slice none 0 0, .slice none 0 0, .int .i64 3]) := by show Cel _ _ _; rw [hW1]; exact c2.2
  have HB : Hid (Below w.heap.size w W1) := b_step (b_step (n_after _ _) (n_after _ _)) b2
  have HA1 : Hid _ := napart_any [⟨0, 0, 0⟩] [] [] [⟨10, 0, 0⟩] [] [] 2 3 (.slice (some ⟨w.heap.size, 0, none⟩) 1 1) (.slice none 0 0) (.slice none 0 0) (.slice (some ⟨w.heap.size + 1 + 1, 0, none⟩) 1 1) (.slice none 0 0) (.slice none 0 0) W1 (lies_one9 CP.out) (lies_nil9 _) (lies_nil9 _) (lies_one9 CQ.out) (lies_nil9 _) (lies_nil9 _)
  have HA2 : Hid _ := fun (w' : World) (h : Lies w' (.slice (some ⟨w.heap.size, 0, none⟩) 1 1) [⟨0, 0, 0⟩]) => napart_any [⟨0, 0, 0⟩] [] [] [] [] [] 2 0 (.slice (some ⟨w.heap.size, 0, none⟩) 1 1) (.slice none 0 0) (.slice none 0 0) (.slice none 0 0) (.slice none 0 0) (.slice none 0 0) w' h (lies_nil9 _) (lies_nil9 _) (lies_nil9 _) (lies_nil9 _) (lies_nil9 _)
  have HS : Hid _ := fun w' => nsizes_any ⟨1, 1, 0⟩ w'
  unfold apartV at HA1 HA2
  rw [m1, m2, ex_told] at HA1
  simp only [m1, m3, Bool.and_true, Bool.and_false, Bool.false_eq_true, if_false, if_true] at HA1 HA2
  rw [z1, z2] at HS
  unfold coreA at HA1 HA2
  unfold Pt.v at HS
  dsimp only at HA1 HA2 HS
  clear m1 m2 m3 z1 z2 c1 c2 b2
  go_enter Try.func5, Try.ntmps5
  go_upto_region 3 with fail
  rw [← hW1]
  clear hW1
  obtain ⟨pb, hpb⟩ : ∃ b, b = w.heap.size := ⟨_, rfl⟩
  obtain ⟨ab, hab⟩ : ∃ b, b = w.heap.size + 1 := ⟨_, rfl⟩
  obtain ⟨qb, hqb⟩ : ∃ b, b = w.heap.size + 1 + 1 := ⟨_, rfl⟩
  obtain ⟨bb, hbb⟩ : ∃ b, b = w.heap.size + 1 + 1 + 1 := ⟨_, rfl⟩
  rw [← hbb, ← hqb, ← hab, ← hpb]
  rw [← hpb] at CP HA2
  rw [← hab, ← hpb] at CA
  rw [← hqb] at CQ
  rw [← hbb, ← hqb] at CB
  rw [← hqb, ← hpb] at HA1
  clear hpb hab hqb hbb
  have x0 := CA.out 0 _ rfl
  have x1 := CA.out 1 _ rfl
  have x2 := CA.out 2 _ rfl
  have x3 := CA.out 3 _ rfl
  have y0 := CB.out 0 _ rfl
  have y1 := CB.out 1 _ rfl
  have y2 := CB.out 2 _ rfl
  have y3 := CB.out 3 _ rfl
  go_wp2_with (fail)
  refine Calls.mono HA1.out ?_
  rintro e V1 ⟨rfl, hb⟩
  clear HA1 x0 x1 x2 x3 y0 y1 y2 y3 CQ CB
  have CA : Hid _ := Cel.step CA.out hb
  have CP : Hid _ := Cel.step CP.out hb
  have HB : Hid _ := b_step HB.out hb
  clear hb
  go_upto_region 4 with fail
  obtain ⟨W2, hW2⟩ : ∃ V, V = V1.alloc (.cells #[.int .i64 1048576, .int .i64 0, .int .i64 0, .int .i64 5] 40) := ⟨_, rfl⟩
  have b9 : Below V1.heap.size V1 W2 := by rw [hW2]; exact n_after _ _
  have CX : Hid (Cel W2 V1.heap.size [.int .i64 1048576, .int .i64 0, .int .i64 0, .int .i64 5]) := by show Cel _ _ _; rw [hW2]; exact Cel.new _ _ _
  obtain ⟨xb, hxb⟩ : ∃ b, b = V1.heap.size := ⟨_, rfl⟩
  rw [← hW2, ← hxb]
  rw [← hxb] at CX
  clear hW2 hxb
  have CA : Hid _ := Cel.step CA.out b9
  have CP : Hid _ := Cel.step CP.out b9
  have HB : Hid _ := b_step HB.out b9
  clear b9
  have x0 := CA.out 0 _ rfl
  have x1 := CA.out 1 _ rfl
  have x2 := CA.out 2 _ rfl
  have x3 := CA.out 3 _ rfl
  have HA3 : Hid _ := HA2.out W2 (lies_one9 CP.out)
  clear HA2
  go_wp2_with (fail)
  refine Calls.mono HA3.out ?_
  rintro e V3 ⟨rfl, hb⟩
  have CX : Hid _ := Cel.step CX.out hb
  have HB : Hid _ := b_step HB.out hb
  clear hb HA3 x0 x1 x2 x3 CA CP
  go_upto_region 5 with fail
  have b9 : Below V3.heap.size V3 (V3.alloc (.cells #[.int .i64 0, .int .i64 0, .int .i64 0, .int .i64 0] 40)) := n_after _ _
  have CX : Hid _ := Cel.step CX.out b9
  have HB : Hid _ := b_step HB.out b9
  clear b9
  go_wp2_with (fail)
  refine Calls.mono (HS.out _) ?_
  rintro e V5 ⟨rfl, hb⟩
  have CX : Hid _ := Cel.step CX.out hb
  have HB : Hid _ := b_step HB.out hb
  clear hb
  have x0 := CX.out 0 _ rfl
  have x1 := CX.out 1 _ rfl
  have x2 := CX.out 2 _ rfl
  have x3 := CX.out 3 _ rfl
  go_wp2_with (fail)
  go_ret
  exact ⟨rfl, HB.out⟩
end Go.Proofs.Ytfalniafkambmaa
namespace Go.Proofs.Ytfalniafkambmaa
open Go.RowKit Go.Shelf
set_option linter.unusedVariables false

def pickY (c n : Int) : Int := (if c < 0 then -(c + 1) else c) % n
theorem pickY_lo (c : Int) {n : Int} (hn : 0 < n) : 0 ≤ pickY c n := Int.emod_nonneg _ (by omega)
theorem pickY_hi (c : Int) {n : Int} (hn : 0 < n) : pickY c n < n := Int.emod_lt_of_pos _ hn
theorem npick_any (c n : Int) (w : World) (hc : -9223372036854775808 ≤ c ∧ c ≤ 9223372036854775807) (hn : 0 < n) (hn' : n ≤ 9223372036854775807) :
    Calls Try.prog 9 #[.int .i64 c, .int .i64 n] w fun e w' => e = .returned (.int .i64 (pickY c n)) ∧ w' = w := by
  unfold pickY
  by_cases h : c < 0
  · have hb : 0 ≤ -(c + 1) := by omega
    have hb' : -(c + 1) ≤ 9223372036854775807 := by omega
    have hz : (n == 0) = false := beq_eq_false_iff_ne.2 (by omega)
    rw [if_pos h]
    go_enter Try.func9, Try.ntmps9
    go_wp2
    go_ret
    have e : (c + 1).tmod n = -(-(c + 1) % n) := by
      rw [← Int.tmod_eq_emod_of_nonneg hb, Int.neg_tmod, Int.neg_neg]
    exact ⟨by rw [e, Int.neg_neg]; rfl, rfl⟩
  · have hz : (n == 0) = false := beq_eq_false_iff_ne.2 (by omega)
    rw [if_neg h]
    go_enter Try.func9, Try.ntmps9
    go_wp2
    go_ret
    exact ⟨rfl, rfl⟩
theorem npick_below (c n : Int) (w : World) (hc : -9223372036854775808 ≤ c ∧ c ≤ 9223372036854775807) (hn : 0 < n) (hn' : n ≤ 9223372036854775807) :
    Calls Try.prog 9 #[.int .i64 c, .int .i64 n] w fun e w' => e = .returned (.int .i64 (pickY c n)) ∧ Below w.heap.size w w' :=
  Calls.mono (npick_any c n w hc hn hn') (by rintro e w2 ⟨rfl, rfl⟩; exact ⟨rfl, Below.refl _ _⟩)
set_option maxHeartbeats 1000000 in
theorem nminus_any (p q : Pt) (w : World) (hp : p.inB 1152921504606846976 = true) (hq : q.inB 1152921504606846976 = true) :
    Calls Try.prog 21 #[p.v, q.v] w fun e W => e = .returned (p.sub q).v ∧ Below w.heap.size w W := by
  obtain ⟨x, y, z⟩ := p
  obtain ⟨x', y', z'⟩ := q
  rw [Pt.inB_iff] at hp hq
  unfold Pt.v Pt.sub
  dsimp only at *
  go_enter Try.func21, Try.ntmps21
  go_wp2
  exact bodyPost_ret (v := .agg #[.int .i64 (x - x'), .int .i64 (y - y'), .int .i64 (z - z')]) (by simp [results, Try.results21, go_sem]) rfl ⟨rfl, (((Below.refl _ w).alloc (Nat.le_refl _) _).alloc (by simp) _).alloc (by simp; omega) _⟩
set_option maxHeartbeats 1000000 in
theorem nrdot_any (p q : Pt) (w : World) (hp : p.inB 536870912 = true) (hq : q.inB 536870912 = true) :
    Calls Try.prog 22 #[p.v, q.v] w fun e W => e = .returned (.int .i64 (p.dot q)) ∧ Below w.heap.size w W := by
  obtain ⟨x, y, z⟩ := p
  obtain ⟨x', y', z'⟩ := q
  rw [Pt.inB_iff] at hp hq
  unfold Pt.v Pt.dot
  dsimp only at *
  have h1 := prod_in hp.1 hq.1 (by decide)
  have h2 := prod_in hp.2.1 hq.2.1 (by decide)
  have h3 := prod_in hp.2.2 hq.2.2 (by decide)
  clear hp hq
  go_enter Try.func22, Try.ntmps22
  go_wp2
  go_ret
  exact ⟨rfl, ((Below.refl _ w).alloc (Nat.le_refl _) _).alloc (by simp) _⟩
end Go.Proofs.Ytfalniafkambmaa
namespace Go.Proofs.Ytfalniafkambmaa
open Go.RowKit Go.Shelf
set_option linter.unusedVariables false

set_option maxHeartbeats 2000000 in
theorem rin9_any (p : Pt) (m : Int) (w : World) (hm : 0 ≤ m ∧ m ≤ 4611686018427387903) :
    Calls Try.prog 54 #[p.v, .int .i64 m] w fun e W => e = .returned (.bool (p.inB m)) ∧ Below w.heap.size w W := by
  have HI : Hid (p.inB m = decide ((-m ≤ p.x ∧ p.x ≤ m) ∧ (-m ≤ p.y ∧ p.y ≤ m) ∧ (-m ≤ p.z ∧ p.z ≤ m))) := rfl
  obtain ⟨R9, hR9⟩ : ∃ R9, p.inB m = R9 := ⟨_, rfl⟩
  rw [hR9] at HI ⊢
  clear hR9
  obtain ⟨x, y, z⟩ := p
  unfold Pt.v
  dsimp only at *
  obtain ⟨mm, hmm⟩ : ∃ mm, IntKind.i64.wrap (-m) = mm := ⟨_, rfl⟩
  have hm9 : mm = -m := by rw [← hmm, IntKind.wrap_i64]; omega
  rw [← hm9] at HI
  have HM : Hid _ := hm
  clear hm9 hm
  by_cases h1 : mm ≤ x
  · by_cases h2 : x ≤ m
    · by_cases h3 : mm ≤ y
      · by_cases h4 : y ≤ m
        · by_cases h5 : mm ≤ z
          · by_cases h6 : z ≤ m
            · have e9 : R9 = true := by rw [HI.out]; simp [h1, h2, h3, h4, h5, h6]
              subst e9
              go_enter Try.func54, Try.ntmps54
              go_wp2
              go_ret
              exact ⟨rfl, n_after _ _⟩
            · have e9 : R9 = false := by rw [HI.out]; simp [h6]
              subst e9
              go_enter Try.func54, Try.ntmps54
              go_wp2
              go_ret
              exact ⟨rfl, n_after _ _⟩
          · have e9 : R9 = false := by rw [HI.out]; simp [h5]
            subst e9
            go_enter Try.func54, Try.ntmps54
            go_wp2
            go_ret
            exact ⟨rfl, n_after _ _⟩
        · have e9 : R9 = false := by rw [HI.out]; simp [h4]
          subst e9
          go_enter Try.func54, Try.ntmps54
          go_wp2
          go_ret
          exact ⟨rfl, n_after _ _⟩
      · have e9 : R9 = false := by rw [HI.out]; simp [h3]
        subst e9
        go_enter Try.func54, Try.ntmps54
        go_wp2
        go_ret
        exact ⟨rfl, n_after _ _⟩
    · have e9 : R9 = false := by rw [HI.out]; simp [h2]
      subst e9
      go_enter Try.func54, Try.ntmps54
      go_wp2
      go_ret
      exact ⟨rfl, n_after _ _⟩
  · have e9 : R9 = false := by rw [HI.out]; simp [h1]
    subst e9
    go_enter Try.func54, Try.ntmps54
    go_wp2
    go_ret
    exact ⟨rfl, n_after _ _⟩
end Go.Proofs.Ytfalniafkambmaa
namespace Go.Proofs.Ytfalniafkambmaa
open Go.RowKit Go.Shelf
set_option linter.unusedVariables false

set_option maxHeartbeats 4000000 in
set_option maxRecDepth 100000 in
theorem rsizes9_any (n : Pt) (w : World) :
    Calls Try.prog 20 #[n.v] w fun e W => e = .returned (.tuple #[.int .i64 (dnT n), .int .i64 (upT n)]) ∧ Below w.heap.size w W := by
  have HW : Hid _ := fun w' => rin9_any n 16777216 w' (by decide)
  have HD : Hid _ := fun w' (h : n.inB 16777216 = true) => nrdot_any n n w' (inB_mono h (by decide)) (inB_mono h (by decide))
  cases hin : n.inB 16777216 with
  | true =>
    obtain ⟨q0, q1⟩ := dot_rng hin
    have HT1 : Hid (dnT n = dn n) := by show _ = _; simp [dnT, hin]
    have HT2 : Hid (upT n = if dn n * dn n = n.dot n then dn n else dn n + 1) := by show _ = _; simp [upT, up, hin]
    have HDO : Hid (∀ r : Int, 0 ≤ r → r * r ≤ n.dot n → n.dot n < (r + 1) * (r + 1) → r = dn n) := fun r h1 h2 h3 => dn_of h1 h2 h3
    have HW1 : Hid _ := fun w' => HW.out w'
    simp only [hin] at HW1
    have HD1 : Hid _ := fun w' => HD.out w' hin
    clear hin HW HD
    generalize dn n = d at *
    generalize n.dot n = q at *
    obtain ⟨x, y, z⟩ := n
    unfold Pt.v at *
    dsimp only at *
    go_enter Try.func20, Try.ntmps20
    go_wp2_with (fail)
    refine Calls.mono (HW1.out _) ?_
    rintro e V ⟨rfl, hb⟩
    have B3 : Hid _ := (Box3.new w x y z 23).step hb
    have hB : Hid _ := b_step (n_after w _) hb
    clear hb
    obtain ⟨c0, c1, c2, _, _, _⟩ := B3.out
    go_wp2_with (fail)
    refine Calls.mono (HD1.out _) ?_
    rintro e V2 ⟨rfl, hb⟩
    have hB : Hid _ := b_step hB.out hb
    clear hb c0 c1 c2 B3 HD1 HW1
    go_wp2_with (fail)
    go_loopg [6, 7] 67108864 (fun gm s6 s7 wr => ∃ lo hi : Int, s6 = .int .i64 lo ∧ s7 = .int .i64 hi ∧ wr = V2 ∧ 0 ≤ lo ∧ lo < hi ∧ hi ≤ 67108864 ∧ Hid (gm = (hi - lo).toNat) ∧ Hid (lo * lo ≤ q) ∧ Hid (q < hi * hi))
    case atStart => exact ⟨0, 67108864, rfl, rfl, rfl, by omega, by omega, by omega, by show _ = _; omega, by show _ ≤ _; omega, by show _ < _; omega⟩
    case round =>
      obtain ⟨lo, hi, rfl, rfl, rfl, h0, h1, h2, HG, HL, HH⟩ := hrel
      obtain ⟨k, hk⟩ : ∃ k, hi - lo = k := ⟨_, rfl⟩
      have hkw : IntKind.i64.wrap (hi - lo) = k := by rw [hk, IntKind.wrap_i64]; omega
      have HK : Hid _ := hk
      clear hk
      by_cases hgt : 1 < k
      · obtain ⟨sm, hsm⟩ : ∃ k, lo + hi = k := ⟨_, rfl⟩
        have hsw : IntKind.i64.wrap (lo + hi) = sm := by rw [hsm, IntKind.wrap_i64]; omega
        obtain ⟨mid, hmid⟩ : ∃ c, sm.tdiv 2 = c := ⟨_, rfl⟩
        have hm9 : lo < mid ∧ mid < hi := by
          have := Int.tdiv_eq_ediv_of_nonneg (a := sm) (b := 2) (by omega)
          have := HK.out
          omega
        have hcw : wrap64 mid = mid := w64 (by omega) (by omega)
        have hmm := mul_in (a := mid) (b := mid) (A := 67108864) (B := 67108864) (by omega) (by omega)
        obtain ⟨sq, hsq⟩ : ∃ c, mid * mid = c := ⟨_, rfl⟩
        have hqw : IntKind.i64.wrap (mid * mid) = sq := by rw [hsq, IntKind.wrap_i64]; omega
        have HSQ : Hid _ := hsq
        have HM9 : Hid _ := hm9
        clear hsm hsq hmm hm9
        by_cases hle : sq ≤ q
        · have HQ2 : Hid (mid * mid ≤ q) := by show _ ≤ _; rw [HSQ.out]; exact hle
          go_wp2_with (fail)
          go_roundg ((hi - mid).toNat)
          case rel => have := HM9.out; exact ⟨mid, hi, (by first | rfl | rw [hcw]), rfl, rfl, by omega, by omega, by omega, rfl, HQ2, HH⟩
          case measure => have := HM9.out; have := HG.out; omega
        · have HQ2 : Hid (q < mid * mid) := by show _ < _; rw [HSQ.out]; omega
          go_wp2_with (fail)
          go_roundg ((mid - lo).toNat)
          case rel => have := HM9.out; exact ⟨lo, mid, rfl, (by first | rfl | rw [hcw]), rfl, by omega, by omega, by omega, rfl, HL, HQ2⟩
          case measure => have := HM9.out; have := HG.out; omega
      · have e9 : hi = lo + 1 := by have := HK.out; omega
        have ed : lo = d := HDO.out lo h0 HL.out (by have := HH.out; rw [e9] at this; exact this)
        subst ed
        have hmm := mul_in (a := lo) (b := lo) (A := 67108864) (B := 67108864) (by omega) (by omega)
        obtain ⟨sq, hsq⟩ : ∃ sq, lo * lo = sq := ⟨_, rfl⟩
        have hsw : IntKind.i64.wrap (lo * lo) = sq := by rw [hsq, IntKind.wrap_i64]; omega
        rw [hsq] at HT2
        clear hmm hsq HDO HL HH HG HK e9
        by_cases he : sq = q
        · rw [if_pos he] at HT2
          go_wp2_with (fail)
          exact bodyPost_ret (v := .tuple #[.int .i64 lo, .int .i64 lo]) (by simp [results, Try.results20, go_sem]) rfl ⟨by rw [HT1.out, HT2.out], hB.out⟩
        · rw [if_neg he] at HT2
          have hw1 : IntKind.i64.wrap (lo + 1) = lo + 1 := by rw [IntKind.wrap_i64]; omega
          go_wp2_with (fail)
          exact bodyPost_ret (v := .tuple #[.int .i64 lo, .int .i64 (lo + 1)]) (by simp [results, Try.results20, go_sem]) rfl ⟨by rw [HT1.out, HT2.out], hB.out⟩
  | false =>
    have HT1 : Hid (dnT n = 0) := by show _ = _; simp [dnT, hin]
    have HT2 : Hid (upT n = 0) := by show _ = _; simp [upT, hin]
    have HW1 : Hid _ := fun w' => HW.out w'
    simp only [hin] at HW1
    clear hin HD HW
    obtain ⟨x, y, z⟩ := n
    unfold Pt.v at *
    dsimp only at *
    go_enter Try.func20, Try.ntmps20
    go_wp2_with (fail)
    refine Calls.mono (HW1.out _) ?_
    rintro e V ⟨rfl, hb⟩
    have hB : Hid _ := b_step (n_after w _) hb
    clear hb
    go_wp2_with (fail)
    exact bodyPost_ret (v := .tuple #[.int .i64 0, .int .i64 0]) (by simp [results, Try.results20, go_sem]) rfl ⟨by rw [HT1.out, HT2.out], hB.out⟩
end Go.Proofs.Ytfalniafkambmaa
namespace Go.Proofs.Ytfalniafkambmaa
open Go.RowKit Go.Shelf
set_option linter.unusedVariables false

section
variable {w0 X Y : World} {n0 : Nat} {bs : List (Nat × List Value)} {u u' v : Value} {M M' N : List Pt}
end
/-- A region that lays one point (p), appends it (q) and keeps the list (z). -/
def A10 (p q z : Nat) (W7 : World) (B : Nat) (u : Value) (n : Nat) (xs news : List Value) (γ : Nat → Value) (L : Nat → Bool) (w : World) : Prop :=
  ((L q = false ∧ Below W7.heap.size W7 w ∧ (L p = true → ∃ g, γ p = .slice (some ⟨g, 0, none⟩) 1 1 ∧ w.heap[g]? = some (.cells news.toArray 23 (0, 0)))) ∨
  (L q = true ∧ w.ownsRow B 23 3 (γ q) (n + 1) (xs ++ news) ∧ Grew W7 w u (γ q))) ∧ (L z = true → γ z = γ q)
section
variable {p q z : Nat} {W7 : World} {B : Nat} {u : Value} {n : Nat} {xs news : List Value} {γ : Nat → Value} {L : Nat → Bool} {w : World}
end
end Go.Proofs.Ytfalniafkambmaa
