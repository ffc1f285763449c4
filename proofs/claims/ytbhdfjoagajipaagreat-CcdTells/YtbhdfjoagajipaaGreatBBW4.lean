/- Package narrow: going through the candidates. -/
import Derived.Test.YtbhdfjoagajipaaGreatBBW0
import Derived.Test.YtbhdfjoagajipaaGreatBBW3
import Derived.Sort.CutIn
namespace Go.Proofs.YtbhdfjoagajipaaGreat
open Go.RowKit Go.Shelf
attribute [local go_sem] Oper.semAt_some
set_option linter.unusedVariables false

set_option maxHeartbeats 1000000 in
theorem ncandidates_in (v1 v2 v3 v4 v5 v6 : Value) (r s : Int) (w : World) : Calls Tryz.prog 110 #[coreA v1 v2 v3 r, coreA v4 v5 v6 s] w fun e w' => e = .returned (.func (.func 136) #[] #[.pointer (some ⟨w.heap.size, 0, none⟩), .pointer (some ⟨w.heap.size + 1, 0, none⟩)]) ∧ w' = (w.alloc (.cells #[v1, v2, v3, .int .i64 r] 35)).alloc (.cells #[v4, v5, v6, .int .i64 s] 35) := by
  unfold coreA
  go_enter Tryz.func110, Tryz.ntmps110
  go_wp2
  go_ret
  exact ⟨rfl, rfl⟩

/-- What going through lists, crosses and ways is made of. -/
def PE (n0 : Nat) (va vb : Value) (v : Value) (w : World) : Prop := ∃ b g, v = .func (.func 157) #[] #[.pointer (some ⟨b, 0, none⟩)] ∧ n0 ≤ b ∧ n0 ≤ g ∧ Cel w b [.slice (some ⟨g, 0, none⟩) 2 2] ∧ Cel w g [va, vb]
def PX (n0 : Nat) (va vb : Value) (v : Value) (w : World) : Prop := ∃ b, v = .func (.func 158) #[] #[.pointer (some ⟨b, 0, none⟩), .pointer (some ⟨b + 1, 0, none⟩)] ∧ n0 ≤ b ∧ Cel w b [va] ∧ Cel w (b + 1) [vb]
def PW (n0 : Nat) (ca cb : List Value) (v : Value) (w : World) : Prop := ∃ b, v = .func (.func 160) #[] #[.pointer (some ⟨b, 0, none⟩), .pointer (some ⟨b + 1, 0, none⟩)] ∧ n0 ≤ b ∧ Cel w b ca ∧ Cel w (b + 1) cb
theorem PE.step {n0 : Nat} {va vb v : Value} {w w' : World} (h : PE n0 va vb v w) (hb : Below w.heap.size w w') : PE n0 va vb v w' := by
  obtain ⟨b, g, e, h1, h2, h3, h4⟩ := h
  exact ⟨b, g, e, h1, h2, h3.step hb, h4.step hb⟩
theorem PX.step {n0 : Nat} {va vb v : Value} {w w' : World} (h : PX n0 va vb v w) (hb : Below w.heap.size w w') : PX n0 va vb v w' := by
  obtain ⟨b, e, h1, h2, h3⟩ := h
  exact ⟨b, e, h1, h2.step hb, h3.step hb⟩
theorem PW.step {n0 : Nat} {ca cb : List Value} {v : Value} {w w' : World} (h : PW n0 ca cb v w) (hb : Below w.heap.size w w') : PW n0 ca cb v w' := by
  obtain ⟨b, e, h1, h2, h3⟩ := h
  exact ⟨b, e, h1, h2.step hb, h3.step hb⟩
theorem Cel.two (w : World) (a b : List Value) (ta tb : TypeId) : Cel ((w.alloc (.cells a.toArray ta)).alloc (.cells b.toArray tb)) w.heap.size a ∧ Cel ((w.alloc (.cells a.toArray ta)).alloc (.cells b.toArray tb)) (w.heap.size + 1) b := by
  refine ⟨(Cel.new w a ta).step (n_after _ _), ?_⟩
  have h := Cel.new (w.alloc (.cells a.toArray ta)) b tb
  rw [World.size_alloc] at h
  exact h
theorem grown_set3 (A : World) (b : Nat) (x y z : Int) : A.grownBy (set3 A b x y z) (some b) := by
  have h1 : ∀ (X : World) (o : Nat) (v : Value), X.grownBy (X.setCell ⟨b, o, none⟩ v) (some b) := fun X o v => ⟨rfl, rfl, rfl, by simp [World.setCell], fun k _ hn => Below.heap_setCell _ _ _ k (fun e => hn (by rw [e]))⟩
  exact G.trans (G.trans (h1 _ _ _) (h1 _ _ _)) (h1 _ _ _)
theorem keepC_set3 {S : Nat → Prop} (A : World) (b : Nat) (x y z : Int) : KeepC (fun k => S k ∧ k ≠ b) A (set3 A b x y z) :=
  ⟨by rw [set3_size]; exact Nat.le_refl _, fun q v hq hv => (grown_set3 A b x y z).cell hv (fun e => hq.2 (Option.some.inj e))⟩
theorem keeps_set3 (A : World) (b m : Nat) (x y z : Int) : KeepsFrom m A (set3 A b x y z) := ((((KeepsOthers.setCell A _ _).from m).trans ((KeepsOthers.setCell _ _ _).from m)).trans ((KeepsOthers.setCell _ _ _).from m))
def preC (T0 T1 T2 : List Pt) : Nat → List Pt
  | 0 => []
  | 1 => T0
  | 2 => T0 ++ T1
  | _ => (T0 ++ T1) ++ T2
set_option maxRecDepth 100000 in
set_option maxHeartbeats 16000000 in
theorem ncands_tells (n : Nat) (h3 : 5 ≤ n) (Ba Bb : Nat) (P A E Q B Fl : List Pt) (va1 va2 va3 vb1 vb2 vb3 : Value) (r s : Int) (S : Nat → Prop) (w : World)
    (ca : Cel w Ba [va1, va2, va3, .int .i64 r]) (cb : Cel w Bb [vb1, vb2, vb3, .int .i64 s])
    (hP : Lies w va1 P) (hA : Lies w va2 A) (hE : Lies w va3 E) (hQ : Lies w vb1 Q) (hB : Lies w vb2 B) (hF : Lies w vb3 Fl) (sP : InS S va1 P) (sA : InS S va2 A) (sE : InS S va3 E) (sQ : InS S vb1 Q) (sB : InS S vb2 B) (sF : InS S vb3 Fl) (sa : S Ba) (sb : S Bb) (hSn : ∀ b, w.heap.size ≤ b → S b)
    (iP : ∀ p ∈ P, p.inB 16777216 = true) (iQ : ∀ p ∈ Q, p.inB 16777216 = true) (iE : ∀ p ∈ E, p.inB 1048576 = true) (iF : ∀ p ∈ Fl, p.inB 1048576 = true) :
    TellsT n Tryz.prog 136 #[.pointer (some ⟨Ba, 0, none⟩), .pointer (some ⟨Bb, 0, none⟩)] (both (candL ⟨P, A, E, r⟩ ⟨Q, B, Fl, s⟩)) S w := by
  intro l J W hb hJ hY hJ0
  obtain ⟨m0, hm0⟩ : ∃ m, m = w.heap.size := ⟨_, rfl⟩
  rw [← hm0] at hY
  have CA : Hid _ := Cel.step ca hb
  have CB : Hid _ := Cel.step cb hb
  have LP : Hid _ := hP.below hb
  have LA : Hid _ := hA.below hb
  have LE : Hid _ := hE.below hb
  have LQ : Hid _ := hQ.below hb
  have LB : Hid _ := hB.below hb
  have LF : Hid _ := hF.below hb
  have HSn : Hid (∀ b, W.heap.size ≤ b → S b) := fun b h => hSn b (Nat.le_trans hb.size h)
  have hws : m0 ≤ W.heap.size := by rw [hm0]; exact hb.size
  obtain ⟨o1, k1, rfl, _⟩ := hP.form
  obtain ⟨o2, k2, rfl, _⟩ := hA.form
  obtain ⟨o3, k3, rfl, _⟩ := hE.form
  obtain ⟨o4, k4, rfl, _⟩ := hQ.form
  obtain ⟨o5, k5, rfl, _⟩ := hB.form
  obtain ⟨o6, k6, rfl, _⟩ := hF.form
  clear ca cb hP hA hE hQ hB hF hSn
  obtain ⟨W0, hW0⟩ : ∃ V, V = W.alloc (.cells #[.func (.yield l) #[] #[]] 120) := ⟨_, rfl⟩
  obtain ⟨S0, hS0⟩ : ∃ b, b = W.heap.size := ⟨_, rfl⟩
  have b0 : Below W.heap.size W W0 := by rw [hW0]; exact n_after _ _
  have CT : Hid (Cel W0 S0 [.func (.yield l) #[] #[]]) := by show Cel _ _ _; rw [hW0, hS0]; exact Cel.new _ _ _
  have hs0 : W0.heap.size = W.heap.size + 1 := by rw [hW0]; simp
  have sT : S S0 := HSn.out S0 (by omega)
  have HJ0 : Hid (J 0 W0) := own_step hJ hJ0 b0
  have CA : Hid _ := Cel.step CA.out b0
  have CB : Hid _ := Cel.step CB.out b0
  have LP : Hid _ := LP.out.below b0
  have LA : Hid _ := LA.out.below b0
  have LE : Hid _ := LE.out.below b0
  have LQ : Hid _ := LQ.out.below b0
  have LB : Hid _ := LB.out.below b0
  have LF : Hid _ := LF.out.below b0
  have a0x := CA.out 0 _ rfl
  have a1x := CA.out 1 _ rfl
  have a2x := CA.out 2 _ rfl
  have a3x := CA.out 3 _ rfl
  have b0x := CB.out 0 _ rfl
  have b1x := CB.out 1 _ rfl
  have b2x := CB.out 2 _ rfl
  have b3x := CB.out 3 _ rfl
  refine callsIn_of_wp_marks Tryz.func136 rfl trivial ?_ rfl
  simp only [Tryz.ntmps136, List.size_toArray, List.length_cons, List.length_nil, Nat.reduceAdd, Nat.reduceSub, Array.replicate_succ, Array.replicate_zero, List.push_toArray, List.append_toArray, List.nil_append, List.cons_append]
  gi_wp2
  rw [← hW0, ← hS0]
  clear hW0 hS0 hJ0
  refine scope_inN ?_
  gi_wp2
  refine wpIn_label ?_
  gi_wp2
  clear a0x a1x a2x a3x b0x b1x b2x b3x
  refine (wpIn_wide (n := n)).2 ?_
  refine RV.region_by (fun j v w => match j with | 0 => v = .pointer (some ⟨Ba, 1, none⟩) | 1 => v = .slice o2 A.length k2 | 2 => v = .pointer (some ⟨Bb, 1, none⟩) | 3 => v = .slice o5 B.length k5 | 4 => (fun v w => ∃ g, v = .slice (some ⟨g, 0, none⟩) 2 2 ∧ W0.heap.size ≤ g ∧ Cel w g [.slice o2 A.length k2, .slice o5 B.length k5]) v w | 5 => (fun v w => PE W0.heap.size (.slice o2 A.length k2) (.slice o5 B.length k5) v w) v w | 6 => v = .pointer (some ⟨Ba, 2, none⟩) | 7 => v = .slice o3 E.length k3 | 8 => v = .pointer (some ⟨Bb, 2, none⟩) | 9 => v = .slice o6 Fl.length k6 | 10 => (fun v w => PX W0.heap.size (.slice o3 E.length k3) (.slice o6 Fl.length k6) v w) v w | 11 => v = .agg #[.slice o1 P.length k1, .slice o2 A.length k2, .slice o3 E.length k3, .int .i64 r] | 12 => v = .agg #[.slice o4 Q.length k4, .slice o5 B.length k5, .slice o6 Fl.length k6, .int .i64 s] | 13 => (fun v w => PW W0.heap.size [.slice o1 P.length k1, .slice o2 A.length k2, .slice o3 E.length k3, .int .i64 r] [.slice o4 Q.length k4, .slice o5 B.length k5, .slice o6 Fl.length k6, .int .i64 s] v w) v w | 14 => (fun v w => ∃ f1 f2 f3, v = .agg #[f1, f2, f3] ∧ PE W0.heap.size (.slice o2 A.length k2) (.slice o5 B.length k5) f1 w ∧ PX W0.heap.size (.slice o3 E.length k3) (.slice o6 Fl.length k6) f2 w ∧ PW W0.heap.size [.slice o1 P.length k1, .slice o2 A.length k2, .slice o3 E.length k3, .int .i64 r] [.slice o4 Q.length k4, .slice o5 B.length k5, .slice o6 Fl.length k6, .int .i64 s] f3 w) v w | 15 => v = .int .i64 0 | _ => True) (fun γ L w => Below W0.heap.size W0 w) (by kernel_rfl) (by kernel_rfl) (by kernel_rfl) (by kernel_rfl) ?_ ?_ ?_
  · exact (Below.refl _ W0).drew
  · generalize hD : dstOf _ = D
    generalize hWA : waitsFor _ = WA
    generalize hZ : Act.mk _ _ = Z
    obtain ⟨R, hR⟩ : ∃ R : Nat → Value → World → Prop, R = (fun j v w => match j with | 0 => v = .pointer (some ⟨Ba, 1, none⟩) | 1 => v = .slice o2 A.length k2 | 2 => v = .pointer (some ⟨Bb, 1, none⟩) | 3 => v = .slice o5 B.length k5 | 4 => (fun v w => ∃ g, v = .slice (some ⟨g, 0, none⟩) 2 2 ∧ W0.heap.size ≤ g ∧ Cel w g [.slice o2 A.length k2, .slice o5 B.length k5]) v w | 5 => (fun v w => PE W0.heap.size (.slice o2 A.length k2) (.slice o5 B.length k5) v w) v w | 6 => v = .pointer (some ⟨Ba, 2, none⟩) | 7 => v = .slice o3 E.length k3 | 8 => v = .pointer (some ⟨Bb, 2, none⟩) | 9 => v = .slice o6 Fl.length k6 | 10 => (fun v w => PX W0.heap.size (.slice o3 E.length k3) (.slice o6 Fl.length k6) v w) v w | 11 => v = .agg #[.slice o1 P.length k1, .slice o2 A.length k2, .slice o3 E.length k3, .int .i64 r] | 12 => v = .agg #[.slice o4 Q.length k4, .slice o5 B.length k5, .slice o6 Fl.length k6, .int .i64 s] | 13 => (fun v w => PW W0.heap.size [.slice o1 P.length k1, .slice o2 A.length k2, .slice o3 E.length k3, .int .i64 r] [.slice o4 Q.length k4, .slice o5 B.length k5, .slice o6 Fl.length k6, .int .i64 s] v w) v w | 14 => (fun v w => ∃ f1 f2 f3, v = .agg #[f1, f2, f3] ∧ PE W0.heap.size (.slice o2 A.length k2) (.slice o5 B.length k5) f1 w ∧ PX W0.heap.size (.slice o3 E.length k3) (.slice o6 Fl.length k6) f2 w ∧ PW W0.heap.size [.slice o1 P.length k1, .slice o2 A.length k2, .slice o3 E.length k3, .int .i64 r] [.slice o4 Q.length k4, .slice o5 B.length k5, .slice o6 Fl.length k6, .int .i64 s] f3 w) v w | 15 => v = .int .i64 0 | _ => True) := ⟨_, rfl⟩
    rw [← hR]
    have kn : RV.Kn R [.some (.pointer (some ⟨Ba, 1, none⟩)), .some (.slice o2 A.length k2), .some (.pointer (some ⟨Bb, 1, none⟩)), .some (.slice o5 B.length k5), none, none, .some (.pointer (some ⟨Ba, 2, none⟩)), .some (.slice o3 E.length k3), .some (.pointer (some ⟨Bb, 2, none⟩)), .some (.slice o6 Fl.length k6), none, .some (.agg #[.slice o1 P.length k1, .slice o2 A.length k2, .slice o3 E.length k3, .int .i64 r]), .some (.agg #[.slice o4 Q.length k4, .slice o5 B.length k5, .slice o6 Fl.length k6, .int .i64 s]), none, none, .some (.int .i64 0)] 0 := by rw [hR]; exact ⟨fun _ _ => Iff.rfl, fun _ _ => Iff.rfl, fun _ _ => Iff.rfl, fun _ _ => Iff.rfl, fun _ _ => Iff.rfl, fun _ _ => Iff.rfl, fun _ _ => Iff.rfl, fun _ _ => Iff.rfl, fun _ _ => Iff.rfl, fun _ _ => Iff.rfl, fun _ _ => Iff.rfl, trivial⟩
    have T := RV.kfacts [8, 9, 10, 11, 12, 13, 14, 15, 16, 17, 18, 19, 20, 21, 22, 23] [(1, .pointer (some ⟨Ba, 0, none⟩)), (2, .pointer (some ⟨Bb, 0, none⟩))] hD hZ kn ⟨rfl, rfl, trivial⟩ (by kernel_rfl) (by kernel_rfl)
    simp only [RV.Outs, RV.Slots, Nat.reduceAdd] at T
    have r4 : ∀ v w, R 4 v w = ((fun v w => ∃ g, v = .slice (some ⟨g, 0, none⟩) 2 2 ∧ W0.heap.size ≤ g ∧ Cel w g [.slice o2 A.length k2, .slice o5 B.length k5]) v w) := fun v w => by rw [hR]; rfl
    have r5 : ∀ v w, R 5 v w = ((fun v w => PE W0.heap.size (.slice o2 A.length k2) (.slice o5 B.length k5) v w) v w) := fun v w => by rw [hR]; rfl
    have r10 : ∀ v w, R 10 v w = ((fun v w => PX W0.heap.size (.slice o3 E.length k3) (.slice o6 Fl.length k6) v w) v w) := fun v w => by rw [hR]; rfl
    have r13 : ∀ v w, R 13 v w = ((fun v w => PW W0.heap.size [.slice o1 P.length k1, .slice o2 A.length k2, .slice o3 E.length k3, .int .i64 r] [.slice o4 Q.length k4, .slice o5 B.length k5, .slice o6 Fl.length k6, .int .i64 s] v w) v w) := fun v w => by rw [hR]; rfl
    have r14 : ∀ v w, R 14 v w = ((fun v w => ∃ f1 f2 f3, v = .agg #[f1, f2, f3] ∧ PE W0.heap.size (.slice o2 A.length k2) (.slice o5 B.length k5) f1 w ∧ PX W0.heap.size (.slice o3 E.length k3) (.slice o6 Fl.length k6) f2 w ∧ PW W0.heap.size [.slice o1 P.length k1, .slice o2 A.length k2, .slice o3 E.length k3, .int .i64 r] [.slice o4 Q.length k4, .slice o5 B.length k5, .slice o6 Fl.length k6, .int .i64 s] f3 w) v w) := fun v w => by rw [hR]; rfl
    have K : ∀ j v w w', Below w.heap.size w w' → R j v w → R j v w' := by
      intro j v w w' hb h
      rw [hR] at h ⊢
      match j with
      | 4 => obtain ⟨g, h1, h2, h3⟩ := h; exact ⟨g, h1, h2, h3.step hb⟩
      | 5 => exact PE.step h hb
      | 10 => exact PX.step h hb
      | 13 => exact PW.step h hb
      | 14 => obtain ⟨f1, f2, f3, h1, h2, h3, h4⟩ := h; exact ⟨f1, f2, f3, h1, h2.step hb, h3.step hb, h4.step hb⟩
      | 0 => exact h
      | 1 => exact h
      | 2 => exact h
      | 3 => exact h
      | 6 => exact h
      | 7 => exact h
      | 8 => exact h
      | 9 => exact h
      | 11 => exact h
      | 12 => exact h
      | 15 => exact h
      | (_ + 16) => trivial
    iterate 4 first
      | (refine RV.AllDo.cons _ (RV.pk kn T (fun γ v L w hl h => h) (fun γ L a w hH hl h9 k9 => ⟨_, ?_, rfl⟩)) ?_; · simp [execOp, go_sem, h9])
      | (refine RV.AllDo.cons _ (RV.pk kn T (fun γ v L w hl h => h) (fun γ L a w hH hl h9 k9 => ⟨_, ?_, rfl⟩)) ?_; · have wz0 := Cel.step CA.out hH.glob 1 _ rfl; simp [Region.binds] at k9; simp [execOp, go_sem, h9, k9, wz0])
      | (refine RV.AllDo.cons _ (RV.pk kn T (fun γ v L w hl h => h) (fun γ L a w hH hl h9 k9 => ⟨_, ?_, rfl⟩)) ?_; · have wz0 := Cel.step CB.out hH.glob 1 _ rfl; simp [Region.binds] at k9; simp [execOp, go_sem, h9, k9, wz0])
    refine RV.AllDo.cons _ (RV.does_step (fun γ L a w hH hl hA => by have h9 := T _ _ γ L a w hH; have k9 := hA; simp [Region.binds] at k9; have hb9 := n_after w (.cells #[.slice o2 A.length k2, .slice o5 B.length k5] 24); exact ⟨.slice (some ⟨w.heap.size, 0, none⟩) 2 2, w.alloc (.cells #[.slice o2 A.length k2, .slice o5 B.length k5] 24), by simp [execOp, go_sem, h9, k9], (r4 _ _).mpr ⟨_, rfl, hH.glob.size, Cel.new w [.slice o2 A.length k2, .slice o5 B.length k5] _⟩, fun j v _ h => K j v _ _ hb9 h, b_step hH.glob hb9⟩)) ?_
    refine RV.AllDo.cons _ (RV.does_call (fun γ L a w hH hl hA => by have l0 : L 4 = true := hA ⟨4, .data⟩ (by simp) rfl; have e0 := hH.slot 4 11 (by rw [← hD]; rfl) l0; have g0 := hH.holds 4 l0; rw [r4] at g0; obtain ⟨g, hv, hg, hc⟩ := g0; rw [hv] at e0; refine ⟨137, #[.slice (some ⟨g, 0, none⟩) 2 2], by simp [go_sem, e0], Calls.mono (neach_in _ _ _ w) ?_⟩; rintro e w2 ⟨rfl, rfl⟩; have hb9 := n_after w (.cells #[.slice (some ⟨g, 0, none⟩) 2 2] 150); exact ⟨_, rfl, (r5 _ _).mpr ⟨w.heap.size, g, rfl, hH.glob.size, hg, Cel.new w [.slice (some ⟨g, 0, none⟩) 2 2] _, hc.step hb9⟩, fun j v _ h => K j v _ _ hb9 h, b_step hH.glob hb9⟩)) ?_
    iterate 4 first
      | (refine RV.AllDo.cons _ (RV.pk kn T (fun γ v L w hl h => h) (fun γ L a w hH hl h9 k9 => ⟨_, ?_, rfl⟩)) ?_; · simp [execOp, go_sem, h9])
      | (refine RV.AllDo.cons _ (RV.pk kn T (fun γ v L w hl h => h) (fun γ L a w hH hl h9 k9 => ⟨_, ?_, rfl⟩)) ?_; · have wz0 := Cel.step CA.out hH.glob 2 _ rfl; simp [Region.binds] at k9; simp [execOp, go_sem, h9, k9, wz0])
      | (refine RV.AllDo.cons _ (RV.pk kn T (fun γ v L w hl h => h) (fun γ L a w hH hl h9 k9 => ⟨_, ?_, rfl⟩)) ?_; · have wz0 := Cel.step CB.out hH.glob 2 _ rfl; simp [Region.binds] at k9; simp [execOp, go_sem, h9, k9, wz0])
    refine RV.AllDo.cons _ (RV.does_call (fun γ L a w hH hl hA => by have h9 := T _ _ γ L a w hH; have k9 := hA; simp [Region.binds] at k9; refine ⟨138, #[.slice o3 E.length k3, .slice o6 Fl.length k6], by simp [go_sem, h9, k9], Calls.mono (ncrosses_in _ _ _ _ _ _ w) ?_⟩; rintro e w2 ⟨rfl, rfl⟩; have hb9 := b_step (n_after w (.cells #[.slice o3 E.length k3] 24)) (n_after _ (.cells #[.slice o6 Fl.length k6] 24)); have h2 := Cel.two w [.slice o3 E.length k3] [.slice o6 Fl.length k6] 24 24; exact ⟨_, rfl, (r10 _ _).mpr ⟨w.heap.size, rfl, hH.glob.size, h2.1, h2.2⟩, fun j v _ h => K j v _ _ hb9 h, b_step hH.glob hb9⟩)) ?_
    iterate 2 first
      | (refine RV.AllDo.cons _ (RV.pk kn T (fun γ v L w hl h => h) (fun γ L a w hH hl h9 k9 => ⟨_, ?_, rfl⟩)) ?_; · have wz0 := Cel.step CA.out hH.glob 0 _ rfl; have wz1 := Cel.step CA.out hH.glob 1 _ rfl; have wz2 := Cel.step CA.out hH.glob 2 _ rfl; have wz3 := Cel.step CA.out hH.glob 3 _ rfl; simp [execOp, go_sem, h9, wz0, wz1, wz2, wz3])
      | (refine RV.AllDo.cons _ (RV.pk kn T (fun γ v L w hl h => h) (fun γ L a w hH hl h9 k9 => ⟨_, ?_, rfl⟩)) ?_; · have wz0 := Cel.step CB.out hH.glob 0 _ rfl; have wz1 := Cel.step CB.out hH.glob 1 _ rfl; have wz2 := Cel.step CB.out hH.glob 2 _ rfl; have wz3 := Cel.step CB.out hH.glob 3 _ rfl; simp [execOp, go_sem, h9, wz0, wz1, wz2, wz3])
    refine RV.AllDo.cons _ (RV.does_call (fun γ L a w hH hl hA => by have h9 := T _ _ γ L a w hH; have k9 := hA; simp [Region.binds] at k9; refine ⟨139, #[.agg #[.slice o1 P.length k1, .slice o2 A.length k2, .slice o3 E.length k3, .int .i64 r], .agg #[.slice o4 Q.length k4, .slice o5 B.length k5, .slice o6 Fl.length k6, .int .i64 s]], by simp [go_sem, h9, k9], Calls.mono (nways_in _ _ _ _ _ _ r s w) ?_⟩; rintro e w2 ⟨rfl, rfl⟩; have hb9 := b_step (n_after w (.cells #[.slice o1 P.length k1, .slice o2 A.length k2, .slice o3 E.length k3, .int .i64 r] 35)) (n_after _ (.cells #[.slice o4 Q.length k4, .slice o5 B.length k5, .slice o6 Fl.length k6, .int .i64 s] 35)); have h2 := Cel.two w [.slice o1 P.length k1, .slice o2 A.length k2, .slice o3 E.length k3, .int .i64 r] [.slice o4 Q.length k4, .slice o5 B.length k5, .slice o6 Fl.length k6, .int .i64 s] 35 35; exact ⟨_, rfl, (r13 _ _).mpr ⟨w.heap.size, rfl, hH.glob.size, h2.1, h2.2⟩, fun j v _ h => K j v _ _ hb9 h, b_step hH.glob hb9⟩)) ?_
    refine RV.AllDo.cons _ (RV.does_step (fun γ L a w hH hl hA => by have l0 : L 5 = true := hA ⟨5, .data⟩ (by simp) rfl; have l1 : L 10 = true := hA ⟨10, .data⟩ (by simp) rfl; have l2 : L 13 = true := hA ⟨13, .data⟩ (by simp) rfl; have e0 := hH.slot 5 12 (by rw [← hD]; rfl) l0; have g0 := hH.holds 5 l0; rw [r5] at g0; have e1 := hH.slot 10 17 (by rw [← hD]; rfl) l1; have g1 := hH.holds 10 l1; rw [r10] at g1; have e2 := hH.slot 13 20 (by rw [← hD]; rfl) l2; have g2 := hH.holds 13 l2; rw [r13] at g2; obtain ⟨b1_, g1_, hv0, x1, x2, x3, x4⟩ := g0; obtain ⟨b2_, hv1, x5, x6, x7⟩ := g1; obtain ⟨b3_, hv2, x8, x9, x10⟩ := g2; rw [hv0] at e0; rw [hv1] at e1; rw [hv2] at e2; exact ⟨.agg #[.func (.func 157) #[] #[.pointer (some ⟨b1_, 0, none⟩)], .func (.func 158) #[] #[.pointer (some ⟨b2_, 0, none⟩), .pointer (some ⟨b2_ + 1, 0, none⟩)], .func (.func 160) #[] #[.pointer (some ⟨b3_, 0, none⟩), .pointer (some ⟨b3_ + 1, 0, none⟩)]], w, by simp [execOp, go_sem, e0, e1, e2], (r14 _ _).mpr ⟨_, _, _, rfl, ⟨b1_, g1_, rfl, x1, x2, x3, x4⟩, ⟨b2_, rfl, x5, x6, x7⟩, ⟨b3_, rfl, x8, x9, x10⟩⟩, fun j v _ h => h, hH.glob⟩)) ?_
    (refine RV.AllDo.cons _ (RV.pk kn T (fun γ v L w hl h => h) (fun γ L a w hH hl h9 k9 => ⟨_, ?_, rfl⟩)) ?_; · simp [execOp, go_sem])
    exact RV.AllDo.nil
  · intro γ a5 w5 L9 hL hLo hH
    have ha := RV.held_act hH hL (by kernel_rfl) (by kernel_rfl)
    obtain ⟨f1, f2, f3, e14, h1, h2, h3_⟩ : ∃ f1 f2 f3, γ 14 = .agg #[f1, f2, f3] ∧ PE W0.heap.size (.slice o2 A.length k2) (.slice o5 B.length k5) f1 w5 ∧ PX W0.heap.size (.slice o3 E.length k3) (.slice o6 Fl.length k6) f2 w5 ∧ PW W0.heap.size [.slice o1 P.length k1, .slice o2 A.length k2, .slice o3 E.length k3, .int .i64 r] [.slice o4 Q.length k4, .slice o5 B.length k5, .slice o6 Fl.length k6, .int .i64 s] f3 w5 := hH.holds 14 (hL 14 (by decide))
    have e15 : γ 15 = .int .i64 0 := hH.holds 15 (hL 15 (by decide))
    have b5 := hH.glob
    rw [ha]
    clear ha hH hL hLo
    simp only [RV.putAll, Act.put, List.setIfInBounds_toArray, List.set_cons_zero, List.set_cons_succ, Nat.zero_add, Nat.reduceAdd]
    rw [e14, e15]
    clear e14 e15
    obtain ⟨b1, g1, rfl, hb1n, hg1n, CE1, CE2⟩ := h1
    obtain ⟨b2, rfl, hb2n, CX1, CX2⟩ := h2
    obtain ⟨b3, rfl, hb3n, CW1, CW2⟩ := h3_
    have HW5 : Hid _ := And.intro CE1 (And.intro CE2 (And.intro CX1 (And.intro CX2 (And.intro CW1 CW2))))
    clear CE1 CE2 CX1 CX2 CW1 CW2
    have sb1 : S b1 := HSn.out b1 (by omega)
    have sg1 : S g1 := HSn.out g1 (by omega)
    have sb2 : S b2 := HSn.out b2 (by omega)
    have sb2' : S (b2 + 1) := HSn.out (b2 + 1) (by omega)
    have sb3 : S b3 := HSn.out b3 (by omega)
    have sb3' : S (b3 + 1) := HSn.out (b3 + 1) (by omega)
    have hs5 : W.heap.size + 2 ≤ w5.heap.size := by have := Cel.lt HW5.out.2.2.2.2.2; omega
    have HJ5 : Hid (J (both (preC (A ++ B) (crossL E Fl) (wayL P Q (E ++ Fl)) 0)).length w5) := own_step hJ HJ0.out b5
    gi_wp2
    refine wpIn_loop (fun a wr => ∃ u4 u5 u6 u7 u8 u9 u10 u11 u12 u13 u14 u15 u16 u17 u18 u19 u20 u23 u24 u25 u26 u27 u28 u29 u30 u31 u32 u33 u34 u35 u36 u37 u38 u39 u40 u41 u42 u43 : Value, ∃ (i : Nat) (Dl : List Nat), a = ({ tmps := #[.func (.yield l) #[] #[], .pointer (some ⟨Ba, 0, none⟩), .pointer (some ⟨Bb, 0, none⟩), .pointer (some ⟨S0, 0, none⟩), u4, u5, u6, u7, u8, u9, u10, u11, u12, u13, u14, u15, u16, u17, u18, u19, u20, .agg #[.func (.func 157) #[] #[.pointer (some ⟨b1, 0, none⟩)], .func (.func 158) #[] #[.pointer (some ⟨b2, 0, none⟩), .pointer (some ⟨b2 + 1, 0, none⟩)], .func (.func 160) #[] #[.pointer (some ⟨b3, 0, none⟩), .pointer (some ⟨b3 + 1, 0, none⟩)]], .int .i64 (i : Int), u23, u24, u25, u26, u27, u28, u29, u30, u31, u32, u33, u34, u35, u36, u37, u38, u39, u40, u41, u42, u43], defers := Dl.map mkD } : Act) ∧ i ≤ 3 ∧ Hid (J (both (preC (A ++ B) (crossL E Fl) (wayL P Q (E ++ Fl)) i)).length wr) ∧ Hid (KeepC S w5 wr) ∧ Hid (Marks (W.heap.size + 2) Dl wr)) (fun a _ => 3 - (intOf (a.tmps.getD 22 undef)).toNat) ⟨_, _, _, _, _, _, _, _, _, _, _, _, _, _, _, _, _, _, _, _, _, _, _, _, _, _, _, _, _, _, _, _, _, _, _, _, _, _, 0, [], rfl, by omega, HJ5, KeepC.refl _ _, Marks.nil _ _⟩ ?_
    clear HJ5 HJ0
    rintro a wr ⟨u4, u5, u6, u7, u8, u9, u10, u11, u12, u13, u14, u15, u16, u17, u18, u19, u20, u23, u24, u25, u26, u27, u28, u29, u30, u31, u32, u33, u34, u35, u36, u37, u38, u39, u40, u41, u42, u43, i, Dl, rfl, hi, HJ, HK, HM⟩
    have CE1 := HW5.out.1.keepC HK.out sb1
    have CE2 := HW5.out.2.1.keepC HK.out sg1
    have CX1 := HW5.out.2.2.1.keepC HK.out sb2
    have CX2 := HW5.out.2.2.2.1.keepC HK.out sb2'
    have CW1 := HW5.out.2.2.2.2.1.keepC HK.out sb3
    have CW2 := HW5.out.2.2.2.2.2.keepC HK.out sb3'
    have LP6 := (LP.out.below b5).keepC HK.out sP
    have LA6 := (LA.out.below b5).keepC HK.out sA
    have LE6 := (LE.out.below b5).keepC HK.out sE
    have LQ6 := (LQ.out.below b5).keepC HK.out sQ
    have LB6 := (LB.out.below b5).keepC HK.out sB
    have LF6 := (LF.out.below b5).keepC HK.out sF
    have hwr : w5.heap.size ≤ wr.heap.size := HK.out.size
    have hSw : ∀ b, wr.heap.size ≤ b → S b := fun b h => HSn.out b (by omega)
    match i, hi with
    | 0, _ =>
      rw [show ((0 : Nat) : Int) = 0 from rfl]
      have HBT : Hid _ := fun (k : Nat) (hk : k < (A ++ B).length) => both_step [] (A ++ B) ((crossL E Fl) ++ (wayL P Q (E ++ Fl))) hk
      have hcc : [] ++ ((A ++ B) ++ ((crossL E Fl) ++ (wayL P Q (E ++ Fl)))) = (candL ⟨P, A, E, r⟩ ⟨Q, B, Fl, s⟩) := rfl
      rw [hcc] at HBT
      clear hcc
      have HJ : Hid (J (both ([] ++ (A ++ B).take 0)).length wr) := by have h8 := HJ.out; simpa [preC, Hid] using h8
      have hml := HM.out.lt
      have hix : ∀ Wx : World, (Instr.index 166 (.agg #[.func (.func 157) #[] #[.pointer (some ⟨b1, 0, none⟩)], .func (.func 158) #[] #[.pointer (some ⟨b2, 0, none⟩), .pointer (some ⟨b2 + 1, 0, none⟩)], .func (.func 160) #[] #[.pointer (some ⟨b3, 0, none⟩), .pointer (some ⟨b3 + 1, 0, none⟩)]]) (.int .i64 0)).run Tryz.prog Wx = .ok (.func (.func 157) #[] #[.pointer (some ⟨b1, 0, none⟩)]) Wx := fun Wx => by simp [Instr.index, run_underlying Tryz.underlying166, asIntOf, go_sem]
      gi_wp2
      clear hix
      refine' range_t (n := n) (by omega) (gf := 157) (lb := #[.pointer (some ⟨b1, 0, none⟩)]) rfl (enters_of Tryz.func157 (by kernel_rfl) rfl)
        (neach_tells (n - 1) b1 g1 A B (.slice o2 A.length k2) (.slice o5 B.length k5) S wr (CE1 0 _ rfl) (CE2 0 _ rfl) (CE2 1 _ rfl) LA6 LB6 sA sB sb1 sg1) rfl
        (fun k V => J (both ([] ++ (A ++ B).take k)).length V ∧ KeepC S wr V ∧ Marks (W.heap.size + 2) Dl V)
        (fun k A B row hs hg hr => ⟨hJ _ A B row hs.1 hg (fun r e => ⟨by have := (hr r e).1; omega, (hr r e).2⟩), hs.2.1.own hg hr, hs.2.2.own hml hg (fun r e => (hr r e).1)⟩)
        ⟨HJ.out, KeepC.refl _ _, HM.out⟩ _ 23 ?assign ?body ?done
      case assign =>
        intro lq k V nb K hk hnb hK
        unfold Pt.v
        gi_wp2
        rw [← hnb]
        exact hK
      case body =>
        rintro lq k V nb hk hIw hnb hob
        obtain ⟨hj7, hk7, hm7⟩ := hIw V ⟨rfl, rfl, rfl, Nat.le_refl _, fun _ _ _ => rfl⟩
        have B3 : Hid (Box3 V nb (pt (A ++ B) k)) := ⟨by simp [World.cell?, hob], by simp [World.cell?, hob], by simp [World.cell?, hob], by simp [World.frozen?, hob], by simp [World.frozen?, hob], by simp [World.frozen?, hob]⟩
        have t0 := Cel.keepC CT.out ((KeepC.below b5).trans (HK.out.trans hk7)) sT 0 _ rfl
        have HBS : Hid _ := HBT.out k hk
        have HLG : Hid _ := fun w' => nlong_any (pt (A ++ B) k) w'
        have hnS : S nb := HSn.out nb (by have := HK.out.size; have := b5.size; omega)
        have hSb : S0 < nb := by have := Cel.lt CT.out; have := HK.out.size; have := b5.size; omega
        have HK7 : Hid _ := hk7
        have HIW : Hid _ := hIw
        have hin := lng_in (pt (A ++ B) k)
        clear hob hIw hk7 hm7 hj7
        obtain ⟨len, hlen⟩ : ∃ m, m = (both ([] ++ (A ++ B).take k)).length := ⟨_, rfl⟩
        rw [← hlen] at HBS HIW
        have HLN : Hid _ := hlen
        clear hlen
        generalize (pt (A ++ B) k).lng = ln at *
        generalize pt (A ++ B) k = p at *
        have HNG : Hid _ := fun w' => nback_any ln w' (inB_mono hin (by decide))
        obtain ⟨px, py, pz⟩ := p
        obtain ⟨lx, ly, lz⟩ := ln
        obtain ⟨y0, y1, y2, f0, f1, f2⟩ := B3.out
        unfold Pt.v at HLG HNG
        dsimp only at *
        gi_wp2
        refine ⟨trivial, fun h => (by cases h), CallsIn.mono (CallsIn.inRound lq (callsIn_wide.2 (HLG.out _))) ?_⟩
        rintro e X1 ⟨rfl, hb1⟩
        have z0 := c_after hb1 y0
        have z1 := c_after hb1 y1
        have z2 := c_after hb1 y2
        have g0 := f_after hb1 y0 f0
        have g1 := f_after hb1 y1 f1
        have g2 := f_after hb1 y2 f2
        obtain ⟨V1, hV1⟩ : ∃ Z, Z = ((X1.setCell ⟨nb, 0, none⟩ (.int .i64 lx)).setCell ⟨nb, 1, none⟩ (.int .i64 ly)).setCell ⟨nb, 2, none⟩ (.int .i64 lz) := ⟨_, rfl⟩
        have eV1 : V1 = set3 X1 nb lx ly lz := hV1
        have BV : Box3 V1 nb ⟨lx, ly, lz⟩ := by rw [eV1]; exact (B3.out.step hb1).set _ _ _
        have q0 := BV.c0
        have q1 := BV.c1
        have q2 := BV.c2
        dsimp only at q0 q1 q2
        have KV : Hid (KeepC (fun b => S b ∧ b ≠ nb) V V1) := by show KeepC _ _ _; rw [eV1]; exact (KeepC.below hb1).trans (keepC_set3 X1 nb lx ly lz)
        have t1 : V1.cell? ⟨S0, 0, none⟩ = some (.func (.yield l) #[] #[]) := KV.out.cell ⟨S0, 0, none⟩ _ ⟨sT, by show S0 ≠ nb; omega⟩ t0
        have gV : V.grownBy V1 (some nb) := by rw [eV1]; exact G.trans (below_grown hb1 _) (grown_set3 X1 nb lx ly lz)
        have HFV : Hid (KeepsFrom wr.heap.size V V1) := by show KeepsFrom _ _ _; rw [eV1]; exact (keeps_below hb1).trans (keeps_set3 X1 nb _ lx ly lz)
        obtain ⟨hj1, hk1, hm1⟩ := HIW.out V1 gV
        have HJ1 : Hid _ := hj1
        have HM1 : Hid _ := hm1
        have HKW : Hid _ := hk1
        clear hj1 hk1 hm1 gV BV eV1 HIW B3 HLG HK7
        by_cases hz : (⟨lx, ly, lz⟩ : Pt) = Pt.O
        · obtain ⟨rfl, rfl, rfl⟩ : lx = 0 ∧ ly = 0 ∧ lz = 0 := by simpa [Pt.O] using hz
          have HEQ : Hid (both ([] ++ (A ++ B).take (k + 1)) = both ([] ++ (A ++ B).take k)) := HBS.out.1 rfl
          have HFI : Hid (J (both ([] ++ (A ++ B).take (k + 1))).length V1 ∧ KeepC S wr V1 ∧ Marks (W.heap.size + 2) Dl V1) := ⟨by rw [HEQ.out, ← HLN.out]; exact HJ1.out, HKW.out, HM1.out⟩
          clear hz HBS y0 y1 y2 f0 f1 f2
          gi_wp2
          rw [← hV1]
          exact ⟨HFV.out, KV.out, HFI.out⟩
        · obtain ⟨hl2, hlt, hp1, hp2⟩ := HBS.out.2 hz
          have HY1 : Hid _ := fun Vx hV => yield_at (hY len Vx (by omega) hV) hp1
          have HY2 : Hid _ := fun Vx hV => yield_at (hY (len + 1) Vx hlt hV) hp2
          have HJV : Hid (∀ Vx, Below V1.heap.size V1 Vx → J len Vx) := fun Vx h => own_step hJ HJ1.out h
          have HFN : Hid (∀ Z, J (len + 1 + 1) Z → KeepC S V1 Z → KeepsFrom (m0 + 2) V1 Z → KeepsFrom wr.heap.size V Z ∧ KeepC (fun b => S b ∧ b ≠ nb) V Z ∧ (J (both ([] ++ (A ++ B).take (k + 1))).length Z ∧ KeepC S wr Z ∧ Marks (W.heap.size + 2) Dl Z)) := fun Z k1 k2 k3 => ⟨HFV.out.trans (keeps_up k3 (by omega)), KV.out.trans (k2.mono (fun b h => h.1)), by rw [hl2]; exact k1, HKW.out.trans k2, HM1.out.keeps k3 (by omega)⟩
          have hz3 : lx = 0 → ly = 0 → ¬ lz = 0 := fun a b c => hz (by rw [a, b, c]; rfl)
          generalize hng : Pt.neg ⟨lx, ly, lz⟩ = ng at *
          obtain ⟨mx, my, mz⟩ := ng
          have HBK : Hid _ := HNG
          unfold Pt.v at HY1 HY2
          dsimp only at HY1 HY2 HBK
          clear hz HBS hl2 hlt hp1 hp2 hng hin HNG y0 y1 y2 f0 f1 f2 HFV KV HKW HM1 HJ1
          gi_upto_region 7 with fail
          rw [← hV1]
          clear hV1
          gi_cut [31] from 27 (fun s31 wx => s31 = .bool false ∧ wx = V1)
          case first =>
            clear HY1 HY2 HJV HFN HBK
            gi_wp2
            all_goals first
              | (exfalso; exact hz3 (by assumption) (by assumption) (by assumption))
              | (gi_meet; case rel => exact ⟨rfl, rfl⟩)
          case rest =>
            obtain ⟨rfl, e9⟩ := hcut
            rw [e9]
            clear hz3 e9
            gi_wp2
            refine RI.region_by (fun _ => trivial) (fun γ j => match j with | 0 => .func (.yield l) #[] #[] | 1 => .agg #[.int .i64 lx, .int .i64 ly, .int .i64 lz] | 2 => .bool true | 3 => .bool false | 4 => .bool false | 5 => .func (.yield l) #[] #[] | 6 => .agg #[.int .i64 lx, .int .i64 ly, .int .i64 lz] | 7 => .agg #[.int .i64 mx, .int .i64 my, .int .i64 mz] | 8 => .bool true | 9 => .bool false | 10 => .bool false | _ => undef) (fun γ L v => (L 2 = false ∧ Below V1.heap.size V1 v) ∨ (L 2 = true ∧ ((L 8 = false ∧ (J (len + 1) v ∧ KeepC S V1 v ∧ KeepsFrom (m0 + 2) V1 v)) ∨ (L 8 = true ∧ (J (len + 1 + 1) v ∧ KeepC S V1 v ∧ KeepsFrom (m0 + 2) V1 v))))) (by kernel_rfl) (by kernel_rfl) (by kernel_rfl) (by kernel_rfl) (fun _ => 0) ?_ ?_ ?_
            · exact Or.inl ⟨rfl, (Below.refl _ V1).drew⟩
            · generalize hD : RI.dstOf _ = D
              generalize hWA : RI.waitsFor _ = A
              generalize hZ : Act.mk _ _ = Z
              have d0 : D 0 = some 32 := by rw [← hD]; rfl
              have d1 : D 1 = some 33 := by rw [← hD]; rfl
              have d2 : D 2 = some 34 := by rw [← hD]; rfl
              have d3 : D 3 = some 35 := by rw [← hD]; rfl
              have d4 : D 4 = some 36 := by rw [← hD]; rfl
              have d5 : D 5 = some 37 := by rw [← hD]; rfl
              have d6 : D 6 = some 38 := by rw [← hD]; rfl
              have d7 : D 7 = some 39 := by rw [← hD]; rfl
              have d8 : D 8 = some 40 := by rw [← hD]; rfl
              have d9 : D 9 = some 41 := by rw [← hD]; rfl
              have d10 : D 10 = some 42 := by rw [← hD]; rfl
              have R3 : ∀ (γ : Nat → Nat) (L : Nat → Bool) (a : Act) (w : World), RI.Held D A (fun γ j => match j with | 0 => .func (.yield l) #[] #[] | 1 => .agg #[.int .i64 lx, .int .i64 ly, .int .i64 lz] | 2 => .bool true | 3 => .bool false | 4 => .bool false | 5 => .func (.yield l) #[] #[] | 6 => .agg #[.int .i64 lx, .int .i64 ly, .int .i64 lz] | 7 => .agg #[.int .i64 mx, .int .i64 my, .int .i64 mz] | 8 => .bool true | 9 => .bool false | 10 => .bool false | _ => undef) (fun γ L v => (L 2 = false ∧ Below V1.heap.size V1 v) ∨ (L 2 = true ∧ ((L 8 = false ∧ (J (len + 1) v ∧ KeepC S V1 v ∧ KeepsFrom (m0 + 2) V1 v)) ∨ (L 8 = true ∧ (J (len + 1 + 1) v ∧ KeepC S V1 v ∧ KeepsFrom (m0 + 2) V1 v))))) Z γ L a w → a.tmps[3]? = some (.pointer (some ⟨S0, 0, none⟩)) := fun γ L a w hH => (hH.rest 3 (by rw [← hD]; exact RI.dst_free (by kernel_rfl))).trans (by rw [← hZ]; rfl)
              have R6 : ∀ (γ : Nat → Nat) (L : Nat → Bool) (a : Act) (w : World), RI.Held D A (fun γ j => match j with | 0 => .func (.yield l) #[] #[] | 1 => .agg #[.int .i64 lx, .int .i64 ly, .int .i64 lz] | 2 => .bool true | 3 => .bool false | 4 => .bool false | 5 => .func (.yield l) #[] #[] | 6 => .agg #[.int .i64 lx, .int .i64 ly, .int .i64 lz] | 7 => .agg #[.int .i64 mx, .int .i64 my, .int .i64 mz] | 8 => .bool true | 9 => .bool false | 10 => .bool false | _ => undef) (fun γ L v => (L 2 = false ∧ Below V1.heap.size V1 v) ∨ (L 2 = true ∧ ((L 8 = false ∧ (J (len + 1) v ∧ KeepC S V1 v ∧ KeepsFrom (m0 + 2) V1 v)) ∨ (L 8 = true ∧ (J (len + 1 + 1) v ∧ KeepC S V1 v ∧ KeepsFrom (m0 + 2) V1 v))))) Z γ L a w → a.tmps[6]? = some (.pointer (some ⟨nb, 0, none⟩)) := fun γ L a w hH => (hH.rest 6 (by rw [← hD]; exact RI.dst_free (by kernel_rfl))).trans (by rw [← hZ]; rfl)
              have A_2_0 : A 2 0 := by rw [← hWA]; exact ⟨_, rfl, ⟨0, .data⟩, by simp, rfl, rfl⟩
              have A_2_1 : A 2 1 := by rw [← hWA]; exact ⟨_, rfl, ⟨1, .data⟩, by simp, rfl, rfl⟩
              have A_3_2 : A 3 2 := by rw [← hWA]; exact ⟨_, rfl, ⟨2, .data⟩, by simp, rfl, rfl⟩
              have A_4_3 : A 4 3 := by rw [← hWA]; exact ⟨_, rfl, ⟨3, .data⟩, by simp, rfl, rfl⟩
              have A_7_6 : A 7 6 := by rw [← hWA]; exact ⟨_, rfl, ⟨6, .data⟩, by simp, rfl, rfl⟩
              have A_8_5 : A 8 5 := by rw [← hWA]; exact ⟨_, rfl, ⟨5, .data⟩, by simp, rfl, rfl⟩
              have A_8_7 : A 8 7 := by rw [← hWA]; exact ⟨_, rfl, ⟨7, .data⟩, by simp, rfl, rfl⟩
              have A_9_8 : A 9 8 := by rw [← hWA]; exact ⟨_, rfl, ⟨8, .data⟩, by simp, rfl, rfl⟩
              have A_10_4 : A 10 4 := by rw [← hWA]; exact ⟨_, rfl, ⟨4, .data⟩, by simp, rfl, rfl⟩
              have A_10_9 : A 10 9 := by rw [← hWA]; exact ⟨_, rfl, ⟨9, .data⟩, by simp, rfl, rfl⟩
              have A_8_4 : A 8 4 := by rw [← hWA]; exact ⟨_, rfl, ⟨4, .guard⟩, by simp, rfl, rfl⟩
              clear hD hWA hZ
              refine RI.AllDo.cons 0 (RI.does_pure (fun _ => trivial) rfl (fun γ L w h => by rw [RI.more_ne (i := 0) (j := 2) (by decide), RI.more_ne (i := 0) (j := 8) (by decide)]; exact h) (fun γ L a w hH hl hA => by have e0 := R3 γ L a w hH; have n2 : L 2 = false := RI.not_yet hH A_2_0 hl; have hB9 := RI.early hH.glob n2; have zz0 := c_after hB9 t1; simp [execOp, go_sem, e0, zz0])) ?_
              refine RI.AllDo.cons 1 (RI.does_pure (fun _ => trivial) rfl (fun γ L w h => by rw [RI.more_ne (i := 1) (j := 2) (by decide), RI.more_ne (i := 1) (j := 8) (by decide)]; exact h) (fun γ L a w hH hl hA => by have e0 := R6 γ L a w hH; have n2 : L 2 = false := RI.not_yet hH A_2_1 hl; have hB9 := RI.early hH.glob n2; have zz0 := c_after hB9 q0; have zz1 := c_after hB9 q1; have zz2 := c_after hB9 q2; simp [execOp, go_sem, e0, zz0, zz1, zz2])) ?_
              refine RI.AllDo.cons 2 (RI.does_round (fun _ => trivial) (by omega) rfl (fun γ L a w hH hl hA => by have e0 : a.tmps[32]? = some (.func (.yield l) #[] #[]) := hH.slot 0 32 d0 (hA ⟨0, .data⟩ (by simp) rfl); have e1 : a.tmps[33]? = some (.agg #[.int .i64 lx, .int .i64 ly, .int .i64 lz]) := hH.slot 1 33 d1 (hA ⟨1, .data⟩ (by simp) rfl); have hB9 := RI.early hH.glob hl; have n3 : L 3 = false := RI.not_yet hH A_3_2 hl; have n4 : L 4 = false := RI.not_yet hH A_4_3 n3; have n8 : L 8 = false := RI.not_yet hH A_8_4 n4; obtain ⟨fn2, tm2, as2, bo2, hy2, hR2⟩ := HY1.out _ (HJV.out _ hB9); exact ⟨l, fn2, tm2, as2, bo2, by simp [go_sem, e0, e1, hy2], (round_any _ hR2).mono (by rintro e w2 ⟨rfl, hJ8, hk8, hf8⟩; exact ⟨_, γ, rfl, fun _ _ => rfl, fun _ => rfl, by rw [RI.more_self, RI.more_ne (i := 2) (j := 8) (by decide)]; exact Or.inr ⟨rfl, Or.inl ⟨n8, hJ8, (KeepC.below hB9).trans hk8, (keeps_below hB9).trans hf8⟩⟩⟩)⟩)) ?_
              refine RI.AllDo.cons 3 (RI.does_pure (fun _ => trivial) rfl (fun γ L w h => by rw [RI.more_ne (i := 3) (j := 2) (by decide), RI.more_ne (i := 3) (j := 8) (by decide)]; exact h) (fun γ L a w hH hl hA => by have e0 : a.tmps[34]? = some (.bool true) := hH.slot 2 34 d2 (hA ⟨2, .data⟩ (by simp) rfl); simp [execOp, go_sem, e0])) ?_
              refine RI.AllDo.cons 4 (RI.does_pure (fun _ => trivial) rfl (fun γ L w h => by rw [RI.more_ne (i := 4) (j := 2) (by decide), RI.more_ne (i := 4) (j := 8) (by decide)]; exact h) (fun γ L a w hH hl hA => by have e0 : a.tmps[35]? = some (.bool false) := hH.slot 3 35 d3 (hA ⟨3, .data⟩ (by simp) rfl); simp [execOp, go_sem, e0])) ?_
              refine RI.AllDo.cons 5 (RI.does_guarded rfl d4 (fun γ => rfl) (by simp) (RI.does_pure (fun _ => trivial) rfl (fun γ L w h => by rw [RI.more_ne (i := 5) (j := 2) (by decide), RI.more_ne (i := 5) (j := 8) (by decide)]; exact h) (fun γ L a w hH hl hA => by have e0 := R3 γ L a w hH; have l4_ : L 4 = true := hA ⟨4, .guard⟩ (by simp) rfl; have l3_ := hH.closed 4 3 A_4_3 l4_; have l2_ := hH.closed 3 2 A_3_2 l3_; have n8 : L 8 = false := RI.not_yet hH A_8_5 hl; have hM := RI.early (RI.late hH.glob l2_) n8; have zz0 := hM.2.1.cell ⟨S0, 0, none⟩ _ sT t1; simp [execOp, go_sem, e0, zz0]))) ?_
              refine RI.AllDo.cons 6 (RI.does_guarded rfl d4 (fun γ => rfl) (by simp) (RI.does_pure (fun _ => trivial) rfl (fun γ L w h => by rw [RI.more_ne (i := 6) (j := 2) (by decide), RI.more_ne (i := 6) (j := 8) (by decide)]; exact h) (fun γ L a w hH hl hA => by have e0 := R6 γ L a w hH; have l4_ : L 4 = true := hA ⟨4, .guard⟩ (by simp) rfl; have l3_ := hH.closed 4 3 A_4_3 l4_; have l2_ := hH.closed 3 2 A_3_2 l3_; have n7 : L 7 = false := RI.not_yet hH A_7_6 hl; have n8 : L 8 = false := RI.not_yet hH A_8_7 n7; have hM := RI.early (RI.late hH.glob l2_) n8; have zz0 := hM.2.1.cell ⟨nb, 0, none⟩ _ hnS q0; have zz1 := hM.2.1.cell ⟨nb, 1, none⟩ _ hnS q1; have zz2 := hM.2.1.cell ⟨nb, 2, none⟩ _ hnS q2; simp [execOp, go_sem, e0, zz0, zz1, zz2]))) ?_
              refine RI.AllDo.cons 7 (RI.does_guarded rfl d4 (fun γ => rfl) (by simp) (RI.does_call (fun _ => trivial) (by omega) rfl (fun γ L a w hH hl hA => by have e0 : a.tmps[38]? = some (.agg #[.int .i64 lx, .int .i64 ly, .int .i64 lz]) := hH.slot 6 38 d6 (hA ⟨6, .data⟩ (by simp) rfl); have l4_ : L 4 = true := hA ⟨4, .guard⟩ (by simp) rfl; have l3_ := hH.closed 4 3 A_4_3 l4_; have l2_ := hH.closed 3 2 A_3_2 l3_; have n8 : L 8 = false := RI.not_yet hH A_8_7 hl; have hM := RI.early (RI.late hH.glob l2_) n8; exact ⟨141, #[.agg #[.int .i64 lx, .int .i64 ly, .int .i64 lz]], by simp [go_sem, e0], (CallsIn.inRound lq (callsIn_wide.2 (HBK.out w))).mono (by rintro e w2 ⟨rfl, hb⟩; exact ⟨_, rfl, fun _ => rfl, (by rw [RI.more_ne (i := 7) (j := 2) (by decide), RI.more_ne (i := 7) (j := 8) (by decide)]; exact Or.inr ⟨l2_, Or.inl ⟨n8, own_step hJ hM.1 hb, hM.2.1.trans (KeepC.below hb), hM.2.2.trans (keeps_below hb)⟩⟩)⟩)⟩))) ?_
              refine RI.AllDo.cons 8 (RI.does_guarded rfl d4 (fun γ => rfl) (by simp) (RI.does_round (fun _ => trivial) (by omega) rfl (fun γ L a w hH hl hA => by have e0 : a.tmps[37]? = some (.func (.yield l) #[] #[]) := hH.slot 5 37 d5 (hA ⟨5, .data⟩ (by simp) rfl); have e1 : a.tmps[39]? = some (.agg #[.int .i64 mx, .int .i64 my, .int .i64 mz]) := hH.slot 7 39 d7 (hA ⟨7, .data⟩ (by simp) rfl); have l4_ : L 4 = true := hA ⟨4, .guard⟩ (by simp) rfl; have l3_ := hH.closed 4 3 A_4_3 l4_; have l2_ := hH.closed 3 2 A_3_2 l3_; have hM := RI.early (RI.late hH.glob l2_) hl; obtain ⟨fn2, tm2, as2, bo2, hy2, hR2⟩ := HY2.out _ hM.1; exact ⟨l, fn2, tm2, as2, bo2, by simp [go_sem, e0, e1, hy2], (round_any _ hR2).mono (by rintro e w2 ⟨rfl, hJ8, hk8, hf8⟩; exact ⟨_, γ, rfl, fun _ _ => rfl, fun _ => rfl, by rw [RI.more_ne (i := 8) (j := 2) (by decide), RI.more_self]; exact Or.inr ⟨l2_, Or.inr ⟨rfl, hJ8, hM.2.1.trans hk8, hM.2.2.trans hf8⟩⟩⟩)⟩))) ?_
              refine RI.AllDo.cons 9 (RI.does_guarded rfl d4 (fun γ => rfl) (by simp) (RI.does_pure (fun _ => trivial) rfl (fun γ L w h => by rw [RI.more_ne (i := 9) (j := 2) (by decide), RI.more_ne (i := 9) (j := 8) (by decide)]; exact h) (fun γ L a w hH hl hA => by have e0 : a.tmps[40]? = some (.bool true) := hH.slot 8 40 d8 (hA ⟨8, .data⟩ (by simp) rfl); simp [execOp, go_sem, e0]))) ?_
              refine RI.AllDo.cons 10 (RI.does_pure (fun _ => trivial) rfl (fun γ L w h => by rw [RI.more_ne (i := 10) (j := 2) (by decide), RI.more_ne (i := 10) (j := 8) (by decide)]; exact h) (fun γ L a w hH hl hA => by have e0 : a.tmps[36]? = some (.bool false) := hH.slot 4 36 d4 (hA ⟨4, .data⟩ (by simp) rfl); have e1 : a.tmps[41]? = some (.bool false) := hH.slot 9 41 d9 (hA ⟨9, .data⟩ (by simp) rfl); simp [execOp, go_sem, e0, e1])) ?_
              exact RI.AllDo.nil
            · intro γ a5 w5 L9 hL hLo hH
              have ha := RI.held_act hH hL (by kernel_rfl) (by kernel_rfl)
              obtain ⟨hJ8, hk8, hf8⟩ := RI.late (RI.late hH.glob (hL 2 (by decide))) (hL 8 (by decide))
              rw [ha]
              clear ha hH hL hLo
              simp only [RI.putAll, Act.put, List.setIfInBounds_toArray, List.set_cons_zero, List.set_cons_succ, Nat.zero_add, Nat.reduceAdd]
              have HFI : Hid _ := HFN.out w5 hJ8 hk8 hf8
              clear hJ8 hk8 hf8
              gi_wp2
              exact HFI.out
      case done =>
        rintro D V hD ⟨hj7, hk7, hm7⟩ hKD
        have HF1 : Hid (J (both (preC (A ++ B) (crossL E Fl) (wayL P Q (E ++ Fl)) 1)).length V) := by rw [List.take_length] at hj7; exact hj7
        have HF2 : Hid (Marks (W.heap.size + 2) (D :: Dl) V) := hm7.more (by omega) (fun h => by have := hml D h; omega) hKD
        have HF3 : Hid (KeepC S w5 V) := HK.out.trans hk7
        clear hj7 hk7 hm7 hKD HBT HJ HM
        gi_wp2
        refine ⟨⟨_, _, _, _, _, _, _, _, _, _, _, _, _, _, _, _, _, _, _, _, _, _, _, _, _, _, _, _, _, _, _, _, _, _, _, _, _, _, 1, D :: Dl, rfl, by omega, HF1, HF3, HF2⟩, ?_⟩
        simp [intOf]
    | 1, _ =>
      rw [show ((1 : Nat) : Int) = 1 from rfl]
      have HBT : Hid _ := fun (k : Nat) (hk : k < (crossL E Fl).length) => both_step (A ++ B) (crossL E Fl) (wayL P Q (E ++ Fl)) hk
      have hcc : (A ++ B) ++ ((crossL E Fl) ++ (wayL P Q (E ++ Fl))) = (candL ⟨P, A, E, r⟩ ⟨Q, B, Fl, s⟩) := rfl
      rw [hcc] at HBT
      clear hcc
      have HJ : Hid (J (both ((A ++ B) ++ (crossL E Fl).take 0)).length wr) := by have h8 := HJ.out; simpa [preC, Hid] using h8
      have hml := HM.out.lt
      have hix : ∀ Wx : World, (Instr.index 166 (.agg #[.func (.func 157) #[] #[.pointer (some ⟨b1, 0, none⟩)], .func (.func 158) #[] #[.pointer (some ⟨b2, 0, none⟩), .pointer (some ⟨b2 + 1, 0, none⟩)], .func (.func 160) #[] #[.pointer (some ⟨b3, 0, none⟩), .pointer (some ⟨b3 + 1, 0, none⟩)]]) (.int .i64 1)).run Tryz.prog Wx = .ok (.func (.func 158) #[] #[.pointer (some ⟨b2, 0, none⟩), .pointer (some ⟨b2 + 1, 0, none⟩)]) Wx := fun Wx => by simp [Instr.index, run_underlying Tryz.underlying166, asIntOf, go_sem]
      gi_wp2
      clear hix
      refine' range_t (n := n) (by omega) (gf := 158) (lb := #[.pointer (some ⟨b2, 0, none⟩), .pointer (some ⟨b2 + 1, 0, none⟩)]) rfl (enters_of Tryz.func158 (by kernel_rfl) rfl)
        (ncrosses_tells (n - 1) b2 (b2 + 1) E Fl (.slice o3 E.length k3) (.slice o6 Fl.length k6) S wr (CX1 0 _ rfl) (CX2 0 _ rfl) LE6 LF6 sE sF sb2 sb2' hSw iE iF) rfl
        (fun k V => J (both ((A ++ B) ++ (crossL E Fl).take k)).length V ∧ KeepC S wr V ∧ Marks (W.heap.size + 2) Dl V)
        (fun k A B row hs hg hr => ⟨hJ _ A B row hs.1 hg (fun r e => ⟨by have := (hr r e).1; omega, (hr r e).2⟩), hs.2.1.own hg hr, hs.2.2.own hml hg (fun r e => (hr r e).1)⟩)
        ⟨HJ.out, KeepC.refl _ _, HM.out⟩ _ 23 ?assign ?body ?done
      case assign =>
        intro lq k V nb K hk hnb hK
        unfold Pt.v
        gi_wp2
        rw [← hnb]
        exact hK
      case body =>
        rintro lq k V nb hk hIw hnb hob
        obtain ⟨hj7, hk7, hm7⟩ := hIw V ⟨rfl, rfl, rfl, Nat.le_refl _, fun _ _ _ => rfl⟩
        have B3 : Hid (Box3 V nb (pt (crossL E Fl) k)) := ⟨by simp [World.cell?, hob], by simp [World.cell?, hob], by simp [World.cell?, hob], by simp [World.frozen?, hob], by simp [World.frozen?, hob], by simp [World.frozen?, hob]⟩
        have t0 := Cel.keepC CT.out ((KeepC.below b5).trans (HK.out.trans hk7)) sT 0 _ rfl
        have HBS : Hid _ := HBT.out k hk
        have HLG : Hid _ := fun w' => nlong_any (pt (crossL E Fl) k) w'
        have hnS : S nb := HSn.out nb (by have := HK.out.size; have := b5.size; omega)
        have hSb : S0 < nb := by have := Cel.lt CT.out; have := HK.out.size; have := b5.size; omega
        have HK7 : Hid _ := hk7
        have HIW : Hid _ := hIw
        have hin := lng_in (pt (crossL E Fl) k)
        clear hob hIw hk7 hm7 hj7
        obtain ⟨len, hlen⟩ : ∃ m, m = (both ((A ++ B) ++ (crossL E Fl).take k)).length := ⟨_, rfl⟩
        rw [← hlen] at HBS HIW
        have HLN : Hid _ := hlen
        clear hlen
        generalize (pt (crossL E Fl) k).lng = ln at *
        generalize pt (crossL E Fl) k = p at *
        have HNG : Hid _ := fun w' => nback_any ln w' (inB_mono hin (by decide))
        obtain ⟨px, py, pz⟩ := p
        obtain ⟨lx, ly, lz⟩ := ln
        obtain ⟨y0, y1, y2, f0, f1, f2⟩ := B3.out
        unfold Pt.v at HLG HNG
        dsimp only at *
        gi_wp2
        refine ⟨trivial, fun h => (by cases h), CallsIn.mono (CallsIn.inRound lq (callsIn_wide.2 (HLG.out _))) ?_⟩
        rintro e X1 ⟨rfl, hb1⟩
        have z0 := c_after hb1 y0
        have z1 := c_after hb1 y1
        have z2 := c_after hb1 y2
        have g0 := f_after hb1 y0 f0
        have g1 := f_after hb1 y1 f1
        have g2 := f_after hb1 y2 f2
        obtain ⟨V1, hV1⟩ : ∃ Z, Z = ((X1.setCell ⟨nb, 0, none⟩ (.int .i64 lx)).setCell ⟨nb, 1, none⟩ (.int .i64 ly)).setCell ⟨nb, 2, none⟩ (.int .i64 lz) := ⟨_, rfl⟩
        have eV1 : V1 = set3 X1 nb lx ly lz := hV1
        have BV : Box3 V1 nb ⟨lx, ly, lz⟩ := by rw [eV1]; exact (B3.out.step hb1).set _ _ _
        have q0 := BV.c0
        have q1 := BV.c1
        have q2 := BV.c2
        dsimp only at q0 q1 q2
        have KV : Hid (KeepC (fun b => S b ∧ b ≠ nb) V V1) := by show KeepC _ _ _; rw [eV1]; exact (KeepC.below hb1).trans (keepC_set3 X1 nb lx ly lz)
        have t1 : V1.cell? ⟨S0, 0, none⟩ = some (.func (.yield l) #[] #[]) := KV.out.cell ⟨S0, 0, none⟩ _ ⟨sT, by show S0 ≠ nb; omega⟩ t0
        have gV : V.grownBy V1 (some nb) := by rw [eV1]; exact G.trans (below_grown hb1 _) (grown_set3 X1 nb lx ly lz)
        have HFV : Hid (KeepsFrom wr.heap.size V V1) := by show KeepsFrom _ _ _; rw [eV1]; exact (keeps_below hb1).trans (keeps_set3 X1 nb _ lx ly lz)
        obtain ⟨hj1, hk1, hm1⟩ := HIW.out V1 gV
        have HJ1 : Hid _ := hj1
        have HM1 : Hid _ := hm1
        have HKW : Hid _ := hk1
        clear hj1 hk1 hm1 gV BV eV1 HIW B3 HLG HK7
        by_cases hz : (⟨lx, ly, lz⟩ : Pt) = Pt.O
        · obtain ⟨rfl, rfl, rfl⟩ : lx = 0 ∧ ly = 0 ∧ lz = 0 := by simpa [Pt.O] using hz
          have HEQ : Hid (both ((A ++ B) ++ (crossL E Fl).take (k + 1)) = both ((A ++ B) ++ (crossL E Fl).take k)) := HBS.out.1 rfl
          have HFI : Hid (J (both ((A ++ B) ++ (crossL E Fl).take (k + 1))).length V1 ∧ KeepC S wr V1 ∧ Marks (W.heap.size + 2) Dl V1) := ⟨by rw [HEQ.out, ← HLN.out]; exact HJ1.out, HKW.out, HM1.out⟩
          clear hz HBS y0 y1 y2 f0 f1 f2
          gi_wp2
          rw [← hV1]
          exact ⟨HFV.out, KV.out, HFI.out⟩
        · obtain ⟨hl2, hlt, hp1, hp2⟩ := HBS.out.2 hz
          have HY1 : Hid _ := fun Vx hV => yield_at (hY len Vx (by omega) hV) hp1
          have HY2 : Hid _ := fun Vx hV => yield_at (hY (len + 1) Vx hlt hV) hp2
          have HJV : Hid (∀ Vx, Below V1.heap.size V1 Vx → J len Vx) := fun Vx h => own_step hJ HJ1.out h
          have HFN : Hid (∀ Z, J (len + 1 + 1) Z → KeepC S V1 Z → KeepsFrom (m0 + 2) V1 Z → KeepsFrom wr.heap.size V Z ∧ KeepC (fun b => S b ∧ b ≠ nb) V Z ∧ (J (both ((A ++ B) ++ (crossL E Fl).take (k + 1))).length Z ∧ KeepC S wr Z ∧ Marks (W.heap.size + 2) Dl Z)) := fun Z k1 k2 k3 => ⟨HFV.out.trans (keeps_up k3 (by omega)), KV.out.trans (k2.mono (fun b h => h.1)), by rw [hl2]; exact k1, HKW.out.trans k2, HM1.out.keeps k3 (by omega)⟩
          have hz3 : lx = 0 → ly = 0 → ¬ lz = 0 := fun a b c => hz (by rw [a, b, c]; rfl)
          generalize hng : Pt.neg ⟨lx, ly, lz⟩ = ng at *
          obtain ⟨mx, my, mz⟩ := ng
          have HBK : Hid _ := HNG
          unfold Pt.v at HY1 HY2
          dsimp only at HY1 HY2 HBK
          clear hz HBS hl2 hlt hp1 hp2 hng hin HNG y0 y1 y2 f0 f1 f2 HFV KV HKW HM1 HJ1
          gi_upto_region 7 with fail
          rw [← hV1]
          clear hV1
          gi_cut [31] from 27 (fun s31 wx => s31 = .bool false ∧ wx = V1)
          case first =>
            clear HY1 HY2 HJV HFN HBK
            gi_wp2
            all_goals first
              | (exfalso; exact hz3 (by assumption) (by assumption) (by assumption))
              | (gi_meet; case rel => exact ⟨rfl, rfl⟩)
          case rest =>
            obtain ⟨rfl, e9⟩ := hcut
            rw [e9]
            clear hz3 e9
            gi_wp2
            refine RI.region_by (fun _ => trivial) (fun γ j => match j with | 0 => .func (.yield l) #[] #[] | 1 => .agg #[.int .i64 lx, .int .i64 ly, .int .i64 lz] | 2 => .bool true | 3 => .bool false | 4 => .bool false | 5 => .func (.yield l) #[] #[] | 6 => .agg #[.int .i64 lx, .int .i64 ly, .int .i64 lz] | 7 => .agg #[.int .i64 mx, .int .i64 my, .int .i64 mz] | 8 => .bool true | 9 => .bool false | 10 => .bool false | _ => undef) (fun γ L v => (L 2 = false ∧ Below V1.heap.size V1 v) ∨ (L 2 = true ∧ ((L 8 = false ∧ (J (len + 1) v ∧ KeepC S V1 v ∧ KeepsFrom (m0 + 2) V1 v)) ∨ (L 8 = true ∧ (J (len + 1 + 1) v ∧ KeepC S V1 v ∧ KeepsFrom (m0 + 2) V1 v))))) (by kernel_rfl) (by kernel_rfl) (by kernel_rfl) (by kernel_rfl) (fun _ => 0) ?_ ?_ ?_
            · exact Or.inl ⟨rfl, (Below.refl _ V1).drew⟩
            · generalize hD : RI.dstOf _ = D
              generalize hWA : RI.waitsFor _ = A
              generalize hZ : Act.mk _ _ = Z
              have d0 : D 0 = some 32 := by rw [← hD]; rfl
              have d1 : D 1 = some 33 := by rw [← hD]; rfl
              have d2 : D 2 = some 34 := by rw [← hD]; rfl
              have d3 : D 3 = some 35 := by rw [← hD]; rfl
              have d4 : D 4 = some 36 := by rw [← hD]; rfl
              have d5 : D 5 = some 37 := by rw [← hD]; rfl
              have d6 : D 6 = some 38 := by rw [← hD]; rfl
              have d7 : D 7 = some 39 := by rw [← hD]; rfl
              have d8 : D 8 = some 40 := by rw [← hD]; rfl
              have d9 : D 9 = some 41 := by rw [← hD]; rfl
              have d10 : D 10 = some 42 := by rw [← hD]; rfl
              have R3 : ∀ (γ : Nat → Nat) (L : Nat → Bool) (a : Act) (w : World), RI.Held D A (fun γ j => match j with | 0 => .func (.yield l) #[] #[] | 1 => .agg #[.int .i64 lx, .int .i64 ly, .int .i64 lz] | 2 => .bool true | 3 => .bool false | 4 => .bool false | 5 => .func (.yield l) #[] #[] | 6 => .agg #[.int .i64 lx, .int .i64 ly, .int .i64 lz] | 7 => .agg #[.int .i64 mx, .int .i64 my, .int .i64 mz] | 8 => .bool true | 9 => .bool false | 10 => .bool false | _ => undef) (fun γ L v => (L 2 = false ∧ Below V1.heap.size V1 v) ∨ (L 2 = true ∧ ((L 8 = false ∧ (J (len + 1) v ∧ KeepC S V1 v ∧ KeepsFrom (m0 + 2) V1 v)) ∨ (L 8 = true ∧ (J (len + 1 + 1) v ∧ KeepC S V1 v ∧ KeepsFrom (m0 + 2) V1 v))))) Z γ L a w → a.tmps[3]? = some (.pointer (some ⟨S0, 0, none⟩)) := fun γ L a w hH => (hH.rest 3 (by rw [← hD]; exact RI.dst_free (by kernel_rfl))).trans (by rw [← hZ]; rfl)
              have R6 : ∀ (γ : Nat → Nat) (L : Nat → Bool) (a : Act) (w : World), RI.Held D A (fun γ j => match j with | 0 => .func (.yield l) #[] #[] | 1 => .agg #[.int .i64 lx, .int .i64 ly, .int .i64 lz] | 2 => .bool true | 3 => .bool false | 4 => .bool false | 5 => .func (.yield l) #[] #[] | 6 => .agg #[.int .i64 lx, .int .i64 ly, .int .i64 lz] | 7 => .agg #[.int .i64 mx, .int .i64 my, .int .i64 mz] | 8 => .bool true | 9 => .bool false | 10 => .bool false | _ => undef) (fun γ L v => (L 2 = false ∧ Below V1.heap.size V1 v) ∨ (L 2 = true ∧ ((L 8 = false ∧ (J (len + 1) v ∧ KeepC S V1 v ∧ KeepsFrom (m0 + 2) V1 v)) ∨ (L 8 = true ∧ (J (len + 1 + 1) v ∧ KeepC S V1 v ∧ KeepsFrom (m0 + 2) V1 v))))) Z γ L a w → a.tmps[6]? = some (.pointer (some ⟨nb, 0, none⟩)) := fun γ L a w hH => (hH.rest 6 (by rw [← hD]; exact RI.dst_free (by kernel_rfl))).trans (by rw [← hZ]; rfl)
              have A_2_0 : A 2 0 := by rw [← hWA]; exact ⟨_, rfl, ⟨0, .data⟩, by simp, rfl, rfl⟩
              have A_2_1 : A 2 1 := by rw [← hWA]; exact ⟨_, rfl, ⟨1, .data⟩, by simp, rfl, rfl⟩
              have A_3_2 : A 3 2 := by rw [← hWA]; exact ⟨_, rfl, ⟨2, .data⟩, by simp, rfl, rfl⟩
              have A_4_3 : A 4 3 := by rw [← hWA]; exact ⟨_, rfl, ⟨3, .data⟩, by simp, rfl, rfl⟩
              have A_7_6 : A 7 6 := by rw [← hWA]; exact ⟨_, rfl, ⟨6, .data⟩, by simp, rfl, rfl⟩
              have A_8_5 : A 8 5 := by rw [← hWA]; exact ⟨_, rfl, ⟨5, .data⟩, by simp, rfl, rfl⟩
              have A_8_7 : A 8 7 := by rw [← hWA]; exact ⟨_, rfl, ⟨7, .data⟩, by simp, rfl, rfl⟩
              have A_9_8 : A 9 8 := by rw [← hWA]; exact ⟨_, rfl, ⟨8, .data⟩, by simp, rfl, rfl⟩
              have A_10_4 : A 10 4 := by rw [← hWA]; exact ⟨_, rfl, ⟨4, .data⟩, by simp, rfl, rfl⟩
              have A_10_9 : A 10 9 := by rw [← hWA]; exact ⟨_, rfl, ⟨9, .data⟩, by simp, rfl, rfl⟩
              have A_8_4 : A 8 4 := by rw [← hWA]; exact ⟨_, rfl, ⟨4, .guard⟩, by simp, rfl, rfl⟩
              clear hD hWA hZ
              refine RI.AllDo.cons 0 (RI.does_pure (fun _ => trivial) rfl (fun γ L w h => by rw [RI.more_ne (i := 0) (j := 2) (by decide), RI.more_ne (i := 0) (j := 8) (by decide)]; exact h) (fun γ L a w hH hl hA => by have e0 := R3 γ L a w hH; have n2 : L 2 = false := RI.not_yet hH A_2_0 hl; have hB9 := RI.early hH.glob n2; have zz0 := c_after hB9 t1; simp [execOp, go_sem, e0, zz0])) ?_
              refine RI.AllDo.cons 1 (RI.does_pure (fun _ => trivial) rfl (fun γ L w h => by rw [RI.more_ne (i := 1) (j := 2) (by decide), RI.more_ne (i := 1) (j := 8) (by decide)]; exact h) (fun γ L a w hH hl hA => by have e0 := R6 γ L a w hH; have n2 : L 2 = false := RI.not_yet hH A_2_1 hl; have hB9 := RI.early hH.glob n2; have zz0 := c_after hB9 q0; have zz1 := c_after hB9 q1; have zz2 := c_after hB9 q2; simp [execOp, go_sem, e0, zz0, zz1, zz2])) ?_
              refine RI.AllDo.cons 2 (RI.does_round (fun _ => trivial) (by omega) rfl (fun γ L a w hH hl hA => by have e0 : a.tmps[32]? = some (.func (.yield l) #[] #[]) := hH.slot 0 32 d0 (hA ⟨0, .data⟩ (by simp) rfl); have e1 : a.tmps[33]? = some (.agg #[.int .i64 lx, .int .i64 ly, .int .i64 lz]) := hH.slot 1 33 d1 (hA ⟨1, .data⟩ (by simp) rfl); have hB9 := RI.early hH.glob hl; have n3 : L 3 = false := RI.not_yet hH A_3_2 hl; have n4 : L 4 = false := RI.not_yet hH A_4_3 n3; have n8 : L 8 = false := RI.not_yet hH A_8_4 n4; obtain ⟨fn2, tm2, as2, bo2, hy2, hR2⟩ := HY1.out _ (HJV.out _ hB9); exact ⟨l, fn2, tm2, as2, bo2, by simp [go_sem, e0, e1, hy2], (round_any _ hR2).mono (by rintro e w2 ⟨rfl, hJ8, hk8, hf8⟩; exact ⟨_, γ, rfl, fun _ _ => rfl, fun _ => rfl, by rw [RI.more_self, RI.more_ne (i := 2) (j := 8) (by decide)]; exact Or.inr ⟨rfl, Or.inl ⟨n8, hJ8, (KeepC.below hB9).trans hk8, (keeps_below hB9).trans hf8⟩⟩⟩)⟩)) ?_
              refine RI.AllDo.cons 3 (RI.does_pure (fun _ => trivial) rfl (fun γ L w h => by rw [RI.more_ne (i := 3) (j := 2) (by decide), RI.more_ne (i := 3) (j := 8) (by decide)]; exact h) (fun γ L a w hH hl hA => by have e0 : a.tmps[34]? = some (.bool true) := hH.slot 2 34 d2 (hA ⟨2, .data⟩ (by simp) rfl); simp [execOp, go_sem, e0])) ?_
              refine RI.AllDo.cons 4 (RI.does_pure (fun _ => trivial) rfl (fun γ L w h => by rw [RI.more_ne (i := 4) (j := 2) (by decide), RI.more_ne (i := 4) (j := 8) (by decide)]; exact h) (fun γ L a w hH hl hA => by have e0 : a.tmps[35]? = some (.bool false) := hH.slot 3 35 d3 (hA ⟨3, .data⟩ (by simp) rfl); simp [execOp, go_sem, e0])) ?_
              refine RI.AllDo.cons 5 (RI.does_guarded rfl d4 (fun γ => rfl) (by simp) (RI.does_pure (fun _ => trivial) rfl (fun γ L w h => by rw [RI.more_ne (i := 5) (j := 2) (by decide), RI.more_ne (i := 5) (j := 8) (by decide)]; exact h) (fun γ L a w hH hl hA => by have e0 := R3 γ L a w hH; have l4_ : L 4 = true := hA ⟨4, .guard⟩ (by simp) rfl; have l3_ := hH.closed 4 3 A_4_3 l4_; have l2_ := hH.closed 3 2 A_3_2 l3_; have n8 : L 8 = false := RI.not_yet hH A_8_5 hl; have hM := RI.early (RI.late hH.glob l2_) n8; have zz0 := hM.2.1.cell ⟨S0, 0, none⟩ _ sT t1; simp [execOp, go_sem, e0, zz0]))) ?_
              refine RI.AllDo.cons 6 (RI.does_guarded rfl d4 (fun γ => rfl) (by simp) (RI.does_pure (fun _ => trivial) rfl (fun γ L w h => by rw [RI.more_ne (i := 6) (j := 2) (by decide), RI.more_ne (i := 6) (j := 8) (by decide)]; exact h) (fun γ L a w hH hl hA => by have e0 := R6 γ L a w hH; have l4_ : L 4 = true := hA ⟨4, .guard⟩ (by simp) rfl; have l3_ := hH.closed 4 3 A_4_3 l4_; have l2_ := hH.closed 3 2 A_3_2 l3_; have n7 : L 7 = false := RI.not_yet hH A_7_6 hl; have n8 : L 8 = false := RI.not_yet hH A_8_7 n7; have hM := RI.early (RI.late hH.glob l2_) n8; have zz0 := hM.2.1.cell ⟨nb, 0, none⟩ _ hnS q0; have zz1 := hM.2.1.cell ⟨nb, 1, none⟩ _ hnS q1; have zz2 := hM.2.1.cell ⟨nb, 2, none⟩ _ hnS q2; simp [execOp, go_sem, e0, zz0, zz1, zz2]))) ?_
              refine RI.AllDo.cons 7 (RI.does_guarded rfl d4 (fun γ => rfl) (by simp) (RI.does_call (fun _ => trivial) (by omega) rfl (fun γ L a w hH hl hA => by have e0 : a.tmps[38]? = some (.agg #[.int .i64 lx, .int .i64 ly, .int .i64 lz]) := hH.slot 6 38 d6 (hA ⟨6, .data⟩ (by simp) rfl); have l4_ : L 4 = true := hA ⟨4, .guard⟩ (by simp) rfl; have l3_ := hH.closed 4 3 A_4_3 l4_; have l2_ := hH.closed 3 2 A_3_2 l3_; have n8 : L 8 = false := RI.not_yet hH A_8_7 hl; have hM := RI.early (RI.late hH.glob l2_) n8; exact ⟨141, #[.agg #[.int .i64 lx, .int .i64 ly, .int .i64 lz]], by simp [go_sem, e0], (CallsIn.inRound lq (callsIn_wide.2 (HBK.out w))).mono (by rintro e w2 ⟨rfl, hb⟩; exact ⟨_, rfl, fun _ => rfl, (by rw [RI.more_ne (i := 7) (j := 2) (by decide), RI.more_ne (i := 7) (j := 8) (by decide)]; exact Or.inr ⟨l2_, Or.inl ⟨n8, own_step hJ hM.1 hb, hM.2.1.trans (KeepC.below hb), hM.2.2.trans (keeps_below hb)⟩⟩)⟩)⟩))) ?_
              refine RI.AllDo.cons 8 (RI.does_guarded rfl d4 (fun γ => rfl) (by simp) (RI.does_round (fun _ => trivial) (by omega) rfl (fun γ L a w hH hl hA => by have e0 : a.tmps[37]? = some (.func (.yield l) #[] #[]) := hH.slot 5 37 d5 (hA ⟨5, .data⟩ (by simp) rfl); have e1 : a.tmps[39]? = some (.agg #[.int .i64 mx, .int .i64 my, .int .i64 mz]) := hH.slot 7 39 d7 (hA ⟨7, .data⟩ (by simp) rfl); have l4_ : L 4 = true := hA ⟨4, .guard⟩ (by simp) rfl; have l3_ := hH.closed 4 3 A_4_3 l4_; have l2_ := hH.closed 3 2 A_3_2 l3_; have hM := RI.early (RI.late hH.glob l2_) hl; obtain ⟨fn2, tm2, as2, bo2, hy2, hR2⟩ := HY2.out _ hM.1; exact ⟨l, fn2, tm2, as2, bo2, by simp [go_sem, e0, e1, hy2], (round_any _ hR2).mono (by rintro e w2 ⟨rfl, hJ8, hk8, hf8⟩; exact ⟨_, γ, rfl, fun _ _ => rfl, fun _ => rfl, by rw [RI.more_ne (i := 8) (j := 2) (by decide), RI.more_self]; exact Or.inr ⟨l2_, Or.inr ⟨rfl, hJ8, hM.2.1.trans hk8, hM.2.2.trans hf8⟩⟩⟩)⟩))) ?_
              refine RI.AllDo.cons 9 (RI.does_guarded rfl d4 (fun γ => rfl) (by simp) (RI.does_pure (fun _ => trivial) rfl (fun γ L w h => by rw [RI.more_ne (i := 9) (j := 2) (by decide), RI.more_ne (i := 9) (j := 8) (by decide)]; exact h) (fun γ L a w hH hl hA => by have e0 : a.tmps[40]? = some (.bool true) := hH.slot 8 40 d8 (hA ⟨8, .data⟩ (by simp) rfl); simp [execOp, go_sem, e0]))) ?_
              refine RI.AllDo.cons 10 (RI.does_pure (fun _ => trivial) rfl (fun γ L w h => by rw [RI.more_ne (i := 10) (j := 2) (by decide), RI.more_ne (i := 10) (j := 8) (by decide)]; exact h) (fun γ L a w hH hl hA => by have e0 : a.tmps[36]? = some (.bool false) := hH.slot 4 36 d4 (hA ⟨4, .data⟩ (by simp) rfl); have e1 : a.tmps[41]? = some (.bool false) := hH.slot 9 41 d9 (hA ⟨9, .data⟩ (by simp) rfl); simp [execOp, go_sem, e0, e1])) ?_
              exact RI.AllDo.nil
            · intro γ a5 w5 L9 hL hLo hH
              have ha := RI.held_act hH hL (by kernel_rfl) (by kernel_rfl)
              obtain ⟨hJ8, hk8, hf8⟩ := RI.late (RI.late hH.glob (hL 2 (by decide))) (hL 8 (by decide))
              rw [ha]
              clear ha hH hL hLo
              simp only [RI.putAll, Act.put, List.setIfInBounds_toArray, List.set_cons_zero, List.set_cons_succ, Nat.zero_add, Nat.reduceAdd]
              have HFI : Hid _ := HFN.out w5 hJ8 hk8 hf8
              clear hJ8 hk8 hf8
              gi_wp2
              exact HFI.out
      case done =>
        rintro D V hD ⟨hj7, hk7, hm7⟩ hKD
        have HF1 : Hid (J (both (preC (A ++ B) (crossL E Fl) (wayL P Q (E ++ Fl)) 2)).length V) := by rw [List.take_length] at hj7; exact hj7
        have HF2 : Hid (Marks (W.heap.size + 2) (D :: Dl) V) := hm7.more (by omega) (fun h => by have := hml D h; omega) hKD
        have HF3 : Hid (KeepC S w5 V) := HK.out.trans hk7
        clear hj7 hk7 hm7 hKD HBT HJ HM
        gi_wp2
        refine ⟨⟨_, _, _, _, _, _, _, _, _, _, _, _, _, _, _, _, _, _, _, _, _, _, _, _, _, _, _, _, _, _, _, _, _, _, _, _, _, _, 2, D :: Dl, rfl, by omega, HF1, HF3, HF2⟩, ?_⟩
        simp [intOf]
    | 2, _ =>
      rw [show ((2 : Nat) : Int) = 2 from rfl]
      have HBT : Hid _ := fun (k : Nat) (hk : k < (wayL P Q (E ++ Fl)).length) => both_step ((A ++ B) ++ (crossL E Fl)) (wayL P Q (E ++ Fl)) [] hk
      have hcc : ((A ++ B) ++ (crossL E Fl)) ++ ((wayL P Q (E ++ Fl)) ++ []) = (candL ⟨P, A, E, r⟩ ⟨Q, B, Fl, s⟩) := by unfold candL; simp [List.append_assoc]
      rw [hcc] at HBT
      clear hcc
      have HJ : Hid (J (both (((A ++ B) ++ (crossL E Fl)) ++ (wayL P Q (E ++ Fl)).take 0)).length wr) := by have h8 := HJ.out; simpa [preC, Hid] using h8
      have hml := HM.out.lt
      have hix : ∀ Wx : World, (Instr.index 166 (.agg #[.func (.func 157) #[] #[.pointer (some ⟨b1, 0, none⟩)], .func (.func 158) #[] #[.pointer (some ⟨b2, 0, none⟩), .pointer (some ⟨b2 + 1, 0, none⟩)], .func (.func 160) #[] #[.pointer (some ⟨b3, 0, none⟩), .pointer (some ⟨b3 + 1, 0, none⟩)]]) (.int .i64 2)).run Tryz.prog Wx = .ok (.func (.func 160) #[] #[.pointer (some ⟨b3, 0, none⟩), .pointer (some ⟨b3 + 1, 0, none⟩)]) Wx := fun Wx => by simp [Instr.index, run_underlying Tryz.underlying166, asIntOf, go_sem]
      gi_wp2
      clear hix
      refine' range_t (n := n) (by omega) (gf := 160) (lb := #[.pointer (some ⟨b3, 0, none⟩), .pointer (some ⟨b3 + 1, 0, none⟩)]) rfl (enters_of Tryz.func160 (by kernel_rfl) rfl)
        (nways_tells (n - 1) (by omega) b3 (b3 + 1) P A E Q B Fl (.slice o1 P.length k1) (.slice o2 A.length k2) (.slice o3 E.length k3) (.slice o4 Q.length k4) (.slice o5 B.length k5) (.slice o6 Fl.length k6) r s S wr CW1 CW2 LP6 LE6 LQ6 LF6 sP sE sQ sF sb3 sb3' hSw iP iQ iE iF) rfl
        (fun k V => J (both (((A ++ B) ++ (crossL E Fl)) ++ (wayL P Q (E ++ Fl)).take k)).length V ∧ KeepC S wr V ∧ Marks (W.heap.size + 2) Dl V)
        (fun k A B row hs hg hr => ⟨hJ _ A B row hs.1 hg (fun r e => ⟨by have := (hr r e).1; omega, (hr r e).2⟩), hs.2.1.own hg hr, hs.2.2.own hml hg (fun r e => (hr r e).1)⟩)
        ⟨HJ.out, KeepC.refl _ _, HM.out⟩ _ 23 ?assign ?body ?done
      case assign =>
        intro lq k V nb K hk hnb hK
        unfold Pt.v
        gi_wp2
        rw [← hnb]
        exact hK
      case body =>
        rintro lq k V nb hk hIw hnb hob
        obtain ⟨hj7, hk7, hm7⟩ := hIw V ⟨rfl, rfl, rfl, Nat.le_refl _, fun _ _ _ => rfl⟩
        have B3 : Hid (Box3 V nb (pt (wayL P Q (E ++ Fl)) k)) := ⟨by simp [World.cell?, hob], by simp [World.cell?, hob], by simp [World.cell?, hob], by simp [World.frozen?, hob], by simp [World.frozen?, hob], by simp [World.frozen?, hob]⟩
        have t0 := Cel.keepC CT.out ((KeepC.below b5).trans (HK.out.trans hk7)) sT 0 _ rfl
        have HBS : Hid _ := HBT.out k hk
        have HLG : Hid _ := fun w' => nlong_any (pt (wayL P Q (E ++ Fl)) k) w'
        have hnS : S nb := HSn.out nb (by have := HK.out.size; have := b5.size; omega)
        have hSb : S0 < nb := by have := Cel.lt CT.out; have := HK.out.size; have := b5.size; omega
        have HK7 : Hid _ := hk7
        have HIW : Hid _ := hIw
        have hin := lng_in (pt (wayL P Q (E ++ Fl)) k)
        clear hob hIw hk7 hm7 hj7
        obtain ⟨len, hlen⟩ : ∃ m, m = (both (((A ++ B) ++ (crossL E Fl)) ++ (wayL P Q (E ++ Fl)).take k)).length := ⟨_, rfl⟩
        rw [← hlen] at HBS HIW
        have HLN : Hid _ := hlen
        clear hlen
        generalize (pt (wayL P Q (E ++ Fl)) k).lng = ln at *
        generalize pt (wayL P Q (E ++ Fl)) k = p at *
        have HNG : Hid _ := fun w' => nback_any ln w' (inB_mono hin (by decide))
        obtain ⟨px, py, pz⟩ := p
        obtain ⟨lx, ly, lz⟩ := ln
        obtain ⟨y0, y1, y2, f0, f1, f2⟩ := B3.out
        unfold Pt.v at HLG HNG
        dsimp only at *
        gi_wp2
        refine ⟨trivial, fun h => (by cases h), CallsIn.mono (CallsIn.inRound lq (callsIn_wide.2 (HLG.out _))) ?_⟩
        rintro e X1 ⟨rfl, hb1⟩
        have z0 := c_after hb1 y0
        have z1 := c_after hb1 y1
        have z2 := c_after hb1 y2
        have g0 := f_after hb1 y0 f0
        have g1 := f_after hb1 y1 f1
        have g2 := f_after hb1 y2 f2
        obtain ⟨V1, hV1⟩ : ∃ Z, Z = ((X1.setCell ⟨nb, 0, none⟩ (.int .i64 lx)).setCell ⟨nb, 1, none⟩ (.int .i64 ly)).setCell ⟨nb, 2, none⟩ (.int .i64 lz) := ⟨_, rfl⟩
        have eV1 : V1 = set3 X1 nb lx ly lz := hV1
        have BV : Box3 V1 nb ⟨lx, ly, lz⟩ := by rw [eV1]; exact (B3.out.step hb1).set _ _ _
        have q0 := BV.c0
        have q1 := BV.c1
        have q2 := BV.c2
        dsimp only at q0 q1 q2
        have KV : Hid (KeepC (fun b => S b ∧ b ≠ nb) V V1) := by show KeepC _ _ _; rw [eV1]; exact (KeepC.below hb1).trans (keepC_set3 X1 nb lx ly lz)
        have t1 : V1.cell? ⟨S0, 0, none⟩ = some (.func (.yield l) #[] #[]) := KV.out.cell ⟨S0, 0, none⟩ _ ⟨sT, by show S0 ≠ nb; omega⟩ t0
        have gV : V.grownBy V1 (some nb) := by rw [eV1]; exact G.trans (below_grown hb1 _) (grown_set3 X1 nb lx ly lz)
        have HFV : Hid (KeepsFrom wr.heap.size V V1) := by show KeepsFrom _ _ _; rw [eV1]; exact (keeps_below hb1).trans (keeps_set3 X1 nb _ lx ly lz)
        obtain ⟨hj1, hk1, hm1⟩ := HIW.out V1 gV
        have HJ1 : Hid _ := hj1
        have HM1 : Hid _ := hm1
        have HKW : Hid _ := hk1
        clear hj1 hk1 hm1 gV BV eV1 HIW B3 HLG HK7
        by_cases hz : (⟨lx, ly, lz⟩ : Pt) = Pt.O
        · obtain ⟨rfl, rfl, rfl⟩ : lx = 0 ∧ ly = 0 ∧ lz = 0 := by simpa [Pt.O] using hz
          have HEQ : Hid (both (((A ++ B) ++ (crossL E Fl)) ++ (wayL P Q (E ++ Fl)).take (k + 1)) = both (((A ++ B) ++ (crossL E Fl)) ++ (wayL P Q (E ++ Fl)).take k)) := HBS.out.1 rfl
          have HFI : Hid (J (both (((A ++ B) ++ (crossL E Fl)) ++ (wayL P Q (E ++ Fl)).take (k + 1))).length V1 ∧ KeepC S wr V1 ∧ Marks (W.heap.size + 2) Dl V1) := ⟨by rw [HEQ.out, ← HLN.out]; exact HJ1.out, HKW.out, HM1.out⟩
          clear hz HBS y0 y1 y2 f0 f1 f2
          gi_wp2
          rw [← hV1]
          exact ⟨HFV.out, KV.out, HFI.out⟩
        · obtain ⟨hl2, hlt, hp1, hp2⟩ := HBS.out.2 hz
          have HY1 : Hid _ := fun Vx hV => yield_at (hY len Vx (by omega) hV) hp1
          have HY2 : Hid _ := fun Vx hV => yield_at (hY (len + 1) Vx hlt hV) hp2
          have HJV : Hid (∀ Vx, Below V1.heap.size V1 Vx → J len Vx) := fun Vx h => own_step hJ HJ1.out h
          have HFN : Hid (∀ Z, J (len + 1 + 1) Z → KeepC S V1 Z → KeepsFrom (m0 + 2) V1 Z → KeepsFrom wr.heap.size V Z ∧ KeepC (fun b => S b ∧ b ≠ nb) V Z ∧ (J (both (((A ++ B) ++ (crossL E Fl)) ++ (wayL P Q (E ++ Fl)).take (k + 1))).length Z ∧ KeepC S wr Z ∧ Marks (W.heap.size + 2) Dl Z)) := fun Z k1 k2 k3 => ⟨HFV.out.trans (keeps_up k3 (by omega)), KV.out.trans (k2.mono (fun b h => h.1)), by rw [hl2]; exact k1, HKW.out.trans k2, HM1.out.keeps k3 (by omega)⟩
          have hz3 : lx = 0 → ly = 0 → ¬ lz = 0 := fun a b c => hz (by rw [a, b, c]; rfl)
          generalize hng : Pt.neg ⟨lx, ly, lz⟩ = ng at *
          obtain ⟨mx, my, mz⟩ := ng
          have HBK : Hid _ := HNG
          unfold Pt.v at HY1 HY2
          dsimp only at HY1 HY2 HBK
          clear hz HBS hl2 hlt hp1 hp2 hng hin HNG y0 y1 y2 f0 f1 f2 HFV KV HKW HM1 HJ1
          gi_upto_region 7 with fail
          rw [← hV1]
          clear hV1
          gi_cut [31] from 27 (fun s31 wx => s31 = .bool false ∧ wx = V1)
          case first =>
            clear HY1 HY2 HJV HFN HBK
            gi_wp2
            all_goals first
              | (exfalso; exact hz3 (by assumption) (by assumption) (by assumption))
              | (gi_meet; case rel => exact ⟨rfl, rfl⟩)
          case rest =>
            obtain ⟨rfl, e9⟩ := hcut
            rw [e9]
            clear hz3 e9
            gi_wp2
            refine RI.region_by (fun _ => trivial) (fun γ j => match j with | 0 => .func (.yield l) #[] #[] | 1 => .agg #[.int .i64 lx, .int .i64 ly, .int .i64 lz] | 2 => .bool true | 3 => .bool false | 4 => .bool false | 5 => .func (.yield l) #[] #[] | 6 => .agg #[.int .i64 lx, .int .i64 ly, .int .i64 lz] | 7 => .agg #[.int .i64 mx, .int .i64 my, .int .i64 mz] | 8 => .bool true | 9 => .bool false | 10 => .bool false | _ => undef) (fun γ L v => (L 2 = false ∧ Below V1.heap.size V1 v) ∨ (L 2 = true ∧ ((L 8 = false ∧ (J (len + 1) v ∧ KeepC S V1 v ∧ KeepsFrom (m0 + 2) V1 v)) ∨ (L 8 = true ∧ (J (len + 1 + 1) v ∧ KeepC S V1 v ∧ KeepsFrom (m0 + 2) V1 v))))) (by kernel_rfl) (by kernel_rfl) (by kernel_rfl) (by kernel_rfl) (fun _ => 0) ?_ ?_ ?_
            · exact Or.inl ⟨rfl, (Below.refl _ V1).drew⟩
            · generalize hD : RI.dstOf _ = D
              generalize hWA : RI.waitsFor _ = A
              generalize hZ : Act.mk _ _ = Z
              have d0 : D 0 = some 32 := by rw [← hD]; rfl
              have d1 : D 1 = some 33 := by rw [← hD]; rfl
              have d2 : D 2 = some 34 := by rw [← hD]; rfl
              have d3 : D 3 = some 35 := by rw [← hD]; rfl
              have d4 : D 4 = some 36 := by rw [← hD]; rfl
              have d5 : D 5 = some 37 := by rw [← hD]; rfl
              have d6 : D 6 = some 38 := by rw [← hD]; rfl
              have d7 : D 7 = some 39 := by rw [← hD]; rfl
              have d8 : D 8 = some 40 := by rw [← hD]; rfl
              have d9 : D 9 = some 41 := by rw [← hD]; rfl
              have d10 : D 10 = some 42 := by rw [← hD]; rfl
              have R3 : ∀ (γ : Nat → Nat) (L : Nat → Bool) (a : Act) (w : World), RI.Held D A (fun γ j => match j with | 0 => .func (.yield l) #[] #[] | 1 => .agg #[.int .i64 lx, .int .i64 ly, .int .i64 lz] | 2 => .bool true | 3 => .bool false | 4 => .bool false | 5 => .func (.yield l) #[] #[] | 6 => .agg #[.int .i64 lx, .int .i64 ly, .int .i64 lz] | 7 => .agg #[.int .i64 mx, .int .i64 my, .int .i64 mz] | 8 => .bool true | 9 => .bool false | 10 => .bool false | _ => undef) (fun γ L v => (L 2 = false ∧ Below V1.heap.size V1 v) ∨ (L 2 = true ∧ ((L 8 = false ∧ (J (len + 1) v ∧ KeepC S V1 v ∧ KeepsFrom (m0 + 2) V1 v)) ∨ (L 8 = true ∧ (J (len + 1 + 1) v ∧ KeepC S V1 v ∧ KeepsFrom (m0 + 2) V1 v))))) Z γ L a w → a.tmps[3]? = some (.pointer (some ⟨S0, 0, none⟩)) := fun γ L a w hH => (hH.rest 3 (by rw [← hD]; exact RI.dst_free (by kernel_rfl))).trans (by rw [← hZ]; rfl)
              have R6 : ∀ (γ : Nat → Nat) (L : Nat → Bool) (a : Act) (w : World), RI.Held D A (fun γ j => match j with | 0 => .func (.yield l) #[] #[] | 1 => .agg #[.int .i64 lx, .int .i64 ly, .int .i64 lz] | 2 => .bool true | 3 => .bool false | 4 => .bool false | 5 => .func (.yield l) #[] #[] | 6 => .agg #[.int .i64 lx, .int .i64 ly, .int .i64 lz] | 7 => .agg #[.int .i64 mx, .int .i64 my, .int .i64 mz] | 8 => .bool true | 9 => .bool false | 10 => .bool false | _ => undef) (fun γ L v => (L 2 = false ∧ Below V1.heap.size V1 v) ∨ (L 2 = true ∧ ((L 8 = false ∧ (J (len + 1) v ∧ KeepC S V1 v ∧ KeepsFrom (m0 + 2) V1 v)) ∨ (L 8 = true ∧ (J (len + 1 + 1) v ∧ KeepC S V1 v ∧ KeepsFrom (m0 + 2) V1 v))))) Z γ L a w → a.tmps[6]? = some (.pointer (some ⟨nb, 0, none⟩)) := fun γ L a w hH => (hH.rest 6 (by rw [← hD]; exact RI.dst_free (by kernel_rfl))).trans (by rw [← hZ]; rfl)
              have A_2_0 : A 2 0 := by rw [← hWA]; exact ⟨_, rfl, ⟨0, .data⟩, by simp, rfl, rfl⟩
              have A_2_1 : A 2 1 := by rw [← hWA]; exact ⟨_, rfl, ⟨1, .data⟩, by simp, rfl, rfl⟩
              have A_3_2 : A 3 2 := by rw [← hWA]; exact ⟨_, rfl, ⟨2, .data⟩, by simp, rfl, rfl⟩
              have A_4_3 : A 4 3 := by rw [← hWA]; exact ⟨_, rfl, ⟨3, .data⟩, by simp, rfl, rfl⟩
              have A_7_6 : A 7 6 := by rw [← hWA]; exact ⟨_, rfl, ⟨6, .data⟩, by simp, rfl, rfl⟩
              have A_8_5 : A 8 5 := by rw [← hWA]; exact ⟨_, rfl, ⟨5, .data⟩, by simp, rfl, rfl⟩
              have A_8_7 : A 8 7 := by rw [← hWA]; exact ⟨_, rfl, ⟨7, .data⟩, by simp, rfl, rfl⟩
              have A_9_8 : A 9 8 := by rw [← hWA]; exact ⟨_, rfl, ⟨8, .data⟩, by simp, rfl, rfl⟩
              have A_10_4 : A 10 4 := by rw [← hWA]; exact ⟨_, rfl, ⟨4, .data⟩, by simp, rfl, rfl⟩
              have A_10_9 : A 10 9 := by rw [← hWA]; exact ⟨_, rfl, ⟨9, .data⟩, by simp, rfl, rfl⟩
              have A_8_4 : A 8 4 := by rw [← hWA]; exact ⟨_, rfl, ⟨4, .guard⟩, by simp, rfl, rfl⟩
              clear hD hWA hZ
              refine RI.AllDo.cons 0 (RI.does_pure (fun _ => trivial) rfl (fun γ L w h => by rw [RI.more_ne (i := 0) (j := 2) (by decide), RI.more_ne (i := 0) (j := 8) (by decide)]; exact h) (fun γ L a w hH hl hA => by have e0 := R3 γ L a w hH; have n2 : L 2 = false := RI.not_yet hH A_2_0 hl; have hB9 := RI.early hH.glob n2; have zz0 := c_after hB9 t1; simp [execOp, go_sem, e0, zz0])) ?_
              refine RI.AllDo.cons 1 (RI.does_pure (fun _ => trivial) rfl (fun γ L w h => by rw [RI.more_ne (i := 1) (j := 2) (by decide), RI.more_ne (i := 1) (j := 8) (by decide)]; exact h) (fun γ L a w hH hl hA => by have e0 := R6 γ L a w hH; have n2 : L 2 = false := RI.not_yet hH A_2_1 hl; have hB9 := RI.early hH.glob n2; have zz0 := c_after hB9 q0; have zz1 := c_after hB9 q1; have zz2 := c_after hB9 q2; simp [execOp, go_sem, e0, zz0, zz1, zz2])) ?_
              refine RI.AllDo.cons 2 (RI.does_round (fun _ => trivial) (by omega) rfl (fun γ L a w hH hl hA => by have e0 : a.tmps[32]? = some (.func (.yield l) #[] #[]) := hH.slot 0 32 d0 (hA ⟨0, .data⟩ (by simp) rfl); have e1 : a.tmps[33]? = some (.agg #[.int .i64 lx, .int .i64 ly, .int .i64 lz]) := hH.slot 1 33 d1 (hA ⟨1, .data⟩ (by simp) rfl); have hB9 := RI.early hH.glob hl; have n3 : L 3 = false := RI.not_yet hH A_3_2 hl; have n4 : L 4 = false := RI.not_yet hH A_4_3 n3; have n8 : L 8 = false := RI.not_yet hH A_8_4 n4; obtain ⟨fn2, tm2, as2, bo2, hy2, hR2⟩ := HY1.out _ (HJV.out _ hB9); exact ⟨l, fn2, tm2, as2, bo2, by simp [go_sem, e0, e1, hy2], (round_any _ hR2).mono (by rintro e w2 ⟨rfl, hJ8, hk8, hf8⟩; exact ⟨_, γ, rfl, fun _ _ => rfl, fun _ => rfl, by rw [RI.more_self, RI.more_ne (i := 2) (j := 8) (by decide)]; exact Or.inr ⟨rfl, Or.inl ⟨n8, hJ8, (KeepC.below hB9).trans hk8, (keeps_below hB9).trans hf8⟩⟩⟩)⟩)) ?_
              refine RI.AllDo.cons 3 (RI.does_pure (fun _ => trivial) rfl (fun γ L w h => by rw [RI.more_ne (i := 3) (j := 2) (by decide), RI.more_ne (i := 3) (j := 8) (by decide)]; exact h) (fun γ L a w hH hl hA => by have e0 : a.tmps[34]? = some (.bool true) := hH.slot 2 34 d2 (hA ⟨2, .data⟩ (by simp) rfl); simp [execOp, go_sem, e0])) ?_
              refine RI.AllDo.cons 4 (RI.does_pure (fun _ => trivial) rfl (fun γ L w h => by rw [RI.more_ne (i := 4) (j := 2) (by decide), RI.more_ne (i := 4) (j := 8) (by decide)]; exact h) (fun γ L a w hH hl hA => by have e0 : a.tmps[35]? = some (.bool false) := hH.slot 3 35 d3 (hA ⟨3, .data⟩ (by simp) rfl); simp [execOp, go_sem, e0])) ?_
              refine RI.AllDo.cons 5 (RI.does_guarded rfl d4 (fun γ => rfl) (by simp) (RI.does_pure (fun _ => trivial) rfl (fun γ L w h => by rw [RI.more_ne (i := 5) (j := 2) (by decide), RI.more_ne (i := 5) (j := 8) (by decide)]; exact h) (fun γ L a w hH hl hA => by have e0 := R3 γ L a w hH; have l4_ : L 4 = true := hA ⟨4, .guard⟩ (by simp) rfl; have l3_ := hH.closed 4 3 A_4_3 l4_; have l2_ := hH.closed 3 2 A_3_2 l3_; have n8 : L 8 = false := RI.not_yet hH A_8_5 hl; have hM := RI.early (RI.late hH.glob l2_) n8; have zz0 := hM.2.1.cell ⟨S0, 0, none⟩ _ sT t1; simp [execOp, go_sem, e0, zz0]))) ?_
              refine RI.AllDo.cons 6 (RI.does_guarded rfl d4 (fun γ => rfl) (by simp) (RI.does_pure (fun _ => trivial) rfl (fun γ L w h => by rw [RI.more_ne (i := 6) (j := 2) (by decide), RI.more_ne (i := 6) (j := 8) (by decide)]; exact h) (fun γ L a w hH hl hA => by have e0 := R6 γ L a w hH; have l4_ : L 4 = true := hA ⟨4, .guard⟩ (by simp) rfl; have l3_ := hH.closed 4 3 A_4_3 l4_; have l2_ := hH.closed 3 2 A_3_2 l3_; have n7 : L 7 = false := RI.not_yet hH A_7_6 hl; have n8 : L 8 = false := RI.not_yet hH A_8_7 n7; have hM := RI.early (RI.late hH.glob l2_) n8; have zz0 := hM.2.1.cell ⟨nb, 0, none⟩ _ hnS q0; have zz1 := hM.2.1.cell ⟨nb, 1, none⟩ _ hnS q1; have zz2 := hM.2.1.cell ⟨nb, 2, none⟩ _ hnS q2; simp [execOp, go_sem, e0, zz0, zz1, zz2]))) ?_
              refine RI.AllDo.cons 7 (RI.does_guarded rfl d4 (fun γ => rfl) (by simp) (RI.does_call (fun _ => trivial) (by omega) rfl (fun γ L a w hH hl hA => by have e0 : a.tmps[38]? = some (.agg #[.int .i64 lx, .int .i64 ly, .int .i64 lz]) := hH.slot 6 38 d6 (hA ⟨6, .data⟩ (by simp) rfl); have l4_ : L 4 = true := hA ⟨4, .guard⟩ (by simp) rfl; have l3_ := hH.closed 4 3 A_4_3 l4_; have l2_ := hH.closed 3 2 A_3_2 l3_; have n8 : L 8 = false := RI.not_yet hH A_8_7 hl; have hM := RI.early (RI.late hH.glob l2_) n8; exact ⟨141, #[.agg #[.int .i64 lx, .int .i64 ly, .int .i64 lz]], by simp [go_sem, e0], (CallsIn.inRound lq (callsIn_wide.2 (HBK.out w))).mono (by rintro e w2 ⟨rfl, hb⟩; exact ⟨_, rfl, fun _ => rfl, (by rw [RI.more_ne (i := 7) (j := 2) (by decide), RI.more_ne (i := 7) (j := 8) (by decide)]; exact Or.inr ⟨l2_, Or.inl ⟨n8, own_step hJ hM.1 hb, hM.2.1.trans (KeepC.below hb), hM.2.2.trans (keeps_below hb)⟩⟩)⟩)⟩))) ?_
              refine RI.AllDo.cons 8 (RI.does_guarded rfl d4 (fun γ => rfl) (by simp) (RI.does_round (fun _ => trivial) (by omega) rfl (fun γ L a w hH hl hA => by have e0 : a.tmps[37]? = some (.func (.yield l) #[] #[]) := hH.slot 5 37 d5 (hA ⟨5, .data⟩ (by simp) rfl); have e1 : a.tmps[39]? = some (.agg #[.int .i64 mx, .int .i64 my, .int .i64 mz]) := hH.slot 7 39 d7 (hA ⟨7, .data⟩ (by simp) rfl); have l4_ : L 4 = true := hA ⟨4, .guard⟩ (by simp) rfl; have l3_ := hH.closed 4 3 A_4_3 l4_; have l2_ := hH.closed 3 2 A_3_2 l3_; have hM := RI.early (RI.late hH.glob l2_) hl; obtain ⟨fn2, tm2, as2, bo2, hy2, hR2⟩ := HY2.out _ hM.1; exact ⟨l, fn2, tm2, as2, bo2, by simp [go_sem, e0, e1, hy2], (round_any _ hR2).mono (by rintro e w2 ⟨rfl, hJ8, hk8, hf8⟩; exact ⟨_, γ, rfl, fun _ _ => rfl, fun _ => rfl, by rw [RI.more_ne (i := 8) (j := 2) (by decide), RI.more_self]; exact Or.inr ⟨l2_, Or.inr ⟨rfl, hJ8, hM.2.1.trans hk8, hM.2.2.trans hf8⟩⟩⟩)⟩))) ?_
              refine RI.AllDo.cons 9 (RI.does_guarded rfl d4 (fun γ => rfl) (by simp) (RI.does_pure (fun _ => trivial) rfl (fun γ L w h => by rw [RI.more_ne (i := 9) (j := 2) (by decide), RI.more_ne (i := 9) (j := 8) (by decide)]; exact h) (fun γ L a w hH hl hA => by have e0 : a.tmps[40]? = some (.bool true) := hH.slot 8 40 d8 (hA ⟨8, .data⟩ (by simp) rfl); simp [execOp, go_sem, e0]))) ?_
              refine RI.AllDo.cons 10 (RI.does_pure (fun _ => trivial) rfl (fun γ L w h => by rw [RI.more_ne (i := 10) (j := 2) (by decide), RI.more_ne (i := 10) (j := 8) (by decide)]; exact h) (fun γ L a w hH hl hA => by have e0 : a.tmps[36]? = some (.bool false) := hH.slot 4 36 d4 (hA ⟨4, .data⟩ (by simp) rfl); have e1 : a.tmps[41]? = some (.bool false) := hH.slot 9 41 d9 (hA ⟨9, .data⟩ (by simp) rfl); simp [execOp, go_sem, e0, e1])) ?_
              exact RI.AllDo.nil
            · intro γ a5 w5 L9 hL hLo hH
              have ha := RI.held_act hH hL (by kernel_rfl) (by kernel_rfl)
              obtain ⟨hJ8, hk8, hf8⟩ := RI.late (RI.late hH.glob (hL 2 (by decide))) (hL 8 (by decide))
              rw [ha]
              clear ha hH hL hLo
              simp only [RI.putAll, Act.put, List.setIfInBounds_toArray, List.set_cons_zero, List.set_cons_succ, Nat.zero_add, Nat.reduceAdd]
              have HFI : Hid _ := HFN.out w5 hJ8 hk8 hf8
              clear hJ8 hk8 hf8
              gi_wp2
              exact HFI.out
      case done =>
        rintro D V hD ⟨hj7, hk7, hm7⟩ hKD
        have HF1 : Hid (J (both (preC (A ++ B) (crossL E Fl) (wayL P Q (E ++ Fl)) 3)).length V) := by rw [List.take_length] at hj7; exact hj7
        have HF2 : Hid (Marks (W.heap.size + 2) (D :: Dl) V) := hm7.more (by omega) (fun h => by have := hml D h; omega) hKD
        have HF3 : Hid (KeepC S w5 V) := HK.out.trans hk7
        clear hj7 hk7 hm7 hKD HBT HJ HM
        gi_wp2
        refine ⟨⟨_, _, _, _, _, _, _, _, _, _, _, _, _, _, _, _, _, _, _, _, _, _, _, _, _, _, _, _, _, _, _, _, _, _, _, _, _, _, 3, D :: Dl, rfl, by omega, HF1, HF3, HF2⟩, ?_⟩
        simp [intOf]
    | 3, _ =>
      rw [show ((3 : Nat) : Int) = 3 from rfl]
      have HJ : Hid (J (both (candL ⟨P, A, E, r⟩ ⟨Q, B, Fl, s⟩)).length wr) := by have h8 := HJ.out; rw [show preC (A ++ B) (crossL E Fl) (wayL P Q (E ++ Fl)) 3 = (candL ⟨P, A, E, r⟩ ⟨Q, B, Fl, s⟩) by unfold preC candL; simp [List.append_assoc]] at h8; exact h8
      gi_wp2
      rw [Exit.noGoto_normal]
      gi_wp2
      exact leave_marks hJ (by omega) rfl _ Dl wr HM.out HJ.out
end Go.Proofs.YtbhdfjoagajipaaGreat
