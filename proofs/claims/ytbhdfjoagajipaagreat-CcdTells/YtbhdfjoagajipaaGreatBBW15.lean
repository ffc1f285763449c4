/- The document's own Apart of layer 9. -/
import Derived.Test.YtbhdfjoagajipaaGreatBBW14
import Derived.Test.YtbhdfjoagajipaaGreatBBW13
import Derived.Test.YtbhdfjoagajipaaGreatBBW10
namespace Go.Proofs.YtbhdfjoagajipaaGreat
open Go.RowKit Go.Shelf
set_option linter.unusedVariables false

/-- What is told behind i candidates. -/
def tbL (g : Pt → Int) (d : Pt × Int) (L : List Pt) (i : Nat) : Pt × Int := (bestL g none (L.take i)).getD d
theorem tbL_zero (g : Pt → Int) (d : Pt × Int) (L : List Pt) : tbL g d L 0 = d := rfl
theorem best_is (g : Pt → Int) (L : List Pt) {i : Nat} (h : i < L.length) : ∃ x, bestL g none (L.take (i + 1)) = some x := by
  rw [best_next g L h]
  unfold bestS
  split
  · exact ⟨_, rfl⟩
  · split <;> exact ⟨_, rfl⟩
theorem tbL_next (g : Pt → Int) (d : Pt × Int) (L : List Pt) {i : Nat} (h : i < L.length) : tbL g d L (i + 1) = if i = 0 ∨ (tbL g d L i).2 < g (pt L i) then (pt L i, g (pt L i)) else tbL g d L i := by
  unfold tbL
  rw [best_next g L h]
  cases i with
  | zero => simp [bestL, bestS]
  | succ k =>
    obtain ⟨⟨m, x⟩, e⟩ := best_is g L (show k < L.length by omega)
    rw [e]
    by_cases hx : x < g (pt L (k + 1))
    · simp [bestS, hx]
    · simp [bestS, hx]
theorem told_tbL (a b : Cr) : told a b = tbL (gapZ a.P b.P a.r b.r) (⟨0, 0, 1048576⟩, -a.r - b.r) (both (candL a b)) (both (candL a b)).length := by
  unfold told tbL
  rw [List.take_length]
  cases bestL (gapZ a.P b.P a.r b.r) none (both (candL a b)) <;> rfl
/-- Boxes that stay, one that is written, and a list of one's own. -/
structure AK (w0 X : World) (bs : List (Nat × List Value)) (b : Nat) (cs : List Value) (n0 : Nat) (u : Value) (L : List Pt) : Prop where
  below : Below w0.heap.size w0 X
  fix : ∀ p ∈ bs, p.1 ≠ b ∧ CelW X p.1 p.2
  box : CelW X b cs
  ge : w0.heap.size ≤ b
  lt : b < n0
  own : X.ownsRow n0 23 3 u L.length (fl3 L)
theorem AK.step {w0 X Y : World} {bs : List (Nat × List Value)} {b n0 : Nat} {cs : List Value} {u : Value} {L : List Pt} (h : AK w0 X bs b cs n0 u L) (hb : Below X.heap.size X Y) : AK w0 Y bs b cs n0 u L :=
  ⟨b_step h.below hb, fun p hp => ⟨(h.fix p hp).1, (h.fix p hp).2.step hb⟩, h.box.step hb, h.ge, h.lt, own_below h.own hb⟩
theorem AK.put {w0 X : World} {bs : List (Nat × List Value)} {b n0 : Nat} {c0 c1 c2 c3 : Value} {u : Value} {L : List Pt} (h : AK w0 X bs b [c0, c1, c2, c3] n0 u L) (v0 v1 v2 v3 : Value) :
    AK w0 ((((X.setCell ⟨b, 0, none⟩ v0).setCell ⟨b, 1, none⟩ v1).setCell ⟨b, 2, none⟩ v2).setCell ⟨b, 3, none⟩ v3) bs b [v0, v1, v2, v3] n0 u L := by
  have hu : u.ownBlock ≠ some b := fun e => by have := (h.own.lt b e).1; have := h.lt; omega
  refine ⟨(((h.below.setCell h.ge _).setCell h.ge _).setCell h.ge _).setCell h.ge _, fun p hp => ⟨(h.fix p hp).1, ((((h.fix p hp).2.other (h.fix p hp).1 _ _).other (h.fix p hp).1 _ _).other (h.fix p hp).1 _ _).other (h.fix p hp).1 _ _⟩, ?_, h.ge, h.lt, ?_⟩
  · exact (((h.box.set 0 v0 (by simp)).set 1 v1 (by simp)).set 2 v2 (by simp)).set 3 v3 (by simp)
  · exact ownsRow_setCell_other (ownsRow_setCell_other (ownsRow_setCell_other (ownsRow_setCell_other h.own hu _) hu _) hu _) hu _
set_option maxHeartbeats 8000000 in
set_option maxRecDepth 100000 in
theorem rapart9_any (P A E Q B Fl : List Pt) (r s : Int) (va1 va2 va3 vb1 vb2 vb3 : Value) (w0 : World)
    (hP : Lies w0 va1 P) (hA : Lies w0 va2 A) (hE : Lies w0 va3 E) (hQ : Lies w0 vb1 Q) (hB : Lies w0 vb2 B) (hF : Lies w0 vb3 Fl) :
    Calls Tryz.prog 77 #[coreA va1 va2 va3 r, coreA vb1 vb2 vb3 s] w0 fun e W => e = .returned (.tuple #[apartV ⟨P, A, E, r⟩ ⟨Q, B, Fl, s⟩, .bool (mayC ⟨P, A, E, r⟩ && mayC ⟨Q, B, Fl, s⟩)]) ∧ Below w0.heap.size w0 W := by
  have M1 : Hid _ := fun (w' : World) (h : Below w0.heap.size w0 w') => rmay9_any ⟨P, A, E, r⟩ va1 va2 va3 w' (hP.below h) (hA.below h) (hE.below h)
  have M2 : Hid _ := fun (w' : World) (h : Below w0.heap.size w0 w') => rmay9_any ⟨Q, B, Fl, s⟩ vb1 vb2 vb3 w' (hQ.below h) (hB.below h) (hF.below h)
  have HCN : Hid _ := fun (w' : World) (h : Below w0.heap.size w0 w') => rcand9_any ⟨P, A, E, r⟩ ⟨Q, B, Fl, s⟩ va1 va2 va3 vb1 vb2 vb3 w' (hP.below h) (hA.below h) (hE.below h) (hQ.below h) (hB.below h) (hF.below h)
  have HGN : Hid _ := fun (n : Pt) (w' : World) (h : Below w0.heap.size w0 w') => rgap9_any ⟨P, A, E, r⟩ ⟨Q, B, Fl, s⟩ n va1 va2 va3 vb1 vb2 vb3 w' (hP.below h) (hA.below h) (hE.below h) (hQ.below h) (hB.below h) (hF.below h)
  have HTD : Hid _ := told_tbL ⟨P, A, E, r⟩ ⟨Q, B, Fl, s⟩
  obtain ⟨o1, k1, rfl, _⟩ := hP.form
  obtain ⟨o2, k2, rfl, _⟩ := hA.form
  obtain ⟨o3, k3, rfl, _⟩ := hE.form
  obtain ⟨o4, k4, rfl, _⟩ := hQ.form
  obtain ⟨o5, k5, rfl, _⟩ := hB.form
  obtain ⟨o6, k6, rfl, _⟩ := hF.form
  clear hP hA hE hQ hB hF
  unfold coreA at *
  dsimp only at *
  obtain ⟨W1, hW1⟩ : ∃ V, V = ((w0.alloc (.cells #[.slice o1 P.length k1, .slice o2 A.length k2, .slice o3 E.length k3, .int .i64 r] 35)).alloc (.cells #[.slice o4 Q.length k4, .slice o5 B.length k5, .slice o6 Fl.length k6, .int .i64 s] 35)).alloc (.cells #[.int .i64 0, .int .i64 0, .int .i64 0, .int .i64 0] 71) := ⟨_, rfl⟩
  have n1 := CelW.new w0 [.slice o1 P.length k1, .slice o2 A.length k2, .slice o3 E.length k3, .int .i64 r] 35
  have n2 := CelW.new (w0.alloc (.cells #[.slice o1 P.length k1, .slice o2 A.length k2, .slice o3 E.length k3, .int .i64 r] 35)) [.slice o4 Q.length k4, .slice o5 B.length k5, .slice o6 Fl.length k6, .int .i64 s] 35
  have n3 := CelW.new ((w0.alloc (.cells #[.slice o1 P.length k1, .slice o2 A.length k2, .slice o3 E.length k3, .int .i64 r] 35)).alloc (.cells #[.slice o4 Q.length k4, .slice o5 B.length k5, .slice o6 Fl.length k6, .int .i64 s] 35)) [.int .i64 0, .int .i64 0, .int .i64 0, .int .i64 0] 71
  rw [World.size_alloc] at n2
  rw [World.size_alloc, World.size_alloc] at n3
  have CA : Hid (CelW W1 w0.heap.size [.slice o1 P.length k1, .slice o2 A.length k2, .slice o3 E.length k3, .int .i64 r]) := by show CelW _ _ _; rw [hW1]; exact (n1.step (n_after _ _)).step (n_after _ _)
  have CB : Hid (CelW W1 (w0.heap.size + 1) [.slice o4 Q.length k4, .slice o5 B.length k5, .slice o6 Fl.length k6, .int .i64 s]) := by show CelW _ _ _; rw [hW1]; exact n2.step (n_after _ _)
  have CR : Hid (CelW W1 (w0.heap.size + 1 + 1) [.int .i64 0, .int .i64 0, .int .i64 0, .int .i64 0]) := by show CelW _ _ _; rw [hW1]; exact n3
  have HB : Hid (Below w0.heap.size w0 W1) := by show Below _ _ _; rw [hW1]; exact b_step (b_step (n_after _ _) (n_after _ _)) (n_after _ _)
  clear n1 n2 n3
  obtain ⟨ab, hab⟩ : ∃ b, b = w0.heap.size := ⟨_, rfl⟩
  obtain ⟨bb, hbb⟩ : ∃ b, b = w0.heap.size + 1 := ⟨_, rfl⟩
  obtain ⟨rb, hrb⟩ : ∃ b, b = w0.heap.size + 1 + 1 := ⟨_, rfl⟩
  rw [← hrb] at CR
  rw [← hbb] at CB
  rw [← hab] at CA
  have hrb0 : w0.heap.size ≤ rb := by omega
  have hlt : ab < rb ∧ bb < rb := by omega
  go_enter Tryz.func77, Tryz.ntmps77
  go_upto_region 1 with fail
  rw [← hW1, ← hrb, ← hbb, ← hab]
  clear hW1 hab hbb hrb
  have x0 := (CA.out 0 _ rfl).1
  have x1 := (CA.out 1 _ rfl).1
  have x2 := (CA.out 2 _ rfl).1
  have x3 := (CA.out 3 _ rfl).1
  go_wp2_with (fail)
  refine Calls.mono (M1.out _ HB.out) ?_
  rintro e V1 ⟨rfl, hb1⟩
  have CA : Hid _ := CelW.step CA.out hb1
  have CB : Hid _ := CelW.step CB.out hb1
  have CR : Hid _ := CelW.step CR.out hb1
  have HB : Hid _ := b_step HB.out hb1
  clear hb1 x0 x1 x2 x3 M1
  have y0 := (CB.out 0 _ rfl).1
  have y1 := (CB.out 1 _ rfl).1
  have y2 := (CB.out 2 _ rfl).1
  have y3 := (CB.out 3 _ rfl).1
  go_wp2_with (fail)
  refine Calls.mono (M2.out _ HB.out) ?_
  rintro e V2 ⟨rfl, hb1⟩
  have CA : Hid _ := CelW.step CA.out hb1
  have CB : Hid _ := CelW.step CB.out hb1
  have CR : Hid _ := CelW.step CR.out hb1
  have HB : Hid _ := b_step HB.out hb1
  clear hb1 y0 y1 y2 y3 M2
  cases hm1 : mayC ⟨P, A, E, r⟩ with
  | false =>
    have hm1' : Hid _ := hm1
    clear hm1 HCN HGN
    cases hm2 : mayC ⟨Q, B, Fl, s⟩ with
    | false =>
      have hm2' : Hid _ := hm2
      clear hm2
      have HV : Hid (apartV ⟨P, A, E, r⟩ ⟨Q, B, Fl, s⟩ = .agg #[.int .i64 0, .int .i64 0, .int .i64 0, .int .i64 0]) := by show _ = _; unfold apartV; rw [hm1'.out, hm2'.out]; rfl
      obtain ⟨z0, zf0⟩ := CR.out 0 _ rfl
      obtain ⟨z1, zf1⟩ := CR.out 1 _ rfl
      obtain ⟨z2, zf2⟩ := CR.out 2 _ rfl
      obtain ⟨z3, zf3⟩ := CR.out 3 _ rfl
      go_wp2_with (fail)
      exact bodyPost_ret (v := .tuple #[.agg #[.int .i64 0, .int .i64 0, .int .i64 0, .int .i64 0], .bool false]) (by simp [results, Tryz.results77, go_sem, z0, z1, z2, z3]) rfl ⟨by rw [HV.out, hm1'.out, hm2'.out]; rfl, ((((HB.out.setCell hrb0 _).setCell hrb0 _).setCell hrb0 _).setCell hrb0 _)⟩
    | true =>
      have hm2' : Hid _ := hm2
      clear hm2
      have HV : Hid (apartV ⟨P, A, E, r⟩ ⟨Q, B, Fl, s⟩ = .agg #[.int .i64 0, .int .i64 0, .int .i64 0, .int .i64 0]) := by show _ = _; unfold apartV; rw [hm1'.out, hm2'.out]; rfl
      obtain ⟨z0, zf0⟩ := CR.out 0 _ rfl
      obtain ⟨z1, zf1⟩ := CR.out 1 _ rfl
      obtain ⟨z2, zf2⟩ := CR.out 2 _ rfl
      obtain ⟨z3, zf3⟩ := CR.out 3 _ rfl
      go_wp2_with (fail)
      exact bodyPost_ret (v := .tuple #[.agg #[.int .i64 0, .int .i64 0, .int .i64 0, .int .i64 0], .bool false]) (by simp [results, Tryz.results77, go_sem, z0, z1, z2, z3]) rfl ⟨by rw [HV.out, hm1'.out, hm2'.out]; rfl, ((((HB.out.setCell hrb0 _).setCell hrb0 _).setCell hrb0 _).setCell hrb0 _)⟩
  | true =>
    have hm1' : Hid _ := hm1
    clear hm1
    cases hm2 : mayC ⟨Q, B, Fl, s⟩ with
    | false =>
      have hm2' : Hid _ := hm2
      clear hm2 HCN HGN
      have HV : Hid (apartV ⟨P, A, E, r⟩ ⟨Q, B, Fl, s⟩ = .agg #[.int .i64 0, .int .i64 0, .int .i64 0, .int .i64 0]) := by show _ = _; unfold apartV; rw [hm1'.out, hm2'.out]; rfl
      obtain ⟨z0, zf0⟩ := CR.out 0 _ rfl
      obtain ⟨z1, zf1⟩ := CR.out 1 _ rfl
      obtain ⟨z2, zf2⟩ := CR.out 2 _ rfl
      obtain ⟨z3, zf3⟩ := CR.out 3 _ rfl
      go_wp2_with (fail)
      exact bodyPost_ret (v := .tuple #[.agg #[.int .i64 0, .int .i64 0, .int .i64 0, .int .i64 0], .bool false]) (by simp [results, Tryz.results77, go_sem, z0, z1, z2, z3]) rfl ⟨by rw [HV.out, hm1'.out, hm2'.out]; rfl, ((((HB.out.setCell hrb0 _).setCell hrb0 _).setCell hrb0 _).setCell hrb0 _)⟩
    | true =>
      obtain ⟨fp, fi, fe, fr⟩ := may_facts hm1'.out
      obtain ⟨gp, gi, ge, gr⟩ := may_facts hm2
      dsimp only at fp fi fe fr gp gi ge gr
      have HCN : Hid _ := fun w' h => HCN.out w' h hm1'.out hm2
      have HGN : Hid _ := fun n w' h => HGN.out n w' h fp gp fi gi fr gr
      have HV : Hid (apartV ⟨P, A, E, r⟩ ⟨Q, B, Fl, s⟩ = .agg #[.int .i64 (told ⟨P, A, E, r⟩ ⟨Q, B, Fl, s⟩).1.x, .int .i64 (told ⟨P, A, E, r⟩ ⟨Q, B, Fl, s⟩).1.y, .int .i64 (told ⟨P, A, E, r⟩ ⟨Q, B, Fl, s⟩).1.z, .int .i64 (told ⟨P, A, E, r⟩ ⟨Q, B, Fl, s⟩).2]) := by show _ = _; unfold apartV; rw [hm1'.out, hm2]; rfl
      rw [HTD.out] at HV
      have hm2' : Hid _ := hm2
      have HBL : Hid _ := both_long (candL ⟨P, A, E, r⟩ ⟨Q, B, Fl, s⟩)
      clear hm2 HTD fp fi fe gp gi ge
      try dsimp only at HV
      try dsimp only at HGN
      generalize both (candL ⟨P, A, E, r⟩ ⟨Q, B, Fl, s⟩) = Ls at *
      obtain ⟨gz, hgz⟩ : ∃ g : Pt → Int, g = gapZ P Q r s := ⟨_, rfl⟩
      rw [← hgz] at HV
      have HGN : Hid (∀ i, i < Ls.length → ∀ w', Below w0.heap.size w0 w' → Calls Tryz.prog 122 #[.agg #[.slice o1 P.length k1, .slice o2 A.length k2, .slice o3 E.length k3, .int .i64 r], .agg #[.slice o4 Q.length k4, .slice o5 B.length k5, .slice o6 Fl.length k6, .int .i64 s], (pt Ls i).v] w' fun e W => e = .returned (.int .i64 (gz (pt Ls i))) ∧ Below w'.heap.size w' W) := fun i hi w' h => by
        obtain ⟨b1, b2⟩ := HBL.out _ (pt_mem hi)
        rw [hgz]
        exact HGN.out (pt Ls i) w' h b1 (by omega)
      obtain ⟨d9, hd9⟩ : ∃ d, -r - s = d := ⟨_, rfl⟩
      have hdw : IntKind.i64.wrap (-r - s) = d9 := by rw [hd9, IntKind.wrap_i64]; omega
      rw [hd9] at HV
      have HTZ : Hid _ := tbL_zero gz (⟨0, 0, 1048576⟩, d9) Ls
      have HTN : Hid (∀ i, i < Ls.length → tbL gz (⟨0, 0, 1048576⟩, d9) Ls (i + 1) = if i = 0 ∨ (tbL gz (⟨0, 0, 1048576⟩, d9) Ls i).2 < gz (pt Ls i) then (pt Ls i, gz (pt Ls i)) else tbL gz (⟨0, 0, 1048576⟩, d9) Ls i) := fun i hi => tbL_next gz _ Ls hi
      generalize tbL gz (⟨0, 0, 1048576⟩, d9) Ls = tb at *
      clear hgz hd9 HBL
      have x0 := (CA.out 0 _ rfl).1
      have x1 := (CA.out 1 _ rfl).1
      have x2 := (CA.out 2 _ rfl).1
      have x3 := (CA.out 3 _ rfl).1
      have y0 := (CB.out 0 _ rfl).1
      have y1 := (CB.out 1 _ rfl).1
      have y2 := (CB.out 2 _ rfl).1
      have y3 := (CB.out 3 _ rfl).1
      obtain ⟨V3, hV3⟩ : ∃ V, V = V2.alloc (.cells #[.int .i64 0, .int .i64 0, .int .i64 1048576, .int .i64 d9] 71) := ⟨_, rfl⟩
      obtain ⟨ob, hob⟩ : ∃ b, b = V2.heap.size := ⟨_, rfl⟩
      have hb3 : Below V2.heap.size V2 V3 := by rw [hV3]; exact n_after _ _
      have CO : Hid (CelW V3 ob [.int .i64 0, .int .i64 0, .int .i64 1048576, .int .i64 d9]) := by show CelW _ _ _; rw [hV3, hob]; exact CelW.new _ _ _
      have hrl : rb < V2.heap.size := CelW.lt CR.out
      go_upto_region 6 with fail
      rw [← hV3, ← hob]
      clear x0 x1 x2 x3 y0 y1 y2 y3 hdw
      have CA : Hid _ := CelW.step CA.out hb3
      have CB : Hid _ := CelW.step CB.out hb3
      have CR : Hid _ := CelW.step CR.out hb3
      have HB : Hid _ := b_step HB.out hb3
      clear hV3 hb3
      have x0 := (CA.out 0 _ rfl).1
      have x1 := (CA.out 1 _ rfl).1
      have x2 := (CA.out 2 _ rfl).1
      have x3 := (CA.out 3 _ rfl).1
      have y0 := (CB.out 0 _ rfl).1
      have y1 := (CB.out 1 _ rfl).1
      have y2 := (CB.out 2 _ rfl).1
      have y3 := (CB.out 3 _ rfl).1
      go_wp2_with (fail)
      refine Calls.mono (HCN.out _ HB.out) ?_
      rintro e V4 ⟨u, rfl, HRW⟩
      have hb4 := HRW.out.below
      have HK : Hid (AK w0 V4 [(ab, [.slice o1 P.length k1, .slice o2 A.length k2, .slice o3 E.length k3, .int .i64 r]), (bb, [.slice o4 Q.length k4, .slice o5 B.length k5, .slice o6 Fl.length k6, .int .i64 s]), (rb, [.int .i64 0, .int .i64 0, .int .i64 0, .int .i64 0])] ob [.int .i64 (tb 0).1.x, .int .i64 (tb 0).1.y, .int .i64 (tb 0).1.z, .int .i64 (tb 0).2] V3.heap.size u Ls) := by
        refine ⟨b_step HB.out hb4, fun p hp => ?_, ?_, by omega, CelW.lt CO.out, HRW.out.row⟩
        · simp only [List.mem_cons, List.not_mem_nil, or_false] at hp
          rcases hp with rfl | rfl | rfl
          · exact ⟨by show _ ≠ _; omega, CelW.step CA.out hb4⟩
          · exact ⟨by show _ ≠ _; omega, CelW.step CB.out hb4⟩
          · exact ⟨by show _ ≠ _; omega, CelW.step CR.out hb4⟩
        · rw [HTZ.out]; exact CelW.step CO.out hb4
      obtain ⟨n0, hn0⟩ : ∃ n, n = V3.heap.size := ⟨_, rfl⟩
      rw [← hn0] at HK
      obtain ⟨BS, hBS⟩ : ∃ x : List (Nat × List Value), x = [(ab, [.slice o1 P.length k1, .slice o2 A.length k2, .slice o3 E.length k3, .int .i64 r]), (bb, [.slice o4 Q.length k4, .slice o5 B.length k5, .slice o6 Fl.length k6, .int .i64 s]), (rb, [.int .i64 0, .int .i64 0, .int .i64 0, .int .i64 0])] := ⟨_, rfl⟩
      have HM1 : Hid ((ab, [.slice o1 P.length k1, .slice o2 A.length k2, .slice o3 E.length k3, .int .i64 r]) ∈ BS) := by show _ ∈ _; rw [hBS]; simp
      have HM2 : Hid ((bb, [.slice o4 Q.length k4, .slice o5 B.length k5, .slice o6 Fl.length k6, .int .i64 s]) ∈ BS) := by show _ ∈ _; rw [hBS]; simp
      have HM3 : Hid ((rb, [.int .i64 0, .int .i64 0, .int .i64 0, .int .i64 0]) ∈ BS) := by show _ ∈ _; rw [hBS]; simp
      rw [← hBS] at HK
      clear hn0 hBS hb4 HRW CA CB CR CO HB HTZ x0 x1 x2 x3 y0 y1 y2 y3 hob
      obtain ⟨uo, uc, rfl⟩ := rowp_form HK.out.own
      go_wp2_with (fail)
      go_loopg [10, 11] Ls.length (fun gm s10 s11 wr => ∃ i : Nat, s10 = .int .i64 (i : Int) ∧ i ≤ Ls.length ∧ Hid (gm = Ls.length - i) ∧ Hid (AK w0 wr BS ob [.int .i64 (tb i).1.x, .int .i64 (tb i).1.y, .int .i64 (tb i).1.z, .int .i64 (tb i).2] n0 (.slice uo Ls.length uc) Ls))
      case atStart => exact ⟨0, rfl, Nat.zero_le _, rfl, HK⟩
      case round =>
        clear HK
        obtain ⟨i, rfl, hi9, HG, HK⟩ := hrel
        by_cases hit : i < Ls.length
        · obtain ⟨o', cap', e', _, _, hcl⟩ := (Lies.of_row HK.out.own).form
          cases e'
          obtain ⟨gl, fl, rfl, v0, v1, v2⟩ := hcl i hit
          clear hcl
          have CA : Hid _ := (HK.out.fix _ HM1.out).2
          have CB : Hid _ := (HK.out.fix _ HM2.out).2
          have x0 := (CA.out 0 _ rfl).1
          have x1 := (CA.out 1 _ rfl).1
          have x2 := (CA.out 2 _ rfl).1
          have x3 := (CA.out 3 _ rfl).1
          have y0 := (CB.out 0 _ rfl).1
          have y1 := (CB.out 1 _ rfl).1
          have y2 := (CB.out 2 _ rfl).1
          have y3 := (CB.out 3 _ rfl).1
          have HGX : Hid _ := fun w' h => HGN.out i hit w' (b_step HK.out.below h)
          have HTX : Hid _ := HTN.out i hit
          obtain ⟨gg, hgg⟩ : ∃ x, gz (pt Ls i) = x := ⟨_, rfl⟩
          rw [hgg] at HGX HTX
          obtain ⟨pe, hpe⟩ : ∃ x, pt Ls i = x := ⟨_, rfl⟩
          rw [hpe] at HGX HTX v0 v1 v2
          obtain ⟨⟨tp, tg⟩, ht⟩ : ∃ x, tb i = x := ⟨_, rfl⟩
          rw [ht] at HTX HK
          clear hgg hpe
          unfold Pt.v at HGX
          dsimp only at HTX HK
          go_upto_region 10 with fail
          go_cut [11] from 40 to 46 (fun s11 wx => s11 = .int .i64 gg ∧ Hid (Below wr.heap.size wr wx))
          case first =>
            refine RV.region_by (fun j v w => match j with | 0 => v = .agg #[.slice o1 P.length k1, .slice o2 A.length k2, .slice o3 E.length k3, .int .i64 r] | 1 => v = .agg #[.slice o4 Q.length k4, .slice o5 B.length k5, .slice o6 Fl.length k6, .int .i64 s] | 2 => v = .slice (some ⟨gl, fl, none⟩) Ls.length uc | 3 => v = .int .i64 (i : Int) | 4 => v = .pointer (some ⟨gl, fl + i * 3, none⟩) | 5 => v = .agg #[.int .i64 pe.x, .int .i64 pe.y, .int .i64 pe.z] | 6 => v = .int .i64 gg | 7 => v = .int .i64 gg | _ => True) (fun γ L w => Below wr.heap.size wr w) (by kernel_rfl) (by kernel_rfl) (by kernel_rfl) (by kernel_rfl) ?_ ?_ ?_
            · exact (Below.refl _ wr).drew
            · generalize hD : dstOf _ = D
              generalize hWA : waitsFor _ = WA
              generalize hZ : Act.mk _ _ = Z
              obtain ⟨R, hR⟩ : ∃ R : Nat → Value → World → Prop, R = (fun j v w => match j with | 0 => v = .agg #[.slice o1 P.length k1, .slice o2 A.length k2, .slice o3 E.length k3, .int .i64 r] | 1 => v = .agg #[.slice o4 Q.length k4, .slice o5 B.length k5, .slice o6 Fl.length k6, .int .i64 s] | 2 => v = .slice (some ⟨gl, fl, none⟩) Ls.length uc | 3 => v = .int .i64 (i : Int) | 4 => v = .pointer (some ⟨gl, fl + i * 3, none⟩) | 5 => v = .agg #[.int .i64 pe.x, .int .i64 pe.y, .int .i64 pe.z] | 6 => v = .int .i64 gg | 7 => v = .int .i64 gg | _ => True) := ⟨_, rfl⟩
              rw [← hR]
              have d0 : D 0 = some 40 := by rw [← hD]; rfl
              have d1 : D 1 = some 41 := by rw [← hD]; rfl
              have d2 : D 2 = some 42 := by rw [← hD]; rfl
              have d3 : D 3 = some 43 := by rw [← hD]; rfl
              have d4 : D 4 = some 44 := by rw [← hD]; rfl
              have d5 : D 5 = some 45 := by rw [← hD]; rfl
              have d6 : D 6 = some 46 := by rw [← hD]; rfl
              have d7 : D 7 = some 11 := by rw [← hD]; rfl
              have r0 : ∀ v w, R 0 v w = (v = .agg #[.slice o1 P.length k1, .slice o2 A.length k2, .slice o3 E.length k3, .int .i64 r]) := fun v w => by rw [hR]; rfl
              have r1 : ∀ v w, R 1 v w = (v = .agg #[.slice o4 Q.length k4, .slice o5 B.length k5, .slice o6 Fl.length k6, .int .i64 s]) := fun v w => by rw [hR]; rfl
              have r2 : ∀ v w, R 2 v w = (v = .slice (some ⟨gl, fl, none⟩) Ls.length uc) := fun v w => by rw [hR]; rfl
              have r3 : ∀ v w, R 3 v w = (v = .int .i64 (i : Int)) := fun v w => by rw [hR]; rfl
              have r4 : ∀ v w, R 4 v w = (v = .pointer (some ⟨gl, fl + i * 3, none⟩)) := fun v w => by rw [hR]; rfl
              have r5 : ∀ v w, R 5 v w = (v = .agg #[.int .i64 pe.x, .int .i64 pe.y, .int .i64 pe.z]) := fun v w => by rw [hR]; rfl
              have r6 : ∀ v w, R 6 v w = (v = .int .i64 gg) := fun v w => by rw [hR]; rfl
              have r7 : ∀ v w, R 7 v w = (v = .int .i64 gg) := fun v w => by rw [hR]; rfl
              have E2 : ∀ (γ : Nat → Value) (L : Nat → Bool) (a : Act) (w : World), RV.Held D WA R (fun γ L w => Below wr.heap.size wr w) Z γ L a w → a.tmps[2]? = some (.pointer (some ⟨ab, 0, none⟩)) := fun γ L a w hH => (hH.rest 2 (by rw [← hD]; exact RV.dst_free (by kernel_rfl))).trans (by rw [← hZ]; rfl)
              have E3 : ∀ (γ : Nat → Value) (L : Nat → Bool) (a : Act) (w : World), RV.Held D WA R (fun γ L w => Below wr.heap.size wr w) Z γ L a w → a.tmps[3]? = some (.pointer (some ⟨bb, 0, none⟩)) := fun γ L a w hH => (hH.rest 3 (by rw [← hD]; exact RV.dst_free (by kernel_rfl))).trans (by rw [← hZ]; rfl)
              have E9 : ∀ (γ : Nat → Value) (L : Nat → Bool) (a : Act) (w : World), RV.Held D WA R (fun γ L w => Below wr.heap.size wr w) Z γ L a w → a.tmps[9]? = some (.slice (some ⟨gl, fl, none⟩) Ls.length uc) := fun γ L a w hH => (hH.rest 9 (by rw [← hD]; exact RV.dst_free (by kernel_rfl))).trans (by rw [← hZ]; rfl)
              have E10 : ∀ (γ : Nat → Value) (L : Nat → Bool) (a : Act) (w : World), RV.Held D WA R (fun γ L w => Below wr.heap.size wr w) Z γ L a w → a.tmps[10]? = some (.int .i64 (i : Int)) := fun γ L a w hH => (hH.rest 10 (by rw [← hD]; exact RV.dst_free (by kernel_rfl))).trans (by rw [← hZ]; rfl)
              have K : ∀ j v w w', R j v w → R j v w' := by rw [hR]; intro j v w w' h; exact h
              clear hD hWA hZ hR
              refine RV.AllDo.cons 0 (RV.does_pure (fun γ v L w hl h => h) (fun γ L a w hH hl hA => by have e0 := E2 γ L a w hH; have w09 := c_after hH.glob x0; have w19 := c_after hH.glob x1; have w29 := c_after hH.glob x2; have w39 := c_after hH.glob x3; exact ⟨.agg #[.slice o1 P.length k1, .slice o2 A.length k2, .slice o3 E.length k3, .int .i64 r], by simp [execOp, go_sem, e0, w09, w19, w29, w39], (r0 _ _).mpr rfl⟩)) ?_
              refine RV.AllDo.cons 1 (RV.does_pure (fun γ v L w hl h => h) (fun γ L a w hH hl hA => by have e0 := E3 γ L a w hH; have w09 := c_after hH.glob y0; have w19 := c_after hH.glob y1; have w29 := c_after hH.glob y2; have w39 := c_after hH.glob y3; exact ⟨.agg #[.slice o4 Q.length k4, .slice o5 B.length k5, .slice o6 Fl.length k6, .int .i64 s], by simp [execOp, go_sem, e0, w09, w19, w29, w39], (r1 _ _).mpr rfl⟩)) ?_
              refine RV.AllDo.cons 2 (RV.does_pure (fun γ v L w hl h => h) (fun γ L a w hH hl hA => by have e0 := E9 γ L a w hH; exact ⟨.slice (some ⟨gl, fl, none⟩) Ls.length uc, by simp [execOp, go_sem, e0], (r2 _ _).mpr rfl⟩)) ?_
              refine RV.AllDo.cons 3 (RV.does_pure (fun γ v L w hl h => h) (fun γ L a w hH hl hA => by have e0 := E10 γ L a w hH; exact ⟨.int .i64 (i : Int), by simp [execOp, go_sem, e0], (r3 _ _).mpr rfl⟩)) ?_
              refine RV.AllDo.cons 4 (RV.does_pure (fun γ v L w hl h => h) (fun γ L a w hH hl hA => by have l0 : L 2 = true := hA ⟨2, .data⟩ (by simp) rfl; have e0 := hH.slot 2 42 d2 l0; have g0 := hH.holds 2 l0; rw [r2] at g0; rw [g0] at e0; have l1 : L 3 = true := hA ⟨3, .data⟩ (by simp) rfl; have e1 := hH.slot 3 43 d3 l1; have g1 := hH.holds 3 l1; rw [r3] at g1; rw [g1] at e1; exact ⟨.pointer (some ⟨gl, fl + i * 3, none⟩), by simp [execOp, go_sem, e0, e1, hit], (r4 _ _).mpr rfl⟩)) ?_
              refine RV.AllDo.cons 5 (RV.does_pure (fun γ v L w hl h => h) (fun γ L a w hH hl hA => by have l0 : L 4 = true := hA ⟨4, .data⟩ (by simp) rfl; have e0 := hH.slot 4 44 d4 l0; have g0 := hH.holds 4 l0; rw [r4] at g0; rw [g0] at e0; have w09 := c_after hH.glob v0; have w19 := c_after hH.glob v1; have w29 := c_after hH.glob v2; exact ⟨.agg #[.int .i64 pe.x, .int .i64 pe.y, .int .i64 pe.z], by simp [execOp, go_sem, e0, w09, w19, w29], (r5 _ _).mpr rfl⟩)) ?_
              refine RV.AllDo.cons 6 (RV.does_call (fun γ L a w hH hl hA => by have l0 : L 0 = true := hA ⟨0, .data⟩ (by simp) rfl; have e0 := hH.slot 0 40 d0 l0; have g0 := hH.holds 0 l0; rw [r0] at g0; rw [g0] at e0; have l1 : L 1 = true := hA ⟨1, .data⟩ (by simp) rfl; have e1 := hH.slot 1 41 d1 l1; have g1 := hH.holds 1 l1; rw [r1] at g1; rw [g1] at e1; have l2 : L 5 = true := hA ⟨5, .data⟩ (by simp) rfl; have e2 := hH.slot 5 45 d5 l2; have g2 := hH.holds 5 l2; rw [r5] at g2; rw [g2] at e2; exact ⟨122, #[.agg #[.slice o1 P.length k1, .slice o2 A.length k2, .slice o3 E.length k3, .int .i64 r], .agg #[.slice o4 Q.length k4, .slice o5 B.length k5, .slice o6 Fl.length k6, .int .i64 s], .agg #[.int .i64 pe.x, .int .i64 pe.y, .int .i64 pe.z]], by simp [go_sem, e0, e1, e2], Calls.mono (HGX.out w hH.glob) (by rintro e w2 ⟨rfl, hb⟩; exact ⟨_, rfl, (r6 _ _).mpr rfl, fun j v _ h => K j v _ _ h, hH.glob.trans (hb.mono hH.glob.size)⟩)⟩)) ?_
              refine RV.AllDo.cons 7 (RV.does_pure (fun γ v L w hl h => h) (fun γ L a w hH hl hA => by have l0 : L 6 = true := hA ⟨6, .data⟩ (by simp) rfl; have e0 := hH.slot 6 46 d6 l0; have g0 := hH.holds 6 l0; rw [r6] at g0; rw [g0] at e0; exact ⟨.int .i64 gg, by simp [execOp, go_sem, e0], (r7 _ _).mpr rfl⟩)) ?_
              exact RV.AllDo.nil
            · intro γ a5 w5 L9 hL hLo hH
              have ha := RV.held_act hH hL (by kernel_rfl) (by kernel_rfl)
              have y7 : γ 7 = .int .i64 gg := hH.holds 7 (hL 7 (by decide))
              have hB5 : Hid _ := hH.glob
              rw [ha]
              clear ha hH hL hLo
              simp only [RV.putAll, Act.put, List.setIfInBounds_toArray, List.set_cons_zero, List.set_cons_succ, Nat.zero_add, Nat.reduceAdd]
              rw [y7]
              go_wp2_with (fail)
              go_meet
              case rel => exact ⟨rfl, hB5⟩
          case rest =>
            obtain ⟨rfl, hbx⟩ := hcut
            have HK : Hid _ := HK.out.step hbx.out
            have v0 := c_after hbx.out v0
            have v1 := c_after hbx.out v1
            have v2 := c_after hbx.out v2
            clear hbx x0 x1 x2 x3 y0 y1 y2 y3 CA CB HGX
            obtain ⟨c0, f0⟩ := HK.out.box 0 _ rfl
            obtain ⟨c1, f1⟩ := HK.out.box 1 _ rfl
            obtain ⟨c2, f2⟩ := HK.out.box 2 _ rfl
            obtain ⟨c3, f3⟩ := HK.out.box 3 _ rfl
            have HKP : Hid _ := HK.out.put (.int .i64 pe.x) (.int .i64 pe.y) (.int .i64 pe.z) (.int .i64 gg)
            by_cases hi0 : i = 0
            · subst hi0
              rw [Nat.zero_mul, Nat.add_zero] at v0 v1 v2
              have HT1 : Hid (tb 1 = (pe, gg)) := by show _ = _; rw [HTX.out]; rfl
              clear HTX
              go_wp2_with (fail)
              go_roundg (Ls.length - 1)
              case measure => have := HG.out; omega
              case rel => exact ⟨1, rfl, by omega, rfl, by show AK _ _ _ _ _ _ _ _; rw [HT1.out]; exact HKP.out⟩
            · by_cases hlg : tg < gg
              · have HT1 : Hid (tb (i + 1) = (pe, gg)) := by show _ = _; rw [HTX.out, if_pos (Or.inr hlg)]
                clear HTX
                go_wp2_with (fail)
                go_roundg (Ls.length - (i + 1))
                case measure => have := HG.out; omega
                case rel => exact ⟨i + 1, by go_num, by omega, rfl, by show AK _ _ _ _ _ _ _ _; rw [HT1.out]; exact HKP.out⟩
              · have HT1 : Hid (tb (i + 1) = (tp, tg)) := by show _ = _; rw [HTX.out, if_neg (by omega)]
                clear HTX HKP
                go_wp2_with (fail)
                go_roundg (Ls.length - (i + 1))
                case measure => have := HG.out; omega
                case rel => exact ⟨i + 1, by go_num, by omega, rfl, by show AK _ _ _ _ _ _ _ _; rw [HT1.out]; exact HK.out⟩
        · obtain rfl : i = Ls.length := by omega
          obtain ⟨⟨tp, tg⟩, ht⟩ : ∃ x, tb Ls.length = x := ⟨_, rfl⟩
          rw [ht] at HV HK
          clear ht HTN
          dsimp only at HV HK
          obtain ⟨c0, _⟩ := HK.out.box 0 _ rfl
          obtain ⟨c1, _⟩ := HK.out.box 1 _ rfl
          obtain ⟨c2, _⟩ := HK.out.box 2 _ rfl
          obtain ⟨c3, _⟩ := HK.out.box 3 _ rfl
          have CR : Hid _ := (HK.out.fix _ HM3.out).2
          obtain ⟨z0, zf0⟩ := CR.out 0 _ rfl
          obtain ⟨z1, zf1⟩ := CR.out 1 _ rfl
          obtain ⟨z2, zf2⟩ := CR.out 2 _ rfl
          obtain ⟨z3, zf3⟩ := CR.out 3 _ rfl
          go_wp2_with (fail)
          exact bodyPost_ret (v := .tuple #[.agg #[.int .i64 tp.x, .int .i64 tp.y, .int .i64 tp.z, .int .i64 tg], .bool true]) (by simp [results, Tryz.results77, go_sem, z0, z1, z2, z3]) rfl ⟨by first | (rw [HV.out]; rfl) | (rw [HV.out, hm1'.out, hm2'.out]; rfl), ((((HK.out.below.setCell hrb0 _).setCell hrb0 _).setCell hrb0 _).setCell hrb0 _)⟩
end Go.Proofs.YtbhdfjoagajipaaGreat
namespace Go.Proofs.YtbhdfjoagajipaaGreat
open Go.RowKit Go.Shelf
set_option linter.unusedVariables false

theorem cast_yes {a b : Cr} {w : Pt} (h : (mayC a && mayC b) = true) (h3 : w.inB 4194304 = true) (h2 : a.P.length ≤ 16) (h4 : mayC (trailC a w 16) = true) : castB a w b = true := by
  rw [Bool.and_eq_true] at h
  have hg := go_of h.1 h2 h3
  rw [trail_may hg (by decide), wayBy_full] at h4
  unfold castB
  rw [hg, h4, h.2]
  rfl
theorem cast_need {a b : Cr} {w : Pt} (h : castB a w b = true) : (mayC a && mayC b) = true ∧ w.inB 4194304 = true ∧ a.P.length ≤ 16 := by
  obtain ⟨h1, h2, h3⟩ := cast_parts h
  obtain ⟨_, h5, h6, _⟩ := go_parts h1
  rw [h2, h3]
  exact ⟨rfl, h6, h5⟩

set_option maxHeartbeats 16000000 in
set_option maxRecDepth 100000 in
theorem rcast_any (a : Cr) (wy : Pt) (b : Cr) (pv av ev qv bv fv : Value) (w0 : World) (hp : Lies w0 pv a.P) (ha : Lies w0 av a.A) (he : Lies w0 ev a.E) (hq : Lies w0 qv b.P) (hb : Lies w0 bv b.A) (hf : Lies w0 fv b.E) :
    Calls Tryz.prog 27 #[coreA pv av ev a.r, wy.v, coreA qv bv fv b.r] w0 fun e W => e = .returned (.tuple #[.int .i64 ((castR a wy b).1 : Nat), apV (castR a wy b).2, .bool (castB a wy b)]) ∧ Below w0.heap.size w0 W := by
  have HMW : Hid _ := fun w' => rmay11_any wy w'
  have HA0 : Hid _ := fun (w' : World) (h : Below w0.heap.size w0 w') => rapart9_any a.P a.A a.E b.P b.A b.E a.r b.r _ _ _ _ _ _ w' (hp.below h) (ha.below h) (he.below h) (hq.below h) (hb.below h) (hf.below h)
  have HTR0 : Hid _ := fun (k : Int) (w' : World) (h : Below w0.heap.size w0 w') => rtrail_any a wy k pv av ev w' (hp.below h) (ha.below h) (he.below h)
  have HMC0 : Hid _ := fun (c : Cr) (vp va ve : Value) (w' : World) (l1 : Lies w' vp c.P) (l2 : Lies w' va c.A) (l3 : Lies w' ve c.E) => rmay9_any c vp va ve w' l1 l2 l3
  have HAP0 : Hid _ := fun (c : Cr) (vp va ve : Value) (w' : World) (h : Below w0.heap.size w0 w') (l1 : Lies w' vp c.P) (l2 : Lies w' va c.A) (l3 : Lies w' ve c.E) => rapart9_any c.P c.A c.E b.P b.A b.E c.r b.r _ _ _ _ _ _ w' l1 l2 l3 (hq.below h) (hb.below h) (hf.below h)
  have HYE : Hid ((mayC a && mayC b) = true → wy.inB 4194304 = true → a.P.length ≤ 16 → mayC (trailC a wy 16) = true → castB a wy b = true) := fun h1 h2 h3 h4 => cast_yes h1 h2 h3 h4
  have HNE : Hid (castB a wy b = true → (mayC a && mayC b) = true ∧ wy.inB 4194304 = true ∧ a.P.length ≤ 16) := cast_need
  have HNT : Hid (∀ k : Int, 0 ≤ k ∧ k ≤ 16 → mayC (trailC a wy k) = false → castB a wy b = false) := fun k hk h9 => Bool.eq_false_iff.2 (fun hc => by have h8 := trail_of hc hk; rw [h9] at h8; cases h8)
  have HCR : Hid (castR a wy b = if castB a wy b then (if (apP a b).2 < 0 then (0, apP a b) else castF a wy b 16 0 (apP a b)) else (0, ⟨0, 0, 0⟩, 0)) := rfl
  have HST0 : Hid _ := fun (k : Nat) (h : k < 16) (x : Pt × Int) => castF_step a wy b h x
  obtain ⟨P, A, E, r⟩ := a
  obtain ⟨Q, B, Fl, s⟩ := b
  dsimp only at *
  rw [apart_v] at HA0
  obtain ⟨o1, c1, rfl, _⟩ := hp.form
  obtain ⟨o2, c2, rfl, _⟩ := ha.form
  obtain ⟨o3, c3, rfl, _⟩ := he.form
  obtain ⟨o4, c4, rfl, _⟩ := hq.form
  obtain ⟨o5, c5, rfl, _⟩ := hb.form
  obtain ⟨o6, c6, rfl, _⟩ := hf.form
  clear hp ha he hq hb hf
  obtain ⟨CR, hCR⟩ : ∃ x, castR ⟨P, A, E, r⟩ wy ⟨Q, B, Fl, s⟩ = x := ⟨_, rfl⟩
  rw [hCR] at HCR ⊢
  clear hCR
  obtain ⟨mab, hmab⟩ : ∃ x, (mayC ⟨P, A, E, r⟩ && mayC ⟨Q, B, Fl, s⟩) = x := ⟨_, rfl⟩
  rw [hmab] at HA0 HYE HNE
  obtain ⟨mw, hmw⟩ : ∃ x, wy.inB 4194304 = x := ⟨_, rfl⟩
  rw [hmw] at HMW HYE HNE
  obtain ⟨cbo, hcb⟩ : ∃ x, castB ⟨P, A, E, r⟩ wy ⟨Q, B, Fl, s⟩ = x := ⟨_, rfl⟩
  rw [hcb] at HYE HNE HCR ⊢
  have HNT : Hid (∀ k : Int, 0 ≤ k ∧ k ≤ 16 → mayC (trailC ⟨P, A, E, r⟩ wy k) = false → cbo = false) := by have h9 := HNT.out; rw [hcb] at h9; exact h9
  clear hmab hmw hcb
  obtain ⟨⟨⟨xx, xy, xz⟩, xg⟩, hx⟩ : ∃ x, apP ⟨P, A, E, r⟩ ⟨Q, B, Fl, s⟩ = x := ⟨_, rfl⟩
  rw [hx] at HA0 HCR
  clear hx
  obtain ⟨wx, wY, wz⟩ := wy
  unfold coreA Pt.v at *
  dsimp only at *
  unfold apV at HA0
  dsimp only at HA0
  obtain ⟨X0, hX0⟩ : ∃ V, V = (((w0.alloc (.cells #[.slice o1 P.length c1, .slice o2 A.length c2, .slice o3 E.length c3, .int .i64 r] 35)).alloc (.cells #[.int .i64 wx, .int .i64 wY, .int .i64 wz] 23)).alloc (.cells #[.slice o4 Q.length c4, .slice o5 B.length c5, .slice o6 Fl.length c6, .int .i64 s] 35)).alloc (.cells #[.int .i64 0, .int .i64 0, .int .i64 0, .int .i64 0] 71) := ⟨_, rfl⟩
  obtain ⟨ab, hab⟩ : ∃ b, b = w0.heap.size := ⟨_, rfl⟩
  obtain ⟨wb, hwb⟩ : ∃ b, b = w0.heap.size + 1 := ⟨_, rfl⟩
  obtain ⟨bb, hbb⟩ : ∃ b, b = w0.heap.size + 1 + 1 := ⟨_, rfl⟩
  obtain ⟨rb, hrb⟩ : ∃ b, b = w0.heap.size + 1 + 1 + 1 := ⟨_, rfl⟩
  have n2 := Cel.new (w0.alloc (.cells #[.slice o1 P.length c1, .slice o2 A.length c2, .slice o3 E.length c3, .int .i64 r] 35)) [.int .i64 wx, .int .i64 wY, .int .i64 wz] 23
  rw [World.size_alloc] at n2
  have n3 := Cel.new ((w0.alloc (.cells #[.slice o1 P.length c1, .slice o2 A.length c2, .slice o3 E.length c3, .int .i64 r] 35)).alloc (.cells #[.int .i64 wx, .int .i64 wY, .int .i64 wz] 23)) [.slice o4 Q.length c4, .slice o5 B.length c5, .slice o6 Fl.length c6, .int .i64 s] 35
  rw [World.size_alloc, World.size_alloc] at n3
  have n4 := CelW.new (((w0.alloc (.cells #[.slice o1 P.length c1, .slice o2 A.length c2, .slice o3 E.length c3, .int .i64 r] 35)).alloc (.cells #[.int .i64 wx, .int .i64 wY, .int .i64 wz] 23)).alloc (.cells #[.slice o4 Q.length c4, .slice o5 B.length c5, .slice o6 Fl.length c6, .int .i64 s] 35)) [.int .i64 0, .int .i64 0, .int .i64 0, .int .i64 0] 71
  rw [World.size_alloc, World.size_alloc, World.size_alloc] at n4
  have C1 : Hid (Cel X0 ab [.slice o1 P.length c1, .slice o2 A.length c2, .slice o3 E.length c3, .int .i64 r]) := by show Cel _ _ _; rw [hX0, hab]; exact (((Cel.new w0 [.slice o1 P.length c1, .slice o2 A.length c2, .slice o3 E.length c3, .int .i64 r] 35).step (n_after _ _)).step (n_after _ _)).step (n_after _ _)
  have C2 : Hid (Cel X0 wb [.int .i64 wx, .int .i64 wY, .int .i64 wz]) := by show Cel _ _ _; rw [hX0, hwb]; exact (n2.step (n_after _ _)).step (n_after _ _)
  have C3 : Hid (Cel X0 bb [.slice o4 Q.length c4, .slice o5 B.length c5, .slice o6 Fl.length c6, .int .i64 s]) := by show Cel _ _ _; rw [hX0, hbb]; exact n3.step (n_after _ _)
  have C4 : Hid (CelW X0 rb [.int .i64 0, .int .i64 0, .int .i64 0, .int .i64 0]) := by show CelW _ _ _; rw [hX0, hrb]; exact n4
  have HB : Hid (Below w0.heap.size w0 X0) := by show Below _ _ _; rw [hX0]; exact b_step (b_step (b_step (n_after _ _) (n_after _ _)) (n_after _ _)) (n_after _ _)
  have HR0 : Hid (w0.heap.size ≤ rb) := by show _ ≤ _; omega
  have HLT : Hid (ab < rb ∧ wb < rb ∧ bb < rb) := by show _ ∧ _; omega
  clear n2 n3 n4
  go_enter Tryz.func27, Tryz.ntmps27
  go_upto_region 1 with fail
  rw [← hX0, ← hrb, ← hbb, ← hwb, ← hab]
  clear hX0 hab hwb hbb hrb
  have x0 := C1.out 0 _ rfl
  have x1 := C1.out 1 _ rfl
  have x2 := C1.out 2 _ rfl
  have x3 := C1.out 3 _ rfl
  have y0 := C3.out 0 _ rfl
  have y1 := C3.out 1 _ rfl
  have y2 := C3.out 2 _ rfl
  have y3 := C3.out 3 _ rfl
  go_wp2_with (fail)
  refine Calls.mono (HA0.out _ HB.out) ?_
  rintro e V4 ⟨rfl, hb⟩
  have C1 : Hid (Cel _ _ _) := C1.out.step hb
  have C2 : Hid (Cel _ _ _) := C2.out.step hb
  have C3 : Hid (Cel _ _ _) := C3.out.step hb
  have C4 : Hid (CelW _ _ _) := C4.out.step hb
  have HB : Hid _ := b_step HB.out hb
  clear hb x0 x1 x2 x3 y0 y1 y2 y3 HA0
  obtain ⟨X, hX⟩ : ∃ V, V = V4.alloc (.cells #[.int .i64 xx, .int .i64 xy, .int .i64 xz, .int .i64 xg] 71) := ⟨_, rfl⟩
  obtain ⟨xb, hxb⟩ : ∃ b, b = V4.heap.size := ⟨_, rfl⟩
  have hbx : Below V4.heap.size V4 X := by rw [hX]; exact n_after _ _
  have HS : Hid (CS w0 X ab wb bb rb xb [.slice o1 P.length c1, .slice o2 A.length c2, .slice o3 E.length c3, .int .i64 r] [.int .i64 wx, .int .i64 wY, .int .i64 wz] [.slice o4 Q.length c4, .slice o5 B.length c5, .slice o6 Fl.length c6, .int .i64 s] xx xy xz xg) := ⟨b_step HB.out hbx, C1.out.step hbx, C2.out.step hbx, C3.out.step hbx, C4.out.step hbx, by rw [hX, hxb]; exact CelW.new _ [.int .i64 xx, .int .i64 xy, .int .i64 xz, .int .i64 xg] _⟩
  have hne : (ab ≠ xb ∧ wb ≠ xb ∧ bb ≠ xb ∧ rb ≠ xb) ∧ w0.heap.size ≤ xb := by
    have h1 := C4.out.lt
    have h2 := HLT.out
    have h3 := HB.out.size
    omega
  have HNE9 : Hid _ := hne
  clear hne
  go_upto_region 2 with fail
  rw [← hX, ← hxb]
  clear hX hxb hbx C1 C2 C3 C4 HB HLT
  have y0 := HS.out.cw 0 _ rfl
  have y1 := HS.out.cw 1 _ rfl
  have y2 := HS.out.cw 2 _ rfl
  go_wp2_with (fail)
  refine Calls.mono (HMW.out _) ?_
  rintro e V5 ⟨rfl, hb⟩
  have HS : Hid (CS _ _ _ _ _ _ _ _ _ _ _ _ _ _) := HS.out.step hb
  clear hb y0 y1 y2 HMW
  go_upto_region 3 with fail
  have k0 := HS.out.ca 0 _ rfl
  cases mab with
  | false =>
    have e1 : cbo = false := Bool.eq_false_iff.2 (fun h => by have := (HNE.out h).1; cases this)
    have e2 := HCR.out
    rw [e1, if_neg (by decide)] at e2
    subst e1
    subst e2
    obtain ⟨z0, zf0⟩ := HS.out.cr 0 _ rfl
    obtain ⟨z1, zf1⟩ := HS.out.cr 1 _ rfl
    obtain ⟨z2, zf2⟩ := HS.out.cr 2 _ rfl
    obtain ⟨z3, zf3⟩ := HS.out.cr 3 _ rfl
    have HB9 : Hid _ := set4_below HS.out.below HR0.out (.int .i64 0) (.int .i64 0) (.int .i64 0) (.int .i64 0)
    unfold set4 at HB9
    clear HYE HNE HNT HCR HST0 HTR0 HMC0 HAP0 HS HNE9
    go_wp2_with (fail)
    exact bodyPost_ret (v := .tuple #[.int .i64 0, .agg #[.int .i64 0, .int .i64 0, .int .i64 0, .int .i64 0], .bool false]) (by simp [results, Tryz.results27, go_sem, z0, z1, z2, z3]) rfl ⟨rfl, HB9.out⟩
  | true =>
    cases mw with
    | false =>
      have e1 : cbo = false := Bool.eq_false_iff.2 (fun h => by have := (HNE.out h).2.1; cases this)
      have e2 := HCR.out
      rw [e1, if_neg (by decide)] at e2
      subst e1
      subst e2
      obtain ⟨z0, zf0⟩ := HS.out.cr 0 _ rfl
      obtain ⟨z1, zf1⟩ := HS.out.cr 1 _ rfl
      obtain ⟨z2, zf2⟩ := HS.out.cr 2 _ rfl
      obtain ⟨z3, zf3⟩ := HS.out.cr 3 _ rfl
      have HB9 : Hid _ := set4_below HS.out.below HR0.out (.int .i64 0) (.int .i64 0) (.int .i64 0) (.int .i64 0)
      unfold set4 at HB9
      clear HYE HNE HNT HCR HST0 HTR0 HMC0 HAP0 HS HNE9
      go_wp2_with (fail)
      exact bodyPost_ret (v := .tuple #[.int .i64 0, .agg #[.int .i64 0, .int .i64 0, .int .i64 0, .int .i64 0], .bool false]) (by simp [results, Tryz.results27, go_sem, z0, z1, z2, z3]) rfl ⟨rfl, HB9.out⟩
    | true =>
      by_cases h16 : P.length ≤ 16
      case neg =>
        have hp16 : (16 : Int) < (P.length : Int) := by omega
        have e1 : cbo = false := Bool.eq_false_iff.2 (fun h => by have := (HNE.out h).2.2; omega)
        have e2 := HCR.out
        rw [e1, if_neg (by decide)] at e2
        subst e1
        subst e2
        obtain ⟨z0, zf0⟩ := HS.out.cr 0 _ rfl
        obtain ⟨z1, zf1⟩ := HS.out.cr 1 _ rfl
        obtain ⟨z2, zf2⟩ := HS.out.cr 2 _ rfl
        obtain ⟨z3, zf3⟩ := HS.out.cr 3 _ rfl
        have HB9 : Hid _ := set4_below HS.out.below HR0.out (.int .i64 0) (.int .i64 0) (.int .i64 0) (.int .i64 0)
        unfold set4 at HB9
        clear HYE HNE HNT HCR HST0 HTR0 HMC0 HAP0 HS HNE9 h16
        go_wp2_with (fail)
        exact bodyPost_ret (v := .tuple #[.int .i64 0, .agg #[.int .i64 0, .int .i64 0, .int .i64 0, .int .i64 0], .bool false]) (by simp [results, Tryz.results27, go_sem, z0, z1, z2, z3]) rfl ⟨rfl, HB9.out⟩
      have hp16 : ¬ (16 : Int) < (P.length : Int) := by omega
      have HY2 : Hid (mayC (trailC ⟨P, A, E, r⟩ ⟨wx, wY, wz⟩ 16) = true → cbo = true) := fun h => HYE.out rfl rfl h16 h
      clear HYE HNE h16
      go_upto_region 6 with fail
      clear k0 hp16
      go_loopg [12] 16 (fun gm s12 wr => ∃ (i : Nat), s12 = .int .i64 (i : Int) ∧ 1 ≤ i ∧ i ≤ 17 ∧ Hid (gm = 17 - i) ∧ Hid (CS w0 wr ab wb bb rb xb [.slice o1 P.length c1, .slice o2 A.length c2, .slice o3 E.length c3, .int .i64 r] [.int .i64 wx, .int .i64 wY, .int .i64 wz] [.slice o4 Q.length c4, .slice o5 B.length c5, .slice o6 Fl.length c6, .int .i64 s] xx xy xz xg) ∧ Hid (2 ≤ i → mayC (trailC ⟨P, A, E, r⟩ ⟨wx, wY, wz⟩ ((i : Int) - 1)) = true))
      case atStart => exact ⟨1, rfl, by omega, by omega, rfl, HS, fun h => by omega⟩
      case round =>
        clear HS
        obtain ⟨i, rfl, hi1, hi2, HG, HS, HM⟩ := hrel
        by_cases hit : i ≤ 16
        · have hit' : (i : Int) ≤ 16 := by omega
          have wi1 : IntKind.i64.wrap ((i : Int) + 1) = (i : Int) + 1 := by rw [IntKind.wrap_i64]; omega
          have HTR1 : Hid _ := HTR0.out (i : Int)
          have HN1 : Hid _ := HNT.out (i : Int) (by omega)
          obtain ⟨TC, hTC⟩ : ∃ x, trailC ⟨P, A, E, r⟩ ⟨wx, wY, wz⟩ (i : Int) = x := ⟨_, rfl⟩
          rw [hTC] at HTR1 HN1
          have HM1 : Hid (mayC TC = true → 2 ≤ i + 1 → mayC (trailC ⟨P, A, E, r⟩ ⟨wx, wY, wz⟩ (((i + 1 : Nat) : Int) - 1)) = true) := fun h _ => by rw [show ((i + 1 : Nat) : Int) - 1 = (i : Int) by omega, hTC]; exact h
          have HMC1 : Hid _ := HMC0.out TC
          obtain ⟨mt, hmt⟩ : ∃ x, mayC TC = x := ⟨_, rfl⟩
          rw [hmt] at HN1 HM1 HMC1
          clear hTC hmt HM
          have x0 := HS.out.ca 0 _ rfl
          have x1 := HS.out.ca 1 _ rfl
          have x2 := HS.out.ca 2 _ rfl
          have x3 := HS.out.ca 3 _ rfl
          have y0 := HS.out.cw 0 _ rfl
          have y1 := HS.out.cw 1 _ rfl
          have y2 := HS.out.cw 2 _ rfl
          go_wp2_with (fail)
          refine Calls.mono (HTR1.out _ HS.out.below) ?_
          rintro e V6 ⟨vp, va, ve, rfl, hown⟩
          have HL1 : Hid _ := Lies.of_row hown.rp
          have HL2 : Hid _ := Lies.of_row hown.ra
          have HL3 : Hid _ := Lies.of_row hown.re
          have HS : Hid (CS _ _ _ _ _ _ _ _ _ _ _ _ _ _) := HS.out.step hown.below
          clear hown x0 x1 x2 x3 y0 y1 y2 HTR1
          go_wp2_with (fail)
          refine Calls.mono (HMC1.out _ _ _ _ HL1.out HL2.out HL3.out) ?_
          rintro e V7 ⟨rfl, hb⟩
          have HS : Hid (CS _ _ _ _ _ _ _ _ _ _ _ _ _ _) := HS.out.step hb
          clear hb HL1 HL2 HL3 HMC1
          go_upto_region 9 with fail
          cases mt with
          | false =>
            have e1 : cbo = false := HN1.out rfl
            have e2 := HCR.out
            rw [e1, if_neg (by decide)] at e2
            subst e1
            subst e2
            obtain ⟨z0, zf0⟩ := HS.out.cr 0 _ rfl
            obtain ⟨z1, zf1⟩ := HS.out.cr 1 _ rfl
            obtain ⟨z2, zf2⟩ := HS.out.cr 2 _ rfl
            obtain ⟨z3, zf3⟩ := HS.out.cr 3 _ rfl
            have HB9 : Hid _ := set4_below HS.out.below HR0.out (.int .i64 0) (.int .i64 0) (.int .i64 0) (.int .i64 0)
            unfold set4 at HB9
            clear HNT HCR HST0 HTR0 HMC0 HAP0 HS HNE9 HY2 HN1 HM1
            go_wp2_with (fail)
            exact bodyPost_ret (v := .tuple #[.int .i64 0, .agg #[.int .i64 0, .int .i64 0, .int .i64 0, .int .i64 0], .bool false]) (by simp [results, Tryz.results27, go_sem, z0, z1, z2, z3]) rfl ⟨rfl, HB9.out⟩
          | true =>
            have HM2 : Hid _ := HM1.out rfl
            clear HN1 HM1
            go_wp2_with (fail)
            go_roundg (17 - (i + 1))
            case measure => have := HG.out; omega
            case rel => exact ⟨i + 1, by go_num, by omega, by omega, rfl, HS, HM2⟩
        · obtain rfl : i = 17 := by omega
          have e1 : cbo = true := HY2.out (HM.out (by omega))
          subst e1
          have HCR : Hid (CR = if xg < 0 then (0, ⟨xx, xy, xz⟩, xg) else castF ⟨P, A, E, r⟩ ⟨wx, wY, wz⟩ ⟨Q, B, Fl, s⟩ 16 0 (⟨xx, xy, xz⟩, xg)) := by have h := HCR.out; rw [if_pos rfl] at h; exact h
          clear HM HNT HY2 HMC0
          go_upto_region 11 with fail
          have u3 := (HS.out.cx 3 _ rfl).1
          by_cases hneg : xg < 0
          · have e2 := HCR.out
            rw [if_pos hneg] at e2
            subst e2
            clear HCR HST0 HTR0 HAP0
            obtain ⟨z0, zf0⟩ := HS.out.cr 0 _ rfl
            obtain ⟨z1, zf1⟩ := HS.out.cr 1 _ rfl
            obtain ⟨z2, zf2⟩ := HS.out.cr 2 _ rfl
            obtain ⟨z3, zf3⟩ := HS.out.cr 3 _ rfl
            have v0 := (HS.out.cx 0 _ rfl).1
            have v1 := (HS.out.cx 1 _ rfl).1
            have v2 := (HS.out.cx 2 _ rfl).1
            have HB9 : Hid _ := set4_below HS.out.below HR0.out (.int .i64 xx) (.int .i64 xy) (.int .i64 xz) (.int .i64 xg)
            unfold set4 at HB9
            clear HS HNE9
            go_wp2_with (go_region)
            exact bodyPost_ret (v := .tuple #[.int .i64 0, .agg #[.int .i64 xx, .int .i64 xy, .int .i64 xz, .int .i64 xg], .bool true]) (by simp [results, Tryz.results27, go_sem, z0, z1, z2, z3]) rfl ⟨rfl, HB9.out.drew⟩
          · have HE0 : Hid (CR = castF ⟨P, A, E, r⟩ ⟨wx, wY, wz⟩ ⟨Q, B, Fl, s⟩ 16 0 (⟨xx, xy, xz⟩, xg)) := by have h := HCR.out; rw [if_neg hneg] at h; exact h
            clear HCR
            go_upto_region 14 with fail
            clear u3 hneg
            have hne := HNE9.out
            obtain ⟨wo, rfl⟩ : ∃ x, x = wr := ⟨_, rfl⟩
            have HX0 : Hid (Below w0.heap.size w0 wo) := HS.out.below
            go_loopg [14] 16 (fun gm s14 wr => ∃ (k : Nat) (xx xy xz xg : Int), s14 = .int .i64 (k : Int) ∧ k ≤ 16 ∧ Hid (gm = 16 - k) ∧ Hid (CS w0 wr ab wb bb rb xb [.slice o1 P.length c1, .slice o2 A.length c2, .slice o3 E.length c3, .int .i64 r] [.int .i64 wx, .int .i64 wY, .int .i64 wz] [.slice o4 Q.length c4, .slice o5 B.length c5, .slice o6 Fl.length c6, .int .i64 s] xx xy xz xg) ∧ Hid (CR = castF ⟨P, A, E, r⟩ ⟨wx, wY, wz⟩ ⟨Q, B, Fl, s⟩ (16 - k) k (⟨xx, xy, xz⟩, xg)))
            case atStart => exact ⟨0, xx, xy, xz, xg, rfl, by omega, rfl, HS, HE0⟩
            case round =>
              clear HS HE0
              obtain ⟨k, xx, xy, xz, xg, rfl, hk, HG, HS, HE⟩ := hrel
              by_cases hit : k < 16
              · have hit' : (k : Int) < 16 := by omega
                have wk1 : IntKind.i64.wrap ((k : Int) + 1) = (k : Int) + 1 := by rw [IntKind.wrap_i64]; omega
                have HST : Hid _ := HST0.out k hit (⟨xx, xy, xz⟩, xg)
                have HTR1 : Hid _ := HTR0.out ((k : Int) + 1)
                obtain ⟨TC, hTC⟩ : ∃ x, trailC ⟨P, A, E, r⟩ ⟨wx, wY, wz⟩ ((k : Int) + 1) = x := ⟨_, rfl⟩
                rw [hTC] at HST HTR1
                have HAP1 : Hid _ := HAP0.out TC
                have hcv : apartV ⟨TC.P, TC.A, TC.E, TC.r⟩ ⟨Q, B, Fl, s⟩ = apV (apP TC ⟨Q, B, Fl, s⟩) := apart_v _ _
                rw [hcv] at HAP1
                obtain ⟨mb, hmb⟩ : ∃ x, (mayC ⟨TC.P, TC.A, TC.E, TC.r⟩ && mayC ⟨Q, B, Fl, s⟩) = x := ⟨_, rfl⟩
                rw [hmb] at HAP1
                obtain ⟨⟨⟨yx, yy, yz⟩, yg⟩, hy⟩ : ∃ x, apP TC ⟨Q, B, Fl, s⟩ = x := ⟨_, rfl⟩
                rw [hy] at HAP1 HST
                unfold apV at HAP1
                dsimp only at HAP1 HST
                clear hTC hcv hmb hy
                go_upto_region 15 with fail
                obtain ⟨X, hX⟩ : ∃ W, W = wr := ⟨_, rfl⟩
                rw [← hX] at HS ⊢
                have HTR : Hid _ := fun (w' : World) (h : Below X.heap.size X w') => HTR1.out w' (b_step HS.out.below h)
                have HAP : Hid _ := fun (vp va ve : Value) (w' : World) (h : Below X.heap.size X w') => HAP1.out vp va ve w' (b_step HS.out.below h)
                clear HTR1 HAP1 hX
                refine RV.region_by2 (fun j v w => match j with | 0 => v = .agg #[.slice o1 P.length c1, .slice o2 A.length c2, .slice o3 E.length c3, .int .i64 r] | 1 => v = .agg #[.int .i64 wx, .int .i64 wY, .int .i64 wz] | 2 => v = .int .i64 (k : Int) | 3 => v = .int .i64 ((k : Int) + 1) | 4 => (fun v w => ∃ vp va ve, v = .agg #[vp, va, ve, .int .i64 TC.r] ∧ w.ownsRow X.heap.size 23 3 vp TC.P.length (fl3 TC.P) ∧ w.ownsRow X.heap.size 23 3 va TC.A.length (fl3 TC.A) ∧ w.ownsRow X.heap.size 23 3 ve TC.E.length (fl3 TC.E)) v w | 5 => v = .agg #[.slice o4 Q.length c4, .slice o5 B.length c5, .slice o6 Fl.length c6, .int .i64 s] | 6 => v = .tuple #[.agg #[.int .i64 yx, .int .i64 yy, .int .i64 yz, .int .i64 yg], .bool mb] | 7 => v = .tuple #[.agg #[.int .i64 yx, .int .i64 yy, .int .i64 yz, .int .i64 yg], .bool mb] | 8 => v = .agg #[.int .i64 yx, .int .i64 yy, .int .i64 yz, .int .i64 yg] | 9 => v = .bool mb | 10 => True | 11 => True | 12 => v = .bool mb | _ => True) (fun γ L w => Below X.heap.size X w ∧ RV.Pend X 71 10 11 #[.int .i64 yx, .int .i64 yy, .int .i64 yz, .int .i64 yg] γ L w) (by kernel_rfl) (by kernel_rfl) (by kernel_rfl) (by kernel_rfl) ?_ ?_ ?_
                · exact ⟨(Below.refl _ X).drew, RV.Pend.start rfl⟩
                · generalize hD : dstOf _ = D
                  generalize hWA : waitsFor _ = WA
                  generalize hZ : Act.mk _ _ = Z
                  obtain ⟨R, hR⟩ : ∃ R : Nat → Value → World → Prop, R = (fun j v w => match j with | 0 => v = .agg #[.slice o1 P.length c1, .slice o2 A.length c2, .slice o3 E.length c3, .int .i64 r] | 1 => v = .agg #[.int .i64 wx, .int .i64 wY, .int .i64 wz] | 2 => v = .int .i64 (k : Int) | 3 => v = .int .i64 ((k : Int) + 1) | 4 => (fun v w => ∃ vp va ve, v = .agg #[vp, va, ve, .int .i64 TC.r] ∧ w.ownsRow X.heap.size 23 3 vp TC.P.length (fl3 TC.P) ∧ w.ownsRow X.heap.size 23 3 va TC.A.length (fl3 TC.A) ∧ w.ownsRow X.heap.size 23 3 ve TC.E.length (fl3 TC.E)) v w | 5 => v = .agg #[.slice o4 Q.length c4, .slice o5 B.length c5, .slice o6 Fl.length c6, .int .i64 s] | 6 => v = .tuple #[.agg #[.int .i64 yx, .int .i64 yy, .int .i64 yz, .int .i64 yg], .bool mb] | 7 => v = .tuple #[.agg #[.int .i64 yx, .int .i64 yy, .int .i64 yz, .int .i64 yg], .bool mb] | 8 => v = .agg #[.int .i64 yx, .int .i64 yy, .int .i64 yz, .int .i64 yg] | 9 => v = .bool mb | 10 => True | 11 => True | 12 => v = .bool mb | _ => True) := ⟨_, rfl⟩
                  rw [← hR]
                  have kn : RV.Kn R [.some (.agg #[.slice o1 P.length c1, .slice o2 A.length c2, .slice o3 E.length c3, .int .i64 r]), .some (.agg #[.int .i64 wx, .int .i64 wY, .int .i64 wz]), .some (.int .i64 (k : Int)), .some (.int .i64 ((k : Int) + 1)), none, .some (.agg #[.slice o4 Q.length c4, .slice o5 B.length c5, .slice o6 Fl.length c6, .int .i64 s]), .some (.tuple #[.agg #[.int .i64 yx, .int .i64 yy, .int .i64 yz, .int .i64 yg], .bool mb]), .some (.tuple #[.agg #[.int .i64 yx, .int .i64 yy, .int .i64 yz, .int .i64 yg], .bool mb]), .some (.agg #[.int .i64 yx, .int .i64 yy, .int .i64 yz, .int .i64 yg]), .some (.bool mb), none, none, .some (.bool mb)] 0 := by rw [hR]; exact ⟨fun _ _ => Iff.rfl, fun _ _ => Iff.rfl, fun _ _ => Iff.rfl, fun _ _ => Iff.rfl, fun _ _ => Iff.rfl, fun _ _ => Iff.rfl, fun _ _ => Iff.rfl, fun _ _ => Iff.rfl, fun _ _ => Iff.rfl, fun _ _ => Iff.rfl, trivial⟩
                  have T := RV.kfacts [58, 59, 60, 61, 62, 63, 64, 57, 65, 66, 16, 0, 17] [(3, .pointer (some ⟨ab, 0, none⟩)), (4, .pointer (some ⟨wb, 0, none⟩)), (5, .pointer (some ⟨bb, 0, none⟩)), (14, .int .i64 (k : Int))] hD hZ kn ⟨rfl, rfl, rfl, rfl, trivial⟩ (by kernel_rfl) (by kernel_rfl)
                  simp only [RV.Outs, RV.Slots, Nat.reduceAdd] at T
                  have r4 : ∀ v w, R 4 v w = ((fun v w => ∃ vp va ve, v = .agg #[vp, va, ve, .int .i64 TC.r] ∧ w.ownsRow X.heap.size 23 3 vp TC.P.length (fl3 TC.P) ∧ w.ownsRow X.heap.size 23 3 va TC.A.length (fl3 TC.A) ∧ w.ownsRow X.heap.size 23 3 ve TC.E.length (fl3 TC.E)) v w) := fun v w => by rw [hR]; rfl
                  have r10 : ∀ v w, R 10 v w = (True) := fun v w => by rw [hR]; rfl
                  have r11 : ∀ v w, R 11 v w = (True) := fun v w => by rw [hR]; rfl
                  have K : ∀ j v w w', Below w.heap.size w w' → R j v w → R j v w' := by
                    intro j v w w' hb h
                    rw [hR] at h ⊢
                    match j with
                    | 4 => obtain ⟨vp, va, ve, h1, h2, h3, h4⟩ := h; exact ⟨vp, va, ve, h1, own_below h2 hb, own_below h3 hb, own_below h4 hb⟩
                    | 0 => exact h
                    | 1 => exact h
                    | 2 => exact h
                    | 3 => exact h
                    | 5 => exact h
                    | 6 => exact h
                    | 7 => exact h
                    | 8 => exact h
                    | 9 => exact h
                    | 10 => exact h
                    | 11 => exact h
                    | 12 => exact h
                    | (_ + 13) => trivial
                  have K4 : ∀ j v w b cs a1 a2 a3 a4, w.heap[b]? = some (.cells cs 71 (0, 0)) → R j v w → R j v (set4 w b a1 a2 a3 a4) := by
                    intro j v w b cs a1 a2 a3 a4 hb h
                    rw [hR] at h ⊢
                    match j with
                    | 4 => obtain ⟨vp, va, ve, h1, h2, h3, h4⟩ := h; exact ⟨vp, va, ve, h1, own_set4 h2 (own_unlike h2 hb (by decide)) _ _ _ _, own_set4 h3 (own_unlike h3 hb (by decide)) _ _ _ _, own_set4 h4 (own_unlike h4 hb (by decide)) _ _ _ _⟩
                    | 0 => exact h
                    | 1 => exact h
                    | 2 => exact h
                    | 3 => exact h
                    | 5 => exact h
                    | 6 => exact h
                    | 7 => exact h
                    | 8 => exact h
                    | 9 => exact h
                    | 10 => exact h
                    | 11 => exact h
                    | 12 => exact h
                    | (_ + 13) => trivial
                  iterate 4 first
                    | (refine RV.AllDo.cons _ (RV.pk kn T (fun γ v L w hl h => ⟨h.1, h.2.other v (by decide) (by decide)⟩) (fun γ L a w hH hl h9 k9 => ⟨_, ?_, rfl⟩)) ?_; · simp [execOp, go_sem, h9])
                    | (refine RV.AllDo.cons _ (RV.pk kn T (fun γ v L w hl h => ⟨h.1, h.2.other v (by decide) (by decide)⟩) (fun γ L a w hH hl h9 k9 => ⟨_, ?_, rfl⟩)) ?_; · simp [Region.binds] at k9; simp [execOp, go_sem, h9, k9, wk1])
                    | (refine RV.AllDo.cons _ (RV.pk kn T (fun γ v L w hl h => ⟨h.1, h.2.other v (by decide) (by decide)⟩) (fun γ L a w hH hl h9 k9 => ⟨_, ?_, rfl⟩)) ?_; · have wz0 := Cel.step HS.out.cw hH.glob.1 0 _ rfl; have wz1 := Cel.step HS.out.cw hH.glob.1 1 _ rfl; have wz2 := Cel.step HS.out.cw hH.glob.1 2 _ rfl; simp [execOp, go_sem, h9, wz0, wz1, wz2])
                    | (refine RV.AllDo.cons _ (RV.pk kn T (fun γ v L w hl h => ⟨h.1, h.2.other v (by decide) (by decide)⟩) (fun γ L a w hH hl h9 k9 => ⟨_, ?_, rfl⟩)) ?_; · have wz0 := Cel.step HS.out.ca hH.glob.1 0 _ rfl; have wz1 := Cel.step HS.out.ca hH.glob.1 1 _ rfl; have wz2 := Cel.step HS.out.ca hH.glob.1 2 _ rfl; have wz3 := Cel.step HS.out.ca hH.glob.1 3 _ rfl; simp [execOp, go_sem, h9, wz0, wz1, wz2, wz3])
                  refine RV.AllDo.cons _ (RV.does_call (fun γ L a w hH hl hA => by have h9 := T _ _ γ L a w hH; have k9 := hA; simp [Region.binds] at k9; exact ⟨26, #[.agg #[.slice o1 P.length c1, .slice o2 A.length c2, .slice o3 E.length c3, .int .i64 r], .agg #[.int .i64 wx, .int .i64 wY, .int .i64 wz], .int .i64 ((k : Int) + 1)], by simp [go_sem, h9, k9], Calls.mono (HTR.out w hH.glob.1) (by rintro e w2 ⟨vp, va, ve, rfl, h3⟩; have hb9 := h3.below; exact ⟨_, rfl, (r4 _ _).mpr ⟨_, _, _, rfl, own_le h3.rp hH.glob.1.size, own_le h3.ra hH.glob.1.size, own_le h3.re hH.glob.1.size⟩, fun j v _ h => K j v _ _ hb9 h, ⟨b_step hH.glob.1 hb9, (hH.glob.2.below hb9).other _ (by decide) (by decide)⟩⟩)⟩)) ?_
                  (refine RV.AllDo.cons _ (RV.pk kn T (fun γ v L w hl h => ⟨h.1, h.2.other v (by decide) (by decide)⟩) (fun γ L a w hH hl h9 k9 => ⟨_, ?_, rfl⟩)) ?_; · have wz0 := Cel.step HS.out.cb hH.glob.1 0 _ rfl; have wz1 := Cel.step HS.out.cb hH.glob.1 1 _ rfl; have wz2 := Cel.step HS.out.cb hH.glob.1 2 _ rfl; have wz3 := Cel.step HS.out.cb hH.glob.1 3 _ rfl; simp [execOp, go_sem, h9, wz0, wz1, wz2, wz3])
                  refine RV.AllDo.cons _ (RV.does_call (fun γ L a w hH hl hA => by have h9 := T _ _ γ L a w hH; have k9 := hA; simp [Region.binds] at k9; have l0 : L 4 = true := hA ⟨4, .data⟩ (by simp) rfl; have e0 := hH.slot 4 61 (by rw [← hD]; rfl) l0; have g0 := hH.holds 4 l0; rw [r4] at g0; obtain ⟨vp, va, ve, hv, hp1, ha1, he1⟩ := g0; rw [hv] at e0; exact ⟨77, #[.agg #[vp, va, ve, .int .i64 TC.r], .agg #[.slice o4 Q.length c4, .slice o5 B.length c5, .slice o6 Fl.length c6, .int .i64 s]], by simp [go_sem, e0, h9, k9], Calls.mono (HAP.out vp va ve w hH.glob.1 (Lies.of_row hp1) (Lies.of_row ha1) (Lies.of_row he1)) (by rintro e w2 ⟨rfl, hb9⟩; exact ⟨_, rfl, ((kn.at (k := 6) rfl _ _).2 rfl), fun j v _ h => K j v _ _ hb9 h, ⟨b_step hH.glob.1 hb9, (hH.glob.2.below hb9).other _ (by decide) (by decide)⟩⟩)⟩)) ?_
                  iterate 3 (refine RV.AllDo.cons _ (RV.pk kn T (fun γ v L w hl h => ⟨h.1, h.2.other v (by decide) (by decide)⟩) (fun γ L a w hH hl h9 k9 => ⟨_, ?_, rfl⟩)) ?_; · simp [Region.binds] at k9; simp [execOp, go_sem, h9, k9])
                  refine RV.AllDo.cons _ (RV.does_step (fun γ L a w hH hl hA => by have h10 : L 11 = false := RV.not_yet hH (RV.wt (j := 11) (i := 10) hWA (by kernel_rfl)) hl; have hb9 := n_after w (.cells #[.int .i64 0, .int .i64 0, .int .i64 0, .int .i64 0] 71); exact ⟨.pointer (some ⟨w.heap.size, 0, none⟩), w.alloc (.cells #[.int .i64 0, .int .i64 0, .int .i64 0, .int .i64 0] 71), by simp [execOp, go_sem], (r10 _ _).mpr trivial, fun j v _ h => K j v _ _ hb9 h, b_step hH.glob.1 hb9, RV.Pend.made _ rfl hH.glob.1.size h10 (by decide)⟩)) ?_
                  refine RV.AllDo.cons _ (RV.does_store (fun γ L a w hH hl hA => by have h9 := T _ _ γ L a w hH; have k9 := hA; simp [Region.binds] at k9; have l0 : L 10 = true := hA ⟨10, .data⟩ (by simp) rfl; have e0 := hH.slot 10 15 (by rw [← hD]; rfl) l0; obtain ⟨b, cs, hb1, hb2, hb3, hb4, _⟩ := hH.glob.2 l0; rw [hb1] at e0; obtain ⟨u0, u1, u2, u3, rfl⟩ := arr4k hb4; have z09 : w.cell? ⟨b, 0, none⟩ = some u0 := (by simp [World.cell?, hb3]); have z19 : w.cell? ⟨b, 1, none⟩ = some u1 := (by simp [World.cell?, hb3]); have z29 : w.cell? ⟨b, 2, none⟩ = some u2 := (by simp [World.cell?, hb3]); have z39 : w.cell? ⟨b, 3, none⟩ = some u3 := (by simp [World.cell?, hb3]); have zf : ∀ o, w.frozen? ⟨b, o, none⟩ = false := fun o => (by simp [World.frozen?, hb3]); exact ⟨set4 w b (.int .i64 yx) (.int .i64 yy) (.int .i64 yz) (.int .i64 yg), by simp [set4, execOp, go_sem, e0, z09, z19, z29, z39, zf, h9, k9], (r11 _ _).mpr trivial, fun j v _ h => K4 j v w b _ _ _ _ _ hb3 h, set4_below hH.glob.1 hb2 _ _ _ _, RV.Pend.filled hb1 hb2 (by have q0 := Go.heap_setCell_same w b 0 _ _ (.int .i64 yx) hb3; have q1 := Go.heap_setCell_same _ b 1 _ _ (.int .i64 yy) q0; have q2 := Go.heap_setCell_same _ b 2 _ _ (.int .i64 yz) q1; have q3 := Go.heap_setCell_same _ b 3 _ _ (.int .i64 yg) q2; simpa [set4] using q3) (by decide) _⟩)) ?_
                  (refine RV.AllDo.cons _ (RV.pk kn T (fun γ v L w hl h => ⟨h.1, h.2.other v (by decide) (by decide)⟩) (fun γ L a w hH hl h9 k9 => ⟨_, ?_, rfl⟩)) ?_; · simp [Region.binds] at k9; simp [execOp, go_sem, h9, k9])
                  exact RV.AllDo.nil
                · intro γ a5 w5 L9 hL hLo hH
                  have ha := RV.held_act hH hL (by kernel_rfl) (by kernel_rfl)
                  obtain ⟨nb, cs, hb1, hb2, hb3, _, hb5⟩ := hH.glob.2 (hL 10 (by decide))
                  rw [hb5 (hL 11 (by decide))] at hb3
                  have hB5 := hH.glob.1
                  have e12 : γ 12 = .bool mb := hH.holds 12 (hL 12 (by decide))
                  rw [ha]
                  clear ha hH hL hLo hb5
                  simp only [RV.putAll, Act.put, List.setIfInBounds_toArray, List.set_cons_zero, List.set_cons_succ, Nat.zero_add, Nat.reduceAdd]
                  rw [hb1, e12]
                  obtain ⟨W5, hW5⟩ : ∃ X : World, X = w5 := ⟨_, rfl⟩
                  rw [← hW5] at hB5 hb3 ⊢
                  have CY : Hid (Cel W5 nb [.int .i64 yx, .int .i64 yy, .int .i64 yz, .int .i64 yg]) := fun k v e => by match k, e with | 0, e => cases e; simp [World.cell?, hb3] | 1, e => cases e; simp [World.cell?, hb3] | 2, e => cases e; simp [World.cell?, hb3] | 3, e => cases e; simp [World.cell?, hb3]
                  have HS : Hid _ := HS.out.step hB5
                  clear hW5 hb1 hb3 hB5 hb2 e12
                  have u3 := CY.out 3 _ rfl
                  by_cases hneg : yg < 0
                  · have HE : Hid (CR = ((k : Nat), (⟨xx, xy, xz⟩, xg))) := by show _ = _; rw [HE.out, HST.out, if_pos hneg]
                    obtain ⟨z0, zf0⟩ := HS.out.cr 0 _ rfl
                    obtain ⟨z1, zf1⟩ := HS.out.cr 1 _ rfl
                    obtain ⟨z2, zf2⟩ := HS.out.cr 2 _ rfl
                    obtain ⟨z3, zf3⟩ := HS.out.cr 3 _ rfl
                    have v0 := (HS.out.cx 0 _ rfl).1
                    have v1 := (HS.out.cx 1 _ rfl).1
                    have v2 := (HS.out.cx 2 _ rfl).1
                    have v3 := (HS.out.cx 3 _ rfl).1
                    have HB9 : Hid _ := set4_below HS.out.below HR0.out (.int .i64 xx) (.int .i64 xy) (.int .i64 xz) (.int .i64 xg)
                    unfold set4 at HB9
                    go_upto_region 17 with fail
                    clear CY HST HAP HTR u3
                    go_region
                    go_wp2
                    exact bodyPost_ret (v := .tuple #[.int .i64 (k : Int), .agg #[.int .i64 xx, .int .i64 xy, .int .i64 xz, .int .i64 xg], .bool true]) (by simp [results, Tryz.results27, go_sem, z0, z1, z2, z3]) rfl ⟨by rw [HE.out]; rfl, HB9.out.drew⟩
                  · have HE : Hid (CR = castF ⟨P, A, E, r⟩ ⟨wx, wY, wz⟩ ⟨Q, B, Fl, s⟩ (16 - (k + 1)) (k + 1) (⟨yx, yy, yz⟩, yg)) := by show _ = _; rw [HE.out, HST.out, if_neg hneg]
                    have HS2 : Hid _ := HS.out.put hne yx yy yz yg
                    have u0 := CY.out 0 _ rfl
                    have u1 := CY.out 1 _ rfl
                    have u2 := CY.out 2 _ rfl
                    obtain ⟨v0, vf0⟩ := HS.out.cx 0 _ rfl
                    obtain ⟨v1, vf1⟩ := HS.out.cx 1 _ rfl
                    obtain ⟨v2, vf2⟩ := HS.out.cx 2 _ rfl
                    obtain ⟨v3, vf3⟩ := HS.out.cx 3 _ rfl
                    unfold set4 at HS2
                    clear HS CY HST HAP HTR
                    go_wp2_with (fail)
                    go_roundg (16 - (k + 1))
                    case measure => have := HG.out; omega
                    case rel => exact ⟨k + 1, yx, yy, yz, yg, by go_num, by omega, rfl, HS2, HE⟩
              · obtain rfl : k = 16 := by omega
                have HE : Hid (CR = (16, (⟨xx, xy, xz⟩, xg))) := HE.out
                obtain ⟨z0, zf0⟩ := HS.out.cr 0 _ rfl
                obtain ⟨z1, zf1⟩ := HS.out.cr 1 _ rfl
                obtain ⟨z2, zf2⟩ := HS.out.cr 2 _ rfl
                obtain ⟨z3, zf3⟩ := HS.out.cr 3 _ rfl
                have v0 := (HS.out.cx 0 _ rfl).1
                have v1 := (HS.out.cx 1 _ rfl).1
                have v2 := (HS.out.cx 2 _ rfl).1
                have v3 := (HS.out.cx 3 _ rfl).1
                have HB9 : Hid _ := set4_below HS.out.below HR0.out (.int .i64 xx) (.int .i64 xy) (.int .i64 xz) (.int .i64 xg)
                unfold set4 at HB9
                clear HS HST0 HTR0 HAP0
                go_wp2_with (go_region)
                exact bodyPost_ret (v := .tuple #[.int .i64 16, .agg #[.int .i64 xx, .int .i64 xy, .int .i64 xz, .int .i64 xg], .bool true]) (by simp [results, Tryz.results27, go_sem, z0, z1, z2, z3]) rfl ⟨by rw [HE.out]; rfl, HB9.out.drew⟩
end Go.Proofs.YtbhdfjoagajipaaGreat
