/- The document's own Apart of layer 9. -/
import Derived.Test.YtccdgpijjgeedaaSNRight27
import Derived.Test.YtccdgpijjgeedaaSNRight0
set_option linter.unusedVariables false
namespace Go.Proofs.Ytccdgpijjgeedaa
section
open Go.RowKit Go.Shelf
def tbL (g : Pt -> Int) (d : Pt × Int) (L : List Pt) (i : Nat) : Pt × Int := (bestL g none (L.take i)).getD d
theorem tbL_zero (g : Pt -> Int) (d : Pt × Int) (L : List Pt) : tbL g d L 0 = d := rfl
theorem best_is (g : Pt -> Int) (L : List Pt) {i : Nat} (h : i < L.length) : ∃ x, bestL g none (L.take (i + 1)) = some x := by
 rw [best_next g L h]
 unfold bestS
 split
 ·exact ⟨_, rfl⟩
 ·split <;> exact ⟨_, rfl⟩
theorem tbL_next (g : Pt -> Int) (d : Pt × Int) (L : List Pt) {i : Nat} (h : i < L.length) : tbL g d L (i + 1) = if i = 0 \/ (tbL g d L i).2 < g (pt L i) then (pt L i, g (pt L i)) else tbL g d L i := by
 unfold tbL
 rw [best_next g L h]
 cases i with
 | zero => simp [bestL, bestS]
 | succ k =>
  obtain ⟨⟨m, x⟩, e⟩ := best_is g L (show k < L.length by omega)
  rw [e]
  by_cases hx : x < g (pt L (k + 1))
  ·simp [bestS, hx]
  ·simp [bestS, hx]
theorem told_tbL (a b : Cr) : told a b = tbL (gapZ a.P b.P a.r b.r) (⟨0, 0, 1048576⟩, -a.r - b.r) (both (candL a b)) (both (candL a b)).length := by
 unfold told tbL
 rw [List.take_length]
 cases bestL (gapZ a.P b.P a.r b.r) none (both (candL a b)) <;> rfl
structure AK (w0 X : World) (bs : List (Nat × List Value)) (b : Nat) (cs : List Value) (n0 : Nat) (u : Value) (L : List Pt) : Prop where
 below : Below w0.heap.size w0 X
 fix : ∀ p ∈ bs, p.1 ≠ b /\ CelW X p.1 p.2
 box : CelW X b cs
 ge : w0.heap.size <= b
 lt : b < n0
 own : X.ownsRow n0 26 3 u L.length (fl3 L)
theorem AK.step {w0 X Y : World} {bs : List (Nat × List Value)} {b n0 : Nat} {cs : List Value} {u : Value} {L : List Pt} (h : AK w0 X bs b cs n0 u L) (hb : Below X.heap.size X Y) : AK w0 Y bs b cs n0 u L :=
 ⟨b_step h.below hb, fun p hp => ⟨(h.fix p hp).1, (h.fix p hp).2.step hb⟩, h.box.step hb, h.ge, h.lt, own_below h.own hb⟩
theorem AK.put {w0 X : World} {bs : List (Nat × List Value)} {b n0 : Nat} {c0 c1 c2 c3 : Value} {u : Value} {L : List Pt} (h : AK w0 X bs b [c0, c1, c2, c3] n0 u L) (v0 v1 v2 v3 : Value) :
  AK w0 ((((X.setCell ⟨b, 0, none⟩ v0).setCell ⟨b, 1, none⟩ v1).setCell ⟨b, 2, none⟩ v2).setCell ⟨b, 3, none⟩ v3) bs b [v0, v1, v2, v3] n0 u L := by
 have hu : u.ownBlock ≠ some b := fun e => by have := (h.own.lt b e).1; have := h.lt; omega
 refine ⟨(((h.below.setCell h.ge _).setCell h.ge _).setCell h.ge _).setCell h.ge _, fun p hp => ⟨(h.fix p hp).1, ((((h.fix p hp).2.other (h.fix p hp).1 _ _).other (h.fix p hp).1 _ _).other (h.fix p hp).1 _ _).other (h.fix p hp).1 _ _⟩, ?_, h.ge, h.lt, ?_⟩
 ·exact (((h.box.set 0 v0 (by simp)).set 1 v1 (by simp)).set 2 v2 (by simp)).set 3 v3 (by simp)
 ·exact ownsRow_setCell_other (ownsRow_setCell_other (ownsRow_setCell_other (ownsRow_setCell_other h.own hu _) hu _) hu _) hu _
set_option maxHeartbeats 8000000 in
set_option maxRecDepth 100000 in
theorem rapart9_any (P A E Q B Fl : List Pt) (r s : Int) (va1 va2 va3 vb1 vb2 vb3 : Value) (w0 : World)
  (hP : Lies w0 va1 P) (hA : Lies w0 va2 A) (hE : Lies w0 va3 E) (hQ : Lies w0 vb1 Q) (hB : Lies w0 vb2 B) (hF : Lies w0 vb3 Fl) :
  Calls Try.prog 11 #[coreA va1 va2 va3 r, coreA vb1 vb2 vb3 s] w0 fun e W => e = .returned (.tuple #[apartV ⟨P, A, E, r⟩ ⟨Q, B, Fl, s⟩, .bool (mayC ⟨P, A, E, r⟩ && mayC ⟨Q, B, Fl, s⟩)]) /\ Below w0.heap.size w0 W := by
 have M1 : Hid _ := fun (w' : World) (h : Below w0.heap.size w0 w') => rmay9_any ⟨P, A, E, r⟩ va1 va2 va3 w' (hP.below h) (hA.below h) (hE.below h)
 have M2 : Hid _ := fun (w' : World) (h : Below w0.heap.size w0 w') => rmay9_any ⟨Q, B, Fl, s⟩ vb1 vb2 vb3 w' (hQ.below h) (hB.below h) (hF.below h)
 have HCN : Hid _ := fun (w' : World) (h : Below w0.heap.size w0 w') => rcand9_any ⟨P, A, E, r⟩ ⟨Q, B, Fl, s⟩ va1 va2 va3 vb1 vb2 vb3 w' (hP.below h) (hA.below h) (hE.below h) (hQ.below h) (hB.below h) (hF.below h)
 have HGN : Hid _ := fun (n : Pt) (w' : World) (h : Below w0.heap.size w0 w') => rgap9_any ⟨P, A, E, r⟩ ⟨Q, B, Fl, s⟩ n va1 va2 va3 vb1 vb2 vb3 w' (hP.below h) (hA.below h) (hE.below h) (hQ.below h) (hB.below h) (hF.below h)
 have HTD : Hid _ := told_tbL ⟨P, A, E, r⟩ ⟨Q, B, Fl, s⟩
 obtain ⟨o1, k1, rfl, _⟩ := hP.form
 obtain ⟨o2, k2, rfl, _⟩ := hA.form
 obtain ⟨o3, k3, rfl, _⟩ := hE.form
 obtain ⟨o4, k4, rfl, _⟩ := hQ.form
 obtain ⟨o5, k5, rfl, _⟩ := hB.form
 obtain ⟨o6, k6, rfl, _⟩ := hF.form
 clear hP hA hE hQ hB hF
 unfold coreA at *
 dsimp only at *
 obtain ⟨W1, hW1⟩ : ∃ V, V = ((w0.alloc (.cells #[.slice o1 P.length k1, .slice o2 A.length k2, .slice o3 E.length k3, .int .i64 r] 24)).alloc (.cells #[.slice o4 Q.length k4, .slice o5 B.length k5, .slice o6 Fl.length k6, .int .i64 s] 24)).alloc (.cells #[.int .i64 0, .int .i64 0, .int .i64 0, .int .i64 0] 29) := ⟨_, rfl⟩
 have n1 := CelW.new w0 [.slice o1 P.length k1, .slice o2 A.length k2, .slice o3 E.length k3, .int .i64 r] 24
 have n2 := CelW.new (w0.alloc (.cells #[.slice o1 P.length k1, .slice o2 A.length k2, .slice o3 E.length k3, .int .i64 r] 24)) [.slice o4 Q.length k4, .slice o5 B.length k5, .slice o6 Fl.length k6, .int .i64 s] 24
 have n3 := CelW.new ((w0.alloc (.cells #[.slice o1 P.length k1, .slice o2 A.length k2, .slice o3 E.length k3, .int .i64 r] 24)).alloc (.cells #[.slice o4 Q.length k4, .slice o5 B.length k5, .slice o6 Fl.length k6, .int .i64 s] 24)) [.int .i64 0, .int .i64 0, .int .i64 0, .int .i64 0] 29
 rw [World.size_alloc] at n2
 rw [World.size_alloc, World.size_alloc] at n3
 have CA : Hid (CelW W1 w0.heap.size [.slice o1 P.length k1, .slice o2 A.length k2, .slice o3 E.length k3, .int .i64 r]) := by show CelW _ _ _; rw [hW1]; exact (n1.step (n_after _ _)).step (n_after _ _)
 have CB : Hid (CelW W1 (w0.heap.size + 1) [.slice o4 Q.length k4, .slice o5 B.length k5, .slice o6 Fl.length k6, .int .i64 s]) := by show CelW _ _ _; rw [hW1]; exact n2.step (n_after _ _)
 have CR : Hid (CelW W1 (w0.heap.size + 1 + 1) [.int .i64 0, .int .i64 0, .int .i64 0, .int .i64 0]) := by show CelW _ _ _; rw [hW1]; exact n3
 have HB : Hid (Below w0.heap.size w0 W1) := by show Below _ _ _; rw [hW1]; exact b_step (b_step (n_after _ _) (n_after _ _)) (n_after _ _)
 clear n1 n2 n3
 obtain ⟨ab, hab⟩ : ∃ b, b = w0.heap.size := ⟨_, rfl⟩
 obtain ⟨bb, hbb⟩ : ∃ b, b = w0.heap.size + 1 := ⟨_, rfl⟩
 obtain ⟨rb, hrb⟩ : ∃ b, b = w0.heap.size + 1 + 1 := ⟨_, rfl⟩
 rw [<- hrb] at CR
 rw [<- hbb] at CB
 rw [<- hab] at CA
 have hrb0 : w0.heap.size <= rb := by omega
 have hlt : ab < rb /\ bb < rb := by omega
 go_enter Try.func11, Try.ntmps11
 go_upto_region 1 with fail
 rw [<- hW1, <- hrb, <- hbb, <- hab]
 clear hW1 hab hbb hrb
 have x0 := (CA.out 0 _ rfl).1
 have x1 := (CA.out 1 _ rfl).1
 have x2 := (CA.out 2 _ rfl).1
 have x3 := (CA.out 3 _ rfl).1
 go_wp2_with (fail)
 refine Calls.mono (M1.out _ HB.out) ?_
 rintro e V1 ⟨rfl, hb1⟩
 have CA : Hid _ := CelW.step CA.out hb1
 have CB : Hid _ := CelW.step CB.out hb1
 have CR : Hid _ := CelW.step CR.out hb1
 have HB : Hid _ := b_step HB.out hb1
 clear hb1 x0 x1 x2 x3 M1
 have y0 := (CB.out 0 _ rfl).1
 have y1 := (CB.out 1 _ rfl).1
 have y2 := (CB.out 2 _ rfl).1
 have y3 := (CB.out 3 _ rfl).1
 go_wp2_with (fail)
 refine Calls.mono (M2.out _ HB.out) ?_
 rintro e V2 ⟨rfl, hb1⟩
 have CA : Hid _ := CelW.step CA.out hb1
 have CB : Hid _ := CelW.step CB.out hb1
 have CR : Hid _ := CelW.step CR.out hb1
 have HB : Hid _ := b_step HB.out hb1
 clear hb1 y0 y1 y2 y3 M2
 cases hm1 : mayC ⟨P, A, E, r⟩ with
 | false =>
  have hm1' : Hid _ := hm1
  clear hm1 HCN HGN
  cases hm2 : mayC ⟨Q, B, Fl, s⟩ with
  | false =>
   have hm2' : Hid _ := hm2
   clear hm2
   have HV : Hid (apartV ⟨P, A, E, r⟩ ⟨Q, B, Fl, s⟩ = .agg #[.int .i64 0, .int .i64 0, .int .i64 0, .int .i64 0]) := by show _ = _; unfold apartV; rw [hm1'.out, hm2'.out]; rfl
   obtain ⟨z0, zf0⟩ := CR.out 0 _ rfl
   obtain ⟨z1, zf1⟩ := CR.out 1 _ rfl
   obtain ⟨z2, zf2⟩ := CR.out 2 _ rfl
   obtain ⟨z3, zf3⟩ := CR.out 3 _ rfl
   go_wp2_with (fail)
   exact bodyPost_ret (v := .tuple #[.agg #[.int .i64 0, .int .i64 0, .int .i64 0, .int .i64 0], .bool false]) (by simp [results, Try.results11, go_sem, z0, z1, z2, z3]) rfl ⟨by rw [HV.out, hm1'.out, hm2'.out]; rfl, ((((HB.out.setCell hrb0 _).setCell hrb0 _).setCell hrb0 _).setCell hrb0 _)⟩
  | true =>
   have hm2' : Hid _ := hm2
   clear hm2
   have HV : Hid (apartV ⟨P, A, E, r⟩ ⟨Q, B, Fl, s⟩ = .agg #[.int .i64 0, .int .i64 0, .int .i64 0, .int .i64 0]) := by show _ = _; unfold apartV; rw [hm1'.out, hm2'.out]; rfl
   obtain ⟨z0, zf0⟩ := CR.out 0 _ rfl
   obtain ⟨z1, zf1⟩ := CR.out 1 _ rfl
   obtain ⟨z2, zf2⟩ := CR.out 2 _ rfl
   obtain ⟨z3, zf3⟩ := CR.out 3 _ rfl
   go_wp2_with (fail)
   exact bodyPost_ret (v := .tuple #[.agg #[.int .i64 0, .int .i64 0, .int .i64 0, .int .i64 0], .bool false]) (by simp [results, Try.results11, go_sem, z0, z1, z2, z3]) rfl ⟨by rw [HV.out, hm1'.out, hm2'.out]; rfl, ((((HB.out.setCell hrb0 _).setCell hrb0 _).setCell hrb0 _).setCell hrb0 _)⟩
 | true =>
  have hm1' : Hid _ := hm1
  clear hm1
  cases hm2 : mayC ⟨Q, B, Fl, s⟩ with
  | false =>
   have hm2' : Hid _ := hm2
   clear hm2 HCN HGN
   have HV : Hid (apartV ⟨P, A, E, r⟩ ⟨Q, B, Fl, s⟩ = .agg #[.int .i64 0, .int .i64 0, .int .i64 0, .int .i64 0]) := by show _ = _; unfold apartV; rw [hm1'.out, hm2'.out]; rfl
   obtain ⟨z0, zf0⟩ := CR.out 0 _ rfl
   obtain ⟨z1, zf1⟩ := CR.out 1 _ rfl
   obtain ⟨z2, zf2⟩ := CR.out 2 _ rfl
   obtain ⟨z3, zf3⟩ := CR.out 3 _ rfl
   go_wp2_with (fail)
   exact bodyPost_ret (v := .tuple #[.agg #[.int .i64 0, .int .i64 0, .int .i64 0, .int .i64 0], .bool false]) (by simp [results, Try.results11, go_sem, z0, z1, z2, z3]) rfl ⟨by rw [HV.out, hm1'.out, hm2'.out]; rfl, ((((HB.out.setCell hrb0 _).setCell hrb0 _).setCell hrb0 _).setCell hrb0 _)⟩
  | true =>
   obtain ⟨fp, fi, fe, fr⟩ := may_facts hm1'.out
   obtain ⟨gp, gi, ge, gr⟩ := may_facts hm2
   dsimp only at fp fi fe fr gp gi ge gr
   have HCN : Hid _ := fun w' h => HCN.out w' h hm1'.out hm2
   have HGN : Hid _ := fun n w' h => HGN.out n w' h fp gp fi gi fr gr
   have HV : Hid (apartV ⟨P, A, E, r⟩ ⟨Q, B, Fl, s⟩ = .agg #[.int .i64 (told ⟨P, A, E, r⟩ ⟨Q, B, Fl, s⟩).1.x, .int .i64 (told ⟨P, A, E, r⟩ ⟨Q, B, Fl, s⟩).1.y, .int .i64 (told ⟨P, A, E, r⟩ ⟨Q, B, Fl, s⟩).1.z, .int .i64 (told ⟨P, A, E, r⟩ ⟨Q, B, Fl, s⟩).2]) := by show _ = _; unfold apartV; rw [hm1'.out, hm2]; rfl
   rw [HTD.out] at HV
   have hm2' : Hid _ := hm2
   have HBL : Hid _ := both_long (candL ⟨P, A, E, r⟩ ⟨Q, B, Fl, s⟩)
   clear hm2 HTD fp fi fe gp gi ge
   try dsimp only at HV
   try dsimp only at HGN
   generalize both (candL ⟨P, A, E, r⟩ ⟨Q, B, Fl, s⟩) = Ls at *
   obtain ⟨gz, hgz⟩ : ∃ g : Pt -> Int, g = gapZ P Q r s := ⟨_, rfl⟩
   rw [<- hgz] at HV
   have HGN : Hid (∀ i, i < Ls.length -> ∀ w', Below w0.heap.size w0 w' -> Calls Try.prog 25 #[.agg #[.slice o1 P.length k1, .slice o2 A.length k2, .slice o3 E.length k3, .int .i64 r], .agg #[.slice o4 Q.length k4, .slice o5 B.length k5, .slice o6 Fl.length k6, .int .i64 s], (pt Ls i).v] w' fun e W => e = .returned (.int .i64 (gz (pt Ls i))) /\ Below w'.heap.size w' W) := fun i hi w' h => by
    obtain ⟨b1, b2⟩ := HBL.out _ (pt_mem hi)
    rw [hgz]
    exact HGN.out (pt Ls i) w' h b1 (by omega)
   obtain ⟨d9, hd9⟩ : ∃ d, -r - s = d := ⟨_, rfl⟩
   have hdw : IntKind.i64.wrap (-r - s) = d9 := by rw [hd9, IntKind.wrap_i64]; omega
   rw [hd9] at HV
   have HTZ : Hid _ := tbL_zero gz (⟨0, 0, 1048576⟩, d9) Ls
   have HTN : Hid (∀ i, i < Ls.length -> tbL gz (⟨0, 0, 1048576⟩, d9) Ls (i + 1) = if i = 0 \/ (tbL gz (⟨0, 0, 1048576⟩, d9) Ls i).2 < gz (pt Ls i) then (pt Ls i, gz (pt Ls i)) else tbL gz (⟨0, 0, 1048576⟩, d9) Ls i) := fun i hi => tbL_next gz _ Ls hi
   generalize tbL gz (⟨0, 0, 1048576⟩, d9) Ls = tb at *
   clear hgz hd9 HBL
   have x0 := (CA.out 0 _ rfl).1
   have x1 := (CA.out 1 _ rfl).1
   have x2 := (CA.out 2 _ rfl).1
   have x3 := (CA.out 3 _ rfl).1
   have y0 := (CB.out 0 _ rfl).1
   have y1 := (CB.out 1 _ rfl).1
   have y2 := (CB.out 2 _ rfl).1
   have y3 := (CB.out 3 _ rfl).1
   obtain ⟨V3, hV3⟩ : ∃ V, V = V2.alloc (.cells #[.int .i64 0, .int .i64 0, .int .i64 1048576, .int .i64 d9] 29) := ⟨_, rfl⟩
   obtain ⟨ob, hob⟩ : ∃ b, b = V2.heap.size := ⟨_, rfl⟩
   have hb3 : Below V2.heap.size V2 V3 := by rw [hV3]; exact n_after _ _
   have CO : Hid (CelW V3 ob [.int .i64 0, .int .i64 0, .int .i64 1048576, .int .i64 d9]) := by show CelW _ _ _; rw [hV3, hob]; exact CelW.new _ _ _
   have hrl : rb < V2.heap.size := CelW.lt CR.out
   go_upto_region 6 with fail
   rw [<- hV3, <- hob]
   clear x0 x1 x2 x3 y0 y1 y2 y3 hdw
   have CA : Hid _ := CelW.step CA.out hb3
   have CB : Hid _ := CelW.step CB.out hb3
   have CR : Hid _ := CelW.step CR.out hb3
   have HB : Hid _ := b_step HB.out hb3
   clear hV3 hb3
   have x0 := (CA.out 0 _ rfl).1
   have x1 := (CA.out 1 _ rfl).1
   have x2 := (CA.out 2 _ rfl).1
   have x3 := (CA.out 3 _ rfl).1
   have y0 := (CB.out 0 _ rfl).1
   have y1 := (CB.out 1 _ rfl).1
   have y2 := (CB.out 2 _ rfl).1
   have y3 := (CB.out 3 _ rfl).1
   go_wp2_with (fail)
   refine Calls.mono (HCN.out _ HB.out) ?_
   rintro e V4 ⟨u, rfl, HRW⟩
   have hb4 := HRW.out.below
   have HK : Hid (AK w0 V4 [(ab, [.slice o1 P.length k1, .slice o2 A.length k2, .slice o3 E.length k3, .int .i64 r]), (bb, [.slice o4 Q.length k4, .slice o5 B.length k5, .slice o6 Fl.length k6, .int .i64 s]), (rb, [.int .i64 0, .int .i64 0, .int .i64 0, .int .i64 0])] ob [.int .i64 (tb 0).1.x, .int .i64 (tb 0).1.y, .int .i64 (tb 0).1.z, .int .i64 (tb 0).2] V3.heap.size u Ls) := by
    refine ⟨b_step HB.out hb4, fun p hp => ?_, ?_, by omega, CelW.lt CO.out, HRW.out.row⟩
    ·simp only [List.mem_cons, List.not_mem_nil, or_false] at hp
     rcases hp with rfl | rfl | rfl
     ·exact ⟨by show _ ≠ _; omega, CelW.step CA.out hb4⟩
     ·exact ⟨by show _ ≠ _; omega, CelW.step CB.out hb4⟩
     ·exact ⟨by show _ ≠ _; omega, CelW.step CR.out hb4⟩
    ·rw [HTZ.out]; exact CelW.step CO.out hb4
   obtain ⟨n0, hn0⟩ : ∃ n, n = V3.heap.size := ⟨_, rfl⟩
   rw [<- hn0] at HK
   obtain ⟨BS, hBS⟩ : ∃ x : List (Nat × List Value), x = [(ab, [.slice o1 P.length k1, .slice o2 A.length k2, .slice o3 E.length k3, .int .i64 r]), (bb, [.slice o4 Q.length k4, .slice o5 B.length k5, .slice o6 Fl.length k6, .int .i64 s]), (rb, [.int .i64 0, .int .i64 0, .int .i64 0, .int .i64 0])] := ⟨_, rfl⟩
   have HM1 : Hid ((ab, [.slice o1 P.length k1, .slice o2 A.length k2, .slice o3 E.length k3, .int .i64 r]) ∈ BS) := by show _ ∈ _; rw [hBS]; simp
   have HM2 : Hid ((bb, [.slice o4 Q.length k4, .slice o5 B.length k5, .slice o6 Fl.length k6, .int .i64 s]) ∈ BS) := by show _ ∈ _; rw [hBS]; simp
   have HM3 : Hid ((rb, [.int .i64 0, .int .i64 0, .int .i64 0, .int .i64 0]) ∈ BS) := by show _ ∈ _; rw [hBS]; simp
   rw [<- hBS] at HK
   clear hn0 hBS hb4 HRW CA CB CR CO HB HTZ x0 x1 x2 x3 y0 y1 y2 y3 hob
   obtain ⟨uo, uc, rfl⟩ := rowp_form HK.out.own
   go_wp2_with (fail)
   go_loopg [10, 11] Ls.length (fun gm s10 s11 wr => ∃ i : Nat, s10 = .int .i64 (i : Int) /\ i <= Ls.length /\ Hid (gm = Ls.length - i) /\ Hid (AK w0 wr BS ob [.int .i64 (tb i).1.x, .int .i64 (tb i).1.y, .int .i64 (tb i).1.z, .int .i64 (tb i).2] n0 (.slice uo Ls.length uc) Ls))
   case atStart => exact ⟨0, rfl, Nat.zero_le _, rfl, HK⟩
   case round =>
    clear HK
    obtain ⟨i, rfl, hi9, HG, HK⟩ := hrel
    by_cases hit : i < Ls.length
    ·obtain ⟨o', cap', e', _, _, hcl⟩ := (Lies.of_row HK.out.own).form
     cases e'
     obtain ⟨gl, fl, rfl, v0, v1, v2⟩ := hcl i hit
     clear hcl
     have CA : Hid _ := (HK.out.fix _ HM1.out).2
     have CB : Hid _ := (HK.out.fix _ HM2.out).2
     have x0 := (CA.out 0 _ rfl).1
     have x1 := (CA.out 1 _ rfl).1
     have x2 := (CA.out 2 _ rfl).1
     have x3 := (CA.out 3 _ rfl).1
     have y0 := (CB.out 0 _ rfl).1
     have y1 := (CB.out 1 _ rfl).1
     have y2 := (CB.out 2 _ rfl).1
     have y3 := (CB.out 3 _ rfl).1
     have HGX : Hid _ := fun w' h => HGN.out i hit w' (b_step HK.out.below h)
     have HTX : Hid _ := HTN.out i hit
     obtain ⟨gg, hgg⟩ : ∃ x, gz (pt Ls i) = x := ⟨_, rfl⟩
     rw [hgg] at HGX HTX
     obtain ⟨pe, hpe⟩ : ∃ x, pt Ls i = x := ⟨_, rfl⟩
     rw [hpe] at HGX HTX v0 v1 v2
     obtain ⟨⟨tp, tg⟩, ht⟩ : ∃ x, tb i = x := ⟨_, rfl⟩
     rw [ht] at HTX HK
     clear hgg hpe
     unfold Pt.v at HGX
     dsimp only at HTX HK
     go_upto_region 10 with fail
     go_cut [11] from 40 to 46 (fun s11 wx => s11 = .int .i64 gg /\ Hid (Below wr.heap.size wr wx))
     case first =>
      refine RV.region_by (fun j v w => match j with | 0 => v = .agg #[.slice o1 P.length k1, .slice o2 A.length k2, .slice o3 E.length k3, .int .i64 r] | 1 => v = .agg #[.slice o4 Q.length k4, .slice o5 B.length k5, .slice o6 Fl.length k6, .int .i64 s] | 2 => v = .slice (some ⟨gl, fl, none⟩) Ls.length uc | 3 => v = .int .i64 (i : Int) | 4 => v = .pointer (some ⟨gl, fl + i * 3, none⟩) | 5 => v = .agg #[.int .i64 pe.x, .int .i64 pe.y, .int .i64 pe.z] | 6 => v = .int .i64 gg | 7 => v = .int .i64 gg | _ => True) (fun γ L w => Below wr.heap.size wr w) (by kernel_rfl) (by kernel_rfl) (by kernel_rfl) (by kernel_rfl) ?_ ?_ ?_
      ·exact (Below.refl _ wr).drew
      ·generalize hD : dstOf _ = D
       generalize hWA : waitsFor _ = WA
       generalize hZ : Act.mk _ _ = Z
       refine RV.AllDo.name ?_
       intro R hR
       have d0 : D 0 = some 40 := by rw [<- hD]; rfl
       have d1 : D 1 = some 41 := by rw [<- hD]; rfl
       have d2 : D 2 = some 42 := by rw [<- hD]; rfl
       have d3 : D 3 = some 43 := by rw [<- hD]; rfl
       have d4 : D 4 = some 44 := by rw [<- hD]; rfl
       have d5 : D 5 = some 45 := by rw [<- hD]; rfl
       have d6 : D 6 = some 46 := by rw [<- hD]; rfl
       have d7 : D 7 = some 11 := by rw [<- hD]; rfl
       have r0 : ∀ v w, R 0 v w = (v = .agg #[.slice o1 P.length k1, .slice o2 A.length k2, .slice o3 E.length k3, .int .i64 r]) := fun v w => by rw [hR]; rfl
       have r1 : ∀ v w, R 1 v w = (v = .agg #[.slice o4 Q.length k4, .slice o5 B.length k5, .slice o6 Fl.length k6, .int .i64 s]) := fun v w => by rw [hR]; rfl
       have r2 : ∀ v w, R 2 v w = (v = .slice (some ⟨gl, fl, none⟩) Ls.length uc) := fun v w => by rw [hR]; rfl
       have r3 : ∀ v w, R 3 v w = (v = .int .i64 (i : Int)) := fun v w => by rw [hR]; rfl
       have r4 : ∀ v w, R 4 v w = (v = .pointer (some ⟨gl, fl + i * 3, none⟩)) := fun v w => by rw [hR]; rfl
       have r5 : ∀ v w, R 5 v w = (v = .agg #[.int .i64 pe.x, .int .i64 pe.y, .int .i64 pe.z]) := fun v w => by rw [hR]; rfl
       have r6 : ∀ v w, R 6 v w = (v = .int .i64 gg) := fun v w => by rw [hR]; rfl
       have r7 : ∀ v w, R 7 v w = (v = .int .i64 gg) := fun v w => by rw [hR]; rfl
       have F2_ : ∀ j, D j ≠ some 2 := by rw [<- hD]; exact RV.dst_free (by kernel_rfl)
       have Z2_ : Z.tmps[2]? = some (.pointer (some ⟨ab, 0, none⟩)) := by rw [<- hZ]; rfl
       have F3_ : ∀ j, D j ≠ some 3 := by rw [<- hD]; exact RV.dst_free (by kernel_rfl)
       have Z3_ : Z.tmps[3]? = some (.pointer (some ⟨bb, 0, none⟩)) := by rw [<- hZ]; rfl
       have F9_ : ∀ j, D j ≠ some 9 := by rw [<- hD]; exact RV.dst_free (by kernel_rfl)
       have Z9_ : Z.tmps[9]? = some (.slice (some ⟨gl, fl, none⟩) Ls.length uc) := by rw [<- hZ]; rfl
       have F10_ : ∀ j, D j ≠ some 10 := by rw [<- hD]; exact RV.dst_free (by kernel_rfl)
       have Z10_ : Z.tmps[10]? = some (.int .i64 (i : Int)) := by rw [<- hZ]; rfl
       have K : ∀ j v w w', R j v w -> R j v w' := by rw [hR]; intro j v w w' h; exact h
       clear hD hWA hZ hR
       refine RV.cc 0 (RV.dp (fun γ v L w hl h => h) (fun γ L a w hH hl hA => by have e0 := ((hH.rest 2 F2_).trans Z2_); have w09 := c_after hH.glob x0; have w19 := c_after hH.glob x1; have w29 := c_after hH.glob x2; have w39 := c_after hH.glob x3; exact ⟨.agg #[.slice o1 P.length k1, .slice o2 A.length k2, .slice o3 E.length k3, .int .i64 r], by simp [execOp, go_sem, e0, w09, w19, w29, w39], (r0 _ _).mpr rfl⟩)) ?_
       refine RV.cc 1 (RV.dp (fun γ v L w hl h => h) (fun γ L a w hH hl hA => by have e0 := ((hH.rest 3 F3_).trans Z3_); have w09 := c_after hH.glob y0; have w19 := c_after hH.glob y1; have w29 := c_after hH.glob y2; have w39 := c_after hH.glob y3; exact ⟨.agg #[.slice o4 Q.length k4, .slice o5 B.length k5, .slice o6 Fl.length k6, .int .i64 s], by simp [execOp, go_sem, e0, w09, w19, w29, w39], (r1 _ _).mpr rfl⟩)) ?_
       refine RV.cc 2 (RV.dp (fun γ v L w hl h => h) (fun γ L a w hH hl hA => by have e0 := ((hH.rest 9 F9_).trans Z9_); exact ⟨.slice (some ⟨gl, fl, none⟩) Ls.length uc, by simp [execOp, go_sem, e0], (r2 _ _).mpr rfl⟩)) ?_
       refine RV.cc 3 (RV.dp (fun γ v L w hl h => h) (fun γ L a w hH hl hA => by have e0 := ((hH.rest 10 F10_).trans Z10_); exact ⟨.int .i64 (i : Int), by simp [execOp, go_sem, e0], (r3 _ _).mpr rfl⟩)) ?_
       refine RV.cc 4 (RV.dp (fun γ v L w hl h => h) (fun γ L a w hH hl hA => by have e0 := hH.got d2 r2 (hA ⟨2, .data⟩ (by simp) rfl); have e1 := hH.got d3 r3 (hA ⟨3, .data⟩ (by simp) rfl); exact ⟨.pointer (some ⟨gl, fl + i * 3, none⟩), by simp [execOp, go_sem, e0, e1, hit], (r4 _ _).mpr rfl⟩)) ?_
       refine RV.cc 5 (RV.dp (fun γ v L w hl h => h) (fun γ L a w hH hl hA => by have e0 := hH.got d4 r4 (hA ⟨4, .data⟩ (by simp) rfl); have w09 := c_after hH.glob v0; have w19 := c_after hH.glob v1; have w29 := c_after hH.glob v2; exact ⟨.agg #[.int .i64 pe.x, .int .i64 pe.y, .int .i64 pe.z], by simp [execOp, go_sem, e0, w09, w19, w29], (r5 _ _).mpr rfl⟩)) ?_
       refine RV.cc 6 (RV.dc (fun γ L a w hH hl hA => by have e0 := hH.got d0 r0 (hA ⟨0, .data⟩ (by simp) rfl); have e1 := hH.got d1 r1 (hA ⟨1, .data⟩ (by simp) rfl); have e2 := hH.got d5 r5 (hA ⟨5, .data⟩ (by simp) rfl); exact ⟨25, #[.agg #[.slice o1 P.length k1, .slice o2 A.length k2, .slice o3 E.length k3, .int .i64 r], .agg #[.slice o4 Q.length k4, .slice o5 B.length k5, .slice o6 Fl.length k6, .int .i64 s], .agg #[.int .i64 pe.x, .int .i64 pe.y, .int .i64 pe.z]], by simp [go_sem, e0, e1, e2], Calls.mono (HGX.out w hH.glob) (by rintro e w2 ⟨rfl, hb⟩; exact ⟨_, rfl, (r6 _ _).mpr rfl, fun j v _ h => K j v _ _ h, hH.glob.trans (hb.mono hH.glob.size)⟩)⟩)) ?_
       refine RV.cc 7 (RV.dp (fun γ v L w hl h => h) (fun γ L a w hH hl hA => by have e0 := hH.got d6 r6 (hA ⟨6, .data⟩ (by simp) rfl); exact ⟨.int .i64 gg, by simp [execOp, go_sem, e0], (r7 _ _).mpr rfl⟩)) ?_
       exact RV.AllDo.nil
      ·intro γ a5 w5 L9 hL hLo hH
       have ha := RV.held_act hH hL (by kernel_rfl) (by kernel_rfl)
       have y7 : γ 7 = .int .i64 gg := hH.holds 7 (hL 7 (by decide))
       have hB5 : Hid _ := hH.glob
       rw [ha]
       clear ha hH hL hLo
       simp only [RV.putAll, Act.put, List.setIfInBounds_toArray, List.set_cons_zero, List.set_cons_succ, Nat.zero_add, Nat.reduceAdd]
       rw [y7]
       go_wp2_with (fail)
       go_meet
       case rel => exact ⟨rfl, hB5⟩
     case rest =>
      obtain ⟨rfl, hbx⟩ := hcut
      have HK : Hid _ := HK.out.step hbx.out
      have v0 := c_after hbx.out v0
      have v1 := c_after hbx.out v1
      have v2 := c_after hbx.out v2
      clear hbx x0 x1 x2 x3 y0 y1 y2 y3 CA CB HGX
      obtain ⟨c0, f0⟩ := HK.out.box 0 _ rfl
      obtain ⟨c1, f1⟩ := HK.out.box 1 _ rfl
      obtain ⟨c2, f2⟩ := HK.out.box 2 _ rfl
      obtain ⟨c3, f3⟩ := HK.out.box 3 _ rfl
      have HKP : Hid _ := HK.out.put (.int .i64 pe.x) (.int .i64 pe.y) (.int .i64 pe.z) (.int .i64 gg)
      by_cases hi0 : i = 0
      ·subst hi0
       rw [Nat.zero_mul, Nat.add_zero] at v0 v1 v2
       have HT1 : Hid (tb 1 = (pe, gg)) := by show _ = _; rw [HTX.out]; rfl
       clear HTX
       go_wp2_with (fail)
       go_roundg (Ls.length - 1)
       case measure => have := HG.out; omega
       case rel => exact ⟨1, rfl, by omega, rfl, by show AK _ _ _ _ _ _ _ _; rw [HT1.out]; exact HKP.out⟩
      ·by_cases hlg : tg < gg
       ·have HT1 : Hid (tb (i + 1) = (pe, gg)) := by show _ = _; rw [HTX.out, if_pos (Or.inr hlg)]
        clear HTX
        go_wp2_with (fail)
        go_roundg (Ls.length - (i + 1))
        case measure => have := HG.out; omega
        case rel => exact ⟨i + 1, by go_num, by omega, rfl, by show AK _ _ _ _ _ _ _ _; rw [HT1.out]; exact HKP.out⟩
       ·have HT1 : Hid (tb (i + 1) = (tp, tg)) := by show _ = _; rw [HTX.out, if_neg (by omega)]
        clear HTX HKP
        go_wp2_with (fail)
        go_roundg (Ls.length - (i + 1))
        case measure => have := HG.out; omega
        case rel => exact ⟨i + 1, by go_num, by omega, rfl, by show AK _ _ _ _ _ _ _ _; rw [HT1.out]; exact HK.out⟩
    ·obtain rfl : i = Ls.length := by omega
     obtain ⟨⟨tp, tg⟩, ht⟩ : ∃ x, tb Ls.length = x := ⟨_, rfl⟩
     rw [ht] at HV HK
     clear ht HTN
     dsimp only at HV HK
     obtain ⟨c0, _⟩ := HK.out.box 0 _ rfl
     obtain ⟨c1, _⟩ := HK.out.box 1 _ rfl
     obtain ⟨c2, _⟩ := HK.out.box 2 _ rfl
     obtain ⟨c3, _⟩ := HK.out.box 3 _ rfl
     have CR : Hid _ := (HK.out.fix _ HM3.out).2
     obtain ⟨z0, zf0⟩ := CR.out 0 _ rfl
     obtain ⟨z1, zf1⟩ := CR.out 1 _ rfl
     obtain ⟨z2, zf2⟩ := CR.out 2 _ rfl
     obtain ⟨z3, zf3⟩ := CR.out 3 _ rfl
     go_wp2_with (fail)
     exact bodyPost_ret (v := .tuple #[.agg #[.int .i64 tp.x, .int .i64 tp.y, .int .i64 tp.z, .int .i64 tg], .bool true]) (by simp [results, Try.results11, go_sem, z0, z1, z2, z3]) rfl ⟨by first | (rw [HV.out]; rfl) | (rw [HV.out, hm1'.out, hm2'.out]; rfl), ((((HK.out.below.setCell hrb0 _).setCell hrb0 _).setCell hrb0 _).setCell hrb0 _)⟩
end
section
open Go.RowKit Go.Shelf
theorem apartV_form (a b : Cr) : ∃ x y z g : Int, apartV a b = .agg #[.int .i64 x, .int .i64 y, .int .i64 z, .int .i64 g] := by
 unfold apartV
 split
 ·exact ⟨_, _, _, _, rfl⟩
 ·exact ⟨_, _, _, _, rfl⟩
theorem reachV_form (P : List Pt) (n : Pt) : ∃ lo hi : Int, reachV P n = .tuple #[.int .i64 lo, .int .i64 hi] := by
 unfold reachV
 cases reachOk P n
 ·exact ⟨_, _, rfl⟩
 ·exact ⟨_, _, rfl⟩
set_option maxHeartbeats 8000000 in
set_option maxRecDepth 100000 in
theorem ntells_any (P A E Q B Fl : List Pt) (r s : Int) (n : Pt) (va1 va2 va3 vb1 vb2 vb3 : Value) (w0 : World)
  (hP : Lies w0 va1 P) (hA : Lies w0 va2 A) (hE : Lies w0 va3 E) (hQ : Lies w0 vb1 Q) (hB : Lies w0 vb2 B) (hF : Lies w0 vb3 Fl)
  (lP : P.length < 140737488355328) (lA : A.length < 140737488355328) (lQ : Q.length < 140737488355328) (lB : B.length < 140737488355328) :
  Calls Try.prog 3 #[coreA va1 va2 va3 r, coreA vb1 vb2 vb3 s, n.v] w0 fun e W => e = .returned (.bool true) /\ Below w0.heap.size w0 W := by
 have AW : Hid _ := fun W => awake9_any W
 have H1 : Hid _ := fun (w' : World) (h : Below w0.heap.size w0 w') => napart_any P A E Q B Fl r s va1 va2 va3 vb1 vb2 vb3 w' (hP.below h) (hA.below h) (hE.below h) (hQ.below h) (hB.below h) (hF.below h)
 have H2 : Hid _ := fun (w' : World) (h : Below w0.heap.size w0 w') => rapart9_any P A E Q B Fl r s va1 va2 va3 vb1 vb2 vb3 w' (hP.below h) (hA.below h) (hE.below h) (hQ.below h) (hB.below h) (hF.below h)
 have H3 : Hid _ := fun (w' : World) => nsizes_any n w'
 have H4 : Hid _ := fun (w' : World) => rsizes9_any n w'
 have H5 : Hid _ := fun (w' : World) (h : Below w0.heap.size w0 w') => nreach_any ⟨P, A, E, r⟩ n va1 va2 va3 w' (hP.below h) (hA.below h) (hE.below h)
 have H6 : Hid _ := fun (w' : World) (h : Below w0.heap.size w0 w') => rreach9_any ⟨P, A, E, r⟩ n va1 va2 va3 w' (hP.below h) (hA.below h) (hE.below h)
 obtain ⟨tx, ty, tz, tg, e1⟩ := apartV_form ⟨P, A, E, r⟩ ⟨Q, B, Fl, s⟩
 obtain ⟨lo, hi, e2⟩ := reachV_form P n
 dsimp only at H5 H6
 rw [e1] at H1 H2
 rw [e2] at H5 H6
 generalize (mayC ⟨P, A, E, r⟩ && mayC ⟨Q, B, Fl, s⟩) = mm at *
 generalize dnT n = dd at *
 generalize upT n = uu at *
 clear e1 e2
 obtain ⟨o1, k1, rfl, _⟩ := hP.form
 obtain ⟨o2, k2, rfl, _⟩ := hA.form
 obtain ⟨o3, k3, rfl, _⟩ := hE.form
 obtain ⟨o4, k4, rfl, _⟩ := hQ.form
 obtain ⟨o5, k5, rfl, _⟩ := hB.form
 obtain ⟨o6, k6, rfl, _⟩ := hF.form
 clear hP hA hE hQ hB hF
 unfold coreA Pt.v at *
 try dsimp only at *
 obtain ⟨W1, hW1⟩ : ∃ V, V = ((w0.alloc (.cells #[.slice o1 P.length k1, .slice o2 A.length k2, .slice o3 E.length k3, .int .i64 r] 24)).alloc (.cells #[.slice o4 Q.length k4, .slice o5 B.length k5, .slice o6 Fl.length k6, .int .i64 s] 24)).alloc (.cells #[.int .i64 n.x, .int .i64 n.y, .int .i64 n.z] 26) := ⟨_, rfl⟩
 have c2 := Cel.two w0 [.slice o1 P.length k1, .slice o2 A.length k2, .slice o3 E.length k3, .int .i64 r] [.slice o4 Q.length k4, .slice o5 B.length k5, .slice o6 Fl.length k6, .int .i64 s] 24 24
 have n3 := Cel.new ((w0.alloc (.cells #[.slice o1 P.length k1, .slice o2 A.length k2, .slice o3 E.length k3, .int .i64 r] 24)).alloc (.cells #[.slice o4 Q.length k4, .slice o5 B.length k5, .slice o6 Fl.length k6, .int .i64 s] 24)) [.int .i64 n.x, .int .i64 n.y, .int .i64 n.z] 26
 rw [World.size_alloc, World.size_alloc] at n3
 have CA : Hid (Cel W1 w0.heap.size [.slice o1 P.length k1, .slice o2 A.length k2, .slice o3 E.length k3, .int .i64 r]) := by show Cel _ _ _; rw [hW1]; exact c2.1.step (n_after _ _)
 have CB : Hid (Cel W1 (w0.heap.size + 1) [.slice o4 Q.length k4, .slice o5 B.length k5, .slice o6 Fl.length k6, .int .i64 s]) := by show Cel _ _ _; rw [hW1]; exact c2.2.step (n_after _ _)
 have CN : Hid (Cel W1 (w0.heap.size + 1 + 1) [.int .i64 n.x, .int .i64 n.y, .int .i64 n.z]) := by show Cel _ _ _; rw [hW1]; exact n3
 have HB : Hid (Below w0.heap.size w0 W1) := by show Below _ _ _; rw [hW1]; exact b_step (b_step (n_after _ _) (n_after _ _)) (n_after _ _)
 clear c2 n3
 obtain ⟨ab, hab⟩ : ∃ b, b = w0.heap.size := ⟨_, rfl⟩
 obtain ⟨bb, hbb⟩ : ∃ b, b = w0.heap.size + 1 := ⟨_, rfl⟩
 obtain ⟨nb, hnb⟩ : ∃ b, b = w0.heap.size + 1 + 1 := ⟨_, rfl⟩
 rw [<- hnb] at CN
 rw [<- hbb] at CB
 rw [<- hab] at CA
 go_enter Try.func3, Try.ntmps3
 go_upto_region 1 with fail
 rw [<- hW1, <- hnb, <- hbb, <- hab]
 clear hW1 hab hbb hnb
 go_wp2_with (fail)
 refine Calls.mono (AW.out _) ?_
 rintro e V1 ⟨rfl, hb⟩
 have CA : Hid _ := Cel.step CA.out hb
 have CB : Hid _ := Cel.step CB.out hb
 have CN : Hid _ := Cel.step CN.out hb
 have HB : Hid _ := b_step HB.out hb
 clear hb AW
 have x0 := CA.out 0 _ rfl
 have x1 := CA.out 1 _ rfl
 have x2 := CA.out 2 _ rfl
 have y0 := CB.out 0 _ rfl
 have y1 := CB.out 1 _ rfl
 have y2 := CB.out 2 _ rfl
 obtain ⟨sp, hsp⟩ : ∃ z : Int, (P.length : Int) + (Q.length : Int) = z := ⟨_, rfl⟩
 obtain ⟨sa, hsa⟩ : ∃ z : Int, (A.length : Int) + (B.length : Int) = z := ⟨_, rfl⟩
 have w1 : IntKind.i64.wrap ((P.length : Int) + (Q.length : Int)) = sp := by rw [hsp, IntKind.wrap_i64]; omega
 have w2 : IntKind.i64.wrap ((A.length : Int) + (B.length : Int)) = sa := by rw [hsa, IntKind.wrap_i64]; omega
 clear hsp hsa lP lA lQ lB
 go_upto_region 2 with fail
 go_cut [50] from 21 to 49 (fun s50 wx => (∃ t, s50 = .bool t) /\ wx = V1)
 case first =>
  clear CA CB CN HB H1 H2 H3 H4 H5 H6
  by_cases c1 : 80 < sp
  ·go_wp2_with (fail)
   go_meet
   case rel => exact ⟨⟨_, rfl⟩, rfl⟩
  ·by_cases c2 : 150 < sa
   ·go_wp2_with (fail)
    go_meet
    case rel => exact ⟨⟨_, rfl⟩, rfl⟩
   ·by_cases c3 : 20 < (E.length : Int)
    ·go_wp2_with (fail)
     go_meet
     case rel => exact ⟨⟨_, rfl⟩, rfl⟩
    ·go_wp2_with (fail)
     go_meet
     case rel => exact ⟨⟨_, rfl⟩, rfl⟩
 case rest =>
  obtain ⟨⟨t, rfl⟩, e9⟩ := hcut
  rw [e9]
  clear e9 w1 w2 x0 x1 x2 y0 y1 y2
  cases t with
  | true =>
   go_wp2_with (fail)
   go_ret
   exact ⟨rfl, HB.out⟩
  | false =>
   have x0 := CA.out 0 _ rfl
   have x1 := CA.out 1 _ rfl
   have x2 := CA.out 2 _ rfl
   have x3 := CA.out 3 _ rfl
   have y0 := CB.out 0 _ rfl
   have y1 := CB.out 1 _ rfl
   have y2 := CB.out 2 _ rfl
   have y3 := CB.out 3 _ rfl
   go_wp2_with (fail)
   refine Calls.mono (H1.out _ HB.out) ?_
   rintro e V2 ⟨rfl, hb⟩
   have CA : Hid _ := Cel.step CA.out hb
   have CB : Hid _ := Cel.step CB.out hb
   have CN : Hid _ := Cel.step CN.out hb
   have HB : Hid _ := b_step HB.out hb
   clear hb x0 x1 x2 x3 y0 y1 y2 y3 H1
   obtain ⟨V3, hV3⟩ : ∃ V, V = V2.alloc (.cells #[.int .i64 tx, .int .i64 ty, .int .i64 tz, .int .i64 tg] 29) := ⟨_, rfl⟩
   obtain ⟨xb, hxb⟩ : ∃ b, b = V2.heap.size := ⟨_, rfl⟩
   have hb3 : Below V2.heap.size V2 V3 := by rw [hV3]; exact n_after _ _
   have CX : Hid (Cel V3 xb [.int .i64 tx, .int .i64 ty, .int .i64 tz, .int .i64 tg]) := by show Cel _ _ _; rw [hV3, hxb]; exact Cel.new _ _ _
   go_upto_region 5 with fail
   rw [<- hV3, <- hxb]
   have CA : Hid _ := Cel.step CA.out hb3
   have CB : Hid _ := Cel.step CB.out hb3
   have CN : Hid _ := Cel.step CN.out hb3
   have HB : Hid _ := b_step HB.out hb3
   clear hV3 hxb hb3
   have x0 := CA.out 0 _ rfl
   have x1 := CA.out 1 _ rfl
   have x2 := CA.out 2 _ rfl
   have x3 := CA.out 3 _ rfl
   have y0 := CB.out 0 _ rfl
   have y1 := CB.out 1 _ rfl
   have y2 := CB.out 2 _ rfl
   have y3 := CB.out 3 _ rfl
   go_wp2_with (fail)
   refine Calls.mono (H2.out _ HB.out) ?_
   rintro e V4 ⟨rfl, hb⟩
   have CA : Hid _ := Cel.step CA.out hb
   have CN : Hid _ := Cel.step CN.out hb
   have CX : Hid _ := Cel.step CX.out hb
   have HB : Hid _ := b_step HB.out hb
   clear hb x0 x1 x2 x3 y0 y1 y2 y3 H2 CB
   obtain ⟨V5, hV5⟩ : ∃ V, V = V4.alloc (.cells #[.int .i64 tx, .int .i64 ty, .int .i64 tz, .int .i64 tg] 29) := ⟨_, rfl⟩
   obtain ⟨yb, hyb⟩ : ∃ b, b = V4.heap.size := ⟨_, rfl⟩
   have hb3 : Below V4.heap.size V4 V5 := by rw [hV5]; exact n_after _ _
   have CY : Hid (Cel V5 yb [.int .i64 tx, .int .i64 ty, .int .i64 tz, .int .i64 tg]) := by show Cel _ _ _; rw [hV5, hyb]; exact Cel.new _ _ _
   go_upto_region 6 with fail
   rw [<- hV5, <- hyb]
   have CA : Hid _ := Cel.step CA.out hb3
   have CN : Hid _ := Cel.step CN.out hb3
   have CX : Hid _ := Cel.step CX.out hb3
   have HB : Hid _ := b_step HB.out hb3
   clear hV5 hyb hb3
   have u0 := CN.out 0 _ rfl
   have u1 := CN.out 1 _ rfl
   have u2 := CN.out 2 _ rfl
   go_wp2_with (fail)
   refine Calls.mono (H3.out _) ?_
   rintro e Y0 ⟨rfl, hb⟩
   have CA : Hid _ := Cel.step CA.out hb
   have CN : Hid _ := Cel.step CN.out hb
   have CX : Hid _ := Cel.step CX.out hb
   have CY : Hid _ := Cel.step CY.out hb
   have HB : Hid _ := b_step HB.out hb
   clear hb u0 u1 u2  H3
   have u0 := CN.out 0 _ rfl
   have u1 := CN.out 1 _ rfl
   have u2 := CN.out 2 _ rfl
   go_wp2_with (fail)
   refine Calls.mono (H4.out _) ?_
   rintro e Y1 ⟨rfl, hb⟩
   have CA : Hid _ := Cel.step CA.out hb
   have CN : Hid _ := Cel.step CN.out hb
   have CX : Hid _ := Cel.step CX.out hb
   have CY : Hid _ := Cel.step CY.out hb
   have HB : Hid _ := b_step HB.out hb
   clear hb u0 u1 u2  H4
   have u0 := CN.out 0 _ rfl
   have u1 := CN.out 1 _ rfl
   have u2 := CN.out 2 _ rfl
   have x0 := CA.out 0 _ rfl
   have x1 := CA.out 1 _ rfl
   have x2 := CA.out 2 _ rfl
   have x3 := CA.out 3 _ rfl
   go_wp2_with (fail)
   refine Calls.mono (H5.out _ HB.out) ?_
   rintro e Y2 ⟨rfl, hb⟩
   have CA : Hid _ := Cel.step CA.out hb
   have CN : Hid _ := Cel.step CN.out hb
   have CX : Hid _ := Cel.step CX.out hb
   have CY : Hid _ := Cel.step CY.out hb
   have HB : Hid _ := b_step HB.out hb
   clear hb u0 u1 u2 x0 x1 x2 x3 H5
   have u0 := CN.out 0 _ rfl
   have u1 := CN.out 1 _ rfl
   have u2 := CN.out 2 _ rfl
   have x0 := CA.out 0 _ rfl
   have x1 := CA.out 1 _ rfl
   have x2 := CA.out 2 _ rfl
   have x3 := CA.out 3 _ rfl
   go_wp2_with (fail)
   refine Calls.mono (H6.out _ HB.out) ?_
   rintro e Y3 ⟨rfl, hb⟩
   have CA : Hid _ := Cel.step CA.out hb
   have CN : Hid _ := Cel.step CN.out hb
   have CX : Hid _ := Cel.step CX.out hb
   have CY : Hid _ := Cel.step CY.out hb
   have HB : Hid _ := b_step HB.out hb
   clear hb u0 u1 u2 x0 x1 x2 x3 H6
   have x0 := CX.out 0 _ rfl
   have x1 := CX.out 1 _ rfl
   have x2 := CX.out 2 _ rfl
   have x3 := CX.out 3 _ rfl
   have y0 := CY.out 0 _ rfl
   have y1 := CY.out 1 _ rfl
   have y2 := CY.out 2 _ rfl
   have y3 := CY.out 3 _ rfl
   go_wp2_with (fail)
   go_ret
   exact ⟨rfl, HB.out⟩
end
section
open Go.RowKit
def Tidy2 : List Oper -> Nat -> Bool
 | [], _ => true
 | o :: rest, n => (o.after.all fun e => !(Region.binds .any e) || decide (e.on < n)) && Tidy2 rest (n + 1)
theorem tidy2_at : ∀ (l : List Oper) (n i : Nat) (o : Oper), Tidy2 l n = true -> l[i]? = some o -> ∀ e ∈ o.after, Region.binds .any e = true -> e.on < n + i
 | [], _, _, _, _, h => by simp at h
 | x :: rest, n, 0, o, ht, h => by
  simp only [Tidy2, Bool.and_eq_true] at ht
  simp only [List.getElem?_cons_zero, Option.some.injEq] at h
  subst h
  intro e he hb
  have := (Array.all_eq_true_iff_forall_mem.1 ht.1) e he
  rw [hb] at this
  simpa using this
 | x :: rest, n, i + 1, o, ht, h => by
  simp only [Tidy2, Bool.and_eq_true] at ht
  intro e he hb
  have := tidy2_at rest (n + 1) i o ht.2 (by simpa using h) e he hb
  omega
theorem all_listed2 {ops : Array Oper} {listed : Array Bool} (ht : Tidy2 ops.toList 0 = true) (hr : Region.ready .any ops listed = []) (hs : listed.size = ops.size) : ∀ i, i < ops.size -> listed.getD i false = true := by
 intro i
 induction i using Nat.strongRecOn with
 | _ i ih =>
  intro hi
  cases hl : listed.getD i false with
  | true => rfl
  | false =>
   exfalso
   have ho : ops[i]? = some ops[i] := Array.getElem?_eq_getElem hi
   have hmem : i ∈ Region.ready .any ops listed := by
    refine mem_ready.2 ⟨?_, ops[i], ho, fun e he hb => ?_⟩
    ·have : i < listed.size := by omega
     simp [this] at hl ⊢; exact hl
    ·have := tidy2_at ops.toList 0 i ops[i] ht (by simp [hi]) e he hb
     exact ih e.on (by omega) (by omega)
   rw [hr] at hmem
   simp at hmem
namespace RV
section
variable {P : Program} {ops : Array Oper} {Q : Exit -> Act -> World -> Prop}
theorem region_by2 {id : Nat} {a₀ : Act} {w : World} (R : Nat -> Value -> World -> Prop) (G : (Nat -> Value) -> (Nat -> Bool) -> World -> Prop) (hm : P.follows .mixedOrders = true)
  (ht : Tidy2 ops.toList 0 = true) (hn : Once ops.toList = true) (hfit : Fits ops.toList a₀.tmps.size = true)
  (h0 : G (fun _ => undef) (fun _ => false) w.drew) (hall : AllDo P Q (dstOf ops) (waitsFor ops) R G a₀ ops.toList 0)
  (hq : ∀ (γ : Nat -> Value) (a : Act) (w : World) (L : Nat -> Bool), (∀ j, j < ops.size -> L j = true) -> (∀ j, ops.size <= j -> L j = false) -> Held (dstOf ops) (waitsFor ops) R G a₀ γ L a w -> Q .normal a w) :
  (Code.region id ops true).wp P Q a₀ w := by
 refine wp_region_any hm (wpAny_by (fun listed a w => ∃ γ, Held (dstOf ops) (waitsFor ops) R G a₀ γ (fun j => listed.getD j false) a w) ?_ ?_ _ _ _ _ (by simp) (by simp) ?_)
 ·intro listed a w i hs hi hI
  obtain ⟨γ, hI⟩ := hI
  obtain ⟨hl, o, ho, hafter⟩ := mem_ready.1 hi
  have hlt : i < listed.size := by rw [hs]; exact (Array.getElem?_eq_some_iff.1 ho).1
  have hl' : listed.getD i false = false := by simp [hlt] at hl ⊢; exact hl
  have hd := allDo_at ops.toList 0 i o hall (by simpa using ho)
  rw [Nat.zero_add] at hd
  have hstep := hd γ _ a w hI hl' hafter
  have hdst : dstOf ops i = o.dst := by simp [dstOf, ho]
  suffices hmain : ∀ (a' : Act) (w' : World), (∃ v, a' = a.put o.dst v /\ R i v w' /\ (∀ j v, listed.getD j false = true -> R j v w -> R j v w') /\ G (upd γ i v) (more (fun j => listed.getD j false) i) w') ->
    ∃ γ, Held (dstOf ops) (waitsFor ops) R G a₀ γ (fun j => (listed.setIfInBounds i true).getD j false) a' w' by
   unfold wpOp
   simp only [ho]
   cases hw : Region.wanted o (yielded ops a.tmps)
   ·rw [wantedD_eq] at hw
    obtain ⟨s1, s2⟩ := hstep.2 hw
    simp only [Bool.false_eq_true, if_false]
    exact hmain _ _ ⟨undef, rfl, s1, fun _ _ _ h => h, s2⟩
   ·rw [wantedD_eq] at hw
    simp only [if_true]
    exact .inl (Oper.wp_mono hmain (hstep.1 hw))
  rintro a' w' ⟨v, rfl, hR, hkeep, hG⟩
  have hset : (fun j => (listed.setIfInBounds i true).getD j false) = more (fun j => listed.getD j false) i := by
   funext j
   unfold more
   by_cases e : j = i
   ·subst e; simp [hlt]
   ·rw [getD_set_ne false (Ne.symm e)]; simp [e]
  refine ⟨upd γ i v, ?_⟩
  rw [hset]
  refine ⟨?_, ?_, ?_, ?_, ?_, ?_, hG⟩
  ·cases hd : o.dst <;> simp [Act.put, hI.defers]
  ·cases hd : o.dst <;> simp [Act.put, hI.size]
  ·intro j t hdt hlj
   by_cases e : j = i
   ·subst e
    rw [hdst] at hdt
    have hfit' : t < a₀.tmps.size := by
     have := (List.all_eq_true.1 hfit) o (List.mem_of_getElem? (by simpa using ho))
     simpa [hdt] using this
    simp [Act.put, hdt, hI.size, hfit', upd]
   ·have hlj' : listed.getD j false = true := by simpa [more, e] using hlj
    have hu := hI.slot j t hdt hlj'
    rw [upd_ne _ _ e, <- hu]
    cases hd : o.dst with
    | none => simp [Act.put]
    | some d =>
     have hne : d ≠ t := fun e' => e (dst_once hn hdt (by rw [hdst, hd, e']))
     simp only [Act.put]
     rw [Array.getElem?_setIfInBounds_ne hne]
  ·intro j hlj
   by_cases e : j = i
   ·subst e; rw [upd_self]; exact hR
   ·have hlj' : listed.getD j false = true := by simpa [more, e] using hlj
    rw [upd_ne _ _ e]
    exact hkeep j _ hlj' (hI.holds j hlj')
  ·intro t hno
   have hno' : ∀ j, dstOf ops j = some t -> listed.getD j false = false := fun j e => by
    have := hno j e
    by_cases h : j = i
    ·subst h; exact hl'
    ·simpa [more, h] using this
   rw [<- hI.early t hno']
   cases hd : o.dst with
   | none => simp [Act.put]
   | some d =>
    have hne : d ≠ t := fun e' => by have := hno i (by rw [hdst, hd, e']); simp [more] at this
    simp only [Act.put]
    rw [Array.getElem?_setIfInBounds_ne hne]
  ·intro j e hA hj
   by_cases h : j = i
   ·subst h
    obtain ⟨o', ho', x, hx, hb, rfl⟩ := hA
    obtain rfl : o = o' := by rw [ho] at ho'; exact Option.some.inj ho'
    have := hafter x hx hb
    simp only [more, this, Bool.or_true]
   ·have := hI.closed j e hA (by simpa [more, h] using hj)
    simp only [more, this, Bool.or_true]
 ·rintro listed a w hs hr ⟨γ, hI⟩
  exact hq γ a w _ (all_listed2 ht hr hs) (fun j hj => by have h9 : ¬ j < listed.size := (by omega); simp [h9]) hI
 ·refine ⟨fun _ => undef, rfl, rfl, fun j t hd hl => ?_, fun j hl => ?_, fun _ _ => rfl, fun j e _ hj => ?_, ?_⟩
  ·exfalso
   by_cases e : j < ops.size <;> simp [e] at hl
  ·exfalso
   by_cases e : j < ops.size <;> simp [e] at hl
  ·exfalso
   by_cases e : j < ops.size <;> simp [e] at hj
  ·have : (fun j => (Array.replicate ops.size false).getD j false) = (fun _ => false) := by
    funext j
    by_cases e : j < ops.size <;> simp [e]
   rw [this]; exact h0
end
end RV
end
end Go.Proofs.Ytccdgpijjgeedaa
