/- Package sweep: Trail. -/
import Derived.Test.YtbhdfjoagajipaaGreatBBW0
import Derived.Test.YtbhdfjoagajipaaGreatBBW8
import Derived.Test.YtbhdfjoagajipaaGreatBBW6
import Derived.RangeFuncNested
import Derived.RangeFuncBound
import Derived.RangeFuncCalls
import Derived.RangeFuncLeaves
import Derived.RangeFuncBox
import Derived.Shelf.Abstract
import Derived.WalkKit
import Derived.OwnWalkIn
import Derived.TacticsInMore
import Derived.LoopNIn
import Derived.LoopIn
import Derived.LoopTactic
import Derived.ProofKit
import Derived.Handy
import Derived.Test.YtbhdfjoagajipaaGreatProg
import Derived.Test.YtbhdfjoagajipaaGreatBBW7
import Derived.Deep.MidRow
import Derived.Test.YtbhdfjoagajipaaGreatBBW5
import Derived.Deep.Onto
import Derived.Test.YtbhdfjoagajipaaGreatBBW1
namespace Go.Proofs.YtbhdfjoagajipaaGreat
open Go.RowKit Go.Shelf
set_option linter.unusedVariables false

/-- Three lists that lie, of a core that was made. -/
structure Tri (w0 W : World) (vp va ve : Value) (P A E : List Pt) : Prop where
  rp : W.ownsRow w0.heap.size 23 3 vp P.length (fl3 P)
  ra : W.ownsRow w0.heap.size 23 3 va A.length (fl3 A)
  re : W.ownsRow w0.heap.size 23 3 ve E.length (fl3 E)
  below : Below w0.heap.size w0 W
theorem trail_far {w : World} {base n b : Nat} {t : TypeId} {v : Value} {xs : List Value} {sz : Nat} (h : w.ownsRow base t sz v n xs) (hb : b < base) : v.ownBlock ≠ some b := fun e => by have := (h.lt b e).1; omega
theorem trail_cel {W : World} {b c : Nat} {vs : List Value} (h : Cel W b vs) (hne : b ≠ c) (v0 v1 v2 v3 : Value) : Cel (set4 W c v0 v1 v2 v3) b vs := fun i v e => by
  have := h i v e
  unfold set4
  simp [go_sem, this]
theorem trail_yes {a : Cr} {w : Pt} {k : Int} (h : goB a w = true) (hk : 0 ≤ k ∧ k ≤ 16) : trailC a w k = ⟨a.P ++ a.P.map (·.mov (wayBy w k)), keepD (a.A ++ a.E.map (fun e => (e.cross w.short).short)), keepD (a.E ++ [w.short]), a.r⟩ := by unfold trailC; rw [h, decide_eq_true hk]; rfl
theorem trail_no {a : Cr} {w : Pt} {k : Int} (h : ¬ (goB a w = true ∧ 0 ≤ k ∧ k ≤ 16)) : trailC a w k = nilC := by
  unfold trailC
  rw [if_neg]
  simp only [Bool.and_eq_true, decide_eq_true_eq]
  exact h

set_option maxHeartbeats 16000000 in
set_option maxRecDepth 100000 in
theorem wtrail_any (c : Cr) (wy : Pt) (k : Int) (pv av ev : Value) (w0 : World) (hp : Lies w0 pv c.P) (ha : Lies w0 av c.A) (he : Lies w0 ev c.E) :
    Calls Tryz.prog 25 #[coreA pv av ev c.r, wy.v, .int .i64 k] w0 fun e W => ∃ vp va ve, e = .returned (coreA vp va ve (trailC c wy k).r) ∧ Tri w0 W vp va ve (trailC c wy k).P (trailC c wy k).A (trailC c wy k).E := by
  have HGO : Hid _ := fun (w' : World) (h : Below w0.heap.size w0 w') => wgo_any c wy pv av ev w' (hp.below h) (ha.below h) (he.below h)
  have HBT : Hid _ := fun w' => wbetween_any k 0 16 w'
  have HSH : Hid _ := fun w' => short_any wy w'
  have HYES : Hid _ := fun (h : goB c wy = true) (hk : 0 ≤ k ∧ k ≤ 16) => trail_yes h hk
  have HNO : Hid _ := fun (h : ¬ (goB c wy = true ∧ 0 ≤ k ∧ k ≤ 16)) => trail_no h
  have HFA : Hid _ := fun (h : goB c wy = true) => go_parts h
  have HLN : Hid (goB c wy = true → c.A.length ≤ 128 ∧ c.E.length ≤ 128) := fun h => by
    have h9 := (go_parts h).1
    unfold mayC at h9
    simp only [Bool.and_eq_true, decide_eq_true_eq] at h9
    exact ⟨by omega, by omega⟩
  have LP : Hid _ := hp
  have LA : Hid _ := ha
  have LE : Hid _ := he
  obtain ⟨P, A, E, r⟩ := c
  dsimp only at *
  obtain ⟨o, cap, rfl, hlc, hcm, _⟩ := hp.form
  obtain ⟨o2, cap2, rfl, _, _, _⟩ := ha.form
  obtain ⟨o3, cap3, rfl, _, _, _⟩ := he.form
  clear hp ha he hlc hcm
  obtain ⟨TC, hTC⟩ : ∃ x, trailC ⟨P, A, E, r⟩ wy k = x := ⟨_, rfl⟩
  rw [hTC] at HYES HNO ⊢
  obtain ⟨gb, hgb⟩ : ∃ x, goB ⟨P, A, E, r⟩ wy = x := ⟨_, rfl⟩
  rw [hgb] at HGO HYES HNO HFA HLN
  have w_k : ∀ x, decide (0 ≤ k ∧ k ≤ 16) = x → (x = true ↔ 0 ≤ k ∧ k ≤ 16) := fun x e => by rw [← e]; simp
  obtain ⟨kb, hkb⟩ : ∃ x, decide (0 ≤ k ∧ k ≤ 16) = x := ⟨_, rfl⟩
  have HKB : Hid _ := w_k kb hkb
  rw [hkb] at HBT
  clear hTC hgb w_k hkb
  obtain ⟨wx, wY, wz⟩ := wy
  unfold coreA Pt.v at *
  dsimp only at *
  obtain ⟨X0, hX0⟩ : ∃ V, V = ((w0.alloc (.cells #[.slice o P.length cap, .slice o2 A.length cap2, .slice o3 E.length cap3, .int .i64 r] 35)).alloc (.cells #[.int .i64 wx, .int .i64 wY, .int .i64 wz] 23)).alloc (.cells #[.slice none 0 0, .slice none 0 0, .slice none 0 0, .int .i64 0] 35) := ⟨_, rfl⟩
  obtain ⟨ab, hab⟩ : ∃ b, b = w0.heap.size := ⟨_, rfl⟩
  obtain ⟨wb, hwb⟩ : ∃ b, b = w0.heap.size + 1 := ⟨_, rfl⟩
  obtain ⟨rb, hrb⟩ : ∃ b, b = w0.heap.size + 1 + 1 := ⟨_, rfl⟩
  have n2 := Cel.new (w0.alloc (.cells #[.slice o P.length cap, .slice o2 A.length cap2, .slice o3 E.length cap3, .int .i64 r] 35)) [.int .i64 wx, .int .i64 wY, .int .i64 wz] 23
  rw [World.size_alloc] at n2
  have n3 := CelW.new ((w0.alloc (.cells #[.slice o P.length cap, .slice o2 A.length cap2, .slice o3 E.length cap3, .int .i64 r] 35)).alloc (.cells #[.int .i64 wx, .int .i64 wY, .int .i64 wz] 23)) [.slice none 0 0, .slice none 0 0, .slice none 0 0, .int .i64 0] 35
  rw [World.size_alloc, World.size_alloc] at n3
  have CA : Hid (Cel X0 ab [.slice o P.length cap, .slice o2 A.length cap2, .slice o3 E.length cap3, .int .i64 r]) := by show Cel _ _ _; rw [hX0, hab]; exact ((Cel.new w0 [.slice o P.length cap, .slice o2 A.length cap2, .slice o3 E.length cap3, .int .i64 r] 35).step (n_after _ _)).step (n_after _ _)
  have CW : Hid (Cel X0 wb [.int .i64 wx, .int .i64 wY, .int .i64 wz]) := by show Cel _ _ _; rw [hX0, hwb]; exact n2.step (n_after _ _)
  have CR : Hid (CelW X0 rb [.slice none 0 0, .slice none 0 0, .slice none 0 0, .int .i64 0]) := by show CelW _ _ _; rw [hX0, hrb]; exact n3
  have HXB : Hid (Below w0.heap.size w0 X0) := by show Below _ _ _; rw [hX0]; exact b_step (b_step (n_after _ _) (n_after _ _)) (n_after _ _)
  have HR0 : Hid (w0.heap.size ≤ rb) := by show _ ≤ _; omega
  clear n2 n3
  go_enter Tryz.func25, Tryz.ntmps25
  go_upto_region 1 with fail
  rw [← hX0, ← hrb, ← hwb, ← hab]
  clear hX0 hab hwb hrb
  have x0 := CA.out 0 _ rfl
  have x1 := CA.out 1 _ rfl
  have x2 := CA.out 2 _ rfl
  have x3 := CA.out 3 _ rfl
  have y0 := CW.out 0 _ rfl
  have y1 := CW.out 1 _ rfl
  have y2 := CW.out 2 _ rfl
  go_wp2_with (fail)
  refine Calls.mono (HGO.out _ HXB.out) ?_
  rintro e V1 ⟨rfl, hb⟩
  have CA : Hid (Cel _ _ _) := CA.out.step hb
  have CW : Hid (Cel _ _ _) := CW.out.step hb
  have CR : Hid (CelW _ _ _) := CR.out.step hb
  have HXB : Hid _ := b_step HXB.out hb
  clear hb x0 x1 x2 x3 y0 y1 y2 HGO
  by_cases hgk : gb = true ∧ kb = true
  · obtain ⟨rfl, rfl⟩ := hgk
    have hk := HKB.out.1 rfl
    have e1 := HYES.out rfl hk
    have HRC : Hid (TC.r = r) := by show _ = _; rw [e1]
    obtain ⟨f1, f2, f3, f4, f5, f6⟩ := HFA.out rfl
    obtain ⟨f7, f8⟩ := HLN.out rfl
    have hbi := wayBy_in f3 hk
    have HPA : Hid _ := fun w' => wpart_any ⟨wx, wY, wz⟩ k w' f3 hk
    have HMV : Hid _ := fun (w' : World) (h : Below w0.heap.size w0 w') => wmoved_any P (wayBy ⟨wx, wY, wz⟩ k) _ w' (LP.out.below h) (fun p hp => inB_mono (f4 p hp) (by decide)) (inB_mono hbi (by decide)) (by omega)
    have HCC : Hid _ := fun (v2 : Value) (g : Nat) (w' : World) (h : Below w0.heap.size w0 w') (hl : Lies w' v2 (P.map (·.mov (wayBy ⟨wx, wY, wz⟩ k)))) (hc : Cel w' g [.slice o P.length cap, v2]) => wconcat_any P _ _ v2 g w' (LP.out.below h) hl hc (by rw [List.length_map]; omega)
    have HAC : Hid _ := fun (w' : World) (h : Below w0.heap.size w0 w') => wacross_any E (Pt.short ⟨wx, wY, wz⟩) _ w' (LE.out.below h) f6 (short_in _) (by omega)
    have HD1 : Hid _ := fun (v2 : Value) (w' : World) (h : Below w0.heap.size w0 w') (hl : Lies w' v2 (E.map (fun e => (e.cross (Pt.short ⟨wx, wY, wz⟩)).short))) => wdirs_any A _ _ v2 w' (LA.out.below h) hl (by rw [List.length_map]; omega)
    have HD2 : Hid _ := fun (v2 : Value) (w' : World) (h : Below w0.heap.size w0 w') (hl : Lies w' v2 [Pt.short ⟨wx, wY, wz⟩]) => wdirs_any E _ _ v2 w' (LE.out.below h) hl (by simp; omega)
    clear f1 f2 f3 f4 f5 f6 f7 f8 hbi hk HYES HNO HFA HLN HKB LP LA LE
    obtain ⟨TP, hTP⟩ : ∃ x, P ++ P.map (·.mov (wayBy ⟨wx, wY, wz⟩ k)) = x := ⟨_, rfl⟩
    obtain ⟨TA, hTA⟩ : ∃ x, keepD (A ++ E.map (fun e => (e.cross (Pt.short ⟨wx, wY, wz⟩)).short)) = x := ⟨_, rfl⟩
    obtain ⟨TE, hTE⟩ : ∃ x, keepD (E ++ [Pt.short ⟨wx, wY, wz⟩]) = x := ⟨_, rfl⟩
    have HFT : Hid (∀ W vp va ve, Tri w0 W vp va ve TP TA TE → Tri w0 W vp va ve TC.P TC.A TC.E) := fun W vp va ve h => by rw [e1]; dsimp only; rw [hTP, hTA, hTE]; exact h
    rw [hTP] at HCC
    rw [hTA] at HD1
    rw [hTE] at HD2
    obtain ⟨MV, hMV⟩ : ∃ x, P.map (·.mov (wayBy ⟨wx, wY, wz⟩ k)) = x := ⟨_, rfl⟩
    obtain ⟨AC, hAC⟩ : ∃ x, E.map (fun e => (e.cross (Pt.short ⟨wx, wY, wz⟩)).short) = x := ⟨_, rfl⟩
    rw [hMV] at HCC HMV
    rw [hAC] at HAC HD1
    clear hTP hTA hTE hMV hAC e1
    obtain ⟨⟨bx, bY, bz⟩, hby⟩ : ∃ x, wayBy ⟨wx, wY, wz⟩ k = x := ⟨_, rfl⟩
    obtain ⟨⟨lx, ly, lz⟩, hls⟩ : ∃ x, Pt.short ⟨wx, wY, wz⟩ = x := ⟨_, rfl⟩
    rw [hby] at HPA HMV
    rw [hls] at HAC HD2 HSH
    obtain ⟨LL, hLL⟩ : ∃ x, ([⟨lx, ly, lz⟩] : List Pt) = x := ⟨_, rfl⟩
    rw [hLL] at HD2
    have HLL : Hid (LL = [⟨lx, ly, lz⟩]) := hLL.symm
    clear hby hls hLL
    unfold Pt.v at *
    dsimp only at *
    go_wp2_with (fail)
    refine Calls.mono (HBT.out _) ?_
    rintro e V2 ⟨rfl, rfl⟩
    have y0 := CW.out 0 _ rfl
    have y1 := CW.out 1 _ rfl
    have y2 := CW.out 2 _ rfl
    go_wp2_with (fail)
    refine Calls.mono (HSH.out _) ?_
    rintro e V3 ⟨rfl, hb⟩
    have CA : Hid (Cel _ _ _) := CA.out.step hb
    have CW : Hid (Cel _ _ _) := CW.out.step hb
    have CR : Hid (CelW _ _ _) := CR.out.step hb
    have HXB : Hid _ := b_step HXB.out hb
    clear hb y0 y1 y2 HSH HBT
    obtain ⟨X, hX⟩ : ∃ V, V = V3.alloc (.cells #[.int .i64 lx, .int .i64 ly, .int .i64 lz] 23) := ⟨_, rfl⟩
    obtain ⟨lb, hlb⟩ : ∃ b, b = V3.heap.size := ⟨_, rfl⟩
    have hbx : Below V3.heap.size V3 X := by rw [hX]; exact n_after _ _
    have CL : Hid (Cel X lb [.int .i64 lx, .int .i64 ly, .int .i64 lz]) := by show Cel _ _ _; rw [hX, hlb]; exact Cel.new V3 [.int .i64 lx, .int .i64 ly, .int .i64 lz] _
    go_upto_region 4 with fail
    rw [← hX, ← hlb]
    have CA : Hid (Cel _ _ _) := CA.out.step hbx
    have CW : Hid (Cel _ _ _) := CW.out.step hbx
    have CR : Hid (CelW _ _ _) := CR.out.step hbx
    have HXB : Hid _ := b_step HXB.out hbx
    have HRB : Hid (rb < X.heap.size) := CR.out.lt
    have HMV : Hid _ := fun (w' : World) (h : Below X.heap.size X w') => HMV.out w' (b_step HXB.out h)
    have HCC : Hid _ := fun (v2 : Value) (g : Nat) (w' : World) (h : Below X.heap.size X w') => HCC.out v2 g w' (b_step HXB.out h)
    have HAC : Hid _ := fun (w' : World) (h : Below X.heap.size X w') => HAC.out w' (b_step HXB.out h)
    have HD1 : Hid _ := fun (v2 : Value) (w' : World) (h : Below X.heap.size X w') => HD1.out v2 w' (b_step HXB.out h)
    have HD2 : Hid _ := fun (v2 : Value) (w' : World) (h : Below X.heap.size X w') => HD2.out v2 w' (b_step HXB.out h)
    clear hX hlb hbx
    refine RV.region_by (fun j v w => match j with | 0 => v = .pointer (some ⟨ab, 0, none⟩) | 1 => v = .slice o P.length cap | 2 => v = .pointer (some ⟨ab, 0, none⟩) | 3 => v = .slice o P.length cap | 4 => v = .agg #[.int .i64 wx, .int .i64 wY, .int .i64 wz] | 5 => v = .int .i64 k | 6 => v = .agg #[.int .i64 bx, .int .i64 bY, .int .i64 bz] | 7 => (fun v w => w.ownsRow X.heap.size 23 3 v MV.length (fl3 MV)) v w | 8 => (fun v w => ∃ g v2, v = .slice (some ⟨g, 0, none⟩) 2 2 ∧ X.heap.size ≤ g ∧ Cel w g [.slice o P.length cap, v2] ∧ w.ownsRow X.heap.size 23 3 v2 MV.length (fl3 MV)) v w | 9 => (fun v w => w.ownsRow X.heap.size 23 3 v TP.length (fl3 TP)) v w | 10 => v = .pointer (some ⟨ab, 1, none⟩) | 11 => v = .slice o2 A.length cap2 | 12 => v = .pointer (some ⟨ab, 2, none⟩) | 13 => v = .slice o3 E.length cap3 | 14 => v = .agg #[.int .i64 lx, .int .i64 ly, .int .i64 lz] | 15 => (fun v w => w.ownsRow X.heap.size 23 3 v AC.length (fl3 AC)) v w | 16 => (fun v w => w.ownsRow X.heap.size 23 3 v TA.length (fl3 TA)) v w | 17 => v = .pointer (some ⟨ab, 2, none⟩) | 18 => v = .slice o3 E.length cap3 | 19 => v = .agg #[.int .i64 lx, .int .i64 ly, .int .i64 lz] | 20 => (fun v w => w.ownsRow X.heap.size 23 3 v LL.length (fl3 LL)) v w | 21 => (fun v w => w.ownsRow X.heap.size 23 3 v TE.length (fl3 TE)) v w | 22 => v = .pointer (some ⟨ab, 3, none⟩) | 23 => v = .int .i64 r | 24 => (fun v w => ∃ vp va ve, v = .agg #[vp, va, ve, .int .i64 r] ∧ w.ownsRow X.heap.size 23 3 vp TP.length (fl3 TP) ∧ w.ownsRow X.heap.size 23 3 va TA.length (fl3 TA) ∧ w.ownsRow X.heap.size 23 3 ve TE.length (fl3 TE)) v w | 25 => True | _ => True) (fun γ L w => (L 25 = false ∧ Below X.heap.size X w) ∨ (L 25 = true ∧ ∃ w8 vp va ve, Below X.heap.size X w8 ∧ w8.ownsRow X.heap.size 23 3 vp TP.length (fl3 TP) ∧ w8.ownsRow X.heap.size 23 3 va TA.length (fl3 TA) ∧ w8.ownsRow X.heap.size 23 3 ve TE.length (fl3 TE) ∧ w = set4 w8 rb vp va ve (.int .i64 r))) (by kernel_rfl) (by kernel_rfl) (by kernel_rfl) (by kernel_rfl) ?_ ?_ ?_
    · exact Or.inl ⟨rfl, (Below.refl _ X).drew⟩
    · generalize hD : dstOf _ = D
      generalize hWA : waitsFor _ = WA
      generalize hZ : Act.mk _ _ = Z
      obtain ⟨R, hR⟩ : ∃ R : Nat → Value → World → Prop, R = (fun j v w => match j with | 0 => v = .pointer (some ⟨ab, 0, none⟩) | 1 => v = .slice o P.length cap | 2 => v = .pointer (some ⟨ab, 0, none⟩) | 3 => v = .slice o P.length cap | 4 => v = .agg #[.int .i64 wx, .int .i64 wY, .int .i64 wz] | 5 => v = .int .i64 k | 6 => v = .agg #[.int .i64 bx, .int .i64 bY, .int .i64 bz] | 7 => (fun v w => w.ownsRow X.heap.size 23 3 v MV.length (fl3 MV)) v w | 8 => (fun v w => ∃ g v2, v = .slice (some ⟨g, 0, none⟩) 2 2 ∧ X.heap.size ≤ g ∧ Cel w g [.slice o P.length cap, v2] ∧ w.ownsRow X.heap.size 23 3 v2 MV.length (fl3 MV)) v w | 9 => (fun v w => w.ownsRow X.heap.size 23 3 v TP.length (fl3 TP)) v w | 10 => v = .pointer (some ⟨ab, 1, none⟩) | 11 => v = .slice o2 A.length cap2 | 12 => v = .pointer (some ⟨ab, 2, none⟩) | 13 => v = .slice o3 E.length cap3 | 14 => v = .agg #[.int .i64 lx, .int .i64 ly, .int .i64 lz] | 15 => (fun v w => w.ownsRow X.heap.size 23 3 v AC.length (fl3 AC)) v w | 16 => (fun v w => w.ownsRow X.heap.size 23 3 v TA.length (fl3 TA)) v w | 17 => v = .pointer (some ⟨ab, 2, none⟩) | 18 => v = .slice o3 E.length cap3 | 19 => v = .agg #[.int .i64 lx, .int .i64 ly, .int .i64 lz] | 20 => (fun v w => w.ownsRow X.heap.size 23 3 v LL.length (fl3 LL)) v w | 21 => (fun v w => w.ownsRow X.heap.size 23 3 v TE.length (fl3 TE)) v w | 22 => v = .pointer (some ⟨ab, 3, none⟩) | 23 => v = .int .i64 r | 24 => (fun v w => ∃ vp va ve, v = .agg #[vp, va, ve, .int .i64 r] ∧ w.ownsRow X.heap.size 23 3 vp TP.length (fl3 TP) ∧ w.ownsRow X.heap.size 23 3 va TA.length (fl3 TA) ∧ w.ownsRow X.heap.size 23 3 ve TE.length (fl3 TE)) v w | 25 => True | _ => True) := ⟨_, rfl⟩
      rw [← hR]
      have kn : RV.Kn R [.some (.pointer (some ⟨ab, 0, none⟩)), .some (.slice o P.length cap), .some (.pointer (some ⟨ab, 0, none⟩)), .some (.slice o P.length cap), .some (.agg #[.int .i64 wx, .int .i64 wY, .int .i64 wz]), .some (.int .i64 k), .some (.agg #[.int .i64 bx, .int .i64 bY, .int .i64 bz]), none, none, none, .some (.pointer (some ⟨ab, 1, none⟩)), .some (.slice o2 A.length cap2), .some (.pointer (some ⟨ab, 2, none⟩)), .some (.slice o3 E.length cap3), .some (.agg #[.int .i64 lx, .int .i64 ly, .int .i64 lz]), none, none, .some (.pointer (some ⟨ab, 2, none⟩)), .some (.slice o3 E.length cap3), .some (.agg #[.int .i64 lx, .int .i64 ly, .int .i64 lz]), none, none, .some (.pointer (some ⟨ab, 3, none⟩)), .some (.int .i64 r), none, none] 0 := by rw [hR]; exact ⟨fun _ _ => Iff.rfl, fun _ _ => Iff.rfl, fun _ _ => Iff.rfl, fun _ _ => Iff.rfl, fun _ _ => Iff.rfl, fun _ _ => Iff.rfl, fun _ _ => Iff.rfl, fun _ _ => Iff.rfl, fun _ _ => Iff.rfl, fun _ _ => Iff.rfl, fun _ _ => Iff.rfl, fun _ _ => Iff.rfl, fun _ _ => Iff.rfl, fun _ _ => Iff.rfl, fun _ _ => Iff.rfl, fun _ _ => Iff.rfl, fun _ _ => Iff.rfl, trivial⟩
      have T := RV.kfacts [21, 22, 23, 24, 25, 26, 27, 28, 29, 30, 31, 32, 33, 34, 35, 36, 37, 38, 39, 40, 41, 42, 43, 44, 45, 0] [(2, .int .i64 k), (3, .pointer (some ⟨ab, 0, none⟩)), (4, .pointer (some ⟨wb, 0, none⟩)), (6, .pointer (some ⟨rb, 0, none⟩)), (7, .pointer (some ⟨lb, 0, none⟩))] hD hZ kn ⟨rfl, rfl, rfl, rfl, rfl, trivial⟩ (by kernel_rfl) (by kernel_rfl)
      simp only [RV.Outs, RV.Slots, Nat.reduceAdd] at T
      have r7 : ∀ v w, R 7 v w = ((fun v w => w.ownsRow X.heap.size 23 3 v MV.length (fl3 MV)) v w) := fun v w => by rw [hR]; rfl
      have r8 : ∀ v w, R 8 v w = ((fun v w => ∃ g v2, v = .slice (some ⟨g, 0, none⟩) 2 2 ∧ X.heap.size ≤ g ∧ Cel w g [.slice o P.length cap, v2] ∧ w.ownsRow X.heap.size 23 3 v2 MV.length (fl3 MV)) v w) := fun v w => by rw [hR]; rfl
      have r9 : ∀ v w, R 9 v w = ((fun v w => w.ownsRow X.heap.size 23 3 v TP.length (fl3 TP)) v w) := fun v w => by rw [hR]; rfl
      have r15 : ∀ v w, R 15 v w = ((fun v w => w.ownsRow X.heap.size 23 3 v AC.length (fl3 AC)) v w) := fun v w => by rw [hR]; rfl
      have r16 : ∀ v w, R 16 v w = ((fun v w => w.ownsRow X.heap.size 23 3 v TA.length (fl3 TA)) v w) := fun v w => by rw [hR]; rfl
      have r20 : ∀ v w, R 20 v w = ((fun v w => w.ownsRow X.heap.size 23 3 v LL.length (fl3 LL)) v w) := fun v w => by rw [hR]; rfl
      have r21 : ∀ v w, R 21 v w = ((fun v w => w.ownsRow X.heap.size 23 3 v TE.length (fl3 TE)) v w) := fun v w => by rw [hR]; rfl
      have r24 : ∀ v w, R 24 v w = ((fun v w => ∃ vp va ve, v = .agg #[vp, va, ve, .int .i64 r] ∧ w.ownsRow X.heap.size 23 3 vp TP.length (fl3 TP) ∧ w.ownsRow X.heap.size 23 3 va TA.length (fl3 TA) ∧ w.ownsRow X.heap.size 23 3 ve TE.length (fl3 TE)) v w) := fun v w => by rw [hR]; rfl
      have r25 : ∀ v w, R 25 v w = (True) := fun v w => by rw [hR]; rfl
      have K : ∀ j v w w', Below w.heap.size w w' → R j v w → R j v w' := by
        intro j v w w' hb h
        rw [hR] at h ⊢
        match j with
        | 0 => exact h
        | 1 => exact h
        | 2 => exact h
        | 3 => exact h
        | 4 => exact h
        | 5 => exact h
        | 6 => exact h
        | 7 => exact own_below h hb
        | 8 => obtain ⟨g, v2, h1, h2, h3, h4⟩ := h; exact ⟨g, v2, h1, h2, h3.step hb, own_below h4 hb⟩
        | 9 => exact own_below h hb
        | 10 => exact h
        | 11 => exact h
        | 12 => exact h
        | 13 => exact h
        | 14 => exact h
        | 15 => exact own_below h hb
        | 16 => exact own_below h hb
        | 17 => exact h
        | 18 => exact h
        | 19 => exact h
        | 20 => exact own_below h hb
        | 21 => exact own_below h hb
        | 22 => exact h
        | 23 => exact h
        | 24 => obtain ⟨vp, va, ve, h1, h2, h3, h4⟩ := h; exact ⟨vp, va, ve, h1, own_below h2 hb, own_below h3 hb, own_below h4 hb⟩
        | 25 => exact h
        | (_ + 26) => trivial
      have K4 : ∀ j v w a1 a2 a3 a4, R j v w → R j v (set4 w rb a1 a2 a3 a4) := by
        intro j v w a1 a2 a3 a4 h
        rw [hR] at h ⊢
        match j with
        | 0 => exact h
        | 1 => exact h
        | 2 => exact h
        | 3 => exact h
        | 4 => exact h
        | 5 => exact h
        | 6 => exact h
        | 7 => exact own_set4 h (trail_far h HRB.out) _ _ _ _
        | 8 => obtain ⟨g, v2, h1, h2, h3, h4⟩ := h; exact ⟨g, v2, h1, h2, trail_cel h3 (by have := HRB.out; omega) _ _ _ _, own_set4 h4 (trail_far h4 HRB.out) _ _ _ _⟩
        | 9 => exact own_set4 h (trail_far h HRB.out) _ _ _ _
        | 10 => exact h
        | 11 => exact h
        | 12 => exact h
        | 13 => exact h
        | 14 => exact h
        | 15 => exact own_set4 h (trail_far h HRB.out) _ _ _ _
        | 16 => exact own_set4 h (trail_far h HRB.out) _ _ _ _
        | 17 => exact h
        | 18 => exact h
        | 19 => exact h
        | 20 => exact own_set4 h (trail_far h HRB.out) _ _ _ _
        | 21 => exact own_set4 h (trail_far h HRB.out) _ _ _ _
        | 22 => exact h
        | 23 => exact h
        | 24 => obtain ⟨vp, va, ve, h1, h2, h3, h4⟩ := h; exact ⟨vp, va, ve, h1, own_set4 h2 (trail_far h2 HRB.out) _ _ _ _, own_set4 h3 (trail_far h3 HRB.out) _ _ _ _, own_set4 h4 (trail_far h4 HRB.out) _ _ _ _⟩
        | 25 => exact h
        | (_ + 26) => trivial
      iterate 6 first
        | (refine RV.AllDo.cons _ (RV.pk kn T (fun γ v L w hl h => by rw [RV.more_ne (L := L) (i := _) (j := 25) (by decide)]; exact h) (fun γ L a w hH hl h9 k9 => ⟨_, ?_, rfl⟩)) ?_; · simp [execOp, go_sem, h9])
        | (refine RV.AllDo.cons _ (RV.pk kn T (fun γ v L w hl h => by rw [RV.more_ne (L := L) (i := _) (j := 25) (by decide)]; exact h) (fun γ L a w hH hl h9 k9 => ⟨_, ?_, rfl⟩)) ?_; · have hB9 := early9 hH.glob (RV.not_yet hH (RV.wt (j := 25) hWA (by kernel_rfl)) hl); have wz0 := Cel.step CW.out hB9 0 _ rfl; have wz1 := Cel.step CW.out hB9 1 _ rfl; have wz2 := Cel.step CW.out hB9 2 _ rfl; simp [execOp, go_sem, h9, wz0, wz1, wz2])
        | (refine RV.AllDo.cons _ (RV.pk kn T (fun γ v L w hl h => by rw [RV.more_ne (L := L) (i := _) (j := 25) (by decide)]; exact h) (fun γ L a w hH hl h9 k9 => ⟨_, ?_, rfl⟩)) ?_; · have hB9 := early9 hH.glob (RV.not_yet hH (RV.wt (j := 25) hWA (by kernel_rfl)) hl); have wz0 := Cel.step CA.out hB9 0 _ rfl; simp [Region.binds] at k9; simp [execOp, go_sem, h9, k9, wz0])
      refine RV.AllDo.cons _ (RV.does_call (fun γ L a w hH hl hA => by have h9 := T _ _ γ L a w hH; have k9 := hA; simp [Region.binds] at k9; have hB9 := early9 hH.glob (RV.not_yet hH (RV.wt (j := 25) (i := 6) hWA (by kernel_rfl)) hl); exact ⟨69, #[.agg #[.int .i64 wx, .int .i64 wY, .int .i64 wz], .int .i64 k], by simp [go_sem, h9, k9], Calls.mono (HPA.out w) (by rintro e w2 ⟨rfl, hb9⟩; exact ⟨_, rfl, ((kn.at (k := 6) rfl _ _).2 rfl), fun j v _ h => K j v _ _ hb9 h, Or.inl ⟨by rw [RV.more_ne (L := L) (i := 6) (j := 25) (by decide)]; exact RV.not_yet hH (RV.wt (j := 25) (i := 6) hWA (by kernel_rfl)) hl, b_step hB9 hb9⟩⟩)⟩)) ?_
      refine RV.AllDo.cons _ (RV.does_call (fun γ L a w hH hl hA => by have h9 := T _ _ γ L a w hH; have k9 := hA; simp [Region.binds] at k9; have hB9 := early9 hH.glob (RV.not_yet hH (RV.wt (j := 25) (i := 7) hWA (by kernel_rfl)) hl); exact ⟨59, #[.slice o P.length cap, .agg #[.int .i64 bx, .int .i64 bY, .int .i64 bz]], by simp [go_sem, h9, k9], Calls.mono (HMV.out w hB9) (by rintro e w2 ⟨u, rfl, hrow⟩; have hb9 := hrow.below; exact ⟨_, rfl, (r7 _ _).mpr (own_le hrow.row hB9.size), fun j v _ h => K j v _ _ hb9 h, Or.inl ⟨by rw [RV.more_ne (L := L) (i := 7) (j := 25) (by decide)]; exact RV.not_yet hH (RV.wt (j := 25) (i := 7) hWA (by kernel_rfl)) hl, b_step hB9 hb9⟩⟩)⟩)) ?_
      refine RV.AllDo.cons _ (RV.does_step (fun γ L a w hH hl hA => by have h9 := T _ _ γ L a w hH; have k9 := hA; simp [Region.binds] at k9; have l1 : L 7 = true := hA ⟨7, .data⟩ (by simp) rfl; have e1 := hH.slot 7 27 (by rw [← hD]; rfl) l1; have g1 := hH.holds 7 l1; rw [r7] at g1; have hB9 := early9 hH.glob (RV.not_yet hH (RV.wt (j := 25) (i := 8) hWA (by kernel_rfl)) hl); obtain ⟨om, cm, ev2⟩ := rowp_form g1; rw [ev2] at e1 g1; have hb9 := n_after w (.cells #[.slice o P.length cap, .slice om MV.length cm] 24); exact ⟨.slice (some ⟨w.heap.size, 0, none⟩) 2 2, w.alloc (.cells #[.slice o P.length cap, .slice om MV.length cm] 24), by simp [execOp, go_sem, e1, h9, k9], (r8 _ _).mpr ⟨_, _, rfl, hB9.size, Cel.new w [.slice o P.length cap, .slice om MV.length cm] _, own_below g1 hb9⟩, fun j v _ h => K j v _ _ hb9 h, Or.inl ⟨by rw [RV.more_ne (L := L) (i := 8) (j := 25) (by decide)]; exact RV.not_yet hH (RV.wt (j := 25) (i := 8) hWA (by kernel_rfl)) hl, b_step hB9 hb9⟩⟩)) ?_
      refine RV.AllDo.cons _ (RV.does_call (fun γ L a w hH hl hA => by have l0 : L 8 = true := hA ⟨8, .data⟩ (by simp) rfl; have e0 := hH.slot 8 28 (by rw [← hD]; rfl) l0; have g0 := hH.holds 8 l0; rw [r8] at g0; have hB9 := early9 hH.glob (RV.not_yet hH (RV.wt (j := 25) (i := 9) hWA (by kernel_rfl)) hl); obtain ⟨g, v2, hv, hg, hc, ho2⟩ := g0; rw [hv] at e0; exact ⟨68, #[.slice (some ⟨g, 0, none⟩) 2 2], by simp [go_sem, e0], Calls.mono (HCC.out v2 g w hB9 (Lies.of_row ho2) hc) (by rintro e w2 ⟨u, rfl, hrow⟩; have hb9 := hrow.below; exact ⟨_, rfl, (r9 _ _).mpr (own_le hrow.row hB9.size), fun j v _ h => K j v _ _ hb9 h, Or.inl ⟨by rw [RV.more_ne (L := L) (i := 9) (j := 25) (by decide)]; exact RV.not_yet hH (RV.wt (j := 25) (i := 9) hWA (by kernel_rfl)) hl, b_step hB9 hb9⟩⟩)⟩)) ?_
      iterate 5 first
        | (refine RV.AllDo.cons _ (RV.pk kn T (fun γ v L w hl h => by rw [RV.more_ne (L := L) (i := _) (j := 25) (by decide)]; exact h) (fun γ L a w hH hl h9 k9 => ⟨_, ?_, rfl⟩)) ?_; · simp [execOp, go_sem, h9])
        | (refine RV.AllDo.cons _ (RV.pk kn T (fun γ v L w hl h => by rw [RV.more_ne (L := L) (i := _) (j := 25) (by decide)]; exact h) (fun γ L a w hH hl h9 k9 => ⟨_, ?_, rfl⟩)) ?_; · have hB9 := early9 hH.glob (RV.not_yet hH (RV.wt (j := 25) hWA (by kernel_rfl)) hl); have wz0 := Cel.step CL.out hB9 0 _ rfl; have wz1 := Cel.step CL.out hB9 1 _ rfl; have wz2 := Cel.step CL.out hB9 2 _ rfl; simp [execOp, go_sem, h9, wz0, wz1, wz2])
        | (refine RV.AllDo.cons _ (RV.pk kn T (fun γ v L w hl h => by rw [RV.more_ne (L := L) (i := _) (j := 25) (by decide)]; exact h) (fun γ L a w hH hl h9 k9 => ⟨_, ?_, rfl⟩)) ?_; · have hB9 := early9 hH.glob (RV.not_yet hH (RV.wt (j := 25) hWA (by kernel_rfl)) hl); have wz0 := Cel.step CA.out hB9 1 _ rfl; simp [Region.binds] at k9; simp [execOp, go_sem, h9, k9, wz0])
        | (refine RV.AllDo.cons _ (RV.pk kn T (fun γ v L w hl h => by rw [RV.more_ne (L := L) (i := _) (j := 25) (by decide)]; exact h) (fun γ L a w hH hl h9 k9 => ⟨_, ?_, rfl⟩)) ?_; · have hB9 := early9 hH.glob (RV.not_yet hH (RV.wt (j := 25) hWA (by kernel_rfl)) hl); have wz0 := Cel.step CA.out hB9 2 _ rfl; simp [Region.binds] at k9; simp [execOp, go_sem, h9, k9, wz0])
      refine RV.AllDo.cons _ (RV.does_call (fun γ L a w hH hl hA => by have h9 := T _ _ γ L a w hH; have k9 := hA; simp [Region.binds] at k9; have hB9 := early9 hH.glob (RV.not_yet hH (RV.wt (j := 25) (i := 15) hWA (by kernel_rfl)) hl); exact ⟨71, #[.slice o3 E.length cap3, .agg #[.int .i64 lx, .int .i64 ly, .int .i64 lz]], by simp [go_sem, h9, k9], Calls.mono (HAC.out w hB9) (by rintro e w2 ⟨u, rfl, hrow⟩; have hb9 := hrow.below; exact ⟨_, rfl, (r15 _ _).mpr (own_le hrow.row hB9.size), fun j v _ h => K j v _ _ hb9 h, Or.inl ⟨by rw [RV.more_ne (L := L) (i := 15) (j := 25) (by decide)]; exact RV.not_yet hH (RV.wt (j := 25) (i := 15) hWA (by kernel_rfl)) hl, b_step hB9 hb9⟩⟩)⟩)) ?_
      refine RV.AllDo.cons _ (RV.does_call (fun γ L a w hH hl hA => by have h9 := T _ _ γ L a w hH; have k9 := hA; simp [Region.binds] at k9; have l1 : L 15 = true := hA ⟨15, .data⟩ (by simp) rfl; have e1 := hH.slot 15 35 (by rw [← hD]; rfl) l1; have g1 := hH.holds 15 l1; rw [r15] at g1; have hB9 := early9 hH.glob (RV.not_yet hH (RV.wt (j := 25) (i := 16) hWA (by kernel_rfl)) hl); exact ⟨70, #[.slice o2 A.length cap2, γ 15], by simp [go_sem, e1, h9, k9], Calls.mono (HD1.out _ w hB9 (Lies.of_row g1)) (by rintro e w2 ⟨u, rfl, hrow⟩; have hb9 := hrow.below; exact ⟨_, rfl, (r16 _ _).mpr (own_le hrow.row hB9.size), fun j v _ h => K j v _ _ hb9 h, Or.inl ⟨by rw [RV.more_ne (L := L) (i := 16) (j := 25) (by decide)]; exact RV.not_yet hH (RV.wt (j := 25) (i := 16) hWA (by kernel_rfl)) hl, b_step hB9 hb9⟩⟩)⟩)) ?_
      iterate 3 first
        | (refine RV.AllDo.cons _ (RV.pk kn T (fun γ v L w hl h => by rw [RV.more_ne (L := L) (i := _) (j := 25) (by decide)]; exact h) (fun γ L a w hH hl h9 k9 => ⟨_, ?_, rfl⟩)) ?_; · simp [execOp, go_sem, h9])
        | (refine RV.AllDo.cons _ (RV.pk kn T (fun γ v L w hl h => by rw [RV.more_ne (L := L) (i := _) (j := 25) (by decide)]; exact h) (fun γ L a w hH hl h9 k9 => ⟨_, ?_, rfl⟩)) ?_; · have hB9 := early9 hH.glob (RV.not_yet hH (RV.wt (j := 25) hWA (by kernel_rfl)) hl); have wz0 := Cel.step CL.out hB9 0 _ rfl; have wz1 := Cel.step CL.out hB9 1 _ rfl; have wz2 := Cel.step CL.out hB9 2 _ rfl; simp [execOp, go_sem, h9, wz0, wz1, wz2])
        | (refine RV.AllDo.cons _ (RV.pk kn T (fun γ v L w hl h => by rw [RV.more_ne (L := L) (i := _) (j := 25) (by decide)]; exact h) (fun γ L a w hH hl h9 k9 => ⟨_, ?_, rfl⟩)) ?_; · have hB9 := early9 hH.glob (RV.not_yet hH (RV.wt (j := 25) hWA (by kernel_rfl)) hl); have wz0 := Cel.step CA.out hB9 2 _ rfl; simp [Region.binds] at k9; simp [execOp, go_sem, h9, k9, wz0])
      refine RV.AllDo.cons _ (RV.does_step (fun γ L a w hH hl hA => by have h9 := T _ _ γ L a w hH; have k9 := hA; simp [Region.binds] at k9; have hB9 := early9 hH.glob (RV.not_yet hH (RV.wt (j := 25) (i := 20) hWA (by kernel_rfl)) hl); have hb9 := n_after w (.cells #[.int .i64 lx, .int .i64 ly, .int .i64 lz] 23); exact ⟨.slice (some ⟨w.heap.size, 0, none⟩) 1 1, w.alloc (.cells #[.int .i64 lx, .int .i64 ly, .int .i64 lz] 23), by simp [execOp, go_sem, h9, k9], (r20 _ _).mpr (by rw [HLL.out]; exact ⟨rfl, Or.inr ⟨w.heap.size, 1, #[.int .i64 lx, .int .i64 ly, .int .i64 lz], rfl, hB9.size, heap_alloc_new w _, Nat.le_refl _, by unfold maxLen; omega, rfl, rfl⟩⟩), fun j v _ h => K j v _ _ hb9 h, Or.inl ⟨by rw [RV.more_ne (L := L) (i := 20) (j := 25) (by decide)]; exact RV.not_yet hH (RV.wt (j := 25) (i := 20) hWA (by kernel_rfl)) hl, b_step hB9 hb9⟩⟩)) ?_
      refine RV.AllDo.cons _ (RV.does_call (fun γ L a w hH hl hA => by have h9 := T _ _ γ L a w hH; have k9 := hA; simp [Region.binds] at k9; have l1 : L 20 = true := hA ⟨20, .data⟩ (by simp) rfl; have e1 := hH.slot 20 40 (by rw [← hD]; rfl) l1; have g1 := hH.holds 20 l1; rw [r20] at g1; have hB9 := early9 hH.glob (RV.not_yet hH (RV.wt (j := 25) (i := 21) hWA (by kernel_rfl)) hl); exact ⟨70, #[.slice o3 E.length cap3, γ 20], by simp [go_sem, e1, h9, k9], Calls.mono (HD2.out _ w hB9 (Lies.of_row g1)) (by rintro e w2 ⟨u, rfl, hrow⟩; have hb9 := hrow.below; exact ⟨_, rfl, (r21 _ _).mpr (own_le hrow.row hB9.size), fun j v _ h => K j v _ _ hb9 h, Or.inl ⟨by rw [RV.more_ne (L := L) (i := 21) (j := 25) (by decide)]; exact RV.not_yet hH (RV.wt (j := 25) (i := 21) hWA (by kernel_rfl)) hl, b_step hB9 hb9⟩⟩)⟩)) ?_
      iterate 2 first
        | (refine RV.AllDo.cons _ (RV.pk kn T (fun γ v L w hl h => by rw [RV.more_ne (L := L) (i := _) (j := 25) (by decide)]; exact h) (fun γ L a w hH hl h9 k9 => ⟨_, ?_, rfl⟩)) ?_; · simp [execOp, go_sem, h9])
        | (refine RV.AllDo.cons _ (RV.pk kn T (fun γ v L w hl h => by rw [RV.more_ne (L := L) (i := _) (j := 25) (by decide)]; exact h) (fun γ L a w hH hl h9 k9 => ⟨_, ?_, rfl⟩)) ?_; · have hB9 := early9 hH.glob (RV.not_yet hH (RV.wt (j := 25) hWA (by kernel_rfl)) hl); have wz0 := Cel.step CA.out hB9 3 _ rfl; simp [Region.binds] at k9; simp [execOp, go_sem, h9, k9, wz0])
      refine RV.AllDo.cons _ (RV.does_step (fun γ L a w hH hl hA => by have h9 := T _ _ γ L a w hH; have k9 := hA; simp [Region.binds] at k9; have l0 : L 9 = true := hA ⟨9, .data⟩ (by simp) rfl; have l1 : L 16 = true := hA ⟨16, .data⟩ (by simp) rfl; have l2 : L 21 = true := hA ⟨21, .data⟩ (by simp) rfl; have e0 := hH.slot 9 29 (by rw [← hD]; rfl) l0; have g0 := hH.holds 9 l0; rw [r9] at g0; have e1 := hH.slot 16 36 (by rw [← hD]; rfl) l1; have g1 := hH.holds 16 l1; rw [r16] at g1; have e2 := hH.slot 21 41 (by rw [← hD]; rfl) l2; have g2 := hH.holds 21 l2; rw [r21] at g2; have hB9 := early9 hH.glob (RV.not_yet hH (RV.wt (j := 25) (i := 24) hWA (by kernel_rfl)) hl); obtain ⟨y1, c1, j1⟩ := rowp_form g0; obtain ⟨y2, c2, j2⟩ := rowp_form g1; obtain ⟨y3, c3, j3⟩ := rowp_form g2; rw [j1] at e0 g0; rw [j2] at e1 g1; rw [j3] at e2 g2; exact ⟨.agg #[.slice y1 TP.length c1, .slice y2 TA.length c2, .slice y3 TE.length c3, .int .i64 r], w, by simp [execOp, go_sem, e0, e1, e2, h9, k9], (r24 _ _).mpr ⟨_, _, _, rfl, g0, g1, g2⟩, fun j v _ h => h, Or.inl ⟨by rw [RV.more_ne (L := L) (i := 24) (j := 25) (by decide)]; exact RV.not_yet hH (RV.wt (j := 25) (i := 24) hWA (by kernel_rfl)) hl, hB9⟩⟩)) ?_
      refine RV.AllDo.cons _ (RV.does_store (fun γ L a w hH hl hA => by have h9 := T _ _ γ L a w hH; have l1 : L 24 = true := hA ⟨24, .data⟩ (by simp) rfl; have e1 := hH.slot 24 44 (by rw [← hD]; rfl) l1; have g1 := hH.holds 24 l1; rw [r24] at g1; have hB9 := early9 hH.glob hl; obtain ⟨vp, va, ve, hv, hp1, ha1, he1⟩ := g1; rw [hv] at e1; obtain ⟨x1, x2, x3⟩ : (∃ o c, vp = .slice o TP.length c) ∧ (∃ o c, va = .slice o TA.length c) ∧ (∃ o c, ve = .slice o TE.length c) := ⟨rowp_form hp1, rowp_form ha1, rowp_form he1⟩; obtain ⟨y1, c1, rfl⟩ := x1; obtain ⟨y2, c2, rfl⟩ := x2; obtain ⟨y3, c3, rfl⟩ := x3; have HS := CR.out.step hB9; have z0 := (HS 0 _ rfl).1; have zf0 := (HS 0 _ rfl).2; have z1 := (HS 1 _ rfl).1; have zf1 := (HS 1 _ rfl).2; have z2 := (HS 2 _ rfl).1; have zf2 := (HS 2 _ rfl).2; have z3 := (HS 3 _ rfl).1; have zf3 := (HS 3 _ rfl).2; exact ⟨set4 w rb (.slice y1 TP.length c1) (.slice y2 TA.length c2) (.slice y3 TE.length c3) (.int .i64 r), by simp [set4, execOp, go_sem, e1, z0, z1, z2, z3, zf0, zf1, zf2, zf3, h9], (r25 _ _).mpr trivial, fun j v _ h => K4 j v w _ _ _ _ h, Or.inr ⟨RV.more_self, w, _, _, _, hB9, hp1, ha1, he1, rfl⟩⟩)) ?_
      exact RV.AllDo.nil
    · intro γ a5 w5 L9 hL hLo hH
      have ha := RV.held_act hH hL (by kernel_rfl) (by kernel_rfl)
      obtain ⟨w8, vp, va, ve, hb8, h1, h2, h3, rfl⟩ := late9 hH.glob (hL 25 (by decide))
      rw [ha]
      clear ha hH hL hLo
      simp only [RV.putAll, Act.put, List.setIfInBounds_toArray, List.set_cons_zero, List.set_cons_succ, Nat.zero_add, Nat.reduceAdd]
      have HT : Hid (Tri w0 (set4 w8 rb vp va ve (.int .i64 r)) vp va ve TP TA TE) := ⟨own_set4 (own_le h1 HXB.out.size) (trail_far h1 HRB.out) _ _ _ _, own_set4 (own_le h2 HXB.out.size) (trail_far h2 HRB.out) _ _ _ _, own_set4 (own_le h3 HXB.out.size) (trail_far h3 HRB.out) _ _ _ _, set4_below (b_step HXB.out hb8) HR0.out _ _ _ _⟩
      have HS : Hid (CelW _ _ _) := CR.out.step hb8
      obtain ⟨y1, c1, rfl⟩ := rowp_form h1
      obtain ⟨y2, c2, rfl⟩ := rowp_form h2
      obtain ⟨y3, c3, rfl⟩ := rowp_form h3
      obtain ⟨z0, zf0⟩ := HS.out 0 _ rfl
      obtain ⟨z1, zf1⟩ := HS.out 1 _ rfl
      obtain ⟨z2, zf2⟩ := HS.out 2 _ rfl
      obtain ⟨z3, zf3⟩ := HS.out 3 _ rfl
      clear h1 h2 h3 hb8
      unfold set4 at HT ⊢
      go_wp2_with (fail)
      refine bodyPost_ret (v := .agg #[.slice y1 TP.length c1, .slice y2 TA.length c2, .slice y3 TE.length c3, .int .i64 r]) (by simp [results, Tryz.results25, go_sem, z0, z1, z2, z3]) rfl ⟨_, _, _, by rw [HRC.out], HFT.out _ _ _ _ HT.out⟩
  · have e1 := HNO.out (fun h => hgk ⟨h.1, HKB.out.2 h.2⟩)
    have HRC : Hid (TC.r = 0) := by show _ = _; rw [e1]; rfl
    have HFIN : Hid (Tri w0 (set4 V1 rb (.slice none 0 0) (.slice none 0 0) (.slice none 0 0) (.int .i64 0)) (.slice none 0 0) (.slice none 0 0) (.slice none 0 0) TC.P TC.A TC.E) := by rw [e1]; exact ⟨World.ownsRow_nil _ _ _ _, World.ownsRow_nil _ _ _ _, World.ownsRow_nil _ _ _ _, set4_below HXB.out HR0.out _ _ _ _⟩
    obtain ⟨z0, zf0⟩ := CR.out 0 _ rfl
    obtain ⟨z1, zf1⟩ := CR.out 1 _ rfl
    obtain ⟨z2, zf2⟩ := CR.out 2 _ rfl
    obtain ⟨z3, zf3⟩ := CR.out 3 _ rfl
    clear HNO HYES HFA HLN HKB LP LA LE CA CW CR e1
    unfold set4 at HFIN
    cases gb with
    | false =>
      go_wp2_with (fail)
      exact bodyPost_ret (v := .agg #[.slice none 0 0, .slice none 0 0, .slice none 0 0, .int .i64 0]) (by simp [results, Tryz.results25, go_sem, z0, z1, z2, z3]) rfl ⟨_, _, _, by rw [HRC.out], HFIN.out⟩
    | true =>
      cases kb with
      | true => exact absurd ⟨rfl, rfl⟩ hgk
      | false =>
        go_wp2_with (fail)
        refine Calls.mono (HBT.out _) ?_
        rintro e V2 ⟨rfl, rfl⟩
        go_wp2_with (fail)
        exact bodyPost_ret (v := .agg #[.slice none 0 0, .slice none 0 0, .slice none 0 0, .int .i64 0]) (by simp [results, Tryz.results25, go_sem, z0, z1, z2, z3]) rfl ⟨_, _, _, by rw [HRC.out], HFIN.out⟩
end Go.Proofs.YtbhdfjoagajipaaGreat
namespace Go.Proofs.YtbhdfjoagajipaaGreat
open Go.RowKit Go.Shelf
set_option linter.unusedVariables false

def Pt.plus (p q : Pt) : Pt := ⟨IntKind.i64.wrap (p.x + q.x), IntKind.i64.wrap (p.y + q.y), IntKind.i64.wrap (p.z + q.z)⟩
/-- A box. -/
structure Bx where
  lo : Pt
  hi : Pt
def Bx.v (b : Bx) : Value := .agg #[.int .i64 b.lo.x, .int .i64 b.lo.y, .int .i64 b.lo.z, .int .i64 b.hi.x, .int .i64 b.hi.y, .int .i64 b.hi.z]
end Go.Proofs.YtbhdfjoagajipaaGreat
namespace Go.Proofs.YtbhdfjoagajipaaGreat
open Go.RowKit Go.Shelf
set_option linter.unusedVariables false

def Bx.grown (a : Bx) (n : Int) : Bx := ⟨a.lo.plus ⟨IntKind.i64.wrap (-n), IntKind.i64.wrap (-n), IntKind.i64.wrap (-n)⟩, a.hi.plus ⟨n, n, n⟩⟩
end Go.Proofs.YtbhdfjoagajipaaGreat
namespace Go.Proofs.YtbhdfjoagajipaaGreat
open Go.RowKit Go.Shelf
set_option linter.unusedVariables false

theorem Lies.grown {A B : World} {v : Value} {Ls : List Pt} {fb : Nat} (h : Lies A v Ls) (hg : A.grownBy B (some fb)) (hne : ∀ q n c, v = .slice (some q) n c → Ls ≠ [] → q.block ≠ fb) : Lies B v Ls := by
  obtain ⟨o, cap, e, h1, h2, h3⟩ := h.form
  refine ⟨o, cap, e, h1, h2, fun i hi => ?_⟩
  obtain ⟨g, off, e', a, b, c⟩ := h3 i hi
  have hf : g ≠ fb := hne ⟨g, off, none⟩ _ _ (by rw [e, e']) (fun e0 => by rw [e0] at hi; simp at hi)
  have hbl : B.heap[g]? = A.heap[g]? := hg.block g (World.block_lt_of_cell? _ _ a) (fun e => hf (by simpa using e))
  exact ⟨g, off, e', (World.cell?_of_block (w := A) hbl).trans a, (World.cell?_of_block (w := A) hbl).trans b, (World.cell?_of_block (w := A) hbl).trans c⟩
end Go.Proofs.YtbhdfjoagajipaaGreat
namespace Go.Proofs.YtbhdfjoagajipaaGreat
open Go.RowKit Fx

/-- From W to W' no block that was there has turned, but for p's. -/
structure Leaves (p : Addr) (W W' : World) : Prop where
  size : W.heap.size ≤ W'.heap.size
  other : ∀ q : Addr, q.block < W.heap.size → q.block ≠ p.block → W'.cell? q = W.cell? q ∧ W'.frozen? q = W.frozen? q
  below : ∀ (B : Nat) (w : World), Below B w W → B ≤ p.block → B ≤ W.heap.size → Below B w W'
  kept : W'.os = W.os ∧ W'.tape = W.tape ∧ W'.output = W.output ∧ ∀ k, k < W.heap.size → k ≠ p.block → W'.heap[k]? = W.heap[k]?
  beside : p.block < W.heap.size → ∀ o, o ≠ p.off → W'.cell? ⟨p.block, o, none⟩ = W.cell? ⟨p.block, o, none⟩ ∧ W'.frozen? ⟨p.block, o, none⟩ = W.frozen? ⟨p.block, o, none⟩

theorem Leaves.refl (p : Addr) (W : World) : Leaves p W W := ⟨Nat.le_refl _, fun _ _ _ => ⟨rfl, rfl⟩, fun _ _ h _ _ => h, ⟨rfl, rfl, rfl, fun _ _ _ => rfl⟩, fun _ _ _ => ⟨rfl, rfl⟩⟩
theorem Leaves.drew {p : Addr} {W w : World} (h : Leaves p W w) : Leaves p W w.drew := ⟨h.size, h.other, fun B w' hb h1 h2 => (h.below B w' hb h1 h2).drew, h.kept, h.beside⟩
/-- Behind a step that turns nothing of what was there. -/
theorem Leaves.step {p : Addr} {W w w' : World} (h : Leaves p W w) (k : Below W.heap.size w w') : Leaves p W w' := by
  refine ⟨Nat.le_trans h.size k.size, fun q hq hne => ?_, fun B w0 hb h1 h2 => (h.below B w0 hb h1 h2).trans (k.mono h2), ⟨k.os.trans h.kept.1, k.tape.trans h.kept.2.1, k.output.trans h.kept.2.2.1, fun i hi hne => (k.block i hi).trans (h.kept.2.2.2 i hi hne)⟩, fun hp o ho => ?_⟩
  · exact ⟨(k.cell hq).trans (h.other q hq hne).1, (k.frozen hq).trans (h.other q hq hne).2⟩
  · exact ⟨(k.cell (p := ⟨p.block, o, none⟩) hp).trans (h.beside hp o ho).1, (k.frozen (p := ⟨p.block, o, none⟩) hp).trans (h.beside hp o ho).2⟩
theorem Leaves.alloc {p : Addr} {W w : World} (h : Leaves p W w) (o : Obj) : Leaves p W (w.alloc o) := h.step ((new_after w o).mono h.size)
theorem Leaves.set {p : Addr} {W w : World} (h : Leaves p W w) {a : Addr} (ha : W.heap.size ≤ a.block) (v : Value) : Leaves p W (w.setCell a v) := h.step ((Below.refl _ _).setCell ha v)
/-- Behind a call that touches a flag of the call's own. -/
theorem Leaves.after {p q : Addr} {g : Bool} {W w w' : World} (h : Leaves p W w) (a : After q g w w') (hq : W.heap.size ≤ q.block) : Leaves p W w' :=
  h.step (a.below _ _ (Below.refl _ _) hq h.size)
/-- Behind a call that touches the flag itself. -/
theorem Leaves.same {p : Addr} {g : Bool} {W w w' : World} (h : Leaves p W w) (a : After p g w w') : Leaves p W w' := by
  refine ⟨Nat.le_trans h.size a.size, fun x hx hne => ?_, fun B w0 hb h1 h2 => a.below B w0 (h.below B w0 hb h1 h2) h1 (Nat.le_trans h2 h.size), ⟨a.kept.1.trans h.kept.1, a.kept.2.1.trans h.kept.2.1, a.kept.2.2.1.trans h.kept.2.2.1, fun i hi hne => (a.kept.2.2.2 i (Nat.lt_of_lt_of_le hi h.size) hne).trans (h.kept.2.2.2 i hi hne)⟩, fun hp o ho => ?_⟩
  · have hlt : x.block < w.heap.size := Nat.lt_of_lt_of_le hx h.size
    have := a.other x hlt hne
    exact ⟨this.1.trans (h.other x hx hne).1, this.2.trans (h.other x hx hne).2⟩
  · have := a.beside (Nat.lt_of_lt_of_le hp h.size) o ho
    exact ⟨this.1.trans (h.beside hp o ho).1, this.2.trans (h.beside hp o ho).2⟩
theorem Leaves.done {p : Addr} {g : Bool} {W W' : World} (h : Leaves p W W') (hc : W'.cell? p = some (.bool g)) (hf : W'.frozen? p = false) : After p g W W' := ⟨hc, hf, h.size, h.other, h.below, h.kept, h.beside⟩
theorem After.leaves {p : Addr} {g : Bool} {W W' : World} (h : After p g W W') : Leaves p W W' := ⟨h.size, h.other, h.below, h.kept, h.beside⟩
structure V3 where
  x : Int
  y : Int
  z : Int
structure V4 where
  w : Int
  x : Int
  y : Int
  z : Int
@[reducible] def V3.val (v : V3) : Value := .agg #[.int .i64 v.x, .int .i64 v.y, .int .i64 v.z]
@[reducible] def V4.val (v : V4) : Value := .agg #[.int .i64 v.w, .int .i64 v.x, .int .i64 v.y, .int .i64 v.z]
def V3.zero : V3 := ⟨0, 0, 0⟩
def V4.zero : V4 := ⟨0, 0, 0, 0⟩

end Go.Proofs.YtbhdfjoagajipaaGreat
namespace Go.Proofs.YtbhdfjoagajipaaGreat
open Go.RowKit Go.Shelf Fx
set_option linter.unusedVariables false

/-- A body's numbers that are reckoned with. -/
structure Bd where
  k : Int
  s : V3
  q : V4
  p : V3
  l : V3
  m : Int
  i : V3
/-- A body's cells; R: those behind its mass. -/
def Bd.L (b : Bd) (R : List Value) : List Value :=
  .int .i64 b.k :: .int .i64 b.s.x :: .int .i64 b.s.y :: .int .i64 b.s.z :: .int .i64 b.q.w :: .int .i64 b.q.x :: .int .i64 b.q.y :: .int .i64 b.q.z ::
  .int .i64 b.p.x :: .int .i64 b.p.y :: .int .i64 b.p.z :: .int .i64 b.l.x :: .int .i64 b.l.y :: .int .i64 b.l.z ::
  .int .i64 b.m :: .int .i64 b.i.x :: .int .i64 b.i.y :: .int .i64 b.i.z :: R
/-- Cells of a block that may be written. -/
def CW (W : World) (b : Nat) (vs : List Value) : Prop := ∀ i v, vs[i]? = some v → W.cell? ⟨b, i, none⟩ = some v ∧ W.frozen? ⟨b, i, none⟩ = false
theorem CW.step {A B : World} {b : Nat} {vs : List Value} (h : CW A b vs) (hb : Below A.heap.size A B) : CW B b vs := fun i v e => ⟨c_after hb (h i v e).1, f_after hb (h i v e).1 (h i v e).2⟩
theorem CW.new (w : World) (vs : List Value) (t : TypeId) : CW (w.alloc (.cells vs.toArray t)) w.heap.size vs := fun i v e => ⟨by simp [e], by simp [go_sem]⟩
theorem CW.lt {W : World} {b : Nat} {v : Value} {vs : List Value} (h : CW W b (v :: vs)) : b < W.heap.size := World.block_lt_of_cell? _ _ (h 0 v rfl).1
theorem CW.leaves {p : Addr} {A B : World} {b : Nat} {vs : List Value} (h : CW A b vs) (hl : Leaves p A B) (hne : b ≠ p.block) : CW B b vs := fun i v e => by
  have := hl.other ⟨b, i, none⟩ (World.block_lt_of_cell? _ _ (h i v e).1) hne
  exact ⟨this.1.trans (h i v e).1, this.2.trans (h i v e).2⟩
theorem CW.after {p : Addr} {g : Bool} {A B : World} {b : Nat} {vs : List Value} (h : CW A b vs) (hl : After p g A B) (hne : b ≠ p.block) : CW B b vs := h.leaves hl.leaves hne
theorem CW.set {W : World} {b : Nat} {vs : List Value} (h : CW W b vs) (k : Nat) (u : Value) (hk : k < vs.length) : CW (W.setCell ⟨b, k, none⟩ u) b (vs.set k u) := by
  intro i v e
  by_cases hik : i = k
  · subst hik
    rw [List.getElem?_set_self hk] at e
    cases e
    obtain ⟨h1, h2⟩ := h i _ (List.getElem?_eq_getElem hk)
    exact ⟨by simp [go_sem, h1], by simp [go_sem, h2]⟩
  · rw [List.getElem?_set_ne (Ne.symm hik)] at e
    obtain ⟨h1, h2⟩ := h i v e
    exact ⟨by simp [go_sem, h1], by simp [go_sem, h2]⟩
theorem CW.other {W : World} {b : Nat} {vs : List Value} (h : CW W b vs) {a : Addr} (hne : a.block ≠ b) (u : Value) : CW (W.setCell a u) b vs := by
  intro i v e
  obtain ⟨h1, h2⟩ := h i v e
  refine ⟨(World.cell?_setCell_other _ _ _ _ (fun e => hne (by rw [e]))).trans h1, ?_⟩
  simp [go_sem, h2]
/-- The flag behind those calls that have come up. -/
def orL (f : Bool) (cs : List (Nat × Bool)) (L : Nat → Bool) : Bool := f || cs.any (fun c => L c.1 && c.2)
theorem orL_none (f : Bool) (cs : List (Nat × Bool)) : orL f cs (fun _ => false) = f := by
  unfold orL
  induction cs with
  | nil => simp
  | cons c r ih => simp at ih ⊢
theorem orL_stay {f : Bool} {cs : List (Nat × Bool)} {L : Nat → Bool} {i : Nat} (h : (cs.all fun c => decide (c.1 ≠ i)) = true) : orL f cs (more L i) = orL f cs L := by
  unfold orL
  congr 1
  induction cs with
  | nil => rfl
  | cons c r ih =>
    simp only [List.all_cons, Bool.and_eq_true, decide_eq_true_eq] at h
    simp only [List.any_cons]
    rw [ih h.2, RV.more_ne h.1]
theorem orL_come {f : Bool} {cs : List (Nat × Bool)} {L : Nat → Bool} {i : Nat} {b : Bool} (hl : L i = false) (h : (cs.filter fun c => decide (c.1 = i)) = [(i, b)]) : orL f cs (more L i) = (orL f cs L || b) := by
  unfold orL
  rw [Bool.or_assoc]
  congr 1
  induction cs with
  | nil => simp at h
  | cons c r ih =>
    simp only [List.any_cons]
    by_cases e : c.1 = i
    · rw [List.filter_cons_of_pos (by simpa using e)] at h
      obtain ⟨rfl, hr⟩ := List.cons.inj h
      have h2 : (r.all fun c => decide (c.1 ≠ i)) = true := by
        rw [List.all_eq_true]
        intro x hx
        rw [decide_eq_true_eq]
        intro hxi
        have : x ∈ r.filter fun c => decide (c.1 = i) := List.mem_filter.2 ⟨hx, by simpa using hxi⟩
        rw [hr] at this
        cases this
      have h3 := orL_stay (f := false) (L := L) h2
      unfold orL at h3
      simp only [Bool.false_or] at h3
      rw [h3]
      simp only [RV.more_self, hl, Bool.true_and, Bool.false_and, Bool.false_or]
      rw [Bool.or_comm]
    · rw [List.filter_cons_of_neg (by simpa using e)] at h
      rw [ih h, RV.more_ne e, Bool.or_assoc]
/-- What holds while a region's calls touch the flag at p. -/
structure FG (V : World) (p : Addr) (f : Bool) (cs : List (Nat × Bool)) (L : Nat → Bool) (w : World) : Prop where
  leaves : Leaves p V w
  cell : w.cell? p = some (.bool (orL f cs L))
  frozen : w.frozen? p = false
theorem FG.start {V : World} {p : Addr} {f : Bool} {cs : List (Nat × Bool)} (hc : V.cell? p = some (.bool f)) (hf : V.frozen? p = false) : FG V p f cs (fun _ => false) V.drew :=
  ⟨(Leaves.refl _ _).drew, by rw [orL_none]; exact hc, hf⟩
theorem FG.stay {V : World} {p : Addr} {f : Bool} {cs : List (Nat × Bool)} {L : Nat → Bool} {w : World} (h : FG V p f cs L w) {i : Nat} (hi : (cs.all fun c => decide (c.1 ≠ i)) = true) : FG V p f cs (more L i) w :=
  ⟨h.leaves, by rw [orL_stay hi]; exact h.cell, h.frozen⟩
theorem FG.come {V : World} {p : Addr} {f : Bool} {cs : List (Nat × Bool)} {L : Nat → Bool} {w w' : World} (h : FG V p f cs L w) {i : Nat} {b : Bool} (hl : L i = false) (hi : (cs.filter fun c => decide (c.1 = i)) = [(i, b)]) (ha : After p (orL f cs L || b) w w') : FG V p f cs (more L i) w' :=
  ⟨h.leaves.same ha, by rw [orL_come hl hi]; exact ha.cell, ha.frozen⟩
theorem FG.at {V : World} {p : Addr} {f : Bool} {cs : List (Nat × Bool)} {L : Nat → Bool} {w : World} (h : FG V p f cs L w) {q : Addr} {v : Value} (hq : V.cell? q = some v) (hne : q.block ≠ p.block) : w.cell? q = some v :=
  (h.leaves.other q (World.block_lt_of_cell? _ _ hq) hne).1.trans hq
section
variable {V : World} {p : Addr} {f : Bool} {cs : List (Nat × Bool)} {st : Nat} {S : World → World} {L : Nat → Bool} {w w' : World} {i : Nat}
end
end Go.Proofs.YtbhdfjoagajipaaGreat
namespace Go.Proofs.YtbhdfjoagajipaaGreat
open Go.RowKit Go.Shelf
set_option linter.unusedVariables false

theorem exec_store_all {P : Program} {a : Act} {o : Oper} {w : World} (ty : TypeId) (x y : Operand) (ho : o.op = .store ty x y) (b off : Nat) (cells : Array Value) (hx : a.eval x = .pointer (some ⟨b, off, none⟩)) (hy : a.eval y = .agg cells)
    (ht : w.there b off cells.size) (hi : (P.info? ty).map (·.size) = some cells.size) (h1 : cells.all (·.oneCell') = true) : (execOp a.eval o).run P w = .ok .skip (w.setCells b off cells.toList) := by
  unfold execOp
  simp only [ho, hx, hy, Instr.storeAt, Instr.sureAddr, Sem.run_bind, Sem.run_pure, Result.andThen_ok, run_storeVar_mid w b off ty cells ht hi h1]
theorem heap_sets {b T : Nat} : ∀ (vs pre old : List Value) (w : World), old.length = vs.length → w.heap[b]? = some (.cells (pre ++ old).toArray T (0, 0)) → (w.setCells b pre.length vs).heap[b]? = some (.cells (pre ++ vs).toArray T (0, 0))
  | [], pre, old, w, hl, h => by
    have : old = [] := List.eq_nil_of_length_eq_zero hl
    subst this
    exact h
  | v :: r, pre, [], w, hl, h => by simp at hl
  | v :: r, pre, o :: old, w, hl, h => by
    have h2 := Go.heap_setCell_same w b pre.length _ _ v h
    have e : (pre ++ o :: old).toArray.setIfInBounds pre.length v = ((pre ++ [v]) ++ old).toArray := by
      rw [List.setIfInBounds_toArray, List.set_append_right _ _ (Nat.le_refl _)]
      simp
    rw [e] at h2
    have h3 := heap_sets r (pre ++ [v]) old _ (by simpa using hl) h2
    rw [List.length_append, List.append_assoc] at h3
    exact h3
theorem heap_all {w : World} {b T : Nat} {cs fin : Array Value} (h : w.heap[b]? = some (.cells cs T (0, 0))) (hs : cs.size = fin.size) : (w.setCells b 0 fin.toList).heap[b]? = some (.cells fin T (0, 0)) := by
  have := heap_sets (b := b) (T := T) fin.toList [] cs.toList w (by simpa using hs) (by simpa using h)
  simpa using this
theorem there_all {w : World} {b T : Nat} {cs : Array Value} (h : w.heap[b]? = some (.cells cs T (0, 0))) {n : Nat} (hn : cs.size = n) : w.there b 0 n := fun j hj => by
  rw [Nat.zero_add]
  have hj2 : j < cs.size := by omega
  exact ⟨by simp [World.cell?, h, hj2], by simp [World.frozen?, h]⟩
theorem cw_all {w : World} {b T : Nat} {fin : Array Value} (h : w.heap[b]? = some (.cells fin T (0, 0))) : CW w b fin.toList := fun i v e => by
  have e2 : fin[i]? = some v := by simpa using e
  exact ⟨by simp [World.cell?, h, e2], by simp [World.frozen?, h]⟩
theorem sets_keeps {B g : Nat} (hg : B ≤ g) : ∀ (vs : List Value) (o : Nat) (w : World), Below B w (w.setCells g o vs)
  | [], _, w => Below.refl _ w
  | v :: r, o, w => ((Below.refl B w).setCell (p := ⟨g, o, none⟩) hg v).trans (sets_keeps hg r (o + 1) _)
theorem pend_kept {W0 w w' : World} {T i j : Nat} {fin : Array Value} {γ : Nat → Value} {L : Nat → Bool} (h : RV.Pend W0 T i j fin γ L w) (hk : ∀ b, b < w.heap.size → W0.heap.size ≤ b → w'.heap[b]? = w.heap[b]?) : RV.Pend W0 T i j fin γ L w' := by
  intro hl
  obtain ⟨b, cs, h1, h2, h3, h4, h5⟩ := h hl
  exact ⟨b, cs, h1, h2, (hk b (Array.getElem?_eq_some_iff.1 h3).1 h2).trans h3, h4, h5⟩

/-- Calls that touch a flag, a box that is made (by ib) and filled (by st). -/
structure NG (V : World) (p : Addr) (f : Bool) (cs : List (Nat × Bool)) (T ib st : Nat) (fin : Array Value) (γ : Nat → Value) (L : Nat → Bool) (w : World) : Prop where
  fg : FG V p f cs L w
  hp : p.block < V.heap.size
  box : RV.Pend V T ib st fin γ L w
section
variable {V w w' : World} {p : Addr} {f : Bool} {cs : List (Nat × Bool)} {T ib st : Nat} {fin : Array Value} {γ : Nat → Value} {L : Nat → Bool}
theorem NG.start (hc : V.cell? p = some (.bool f)) (hf : V.frozen? p = false) : NG V p f cs T ib st fin (fun _ => undef) (fun _ => false) V.drew := ⟨FG.start hc hf, World.block_lt_of_cell? _ _ hc, RV.Pend.start rfl⟩
theorem NG.other (h : NG V p f cs T ib st fin γ L w) {k : Nat} (v : Value) (hk : (cs.all fun c => decide (c.1 ≠ k)) = true) (h1 : ib ≠ k) (h2 : st ≠ k) : NG V p f cs T ib st fin (RV.upd γ k v) (more L k) w := ⟨h.fg.stay hk, h.hp, h.box.other v h1 h2⟩
theorem NG.come (h : NG V p f cs T ib st fin γ L w) {k : Nat} {b : Bool} (v : Value) (hl : L k = false) (hi : (cs.filter fun c => decide (c.1 = k)) = [(k, b)]) (ha : After p (orL f cs L || b) w w') (h1 : ib ≠ k) (h2 : st ≠ k) : NG V p f cs T ib st fin (RV.upd γ k v) (more L k) w' :=
  ⟨h.fg.come hl hi ha, h.hp, (pend_kept h.box fun b hb hV => ha.kept.2.2.2 b hb (fun e => by have := h.hp; omega)).other v h1 h2⟩
theorem NG.made (h : NG V p f cs T ib st fin γ L w) (z : Array Value) (hz : z.size = fin.size) (hst : L st = false) (hk : (cs.all fun c => decide (c.1 ≠ ib)) = true) (hne : st ≠ ib) : NG V p f cs T ib st fin (RV.upd γ ib (.pointer (some ⟨w.heap.size, 0, none⟩))) (more L ib) (w.alloc (.cells z T)) := by
  have hb := n_after w (.cells z T)
  exact ⟨FG.stay ⟨h.fg.leaves.alloc _, c_after hb h.fg.cell, f_after hb h.fg.cell h.fg.frozen⟩ hk, h.hp, RV.Pend.made z hz h.fg.leaves.size hst hne⟩
theorem NG.spot (h : NG V p f cs T ib st fin γ L w) (hl : L ib = true) : ∃ b, γ ib = .pointer (some ⟨b, 0, none⟩) ∧ V.heap.size ≤ b ∧ w.there b 0 fin.size ∧ (ib ≠ st → (cs.all fun c => decide (c.1 ≠ st)) = true → ∀ v, NG V p f cs T ib st fin (RV.upd γ st v) (more L st) (w.setCells b 0 fin.toList)) := by
  obtain ⟨b, cs9, h1, h2, h3, h4, _⟩ := h.box hl
  refine ⟨b, h1, h2, there_all h3 h4, fun hne hk v => ?_⟩
  have hpb : p.block ≠ b := by have := h.hp; omega
  refine ⟨FG.stay ⟨?_, ?_, ?_⟩ hk, h.hp, RV.Pend.filled h1 h2 (heap_all h3 h4) hne v⟩
  · exact h.fg.leaves.step (sets_keeps h2 _ _ _)
  · rw [World.cell?_setCells_out _ _ _ _ _ (fun e => absurd e hpb)]; exact h.fg.cell
  · rw [World.frozen?_setCells]; exact h.fg.frozen
theorem NG.done (h : NG V p f cs T ib st fin γ L w) (h1 : L ib = true) (h2 : L st = true) : After p (orL f cs L) V w ∧ ∃ b, γ ib = .pointer (some ⟨b, 0, none⟩) ∧ V.heap.size ≤ b ∧ CW w b fin.toList := by
  obtain ⟨b, cs9, e1, e2, e3, _, e5⟩ := h.box h1
  rw [e5 h2] at e3
  exact ⟨h.fg.leaves.done h.fg.cell h.fg.frozen, b, e1, e2, cw_all e3⟩
end
/-- The same, where no flag is touched. -/
structure NB (V : World) (T ib st : Nat) (fin : Array Value) (γ : Nat → Value) (L : Nat → Bool) (w : World) : Prop where
  below : Below V.heap.size V w
  box : RV.Pend V T ib st fin γ L w
section
variable {V w w' : World} {T ib st : Nat} {fin : Array Value} {γ : Nat → Value} {L : Nat → Bool}
theorem NB.start : NB V T ib st fin (fun _ => undef) (fun _ => false) V.drew := ⟨(Below.refl _ V).drew, RV.Pend.start rfl⟩
theorem NB.other (h : NB V T ib st fin γ L w) {k : Nat} (v : Value) (h1 : ib ≠ k) (h2 : st ≠ k) : NB V T ib st fin (RV.upd γ k v) (more L k) w := ⟨h.below, h.box.other v h1 h2⟩
theorem NB.come (h : NB V T ib st fin γ L w) {k : Nat} (v : Value) (hb : Below w.heap.size w w') (h1 : ib ≠ k) (h2 : st ≠ k) : NB V T ib st fin (RV.upd γ k v) (more L k) w' := ⟨b_step h.below hb, (h.box.below hb).other v h1 h2⟩
theorem NB.made (h : NB V T ib st fin γ L w) (z : Array Value) (hz : z.size = fin.size) (hst : L st = false) (hne : st ≠ ib) : NB V T ib st fin (RV.upd γ ib (.pointer (some ⟨w.heap.size, 0, none⟩))) (more L ib) (w.alloc (.cells z T)) :=
  ⟨b_step h.below (n_after w (.cells z T)), RV.Pend.made z hz h.below.size hst hne⟩
theorem NB.spot (h : NB V T ib st fin γ L w) (hl : L ib = true) : ∃ b, γ ib = .pointer (some ⟨b, 0, none⟩) ∧ V.heap.size ≤ b ∧ w.there b 0 fin.size ∧ (ib ≠ st → ∀ v, NB V T ib st fin (RV.upd γ st v) (more L st) (w.setCells b 0 fin.toList)) := by
  obtain ⟨b, cs9, h1, h2, h3, h4, _⟩ := h.box hl
  exact ⟨b, h1, h2, there_all h3 h4, fun hne v => ⟨h.below.trans (sets_keeps h2 _ _ _), RV.Pend.filled h1 h2 (heap_all h3 h4) hne v⟩⟩
theorem NB.done (h : NB V T ib st fin γ L w) (h1 : L ib = true) (h2 : L st = true) : Below V.heap.size V w ∧ ∃ b, γ ib = .pointer (some ⟨b, 0, none⟩) ∧ V.heap.size ≤ b ∧ CW w b fin.toList := by
  obtain ⟨b, cs9, e1, e2, e3, _, e5⟩ := h.box h1
  rw [e5 h2] at e3
  exact ⟨h.below, b, e1, e2, cw_all e3⟩
end
end Go.Proofs.YtbhdfjoagajipaaGreat
namespace Go.Proofs.YtbhdfjoagajipaaGreat
open Go.RowKit Go.Shelf
set_option linter.unusedVariables false

/-- A core and where its lists lie. -/
structure CoK where
  p : Value
  a : Value
  e : Value
  c : Cr
def CoK.O : CoK := ⟨.slice none 0 0, .slice none 0 0, .slice none 0 0, nilC⟩
def CoK.lie (W : World) (k : CoK) : Prop := Lies W k.p k.c.P ∧ Lies W k.a k.c.A ∧ Lies W k.e k.c.E
def farB (b : Option Nat) (v : Value) (L : List Pt) : Prop := ∀ q n c, v = .slice (some q) n c → L ≠ [] → b ≠ some q.block
def CoK.far (b : Option Nat) (k : CoK) : Prop := farB b k.p k.c.P ∧ farB b k.a k.c.A ∧ farB b k.e k.c.E
def CoK.cells (k : CoK) : Array Value := #[k.p, k.a, k.e, .int .i64 k.c.r]
section
variable {V w w' : World} {ob : Option Nat} {Ok : Cr → Prop} {ic ib st : Nat} {γ : Nat → Value} {L : Nat → Bool}
end
end Go.Proofs.YtbhdfjoagajipaaGreat
namespace Go.Proofs.YtbhdfjoagajipaaGreat
set_option linter.unusedVariables false

/-- A place in grains; the ball; its way. -/
def grn (v : V3) : Pt := ⟨v.x / 1048576, v.y / 1048576, v.z / 1048576⟩
def ballC (f : V3) (r : Int) : Cr := ⟨[grn f], [], [], r⟩
def wayZ (f t : V3) : Pt := (grn t).sub (grn f)
/-- Does a core hold what goes? -/
def holdP (a : Cr) (w : Pt) (c : Cr) : Bool := castB a w c && decide (0 ≤ (castR a w c).2.2)
/-- The least part of the first ones. -/
def holdK (a : Cr) (w : Pt) (L : List Cr) : Nat → Nat
  | 0 => 16
  | i + 1 => if holdP a w (cr L i) then min (holdK a w L i) (castR a w (cr L i)).1 else holdK a w L i
/-- A part of the way of one number. -/
def goR (f t k : Int) : Option Int := Fx.ratio ((Fx.sub t f).getD 0) k 16
def goA (f t k : Int) : Option Int := Fx.add f ((goR f t k).getD 0)
def goZ (f t k : Int) : Int := (goA f t k).getD 0
def goN (f t k : Int) : Bool := (Fx.sub t f).isNone || ((goR f t k).isNone || (goA f t k).isNone)
def alV (f t : V3) (k : Int) : V3 := ⟨goZ f.x t.x k, goZ f.y t.y k, goZ f.z t.z k⟩
def alN (f t : V3) (k : Int) : Bool := goN f.x t.x k || (goN f.y t.y k || goN f.z t.z k)
def hK (f t : V3) (r : Int) (L : List Cr) : Nat := holdK (ballC f r) (wayZ f t) L L.length
def holdV (f t : V3) (r : Int) (L : List Cr) : V3 × Nat := if hK f t r L = 16 then (t, 16) else if alN f t (hK f t r L) then (f, 0) else (alV f t (hK f t r L), hK f t r L)
def holdN (f t : V3) (r : Int) (L : List Cr) : Bool := decide (hK f t r L ≠ 16) && alN f t (hK f t r L)

/-! ### The least part -/
theorem hold_all {a : Cr} {w : Pt} {L : List Cr} : ∀ {n : Nat}, (∀ i, i < n → holdP a w (cr L i) = true → (castR a w (cr L i)).1 = 16) → holdK a w L n = 16
  | 0, _ => rfl
  | n + 1, h => by
    have ih := hold_all (n := n) fun i hi => h i (by omega)
    unfold holdK
    split
    · next hp => rw [ih, h n (by omega) hp]; rfl
    · exact ih
theorem hold_none {a : Cr} {w : Pt} {L : List Cr} {n : Nat} (h : ∀ i, i < n → holdP a w (cr L i) = false) : holdK a w L n = 16 :=
  hold_all fun i hi e => by rw [h i hi] at e; cases e

/-! ### A part of a way -/
theorem go_small {f t k : Int} (hf : -35184372088832 ≤ f ∧ f ≤ 35184372088832) (ht : -35184372088832 ≤ t ∧ t ≤ 35184372088832) (hk : 0 ≤ k ∧ k ≤ 16) : goZ f t k = f + (t - f) * k / 16 ∧ goN f t k = false := by
  have g1 : Fx.great f = false := (Fx.not_great f).2 (by omega)
  have g2 : Fx.great t = false := (Fx.not_great t).2 (by omega)
  have g3 : Fx.great (t - f) = false := (Fx.not_great _).2 (by omega)
  have g4 : Fx.great k = false := (Fx.not_great _).2 (by omega)
  have g5 : Fx.great 16 = false := (Fx.not_great _).2 (by omega)
  have hp := mul_in (a := t - f) (b := k) (A := 70368744177664) (B := 16) (by omega) (by omega)
  have g6 : Fx.great ((t - f) * k / 16) = false := (Fx.not_great _).2 (by omega)
  have g7 : Fx.great (f + (t - f) * k / 16) = false := (Fx.not_great _).2 (by omega)
  have e1 : Fx.sub t f = some (t - f) := by unfold Fx.sub Fx.told; rw [g1, g2, g3]; rfl
  have e2 : goR f t k = some ((t - f) * k / 16) := by
    unfold goR Fx.ratio Fx.told Fx.fl
    rw [e1, Option.getD_some, g3, g4, g5, if_neg (by decide : ¬ (16 : Int) = 0), if_neg (by decide : ¬ (16 : Int) < 0), g6]
    rfl
  have e3 : goA f t k = some (f + (t - f) * k / 16) := by
    unfold goA Fx.add Fx.told
    rw [e2, Option.getD_some, g1, g6, g7]
    rfl
  unfold goZ goN
  rw [e3, e2, e1]
  exact ⟨rfl, rfl⟩
def V3.in45 (v : V3) : Prop := (-35184372088832 ≤ v.x ∧ v.x ≤ 35184372088832) ∧ (-35184372088832 ≤ v.y ∧ v.y ≤ 35184372088832) ∧ (-35184372088832 ≤ v.z ∧ v.z ≤ 35184372088832)
theorem al_small {f t : V3} {k : Int} (hf : f.in45) (ht : t.in45) (hk : 0 ≤ k ∧ k ≤ 16) : alV f t k = ⟨f.x + (t.x - f.x) * k / 16, f.y + (t.y - f.y) * k / 16, f.z + (t.z - f.z) * k / 16⟩ ∧ alN f t k = false := by
  obtain ⟨a1, a2⟩ := go_small hf.1 ht.1 hk
  obtain ⟨b1, b2⟩ := go_small hf.2.1 ht.2.1 hk
  obtain ⟨c1, c2⟩ := go_small hf.2.2 ht.2.2 hk
  unfold alV alN
  rw [a1, a2, b1, b2, c1, c2]
  exact ⟨rfl, rfl⟩
/-! ### What stood apart stands apart, but for 4 grains -/
end Go.Proofs.YtbhdfjoagajipaaGreat
