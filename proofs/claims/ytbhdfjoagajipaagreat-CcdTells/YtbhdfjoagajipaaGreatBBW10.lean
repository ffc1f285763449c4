/- Package sweep: Cast. -/
import Derived.Test.YtbhdfjoagajipaaGreatBBW0
import Derived.Test.YtbhdfjoagajipaaGreatBBW9
import Derived.RangeFuncNested
import Derived.RangeFuncBound
import Derived.RangeFuncCalls
import Derived.RangeFuncLeaves
import Derived.RangeFuncBox
import Derived.Shelf.Abstract
import Derived.WalkKit
import Derived.OwnWalkIn
import Derived.TacticsInMore
import Derived.LoopNIn
import Derived.LoopIn
import Derived.LoopTactic
import Derived.ProofKit
import Derived.Handy
import Derived.Test.YtbhdfjoagajipaaGreatProg
import Derived.Test.YtbhdfjoagajipaaGreatBBW7
import Derived.Test.YtbhdfjoagajipaaGreatBBW6
import Derived.Test.YtbhdfjoagajipaaGreatBBW1
namespace Go.Proofs.YtbhdfjoagajipaaGreat
open Go.RowKit Go.Shelf
set_option linter.unusedVariables false

def apV (x : Pt × Int) : Value := .agg #[.int .i64 x.1.x, .int .i64 x.1.y, .int .i64 x.1.z, .int .i64 x.2]
theorem apart_v (a b : Cr) : apartV a b = apV (apP a b) := by
  unfold apartV apV apP
  split <;> rfl
theorem arr4k {cs : Array Value} (h : cs.size = 4) : ∃ a b c d, cs = #[a, b, c, d] := by
  obtain ⟨l⟩ := cs
  match l, h with
  | [a, b, c, d], _ => exact ⟨a, b, c, d, rfl⟩
theorem own_unlike {w : World} {base n b : Nat} {t t2 : TypeId} {v : Value} {xs : List Value} {sz : Nat} {cs : Array Value} {p : Nat × Nat} (h : w.ownsRow base t sz v n xs) (hb : w.heap[b]? = some (.cells cs t2 p)) (hne : t2 ≠ t) : v.ownBlock ≠ some b := fun e => by
  rcases h.2 with ⟨rfl, _⟩ | ⟨g, cap, cur, rfl, _, hg, _⟩
  · cases e
  · have e2 : g = b := by simpa [Value.ownBlock] using e
    subst e2
    rw [hg] at hb
    simp only [Option.some.injEq, Obj.cells.injEq] at hb
    exact hne hb.2.1.symm
/-- Where Cast is: three boxes that stay, the result's, and what tells both apart by now. -/
structure CS (w0 W : World) (ab wb bb rb xb : Nat) (la lw lb : List Value) (xx xy xz xg : Int) : Prop where
  below : Below w0.heap.size w0 W
  ca : Cel W ab la
  cw : Cel W wb lw
  cb : Cel W bb lb
  cr : CelW W rb [.int .i64 0, .int .i64 0, .int .i64 0, .int .i64 0]
  cx : CelW W xb [.int .i64 xx, .int .i64 xy, .int .i64 xz, .int .i64 xg]
theorem CS.step {w0 A B : World} {ab wb bb rb xb : Nat} {la lw lb : List Value} {xx xy xz xg : Int} (h : CS w0 A ab wb bb rb xb la lw lb xx xy xz xg) (hb : Below A.heap.size A B) : CS w0 B ab wb bb rb xb la lw lb xx xy xz xg :=
  ⟨b_step h.below hb, h.ca.step hb, h.cw.step hb, h.cb.step hb, h.cr.step hb, h.cx.step hb⟩
theorem CS.put {w0 A : World} {ab wb bb rb xb : Nat} {la lw lb : List Value} {xx xy xz xg : Int} (h : CS w0 A ab wb bb rb xb la lw lb xx xy xz xg) (hne : (ab ≠ xb ∧ wb ≠ xb ∧ bb ≠ xb ∧ rb ≠ xb) ∧ w0.heap.size ≤ xb) (yx yy yz yg : Int) : CS w0 (set4 A xb (.int .i64 yx) (.int .i64 yy) (.int .i64 yz) (.int .i64 yg)) ab wb bb rb xb la lw lb yx yy yz yg := by
  refine ⟨set4_below h.below hne.2 _ _ _ _, trail_cel h.ca hne.1.1 _ _ _ _, trail_cel h.cw hne.1.2.1 _ _ _ _, trail_cel h.cb hne.1.2.2.1 _ _ _ _, ?_, ?_⟩
  · exact (((h.cr.other hne.1.2.2.2 _ _).other hne.1.2.2.2 _ _).other hne.1.2.2.2 _ _).other hne.1.2.2.2 _ _
  · exact (((h.cx.set 0 (.int .i64 yx) (by simp)).set 1 (.int .i64 yy) (by simp)).set 2 (.int .i64 yz) (by simp)).set 3 (.int .i64 yg) (by simp)
theorem castF_step (a : Cr) (w : Pt) (b : Cr) {k : Nat} (h : k < 16) (x : Pt × Int) : castF a w b (16 - k) k x = if (apP (trailC a w ((k : Int) + 1)) b).2 < 0 then (k, x) else castF a w b (16 - (k + 1)) (k + 1) (apP (trailC a w ((k : Int) + 1)) b) := by
  obtain ⟨n, hn⟩ : ∃ n, 16 - k = n + 1 := ⟨16 - k - 1, by omega⟩
  rw [hn, show 16 - (k + 1) = n by omega]
  rfl

set_option maxHeartbeats 16000000 in
set_option maxRecDepth 100000 in
theorem wcast_any (a : Cr) (wy : Pt) (b : Cr) (pv av ev qv bv fv : Value) (w0 : World) (hp : Lies w0 pv a.P) (ha : Lies w0 av a.A) (he : Lies w0 ev a.E) (hq : Lies w0 qv b.P) (hb : Lies w0 bv b.A) (hf : Lies w0 fv b.E) :
    Calls Tryz.prog 21 #[coreA pv av ev a.r, wy.v, coreA qv bv fv b.r] w0 fun e W => e = .returned (.tuple #[.int .i64 ((castR a wy b).1 : Nat), apV (castR a wy b).2, .bool (castB a wy b)]) ∧ Below w0.heap.size w0 W := by
  have HGO : Hid _ := fun (w' : World) (h : Below w0.heap.size w0 w') => wgo_any a wy pv av ev w' (hp.below h) (ha.below h) (he.below h)
  have HMV : Hid _ := fun (hg : goB a wy = true) (w' : World) (h : Below w0.heap.size w0 w') => wmoved_any a.P wy pv w' (hp.below h) (fun p hp => inB_mono ((go_parts hg).2.2.2.1 p hp) (by decide)) (inB_mono (go_parts hg).2.2.1 (by decide)) (by have := (go_parts hg).2.1; omega)
  have HAL : Hid _ := fun (u : Value) (w' : World) (hl : Lies w' u (a.P.map (·.mov wy))) => wall_any (a.P.map (·.mov wy)) 16777216 u w' hl (by decide) (by decide)
  have HA0 : Hid _ := fun (w' : World) (h : Below w0.heap.size w0 w') => napart_any a.P a.A a.E b.P b.A b.E a.r b.r _ _ _ _ _ _ w' (hp.below h) (ha.below h) (he.below h) (hq.below h) (hb.below h) (hf.below h)
  have HTR0 : Hid _ := fun (k : Int) (w' : World) (h : Below w0.heap.size w0 w') => wtrail_any a wy k pv av ev w' (hp.below h) (ha.below h) (he.below h)
  have HAP0 : Hid _ := fun (c : Cr) (vp va ve : Value) (w' : World) (h : Below w0.heap.size w0 w') (l1 : Lies w' vp c.P) (l2 : Lies w' va c.A) (l3 : Lies w' ve c.E) => napart_any c.P c.A c.E b.P b.A b.E c.r b.r _ _ _ _ _ _ w' l1 l2 l3 (hq.below h) (hb.below h) (hf.below h)
  have HCB : Hid (castB a wy b = (goB a wy && (a.P.map (·.mov wy)).all (·.inB 16777216) && mayC b)) := rfl
  have HMC : Hid (goB a wy = true → mayC a = true) := fun h => (go_parts h).1
  have HCR : Hid (castR a wy b = if castB a wy b then (if (apP a b).2 < 0 then (0, apP a b) else castF a wy b 16 0 (apP a b)) else (0, ⟨0, 0, 0⟩, 0)) := rfl
  have HST0 : Hid _ := fun (k : Nat) (h : k < 16) (x : Pt × Int) => castF_step a wy b h x
  obtain ⟨P, A, E, r⟩ := a
  obtain ⟨Q, B, Fl, s⟩ := b
  dsimp only at *
  rw [apart_v] at HA0
  obtain ⟨o1, c1, rfl, _⟩ := hp.form
  obtain ⟨o2, c2, rfl, _⟩ := ha.form
  obtain ⟨o3, c3, rfl, _⟩ := he.form
  obtain ⟨o4, c4, rfl, _⟩ := hq.form
  obtain ⟨o5, c5, rfl, _⟩ := hb.form
  obtain ⟨o6, c6, rfl, _⟩ := hf.form
  clear hp ha he hq hb hf
  obtain ⟨CR, hCR⟩ : ∃ x, castR ⟨P, A, E, r⟩ wy ⟨Q, B, Fl, s⟩ = x := ⟨_, rfl⟩
  rw [hCR] at HCR ⊢
  clear hCR
  obtain ⟨gb, hgb⟩ : ∃ x, goB ⟨P, A, E, r⟩ wy = x := ⟨_, rfl⟩
  rw [hgb] at HGO HMV HCB HMC
  obtain ⟨lb9, hlb⟩ : ∃ x, (P.map (·.mov wy)).all (·.inB 16777216) = x := ⟨_, rfl⟩
  rw [hlb] at HAL HCB
  obtain ⟨cbo, hcb⟩ : ∃ x, castB ⟨P, A, E, r⟩ wy ⟨Q, B, Fl, s⟩ = x := ⟨_, rfl⟩
  rw [hcb] at HCB HCR ⊢
  clear hgb hlb hcb
  obtain ⟨wx, wY, wz⟩ := wy
  unfold coreA Pt.v at *
  dsimp only at *
  obtain ⟨X0, hX0⟩ : ∃ V, V = (((w0.alloc (.cells #[.slice o1 P.length c1, .slice o2 A.length c2, .slice o3 E.length c3, .int .i64 r] 35)).alloc (.cells #[.int .i64 wx, .int .i64 wY, .int .i64 wz] 23)).alloc (.cells #[.slice o4 Q.length c4, .slice o5 B.length c5, .slice o6 Fl.length c6, .int .i64 s] 35)).alloc (.cells #[.int .i64 0, .int .i64 0, .int .i64 0, .int .i64 0] 71) := ⟨_, rfl⟩
  obtain ⟨ab, hab⟩ : ∃ b, b = w0.heap.size := ⟨_, rfl⟩
  obtain ⟨wb, hwb⟩ : ∃ b, b = w0.heap.size + 1 := ⟨_, rfl⟩
  obtain ⟨bb, hbb⟩ : ∃ b, b = w0.heap.size + 1 + 1 := ⟨_, rfl⟩
  obtain ⟨rb, hrb⟩ : ∃ b, b = w0.heap.size + 1 + 1 + 1 := ⟨_, rfl⟩
  have n2 := Cel.new (w0.alloc (.cells #[.slice o1 P.length c1, .slice o2 A.length c2, .slice o3 E.length c3, .int .i64 r] 35)) [.int .i64 wx, .int .i64 wY, .int .i64 wz] 23
  rw [World.size_alloc] at n2
  have n3 := Cel.new ((w0.alloc (.cells #[.slice o1 P.length c1, .slice o2 A.length c2, .slice o3 E.length c3, .int .i64 r] 35)).alloc (.cells #[.int .i64 wx, .int .i64 wY, .int .i64 wz] 23)) [.slice o4 Q.length c4, .slice o5 B.length c5, .slice o6 Fl.length c6, .int .i64 s] 35
  rw [World.size_alloc, World.size_alloc] at n3
  have n4 := CelW.new (((w0.alloc (.cells #[.slice o1 P.length c1, .slice o2 A.length c2, .slice o3 E.length c3, .int .i64 r] 35)).alloc (.cells #[.int .i64 wx, .int .i64 wY, .int .i64 wz] 23)).alloc (.cells #[.slice o4 Q.length c4, .slice o5 B.length c5, .slice o6 Fl.length c6, .int .i64 s] 35)) [.int .i64 0, .int .i64 0, .int .i64 0, .int .i64 0] 71
  rw [World.size_alloc, World.size_alloc, World.size_alloc] at n4
  have C1 : Hid (Cel X0 ab [.slice o1 P.length c1, .slice o2 A.length c2, .slice o3 E.length c3, .int .i64 r]) := by show Cel _ _ _; rw [hX0, hab]; exact (((Cel.new w0 [.slice o1 P.length c1, .slice o2 A.length c2, .slice o3 E.length c3, .int .i64 r] 35).step (n_after _ _)).step (n_after _ _)).step (n_after _ _)
  have C2 : Hid (Cel X0 wb [.int .i64 wx, .int .i64 wY, .int .i64 wz]) := by show Cel _ _ _; rw [hX0, hwb]; exact (n2.step (n_after _ _)).step (n_after _ _)
  have C3 : Hid (Cel X0 bb [.slice o4 Q.length c4, .slice o5 B.length c5, .slice o6 Fl.length c6, .int .i64 s]) := by show Cel _ _ _; rw [hX0, hbb]; exact n3.step (n_after _ _)
  have C4 : Hid (CelW X0 rb [.int .i64 0, .int .i64 0, .int .i64 0, .int .i64 0]) := by show CelW _ _ _; rw [hX0, hrb]; exact n4
  have HB : Hid (Below w0.heap.size w0 X0) := by show Below _ _ _; rw [hX0]; exact b_step (b_step (b_step (n_after _ _) (n_after _ _)) (n_after _ _)) (n_after _ _)
  have HR0 : Hid (w0.heap.size ≤ rb) := by show _ ≤ _; omega
  have HLT : Hid (ab < rb ∧ wb < rb ∧ bb < rb) := by show _ ∧ _; omega
  clear n2 n3 n4
  go_enter Tryz.func21, Tryz.ntmps21
  go_upto_region 1 with fail
  rw [← hX0, ← hrb, ← hbb, ← hwb, ← hab]
  clear hX0 hab hwb hbb hrb
  have x0 := C1.out 0 _ rfl
  have x1 := C1.out 1 _ rfl
  have x2 := C1.out 2 _ rfl
  have x3 := C1.out 3 _ rfl
  have y0 := C2.out 0 _ rfl
  have y1 := C2.out 1 _ rfl
  have y2 := C2.out 2 _ rfl
  go_wp2_with (fail)
  refine Calls.mono (HGO.out _ HB.out) ?_
  rintro e V1 ⟨rfl, hb⟩
  have C1 : Hid (Cel _ _ _) := C1.out.step hb
  have C2 : Hid (Cel _ _ _) := C2.out.step hb
  have C3 : Hid (Cel _ _ _) := C3.out.step hb
  have C4 : Hid (CelW _ _ _) := C4.out.step hb
  have HB : Hid _ := b_step HB.out hb
  clear hb x0 x1 x2 x3 y0 y1 y2 HGO
  cases gb with
  | false =>
    have e1 : cbo = false := by rw [HCB.out]; rfl
    have e2 := HCR.out
    rw [e1, if_neg (by decide)] at e2
    subst e1
    subst e2
    obtain ⟨z0, zf0⟩ := C4.out 0 _ rfl
    obtain ⟨z1, zf1⟩ := C4.out 1 _ rfl
    obtain ⟨z2, zf2⟩ := C4.out 2 _ rfl
    obtain ⟨z3, zf3⟩ := C4.out 3 _ rfl
    have HB9 : Hid _ := set4_below HB.out HR0.out (.int .i64 0) (.int .i64 0) (.int .i64 0) (.int .i64 0)
    unfold set4 at HB9
    clear HCB HMC HCR HST0 HMV HAL HA0 HTR0 HAP0 C1 C2 C3
    go_wp2_with (fail)
    exact bodyPost_ret (v := .tuple #[.int .i64 0, .agg #[.int .i64 0, .int .i64 0, .int .i64 0, .int .i64 0], .bool false]) (by simp [results, Tryz.results21, go_sem, z0, z1, z2, z3]) rfl ⟨rfl, HB9.out⟩
  | true =>
    have x0 := C1.out 0 _ rfl
    have y0 := C2.out 0 _ rfl
    have y1 := C2.out 1 _ rfl
    have y2 := C2.out 2 _ rfl
    have HMV2 : Hid _ := HMV.out rfl
    have hma := HMC.out rfl
    clear HMV HMC
    go_wp2_with (fail)
    refine Calls.mono (HMV2.out _ HB.out) ?_
    rintro e V2 ⟨u, rfl, hrow⟩
    have hb := hrow.below
    have HAL : Hid _ := HAL.out u V2 hrow.lies
    have C1 : Hid (Cel _ _ _) := C1.out.step hb
    have C2 : Hid (Cel _ _ _) := C2.out.step hb
    have C3 : Hid (Cel _ _ _) := C3.out.step hb
    have C4 : Hid (CelW _ _ _) := C4.out.step hb
    have HB : Hid _ := b_step HB.out hb
    clear hb x0 y0 y1 y2 HMV2 hrow
    go_wp2_with (fail)
    refine Calls.mono HAL.out ?_
    rintro e V3 ⟨rfl, hb⟩
    have C1 : Hid (Cel _ _ _) := C1.out.step hb
    have C2 : Hid (Cel _ _ _) := C2.out.step hb
    have C3 : Hid (Cel _ _ _) := C3.out.step hb
    have C4 : Hid (CelW _ _ _) := C4.out.step hb
    have HB : Hid _ := b_step HB.out hb
    clear hb HAL
    cases lb9 with
    | false =>
      have e1 : cbo = false := by rw [HCB.out]; rfl
      have e2 := HCR.out
      rw [e1, if_neg (by decide)] at e2
      subst e1
      subst e2
      obtain ⟨z0, zf0⟩ := C4.out 0 _ rfl
      obtain ⟨z1, zf1⟩ := C4.out 1 _ rfl
      obtain ⟨z2, zf2⟩ := C4.out 2 _ rfl
      obtain ⟨z3, zf3⟩ := C4.out 3 _ rfl
      have HB9 : Hid _ := set4_below HB.out HR0.out (.int .i64 0) (.int .i64 0) (.int .i64 0) (.int .i64 0)
      unfold set4 at HB9
      clear HCB HCR HST0 HA0 HTR0 HAP0 C1 C2 C3
      go_wp2_with (fail)
      exact bodyPost_ret (v := .tuple #[.int .i64 0, .agg #[.int .i64 0, .int .i64 0, .int .i64 0, .int .i64 0], .bool false]) (by simp [results, Tryz.results21, go_sem, z0, z1, z2, z3]) rfl ⟨rfl, HB9.out⟩
    | true =>
      have x0 := C1.out 0 _ rfl
      have x1 := C1.out 1 _ rfl
      have x2 := C1.out 2 _ rfl
      have x3 := C1.out 3 _ rfl
      have y0 := C3.out 0 _ rfl
      have y1 := C3.out 1 _ rfl
      have y2 := C3.out 2 _ rfl
      have y3 := C3.out 3 _ rfl
      rw [hma] at HA0
      obtain ⟨mb, hmb⟩ : ∃ x, mayC ⟨Q, B, Fl, s⟩ = x := ⟨_, rfl⟩
      rw [hmb] at HA0 HCB
      have e1 : mb = cbo := by rw [HCB.out]; cases mb <;> rfl
      subst e1
      have HZ : Hid (mb = false → apP ⟨P, A, E, r⟩ ⟨Q, B, Fl, s⟩ = (⟨0, 0, 0⟩, 0)) := fun h => by unfold apP; rw [hmb, h, Bool.and_false]; rfl
      clear hma hmb HCB
      obtain ⟨⟨⟨xx, xy, xz⟩, xg⟩, hx⟩ : ∃ x, apP ⟨P, A, E, r⟩ ⟨Q, B, Fl, s⟩ = x := ⟨_, rfl⟩
      rw [hx] at HA0 HCR HZ
      clear hx
      unfold apV at HA0
      dsimp only at HA0
      go_wp2_with (fail)
      refine Calls.mono (HA0.out _ HB.out) ?_
      rintro e V4 ⟨rfl, hb⟩
      have C1 : Hid (Cel _ _ _) := C1.out.step hb
      have C2 : Hid (Cel _ _ _) := C2.out.step hb
      have C3 : Hid (Cel _ _ _) := C3.out.step hb
      have C4 : Hid (CelW _ _ _) := C4.out.step hb
      have HB : Hid _ := b_step HB.out hb
      clear hb x0 x1 x2 x3 y0 y1 y2 y3 HA0
      obtain ⟨X, hX⟩ : ∃ V, V = V4.alloc (.cells #[.int .i64 xx, .int .i64 xy, .int .i64 xz, .int .i64 xg] 71) := ⟨_, rfl⟩
      obtain ⟨xb, hxb⟩ : ∃ b, b = V4.heap.size := ⟨_, rfl⟩
      have hbx : Below V4.heap.size V4 X := by rw [hX]; exact n_after _ _
      have HS : Hid (CS w0 X ab wb bb rb xb [.slice o1 P.length c1, .slice o2 A.length c2, .slice o3 E.length c3, .int .i64 r] [.int .i64 wx, .int .i64 wY, .int .i64 wz] [.slice o4 Q.length c4, .slice o5 B.length c5, .slice o6 Fl.length c6, .int .i64 s] xx xy xz xg) := ⟨b_step HB.out hbx, C1.out.step hbx, C2.out.step hbx, C3.out.step hbx, C4.out.step hbx, by rw [hX, hxb]; exact CelW.new _ [.int .i64 xx, .int .i64 xy, .int .i64 xz, .int .i64 xg] _⟩
      have hne : (ab ≠ xb ∧ wb ≠ xb ∧ bb ≠ xb ∧ rb ≠ xb) ∧ w0.heap.size ≤ xb := by
        have h1 := C4.out.lt
        have h2 := HLT.out
        have h3 := HB.out.size
        omega
      go_upto_region 4 with fail
      rw [← hX, ← hxb]
      clear hX hxb hbx C1 C2 C3 C4 HB HLT
      have u3 := (HS.out.cx 3 _ rfl).1
      cases mb with
      | false =>
        have e2 := HCR.out
        rw [if_neg (by decide)] at e2
        have e3 := HZ.out rfl
        simp only [Prod.mk.injEq, Pt.mk.injEq] at e3
        obtain ⟨⟨rfl, rfl, rfl⟩, rfl⟩ := e3
        subst e2
        clear HCR HZ HST0 HTR0 HAP0
        obtain ⟨z0, zf0⟩ := HS.out.cr 0 _ rfl
        obtain ⟨z1, zf1⟩ := HS.out.cr 1 _ rfl
        obtain ⟨z2, zf2⟩ := HS.out.cr 2 _ rfl
        obtain ⟨z3, zf3⟩ := HS.out.cr 3 _ rfl
        have v0 := (HS.out.cx 0 _ rfl).1
        have v1 := (HS.out.cx 1 _ rfl).1
        have v2 := (HS.out.cx 2 _ rfl).1
        have v3 := (HS.out.cx 3 _ rfl).1
        have HB9 : Hid _ := set4_below HS.out.below HR0.out (.int .i64 0) (.int .i64 0) (.int .i64 0) (.int .i64 0)
        unfold set4 at HB9
        clear HS
        go_wp2_with (go_region)
        exact bodyPost_ret (v := .tuple #[.int .i64 0, .agg #[.int .i64 0, .int .i64 0, .int .i64 0, .int .i64 0], .bool false]) (by simp [results, Tryz.results21, go_sem, z0, z1, z2, z3]) rfl ⟨rfl, HB9.out.drew⟩
      | true =>
        have HCR : Hid (CR = if xg < 0 then (0, ⟨xx, xy, xz⟩, xg) else castF ⟨P, A, E, r⟩ ⟨wx, wY, wz⟩ ⟨Q, B, Fl, s⟩ 16 0 (⟨xx, xy, xz⟩, xg)) := by have h := HCR.out; rw [if_pos rfl] at h; exact h
        clear HZ
        by_cases hneg : xg < 0
        · have e2 := HCR.out
          rw [if_pos hneg] at e2
          subst e2
          clear HCR HST0 HTR0 HAP0
          obtain ⟨z0, zf0⟩ := HS.out.cr 0 _ rfl
          obtain ⟨z1, zf1⟩ := HS.out.cr 1 _ rfl
          obtain ⟨z2, zf2⟩ := HS.out.cr 2 _ rfl
          obtain ⟨z3, zf3⟩ := HS.out.cr 3 _ rfl
          have v0 := (HS.out.cx 0 _ rfl).1
          have v1 := (HS.out.cx 1 _ rfl).1
          have v2 := (HS.out.cx 2 _ rfl).1
          have v3 := (HS.out.cx 3 _ rfl).1
          have HB9 : Hid _ := set4_below HS.out.below HR0.out (.int .i64 xx) (.int .i64 xy) (.int .i64 xz) (.int .i64 xg)
          unfold set4 at HB9
          clear HS
          go_wp2_with (go_region)
          exact bodyPost_ret (v := .tuple #[.int .i64 0, .agg #[.int .i64 xx, .int .i64 xy, .int .i64 xz, .int .i64 xg], .bool true]) (by simp [results, Tryz.results21, go_sem, z0, z1, z2, z3]) rfl ⟨rfl, HB9.out.drew⟩
        · have HE0 : Hid (CR = castF ⟨P, A, E, r⟩ ⟨wx, wY, wz⟩ ⟨Q, B, Fl, s⟩ 16 0 (⟨xx, xy, xz⟩, xg)) := by have h := HCR.out; rw [if_neg hneg] at h; exact h
          clear HCR
          go_wp2_with (fail)
          clear u3 hneg
          have HX0 : Hid (Below w0.heap.size w0 X) := HS.out.below
          go_loopg [42] 16 (fun gm s42 wr => ∃ (k : Nat) (xx xy xz xg : Int), s42 = .int .i64 (k : Int) ∧ k ≤ 16 ∧ Hid (gm = 16 - k) ∧ Hid (CS w0 wr ab wb bb rb xb [.slice o1 P.length c1, .slice o2 A.length c2, .slice o3 E.length c3, .int .i64 r] [.int .i64 wx, .int .i64 wY, .int .i64 wz] [.slice o4 Q.length c4, .slice o5 B.length c5, .slice o6 Fl.length c6, .int .i64 s] xx xy xz xg) ∧ Hid (CR = castF ⟨P, A, E, r⟩ ⟨wx, wY, wz⟩ ⟨Q, B, Fl, s⟩ (16 - k) k (⟨xx, xy, xz⟩, xg)))
          case atStart => exact ⟨0, xx, xy, xz, xg, rfl, by omega, rfl, HS, HE0⟩
          case round =>
            clear HS HE0
            obtain ⟨k, xx, xy, xz, xg, rfl, hk, HG, HS, HE⟩ := hrel
            by_cases hit : k < 16
            · have hit' : (k : Int) < 16 := by omega
              have wk1 : IntKind.i64.wrap ((k : Int) + 1) = (k : Int) + 1 := by rw [IntKind.wrap_i64]; omega
              have HST : Hid _ := HST0.out k hit (⟨xx, xy, xz⟩, xg)
              have HTR1 : Hid _ := HTR0.out ((k : Int) + 1)
              obtain ⟨TC, hTC⟩ : ∃ x, trailC ⟨P, A, E, r⟩ ⟨wx, wY, wz⟩ ((k : Int) + 1) = x := ⟨_, rfl⟩
              rw [hTC] at HST HTR1
              have HAP1 : Hid _ := HAP0.out TC
              have hcv : apartV ⟨TC.P, TC.A, TC.E, TC.r⟩ ⟨Q, B, Fl, s⟩ = apV (apP TC ⟨Q, B, Fl, s⟩) := apart_v _ _
              rw [hcv] at HAP1
              obtain ⟨mb, hmb⟩ : ∃ x, (mayC ⟨TC.P, TC.A, TC.E, TC.r⟩ && mayC ⟨Q, B, Fl, s⟩) = x := ⟨_, rfl⟩
              rw [hmb] at HAP1
              obtain ⟨⟨⟨yx, yy, yz⟩, yg⟩, hy⟩ : ∃ x, apP TC ⟨Q, B, Fl, s⟩ = x := ⟨_, rfl⟩
              rw [hy] at HAP1 HST
              unfold apV at HAP1
              dsimp only at HAP1 HST
              clear hTC hcv hmb hy
              go_upto_region 9 with fail
              obtain ⟨X, hX⟩ : ∃ W, W = wr := ⟨_, rfl⟩
              rw [← hX] at HS ⊢
              have HTR : Hid _ := fun (w' : World) (h : Below X.heap.size X w') => HTR1.out w' (b_step HS.out.below h)
              have HAP : Hid _ := fun (vp va ve : Value) (w' : World) (h : Below X.heap.size X w') => HAP1.out vp va ve w' (b_step HS.out.below h)
              clear HTR1 HAP1 hX
              refine RV.region_by2 (fun j v w => match j with | 0 => v = .agg #[.slice o1 P.length c1, .slice o2 A.length c2, .slice o3 E.length c3, .int .i64 r] | 1 => v = .agg #[.int .i64 wx, .int .i64 wY, .int .i64 wz] | 2 => v = .int .i64 (k : Int) | 3 => v = .int .i64 ((k : Int) + 1) | 4 => (fun v w => ∃ vp va ve, v = .agg #[vp, va, ve, .int .i64 TC.r] ∧ w.ownsRow X.heap.size 23 3 vp TC.P.length (fl3 TC.P) ∧ w.ownsRow X.heap.size 23 3 va TC.A.length (fl3 TC.A) ∧ w.ownsRow X.heap.size 23 3 ve TC.E.length (fl3 TC.E)) v w | 5 => v = .agg #[.slice o4 Q.length c4, .slice o5 B.length c5, .slice o6 Fl.length c6, .int .i64 s] | 6 => v = .tuple #[.agg #[.int .i64 yx, .int .i64 yy, .int .i64 yz, .int .i64 yg], .bool mb] | 7 => v = .tuple #[.agg #[.int .i64 yx, .int .i64 yy, .int .i64 yz, .int .i64 yg], .bool mb] | 8 => v = .agg #[.int .i64 yx, .int .i64 yy, .int .i64 yz, .int .i64 yg] | 9 => v = .bool mb | 10 => True | 11 => True | 12 => v = .bool mb | _ => True) (fun γ L w => Below X.heap.size X w ∧ RV.Pend X 71 10 11 #[.int .i64 yx, .int .i64 yy, .int .i64 yz, .int .i64 yg] γ L w) (by kernel_rfl) (by kernel_rfl) (by kernel_rfl) (by kernel_rfl) ?_ ?_ ?_
              · exact ⟨(Below.refl _ X).drew, RV.Pend.start rfl⟩
              · generalize hD : dstOf _ = D
                generalize hWA : waitsFor _ = WA
                generalize hZ : Act.mk _ _ = Z
                obtain ⟨R, hR⟩ : ∃ R : Nat → Value → World → Prop, R = (fun j v w => match j with | 0 => v = .agg #[.slice o1 P.length c1, .slice o2 A.length c2, .slice o3 E.length c3, .int .i64 r] | 1 => v = .agg #[.int .i64 wx, .int .i64 wY, .int .i64 wz] | 2 => v = .int .i64 (k : Int) | 3 => v = .int .i64 ((k : Int) + 1) | 4 => (fun v w => ∃ vp va ve, v = .agg #[vp, va, ve, .int .i64 TC.r] ∧ w.ownsRow X.heap.size 23 3 vp TC.P.length (fl3 TC.P) ∧ w.ownsRow X.heap.size 23 3 va TC.A.length (fl3 TC.A) ∧ w.ownsRow X.heap.size 23 3 ve TC.E.length (fl3 TC.E)) v w | 5 => v = .agg #[.slice o4 Q.length c4, .slice o5 B.length c5, .slice o6 Fl.length c6, .int .i64 s] | 6 => v = .tuple #[.agg #[.int .i64 yx, .int .i64 yy, .int .i64 yz, .int .i64 yg], .bool mb] | 7 => v = .tuple #[.agg #[.int .i64 yx, .int .i64 yy, .int .i64 yz, .int .i64 yg], .bool mb] | 8 => v = .agg #[.int .i64 yx, .int .i64 yy, .int .i64 yz, .int .i64 yg] | 9 => v = .bool mb | 10 => True | 11 => True | 12 => v = .bool mb | _ => True) := ⟨_, rfl⟩
                rw [← hR]
                have kn : RV.Kn R [.some (.agg #[.slice o1 P.length c1, .slice o2 A.length c2, .slice o3 E.length c3, .int .i64 r]), .some (.agg #[.int .i64 wx, .int .i64 wY, .int .i64 wz]), .some (.int .i64 (k : Int)), .some (.int .i64 ((k : Int) + 1)), none, .some (.agg #[.slice o4 Q.length c4, .slice o5 B.length c5, .slice o6 Fl.length c6, .int .i64 s]), .some (.tuple #[.agg #[.int .i64 yx, .int .i64 yy, .int .i64 yz, .int .i64 yg], .bool mb]), .some (.tuple #[.agg #[.int .i64 yx, .int .i64 yy, .int .i64 yz, .int .i64 yg], .bool mb]), .some (.agg #[.int .i64 yx, .int .i64 yy, .int .i64 yz, .int .i64 yg]), .some (.bool mb), none, none, .some (.bool mb)] 0 := by rw [hR]; exact ⟨fun _ _ => Iff.rfl, fun _ _ => Iff.rfl, fun _ _ => Iff.rfl, fun _ _ => Iff.rfl, fun _ _ => Iff.rfl, fun _ _ => Iff.rfl, fun _ _ => Iff.rfl, fun _ _ => Iff.rfl, fun _ _ => Iff.rfl, fun _ _ => Iff.rfl, trivial⟩
                have T := RV.kfacts [47, 48, 49, 50, 51, 52, 53, 46, 54, 55, 13, 0, 14] [(3, .pointer (some ⟨ab, 0, none⟩)), (4, .pointer (some ⟨wb, 0, none⟩)), (5, .pointer (some ⟨bb, 0, none⟩)), (11, .int .i64 (k : Int))] hD hZ kn ⟨rfl, rfl, rfl, rfl, trivial⟩ (by kernel_rfl) (by kernel_rfl)
                simp only [RV.Outs, RV.Slots, Nat.reduceAdd] at T
                have r4 : ∀ v w, R 4 v w = ((fun v w => ∃ vp va ve, v = .agg #[vp, va, ve, .int .i64 TC.r] ∧ w.ownsRow X.heap.size 23 3 vp TC.P.length (fl3 TC.P) ∧ w.ownsRow X.heap.size 23 3 va TC.A.length (fl3 TC.A) ∧ w.ownsRow X.heap.size 23 3 ve TC.E.length (fl3 TC.E)) v w) := fun v w => by rw [hR]; rfl
                have r10 : ∀ v w, R 10 v w = (True) := fun v w => by rw [hR]; rfl
                have r11 : ∀ v w, R 11 v w = (True) := fun v w => by rw [hR]; rfl
                have K : ∀ j v w w', Below w.heap.size w w' → R j v w → R j v w' := by
                  intro j v w w' hb h
                  rw [hR] at h ⊢
                  match j with
                  | 4 => obtain ⟨vp, va, ve, h1, h2, h3, h4⟩ := h; exact ⟨vp, va, ve, h1, own_below h2 hb, own_below h3 hb, own_below h4 hb⟩
                  | 0 => exact h
                  | 1 => exact h
                  | 2 => exact h
                  | 3 => exact h
                  | 5 => exact h
                  | 6 => exact h
                  | 7 => exact h
                  | 8 => exact h
                  | 9 => exact h
                  | 10 => exact h
                  | 11 => exact h
                  | 12 => exact h
                  | (_ + 13) => trivial
                have K4 : ∀ j v w b cs a1 a2 a3 a4, w.heap[b]? = some (.cells cs 71 (0, 0)) → R j v w → R j v (set4 w b a1 a2 a3 a4) := by
                  intro j v w b cs a1 a2 a3 a4 hb h
                  rw [hR] at h ⊢
                  match j with
                  | 4 => obtain ⟨vp, va, ve, h1, h2, h3, h4⟩ := h; exact ⟨vp, va, ve, h1, own_set4 h2 (own_unlike h2 hb (by decide)) _ _ _ _, own_set4 h3 (own_unlike h3 hb (by decide)) _ _ _ _, own_set4 h4 (own_unlike h4 hb (by decide)) _ _ _ _⟩
                  | 0 => exact h
                  | 1 => exact h
                  | 2 => exact h
                  | 3 => exact h
                  | 5 => exact h
                  | 6 => exact h
                  | 7 => exact h
                  | 8 => exact h
                  | 9 => exact h
                  | 10 => exact h
                  | 11 => exact h
                  | 12 => exact h
                  | (_ + 13) => trivial
                iterate 4 first
                  | (refine RV.AllDo.cons _ (RV.pk kn T (fun γ v L w hl h => ⟨h.1, h.2.other v (by decide) (by decide)⟩) (fun γ L a w hH hl h9 k9 => ⟨_, ?_, rfl⟩)) ?_; · simp [execOp, go_sem, h9])
                  | (refine RV.AllDo.cons _ (RV.pk kn T (fun γ v L w hl h => ⟨h.1, h.2.other v (by decide) (by decide)⟩) (fun γ L a w hH hl h9 k9 => ⟨_, ?_, rfl⟩)) ?_; · simp [Region.binds] at k9; simp [execOp, go_sem, h9, k9, wk1])
                  | (refine RV.AllDo.cons _ (RV.pk kn T (fun γ v L w hl h => ⟨h.1, h.2.other v (by decide) (by decide)⟩) (fun γ L a w hH hl h9 k9 => ⟨_, ?_, rfl⟩)) ?_; · have wz0 := Cel.step HS.out.cw hH.glob.1 0 _ rfl; have wz1 := Cel.step HS.out.cw hH.glob.1 1 _ rfl; have wz2 := Cel.step HS.out.cw hH.glob.1 2 _ rfl; simp [execOp, go_sem, h9, wz0, wz1, wz2])
                  | (refine RV.AllDo.cons _ (RV.pk kn T (fun γ v L w hl h => ⟨h.1, h.2.other v (by decide) (by decide)⟩) (fun γ L a w hH hl h9 k9 => ⟨_, ?_, rfl⟩)) ?_; · have wz0 := Cel.step HS.out.ca hH.glob.1 0 _ rfl; have wz1 := Cel.step HS.out.ca hH.glob.1 1 _ rfl; have wz2 := Cel.step HS.out.ca hH.glob.1 2 _ rfl; have wz3 := Cel.step HS.out.ca hH.glob.1 3 _ rfl; simp [execOp, go_sem, h9, wz0, wz1, wz2, wz3])
                refine RV.AllDo.cons _ (RV.does_call (fun γ L a w hH hl hA => by have h9 := T _ _ γ L a w hH; have k9 := hA; simp [Region.binds] at k9; exact ⟨25, #[.agg #[.slice o1 P.length c1, .slice o2 A.length c2, .slice o3 E.length c3, .int .i64 r], .agg #[.int .i64 wx, .int .i64 wY, .int .i64 wz], .int .i64 ((k : Int) + 1)], by simp [go_sem, h9, k9], Calls.mono (HTR.out w hH.glob.1) (by rintro e w2 ⟨vp, va, ve, rfl, h3⟩; have hb9 := h3.below; exact ⟨_, rfl, (r4 _ _).mpr ⟨_, _, _, rfl, own_le h3.rp hH.glob.1.size, own_le h3.ra hH.glob.1.size, own_le h3.re hH.glob.1.size⟩, fun j v _ h => K j v _ _ hb9 h, ⟨b_step hH.glob.1 hb9, (hH.glob.2.below hb9).other _ (by decide) (by decide)⟩⟩)⟩)) ?_
                (refine RV.AllDo.cons _ (RV.pk kn T (fun γ v L w hl h => ⟨h.1, h.2.other v (by decide) (by decide)⟩) (fun γ L a w hH hl h9 k9 => ⟨_, ?_, rfl⟩)) ?_; · have wz0 := Cel.step HS.out.cb hH.glob.1 0 _ rfl; have wz1 := Cel.step HS.out.cb hH.glob.1 1 _ rfl; have wz2 := Cel.step HS.out.cb hH.glob.1 2 _ rfl; have wz3 := Cel.step HS.out.cb hH.glob.1 3 _ rfl; simp [execOp, go_sem, h9, wz0, wz1, wz2, wz3])
                refine RV.AllDo.cons _ (RV.does_call (fun γ L a w hH hl hA => by have h9 := T _ _ γ L a w hH; have k9 := hA; simp [Region.binds] at k9; have l0 : L 4 = true := hA ⟨4, .data⟩ (by simp) rfl; have e0 := hH.slot 4 50 (by rw [← hD]; rfl) l0; have g0 := hH.holds 4 l0; rw [r4] at g0; obtain ⟨vp, va, ve, hv, hp1, ha1, he1⟩ := g0; rw [hv] at e0; exact ⟨60, #[.agg #[vp, va, ve, .int .i64 TC.r], .agg #[.slice o4 Q.length c4, .slice o5 B.length c5, .slice o6 Fl.length c6, .int .i64 s]], by simp [go_sem, e0, h9, k9], Calls.mono (HAP.out vp va ve w hH.glob.1 (Lies.of_row hp1) (Lies.of_row ha1) (Lies.of_row he1)) (by rintro e w2 ⟨rfl, hb9⟩; exact ⟨_, rfl, ((kn.at (k := 6) rfl _ _).2 rfl), fun j v _ h => K j v _ _ hb9 h, ⟨b_step hH.glob.1 hb9, (hH.glob.2.below hb9).other _ (by decide) (by decide)⟩⟩)⟩)) ?_
                iterate 3 (refine RV.AllDo.cons _ (RV.pk kn T (fun γ v L w hl h => ⟨h.1, h.2.other v (by decide) (by decide)⟩) (fun γ L a w hH hl h9 k9 => ⟨_, ?_, rfl⟩)) ?_; · simp [Region.binds] at k9; simp [execOp, go_sem, h9, k9])
                refine RV.AllDo.cons _ (RV.does_step (fun γ L a w hH hl hA => by have h10 : L 11 = false := RV.not_yet hH (RV.wt (j := 11) (i := 10) hWA (by kernel_rfl)) hl; have hb9 := n_after w (.cells #[.int .i64 0, .int .i64 0, .int .i64 0, .int .i64 0] 71); exact ⟨.pointer (some ⟨w.heap.size, 0, none⟩), w.alloc (.cells #[.int .i64 0, .int .i64 0, .int .i64 0, .int .i64 0] 71), by simp [execOp, go_sem], (r10 _ _).mpr trivial, fun j v _ h => K j v _ _ hb9 h, b_step hH.glob.1 hb9, RV.Pend.made _ rfl hH.glob.1.size h10 (by decide)⟩)) ?_
                refine RV.AllDo.cons _ (RV.does_store (fun γ L a w hH hl hA => by have h9 := T _ _ γ L a w hH; have k9 := hA; simp [Region.binds] at k9; have l0 : L 10 = true := hA ⟨10, .data⟩ (by simp) rfl; have e0 := hH.slot 10 12 (by rw [← hD]; rfl) l0; obtain ⟨b, cs, hb1, hb2, hb3, hb4, _⟩ := hH.glob.2 l0; rw [hb1] at e0; obtain ⟨u0, u1, u2, u3, rfl⟩ := arr4k hb4; have z09 : w.cell? ⟨b, 0, none⟩ = some u0 := (by simp [World.cell?, hb3]); have z19 : w.cell? ⟨b, 1, none⟩ = some u1 := (by simp [World.cell?, hb3]); have z29 : w.cell? ⟨b, 2, none⟩ = some u2 := (by simp [World.cell?, hb3]); have z39 : w.cell? ⟨b, 3, none⟩ = some u3 := (by simp [World.cell?, hb3]); have zf : ∀ o, w.frozen? ⟨b, o, none⟩ = false := fun o => (by simp [World.frozen?, hb3]); exact ⟨set4 w b (.int .i64 yx) (.int .i64 yy) (.int .i64 yz) (.int .i64 yg), by simp [set4, execOp, go_sem, e0, z09, z19, z29, z39, zf, h9, k9], (r11 _ _).mpr trivial, fun j v _ h => K4 j v w b _ _ _ _ _ hb3 h, set4_below hH.glob.1 hb2 _ _ _ _, RV.Pend.filled hb1 hb2 (by have q0 := Go.heap_setCell_same w b 0 _ _ (.int .i64 yx) hb3; have q1 := Go.heap_setCell_same _ b 1 _ _ (.int .i64 yy) q0; have q2 := Go.heap_setCell_same _ b 2 _ _ (.int .i64 yz) q1; have q3 := Go.heap_setCell_same _ b 3 _ _ (.int .i64 yg) q2; simpa [set4] using q3) (by decide) _⟩)) ?_
                (refine RV.AllDo.cons _ (RV.pk kn T (fun γ v L w hl h => ⟨h.1, h.2.other v (by decide) (by decide)⟩) (fun γ L a w hH hl h9 k9 => ⟨_, ?_, rfl⟩)) ?_; · simp [Region.binds] at k9; simp [execOp, go_sem, h9, k9])
                exact RV.AllDo.nil
              · intro γ a5 w5 L9 hL hLo hH
                have ha := RV.held_act hH hL (by kernel_rfl) (by kernel_rfl)
                obtain ⟨nb, cs, hb1, hb2, hb3, _, hb5⟩ := hH.glob.2 (hL 10 (by decide))
                rw [hb5 (hL 11 (by decide))] at hb3
                have hB5 := hH.glob.1
                have e12 : γ 12 = .bool mb := hH.holds 12 (hL 12 (by decide))
                rw [ha]
                clear ha hH hL hLo hb5
                simp only [RV.putAll, Act.put, List.setIfInBounds_toArray, List.set_cons_zero, List.set_cons_succ, Nat.zero_add, Nat.reduceAdd]
                rw [hb1, e12]
                obtain ⟨W5, hW5⟩ : ∃ X : World, X = w5 := ⟨_, rfl⟩
                rw [← hW5] at hB5 hb3 ⊢
                have CY : Hid (Cel W5 nb [.int .i64 yx, .int .i64 yy, .int .i64 yz, .int .i64 yg]) := fun k v e => by match k, e with | 0, e => cases e; simp [World.cell?, hb3] | 1, e => cases e; simp [World.cell?, hb3] | 2, e => cases e; simp [World.cell?, hb3] | 3, e => cases e; simp [World.cell?, hb3]
                have HS : Hid _ := HS.out.step hB5
                clear hW5 hb1 hb3 hB5 hb2 e12
                have u3 := CY.out 3 _ rfl
                by_cases hneg : yg < 0
                · have HE : Hid (CR = ((k : Nat), (⟨xx, xy, xz⟩, xg))) := by show _ = _; rw [HE.out, HST.out, if_pos hneg]
                  obtain ⟨z0, zf0⟩ := HS.out.cr 0 _ rfl
                  obtain ⟨z1, zf1⟩ := HS.out.cr 1 _ rfl
                  obtain ⟨z2, zf2⟩ := HS.out.cr 2 _ rfl
                  obtain ⟨z3, zf3⟩ := HS.out.cr 3 _ rfl
                  have v0 := (HS.out.cx 0 _ rfl).1
                  have v1 := (HS.out.cx 1 _ rfl).1
                  have v2 := (HS.out.cx 2 _ rfl).1
                  have v3 := (HS.out.cx 3 _ rfl).1
                  have HB9 : Hid _ := set4_below HS.out.below HR0.out (.int .i64 xx) (.int .i64 xy) (.int .i64 xz) (.int .i64 xg)
                  unfold set4 at HB9
                  go_upto_region 11 with fail
                  clear CY HST HAP HTR u3
                  go_region
                  go_wp2
                  exact bodyPost_ret (v := .tuple #[.int .i64 (k : Int), .agg #[.int .i64 xx, .int .i64 xy, .int .i64 xz, .int .i64 xg], .bool true]) (by simp [results, Tryz.results21, go_sem, z0, z1, z2, z3]) rfl ⟨by rw [HE.out]; rfl, HB9.out.drew⟩
                · have HE : Hid (CR = castF ⟨P, A, E, r⟩ ⟨wx, wY, wz⟩ ⟨Q, B, Fl, s⟩ (16 - (k + 1)) (k + 1) (⟨yx, yy, yz⟩, yg)) := by show _ = _; rw [HE.out, HST.out, if_neg hneg]
                  have HS2 : Hid _ := HS.out.put hne yx yy yz yg
                  have u0 := CY.out 0 _ rfl
                  have u1 := CY.out 1 _ rfl
                  have u2 := CY.out 2 _ rfl
                  obtain ⟨v0, vf0⟩ := HS.out.cx 0 _ rfl
                  obtain ⟨v1, vf1⟩ := HS.out.cx 1 _ rfl
                  obtain ⟨v2, vf2⟩ := HS.out.cx 2 _ rfl
                  obtain ⟨v3, vf3⟩ := HS.out.cx 3 _ rfl
                  unfold set4 at HS2
                  clear HS CY HST HAP HTR
                  go_wp2_with (fail)
                  go_roundg (16 - (k + 1))
                  case measure => have := HG.out; omega
                  case rel => exact ⟨k + 1, yx, yy, yz, yg, by go_num, by omega, rfl, HS2, HE⟩
            · obtain rfl : k = 16 := by omega
              have HE : Hid (CR = (16, (⟨xx, xy, xz⟩, xg))) := HE.out
              obtain ⟨z0, zf0⟩ := HS.out.cr 0 _ rfl
              obtain ⟨z1, zf1⟩ := HS.out.cr 1 _ rfl
              obtain ⟨z2, zf2⟩ := HS.out.cr 2 _ rfl
              obtain ⟨z3, zf3⟩ := HS.out.cr 3 _ rfl
              have v0 := (HS.out.cx 0 _ rfl).1
              have v1 := (HS.out.cx 1 _ rfl).1
              have v2 := (HS.out.cx 2 _ rfl).1
              have v3 := (HS.out.cx 3 _ rfl).1
              have HB9 : Hid _ := set4_below HS.out.below HR0.out (.int .i64 xx) (.int .i64 xy) (.int .i64 xz) (.int .i64 xg)
              unfold set4 at HB9
              clear HS HST0 HTR0 HAP0
              go_wp2_with (go_region)
              exact bodyPost_ret (v := .tuple #[.int .i64 16, .agg #[.int .i64 xx, .int .i64 xy, .int .i64 xz, .int .i64 xg], .bool true]) (by simp [results, Tryz.results21, go_sem, z0, z1, z2, z3]) rfl ⟨by rw [HE.out]; rfl, HB9.out.drew⟩
end Go.Proofs.YtbhdfjoagajipaaGreat
namespace Go.Proofs.YtbhdfjoagajipaaGreat
set_option linter.unusedVariables false
set_option maxRecDepth 100000

theorem short_small {p : Pt} (hp : p.inB 1048576 = true) : p.short = p.low.low := by
  unfold Pt.short
  rw [if_pos (inB_mono hp (by decide))]
  unfold Pt.half
  rw [halveF_id _ _ (Pt.low_in hp)]
theorem ex_low : ∀ n, n < 161 → 0 < n → (Pt.low (Pt.low ⟨(n : Nat), 0, 0⟩)) = ⟨1, 0, 0⟩ := by decide +kernel
theorem ex_short_n {n : Nat} (h : n < 161) (h0 : 0 < n) : Pt.short ⟨(n : Int), 0, 0⟩ = ⟨1, 0, 0⟩ := by
  rw [short_small (by rw [Pt.inB_iff]; dsimp only; omega)]
  exact ex_low n h h0
theorem ex_short_0 : Pt.short ⟨0, 0, 0⟩ = ⟨0, 0, 0⟩ := by
  rw [short_small (by decide)]
  decide +kernel
theorem ex_lng_0 : Pt.lng ⟨0, 0, 0⟩ = Pt.O := by
  unfold Pt.lng
  rw [ex_short_0, if_pos (by rfl)]
abbrev exB : Cr := ⟨[⟨20, 0, 0⟩], [], [], 2⟩
theorem ex_wayE {d : Pt} (h : d = ⟨1, 0, 0⟩ ∨ d = ⟨0, 0, 0⟩) : wayE d ⟨1, 0, 0⟩ = ⟨0, 0, 0⟩ := by
  have e : Pt.cross ⟨1, 0, 0⟩ d = ⟨0, 0, 0⟩ := by rcases h with rfl | rfl <;> decide
  unfold wayE
  rw [e, ex_short_0]
  decide
/-- A trail along the first axis. -/
theorem exw_told {n : Nat} (h1 : 1 ≤ n) (h2 : n ≤ 20) (r : Int) : told ⟨[⟨0, 0, 0⟩, ⟨n, 0, 0⟩], [], [⟨1, 0, 0⟩], r⟩ exB = (⟨1048576, 0, 0⟩, 20 - n - r - 2) := by
  have d0 : wayD ⟨0, 0, 0⟩ ⟨20, 0, 0⟩ = ⟨1, 0, 0⟩ := ex_short_n (n := 20) (by omega) (by omega)
  have hc : candL ⟨[⟨0, 0, 0⟩, ⟨n, 0, 0⟩], [], [⟨1, 0, 0⟩], r⟩ exB = [⟨1, 0, 0⟩, ⟨0, 0, 0⟩, wayD ⟨n, 0, 0⟩ ⟨20, 0, 0⟩, wayE (wayD ⟨n, 0, 0⟩ ⟨20, 0, 0⟩) ⟨1, 0, 0⟩] := by
    unfold candL crossL wayL wayR wayG
    simp [d0, ex_wayE]
  have ro1 : room ⟨1048576, 0, 0⟩ [⟨0, 0, 0⟩, ⟨n, 0, 0⟩] [⟨20, 0, 0⟩] = (20 - n) * 1048576 := by
    unfold room loP hiP
    simp [loK, hiK, pt, Pt.dot]
    omega
  have ro2 : room ⟨-1048576, 0, 0⟩ [⟨0, 0, 0⟩, ⟨n, 0, 0⟩] [⟨20, 0, 0⟩] = (-20) * 1048576 := by
    unfold room loP hiP
    simp [loK, hiK, pt, Pt.dot]
    omega
  have hb : ∃ M, both (candL ⟨[⟨0, 0, 0⟩, ⟨n, 0, 0⟩], [], [⟨1, 0, 0⟩], r⟩ exB) = ⟨1048576, 0, 0⟩ :: ⟨-1048576, 0, 0⟩ :: M ∧ ∀ m ∈ M, m = (⟨1048576, 0, 0⟩ : Pt) ∨ m = ⟨-1048576, 0, 0⟩ := by
    rw [hc]
    by_cases hn : n = 20
    · subst hn
      have d1 : wayD ⟨((20 : Nat) : Int), 0, 0⟩ ⟨20, 0, 0⟩ = ⟨0, 0, 0⟩ := ex_short_0
      rw [d1, ex_wayE (Or.inr rfl)]
      refine ⟨[], ?_, by simp⟩
      simp only [both, ex_lng, ex_lng_0]
      rfl
    · have d1 : wayD ⟨(n : Int), 0, 0⟩ ⟨20, 0, 0⟩ = ⟨1, 0, 0⟩ := by
        have e : Pt.sub ⟨20, 0, 0⟩ ⟨(n : Int), 0, 0⟩ = ⟨((20 - n : Nat) : Int), 0, 0⟩ := by
          unfold Pt.sub
          simp
          omega
        unfold wayD
        rw [e]
        exact ex_short_n (by omega) (by omega)
      rw [d1, ex_wayE (Or.inl rfl)]
      refine ⟨[⟨1048576, 0, 0⟩, ⟨-1048576, 0, 0⟩], ?_, by simp⟩
      simp only [both, ex_lng, ex_lng_0]
      rfl
  obtain ⟨M, hM, hMm⟩ := hb
  exact told_x hM hMm ro1 ro2 (by omega)
theorem exw_told0 (r : Int) : told ⟨[⟨0, 0, 0⟩], [], [], r⟩ exB = (⟨1048576, 0, 0⟩, 20 - r - 2) := by
  have d0 : wayD ⟨0, 0, 0⟩ ⟨20, 0, 0⟩ = ⟨1, 0, 0⟩ := ex_short_n (n := 20) (by omega) (by omega)
  have hc : candL ⟨[⟨0, 0, 0⟩], [], [], r⟩ exB = [⟨1, 0, 0⟩] := by
    unfold candL crossL wayL wayR wayG
    simp [d0]
  have ro1 : room ⟨1048576, 0, 0⟩ [⟨0, 0, 0⟩] [⟨20, 0, 0⟩] = 20 * 1048576 := by
    unfold room loP hiP
    simp [loK, hiK, pt, Pt.dot]
  have ro2 : room ⟨-1048576, 0, 0⟩ [⟨0, 0, 0⟩] [⟨20, 0, 0⟩] = (-20) * 1048576 := by
    unfold room loP hiP
    simp [loK, hiK, pt, Pt.dot]
  have hb : both (candL ⟨[⟨0, 0, 0⟩], [], [], r⟩ exB) = ⟨1048576, 0, 0⟩ :: ⟨-1048576, 0, 0⟩ :: [] := by
    rw [hc]
    simp only [both, ex_lng]
    rfl
  exact told_x hb (by simp) ro1 ro2 (by omega)
theorem ex_trail {r m : Int} {k n : Nat} (hr : 0 ≤ r ∧ r ≤ 65536) (hm : m = 32 ∨ m = 160) (hk : k ≤ 16) (hn : (m * k).tdiv 16 = n) : trailC ⟨[⟨0, 0, 0⟩], [], [], r⟩ ⟨m, 0, 0⟩ k = ⟨[⟨0, 0, 0⟩, ⟨n, 0, 0⟩], [], [⟨1, 0, 0⟩], r⟩ := by
  have hg : goB ⟨[⟨0, 0, 0⟩], [], [], r⟩ ⟨m, 0, 0⟩ = true := by
    unfold goB
    simp only [Bool.and_eq_true, decide_eq_true_eq]
    refine ⟨⟨⟨⟨⟨by simp, by decide⟩, by simp⟩, by simp⟩, hr⟩, by rw [Pt.inB_iff]; rcases hm with rfl | rfl <;> decide⟩
  rw [trail_yes hg (by omega)]
  have hs : Pt.short ⟨m, 0, 0⟩ = ⟨1, 0, 0⟩ := by
    rcases hm with rfl | rfl
    · exact ex_short_n (n := 32) (by omega) (by omega)
    · exact ex_short_n (n := 160) (by omega) (by omega)
  rw [hs]
  have hw : wayBy ⟨m, 0, 0⟩ (k : Int) = ⟨(n : Int), 0, 0⟩ := by
    unfold wayBy
    dsimp only
    rw [hn]
    simp
  rw [hw]
  simp [Pt.mov, keepD, Pt.O]
theorem ex_mayT {r : Int} {n : Nat} (hr : 0 ≤ r ∧ r ≤ 65536) (hn : n ≤ 160) : mayC ⟨[⟨0, 0, 0⟩, ⟨(n : Int), 0, 0⟩], [], [⟨1, 0, 0⟩], r⟩ = true := by
  unfold mayC
  simp only [Bool.and_eq_true, decide_eq_true_eq, List.all_eq_true]
  refine ⟨⟨⟨⟨by simp, ?_⟩, by simp⟩, ⟨by simp, by decide⟩⟩, hr⟩
  intro p hp
  simp only [List.mem_cons, List.not_mem_nil, or_false] at hp
  rcases hp with rfl | rfl
  · decide
  · rw [Pt.inB_iff]; dsimp only; omega
theorem ex_apP {r : Int} {n : Nat} (hr : 0 ≤ r ∧ r ≤ 65536) (h1 : 1 ≤ n) (h2 : n ≤ 20) : apP ⟨[⟨0, 0, 0⟩, ⟨(n : Int), 0, 0⟩], [], [⟨1, 0, 0⟩], r⟩ exB = (⟨1048576, 0, 0⟩, 20 - n - r - 2) := by
  unfold apP
  rw [ex_mayT hr (by omega), show mayC exB = true from by decide, Bool.and_self, if_pos rfl]
  exact exw_told h1 h2 r
theorem ex_apP0 {r : Int} (hr : 0 ≤ r ∧ r ≤ 65536) : apP ⟨[⟨0, 0, 0⟩], [], [], r⟩ exB = (⟨1048576, 0, 0⟩, 20 - r - 2) := by
  unfold apP
  have : mayC ⟨[⟨0, 0, 0⟩], [], [], r⟩ = true := by
    unfold mayC
    simp only [Bool.and_eq_true, decide_eq_true_eq]
    exact ⟨⟨⟨⟨by simp, by decide⟩, by simp⟩, by simp⟩, hr⟩
  rw [this, show mayC exB = true from by decide, Bool.and_self, if_pos rfl]
  exact exw_told0 r
theorem ex_castB {r m : Int} (hr : 0 ≤ r ∧ r ≤ 65536) (hm : m = 32 ∨ m = 160) : castB ⟨[⟨0, 0, 0⟩], [], [], r⟩ ⟨m, 0, 0⟩ exB = true := by
  unfold castB
  simp only [Bool.and_eq_true]
  refine ⟨⟨?_, by rcases hm with rfl | rfl <;> decide⟩, by decide⟩
  unfold goB
  simp only [Bool.and_eq_true, decide_eq_true_eq]
  exact ⟨⟨⟨⟨⟨by simp, by decide⟩, by simp⟩, by simp⟩, hr⟩, by rw [Pt.inB_iff]; rcases hm with rfl | rfl <;> decide⟩
theorem ex_go {r m : Int} {k n j : Nat} {x : Pt × Int} (hr : 0 ≤ r ∧ r ≤ 65536) (hm : m = 32 ∨ m = 160) (hk : k + 1 ≤ 16) (hn : (m * ((k + 1 : Nat) : Int)).tdiv 16 = n) (h1 : 1 ≤ n) (h2 : n ≤ 20) : castF ⟨[⟨0, 0, 0⟩], [], [], r⟩ ⟨m, 0, 0⟩ exB (j + 1) k x = if (20 - n - r - 2 : Int) < 0 then (k, x) else castF ⟨[⟨0, 0, 0⟩], [], [], r⟩ ⟨m, 0, 0⟩ exB j (k + 1) (⟨1048576, 0, 0⟩, 20 - n - r - 2) := by
  have e : apP (trailC ⟨[⟨0, 0, 0⟩], [], [], r⟩ ⟨m, 0, 0⟩ ((k : Int) + 1)) exB = (⟨1048576, 0, 0⟩, 20 - n - r - 2) := by
    rw [show ((k : Int) + 1) = ((k + 1 : Nat) : Int) by omega, ex_trail hr hm hk hn, ex_apP hr h1 h2]
  simp only [castF]
  rw [e]
theorem ex_cast : castR ⟨[⟨0, 0, 0⟩], [], [], 2⟩ ⟨32, 0, 0⟩ exB = (8, ⟨1048576, 0, 0⟩, 0) := by
  unfold castR
  rw [ex_castB (by decide) (Or.inl rfl), if_pos rfl, ex_apP0 (by decide), if_neg (by decide)]
  rw [ex_go (n := 2) (by decide) (Or.inl rfl) (by decide) (by decide) (by decide) (by decide), if_neg (by decide)]
  rw [ex_go (n := 4) (by decide) (Or.inl rfl) (by decide) (by decide) (by decide) (by decide), if_neg (by decide)]
  rw [ex_go (n := 6) (by decide) (Or.inl rfl) (by decide) (by decide) (by decide) (by decide), if_neg (by decide)]
  rw [ex_go (n := 8) (by decide) (Or.inl rfl) (by decide) (by decide) (by decide) (by decide), if_neg (by decide)]
  rw [ex_go (n := 10) (by decide) (Or.inl rfl) (by decide) (by decide) (by decide) (by decide), if_neg (by decide)]
  rw [ex_go (n := 12) (by decide) (Or.inl rfl) (by decide) (by decide) (by decide) (by decide), if_neg (by decide)]
  rw [ex_go (n := 14) (by decide) (Or.inl rfl) (by decide) (by decide) (by decide) (by decide), if_neg (by decide)]
  rw [ex_go (n := 16) (by decide) (Or.inl rfl) (by decide) (by decide) (by decide) (by decide), if_neg (by decide)]
  rw [ex_go (n := 18) (by decide) (Or.inl rfl) (by decide) (by decide) (by decide) (by decide), if_pos (by decide)]
  rfl
end Go.Proofs.YtbhdfjoagajipaaGreat
namespace Go.Proofs.YtbhdfjoagajipaaGreat
set_option linter.unusedVariables false
set_option maxRecDepth 100000

/-! ### Chapter 18's examples -/
abbrev exC : Cr := ⟨[⟨3, 0, 0⟩], [], [], 2⟩
theorem exd_told : told ⟨[⟨0, 0, 0⟩], [], [], 2⟩ exC = (⟨1048576, 0, 0⟩, 3 - 2 - 2) := by
  have d0 : wayD ⟨0, 0, 0⟩ ⟨3, 0, 0⟩ = ⟨1, 0, 0⟩ := ex_short_n (n := 3) (by omega) (by omega)
  have hc : candL ⟨[⟨0, 0, 0⟩], [], [], 2⟩ exC = [⟨1, 0, 0⟩] := by
    unfold candL crossL wayL wayR wayG
    simp [d0]
  have ro1 : room ⟨1048576, 0, 0⟩ [⟨0, 0, 0⟩] [⟨3, 0, 0⟩] = 3 * 1048576 := by
    unfold room loP hiP
    simp [loK, hiK, pt, Pt.dot]
  have ro2 : room ⟨-1048576, 0, 0⟩ [⟨0, 0, 0⟩] [⟨3, 0, 0⟩] = (-3) * 1048576 := by
    unfold room loP hiP
    simp [loK, hiK, pt, Pt.dot]
  have hb : both (candL ⟨[⟨0, 0, 0⟩], [], [], 2⟩ exC) = ⟨1048576, 0, 0⟩ :: ⟨-1048576, 0, 0⟩ :: [] := by
    rw [hc]
    simp only [both, ex_lng]
    rfl
  exact told_x hb (by simp) ro1 ro2 (by omega)
def exT : V3 := ⟨33554432, 0, 0⟩
def exO : V3 := ⟨0, 0, 0⟩
theorem ex_ball : ballC exO 2 = ⟨[⟨0, 0, 0⟩], [], [], 2⟩ := rfl
theorem ex_way : wayZ exO exT = ⟨32, 0, 0⟩ := by decide
theorem exh_1 : hK exO exT 2 [exB] = 8 := by
  unfold hK
  rw [ex_ball, ex_way]
  show holdK _ _ [exB] 1 = 8
  have e : cr [exB] 0 = exB := rfl
  have hp : holdP ⟨[⟨0, 0, 0⟩], [], [], 2⟩ ⟨32, 0, 0⟩ exB = true := by
    unfold holdP
    rw [ex_cast, ex_castB (by decide) (Or.inl rfl)]
    rfl
  unfold holdK
  rw [e, hp, if_pos rfl, ex_cast]
  rfl
theorem exh_2 : hK exO exT 2 [exC] = 16 := by
  unfold hK
  rw [ex_ball, ex_way]
  refine hold_none fun i hi => ?_
  have e : i = 0 := by simp at hi; exact hi
  subst e
  have e2 : cr [exC] 0 = exC := rfl
  rw [e2]
  unfold holdP
  cases hb : castB ⟨[⟨0, 0, 0⟩], [], [], 2⟩ ⟨32, 0, 0⟩ exC with
  | false => rfl
  | true =>
    have ha : apP ⟨[⟨0, 0, 0⟩], [], [], 2⟩ exC = (⟨1048576, 0, 0⟩, 3 - 2 - 2) := by
      unfold apP
      rw [show mayC ⟨[⟨0, 0, 0⟩], [], [], 2⟩ = true from by decide, show mayC exC = true from by decide, Bool.and_self, if_pos rfl]
      exact exd_told
    have hr : castR ⟨[⟨0, 0, 0⟩], [], [], 2⟩ ⟨32, 0, 0⟩ exC = (0, ⟨1048576, 0, 0⟩, 3 - 2 - 2) := by
      unfold castR
      rw [hb, if_pos rfl, ha, if_pos (by decide)]
    rw [hr]
    decide
theorem exv_1 : holdV exO exT 2 [exB] = (⟨16777216, 0, 0⟩, 8) ∧ holdN exO exT 2 [exB] = false := by
  obtain ⟨h1, h2⟩ := al_small (f := exO) (t := exT) (k := ((8 : Nat) : Int)) (by unfold V3.in45 exO; decide) (by unfold V3.in45 exT; decide) (by decide)
  unfold holdV holdN
  rw [exh_1, if_neg (by decide), h2, h1]
  exact ⟨rfl, rfl⟩
theorem exv_2 : holdV exO exT 2 [exC] = (exT, 16) ∧ holdN exO exT 2 [exC] = false := by
  unfold holdV holdN
  rw [exh_2, if_pos rfl]
  exact ⟨rfl, rfl⟩

/-! ### Balls, ways and shapes that may be -/
/-! ### A wall behind -/
end Go.Proofs.YtbhdfjoagajipaaGreat
namespace Go.Proofs.YtbhdfjoagajipaaGreat
open Go.RowKit Fx

/-- A shape: a value (0), a box's pointer (1), a slice of so many (2). -/
structure Shape where
  k : Nat
  v : Value
  n : Nat
@[reducible] def Shape.is (v : Value) : Shape := ⟨0, v, 0⟩
@[reducible] def Shape.ptr : Shape := ⟨1, undef, 0⟩
@[reducible] def Shape.row (n : Nat) : Shape := ⟨2, undef, n⟩
structure Made where
  i : Nat
  s : Nat
  cs : List Value

structure Plan where
  W : World
  N : Nat
  p : Addr
  fl : Addr
  g0 : Bool
  bad : Bool
  f : Bool
  calls : List (Nat × Bool)
  tl : Nat
  st : Nat
  r : Nat
  res : List Value
  fixed : List (Addr × Value)
  made : List Made

structure Plan.Good (π : Plan) : Prop where
  wn : π.W.heap.size ≤ π.N
  rr : π.res = [] ∨ (π.W.heap.size ≤ π.r ∧ π.r < π.N ∧ π.fl.block ≠ π.r ∧ π.p.block ≠ π.r ∧ ∀ c ∈ π.fixed, c.1.block ≠ π.r)
  fl0 : π.fl = π.p ∨ π.W.heap.size ≤ π.fl.block
  fl1 : π.fl.block < π.N
  p0 : π.fl = π.p ∨ π.p.block < π.W.heap.size
  fx : ∀ c ∈ π.fixed, c.1.block < π.N ∧ c.1.block ≠ π.fl.block ∧ c.1.block ≠ π.p.block
  badOf : π.bad = true → π.g0 = true ∨ ∃ c ∈ π.calls, c.2 = true
  callBad : ∀ c ∈ π.calls, c.2 = true → π.bad = true

def upd (γ : Nat → Nat) (i b : Nat) : Nat → Nat := fun j => if j = i then b else γ j
section
variable {P : Program} {Q : Exit → Act → World → Prop} {D : Nat → Option Tmp} {A : Nat → Nat → Prop} {sh : Nat → Shape} {π : Plan} {a₀ : Act}

end

end Go.Proofs.YtbhdfjoagajipaaGreat
namespace Go.Proofs.YtbhdfjoagajipaaGreat
open Go.RowKit Fx

theorem Leaves.own {p : Addr} {W w : World} (h : Leaves p W w) (v : Value) : Leaves p W (w.setCell p v) := by
  refine ⟨by simpa [World.setCell] using h.size, fun q hq hne => ?_, fun B w' hb h1 h2 => (h.below B w' hb h1 h2).setCell h1 v, ⟨h.kept.1, h.kept.2.1, h.kept.2.2.1, fun i hi hne => (Below.heap_setCell _ _ _ _ hne).trans (h.kept.2.2.2 i hi hne)⟩, fun hp o ho => ⟨(World.cell?_setCell_other _ _ _ _ (fun e => ho (by cases p; exact ((Addr.mk.inj e).2.1).symm))).trans (h.beside hp o ho).1, by rw [show (w.setCell p v).frozen? ⟨p.block, o, none⟩ = w.frozen? ⟨p.block, o, none⟩ by simp [go_sem]]; exact (h.beside hp o ho).2⟩⟩
  exact ⟨(World.cell?_of_block (w := w) (Below.heap_setCell _ _ _ _ hne)).trans (h.other q hq hne).1, (World.frozen?_of_block (w := w) (Below.heap_setCell _ _ _ _ hne)).trans (h.other q hq hne).2⟩

end Go.Proofs.YtbhdfjoagajipaaGreat
namespace Go.Proofs.YtbhdfjoagajipaaGreat
open Go.RowKit Go.Shelf
set_option linter.unusedVariables false

/-- A turn's matrix. -/
structure M9 where
  a0 : Int
  a1 : Int
  a2 : Int
  a3 : Int
  a4 : Int
  a5 : Int
  a6 : Int
  a7 : Int
  a8 : Int
def M9.v (m : M9) : Value := .agg #[.int .i64 m.a0, .int .i64 m.a1, .int .i64 m.a2, .int .i64 m.a3, .int .i64 m.a4, .int .i64 m.a5, .int .i64 m.a6, .int .i64 m.a7, .int .i64 m.a8]
/-- All three, or none. -/
def opt3 (a b c : Option Int) : Option Pt := match a, b, c with
  | some x, some y, some z => some ⟨x, y, z⟩
  | _, _, _ => none
def M9.turn (m : M9) (x : Pt) : Option Pt := opt3 (Fx.dot [m.a0, m.a1, m.a2] [x.x, x.y, x.z]) (Fx.dot [m.a3, m.a4, m.a5] [x.x, x.y, x.z]) (Fx.dot [m.a6, m.a7, m.a8] [x.x, x.y, x.z])
def Pt.times (p : Pt) (n : Int) : Pt := ⟨IntKind.i64.wrap (p.x * n), IntKind.i64.wrap (p.y * n), IntKind.i64.wrap (p.z * n)⟩
/-- A turn as it is handed in. -/
structure Q4 where
  w : Int
  x : Int
  y : Int
  z : Int
end Go.Proofs.YtbhdfjoagajipaaGreat
namespace Go.Proofs.YtbhdfjoagajipaaGreat
open Go.RowKit Go.Shelf
set_option linter.unusedVariables false

def longF : Nat → Pt → Pt
  | 0, p => p
  | n + 1, p => if p.inB 524288 then longF n (p.plus p) else p
def Pt.long (p : Pt) : Pt := if p = Pt.O then p else longF 20 p
def Pt.big (p : Pt) (n : Nat) : Prop := 2 ^ n ≤ p.x.natAbs ∨ 2 ^ n ≤ p.y.natAbs ∨ 2 ^ n ≤ p.z.natAbs
end Go.Proofs.YtbhdfjoagajipaaGreat
namespace Go.Proofs.YtbhdfjoagajipaaGreat
open Go.RowKit Go.Shelf
attribute [local go_sem] Oper.semAt_some
set_option linter.unusedVariables false

def Bx.l (b : Bx) : List Value := [.int .i64 b.lo.x, .int .i64 b.lo.y, .int .i64 b.lo.z, .int .i64 b.hi.x, .int .i64 b.hi.y, .int .i64 b.hi.z]
end Go.Proofs.YtbhdfjoagajipaaGreat
namespace Go.Proofs.YtbhdfjoagajipaaGreat
open Go.RowKit Fx
set_option linter.unusedVariables false

/-- A matrix of which no part is too great. -/
structure M9.Fit (m : M9) : Prop where
  h0 : -8589934592 ≤ m.a0 ∧ m.a0 ≤ 8589934592
  h1 : -8589934592 ≤ m.a1 ∧ m.a1 ≤ 8589934592
  h2 : -8589934592 ≤ m.a2 ∧ m.a2 ≤ 8589934592
  h3 : -8589934592 ≤ m.a3 ∧ m.a3 ≤ 8589934592
  h4 : -8589934592 ≤ m.a4 ∧ m.a4 ≤ 8589934592
  h5 : -8589934592 ≤ m.a5 ∧ m.a5 ≤ 8589934592
  h6 : -8589934592 ≤ m.a6 ∧ m.a6 ≤ 8589934592
  h7 : -8589934592 ≤ m.a7 ∧ m.a7 ≤ 8589934592
  h8 : -8589934592 ≤ m.a8 ∧ m.a8 ≤ 8589934592
end Go.Proofs.YtbhdfjoagajipaaGreat
namespace Go.Proofs.YtbhdfjoagajipaaGreat
open Go.RowKit Fx
set_option linter.unusedVariables false

def sgn (b : Bool) (x : Int) : Int := cond b (-x) x
/-- A matrix that turns parts about, or doesn't. -/
structure M9.Dg (m : M9) (b0 b1 b2 : Bool) : Prop where
  h0 : m.a0 = sgn b0 4294967296
  h1 : m.a1 = 0
  h2 : m.a2 = 0
  h3 : m.a3 = 0
  h4 : m.a4 = sgn b1 4294967296
  h5 : m.a5 = 0
  h6 : m.a6 = 0
  h7 : m.a7 = 0
  h8 : m.a8 = sgn b2 4294967296
end Go.Proofs.YtbhdfjoagajipaaGreat
namespace Go.Proofs.YtbhdfjoagajipaaGreat.Ref

/-- The number of the first n digits. -/
def val (d : Nat → Int) : Nat → Int
  | 0 => 0
  | n + 1 => val d n + d n * 16777216 ^ n

/-- Digits. -/
def Digs (d : Nat → Int) : Prop := ∀ j, j < 8 → 0 ≤ d j ∧ d j < 16777216

def put (d : Nat → Int) (k : Nat) (v : Int) : Nat → Int := fun j => if j = k then v else d j
theorem put_same (d : Nat → Int) (k : Nat) (v : Int) : put d k v k = v := by simp [put]
theorem put_other (d : Nat → Int) {k j : Nat} (v : Int) (h : j ≠ k) : put d k v j = d j := by simp [put, h]

theorem pos (n : Nat) : (0 : Int) < 16777216 ^ n := Int.pow_pos (by omega)

theorem val_ext {d e : Nat → Int} : ∀ n, (∀ j, j < n → d j = e j) → val d n = val e n
  | 0, _ => rfl
  | n + 1, h => by
    simp only [val]
    rw [val_ext n (fun j hj => h j (by omega)), h n (by omega)]

theorem val_put_ge (d : Nat → Int) (k : Nat) (v : Int) (n : Nat) (h : n ≤ k) : val (put d k v) n = val d n :=
  val_ext n fun j hj => put_other d v (by omega)

theorem val_put (d : Nat → Int) (k : Nat) (v : Int) : ∀ n, k < n → val (put d k v) n = val d n + (v - d k) * 16777216 ^ k
  | 0, h => by omega
  | n + 1, h => by
    simp only [val]
    by_cases e : k = n
    · subst e
      rw [val_put_ge d k v k (Nat.le_refl _), put_same, Int.sub_mul]; omega
    · rw [val_put d k v n (by omega), put_other d v (by omega : n ≠ k)]; omega

theorem val_nonneg {d : Nat → Int} : ∀ n, (∀ j, j < n → 0 ≤ d j) → 0 ≤ val d n
  | 0, _ => by simp [val]
  | n + 1, h => by
    have a := val_nonneg n (fun j hj => h j (by omega))
    have b := Int.mul_nonneg (h n (by omega)) (Int.le_of_lt (pos n))
    simp only [val]; omega

theorem val_lt {d : Nat → Int} : ∀ n, (∀ j, j < n → 0 ≤ d j ∧ d j < 16777216) → val d n < 16777216 ^ n
  | 0, _ => by simp [val]
  | n + 1, h => by
    have a := val_lt n (fun j hj => h j (by omega))
    have b := Int.mul_le_mul_of_nonneg_right (by have := h n (by omega); omega : d n ≤ 16777215) (Int.le_of_lt (pos n))
    simp only [val, Int.pow_succ]; omega

theorem Digs.nonneg {d : Nat → Int} (h : Digs d) : 0 ≤ val d 8 := val_nonneg 8 fun j hj => (h j hj).1
theorem Digs.lt {d : Nat → Int} (h : Digs d) : val d 8 < 6277101735386680763835789423207666416102355444464034512896 := by
  have := val_lt 8 h; simpa using this
theorem Digs.put {d : Nat → Int} (h : Digs d) (k : Nat) {v : Int} (hv : 0 ≤ v ∧ v < 16777216) : Digs (put d k v) := by
  intro j hj
  by_cases e : j = k
  · subst e; rw [put_same]; exact hv
  · rw [put_other d v e]; exact h j hj

/-- One digit of a product. -/
theorem mul_step {V c o x y P R : Int} (h : V + c * P = R) : V + ((o + x * y + c) % 16777216 - o) * P + (o + x * y + c) / 16777216 * (P * 16777216) = R + x * y * P := by
  have e := Int.emod_add_mul_ediv (o + x * y + c) 16777216
  obtain ⟨r, hr⟩ : ∃ r, r = (o + x * y + c) % 16777216 := ⟨_, rfl⟩
  obtain ⟨q, hq⟩ : ∃ q, q = (o + x * y + c) / 16777216 := ⟨_, rfl⟩
  rw [← hr, ← hq] at e ⊢
  have : (r + 16777216 * q) * P = (o + x * y + c) * P := by rw [e]
  grind

/-- The digits of an int's size. -/
def dig (u : Int) (j : Nat) : Int := u / 16777216 ^ j % 16777216

theorem dig_step (u : Int) (k : Nat) : u / 16777216 ^ k / 16777216 = u / 16777216 ^ (k + 1) := by
  rw [Int.pow_succ, Int.ediv_ediv_of_nonneg (Int.le_of_lt (pos k))]

theorem val_dig (u : Int) : ∀ n, val (dig u) n = u % 16777216 ^ n
  | 0 => by simp [val, Int.emod_one]
  | n + 1 => by
    simp only [val, val_dig u n, dig]
    rw [Int.pow_succ]
    have h1 := Int.emod_add_mul_ediv u (16777216 ^ n)
    have h2 := Int.emod_add_mul_ediv (u / 16777216 ^ n) 16777216
    have hp := pos n
    have b1 := Int.emod_nonneg u (by omega : (16777216 : Int) ^ n ≠ 0)
    have b2 := Int.emod_lt_of_pos u hp
    have b3 := Int.emod_nonneg (u / 16777216 ^ n) (by omega : (16777216 : Int) ≠ 0)
    have b4 := Int.emod_lt_of_pos (u / 16777216 ^ n) (by omega : (0 : Int) < 16777216)
    generalize (16777216 : Int) ^ n = P at *
    generalize u % P = r at *
    generalize u / P = q at *
    generalize q % 16777216 = s at *
    generalize q / 16777216 = t at *
    have hs : s * P ≤ 16777215 * P := Int.mul_le_mul_of_nonneg_right (by omega) (by omega)
    have hs0 : 0 ≤ s * P := Int.mul_nonneg b3 (by omega)
    have e : u = (P * 16777216) * t + (r + s * P) := by rw [← h1, ← h2]; grind
    rw [e, Int.mul_add_emod_self_left, Int.emod_eq_of_lt (by omega) (by omega)]

/-- A number by its sign and its digits. -/
def sv (s : Bool) (d : Nat → Int) : Int := if s then -val d 8 else val d 8
end Go.Proofs.YtbhdfjoagajipaaGreat.Ref
