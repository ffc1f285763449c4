/- Package narrow: gaps, what may be, reaches. -/
import Derived.Test.YtfalniafkambmaaBNS18
import Derived.Scope
import Derived.OrdersIn
namespace Go.Proofs.Ytfalniafkambmaa
open Go.RowKit Go.Shelf
set_option linter.unusedVariables false

def coreA (pv av ev : Value) (r : Int) : Value := .agg #[pv, av, ev, .int .i64 r]
theorem Cells4.new (w : World) (a b c : Value) (r : Int) (t : TypeId) : (w.alloc (.cells #[a, b, c, .int .i64 r] t)).cell? ⟨w.heap.size, 0, none⟩ = some a ∧ (w.alloc (.cells #[a, b, c, .int .i64 r] t)).cell? ⟨w.heap.size, 1, none⟩ = some b ∧ (w.alloc (.cells #[a, b, c, .int .i64 r] t)).cell? ⟨w.heap.size, 2, none⟩ = some c ∧ (w.alloc (.cells #[a, b, c, .int .i64 r] t)).cell? ⟨w.heap.size, 3, none⟩ = some (.int .i64 r) := by simp [go_sem]

set_option maxHeartbeats 4000000 in
set_option maxRecDepth 100000 in
theorem nmay_any (c : Cr) (pv av ev : Value) (w0 : World) (hp : Lies w0 pv c.P) (ha : Lies w0 av c.A) (he : Lies w0 ev c.E) :
    Calls Try.prog 17 #[coreA pv av ev c.r] w0 fun e W => e = .returned (.bool (mayC c)) ∧ Below w0.heap.size w0 W := by
  obtain ⟨P, A, E, r⟩ := c
  dsimp only at *
  obtain ⟨o, cap, rfl, hlc, hcm, _⟩ := hp.form
  obtain ⟨o2, cap2, rfl, _, _, _⟩ := ha.form
  obtain ⟨o3, cap3, rfl, _, _, _⟩ := he.form
  have H1 : Hid _ := fun w' => nbetween_any (P.length : Int) 1 32 w'
  have H2 : Hid _ := fun (w' : World) (h : Below w0.heap.size w0 w') => nall_any P 16777216 _ w' (hp.below h) (by decide) (by decide)
  have H3 : Hid _ := fun (w' : World) (h : Below w0.heap.size w0 w') => ndir_any A _ w' (ha.below h)
  have H4 : Hid _ := fun (w' : World) (h : Below w0.heap.size w0 w') => ndir_any E _ w' (he.below h)
  have H5 : Hid _ := fun w' => nbetween_any r 0 65536 w'
  have HM : Hid (mayC ⟨P, A, E, r⟩ = (decide (1 ≤ P.length ∧ P.length ≤ 32) && P.all (·.inB 16777216) && (decide (A.length ≤ 128) && A.all (·.inB 1048576)) && (decide (E.length ≤ 128) && E.all (·.inB 1048576)) && decide (0 ≤ r ∧ r ≤ 65536))) := rfl
  have e1 : decide (1 ≤ (P.length : Int) ∧ (P.length : Int) ≤ 32) = decide (1 ≤ P.length ∧ P.length ≤ 32) := by simp only [decide_eq_decide]; omega
  rw [e1] at H1
  clear hp ha he e1
  generalize decide (1 ≤ P.length ∧ P.length ≤ 32) = k1 at *
  generalize P.all (·.inB 16777216) = k2 at *
  generalize (decide (A.length ≤ 128) && A.all (·.inB 1048576)) = k3 at *
  generalize (decide (E.length ≤ 128) && E.all (·.inB 1048576)) = k4 at *
  generalize decide (0 ≤ r ∧ r ≤ 65536) = k5 at *
  unfold coreA at *
  go_enter Try.func17, Try.ntmps17
  obtain ⟨V, hV⟩ : ∃ V, V = w0.alloc (.cells #[.slice o P.length cap, .slice o2 A.length cap2, .slice o3 E.length cap3, .int .i64 r] 36) := ⟨_, rfl⟩
  obtain ⟨cb, hcb⟩ : ∃ b, b = w0.heap.size := ⟨_, rfl⟩
  have HB : Hid (Below w0.heap.size w0 V) := by show Below _ _ _; rw [hV]; exact n_after _ _
  have HC : Hid _ := Cells4.new w0 (.slice o P.length cap) (.slice o2 A.length cap2) (.slice o3 E.length cap3) r 36
  rw [← hV, ← hcb] at HC
  go_upto_region 1 with fail
  rw [← hV, ← hcb]
  clear hV hcb
  have q0 := HC.out.1
  go_wp2_with (fail)
  refine Calls.mono (H1.out _) ?_
  rintro e V1 ⟨rfl, rfl⟩
  cases k1 with
  | false =>
    go_wp2_with (fail)
    go_ret
    exact ⟨by rw [HM.out]; rfl, HB.out⟩
  | true =>
    go_wp2_with (fail)
    refine Calls.mono (H2.out _ HB.out) ?_
    rintro e V2 ⟨rfl, hb⟩
    have q1 := c_after hb HC.out.2.1
    have q2 := c_after hb HC.out.2.2.1
    have q3 := c_after hb HC.out.2.2.2
    have HB : Hid _ := b_step HB.out hb
    clear hb q0 HC
    cases k2 with
    | false =>
      go_wp2_with (fail)
      go_ret
      exact ⟨by rw [HM.out]; rfl, HB.out⟩
    | true =>
      go_wp2_with (fail)
      refine Calls.mono (H3.out _ HB.out) ?_
      rintro e V3 ⟨rfl, hb⟩
      have q2 := c_after hb q2
      have q3 := c_after hb q3
      have HB : Hid _ := b_step HB.out hb
      clear hb q1
      cases k3 with
      | false =>
        go_wp2_with (fail)
        go_ret
        exact ⟨by rw [HM.out]; rfl, HB.out⟩
      | true =>
        go_wp2_with (fail)
        refine Calls.mono (H4.out _ HB.out) ?_
        rintro e V4 ⟨rfl, hb⟩
        have q3 := c_after hb q3
        have HB : Hid _ := b_step HB.out hb
        clear hb
        cases k4 with
        | false =>
          go_wp2_with (fail)
          go_ret
          exact ⟨by rw [HM.out]; rfl, HB.out⟩
        | true =>
          go_wp2_with (fail)
          refine Calls.mono (H5.out _) ?_
          rintro e V5 ⟨rfl, rfl⟩
          go_wp2_with (fail)
          go_ret
          exact ⟨by rw [HM.out]; rfl, HB.out⟩

theorem gap_rng {P Q : List Pt} {n : Pt} (h0 : 0 < P.length) (h1 : 0 < Q.length) (hP : ∀ p ∈ P, p.inB 16777216 = true) (hQ : ∀ p ∈ Q, p.inB 16777216 = true) (hn : n.inB 1048576 = true) :
    (-52776558133248 ≤ loP n Q ∧ loP n Q ≤ 52776558133248) ∧ (-52776558133248 ≤ hiP n P ∧ hiP n P ≤ 52776558133248) :=
  ⟨loK_in hn hQ (by decide) _ (by omega), hiK_in hn hP (by decide) _ (by omega)⟩
theorem tdiv_rng {a b C : Int} (h : 0 ≤ a ∧ a ≤ C) (hb : 0 < b) : 0 ≤ a.tdiv b ∧ a.tdiv b ≤ C := by
  rw [Int.tdiv_eq_ediv_of_nonneg h.1]
  refine ⟨Int.ediv_nonneg h.1 (by omega), ?_⟩
  have := Int.ediv_le_self (a := a) b h.1
  omega
set_option maxHeartbeats 4000000 in
set_option maxRecDepth 100000 in
theorem ngap_any (a b : Cr) (n : Pt) (pv av ev qv bv fv : Value) (w0 : World) (hp : Lies w0 pv a.P) (ha : Lies w0 av a.A) (he : Lies w0 ev a.E) (hq : Lies w0 qv b.P) (hb : Lies w0 bv b.A) (hf : Lies w0 fv b.E)
    (h0 : 0 < a.P.length) (h1 : 0 < b.P.length) (hP : ∀ p ∈ a.P, p.inB 16777216 = true) (hQ : ∀ p ∈ b.P, p.inB 16777216 = true) (hr : 0 ≤ a.r ∧ a.r ≤ 65536) (hs : 0 ≤ b.r ∧ b.r ≤ 65536) (hn : n.inB 1048576 = true) (hd : 0 < dn n) :
    Calls Try.prog 19 #[coreA pv av ev a.r, coreA qv bv fv b.r, n.v] w0 fun e W => e = .returned (.int .i64 (gapZ a.P b.P a.r b.r n)) ∧ Below w0.heap.size w0 W := by
  obtain ⟨P, A, E, r⟩ := a
  obtain ⟨Q, B, F, s⟩ := b
  dsimp only at *
  obtain ⟨o, cap, rfl, hlc, hcm, _⟩ := hp.form
  obtain ⟨o2, cap2, rfl, _, _, _⟩ := ha.form
  obtain ⟨o3, cap3, rfl, _, _, _⟩ := he.form
  obtain ⟨o4, cap4, rfl, _, _, _⟩ := hq.form
  obtain ⟨o5, cap5, rfl, _, _, _⟩ := hb.form
  obtain ⟨o6, cap6, rfl, _, _, _⟩ := hf.form
  have HE1 : Hid _ := fun (w' : World) (h : Below w0.heap.size w0 w') => nends_any n P _ w' (hp.below h) h0 (inB_mono hn (by decide)) (fun p h => inB_mono (hP p h) (by decide))
  have HE2 : Hid _ := fun (w' : World) (h : Below w0.heap.size w0 w') => nends_any n Q _ w' (hq.below h) h1 (inB_mono hn (by decide)) (fun p h => inB_mono (hQ p h) (by decide))
  have HS : Hid _ := fun w' => nsizes_any n w'
  have hin : n.inB 16777216 = true := inB_mono hn (by decide)
  have e1 : dnT n = dn n := by simp [dnT, hin]
  have e2 : upT n = up n := by simp [upT, hin]
  rw [e1, e2] at HS
  have hu : up n = dn n ∨ up n = dn n + 1 := by unfold up; split <;> simp
  have hdr := dn_rng hin
  obtain ⟨g1, g2⟩ := gap_rng h0 h1 hP hQ hn
  have HG : Hid (gapZ P Q r s n = (if 0 ≤ loP n Q - hiP n P then (loP n Q - hiP n P).tdiv (up n) else -((dn n - 1 - (loP n Q - hiP n P)).tdiv (dn n))) - r - s) := rfl
  clear hp ha he hq hb hf hin e1 e2 hP hQ hn h0 h1
  generalize loP n Q = lo at *
  generalize hiP n P = hi at *
  generalize dn n = d at *
  generalize up n = u at *
  generalize gapZ P Q r s n = res at *
  generalize loP n P = lo' at *
  generalize hiP n Q = hi' at *
  obtain ⟨nx, ny, nz⟩ := n
  unfold coreA Pt.v at *
  dsimp only at *
  obtain ⟨V, hV⟩ : ∃ V, V = ((w0.alloc (.cells #[.slice o P.length cap, .slice o2 A.length cap2, .slice o3 E.length cap3, .int .i64 r] 36)).alloc (.cells #[.slice o4 Q.length cap4, .slice o5 B.length cap5, .slice o6 F.length cap6, .int .i64 s] 36)).alloc (.cells #[.int .i64 nx, .int .i64 ny, .int .i64 nz] 23) := ⟨_, rfl⟩
  obtain ⟨cb, hcb⟩ : ∃ b, b = w0.heap.size := ⟨_, rfl⟩
  have HB : Hid (Below w0.heap.size w0 V) := by show Below _ _ _; rw [hV]; exact b_step (b_step (n_after _ _) (n_after _ _)) (n_after _ _)
  have HC : Hid (V.cell? ⟨cb, 0, none⟩ = some (.slice o P.length cap) ∧ V.cell? ⟨cb, 3, none⟩ = some (.int .i64 r) ∧ V.cell? ⟨cb + 1, 0, none⟩ = some (.slice o4 Q.length cap4) ∧ V.cell? ⟨cb + 1, 3, none⟩ = some (.int .i64 s) ∧ V.cell? ⟨cb + 1 + 1, 0, none⟩ = some (.int .i64 nx) ∧ V.cell? ⟨cb + 1 + 1, 1, none⟩ = some (.int .i64 ny) ∧ V.cell? ⟨cb + 1 + 1, 2, none⟩ = some (.int .i64 nz)) := by
    show _ ∧ _
    rw [hV, hcb]
    simp [go_sem]
  go_enter Try.func19, Try.ntmps19
  go_upto_region 1 with fail
  rw [← hV, ← hcb]
  clear hV hcb
  obtain ⟨q0, q3, r0, r3, n0, n1, n2⟩ := HC.out
  clear HC
  go_wp2_with (fail)
  refine Calls.mono (HE1.out _ HB.out) ?_
  rintro e V1 ⟨rfl, hb⟩
  have q3 := c_after hb q3
  have r0 := c_after hb r0
  have r3 := c_after hb r3
  have n0 := c_after hb n0
  have n1 := c_after hb n1
  have n2 := c_after hb n2
  have HB : Hid _ := b_step HB.out hb
  clear hb
  go_wp2_with (fail)
  refine Calls.mono (HE2.out _ HB.out) ?_
  rintro e V2 ⟨rfl, hb⟩
  have q3 := c_after hb q3
  have r3 := c_after hb r3
  have n0 := c_after hb n0
  have n1 := c_after hb n1
  have n2 := c_after hb n2
  have HB : Hid _ := b_step HB.out hb
  clear hb
  go_wp2_with (fail)
  refine Calls.mono (HS.out _) ?_
  rintro e V3 ⟨rfl, hb⟩
  have q3 := c_after hb q3
  have r3 := c_after hb r3
  have HB : Hid _ := b_step HB.out hb
  clear hb
  obtain ⟨rm, hrm⟩ : ∃ m, lo - hi = m := ⟨_, rfl⟩
  have hrw : IntKind.i64.wrap (lo - hi) = rm := by rw [hrm, IntKind.wrap_i64]; omega
  rw [hrm] at HG
  by_cases hge : 0 ≤ rm
  · rw [if_pos hge] at HG
    have hu0 : 0 < u := by omega
    have ht := tdiv_rng (a := rm) (b := u) (C := 105553116266496) ⟨hge, by omega⟩ hu0
    have HT : Hid _ := ht
    obtain ⟨t, ht2⟩ : ∃ t, rm.tdiv u = t := ⟨_, rfl⟩
    rw [ht2] at HG ht
    have hune : ¬ u = 0 := by omega
    have htw : wrap64 t = t := w64 (by omega) (by omega)
    clear HT hrm
    go_wp2_with (fail)
    go_ret
    exact ⟨by rw [HG.out]; rfl, HB.out⟩
  · rw [if_neg hge] at HG
    obtain ⟨k, hk⟩ : ∃ k, d - 1 - rm = k := ⟨_, rfl⟩
    have hkr : 0 ≤ k ∧ k ≤ 211106232532992 := by omega
    have ht := tdiv_rng (a := k) (b := d) (C := 211106232532992) hkr (by omega)
    obtain ⟨t, ht2⟩ : ∃ t, k.tdiv d = t := ⟨_, rfl⟩
    rw [hk, ht2] at HG
    rw [ht2] at ht
    have hune : ¬ d = 0 := by omega
    have hkw : IntKind.i64.wrap (d - 1 - rm) = k := by rw [hk, IntKind.wrap_i64]; omega
    have htw : wrap64 t = t := w64 (by omega) (by omega)
    clear hrm hk
    go_wp2_with (fail)
    go_ret
    exact ⟨by rw [HG.out]; rfl, HB.out⟩
end Go.Proofs.Ytfalniafkambmaa
namespace Go.Proofs.Ytfalniafkambmaa
open Go.RowKit Go.Shelf
attribute [local go_sem] Oper.semAt_some
set_option linter.unusedVariables false

theorem scope_inN {n : Nat} {P : Program} {c : Code} {Q : Exit → Act → World → Prop} {a : Act} {w : World} (h : c.wpIn Fence.wide n P (Exit.noGoto Q) a w) : (Code.scope c).wpIn Fence.wide n P Q a w :=
  (wpIn_wide (n := n)).2 (wp_scope_straight ((wpIn_wide (n := n)).1 h))
set_option maxHeartbeats 1000000 in
theorem neach_in (o : Option Addr) (k c : Nat) (w : World) : Calls Try.prog 48 #[.slice o k c] w fun e w' => e = .returned (.func (.func 71) #[] #[.pointer (some ⟨w.heap.size, 0, none⟩)]) ∧ w' = w.alloc (.cells #[.slice o k c] 105) := by
  go_enter Try.func48, Try.ntmps48
  go_wp2
  go_ret
  exact ⟨rfl, rfl⟩
/-- Where a list lies is kept. -/
def InS (S : Nat → Prop) (v : Value) (L : List Pt) : Prop := ∀ q n c, v = .slice (some q) n c → L ≠ [] → S q.block

def offs (A B : List Pt) : Nat → Nat
  | 0 => 0
  | 1 => A.length
  | _ => (A ++ B).length
theorem yield_at {n l : Nat} {p q : Pt} {V : World} {K : Ending → World → Prop} (h : YieldAt Fence.wide n Try.prog l #[p.v] V K) (e : p = q) : YieldAt Fence.wide n Try.prog l #[q.v] V K := e ▸ h
set_option maxRecDepth 100000 in
set_option maxHeartbeats 4000000 in
theorem neach_tells (n : Nat) (Bl sb : Nat) (A B : List Pt) (va vb : Value) (S : Nat → Prop) (w : World) (hl : w.cell? ⟨Bl, 0, none⟩ = some (.slice (some ⟨sb, 0, none⟩) 2 2)) (h0 : w.cell? ⟨sb, 0, none⟩ = some va) (h1 : w.cell? ⟨sb, 1, none⟩ = some vb)
    (hA : Lies w va A) (hB : Lies w vb B) (sA : InS S va A) (sB : InS S vb B) (sl : S Bl) (ss : S sb) :
    TellsT n Try.prog 71 #[.pointer (some ⟨Bl, 0, none⟩)] (A ++ B) S w := by
  intro l J W hb hJ hY hJ0
  have cl := c_after hb hl
  have c0 := c_after hb h0
  have c1 := c_after hb h1
  have LA : Hid _ := hA.below hb
  have LB : Hid _ := hB.below hb
  obtain ⟨oa, ca, rfl, ha1, ha2, ha3⟩ := hA.form
  obtain ⟨ob, cb, rfl, hb1, hb2, hb3⟩ := hB.form
  clear hl h0 h1 hA hB ha3 hb3
  refine callsIn_of_wp Try.func71 rfl trivial ?_ rfl
  simp only [Try.ntmps71, List.size_toArray, List.length_cons, List.length_nil, Nat.reduceAdd, Nat.reduceSub, Array.replicate_succ, Array.replicate_zero, List.push_toArray, List.append_toArray, List.nil_append, List.cons_append]
  gi_wp2
  refine scope_inN ?_
  gi_wp2
  refine wpIn_label ?_
  gi_wp2
  gi_loopw [9] (fun s wr => ∃ i : Nat, i ≤ 2 ∧ s = .int .i64 (i : Int) ∧ Hid (J (offs A B i) wr) ∧ Hid (KeepC S W wr)) (fun s _ => 2 - (intOf s).toNat)
  case atStart => exact ⟨0, by omega, rfl, hJ0, KeepC.refl _ _⟩
  case round =>
    obtain ⟨i, hi, rfl, HJ, HK⟩ := hrel
    have d0 := HK.out.cell ⟨sb, 0, none⟩ _ ss c0
    have d1 := HK.out.cell ⟨sb, 1, none⟩ _ ss c1
    match i, hi with
    | 0, _ =>
      rw [show ((0 : Nat) : Int) = 0 from rfl]
      gi_wp2
      gi_loopw [15] (fun s wr2 => ∃ j : Nat, j ≤ A.length ∧ s = .int .i64 (j : Int) ∧ Hid (J (0 + j) wr2) ∧ Hid (KeepC S W wr2)) (fun s _ => A.length - (intOf s).toNat)
      case atStart => exact ⟨0, Nat.zero_le _, rfl, HJ, HK⟩
      case round =>
        clear HJ HK
        obtain ⟨j, hj, rfl, HJ, HK⟩ := hrel
        by_cases hjl : j < A.length
        · obtain ⟨o9, c9, e9, _, _, h9⟩ := (Lies.keepC LA.out HK.out sA).form
          simp only [Value.slice.injEq, true_and] at e9
          obtain ⟨e9, e8⟩ := e9
          subst e9 e8
          obtain ⟨g, f, rfl, x0, x1, x2⟩ := h9 j hjl
          have HE : Hid _ := show pt (A ++ B) (0 + j) = pt A j by rw [Nat.zero_add]; exact pt_left hjl
          have hkl : 0 + j < (A ++ B).length := by rw [List.length_append]; omega
          have HYk : Hid _ := fun V hV => yield_at (hY (0 + j) V hkl hV) HE.out
          have HJ1 : Hid (J (0 + j) (wr.alloc (.cells #[.int .i64 (pt A j).x, .int .i64 (pt A j).y, .int .i64 (pt A j).z] 23))) := own_step hJ HJ.out (n_after _ _)
          have HK1 : Hid (KeepC S W (wr.alloc (.cells #[.int .i64 (pt A j).x, .int .i64 (pt A j).y, .int .i64 (pt A j).z] 23))) := HK.out.trans (KeepC.below (n_after _ _))
          clear h9 hkl HE
          generalize pt A j = q at *
          obtain ⟨qx, qy, qz⟩ := q
          unfold Pt.v at HYk
          dsimp only at *
          obtain ⟨fn, tmps, assign, body, hy, hR⟩ := HYk.out _ HJ1.out
          clear HYk
          gi_wp2
          refine ⟨fun h => (by cases h), hR.mono ?_⟩
          rintro e W3 ⟨rfl, hJ3, hk3, _⟩
          gi_wp2
          go_roundw
          case rel => exact ⟨j + 1, by omega, by simp, (by rw [← Nat.add_assoc]; exact hJ3), HK1.out.trans hk3⟩
          case measure => simp [intOf]; omega
        · obtain rfl : j = A.length := by omega
          gi_wp2
          go_roundw
          case rel => exact ⟨1, by omega, by simp, (show J (offs A B 1) wr by simpa [offs] using HJ.out), HK⟩
          case measure => simp [intOf]
    | 1, _ =>
      rw [show ((1 : Nat) : Int) = 1 from rfl]
      have HJ : Hid (J (A.length + 0) wr) := HJ.out
      gi_wp2
      gi_loopw [15] (fun s wr2 => ∃ j : Nat, j ≤ B.length ∧ s = .int .i64 (j : Int) ∧ Hid (J (A.length + j) wr2) ∧ Hid (KeepC S W wr2)) (fun s _ => B.length - (intOf s).toNat)
      case atStart => exact ⟨0, Nat.zero_le _, rfl, HJ, HK⟩
      case round =>
        clear HJ HK
        obtain ⟨j, hj, rfl, HJ, HK⟩ := hrel
        by_cases hjl : j < B.length
        · obtain ⟨o9, c9, e9, _, _, h9⟩ := (Lies.keepC LB.out HK.out sB).form
          simp only [Value.slice.injEq, true_and] at e9
          obtain ⟨e9, e8⟩ := e9
          subst e9 e8
          obtain ⟨g, f, rfl, x0, x1, x2⟩ := h9 j hjl
          have HE : Hid _ := show pt (A ++ B) (A.length + j) = pt B j from pt_app
          have hkl : A.length + j < (A ++ B).length := by rw [List.length_append]; omega
          have HYk : Hid _ := fun V hV => yield_at (hY (A.length + j) V hkl hV) HE.out
          have HJ1 : Hid (J (A.length + j) (wr.alloc (.cells #[.int .i64 (pt B j).x, .int .i64 (pt B j).y, .int .i64 (pt B j).z] 23))) := own_step hJ HJ.out (n_after _ _)
          have HK1 : Hid (KeepC S W (wr.alloc (.cells #[.int .i64 (pt B j).x, .int .i64 (pt B j).y, .int .i64 (pt B j).z] 23))) := HK.out.trans (KeepC.below (n_after _ _))
          clear h9 hkl HE
          generalize pt B j = q at *
          obtain ⟨qx, qy, qz⟩ := q
          unfold Pt.v at HYk
          dsimp only at *
          obtain ⟨fn, tmps, assign, body, hy, hR⟩ := HYk.out _ HJ1.out
          clear HYk
          gi_wp2
          refine ⟨fun h => (by cases h), hR.mono ?_⟩
          rintro e W3 ⟨rfl, hJ3, hk3, _⟩
          gi_wp2
          go_roundw
          case rel => exact ⟨j + 1, by omega, by simp, (by rw [← Nat.add_assoc]; exact hJ3), HK1.out.trans hk3⟩
          case measure => simp [intOf]; omega
        · obtain rfl : j = B.length := by omega
          gi_wp2
          go_roundw
          case rel => exact ⟨2, by omega, by simp, (show J (offs A B 2) wr by simpa [offs, List.length_append] using HJ.out), HK⟩
          case measure => simp [intOf]
    | 2, _ =>
      rw [show ((2 : Nat) : Int) = 2 from rfl]
      gi_wp2
      rw [Exit.noGoto_normal]
      gi_wp2
      go_end0
      exact ⟨⟨_, rfl⟩, HJ.out⟩
end Go.Proofs.Ytfalniafkambmaa
namespace Go.Proofs.Ytfalniafkambmaa
open Go.RowKit Go.Shelf
attribute [local go_sem] Oper.semAt_some
set_option linter.unusedVariables false

set_option maxHeartbeats 1000000 in
theorem ncrosses_in (o : Option Addr) (k c : Nat) (o2 : Option Addr) (k2 c2 : Nat) (w : World) : Calls Try.prog 49 #[.slice o k c, .slice o2 k2 c2] w fun e w' => e = .returned (.func (.func 72) #[] #[.pointer (some ⟨w.heap.size, 0, none⟩), .pointer (some ⟨w.heap.size + 1, 0, none⟩)]) ∧ w' = (w.alloc (.cells #[.slice o k c] 24)).alloc (.cells #[.slice o2 k2 c2] 24) := by
  go_enter Try.func49, Try.ntmps49
  go_wp2
  go_ret
  exact ⟨rfl, rfl⟩

set_option maxRecDepth 100000 in
set_option maxHeartbeats 4000000 in
theorem ncrosses_tells (n : Nat) (Be Bf : Nat) (E F : List Pt) (ve vf : Value) (S : Nat → Prop) (w : World) (h0 : w.cell? ⟨Be, 0, none⟩ = some ve) (h1 : w.cell? ⟨Bf, 0, none⟩ = some vf)
    (hE : Lies w ve E) (hF : Lies w vf F) (sE : InS S ve E) (sF : InS S vf F) (s0 : S Be) (s1 : S Bf) (hSn : ∀ b, w.heap.size ≤ b → S b) (iE : ∀ p ∈ E, p.inB 1048576 = true) (iF : ∀ p ∈ F, p.inB 1048576 = true) :
    TellsT n Try.prog 72 #[.pointer (some ⟨Be, 0, none⟩), .pointer (some ⟨Bf, 0, none⟩)] (crossL E F) S w := by
  intro l J W hb hJ hY hJ0
  have c0 := c_after hb h0
  have c1 := c_after hb h1
  have LE : Hid _ := hE.below hb
  have LF : Hid _ := hF.below hb
  have HSn : Hid (∀ b, W.heap.size ≤ b → S b) := fun b h => hSn b (Nat.le_trans hb.size h)
  have HX : Hid _ := fun (i j : Nat) (hi : i < E.length) (hj : j < F.length) w' => ncross_any (pt E i) (pt F j) w' (inB_mono (iE _ (pt_mem hi)) (by decide)) (inB_mono (iF _ (pt_mem hj)) (by decide))
  have HT : Hid (∀ i j, i < E.length → j < F.length → pt (crossL E F) (((E.take i).flatMap fun e => F.map fun f => e.cross f).length + j) = (pt E i).cross (pt F j) ∧ ((E.take i).flatMap fun e => F.map fun f => e.cross f).length + j < (crossL E F).length) := fun i j hi hj => by
    unfold crossL
    refine ⟨?_, flat_lt _ E hi (by simpa using hj)⟩
    rw [flat_at _ E hi (by simpa using hj), pt_map hj]
  have HN : Hid (∀ i, i < E.length → ((E.take (i + 1)).flatMap fun e => F.map fun f => e.cross f).length = ((E.take i).flatMap fun e => F.map fun f => e.cross f).length + F.length) := fun i hi => by
    rw [flat_next _ E hi, List.length_map]
  have HZ : Hid (((E.take E.length).flatMap fun e => F.map fun f => e.cross f).length = (crossL E F).length) := by show _ = _; rw [List.take_length]; rfl
  have HJ0 : Hid (J ((E.take 0).flatMap fun e => F.map fun f => e.cross f).length W) := hJ0
  obtain ⟨oe, ce, rfl, ha1, ha2, ha3⟩ := hE.form
  obtain ⟨of, cf, rfl, hb1, hb2, hb3⟩ := hF.form
  clear h0 h1 hE hF ha3 hb3 iE iF hSn hJ0
  refine callsIn_of_wp Try.func72 rfl trivial ?_ rfl
  simp only [Try.ntmps72, List.size_toArray, List.length_cons, List.length_nil, Nat.reduceAdd, Nat.reduceSub, Array.replicate_succ, Array.replicate_zero, List.push_toArray, List.append_toArray, List.nil_append, List.cons_append]
  gi_wp2
  refine scope_inN ?_
  gi_wp2
  refine wpIn_label ?_
  gi_wp2
  gi_loopw [10] (fun s wr => ∃ i : Nat, i ≤ E.length ∧ s = .int .i64 (i : Int) ∧ Hid (J ((E.take i).flatMap fun e => F.map fun f => e.cross f).length wr) ∧ Hid (KeepC S W wr)) (fun s _ => E.length - (intOf s).toNat)
  case atStart => exact ⟨0, Nat.zero_le _, rfl, HJ0, KeepC.refl _ _⟩
  case round =>
    clear HJ0
    obtain ⟨i, hi, rfl, HJ, HK⟩ := hrel
    by_cases hit : i < E.length
    · obtain ⟨o9, c9, e9, _, _, h9⟩ := (Lies.keepC LE.out HK.out sE).form
      simp only [Value.slice.injEq, true_and] at e9
      obtain ⟨e9, e8⟩ := e9
      subst e9 e8
      obtain ⟨g, f, rfl, x0, x1, x2⟩ := h9 i hit
      have d1 := HK.out.cell ⟨Bf, 0, none⟩ _ s1 c1
      have HXi : Hid _ := fun (j : Nat) (hj : j < F.length) w' => HX.out i j hit hj w'
      have HTi : Hid _ := fun (j : Nat) (hj : j < F.length) => HT.out i j hit hj
      have HNi : Hid _ := HN.out i hit
      clear h9 HX HT HN
      generalize ((E.take i).flatMap fun e => F.map fun f => e.cross f).length = base at *
      generalize pt E i = p at *
      obtain ⟨px, py, pz⟩ := p
      obtain ⟨V, hV⟩ : ∃ V, V = wr.alloc (.cells #[.int .i64 px, .int .i64 py, .int .i64 pz] 23) := ⟨_, rfl⟩
      obtain ⟨eb, heb⟩ : ∃ b, b = wr.heap.size := ⟨_, rfl⟩
      have b9 : Below wr.heap.size wr V := by rw [hV]; exact n_after _ _
      have BE : Hid (Box3 V eb ⟨px, py, pz⟩) := by show Box3 _ _ _; rw [hV, heb]; exact Box3.new _ _ _ _ _
      have HJ : Hid (J (base + 0) V) := own_step hJ HJ.out b9
      have HK : Hid (KeepC S W V) := HK.out.trans (KeepC.below b9)
      have hSe : S eb := HSn.out eb (by rw [heb]; exact KeepC.size (S := S) (by assumption))
      have d1x := c_after (n_after wr (.cells #[.int .i64 px, .int .i64 py, .int .i64 pz] 23)) d1
      dsimp only at *
      gi_wp2
      rw [← hV] at d1x ⊢
      rw [← heb]
      clear x0 x1 x2 d1 hV b9 heb
      gi_loopw [16] (fun s wr2 => ∃ j : Nat, j ≤ F.length ∧ s = .int .i64 (j : Int) ∧ Hid (J (base + j) wr2) ∧ Hid (KeepC S V wr2)) (fun s _ => F.length - (intOf s).toNat)
      case atStart => exact ⟨0, Nat.zero_le _, rfl, HJ, KeepC.refl _ _⟩
      case round =>
        clear HJ
        obtain ⟨j, hj, rfl, HJ, HK2⟩ := hrel
        by_cases hjl : j < F.length
        · obtain ⟨o9, c9, e9, _, _, h9⟩ := (Lies.keepC (Lies.keepC LF.out HK.out sF) HK2.out sF).form
          simp only [Value.slice.injEq, true_and] at e9
          obtain ⟨e9, e8⟩ := e9
          subst e9 e8
          obtain ⟨g2, f2, rfl, x0, x1, x2⟩ := h9 j hjl
          have y0 := HK2.out.cell ⟨eb, 0, none⟩ _ hSe BE.out.c0
          have y1 := HK2.out.cell ⟨eb, 1, none⟩ _ hSe BE.out.c1
          have y2 := HK2.out.cell ⟨eb, 2, none⟩ _ hSe BE.out.c2
          dsimp only at y0 y1 y2
          have hebl : eb < wr.heap.size := World.block_lt_of_cell? _ _ y0
          have HXj : Hid _ := fun w' => HXi.out j hjl w'
          obtain ⟨hpt, hlt⟩ := HTi.out j hjl
          have HYk : Hid _ := fun Vx hV => yield_at (hY (base + j) Vx hlt hV) hpt
          clear h9 hlt hpt HXi HTi
          have HJx : Hid (∀ Vx, Below wr.heap.size wr Vx → J (base + j) Vx) := fun Vx h => own_step hJ HJ.out h
          generalize Pt.cross ⟨px, py, pz⟩ (pt F j) = cr at *
          generalize pt F j = q at *
          obtain ⟨qx, qy, qz⟩ := q
          obtain ⟨rx, ry, rz⟩ := cr
          unfold Pt.v at HYk HXj
          dsimp only at *
          gi_wp2
          refine ⟨trivial, fun h => (by cases h), (callsIn_wide.2 (HXj.out _)).mono ?_⟩
          rintro e V4 ⟨rfl, hb4⟩
          have b4 : Below wr.heap.size wr V4 := b_step (n_after _ _) hb4
          obtain ⟨fn, tmps, assign, body, hy, hR⟩ := HYk.out _ (HJx.out _ b4)
          have k4 : Hid (KeepC S wr V4) := KeepC.below b4
          clear HYk HXj hb4 b4 y0 y1 y2 x0 x1 x2
          gi_wp2
          refine ⟨fun h => (by cases h), hR.mono ?_⟩
          rintro e W3 ⟨rfl, hJ3, hk3, _⟩
          gi_wp2
          go_roundw
          case rel => exact ⟨j + 1, by omega, by simp, (by rw [← Nat.add_assoc]; exact hJ3), (HK2.out.trans k4.out).trans hk3⟩
          case measure => simp [intOf]; omega
        · obtain rfl : j = F.length := by omega
          rw [← HNi.out] at HJ
          gi_wp2
          go_roundw
          case rel => exact ⟨i + 1, by omega, by simp, HJ, HK.out.trans HK2.out⟩
          case measure => simp [intOf]; omega
    · obtain rfl : i = E.length := by omega
      rw [HZ.out] at HJ
      gi_wp2
      rw [Exit.noGoto_normal]
      gi_wp2
      go_end0
      exact ⟨⟨_, rfl⟩, HJ.out⟩
end Go.Proofs.Ytfalniafkambmaa
namespace Go.Proofs.Ytfalniafkambmaa
namespace RI
open Go.RowKit Go.Shelf

section
variable {F : Fence} {n : Nat} {P : Program} {ops : Array Oper} {Q : Exit → Act → World → Prop} {md : Region.Mode}

theorem wpAnyIn_by (I : Array Bool → Act → World → Prop)
    (hstep : ∀ listed a w i, listed.size = ops.size → i ∈ Region.ready md ops listed → I listed a w → wpOpIn F n P ops Q i (I (listed.setIfInBounds i true)) a w)
    (hdone : ∀ listed a w, listed.size = ops.size → Region.ready md ops listed = [] → I listed a w → Q .normal a w) :
    ∀ (fuel : Nat) (listed : Array Bool) (a : Act) (w : World), listed.size = ops.size → listed.toList.count false ≤ fuel → I listed a w → wpAnyIn F n P md ops Q fuel listed a w
  | 0, listed, a, w, hs, hf, h => by
    have hr : Region.ready md ops listed = [] := by
      apply List.eq_nil_iff_forall_not_mem.2
      intro i hi
      obtain ⟨h0, o, ho, _⟩ := mem_ready.1 hi
      have hlt : i < listed.size := by rw [hs]; exact (Array.getElem?_eq_some_iff.1 ho).1
      have hm : false ∈ listed.toList := by
        have : listed[i] = false := by simpa [hlt] using h0
        rw [← this]; exact Array.getElem_mem_toList hlt
      have := List.count_pos_iff.2 hm
      omega
    exact ⟨hr, hdone _ _ _ hs hr h⟩
  | fuel + 1, listed, a, w, hs, hf, h => by
    refine ⟨fun hr => hdone _ _ _ hs hr h, fun i hi => ?_⟩
    have hlt : i < listed.size := by
      obtain ⟨h0, o, ho, _⟩ := mem_ready.1 hi
      rw [hs]; exact (Array.getElem?_eq_some_iff.1 ho).1
    have hfalse : listed[i] = false := by
      have := (mem_ready.1 hi).1
      simpa [hlt] using this
    refine wpOpIn_mono (fun a' w' h' => ?_) (hstep _ _ _ _ hs hi h)
    refine wpAnyIn_by I hstep hdone fuel _ a' w' (by simpa using hs) ?_ h'
    have hc : (listed.toList.set i true).count false + 1 = listed.toList.count false := by
      have hl : i < listed.toList.length := by simpa using hlt
      rw [List.count_set hl]
      have : listed.toList[i] = false := by simpa using hfalse
      simp only [this, beq_self_eq_true, if_true]
      have hm : false ∈ listed.toList := by rw [← this]; exact List.getElem_mem hl
      have := List.count_pos_iff.2 hm
      have e : (true == false) = false := rfl
      simp only [e, Bool.false_eq_true, if_false]
      omega
    have : (listed.setIfInBounds i true).toList = listed.toList.set i true := by simp
    rw [this]; omega

/-- Every operation waits for those alone that stand ahead of it. -/
def Tidy : List Oper → Nat → Bool
  | [], _ => true
  | o :: rest, n => (o.after.all fun e => decide (e.on < n)) && Tidy rest (n + 1)

theorem tidy_at : ∀ (l : List Oper) (n i : Nat) (o : Oper), Tidy l n = true → l[i]? = some o → ∀ e ∈ o.after, e.on < n + i
  | [], _, _, _, _, h => by simp at h
  | x :: rest, n, 0, o, ht, h => by
    simp only [Tidy, Bool.and_eq_true] at ht
    simp only [List.getElem?_cons_zero, Option.some.injEq] at h
    subst h
    intro e he
    have := (Array.all_eq_true_iff_forall_mem.1 ht.1) e he
    simpa using this
  | x :: rest, n, i + 1, o, ht, h => by
    simp only [Tidy, Bool.and_eq_true] at ht
    intro e he
    have := tidy_at rest (n + 1) i o ht.2 (by simpa using h) e he
    omega

/-- Where nothing may come up any more, all have come up. -/
theorem all_listed {listed : Array Bool} (ht : Tidy ops.toList 0 = true) (hr : Region.ready md ops listed = []) (hs : listed.size = ops.size) : ∀ i, i < ops.size → listed.getD i false = true := by
  intro i
  induction i using Nat.strongRecOn with
  | _ i ih =>
    intro hi
    cases hl : listed.getD i false with
    | true => rfl
    | false =>
      exfalso
      have ho : ops[i]? = some ops[i] := Array.getElem?_eq_getElem hi
      have hmem : i ∈ Region.ready md ops listed := by
        refine mem_ready.2 ⟨?_, ops[i], ho, fun e he _ => ?_⟩
        · have : i < listed.size := by omega
          simp [this] at hl ⊢; exact hl
        · have := tidy_at ops.toList 0 i ops[i] ht (by simp [hi]) e he
          exact ih e.on (by omega) (by omega)
      rw [hr] at hmem
      simp at hmem

/-- Where an operation leaves its value. -/
def dstOf (ops : Array Oper) (j : Nat) : Option Tmp := (ops[j]?).bind (·.dst)
/-- For whom an operation waits. -/
def waitsFor (ops : Array Oper) (j e : Nat) : Prop := ∃ o, ops[j]? = some o ∧ ∃ x ∈ o.after, Region.binds .any x = true ∧ x.on = e

/-- The slots that the region writes, each by one operation alone. -/
def Once (ops : List Oper) : Bool := (ops.filterMap (·.dst)).Nodup

/-- What holds while the region runs: what has come up has left the value val (γ tells where what the region makes lies); the other slots are as they were; G holds of the world. -/
structure Held (D : Nat → Option Tmp) (A : Nat → Nat → Prop) (val : (Nat → Nat) → Nat → Value) (G : (Nat → Nat) → (Nat → Bool) → World → Prop) (a₀ : Act) (γ : Nat → Nat) (L : Nat → Bool) (a : Act) (w : World) : Prop where
  defers : a.defers = a₀.defers
  size : a.tmps.size = a₀.tmps.size
  slot : ∀ (j : Nat) (t : Tmp), D j = some t → L j = true → a.tmps[t]? = some (val γ j)
  rest : ∀ t : Tmp, (∀ j : Nat, D j ≠ some t) → a.tmps[t]? = a₀.tmps[t]?
  closed : ∀ j e : Nat, A j e → L j = true → L e = true
  glob : G γ L w

/-- With one more. -/
def more (L : Nat → Bool) (i : Nat) : Nat → Bool := fun j => decide (j = i) || L j

/-- Is an operation carried out at all? (Its guard's slot tells.) -/
def wantedD (D : Nat → Option Tmp) (o : Oper) (a : Act) : Bool :=
  match o.guard with
  | none => true
  | some (g, b) => (match (D g).bind (a.tmps[·]?) with | some (.bool x) => some x | _ => none) == some b

theorem wantedD_eq (ops : Array Oper) (o : Oper) (a : Act) : Region.wanted o (yielded ops a.tmps) = wantedD (dstOf ops) o a := by
  unfold Region.wanted wantedD yielded dstOf
  cases o.guard <;> rfl

/-- What an operation must do. -/
def Does (F : Fence) (n : Nat) (P : Program) (Q : Exit → Act → World → Prop) (D : Nat → Option Tmp) (A : Nat → Nat → Prop) (val : (Nat → Nat) → Nat → Value) (G : (Nat → Nat) → (Nat → Bool) → World → Prop) (a₀ : Act) (i : Nat) (o : Oper) : Prop :=
  ∀ (γ : Nat → Nat) (L : Nat → Bool) (a : Act) (w : World), Held D A val G a₀ γ L a w → L i = false → (∀ e ∈ o.after, Region.binds .any e = true → L e.on = true) →
    (wantedD D o a = true → o.wpIn F n P a w (fun a' w' => ∃ v γ', a' = a.put o.dst v ∧ (∀ j, L j = true → val γ' j = val γ j) ∧ (o.dst.isSome = true → v = val γ' i) ∧ G γ' (more L i) w') Q) ∧
    (wantedD D o a = false → (o.dst.isSome = true → undef = val γ i) ∧ G γ (more L i) w)

theorem dst_once (hn : Once ops.toList = true) {i j : Nat} {t : Tmp} (h : dstOf ops i = some t) (h' : dstOf ops j = some t) : i = j := by
  have key : ∀ (l : List Oper), (l.filterMap (·.dst)).Nodup → ∀ (i j : Nat) (o o' : Oper), l[i]? = some o → l[j]? = some o' → o.dst = some t → o'.dst = some t → i = j := by
    intro l
    induction l with
    | nil => intro _ i j o o' hi; simp at hi
    | cons x rest ih =>
      intro hnd i j o o' hi hj h h'
      have hrest : (rest.filterMap (·.dst)).Nodup := by
        rw [List.filterMap_cons] at hnd
        cases hx : x.dst with
        | none => simpa [hx] using hnd
        | some d => rw [hx] at hnd; exact (List.nodup_cons.1 hnd).2
      have hno : x.dst = some t → t ∉ rest.filterMap (·.dst) := by
        intro hx
        rw [List.filterMap_cons, hx] at hnd
        exact (List.nodup_cons.1 hnd).1
      match i, j with
      | 0, 0 => rfl
      | 0, j + 1 =>
        simp only [List.getElem?_cons_zero, Option.some.injEq] at hi
        subst hi
        exact absurd (List.mem_filterMap.2 ⟨o', List.mem_of_getElem? (by simpa using hj), h'⟩) (hno h)
      | i + 1, 0 =>
        simp only [List.getElem?_cons_zero, Option.some.injEq] at hj
        subst hj
        exact absurd (List.mem_filterMap.2 ⟨o, List.mem_of_getElem? (by simpa using hi), h⟩) (hno h')
      | i + 1, j + 1 => have := ih hrest i j o o' (by simpa using hi) (by simpa using hj) h h'; omega
  unfold dstOf at h h'
  obtain ⟨o, ho, hd⟩ := Option.bind_eq_some_iff.1 h
  obtain ⟨o', ho', hd'⟩ := Option.bind_eq_some_iff.1 h'
  exact key ops.toList (of_decide_eq_true hn) i j o o' (by simpa using ho) (by simpa using ho') hd hd'

/-- Each operation of a list from number n on. -/
def AllDo (F : Fence) (n : Nat) (P : Program) (Q : Exit → Act → World → Prop) (D : Nat → Option Tmp) (A : Nat → Nat → Prop) (val : (Nat → Nat) → Nat → Value) (G : (Nat → Nat) → (Nat → Bool) → World → Prop) (a₀ : Act) : List Oper → Nat → Prop
  | [], _ => True
  | o :: rest, k => Does F n P Q D A val G a₀ k o ∧ AllDo F n P Q D A val G a₀ rest (k + 1)

theorem allDo_at {D : Nat → Option Tmp} {A : Nat → Nat → Prop} {val : (Nat → Nat) → Nat → Value} {G : (Nat → Nat) → (Nat → Bool) → World → Prop} {a₀ : Act} : ∀ (l : List Oper) (k i : Nat) (o : Oper), AllDo F n P Q D A val G a₀ l k → l[i]? = some o → Does F n P Q D A val G a₀ (k + i) o
  | [], _, _, _, _, h => by simp at h
  | x :: rest, k, 0, o, ha, h => by
    simp only [List.getElem?_cons_zero, Option.some.injEq] at h
    subst h; exact ha.1
  | x :: rest, k, i + 1, o, ha, h => by
    have := allDo_at rest (k + 1) i o ha.2 (by simpa using h)
    rwa [show k + 1 + i = k + (i + 1) by omega] at this

/-- All slots that the region writes are there. -/
def Fits (ops : List Oper) (n : Nat) : Bool := ops.all fun o => match o.dst with | some t => decide (t < n) | none => true

/-- THE LAW. -/
theorem region_by (hF : ∀ f, F.fn f) {id : Nat} {a₀ : Act} {w : World} (val : (Nat → Nat) → Nat → Value) (G : (Nat → Nat) → (Nat → Bool) → World → Prop) (hm : P.follows .mixedOrders = true)
    (ht : Tidy ops.toList 0 = true) (hn : Once ops.toList = true) (hfit : Fits ops.toList a₀.tmps.size = true)
    (γ₀ : Nat → Nat) (h0 : G γ₀ (fun _ => false) w.drew) (hall : AllDo F n P Q (dstOf ops) (waitsFor ops) val G a₀ ops.toList 0)
    (hq : ∀ (γ : Nat → Nat) (a : Act) (w : World) (L : Nat → Bool), (∀ j, j < ops.size → L j = true) → (∀ j, ops.size ≤ j → L j = false) → Held (dstOf ops) (waitsFor ops) val G a₀ γ L a w → Q .normal a w) :
    (Code.region id ops true).wpIn F n P Q a₀ w := by
  refine wpIn_region_any hm (wpAnyIn_by (fun listed a w => ∃ γ, Held (dstOf ops) (waitsFor ops) val G a₀ γ (fun j => listed.getD j false) a w) ?_ ?_ _ _ _ _ (by simp) (by simp) ?_)
  · intro listed a w i hs hi hI
    obtain ⟨γ, hI⟩ := hI
    obtain ⟨hl, o, ho, hafter⟩ := mem_ready.1 hi
    have hlt : i < listed.size := by rw [hs]; exact (Array.getElem?_eq_some_iff.1 ho).1
    have hl' : listed.getD i false = false := by simp [hlt] at hl ⊢; exact hl
    have hd := allDo_at ops.toList 0 i o hall (by simpa using ho)
    rw [Nat.zero_add] at hd
    have hstep := hd γ _ a w hI hl' hafter
    have hdst : dstOf ops i = o.dst := by simp [dstOf, ho]
    suffices hmain : ∀ (a' : Act) (w' : World), (∃ v γ', a' = a.put o.dst v ∧ (∀ j, listed.getD j false = true → val γ' j = val γ j) ∧ (o.dst.isSome = true → v = val γ' i) ∧ G γ' (more (fun j => listed.getD j false) i) w') →
        ∃ γ, Held (dstOf ops) (waitsFor ops) val G a₀ γ (fun j => (listed.setIfInBounds i true).getD j false) a' w' by
      unfold wpOpIn
      simp only [ho]
      cases hw : Region.wanted o (yielded ops a.tmps)
      · rw [wantedD_eq] at hw
        obtain ⟨s1, s2⟩ := hstep.2 hw
        simp only [Bool.false_eq_true, if_false]
        exact ⟨fun f _ => hF f, hmain _ _ ⟨undef, γ, rfl, fun _ _ => rfl, s1, s2⟩⟩
      · rw [wantedD_eq] at hw
        simp only [if_true]
        exact Oper.wpIn_mono hmain (hstep.1 hw)
    rintro a' w' ⟨v, γ', rfl, hkeep, hJ, hG⟩
    have hset : (fun j => (listed.setIfInBounds i true).getD j false) = more (fun j => listed.getD j false) i := by
      funext j
      unfold more
      by_cases e : j = i
      · subst e; simp [hlt]
      · rw [getD_set_ne false (Ne.symm e)]; simp [e]
    refine ⟨γ', ?_⟩
    rw [hset]
    refine ⟨?_, ?_, ?_, ?_, ?_, hG⟩
    · cases hd : o.dst <;> simp [Act.put, hI.defers]
    · cases hd : o.dst <;> simp [Act.put, hI.size]
    · intro j t hdt hlj
      by_cases e : j = i
      · subst e
        rw [hdst] at hdt
        rw [← hJ (by simp [hdt])]
        have hfit' : t < a₀.tmps.size := by
          have := (List.all_eq_true.1 hfit) o (List.mem_of_getElem? (by simpa using ho))
          simpa [hdt] using this
        simp [Act.put, hdt, hI.size, hfit']
      · have hlj' : listed.getD j false = true := by simpa [more, e] using hlj
        have hu := hI.slot j t hdt hlj'
        rw [hkeep j hlj', ← hu]
        cases hd : o.dst with
        | none => simp [Act.put]
        | some d =>
          have hne : d ≠ t := fun e' => e (dst_once hn hdt (by rw [hdst, hd, e']))
          simp only [Act.put]
          rw [Array.getElem?_setIfInBounds_ne hne]
    · intro t hno
      rw [← hI.rest t hno]
      cases hd : o.dst with
      | none => simp [Act.put]
      | some d =>
        have hne : d ≠ t := fun e' => hno i (by rw [hdst, hd, e'])
        simp only [Act.put]
        rw [Array.getElem?_setIfInBounds_ne hne]
    · intro j e hA hj
      by_cases h : j = i
      · subst h
        obtain ⟨o', ho', x, hx, hb, rfl⟩ := hA
        obtain rfl : o = o' := by rw [ho] at ho'; exact Option.some.inj ho'
        have := hafter x hx hb
        simp only [more, this, Bool.or_true]
      · have := hI.closed j e hA (by simpa [more, h] using hj)
        simp only [more, this, Bool.or_true]
  · rintro listed a w hs hr ⟨γ, hI⟩
    exact hq γ a w _ (all_listed ht hr hs) (fun j hj => by have : ¬ j < listed.size := by omega
                                                           simp [this]) hI
  · refine ⟨γ₀, rfl, rfl, fun j t hd hl => ?_, fun _ _ => rfl, fun j e _ hj => ?_, ?_⟩
    · exfalso
      by_cases e : j < ops.size <;> simp [e] at hl
    · exfalso
      by_cases e : j < ops.size <;> simp [e] at hj
    · have : (fun j => (Array.replicate ops.size false).getD j false) = (fun _ => false) := by
        funext j
        by_cases e : j < ops.size <;> simp [e]
      rw [this]; exact h0

/-- An operation that computes. -/
theorem does_pure (hF : ∀ f, F.fn f) {D : Nat → Option Tmp} {A : Nat → Nat → Prop} {val : (Nat → Nat) → Nat → Value} {G : (Nat → Nat) → (Nat → Bool) → World → Prop} {a₀ : Act} {i : Nat} {o : Oper} (hgd : o.guard = none)
    (hG : ∀ γ L w, G γ L w → G γ (more L i) w)
    (h : ∀ γ L a w, Held D A val G a₀ γ L a w → L i = false → (∀ e ∈ o.after, Region.binds .any e = true → L e.on = true) → (o.semAt F.round a.eval).run P w = .ok (.value (val γ i)) w) : Does F n P Q D A val G a₀ i o := by
  intro γ L a w hH hl hA
  refine ⟨fun _ => ⟨fun f _ => hF f, ?_⟩, fun hw => ?_⟩
  · rw [h γ L a w hH hl hA]
    exact ⟨_, γ, rfl, fun _ _ => rfl, fun _ => rfl, hG _ _ _ hH.glob⟩
  · unfold wantedD at hw; rw [hgd] at hw; cases hw
/-- A call. -/
theorem does_call (hF : ∀ f, F.fn f) (hn : 1 ≤ n) {D : Nat → Option Tmp} {A : Nat → Nat → Prop} {val : (Nat → Nat) → Nat → Value} {G : (Nat → Nat) → (Nat → Bool) → World → Prop} {a₀ : Act} {i : Nat} {o : Oper} (hgd : o.guard = none)
    (h : ∀ γ L a w, Held D A val G a₀ γ L a w → L i = false → (∀ e ∈ o.after, Region.binds .any e = true → L e.on = true) → ∃ f args, (o.semAt F.round a.eval).run P w = .ok (.enter f args) w ∧ CallsIn F (n - 1) P f args w fun e w' => ∃ v, e = .returned v ∧ (o.dst.isSome = true → v = val γ i) ∧ G γ (more L i) w') : Does F n P Q D A val G a₀ i o := by
  intro γ L a w hH hl hA
  refine ⟨fun _ => ⟨fun f _ => hF f, ?_⟩, fun hw => ?_⟩
  · obtain ⟨f, args, hr, hc⟩ := h γ L a w hH hl hA
    rw [hr]
    refine ⟨fun _ => hn, hc.mono ?_⟩
    rintro e w' ⟨v, rfl, hv, hg⟩
    exact ⟨v, γ, rfl, fun _ _ => rfl, hv, hg⟩
  · unfold wantedD at hw; rw [hgd] at hw; cases hw
/-- A round of a loop that is told to. -/
theorem does_round (hF : ∀ f, F.fn f) (hn : 1 ≤ n) {D : Nat → Option Tmp} {A : Nat → Nat → Prop} {val : (Nat → Nat) → Nat → Value} {G : (Nat → Nat) → (Nat → Bool) → World → Prop} {a₀ : Act} {i : Nat} {o : Oper} (hgd : o.guard = none)
    (h : ∀ γ L a w, Held D A val G a₀ γ L a w → L i = false → (∀ e ∈ o.after, Region.binds .any e = true → L e.on = true) → ∃ l f tmps assign body, (o.semAt F.round a.eval).run P w = .ok (.round l f tmps assign body) w ∧ RoundIn F (n - 1) P l f tmps assign body w fun e w' => ∃ v γ', e = .returned v ∧ (∀ j, L j = true → val γ' j = val γ j) ∧ (o.dst.isSome = true → v = val γ' i) ∧ G γ' (more L i) w') : Does F n P Q D A val G a₀ i o := by
  intro γ L a w hH hl hA
  refine ⟨fun _ => ⟨fun f _ => hF f, ?_⟩, fun hw => ?_⟩
  · obtain ⟨l, f, tmps, assign, body, hr, hc⟩ := h γ L a w hH hl hA
    rw [hr]
    refine ⟨fun _ => hn, hc.mono ?_⟩
    rintro e w' ⟨v, γ', rfl, hk, hv, hg⟩
    exact ⟨v, γ', rfl, hk, hv, hg⟩
  · unfold wantedD at hw; rw [hgd] at hw; cases hw
theorem does_guarded {D : Nat → Option Tmp} {A : Nat → Nat → Prop} {val : (Nat → Nat) → Nat → Value} {G : (Nat → Nat) → (Nat → Bool) → World → Prop} {a₀ : Act} {i : Nat} {o : Oper} {g : Nat} {b : Bool} {t : Tmp} (hgd : o.guard = some (g, b)) (hD : D g = some t) (hs : ∀ γ, val γ g = .bool b) (he : ⟨g, .guard⟩ ∈ o.after)
    (h : Does F n P Q D A val G a₀ i { o with guard := none }) : Does F n P Q D A val G a₀ i o := by
  intro γ L a w hH hl haft
  have hL := haft ⟨g, .guard⟩ he rfl
  have hslot := hH.slot g t hD hL
  rw [hs] at hslot
  refine ⟨fun _ => (h γ L a w hH hl haft).1 rfl, fun hw => ?_⟩
  simp [wantedD, hgd, hD, hslot] at hw
theorem not_yet {D : Nat → Option Tmp} {A : Nat → Nat → Prop} {val : (Nat → Nat) → Nat → Value} {G : (Nat → Nat) → (Nat → Bool) → World → Prop} {a₀ a : Act} {γ : Nat → Nat} {L : Nat → Bool} {w : World} (hH : Held D A val G a₀ γ L a w) {i j : Nat} (hA : A j i) (hl : L i = false) : L j = false := by
  cases h : L j with
  | false => rfl
  | true => rw [hH.closed j i hA h] at hl; cases hl
end
theorem dst_free {ops : Array Oper} {t : Tmp} (h : (ops.toList.all fun o => decide (o.dst ≠ some t)) = true) : ∀ j, dstOf ops j ≠ some t := by
  intro j e
  obtain ⟨o, ho, hd⟩ := Option.bind_eq_some_iff.1 e
  have := (List.all_eq_true.1 h) o (List.mem_of_getElem? (by simpa using ho))
  simp [hd] at this
theorem early {p : Bool} {X Y : Prop} (h : (p = false ∧ X) ∨ (p = true ∧ Y)) (hp : p = false) : X := by
  rcases h with h | h
  · exact h.2
  · rw [h.1] at hp; cases hp
theorem late {p : Bool} {X Y : Prop} (h : (p = false ∧ X) ∨ (p = true ∧ Y)) (hp : p = true) : Y := by
  rcases h with h | h
  · rw [h.1] at hp; cases hp
  · exact h.2
theorem more_ne {L : Nat → Bool} {i j : Nat} (h : j ≠ i) : more L i j = L j := by simp [more, h]
theorem more_self {L : Nat → Bool} {i : Nat} : more L i i = true := by simp [more]
theorem AllDo.cons {F : Fence} {n : Nat} {P : Program} {Q : Exit → Act → World → Prop} {D : Nat → Option Tmp} {A : Nat → Nat → Prop} {val : (Nat → Nat) → Nat → Value} {G : (Nat → Nat) → (Nat → Bool) → World → Prop} {a₀ : Act} {o : Oper} {rest : List Oper} (k : Nat) (h : Does F n P Q D A val G a₀ k o) (h' : AllDo F n P Q D A val G a₀ rest (k + 1)) : AllDo F n P Q D A val G a₀ (o :: rest) k := ⟨h, h'⟩
theorem AllDo.nil {F : Fence} {n : Nat} {P : Program} {Q : Exit → Act → World → Prop} {D : Nat → Option Tmp} {A : Nat → Nat → Prop} {val : (Nat → Nat) → Nat → Value} {G : (Nat → Nat) → (Nat → Bool) → World → Prop} {a₀ : Act} {k : Nat} : AllDo F n P Q D A val G a₀ [] k := trivial
def putAll (v : Nat → Value) : List Oper → Nat → Act → Act
  | [], _, a => a
  | o :: r, n, a => putAll v r (n + 1) (a.put o.dst (v n))

theorem putAll_defers (v : Nat → Value) : ∀ (l : List Oper) (n : Nat) (a : Act), (putAll v l n a).defers = a.defers
  | [], _, _ => rfl
  | o :: r, n, a => by
    rw [putAll, putAll_defers v r]
    cases o.dst <;> simp [Act.put]
theorem putAll_other (v : Nat → Value) {t : Tmp} : ∀ (l : List Oper) (n : Nat) (a : Act), (∀ o ∈ l, o.dst ≠ some t) → (putAll v l n a).tmps[t]? = a.tmps[t]?
  | [], _, _, _ => rfl
  | o :: r, n, a, h => by
    rw [putAll, putAll_other v r _ _ (fun x hx => h x (List.mem_cons_of_mem _ hx))]
    have h0 := h o (by simp)
    cases hd : o.dst with
    | none => simp [Act.put]
    | some d =>
      have hne : d ≠ t := fun e => h0 (by rw [hd, e])
      simp only [Act.put]
      rw [Array.getElem?_setIfInBounds_ne hne]
theorem putAll_at (v : Nat → Value) {t : Tmp} : ∀ (l : List Oper) (n j : Nat) (o : Oper) (a : Act), (l.filterMap (·.dst)).Nodup → l[j]? = some o → o.dst = some t → t < a.tmps.size → (putAll v l n a).tmps[t]? = some (v (n + j))
  | [], _, _, _, _, _, h, _, _ => by simp at h
  | x :: r, n, 0, o, a, hn, h, hd, ht => by
    simp only [List.getElem?_cons_zero, Option.some.injEq] at h
    subst h
    rw [List.filterMap_cons, hd] at hn
    have hno := (List.nodup_cons.1 hn).1
    rw [putAll, putAll_other v r _ _ (fun o ho e => hno (List.mem_filterMap.2 ⟨o, ho, e⟩))]
    simp [Act.put, hd, ht]
  | x :: r, n, j + 1, o, a, hn, h, hd, ht => by
    have hr : (r.filterMap (·.dst)).Nodup := by
      rw [List.filterMap_cons] at hn
      cases hx : x.dst with
      | none => simpa [hx] using hn
      | some d => rw [hx] at hn; exact (List.nodup_cons.1 hn).2
    rw [putAll, putAll_at v r (n + 1) j o _ hr (by simpa using h) hd (by cases hx : x.dst <;> simpa [Act.put] using ht)]
    congr 2; omega

/-- Behind the region the frame is the first one with every value put where it belongs. -/
theorem held_act {ops : Array Oper} {A : Nat → Nat → Prop} {val : (Nat → Nat) → Nat → Value} {G : (Nat → Nat) → (Nat → Bool) → World → Prop} {a₀ a : Act} {γ : Nat → Nat} {L : Nat → Bool} {w : World}
    (h : Held (dstOf ops) A val G a₀ γ L a w) (hL : ∀ j, j < ops.size → L j = true) (hn : Once ops.toList = true) (hf : Fits ops.toList a₀.tmps.size = true) : a = putAll (val γ) ops.toList 0 a₀ := by
  have hd : a.defers = (putAll (val γ) ops.toList 0 a₀).defers := by rw [putAll_defers]; exact h.defers
  have ht : a.tmps = (putAll (val γ) ops.toList 0 a₀).tmps := by
    apply Array.ext_getElem?
    intro t
    by_cases hx : ∃ (j : Nat) (o : Oper), ops.toList[j]? = some o ∧ o.dst = some t
    · obtain ⟨j, o, ho, hd⟩ := hx
      have hfit : t < a₀.tmps.size := by
        have := (List.all_eq_true.1 hf) o (List.mem_of_getElem? ho)
        simpa [hd] using this
      have ho' : ops[j]? = some o := by simpa using ho
      rw [putAll_at (val γ) ops.toList 0 j o a₀ (of_decide_eq_true hn) ho hd hfit, Nat.zero_add]
      exact h.slot j t (by simp [dstOf, ho', hd]) (hL j (Array.getElem?_eq_some_iff.1 ho').1)
    · rw [putAll_other (val γ) ops.toList 0 a₀ (fun o ho e => by
        obtain ⟨j, hj⟩ := List.getElem?_of_mem ho
        exact hx ⟨j, o, hj, e⟩)]
      refine h.rest t (fun j e => ?_)
      obtain ⟨o, ho, hd⟩ := Option.bind_eq_some_iff.1 e
      exact hx ⟨j, o, by simpa using ho, hd⟩
  cases a
  cases hp : putAll (val γ) ops.toList 0 a₀
  rw [hp] at hd ht
  simp only at hd ht
  rw [hd, ht]

end RI
end Go.Proofs.Ytfalniafkambmaa
