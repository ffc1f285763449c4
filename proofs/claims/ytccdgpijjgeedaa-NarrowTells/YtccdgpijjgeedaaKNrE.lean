/- Package narrow: going through lists of directions. -/
import Derived.Test.YtccdgpijjgeedaaKRangeT
import Derived.Test.YtccdgpijjgeedaaKNrD
import Derived.Scope
namespace Go.Proofs.Ytccdgpijjgeedaa
open Go.RowKit Go.Shelf
attribute [local go_sem] Oper.semAt_some
set_option linter.unusedVariables false

theorem scope_inN {n : Nat} {P : Program} {c : Code} {Q : Exit → Act → World → Prop} {a : Act} {w : World} (h : c.wpIn Fence.wide n P (Exit.noGoto Q) a w) : (Code.scope c).wpIn Fence.wide n P Q a w :=
  (wpIn_wide (n := n)).2 (wp_scope_straight ((wpIn_wide (n := n)).1 h))
set_option maxHeartbeats 1000000 in
theorem neach_in (o : Option Addr) (k c : Nat) (w : World) : Calls Try.prog 48 #[.slice o k c] w fun e w' => e = .returned (.func (.func 71) #[] #[.pointer (some ⟨w.heap.size, 0, none⟩)]) ∧ w' = w.alloc (.cells #[.slice o k c] 100) := by
  go_enter Try.func48, Try.ntmps48
  go_wp2
  go_ret
  exact ⟨rfl, rfl⟩
/-- Where a list lies is kept. -/
def InS (S : Nat → Prop) (v : Value) (L : List Pt) : Prop := ∀ q n c, v = .slice (some q) n c → L ≠ [] → S q.block

def offs (A B : List Pt) : Nat → Nat
  | 0 => 0
  | 1 => A.length
  | _ => (A ++ B).length
theorem yield_at {n l : Nat} {p q : Pt} {V : World} {K : Ending → World → Prop} (h : YieldAt Fence.wide n Try.prog l #[p.v] V K) (e : p = q) : YieldAt Fence.wide n Try.prog l #[q.v] V K := e ▸ h
set_option maxRecDepth 100000 in
set_option maxHeartbeats 4000000 in
theorem neach_tells (n : Nat) (Bl sb : Nat) (A B : List Pt) (va vb : Value) (S : Nat → Prop) (w : World) (hl : w.cell? ⟨Bl, 0, none⟩ = some (.slice (some ⟨sb, 0, none⟩) 2 2)) (h0 : w.cell? ⟨sb, 0, none⟩ = some va) (h1 : w.cell? ⟨sb, 1, none⟩ = some vb)
    (hA : Lies w va A) (hB : Lies w vb B) (sA : InS S va A) (sB : InS S vb B) (sl : S Bl) (ss : S sb) :
    TellsT n Try.prog 71 #[.pointer (some ⟨Bl, 0, none⟩)] (A ++ B) S w := by
  intro l J W hb hJ hY hJ0
  have cl := c_after hb hl
  have c0 := c_after hb h0
  have c1 := c_after hb h1
  have LA : Hid _ := hA.below hb
  have LB : Hid _ := hB.below hb
  obtain ⟨oa, ca, rfl, ha1, ha2, ha3⟩ := hA.form
  obtain ⟨ob, cb, rfl, hb1, hb2, hb3⟩ := hB.form
  clear hl h0 h1 hA hB ha3 hb3
  refine callsIn_of_wp Try.func71 rfl trivial ?_ rfl
  simp only [Try.ntmps71, List.size_toArray, List.length_cons, List.length_nil, Nat.reduceAdd, Nat.reduceSub, Array.replicate_succ, Array.replicate_zero, List.push_toArray, List.append_toArray, List.nil_append, List.cons_append]
  gi_wp2
  refine scope_inN ?_
  gi_wp2
  refine wpIn_label ?_
  gi_wp2
  gi_loopw [9] (fun s wr => ∃ i : Nat, i ≤ 2 ∧ s = .int .i64 (i : Int) ∧ Hid (J (offs A B i) wr) ∧ Hid (KeepC S W wr)) (fun s _ => 2 - (intOf s).toNat)
  case atStart => exact ⟨0, by omega, rfl, hJ0, KeepC.refl _ _⟩
  case round =>
    obtain ⟨i, hi, rfl, HJ, HK⟩ := hrel
    have d0 := HK.out.cell ⟨sb, 0, none⟩ _ ss c0
    have d1 := HK.out.cell ⟨sb, 1, none⟩ _ ss c1
    match i, hi with
    | 0, _ =>
      rw [show ((0 : Nat) : Int) = 0 from rfl]
      gi_wp2
      gi_loopw [15] (fun s wr2 => ∃ j : Nat, j ≤ A.length ∧ s = .int .i64 (j : Int) ∧ Hid (J (0 + j) wr2) ∧ Hid (KeepC S W wr2)) (fun s _ => A.length - (intOf s).toNat)
      case atStart => exact ⟨0, Nat.zero_le _, rfl, HJ, HK⟩
      case round =>
        clear HJ HK
        obtain ⟨j, hj, rfl, HJ, HK⟩ := hrel
        by_cases hjl : j < A.length
        · obtain ⟨o9, c9, e9, _, _, h9⟩ := (Lies.keepC LA.out HK.out sA).form
          simp only [Value.slice.injEq, true_and] at e9
          obtain ⟨e9, e8⟩ := e9
          subst e9 e8
          obtain ⟨g, f, rfl, x0, x1, x2⟩ := h9 j hjl
          have HE : Hid _ := show pt (A ++ B) (0 + j) = pt A j by rw [Nat.zero_add]; exact pt_left hjl
          have hkl : 0 + j < (A ++ B).length := by rw [List.length_append]; omega
          have HYk : Hid _ := fun V hV => yield_at (hY (0 + j) V hkl hV) HE.out
          have HJ1 : Hid (J (0 + j) (wr.alloc (.cells #[.int .i64 (pt A j).x, .int .i64 (pt A j).y, .int .i64 (pt A j).z] 26))) := own_step hJ HJ.out (n_after _ _)
          have HK1 : Hid (KeepC S W (wr.alloc (.cells #[.int .i64 (pt A j).x, .int .i64 (pt A j).y, .int .i64 (pt A j).z] 26))) := HK.out.trans (KeepC.below (n_after _ _))
          clear h9 hkl HE
          generalize pt A j = q at *
          obtain ⟨qx, qy, qz⟩ := q
          unfold Pt.v at HYk
          dsimp only at *
          obtain ⟨fn, tmps, assign, body, hy, hR⟩ := HYk.out _ HJ1.out
          clear HYk
          gi_wp2
          refine ⟨fun h => (by cases h), hR.mono ?_⟩
          rintro e W3 ⟨rfl, hJ3, hk3, _⟩
          gi_wp2
          go_roundw
          case rel => exact ⟨j + 1, by omega, by simp, (by rw [← Nat.add_assoc]; exact hJ3), HK1.out.trans hk3⟩
          case measure => simp [intOf]; omega
        · obtain rfl : j = A.length := by omega
          gi_wp2
          go_roundw
          case rel => exact ⟨1, by omega, by simp, (show J (offs A B 1) wr by simpa [offs] using HJ.out), HK⟩
          case measure => simp [intOf]
    | 1, _ =>
      rw [show ((1 : Nat) : Int) = 1 from rfl]
      have HJ : Hid (J (A.length + 0) wr) := HJ.out
      gi_wp2
      gi_loopw [15] (fun s wr2 => ∃ j : Nat, j ≤ B.length ∧ s = .int .i64 (j : Int) ∧ Hid (J (A.length + j) wr2) ∧ Hid (KeepC S W wr2)) (fun s _ => B.length - (intOf s).toNat)
      case atStart => exact ⟨0, Nat.zero_le _, rfl, HJ, HK⟩
      case round =>
        clear HJ HK
        obtain ⟨j, hj, rfl, HJ, HK⟩ := hrel
        by_cases hjl : j < B.length
        · obtain ⟨o9, c9, e9, _, _, h9⟩ := (Lies.keepC LB.out HK.out sB).form
          simp only [Value.slice.injEq, true_and] at e9
          obtain ⟨e9, e8⟩ := e9
          subst e9 e8
          obtain ⟨g, f, rfl, x0, x1, x2⟩ := h9 j hjl
          have HE : Hid _ := show pt (A ++ B) (A.length + j) = pt B j from pt_app
          have hkl : A.length + j < (A ++ B).length := by rw [List.length_append]; omega
          have HYk : Hid _ := fun V hV => yield_at (hY (A.length + j) V hkl hV) HE.out
          have HJ1 : Hid (J (A.length + j) (wr.alloc (.cells #[.int .i64 (pt B j).x, .int .i64 (pt B j).y, .int .i64 (pt B j).z] 26))) := own_step hJ HJ.out (n_after _ _)
          have HK1 : Hid (KeepC S W (wr.alloc (.cells #[.int .i64 (pt B j).x, .int .i64 (pt B j).y, .int .i64 (pt B j).z] 26))) := HK.out.trans (KeepC.below (n_after _ _))
          clear h9 hkl HE
          generalize pt B j = q at *
          obtain ⟨qx, qy, qz⟩ := q
          unfold Pt.v at HYk
          dsimp only at *
          obtain ⟨fn, tmps, assign, body, hy, hR⟩ := HYk.out _ HJ1.out
          clear HYk
          gi_wp2
          refine ⟨fun h => (by cases h), hR.mono ?_⟩
          rintro e W3 ⟨rfl, hJ3, hk3, _⟩
          gi_wp2
          go_roundw
          case rel => exact ⟨j + 1, by omega, by simp, (by rw [← Nat.add_assoc]; exact hJ3), HK1.out.trans hk3⟩
          case measure => simp [intOf]; omega
        · obtain rfl : j = B.length := by omega
          gi_wp2
          go_roundw
          case rel => exact ⟨2, by omega, by simp, (show J (offs A B 2) wr by simpa [offs, List.length_append] using HJ.out), HK⟩
          case measure => simp [intOf]
    | 2, _ =>
      rw [show ((2 : Nat) : Int) = 2 from rfl]
      gi_wp2
      rw [Exit.noGoto_normal]
      gi_wp2
      go_end0
      exact ⟨⟨_, rfl⟩, HJ.out⟩
end Go.Proofs.Ytccdgpijjgeedaa
