/- Lists of points: found in, added to. -/
import Derived.Test.YthcdpngkoejgpaaShB
namespace Go.Proofs.Ythcdpngkoejgpaa
open Go.RowKit Go.Shelf
set_option linter.unusedVariables false

theorem pt_eq (p q : Pt) : p = q ↔ p.x = q.x ∧ p.y = q.y ∧ p.z = q.z := by cases p; cases q; simp
set_option maxHeartbeats 2000000 in
set_option maxRecDepth 100000 in
theorem index_any (v : Value) (L : List Pt) (p : Pt) (w : World) (hv : Lies w v L) :
    Calls Try.prog 126 #[v, p.v] w fun e W => ∃ k : Int, e = .returned (.int .i64 k) ∧ (0 ≤ k ↔ p ∈ L) ∧ Below w.heap.size w W := by
  obtain ⟨o, c, rfl, hlc, hcm, hcell⟩ := hv.form
  have HC : Hid _ := hcell
  have bx : Hid (Box3 (w.alloc (.cells #[.int .i64 p.x, .int .i64 p.y, .int .i64 p.z] 26)) w.heap.size p) := Box3.new w p.x p.y p.z _
  have hB : Hid (Below w.heap.size w (w.alloc (.cells #[.int .i64 p.x, .int .i64 p.y, .int .i64 p.z] 26))) := n_after w _
  clear hv hcell
  unfold Pt.v
  go_enter Try.func126, Try.ntmps126
  go_wp2_with (fail)
  go_loopw [8] (fun i wr => ∃ k : Nat, i = .int .i64 (k : Int) ∧ k ≤ L.length ∧ Hid (∀ j, j < k → pt L j ≠ p) ∧ Hid (Box3 wr w.heap.size p) ∧ Hid (Below w.heap.size w wr)) (fun i _ => L.length - (intOf i).toNat)
  case atStart => exact ⟨0, rfl, Nat.zero_le _, fun j hj => absurd hj (by omega), bx, hB⟩
  case round =>
    clear bx hB
    obtain ⟨k, rfl, hk, HN, bx, HB⟩ := hrel
    by_cases hlt : k < L.length
    · obtain ⟨g, off, rfl, x0, x1, x2⟩ := HC.out k hlt
      have x0 := c_after HB.out x0
      have x1 := c_after HB.out x1
      have x2 := c_after HB.out x2
      obtain ⟨c0, c1, c2, _, _, _⟩ := bx.out
      have HEQ : Hid (pt L k = p → p ∈ L) := fun e => e ▸ pt_mem hlt
      have HNE : Hid (pt L k ≠ p → ∀ j, j < k + 1 → pt L j ≠ p) := fun e j hj => by
        by_cases ej : j = k
        · subst ej; exact e
        · exact HN.out j (by omega)
      rw [pt_eq] at HEQ
      rw [Ne, pt_eq] at HNE
      generalize (pt L k).x = lx at *
      generalize (pt L k).y = ly at *
      generalize (pt L k).z = lz at *
      by_cases ex : lx = p.x
      · subst ex
        by_cases ey : ly = p.y
        · subst ey
          by_cases ez : lz = p.z
          · subst ez
            go_wp2_with (fail)
            go_region
            go_wp2_with (fail)
            go_ret
            exact ⟨_, rfl, ⟨fun _ => HEQ.out (by simp), fun _ => by omega⟩, HB.out.drew⟩
          · have e1 : (p.z == lz) = false := beq_eq_false_iff_ne.2 fun e => ez e.symm
            go_wp2_with (fail)
            go_region
            go_wp2_with (fail)
            go_roundw
            case rel => exact ⟨k + 1, by go_num, by omega, HNE.out (fun h => ez h.2.2), bx.out.step (Below.refl _ _).drew, HB.out.drew⟩
            case measure => simp [intOf]; omega
        · have e1 : (p.y == ly) = false := beq_eq_false_iff_ne.2 fun e => ey e.symm
          go_wp2_with (fail)
          go_region
          go_wp2_with (fail)
          go_roundw
          case rel => exact ⟨k + 1, by go_num, by omega, HNE.out (fun h => ey h.2.1), bx.out.step (Below.refl _ _).drew, HB.out.drew⟩
          case measure => simp [intOf]; omega
      · have e1 : (p.x == lx) = false := beq_eq_false_iff_ne.2 fun e => ex e.symm
        go_wp2_with (fail)
        go_region
        go_wp2_with (fail)
        go_roundw
        case rel => exact ⟨k + 1, by go_num, by omega, HNE.out (fun h => ex h.1), bx.out.step (Below.refl _ _).drew, HB.out.drew⟩
        case measure => simp [intOf]; omega
    · have e : k = L.length := by omega
      have HX : Hid (p ∉ L) := fun hp => by
        obtain ⟨j, hj, ej⟩ := pt_of_mem hp
        exact HN.out j (by omega) ej
      clear e
      go_wp2_with (fail)
      go_ret
      exact ⟨_, rfl, ⟨fun h => absurd h (by decide), fun h => absurd h HX.out⟩, HB.out⟩
set_option maxHeartbeats 1000000 in
theorem contains_any (v : Value) (L : List Pt) (p : Pt) (w : World) (hv : Lies w v L) :
    Calls Try.prog 115 #[v, p.v] w fun e W => e = .returned (.bool (decide (p ∈ L))) ∧ Below w.heap.size w W := by
  have HI : Hid _ := index_any v L p (w.alloc (.cells #[.int .i64 p.x, .int .i64 p.y, .int .i64 p.z] 26)) (hv.below (n_after w _))
  obtain ⟨o, c, rfl, _⟩ := hv.form
  unfold Pt.v at *
  clear hv
  go_enter Try.func115, Try.ntmps115
  go_wp2_with (fail)
  refine Calls.mono HI.out ?_
  clear HI
  rintro e V ⟨k, rfl, hk, hb⟩
  have hB := b_step (n_after w _) hb
  clear hb
  have HK : Hid _ := hk
  clear hk
  go_wp2_with (fail)
  go_ret
  exact ⟨congrArg (fun b => Ending.returned (.bool b)) (by rw [Bool.eq_iff_iff, decide_eq_true_eq, decide_eq_true_eq]; exact HK.out), hB⟩
set_option maxHeartbeats 1000000 in
set_option maxRecDepth 100000 in
theorem withAxis_any (B : Nat) (u : Value) (A : List Pt) (n : Pt) (w : World) (ho : w.ownsRow B 26 3 u A.length (fl3 A)) (hB : B ≤ w.heap.size) (hl : A.length ≤ 100000) :
    Calls Try.prog 85 #[u, n.v] w fun e W => ∃ u', e = .returned u' ∧ W.ownsRow B 26 3 u' (withAxisP A n).length (fl3 (withAxisP A n)) ∧ Grew w W u u' := by
  obtain ⟨i0, hii, hiz, hisz, hib⟩ := info_parts point_info
  have HI : Hid _ := And.intro hii (And.intro hiz (And.intro hisz hib))
  clear hii hiz hisz hib
  have HC : Hid _ := contains_any u A n (w.alloc (.cells #[.int .i64 n.x, .int .i64 n.y, .int .i64 n.z] 26)) ((Lies.of_row ho).below (n_after w _))
  have bx : Hid (Box3 (w.alloc (.cells #[.int .i64 n.x, .int .i64 n.y, .int .i64 n.z] 26)) w.heap.size n) := Box3.new w n.x n.y n.z _
  obtain ⟨o, c, hu, _⟩ := (Lies.of_row ho).form
  have HO : Hid _ := ho
  clear ho
  obtain ⟨R, hR⟩ : ∃ R, withAxisP A n = R := ⟨_, rfl⟩
  rw [hR]
  have HR : Hid _ := hR
  clear hR
  unfold Pt.v at *
  subst hu
  go_enter Try.func85, Try.ntmps85
  go_wp2_with (fail)
  refine Calls.mono HC.out ?_
  clear HC
  rintro e V ⟨rfl, hb⟩
  have hBV : Hid _ := b_step (n_after w _) hb
  have HO : Hid _ := own_below HO.out hBV.out
  have bx : Hid _ := bx.out.step hb
  clear hb
  by_cases hm : n ∈ A
  · have e : A = R := by rw [← HR.out]; unfold withAxisP; rw [if_pos hm]
    have hd : decide (n ∈ A) = true := decide_eq_true hm
    rw [hd]
    clear HR
    subst e
    clear hm hd
    go_wp2_with (fail)
    go_ret
    exact ⟨_, rfl, HO.out, Grew.below hBV.out _⟩
  · have e : R = A ++ [n] := by rw [← HR.out]; unfold withAxisP; rw [if_neg hm]
    have hd : decide (n ∈ A) = false := decide_eq_false hm
    rw [hd]
    clear HR
    subst e
    clear hm hd
    obtain ⟨c0, c1, c2, _, _, _⟩ := bx.out
    have hsz := hBV.out.size
    go_wp2_with (at_builtin; refine wpList_append_own_at _ rfl _ _ 22 rfl B 26 i0 _ 3 24 Try.underlying22 HI.out.1 HI.out.2.1 HI.out.2.2.1 HI.out.2.2.2 rfl (by decide) _ _ _ rfl (own_below HO.out (n_after V _)) ⟨V.heap.size, 0, none⟩ 1 1 [.int .i64 n.x, .int .i64 n.y, .int .i64 n.z] rfl rfl (news_at (heap_alloc_new V _)) (by intro u hu; simp at hu; rcases hu with rfl | rfl | rfl <;> rfl) (by unfold maxLen; omega) (by omega) (by simp; omega) ?_; intro u9 V2 r8 g8 _ s8)
    go_ret
    refine ⟨_, rfl, by rw [fl3_append, List.length_append]; exact r8, (Grew.below (b_step hBV.out (n_after V _)) _).trans ⟨g8, ?_⟩⟩
    rcases s8 with e | e
    · exact Or.inl e
    · exact Or.inr ⟨_, e, Nat.le_refl _⟩
end Go.Proofs.Ythcdpngkoejgpaa
