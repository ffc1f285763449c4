/- The document's own way: bound, wall, Members, Rest. -/
import Derived.Test.YtdbiikllcplmgaaIsE
namespace Go.Proofs.Ytdbiikllcplmgaa
open Go.RowKit Go.Shelf
set_option linter.unusedVariables false

set_option maxHeartbeats 1000000 in
theorem bound_any (n : Int) (w : World) : Calls Try.prog 20 #[.int .i64 n] w fun e W => e = .returned (.int .i64 (cnt n : Int)) ∧ W = w := by
  have hc : (n < 0 → (cnt n : Int) = 0) ∧ (0 < n → n < 4096 → (cnt n : Int) = n) ∧ (4096 < n → (cnt n : Int) = 4096) := by unfold cnt; omega
  have HC : Hid _ := hc
  clear hc
  have h3 : n < 0 ∨ n = 0 ∨ (0 < n ∧ n < 4096) ∨ n = 4096 ∨ 4096 < n := by omega
  rcases h3 with h3 | rfl | ⟨h3, h4⟩ | rfl | h3
  all_goals
    go_enter Try.func20, Try.ntmps20
    go_wp2
    go_ret
    first
      | exact ⟨by rw [HC.out.1 h3]; rfl, rfl⟩
      | exact ⟨by rw [HC.out.2.1 h3 h4]; rfl, rfl⟩
      | exact ⟨by rw [HC.out.2.2 h3]; rfl, rfl⟩
      | exact ⟨rfl, rfl⟩
set_option maxHeartbeats 1000000 in
theorem wall_any (v : Value) (Wl : List Bool) (i : Nat) (w : World) (hr : RdB w v Wl) (hi : i ≤ 4611686018427387904) :
    Calls Try.prog 21 #[v, .int .i64 (i : Int)] w fun e W => e = .returned (.bool (Wl[i]?.getD false)) ∧ W = w := by
  obtain ⟨o, cp, rfl, hlc, hcm, hcell⟩ := hr.form
  have HC : Hid _ := hcell
  clear hr hcell
  by_cases h2 : i < Wl.length
  · obtain ⟨g', off, z, rfl, hz, x0⟩ := HC.out i h2
    rw [hz]
    clear HC hz
    go_enter Try.func21, Try.ntmps21
    go_wp2_with (fail)
    go_ret
    exact ⟨rfl, rfl⟩
  · rw [List.getElem?_eq_none (by omega)]
    clear HC
    go_enter Try.func21, Try.ntmps21
    go_wp2_with (fail)
    go_ret
    exact ⟨rfl, rfl⟩
set_option maxHeartbeats 1000000 in
set_option maxRecDepth 100000 in
theorem rmembers_any (v : Value) (L : List Int) (z : Int) (w : World) (hr : RdI w v L) (hlen : L.length ≤ 1099511627776) :
    Calls Try.prog 14 #[v, .int .i64 z] w fun e W => ∃ u, e = .returned u ∧ IOwn w W u (memb L z L.length) := by
  obtain ⟨i0, hii, hiz, hisz, hib⟩ := info_parts int_info
  have HI : Hid _ := And.intro hii (And.intro hiz (And.intro hisz hib))
  clear hii hiz hisz hib
  obtain ⟨o, cp, rfl, hlc, hcm, hcell⟩ := hr.form
  have HC : Hid _ := hcell
  clear hr hcell
  obtain ⟨R, hR⟩ : ∃ R, memb L z L.length = R := ⟨_, rfl⟩
  rw [hR]
  have HR : Hid _ := hR
  clear hR
  go_enter Try.func14, Try.ntmps14
  go_wp2_with (fail)
  go_loopg [5, 6] L.length (fun gm u j wr => ∃ k : Nat, j = .int .i64 (k : Int) ∧ k ≤ L.length ∧ gm = L.length - k ∧ Hid (IOwn w wr u (memb L z k)))
  case atStart => exact ⟨0, rfl, Nat.zero_le _, rfl, IOwn.start w⟩
  case round =>
    obtain ⟨k, rfl, hk, hgm, HO⟩ := hrel
    have HM : Hid _ := hgm
    clear hgm
    by_cases hlt : k < L.length
    · obtain ⟨g', off, x, rfl, hz, x0⟩ := HC.out k hlt
      have x0 := c_after HO.out.below x0
      by_cases e : x = z
      · subst e
        have HY : Hid _ := memb_yes hz
        have hml := memb_length L x k
        clear hz HC
        go_wp2_with (at_builtin; refine wpList_append_own_at _ rfl _ _ 24 rfl w.heap.size 3 i0 _ 1 8 Try.underlying24 HI.out.1 HI.out.2.1 HI.out.2.2.1 HI.out.2.2.2 rfl (by decide) _ _ _ rfl (HO.out.row.alloc _) ⟨wr.heap.size, 0, none⟩ 1 1 [.int .i64 (k : Int)] rfl rfl (cell_one_new _ _ _) (by intro u hu; simp at hu; subst hu; rfl) (by unfold maxLen; omega) (by omega) (by have := HO.out.below.size; simp; omega) ?_; intro u9 V2 r8 g8 _ s8)
        have HO2 : Hid _ := (HO.out.step (n_after wr _)).app r8 g8
        clear HO r8 g8 s8
        go_wp2_with (fail)
        go_roundg (L.length - (k + 1))
        case measure => have := HM.out; omega
        case rel => exact ⟨k + 1, by go_num, by omega, rfl, by rw [HY.out]; exact HO2.out⟩
      · have HY : Hid _ := memb_no (L := L) (z := z) (k := k) (by rw [hz]; intro h; exact e (Option.some.inj h))
        have e1 : (x == z) = false := beq_eq_false_iff_ne.2 e
        clear hz HC e
        go_wp2_with (fail)
        go_roundg (L.length - (k + 1))
        case measure => have := HM.out; omega
        case rel => exact ⟨k + 1, by go_num, by omega, rfl, by rw [HY.out]; exact HO⟩
    · have e : k = L.length := by omega
      subst e
      go_wp2_with (fail)
      go_ret
      exact ⟨_, rfl, by rw [← HR.out]; exact HO.out⟩

/-- A list of bools of the call's own. -/
structure BOwn (w W : World) (u : Value) (M : List Bool) : Prop where
  row : W.ownsRow w.heap.size 4 1 u M.length (bools M)
  below : Below w.heap.size w W
theorem BOwn.app {w A B : World} {u u' : Value} {M : List Bool} {z : Bool} (h : BOwn w A u M) (hr : B.ownsRow w.heap.size 4 1 u' (M.length + 1) (bools M ++ [.bool z])) (hg : A.grownBy B u.ownBlock) : BOwn w B u' (M ++ [z]) :=
  ⟨by rw [List.length_append, show bools (M ++ [z]) = bools M ++ [.bool z] by simp [bools]]; exact hr, h.below.grown hg h.below.size (fun k e => (h.row.lt k e).1)⟩
theorem BOwn.step {w A B : World} {u : Value} {M : List Bool} (h : BOwn w A u M) (hb : Below A.heap.size A B) : BOwn w B u M := ⟨own_below h.row hb, b_step h.below hb⟩
theorem BOwn.start (w : World) : BOwn w w (.slice none 0 0) [] := ⟨World.ownsRow_nil _ _ _ _, Below.refl _ _⟩
theorem rests_take {L Q : List Int} {need : Int} {k : Nat} {z : Int} (h : L[k]? = some z) : (rests L Q need).take (k + 1) = (rests L Q need).take k ++ [!(loud L Q need z L.length)] := by
  rw [List.take_add_one, rests_at Q need h]; rfl
theorem loud_yes {L Q : List Int} {need z x : Int} {j : Nat} (h : L[j]? = some x) (e : x = z) (q : Q[j]?.getD 0 < need) : loud L Q need z (j + 1) = true := by
  rw [loud, h, e, decide_eq_true q]; simp
theorem loud_no1 {L Q : List Int} {need z x : Int} {j : Nat} (h : L[j]? = some x) (e : ¬ x = z) : loud L Q need z (j + 1) = loud L Q need z j := by
  rw [loud, h]; simp [e]
theorem loud_no2 {L Q : List Int} {need z : Int} {j : Nat} (q : ¬ Q[j]?.getD 0 < need) : loud L Q need z (j + 1) = loud L Q need z j := by
  rw [loud, decide_eq_false q]; simp
set_option maxHeartbeats 2000000 in
set_option maxRecDepth 100000 in
theorem rrest_any (v vq : Value) (L Q : List Int) (need : Int) (w : World) (hr : RdI w v L) (hq : RdI w vq Q) (hlen : L.length ≤ 1099511627776) :
    Calls Try.prog 12 #[v, vq, .int .i64 need] w fun e W => ∃ u, e = .returned u ∧ RdB W u (rests L Q need) ∧ Below w.heap.size w W := by
  obtain ⟨i0, hii, hiz, hisz, hib⟩ := info_parts bool_info
  have HI : Hid _ := And.intro hii (And.intro hiz (And.intro hisz hib))
  clear hii hiz hisz hib
  obtain ⟨o, cp, rfl, hlc, hcm, hcell⟩ := hr.form
  have HC : Hid _ := hcell
  obtain ⟨oq, cq, rfl, hlq, hcq, hqcell⟩ := hq.form
  have HQ : Hid _ := hqcell
  clear hr hcell hq hqcell
  obtain ⟨R, hR⟩ : ∃ R, rests L Q need = R := ⟨_, rfl⟩
  rw [hR]
  have HR : Hid _ := hR
  clear hR
  go_enter Try.func12, Try.ntmps12
  go_wp2_with (fail)
  go_loopg [7, 8, 9, 10, 11] L.length (fun gm u j u9 u10 u11 wr => ∃ k : Nat, j = .int .i64 (k : Int) ∧ k ≤ L.length ∧ gm = L.length - k ∧ Hid (BOwn w wr u ((rests L Q need).take k)))
  case atStart => exact ⟨0, rfl, Nat.zero_le _, rfl, BOwn.start w⟩
  case round =>
    obtain ⟨k, rfl, hk, hgm, HO⟩ := hrel
    have HM : Hid _ := hgm
    clear hgm
    by_cases hlt : k < L.length
    · obtain ⟨g', off, z, rfl, hz, xw⟩ := HC.out k hlt
      have HY : Hid _ := rests_take (Q := Q) (need := need) hz
      have hml : ((rests L Q need).take k).length ≤ k := List.length_take_le _ _
      go_wp2_with (fail)
      go_loopg [9, 10, 11] L.length (fun gn s9 s10 s11 wr => ∃ j : Nat, s10 = .int .i64 (j : Int) ∧ j ≤ L.length ∧ gn = L.length - j ∧ s9 = .bool (!(loud L Q need z j)) ∧ Hid (BOwn w wr u7 ((rests L Q need).take k)))
      case atStart => exact ⟨0, rfl, Nat.zero_le _, rfl, rfl, HO⟩
      case round =>
        clear HO
        obtain ⟨j, rfl, hj, hgn, rfl, HO⟩ := hrel
        have HN : Hid _ := hgn
        clear hgn
        have x0 := c_after HO.out.below xw
        by_cases hjt : j < L.length
        · obtain ⟨g2, off2, x, ho2, hx, y0⟩ := HC.out j hjt
          cases ho2
          have y0 := c_after HO.out.below y0
          have hqr : (j < Q.length → ∃ g off q, oq = some ⟨g, off, none⟩ ∧ Q[j]?.getD 0 = q ∧ wr.cell? ⟨g, off + j, none⟩ = some (.int .i64 q)) ∧ (Q.length ≤ j → Q[j]?.getD 0 = 0) := by
            refine ⟨fun h => ?_, fun h => by rw [List.getElem?_eq_none h]; rfl⟩
            obtain ⟨g, off, q, e, hq, hc⟩ := HQ.out j h
            exact ⟨g, off, q, e, by rw [hq]; rfl, c_after HO.out.below hc⟩
          have HQR : Hid _ := hqr
          have HL1 : Hid (x = z → Q[j]?.getD 0 < need → loud L Q need z (j + 1) = true) := fun e q => loud_yes hx e q
          have HL2 : Hid (¬ x = z → loud L Q need z (j + 1) = loud L Q need z j) := fun e => loud_no1 hx e
          have HL3 : Hid (¬ Q[j]?.getD 0 < need → loud L Q need z (j + 1) = loud L Q need z j) := fun q => loud_no2 q
          clear hz hx HQ HC HY hqr hml
          obtain ⟨l1, hl1⟩ : ∃ l, loud L Q need z (j + 1) = l := ⟨_, rfl⟩
          rw [hl1] at HL1 HL2 HL3
          have HE : Hid _ := hl1
          clear hl1
          generalize loud L Q need z j = l0 at *
          generalize Q[j]?.getD 0 = qv at *
          by_cases hjq : j < Q.length
          · obtain ⟨g3, off3, q, rfl, rfl, q0⟩ := HQR.out.1 hjq
            clear HQR
            by_cases ex : x = z
            · subst ex
              by_cases hq : qv < need
              · have e1 := HL1.out rfl hq
                subst e1
                go_wp2_with (fail)
                go_region
                all_goals (go_wp2_with (fail))
                all_goals (go_roundg (L.length - (j + 1)))
                case measure => have := HN.out; omega
                case rel => exact ⟨j + 1, by go_num, by omega, rfl, by rw [HE.out] <;> rfl, HO.out.step (Below.refl _ _).drew⟩
              · have e1 := HL3.out hq
                subst e1
                go_wp2_with (fail)
                go_region
                all_goals (go_wp2_with (fail))
                all_goals (go_roundg (L.length - (j + 1)))
                case measure => have := HN.out; omega
                case rel => exact ⟨j + 1, by go_num, by omega, rfl, by rw [HE.out] <;> rfl, HO.out.step (Below.refl _ _).drew⟩
            · have ex1 : (x == z) = false := beq_eq_false_iff_ne.2 ex
              have e1 := HL2.out ex
              subst e1
              go_wp2_with (fail)
              go_region
              all_goals (go_wp2_with (fail))
              all_goals (go_roundg (L.length - (j + 1)))
              case measure => have := HN.out; omega
              case rel => exact ⟨j + 1, by go_num, by omega, rfl, by rw [HE.out] <;> rfl, HO.out.step (Below.refl _ _).drew⟩
          · have hq0 := HQR.out.2 (by omega)
            subst hq0
            clear HQR
            by_cases ex : x = z
            · subst ex
              by_cases hq : 0 < need
              · have e1 := HL1.out rfl hq
                subst e1
                go_wp2_with (fail)
                go_region
                all_goals (go_wp2_with (fail))
                all_goals (go_roundg (L.length - (j + 1)))
                case measure => have := HN.out; omega
                case rel => exact ⟨j + 1, by go_num, by omega, rfl, by rw [HE.out] <;> rfl, HO.out.step (Below.refl _ _).drew⟩
              · have e1 := HL3.out hq
                subst e1
                go_wp2_with (fail)
                go_region
                all_goals (go_wp2_with (fail))
                all_goals (go_roundg (L.length - (j + 1)))
                case measure => have := HN.out; omega
                case rel => exact ⟨j + 1, by go_num, by omega, rfl, by rw [HE.out] <;> rfl, HO.out.step (Below.refl _ _).drew⟩
            · have ex1 : (x == z) = false := beq_eq_false_iff_ne.2 ex
              have e1 := HL2.out ex
              subst e1
              go_wp2_with (fail)
              go_region
              all_goals (go_wp2_with (fail))
              all_goals (go_roundg (L.length - (j + 1)))
              case measure => have := HN.out; omega
              case rel => exact ⟨j + 1, by go_num, by omega, rfl, by rw [HE.out] <;> rfl, HO.out.step (Below.refl _ _).drew⟩
        · have e : j = L.length := by omega
          subst e
          clear hz HQ HC
          generalize loud L Q need z L.length = l0 at *
          go_wp2_with (at_builtin; refine wpList_append_own_at _ rfl _ _ 23 rfl w.heap.size 4 i0 _ 1 1 Try.underlying23 HI.out.1 HI.out.2.1 HI.out.2.2.1 HI.out.2.2.2 rfl (by decide) _ _ _ rfl (HO.out.row.alloc _) ⟨wr.heap.size, 0, none⟩ 1 1 [.bool (!l0)] rfl rfl (cell_one_new _ _ _) (by intro u hu; simp at hu; subst hu; rfl) (by unfold maxLen; omega) (by omega) (by have := HO.out.below.size; simp; omega) ?_; intro u9 V2 r8 g8 _ s8)
          have HO2 : Hid _ := (HO.out.step (n_after wr _)).app r8 g8
          clear HO r8 g8 s8
          go_wp2_with (fail)
          go_roundg (L.length - (k + 1))
          case measure => have := HM.out; omega
          case rel => exact ⟨k + 1, by go_num, by omega, rfl, by rw [HY.out]; exact HO2.out⟩
    · have e : k = L.length := by omega
      subst e
      have HE : Hid ((rests L Q need).take L.length = R) := by rw [← HR.out]; show _ = _; exact List.take_of_length_le (by rw [rests_length]; omega)
      go_wp2_with (fail)
      go_ret
      have := HO.out.row
      rw [HE.out] at this
      exact ⟨_, rfl, RdB.of_row this, HO.out.below⟩
end Go.Proofs.Ytdbiikllcplmgaa
