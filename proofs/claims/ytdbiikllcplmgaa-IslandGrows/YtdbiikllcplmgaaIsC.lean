/- Package island: Groups. -/
import Derived.Test.YtdbiikllcplmgaaIsB
namespace Go.Proofs.Ytdbiikllcplmgaa
open Go.RowKit Go.Shelf
set_option linter.unusedVariables false

theorem gets (L : List Bool) (i : Nat) (z : Bool) (h : L[i]? = some z) : L[i]?.getD false = z := by rw [h]; rfl
set_option maxHeartbeats 1000000 in
set_option maxRecDepth 100000 in
theorem joins_any (N bt bw g c : Nat) (i : Int) (vw : Value) (Wl : List Bool) (w : World) (hN : N ≤ 4096) (ht : w.cell? ⟨bt, 0, none⟩ = some (.slice (some ⟨g, 0, none⟩) N c)) (hw : w.cell? ⟨bw, 0, none⟩ = some vw) (hr : RdB w vw Wl) :
    Calls Try.prog 17 #[.int .i64 i, .pointer (some ⟨bt, 0, none⟩), .pointer (some ⟨bw, 0, none⟩)] w fun e W => e = .returned (.bool (okI N Wl i)) ∧ W = w := by
  obtain ⟨o, cp, rfl, hlc, hcm, hcell⟩ := hr.form
  have HC : Hid _ := hcell
  clear hr hcell
  obtain ⟨R, hR⟩ : ∃ R, okI N Wl i = R := ⟨_, rfl⟩
  rw [hR]
  have HR : Hid _ := hR
  clear hR
  by_cases h0 : 0 ≤ i
  · by_cases h1 : i < (N : Int)
    · by_cases h2 : i < (Wl.length : Int)
      · obtain ⟨k, rfl⟩ : ∃ k : Nat, i = (k : Int) := ⟨i.toNat, by omega⟩
        obtain ⟨g', off, z, rfl, hz, x0⟩ := HC.out k (by omega)
        have hzR : R = !z := by
          rw [← HR.out]; unfold okI
          rw [decide_eq_true h0, decide_eq_true h1]
          simp [hz]
        subst hzR
        clear HR HC
        cases z
        all_goals
          go_enter Try.func17, Try.ntmps17
          go_wp2_with (fail)
          go_ret
          exact ⟨rfl, rfl⟩
      · have hzR : R = true := by
          rw [← HR.out]; unfold okI
          rw [decide_eq_true h0, decide_eq_true h1]
          simp [List.getElem?_eq_none (show Wl.length ≤ i.toNat by omega)]
        subst hzR
        clear HR HC
        go_enter Try.func17, Try.ntmps17
        go_wp2_with (fail)
        go_ret
        exact ⟨rfl, rfl⟩
    · have hzR : R = false := by
        rw [← HR.out]; unfold okI
        rw [decide_eq_false h1]
        simp
      subst hzR
      clear HR HC
      go_enter Try.func17, Try.ntmps17
      go_wp2_with (fail)
      go_ret
      exact ⟨rfl, rfl⟩
  · have hzR : R = false := by
      rw [← HR.out]; unfold okI
      rw [decide_eq_false h0]
      simp
    subst hzR
    clear HR HC
    go_enter Try.func17, Try.ntmps17
    go_wp2_with (fail)
    go_ret
    exact ⟨rfl, rfl⟩
set_option maxHeartbeats 1000000 in
set_option maxRecDepth 100000 in
theorem quiet_any (v : Value) (Q : List Int) (i : Nat) (w : World) (hr : RdI w v Q) (hi : i ≤ 4611686018427387904) :
    Calls Try.prog 22 #[v, .int .i64 (i : Int)] w fun e W => e = .returned (.int .i64 (Q[i]?.getD 0)) ∧ W = w := by
  obtain ⟨o, cp, rfl, hlc, hcm, hcell⟩ := hr.form
  have HC : Hid _ := hcell
  clear hr hcell
  by_cases h2 : i < Q.length
  · obtain ⟨g', off, z, rfl, hz, x0⟩ := HC.out i h2
    rw [hz]
    clear HC hz
    go_enter Try.func22, Try.ntmps22
    go_wp2_with (fail)
    go_ret
    exact ⟨rfl, rfl⟩
  · rw [List.getElem?_eq_none (by omega)]
    clear HC
    go_enter Try.func22, Try.ntmps22
    go_wp2_with (fail)
    go_ret
    exact ⟨rfl, rfl⟩

def cnt (n : Int) : Nat := (min (max n 0) 4096).toNat
theorem cnt_le (n : Int) : cnt n ≤ 4096 := by unfold cnt; omega
theorem take_snoc (L : List (Int × Int)) (k : Nat) (l : Int × Int) (h : L[k]? = some l) : L.take (k + 1) = L.take k ++ [l] := by
  rw [List.take_add_one, h]; rfl
theorem grpF_take (N : Nat) (Wl : List Bool) (L : List (Int × Int)) (k : Nat) (x y : Int) (h : L[k]? = some (x, y)) : grpF N Wl (L.take (k + 1)) = stepG N Wl (grpF N Wl (L.take k)) (x, y) := by rw [take_snoc L k _ h, grpF_snoc]
theorem step_no1 {N : Nat} {Wl : List Bool} (G : Nat → Nat) {x : Int} (y : Int) (h : okI N Wl x = false) : stepG N Wl G (x, y) = G := by unfold stepG; simp [h]
theorem step_no2 {N : Nat} {Wl : List Bool} (G : Nat → Nat) {y : Int} (x : Int) (h : okI N Wl y = false) : stepG N Wl G (x, y) = G := by unfold stepG; simp [h]
theorem step_yes {N : Nat} {Wl : List Bool} (G : Nat → Nat) {x y : Nat} (h : okI N Wl (x : Int) = true) (k : okI N Wl (y : Int) = true) : stepG N Wl G ((x : Int), (y : Int)) = jnF G x y := by unfold stepG; simp [h, k]
theorem okI_of {N : Nat} {Wl : List Bool} {a : Nat} (h : a < N) (k : Wl[a]?.getD false = false) : okI N Wl (a : Int) = true := by
  unfold okI
  rw [decide_eq_true (show (0 : Int) ≤ a by omega), decide_eq_true (show (a : Int) < N by omega)]
  simp [k]
/-- Groups at work: the links up to k are done. -/
structure GW (w W : World) (bw bt g N : Nat) (vw : Value) (G : Nat → Nat) : Prop where
  tree : ∃ U, Tree N U G ∧ IRow W g N U
  ct : W.cell? ⟨bt, 0, none⟩ = some (.slice (some ⟨g, 0, none⟩) N N)
  cw : W.cell? ⟨bw, 0, none⟩ = some vw
  below : Below w.heap.size w W
  gw : w.heap.size < g ∧ g < bt ∧ bw = w.heap.size
theorem GW.step {w A B : World} {bw bt g N : Nat} {vw : Value} {G : Nat → Nat} (h : GW w A bw bt g N vw G) (hb : Below A.heap.size A B) : GW w B bw bt g N vw G :=
  ⟨by obtain ⟨U, t, r⟩ := h.tree; exact ⟨U, t, r.below hb⟩, c_after hb h.ct, c_after hb h.cw, b_step h.below hb, h.gw⟩
theorem GW.turn {w A B : World} {bw bt g N : Nat} {vw : Value} {G G' : Nat → Nat} (h : GW w A bw bt g N vw G) (hg : A.grownBy B (some g)) (ht : ∃ U, Tree N U G' ∧ IRow B g N U) : GW w B bw bt g N vw G' :=
  ⟨ht, hg.cell h.ct (by simp; have := h.gw; omega), hg.cell h.cw (by simp; have := h.gw; omega), gbelow h.below hg (by have := h.gw; omega) h.below.size, h.gw⟩
set_option maxHeartbeats 4000000 in
set_option maxRecDepth 100000 in
theorem groups_at (n : Int) (vl vw : Value) (L : List (Int × Int)) (Wl : List Bool) (w : World) (hl : RdL w vl L) (hw : RdB w vw Wl) (hc : vw.oneCell' = true) :
    Calls Try.prog 8 #[.int .i64 n, vl, vw] w fun e W => ∃ b, e = .returned (.slice (some ⟨b, 0, none⟩) (cnt n) (cnt n)) ∧ w.heap.size ≤ b ∧ RdI W (.slice (some ⟨b, 0, none⟩) (cnt n) (cnt n)) (grp (cnt n) Wl L) ∧ Below w.heap.size w W := by
  have HNN : Hid (cnt n ≤ 4096) := cnt_le n
  have HCN : Hid (n ≤ 0 → (cnt n : Int) = 0) := fun h => by unfold cnt; omega
  have HCN2 : Hid (0 < n → n < 4096 → (cnt n : Int) = n) := fun h h' => by unfold cnt; omega
  have HCN3 : Hid (4096 ≤ n → (cnt n : Int) = 4096) := fun h => by unfold cnt; omega
  generalize cnt n = N at *
  have HW : Hid _ := hw
  obtain ⟨ow, cpw, rfl, _⟩ := hw.form
  obtain ⟨o, cp, rfl, hlc, hcm, hcell⟩ := hl.form
  have HC : Hid _ := hcell
  have HS : Hid (∀ m : Int, m = (N : Int) → Calls Try.prog 16 #[.int .i64 m] (w.alloc (.cells #[.slice ow Wl.length cpw] 23)) fun e W => e = .returned (.slice (some ⟨w.heap.size + 1, 0, none⟩) N N) ∧ IRow W (w.heap.size + 1) N id ∧ Below w.heap.size w W ∧ w.heap.size + 1 < W.heap.size ∧ W.cell? ⟨w.heap.size, 0, none⟩ = some (.slice ow Wl.length cpw)) := fun m hm => by
    subst hm
    refine Calls.mono (seeds_any N (w.alloc (.cells #[.slice ow Wl.length cpw] 23)) HNN.out) ?_
    rintro e W ⟨rfl, r, b, s⟩
    have hb := b_step (n_after w _) b
    have hc := c_after b (p := ⟨w.heap.size, 0, none⟩) (v := .slice ow Wl.length cpw) (by simp)
    rw [World.size_alloc] at *
    exact ⟨rfl, r, hb, s, hc⟩
  clear hl hw hcell
  obtain ⟨R, hR⟩ : ∃ R, grp N Wl L = R := ⟨_, rfl⟩
  rw [hR]
  have HR : Hid _ := hR
  clear hR
  go_enter Try.func8, Try.ntmps8
  go_upto_region 1 with (fail)
  go_cut [7] from 11 to 14 (fun s7 wx => ∃ bt : Nat, s7 = .pointer (some ⟨bt, 0, none⟩) ∧ Hid (GW w wx w.heap.size bt (w.heap.size + 1) N (.slice ow Wl.length cpw) (grpF N Wl (L.take 0))))
  case first =>
    have h3 : n < 0 ∨ n = 0 ∨ (0 < n ∧ n < 4096) ∨ n = 4096 ∨ 4096 < n := by omega
    rcases h3 with h3 | rfl | ⟨h3, h4⟩ | rfl | h3
    all_goals
      go_wp2_with (fail)
      refine Calls.mono (HS.out _ (by first | exact (HCN.out (by omega)).symm | exact (HCN2.out (by omega) (by omega)).symm | exact (HCN3.out (by omega)).symm)) ?_
      clear HS
      rintro e W1 ⟨rfl, r1, b1, s1, c1⟩
      have GW0 : Hid (GW w (W1.alloc (.cells #[.slice (some ⟨w.heap.size + 1, 0, none⟩) N N] 36)) w.heap.size W1.heap.size (w.heap.size + 1) N (.slice ow Wl.length cpw) (grpF N Wl (L.take 0))) :=
        ⟨⟨id, by rw [List.take_zero]; exact Tree.start N, r1.below (n_after _ _)⟩, by simp, c_after (n_after _ _) c1, b_step b1 (n_after _ _), by omega⟩
      clear r1 b1 s1 c1
      go_wp2_with (fail)
      go_meet
      case rel => exact ⟨_, rfl, GW0⟩
  case rest =>
    obtain ⟨bt, rfl, GW0⟩ := hcut
    clear HS HCN HCN2 HCN3
    go_wp2_with (fail)
    go_loopg [18] L.length (fun gm j wr => ∃ k : Nat, j = .int .i64 (k : Int) ∧ k ≤ L.length ∧ gm = L.length - k ∧ Hid (GW w wr w.heap.size bt (w.heap.size + 1) N (.slice ow Wl.length cpw) (grpF N Wl (L.take k))))
    case atStart => exact ⟨0, rfl, Nat.zero_le _, rfl, GW0⟩
    case round =>
      clear GW0
      obtain ⟨k, rfl, hk, hgm, HG⟩ := hrel
      have HM : Hid _ := hgm
      clear hgm
      by_cases hlt : k < L.length
      · obtain ⟨g', off, x, y, rfl, hz, x0, x1⟩ := HC.out k hlt
        have x0 := c_after HG.out.below x0
        have x1 := c_after HG.out.below x1
        have HZ : Hid _ := grpF_take N Wl L k x y hz
        have HG1 : Hid _ := HG.out.step (n_after wr (.cells #[.int .i64 x, .int .i64 y] 32))
        have JX : Hid _ := joins_any N bt w.heap.size (w.heap.size + 1) N x (.slice ow Wl.length cpw) Wl _ HNN.out HG1.out.ct HG1.out.cw (HW.out.below HG1.out.below)
        have JY : Hid _ := joins_any N bt w.heap.size (w.heap.size + 1) N y (.slice ow Wl.length cpw) Wl _ HNN.out HG1.out.ct HG1.out.cw (HW.out.below HG1.out.below)
        have HLO : Hid (Low (grpF N Wl (L.take k))) := (grp_is N Wl (L.take k)).low
        clear hz HG HC
        cases hx : okI N Wl x with
        | false =>
          have HZ2 : Hid _ := HZ.out.trans (step_no1 _ y hx)
          rw [hx] at JX
          clear JY HZ hx
          go_wp2_with (fail)
          refine Calls.mono JX.out ?_
          clear JX
          rintro e W2 ⟨rfl, rfl⟩
          go_wp2_with (fail)
          go_roundg (L.length - (k + 1))
          case measure => have := HM.out; omega
          case rel => exact ⟨k + 1, by go_num, by omega, rfl, by rw [HZ2.out]; exact HG1.out⟩
        | true =>
          rw [hx] at JX
          cases hy : okI N Wl y with
          | false =>
            have HZ2 : Hid _ := HZ.out.trans (step_no2 _ x hy)
            rw [hy] at JY
            clear HZ hx hy
            go_wp2_with (fail)
            refine Calls.mono JX.out ?_
            clear JX
            rintro e W2 ⟨rfl, rfl⟩
            go_wp2_with (fail)
            refine Calls.mono JY.out ?_
            clear JY
            rintro e W2 ⟨rfl, rfl⟩
            go_wp2_with (fail)
            go_roundg (L.length - (k + 1))
            case measure => have := HM.out; omega
            case rel => exact ⟨k + 1, by go_num, by omega, rfl, by rw [HZ2.out]; exact HG1.out⟩
          | true =>
            have lx := okI_lo hx
            have ly := okI_lo hy
            obtain ⟨x, rfl⟩ : ∃ x' : Nat, x = (x' : Int) := ⟨x.toNat, by omega⟩
            obtain ⟨y, rfl⟩ : ∃ y' : Nat, y = (y' : Int) := ⟨y.toNat, by omega⟩
            have HZ2 : Hid _ := HZ.out.trans (step_yes _ hx hy)
            rw [hy] at JY
            have JJ : Hid _ := join_any (w.heap.size + 1) N x y _ _ _ HNN.out (by omega) (by omega) HG1.out.tree.choose_spec.2 HG1.out.tree.choose_spec.1 HLO.out
            have hct := HG1.out.ct
            clear HZ hx hy lx ly
            go_wp2_with (fail)
            refine Calls.mono JX.out ?_
            clear JX
            rintro e W2 ⟨rfl, rfl⟩
            go_wp2_with (fail)
            refine Calls.mono JY.out ?_
            clear JY
            rintro e W2 ⟨rfl, rfl⟩
            go_wp2_with (fail)
            refine Calls.mono JJ.out ?_
            clear JJ hct
            rintro e W3 ⟨rfl, T3, t3, r3, g3⟩
            have HG3 : Hid _ := HG1.out.turn g3 ⟨T3, t3, r3⟩
            clear HG1 t3 r3 g3
            go_wp2_with (fail)
            go_roundg (L.length - (k + 1))
            case measure => have := HM.out; omega
            case rel => exact ⟨k + 1, by go_num, by omega, rfl, by rw [HZ2.out]; exact HG3.out⟩
      · have e : k = L.length := by omega
        subst e
        rw [List.take_length] at HG
        have RR : Hid _ := roots_any (w.heap.size + 1) N _ _ _ HNN.out HG.out.tree.choose_spec.2 HG.out.tree.choose_spec.1 (grp_is N Wl L).low
        have hct := HG.out.ct
        go_wp2_with (fail)
        refine Calls.mono RR.out ?_
        clear RR
        rintro e W3 ⟨rfl, r3, g3⟩
        have HB3 : Hid _ := gbelow HG.out.below g3 (Nat.le_succ _) HG.out.below.size
        have R3 : Hid _ := r3.rd (Nat.le_refl _) (by have := HNN.out; omega)
        clear HG hct r3 g3
        go_wp2_with (fail)
        go_ret
        exact ⟨_, rfl, Nat.le_succ _, by rw [← HR.out]; exact R3.out, HB3.out⟩
theorem groups_any (n : Int) (vl vw : Value) (L : List (Int × Int)) (Wl : List Bool) (w : World) (hl : RdL w vl L) (hw : RdB w vw Wl) (hc : vw.oneCell' = true) :
    Calls Try.prog 8 #[.int .i64 n, vl, vw] w fun e W => ∃ u, e = .returned u ∧ RdI W u (grp (cnt n) Wl L) ∧ Below w.heap.size w W :=
  Calls.mono (groups_at n vl vw L Wl w hl hw hc) (by rintro e W ⟨b, rfl, _, h1, h2⟩; exact ⟨_, rfl, h1, h2⟩)
end Go.Proofs.Ytdbiikllcplmgaa
