/- The document's own Groups: by lowering, as long as something changes. -/
import Derived.Test.YtdbiikllcplmgaaIsF
namespace Go.Proofs.Ytdbiikllcplmgaa
open Go.RowKit Go.Shelf
set_option linter.unusedVariables false

def idL (k : Nat) : List Int := (List.range k).map (fun (i : Nat) => (i : Int))
theorem idL_snoc (k : Nat) : idL (k + 1) = idL k ++ [(k : Int)] := by simp [idL, List.range_succ]
theorem idL_length (k : Nat) : (idL k).length = k := by simp [idL]
/-- The list at work. -/
structure ROut (w W : World) (o : Option Addr) (N : Nat) (T : Nat → Nat) : Prop where
  row : 0 < N → ∃ g, o = some ⟨g, 0, none⟩ ∧ w.heap.size ≤ g ∧ IRow W g N T
  below : Below w.heap.size w W
theorem ROut.drew {w W : World} {o : Option Addr} {N : Nat} {T : Nat → Nat} (h : ROut w W o N T) : ROut w W.drew o N T :=
  ⟨fun hN => by obtain ⟨g, e, hg, r⟩ := h.row hN; exact ⟨g, e, hg, r.below (Below.refl _ _).drew⟩, h.below.drew⟩
theorem ROut.two {w W : World} {g N a b x : Nat} {T : Nat → Nat} (h : ROut w W (some ⟨g, 0, none⟩) N T) (ha : a < N) (hb : b < N) : ROut w ((W.setCell ⟨g, a, none⟩ (.int .i64 (x : Int))).setCell ⟨g, b, none⟩ (.int .i64 (x : Int))) (some ⟨g, 0, none⟩) N (upd (upd T a x) b x) := by
  obtain ⟨g', e, hg, r⟩ := h.row (by omega)
  cases e
  exact ⟨fun _ => ⟨g, rfl, hg, (r.set ha x).set hb x⟩, (h.below.setCell (p := ⟨g, a, none⟩) hg _).setCell (p := ⟨g, b, none⟩) hg _⟩
theorem ROut.of {w W : World} {u : Value} {N : Nat} (h : IOwn w W u (idL N)) : ∃ o cap, u = .slice o N cap ∧ N ≤ cap ∧ cap ≤ 9223372036854775807 ∧ ROut w W o N id := by
  have hr := h.row
  rw [idL_length] at hr
  rcases hr.2 with ⟨rfl, h0⟩ | ⟨g, cap, cur, rfl, hb, hg, h1, h2, h3, h4⟩
  · exact ⟨none, 0, by rw [h0], by omega, by omega, fun h => absurd h (by omega), h.below⟩
  · refine ⟨_, cap, rfl, h1, by unfold maxLen at h2; omega, fun _ => ⟨g, rfl, hb, IRow.of_row hr (fun i hi => ?_)⟩, h.below⟩
    simp [ints, idL, hi]
theorem ROut.rd {w W : World} {o : Option Addr} {N c : Nat} {T : Nat → Nat} (h : ROut w W o N T) (h1 : N ≤ c) (h2 : c ≤ 9223372036854775807) : RdI W (.slice o N c) ((List.range N).map fun i => (T i : Int)) := by
  rcases Nat.eq_zero_or_pos N with e | e
  · subst e
    exact ⟨o, c, rfl, h1, h2, fun k hk => by simp at hk⟩
  · obtain ⟨g, rfl, _, r⟩ := h.row e
    exact r.rd h1 h2
/-- One pass: up to the link j. -/
structure Pass (N : Nat) (Wl : List Bool) (L : List (Int × Int)) (T0 T : Nat → Nat) (ch : Bool) (j : Nat) : Prop where
  low : Low2 (Ej N Wl L) T
  same : ch = false → T = T0 ∧ ∀ a b, Ej N Wl (L.take j) a b → T a = T b
  less : ch = true → sumT T N < sumT T0 N
theorem Pass.start {N : Nat} {Wl : List Bool} {L : List (Int × Int)} {T : Nat → Nat} (h : Low2 (Ej N Wl L) T) : Pass N Wl L T T false 0 :=
  ⟨h, fun _ => ⟨rfl, fun a b e => by have := e.1; simp at this⟩, fun e => by cases e⟩
theorem Pass.skip {N : Nat} {Wl : List Bool} {L : List (Int × Int)} {T0 T : Nat → Nat} {ch : Bool} {j : Nat} {x y : Int} (h : Pass N Wl L T0 T ch j) (hz : L[j]? = some (x, y)) (hk : okI N Wl x = true → okI N Wl y = true → T x.toNat = T y.toNat) : Pass N Wl L T0 T ch (j + 1) := by
  refine ⟨h.low, fun e => ⟨(h.same e).1, fun a b hab => ?_⟩, h.less⟩
  obtain ⟨hm, k1, k2⟩ := hab
  rw [take_snoc L j _ hz] at hm
  rcases List.mem_append.1 hm with hm | hm
  · exact (h.same e).2 a b ⟨hm, k1, k2⟩
  · simp only [List.mem_singleton, Prod.mk.injEq] at hm
    obtain ⟨rfl, rfl⟩ := hm
    exact hk k1 k2
theorem Pass.lower {N : Nat} {Wl : List Bool} {L : List (Int × Int)} {T0 T : Nat → Nat} {ch : Bool} {j a b : Nat} (h : Pass N Wl L T0 T ch j) (hz : L[j]? = some ((a : Int), (b : Int))) (ha : okI N Wl (a : Int) = true) (hb : okI N Wl (b : Int) = true) (hne : T a ≠ T b) : Pass N Wl L T0 (lower T a b) true (j + 1) := by
  have la := okI_lo ha
  have lb := okI_lo hb
  refine ⟨h.low.lower ⟨List.mem_of_getElem? hz, ha, hb⟩, fun e => (by cases e), fun _ => ?_⟩
  have h1 := lower_lt T a b hne N (by omega) (by omega)
  cases ch with
  | true => have := h.less rfl; omega
  | false => rw [(h.same rfl).1] at h1 ⊢; exact h1
set_option maxHeartbeats 4000000 in
set_option maxRecDepth 100000 in
theorem rgroups_any (n : Int) (vl vw : Value) (L : List (Int × Int)) (Wl : List Bool) (w : World) (hl : RdL w vl L) (hw : RdB w vw Wl) (hlen : L.length ≤ 1099511627776) :
    Calls Try.prog 9 #[.int .i64 n, vl, vw] w fun e W => ∃ u, e = .returned u ∧ RdI W u (grp (cnt n) Wl L) ∧ Below w.heap.size w W := by
  obtain ⟨i0, hii, hiz, hisz, hib⟩ := info_parts int_info
  have HI : Hid _ := And.intro hii (And.intro hiz (And.intro hisz hib))
  clear hii hiz hisz hib
  have HNN : Hid (cnt n ≤ 4096) := cnt_le n
  have HBD : Hid _ := bound_any n w
  generalize cnt n = N at *
  have HW : Hid _ := hw
  obtain ⟨ow, cpw, rfl, _⟩ := hw.form
  obtain ⟨o, cp, rfl, hlc, hcm, hcell⟩ := hl.form
  have HC : Hid _ := hcell
  clear hl hw hcell
  obtain ⟨R, hR⟩ : ∃ R, grp N Wl L = R := ⟨_, rfl⟩
  rw [hR]
  have HR : Hid _ := hR
  clear hR
  go_enter Try.func9, Try.ntmps9
  go_wp2_with (fail)
  refine Calls.mono HBD.out ?_
  clear HBD
  rintro e W1 ⟨rfl, hW⟩
  obtain rfl : w = W1 := hW.symm
  clear hW
  go_wp2_with (fail)
  go_loopg [7, 8] N (fun gm u j wr => ∃ k : Nat, j = .int .i64 (k : Int) ∧ k ≤ N ∧ gm = N - k ∧ Hid (IOwn w wr u (idL k)))
  case atStart => exact ⟨0, rfl, Nat.zero_le _, rfl, IOwn.start w⟩
  case round =>
    obtain ⟨k, rfl, hk, hgm, HO⟩ := hrel
    have HM : Hid _ := hgm
    clear hgm
    by_cases hlt : k < N
    · have hml := idL_length k
      have hnn := HNN.out
      go_wp2_with (at_builtin; refine wpList_append_own_at _ rfl _ _ 24 rfl w.heap.size 3 i0 _ 1 8 Try.underlying24 HI.out.1 HI.out.2.1 HI.out.2.2.1 HI.out.2.2.2 rfl (by decide) _ _ _ rfl (HO.out.row.alloc _) ⟨wr.heap.size, 0, none⟩ 1 1 [.int .i64 (k : Int)] rfl rfl (cell_one_new _ _ _) (by intro u hu; simp at hu; subst hu; rfl) (by unfold maxLen; omega) (by omega) (by have := HO.out.below.size; simp; omega) ?_; intro u9 V2 r8 g8 _ s8)
      have HO2 : Hid _ := (HO.out.step (n_after wr _)).app r8 g8
      clear HO r8 g8 s8
      go_wp2_with (fail)
      go_roundg (N - (k + 1))
      case measure => have := HM.out; omega
      case rel => exact ⟨k + 1, by go_num, by omega, rfl, by rw [idL_snoc]; exact HO2.out⟩
    · have e : k = N := by omega
      subst e
      obtain ⟨oo, cap, rfl, hcap, hcapm, hro⟩ := ROut.of HO.out
      have HRO : Hid _ := hro
      have HCAP : Hid _ := And.intro hcap hcapm
      have HT0 : Hid (true = false → ∀ a b, Ej k Wl L a b → id a = id b) := fun e => Bool.noConfusion e
      clear hro HO HM hlt HI hcapm
      go_wp2_with (fail)
      go_loopg [9] (2 * sumT id k + 1) (fun gm s9 wr => ∃ (T : Nat → Nat) (ch : Bool), s9 = .bool ch ∧ gm = 2 * sumT T k + (if ch then 1 else 0) ∧ Hid (Low2 (Ej k Wl L) T) ∧ Hid (ch = false → ∀ a b, Ej k Wl L a b → T a = T b) ∧ Hid (ROut w wr oo k T))
      case atStart => exact ⟨id, true, rfl, rfl, Low2.start _, HT0, HRO⟩
      case round =>
        clear HRO
        obtain ⟨T, ch, rfl, hgm, HL2, HEQ, HRO⟩ := hrel
        have HM : Hid _ := hgm
        clear hgm
        cases ch with
        | false =>
          have HRD : Hid _ := HRO.out.rd HCAP.out.1 HCAP.out.2
          have HE : Hid (((List.range k).map fun i => (T i : Int)) = R) := by
            show _ = _
            rw [← HR.out]
            unfold grp
            apply List.map_congr_left
            intro i hi
            rw [(HL2.out.grp (HEQ.out rfl)).unique (grp_is k Wl L) i]
          go_wp2_with (fail)
          go_ret
          exact ⟨_, rfl, by rw [← HE.out]; exact HRD.out, HRO.out.below⟩
        | true =>
          have HP0 : Hid _ := Pass.start HL2.out
          clear HEQ
          go_wp2_with (fail)
          go_loopg [9, 10] L.length (fun gn s9 s10 wr => ∃ (j : Nat) (U : Nat → Nat) (c : Bool), s9 = .bool c ∧ s10 = .int .i64 (j : Int) ∧ j ≤ L.length ∧ gn = L.length - j ∧ Hid (Pass k Wl L T U c j) ∧ Hid (ROut w wr oo k U))
          case atStart => exact ⟨0, T, false, rfl, rfl, Nat.zero_le _, rfl, HP0, HRO⟩
          case round =>
            clear HP0 HRO HL2
            obtain ⟨j, U, c, rfl, rfl, hj, hgn, HP, HRO⟩ := hrel
            have HN : Hid _ := hgn
            clear hgn
            by_cases hjt : j < L.length
            · obtain ⟨g', off, x, y, rfl, hz, xw, yw⟩ := HC.out j hjt
              have x0 := c_after HRO.out.below xw
              have y0 := c_after HRO.out.below yw
              have HSK : Hid ((okI k Wl x = true → okI k Wl y = true → U x.toNat = U y.toNat) → Pass k Wl L T U c (j + 1)) := fun h => HP.out.skip hz h
              have HZ : Hid _ := hz
              clear hz HC xw yw
              by_cases hr : 0 ≤ x ∧ x < (k : Int) ∧ 0 ≤ y ∧ y < (k : Int)
              · obtain ⟨x', rfl⟩ : ∃ x' : Nat, x = (x' : Int) := ⟨x.toNat, by omega⟩
                obtain ⟨y', rfl⟩ : ∃ y' : Nat, y = (y' : Int) := ⟨y.toNat, by omega⟩
                have hxk : x' < k := by omega
                have hyk : y' < k := by omega
                have hnn := HNN.out
                clear hr
                have WX : Hid _ := wall_any _ Wl x' wr (HW.out.below HRO.out.below) (by omega)
                have WY : Hid _ := wall_any _ Wl y' wr (HW.out.below HRO.out.below) (by omega)
                cases h1 : Wl[x']?.getD false with
                | true =>
                  have HP2 : Hid _ := HSK.out (fun a _ => by have := (okI_lo a).2.2; simp [h1] at this)
                  rw [h1] at WX
                  clear h1 HSK HZ HP
                  generalize Wl[y']?.getD false = b2 at *
                  cases b2
                  all_goals
                    go_wp2_with (fail)
                    refine Calls.mono WX.out ?_
                    rintro e W2 ⟨rfl, hW⟩
                    obtain rfl : wr = W2 := hW.symm
                    go_wp2_with (fail)
                    refine Calls.mono WY.out ?_
                    rintro e W2 ⟨rfl, hW2⟩
                    obtain rfl : wr = W2 := hW2.symm
                    clear hW hW2 WX WY
                    go_wp2_with (fail)
                    go_region
                    go_wp2_with (fail)
                    go_roundg (L.length - (j + 1))
                    case measure => have := HN.out; omega
                    case rel => exact ⟨j + 1, U, c, rfl, by go_num, by omega, rfl, HP2.out, HRO.out.drew⟩
                | false =>
                  cases h2 : Wl[y']?.getD false with
                  | true =>
                    have HP2 : Hid _ := HSK.out (fun _ a => by have := (okI_lo a).2.2; simp [h2] at this)
                    rw [h1] at WX
                    rw [h2] at WY
                    clear h1 h2 HSK HZ HP
                    go_wp2_with (fail)
                    refine Calls.mono WX.out ?_
                    rintro e W2 ⟨rfl, hW⟩
                    obtain rfl : wr = W2 := hW.symm
                    go_wp2_with (fail)
                    refine Calls.mono WY.out ?_
                    rintro e W2 ⟨rfl, hW2⟩
                    obtain rfl : wr = W2 := hW2.symm
                    clear hW hW2 WX WY
                    go_wp2_with (fail)
                    go_region
                    go_wp2_with (fail)
                    go_roundg (L.length - (j + 1))
                    case measure => have := HN.out; omega
                    case rel => exact ⟨j + 1, U, c, rfl, by go_num, by omega, rfl, HP2.out, HRO.out.drew⟩
                  | false =>
                    obtain ⟨g, rfl, hg, hrow⟩ := HRO.out.row (by omega)
                    have cx := hrow.cell x' hxk
                    have cy := hrow.cell y' hyk
                    have fx := hrow.fro x' hxk
                    have fy := hrow.fro y' hyk
                    by_cases he : U x' = U y'
                    · have HP2 : Hid _ := HSK.out (fun _ _ => he)
                      have he1 : ((U x' : Int) == (U y' : Int)) = true := by rw [he]; exact beq_self_eq_true _
                      rw [h1] at WX
                      rw [h2] at WY
                      rw [he] at cx
                      clear h1 h2 HSK HZ HP hrow hg he he1
                      go_wp2_with (fail)
                      refine Calls.mono WX.out ?_
                      rintro e W2 ⟨rfl, hW⟩
                      obtain rfl : wr = W2 := hW.symm
                      go_wp2_with (fail)
                      refine Calls.mono WY.out ?_
                      rintro e W2 ⟨rfl, hW2⟩
                      obtain rfl : wr = W2 := hW2.symm
                      clear hW hW2 WX WY
                      go_wp2_with (fail)
                      go_region
                      go_wp2_with (fail)
                      go_roundg (L.length - (j + 1))
                      case measure => have := HN.out; omega
                      case rel => exact ⟨j + 1, U, c, rfl, by go_num, by omega, rfl, HP2.out, HRO.out.drew⟩
                    · have HP2 : Hid _ := HP.out.lower HZ.out (okI_of hxk h1) (okI_of hyk h2) he
                      have HT2 : Hid (∀ m, min (U x') (U y') = m → ROut w (((wr.drew.drew).setCell ⟨g, x', none⟩ (.int .i64 (m : Int))).setCell ⟨g, y', none⟩ (.int .i64 (m : Int))) (some ⟨g, 0, none⟩) k (lower U x' y')) := fun m hm => by
                        have := HRO.out.drew.drew.two (x := m) hxk hyk
                        unfold lower
                        rw [hm]; exact this
                      have hxy : ¬ x' = y' := fun e => he (by rw [e])
                      have hyx : ¬ y' = x' := fun e => hxy e.symm
                      rw [h1] at WX
                      rw [h2] at WY
                      clear h1 h2 HSK HZ HP hrow hg HRO
                      generalize lower U x' y' = U2 at *
                      have hlt3 : U x' < U y' ∨ U y' < U x' := by omega
                      generalize U x' = ux at *
                      generalize U y' = uy at *
                      have he1 : ((ux : Int) == (uy : Int)) = false := beq_eq_false_iff_ne.2 (by omega)
                      rcases hlt3 with hlt3 | hlt3
                      · have hT := HT2.out ux (by omega)
                        have HT3 : Hid _ := hT
                        have hlt4 : ¬ uy < ux := by omega
                        clear hT HT2
                        go_wp2_with (fail)
                        refine Calls.mono WX.out ?_
                        rintro e W2 ⟨rfl, hW⟩
                        obtain rfl : wr = W2 := hW.symm
                        go_wp2_with (fail)
                        refine Calls.mono WY.out ?_
                        rintro e W2 ⟨rfl, hW2⟩
                        obtain rfl : wr = W2 := hW2.symm
                        clear hW hW2 WX WY
                        go_wp2_with (fail)
                        go_region
                        go_wp2_with (fail)
                        go_region
                        go_wp2_with (fail)
                        go_roundg (L.length - (j + 1))
                        case measure => have := HN.out; omega
                        case rel => exact ⟨j + 1, U2, true, rfl, by go_num, by omega, rfl, HP2.out, HT3.out⟩
                      · have hT := HT2.out uy (by omega)
                        have HT3 : Hid _ := hT
                        have hlt4 : ¬ ux < uy := by omega
                        clear hT HT2
                        go_wp2_with (fail)
                        refine Calls.mono WX.out ?_
                        rintro e W2 ⟨rfl, hW⟩
                        obtain rfl : wr = W2 := hW.symm
                        go_wp2_with (fail)
                        refine Calls.mono WY.out ?_
                        rintro e W2 ⟨rfl, hW2⟩
                        obtain rfl : wr = W2 := hW2.symm
                        clear hW hW2 WX WY
                        go_wp2_with (fail)
                        go_region
                        go_wp2_with (fail)
                        go_region
                        go_wp2_with (fail)
                        go_roundg (L.length - (j + 1))
                        case measure => have := HN.out; omega
                        case rel => exact ⟨j + 1, U2, true, rfl, by go_num, by omega, rfl, HP2.out, HT3.out⟩
              · have HP2 : Hid _ := HSK.out (fun a b => absurd ⟨(okI_lo a).1, (okI_lo a).2.1, (okI_lo b).1, (okI_lo b).2.1⟩ hr)
                clear HSK HZ HP
                have h5 : x < 0 ∨ (0 ≤ x ∧ (k : Int) ≤ x) ∨ (0 ≤ x ∧ x < (k : Int) ∧ y < 0) ∨ (0 ≤ x ∧ x < (k : Int) ∧ 0 ≤ y ∧ (k : Int) ≤ y) := by omega
                clear hr
                rcases h5 with h5 | ⟨h5, h6⟩ | ⟨h5, h6, h7⟩ | ⟨h5, h6, h7, h8⟩
                all_goals
                  go_wp2_with (fail)
                  go_roundg (L.length - (j + 1))
                  case measure => have := HN.out; omega
                  case rel => exact ⟨j + 1, U, c, rfl, by go_num, by omega, rfl, HP2.out, HRO.out⟩
            · have e : j = L.length := by omega
              subst e
              have HX : Hid ((c = true → sumT U k < sumT T k) ∧ (c = false → U = T) ∧ Low2 (Ej k Wl L) U ∧ (c = false → ∀ a b, Ej k Wl L a b → U a = U b)) :=
                ⟨HP.out.less, fun e => (HP.out.same e).1, HP.out.low, fun e a b hab => (HP.out.same e).2 a b (by rw [List.take_length]; exact hab)⟩
              clear HP HC
              go_wp2_with (fail)
              go_roundg (2 * sumT U k + (if c then 1 else 0))
              case measure =>
                have h1 := HM.out
                obtain ⟨h2, h3, _⟩ := HX.out
                cases c with
                | true => have := h2 rfl; simp at h1 ⊢; omega
                | false => rw [h3 rfl]; simp at h1 ⊢; omega
              case rel => exact ⟨U, c, rfl, rfl, HX.out.2.2.1, HX.out.2.2.2, HRO⟩
end Go.Proofs.Ytdbiikllcplmgaa
