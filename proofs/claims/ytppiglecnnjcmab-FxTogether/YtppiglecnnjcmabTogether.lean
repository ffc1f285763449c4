/- A sum of products that is rounded once is no less than the products rounded one by one, and greater by less than how many they are: true for all lists of ints. -/
import Derived.Test.YtppiglecnnjcmabDot
import Derived.Test.YtppiglecnnjcmabBad
import Derived.Test.YtppiglecnnjcmabRows
import Derived.ProofKit
import Derived.OpenShut
import Derived.ShutString
import Derived.ChangeOld
namespace Go.Proofs.Ytppiglecnnjcmab
namespace fxTogether
open Go.ChangeShapes Go.WideShapes Go.ChangeAt Go.RowKit Fx
open Go.ChangeMaps (open_string shut_string)
set_option linter.unusedVariables false

theorem own : ownKnob Try.prog.godebug = none := by kernel_rfl
theorem laidOut : laidOutB Try.prog = true := by kernel_rfl

/-- What the walk is told of a slice of integers that came in (after the guide's shell). -/
def IsRow (k : IntKind) (w : World) (a : Option Addr) (len cap : Nat) (zs : List Int) : Prop :=
  (a = none ∧ len = 0 ∧ cap = 0 ∧ zs = []) ∨
  ∃ x, a = some x ∧ len ≤ cap ∧ cap ≤ maxLen ∧ zs.length = cap ∧ (∀ i, i < zs.length → w.cell? (x.add i) = some (.int k (zs.getD i 0))) ∧ ∀ n ∈ zs, (Lit.int k n).wf = true

theorem row_of {w : World} {a : Option Addr} {len cap : Nat} {zs : List Int} (h : IsRow .i64 w a len cap zs) (n : Nat) (hn : n ≤ len) : Row w a (zs.take n) ∧ (zs.take n).length = n ∧ len ≤ cap := by
  rcases h with ⟨rfl, rfl, rfl, rfl⟩ | ⟨x, rfl, hl, hm, hz, hc, _⟩
  · exact ⟨Or.inl (by simp), by simp; omega, Nat.le_refl _⟩
  · unfold maxLen at hm
    have hlen : (zs.take n).length = n := by rw [List.length_take]; omega
    refine ⟨?_, hlen, hl⟩
    by_cases h0 : n = 0
    · exact Or.inl (by omega)
    · obtain ⟨b, off, spot⟩ := x
      have c0 := hc 0 (by omega)
      have hs : spot = none := by simpa [Addr.add] using World.cell?_spot c0
      subst hs
      refine Or.inr ⟨b, off, rfl, fun k hk => ?_⟩
      have := hc k (by omega)
      rw [show (zs.take n).getD k 0 = zs.getD k 0 by rw [List.getD_eq_getElem?_getD, List.getElem?_take, if_pos (by omega), List.getD_eq_getElem?_getD]]
      by_cases hk0 : k = 0
      · subst hk0; simpa [Addr.add] using this
      · simpa [Addr.add, hk0] using this

theorem row_after {w V : World} {a : Option Addr} {zs : List Int} (hb : Below w.heap.size w V) (h : Row w a zs) : Row V a zs := by
  rcases h with h | ⟨b, off, rfl, h⟩
  · exact Or.inl h
  · exact Or.inr ⟨b, off, rfl, fun k hk => cell_after hb (h k hk)⟩

theorem bad_row (zs : List Int) (n : Nat) (hn : zs.length = n) (a : Option Addr) (cap : Nat) (w : World) (hlen : n ≤ 4611686018427387904) (h : Row w a zs) :
    Calls Try.prog 7 #[.slice a n cap] w fun e w' => e = .returned (.bool (zs.any great)) ∧ w' = w := by
  subst hn
  rcases h with h | ⟨b, off, rfl, h⟩
  · obtain rfl : zs = [] := List.length_eq_zero_iff.1 h
    exact bad_nil a cap w
  · exact bad_any zs b off cap w hlen h

theorem dot_row (b off : Nat) (f : Bool) (zs ys : List Int) (n m : Nat) (hn : zs.length = n) (hm : ys.length = m) (a c : Option Addr) (cap cap' : Nat) (w : World) (hc : w.cell? ⟨b, off, none⟩ = some (.bool f)) (hf : w.frozen? ⟨b, off, none⟩ = false)
    (hz : n ≤ 4611686018427387904) (hy : m ≤ 4611686018427387904) (ha : Row w a zs) (hb : Row w c ys) :
    Calls Try.prog 15 #[.pointer (some ⟨b, off, none⟩), .slice a n cap, .slice c m cap'] w fun e W' => ∃ v g, e = .returned (.int .i64 v) ∧ Hid (Step f (dot zs ys) v g) ∧ Hid (After ⟨b, off, none⟩ g w W') := by
  subst hn hm
  exact dot_any b off f zs ys a c cap cap' w hc hf hz hy ha hb

/-- The products, each rounded by itself. -/
def fsum : List Int → List Int → Int
  | a :: l, b :: m => a * b / 4294967296 + fsum l m
  | _, _ => 0
theorem fsum_step : ∀ (k : Nat) (l m : List Int), k < l.length → k < m.length → fsum (l.take (k + 1)) (m.take (k + 1)) = fsum (l.take k) (m.take k) + l.getD k 0 * m.getD k 0 / 4294967296
  | 0, a :: l, b :: m, _, _ => by simp [fsum]
  | k + 1, a :: l, b :: m, h, h' => by
    have := fsum_step k l m (by simpa using h) (by simpa using h')
    simp only [List.take_succ_cons, fsum, List.getD_cons_succ] at this ⊢
    rw [this]; omega
  | _, [], _, h, _ => by simp at h
  | _, _ :: _, [], _, h => by simp at h
theorem fsum_near : ∀ (l m : List Int), fsum l m * 4294967296 ≤ prods l m ∧ prods l m ≤ fsum l m * 4294967296 + l.length * 4294967295
  | [], _ => by simp [fsum, prods]
  | _ :: l, [] => by simp [fsum, prods]; omega
  | a :: l, b :: m => by
    have := fsum_near l m
    simp only [fsum, prods, List.length_cons]
    omega

theorem step_some {f : Bool} {o : Option Int} {v : Int} (h : Step f o v false) : f = false ∧ o = some v := by
  obtain ⟨a, b⟩ := h
  cases o <;> simp_all
theorem told_is {n s : Int} (h : told n = some s) : s = n ∧ great s = false := by
  unfold told at h; split at h <;> simp_all
theorem mul_some {a b s : Int} (h : mul a b = some s) : s = a * b / 4294967296 := by
  unfold mul at h
  split at h
  · simp at h
  · exact (told_is h).1
theorem add_some {a b s : Int} (h : add a b = some s) : s = a + b ∧ great s = false := by
  unfold add at h
  split at h
  · simp at h
  · exact told_is h
theorem dot_some {l m : List Int} {s : Int} (h : dot l m = some s) : s = prods l m / 4294967296 ∧ great s = false := by
  unfold dot at h
  split at h
  · simp at h
  · split at h
    · simp at h
    · split at h
      · simp at h
      · exact told_is h

theorem slice_to (a : Option Addr) (len cap : Nat) (n : Int) (hn0 : 0 ≤ n) (h : n ≤ cap) (w : World) : (Instr.slice 24 (.slice a len cap) none (some (.int .i64 n)) none).run Try.prog w = .ok (.slice a n.toNat cap) w := by
  rw [run_slice_h _ 24 a len cap Try.underlying24 .i64 n hn0 h]
  have hs : (sizeOf (Try.prog.elem 24)).run Try.prog w = .ok 1 w := by kernel_rfl
  rw [hs]
  cases a <;> simp [Result.andThen, sliced, Addr.add]

theorem close {s d : Int} {l m : List Int} {n : Nat} (hn : l.length = n) (hs : s = fsum l m) (hd : d = prods l m / 4294967296) : s ≤ d ∧ d - s ≤ max ((n : Int) - 1) 0 := by
  have := fsum_near l m
  rw [hn] at this
  omega

set_option maxHeartbeats 4000000 in
theorem walk (a0 : Option Addr) (len0 cap0 : Nat) (z0 : List Int) (a1 : Option Addr) (len1 cap1 : Nat) (z1 : List Int) (w : World) (w0 : IsRow .i64 w a0 len0 cap0 z0) (w1 : IsRow .i64 w a1 len1 cap1 z1) :
    Calls Try.prog 4 #[.slice a0 len0 cap0, .slice a1 len1 cap1] w fun e w' => e = .returned (.bool true) ∧ Below w.heap.size w w' := by
  obtain ⟨n, hn⟩ : ∃ n : Nat, (len0 ≤ len1 ∧ len0 ≤ 8 ∧ n = len0) ∨ (len1 < len0 ∧ len1 ≤ 8 ∧ n = len1) ∨ (len0 ≤ len1 ∧ 8 < len0 ∧ n = 8) ∨ (len1 < len0 ∧ 8 < len1 ∧ n = 8) := by
    by_cases h : len0 ≤ len1
    · by_cases h' : len0 ≤ 8
      · exact ⟨_, Or.inl ⟨h, h', rfl⟩⟩
      · exact ⟨_, Or.inr (Or.inr (Or.inl ⟨h, by omega, rfl⟩))⟩
    · by_cases h' : len1 ≤ 8
      · exact ⟨_, Or.inr (Or.inl ⟨by omega, h', rfl⟩)⟩
      · exact ⟨_, Or.inr (Or.inr (Or.inr ⟨by omega, by omega, rfl⟩))⟩
  obtain ⟨R0, L0, k0⟩ := row_of w0 n (by omega)
  obtain ⟨R1, L1, k1⟩ := row_of w1 n (by omega)
  have hn8 : n ≤ 8 := by omega
  have SA := fun w => slice_to a0 len0 cap0 n (by omega) (by omega) w
  have SB := fun w => slice_to a1 len1 cap1 n (by omega) (by omega) w
  simp only [Int.toNat_natCast] at SA SB
  obtain ⟨l, el⟩ : ∃ l, l = z0.take n := ⟨_, rfl⟩
  obtain ⟨m, em⟩ : ∃ m, m = z1.take n := ⟨_, rfl⟩
  rw [← el] at R0 L0
  rw [← em] at R1 L1
  clear el em w0 w1 k0 k1
  have AW : Hid _ := awake_any w
  have HR0 : Hid _ := R0
  have HR1 : Hid _ := R1
  have HL0 : Hid _ := L0
  have HL1 : Hid _ := L1
  clear R0 R1 L0 L1
  have hG : Hid (l.any great = true ∨ (l.any great = false ∧ m.any great = true) ∨ (l.any great = false ∧ m.any great = false)) := by
    show _ ∨ _
    cases l.any great <;> cases m.any great <;> simp
  rcases hn with ⟨h1, h2, rfl⟩ | ⟨h1, h2, rfl⟩ | ⟨h1, h2, rfl⟩ | ⟨h1, h2, rfl⟩
  all_goals try (replace SA : ∀ w, (Instr.slice 24 (.slice a0 len0 cap0) none (some (.int .i64 8)) none).run Try.prog w = .ok (.slice a0 8 cap0) w := SA)
  all_goals try (replace SB : ∀ w, (Instr.slice 24 (.slice a1 len1 cap1) none (some (.int .i64 8)) none).run Try.prog w = .ok (.slice a1 8 cap1) w := SB)
  all_goals
    go_enter Try.func4, Try.ntmps4
    go_wp2_with (fail)
    refine Calls.mono AW.out ?_
    rintro e V ⟨rfl, hb0⟩
    have HB0 : Hid _ := hb0
    have hs0 : w.heap.size ≤ V.heap.size := hb0.size
    have RV0 : Hid _ := row_after hb0 HR0.out
    have RV1 : Hid _ := row_after hb0 HR1.out
    clear hb0 AW
    go_wp2_with (fail)
    refine Calls.mono (bad_row l _ HL0.out _ _ _ (by omega) RV0.out) ?_
    rintro e V1 ⟨rfl, hV1⟩
    rw [hV1]
    clear hV1
    rcases hG.out with g | ⟨g, g'⟩ | ⟨g, g'⟩
    · go_wp2_with (fail)
      go_ret
      exact ⟨rfl, HB0.out⟩
    · go_wp2_with (fail)
      refine Calls.mono (bad_row m _ HL1.out _ _ _ (by omega) RV1.out) ?_
      rintro e V1 ⟨rfl, hV1⟩
      rw [hV1]
      clear hV1
      go_wp2_with (fail)
      go_ret
      exact ⟨rfl, HB0.out⟩
    · go_wp2_with (fail)
      refine Calls.mono (bad_row m _ HL1.out _ _ _ (by omega) RV1.out) ?_
      rintro e V1 ⟨rfl, hV1⟩
      rw [hV1]
      clear hV1
      go_wp2_with (fail)
      clear g g' hG SA SB RV0 RV1
      go_loopw [8, 9] (fun s i wr => ∃ (k : Nat) (sv : Int) (g : Bool), k ≤ l.length ∧ i = .int .i64 k ∧ s = .int .i64 sv ∧ wr.cell? ⟨V.heap.size, 0, none⟩ = some (.bool g) ∧ wr.frozen? ⟨V.heap.size, 0, none⟩ = false ∧ Hid (Below w.heap.size w wr) ∧ Hid (g = false → sv = fsum (l.take k) (m.take k) ∧ great sv = false)) (fun _ i _ => l.length - (intOf i).toNat)
      case atStart => exact ⟨0, 0, false, Nat.zero_le _, rfl, rfl, by simp, by simp, HB0.out.alloc hs0 _, fun _ => ⟨by simp [fsum], rfl⟩⟩
      case round =>
        obtain ⟨k, sv, g, hk, rfl, rfl, cp, fp, HB, HI⟩ := hrel
        have hl0 := HL0.out
        have hl1 := HL1.out
        by_cases hlt : k < l.length
        · rcases HR0.out with h | ⟨ba, oa, rfl, hza⟩
          · omega
          rcases HR1.out with h | ⟨bb, ob, rfl, hyb⟩
          · omega
          have hcell := cell_after HB.out (hza k hlt)
          have hcell2 := cell_after HB.out (hyb k (by omega))
          have HS : Hid _ := fsum_step k l m hlt (by omega)
          obtain ⟨z, ez⟩ : ∃ z, l.getD k 0 = z := ⟨_, rfl⟩
          obtain ⟨y, ey⟩ : ∃ y, m.getD k 0 = y := ⟨_, rfl⟩
          rw [ez] at hcell HS
          rw [ey] at hcell2 HS
          have cpd : Hid (wr.drew.cell? ⟨V.heap.size, 0, none⟩ = some (.bool g)) := cp
          have fpd : Hid (wr.drew.frozen? ⟨V.heap.size, 0, none⟩ = false) := fp
          have hi0 : (0 : Int) ≤ (k : Int) := by omega
          clear ez ey hza hyb HR0 HR1
          go_wp2
          go_region_with (first
            | (go_at_call 8; refine (mul_law V.heap.size 0 g _ _ _ ?_ ?_).mono ?_; (exact cpd.out); (exact fpd.out); rintro e W1 ⟨v1, g1, rfl, S1, A1⟩; have c1 := A1.out.cell; have f1 := A1.out.frozen)
            | (go_at_call 10; refine (add_law V.heap.size 0 g1 _ _ _ ?_ ?_).mono ?_; (exact c1); (exact f1); rintro e W2 ⟨v2, g2, rfl, S2, A2⟩))
          all_goals go_wp2
          all_goals go_roundw
          all_goals try (case rel => exact ⟨k + 1, v2, g2, by omega, by go_num, rfl, A2.out.cell, A2.out.frozen, A2.out.on (A1.out.on HB.out.drew hs0) hs0, fun hz => by
            subst hz
            obtain ⟨rfl, e2⟩ := step_some S2.out
            obtain ⟨rfl, e1⟩ := step_some S1.out
            have i1 := HI.out rfl
            have i2 := mul_some e1
            have i3 := add_some e2
            exact ⟨by rw [i3.1, i1.1, i2, HS.out], i3.2⟩⟩)
          all_goals try (case measure => simp [intOf]; omega)
        · obtain rfl : k = l.length := by omega
          have RW0 : Hid _ := row_after HB.out HR0.out
          have RW1 : Hid _ := row_after HB.out HR1.out
          go_wp2_with (fail)
          refine (dot_row V.heap.size 0 g l m _ _ HL0.out HL1.out _ _ _ _ _ cp fp (by omega) (by omega) RW0.out RW1.out).mono ?_
          rintro e W3 ⟨d, g3, rfl, S3, A3⟩
          have c3 := A3.out.cell
          have HB3 : Hid _ := A3.out.on HB.out hs0
          cases g3
          · obtain ⟨rfl, e3⟩ := step_some S3.out
            have i3 := dot_some e3
            have i1 := HI.out rfl
            rw [List.take_length, show m.take l.length = m by rw [List.take_of_length_le (by omega)]] at i1
            have hcl := close rfl i1.1 i3.1
            have b1 := (not_great _).1 i1.2
            have b3 := (not_great _).1 i3.2
            clear i1 i3 e3 S3 HI A3 RW0 RW1
            go_wp2_with (fail)
            all_goals go_ret
            all_goals exact ⟨ret_bool (by first | (simp; done) | (simp; omega) | (simp [*]; omega)), HB3.out⟩
          · go_wp2_with (fail)
            go_ret
            exact ⟨rfl, HB3.out⟩

/-! ### The row's step, after the guide's template -/
set_option maxRecDepth 100000 in
theorem lifted (os : Os) (started : os.Started) (H : Type) (enc : TypeId × Value → H) :
    ReturnsInHanded {} Try.checked os 4 .any (Rows.fxTogetherSpec.pre6 enc Try.prog Try.f4 Rows.fxTogetherRow.domain false) (Rows.fxTogetherSpec.post enc Try.prog Try.f4 false true false false) := by
  refine returnsInHanded_of_change (C := Try.checked) own started (by kernel_rfl) Try.func4
    (ChangeSpec.witness6 (enc := enc) (C := Try.checked) false ⟨#[], #[.slice none 0 0, .slice none 0 0], []⟩ 8 (by kernel_rfl) (by kernel_rfl) (by kernel_rfl) (by kernel_rfl)) ?_
  intro W base args ds gs before hval0 hW hcnd _
  have hval : ∀ (j : Nat) t v, Try.f4.params[j]? = some t → args[j]? = some v → Value.okWide Try.prog W .any base t v := hval0
  have hW' := hW
  obtain ⟨p, q, hA0, hV, rfl, hfz, hnd⟩ := hW
  have hA : DataW.TrodAll enc Try.prog W 0 (fun _ => true) true Try.f4.params.toList args.toList ds p := hA0
  rw [Try.params4] at hA hval
  obtain ⟨v0, vs0, d0, ds0, p0, q0, hargs, rfl, rfl, h0, r0⟩ := trodAll_cons hA
  obtain ⟨v1, vs1, d1, ds1, p1, q1, rfl, rfl, rfl, h1, r1⟩ := trodAll_cons r0
  obtain ⟨rfl, rfl, rfl⟩ := trodAll_nil r1
  obtain rfl : args = #[v0, v1] := by cases args; simp_all
  obtain ⟨rfl, rfl⟩ := trodVars_none hV
  obtain ⟨a0, len0, cap0, rfl⟩ := okWide_slice Try.underlying24 (hval 0 24 v0 rfl rfl)
  have k0 := h0
  have lt0 : ∀ x ∈ p0, x.block < W.heap.size := by obtain ⟨m, hm⟩ := k0; exact DataW.trod_lt m _ _ _ hm
  obtain ⟨z0, w0⟩ : ∃ zs, IsRow .i64 W a0 len0 cap0 zs := by
    obtain ⟨fuel, hf⟩ := h0
    rcases open_ints Try.underlying24 Try.underlying3 (by kernel_rfl) hf with ⟨hcs, _⟩ | ⟨x, l, c, zs, hcs, _, hl, hm, hz, _, hcell, hwz⟩
    · simp [Value.cells] at hcs
      obtain ⟨rfl, rfl, rfl⟩ := hcs
      exact ⟨[], .inl ⟨rfl, rfl, rfl, rfl⟩⟩
    · simp [Value.cells] at hcs
      obtain ⟨rfl, rfl, rfl⟩ := hcs
      exact ⟨zs, .inr ⟨_, rfl, hl, hm, by simpa using hz, hcell, hwz⟩⟩
  obtain ⟨a1, len1, cap1, rfl⟩ := okWide_slice Try.underlying24 (hval 1 24 v1 rfl rfl)
  have k1 := h1
  have lt1 : ∀ x ∈ p1, x.block < W.heap.size := by obtain ⟨m, hm⟩ := k1; exact DataW.trod_lt m _ _ _ hm
  obtain ⟨z1, w1⟩ : ∃ zs, IsRow .i64 W a1 len1 cap1 zs := by
    obtain ⟨fuel, hf⟩ := h1
    rcases open_ints Try.underlying24 Try.underlying3 (by kernel_rfl) hf with ⟨hcs, _⟩ | ⟨x, l, c, zs, hcs, _, hl, hm, hz, _, hcell, hwz⟩
    · simp [Value.cells] at hcs
      obtain ⟨rfl, rfl, rfl⟩ := hcs
      exact ⟨[], .inl ⟨rfl, rfl, rfl, rfl⟩⟩
    · simp [Value.cells] at hcs
      obtain ⟨rfl, rfl, rfl⟩ := hcs
      exact ⟨zs, .inr ⟨_, rfl, hl, hm, by simpa using hz, hcell, hwz⟩⟩
  clear hA0 hval0
  refine (walk a0 len0 cap0 z0 a1 len1 cap1 z1 W w0 w1).mono fun e W' ⟨he, bel⟩ => ?_
  subst he
  exact ⟨_, rfl, _, _, _, [], _, [], hW', trodAll_mk1 (shut_bool Try.underlying4 _), (trodAll_cons_mk (Below.trod laidOut (by kernel_rfl) (of_decide_eq_true (by kernel_rfl)) k0 bel lt0) (trodAll_cons_mk (Below.trod laidOut (by kernel_rfl) (of_decide_eq_true (by kernel_rfl)) k1 bel lt1) trodAll_mk0)), rfl, bel.frame _, fun h => by cases h⟩

theorem over : Rows.fxTogetherRow.holds Try.pinned (OpenSpec.ofChange Rows.fxTogetherSpec) :=
  OpenClaim.holds_of_wide 4 Try.f4 rfl rfl rfl rfl rfl rfl rfl ⟨rfl, rfl, rfl, rfl, rfl⟩ rfl rfl rfl rfl rfl (by kernel_rfl) Try.func4 (by kernel_rfl)
    (of_decide_eq_true (by kernel_rfl)) (by unfold Func.isWrapper; first | (rw [if_pos (by decide +kernel)]; kernel_rfl) | (rw [if_neg (by decide +kernel)]; exact ⟨rfl, rfl⟩))
    (fun os started H enc _ => lifted os started H enc)

end fxTogether

theorem fxTogether_holds : Rows.FxTogetherSaid := fxTogether.over
#print axioms fxTogether_holds
end Go.Proofs.Ytppiglecnnjcmab
