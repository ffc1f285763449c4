/- Sums of products, and roots of sums of squares, are the document's, and so is the flag: true for all lists of ints. -/
import Derived.Test.YtbjjpccaiciahaaRef9
import Derived.Test.YtbjjpccaiciahaaAwake
import Derived.Test.YtbjjpccaiciahaaRows
import Derived.ProofKit
import Derived.OpenShut
import Derived.ShutString
import Derived.ChangeOld
namespace Go.Proofs.Ytbjjpccaiciahaa
namespace fxDots
open Go.ChangeShapes Go.WideShapes Go.ChangeAt Go.RowKit Fx
open Go.ChangeMaps (open_string shut_string)
set_option linter.unusedVariables false

theorem own : ownKnob Try.prog.godebug = none := by kernel_rfl
theorem laidOut : laidOutB Try.prog = true := by kernel_rfl

/-- What the walk is told of a slice of integers that came in (after the guide's shell). -/
def IsRow (k : IntKind) (w : World) (a : Option Addr) (len cap : Nat) (zs : List Int) : Prop :=
  (a = none ∧ len = 0 ∧ cap = 0 ∧ zs = []) ∨
  ∃ x, a = some x ∧ len ≤ cap ∧ cap ≤ maxLen ∧ zs.length = cap ∧ (∀ i, i < zs.length → w.cell? (x.add i) = some (.int k (zs.getD i 0))) ∧ ∀ n ∈ zs, (Lit.int k n).wf = true

theorem row_of {w : World} {a : Option Addr} {len cap : Nat} {zs : List Int} (h : IsRow .i64 w a len cap zs) (n : Nat) (hn : n ≤ len) : Row w a (zs.take n) ∧ (zs.take n).length = n ∧ len ≤ cap := by
  rcases h with ⟨rfl, rfl, rfl, rfl⟩ | ⟨x, rfl, hl, hm, hz, hc, _⟩
  · exact ⟨Or.inl (by simp), by simp; omega, Nat.le_refl _⟩
  · unfold maxLen at hm
    have hlen : (zs.take n).length = n := by rw [List.length_take]; omega
    refine ⟨?_, hlen, hl⟩
    by_cases h0 : n = 0
    · exact Or.inl (by omega)
    · obtain ⟨b, off, spot⟩ := x
      have c0 := hc 0 (by omega)
      have hs : spot = none := by simpa [Addr.add] using World.cell?_spot c0
      subst hs
      refine Or.inr ⟨b, off, rfl, fun k hk => ?_⟩
      have := hc k (by omega)
      rw [show (zs.take n).getD k 0 = zs.getD k 0 by rw [List.getD_eq_getElem?_getD, List.getElem?_take, if_pos (by omega), List.getD_eq_getElem?_getD]]
      by_cases hk0 : k = 0
      · subst hk0; simpa [Addr.add] using this
      · simpa [Addr.add, hk0] using this

theorem row_after {w V : World} {a : Option Addr} {zs : List Int} (hb : Below w.heap.size w V) (h : Row w a zs) : Row V a zs := by
  rcases h with h | ⟨b, off, rfl, h⟩
  · exact Or.inl h
  · exact Or.inr ⟨b, off, rfl, fun k hk => cell_after hb (h k hk)⟩


set_option maxHeartbeats 1000000 in
theorem dot_far (b off : Nat) (f : Bool) (n m : Nat) (a c : Option Addr) (cap cap' : Nat) (w : World) (hc : w.cell? ⟨b, off, none⟩ = some (.bool f)) (hf : w.frozen? ⟨b, off, none⟩ = false) (h : n ≠ m ∨ 8 < n) :
    Calls Try.prog 22 #[.pointer (some ⟨b, off, none⟩), .slice a n cap, .slice c m cap'] w fun e W' => ∃ v g, e = .returned (.int .i64 v) ∧ Hid (Step f (none) v g) ∧ Hid (After ⟨b, off, none⟩ g w W') := by
  have HC : Hid _ := hc
  have HF : Hid _ := hf
  have C2 : Hid _ := none_any b off f w hc hf
  clear hc hf
  by_cases h1 : n = m
  · have h1' : ((n : Int) != (m : Int)) = false := by simp [h1]
    have h8 : 8 < n := h.resolve_left (fun e => e h1)
    clear h h1
    go_enter Try.func22, Try.ntmps22
    go_wp2_with (fail)
    refine Calls.mono C2.out ?_
    rintro e w2 ⟨rfl, rfl⟩
    go_wp2_with (fail)
    go_ret
    exact ⟨_, _, rfl, ⟨rfl, rfl⟩, after_of (o := none) (Below.refl _ _) HC.out HF.out⟩
  · have h1' : ((n : Int) != (m : Int)) = true := by simp; omega
    clear h
    go_enter Try.func22, Try.ntmps22
    go_wp2_with (fail)
    refine Calls.mono C2.out ?_
    rintro e w2 ⟨rfl, rfl⟩
    go_wp2_with (fail)
    go_ret
    exact ⟨_, _, rfl, ⟨rfl, rfl⟩, after_of (o := none) (Below.refl _ _) HC.out HF.out⟩

set_option maxHeartbeats 1000000 in
theorem rdot_far (b off : Nat) (f : Bool) (n m : Nat) (a c : Option Addr) (cap cap' : Nat) (w : World) (hc : w.cell? ⟨b, off, none⟩ = some (.bool f)) (hf : w.frozen? ⟨b, off, none⟩ = false) (h : n ≠ m ∨ 8 < n) :
    Calls Try.prog 23 #[.pointer (some ⟨b, off, none⟩), .slice a n cap, .slice c m cap'] w fun e W' => ∃ v g, e = .returned (.int .i64 v) ∧ Hid (Step f (none) v g) ∧ Hid (After ⟨b, off, none⟩ g w W') := by
  have HC : Hid _ := hc
  have HF : Hid _ := hf
  have C2 : Hid _ := rtells_any b off f 0 false w hc hf
  clear hc hf
  by_cases h1 : n = m
  · have h1' : ((n : Int) != (m : Int)) = false := by simp [h1]
    have h8 : 8 < n := h.resolve_left (fun e => e h1)
    clear h h1
    go_enter Try.func23, Try.ntmps23
    go_wp2_with (fail)
    refine Calls.mono C2.out ?_
    rintro e w2 ⟨rfl, hb2⟩
    go_wp2_with (fail)
    go_ret
    exact told_end rfl (Below.refl _ _) hb2 HC.out HF.out
  · have h1' : ((n : Int) != (m : Int)) = true := by simp; omega
    clear h
    go_enter Try.func23, Try.ntmps23
    go_wp2_with (fail)
    refine Calls.mono C2.out ?_
    rintro e w2 ⟨rfl, hb2⟩
    go_wp2_with (fail)
    go_ret
    exact told_end rfl (Below.refl _ _) hb2 HC.out HF.out

set_option maxHeartbeats 1000000 in
theorem norm_far (b off : Nat) (f : Bool) (n : Nat) (a : Option Addr) (cap : Nat) (w : World) (hc : w.cell? ⟨b, off, none⟩ = some (.bool f)) (hf : w.frozen? ⟨b, off, none⟩ = false) (h : 8 < n) :
    Calls Try.prog 24 #[.pointer (some ⟨b, off, none⟩), .slice a n cap] w fun e W' => ∃ v g, e = .returned (.int .i64 v) ∧ Hid (Step f (none) v g) ∧ Hid (After ⟨b, off, none⟩ g w W') := by
  have HC : Hid _ := hc
  have HF : Hid _ := hf
  have C2 : Hid _ := none_any b off f w hc hf
  clear hc hf
  go_enter Try.func24, Try.ntmps24
  go_wp2_with (fail)
  refine Calls.mono C2.out ?_
  rintro e w2 ⟨rfl, rfl⟩
  go_wp2_with (fail)
  go_ret
  exact ⟨_, _, rfl, ⟨rfl, rfl⟩, after_of (o := none) (Below.refl _ _) HC.out HF.out⟩

set_option maxHeartbeats 1000000 in
theorem rnorm_far (b off : Nat) (f : Bool) (n : Nat) (a : Option Addr) (cap : Nat) (w : World) (hc : w.cell? ⟨b, off, none⟩ = some (.bool f)) (hf : w.frozen? ⟨b, off, none⟩ = false) (h : 8 < n) :
    Calls Try.prog 25 #[.pointer (some ⟨b, off, none⟩), .slice a n cap] w fun e W' => ∃ v g, e = .returned (.int .i64 v) ∧ Hid (Step f (none) v g) ∧ Hid (After ⟨b, off, none⟩ g w W') := by
  have HC : Hid _ := hc
  have HF : Hid _ := hf
  have C2 : Hid _ := rtells_any b off f 0 false w hc hf
  clear hc hf
  go_enter Try.func25, Try.ntmps25
  go_wp2_with (fail)
  refine Calls.mono C2.out ?_
  rintro e w2 ⟨rfl, hb2⟩
  go_wp2_with (fail)
  go_ret
  exact told_end rfl (Below.refl _ _) hb2 HC.out HF.out

theorem same_dots (a0 : Option Addr) (len0 cap0 : Nat) (z0 : List Int) (a1 : Option Addr) (len1 cap1 : Nat) (z1 : List Int) (w : World) (w0 : IsRow .i64 w a0 len0 cap0 z0) (w1 : IsRow .i64 w a1 len1 cap1 z1) :
    ∃ o : Option Int, (∀ (b off : Nat) (f : Bool) (W : World), Below w.heap.size w W → W.cell? ⟨b, off, none⟩ = some (.bool f) → W.frozen? ⟨b, off, none⟩ = false → Calls Try.prog 22 #[.pointer (some ⟨b, off, none⟩), .slice a0 len0 cap0, .slice a1 len1 cap1] W fun e W' => ∃ v g, e = .returned (.int .i64 v) ∧ Hid (Step f (o) v g) ∧ Hid (After ⟨b, off, none⟩ g W W')) ∧
      (∀ (b off : Nat) (f : Bool) (W : World), Below w.heap.size w W → W.cell? ⟨b, off, none⟩ = some (.bool f) → W.frozen? ⟨b, off, none⟩ = false → Calls Try.prog 23 #[.pointer (some ⟨b, off, none⟩), .slice a0 len0 cap0, .slice a1 len1 cap1] W fun e W' => ∃ v g, e = .returned (.int .i64 v) ∧ Hid (Step f (o) v g) ∧ Hid (After ⟨b, off, none⟩ g W W')) := by
  by_cases h : len0 ≠ len1 ∨ 8 < len0
  · exact ⟨none, fun b off f W _ hc hf => dot_far b off f len0 len1 a0 a1 cap0 cap1 W hc hf h, fun b off f W _ hc hf => rdot_far b off f len0 len1 a0 a1 cap0 cap1 W hc hf h⟩
  · obtain ⟨R0, L0, _⟩ := row_of w0 len0 (Nat.le_refl _)
    obtain ⟨R1, L1, _⟩ := row_of w1 len1 (Nat.le_refl _)
    refine ⟨dot (z0.take len0) (z1.take len1), fun b off f W hb hc hf => ?_, fun b off f W hb hc hf => ?_⟩
    · have := dot_any b off f (z0.take len0) (z1.take len1) a0 a1 cap0 cap1 W hc hf (by omega) (by omega) (row_after hb R0) (row_after hb R1)
      rwa [L0, L1] at this
    · have := rdot_law b off f (z0.take len0) (z1.take len1) a0 a1 cap0 cap1 W hc hf (by omega) (by omega) (row_after hb R0) (row_after hb R1)
      rwa [L0, L1] at this
theorem same_norms (a0 : Option Addr) (len0 cap0 : Nat) (z0 : List Int) (w : World) (w0 : IsRow .i64 w a0 len0 cap0 z0) :
    ∃ o : Option Int, (∀ (b off : Nat) (f : Bool) (W : World), Below w.heap.size w W → W.cell? ⟨b, off, none⟩ = some (.bool f) → W.frozen? ⟨b, off, none⟩ = false → Calls Try.prog 24 #[.pointer (some ⟨b, off, none⟩), .slice a0 len0 cap0] W fun e W' => ∃ v g, e = .returned (.int .i64 v) ∧ Hid (Step f (o) v g) ∧ Hid (After ⟨b, off, none⟩ g W W')) ∧
      (∀ (b off : Nat) (f : Bool) (W : World), Below w.heap.size w W → W.cell? ⟨b, off, none⟩ = some (.bool f) → W.frozen? ⟨b, off, none⟩ = false → Calls Try.prog 25 #[.pointer (some ⟨b, off, none⟩), .slice a0 len0 cap0] W fun e W' => ∃ v g, e = .returned (.int .i64 v) ∧ Hid (Step f (o) v g) ∧ Hid (After ⟨b, off, none⟩ g W W')) := by
  by_cases h : 8 < len0
  · exact ⟨none, fun b off f W _ hc hf => norm_far b off f len0 a0 cap0 W hc hf h, fun b off f W _ hc hf => rnorm_far b off f len0 a0 cap0 W hc hf h⟩
  · obtain ⟨R0, L0, _⟩ := row_of w0 len0 (Nat.le_refl _)
    refine ⟨norm (z0.take len0), fun b off f W hb hc hf => ?_, fun b off f W hb hc hf => ?_⟩
    · have := norm_row b off f (z0.take len0) a0 cap0 W hc hf (by omega) (row_after hb R0)
      rwa [L0] at this
    · have := rnorm_law b off f (z0.take len0) a0 cap0 W hc hf (by omega) (row_after hb R0)
      rwa [L0] at this

set_option maxHeartbeats 8000000 in
theorem walk (a0 : Option Addr) (len0 cap0 : Nat) (z0 : List Int) (a1 : Option Addr) (len1 cap1 : Nat) (z1 : List Int) (w : World) (w0 : IsRow .i64 w a0 len0 cap0 z0) (w1 : IsRow .i64 w a1 len1 cap1 z1) :
    Calls Try.prog 5 #[.slice a0 len0 cap0, .slice a1 len1 cap1] w fun e w' => e = .returned (.bool true) ∧ Below w.heap.size w w' := by
  obtain ⟨od, D1, D2⟩ := same_dots a0 len0 cap0 z0 a1 len1 cap1 z1 w w0 w1
  obtain ⟨on, N1, N2⟩ := same_norms a0 len0 cap0 z0 w w0
  have HD1 : Hid _ := D1
  have HD2 : Hid _ := D2
  have HN1 : Hid _ := N1
  have HN2 : Hid _ := N2
  have AW : Hid _ := awake_any w
  clear D1 D2 N1 N2 w0 w1
  go_enter Try.func5, Try.ntmps5
  go_wp2_with (fail)
  refine Calls.mono AW.out ?_
  rintro e V ⟨rfl, hb0⟩
  have HB : Hid (Below w.heap.size w V) := hb0
  have hsW : w.heap.size ≤ V.heap.size := hb0.size
  clear hb0 AW
  go_wp2_with (fail)
  refine Calls.mono (HD1.out V.heap.size 0 false _ ((HB.out.alloc hsW _).alloc (by simp; omega) _) (by simp) (by simp)) ?_
  rintro e W1 ⟨x, g, rfl, S1, A1⟩
  have c1 := A1.out.cell
  have c2 : W1.cell? ⟨V.heap.size + 1, 0, none⟩ = some (.bool false) := A1.out.cellOf (by simp) (by simp)
  have f2 : W1.frozen? ⟨V.heap.size + 1, 0, none⟩ = false := A1.out.frozenOf (v := .bool false) (by simp) (by simp) (by simp)
  have B1 : Hid (Below w.heap.size w W1) := A1.out.on ((HB.out.alloc hsW _).alloc (by simp; omega) _) hsW
  clear A1
  go_wp2_with (fail)
  refine Calls.mono (HD2.out (V.heap.size + 1) 0 false _ B1.out c2 f2) ?_
  rintro e W2 ⟨y, h, rfl, S2, A2⟩
  obtain ⟨rfl, rfl⟩ : x = y ∧ g = h := by
    obtain ⟨a1, a2⟩ := S1.out
    obtain ⟨b1, b2⟩ := S2.out
    exact ⟨a1.trans b1.symm, a2.trans b2.symm⟩
  have d1 := A2.out.cellOf c1 (by simp)
  have d2 := A2.out.cell
  have B2 : Hid (Below w.heap.size w W2) := A2.out.on B1.out (by simp; omega)
  have hsV : V.heap.size + 1 < W2.heap.size := World.block_lt_of_cell? _ _ d2
  clear S1 S2 A2 B1 c1 c2 f2 HD1 HD2
  obtain ⟨p0, hp0⟩ : ∃ p, p = V.heap.size := ⟨_, rfl⟩
  obtain ⟨p1, hp1⟩ : ∃ p, p = V.heap.size + 1 := ⟨_, rfl⟩
  rw [← hp1] at d2 hsV
  rw [← hp0] at d1
  rw [← hp1, ← hp0]
  have hsP : p0 < W2.heap.size := by omega
  have hsX : w.heap.size ≤ W2.heap.size := B2.out.size
  clear hp0 hp1 hsW
  have HQ : Hid (∀ q : Nat, q < W2.heap.size → q ≠ W2.heap.size ∧ q ≠ W2.heap.size + 1) := fun q hq => by omega
  go_wp2_with (fail)
  refine Calls.mono (HN1.out W2.heap.size 0 false _ ((B2.out.alloc hsX _).alloc (by simp; omega) _) (by simp) (by simp)) ?_
  rintro e W3 ⟨x', g', rfl, S3, A3⟩
  have d1 := A3.out.cellOf (q := ⟨p0, 0, none⟩) (v := .bool g) (by simp [go_sem, hsP, d1]) (HQ.out p0 hsP).1
  have d2 := A3.out.cellOf (q := ⟨p1, 0, none⟩) (v := .bool g) (by simp [go_sem, hsV, d2]) (HQ.out p1 hsV).1
  have c1 := A3.out.cell
  have c2 : W3.cell? ⟨W2.heap.size + 1, 0, none⟩ = some (.bool false) := A3.out.cellOf (by simp) (by simp)
  have f2 : W3.frozen? ⟨W2.heap.size + 1, 0, none⟩ = false := A3.out.frozenOf (v := .bool false) (by simp) (by simp) (by simp)
  have B3 : Hid (Below w.heap.size w W3) := A3.out.on ((B2.out.alloc hsX _).alloc (by simp; omega) _) hsX
  clear A3 B2
  go_wp2_with (fail)
  refine Calls.mono (HN2.out (W2.heap.size + 1) 0 false _ B3.out c2 f2) ?_
  rintro e W4 ⟨y', h', rfl, S4, A4⟩
  obtain ⟨rfl, rfl⟩ : x' = y' ∧ g' = h' := by
    obtain ⟨a1, a2⟩ := S3.out
    obtain ⟨b1, b2⟩ := S4.out
    exact ⟨a1.trans b1.symm, a2.trans b2.symm⟩
  have d3 := A4.out.cellOf c1 (by simp)
  have d4 := A4.out.cell
  have d1 := A4.out.cellOf d1 (HQ.out p0 hsP).2
  have d2 := A4.out.cellOf d2 (HQ.out p1 hsV).2
  have B4 : Hid (Below w.heap.size w W4) := A4.out.on B3.out (by simp; omega)
  clear S3 S4 A4 B3 c1 c2 f2 HQ HN1 HN2
  obtain ⟨p2, hp2⟩ : ∃ p, p = W2.heap.size := ⟨_, rfl⟩
  obtain ⟨p3, hp3⟩ : ∃ p, p = W2.heap.size + 1 := ⟨_, rfl⟩
  rw [← hp3] at d4
  rw [← hp2] at d3
  rw [← hp3, ← hp2]
  clear hp2 hp3 hsP hsV hsX
  go_wp2_with (fail)
  go_region
  all_goals go_wp2_with (fail)
  all_goals go_ret
  all_goals exact ⟨ret_bool (by simp), B4.out.drew⟩

/-! ### The row's step, after the guide's template -/
set_option maxRecDepth 100000 in
theorem lifted (os : Os) (started : os.Started) (H : Type) (enc : TypeId × Value → H) :
    ReturnsInHanded {} Try.checked os 5 .any (Rows.fxDotsSpec.pre6 enc Try.prog Try.f5 Rows.fxDotsRow.domain false) (Rows.fxDotsSpec.post enc Try.prog Try.f5 false true false false) := by
  refine returnsInHanded_of_change (C := Try.checked) own started (by kernel_rfl) Try.func5
    (ChangeSpec.witness6 (enc := enc) (C := Try.checked) false ⟨#[], #[.slice none 0 0, .slice none 0 0], []⟩ 8 (by kernel_rfl) (by kernel_rfl) (by kernel_rfl) (by kernel_rfl)) ?_
  intro W base args ds gs before hval0 hW hcnd _
  have hval : ∀ (j : Nat) t v, Try.f5.params[j]? = some t → args[j]? = some v → Value.okWide Try.prog W .any base t v := hval0
  have hW' := hW
  obtain ⟨p, q, hA0, hV, rfl, hfz, hnd⟩ := hW
  have hA : DataW.TrodAll enc Try.prog W 0 (fun _ => true) true Try.f5.params.toList args.toList ds p := hA0
  rw [Try.params5] at hA hval
  obtain ⟨v0, vs0, d0, ds0, p0, q0, hargs, rfl, rfl, h0, r0⟩ := trodAll_cons hA
  obtain ⟨v1, vs1, d1, ds1, p1, q1, rfl, rfl, rfl, h1, r1⟩ := trodAll_cons r0
  obtain ⟨rfl, rfl, rfl⟩ := trodAll_nil r1
  obtain rfl : args = #[v0, v1] := by cases args; simp_all
  obtain ⟨rfl, rfl⟩ := trodVars_none hV
  obtain ⟨a0, len0, cap0, rfl⟩ := okWide_slice Try.underlying33 (hval 0 33 v0 rfl rfl)
  have k0 := h0
  have lt0 : ∀ x ∈ p0, x.block < W.heap.size := by obtain ⟨m, hm⟩ := k0; exact DataW.trod_lt m _ _ _ hm
  obtain ⟨z0, w0⟩ : ∃ zs, IsRow .i64 W a0 len0 cap0 zs := by
    obtain ⟨fuel, hf⟩ := h0
    rcases open_ints Try.underlying33 Try.underlying3 (by kernel_rfl) hf with ⟨hcs, _⟩ | ⟨x, l, c, zs, hcs, _, hl, hm, hz, _, hcell, hwz⟩
    · simp [Value.cells] at hcs
      obtain ⟨rfl, rfl, rfl⟩ := hcs
      exact ⟨[], .inl ⟨rfl, rfl, rfl, rfl⟩⟩
    · simp [Value.cells] at hcs
      obtain ⟨rfl, rfl, rfl⟩ := hcs
      exact ⟨zs, .inr ⟨_, rfl, hl, hm, by simpa using hz, hcell, hwz⟩⟩
  obtain ⟨a1, len1, cap1, rfl⟩ := okWide_slice Try.underlying33 (hval 1 33 v1 rfl rfl)
  have k1 := h1
  have lt1 : ∀ x ∈ p1, x.block < W.heap.size := by obtain ⟨m, hm⟩ := k1; exact DataW.trod_lt m _ _ _ hm
  obtain ⟨z1, w1⟩ : ∃ zs, IsRow .i64 W a1 len1 cap1 zs := by
    obtain ⟨fuel, hf⟩ := h1
    rcases open_ints Try.underlying33 Try.underlying3 (by kernel_rfl) hf with ⟨hcs, _⟩ | ⟨x, l, c, zs, hcs, _, hl, hm, hz, _, hcell, hwz⟩
    · simp [Value.cells] at hcs
      obtain ⟨rfl, rfl, rfl⟩ := hcs
      exact ⟨[], .inl ⟨rfl, rfl, rfl, rfl⟩⟩
    · simp [Value.cells] at hcs
      obtain ⟨rfl, rfl, rfl⟩ := hcs
      exact ⟨zs, .inr ⟨_, rfl, hl, hm, by simpa using hz, hcell, hwz⟩⟩
  clear hA0 hval0
  refine (walk a0 len0 cap0 z0 a1 len1 cap1 z1 W w0 w1).mono fun e W' ⟨he, bel⟩ => ?_
  subst he
  exact ⟨_, rfl, _, _, _, [], _, [], hW', trodAll_mk1 (shut_bool Try.underlying4 _), (trodAll_cons_mk (Below.trod laidOut (by kernel_rfl) (of_decide_eq_true (by kernel_rfl)) k0 bel lt0) (trodAll_cons_mk (Below.trod laidOut (by kernel_rfl) (of_decide_eq_true (by kernel_rfl)) k1 bel lt1) trodAll_mk0)), rfl, bel.frame _, fun h => by cases h⟩

theorem over : Rows.fxDotsRow.holds Try.pinned (OpenSpec.ofChange Rows.fxDotsSpec) :=
  OpenClaim.holds_of_wide 5 Try.f5 rfl rfl rfl rfl rfl rfl rfl ⟨rfl, rfl, rfl, rfl, rfl⟩ rfl rfl rfl rfl rfl (by kernel_rfl) Try.func5 (by kernel_rfl)
    (of_decide_eq_true (by kernel_rfl)) (by unfold Func.isWrapper; first | (rw [if_pos (by decide +kernel)]; kernel_rfl) | (rw [if_neg (by decide +kernel)]; exact ⟨rfl, rfl⟩))
    (fun os started H enc _ => lifted os started H enc)

end fxDots

theorem fxDots_holds : Rows.FxDotsSaid := fxDots.over
#print axioms fxDots_holds
end Go.Proofs.Ytbjjpccaiciahaa
