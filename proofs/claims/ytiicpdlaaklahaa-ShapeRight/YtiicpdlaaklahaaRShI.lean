/- The document's own sums of numbers that are not too great; half widths. -/
import Derived.Test.YtiicpdlaaklahaaQRef7
import Derived.Test.YtiicpdlaaklahaaShS
namespace Go.Proofs.Ytiicpdlaaklahaa
namespace RF
open Go.RowKit Ref Fx
theorem told_ok {b off : Nat} {o : Int} {n : Int} {ok : Bool} {w w1 w2 : World} (ho : tellsOf n ok = some o) (h1 : Below w.heap.size w w1) (h2 : Below w1.heap.size (mark ⟨b, off, none⟩ (tellsOf n ok) w1) w2) :
    Ending.returned (.int .i64 ((tellsOf n ok).getD 0)) = .returned (.int .i64 o) ∧ Below w.heap.size w w2 := by
  rw [ho] at h2 ⊢
  exact ⟨rfl, below_step h1 h2⟩
set_option maxHeartbeats 1000000 in
theorem radd_ok (b : Nat) (x y n : Int) (w : World) (hc : w.cell? ⟨b, 0, none⟩ = some (.bool false)) (hf : w.frozen? ⟨b, 0, none⟩ = false) (h : add x y = some n) :
    Calls Try.prog 35 #[.pointer (some ⟨b, 0, none⟩), .int .i64 x, .int .i64 y] w fun e W' => e = .returned (.int .i64 n) ∧ Below w.heap.size w W' := by
  have hb := new_after w (.cells #[.int .i64 x, .int .i64 y] 3)
  have hc' := cell_after hb hc
  have hf' := frozen_after hb hc hf
  have C1 := rgreat2 x y w
  have hg : (great x || great y) = false := by
    cases hg : (great x || great y) with
    | false => rfl
    | true => simp [add, hg] at h
  have hadd : add x y = told (x + y) := by simp [add, hg]
  rw [hg] at C1
  have hx : -4611686018427387903 ≤ x ∧ x ≤ 4611686018427387903 := (not_great x).1 (by simp at hg; exact hg.1)
  have hy : -4611686018427387903 ≤ y ∧ y ≤ 4611686018427387903 := (not_great y).1 (by simp at hg; exact hg.2)
  have C2 : Hid _ := rtells_any b 0 false (x + y) true _ hc' hf'
  have K1 : Hid _ := C1
  have HB : Hid _ := hb
  have HA : Hid _ := hadd.symm.trans h
  clear C1 hb hc hf hc' hf' hg hadd h
  go_enter Try.func35, Try.ntmps35
  go_wp2_with (fail)
  refine Calls.mono K1.out ?_
  rintro e w1 ⟨rfl, rfl⟩
  go_wp2_with (fail)
  refine Calls.mono C2.out ?_
  rintro e w2 ⟨rfl, hb2⟩
  go_wp2_with (fail)
  go_ret
  exact told_ok HA.out HB.out hb2
set_option maxHeartbeats 1000000 in
theorem rratio_ok (b : Nat) (x y z n : Int) (w : World) (hc : w.cell? ⟨b, 0, none⟩ = some (.bool false)) (hf : w.frozen? ⟨b, 0, none⟩ = false) (h : ratio x y z = some n) :
    Calls Try.prog 32 #[.pointer (some ⟨b, 0, none⟩), .int .i64 x, .int .i64 y, .int .i64 z] w fun e W' => e = .returned (.int .i64 n) ∧ Below w.heap.size w W' := by
  have hb := new_after w (.cells #[.int .i64 x, .int .i64 y, .int .i64 z] 3)
  have C1 := rgreat3 x y z w
  have HB : Hid _ := hb
  have HC : Hid _ := hc
  have HF : Hid _ := hf
  have z0 : ¬ z = 0 := fun e => by simp [ratio, e] at h
  have hg : (great x || (great y || great z)) = false := by
    cases hg : (great x || (great y || great z)) with
    | false => rfl
    | true => simp [ratio, z0, hg] at h
  have hx : -4611686018427387903 ≤ x ∧ x ≤ 4611686018427387903 := (not_great x).1 (by simp at hg; exact hg.1)
  have hy : -4611686018427387903 ≤ y ∧ y ≤ 4611686018427387903 := (not_great y).1 (by simp at hg; exact hg.2.1)
  have hz : -4611686018427387903 ≤ z ∧ z ≤ 4611686018427387903 := (not_great z).1 (by simp at hg; exact hg.2.2)
  rw [hg] at C1
  have K1 : Hid _ := C1
  have HA : Hid _ := (by simp only [ratio, z0, hg]; rfl : ratio x y z = told (fl (x * y) z))
  have HH : Hid _ := h
  clear C1 hb hc hf hg h
  go_enter Try.func32, Try.ntmps32
  go_wp2_with (fail)
  refine Calls.mono K1.out ?_
  rintro e w1 ⟨rfl, rfl⟩
  go_wp2_with (fail)
  refine (of_any x _ (by omega) (by omega)).mono ?_
  rintro e w1 ⟨u1, d1, rfl, S1, B1⟩
  go_wp2_with (fail)
  refine (of_any y _ (by omega) (by omega)).mono ?_
  rintro e w2 ⟨u2, d2, rfl, S2, B2⟩
  go_wp2_with (fail)
  refine (times_any u1 u2 d1 d2 _ S1.out.1 S2.out.1 (by rw [S1.out.2, S2.out.2]; exact small_sq (by omega) (by omega))).mono ?_
  rintro e w3 ⟨u3, d3, rfl, S3, B3⟩
  go_wp2_with (fail)
  refine (down_any u3 d3 z _ S3.out.1 z0 hz.1 hz.2).mono ?_
  rintro e w4 ⟨n4, ok, rfl, S4, B4⟩
  have B5 : Hid (Below w.heap.size w w4) := below_step (below_step (below_step (below_step HB.out B1.out) B2.out) B3.out) B4.out
  have S5 : Hid _ := fits_told S4.out
  rw [S3.out.2, S1.out.2, S2.out.2] at S5
  clear S1 S2 S3 S4 B1 B2 B3 B4 K1
  go_wp2_with (fail)
  refine (rtells_any b 0 false n4 ok _ (cell_after B5.out HC.out) (frozen_after B5.out HC.out HF.out)).mono ?_
  rintro e w6 ⟨rfl, hb2⟩
  go_wp2_with (fail)
  go_ret
  exact told_ok ((S5.out.trans HA.out.symm).trans HH.out) B5.out hb2
theorem rmul_ok (b : Nat) (x y n : Int) (w : World) (hc : w.cell? ⟨b, 0, none⟩ = some (.bool false)) (hf : w.frozen? ⟨b, 0, none⟩ = false) (h : mul x y = some n) :
    Calls Try.prog 33 #[.pointer (some ⟨b, 0, none⟩), .int .i64 x, .int .i64 y] w fun e W' => e = .returned (.int .i64 n) ∧ Below w.heap.size w W' := by
  have C : Hid _ := rratio_ok b x y 4294967296 n w hc hf (by rw [ratio_one]; exact h)
  clear hc hf
  go_enter Try.func33, Try.ntmps33
  go_wp2_with (fail)
  refine Calls.mono C.out ?_
  rintro e w1 ⟨rfl, A⟩
  go_wp2_with (fail)
  go_ret
  exact ⟨rfl, A⟩
end RF
open Go.RowKit Go.Shelf

/-- Numbers that can be read. -/
structure LiesI (W : World) (v : Value) (N : List Int) : Prop where
  form : ∃ o cap, v = .slice o N.length cap ∧ N.length ≤ cap ∧ cap ≤ 9223372036854775807 ∧ ∀ i, i < N.length → ∃ g, o = some ⟨g, 0, none⟩ ∧ W.cell? ⟨g, i, none⟩ = some (.int .i64 (N[i]?.getD 0))
theorem LiesI.of_row {W : World} {base : Nat} {v : Value} {N : List Int} (h : W.ownsRow base 3 1 v N.length (N.map (.int .i64))) : LiesI W v N := by
  refine ⟨?_⟩
  rcases h.2 with ⟨rfl, h0⟩ | ⟨g, cap, cur, rfl, hb, hg, h1, h2, h3, h4⟩
  · exact ⟨none, 0, by rw [h0], by omega, by omega, fun i hi => by omega⟩
  · refine ⟨_, cap, rfl, h1, by unfold maxLen at h2; omega, fun i hi => ⟨g, rfl, ?_⟩⟩
    refine (h.cellAt i (by omega)).trans ?_
    simp [hi]
theorem LiesI.below {w W : World} {v : Value} {N : List Int} (h : LiesI w v N) (hb : Below w.heap.size w W) : LiesI W v N := by
  obtain ⟨o, cap, e, h1, h2, h3⟩ := h.form
  refine ⟨o, cap, e, h1, h2, fun i hi => ?_⟩
  obtain ⟨g, e, a⟩ := h3 i hi
  exact ⟨g, e, c_after hb a⟩
def minOf (N : List Int) (k : Nat) : Int := (N.take k).foldl minI (N[0]?.getD 0)
def maxOf (N : List Int) (k : Nat) : Int := (N.take k).foldl maxI (N[0]?.getD 0)
theorem take_int {N : List Int} {i : Nat} (h : i < N.length) : N.take (i + 1) = N.take i ++ [N[i]?.getD 0] := by
  rw [List.take_succ_eq_append_getElem h, List.getElem?_eq_getElem h]; rfl
theorem min_next (N : List Int) (k : Nat) (hk : k < N.length) : minOf N (k + 1) = minI (minOf N k) (N[k]?.getD 0) := by unfold minOf; rw [take_int hk, List.foldl_append]; rfl
theorem max_next (N : List Int) (k : Nat) (hk : k < N.length) : maxOf N (k + 1) = maxI (maxOf N k) (N[k]?.getD 0) := by unfold maxOf; rw [take_int hk, List.foldl_append]; rfl
theorem fold_map (f : Pt → Int) (op : Pt → Pt → Pt) (g : Int → Int → Int) (hop : ∀ a p, f (op a p) = g (f a) (f p)) : ∀ (l : List Pt) (a : Pt), (l.map f).foldl g (f a) = f (l.foldl op a)
  | [], a => rfl
  | q :: r, a => by rw [List.map_cons, List.foldl_cons, List.foldl_cons, ← hop, fold_map f op g hop r]
theorem head_map (f : Pt → Int) (P : List Pt) (h0 : 0 < P.length) : (P.map f)[0]?.getD 0 = f (pt P 0) := by unfold pt; simp [h0]
theorem half_is (f : Pt → Int) (P : List Pt) (h0 : 0 < P.length) (hmin : ∀ a p, f (minP a p) = minI (f a) (f p)) (hmax : ∀ a p, f (maxP a p) = maxI (f a) (f p)) :
    minOf (P.map f) (P.map f).length = f (lowOf P P.length) ∧ maxOf (P.map f) (P.map f).length = f (highOf P P.length) := by
  unfold minOf maxOf lowOf highOf
  rw [List.take_length, List.take_length, head_map f P h0]
  exact ⟨fold_map f minP minI hmin P _, fold_map f maxP maxI hmax P _⟩
theorem mm_in (N : List Int) (m : Int) (hin : ∀ n ∈ N, -m ≤ n ∧ n ≤ m) (h0 : 0 < N.length) : ∀ k, k ≤ N.length → (-m ≤ minOf N k ∧ minOf N k ≤ m) ∧ (-m ≤ maxOf N k ∧ maxOf N k ≤ m) ∧ minOf N k ≤ maxOf N k := by
  have get : ∀ i, i < N.length → -m ≤ N[i]?.getD 0 ∧ N[i]?.getD 0 ≤ m := fun i hi => by
    have := hin N[i] (List.getElem_mem hi); rw [List.getElem?_eq_getElem hi]; exact this
  intro k
  induction k with
  | zero => intro _; have := get 0 h0; unfold minOf maxOf; simp only [List.take_zero, List.foldl_nil]; omega
  | succ k ih =>
    intro hk
    obtain ⟨h1, h2, h3⟩ := ih (by omega)
    have hp := get k (by omega)
    rw [min_next N k (by omega), max_next N k (by omega)]
    unfold minI maxI
    refine ⟨?_, ?_, ?_⟩ <;> (split <;> first | omega | (split <;> omega))
set_option maxHeartbeats 2000000 in
set_option maxRecDepth 100000 in
theorem half_any (v : Value) (N : List Int) (r : Int) (w0 : World) (hv : LiesI w0 v N) (h0 : 0 < N.length) (hl : N.length ≤ 100) (hin : ∀ n ∈ N, -65536 ≤ n ∧ n ≤ 65536) (hr : 0 ≤ r ∧ r ≤ 16384) :
    Calls Try.prog 34 #[v, .int .i64 r] w0 fun e W => e = .returned (.int .i64 (hw (minOf N N.length) (maxOf N N.length) r)) ∧ Below w0.heap.size w0 W := by
  obtain ⟨o, c, rfl, hlc, hcm, hcell⟩ := hv.form
  have HC : Hid _ := hcell
  obtain ⟨g, rfl, y0⟩ := hcell 0 h0
  have HM : Hid _ := mm_in N 65536 hin h0
  have HS : Hid (minOf N 0 = N[0]?.getD 0 ∧ maxOf N 0 = N[0]?.getD 0) := ⟨rfl, rfl⟩
  obtain ⟨n0, hn0⟩ : ∃ n0, n0 = N[0]?.getD 0 := ⟨_, rfl⟩
  rw [← hn0] at y0 HS
  clear hcell hv hin hn0
  have hz : (0 : Int) < (N.length : Int) := by omega
  obtain ⟨R, hR⟩ : ∃ R, hw (minOf N N.length) (maxOf N N.length) r = R := ⟨_, rfl⟩
  rw [hR]
  have HRR : Hid _ := hR
  clear hR
  go_enter Try.func34, Try.ntmps34
  go_wp2_with (fail)
  go_loopg [5, 6, 7] N.length (fun gm s5 s6 s7 wr => ∃ k : Nat, s5 = .int .i64 (minOf N k) ∧ s6 = .int .i64 (maxOf N k) ∧ s7 = .int .i64 (k : Int) ∧ k ≤ N.length ∧ gm = N.length - k ∧ wr = w0)
  case atStart => exact ⟨0, by rw [HS.out.1], by rw [HS.out.2], rfl, Nat.zero_le _, rfl, rfl⟩
  case round =>
    obtain ⟨k, rfl, rfl, rfl, hk, hgm, rfl⟩ := hrel
    have HG : Hid _ := hgm
    clear hgm y0
    by_cases hkt : k < N.length
    · obtain ⟨g', e', x0⟩ := HC.out k hkt
      cases e'
      have HN1 : Hid _ := min_next N k hkt
      have HN2 : Hid _ := max_next N k hkt
      unfold minI at HN1
      unfold maxI at HN2
      generalize N[k]?.getD 0 = nk at *
      generalize minOf N k = lo at *
      generalize maxOf N k = hi at *
      obtain ⟨nl, e1⟩ : ∃ v, (if nk < lo then nk else lo) = v := ⟨_, rfl⟩
      obtain ⟨nh, e2⟩ : ∃ v, (if nk > hi then nk else hi) = v := ⟨_, rfl⟩
      rw [e1] at HN1
      rw [e2] at HN2
      have hkz : (k : Int) < (N.length : Int) := by omega
      go_wp2_with (fail)
      go_roundg (N.length - (k + 1))
      case measure => have := HG.out; omega
      case rel => exact ⟨k + 1, by rw [HN1.out], by rw [HN2.out], by go_num, by omega, rfl, rfl⟩
    · have e : k = N.length := by omega
      subst e
      obtain ⟨m1, m2, m3⟩ := HM.out N.length (Nat.le_refl _)
      have HW : Hid (R = ((maxOf N N.length - minOf N N.length).tdiv 2 + r) * 1048576) := HRR.out.symm
      clear HRR
      have hh := hw_in (r := r) m1.1 m2.2 m3 hr.1 hr.2
      generalize minOf N N.length = lo at *
      generalize maxOf N N.length = hi at *
      have q1 : IntKind.i64.wrap (hi - lo) = hi - lo := by rw [IntKind.wrap_i64]; omega
      generalize hq : (hi - lo).tdiv 2 = q at *
      have q2 : IntKind.i64.wrap (q + r) = q + r := by rw [IntKind.wrap_i64]; omega
      have q3 : IntKind.i64.wrap ((q + r) * 1048576) = (q + r) * 1048576 := by rw [IntKind.wrap_i64]; omega
      have q4 : IntKind.i64.wrap q = q := by rw [IntKind.wrap_i64]; omega
      clear hh
      go_wp2_with (fail)
      go_ret
      exact ⟨by rw [HW.out]; rfl, Below.refl _ _⟩
end Go.Proofs.Ytiicpdlaaklahaa
