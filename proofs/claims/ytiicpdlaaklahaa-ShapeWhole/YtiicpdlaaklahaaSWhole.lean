/- A body's mass hangs on its shape and mass alone, not on the order of a hull's points, and is what was asked; a core has as many points as its shape: for every raw shape. -/
import Derived.Test.YtiicpdlaaklahaaShM
import Derived.Test.YtiicpdlaaklahaaShS
import Derived.Test.YtiicpdlaaklahaaOpenS
import Derived.Test.YtiicpdlaaklahaaRows
import Derived.ProofKit
import Derived.OpenShut
namespace Go.Proofs.Ytiicpdlaaklahaa
namespace shapeWhole
open Go.ChangeShapes Go.WideShapes Go.ChangeAt Go.RowKit Go.Shelf
set_option linter.unusedVariables false

theorem own : ownKnob Try.prog.godebug = none := by kernel_rfl
theorem laidOut : laidOutB Try.prog = true := by kernel_rfl

theorem pick_ex (c n : Int) (hc : -9223372036854775808 ≤ c ∧ c ≤ 9223372036854775807) (hn : 0 < n) (hn' : n ≤ 9223372036854775807) :
    ∃ q : Int, 0 ≤ q ∧ q < n ∧ ∀ w : World, Calls Try.prog 18 #[.int .i64 c, .int .i64 n] w fun e w' => e = .returned (.int .i64 q) ∧ w' = w := ⟨_, pickZ_lo c hn, pickZ_hi c hn, fun w => pick_any c n w hc hn hn'⟩
theorem pick_nat (c : Int) (n : Nat) (hc : -9223372036854775808 ≤ c ∧ c ≤ 9223372036854775807) (hn : 0 < n) (hn' : n ≤ 100) :
    ∃ q : Nat, q < n ∧ ∀ w : World, Calls Try.prog 18 #[.int .i64 c, .int .i64 (n : Int)] w fun e w' => e = .returned (.int .i64 (q : Int)) ∧ w' = w := by
  obtain ⟨q, h0, h1, h⟩ := pick_ex c n hc (by omega) (by omega)
  obtain ⟨k, rfl⟩ : ∃ k : Nat, q = k := ⟨q.toNat, by omega⟩
  exact ⟨k, by omega, h⟩
theorem mass_ex (sk sr sx sy sz a : Int) (M : List Pt) (hs : checkP ⟨sk, sr, ⟨sx, sy, sz⟩, M⟩ = 0) (a0 : 16777216 ≤ a) (a1 : a ≤ 1099511627776) :
    ∃ mx my mz : Int, decide (mx < 4096) = false ∧ decide (my < 4096) = false ∧ decide (mz < 4096) = false ∧
      (∀ (w : World) (pv : Value), Lies w pv M → Calls Try.prog 13 #[.agg #[.int .i64 sk, .int .i64 sr, .int .i64 sx, .int .i64 sy, .int .i64 sz, pv], .int .i64 a] w fun e W => e = .returned (.tuple #[.agg #[.int .i64 a, .int .i64 mx, .int .i64 my, .int .i64 mz], .int .i64 0]) ∧ Below w.heap.size w W) ∧
      (∀ (w : World) (pv : Value) (N : List Pt), sk = 4 → List.Perm M N → Lies w pv N → Calls Try.prog 13 #[.agg #[.int .i64 sk, .int .i64 sr, .int .i64 sx, .int .i64 sy, .int .i64 sz, pv], .int .i64 a] w fun e W => e = .returned (.tuple #[.agg #[.int .i64 a, .int .i64 mx, .int .i64 my, .int .i64 mz], .int .i64 0]) ∧ Below w.heap.size w W) := by
  have ge : ∀ n : Int, decide (maxI n 4096 < 4096) = false := fun n => decide_eq_false (by unfold maxI; split <;> omega)
  refine ⟨maxI (iner ⟨sk, sr, ⟨sx, sy, sz⟩, M⟩ a).x 4096, maxI (iner ⟨sk, sr, ⟨sx, sy, sz⟩, M⟩ a).y 4096, maxI (iner ⟨sk, sr, ⟨sx, sy, sz⟩, M⟩ a).z 4096, ge _, ge _, ge _, fun w pv hv => mass_ok ⟨sk, sr, ⟨sx, sy, sz⟩, M⟩ pv a w hs hv a0 a1, fun w pv N k4 hp hv => ?_⟩
  subst k4
  have h := mass_ok ⟨4, sr, ⟨sx, sy, sz⟩, N⟩ pv a w (check_perm hp hs) hv a0 a1
  rw [← iner_perm hp (by have := (may_parts (hull_parts hs).2.1).1; omega) a] at h
  exact h
theorem count_of {sk sr sx sy sz : Int} {M : List Pt} (hs : Good ⟨sk, sr, ⟨sx, sy, sz⟩, M⟩) : ∃ kn : Nat, sk = (kn : Int) ∧ (kn : Int) < 5 ∧ [0, 1, 2, 8, M.length][kn]? = some (ptsP ⟨sk, sr, ⟨sx, sy, sz⟩, M⟩).length := by
  have hk := hs.k
  dsimp only at hk
  obtain ⟨kn, rfl⟩ : ∃ kn : Nat, sk = (kn : Int) := ⟨sk.toNat, by omega⟩
  refine ⟨kn, rfl, by omega, ?_⟩
  have : kn = 1 ∨ kn = 2 ∨ kn = 3 ∨ kn = 4 := by omega
  rcases this with rfl | rfl | rfl | rfl <;> rfl
/-- Two lists appended, and stored into a box's cell. -/
def A15 (p q s : Nat) (W7 : World) (b k n1 : Nat) (xs1 : List Value) (n2 : Nat) (xs2 : List Value) (γ : Nat → Value) (L : Nat → Bool) (w : World) : Prop :=
  (L p = false ∧ L q = false ∧ L s = false ∧ Below W7.heap.size W7 w) ∨
  (L p = true ∧ L q = false ∧ L s = false ∧ Below W7.heap.size W7 w ∧ w.ownsRow W7.heap.size 23 3 (γ p) n1 xs1) ∨
  (L p = true ∧ L q = true ∧ L s = false ∧ Below W7.heap.size W7 w ∧ w.ownsRow W7.heap.size 23 3 (γ q) n2 xs2) ∨
  (L p = true ∧ L q = true ∧ L s = true ∧ ∃ w8 : World, Below W7.heap.size W7 w8 ∧ w8.ownsRow W7.heap.size 23 3 (γ q) n2 xs2 ∧ w = w8.setCell ⟨b, k, none⟩ (γ q))
section
variable {p q s : Nat} {W7 : World} {b k n1 n2 : Nat} {xs1 xs2 : List Value} {γ : Nat → Value} {L : Nat → Bool} {w : World}
theorem A15.other (h : A15 p q s W7 b k n1 xs1 n2 xs2 γ L w) {i : Nat} (v : Value) (hp : p ≠ i) (hq : q ≠ i) (hs : s ≠ i) : A15 p q s W7 b k n1 xs1 n2 xs2 (RV.upd γ i v) (more L i) w := by
  unfold A15
  rw [RV.more_ne hp, RV.more_ne hq, RV.more_ne hs, RV.upd_ne _ _ hp, RV.upd_ne _ _ hq]
  exact h
theorem A15.below (h : A15 p q s W7 b k n1 xs1 n2 xs2 γ L w) (hs : L s = false) : Below W7.heap.size W7 w := by
  rcases h with h | h | h | h
  · exact h.2.2.2
  · exact h.2.2.2.1
  · exact h.2.2.2.1
  · rw [hs] at h; cases h.2.2.1
theorem A15.no (h : A15 p q s W7 b k n1 xs1 n2 xs2 γ L w) (hp : L p = false) : L q = false ∧ L s = false := by
  rcases h with h | h | h | h
  · exact ⟨h.2.1, h.2.2.1⟩
  all_goals rw [hp] at h; cases h.1
theorem A15.one (h : A15 p q s W7 b k n1 xs1 n2 xs2 γ L w) (hp : L p = true) (hq : L q = false) : L s = false ∧ w.ownsRow W7.heap.size 23 3 (γ p) n1 xs1 := by
  rcases h with h | h | h | h
  · rw [hp] at h; cases h.1
  · exact ⟨h.2.2.1, h.2.2.2.2⟩
  · rw [hq] at h; cases h.2.1
  · rw [hq] at h; cases h.2.1
theorem A15.two (h : A15 p q s W7 b k n1 xs1 n2 xs2 γ L w) (hq : L q = true) (hs : L s = false) : w.ownsRow W7.heap.size 23 3 (γ q) n2 xs2 := by
  rcases h with h | h | h | h
  · rw [hq] at h; cases h.2.1
  · rw [hq] at h; cases h.2.1
  · exact h.2.2.2.2
  · rw [hs] at h; cases h.2.2.1
theorem A15.put1 {w' : World} {v' : Value} (hq : L q = false) (hs : L s = false) (n1q : q ≠ p) (n1s : s ≠ p) (hb : Below W7.heap.size W7 w') (hr : w'.ownsRow W7.heap.size 23 3 v' n1 xs1) : A15 p q s W7 b k n1 xs1 n2 xs2 (RV.upd γ p v') (more L p) w' :=
  Or.inr (Or.inl ⟨RV.more_self, by rw [RV.more_ne n1q]; exact hq, by rw [RV.more_ne n1s]; exact hs, hb, by rw [RV.upd_self]; exact hr⟩)
theorem A15.put2 {w' : World} {v' : Value} (hp : L p = true) (hs : L s = false) (nqp : p ≠ q) (nqs : s ≠ q) (hb : Below W7.heap.size W7 w') (hr : w'.ownsRow W7.heap.size 23 3 v' n2 xs2) : A15 p q s W7 b k n1 xs1 n2 xs2 (RV.upd γ q v') (more L q) w' :=
  Or.inr (Or.inr (Or.inl ⟨by rw [RV.more_ne nqp]; exact hp, RV.more_self, by rw [RV.more_ne nqs]; exact hs, hb, by rw [RV.upd_self]; exact hr⟩))
theorem A15.store (h : A15 p q s W7 b k n1 xs1 n2 xs2 γ L w) (hp : L p = true) (hq : L q = true) (hs : L s = false) (nps : p ≠ s) (nqs : q ≠ s) (v : Value) : A15 p q s W7 b k n1 xs1 n2 xs2 (RV.upd γ s v) (more L s) (w.setCell ⟨b, k, none⟩ (γ q)) :=
  Or.inr (Or.inr (Or.inr ⟨by rw [RV.more_ne nps]; exact hp, by rw [RV.more_ne nqs]; exact hq, RV.more_self, w, h.below hs, by rw [RV.upd_ne _ _ nqs]; exact h.two hq hs, by rw [RV.upd_ne _ _ nqs]⟩))
theorem A15.done (h : A15 p q s W7 b k n1 xs1 n2 xs2 γ L w) (hs : L s = true) : ∃ w8 : World, Below W7.heap.size W7 w8 ∧ w8.ownsRow W7.heap.size 23 3 (γ q) n2 xs2 ∧ w = w8.setCell ⟨b, k, none⟩ (γ q) := by
  rcases h with h | h | h | h
  · rw [hs] at h; cases h.2.2.1
  · rw [hs] at h; cases h.2.2.1
  · rw [hs] at h; cases h.2.2.1
  · exact h.2.2.2
end

set_option maxHeartbeats 2000000 in
set_option maxRecDepth 100000 in
theorem walk (k rr x y z : Int) (o : Option Addr) (L : List Pt) (c : Nat) (mass turn : Int) (w0 : World) (hL : Lies w0 (.slice o L.length c) L) (hF : ∀ p ∈ L, p.fits) (bk : -9223372036854775808 ≤ k ∧ k ≤ 9223372036854775807) (br : -9223372036854775808 ≤ rr ∧ rr ≤ 9223372036854775807) (bx : -9223372036854775808 ≤ x ∧ x ≤ 9223372036854775807) (by_ : -9223372036854775808 ≤ y ∧ y ≤ 9223372036854775807) (bz : -9223372036854775808 ≤ z ∧ z ≤ 9223372036854775807) (bm : -9223372036854775808 ≤ mass ∧ mass ≤ 9223372036854775807) (bt : -9223372036854775808 ≤ turn ∧ turn ≤ 9223372036854775807) :
    Calls Try.prog 6 #[.agg #[.int .i64 k, .int .i64 rr, .int .i64 x, .int .i64 y, .int .i64 z, .slice o L.length c], .int .i64 mass, .int .i64 turn] w0 fun e w' => e = .returned (.bool true) ∧ Below w0.heap.size w0 w' := by
  have AW : Hid _ := fun W => awake5_any W
  have HR : Hid _ := fun w' (h : Lies w' (.slice o L.length c) L) => right_any k rr x y z (.slice o L.length c) L w' bk br bx by_ bz h hF
  have HL : Hid _ := hL
  obtain ⟨pm, l6, u6, P2'⟩ := pick_ex mass 1099494850561 bm (by decide) (by decide)
  have P2 : Hid _ := P2'
  obtain ⟨a, ha⟩ : ∃ a, a = 16777216 + pm := ⟨_, rfl⟩
  have e27 : IntKind.i64.wrap (16777216 + pm) = a := by rw [IntKind.wrap_i64]; omega
  have a0 : 16777216 ≤ a := by omega
  have a1 : a ≤ 1099511627776 := by omega
  have HM : Hid (∀ (sk sr sx sy sz : Int) (M : List Pt), checkP ⟨sk, sr, ⟨sx, sy, sz⟩, M⟩ = 0 → _) := fun sk sr sx sy sz M h => mass_ex sk sr sx sy sz a M h a0 a1
  have HT : Hid (∀ n : Nat, 0 < n → n ≤ 100 → _) := fun n h1 h2 => pick_nat turn n bt h1 h2
  clear bk br bx by_ bz hF hL bm bt ha P2' l6 u6 a0 a1
  have B1 : Hid (Cells (w0.alloc (.cells #[.int .i64 k, .int .i64 rr, .int .i64 x, .int .i64 y, .int .i64 z, .slice o L.length c] 42)) w0.heap.size [.int .i64 k, .int .i64 rr, .int .i64 x, .int .i64 y, .int .i64 z, .slice o L.length c]) := Cells.new w0 [.int .i64 k, .int .i64 rr, .int .i64 x, .int .i64 y, .int .i64 z, .slice o L.length c] _
  have hB : Hid (Below w0.heap.size w0 (w0.alloc (.cells #[.int .i64 k, .int .i64 rr, .int .i64 x, .int .i64 y, .int .i64 z, .slice o L.length c] 42))) := n_after w0 _
  go_enter Try.func6, Try.ntmps6
  go_wp2_with (fail)
  refine Calls.mono (AW.out _) ?_
  clear AW
  rintro e V ⟨rfl, h⟩
  have B1 : Hid (Cells V w0.heap.size [.int .i64 k, .int .i64 rr, .int .i64 x, .int .i64 y, .int .i64 z, .slice o L.length c]) := Cells.step B1.out h
  have hD : Hid _ := b_step hB.out h
  clear h hB
  have c0 := (B1.out 0 _ rfl).1
  have c1 := (B1.out 1 _ rfl).1
  have c2 := (B1.out 2 _ rfl).1
  have c3 := (B1.out 3 _ rfl).1
  have c4 := (B1.out 4 _ rfl).1
  have c5 := (B1.out 5 _ rfl).1
  go_wp2_with (fail)
  refine Calls.mono (HR.out _ (HL.out.below hD.out)) ?_
  clear HR
  rintro e V2 ⟨s, u, rfl, hRow, hGood, _⟩
  obtain ⟨ou, lu, cu, rfl⟩ := own_slice hRow.row
  have hD : Hid _ := b_step hD.out hRow.below
  have HU : Hid _ := hRow.lies
  have HRW : Hid _ := hRow.row
  obtain ⟨sk, sr, ⟨sx, sy, sz⟩, M⟩ := s
  obtain ⟨kn, rfl, hkn, hcnt⟩ := count_of hGood
  have HCK : Hid _ := hGood.ok
  have HC : Hid _ := fun w' (h : Lies w' (.slice ou lu cu) M) => core_any ⟨(kn : Int), sr, ⟨sx, sy, sz⟩, M⟩ (.slice ou lu cu) w' h
  obtain ⟨mx, my, mz, g1, g2, g3, M1', M2'⟩ := HM.out _ _ _ _ _ _ HCK.out
  have M1 : Hid _ := M1'
  have M2 : Hid _ := M2'
  have HCN : Hid _ := hcnt
  clear hRow hGood c0 c1 c2 c3 c4 c5 B1 HL HM M1' M2' hcnt
  unfold Sh.v at *
  dsimp only at *
  generalize axesP ⟨(kn : Int), sr, ⟨sx, sy, sz⟩, M⟩ = A at *
  generalize edgesP ⟨(kn : Int), sr, ⟨sx, sy, sz⟩, M⟩ = E at *
  generalize hP : ptsP ⟨(kn : Int), sr, ⟨sx, sy, sz⟩, M⟩ = P at *
  clear hP
  obtain rfl : lu = M.length := by obtain ⟨_, _, e, _⟩ := HU.out.form; cases e; rfl
  go_upto_region 3 with fail
  obtain ⟨V3, hN⟩ : ∃ X : World, X = V2.alloc (.cells #[.int .i64 (kn : Int), .int .i64 sr, .int .i64 sx, .int .i64 sy, .int .i64 sz, .slice ou M.length cu] 26) := ⟨_, rfl⟩
  obtain ⟨bs, hbb⟩ : ∃ b, b = V2.heap.size := ⟨_, rfl⟩
  have h : Below V2.heap.size V2 V3 := by rw [hN]; exact n_after _ _
  have BS : Hid (Cells V3 bs [.int .i64 (kn : Int), .int .i64 sr, .int .i64 sx, .int .i64 sy, .int .i64 sz, .slice ou M.length cu]) := by rw [hN, hbb]; exact Cells.new V2 [.int .i64 (kn : Int), .int .i64 sr, .int .i64 sx, .int .i64 sy, .int .i64 sz, .slice ou M.length cu] _
  rw [← hN, ← hbb]
  clear hN
  have HU : Hid _ := HU.out.below h
  have hD : Hid _ := b_step hD.out h
  clear h
  clear hbb
  go_wp2_with (fail)
  refine Calls.mono (P2.out _) ?_
  clear P2
  rintro e V9 ⟨rfl, rfl⟩
  have c0 := (BS.out 0 _ rfl).1
  have c1 := (BS.out 1 _ rfl).1
  have c2 := (BS.out 2 _ rfl).1
  have c3 := (BS.out 3 _ rfl).1
  have c4 := (BS.out 4 _ rfl).1
  have c5 := (BS.out 5 _ rfl).1
  go_wp2_with (fail)
  refine Calls.mono (M1.out _ _ HU.out) ?_
  clear M1
  rintro e V4 ⟨rfl, h⟩
  have BS : Hid (Cells V4 bs [.int .i64 (kn : Int), .int .i64 sr, .int .i64 sx, .int .i64 sy, .int .i64 sz, .slice ou M.length cu]) := Cells.step BS.out h
  have HU : Hid _ := HU.out.below h
  have hD : Hid _ := b_step hD.out h
  clear h c0 c1 c2 c3 c4 c5
  go_upto_region 5 with fail
  obtain ⟨V5, hN⟩ : ∃ X : World, X = V4.alloc (.cells #[.int .i64 a, .int .i64 mx, .int .i64 my, .int .i64 mz] 36) := ⟨_, rfl⟩
  obtain ⟨bm, hbb⟩ : ∃ b, b = V4.heap.size := ⟨_, rfl⟩
  have h : Below V4.heap.size V4 V5 := by rw [hN]; exact n_after _ _
  have BM : Hid (Cells V5 bm [.int .i64 a, .int .i64 mx, .int .i64 my, .int .i64 mz]) := by rw [hN, hbb]; exact Cells.new V4 [.int .i64 a, .int .i64 mx, .int .i64 my, .int .i64 mz] _
  rw [← hN, ← hbb]
  clear hN
  have BS : Hid (Cells V5 bs [.int .i64 (kn : Int), .int .i64 sr, .int .i64 sx, .int .i64 sy, .int .i64 sz, .slice ou M.length cu]) := Cells.step BS.out h
  have HU : Hid _ := HU.out.below h
  have hD : Hid _ := b_step hD.out h
  clear h
  clear hbb
  have c0 := (BS.out 0 _ rfl).1
  have c1 := (BS.out 1 _ rfl).1
  have c2 := (BS.out 2 _ rfl).1
  have c3 := (BS.out 3 _ rfl).1
  have c4 := (BS.out 4 _ rfl).1
  have c5 := (BS.out 5 _ rfl).1
  go_wp2_with (fail)
  refine Calls.mono (HC.out _ HU.out) ?_
  clear HC
  rintro e V6 ⟨vp, va, ve, _, hcore⟩
  obtain ⟨rfl, hT⟩ := hcore HCK.out
  have h := hT.below
  have BS : Hid (Cells V6 bs [.int .i64 (kn : Int), .int .i64 sr, .int .i64 sx, .int .i64 sy, .int .i64 sz, .slice ou M.length cu]) := Cells.step BS.out h
  have BM : Hid (Cells V6 bm [.int .i64 a, .int .i64 mx, .int .i64 my, .int .i64 mz]) := Cells.step BM.out h
  have HU : Hid _ := HU.out.below h
  have hD : Hid _ := b_step hD.out h
  clear h c0 c1 c2 c3 c4 c5 hcore
  obtain ⟨op, cp, rfl, _⟩ := (Lies.of_row hT.rp).form
  obtain ⟨oa, ca, rfl, _⟩ := (Lies.of_row hT.ra).form
  obtain ⟨oe, ce, rfl, _⟩ := (Lies.of_row hT.re).form
  clear hT
  go_upto_region 6 with fail
  obtain ⟨V7, hN⟩ : ∃ X : World, X = V6.alloc (.cells #[.slice op P.length cp, .slice oa A.length ca, .slice oe E.length ce, .int .i64 sr] 31) := ⟨_, rfl⟩
  obtain ⟨bc, hbb⟩ : ∃ b, b = V6.heap.size := ⟨_, rfl⟩
  have h : Below V6.heap.size V6 V7 := by rw [hN]; exact n_after _ _
  have BC : Hid (Cells V7 bc [.slice op P.length cp, .slice oa A.length ca, .slice oe E.length ce, .int .i64 sr]) := by rw [hN, hbb]; exact Cells.new V6 [.slice op P.length cp, .slice oa A.length ca, .slice oe E.length ce, .int .i64 sr] _
  rw [← hN, ← hbb]
  clear hN
  have BS : Hid (Cells V7 bs [.int .i64 (kn : Int), .int .i64 sr, .int .i64 sx, .int .i64 sy, .int .i64 sz, .slice ou M.length cu]) := Cells.step BS.out h
  have BM : Hid (Cells V7 bm [.int .i64 a, .int .i64 mx, .int .i64 my, .int .i64 mz]) := Cells.step BM.out h
  have HU : Hid _ := HU.out.below h
  have hD : Hid _ := b_step hD.out h
  clear h
  clear hbb
  have m0 := (BM.out 0 _ rfl).1
  have k3 := (BC.out 3 _ rfl).1
  have s1 := (BS.out 1 _ rfl).1
  have s5 := (BS.out 5 _ rfl).1
  go_upto_region 8 with fail
  clear m0 k3 s1
  go_upto_region 9 with fail
  obtain ⟨V8, hN⟩ : ∃ X : World, X = V7.alloc (.cells #[.int .i64 0, .int .i64 1, .int .i64 2, .int .i64 8, .int .i64 (M.length : Int)] 3) := ⟨_, rfl⟩
  obtain ⟨bq, hbb⟩ : ∃ b, b = V7.heap.size := ⟨_, rfl⟩
  have h : Below V7.heap.size V7 V8 := by rw [hN]; exact n_after _ _
  have BQ : Hid (Cells V8 bq [.int .i64 0, .int .i64 1, .int .i64 2, .int .i64 8, .int .i64 (M.length : Int)]) := by rw [hN, hbb]; exact Cells.new V7 [.int .i64 0, .int .i64 1, .int .i64 2, .int .i64 8, .int .i64 (M.length : Int)] _
  rw [← hN, ← hbb]
  clear hN
  have BS : Hid (Cells V8 bs [.int .i64 (kn : Int), .int .i64 sr, .int .i64 sx, .int .i64 sy, .int .i64 sz, .slice ou M.length cu]) := Cells.step BS.out h
  have BM : Hid (Cells V8 bm [.int .i64 a, .int .i64 mx, .int .i64 my, .int .i64 mz]) := Cells.step BM.out h
  have BC : Hid (Cells V8 bc [.slice op P.length cp, .slice oa A.length ca, .slice oe E.length ce, .int .i64 sr]) := Cells.step BC.out h
  have HU : Hid _ := HU.out.below h
  have hD : Hid _ := b_step hD.out h
  clear h
  clear hbb s5
  have hq : V8.cell? ⟨bq, kn, none⟩ = some (.int .i64 (P.length : Int)) := by
    have e := HCN.out
    have : kn = 0 ∨ kn = 1 ∨ kn = 2 ∨ kn = 3 ∨ kn = 4 := by omega
    rcases this with rfl | rfl | rfl | rfl | rfl
    · simp at e; rw [← e]; exact (BQ.out 0 _ rfl).1
    · simp at e; rw [← e]; exact (BQ.out 1 _ rfl).1
    · simp at e; rw [← e]; exact (BQ.out 2 _ rfl).1
    · simp at e; rw [← e]; exact (BQ.out 3 _ rfl).1
    · simp at e; rw [← e]; exact (BQ.out 4 _ rfl).1
  have m0 := (BM.out 0 _ rfl).1
  have m1 := (BM.out 1 _ rfl).1
  have m2 := (BM.out 2 _ rfl).1
  have m3 := (BM.out 3 _ rfl).1
  have c0 := (BS.out 0 _ rfl).1
  have k0 := (BC.out 0 _ rfl).1
  refine RV.region_by (fun j v w => match j with | 0 => v = .pointer (some ⟨bc, 0, none⟩) | 1 => v = .slice op P.length cp | 2 => v = .int .i64 ((P.length : Int)) | 3 => v = .slice (some ⟨bq, 0, none⟩) 5 5 | 4 => v = .pointer (some ⟨bs, 0, none⟩) | 5 => v = .int .i64 ((kn : Int)) | 6 => v = .pointer (some ⟨bq, kn, none⟩) | 7 => v = .int .i64 ((P.length : Int)) | 8 => v = .bool (false) | 9 => v = .bool (false) | 10 => v = .pointer (some ⟨bm, 1, none⟩) | 11 => v = .pointer (some ⟨bm, 1, none⟩) | 12 => v = .int .i64 (mx) | 13 => v = .bool (false) | 14 => v = .bool (false) | 15 => v = .bool (false) | 16 => v = .pointer (some ⟨bm, 1, none⟩) | 17 => v = .pointer (some ⟨bm, 2, none⟩) | 18 => v = .int .i64 (my) | 19 => v = .bool (false) | 20 => v = .bool (false) | 21 => v = .bool (false) | 22 => v = .pointer (some ⟨bm, 1, none⟩) | 23 => v = .pointer (some ⟨bm, 3, none⟩) | 24 => v = .int .i64 (mz) | 25 => v = .bool (false) | 26 => v = .bool (false) | _ => True) (fun γ L w9 => Below V8.heap.size V8 w9) (by kernel_rfl) (by kernel_rfl) (by kernel_rfl) (by kernel_rfl) ?_ ?_ ?_
  · exact (Below.refl _ V8).drew
  · generalize hD : dstOf _ = D
    generalize hWA : waitsFor _ = WA
    generalize hZ : Act.mk _ _ = Z
    obtain ⟨R, hR⟩ : ∃ R : Nat → Value → World → Prop, R = (fun j v w => match j with | 0 => v = .pointer (some ⟨bc, 0, none⟩) | 1 => v = .slice op P.length cp | 2 => v = .int .i64 ((P.length : Int)) | 3 => v = .slice (some ⟨bq, 0, none⟩) 5 5 | 4 => v = .pointer (some ⟨bs, 0, none⟩) | 5 => v = .int .i64 ((kn : Int)) | 6 => v = .pointer (some ⟨bq, kn, none⟩) | 7 => v = .int .i64 ((P.length : Int)) | 8 => v = .bool (false) | 9 => v = .bool (false) | 10 => v = .pointer (some ⟨bm, 1, none⟩) | 11 => v = .pointer (some ⟨bm, 1, none⟩) | 12 => v = .int .i64 (mx) | 13 => v = .bool (false) | 14 => v = .bool (false) | 15 => v = .bool (false) | 16 => v = .pointer (some ⟨bm, 1, none⟩) | 17 => v = .pointer (some ⟨bm, 2, none⟩) | 18 => v = .int .i64 (my) | 19 => v = .bool (false) | 20 => v = .bool (false) | 21 => v = .bool (false) | 22 => v = .pointer (some ⟨bm, 1, none⟩) | 23 => v = .pointer (some ⟨bm, 3, none⟩) | 24 => v = .int .i64 (mz) | 25 => v = .bool (false) | 26 => v = .bool (false) | _ => True) := ⟨_, rfl⟩
    rw [← hR]
    have d0 : D 0 = some 63 := by rw [← hD]; rfl
    have d1 : D 1 = some 64 := by rw [← hD]; rfl
    have d2 : D 2 = some 65 := by rw [← hD]; rfl
    have d3 : D 3 = some 66 := by rw [← hD]; rfl
    have d4 : D 4 = some 67 := by rw [← hD]; rfl
    have d5 : D 5 = some 68 := by rw [← hD]; rfl
    have d6 : D 6 = some 69 := by rw [← hD]; rfl
    have d7 : D 7 = some 70 := by rw [← hD]; rfl
    have d8 : D 8 = some 71 := by rw [← hD]; rfl
    have d9 : D 9 = some 72 := by rw [← hD]; rfl
    have d10 : D 10 = some 73 := by rw [← hD]; rfl
    have d11 : D 11 = some 74 := by rw [← hD]; rfl
    have d12 : D 12 = some 75 := by rw [← hD]; rfl
    have d13 : D 13 = some 76 := by rw [← hD]; rfl
    have d14 : D 14 = some 77 := by rw [← hD]; rfl
    have d15 : D 15 = some 78 := by rw [← hD]; rfl
    have d16 : D 16 = some 79 := by rw [← hD]; rfl
    have d17 : D 17 = some 80 := by rw [← hD]; rfl
    have d18 : D 18 = some 81 := by rw [← hD]; rfl
    have d19 : D 19 = some 82 := by rw [← hD]; rfl
    have d20 : D 20 = some 83 := by rw [← hD]; rfl
    have d21 : D 21 = some 84 := by rw [← hD]; rfl
    have d22 : D 22 = some 85 := by rw [← hD]; rfl
    have d23 : D 23 = some 86 := by rw [← hD]; rfl
    have d24 : D 24 = some 87 := by rw [← hD]; rfl
    have d25 : D 25 = some 88 := by rw [← hD]; rfl
    have d26 : D 26 = some 89 := by rw [← hD]; rfl
    have r0 : ∀ v w, R 0 v w = (v = .pointer (some ⟨bc, 0, none⟩)) := fun v w => by rw [hR]; rfl
    have r1 : ∀ v w, R 1 v w = (v = .slice op P.length cp) := fun v w => by rw [hR]; rfl
    have r2 : ∀ v w, R 2 v w = (v = .int .i64 ((P.length : Int))) := fun v w => by rw [hR]; rfl
    have r3 : ∀ v w, R 3 v w = (v = .slice (some ⟨bq, 0, none⟩) 5 5) := fun v w => by rw [hR]; rfl
    have r4 : ∀ v w, R 4 v w = (v = .pointer (some ⟨bs, 0, none⟩)) := fun v w => by rw [hR]; rfl
    have r5 : ∀ v w, R 5 v w = (v = .int .i64 ((kn : Int))) := fun v w => by rw [hR]; rfl
    have r6 : ∀ v w, R 6 v w = (v = .pointer (some ⟨bq, kn, none⟩)) := fun v w => by rw [hR]; rfl
    have r7 : ∀ v w, R 7 v w = (v = .int .i64 ((P.length : Int))) := fun v w => by rw [hR]; rfl
    have r8 : ∀ v w, R 8 v w = (v = .bool (false)) := fun v w => by rw [hR]; rfl
    have r9 : ∀ v w, R 9 v w = (v = .bool (false)) := fun v w => by rw [hR]; rfl
    have r10 : ∀ v w, R 10 v w = (v = .pointer (some ⟨bm, 1, none⟩)) := fun v w => by rw [hR]; rfl
    have r11 : ∀ v w, R 11 v w = (v = .pointer (some ⟨bm, 1, none⟩)) := fun v w => by rw [hR]; rfl
    have r12 : ∀ v w, R 12 v w = (v = .int .i64 (mx)) := fun v w => by rw [hR]; rfl
    have r13 : ∀ v w, R 13 v w = (v = .bool (false)) := fun v w => by rw [hR]; rfl
    have r14 : ∀ v w, R 14 v w = (v = .bool (false)) := fun v w => by rw [hR]; rfl
    have r15 : ∀ v w, R 15 v w = (v = .bool (false)) := fun v w => by rw [hR]; rfl
    have r16 : ∀ v w, R 16 v w = (v = .pointer (some ⟨bm, 1, none⟩)) := fun v w => by rw [hR]; rfl
    have r17 : ∀ v w, R 17 v w = (v = .pointer (some ⟨bm, 2, none⟩)) := fun v w => by rw [hR]; rfl
    have r18 : ∀ v w, R 18 v w = (v = .int .i64 (my)) := fun v w => by rw [hR]; rfl
    have r19 : ∀ v w, R 19 v w = (v = .bool (false)) := fun v w => by rw [hR]; rfl
    have r20 : ∀ v w, R 20 v w = (v = .bool (false)) := fun v w => by rw [hR]; rfl
    have r21 : ∀ v w, R 21 v w = (v = .bool (false)) := fun v w => by rw [hR]; rfl
    have r22 : ∀ v w, R 22 v w = (v = .pointer (some ⟨bm, 1, none⟩)) := fun v w => by rw [hR]; rfl
    have r23 : ∀ v w, R 23 v w = (v = .pointer (some ⟨bm, 3, none⟩)) := fun v w => by rw [hR]; rfl
    have r24 : ∀ v w, R 24 v w = (v = .int .i64 (mz)) := fun v w => by rw [hR]; rfl
    have r25 : ∀ v w, R 25 v w = (v = .bool (false)) := fun v w => by rw [hR]; rfl
    have r26 : ∀ v w, R 26 v w = (v = .bool (false)) := fun v w => by rw [hR]; rfl
    have E8 : ∀ (γ : Nat → Value) (L : Nat → Bool) (a : Act) (w : World), RV.Held D WA R (fun γ L w9 => Below V8.heap.size V8 w9) Z γ L a w → a.tmps[8]? = some (.pointer (some ⟨bs, 0, none⟩)) := fun γ L a w hH => (hH.rest 8 (by rw [← hD]; exact RV.dst_free (by kernel_rfl))).trans (by rw [← hZ]; rfl)
    have E10 : ∀ (γ : Nat → Value) (L : Nat → Bool) (a : Act) (w : World), RV.Held D WA R (fun γ L w9 => Below V8.heap.size V8 w9) Z γ L a w → a.tmps[10]? = some (.pointer (some ⟨bm, 0, none⟩)) := fun γ L a w hH => (hH.rest 10 (by rw [← hD]; exact RV.dst_free (by kernel_rfl))).trans (by rw [← hZ]; rfl)
    have E12 : ∀ (γ : Nat → Value) (L : Nat → Bool) (a : Act) (w : World), RV.Held D WA R (fun γ L w9 => Below V8.heap.size V8 w9) Z γ L a w → a.tmps[12]? = some (.pointer (some ⟨bc, 0, none⟩)) := fun γ L a w hH => (hH.rest 12 (by rw [← hD]; exact RV.dst_free (by kernel_rfl))).trans (by rw [← hZ]; rfl)
    have E14 : ∀ (γ : Nat → Value) (L : Nat → Bool) (a : Act) (w : World), RV.Held D WA R (fun γ L w9 => Below V8.heap.size V8 w9) Z γ L a w → a.tmps[14]? = some (.slice (some ⟨bq, 0, none⟩) 5 5) := fun γ L a w hH => (hH.rest 14 (by rw [← hD]; exact RV.dst_free (by kernel_rfl))).trans (by rw [← hZ]; rfl)
    have K : ∀ j v w w', R j v w → R j v w' := by rw [hR]; intro j v w w' h; exact h
    clear hD hWA hZ hR
    refine RV.AllDo.cons 0 (RV.does_pure (fun γ v L w hl h => h) (fun γ L a w hH hl hA => by have e0 := E12 γ L a w hH; exact ⟨.pointer (some ⟨bc, 0, none⟩), by simp [execOp, go_sem, e0], (r0 _ _).mpr rfl⟩)) ?_
    refine RV.AllDo.cons 1 (RV.does_pure (fun γ v L w hl h => h) (fun γ L a w hH hl hA => by have l0 : L 0 = true := hA ⟨0, .data⟩ (by simp) rfl; have e0 := hH.slot 0 63 d0 l0; have g0 := hH.holds 0 l0; rw [r0] at g0; rw [g0] at e0; have hB9 := hH.glob; have z0 := c_after hB9 k0; exact ⟨.slice op P.length cp, by simp [execOp, go_sem, e0, z0], (r1 _ _).mpr rfl⟩)) ?_
    refine RV.AllDo.cons 2 (RV.does_pure (fun γ v L w hl h => h) (fun γ L a w hH hl hA => by have l0 : L 1 = true := hA ⟨1, .data⟩ (by simp) rfl; have e0 := hH.slot 1 64 d1 l0; have g0 := hH.holds 1 l0; rw [r1] at g0; rw [g0] at e0; exact ⟨.int .i64 ((P.length : Int)), by simp [go_sem, e0], (r2 _ _).mpr rfl⟩)) ?_
    refine RV.AllDo.cons 3 (RV.does_pure (fun γ v L w hl h => h) (fun γ L a w hH hl hA => by have e0 := E14 γ L a w hH; exact ⟨.slice (some ⟨bq, 0, none⟩) 5 5, by simp [execOp, go_sem, e0], (r3 _ _).mpr rfl⟩)) ?_
    refine RV.AllDo.cons 4 (RV.does_pure (fun γ v L w hl h => h) (fun γ L a w hH hl hA => by have e0 := E8 γ L a w hH; exact ⟨.pointer (some ⟨bs, 0, none⟩), by simp [execOp, go_sem, e0], (r4 _ _).mpr rfl⟩)) ?_
    refine RV.AllDo.cons 5 (RV.does_pure (fun γ v L w hl h => h) (fun γ L a w hH hl hA => by have l0 : L 4 = true := hA ⟨4, .data⟩ (by simp) rfl; have e0 := hH.slot 4 67 d4 l0; have g0 := hH.holds 4 l0; rw [r4] at g0; rw [g0] at e0; have hB9 := hH.glob; have z0 := c_after hB9 c0; exact ⟨.int .i64 ((kn : Int)), by simp [execOp, go_sem, e0, z0], (r5 _ _).mpr rfl⟩)) ?_
    refine RV.AllDo.cons 6 (RV.does_pure (fun γ v L w hl h => h) (fun γ L a w hH hl hA => by have l0 : L 3 = true := hA ⟨3, .data⟩ (by simp) rfl; have e0 := hH.slot 3 66 d3 l0; have g0 := hH.holds 3 l0; rw [r3] at g0; rw [g0] at e0; have l1 : L 5 = true := hA ⟨5, .data⟩ (by simp) rfl; have e1 := hH.slot 5 68 d5 l1; have g1 := hH.holds 5 l1; rw [r5] at g1; rw [g1] at e1; exact ⟨.pointer (some ⟨bq, kn, none⟩), by simp [execOp, go_sem, e0, e1, hkn], (r6 _ _).mpr rfl⟩)) ?_
    refine RV.AllDo.cons 7 (RV.does_pure (fun γ v L w hl h => h) (fun γ L a w hH hl hA => by have l0 : L 6 = true := hA ⟨6, .data⟩ (by simp) rfl; have e0 := hH.slot 6 69 d6 l0; have g0 := hH.holds 6 l0; rw [r6] at g0; rw [g0] at e0; have hB9 := hH.glob; have vq := c_after hB9 hq; exact ⟨.int .i64 ((P.length : Int)), by simp [execOp, go_sem, e0, vq], (r7 _ _).mpr rfl⟩)) ?_
    refine RV.AllDo.cons 8 (RV.does_pure (fun γ v L w hl h => h) (fun γ L a w hH hl hA => by have l0 : L 2 = true := hA ⟨2, .data⟩ (by simp) rfl; have e0 := hH.slot 2 65 d2 l0; have g0 := hH.holds 2 l0; rw [r2] at g0; rw [g0] at e0; have l1 : L 7 = true := hA ⟨7, .data⟩ (by simp) rfl; have e1 := hH.slot 7 70 d7 l1; have g1 := hH.holds 7 l1; rw [r7] at g1; rw [g1] at e1; exact ⟨.bool (false), by simp [execOp, go_sem, e0, e1], (r8 _ _).mpr rfl⟩)) ?_
    refine RV.AllDo.cons 9 (RV.does_pure (fun γ v L w hl h => h) (fun γ L a w hH hl hA => by have l0 : L 8 = true := hA ⟨8, .data⟩ (by simp) rfl; have e0 := hH.slot 8 71 d8 l0; have g0 := hH.holds 8 l0; rw [r8] at g0; rw [g0] at e0; exact ⟨.bool (false), by simp [execOp, go_sem, e0], (r9 _ _).mpr rfl⟩)) ?_
    refine RV.AllDo.cons 10 (RV.does_guarded rfl d9 (fun v w h => by rw [r9] at h; exact h) (by simp) (RV.does_pure (fun γ v L w hl h => h) (fun γ L a w hH hl hA => by have e0 := E10 γ L a w hH; exact ⟨.pointer (some ⟨bm, 1, none⟩), by simp [execOp, go_sem, e0], (r10 _ _).mpr rfl⟩))) ?_
    refine RV.AllDo.cons 11 (RV.does_guarded rfl d9 (fun v w h => by rw [r9] at h; exact h) (by simp) (RV.does_pure (fun γ v L w hl h => h) (fun γ L a w hH hl hA => by have l0 : L 10 = true := hA ⟨10, .data⟩ (by simp) rfl; have e0 := hH.slot 10 73 d10 l0; have g0 := hH.holds 10 l0; rw [r10] at g0; rw [g0] at e0; exact ⟨.pointer (some ⟨bm, 1, none⟩), by simp [execOp, go_sem, e0], (r11 _ _).mpr rfl⟩))) ?_
    refine RV.AllDo.cons 12 (RV.does_guarded rfl d9 (fun v w h => by rw [r9] at h; exact h) (by simp) (RV.does_pure (fun γ v L w hl h => h) (fun γ L a w hH hl hA => by have l0 : L 11 = true := hA ⟨11, .data⟩ (by simp) rfl; have e0 := hH.slot 11 74 d11 l0; have g0 := hH.holds 11 l0; rw [r11] at g0; rw [g0] at e0; have hB9 := hH.glob; have z0 := c_after hB9 m1; exact ⟨.int .i64 (mx), by simp [execOp, go_sem, e0, z0], (r12 _ _).mpr rfl⟩))) ?_
    refine RV.AllDo.cons 13 (RV.does_guarded rfl d9 (fun v w h => by rw [r9] at h; exact h) (by simp) (RV.does_pure (fun γ v L w hl h => h) (fun γ L a w hH hl hA => by have l0 : L 12 = true := hA ⟨12, .data⟩ (by simp) rfl; have e0 := hH.slot 12 75 d12 l0; have g0 := hH.holds 12 l0; rw [r12] at g0; rw [g0] at e0; exact ⟨.bool (false), by simp [execOp, go_sem, e0, g1], (r13 _ _).mpr rfl⟩))) ?_
    refine RV.AllDo.cons 14 (RV.does_pure (fun γ v L w hl h => h) (fun γ L a w hH hl hA => by have l0 : L 9 = true := hA ⟨9, .data⟩ (by simp) rfl; have e0 := hH.slot 9 72 d9 l0; have g0 := hH.holds 9 l0; rw [r9] at g0; rw [g0] at e0; have l1 : L 13 = true := hA ⟨13, .data⟩ (by simp) rfl; have e1 := hH.slot 13 76 d13 l1; have g1 := hH.holds 13 l1; rw [r13] at g1; rw [g1] at e1; exact ⟨.bool (false), by simp [execOp, go_sem, e0, e1], (r14 _ _).mpr rfl⟩)) ?_
    refine RV.AllDo.cons 15 (RV.does_pure (fun γ v L w hl h => h) (fun γ L a w hH hl hA => by have l0 : L 14 = true := hA ⟨14, .data⟩ (by simp) rfl; have e0 := hH.slot 14 77 d14 l0; have g0 := hH.holds 14 l0; rw [r14] at g0; rw [g0] at e0; exact ⟨.bool (false), by simp [execOp, go_sem, e0], (r15 _ _).mpr rfl⟩)) ?_
    refine RV.AllDo.cons 16 (RV.does_guarded rfl d15 (fun v w h => by rw [r15] at h; exact h) (by simp) (RV.does_pure (fun γ v L w hl h => h) (fun γ L a w hH hl hA => by have e0 := E10 γ L a w hH; exact ⟨.pointer (some ⟨bm, 1, none⟩), by simp [execOp, go_sem, e0], (r16 _ _).mpr rfl⟩))) ?_
    refine RV.AllDo.cons 17 (RV.does_guarded rfl d15 (fun v w h => by rw [r15] at h; exact h) (by simp) (RV.does_pure (fun γ v L w hl h => h) (fun γ L a w hH hl hA => by have l0 : L 16 = true := hA ⟨16, .data⟩ (by simp) rfl; have e0 := hH.slot 16 79 d16 l0; have g0 := hH.holds 16 l0; rw [r16] at g0; rw [g0] at e0; exact ⟨.pointer (some ⟨bm, 2, none⟩), by simp [execOp, go_sem, e0], (r17 _ _).mpr rfl⟩))) ?_
    refine RV.AllDo.cons 18 (RV.does_guarded rfl d15 (fun v w h => by rw [r15] at h; exact h) (by simp) (RV.does_pure (fun γ v L w hl h => h) (fun γ L a w hH hl hA => by have l0 : L 17 = true := hA ⟨17, .data⟩ (by simp) rfl; have e0 := hH.slot 17 80 d17 l0; have g0 := hH.holds 17 l0; rw [r17] at g0; rw [g0] at e0; have hB9 := hH.glob; have z0 := c_after hB9 m2; exact ⟨.int .i64 (my), by simp [execOp, go_sem, e0, z0], (r18 _ _).mpr rfl⟩))) ?_
    refine RV.AllDo.cons 19 (RV.does_guarded rfl d15 (fun v w h => by rw [r15] at h; exact h) (by simp) (RV.does_pure (fun γ v L w hl h => h) (fun γ L a w hH hl hA => by have l0 : L 18 = true := hA ⟨18, .data⟩ (by simp) rfl; have e0 := hH.slot 18 81 d18 l0; have g0 := hH.holds 18 l0; rw [r18] at g0; rw [g0] at e0; exact ⟨.bool (false), by simp [execOp, go_sem, e0, g2], (r19 _ _).mpr rfl⟩))) ?_
    refine RV.AllDo.cons 20 (RV.does_pure (fun γ v L w hl h => h) (fun γ L a w hH hl hA => by have l0 : L 15 = true := hA ⟨15, .data⟩ (by simp) rfl; have e0 := hH.slot 15 78 d15 l0; have g0 := hH.holds 15 l0; rw [r15] at g0; rw [g0] at e0; have l1 : L 19 = true := hA ⟨19, .data⟩ (by simp) rfl; have e1 := hH.slot 19 82 d19 l1; have g1 := hH.holds 19 l1; rw [r19] at g1; rw [g1] at e1; exact ⟨.bool (false), by simp [execOp, go_sem, e0, e1], (r20 _ _).mpr rfl⟩)) ?_
    refine RV.AllDo.cons 21 (RV.does_pure (fun γ v L w hl h => h) (fun γ L a w hH hl hA => by have l0 : L 20 = true := hA ⟨20, .data⟩ (by simp) rfl; have e0 := hH.slot 20 83 d20 l0; have g0 := hH.holds 20 l0; rw [r20] at g0; rw [g0] at e0; exact ⟨.bool (false), by simp [execOp, go_sem, e0], (r21 _ _).mpr rfl⟩)) ?_
    refine RV.AllDo.cons 22 (RV.does_guarded rfl d21 (fun v w h => by rw [r21] at h; exact h) (by simp) (RV.does_pure (fun γ v L w hl h => h) (fun γ L a w hH hl hA => by have e0 := E10 γ L a w hH; exact ⟨.pointer (some ⟨bm, 1, none⟩), by simp [execOp, go_sem, e0], (r22 _ _).mpr rfl⟩))) ?_
    refine RV.AllDo.cons 23 (RV.does_guarded rfl d21 (fun v w h => by rw [r21] at h; exact h) (by simp) (RV.does_pure (fun γ v L w hl h => h) (fun γ L a w hH hl hA => by have l0 : L 22 = true := hA ⟨22, .data⟩ (by simp) rfl; have e0 := hH.slot 22 85 d22 l0; have g0 := hH.holds 22 l0; rw [r22] at g0; rw [g0] at e0; exact ⟨.pointer (some ⟨bm, 3, none⟩), by simp [execOp, go_sem, e0], (r23 _ _).mpr rfl⟩))) ?_
    refine RV.AllDo.cons 24 (RV.does_guarded rfl d21 (fun v w h => by rw [r21] at h; exact h) (by simp) (RV.does_pure (fun γ v L w hl h => h) (fun γ L a w hH hl hA => by have l0 : L 23 = true := hA ⟨23, .data⟩ (by simp) rfl; have e0 := hH.slot 23 86 d23 l0; have g0 := hH.holds 23 l0; rw [r23] at g0; rw [g0] at e0; have hB9 := hH.glob; have z0 := c_after hB9 m3; exact ⟨.int .i64 (mz), by simp [execOp, go_sem, e0, z0], (r24 _ _).mpr rfl⟩))) ?_
    refine RV.AllDo.cons 25 (RV.does_guarded rfl d21 (fun v w h => by rw [r21] at h; exact h) (by simp) (RV.does_pure (fun γ v L w hl h => h) (fun γ L a w hH hl hA => by have l0 : L 24 = true := hA ⟨24, .data⟩ (by simp) rfl; have e0 := hH.slot 24 87 d24 l0; have g0 := hH.holds 24 l0; rw [r24] at g0; rw [g0] at e0; exact ⟨.bool (false), by simp [execOp, go_sem, e0, g3], (r25 _ _).mpr rfl⟩))) ?_
    refine RV.AllDo.cons 26 (RV.does_pure (fun γ v L w hl h => h) (fun γ L a w hH hl hA => by have l0 : L 21 = true := hA ⟨21, .data⟩ (by simp) rfl; have e0 := hH.slot 21 84 d21 l0; have g0 := hH.holds 21 l0; rw [r21] at g0; rw [g0] at e0; have l1 : L 25 = true := hA ⟨25, .data⟩ (by simp) rfl; have e1 := hH.slot 25 88 d25 l1; have g1 := hH.holds 25 l1; rw [r25] at g1; rw [g1] at e1; exact ⟨.bool (false), by simp [execOp, go_sem, e0, e1], (r26 _ _).mpr rfl⟩)) ?_
    exact RV.AllDo.nil
  · intro γ a5 w5 L9 hL hLo hH
    have ha := RV.held_act hH hL (by kernel_rfl) (by kernel_rfl)
    have hb8 := hH.glob
    have y0 : γ 0 = .pointer (some ⟨bc, 0, none⟩) := hH.holds 0 (hL 0 (by decide))
    have y1 : γ 1 = .slice op P.length cp := hH.holds 1 (hL 1 (by decide))
    have y2 : γ 2 = .int .i64 ((P.length : Int)) := hH.holds 2 (hL 2 (by decide))
    have y3 : γ 3 = .slice (some ⟨bq, 0, none⟩) 5 5 := hH.holds 3 (hL 3 (by decide))
    have y4 : γ 4 = .pointer (some ⟨bs, 0, none⟩) := hH.holds 4 (hL 4 (by decide))
    have y5 : γ 5 = .int .i64 ((kn : Int)) := hH.holds 5 (hL 5 (by decide))
    have y6 : γ 6 = .pointer (some ⟨bq, kn, none⟩) := hH.holds 6 (hL 6 (by decide))
    have y7 : γ 7 = .int .i64 ((P.length : Int)) := hH.holds 7 (hL 7 (by decide))
    have y8 : γ 8 = .bool (false) := hH.holds 8 (hL 8 (by decide))
    have y9 : γ 9 = .bool (false) := hH.holds 9 (hL 9 (by decide))
    have y10 : γ 10 = .pointer (some ⟨bm, 1, none⟩) := hH.holds 10 (hL 10 (by decide))
    have y11 : γ 11 = .pointer (some ⟨bm, 1, none⟩) := hH.holds 11 (hL 11 (by decide))
    have y12 : γ 12 = .int .i64 (mx) := hH.holds 12 (hL 12 (by decide))
    have y13 : γ 13 = .bool (false) := hH.holds 13 (hL 13 (by decide))
    have y14 : γ 14 = .bool (false) := hH.holds 14 (hL 14 (by decide))
    have y15 : γ 15 = .bool (false) := hH.holds 15 (hL 15 (by decide))
    have y16 : γ 16 = .pointer (some ⟨bm, 1, none⟩) := hH.holds 16 (hL 16 (by decide))
    have y17 : γ 17 = .pointer (some ⟨bm, 2, none⟩) := hH.holds 17 (hL 17 (by decide))
    have y18 : γ 18 = .int .i64 (my) := hH.holds 18 (hL 18 (by decide))
    have y19 : γ 19 = .bool (false) := hH.holds 19 (hL 19 (by decide))
    have y20 : γ 20 = .bool (false) := hH.holds 20 (hL 20 (by decide))
    have y21 : γ 21 = .bool (false) := hH.holds 21 (hL 21 (by decide))
    have y22 : γ 22 = .pointer (some ⟨bm, 1, none⟩) := hH.holds 22 (hL 22 (by decide))
    have y23 : γ 23 = .pointer (some ⟨bm, 3, none⟩) := hH.holds 23 (hL 23 (by decide))
    have y24 : γ 24 = .int .i64 (mz) := hH.holds 24 (hL 24 (by decide))
    have y25 : γ 25 = .bool (false) := hH.holds 25 (hL 25 (by decide))
    have y26 : γ 26 = .bool (false) := hH.holds 26 (hL 26 (by decide))
    rw [ha]
    clear ha hH hL hLo
    simp only [RV.putAll, Act.put, List.setIfInBounds_toArray, List.set_cons_zero, List.set_cons_succ, Nat.zero_add, Nat.reduceAdd, y0, y1, y2, y3, y4, y5, y6, y7, y8, y9, y10, y11, y12, y13, y14, y15, y16, y17, y18, y19, y20, y21, y22, y23, y24, y25, y26]
    clear y0 y1 y2 y3 y4 y5 y6 y7 y8 y9 y10 y11 y12 y13 y14 y15 y16 y17 y18 y19 y20 y21 y22 y23 y24 y25 y26
    have h := hb8
    clear hb8 m0 m1 m2 m3 c0 k0 hq g1 g2 g3
    obtain ⟨V9, hV9⟩ : ∃ X : World, X = w5 := ⟨_, rfl⟩
    rw [← hV9] at h ⊢
    clear hV9
    have BS : Hid (Cells V9 bs [.int .i64 (kn : Int), .int .i64 sr, .int .i64 sx, .int .i64 sy, .int .i64 sz, .slice ou M.length cu]) := Cells.step BS.out h
    have BM : Hid (Cells V9 bm [.int .i64 a, .int .i64 mx, .int .i64 my, .int .i64 mz]) := Cells.step BM.out h
    have HU : Hid _ := HU.out.below h
    have hD : Hid _ := b_step hD.out h
    clear h BQ BC
    have c0 := (BS.out 0 _ rfl).1
    have c1 := (BS.out 1 _ rfl).1
    have c2 := (BS.out 2 _ rfl).1
    have c3 := (BS.out 3 _ rfl).1
    have c4 := (BS.out 4 _ rfl).1
    have c5 := (BS.out 5 _ rfl).1
    by_cases hk4 : (kn : Int) = 4
    · have e4 : ((kn : Int) == 4) = true := beq_iff_eq.2 hk4
      obtain rfl : kn = 4 := by omega
      clear e4 hk4
      have HMP : Hid (0 < M.length ∧ M.length ≤ 100) := by have := ok_parts HCK.out; exact ⟨this.2.2.1, this.2.2.2.1⟩
      obtain ⟨kt, hkt, PT'⟩ := HT.out M.length HMP.out.1 HMP.out.2
      have PTN : Hid _ := PT'
      clear PT' HT
      go_wp2_with (fail)
      refine Calls.mono (PTN.out _) ?_
      clear PTN
      rintro e Va ⟨rfl, rfl⟩
      go_upto_region 15 with fail
      have hDb := hD.out.size
      have nbl : bm < Va.heap.size := World.block_lt_of_cell? _ _ (BM.out 0 _ rfl).1
      obtain ⟨Vb, hN⟩ : ∃ X : World, X = Va.alloc (.cells #[.int .i64 4, .int .i64 sr, .int .i64 sx, .int .i64 sy, .int .i64 sz, .slice ou M.length cu] 26) := ⟨_, rfl⟩
      obtain ⟨bt, hbb⟩ : ∃ b, b = Va.heap.size := ⟨_, rfl⟩
      have h : Below Va.heap.size Va Vb := by rw [hN]; exact n_after _ _
      have BT : Hid (Cells Vb bt [.int .i64 4, .int .i64 sr, .int .i64 sx, .int .i64 sy, .int .i64 sz, .slice ou M.length cu]) := by rw [hN, hbb]; exact Cells.new Va [.int .i64 4, .int .i64 sr, .int .i64 sx, .int .i64 sy, .int .i64 sz, .slice ou M.length cu] _
      rw [← hN, ← hbb]
      clear hN
      have BS : Hid (Cells Vb bs [.int .i64 ((4 : Nat) : Int), .int .i64 sr, .int .i64 sx, .int .i64 sy, .int .i64 sz, .slice ou M.length cu]) := Cells.step BS.out h
      have BM : Hid (Cells Vb bm [.int .i64 a, .int .i64 mx, .int .i64 my, .int .i64 mz]) := Cells.step BM.out h
      have HU : Hid _ := HU.out.below h
      have hD : Hid _ := b_step hD.out h
      clear h
      have hlt : w0.heap.size ≤ bt := by have h1 := hD.out.size; have h2 : bt < Vb.heap.size := World.block_lt_of_cell? _ _ (BT.out 0 _ rfl).1; have h3 := hDb; omega
      have nbm : bm ≠ bt := by have : bm < Va.heap.size := nbl; omega
      clear hbb c0 c1 c2 c3 c4 c5
      obtain ⟨g, cu', eu, hcu⟩ := own_at HRW.out (by exact HMP.out.1)
      cases eu
      have c5 := (BS.out 5 _ rfl).1
      have t5 := (BT.out 5 _ rfl).1
      have f5 := (BT.out 5 _ rfl).2
      have hkc : kt < cu := by omega
      have hM100 := HMP.out.2
      have hkl : kt ≤ M.length := by omega
      obtain ⟨i0, hii, hiz, hisz, hib⟩ := info_parts point_info
      have HI : Hid _ := And.intro hii (And.intro hiz (And.intro hisz hib))
      clear hii hiz hisz hib
      refine RV.region_by (fun j v w => match j with | 0 => v = .pointer (some ⟨bs, 5, none⟩) | 1 => v = .slice (some ⟨g, 0, none⟩) M.length cu | 2 => v = .int .i64 (kt : Int) | 3 => v = .slice (some ⟨g, kt * 3, none⟩) (M.length - kt) (cu - kt) | 4 => True | 5 => v = .pointer (some ⟨bs, 5, none⟩) | 6 => v = .slice (some ⟨g, 0, none⟩) M.length cu | 7 => v = .int .i64 (kt : Int) | 8 => v = .slice (some ⟨g, 0, none⟩) kt cu | 9 => True | 10 => v = .pointer (some ⟨bt, 5, none⟩) | 11 => True | _ => True) (fun γ L w => A15 4 9 11 Vb bt 5 (0 + (M.length - kt)) ([] ++ fl3 (M.drop kt)) (0 + (M.length - kt) + kt) ([] ++ fl3 (M.drop kt) ++ fl3 (M.take kt)) γ L w) (by kernel_rfl) (by kernel_rfl) (by kernel_rfl) (by kernel_rfl) ?_ ?_ ?_
      · exact Or.inl ⟨rfl, rfl, rfl, (Below.refl _ Vb).drew⟩
      · generalize hD : dstOf _ = D
        generalize hWA : waitsFor _ = WA
        generalize hZ : Act.mk _ _ = Z
        obtain ⟨R, hR⟩ : ∃ R : Nat → Value → World → Prop, R = (fun j v w => match j with | 0 => v = .pointer (some ⟨bs, 5, none⟩) | 1 => v = .slice (some ⟨g, 0, none⟩) M.length cu | 2 => v = .int .i64 (kt : Int) | 3 => v = .slice (some ⟨g, kt * 3, none⟩) (M.length - kt) (cu - kt) | 4 => True | 5 => v = .pointer (some ⟨bs, 5, none⟩) | 6 => v = .slice (some ⟨g, 0, none⟩) M.length cu | 7 => v = .int .i64 (kt : Int) | 8 => v = .slice (some ⟨g, 0, none⟩) kt cu | 9 => True | 10 => v = .pointer (some ⟨bt, 5, none⟩) | 11 => True | _ => True) := ⟨_, rfl⟩
        rw [← hR]
        have d0 : D 0 = some 99 := by rw [← hD]; rfl
        have d1 : D 1 = some 100 := by rw [← hD]; rfl
        have d2 : D 2 = some 101 := by rw [← hD]; rfl
        have d3 : D 3 = some 102 := by rw [← hD]; rfl
        have d4 : D 4 = some 103 := by rw [← hD]; rfl
        have d5 : D 5 = some 104 := by rw [← hD]; rfl
        have d6 : D 6 = some 105 := by rw [← hD]; rfl
        have d7 : D 7 = some 106 := by rw [← hD]; rfl
        have d8 : D 8 = some 107 := by rw [← hD]; rfl
        have d9 : D 9 = some 108 := by rw [← hD]; rfl
        have d10 : D 10 = some 109 := by rw [← hD]; rfl
        have r0 : ∀ v w, R 0 v w = (v = .pointer (some ⟨bs, 5, none⟩)) := fun v w => by rw [hR]; rfl
        have r1 : ∀ v w, R 1 v w = (v = .slice (some ⟨g, 0, none⟩) M.length cu) := fun v w => by rw [hR]; rfl
        have r2 : ∀ v w, R 2 v w = (v = .int .i64 (kt : Int)) := fun v w => by rw [hR]; rfl
        have r3 : ∀ v w, R 3 v w = (v = .slice (some ⟨g, kt * 3, none⟩) (M.length - kt) (cu - kt)) := fun v w => by rw [hR]; rfl
        have r4 : ∀ v w, R 4 v w = (True) := fun v w => by rw [hR]; rfl
        have r5 : ∀ v w, R 5 v w = (v = .pointer (some ⟨bs, 5, none⟩)) := fun v w => by rw [hR]; rfl
        have r6 : ∀ v w, R 6 v w = (v = .slice (some ⟨g, 0, none⟩) M.length cu) := fun v w => by rw [hR]; rfl
        have r7 : ∀ v w, R 7 v w = (v = .int .i64 (kt : Int)) := fun v w => by rw [hR]; rfl
        have r8 : ∀ v w, R 8 v w = (v = .slice (some ⟨g, 0, none⟩) kt cu) := fun v w => by rw [hR]; rfl
        have r9 : ∀ v w, R 9 v w = (True) := fun v w => by rw [hR]; rfl
        have r10 : ∀ v w, R 10 v w = (v = .pointer (some ⟨bt, 5, none⟩)) := fun v w => by rw [hR]; rfl
        have r11 : ∀ v w, R 11 v w = (True) := fun v w => by rw [hR]; rfl
        have E8 : ∀ (γ : Nat → Value) (L : Nat → Bool) (a : Act) (w : World), RV.Held D WA R (fun γ L w => A15 4 9 11 Vb bt 5 (0 + (M.length - kt)) ([] ++ fl3 (M.drop kt)) (0 + (M.length - kt) + kt) ([] ++ fl3 (M.drop kt) ++ fl3 (M.take kt)) γ L w) Z γ L a w → a.tmps[8]? = some (.pointer (some ⟨bs, 0, none⟩)) := fun γ L a w hH => (hH.rest 8 (by rw [← hD]; exact RV.dst_free (by kernel_rfl))).trans (by rw [← hZ]; rfl)
        have E15 : ∀ (γ : Nat → Value) (L : Nat → Bool) (a : Act) (w : World), RV.Held D WA R (fun γ L w => A15 4 9 11 Vb bt 5 (0 + (M.length - kt)) ([] ++ fl3 (M.drop kt)) (0 + (M.length - kt) + kt) ([] ++ fl3 (M.drop kt) ++ fl3 (M.take kt)) γ L w) Z γ L a w → a.tmps[15]? = some (.int .i64 (kt : Int)) := fun γ L a w hH => (hH.rest 15 (by rw [← hD]; exact RV.dst_free (by kernel_rfl))).trans (by rw [← hZ]; rfl)
        have E16 : ∀ (γ : Nat → Value) (L : Nat → Bool) (a : Act) (w : World), RV.Held D WA R (fun γ L w => A15 4 9 11 Vb bt 5 (0 + (M.length - kt)) ([] ++ fl3 (M.drop kt)) (0 + (M.length - kt) + kt) ([] ++ fl3 (M.drop kt) ++ fl3 (M.take kt)) γ L w) Z γ L a w → a.tmps[16]? = some (.pointer (some ⟨bt, 0, none⟩)) := fun γ L a w hH => (hH.rest 16 (by rw [← hD]; exact RV.dst_free (by kernel_rfl))).trans (by rw [← hZ]; rfl)
        have K : ∀ j v w w', R j v w → R j v w' := by rw [hR]; intro j v w w' h; exact h
        have A_4_3 : WA 4 3 := by rw [← hWA]; exact ⟨_, rfl, ⟨3, .data⟩, by simp, rfl, rfl⟩
        have A_3_1 : WA 3 1 := by rw [← hWA]; exact ⟨_, rfl, ⟨1, .data⟩, by simp, rfl, rfl⟩
        have A_9_8 : WA 9 8 := by rw [← hWA]; exact ⟨_, rfl, ⟨8, .data⟩, by simp, rfl, rfl⟩
        have A_8_6 : WA 8 6 := by rw [← hWA]; exact ⟨_, rfl, ⟨6, .data⟩, by simp, rfl, rfl⟩
        have A_11_9 : WA 11 9 := by rw [← hWA]; exact ⟨_, rfl, ⟨9, .data⟩, by simp, rfl, rfl⟩
        have A_9_4 : WA 9 4 := by rw [← hWA]; exact ⟨_, rfl, ⟨4, .data⟩, by simp, rfl, rfl⟩
        clear hD hWA hZ hR
        refine RV.AllDo.cons 0 (RV.does_pure (fun γ v L w hl h => A15.other h _ (by decide) (by decide) (by decide)) (fun γ L a w hH hl hA => by have e0 := E8 γ L a w hH; exact ⟨.pointer (some ⟨bs, 5, none⟩), by simp [execOp, go_sem, e0], (r0 _ _).mpr rfl⟩)) ?_
        refine RV.AllDo.cons 1 (RV.does_pure (fun γ v L w hl h => A15.other h _ (by decide) (by decide) (by decide)) (fun γ L a w hH hl hA => by have l0 : L 0 = true := hA ⟨0, .data⟩ (by simp) rfl; have e0 := hH.slot 0 99 d0 l0; have g0 := hH.holds 0 l0; rw [r0] at g0; rw [g0] at e0; have z0 := c_after (A15.below hH.glob (A15.no hH.glob (RV.not_yet hH A_4_3 (RV.not_yet hH A_3_1 hl))).2) c5; exact ⟨.slice (some ⟨g, 0, none⟩) M.length cu, by simp [execOp, go_sem, e0, z0], (r1 _ _).mpr rfl⟩)) ?_
        refine RV.AllDo.cons 2 (RV.does_pure (fun γ v L w hl h => A15.other h _ (by decide) (by decide) (by decide)) (fun γ L a w hH hl hA => by have e0 := E15 γ L a w hH; exact ⟨.int .i64 (kt : Int), by simp [execOp, go_sem, e0], (r2 _ _).mpr rfl⟩)) ?_
        refine RV.AllDo.cons 3 (RV.does_pure (fun γ v L w hl h => A15.other h _ (by decide) (by decide) (by decide)) (fun γ L a w hH hl hA => by have l0 : L 1 = true := hA ⟨1, .data⟩ (by simp) rfl; have e0 := hH.slot 1 100 d1 l0; have g0 := hH.holds 1 l0; rw [r1] at g0; rw [g0] at e0; have l1 : L 2 = true := hA ⟨2, .data⟩ (by simp) rfl; have e1 := hH.slot 2 101 d2 l1; have g1 := hH.holds 2 l1; rw [r2] at g1; rw [g1] at e1; exact ⟨.slice (some ⟨g, kt * 3, none⟩) (M.length - kt) (cu - kt), by simp [execOp, go_sem, e0, e1, hkl]; (intro e; omega), (r3 _ _).mpr rfl⟩)) ?_
        refine RV.AllDo.cons 4 (RV.does_step (fun γ L a w hH hl hA => by have l0 : L 3 = true := hA ⟨3, .data⟩ (by simp) rfl; have e0 := hH.slot 3 102 d3 l0; have g0 := hH.holds 3 l0; rw [r3] at g0; rw [g0] at e0; obtain ⟨y1, y2⟩ := A15.no hH.glob hl; have y3 := A15.below hH.glob y2; obtain ⟨v9, w9, t3, t4, t6⟩ := exec_append (P := Try.prog) (w := w) (a := a) (.const (.slice none 0 0)) (.tmp 102) 24 24 Vb.heap.size 23 i0 _ 3 24 Try.underlying24 HI.out.1 HI.out.2.1 HI.out.2.2.1 HI.out.2.2.2 rfl (by decide) (.slice none 0 0) 0 [] rfl (World.ownsRow_nil _ _ _ _) ⟨g, kt * 3, none⟩ (M.length - kt) (cu - kt) (fl3 (M.drop kt)) (by simp [go_sem, e0]) (by rw [fl3_length, List.length_drop]) (by have := Lies.read (HU.out.below y3) kt (M.drop kt) ⟨[], by simp⟩; simpa using this) (fl3_one _) (by unfold maxLen; omega) (by omega) y3.size; exact ⟨v9, w9, t3 _ rfl rfl, (r4 _ _).mpr trivial, fun j v _ h => K j v _ _ h, A15.put1 y1 y2 (by decide) (by decide) (y3.grown t6.grown y3.size (fun k e => by cases e)) t4⟩)) ?_
        refine RV.AllDo.cons 5 (RV.does_pure (fun γ v L w hl h => A15.other h _ (by decide) (by decide) (by decide)) (fun γ L a w hH hl hA => by have e0 := E8 γ L a w hH; exact ⟨.pointer (some ⟨bs, 5, none⟩), by simp [execOp, go_sem, e0], (r5 _ _).mpr rfl⟩)) ?_
        refine RV.AllDo.cons 6 (RV.does_pure (fun γ v L w hl h => A15.other h _ (by decide) (by decide) (by decide)) (fun γ L a w hH hl hA => by have l0 : L 5 = true := hA ⟨5, .data⟩ (by simp) rfl; have e0 := hH.slot 5 104 d5 l0; have g0 := hH.holds 5 l0; rw [r5] at g0; rw [g0] at e0; have z0 := c_after (A15.below hH.glob (RV.not_yet hH A_11_9 (RV.not_yet hH A_9_8 (RV.not_yet hH A_8_6 hl)))) c5; exact ⟨.slice (some ⟨g, 0, none⟩) M.length cu, by simp [execOp, go_sem, e0, z0], (r6 _ _).mpr rfl⟩)) ?_
        refine RV.AllDo.cons 7 (RV.does_pure (fun γ v L w hl h => A15.other h _ (by decide) (by decide) (by decide)) (fun γ L a w hH hl hA => by have e0 := E15 γ L a w hH; exact ⟨.int .i64 (kt : Int), by simp [execOp, go_sem, e0], (r7 _ _).mpr rfl⟩)) ?_
        refine RV.AllDo.cons 8 (RV.does_pure (fun γ v L w hl h => A15.other h _ (by decide) (by decide) (by decide)) (fun γ L a w hH hl hA => by have l0 : L 6 = true := hA ⟨6, .data⟩ (by simp) rfl; have e0 := hH.slot 6 105 d6 l0; have g0 := hH.holds 6 l0; rw [r6] at g0; rw [g0] at e0; have l1 : L 7 = true := hA ⟨7, .data⟩ (by simp) rfl; have e1 := hH.slot 7 106 d7 l1; have g1 := hH.holds 7 l1; rw [r7] at g1; rw [g1] at e1; exact ⟨.slice (some ⟨g, 0, none⟩) kt cu, by simp [execOp, go_sem, e0, e1]; (intro e; omega), (r8 _ _).mpr rfl⟩)) ?_
        refine RV.AllDo.cons 9 (RV.does_step (fun γ L a w hH hl hA => by have l0 : L 4 = true := hA ⟨4, .data⟩ (by simp) rfl; have e0 := hH.slot 4 103 d4 l0; have g0 := hH.holds 4 l0; rw [r4] at g0; have l1 : L 8 = true := hA ⟨8, .data⟩ (by simp) rfl; have e1 := hH.slot 8 107 d8 l1; have g1 := hH.holds 8 l1; rw [r8] at g1; rw [g1] at e1; obtain ⟨y1, y2⟩ := A15.one hH.glob (hA ⟨4, .data⟩ (by simp) rfl) hl; have y3 := A15.below hH.glob y1; obtain ⟨v9, w9, t3, t4, t6⟩ := exec_append (P := Try.prog) (w := w) (a := a) (.tmp 103) (.tmp 107) 24 24 Vb.heap.size 23 i0 _ 3 24 Try.underlying24 HI.out.1 HI.out.2.1 HI.out.2.2.1 HI.out.2.2.2 rfl (by decide) (γ 4) (0 + (M.length - kt)) ([] ++ fl3 (M.drop kt)) (by simp [go_sem, e0]) y2 ⟨g, 0, none⟩ kt cu (fl3 (M.take kt)) (by simp [go_sem, e1]) (by rw [fl3_length, List.length_take, Nat.min_eq_left hkl]) (by have := Lies.read (HU.out.below y3) 0 (M.take kt) ⟨M.drop kt, by simp⟩; simpa using this) (fl3_one _) (by unfold maxLen; omega) (by omega) y3.size; exact ⟨v9, w9, t3 _ rfl rfl, (r9 _ _).mpr trivial, fun j v _ h => K j v _ _ h, A15.put2 (hA ⟨4, .data⟩ (by simp) rfl) y1 (by decide) (by decide) (y3.grown t6.grown y3.size (fun k e => (y2.lt k e).1)) t4⟩)) ?_
        refine RV.AllDo.cons 10 (RV.does_pure (fun γ v L w hl h => A15.other h _ (by decide) (by decide) (by decide)) (fun γ L a w hH hl hA => by have e0 := E16 γ L a w hH; exact ⟨.pointer (some ⟨bt, 5, none⟩), by simp [execOp, go_sem, e0], (r10 _ _).mpr rfl⟩)) ?_
        refine RV.AllDo.cons 11 (RV.does_store (fun γ L a w hH hl hA => by have l0 : L 9 = true := hA ⟨9, .data⟩ (by simp) rfl; have e0 := hH.slot 9 108 d9 l0; have g0 := hH.holds 9 l0; rw [r9] at g0; have l1 : L 10 = true := hA ⟨10, .data⟩ (by simp) rfl; have e1 := hH.slot 10 109 d10 l1; have g1 := hH.holds 10 l1; rw [r10] at g1; rw [g1] at e1; have q9 : L 9 = true := hA ⟨9, .data⟩ (by simp) rfl; have q4 : L 4 = true := hH.closed 9 4 A_9_4 q9; have y := A15.two hH.glob q9 hl; have y3 := A15.below hH.glob hl; have z0 := c_after y3 t5; have z1 := f_after y3 t5 f5; obtain ⟨o9, l9, c9, e9⟩ := own_slice y; exact ⟨w.setCell ⟨bt, 5, none⟩ (γ 9), by simp [execOp, go_sem, e0, e1, z0, z1, e9], (r11 _ _).mpr trivial, fun j v _ h => K j v _ _ h, A15.store hH.glob q4 q9 hl (by decide) (by decide) _⟩)) ?_
        exact RV.AllDo.nil
      · intro γ a5 w5 L9 hL hLo hH
        have ha := RV.held_act hH hL (by kernel_rfl) (by kernel_rfl)
        obtain ⟨w8b, y1, y2, y3⟩ := A15.done hH.glob (hL 11 (by decide))
        rw [ha]
        clear ha hH hL hLo
        simp only [RV.putAll, Act.put, List.setIfInBounds_toArray, List.set_cons_zero, List.set_cons_succ, Nat.zero_add, Nat.reduceAdd]
        obtain ⟨ot, lt, ct, et⟩ := own_slice y2
        rw [et] at y2 y3 ⊢
        have hN : (M.drop kt ++ M.take kt).length = 0 + (M.length - kt) + kt := by simp; omega
        have LT : Lies w8b (.slice ot lt ct) (M.drop kt ++ M.take kt) := by
          refine Lies.of_row (base := Vb.heap.size) ?_
          rw [fl3_append, hN]
          simpa using y2
        have lbt : bt < Vb.heap.size := World.block_lt_of_cell? _ _ t5
        have LT2 : Hid (Lies w5 (.slice ot lt ct) (M.drop kt ++ M.take kt)) := by
          refine Lies.of_row (base := Vb.heap.size) ?_
          rw [y3, fl3_append, hN]
          refine ownsRow_setCell_other (by simpa using y2) (fun e => ?_) _
          have q1 : Vb.heap.size ≤ bt := (y2.lt _ e).1
          omega
        have BT : Hid (Cells w5 bt [.int .i64 4, .int .i64 sr, .int .i64 sx, .int .i64 sy, .int .i64 sz, .slice ot lt ct]) := by rw [y3]; exact Cells.set (Cells.step BT.out y1) 5 (.slice ot lt ct) (by simp)
        have nbm : bm ≠ bt := nbm
        have BM : Hid (Cells w5 bm [.int .i64 a, .int .i64 mx, .int .i64 my, .int .i64 mz]) := by rw [y3]; exact Cells.put (Cells.step BM.out y1) nbm _ _
        have hD : Hid (Below w0.heap.size w0 w5) := by rw [y3]; exact (b_step hD.out y1).setCell hlt _
        have HPM : Hid (List.Perm M (M.drop kt ++ M.take kt)) := by
          have := (List.perm_append_comm (l₁ := M.take kt) (l₂ := M.drop kt)); rwa [List.take_append_drop] at this
        clear y1 y2 y3 et hN LT c5 t5 f5
        obtain ⟨Vc, hVc⟩ : ∃ X : World, X = w5 := ⟨_, rfl⟩
        rw [← hVc] at LT2 BT BM hD ⊢
        clear hVc
        generalize M.drop kt ++ M.take kt = N at *
        have c0 := (BT.out 0 _ rfl).1
        have c1 := (BT.out 1 _ rfl).1
        have c2 := (BT.out 2 _ rfl).1
        have c3 := (BT.out 3 _ rfl).1
        have c4 := (BT.out 4 _ rfl).1
        have c5 := (BT.out 5 _ rfl).1
        go_wp2_with (fail)
        refine Calls.mono (M2.out _ _ N rfl HPM.out LT2.out) ?_
        clear M2
        rintro e Vd ⟨rfl, h⟩
        have BM : Hid (Cells Vd bm [.int .i64 a, .int .i64 mx, .int .i64 my, .int .i64 mz]) := Cells.step BM.out h
        have hD : Hid _ := b_step hD.out h
        clear h c0 c1 c2 c3 c4 c5
        go_upto_region 17 with fail
        have h : Below Vd.heap.size Vd (Vd.alloc (.cells #[.int .i64 a, .int .i64 mx, .int .i64 my, .int .i64 mz] 36)) := n_after _ _
        have BO : Hid (Cells (Vd.alloc (.cells #[.int .i64 a, .int .i64 mx, .int .i64 my, .int .i64 mz] 36)) Vd.heap.size [.int .i64 a, .int .i64 mx, .int .i64 my, .int .i64 mz]) := Cells.new Vd [.int .i64 a, .int .i64 mx, .int .i64 my, .int .i64 mz] _
        have BM : Hid (Cells (Vd.alloc (.cells #[.int .i64 a, .int .i64 mx, .int .i64 my, .int .i64 mz] 36)) bm [.int .i64 a, .int .i64 mx, .int .i64 my, .int .i64 mz]) := Cells.step BM.out h
        have hD : Hid _ := b_step hD.out h
        generalize Vd.alloc (.cells #[.int .i64 a, .int .i64 mx, .int .i64 my, .int .i64 mz] 36) = Ve at *
        generalize Vd.heap.size = be at *
        clear h
        have m0 := (BM.out 0 _ rfl).1
        have m1 := (BM.out 1 _ rfl).1
        have m2 := (BM.out 2 _ rfl).1
        have m3 := (BM.out 3 _ rfl).1
        have n0 := (BO.out 0 _ rfl).1
        have n1 := (BO.out 1 _ rfl).1
        have n2 := (BO.out 2 _ rfl).1
        have n3 := (BO.out 3 _ rfl).1
        go_wp2_with (fail)
        go_ret
        exact ⟨rfl, hD.out⟩
    · have e4 : ((kn : Int) == 4) = false := beq_eq_false_iff_ne.2 hk4
      go_wp2_with (fail)
      go_ret
      exact ⟨rfl, hD.out⟩

/-! ### The row's step, after the guide's template -/
set_option maxRecDepth 100000 in
theorem lifted (os : Os) (started : os.Started) (H : Type) (enc : TypeId × Value → H) :
    ReturnsInHanded {} Try.checked os 6 .any (Rows.shapeWholeSpec.pre6 enc Try.prog Try.f6 Rows.shapeWholeRow.domain false) (Rows.shapeWholeSpec.post enc Try.prog Try.f6 false true false false) := by
  refine returnsInHanded_of_change (C := Try.checked) own started (by kernel_rfl) Try.func6
    (ChangeSpec.witness6 (enc := enc) (C := Try.checked) false ⟨#[], #[.agg #[.int .i64 0, .int .i64 0, .int .i64 0, .int .i64 0, .int .i64 0, .slice none 0 0], .int .i64 0, .int .i64 0], []⟩ 8 (by kernel_rfl) (by kernel_rfl) (by kernel_rfl) (by kernel_rfl)) ?_
  intro W base args ds gs before hval0 hW hcnd _
  have hval : ∀ (j : Nat) t v, Try.f6.params[j]? = some t → args[j]? = some v → Value.okWide Try.prog W .any base t v := hval0
  have hW' := hW
  obtain ⟨p, q, hA0, hV, rfl, hfz, hnd⟩ := hW
  have hA : DataW.TrodAll enc Try.prog W 0 (fun _ => true) true Try.f6.params.toList args.toList ds p := hA0
  rw [Try.params6] at hA hval
  obtain ⟨v0, vs0, d0, ds0, p0, q0, hargs, rfl, rfl, h0, r0⟩ := trodAll_cons hA
  obtain ⟨v1, vs1, d1, ds1, p1, q1, rfl, rfl, rfl, h1, r1⟩ := trodAll_cons r0
  obtain ⟨v2, vs2, d2, ds2, p2, q2, rfl, rfl, rfl, h2, r2⟩ := trodAll_cons r1
  obtain ⟨rfl, rfl, rfl⟩ := trodAll_nil r2
  obtain rfl : args = #[v0, v1, v2] := by cases args; simp_all
  obtain ⟨rfl, rfl⟩ := trodVars_none hV
  have k0 := h0
  have lt0 : ∀ x ∈ p0, x.block < W.heap.size := by obtain ⟨m, hm⟩ := k0; exact DataW.trod_lt m _ _ _ hm
  obtain ⟨k, rr, x, y, z, o, L, c, rfl, hL, hF, wk, wr, wx, wy, wz⟩ := open_raw2 (hval 0 42 v0 rfl rfl) h0
  have bk_ := bounds_i64 wk
  have br_ := bounds_i64 wr
  have bx_ := bounds_i64 wx
  have by_ := bounds_i64 wy
  have bz_ := bounds_i64 wz
  obtain ⟨a1, rfl, rfl, rfl, w1⟩ := open_int Try.underlying3 (hval 1 3 v1 rfl rfl) h1
  have b1 := bounds_i64 w1
  obtain ⟨a2, rfl, rfl, rfl, w2⟩ := open_int Try.underlying3 (hval 2 3 v2 rfl rfl) h2
  have b2 := bounds_i64 w2
  clear hA0 hval0
  refine (walk k rr x y z o L c a1 a2 W hL hF (by omega) (by omega) (by omega) (by omega) (by omega) (by omega) (by omega)).mono fun e W' ⟨he, bel⟩ => ?_
  subst he
  exact ⟨_, rfl, _, _, _, [], _, [], hW', trodAll_mk1 (shut_bool Try.underlying4 _), (trodAll_cons_mk (Below.trod laidOut (by kernel_rfl) (of_decide_eq_true (by kernel_rfl)) k0 bel lt0) (trodAll_cons_mk (shut_int Try.underlying3 w1) (trodAll_cons_mk (shut_int Try.underlying3 w2) trodAll_mk0))), rfl, bel.frame _, fun h => by cases h⟩

theorem over : Rows.shapeWholeRow.holds Try.pinned (OpenSpec.ofChange Rows.shapeWholeSpec) :=
  OpenClaim.holds_of_wide 6 Try.f6 rfl rfl rfl rfl rfl rfl rfl ⟨rfl, rfl, rfl, rfl, rfl⟩ rfl rfl rfl rfl rfl (by kernel_rfl) Try.func6 (by kernel_rfl)
    (of_decide_eq_true (by kernel_rfl)) (by unfold Func.isWrapper; first | (rw [if_pos (by decide +kernel)]; kernel_rfl) | (rw [if_neg (by decide +kernel)]; exact ⟨rfl, rfl⟩))
    (fun os started H enc _ => lifted os started H enc)

end shapeWhole

theorem shapeWhole_holds : Rows.ShapeWholeSaid := shapeWhole.over
#print axioms shapeWhole_holds
end Go.Proofs.Ytiicpdlaaklahaa
