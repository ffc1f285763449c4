/- Package island: trees of things. -/
import Derived.Test.YtdbiikllcplmgaaIsA
import Derived.WalkMore
namespace Go.Proofs.Ytdbiikllcplmgaa
open Go.RowKit Go.Shelf
set_option linter.unusedVariables false

set_option maxHeartbeats 1000000 in
set_option maxRecDepth 100000 in
theorem root_any (g N i : Nat) (T G : Nat → Nat) (w : World) (hN : N ≤ 4096) (hi : i < N) (hr : IRow w g N T) (ht : Tree N T G) (hl : Low G) :
    Calls Try.prog 23 #[.slice (some ⟨g, 0, none⟩) N N, .int .i64 (i : Int)] w fun e W => e = .returned (.int .i64 (G i : Int)) ∧ ∃ T', Tree N T' G ∧ (∀ j, j < N → T j = G j → T' j = G j) ∧ IRow W g N T' ∧ w.grownBy W (some g) := by
  obtain ⟨R, hR⟩ : ∃ R, G i = R := ⟨_, rfl⟩
  rw [hR]
  have HR : Hid _ := hR
  have HT : Hid _ := ht
  have HI : Hid _ := hr
  have HN : Hid _ := hN
  clear hR ht hr
  go_enter Try.func23, Try.ntmps23
  go_wp2
  go_step3
  go_wp2
  go_step3
  go_wp2
  go_loopg [1] i (fun gm j wr => ∃ k : Nat, j = .int .i64 (k : Int) ∧ k < N ∧ gm = k ∧ Hid (G k = R) ∧ ∃ U, Hid (Tree N U G) ∧ Hid (∀ j, j < N → T j = G j → U j = G j) ∧ Hid (IRow wr g N U) ∧ Hid (w.grownBy wr (some g)))
  case atStart => exact ⟨i, rfl, hi, rfl, HR.out, T, HT.out, fun j _ e => e, HI.out, World.grownBy.refl _ _⟩
  case round =>
    clear HR HT HI hi
    obtain ⟨k, rfl, hk, hgm, HR, U, HT, HF, HI, HG⟩ := hrel
    have HM : Hid _ := hgm
    clear hgm
    have hc := HI.out.cell k hk
    have hf := HI.out.fro k hk
    obtain ⟨p, q, r⟩ := HT.out.at_ k hk
    by_cases e : U k = k
    · have HE : Hid (G k = k) := r e
      rw [e] at hc
      clear p q r e
      go_wp2_with (fail)
      rw [Exit.noGoto_ret]
      go_ret
      have e2 : k = R := HE.out.symm.trans HR.out
      subst e2
      exact ⟨rfl, U, HT.out, HF.out, HI.out, HG.out⟩
    · have hlt : U k < k := by omega
      have hc2 := HI.out.cell (U k) (by omega)
      obtain ⟨p2, q2, r2⟩ := HT.out.at_ (U k) (by omega)
      have HI2 : Hid _ := HI.out.set hk (U (U k))
      have HT2 : Hid _ := HT.out.half hk
      have HF2 : Hid (∀ j, j < N → T j = G j → upd U k (U (U k)) j = G j) := fun j hj e => HT.out.half_same hl hj (HF.out j hj e)
      have HG2 : Hid _ := gtrans HG.out (set_grown (k := k) (.int .i64 ((U (U k) : Nat) : Int)))
      have HR2 : Hid (G (U (U k)) = R) := by rw [q2, q]; exact HR.out
      have hne : ((U k : Nat) : Int) ≠ (k : Int) := by omega
      have hlt2 : U (U k) < k := by omega
      have hltN : U k < N := by omega
      have hltM : U (U k) < N := by omega
      clear p q r e p2 q2 r2 HT HG HR HI HF
      generalize U (U k) = m2 at *
      generalize U k = m1 at *
      go_wp2_with (fail)
      go_roundg m2
      case measure => have := HM.out; omega
      case rel => exact ⟨m2, rfl, hltM, rfl, HR2.out, _, HT2.out, HF2.out, HI2.out, HG2.out⟩

set_option maxHeartbeats 1000000 in
set_option maxRecDepth 100000 in
theorem join_any (g N a b : Nat) (T G : Nat → Nat) (w : World) (hN : N ≤ 4096) (ha : a < N) (hb : b < N) (hr : IRow w g N T) (ht : Tree N T G) (hl : Low G) :
    Calls Try.prog 18 #[.slice (some ⟨g, 0, none⟩) N N, .int .i64 (a : Int), .int .i64 (b : Int)] w fun e W => e = .returned (.tuple #[]) ∧ ∃ T', Tree N T' (jnF G a b) ∧ IRow W g N T' ∧ w.grownBy W (some g) := by
  have H1 : Hid _ := root_any g N a T G w hN ha hr ht hl
  have hga : G a < N := Nat.lt_of_le_of_lt (hl.le a) ha
  have hgb : G b < N := Nat.lt_of_le_of_lt (hl.le b) hb
  obtain ⟨J, hJ⟩ : ∃ J, jnF G a b = J := ⟨_, rfl⟩
  rw [hJ]
  have HJ : Hid (∀ T', Tree N T' G → Tree N (upd T' (max (G a) (G b)) (min (G a) (G b))) J) := fun T' h => by rw [← hJ]; exact h.join hl a b
  clear hJ
  have HL : Hid _ := hl
  have HB : Hid _ := hb
  have HN : Hid _ := hN
  clear hr ht hl hb
  go_enter Try.func18, Try.ntmps18
  go_wp2_with (fail)
  refine Calls.mono H1.out ?_
  clear H1
  rintro e W1 ⟨rfl, T1, t1, _, r1, g1⟩
  have H2 : Hid _ := root_any g N b T1 G W1 HN.out HB.out r1 t1 HL.out
  have G1 : Hid _ := g1
  clear t1 r1 g1
  go_wp2_with (fail)
  refine Calls.mono H2.out ?_
  clear H2
  rintro e W2 ⟨rfl, T2, t2, _, r2, g2⟩
  have G2 : Hid _ := gtrans G1.out g2
  have T2' : Hid _ := HJ.out T2 t2
  have R2 : Hid _ := r2
  clear HJ G1 g2 t2 r2 HL HB HN
  generalize G a = ga at *
  generalize G b = gb at *
  have hm : max ga gb < N := by omega
  have hc := R2.out.cell _ hm
  have hf := R2.out.fro _ hm
  have R3 : Hid _ := R2.out.set hm (min ga gb)
  have G3 : Hid _ := gtrans G2.out (set_grown (k := max ga gb) (.int .i64 ((min ga gb : Nat) : Int)))
  clear G2 R2
  rcases Nat.lt_trichotomy ga gb with k | k | k
  · have k' : ¬ gb < ga := by omega
    rw [Nat.max_eq_right (Nat.le_of_lt k)] at *
    rw [Nat.min_eq_left (Nat.le_of_lt k)] at *
    go_wp2_with (fail)
    go_end0
    exact ⟨rfl, _, T2'.out, R3.out, G3.out⟩
  · subst k
    rw [Nat.max_self] at *
    rw [Nat.min_self] at *
    go_wp2_with (fail)
    go_end0
    exact ⟨rfl, _, T2'.out, R3.out, G3.out⟩
  · have k' : ¬ ga < gb := by omega
    rw [Nat.max_eq_left (Nat.le_of_lt k)] at *
    rw [Nat.min_eq_right (Nat.le_of_lt k)] at *
    go_wp2_with (fail)
    go_end0
    exact ⟨rfl, _, T2'.out, R3.out, G3.out⟩
set_option maxHeartbeats 1000000 in
set_option maxRecDepth 100000 in
theorem roots_any (g N : Nat) (T G : Nat → Nat) (w : World) (hN : N ≤ 4096) (hr : IRow w g N T) (ht : Tree N T G) (hl : Low G) :
    Calls Try.prog 19 #[.slice (some ⟨g, 0, none⟩) N N] w fun e W => e = .returned (.slice (some ⟨g, 0, none⟩) N N) ∧ IRow W g N G ∧ w.grownBy W (some g) := by
  have HT : Hid _ := ht
  have HI : Hid _ := hr
  have HL : Hid _ := hl
  clear ht hr hl
  go_enter Try.func19, Try.ntmps19
  go_wp2_with (fail)
  go_loopg [6] N (fun gm j wr => ∃ k : Nat, j = .int .i64 (k : Int) ∧ k ≤ N ∧ gm = N - k ∧ ∃ U, Hid (Tree N U G) ∧ Hid (IRow wr g N U) ∧ Hid (∀ i, i < k → U i = G i) ∧ Hid (w.grownBy wr (some g)))
  case atStart => exact ⟨0, rfl, Nat.zero_le _, rfl, T, HT.out, HI.out, fun i hi => absurd hi (by omega), World.grownBy.refl _ _⟩
  case round =>
    clear HT HI
    obtain ⟨k, rfl, hk, hgm, U, HT, HI, HU, HG⟩ := hrel
    have HM : Hid _ := hgm
    clear hgm
    by_cases hlt : k < N
    · have H1 : Hid _ := root_any g N k U G wr hN hlt HI.out HT.out HL.out
      clear HT HI
      go_wp2_with (fail)
      refine Calls.mono H1.out ?_
      clear H1
      rintro e W1 ⟨rfl, T1, t1, f1, r1, g1⟩
      have hc := r1.cell k hlt
      have hf := r1.fro k hlt
      have R2 : Hid _ := r1.set hlt (G k)
      have T2 : Hid _ := t1.flat HL.out hlt
      have G2 : Hid _ := gtrans (gtrans HG.out g1) (set_grown (k := k) (.int .i64 ((G k : Nat) : Int)))
      have U2 : Hid (∀ i, i < k + 1 → upd T1 k (G k) i = G i) := fun i hi => by
        by_cases e : i = k
        · subst e; rw [upd_same]
        · rw [upd_other _ _ _ _ e]; exact f1 i (by omega) (HU.out i (by omega))
      clear t1 f1 r1 g1 HG HU
      generalize G k = gk' at *
      go_wp2_with (fail)
      go_roundg (N - (k + 1))
      case measure => have := HM.out; omega
      case rel => exact ⟨k + 1, by go_num, by omega, rfl, _, T2.out, R2.out, U2.out, G2.out⟩
    · have e : k = N := by omega
      go_wp2_with (fail)
      go_ret
      exact ⟨rfl, ⟨fun i hi => by rw [← HU.out i (by omega)]; exact HI.out.cell i hi, HI.out.fro⟩, HG.out⟩
set_option maxHeartbeats 1000000 in
set_option maxRecDepth 100000 in
theorem seeds_any (N : Nat) (w : World) (hN : N ≤ 4096) :
    Calls Try.prog 16 #[.int .i64 (N : Int)] w fun e W => e = .returned (.slice (some ⟨w.heap.size, 0, none⟩) N N) ∧ IRow W w.heap.size N id ∧ Below w.heap.size w W ∧ w.heap.size < W.heap.size := by
  obtain ⟨i0, hii, hiz, hisz, hib⟩ := info_parts int_info
  have HI : Hid _ := And.intro hii (And.intro hiz (And.intro hisz hib))
  clear hii hiz hisz hib
  go_enter Try.func16, Try.ntmps16
  go_wp2_with (refine wpList_make_full _ rfl _ _ 36 rfl w.heap.size 3 i0 _ 1 Try.underlying36 HI.out.1 HI.out.2.1 HI.out.2.2.1 .i64 .i64 _ _ N rfl rfl rfl rfl (by rw [HI.out.2.2.2]; omega) (by unfold maxLen; omega) (Nat.le_refl _) ?_; intro W1 r1 g1)
  have hc : (madeCells (Value.int .i64 0).cells (N * 1)).toList = List.replicate N (.int .i64 0) := by rw [Nat.mul_one]; exact toList_madeCells_one _ _
  rw [hc] at r1
  have HR : Hid (IRow W1 w.heap.size N (fun _ => 0)) := IRow.of_row r1 (fun i hi => by rw [List.getElem?_replicate, if_pos hi]; rfl)
  have HB : Hid (Below w.heap.size w W1) := ⟨g1.os, g1.tape, g1.output, g1.size, fun k hk => g1.block k (by omega) (by simp)⟩
  have HS : Hid (w.heap.size < W1.heap.size) := (r1.lt _ rfl).2
  clear r1 g1 hc
  go_loopg [9] N (fun gm j wr => ∃ k : Nat, j = .int .i64 (k : Int) ∧ k ≤ N ∧ gm = N - k ∧ ∃ U, Hid (∀ i, i < k → U i = i) ∧ Hid (IRow wr w.heap.size N U) ∧ Hid (Below w.heap.size w wr) ∧ Hid (w.heap.size < wr.heap.size))
  case atStart => exact ⟨0, rfl, Nat.zero_le _, rfl, _, fun i hi => absurd hi (by omega), HR.out, HB.out, HS.out⟩
  case round =>
    clear HR HB HS HI
    obtain ⟨k, rfl, hk, hgm, U, HU, HR, HB, HS⟩ := hrel
    have HM : Hid _ := hgm
    clear hgm
    by_cases hlt : k < N
    · have hc := HR.out.cell k hlt
      have hf := HR.out.fro k hlt
      have R2 : Hid _ := HR.out.set hlt k
      have B2 : Hid _ := gbelow HB.out (set_grown (k := k) (.int .i64 (k : Int))) (Nat.le_refl _) (Nat.le_of_lt HS.out)
      have U2 : Hid (∀ i, i < k + 1 → upd U k k i = i) := fun i hi => by
        by_cases e : i = k
        · subst e; rw [upd_same]
        · rw [upd_other _ _ _ _ e]; exact HU.out i (by omega)
      have s2 : w.heap.size < (wr.setCell ⟨w.heap.size, k, none⟩ (.int .i64 (k : Int))).heap.size := by have := HS.out; simpa [World.setCell] using this
      have S2 : Hid _ := s2
      clear s2
      clear HR HB HU HS
      go_wp2_with (fail)
      go_roundg (N - (k + 1))
      case measure => have := HM.out; omega
      case rel => exact ⟨k + 1, by go_num, by omega, rfl, _, U2.out, R2.out, B2.out, S2.out⟩
    · have e : k = N := by omega
      go_wp2_with (fail)
      go_ret
      exact ⟨rfl, ⟨fun i hi => by have := HR.out.cell i hi; rw [HU.out i (by omega)] at this; exact this, HR.out.fro⟩, HB.out, HS.out⟩
end Go.Proofs.Ytdbiikllcplmgaa
