/- Package event: Diff. -/
import Derived.Test.YtbbmjfaflcbimaaEvG
import Derived.Test.YtbbmjfaflcbimaaPairU
import Derived.Lib.AppendZeros
namespace Go.Proofs.Ytbbmjfaflcbimaa
open Go.RowKit Go.Shelf
set_option linter.unusedVariables false

set_option maxHeartbeats 1000000 in
set_option maxRecDepth 100000 in
theorem egrow_any (n : Nat) (w : World) (hn : n ≤ 1048576) :
    Calls Try.prog 45 #[.slice none 0 0, .int .i64 (n : Int)] w fun e W => ∃ u, e = .returned u ∧ OA W w.heap.size u [] ∧ Below w.heap.size w W := by
  by_cases h0 : n = 0
  · subst h0
    go_enter Try.func45, Try.ntmps45
    go_wp2
    go_ret
    exact ⟨_, rfl, OA.nil _ _, Below.refl _ _⟩
  · obtain ⟨i0, hii, hiz, hisz, hib⟩ := info_parts ev_info
    obtain ⟨G, hG⟩ : ∃ G, G = grownCap w n 0 37 := ⟨_, rfl⟩
    obtain ⟨ROW, hROW⟩ : ∃ ROW : Array Value, ROW = Builtin.zeroCells (Value.agg #[.int .i64 0, .int .i64 0, .int .i64 0]).cells n ++ Builtin.zeroCells (Value.agg #[.int .i64 0, .int .i64 0, .int .i64 0]).cells (G - n) := ⟨_, rfl⟩
    have hrz : ∀ ty, (Builtin.append_ #[31, 3] ty #[.slice none 0 0, .int .i64 (n : Int)]).run Try.prog w = .ok (.slice (some ⟨w.heap.size, 0, none⟩) n G) (w.drew.alloc (.cells ROW 37)) := fun ty => by
      have h := Lib.run_append_nil_zeros (P := Try.prog) w 31 3 ty 37 i0 _ .i64 .i64 Try.underlying31 Try.underlying3 hii hiz n (by omega) (by omega) (by omega) (by rw [hib]; omega)
      rw [← hG, ← hROW] at h
      exact h
    have hGn : n ≤ G := by rw [hG]; exact grownCap_ge w _ _ _
    have hGm : G ≤ maxLen := by rw [hG]; exact grownCap_le_maxLen w n 0 _ (by unfold maxLen; omega)
    have hRs : ROW.size = G * 3 := by
      rw [hROW]
      simp only [Array.size_append, size_zeroCells]
      simp [Value.cells]
      omega
    obtain ⟨W1, hW1⟩ : ∃ W1, W1 = w.drew.alloc (.cells ROW 37) := ⟨_, rfl⟩
    have hg1 : W1.heap[w.heap.size]? = some (.cells ROW 37 (0, 0)) := by rw [hW1]; exact heap_alloc_new w.drew _
    have HF : Hid (OA W1 w.heap.size (.slice (some ⟨w.heap.size, 0, none⟩) 0 G) [] ∧ Below w.heap.size w W1) := ⟨OA.of_row ⟨rfl, Or.inr ⟨w.heap.size, G, ROW, rfl, Nat.le_refl _, hg1, Nat.zero_le _, hGm, hRs, by simp [evs]⟩⟩, by rw [hW1]; exact (Below.refl _ w).drew.alloc (Nat.le_refl _) _⟩
    rw [← hW1] at hrz
    have h1 : ¬ ((n : Int) < 0) := by omega
    have h2 : (0 : Int) < (n : Int) := by omega
    have h3 : IntKind.i64.wrap (n : Int) = n := by rw [IntKind.wrap_i64]; omega
    have hb6 : ¬ (G = 0) := by omega
    have hG63 : G ≤ 9223372036854775807 := by unfold maxLen at hGm; omega
    have HR : Hid _ := hrz
    clear hW1 hg1 hRs hGm hROW hG hii hiz hisz hib h0 hrz
    go_enter Try.func45, Try.ntmps45
    go_wp2_with (at_builtin; refine Lib.wpList_append_run _ rfl _ _ _ _ rfl _ _ rfl rfl _ _ (HR.out _) ?_)
    go_ret
    exact ⟨_, rfl, HF.out⟩
/-- A list of one's own beside two slices in a box. -/
structure EC (w W : World) (g : Nat) (va vb v : Value) (X : List Ev) : Prop where
  x0 : W.cell? ⟨g, 0, none⟩ = some va
  x1 : W.cell? ⟨g, 1, none⟩ = some vb
  own : OA W w.heap.size v X
  below : Below w.heap.size w W
  lt : g < w.heap.size
theorem EC.app {w W V : World} {g : Nat} {va vb v v' : Value} {X Y : List Ev} (h : EC w W g va vb v X) (r : OA V w.heap.size v' Y) (hg : W.grownBy V v.ownBlock) : EC w V g va vb v' Y := by
  have hne : some g ≠ v.ownBlock := fun e => by have := (h.own.lt g e.symm).1; have := h.lt; omega
  exact ⟨hg.cell h.x0 hne, hg.cell h.x1 hne, r, ⟨hg.os.trans h.below.os, hg.tape.trans h.below.tape, hg.output.trans h.below.output, Nat.le_trans h.below.size hg.size, fun k hk => (hg.block k (Nat.lt_of_lt_of_le hk h.below.size) (fun e => by have := (h.own.lt k e.symm).1; omega)).trans (h.below.block k hk)⟩, h.lt⟩
set_option maxHeartbeats 8000000 in
set_option maxRecDepth 100000 in
/-- Two lists, one behind the other. -/
theorem econcat_any (A B : List Ev) (va vb : Value) (g : Nat) (w0 : World) (hA : LiesE w0 va A) (hB : LiesE w0 vb B) (x0 : w0.cell? ⟨g, 0, none⟩ = some va) (x1 : w0.cell? ⟨g, 1, none⟩ = some vb) (hN : A.length + B.length ≤ 1048576) :
    Calls Try.prog 35 #[.slice (some ⟨g, 0, none⟩) 2 2] w0 fun e W => ∃ u, e = .returned u ∧ OA W w0.heap.size u (A ++ B) ∧ Below w0.heap.size w0 W := by
  have LA : Hid _ := hA
  have LB : Hid _ := hB
  obtain ⟨oa, ca, rfl, _⟩ := hA.form
  obtain ⟨ob, cb, rfl, _⟩ := hB.form
  have HG : Hid _ := fun w' => egrow_any (A.length + B.length) w' hN
  rw [Int.natCast_add] at HG
  clear hA hB
  have wa : IntKind.i64.wrap (A.length : Int) = A.length := by rw [IntKind.wrap_i64]; omega
  have wab : IntKind.i64.wrap ((A.length : Int) + (B.length : Int)) = (A.length : Int) + (B.length : Int) := by rw [IntKind.wrap_i64]; omega
  have na : ¬ ((A.length : Int) < 0) := by omega
  have nab : ¬ ((A.length : Int) + (B.length : Int) < 0) := by omega
  have X0 : Hid _ := x0
  have X1 : Hid _ := x1
  go_enter Try.func35, Try.ntmps35
  go_wp2_with (fail)
  go_loopg [3, 11] 2 (fun gm s3 s11 wr => Hid (gm = 2 ∧ s3 = .int .i64 0 ∧ s11 = .int .i64 0 ∨ gm = 1 ∧ s3 = .int .i64 (A.length : Int) ∧ s11 = .int .i64 1 ∨ gm = 0 ∧ s3 = .int .i64 ((A.length : Int) + (B.length : Int)) ∧ s11 = .int .i64 2) ∧ wr = w0)
  case atStart => exact ⟨Or.inl ⟨rfl, rfl, rfl⟩, rfl⟩
  case round =>
    obtain ⟨HR, hwr⟩ := hrel
    rw [hwr]
    clear hwr
    rcases HR.out with ⟨rfl, rfl, rfl⟩ | ⟨rfl, rfl, rfl⟩ | ⟨rfl, rfl, rfl⟩
    · clear HR x1
      go_wp2_with (fail)
      go_roundg 1
      case rel => exact ⟨Or.inr (Or.inl ⟨rfl, rfl, rfl⟩), rfl⟩
      case measure => omega
    · clear HR x0
      go_wp2_with (fail)
      go_roundg 0
      case rel => exact ⟨Or.inr (Or.inr ⟨rfl, rfl, rfl⟩), rfl⟩
      case measure => omega
    · clear HR x0 x1
      go_wp2_with (fail)
      refine Calls.mono (HG.out _) ?_
      rintro e W1 ⟨u, rfl, hr, hb⟩
      have HK : Hid (EC w0 W1 g (.slice oa A.length ca) (.slice ob B.length cb) u []) := ⟨z_after hb X0.out, z_after hb X1.out, hr, hb, World.block_lt_of_cell? _ _ X0.out⟩
      obtain ⟨o1, c1, rfl, _, _⟩ := hr.len
      clear hr hb HG wa wab na nab
      go_wp2_with (fail)
      go_loopg [6, 27] 2 (fun gm s6 s27 wr2 => ∃ (o2 : Option Addr) (c2 : Nat) (X : List Ev), s6 = .slice o2 X.length c2 ∧ Hid (EC w0 wr2 g (.slice oa A.length ca) (.slice ob B.length cb) (.slice o2 X.length c2) X) ∧ Hid (gm = 2 ∧ X = [] ∧ s27 = .int .i64 0 ∨ gm = 1 ∧ X = A ∧ s27 = .int .i64 1 ∨ gm = 0 ∧ X = A ++ B ∧ s27 = .int .i64 2))
      case atStart => exact ⟨o1, c1, [], rfl, HK, Or.inl ⟨rfl, rfl, rfl⟩⟩
      case round =>
        clear HK
        obtain ⟨o2, c2, X, rfl, HK, HR⟩ := hrel
        have x0 := HK.out.x0
        have x1 := HK.out.x1
        rcases HR.out with ⟨rfl, rfl, rfl⟩ | ⟨rfl, rfl, rfl⟩ | ⟨rfl, rfl, rfl⟩
        · clear HR x1
          go_wp2_with (at_builtin; refine eapp rfl _ _ rfl w0.heap.size _ [] rfl HK.out.own _ A rfl (LA.out.below HK.out.below) (by first | omega | (simp; omega)) HK.out.below.size ?_; intro u9 V9 r8 g8 s8; rw [List.nil_append] at r8; have HK9 : Hid _ := HK.out.app r8 g8; obtain ⟨o9, c9, e9, _⟩ := HK9.out.own.len; subst e9; clear r8 g8 s8)
          clear x0
          go_roundg 1
          case rel => exact ⟨o9, c9, A, rfl, HK9, Or.inr (Or.inl ⟨rfl, rfl, rfl⟩)⟩
          case measure => omega
        · clear HR x0
          go_wp2_with (at_builtin; refine eapp rfl _ _ rfl w0.heap.size _ X rfl HK.out.own _ B rfl (LB.out.below HK.out.below) (by first | omega | (simp; omega)) HK.out.below.size ?_; intro u9 V9 r8 g8 s8; have HK9 : Hid _ := HK.out.app r8 g8; obtain ⟨o9, c9, e9, _⟩ := HK9.out.own.len; subst e9; clear r8 g8 s8)
          clear x1
          go_roundg 0
          case rel => exact ⟨o9, c9, X ++ B, by rw [List.length_append], HK9, Or.inr (Or.inr ⟨rfl, rfl, rfl⟩)⟩
          case measure => omega
        · clear HR x0 x1
          go_wp2_with (fail)
          go_ret
          exact ⟨_, rfl, HK.out.own, HK.out.below⟩

def tellP (k : Int) (L : List Pr) : List Ev := L.map (fun p => ⟨k, p.a, p.b⟩)
theorem tellP_length (k : Int) (L : List Pr) : (tellP k L).length = L.length := by simp [tellP]
theorem tellP_more (k : Int) (L : List Pr) (i : Nat) (h : i < L.length) : tellP k (L.take i) ++ [⟨k, (pt L i).a, (pt L i).b⟩] = tellP k (L.take (i + 1)) := by
  unfold tellP pt
  rw [List.take_add_one, List.getElem?_eq_getElem h]
  simp only [List.map_append, Option.toList_some, List.map_cons, List.map_nil, Option.getD_some]
theorem one_lies {w : World} (k a b : Int) : LiesE (w.alloc (.cells #[.int .i64 k, .int .i64 a, .int .i64 b] 37)) (.slice (some ⟨w.heap.size, 0, none⟩) 1 1) [⟨k, a, b⟩] := by
  refine ⟨_, 1, rfl, Nat.le_refl _, by omega, fun i hi => ?_⟩
  have : i = 0 := by simp at hi; omega
  subst this
  exact ⟨w.heap.size, 0, rfl, by simp [go_sem, evAt], by simp [go_sem, evAt], by simp [go_sem, evAt]⟩
/-- What is told so far. -/
structure EO (w W : World) (v : Value) (X : List Ev) : Prop where
  own : OA W w.heap.size v X
  below : Below w.heap.size w W
theorem EO.step {w W V : World} {v : Value} {X : List Ev} (h : EO w W v X) (hb : Below W.heap.size W V) : EO w V v X := ⟨h.own.below hb, z_step h.below hb⟩
theorem EO.app {w W V : World} {v v' : Value} {X Y : List Ev} (h : EO w W v X) (r : OA V w.heap.size v' Y) (hg : W.grownBy V v.ownBlock) : EO w V v' Y :=
  ⟨r, ⟨hg.os.trans h.below.os, hg.tape.trans h.below.tape, hg.output.trans h.below.output, Nat.le_trans h.below.size hg.size, fun k hk => (hg.block k (Nat.lt_of_lt_of_le hk h.below.size) (fun e => by have := (h.own.lt k e.symm).1; omega)).trans (h.below.block k hk)⟩⟩
set_option maxHeartbeats 2000000 in
set_option maxRecDepth 100000 in
theorem tell19_any (kd : Int) (v : Value) (L : List Pr) (w : World) (hl : Lies w v L) (hN : L.length ≤ 4096) :
    Calls Try.prog 36 #[.int .i64 kd, v] w fun e W => ∃ u, e = .returned u ∧ OA W w.heap.size u (tellP kd L) ∧ Below w.heap.size w W := by
  obtain ⟨i0, hi, hz, hs, hb⟩ := info_parts ev_info
  have hmk := run_make (P := Try.prog) w 31 37 i0 _ Try.underlying31 hi hz .i64 .i64 0 L.length (by omega) (by omega) (by rw [hb]; omega) (by omega)
  rw [Int.toNat_natCast, hs] at hmk
  obtain ⟨K0, hK0⟩ : ∃ K0, K0 = madeCells (Value.agg #[.int .i64 0, .int .i64 0, .int .i64 0]).cells (L.length * 3) := ⟨_, rfl⟩
  rw [← hK0] at hmk
  have HO : Hid (EO w (w.alloc (.cells K0 37)) (.slice (some ⟨w.heap.size, 0, none⟩) 0 L.length) (tellP kd (L.take 0))) := by
    refine ⟨?_, (Below.refl _ w).alloc (Nat.le_refl _) _⟩
    refine OA.of_row ⟨by simp [tellP, evs], Or.inr ⟨w.heap.size, L.length, K0, rfl, Nat.le_refl _, heap_alloc_new w _, by simp [tellP], by unfold maxLen; omega, by rw [hK0]; simp [madeCells], by simp [tellP, evs]⟩⟩
  obtain ⟨o, cap, rfl, hlc, hcm, hcell⟩ := hl.form
  have HC : Hid _ := hcell
  clear hK0 hi hz hs hb hl hcell
  go_enter Try.func36, Try.ntmps36
  go_wp2_with (fail)
  go_loopg [5, 13] L.length (fun gm s5 j wr => ∃ (k : Nat) (o2 : Option Addr) (c2 : Nat), s5 = .slice o2 k c2 ∧ j = .int .i64 (k : Int) ∧ k ≤ L.length ∧ gm = L.length - k ∧ Hid (EO w wr (.slice o2 k c2) (tellP kd (L.take k))))
  case atStart => exact ⟨0, _, _, rfl, rfl, Nat.zero_le _, rfl, HO⟩
  case round =>
    obtain ⟨k, o2, c2, rfl, rfl, hk, hgm, HK⟩ := hrel
    have HM : Hid _ := hgm
    clear hgm HO
    by_cases hlt : k < L.length
    · obtain ⟨g, off, rfl, x0, x1⟩ := HC.out k hlt
      have x0 := z_after HK.out.below x0
      have x1 := z_after HK.out.below x1
      have HT : Hid _ := tellP_more kd L k hlt
      have HTL : Hid ((tellP kd (L.take k)).length = k) := by show _ = _; rw [tellP_length, List.length_take]; omega
      generalize pt L k = p at *
      obtain ⟨pa, pb⟩ := p
      dsimp only at x0 x1
      obtain ⟨V, hV⟩ : ∃ V, V = wr.alloc (.cells #[.int .i64 pa, .int .i64 pb] 60) := ⟨_, rfl⟩
      have hB : Below wr.heap.size wr V := by rw [hV]; exact (Below.refl _ wr).alloc (Nat.le_refl _) _
      have HV : Hid (EO w V (.slice o2 k c2) (tellP kd (L.take k))) := HK.out.step hB
      go_upto_region 5 with fail
      have y0 : V.cell? ⟨wr.heap.size, 0, none⟩ = some (.int .i64 pa) := by rw [hV]; simp [go_sem]
      have y1 : V.cell? ⟨wr.heap.size, 1, none⟩ = some (.int .i64 pb) := by rw [hV]; simp [go_sem]
      rw [← hV]
      have hls : wr.heap.size < V.heap.size := World.block_lt_of_cell? _ _ y0
      generalize wr.heap.size = S0 at *
      clear hV hB x0 x1 HK HC
      go_wp2_with (at_builtin; refine eapp rfl _ _ rfl w.heap.size _ (tellP kd (L.take k)) rfl (HV.out.step ((Below.refl _ V).alloc (Nat.le_refl _) (.cells #[.int .i64 kd, .int .i64 pa, .int .i64 pb] 37))).own _ [⟨kd, pa, pb⟩] rfl (one_lies kd pa pb) (by rw [HTL.out]; simp; omega) (by have := HV.out.below.size; simp; omega) ?_; intro u9 V9 r8 g8 s8; rw [HT.out] at r8; have HK9 : Hid _ := (HV.out.step ((Below.refl _ V).alloc (Nat.le_refl _) (.cells #[.int .i64 kd, .int .i64 pa, .int .i64 pb] 37))).app r8 g8; obtain ⟨o9, c9, e9, _⟩ := HK9.out.own.len; subst e9; clear r8 g8 s8)
      go_roundg (L.length - (k + 1))
      case measure => have := HM.out; omega
      case rel =>
        have e9 : (tellP kd (L.take (k + 1))).length = k + 1 := by rw [tellP_length, List.length_take]; omega
        rw [e9] at HK9
        exact ⟨k + 1, o9, c9, by rw [e9], by go_num, by omega, rfl, HK9⟩
    · have e : k = L.length := by omega
      subst e
      rw [List.take_length] at HK
      go_wp2_with (fail)
      go_ret
      exact ⟨_, rfl, HK.out.own, HK.out.below⟩
end Go.Proofs.Ytbbmjfaflcbimaa
