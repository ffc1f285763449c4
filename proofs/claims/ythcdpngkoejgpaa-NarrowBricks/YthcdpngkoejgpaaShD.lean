/- Edges are added. -/
import Derived.Test.YthcdpngkoejgpaaShC
import Derived.OneCell
namespace Go.Proofs.Ythcdpngkoejgpaa
open Go.RowKit Go.Shelf
set_option linter.unusedVariables false

theorem own_set3 {W : World} {base : Nat} {t : TypeId} {sz n : Nat} {u : Value} {xs : List Value} {b : Nat} (h : W.ownsRow base t sz u n xs) (hne : u.ownBlock ≠ some b) (x y z : Int) : (set3 W b x y z).ownsRow base t sz u n xs :=
  ownsRow_setCell_other (ownsRow_setCell_other (ownsRow_setCell_other h hne _) hne _) hne _
/-- Three cells a point, from a block's beginning on. -/
def At (W : World) (g : Nat) (M : List Pt) : Prop := ∀ i, i < M.length → W.cell? ⟨g, i * 3, none⟩ = some (.int .i64 (pt M i).x) ∧ W.cell? ⟨g, i * 3 + 1, none⟩ = some (.int .i64 (pt M i).y) ∧ W.cell? ⟨g, i * 3 + 2, none⟩ = some (.int .i64 (pt M i).z)
theorem At.below {w W : World} {g : Nat} {M : List Pt} (h : At w g M) (hb : Below w.heap.size w W) : At W g M := fun i hi => ⟨c_after hb (h i hi).1, c_after hb (h i hi).2.1, c_after hb (h i hi).2.2⟩
theorem At.grown {w W : World} {g : Nat} {M : List Pt} {row : Option Nat} (h : At w g M) (hg : w.grownBy W row) (hne : row ≠ some g) : At W g M := fun i hi =>
  ⟨hg.cell (h i hi).1 (fun e => hne e.symm), hg.cell (h i hi).2.1 (fun e => hne e.symm), hg.cell (h i hi).2.2 (fun e => hne e.symm)⟩
theorem At.set3 {w : World} {g b : Nat} {M : List Pt} (h : At w g M) (hne : g ≠ b) (x y z : Int) : At (set3 w b x y z) g M := by
  intro i hi
  obtain ⟨a, b, c⟩ := h i hi
  unfold Go.Proofs.Ythcdpngkoejgpaa.set3
  exact ⟨by simp [go_sem, a], by simp [go_sem, b], by simp [go_sem, c]⟩
theorem edges_snoc (E M : List Pt) (k : Nat) (hk : k < M.length) : withEdgesP E (M.take (k + 1)) = withEdgeP (withEdgesP E (M.take k)) (pt M k) := by
  unfold withEdgesP
  rw [take_pt hk, List.foldl_append]; rfl
theorem edges_len (E M : List Pt) : (withEdgesP E M).length ≤ E.length + M.length := by
  unfold withEdgesP
  induction M generalizing E with
  | nil => simp
  | cons m r ih =>
    have := ih (withEdgeP E m)
    have h2 : (withEdgeP E m).length ≤ E.length + 1 := by unfold withEdgeP; split <;> simp
    simp only [List.foldl_cons, List.length_cons]
    omega
/-- A round's end: what is told of the list, of the others, and of the world. -/
structure ER (w wr : World) (B : Nat) (u0 u : Value) (g : Nat) (M E : List Pt) : Prop where
  row : wr.ownsRow B 26 3 u E.length (fl3 E)
  more : At wr g M
  off : u.ownBlock ≠ some g
  grew : Grew w wr u0 u
  gl : g < w.heap.size
theorem ER.below {w wr W : World} {B : Nat} {u0 u : Value} {g : Nat} {M E : List Pt} (h : ER w wr B u0 u g M E) (hb : Below wr.heap.size wr W) : ER w W B u0 u g M E :=
  ⟨own_below h.row hb, h.more.below hb, h.off, h.grew.trans (Grew.below hb _), h.gl⟩
theorem ER.set {w wr : World} {B : Nat} {u0 u : Value} {g b : Nat} {M E : List Pt} (h : ER w wr B u0 u g M E) (hu : u.ownBlock ≠ some b) (hb : w.heap.size ≤ b) (x y z : Int) : ER w (set3 wr b x y z) B u0 u g M E := by
  refine ⟨own_set3 h.row hu _ _ _, h.more.set3 (by have := h.gl; omega) _ _ _, h.off, ⟨?_, h.grew.same⟩, h.gl⟩
  have hb3 : Below b wr (set3 wr b x y z) := set3_below (Below.refl _ _) (Nat.le_refl _) _ _ _
  refine ⟨hb3.os.trans h.grew.grown.os, hb3.tape.trans h.grew.grown.tape, hb3.output.trans h.grew.grown.output, Nat.le_trans h.grew.grown.size hb3.size, fun k hk hn => (hb3.block k (by omega)).trans (h.grew.grown.block k hk hn)⟩
theorem ER.app {w wr W : World} {B : Nat} {u0 u u' : Value} {g : Nat} {M E E' : List Pt} (h : ER w wr B u0 u g M E) (hr : W.ownsRow B 26 3 u' E'.length (fl3 E')) (hg : Grew wr W u u') : ER w W B u0 u' g M E' := by
  refine ⟨hr, h.more.grown hg.grown h.off, ?_, h.grew.trans hg, h.gl⟩
  rcases hg.same with e | ⟨k, e, hk⟩
  · rw [e]; exact h.off
  · rw [e]; intro e'; cases e'; have := h.grew.grown.size; have := h.gl; omega
theorem ER.lt {w wr : World} {B : Nat} {u0 u : Value} {g : Nat} {M E : List Pt} (h : ER w wr B u0 u g M E) {b : Nat} (hb : wr.heap.size ≤ b) : u.ownBlock ≠ some b := fun e => by have := (h.row.lt b e).2; omega

set_option maxHeartbeats 2000000 in
set_option maxRecDepth 100000 in
theorem withEdges_any (B g : Nat) (u : Value) (E M : List Pt) (w : World) (ho : w.ownsRow B 26 3 u E.length (fl3 E)) (hm : At w g M) (hoff : u.ownBlock ≠ some g) (hgl : g < w.heap.size) (hB : B ≤ w.heap.size) (hl : E.length ≤ 100000) (hM : M.length ≤ 100) :
    Calls Try.prog 87 #[u, .slice (some ⟨g, 0, none⟩) M.length M.length] w fun e W => ∃ u', e = .returned u' ∧ W.ownsRow B 26 3 u' (withEdgesP E M).length (fl3 (withEdgesP E M)) ∧ Grew w W u u' := by
  obtain ⟨i0, hii, hiz, hisz, hib⟩ := info_parts point_info
  have HI : Hid _ := And.intro hii (And.intro hiz (And.intro hisz hib))
  clear hii hiz hisz hib
  have HE : Hid (ER w w B u u g M E) := ⟨ho, hm, hoff, Grew.refl _ _, hgl⟩
  obtain ⟨o, c, hu, _⟩ := (Lies.of_row ho).form
  clear ho hm hoff
  subst hu
  go_enter Try.func87, Try.ntmps87
  go_wp2_with (fail)
  go_loopg [0, 9] M.length (fun gm u i wr => ∃ (k : Nat) (D : List Pt) (oo : Option Addr) (cc : Nat), i = .int .i64 (k : Int) ∧ k ≤ M.length ∧ gm = M.length - k ∧ u = .slice oo D.length cc ∧ D.length ≤ 100000 + k ∧ Hid (D = withEdgesP E (M.take k)) ∧ Hid (ER w wr B (.slice o E.length c) (.slice oo D.length cc) g M D))
  case atStart => exact ⟨0, E, o, c, rfl, Nat.zero_le _, rfl, rfl, by omega, by show _ = _; simp [withEdgesP], HE⟩
  case round =>
    clear HE
    obtain ⟨k, D, oo, cc, rfl, hk, hgm, rfl, hD, HD, HE⟩ := hrel
    have HG : Hid _ := hgm
    clear hgm
    by_cases hlt : k < M.length
    · obtain ⟨x0, x1, x2⟩ := HE.out.more k hlt
      have hgw := World.block_lt_of_cell? _ _ x0
      have HS : Hid (withEdgeP D (pt M k) = withEdgesP E (M.take (k + 1))) := by show _ = _; rw [edges_snoc E M k hlt, HD.out]
      clear HD
      generalize pt M k = m at *
      have hws : w.heap.size ≤ wr.heap.size := HE.out.grew.grown.size
      have HSH : Hid _ := short_any m (wr.alloc (.cells #[.int .i64 m.x, .int .i64 m.y, .int .i64 m.z] 26))
      have bx : Hid (Box3 (wr.alloc (.cells #[.int .i64 m.x, .int .i64 m.y, .int .i64 m.z] 26)) wr.heap.size m) := Box3.new wr m.x m.y m.z _
      have hsin := short_in m
      have HWE : Hid (withEdgeP D m = if m.short ∈ D ∨ m.short.neg ∈ D then D else D ++ [m.short]) := rfl
      generalize m.short = s at *
      unfold Pt.v at HSH
      go_wp2_with (fail)
      refine Calls.mono HSH.out ?_
      clear HSH x0 x1 x2
      rintro e V ⟨rfl, hb⟩
      have bx := bx.out.step hb
      obtain ⟨c0, c1, c2, f0, f1, f2⟩ := bx
      have bx := (Box3.mk c0 c1 c2 f0 f1 f2).set s.x s.y s.z
      have HE1 : Hid _ := (HE.out.below (b_step (n_after wr _) hb)).set (HE.out.lt (Nat.le_refl _)) hws s.x s.y s.z
      have hsz := (b_step (n_after wr _) hb).size
      clear HE hb
      obtain ⟨V2, hV2⟩ : ∃ V2 : World, V2 = set3 V wr.heap.size s.x s.y s.z := ⟨_, rfl⟩
      have hs2 : V2.heap.size = V.heap.size := by rw [hV2]; exact set3_size _ _ _ _ _
      rw [← hV2] at HE1 bx
      unfold set3 at hV2
      go_wp2_with (fail)
      rw [← hV2]
      clear hV2 c0 c1 c2 f0 f1 f2
      have bx : Hid _ := bx
      refine Calls.mono (contains_any _ D s V2 (Lies.of_row HE1.out.row)) ?_
      rintro e V3 ⟨rfl, hb⟩
      have HE1 : Hid _ := HE1.out.below hb
      have bx : Hid _ := bx.out.step hb
      have hsz : wr.heap.size ≤ V3.heap.size := by have := hb.size; omega
      clear hb hs2
      by_cases h1 : s ∈ D
      · have e : D = withEdgesP E (M.take (k + 1)) := by rw [← HS.out, HWE.out, if_pos (Or.inl h1)]
        have hd : decide (s ∈ D) = true := decide_eq_true h1
        rw [hd]
        have HE2 : Hid _ := e
        clear HS HWE h1 hd e
        go_wp2_with (fail)
        go_roundg (M.length - (k + 1))
        case measure => have := HG.out; omega
        case rel => exact ⟨k + 1, D, oo, cc, by go_num, by omega, rfl, rfl, by omega, HE2, HE1⟩
      · have hd : decide (s ∈ D) = false := decide_eq_false h1
        rw [hd]
        obtain ⟨c0, c1, c2, _, _, _⟩ := bx.out
        go_wp2_with (fail)
        refine Calls.mono (back_any s _ (inB_mono hsin (by decide))) ?_
        rintro e V4 ⟨rfl, hb⟩
        have HE1 : Hid _ := HE1.out.below hb
        have bx : Hid _ := bx.out.step hb
        have hsz : wr.heap.size ≤ V4.heap.size := by have := hb.size; omega
        clear hb c0 c1 c2
        unfold Pt.v
        go_wp2_with (fail)
        refine Calls.mono (contains_any _ D s.neg V4 (Lies.of_row HE1.out.row)) ?_
        rintro e V5 ⟨rfl, hb⟩
        have HE1 : Hid _ := HE1.out.below hb
        have bx : Hid _ := bx.out.step hb
        have hsz : wr.heap.size ≤ V5.heap.size := by have := hb.size; omega
        clear hb
        by_cases h2 : s.neg ∈ D
        · have e : D = withEdgesP E (M.take (k + 1)) := by rw [← HS.out, HWE.out, if_pos (Or.inr h2)]
          have hd2 : decide (s.neg ∈ D) = true := decide_eq_true h2
          rw [hd2]
          have HE2 : Hid _ := e
          clear HS HWE h1 hd hd2 h2 e
          go_wp2_with (fail)
          go_roundg (M.length - (k + 1))
          case measure => have := HG.out; omega
          case rel => exact ⟨k + 1, D, oo, cc, by go_num, by omega, rfl, rfl, by omega, HE2, HE1⟩
        · have e : D ++ [s] = withEdgesP E (M.take (k + 1)) := by rw [← HS.out, HWE.out, if_neg (fun h => h.elim h1 h2)]
          have hd2 : decide (s.neg ∈ D) = false := decide_eq_false h2
          rw [hd2]
          have HE2 : Hid _ := e
          clear HS HWE h1 hd hd2 h2 e
          obtain ⟨c0, c1, c2, _, _, _⟩ := bx.out
          go_wp2_with (at_builtin; refine wpList_append_own_at _ rfl _ _ 22 rfl B 26 i0 _ 3 24 Try.underlying22 HI.out.1 HI.out.2.1 HI.out.2.2.1 HI.out.2.2.2 rfl (by decide) _ _ _ rfl (own_below HE1.out.row (n_after V5 _)) ⟨V5.heap.size, 0, none⟩ 1 1 [.int .i64 s.x, .int .i64 s.y, .int .i64 s.z] rfl rfl (news_at (heap_alloc_new V5 _)) (by intro u hu; simp at hu; rcases hu with rfl | rfl | rfl <;> rfl) (by unfold maxLen; omega) (by omega) (by simp; omega) ?_; intro u9 V6 r8 g8 _ s8; obtain ⟨gg8, kk8, rfl⟩ := ownsRow_succ r8; have HE3 : Hid _ := (HE1.out.below (n_after V5 _)).app (E' := D ++ [s]) (by rw [fl3_append, List.length_append]; exact r8) ⟨g8, (by rcases s8 with e | e; exact Or.inl e; exact Or.inr ⟨_, e, Nat.le_refl _⟩)⟩; clear r8 g8 s8)
          go_roundg (M.length - (k + 1))
          case measure => have := HG.out; omega
          case rel => exact ⟨k + 1, D ++ [s], some ⟨gg8, 0, none⟩, kk8, by go_num, by omega, rfl, by rw [List.length_append]; rfl, by rw [List.length_append]; simp; omega, HE2, by rw [List.length_append]; exact HE3⟩
    · have e : D = withEdgesP E M := by rw [HD.out, List.take_of_length_le (by omega)]
      have HE2 : Hid _ := e
      clear e HD
      go_wp2_with (fail)
      go_ret
      exact ⟨_, rfl, by rw [← HE2.out]; exact HE.out.row, HE.out.grew⟩
end Go.Proofs.Ythcdpngkoejgpaa
