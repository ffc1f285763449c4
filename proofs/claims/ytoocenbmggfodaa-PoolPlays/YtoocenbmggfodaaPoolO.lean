/- A pool and the reference's answer alike; both side by side with a list of numbers. -/
import Derived.Test.YtoocenbmggfodaaPoolN
namespace Go.Proofs.Ytoocenbmggfodaa
open Go.RowKit Go.Shelf
set_option linter.unusedVariables false

theorem both_lay (L : List Pl) (h x : Int) (h1 : h ≤ 9223372036854775807) : ∃ (b : Bool) (L2 : List Pl), L2.length = L.length ∧
    (∀ (w : World) (pp pl : Nat), IsPool w pp pl L → Calls Try.prog 8 #[.pointer (some ⟨pp, 0, none⟩), .int .i64 h, .int .i64 x] w fun e W => e = .returned (.bool b) ∧ IsPool W pp pl L2 ∧ w.grownBy W (some pl)) ∧
    (∀ (w : World) (pp pl : Nat), IsPool w pp pl L → Calls Try.prog 9 #[.pointer (some ⟨pp, 0, none⟩), .int .i64 h, .int .i64 x] w fun e W => e = .returned (.bool b) ∧ IsPool W pp pl L2 ∧ w.grownBy W (some pl)) := by
  cases hf : layAt L h with
  | none => exact ⟨false, L, rfl, fun w pp pl hp => (lay_none pp pl L h x w hp h1 hf).mono (by rintro e W ⟨rfl, rfl⟩; exact ⟨rfl, hp, World.grownBy.refl _ _⟩), fun w pp pl hp => (rlay_none pp pl L h x w hp h1 hf).mono (by rintro e W ⟨rfl, rfl⟩; exact ⟨rfl, hp, World.grownBy.refl _ _⟩)⟩
  | some q =>
    obtain ⟨i, age⟩ := q
    exact ⟨true, L.set i ⟨age, true, x⟩, by simp, fun w pp pl hp => lay_some pp pl L h x age i w hp hf, fun w pp pl hp => rlay_some pp pl L h x age i w hp h1 hf⟩
theorem both_set (L : List Pl) (h x : Int) (h1 : h ≤ 9223372036854775807) : ∃ (b : Bool) (L2 : List Pl), L2.length = L.length ∧
    (∀ (w : World) (pp pl : Nat), IsPool w pp pl L → Calls Try.prog 12 #[.pointer (some ⟨pp, 0, none⟩), .int .i64 h, .int .i64 x] w fun e W => e = .returned (.bool b) ∧ IsPool W pp pl L2 ∧ w.grownBy W (some pl)) ∧
    (∀ (w : World) (pp pl : Nat), IsPool w pp pl L → Calls Try.prog 13 #[.pointer (some ⟨pp, 0, none⟩), .int .i64 h, .int .i64 x] w fun e W => e = .returned (.bool b) ∧ IsPool W pp pl L2 ∧ w.grownBy W (some pl)) := by
  cases hf : found L h with
  | none => exact ⟨false, L, rfl, fun w pp pl hp => (set_no pp pl L h x w hp h1 hf).mono (by rintro e W ⟨rfl, rfl⟩; exact ⟨rfl, hp, World.grownBy.refl _ _⟩), fun w pp pl hp => (rset_no pp pl L h x w hp hf).mono (by rintro e W ⟨rfl, rfl⟩; exact ⟨rfl, hp, World.grownBy.refl _ _⟩)⟩
  | some i => exact ⟨true, _, by simp, fun w pp pl hp => set_yes pp pl L h x i w hp h1 hf, fun w pp pl hp => rset_yes pp pl L h x i w hp hf⟩
theorem both_drop (L : List Pl) (h : Int) (h1 : h ≤ 9223372036854775807) : ∃ (b : Bool) (L2 : List Pl), L2.length = L.length ∧
    (∀ (w : World) (pp pl : Nat), IsPool w pp pl L → Calls Try.prog 14 #[.pointer (some ⟨pp, 0, none⟩), .int .i64 h] w fun e W => e = .returned (.bool b) ∧ IsPool W pp pl L2 ∧ w.grownBy W (some pl)) ∧
    (∀ (w : World) (pp pl : Nat), IsPool w pp pl L → Calls Try.prog 15 #[.pointer (some ⟨pp, 0, none⟩), .int .i64 h] w fun e W => e = .returned (.bool b) ∧ IsPool W pp pl L2 ∧ w.grownBy W (some pl)) := by
  cases hf : found L h with
  | none => exact ⟨false, L, rfl, fun w pp pl hp => (drop_no pp pl L h w hp h1 hf).mono (by rintro e W ⟨rfl, rfl⟩; exact ⟨rfl, hp, World.grownBy.refl _ _⟩), fun w pp pl hp => (rdrop_no pp pl L h w hp hf).mono (by rintro e W ⟨rfl, rfl⟩; exact ⟨rfl, hp, World.grownBy.refl _ _⟩)⟩
  | some i => exact ⟨true, _, by simp, fun w pp pl hp => drop_yes pp pl L h i w hp h1 hf, fun w pp pl hp => rdrop_yes pp pl L h i w hp hf⟩
theorem both_get (L : List Pl) (h : Int) (h1 : h ≤ 9223372036854775807) : ∃ (v : Int) (b : Bool),
    (∀ (w : World) (pp pl : Nat), IsPool w pp pl L → Calls Try.prog 10 #[.pointer (some ⟨pp, 0, none⟩), .int .i64 h] w fun e W => e = .returned (.tuple #[.int .i64 v, .bool b]) ∧ W = w) ∧
    (∀ (w : World) (pp pl : Nat), IsPool w pp pl L → Calls Try.prog 11 #[.pointer (some ⟨pp, 0, none⟩), .int .i64 h] w fun e W => e = .returned (.tuple #[.int .i64 v, .bool b]) ∧ W = w) := by
  cases hf : found L h with
  | none => exact ⟨0, false, fun w pp pl hp => get_no pp pl L h w hp h1 hf, fun w pp pl hp => rget_no pp pl L h w hp hf⟩
  | some i => exact ⟨_, true, fun w pp pl hp => get_yes pp pl L h i w hp h1 hf, fun w pp pl hp => rget_yes pp pl L h i w hp hf⟩
theorem put_unique {L : List Pl} {k k' : Nat} (a : (at_ L k).free = true) (b : ∀ j, j < k → (at_ L j).free = false) (a' : (at_ L k').free = true) (b' : ∀ j, j < k' → (at_ L j).free = false) : k' = k := by
  have e1 : ¬ k' < k := fun hlt => by rw [b k' hlt] at a'; cases a'
  have e2 : ¬ k < k' := fun hlt => by rw [b' k hlt] at a; cases a
  omega
theorem least_free (L : List Pl) : (∃ k, k < L.length ∧ (at_ L k).free = true ∧ ∀ j, j < k → (at_ L j).free = false) ∨ ∀ j, j < L.length → (at_ L j).free = false := by
  have key : ∀ n, n ≤ L.length → (∃ k, k < n ∧ (at_ L k).free = true ∧ ∀ j, j < k → (at_ L j).free = false) ∨ ∀ j, j < n → (at_ L j).free = false := by
    intro n
    induction n with
    | zero => exact fun _ => Or.inr (fun j hj => absurd hj (by omega))
    | succ n ih =>
      intro hn
      rcases ih (by omega) with ⟨k, a, b, c⟩ | h
      · exact Or.inl ⟨k, by omega, b, c⟩
      · cases hf : (at_ L n).free with
        | true => exact Or.inl ⟨n, by omega, hf, h⟩
        | false =>
          right
          intro j hj
          by_cases e : j = n
          · subst e; exact hf
          · exact h j (by omega)
  rcases key L.length (Nat.le_refl _) with h | h
  · exact Or.inl h
  · exact Or.inr h
theorem both_put {W0 : World} {p0 l0 : Nat} (L : List Pl) (x : Int) (hp0 : IsPool W0 p0 l0 L) : ∃ (hd er : Int) (L2 : List Pl), L2.length = L.length ∧ hd ≤ 9223372036854775807 ∧
    (∀ (w : World) (pp pl : Nat), IsPool w pp pl L → Calls Try.prog 17 #[.pointer (some ⟨pp, 0, none⟩), .int .i64 x] w fun e W => e = .returned (.tuple #[.int .i64 hd, .int .i64 er]) ∧ IsPool W pp pl L2 ∧ w.grownBy W (some pl)) ∧
    (∀ (w : World) (pp pl : Nat), IsPool w pp pl L → Calls Try.prog 18 #[.pointer (some ⟨pp, 0, none⟩), .int .i64 x] w fun e W => e = .returned (.tuple #[.int .i64 hd, .int .i64 er]) ∧ IsPool W pp pl L2 ∧ w.grownBy W (some pl)) := by
  rcases least_free L with ⟨k, a, b, c⟩ | h
  · have o1 : (at_ L k).age ≤ 1073741825 := (hp0.okAt k).2.1
    have hr := hp0.room
    refine ⟨(at_ L k).age * 65536 + (k : Int) + 1, 0, L.set k ⟨(at_ L k).age, true, x⟩, by simp, by omega, fun w pp pl hp => put_at pp pl L x k w hp a b c, fun w pp pl hp => (rput_any pp pl L x w hp).mono ?_⟩
    rintro e W (⟨k', a', b', c', d⟩ | ⟨a', _⟩)
    · obtain rfl := put_unique b c b' c'
      exact d
    · rw [a' k a] at b; cases b
  · refine ⟨0, 30, L, rfl, by omega, fun w pp pl hp => put_full pp pl L x w hp h, fun w pp pl hp => (rput_any pp pl L x w hp).mono ?_⟩
    rintro e W (⟨k', a', b', c', d⟩ | ⟨_, d⟩)
    · rw [h k' a'] at b'; cases b'
    · exact d

/-- A pool, the reference's, and the handles that were told. -/
structure Duo (w W : World) (pp pl rp rl : Nat) (L R : List Pl) (tv : Value) (td : List Int) : Prop where
  p : IsPool W pp pl L
  r : IsPool W rp rl R
  t : W.ownsRow w.heap.size 3 1 tv td.length (nums td)
  below : Below w.heap.size w W
  bp : w.heap.size ≤ pl
  br : w.heap.size ≤ rl
  d1 : pl ≠ rl
  d2 : pl ≠ rp
  d3 : rl ≠ pp
  tn : ∀ k, tv.ownBlock = some k → k ≠ pl ∧ k ≠ pp ∧ k ≠ rl ∧ k ≠ rp
section
variable {w W V : World} {pp pl rp rl : Nat} {L R L2 : List Pl} {tv : Value} {td : List Int}
theorem Duo.other (h : Duo w W pp pl rp rl L R tv td) {b : Nat} (hg : W.grownBy V (some b)) (hb : w.heap.size ≤ b) (h1 : b ≠ pl) (h2 : b ≠ pp) (h3 : b ≠ rl) (h4 : b ≠ rp) (h5 : ∀ k, tv.ownBlock = some k → k ≠ b) : Duo w V pp pl rp rl L R tv td := by
  refine ⟨h.p.grown hg (by simp; omega) (by simp; omega), h.r.grown hg (by simp; omega) (by simp; omega), World.ownsRow.kept h.t hg ?_, h.below.grown hg h.below.size (fun k e => by cases e; exact hb), h.bp, h.br, h.d1, h.d2, h.d3, h.tn⟩
  cases hv : tv.ownBlock with
  | none => exact Or.inl rfl
  | some k => right; intro e; simp only [Option.some.injEq] at e; exact h5 k hv e
theorem Duo.step (h : Duo w W pp pl rp rl L R tv td) (hb : Below W.heap.size W V) : Duo w V pp pl rp rl L R tv td :=
  ⟨h.p.below hb, h.r.below hb, row_below h.t hb, h.below.trans (hb.mono h.below.size), h.bp, h.br, h.d1, h.d2, h.d3, h.tn⟩
theorem Duo.turnP (h : Duo w W pp pl rp rl L R tv td) (hp : IsPool V pp pl L2) (hg : W.grownBy V (some pl)) : Duo w V pp pl rp rl L2 R tv td := by
  refine ⟨hp, h.r.grown hg (by have := h.d1; simp; omega) (by have := h.d2; simp; omega), World.ownsRow.kept h.t hg ?_, h.below.grown hg h.below.size (fun k e => by cases e; exact h.bp), h.bp, h.br, h.d1, h.d2, h.d3, h.tn⟩
  cases hv : tv.ownBlock with
  | none => exact Or.inl rfl
  | some k => right; intro e; simp only [Option.some.injEq] at e; exact (h.tn k hv).1 e
theorem Duo.turnR (h : Duo w W pp pl rp rl L R tv td) (hp : IsPool V rp rl L2) (hg : W.grownBy V (some rl)) : Duo w V pp pl rp rl L L2 tv td := by
  refine ⟨h.p.grown hg (by have := h.d1; simp; omega) (by have := h.d3; simp; omega), hp, World.ownsRow.kept h.t hg ?_, h.below.grown hg h.below.size (fun k e => by cases e; exact h.br), h.bp, h.br, h.d1, h.d2, h.d3, h.tn⟩
  cases hv : tv.ownBlock with
  | none => exact Or.inl rfl
  | some k => right; intro e; simp only [Option.some.injEq] at e; exact (h.tn k hv).2.2.1 e
theorem Duo.lts (h : Duo w W pp pl rp rl L R tv td) : pl < W.heap.size ∧ pp < W.heap.size ∧ rl < W.heap.size ∧ rp < W.heap.size ∧ ∀ k, tv.ownBlock = some k → k < W.heap.size :=
  ⟨h.p.lt, h.p.plt, h.r.lt, h.r.plt, fun k e => (h.t.lt k e).2⟩
theorem Duo.app {o : Obj} {tv' : Value} {x : Int} (h : Duo w W pp pl rp rl L R tv td) (hr : V.ownsRow w.heap.size 3 1 tv' (td.length + 1) (nums td ++ [.int .i64 x])) (hg : (W.alloc o).grownBy V tv.ownBlock) (hb : tv'.ownBlock = tv.ownBlock ∨ tv'.ownBlock = some (W.alloc o).heap.size) : Duo w V pp pl rp rl L R tv' (td ++ [x]) := by
  have hk := h.step ((Below.refl _ W).alloc (Nat.le_refl _) o)
  obtain ⟨l1, l2, l3, l4, l5⟩ := h.lts
  have n1 : ∀ b, b = pl ∨ b = pp ∨ b = rl ∨ b = rp → some b ≠ tv.ownBlock := fun b hb' e => by
    obtain ⟨a1, a2, a3, a4⟩ := h.tn b e.symm
    rcases hb' with e | e | e | e
    · exact a1 e
    · exact a2 e
    · exact a3 e
    · exact a4 e
  refine ⟨hk.p.grown hg (n1 pl (by simp)) (n1 pp (by simp)), hk.r.grown hg (n1 rl (by simp)) (n1 rp (by simp)), by rw [nums_append, List.length_append]; exact hr, hk.below.grown hg hk.below.size (fun k e => (h.t.lt k e).1), h.bp, h.br, h.d1, h.d2, h.d3, fun k e => ?_⟩
  rcases hb with e' | e'
  · exact h.tn k (e' ▸ e)
  · rw [e'] at e
    simp only [World.size_alloc, Option.some.injEq] at e
    omega
/-- .. and a box. -/
structure DuoX (w W : World) (pp pl rp rl xb : Nat) (xo : Obj) (L R : List Pl) (tv : Value) (td : List Int) : Prop where
  duo : Duo w W pp pl rp rl L R tv td
  box : W.heap[xb]? = some xo
  n1 : xb ≠ pl
  n2 : xb ≠ rl
variable {xb : Nat} {xo : Obj}
theorem DuoX.lt (h : DuoX w W pp pl rp rl xb xo L R tv td) : xb < W.heap.size := (Array.getElem?_eq_some_iff.1 h.box).1
theorem DuoX.step (h : DuoX w W pp pl rp rl xb xo L R tv td) (hb : Below W.heap.size W V) : DuoX w V pp pl rp rl xb xo L R tv td := ⟨h.duo.step hb, (hb.block xb h.lt).trans h.box, h.n1, h.n2⟩
theorem DuoX.turnP (h : DuoX w W pp pl rp rl xb xo L R tv td) (hp : IsPool V pp pl L2) (hg : W.grownBy V (some pl)) : DuoX w V pp pl rp rl xb xo L2 R tv td := ⟨h.duo.turnP hp hg, (hg.block xb h.lt (by have := h.n1; simp; omega)).trans h.box, h.n1, h.n2⟩
theorem DuoX.turnR (h : DuoX w W pp pl rp rl xb xo L R tv td) (hp : IsPool V rp rl L2) (hg : W.grownBy V (some rl)) : DuoX w V pp pl rp rl xb xo L L2 tv td := ⟨h.duo.turnR hp hg, (hg.block xb h.lt (by have := h.n2; simp; omega)).trans h.box, h.n1, h.n2⟩
/-- It goes on with a clone. -/
theorem DuoX.clone {pq ql : Nat} (h : DuoX w W pp pl rp rl xb xo L R tv td) (hp : IsPool V pq ql L) (hb : Below W.heap.size W V) (h1 : W.heap.size ≤ pq) (h2 : W.heap.size ≤ ql) : DuoX w V pq ql rp rl xb xo L R tv td := by
  have k := h.duo.step hb
  obtain ⟨l1, l2, l3, l4, l5⟩ := h.duo.lts
  have l6 := h.lt
  have l7 := h.duo.below.size
  exact ⟨⟨hp, k.r, k.t, k.below, by omega, k.br, by omega, by omega, by omega, fun j e => by have := l5 j e; have := h.duo.tn j e; omega⟩, (hb.block xb h.lt).trans h.box, by omega, h.n2⟩
theorem DuoX.other (h : DuoX w W pp pl rp rl xb xo L R tv td) {b : Nat} (hg : W.grownBy V (some b)) (hb : w.heap.size ≤ b) (h1 : b ≠ pl) (h2 : b ≠ pp) (h3 : b ≠ rl) (h4 : b ≠ rp) (h5 : ∀ k, tv.ownBlock = some k → k ≠ b) (h6 : xb ≠ b) : DuoX w V pp pl rp rl xb xo L R tv td :=
  ⟨h.duo.other hg hb h1 h2 h3 h4 h5, (hg.block xb h.lt (by simp; omega)).trans h.box, h.n1, h.n2⟩
end
end Go.Proofs.Ytoocenbmggfodaa
