/- all: a set's pairs in a list of its own. -/
import Derived.Test.YtbbmjfaflcbimaaPairH
import Derived.OwnWalkIn
namespace Go.Proofs.Ytbbmjfaflcbimaa
open Go.RowKit Go.Shelf
attribute [local go_sem] Oper.semAt_some
set_option linter.unusedVariables false

theorem row_own {A B : World} {base e size n k : Nat} {u : Value} {xs : List Value} {row : Option Nat} (h : A.ownsRow base e size u k xs) (hg : A.grownBy B row) (hr : ∀ r, row = some r → n ≤ r ∧ ∃ o : Obj, A.heap[r]? = some o ∧ o.isCells = false) : B.ownsRow base e size u k xs := by
  refine h.kept hg ?_
  rcases h.2 with ⟨rfl, _⟩ | ⟨g, cap, cur, rfl, _, hgb, _⟩
  · exact .inl rfl
  · refine .inr (fun e => ?_)
    obtain ⟨_, o, ho, hc⟩ := hr g (by rw [← e]; rfl)
    rw [hgb] at ho; cases ho; cases hc
def pick_ (L : List Pr) (pre : List (Fin L.length)) : List Pr := pre.map (fun i => pt L i.val)
theorem pick_append (L : List Pr) (pre : List (Fin L.length)) (x : Fin L.length) : pick_ L (pre ++ [x]) = pick_ L pre ++ [pt L x.val] := by simp [pick_]
theorem pick_ups (L : List Pr) : pick_ L (ups L.length L.length) = L := by
  apply list_same
  · simp [pick_, ups_length]
  · intro i hi
    have hl : i < L.length := by simpa [pick_, ups_length] using hi
    unfold pick_ ups
    simp [pt, hl]
theorem pick_length (L : List Pr) (pre : List (Fin L.length)) : (pick_ L pre).length = pre.length := by simp [pick_]

/-- What stands while a list is written: the list's box, its row. -/
structure Out (w V : World) (S : Nat) (u : Value) (M : List Pr) : Prop where
  box : Boxed V S 50 u
  row : V.ownsRow w.heap.size 60 2 u M.length (flat M)
  below : Below w.heap.size w V
  le : w.heap.size ≤ S
theorem Out.own {w A B : World} {S n : Nat} {u : Value} {M : List Pr} {row : Option Nat} (h : Out w A S u M) (hn : w.heap.size ≤ n) (hg : A.grownBy B row) (hr : ∀ r, row = some r → n ≤ r ∧ ∃ o : Obj, A.heap[r]? = some o ∧ o.isCells = false) : Out w B S u M :=
  ⟨box_own h.box hg hr, row_own h.row hg hr, h.below.grown hg h.below.size (fun k e => by have := (hr k e).1; omega), h.le⟩
theorem Out.alloc {w A : World} {S : Nat} {u : Value} {M : List Pr} (h : Out w A S u M) (o : Obj) : Out w (A.alloc o) S u M := h.own (n := w.heap.size) (Nat.le_refl _) (World.grownBy_alloc A o none) (fun r e => by cases e)
theorem Out.step {w A B : World} {S : Nat} {u : Value} {M : List Pr} (h : Out w A S u M) (hb : Below A.heap.size A B) : Out w B S u M := h.own (n := w.heap.size) (Nat.le_refl _) (below_grown hb none) (fun r e => by cases e)
/-- One is appended. -/
theorem Out.app {w A B : World} {S : Nat} {u u' : Value} {M : List Pr} {p : Pr} (h : Out w A S u M) (hr : B.ownsRow w.heap.size 60 2 u' (M.length + 1) (flat M ++ [.int .i64 p.a, .int .i64 p.b])) (hg : A.grownBy B u.ownBlock) :
    Out w (B.setCell ⟨S, 0, none⟩ u') S u' (M ++ [p]) ∧ Boxed B S 50 u := by
  have hbx : Boxed B S 50 u := h.box.kept hg (h.box.not_row (by decide) h.row)
  refine ⟨⟨hbx.set _, ?_, ?_, h.le⟩, hbx⟩
  · have : flat (M ++ [p]) = flat M ++ [.int .i64 p.a, .int .i64 p.b] := by rw [flat_append]; rfl
    rw [this, List.length_append]
    refine hr.kept (row := some S) ⟨rfl, rfl, rfl, by simp [World.setCell], fun k _ hk => Below.heap_setCell _ _ _ k (fun e => hk (by rw [e]))⟩ (Or.inr (fun e => ?_))
    exact hbx.not_row (by decide) hr e.symm
  · exact (h.below.grown hg h.below.size (fun k e => (h.row.lt k e).1)).setCell h.le _
theorem Out.keepsFrom {w A B : World} {S : Nat} {u u' : Value} {M : List Pr} (h : Out w A S u M) (hg : A.grownBy B u.ownBlock) (n : Nat) : KeepsFrom n A (B.setCell ⟨S, 0, none⟩ u') := by
  refine KeepsFrom.trans ((KeepsOthers.of_grownBy hg (fun j o e ho => ?_)).from _) ((KeepsOthers.setCell _ _ _).from _)
  rcases h.row.2 with ⟨rfl, _⟩ | ⟨g, cap, cur, rfl, _, hgb, _⟩
  · cases e
  · have : g = j := by simpa [Value.ownBlock] using e
    subst this
    rw [hgb] at ho; cases ho; rfl
theorem Out.keep {w A B : World} {S : Nat} {u u' : Value} {M : List Pr} (h : Out w A S u M) (hg : A.grownBy B u.ownBlock) {T : Nat → Prop} (hT : ∀ b, T b → b < w.heap.size) : Keep T A (B.setCell ⟨S, 0, none⟩ u') :=
  (keep_grown hg (fun r e ht => by have := hT r ht; have := (h.row.lt r e).1; omega)).trans
    (keep_grown (row := some S) ⟨rfl, rfl, rfl, by simp [World.setCell], fun k _ hk => Below.heap_setCell _ _ _ k (fun e => hk (by rw [e]))⟩ (fun r e ht => by cases e; have := hT S ht; have := h.le; omega))

/-- What a set has that another one hasn't. -/
def minus (L : List Pr) (M : Option (List Pr)) : List Pr := match M with | none => L | some M => L.filter (fun q => decide (q ∉ M))
theorem minus_append (L : List Pr) (M : Option (List Pr)) (p : Pr) : minus (L ++ [p]) M = minus L M ++ (match M with | none => [p] | some M => if p ∉ M then [p] else []) := by
  cases M with
  | none => rfl
  | some M =>
    unfold minus
    by_cases h : p ∈ M <;> simp [List.filter_append, h]
theorem minus_length (L : List Pr) (M : Option (List Pr)) : (minus L M).length ≤ L.length := by
  cases M with
  | none => exact Nat.le_refl _
  | some M => exact List.length_filter_le _ _

set_option maxRecDepth 100000 in
set_option maxHeartbeats 8000000 in
/-- Beyond of a set that is there. -/
theorem beyond_some (sp base : Nat) (v : Value) (room : Nat) (L : List Pr) (tp tbase : Nat) (tv : Value) (troom : Nat) (M : List Pr) (w : World) (hs : IsSet w sp base v room L) (ht : IsSet w tp tbase tv troom M) :
    Calls Try.prog 27 #[.pointer (some ⟨sp, 0, none⟩), .pointer (some ⟨tp, 0, none⟩)] w fun e W => ∃ u, e = .returned u ∧ W.ownsRow w.heap.size 60 2 u (minus L (some M)).length (flat (minus L (some M))) ∧ Below w.heap.size w W := by
  refine (callsIn_wide (n := 9)).1 ?_
  have h1 : 1 ≤ 9 := by omega
  have hT : ∀ b, some b = v.ownBlock → b < w.heap.size := fun b e => (hs.own.lt b e.symm).2
  obtain ⟨i0, hii, hiz, hisz, hib⟩ := info_parts pair_info
  have HI : Hid _ := And.intro hii (And.intro hiz (And.intro hisz hib))
  clear hii hiz hisz hib
  refine callsIn_of_wp_marks Try.func27 rfl trivial ?_ rfl
  simp only [Try.ntmps27, List.size_toArray, List.length_cons, List.length_nil, Nat.reduceAdd, Nat.reduceSub, Array.replicate_succ, Array.replicate_zero, List.push_toArray, List.append_toArray, List.nil_append, List.cons_append]
  gi_wp2_with (refine ⟨trivial, ?_⟩; gi_at_call 40; refine (callsIn_wide.2 (all_in _ _)).mono ?_; rintro e w' ⟨rfl, rfl⟩)
  obtain ⟨S0, hS0⟩ : ∃ n, n = w.heap.size := ⟨_, rfl⟩
  obtain ⟨W0, hW0⟩ : ∃ W0, W0 = ((w.alloc (.cells #[.pointer (some ⟨tp, 0, none⟩)] 51)).alloc (.cells #[.slice none 0 0] 50)).alloc (.cells #[.pointer (some ⟨sp, 0, none⟩)] 51) := ⟨_, rfl⟩
  have hsz : W0.heap.size = S0 + 3 := by rw [hW0, hS0]; simp
  have hB0 : Below w.heap.size w W0 := by rw [hW0]; exact (((Below.refl _ w).alloc (Nat.le_refl _) _).alloc (by simp) _).alloc (by simp; omega) _
  have bt0 : Boxed W0 S0 51 (.pointer (some ⟨tp, 0, none⟩)) := by rw [hW0, hS0]; exact ((Boxed.new w _ _).alloc _).alloc _
  have bx0 : Boxed W0 (S0 + 1) 50 (.slice none 0 0) := by
    rw [hW0, hS0]
    have := (Boxed.new (w.alloc (.cells #[.pointer (some ⟨tp, 0, none⟩)] 51)) 50 (.slice none 0 0)).alloc (.cells #[.pointer (some ⟨sp, 0, none⟩)] 51)
    rw [World.size_alloc] at this
    exact this
  have hbs : W0.cell? ⟨S0 + 1 + 1, 0, none⟩ = some (.pointer (some ⟨sp, 0, none⟩)) := by rw [hW0, hS0]; simp [go_sem]
  rw [← hW0, ← hS0]
  have hSl : w.heap.size ≤ S0 := by omega
  have hSr : S0 ≤ w.heap.size := by omega
  clear hW0 hS0
  have hs0 := hs.below hB0
  have hln := hs.len
  have hrm := hs.rm
  refine' range_box h1 (gf := 46) (lb := #[.pointer (some ⟨S0 + 1 + 1, 0, none⟩)]) rfl (enters_of Try.func46 (by kernel_rfl) rfl)
    (all_tells (9 - 1) (by omega) (S0 + 1 + 1) sp base v room L W0 hs0 hbs) (fun h k => Keep.trans h k) (fun _ _ _ o' _ h hc => keep_b o' h hc) (fun W o => keep_grown (World.grownBy_alloc W o none) (fun r e => by cases e)) (fun _ => rfl)
    (fun pre V => ∃ u, Out w V (S0 + 1) u (minus (pick_ L pre) (some M)) ∧ Boxed V S0 51 (.pointer (some ⟨tp, 0, none⟩)))
    (fun _ _ _ => False)
    (fun s A B row hs hg hr => hs.elim fun u h => ⟨u, h.1.own (by omega) hg hr, box_own h.2 hg hr⟩)
    (fun _ _ _ _ _ hs _ _ => hs)
    ⟨_, ⟨bx0, World.ownsRow_nil _ _ _ _, hB0, by omega⟩, bt0⟩ (fun x nb => { tmps := #[.pointer (some ⟨sp, 0, none⟩), .pointer (some ⟨tp, 0, none⟩), undef, .pointer (some ⟨S0, 0, none⟩), .slice none 0 0, .pointer (some ⟨S0 + 1, 0, none⟩), .pointer (some ⟨nb, 0, none⟩), .pointer (some ⟨sp, 0, none⟩), .func (.func 46) #[] #[.pointer (some ⟨S0 + 1 + 1, 0, none⟩)], .agg #[.int .i64 (pt L x.val).a, .int .i64 (pt L x.val).b], undef, undef, undef, undef, undef, undef, undef, undef, undef, undef, undef, undef, undef], defers := [] }) (fun x => .cells #[.int .i64 (pt L x.val).a, .int .i64 (pt L x.val).b] 60) ?assign ?body ?done ?stop
  case assign =>
    intro l x W K hK
    unfold encP
    gi_wp2
    exact hK
  case body =>
    rintro l pre x V nb ⟨u, hO, hbt⟩ hnb hob hlen
    have hlp : (minus (pick_ L pre) (some M)).length < 4096 := by have := minus_length (pick_ L pre) (some M); rw [pick_length] at this; omega
    have b0 : V.cell? ⟨nb, 0, none⟩ = some (.int .i64 (pt L x.val).a) := by simp [World.cell?, hob]
    have b1 : V.cell? ⟨nb, 1, none⟩ = some (.int .i64 (pt L x.val).b) := by simp [World.cell?, hob]
    have hnbV : nb < V.heap.size := (Array.getElem?_eq_some_iff.1 hob).1
    have hc := hO.box.cell
    have ct := hbt.cell
    have hSV : S0 + 1 < V.heap.size := hO.box.lt
    have hwV : w.heap.size ≤ V.heap.size := hO.below.size
    obtain ⟨oo, cc, hu⟩ := row_form hO.row
    subst hu
    have HPA : Hid (minus (pick_ L (pre ++ [x])) (some M) = minus (pick_ L pre) (some M) ++ (if (⟨(pt L x.val).a, (pt L x.val).b⟩ : Pr) ∉ M then [⟨(pt L x.val).a, (pt L x.val).b⟩] else [])) := by
      show minus (pick_ L (pre ++ [x])) (some M) = _
      rw [pick_append, minus_append]
    have HH : Hid (Calls Try.prog 41 #[.pointer (some ⟨tp, 0, none⟩), .agg #[.int .i64 (pt L x.val).a, .int .i64 (pt L x.val).b]] V fun e W => e = .returned (.bool (decide ((⟨(pt L x.val).a, (pt L x.val).b⟩ : Pr) ∈ M))) ∧ Below V.heap.size V W) := has_any tp tbase tv troom M ⟨(pt L x.val).a, (pt L x.val).b⟩ V (ht.below hO.below)
    have HO : Hid _ := hO
    have HBT : Hid (Boxed V S0 51 (.pointer (some ⟨tp, 0, none⟩))) := hbt
    clear hO hob hbt
    generalize (pt L x.val).a = ma at *
    generalize (pt L x.val).b = mb at *
    gi_wp2_with (fail)
    refine ⟨trivial, CallsIn.mono (CallsIn.inRound l (callsIn_wide.2 HH.out)) ?_⟩
    clear HH
    rintro e V1 ⟨rfl, hb1⟩
    have HO1 : Hid _ := HO.out.step hb1
    have HBT1 : Hid (Boxed V1 S0 51 (.pointer (some ⟨tp, 0, none⟩))) := (hb1.block S0 (by omega)).trans HBT.out
    have hk1 : KeepsFrom W0.heap.size V V1 := KeepsOthers.from (KeepsOthers.of_grownBy (below_grown hb1 none) (fun j o e => by cases e)) _
    have hk2 : Keep (fun b => some b = v.ownBlock) V V1 := keep_grown (below_grown hb1 none) (fun r e => by cases e)
    have b0 := (hb1.cell (p := ⟨nb, 0, none⟩) hnbV).trans b0
    have b1 := (hb1.cell (p := ⟨nb, 1, none⟩) hnbV).trans b1
    have hc := (hb1.cell (p := ⟨S0 + 1, 0, none⟩) hSV).trans hc
    have hwV1 : w.heap.size ≤ V1.heap.size := Nat.le_trans hwV hb1.size
    clear hb1 HO HBT
    by_cases hin : (⟨ma, mb⟩ : Pr) ∈ M
    · rw [decide_eq_true hin]
      gi_wp2_with (fail)
      have hpa := HPA.out
      rw [if_neg (fun h => h hin), List.append_nil] at hpa
      rw [← hpa] at HO1
      exact ⟨hk1, hk2, _, HO1.out, HBT1.out⟩
    · rw [decide_eq_false hin]
      have hpa := HPA.out
      rw [if_pos hin] at hpa
      have HPB : Hid _ := hpa
      clear hpa HPA
      gi_wp2_with (gi_at_builtin; refine wpListIn_append_own _ rfl _ _ 50 rfl w.heap.size 60 i0 _ 2 16 Try.underlying50 HI.out.1 HI.out.2.1 HI.out.2.2.1 HI.out.2.2.2 rfl (by decide) _ _ _ rfl (HO1.out.alloc (.cells #[.int .i64 ma, .int .i64 mb] 60)).row ⟨V1.heap.size, 0, none⟩ 1 1 [.int .i64 ma, .int .i64 mb] rfl rfl (news_at (heap_alloc_new V1 _)) (by intro u hu; simp at hu; rcases hu with rfl | rfl <;> rfl) (by unfold maxLen; omega) (by omega) (by simp; omega) ?_; intro u' V2 r8 g8 _; obtain ⟨gg8, kk8, rfl⟩ := ownsRow_succ r8; obtain ⟨hO2, hbx2⟩ := (HO1.out.alloc (.cells #[.int .i64 ma, .int .i64 mb] 60)).app (p := ⟨ma, mb⟩) r8 g8; have q1 := hbx2.cell; have q2 := hbx2.frozen)
      rw [← HPB.out] at hO2
      have HO3 := HO1.out.alloc (.cells #[.int .i64 ma, .int .i64 mb] 60)
      have hbt2 := ((HBT1.out.alloc (.cells #[.int .i64 ma, .int .i64 mb] 60)).kept g8 ((HBT1.out.alloc _).not_row (by decide) HO3.row))
      exact ⟨hk1.trans (((KeepsOthers.alloc V1 _).from _).trans (HO3.keepsFrom g8 _)), hk2.trans ((keep_grown (World.grownBy_alloc V1 _ none) (fun r e => by cases e)).trans (HO3.keep g8 hT)), _, hO2, (Below.heap_setCell _ _ _ _ (by simp)).trans hbt2⟩
  case done =>
    rintro D ys V hD rfl ⟨u, hO, _⟩ hK
    rw [pick_ups] at hO
    have hc := hO.box.cell
    gi_wp2
    refine ⟨by simp, .inl ⟨_, _, rfl, run_takeDeferred hK, ?_⟩⟩
    have hO2 := hO.own (n := w.heap.size) (Nat.le_refl _) (grownBy_putObj' V D (.deferred none)) (fun r e => by cases e; exact ⟨by omega, _, hK, rfl⟩)
    exact ⟨_, results_tmp rfl _ _ _, u, rfl, hO2.row, hO2.below⟩
  case stop =>
    rintro D c pre V _ _ h _
    exact h.elim
end Go.Proofs.Ytbbmjfaflcbimaa
