/- Package pose: points that are all within; points in a list of their own. -/
import Derived.Test.YtompnibhfdkkjaaGreatSPPlace7
import Derived.Test.YtompnibhfdkkjaaGreatSPPlace12
namespace Go.Proofs.YtompnibhfdkkjaaGreat
open Go.RowKit Go.Shelf
attribute [local go_sem] Oper.semAt_some
set_option linter.unusedVariables false

set_option maxHeartbeats 1000000 in
theorem within1_any (p : Pt) (m : Int) (b : Nat) (w : World) (hc : w.cell? ⟨b, 0, none⟩ = some (.int .i64 m)) :
    Calls Tryz.prog 58 #[p.v, .pointer (some ⟨b, 0, none⟩)] w fun e W => e = .returned (.bool (p.win m)) ∧ Below w.heap.size w W := by
  have HW : Hid _ := fun w' => pwithin_any p m w'
  generalize p.win m = r at *
  obtain ⟨x, y, z⟩ := p
  unfold Pt.v at *
  dsimp only at *
  have hc' := c_after (n_after w (.cells #[.int .i64 x, .int .i64 y, .int .i64 z] 31)) hc
  clear hc
  go_enter Tryz.func58, Tryz.ntmps58
  go_wp2_with (fail)
  refine Calls.mono (HW.out _) ?_
  rintro e V ⟨rfl, hb⟩
  go_wp2_with (fail)
  go_ret
  exact ⟨rfl, b_step (n_after _ _) hb⟩

set_option maxRecDepth 100000 in
set_option maxHeartbeats 4000000 in
theorem allWithin_any (Ls : List Pt) (v : Value) (m : Int) (w : World) (hv : Lies w v Ls) :
    Calls Tryz.prog 24 #[v, .int .i64 m] w fun e W => e = .returned (.bool (Ls.all fun p => p.win m)) ∧ Below w.heap.size w W := by
  obtain ⟨o, cap, rfl, hlc, hcm, hcell⟩ := hv.form
  have HV : Hid _ := hv
  clear hv hcell
  refine (callsIn_wide (n := 9)).1 ?_
  have h1 : 1 ≤ 9 := by omega
  refine callsIn_of_wp_marks Tryz.func24 rfl trivial ?_ rfl
  simp only [Tryz.ntmps24, List.size_toArray, List.length_cons, List.length_nil, Nat.reduceAdd, Nat.reduceSub, Array.replicate_succ, Array.replicate_zero, List.push_toArray, List.append_toArray, List.nil_append, List.cons_append]
  gi_wp2_with (refine ⟨trivial, ?_⟩; gi_at_call 57; refine (callsIn_wide.2 (each_in_bool _ _ _ _ _ _ _)).mono ?_; rintro e w' ⟨rfl, rfl⟩)
  obtain ⟨S0, hS0⟩ : ∃ n, n = w.heap.size := ⟨_, rfl⟩
  obtain ⟨W0, hW0⟩ : ∃ W0, W0 = (((w.alloc (.cells #[.int .i64 m] 3)).alloc (.cells #[.bool false] 4)).alloc (.cells #[.slice o Ls.length cap] 22)).alloc (.cells #[.func (.func 58) #[] #[.pointer (some ⟨w.heap.size, 0, none⟩)]] 94) := ⟨_, rfl⟩
  have hsz : W0.heap.size = S0 + 4 := by rw [hW0, hS0]; simp
  have hB0 : Hid (Below w.heap.size w W0) := by show Below _ _ _; rw [hW0]; exact b_step (b_step (b_step (n_after _ _) (n_after _ _)) (n_after _ _)) (n_after _ _)
  have cm : W0.cell? ⟨S0, 0, none⟩ = some (.int .i64 m) := by rw [hW0, hS0]; simp [go_sem]
  have cr : W0.cell? ⟨S0 + 1, 0, none⟩ = some (.bool false) := by rw [hW0, hS0]; simp [go_sem]
  have fr : W0.frozen? ⟨S0 + 1, 0, none⟩ = false := by rw [hW0, hS0]; simp [go_sem]
  have cp : W0.cell? ⟨S0 + 1 + 1, 0, none⟩ = some (.slice o Ls.length cap) := by rw [hW0, hS0]; simp [go_sem]
  have cf : W0.cell? ⟨S0 + 1 + 1 + 1, 0, none⟩ = some (.func (.func 58) #[] #[.pointer (some ⟨S0, 0, none⟩)]) := by rw [hW0, hS0]; simp [go_sem]
  rw [← hW0, ← hS0]
  have hSl : w.heap.size = S0 := hS0.symm
  clear hW0 hS0
  have HV0 : Hid _ := HV.out.below hB0.out
  have hblk : Hid (∀ q, o = some q → Ls ≠ [] → q.block < W0.heap.size) := fun q e hne => by
    obtain ⟨o', c', e', _, _, h9⟩ := HV0.out.form
    cases e'
    obtain ⟨g, off, e2, x0, _⟩ := h9 0 (List.length_pos_iff.2 hne)
    rw [e] at e2; cases e2
    exact World.block_lt_of_cell? _ _ x0
  refine' range_n h1 (gf := 98) (lb := #[.pointer (some ⟨S0 + 1 + 1, 0, none⟩), .pointer (some ⟨S0 + 1 + 1 + 1, 0, none⟩)]) rfl (enters_of Tryz.func98 (by kernel_rfl) rfl)
    (S := fun b => b < W0.heap.size) (St := fun _ V => V.cell? ⟨S0, 0, none⟩ = some (.int .i64 m))
    (each_tells_bool (9 - 1) (S0 + 1 + 1) (S0 + 1 + 1 + 1) Ls o cap 58 #[] #[.pointer (some ⟨S0, 0, none⟩)] (fun k => .bool ((pt Ls k).win m)) none (fun b => b < W0.heap.size) (fun _ V => V.cell? ⟨S0, 0, none⟩ = some (.int .i64 m)) W0
      (enters_of Tryz.func58 (by kernel_rfl) rfl) HV0.out cp cf ?blk ⟨by omega, by simp⟩ (fun _ h => h)
      (fun W hb => c_after hb cm) (fun k A B hs hk => hk.cell (q := ⟨S0, 0, none⟩) (by show S0 < _; omega) hs)
      (fun k V hk hs => (within1_any (pt Ls k) m S0 V hs).mono fun e V' h => ⟨h.1, below_grown h.2 none, c_after h.2 hs⟩))
    (fun _ h => h) (fun r e => by cases e) ?st (fun _ => rfl)
    (fun k V => Below w.heap.size w V ∧ V.cell? ⟨S0 + 1, 0, none⟩ = some (.bool false) ∧ V.frozen? ⟨S0 + 1, 0, none⟩ = false ∧ ∀ i, i < k → (pt Ls i).win m = true)
    (fun c k V => c = .ret ∧ Below w.heap.size w V ∧ V.cell? ⟨S0 + 1, 0, none⟩ = some (.bool false) ∧ ∃ i, i < Ls.length ∧ (pt Ls i).win m = false)
    ?own ?ownx ?turn ⟨hB0.out, cr, fr, fun i hi => absurd hi (by omega)⟩ _ (fun _ => none) ?assign ?body ?done ?stop
  case blk => exact fun q e hne => ⟨hblk.out q e hne, by simp⟩
  case st => exact fun k A B row hs hg hr => gcell hg (fun r e => (hr r e).1) (by omega) hs
  case own => exact fun k A B row hs hg hr => ⟨gbelow hs.1 hg (fun r e => (hr r e).1) (by omega), gcell hg (fun r e => (hr r e).1) (by omega) hs.2.1, (gfrozen hg (fun r e => (hr r e).1) (by omega) hs.2.1).trans hs.2.2.1, hs.2.2.2⟩
  case ownx => exact fun c k A B row hs hg hr => ⟨hs.1, gbelow hs.2.1 hg (fun r e => (hr r e).1) (by omega), gcell hg (fun r e => (hr r e).1) (by omega) hs.2.2.1, hs.2.2.2⟩
  case turn => exact fun k A B hs hg => ⟨gbelow (n := W0.heap.size) hs.1 hg (fun r e => by cases e) (by omega), gcell (n := W0.heap.size) hg (fun r e => by cases e) (by omega) hs.2.1, (gfrozen (n := W0.heap.size) hg (fun r e => by cases e) (by omega) hs.2.1).trans hs.2.2.1, hs.2.2.2⟩
  case assign =>
    intro l k W nb K hk hnb hK
    gi_wp2
    exact hK
  case body =>
    rintro l k V nb hk ⟨hB, hc, hf, hw⟩ hnb _
    cases hwk : (pt Ls k).win m with
    | true =>
      gi_wp2
      exact ⟨KeepsFrom.refl _ _, KeepO.refl _ _, hB, hc, hf, fun i hi => by
        by_cases e : i = k
        · subst e; exact hwk
        · exact hw i (by omega)⟩
    | false =>
      gi_wp2
      exact ⟨(KeepsOthers.setCell _ _ _).from _, rfl, hB.setCell (show w.heap.size ≤ S0 + 1 by omega) _, by simp [go_sem, hc], k, hk, hwk⟩
  case done =>
    rintro D V hD ⟨hB, hc, hf, hw⟩ hs hK
    have hal : (Ls.all fun p => p.win m) = true := by
      rw [List.all_eq_true]
      intro p hp
      obtain ⟨i, hi, rfl⟩ := List.mem_iff_getElem.1 hp
      have := hw i hi
      unfold pt at this
      rwa [List.getElem?_eq_getElem hi] at this
    gi_wp2
    refine ⟨by simp, .inl ⟨_, _, rfl, run_takeDeferred (by rw [Below.heap_setCell _ _ _ _ (by show D ≠ S0 + 1; omega)]; exact hK), ?_⟩⟩
    have hc9 : ((V.setCell ⟨S0 + 1, 0, none⟩ (.bool true)).putObj D (.deferred none)).cell? ⟨S0 + 1, 0, none⟩ = some (.bool true) := (World.cell?_of_block (World.putObj_heap_other (by show S0 + 1 ≠ D; omega))).trans (by simp [go_sem, hc])
    exact ⟨.bool true, by simp [results, Tryz.results24, go_sem, hc9], by rw [hal], (hB.setCell (show w.heap.size ≤ S0 + 1 by omega) _).grown (grownBy_putObj' _ D _) (by have := hB.size; simpa [World.setCell] using this) (fun k e => by cases e; omega)⟩
  case stop =>
    rintro D c k V hD hk ⟨rfl, hB, hc, i, hi, hw⟩ hK
    have hal : (Ls.all fun p => p.win m) = false := by
      rw [List.all_eq_false]
      refine ⟨pt Ls i, ?_, by simp [hw]⟩
      unfold pt
      rw [List.getElem?_eq_getElem hi]
      exact List.getElem_mem hi
    gi_wp2
    refine ⟨by simp, .inl ⟨_, _, rfl, run_takeDeferred hK, ?_⟩⟩
    have hc9 : (V.putObj D (.deferred none)).cell? ⟨S0 + 1, 0, none⟩ = some (.bool false) := (World.cell?_of_block (World.putObj_heap_other (by show S0 + 1 ≠ D; omega))).trans hc
    exact ⟨.bool false, by simp [results, Tryz.results24, go_sem, hc9], by rw [hal], hB.grown (grownBy_putObj' _ D _) hB.size (fun k e => by cases e; omega)⟩

theorem row_own {A B : World} {base e size n k : Nat} {u : Value} {xs : List Value} {row : Option Nat} (h : A.ownsRow base e size u k xs) (hg : A.grownBy B row) (hr : ∀ r, row = some r → n ≤ r ∧ ∃ o : Obj, A.heap[r]? = some o ∧ o.isCells = false) : B.ownsRow base e size u k xs := by
  refine h.kept hg ?_
  rcases h.2 with ⟨rfl, _⟩ | ⟨g, cap, cur, rfl, _, hgb, _⟩
  · exact .inl rfl
  · refine .inr (fun e => ?_)
    obtain ⟨_, o, ho, hc⟩ := hr g (by rw [← e]; rfl)
    rw [hgb] at ho; cases ho; cases hc
theorem row_turn {A B : World} {base e size k : Nat} {u : Value} {xs : List Value} {row : Option Nat} (h : A.ownsRow base e size u k xs) (hg : A.grownBy B row) (hr : ∀ r, row = some r → r < base) : B.ownsRow base e size u k xs := by
  refine h.kept hg ?_
  cases e1 : u.ownBlock with
  | none => exact .inl rfl
  | some b => exact .inr (fun e => by have := (h.lt b e1).1; have := hr b (by rw [← e]); omega)
theorem box_own {A B : World} {b : Nat} {t : TypeId} {v : Value} {n : Nat} {row : Option Nat} (h : Boxed A b t v) (hg : A.grownBy B row) (hr : ∀ r, row = some r → n ≤ r ∧ ∃ o : Obj, A.heap[r]? = some o ∧ o.isCells = false) : Boxed B b t v :=
  h.kept hg (fun e => by obtain ⟨_, o, ho, hc⟩ := hr b e.symm; rw [show A.heap[b]? = _ from h] at ho; cases ho; cases hc)
theorem grown_le {w A B : World} {row r2 : Option Nat} (h : w.grownBy A row) (hg : A.grownBy B r2) (hr : ∀ r, r2 = some r → w.heap.size ≤ r ∨ row = some r) : w.grownBy B row :=
  ⟨hg.os.trans h.os, hg.tape.trans h.tape, hg.output.trans h.output, Nat.le_trans h.size hg.size, fun k hk hn => (hg.block k (Nat.lt_of_lt_of_le hk h.size) (fun e => by
    rcases hr k e.symm with h9 | h9
    · omega
    · exact hn h9.symm)).trans (h.block k hk hn)⟩

/-- What stands while a list of points is written: the list's box, its row (no block of it below n); what makes them may turn the block row. -/
structure OutP (w V : World) (n : Nat) (row : Option Nat) (S : Nat) (u : Value) (M : List Pt) : Prop where
  box : Boxed V S 22 u
  own : V.ownsRow n 31 3 u M.length (fl3 M)
  grown : w.grownBy V row
  le : w.heap.size ≤ S
  ln : w.heap.size ≤ n
  sz : n ≤ V.heap.size
theorem OutP.kept {w A B : World} {n : Nat} {row r2 : Option Nat} {S n2 : Nat} {u : Value} {M : List Pt} (h : OutP w A n row S u M) (hn : w.heap.size ≤ n2) (hg : A.grownBy B r2) (hr : ∀ r, r2 = some r → n2 ≤ r ∧ ∃ o : Obj, A.heap[r]? = some o ∧ o.isCells = false) : OutP w B n row S u M :=
  ⟨box_own h.box hg hr, row_own h.own hg hr, grown_le h.grown hg (fun r e => .inl (by have := (hr r e).1; omega)), h.le, h.ln, Nat.le_trans h.sz hg.size⟩
theorem OutP.turn {w A B : World} {n : Nat} {row : Option Nat} {S : Nat} {u : Value} {M : List Pt} (h : OutP w A n row S u M) (hg : A.grownBy B row) (hr : ∀ r, row = some r → r < w.heap.size) : OutP w B n row S u M :=
  ⟨h.box.kept hg (fun e => by have := hr S e.symm; have := h.le; omega), row_turn h.own hg (fun r e => by have := hr r e; have := h.ln; omega), grown_le h.grown hg (fun r e => .inr e), h.le, h.ln, Nat.le_trans h.sz hg.size⟩
theorem OutP.alloc {w A : World} {n : Nat} {row : Option Nat} {S : Nat} {u : Value} {M : List Pt} (h : OutP w A n row S u M) (o : Obj) : OutP w (A.alloc o) n row S u M := h.kept (n2 := w.heap.size) (Nat.le_refl _) (World.grownBy_alloc A o none) (fun r e => by cases e)
theorem OutP.app {w A B : World} {n : Nat} {row : Option Nat} {S : Nat} {u u' : Value} {M : List Pt} {p : Pt} (h : OutP w A n row S u M) (hr : B.ownsRow n 31 3 u' (M.length + 1) (fl3 M ++ [.int .i64 p.x, .int .i64 p.y, .int .i64 p.z])) (hg : A.grownBy B u.ownBlock) :
    OutP w (B.setCell ⟨S, 0, none⟩ u') n row S u' (M ++ [p]) ∧ Boxed B S 22 u := by
  have hbx : Boxed B S 22 u := h.box.kept hg (h.box.not_row (by decide) h.own)
  have gs : B.grownBy (B.setCell ⟨S, 0, none⟩ u') (some S) := ⟨rfl, rfl, rfl, by simp [World.setCell], fun k _ hk => Below.heap_setCell _ _ _ k (fun e => hk (by rw [e]))⟩
  refine ⟨⟨hbx.set _, ?_, ?_, h.le, h.ln, ?_⟩, hbx⟩
  · have : fl3 (M ++ [p]) = fl3 M ++ [.int .i64 p.x, .int .i64 p.y, .int .i64 p.z] := by rw [fl3_append]; rfl
    rw [this, List.length_append]
    exact hr.kept gs (Or.inr (fun e => hbx.not_row (by decide) hr e.symm))
  · exact grown_le (grown_le h.grown hg (fun r e => .inl (by have := (h.own.lt r e).1; have := h.ln; omega))) gs (fun r e => .inl (by cases e; exact h.le))
  · have h1 := hg.size; have h2 := h.sz; have h3 := gs.size; omega
theorem OutP.keepsFrom {w A B : World} {n : Nat} {row : Option Nat} {S : Nat} {u u' : Value} {M : List Pt} (h : OutP w A n row S u M) (hg : A.grownBy B u.ownBlock) (n2 : Nat) : KeepsFrom n2 A (B.setCell ⟨S, 0, none⟩ u') := by
  refine KeepsFrom.trans ((KeepsOthers.of_grownBy hg (fun j o e ho => ?_)).from _) ((KeepsOthers.setCell _ _ _).from _)
  rcases h.own.2 with ⟨rfl, _⟩ | ⟨g, cap, cur, rfl, _, hgb, _⟩
  · cases e
  · have : g = j := by simpa [Value.ownBlock] using e
    subst this
    rw [hgb] at ho; cases ho; rfl
theorem OutP.keep {w A B : World} {n : Nat} {row : Option Nat} {S : Nat} {u u' : Value} {M : List Pt} (h : OutP w A n row S u M) (hg : A.grownBy B u.ownBlock) {T : Nat → Prop} (hT : ∀ b, T b → b ≠ S ∧ b < n) : KeepO T A (B.setCell ⟨S, 0, none⟩ u') :=
  (KeepO.grown hg (fun b hb e => by have := (h.own.lt b e.symm).1; have := (hT b hb).2; omega)).trans ⟨by simp [World.setCell], fun b hb _ => Below.heap_setCell _ _ _ b (hT b hb).1⟩
theorem rowp_form {W : World} {base : Nat} {u : Value} {n : Nat} {xs : List Value} (h : W.ownsRow base 31 3 u n xs) : ∃ o c, u = .slice o n c := by
  rcases h.2 with ⟨rfl, h0⟩ | ⟨g, cap, cur, rfl, _⟩
  · exact ⟨none, 0, by rw [h0]⟩
  · exact ⟨_, _, rfl⟩

/-- The first k things. -/
def firsts (enc : Nat → Pt) (k : Nat) : List Pt := (List.range k).map enc
theorem firsts_succ (enc : Nat → Pt) (k : Nat) : firsts enc (k + 1) = firsts enc k ++ [enc k] := by simp [firsts, List.range_succ]
theorem firsts_length (enc : Nat → Pt) (k : Nat) : (firsts enc k).length = k := by simp [firsts]
theorem firsts_map (Ls : List Pt) (f : Pt → Pt) : firsts (fun k => f (pt Ls k)) Ls.length = Ls.map f := by
  unfold firsts
  apply List.ext_getElem
  · simp
  · intro i h1 h2
    simp at h1 h2
    simp [pt, h2]

set_option maxRecDepth 100000 in
set_option maxHeartbeats 4000000 in
theorem gathered_any (gf : Nat) (lb : Array Value) (enc : Nat → Pt) (row : Option Nat) (S : Nat → Prop) (St : Nat → World → Prop) (N : Nat) (w : World) (eg : ∀ args w, (callFunc gf args).run Tryz.prog w = .ok (.enter gf args) w)
    (hT : ∀ W, Below w.heap.size w W → TellsN 8 Tryz.prog gf lb (fun k => #[(enc k).v]) row S St N W) (hS : ∀ b, S b → b < w.heap.size) (hrow : ∀ r, row = some r → r < w.heap.size)
    (hSt : ∀ k A B r2, St k A → A.grownBy B r2 → (∀ r, r2 = some r → w.heap.size ≤ r) → St k B) (hN : N < 1099511627776) :
    Calls Tryz.prog 20 #[.func (.func gf) #[] lb] w fun e W => ∃ u, e = .returned u ∧ W.ownsRow w.heap.size 31 3 u N (fl3 (firsts enc N)) ∧ w.grownBy W row ∧ St N W := by
  refine (callsIn_wide (n := 9)).1 ?_
  have h1 : 1 ≤ 9 := by omega
  obtain ⟨i0, hii, hiz, hisz, hib⟩ := info_parts point_info
  have HI : Hid _ := And.intro hii (And.intro hiz (And.intro hisz hib))
  clear hii hiz hisz hib
  refine callsIn_of_wp_marks Tryz.func20 rfl trivial ?_ rfl
  simp only [Tryz.ntmps20, List.size_toArray, List.length_cons, List.length_nil, Nat.reduceAdd, Nat.reduceSub, Array.replicate_succ, Array.replicate_zero, List.push_toArray, List.append_toArray, List.nil_append, List.cons_append]
  gi_wp2
  obtain ⟨S0, hS0⟩ : ∃ n, n = w.heap.size := ⟨_, rfl⟩
  obtain ⟨W0, hW0⟩ : ∃ W0, W0 = w.alloc (.cells #[.slice none 0 0] 22) := ⟨_, rfl⟩
  have hsz : W0.heap.size = S0 + 1 := by rw [hW0, hS0]; simp
  have hB0 : Hid (Below w.heap.size w W0) := by show Below _ _ _; rw [hW0]; exact n_after _ _
  have bx0 : Boxed W0 S0 22 (.slice none 0 0) := by rw [hW0, hS0]; exact Boxed.new w _ _
  rw [← hW0, ← hS0]
  have hSl : w.heap.size = S0 := hS0.symm
  clear hW0 hS0
  refine' range_n h1 (gf := gf) (lb := lb) rfl eg (S := S) (St := St) (hT W0 hB0.out) (fun b h => by have := hS b h; omega) (fun r e => by have := hrow r e; omega) (fun k A B r2 hs hg hr => hSt k A B r2 hs hg (fun r e => by have := (hr r e).1; omega)) (fun _ => rfl)
    (fun k V => ∃ u, OutP w V W0.heap.size row S0 u (firsts enc k)) (fun _ _ _ => False)
    (fun k A B r2 hs hg hr => hs.elim fun u h => ⟨u, h.kept (by omega) hg hr⟩) (fun _ _ _ _ _ hs _ _ => hs)
    (fun k A B hs hg => hs.elim fun u h => ⟨u, h.turn hg hrow⟩) ⟨_, bx0, World.ownsRow_nil _ _ _ _, below_grown hB0.out row, by omega, by omega, Nat.le_refl _⟩ _ (fun k => some (.cells #[.int .i64 (enc k).x, .int .i64 (enc k).y, .int .i64 (enc k).z] 31)) ?assign ?body ?done ?stop
  case assign =>
    intro l k W nb K hk hnb hK
    unfold Pt.v
    gi_wp2
    rw [← hnb]
    exact hK
  case body =>
    rintro l k V nb hk ⟨u, hO⟩ hnb hob
    have hob := hob _ rfl
    have hlp : (firsts enc k).length < 1099511627776 := by rw [firsts_length]; omega
    have b0 : V.cell? ⟨nb, 0, none⟩ = some (.int .i64 (enc k).x) := by simp [World.cell?, hob]
    have b1 : V.cell? ⟨nb, 1, none⟩ = some (.int .i64 (enc k).y) := by simp [World.cell?, hob]
    have b2 : V.cell? ⟨nb, 2, none⟩ = some (.int .i64 (enc k).z) := by simp [World.cell?, hob]
    have hc := hO.box.cell
    have hSV : S0 < V.heap.size := hO.box.lt
    have hwV : W0.heap.size ≤ V.heap.size := hO.sz
    obtain ⟨oo, cc, hu⟩ := rowp_form hO.own
    subst hu
    have HPA : Hid (firsts enc (k + 1) = firsts enc k ++ [⟨(enc k).x, (enc k).y, (enc k).z⟩]) := firsts_succ enc k
    have HO : Hid _ := hO
    clear hO hob
    generalize (enc k).x = px at *
    generalize (enc k).y = py at *
    generalize (enc k).z = pz at *
    gi_wp2_with (gi_at_builtin; refine wpListIn_append_own _ rfl _ _ 22 rfl W0.heap.size 31 i0 _ 3 24 Tryz.underlying22 HI.out.1 HI.out.2.1 HI.out.2.2.1 HI.out.2.2.2 rfl (by decide) _ _ _ rfl (HO.out.alloc (.cells #[.int .i64 px, .int .i64 py, .int .i64 pz] 31)).own ⟨V.heap.size, 0, none⟩ 1 1 [.int .i64 px, .int .i64 py, .int .i64 pz] rfl rfl (news_at (heap_alloc_new V _)) (by intro u hu; simp at hu; rcases hu with rfl | rfl | rfl <;> rfl) (by unfold maxLen; omega) (by omega) (by simp; omega) ?_; intro u' V2 r8 g8 _; obtain ⟨gg8, kk8, rfl⟩ := ownsRow_succ r8; obtain ⟨hO2, hbx2⟩ := (HO.out.alloc (.cells #[.int .i64 px, .int .i64 py, .int .i64 pz] 31)).app (p := ⟨px, py, pz⟩) r8 g8; have q1 := hbx2.cell; have q2 := hbx2.frozen)
    rw [← HPA.out] at hO2
    exact ⟨((KeepsOthers.alloc V _).from _).trans ((HO.out.alloc _).keepsFrom g8 _), (KeepO.alloc _ V _).trans ((HO.out.alloc _).keep g8 (fun b hb => ⟨by have := hS b hb; omega, by have := hS b hb; omega⟩)), _, hO2⟩
  case done =>
    rintro D V hD ⟨u, hO⟩ hs hK
    have hc := hO.box.cell
    gi_wp2
    refine ⟨by simp, .inl ⟨_, _, rfl, run_takeDeferred hK, ?_⟩⟩
    have hO2 := hO.kept (n2 := w.heap.size) (Nat.le_refl _) (grownBy_putObj' V D (.deferred none)) (fun r e => by cases e; exact ⟨by omega, _, hK, rfl⟩)
    have hr2 := own_le hO2.own hO2.ln
    rw [firsts_length] at hr2
    exact ⟨_, results_tmp rfl _ _ _, u, rfl, hr2, hO2.grown, hSt N V _ _ hs (grownBy_putObj' V D (.deferred none)) (fun r e => by cases e; omega)⟩
  case stop =>
    rintro D c k V _ _ h _
    exact h.elim
end Go.Proofs.YtompnibhfdkkjaaGreat
namespace Go.Proofs.YtompnibhfdkkjaaGreat
open Go.RowKit Go.Shelf
set_option linter.unusedVariables false

theorem win_in (p : Pt) (m : Int) (h1 : 0 ≤ m) (h2 : m ≤ 9223372036854775807) : p.win m = p.inB m := by
  have e : IntKind.i64.wrap (-m) = -m := by rw [IntKind.wrap_i64]; omega
  unfold Pt.win Pt.le
  rw [e, Bool.eq_iff_iff, Pt.inB_iff]
  simp only [Bool.and_eq_true, decide_eq_true_eq]
  omega
def longF : Nat → Pt → Pt
  | 0, p => p
  | n + 1, p => if p.inB 524288 then longF n (p.plus p) else p
def Pt.long (p : Pt) : Pt := if p = Pt.O then p else longF 20 p
def Pt.big (p : Pt) (n : Nat) : Prop := 2 ^ n ≤ p.x.natAbs ∨ 2 ^ n ≤ p.y.natAbs ∨ 2 ^ n ≤ p.z.natAbs
theorem big_lt {q : Pt} {g : Nat} (hq : q.inB 524288 = true) (hb : q.big (20 - g)) : 1 ≤ g := by
  rw [Pt.inB_iff] at hq
  rcases Nat.eq_zero_or_pos g with rfl | h
  · unfold Pt.big at hb
    simp only [Nat.sub_zero, Nat.reducePow] at hb
    omega
  · exact h
theorem long_step {q : Pt} {g : Nat} (hq : q.inB 524288 = true) (hb : q.big (20 - (g + 1))) (hg : g + 1 ≤ 20) : longF (g + 1) q = longF g (q.plus q) ∧ (q.plus q).big (20 - g) ∧ q.plus q = ⟨2 * q.x, 2 * q.y, 2 * q.z⟩ := by
  have hI := (Pt.inB_iff _ _).1 hq
  have e : q.plus q = ⟨2 * q.x, 2 * q.y, 2 * q.z⟩ := by
    unfold Pt.plus
    congr 1
    · rw [IntKind.wrap_i64]; omega
    · rw [IntKind.wrap_i64]; omega
    · rw [IntKind.wrap_i64]; omega
  refine ⟨by simp [longF, hq], ?_, e⟩
  rw [e]
  unfold Pt.big at *
  have : 20 - g = (20 - (g + 1)) + 1 := by omega
  rw [this, Nat.pow_succ]
  dsimp only
  omega
theorem big_zero {p : Pt} (h : p ≠ Pt.O) : p.big 0 := by
  unfold Pt.big
  apply Classical.byContradiction
  intro hn
  apply h
  obtain ⟨x, y, z⟩ := p
  simp only [Nat.pow_zero] at hn
  have h1 : x = 0 := by omega
  have h2 : y = 0 := by omega
  have h3 : z = 0 := by omega
  rw [h1, h2, h3]; rfl

set_option maxHeartbeats 2000000 in
set_option maxRecDepth 100000 in
theorem long_any (p : Pt) (w0 : World) :
    Calls Tryz.prog 97 #[p.v] w0 fun e W => e = .returned p.long.v ∧ Below w0.heap.size w0 W := by
  have HX : Hid (∀ q : Pt, ∀ w', Calls Tryz.prog 59 #[q.v, .int .i64 524288] w' fun e W => e = .returned (.bool (q.inB 524288)) ∧ Below w'.heap.size w' W) := fun q w' => (pwithin_any q 524288 w').mono fun e W h => by rw [win_in _ _ (by decide) (by decide)] at h; exact h
  have HP : Hid (∀ q : Pt, ∀ w', Calls Tryz.prog 33 #[q.v, q.v] w' fun e W => e = .returned (q.plus q).v ∧ Below w'.heap.size w' W) := fun q w' => pplus_any q q w'
  have bx0 : Hid (Box3 ((w0.alloc (.cells #[.int .i64 p.x, .int .i64 p.y, .int .i64 p.z] 31)).alloc (.cells #[.int .i64 0, .int .i64 0, .int .i64 0] 31)) w0.heap.size p) := (Box3.new w0 p.x p.y p.z _).step (n_after _ _)
  have bx1 : Hid (Box3 ((w0.alloc (.cells #[.int .i64 p.x, .int .i64 p.y, .int .i64 p.z] 31)).alloc (.cells #[.int .i64 0, .int .i64 0, .int .i64 0] 31)) (w0.heap.size + 1) Pt.O) := by have := Box3.new (w0.alloc (.cells #[.int .i64 p.x, .int .i64 p.y, .int .i64 p.z] 31)) 0 0 0 31; rwa [World.size_alloc] at this
  have hB0 : Hid (Below w0.heap.size w0 ((w0.alloc (.cells #[.int .i64 p.x, .int .i64 p.y, .int .i64 p.z] 31)).alloc (.cells #[.int .i64 0, .int .i64 0, .int .i64 0] 31))) := b_step (n_after w0 _) (n_after _ _)
  by_cases hz : p = Pt.O
  · have e9 : p.long = Pt.O := by unfold Pt.long; rw [if_pos hz]; exact hz
    rw [e9]
    subst hz
    unfold Pt.v Pt.O
    dsimp only
    clear bx0 bx1 e9 HX HP
    go_enter Tryz.func97, Tryz.ntmps97
    go_wp2_with (fail)
    refine bodyPost_ret (v := .agg #[.int .i64 0, .int .i64 0, .int .i64 0]) (by simp [results, Tryz.results97, go_sem]) rfl ⟨rfl, ?_⟩
    exact b_step (n_after _ _) (n_after _ _)
  · have e9 : p.long = longF 20 p := by unfold Pt.long; rw [if_neg hz]
    obtain ⟨r, hr⟩ : ∃ r, p.long = r := ⟨_, rfl⟩
    rw [hr]
    have HR : Hid (r = longF 20 p) := by show _ = _; rw [← hr]; exact e9
    have HB0 : Hid (p.big (20 - 20)) := big_zero hz
    have hz3 : p.x = 0 → p.y = 0 → ¬ p.z = 0 := fun a b c => hz (by cases p; simp only [Pt.O] at *; simp [a, b, c])
    clear hr e9 hz
    unfold Pt.v at *
    go_enter Tryz.func97, Tryz.ntmps97
    go_upto_region 1 with fail
    obtain ⟨W1, hW1⟩ : ∃ W1, W1 = ((w0.alloc (.cells #[.int .i64 p.x, .int .i64 p.y, .int .i64 p.z] 31)).alloc (.cells #[.int .i64 0, .int .i64 0, .int .i64 0] 31)) := ⟨_, rfl⟩
    rw [← hW1] at bx0 bx1 hB0 ⊢
    clear hW1
    obtain ⟨av, hav⟩ : ∃ av, av = Value.agg #[.int .i64 p.x, .int .i64 p.y, .int .i64 p.z] := ⟨_, rfl⟩
    rw [← hav]
    clear hav
    obtain ⟨c0, c1, c2, f0, f1, f2⟩ := bx0.out
    go_cut [5] from 3 (fun s5 wx => s5 = .bool false ∧ wx = W1)
    case first =>
      go_wp2_with (fail)
      all_goals first
        | (exfalso; exact hz3 (by assumption) (by assumption) (by assumption))
        | (go_meet; case rel => exact ⟨rfl, rfl⟩)
    case rest =>
      obtain ⟨rfl, e9⟩ := hcut
      subst e9
      clear hz3 c0 c1 c2 f0 f1 f2
      go_wp2_with (fail)
      go_loopg [] 20 (fun g wr => ∃ q : Pt, Hid (Box3 wr w0.heap.size q) ∧ Hid (Box3 wr (w0.heap.size + 1) Pt.O) ∧ Hid (Below w0.heap.size w0 wr) ∧ g ≤ 20 ∧ Hid (longF g q = longF 20 p) ∧ Hid (q.big (20 - g)))
      case atStart => exact ⟨p, bx0, bx1, hB0, Nat.le_refl _, rfl, HB0⟩
      case round =>
        clear bx0 bx1 hB0 HB0
        obtain ⟨q, b0, b1, hB, hg, HF, HI⟩ := hrel
        have hG : Hid _ := hg
        clear hg
        obtain ⟨c0, c1, c2, f0, f1, f2⟩ := b0.out
        go_wp2_with (fail)
        refine Calls.mono (HX.out q _) ?_
        rintro e V3 ⟨rfl, hb⟩
        clear c0 c1 c2 f0 f1 f2
        have b0 : Hid _ := b0.out.step hb
        have b1 : Hid _ := b1.out.step hb
        have hB : Hid _ := b_step hB.out hb
        clear hb
        cases hq : q.inB 524288 with
        | true =>
          have h1g := big_lt hq HI.out
          obtain ⟨g', hg'⟩ : ∃ g', gk = g' + 1 := ⟨gk - 1, by omega⟩
          subst hg'
          obtain ⟨s1, s2, s3⟩ := long_step hq HI.out hG.out
          have HJ : Hid _ := And.intro s1 (And.intro s2 s3)
          have HP2 : Hid _ := HP.out q
          clear s1 s2 s3 h1g
          obtain ⟨c0, c1, c2, f0, f1, f2⟩ := b0.out
          go_wp2_with (fail)
          refine Calls.mono (HP2.out _) ?_
          rintro e V4 ⟨rfl, hb⟩
          clear HP2
          have b9 : Hid (Box3 (set3 V4 w0.heap.size (q.plus q).x (q.plus q).y (q.plus q).z) w0.heap.size (q.plus q)) := (b0.out.step hb).set _ _ _
          have b8 : Hid (Box3 (set3 V4 w0.heap.size (q.plus q).x (q.plus q).y (q.plus q).z) (w0.heap.size + 1) Pt.O) := (b1.out.step hb).other (by omega) _ _ _
          have hB9 : Hid (Below w0.heap.size w0 (set3 V4 w0.heap.size (q.plus q).x (q.plus q).y (q.plus q).z)) := set3_below (b_step hB.out hb) (Nat.le_refl _) _ _ _
          have d0 := c_after hb c0
          have d1 := c_after hb c1
          have d2 := c_after hb c2
          have f0 := f_after hb c0 f0
          have f1 := f_after hb c1 f1
          have f2 := f_after hb c2 f2
          unfold set3 at b9 b8 hB9
          clear hb c0 c1 c2 b0 b1 hB
          go_wp2_with (fail)
          go_roundg g'
          case rel => exact ⟨q.plus q, b9, b8, hB9, by have := hG.out; omega, by show _ = _; rw [← HJ.out.1]; exact HF.out, HJ.out.2.1⟩
          case measure => omega
        | false =>
          have e9 : r = q := by rw [HR.out, ← HF.out]; cases gk <;> simp [longF, hq]
          subst e9
          obtain ⟨c0, c1, c2, f0, f1, f2⟩ := b0.out
          obtain ⟨c3, c4, c5, f3, f4, f5⟩ := b1.out
          simp only [Pt.O] at c3 c4 c5
          go_wp2_with (fail)
          refine bodyPost_ret (v := .agg #[.int .i64 r.x, .int .i64 r.y, .int .i64 r.z]) (by simp [results, Tryz.results97, go_sem, c3, c4, c5]) rfl ⟨rfl, ?_⟩
          exact set3_below hB.out (by omega) r.x r.y r.z

/-- What becomes of a direction; whether something was too great. -/
def M9.dirT (m : M9) (p : Pt) : Pt := (m.turn (p.long.times 4096)).getD Pt.O
def Pt.quo (p : Pt) (n : Int) : Pt := ⟨wrap64 (p.x.tdiv n), wrap64 (p.y.tdiv n), wrap64 (p.z.tdiv n)⟩
def M9.dirV (m : M9) (p : Pt) : Pt := ((m.dirT p).quo 4096).short
def M9.dirB (m : M9) (p : Pt) : Bool := (m.turn (p.long.times 4096)).isNone
set_option maxHeartbeats 2000000 in
set_option maxRecDepth 100000 in
theorem direction_any (fb : Nat) (f : Bool) (m : M9) (t p : Pt) (w0 : World) (hF : Cells w0 fb (frL f m t)) :
    Calls Tryz.prog 56 #[.pointer (some ⟨fb, 0, none⟩), p.v] w0 fun e W => e = .returned (m.dirV p).v ∧ Hid (After ⟨fb, 0, none⟩ (f || m.dirB p) w0 W) := by
  have HL : Hid _ := fun w' => long_any p w'
  have HT : Hid _ := fun (w : World) (g : Bool) => turned_any fb g m t p.long 4096 w
  have HS : Hid _ := fun w' => short_any ((m.dirT p).quo 4096) w'
  have hlt := hF.lt
  rw [show (m.turn (p.long.times 4096)).getD Pt.O = m.dirT p from rfl, show (m.turn (p.long.times 4096)).isNone = m.dirB p from rfl] at HT
  rw [show m.dirV p = ((m.dirT p).quo 4096).short from rfl]
  generalize ((m.dirT p).quo 4096).short = r at *
  rw [show (m.dirT p).quo 4096 = ⟨wrap64 ((m.dirT p).x.tdiv 4096), wrap64 ((m.dirT p).y.tdiv 4096), wrap64 ((m.dirT p).z.tdiv 4096)⟩ from rfl] at HS
  generalize m.dirT p = q at *
  generalize m.dirB p = bd at *
  generalize p.long = pl at *
  have hF0 : Hid _ := hF
  clear hF
  obtain ⟨x, y, z⟩ := p
  obtain ⟨x1, y1, z1⟩ := pl
  obtain ⟨x2, y2, z2⟩ := q
  obtain ⟨x3, y3, z3⟩ := r
  unfold Pt.v at *
  dsimp only at *
  go_enter Tryz.func56, Tryz.ntmps56
  go_wp2_with (fail)
  obtain ⟨V, hV⟩ : ∃ V : World, V = (w0.alloc (.cells #[.int .i64 x, .int .i64 y, .int .i64 z] 31)).alloc (.cells #[.int .i64 0, .int .i64 0, .int .i64 0] 31) := ⟨_, rfl⟩
  obtain ⟨pb, hpb⟩ : ∃ b, b = w0.heap.size := ⟨_, rfl⟩
  obtain ⟨ob, hob'⟩ : ∃ b, b = w0.heap.size + 1 := ⟨_, rfl⟩
  have hBV : Hid (Below w0.heap.size w0 V) := by show Below _ _ _; rw [hV]; exact b_step (n_after _ _) (n_after _ _)
  have B2 : Hid (Box3 V ob Pt.O) := by show Box3 _ _ _; rw [hV, hob']; have := Box3.new (w0.alloc (.cells #[.int .i64 x, .int .i64 y, .int .i64 z] 31)) 0 0 0 31; rwa [World.size_alloc] at this
  rw [← hV, ← hob', ← hpb]
  have hob : w0.heap.size ≤ ob := by omega
  have hof : ob ≠ fb := by omega
  clear hV hpb hob'
  refine Calls.mono (HL.out _) ?_
  rintro e V1 ⟨rfl, hb⟩
  have G1 : Hid (FG w0 fb f m t V1) := (FG.start hF0.out hBV.out).step hb
  have B2 : Hid _ := B2.out.step hb
  clear hb hBV HL
  go_wp2_with (fail)
  refine Calls.mono (HT.out _ _ G1.out.fr) ?_
  rintro e V2 ⟨rfl, A⟩
  have G2 : Hid (FG w0 fb (f || bd) m t V2) := G1.out.after A.out
  have B2 : Hid _ := B2.out.after A.out hof
  clear A G1 HT
  go_wp2_with (fail)
  refine Calls.mono (HS.out _) ?_
  rintro e V3 ⟨rfl, hb⟩
  have G3 : Hid (FG w0 fb (f || bd) m t V3) := (G2.out.step (n_after _ _)).step hb
  have B3 : Hid _ := (B2.out.step (n_after _ _)).step hb
  clear hb G2 B2 HS
  obtain ⟨c0, c1, c2, f0, f1, f2⟩ := B3.out
  simp only [Pt.O] at c0 c1 c2
  go_wp2_with (fail)
  refine bodyPost_ret (v := .agg #[.int .i64 x3, .int .i64 y3, .int .i64 z3]) (by simp [results, Tryz.results56, go_sem, c0, c1, c2]) rfl ⟨rfl, ?_⟩
  exact (G3.out.set3 x3 y3 z3 hob hof).done

/-- Directions that are turned: those that are not noughts. -/
def M9.dirs (m : M9) (A : List Pt) : List Pt := (A.map m.dirV).filter (fun p => decide (p ≠ Pt.O))
def dirsK (enc : Nat → Pt) (k : Nat) : List Pt := (firsts enc k).filter (fun p => decide (p ≠ Pt.O))
theorem dirsK_yes (enc : Nat → Pt) (k : Nat) (h : enc k ≠ Pt.O) : dirsK enc (k + 1) = dirsK enc k ++ [enc k] := by unfold dirsK; rw [firsts_succ, List.filter_append]; simp [h]
theorem dirsK_no (enc : Nat → Pt) (k : Nat) (h : enc k = Pt.O) : dirsK enc (k + 1) = dirsK enc k := by unfold dirsK; rw [firsts_succ, List.filter_append]; simp [h]
theorem dirsK_length (enc : Nat → Pt) (k : Nat) : (dirsK enc k).length ≤ k := by have := List.length_filter_le (fun p => decide (p ≠ Pt.O)) (firsts enc k); rw [firsts_length] at this; exact this
/-- Whether one of the first k is bad. -/
def anyK (f : Nat → Bool) : Nat → Bool
  | 0 => false
  | k + 1 => anyK f k || f k
theorem anyK_any (Ls : List Pt) (f : Pt → Bool) : anyK (fun k => f (pt Ls k)) Ls.length = Ls.any f := by
  have key : ∀ k, k ≤ Ls.length → anyK (fun k => f (pt Ls k)) k = (Ls.take k).any f := by
    intro k
    induction k with
    | zero => intro _; simp [anyK]
    | succ k ih =>
      intro hk
      rw [List.take_succ_eq_append_getElem (by omega), List.any_append, ← ih (by omega)]
      simp [anyK, pt, List.getElem?_eq_getElem (show k < Ls.length by omega)]
  rw [key _ (Nat.le_refl _), List.take_length]
theorem after_grown {W W' : World} {b : Nat} {g : Bool} (A : After ⟨b, 0, none⟩ g W W') : W.grownBy W' (some b) := ⟨A.kept.1, A.kept.2.1, A.kept.2.2.1, A.size, fun k hk hn => A.kept.2.2.2 k hk (fun e => hn (by rw [e]))⟩
theorem Cells.keepO {S : Nat → Prop} {A B : World} {b : Nat} {vs : List Value} (h : Cells A b vs) (hk : KeepO S A B) (hb : S b) : Cells B b vs := fun i v e =>
  ⟨hk.cell (q := ⟨b, i, none⟩) hb (h i v e).1, (hk.frozen (q := ⟨b, i, none⟩) hb (h i v e).1).trans (h i v e).2⟩
theorem Cells.grew {A B : World} {row : Option Nat} {b : Nat} {vs : List Value} (h : Cells A b vs) (hg : A.grownBy B row) (hb : ∀ r, row = some r → r ≠ b) : Cells B b vs := fun i v e => by
  have hlt := World.block_lt_of_cell? _ _ (h i v e).1
  have hbl := hg.block b hlt (fun e => hb b e.symm rfl)
  exact ⟨(World.cell?_of_block (w := A) hbl).trans (h i v e).1, (World.frozen?_of_block (w := A) hbl).trans (h i v e).2⟩
end Go.Proofs.YtompnibhfdkkjaaGreat
namespace Go.Proofs.YtompnibhfdkkjaaGreat
open Go.RowKit Go.Shelf
attribute [local go_sem] Oper.semAt_some
set_option linter.unusedVariables false

set_option maxRecDepth 100000 in
set_option maxHeartbeats 8000000 in
theorem directions_any (fb : Nat) (f : Bool) (m : M9) (t : Pt) (Ls : List Pt) (v : Value) (w : World) (hF : Cells w fb (frL f m t)) (hv : Lies w v Ls) (hne : ∀ q n c, v = .slice (some q) n c → Ls ≠ [] → q.block ≠ fb) (hN : Ls.length < 1099511627776) :
    Calls Tryz.prog 23 #[.pointer (some ⟨fb, 0, none⟩), v] w fun e W => ∃ u, e = .returned u ∧ W.ownsRow w.heap.size 31 3 u (m.dirs Ls).length (fl3 (m.dirs Ls)) ∧ w.grownBy W (some fb) ∧ Cells W fb (frL (f || Ls.any m.dirB) m t) := by
  obtain ⟨o, cap, rfl, hlc, hcm, hcell⟩ := hv.form
  have HV : Hid _ := hv
  have hlt := hF.lt
  clear hv hcell
  refine (callsIn_wide (n := 9)).1 ?_
  have h1 : 1 ≤ 9 := by omega
  obtain ⟨i0, hii, hiz, hisz, hib⟩ := info_parts point_info
  have HI : Hid _ := And.intro hii (And.intro hiz (And.intro hisz hib))
  clear hii hiz hisz hib
  refine callsIn_of_wp_marks Tryz.func23 rfl trivial ?_ rfl
  simp only [Tryz.ntmps23, List.size_toArray, List.length_cons, List.length_nil, Nat.reduceAdd, Nat.reduceSub, Array.replicate_succ, Array.replicate_zero, List.push_toArray, List.append_toArray, List.nil_append, List.cons_append]
  gi_wp2_with (refine ⟨trivial, ?_⟩; gi_at_call 21; refine (callsIn_wide.2 (each_in_pt _ _ _ _ _ _ _)).mono ?_; rintro e w' ⟨rfl, rfl⟩)
  obtain ⟨S0, hS0⟩ : ∃ n, n = w.heap.size := ⟨_, rfl⟩
  obtain ⟨W0, hW0⟩ : ∃ W0, W0 = ((w.alloc (.cells #[.slice none 0 0] 22)).alloc (.cells #[.slice o Ls.length cap] 22)).alloc (.cells #[.func (.func 56) #[.pointer (some ⟨fb, 0, none⟩)] #[]] 59) := ⟨_, rfl⟩
  have hsz : W0.heap.size = S0 + 3 := by rw [hW0, hS0]; simp
  have hB0 : Hid (Below w.heap.size w W0) := by show Below _ _ _; rw [hW0]; exact b_step (b_step (n_after _ _) (n_after _ _)) (n_after _ _)
  have bx0 : Boxed W0 S0 22 (.slice none 0 0) := by rw [hW0, hS0]; exact ((Boxed.new w _ _).alloc _).alloc _
  have cp : W0.cell? ⟨S0 + 1, 0, none⟩ = some (.slice o Ls.length cap) := by rw [hW0, hS0]; simp [go_sem]
  have cf : W0.cell? ⟨S0 + 1 + 1, 0, none⟩ = some (.func (.func 56) #[.pointer (some ⟨fb, 0, none⟩)] #[]) := by rw [hW0, hS0]; simp [go_sem]
  rw [← hW0, ← hS0]
  have hSl : w.heap.size = S0 := hS0.symm
  clear hW0 hS0
  have HV0 : Hid _ := HV.out.below hB0.out
  have hF0 := hF.step hB0.out
  have hblk : Hid (∀ q, o = some q → Ls ≠ [] → q.block < w.heap.size) := fun q e hne => by
    obtain ⟨o', c', e', _, _, h9⟩ := HV.out.form
    cases e'
    obtain ⟨g, off, e2, x0, _⟩ := h9 0 (List.length_pos_iff.2 hne)
    rw [e] at e2; cases e2
    exact World.block_lt_of_cell? _ _ x0
  refine' range_n h1 (gf := 53) (lb := #[.pointer (some ⟨S0 + 1, 0, none⟩), .pointer (some ⟨S0 + 1 + 1, 0, none⟩)]) rfl (enters_of Tryz.func53 (by kernel_rfl) rfl)
    (row := some fb) (S := fun b => b < W0.heap.size ∧ b ≠ S0) (St := fun k V => Cells V fb (frL (f || anyK (fun k => m.dirB (pt Ls k)) k) m t))
    (each_tells_pt (9 - 1) (S0 + 1) (S0 + 1 + 1) Ls o cap 56 #[.pointer (some ⟨fb, 0, none⟩)] #[] (fun k => (m.dirV (pt Ls k)).v) (some fb) (fun b => b < W0.heap.size ∧ b ≠ S0) (fun k V => Cells V fb (frL (f || anyK (fun k => m.dirB (pt Ls k)) k) m t)) W0
      (enters_of Tryz.func56 (by kernel_rfl) rfl) HV0.out cp cf ?blk ⟨⟨by omega, by omega⟩, fun e => by simp at e; omega⟩ (fun _ h => h.1)
      (fun W hb => by simpa [anyK] using hF0.step hb) (fun k A B hs hk => Cells.keepO hs hk ⟨by show fb < _; omega, by show fb ≠ _; omega⟩)
      (fun k V hk hs => (direction_any fb _ m t (pt Ls k) V hs).mono fun e V' h => ⟨h.1, after_grown h.2.out, by have h9 := Cells.after hs h.2.out; rw [Bool.or_assoc] at h9; exact h9⟩))
    (fun _ h => h.1) (fun r e => by cases e; omega) ?st (fun _ => rfl)
    (fun k V => ∃ u, OutP w V W0.heap.size (some fb) S0 u (dirsK (fun k => m.dirV (pt Ls k)) k)) (fun _ _ _ => False)
    (fun k A B r2 hs hg hr => hs.elim fun u h => ⟨u, h.kept (by omega) hg hr⟩) (fun _ _ _ _ _ hs _ _ => hs)
    (fun k A B hs hg => hs.elim fun u h => ⟨u, h.turn hg (fun r e => by cases e; exact hlt)⟩) ⟨_, bx0, World.ownsRow_nil _ _ _ _, below_grown hB0.out _, by omega, by omega, Nat.le_refl _⟩ _ (fun k => some (.cells #[.int .i64 (m.dirV (pt Ls k)).x, .int .i64 (m.dirV (pt Ls k)).y, .int .i64 (m.dirV (pt Ls k)).z] 31)) ?assign ?body ?done ?stop
  case blk => exact fun q e hne' => ⟨⟨by have := hblk.out q e hne'; omega, by have := hblk.out q e hne'; omega⟩, fun e9 => hne q _ _ (by rw [e]) hne' (by simpa using e9)⟩
  case st => exact fun k A B r2 hs hg hr => Cells.grew hs hg (fun r e => by have := (hr r e).1; omega)
  case assign =>
    intro l k W nb K hk hnb hK
    unfold Pt.v
    gi_wp2
    rw [← hnb]
    exact hK
  case body =>
    rintro l k V nb hk ⟨u, hO⟩ hnb hob
    have hob := hob _ rfl
    have hlp : (dirsK (fun k => m.dirV (pt Ls k)) k).length < 1099511627776 := by have := dirsK_length (fun k => m.dirV (pt Ls k)) k; omega
    have b0 : V.cell? ⟨nb, 0, none⟩ = some (.int .i64 (m.dirV (pt Ls k)).x) := by simp [World.cell?, hob]
    have b1 : V.cell? ⟨nb, 1, none⟩ = some (.int .i64 (m.dirV (pt Ls k)).y) := by simp [World.cell?, hob]
    have b2 : V.cell? ⟨nb, 2, none⟩ = some (.int .i64 (m.dirV (pt Ls k)).z) := by simp [World.cell?, hob]
    have hc := hO.box.cell
    have hSV : S0 < V.heap.size := hO.box.lt
    have hwV : W0.heap.size ≤ V.heap.size := hO.sz
    obtain ⟨oo, cc, hu⟩ := rowp_form hO.own
    subst hu
    have HO : Hid _ := hO
    clear hO hob
    by_cases hz : m.dirV (pt Ls k) = Pt.O
    · have HPA : Hid (dirsK (fun k => m.dirV (pt Ls k)) (k + 1) = dirsK (fun k => m.dirV (pt Ls k)) k) := dirsK_no _ _ hz
      rw [hz] at b0 b1 b2 ⊢
      simp only [Pt.O] at b0 b1 b2 ⊢
      clear hz
      gi_wp2
      exact ⟨KeepsFrom.refl _ _, KeepO.refl _ _, _, by rw [HPA.out]; exact HO.out⟩
    · have HPA : Hid (dirsK (fun k => m.dirV (pt Ls k)) (k + 1) = dirsK (fun k => m.dirV (pt Ls k)) k ++ [⟨(m.dirV (pt Ls k)).x, (m.dirV (pt Ls k)).y, (m.dirV (pt Ls k)).z⟩]) := dirsK_yes _ _ hz
      have hz3 : (m.dirV (pt Ls k)).x = 0 → (m.dirV (pt Ls k)).y = 0 → (m.dirV (pt Ls k)).z ≠ 0 := fun a b c => hz (by cases hp : m.dirV (pt Ls k); rw [hp] at a b c; simp only [Pt.O] at *; simp [a, b, c])
      clear hz
      generalize (m.dirV (pt Ls k)).x = px at *
      generalize (m.dirV (pt Ls k)).y = py at *
      generalize (m.dirV (pt Ls k)).z = pz at *
      by_cases hx : px = 0
      · subst hx
        by_cases hy : py = 0
        · subst hy
          have hzz : pz ≠ 0 := hz3 rfl rfl
          clear hz3
          gi_wp2_with (gi_at_builtin; refine wpListIn_append_own _ rfl _ _ 22 rfl W0.heap.size 31 i0 _ 3 24 Tryz.underlying22 HI.out.1 HI.out.2.1 HI.out.2.2.1 HI.out.2.2.2 rfl (by decide) _ _ _ rfl (HO.out.alloc (.cells #[.int .i64 0, .int .i64 0, .int .i64 pz] 31)).own ⟨V.heap.size, 0, none⟩ 1 1 [.int .i64 0, .int .i64 0, .int .i64 pz] rfl rfl (news_at (heap_alloc_new V _)) (by intro u hu; simp at hu; rcases hu with rfl | rfl | rfl <;> rfl) (by unfold maxLen; omega) (by omega) (by simp; omega) ?_; intro u' V2 r8 g8 _; obtain ⟨gg8, kk8, rfl⟩ := ownsRow_succ r8; obtain ⟨hO2, hbx2⟩ := (HO.out.alloc (.cells #[.int .i64 0, .int .i64 0, .int .i64 pz] 31)).app (p := ⟨0, 0, pz⟩) r8 g8; have q1 := hbx2.cell; have q2 := hbx2.frozen)
          rw [← HPA.out] at hO2
          exact ⟨((KeepsOthers.alloc V _).from _).trans ((HO.out.alloc _).keepsFrom g8 _), (KeepO.alloc _ V _).trans ((HO.out.alloc _).keep g8 (fun b hb => ⟨hb.2, hb.1⟩)), _, hO2⟩
        · clear hz3
          gi_wp2_with (gi_at_builtin; refine wpListIn_append_own _ rfl _ _ 22 rfl W0.heap.size 31 i0 _ 3 24 Tryz.underlying22 HI.out.1 HI.out.2.1 HI.out.2.2.1 HI.out.2.2.2 rfl (by decide) _ _ _ rfl (HO.out.alloc (.cells #[.int .i64 0, .int .i64 py, .int .i64 pz] 31)).own ⟨V.heap.size, 0, none⟩ 1 1 [.int .i64 0, .int .i64 py, .int .i64 pz] rfl rfl (news_at (heap_alloc_new V _)) (by intro u hu; simp at hu; rcases hu with rfl | rfl | rfl <;> rfl) (by unfold maxLen; omega) (by omega) (by simp; omega) ?_; intro u' V2 r8 g8 _; obtain ⟨gg8, kk8, rfl⟩ := ownsRow_succ r8; obtain ⟨hO2, hbx2⟩ := (HO.out.alloc (.cells #[.int .i64 0, .int .i64 py, .int .i64 pz] 31)).app (p := ⟨0, py, pz⟩) r8 g8; have q1 := hbx2.cell; have q2 := hbx2.frozen)
          rw [← HPA.out] at hO2
          exact ⟨((KeepsOthers.alloc V _).from _).trans ((HO.out.alloc _).keepsFrom g8 _), (KeepO.alloc _ V _).trans ((HO.out.alloc _).keep g8 (fun b hb => ⟨hb.2, hb.1⟩)), _, hO2⟩
      · clear hz3
        gi_wp2_with (gi_at_builtin; refine wpListIn_append_own _ rfl _ _ 22 rfl W0.heap.size 31 i0 _ 3 24 Tryz.underlying22 HI.out.1 HI.out.2.1 HI.out.2.2.1 HI.out.2.2.2 rfl (by decide) _ _ _ rfl (HO.out.alloc (.cells #[.int .i64 px, .int .i64 py, .int .i64 pz] 31)).own ⟨V.heap.size, 0, none⟩ 1 1 [.int .i64 px, .int .i64 py, .int .i64 pz] rfl rfl (news_at (heap_alloc_new V _)) (by intro u hu; simp at hu; rcases hu with rfl | rfl | rfl <;> rfl) (by unfold maxLen; omega) (by omega) (by simp; omega) ?_; intro u' V2 r8 g8 _; obtain ⟨gg8, kk8, rfl⟩ := ownsRow_succ r8; obtain ⟨hO2, hbx2⟩ := (HO.out.alloc (.cells #[.int .i64 px, .int .i64 py, .int .i64 pz] 31)).app (p := ⟨px, py, pz⟩) r8 g8; have q1 := hbx2.cell; have q2 := hbx2.frozen)
        rw [← HPA.out] at hO2
        exact ⟨((KeepsOthers.alloc V _).from _).trans ((HO.out.alloc _).keepsFrom g8 _), (KeepO.alloc _ V _).trans ((HO.out.alloc _).keep g8 (fun b hb => ⟨hb.2, hb.1⟩)), _, hO2⟩
  case done =>
    rintro D V hD ⟨u, hO⟩ hs hK
    have hc := hO.box.cell
    gi_wp2
    refine ⟨by simp, .inl ⟨_, _, rfl, run_takeDeferred hK, ?_⟩⟩
    have hO2 := hO.kept (n2 := w.heap.size) (Nat.le_refl _) (grownBy_putObj' V D (.deferred none)) (fun r e => by cases e; exact ⟨by omega, _, hK, rfl⟩)
    have hr2 := own_le hO2.own hO2.ln
    have e9 : dirsK (fun k => m.dirV (pt Ls k)) Ls.length = m.dirs Ls := by unfold dirsK M9.dirs; rw [firsts_map]
    rw [e9] at hr2
    rw [anyK_any] at hs
    exact ⟨_, results_tmp rfl _ _ _, u, rfl, hr2, hO2.grown, Cells.grew hs (grownBy_putObj' V D (.deferred none)) (fun r e => by cases e; omega)⟩
  case stop =>
    rintro D c k V _ _ h _
    exact h.elim
end Go.Proofs.YtompnibhfdkkjaaGreat
