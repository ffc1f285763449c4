/- Package pose: points that are all within; points in a list of their own. -/
import Derived.Test.YthcdpngkoejgpaaPsEa
namespace Go.Proofs.Ythcdpngkoejgpaa
open Go.RowKit Go.Shelf
attribute [local go_sem] Oper.semAt_some
set_option linter.unusedVariables false

theorem row_own {A B : World} {base e size n k : Nat} {u : Value} {xs : List Value} {row : Option Nat} (h : A.ownsRow base e size u k xs) (hg : A.grownBy B row) (hr : ∀ r, row = some r → n ≤ r ∧ ∃ o : Obj, A.heap[r]? = some o ∧ o.isCells = false) : B.ownsRow base e size u k xs := by
  refine h.kept hg ?_
  rcases h.2 with ⟨rfl, _⟩ | ⟨g, cap, cur, rfl, _, hgb, _⟩
  · exact .inl rfl
  · refine .inr (fun e => ?_)
    obtain ⟨_, o, ho, hc⟩ := hr g (by rw [← e]; rfl)
    rw [hgb] at ho; cases ho; cases hc
theorem row_turn {A B : World} {base e size k : Nat} {u : Value} {xs : List Value} {row : Option Nat} (h : A.ownsRow base e size u k xs) (hg : A.grownBy B row) (hr : ∀ r, row = some r → r < base) : B.ownsRow base e size u k xs := by
  refine h.kept hg ?_
  cases e1 : u.ownBlock with
  | none => exact .inl rfl
  | some b => exact .inr (fun e => by have := (h.lt b e1).1; have := hr b (by rw [← e]); omega)
theorem box_own {A B : World} {b : Nat} {t : TypeId} {v : Value} {n : Nat} {row : Option Nat} (h : Boxed A b t v) (hg : A.grownBy B row) (hr : ∀ r, row = some r → n ≤ r ∧ ∃ o : Obj, A.heap[r]? = some o ∧ o.isCells = false) : Boxed B b t v :=
  h.kept hg (fun e => by obtain ⟨_, o, ho, hc⟩ := hr b e.symm; rw [show A.heap[b]? = _ from h] at ho; cases ho; cases hc)
theorem grown_le {w A B : World} {row r2 : Option Nat} (h : w.grownBy A row) (hg : A.grownBy B r2) (hr : ∀ r, r2 = some r → w.heap.size ≤ r ∨ row = some r) : w.grownBy B row :=
  ⟨hg.os.trans h.os, hg.tape.trans h.tape, hg.output.trans h.output, Nat.le_trans h.size hg.size, fun k hk hn => (hg.block k (Nat.lt_of_lt_of_le hk h.size) (fun e => by
    rcases hr k e.symm with h9 | h9
    · omega
    · exact hn h9.symm)).trans (h.block k hk hn)⟩

/-- What stands while a list of points is written: the list's box, its row (no block of it below n); what makes them may turn the block row. -/
structure OutP (w V : World) (n : Nat) (row : Option Nat) (S : Nat) (u : Value) (M : List Pt) : Prop where
  box : Boxed V S 22 u
  own : V.ownsRow n 26 3 u M.length (fl3 M)
  grown : w.grownBy V row
  le : w.heap.size ≤ S
  ln : w.heap.size ≤ n
  sz : n ≤ V.heap.size
theorem OutP.kept {w A B : World} {n : Nat} {row r2 : Option Nat} {S n2 : Nat} {u : Value} {M : List Pt} (h : OutP w A n row S u M) (hn : w.heap.size ≤ n2) (hg : A.grownBy B r2) (hr : ∀ r, r2 = some r → n2 ≤ r ∧ ∃ o : Obj, A.heap[r]? = some o ∧ o.isCells = false) : OutP w B n row S u M :=
  ⟨box_own h.box hg hr, row_own h.own hg hr, grown_le h.grown hg (fun r e => .inl (by have := (hr r e).1; omega)), h.le, h.ln, Nat.le_trans h.sz hg.size⟩
theorem OutP.turn {w A B : World} {n : Nat} {row : Option Nat} {S : Nat} {u : Value} {M : List Pt} (h : OutP w A n row S u M) (hg : A.grownBy B row) (hr : ∀ r, row = some r → r < w.heap.size) : OutP w B n row S u M :=
  ⟨h.box.kept hg (fun e => by have := hr S e.symm; have := h.le; omega), row_turn h.own hg (fun r e => by have := hr r e; have := h.ln; omega), grown_le h.grown hg (fun r e => .inr e), h.le, h.ln, Nat.le_trans h.sz hg.size⟩
theorem OutP.alloc {w A : World} {n : Nat} {row : Option Nat} {S : Nat} {u : Value} {M : List Pt} (h : OutP w A n row S u M) (o : Obj) : OutP w (A.alloc o) n row S u M := h.kept (n2 := w.heap.size) (Nat.le_refl _) (World.grownBy_alloc A o none) (fun r e => by cases e)
theorem OutP.app {w A B : World} {n : Nat} {row : Option Nat} {S : Nat} {u u' : Value} {M : List Pt} {p : Pt} (h : OutP w A n row S u M) (hr : B.ownsRow n 26 3 u' (M.length + 1) (fl3 M ++ [.int .i64 p.x, .int .i64 p.y, .int .i64 p.z])) (hg : A.grownBy B u.ownBlock) :
    OutP w (B.setCell ⟨S, 0, none⟩ u') n row S u' (M ++ [p]) ∧ Boxed B S 22 u := by
  have hbx : Boxed B S 22 u := h.box.kept hg (h.box.not_row (by decide) h.own)
  have gs : B.grownBy (B.setCell ⟨S, 0, none⟩ u') (some S) := ⟨rfl, rfl, rfl, by simp [World.setCell], fun k _ hk => Below.heap_setCell _ _ _ k (fun e => hk (by rw [e]))⟩
  refine ⟨⟨hbx.set _, ?_, ?_, h.le, h.ln, ?_⟩, hbx⟩
  · have : fl3 (M ++ [p]) = fl3 M ++ [.int .i64 p.x, .int .i64 p.y, .int .i64 p.z] := by rw [fl3_append]; rfl
    rw [this, List.length_append]
    exact hr.kept gs (Or.inr (fun e => hbx.not_row (by decide) hr e.symm))
  · exact grown_le (grown_le h.grown hg (fun r e => .inl (by have := (h.own.lt r e).1; have := h.ln; omega))) gs (fun r e => .inl (by cases e; exact h.le))
  · have h1 := hg.size; have h2 := h.sz; have h3 := gs.size; omega
theorem OutP.keepsFrom {w A B : World} {n : Nat} {row : Option Nat} {S : Nat} {u u' : Value} {M : List Pt} (h : OutP w A n row S u M) (hg : A.grownBy B u.ownBlock) (n2 : Nat) : KeepsFrom n2 A (B.setCell ⟨S, 0, none⟩ u') := by
  refine KeepsFrom.trans ((KeepsOthers.of_grownBy hg (fun j o e ho => ?_)).from _) ((KeepsOthers.setCell _ _ _).from _)
  rcases h.own.2 with ⟨rfl, _⟩ | ⟨g, cap, cur, rfl, _, hgb, _⟩
  · cases e
  · have : g = j := by simpa [Value.ownBlock] using e
    subst this
    rw [hgb] at ho; cases ho; rfl
theorem OutP.keep {w A B : World} {n : Nat} {row : Option Nat} {S : Nat} {u u' : Value} {M : List Pt} (h : OutP w A n row S u M) (hg : A.grownBy B u.ownBlock) {T : Nat → Prop} (hT : ∀ b, T b → b ≠ S ∧ b < n) : KeepO T A (B.setCell ⟨S, 0, none⟩ u') :=
  (KeepO.grown hg (fun b hb e => by have := (h.own.lt b e.symm).1; have := (hT b hb).2; omega)).trans ⟨by simp [World.setCell], fun b hb _ => Below.heap_setCell _ _ _ b (hT b hb).1⟩
theorem rowp_form {W : World} {base : Nat} {u : Value} {n : Nat} {xs : List Value} (h : W.ownsRow base 26 3 u n xs) : ∃ o c, u = .slice o n c := by
  rcases h.2 with ⟨rfl, h0⟩ | ⟨g, cap, cur, rfl, _⟩
  · exact ⟨none, 0, by rw [h0]⟩
  · exact ⟨_, _, rfl⟩

/-- The first k things. -/
def firsts (enc : Nat → Pt) (k : Nat) : List Pt := (List.range k).map enc
theorem firsts_succ (enc : Nat → Pt) (k : Nat) : firsts enc (k + 1) = firsts enc k ++ [enc k] := by simp [firsts, List.range_succ]
theorem firsts_length (enc : Nat → Pt) (k : Nat) : (firsts enc k).length = k := by simp [firsts]
theorem firsts_map (Ls : List Pt) (f : Pt → Pt) : firsts (fun k => f (pt Ls k)) Ls.length = Ls.map f := by
  unfold firsts
  apply List.ext_getElem
  · simp
  · intro i h1 h2
    simp at h1 h2
    simp [pt, h2]

set_option maxRecDepth 100000 in
set_option maxHeartbeats 4000000 in
theorem gathered_any (gf : Nat) (lb : Array Value) (enc : Nat → Pt) (row : Option Nat) (S : Nat → Prop) (St : Nat → World → Prop) (N : Nat) (w : World) (eg : ∀ args w, (callFunc gf args).run Try.prog w = .ok (.enter gf args) w)
    (hT : ∀ W, Below w.heap.size w W → TellsN 8 Try.prog gf lb (fun k => #[(enc k).v]) row S St N W) (hS : ∀ b, S b → b < w.heap.size) (hrow : ∀ r, row = some r → r < w.heap.size)
    (hSt : ∀ k A B r2, St k A → A.grownBy B r2 → (∀ r, r2 = some r → w.heap.size ≤ r) → St k B) (hN : N < 1099511627776) :
    Calls Try.prog 45 #[.func (.func gf) #[] lb] w fun e W => ∃ u, e = .returned u ∧ W.ownsRow w.heap.size 26 3 u N (fl3 (firsts enc N)) ∧ w.grownBy W row ∧ St N W := by
  refine (callsIn_wide (n := 9)).1 ?_
  have h1 : 1 ≤ 9 := by omega
  obtain ⟨i0, hii, hiz, hisz, hib⟩ := info_parts point_info
  have HI : Hid _ := And.intro hii (And.intro hiz (And.intro hisz hib))
  clear hii hiz hisz hib
  refine callsIn_of_wp_marks Try.func45 rfl trivial ?_ rfl
  simp only [Try.ntmps45, List.size_toArray, List.length_cons, List.length_nil, Nat.reduceAdd, Nat.reduceSub, Array.replicate_succ, Array.replicate_zero, List.push_toArray, List.append_toArray, List.nil_append, List.cons_append]
  gi_wp2
  obtain ⟨S0, hS0⟩ : ∃ n, n = w.heap.size := ⟨_, rfl⟩
  obtain ⟨W0, hW0⟩ : ∃ W0, W0 = w.alloc (.cells #[.slice none 0 0] 22) := ⟨_, rfl⟩
  have hsz : W0.heap.size = S0 + 1 := by rw [hW0, hS0]; simp
  have hB0 : Hid (Below w.heap.size w W0) := by show Below _ _ _; rw [hW0]; exact n_after _ _
  have bx0 : Boxed W0 S0 22 (.slice none 0 0) := by rw [hW0, hS0]; exact Boxed.new w _ _
  rw [← hW0, ← hS0]
  have hSl : w.heap.size = S0 := hS0.symm
  clear hW0 hS0
  refine' range_n h1 (gf := gf) (lb := lb) rfl eg (S := S) (St := St) (hT W0 hB0.out) (fun b h => by have := hS b h; omega) (fun r e => by have := hrow r e; omega) (fun k A B r2 hs hg hr => hSt k A B r2 hs hg (fun r e => by have := (hr r e).1; omega)) (fun _ => rfl)
    (fun k V => ∃ u, OutP w V W0.heap.size row S0 u (firsts enc k)) (fun _ _ _ => False)
    (fun k A B r2 hs hg hr => hs.elim fun u h => ⟨u, h.kept (by omega) hg hr⟩) (fun _ _ _ _ _ hs _ _ => hs)
    (fun k A B hs hg => hs.elim fun u h => ⟨u, h.turn hg hrow⟩) ⟨_, bx0, World.ownsRow_nil _ _ _ _, below_grown hB0.out row, by omega, by omega, Nat.le_refl _⟩ _ (fun k => some (.cells #[.int .i64 (enc k).x, .int .i64 (enc k).y, .int .i64 (enc k).z] 26)) ?assign ?body ?done ?stop
  case assign =>
    intro l k W nb K hk hnb hK
    unfold Pt.v
    gi_wp2
    rw [← hnb]
    exact hK
  case body =>
    rintro l k V nb hk ⟨u, hO⟩ hnb hob
    have hob := hob _ rfl
    have hlp : (firsts enc k).length < 1099511627776 := by rw [firsts_length]; omega
    have b0 : V.cell? ⟨nb, 0, none⟩ = some (.int .i64 (enc k).x) := by simp [World.cell?, hob]
    have b1 : V.cell? ⟨nb, 1, none⟩ = some (.int .i64 (enc k).y) := by simp [World.cell?, hob]
    have b2 : V.cell? ⟨nb, 2, none⟩ = some (.int .i64 (enc k).z) := by simp [World.cell?, hob]
    have hc := hO.box.cell
    have hSV : S0 < V.heap.size := hO.box.lt
    have hwV : W0.heap.size ≤ V.heap.size := hO.sz
    obtain ⟨oo, cc, hu⟩ := rowp_form hO.own
    subst hu
    have HPA : Hid (firsts enc (k + 1) = firsts enc k ++ [⟨(enc k).x, (enc k).y, (enc k).z⟩]) := firsts_succ enc k
    have HO : Hid _ := hO
    clear hO hob
    generalize (enc k).x = px at *
    generalize (enc k).y = py at *
    generalize (enc k).z = pz at *
    gi_wp2_with (gi_at_builtin; refine wpListIn_append_own _ rfl _ _ 22 rfl W0.heap.size 26 i0 _ 3 24 Try.underlying22 HI.out.1 HI.out.2.1 HI.out.2.2.1 HI.out.2.2.2 rfl (by decide) _ _ _ rfl (HO.out.alloc (.cells #[.int .i64 px, .int .i64 py, .int .i64 pz] 26)).own ⟨V.heap.size, 0, none⟩ 1 1 [.int .i64 px, .int .i64 py, .int .i64 pz] rfl rfl (news_at (heap_alloc_new V _)) (by intro u hu; simp at hu; rcases hu with rfl | rfl | rfl <;> rfl) (by unfold maxLen; omega) (by omega) (by simp; omega) ?_; intro u' V2 r8 g8 _; obtain ⟨gg8, kk8, rfl⟩ := ownsRow_succ r8; obtain ⟨hO2, hbx2⟩ := (HO.out.alloc (.cells #[.int .i64 px, .int .i64 py, .int .i64 pz] 26)).app (p := ⟨px, py, pz⟩) r8 g8; have q1 := hbx2.cell; have q2 := hbx2.frozen)
    rw [← HPA.out] at hO2
    exact ⟨((KeepsOthers.alloc V _).from _).trans ((HO.out.alloc _).keepsFrom g8 _), (KeepO.alloc _ V _).trans ((HO.out.alloc _).keep g8 (fun b hb => ⟨by have := hS b hb; omega, by have := hS b hb; omega⟩)), _, hO2⟩
  case done =>
    rintro D V hD ⟨u, hO⟩ hs hK
    have hc := hO.box.cell
    gi_wp2
    refine ⟨by simp, .inl ⟨_, _, rfl, run_takeDeferred hK, ?_⟩⟩
    have hO2 := hO.kept (n2 := w.heap.size) (Nat.le_refl _) (grownBy_putObj' V D (.deferred none)) (fun r e => by cases e; exact ⟨by omega, _, hK, rfl⟩)
    have hr2 := own_le hO2.own hO2.ln
    rw [firsts_length] at hr2
    exact ⟨_, results_tmp rfl _ _ _, u, rfl, hr2, hO2.grown, hSt N V _ _ hs (grownBy_putObj' V D (.deferred none)) (fun r e => by cases e; omega)⟩
  case stop =>
    rintro D c k V _ _ h _
    exact h.elim
end Go.Proofs.Ythcdpngkoejgpaa
