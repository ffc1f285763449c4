/- A region that draws its order, by one condition that every operation keeps: of each operation's value is told what holds of it, in the world as it is by then. -/
import Derived.Test.YtdbiikllcplmgaaReg
import Derived.Below
import Derived.Laws.Rows
namespace Go.Proofs.Ytdbiikllcplmgaa
open Go.RowKit
def Tidy2 : List Oper → Nat → Bool
  | [], _ => true
  | o :: rest, n => (o.after.all fun e => !(Region.binds .any e) || decide (e.on < n)) && Tidy2 rest (n + 1)
theorem tidy2_at : ∀ (l : List Oper) (n i : Nat) (o : Oper), Tidy2 l n = true → l[i]? = some o → ∀ e ∈ o.after, Region.binds .any e = true → e.on < n + i
  | [], _, _, _, _, h => by simp at h
  | x :: rest, n, 0, o, ht, h => by
    simp only [Tidy2, Bool.and_eq_true] at ht
    simp only [List.getElem?_cons_zero, Option.some.injEq] at h
    subst h
    intro e he hb
    have := (Array.all_eq_true_iff_forall_mem.1 ht.1) e he
    rw [hb] at this
    simpa using this
  | x :: rest, n, i + 1, o, ht, h => by
    simp only [Tidy2, Bool.and_eq_true] at ht
    intro e he hb
    have := tidy2_at rest (n + 1) i o ht.2 (by simpa using h) e he hb
    omega
theorem all_listed2 {ops : Array Oper} {listed : Array Bool} (ht : Tidy2 ops.toList 0 = true) (hr : Region.ready .any ops listed = []) (hs : listed.size = ops.size) : ∀ i, i < ops.size → listed.getD i false = true := by
  intro i
  induction i using Nat.strongRecOn with
  | _ i ih =>
    intro hi
    cases hl : listed.getD i false with
    | true => rfl
    | false =>
      exfalso
      have ho : ops[i]? = some ops[i] := Array.getElem?_eq_getElem hi
      have hmem : i ∈ Region.ready .any ops listed := by
        refine mem_ready.2 ⟨?_, ops[i], ho, fun e he hb => ?_⟩
        · have : i < listed.size := by omega
          simp [this] at hl ⊢; exact hl
        · have := tidy2_at ops.toList 0 i ops[i] ht (by simp [hi]) e he hb
          exact ih e.on (by omega) (by omega)
      rw [hr] at hmem
      simp at hmem
theorem tidy2_of : ∀ {l : List Oper} {n : Nat}, Tidy l n = true → Tidy2 l n = true
  | [], _, _ => rfl
  | o :: r, n, h => by
    simp only [Tidy, Bool.and_eq_true] at h
    simp only [Tidy2, Bool.and_eq_true]
    refine ⟨?_, tidy2_of h.2⟩
    rw [Array.all_eq_true'] at h ⊢
    exact fun e he => by rw [h.1 e he, Bool.or_true]
namespace RV
open Go.RowKit
set_option linter.unusedVariables false

/-- With one more. -/
def upd (γ : Nat → Value) (i : Nat) (v : Value) : Nat → Value := fun j => if j = i then v else γ j
theorem upd_self (γ : Nat → Value) (i : Nat) (v : Value) : upd γ i v i = v := by simp [upd]
theorem upd_ne (γ : Nat → Value) {i j : Nat} (v : Value) (h : j ≠ i) : upd γ i v j = γ j := by simp [upd, h]

section
variable {P : Program} {ops : Array Oper} {Q : Exit → Act → World → Prop}

/-- What holds while the region runs: γ is what the operations have left, R what is known of it, G what is known of the world. -/
structure Held (D : Nat → Option Tmp) (A : Nat → Nat → Prop) (R : Nat → Value → World → Prop) (G : (Nat → Value) → (Nat → Bool) → World → Prop) (a₀ : Act) (γ : Nat → Value) (L : Nat → Bool) (a : Act) (w : World) : Prop where
  defers : a.defers = a₀.defers
  size : a.tmps.size = a₀.tmps.size
  slot : ∀ (j : Nat) (t : Tmp), D j = some t → L j = true → a.tmps[t]? = some (γ j)
  holds : ∀ j : Nat, L j = true → R j (γ j) w
  early : ∀ t : Tmp, (∀ j : Nat, D j = some t → L j = false) → a.tmps[t]? = a₀.tmps[t]?
  closed : ∀ j e : Nat, A j e → L j = true → L e = true
  glob : G γ L w

theorem Held.rest {D : Nat → Option Tmp} {A : Nat → Nat → Prop} {R : Nat → Value → World → Prop} {G : (Nat → Value) → (Nat → Bool) → World → Prop} {a₀ : Act} {γ : Nat → Value} {L : Nat → Bool} {a : Act} {w : World} (h : Held D A R G a₀ γ L a w) (t : Tmp) (hno : ∀ j : Nat, D j ≠ some t) : a.tmps[t]? = a₀.tmps[t]? := h.early t fun j e => absurd e (hno j)

/-- What an operation must do. -/
def Does (P : Program) (Q : Exit → Act → World → Prop) (D : Nat → Option Tmp) (A : Nat → Nat → Prop) (R : Nat → Value → World → Prop) (G : (Nat → Value) → (Nat → Bool) → World → Prop) (a₀ : Act) (i : Nat) (o : Oper) : Prop :=
  ∀ (γ : Nat → Value) (L : Nat → Bool) (a : Act) (w : World), Held D A R G a₀ γ L a w → L i = false → (∀ e ∈ o.after, Region.binds .any e = true → L e.on = true) →
    (wantedD D o a = true → o.wp P a w (fun a' w' => ∃ v, a' = a.put o.dst v ∧ R i v w' ∧ (∀ j v, L j = true → R j v w → R j v w') ∧ G (upd γ i v) (more L i) w') Q) ∧
    (wantedD D o a = false → R i undef w ∧ G (upd γ i undef) (more L i) w)

/-- Each operation of a list from number n on. -/
def AllDo (P : Program) (Q : Exit → Act → World → Prop) (D : Nat → Option Tmp) (A : Nat → Nat → Prop) (R : Nat → Value → World → Prop) (G : (Nat → Value) → (Nat → Bool) → World → Prop) (a₀ : Act) : List Oper → Nat → Prop
  | [], _ => True
  | o :: rest, n => Does P Q D A R G a₀ n o ∧ AllDo P Q D A R G a₀ rest (n + 1)
theorem AllDo.cons {D : Nat → Option Tmp} {A : Nat → Nat → Prop} {R : Nat → Value → World → Prop} {G : (Nat → Value) → (Nat → Bool) → World → Prop} {a₀ : Act} {o : Oper} {rest : List Oper} (k : Nat) (h : Does P Q D A R G a₀ k o) (h' : AllDo P Q D A R G a₀ rest (k + 1)) : AllDo P Q D A R G a₀ (o :: rest) k := ⟨h, h'⟩
theorem AllDo.nil {D : Nat → Option Tmp} {A : Nat → Nat → Prop} {R : Nat → Value → World → Prop} {G : (Nat → Value) → (Nat → Bool) → World → Prop} {a₀ : Act} {k : Nat} : AllDo P Q D A R G a₀ [] k := trivial
theorem allDo_at {D : Nat → Option Tmp} {A : Nat → Nat → Prop} {R : Nat → Value → World → Prop} {G : (Nat → Value) → (Nat → Bool) → World → Prop} {a₀ : Act} : ∀ (l : List Oper) (n i : Nat) (o : Oper), AllDo P Q D A R G a₀ l n → l[i]? = some o → Does P Q D A R G a₀ (n + i) o
  | [], _, _, _, _, h => by simp at h
  | x :: rest, n, 0, o, ha, h => by
    simp only [List.getElem?_cons_zero, Option.some.injEq] at h
    subst h; exact ha.1
  | x :: rest, n, i + 1, o, ha, h => by
    have := allDo_at rest (n + 1) i o ha.2 (by simpa using h)
    rwa [show n + 1 + i = n + (i + 1) by omega] at this

/-- THE LAW. -/
theorem region_by2 {id : Nat} {a₀ : Act} {w : World} (R : Nat → Value → World → Prop) (G : (Nat → Value) → (Nat → Bool) → World → Prop) (hm : P.follows .mixedOrders = true)
    (ht : Tidy2 ops.toList 0 = true) (hn : Once ops.toList = true) (hfit : Fits ops.toList a₀.tmps.size = true)
    (h0 : G (fun _ => undef) (fun _ => false) w.drew) (hall : AllDo P Q (dstOf ops) (waitsFor ops) R G a₀ ops.toList 0)
    (hq : ∀ (γ : Nat → Value) (a : Act) (w : World) (L : Nat → Bool), (∀ j, j < ops.size → L j = true) → (∀ j, ops.size ≤ j → L j = false) → Held (dstOf ops) (waitsFor ops) R G a₀ γ L a w → Q .normal a w) :
    (Code.region id ops true).wp P Q a₀ w := by
  refine wp_region_any hm (wpAny_by (fun listed a w => ∃ γ, Held (dstOf ops) (waitsFor ops) R G a₀ γ (fun j => listed.getD j false) a w) ?_ ?_ _ _ _ _ (by simp) (by simp) ?_)
  · intro listed a w i hs hi hI
    obtain ⟨γ, hI⟩ := hI
    obtain ⟨hl, o, ho, hafter⟩ := mem_ready.1 hi
    have hlt : i < listed.size := by rw [hs]; exact (Array.getElem?_eq_some_iff.1 ho).1
    have hl' : listed.getD i false = false := by simp [hlt] at hl ⊢; exact hl
    have hd := allDo_at ops.toList 0 i o hall (by simpa using ho)
    rw [Nat.zero_add] at hd
    have hstep := hd γ _ a w hI hl' hafter
    have hdst : dstOf ops i = o.dst := by simp [dstOf, ho]
    suffices hmain : ∀ (a' : Act) (w' : World), (∃ v, a' = a.put o.dst v ∧ R i v w' ∧ (∀ j v, listed.getD j false = true → R j v w → R j v w') ∧ G (upd γ i v) (more (fun j => listed.getD j false) i) w') →
        ∃ γ, Held (dstOf ops) (waitsFor ops) R G a₀ γ (fun j => (listed.setIfInBounds i true).getD j false) a' w' by
      unfold wpOp
      simp only [ho]
      cases hw : Region.wanted o (yielded ops a.tmps)
      · rw [wantedD_eq] at hw
        obtain ⟨s1, s2⟩ := hstep.2 hw
        simp only [Bool.false_eq_true, if_false]
        exact hmain _ _ ⟨undef, rfl, s1, fun _ _ _ h => h, s2⟩
      · rw [wantedD_eq] at hw
        simp only [if_true]
        exact .inl (Oper.wp_mono hmain (hstep.1 hw))
    rintro a' w' ⟨v, rfl, hR, hkeep, hG⟩
    have hset : (fun j => (listed.setIfInBounds i true).getD j false) = more (fun j => listed.getD j false) i := by
      funext j
      unfold more
      by_cases e : j = i
      · subst e; simp [hlt]
      · rw [getD_set_ne false (Ne.symm e)]; simp [e]
    refine ⟨upd γ i v, ?_⟩
    rw [hset]
    refine ⟨?_, ?_, ?_, ?_, ?_, ?_, hG⟩
    · cases hd : o.dst <;> simp [Act.put, hI.defers]
    · cases hd : o.dst <;> simp [Act.put, hI.size]
    · intro j t hdt hlj
      by_cases e : j = i
      · subst e
        rw [hdst] at hdt
        have hfit' : t < a₀.tmps.size := by
          have := (List.all_eq_true.1 hfit) o (List.mem_of_getElem? (by simpa using ho))
          simpa [hdt] using this
        simp [Act.put, hdt, hI.size, hfit', upd]
      · have hlj' : listed.getD j false = true := by simpa [more, e] using hlj
        have hu := hI.slot j t hdt hlj'
        rw [upd_ne _ _ e, ← hu]
        cases hd : o.dst with
        | none => simp [Act.put]
        | some d =>
          have hne : d ≠ t := fun e' => e (dst_once hn hdt (by rw [hdst, hd, e']))
          simp only [Act.put]
          rw [Array.getElem?_setIfInBounds_ne hne]
    · intro j hlj
      by_cases e : j = i
      · subst e; rw [upd_self]; exact hR
      · have hlj' : listed.getD j false = true := by simpa [more, e] using hlj
        rw [upd_ne _ _ e]
        exact hkeep j _ hlj' (hI.holds j hlj')
    · intro t hno
      have hno' : ∀ j, dstOf ops j = some t → listed.getD j false = false := fun j e => by
        have := hno j e
        by_cases h : j = i
        · subst h; exact hl'
        · simpa [more, h] using this
      rw [← hI.early t hno']
      cases hd : o.dst with
      | none => simp [Act.put]
      | some d =>
        have hne : d ≠ t := fun e' => by have := hno i (by rw [hdst, hd, e']); simp [more] at this
        simp only [Act.put]
        rw [Array.getElem?_setIfInBounds_ne hne]
    · intro j e hA hj
      by_cases h : j = i
      · subst h
        obtain ⟨o', ho', x, hx, hb, rfl⟩ := hA
        obtain rfl : o = o' := by rw [ho] at ho'; exact Option.some.inj ho'
        have := hafter x hx hb
        simp only [more, this, Bool.or_true]
      · have := hI.closed j e hA (by simpa [more, h] using hj)
        simp only [more, this, Bool.or_true]
  · rintro listed a w hs hr ⟨γ, hI⟩
    exact hq γ a w _ (all_listed2 ht hr hs) (fun j hj => by have h9 : ¬ j < listed.size := (by omega); simp [h9]) hI
  · refine ⟨fun _ => undef, rfl, rfl, fun j t hd hl => ?_, fun j hl => ?_, fun _ _ => rfl, fun j e _ hj => ?_, ?_⟩
    · exfalso
      by_cases e : j < ops.size <;> simp [e] at hl
    · exfalso
      by_cases e : j < ops.size <;> simp [e] at hl
    · exfalso
      by_cases e : j < ops.size <;> simp [e] at hj
    · have : (fun j => (Array.replicate ops.size false).getD j false) = (fun _ => false) := by
        funext j
        by_cases e : j < ops.size <;> simp [e]
      rw [this]; exact h0
theorem region_by {id : Nat} {a₀ : Act} {w : World} (R : Nat → Value → World → Prop) (G : (Nat → Value) → (Nat → Bool) → World → Prop) (hm : P.follows .mixedOrders = true)
    (ht : Tidy ops.toList 0 = true) (hn : Once ops.toList = true) (hfit : Fits ops.toList a₀.tmps.size = true)
    (h0 : G (fun _ => undef) (fun _ => false) w.drew) (hall : AllDo P Q (dstOf ops) (waitsFor ops) R G a₀ ops.toList 0)
    (hq : ∀ (γ : Nat → Value) (a : Act) (w : World) (L : Nat → Bool), (∀ j, j < ops.size → L j = true) → (∀ j, ops.size ≤ j → L j = false) → Held (dstOf ops) (waitsFor ops) R G a₀ γ L a w → Q .normal a w) :
    (Code.region id ops true).wp P Q a₀ w :=
  region_by2 R G hm (tidy2_of ht) hn hfit h0 hall hq

variable {D : Nat → Option Tmp} {A : Nat → Nat → Prop} {R : Nat → Value → World → Prop} {G : (Nat → Value) → (Nat → Bool) → World → Prop} {a₀ : Act}

/-- An operation that computes. -/
theorem does_pure {i : Nat} {o : Oper} (hG : ∀ γ v L w, L i = false → G γ L w → G (upd γ i v) (more L i) w)
    (h : ∀ γ L a w, Held D A R G a₀ γ L a w → L i = false → (∀ e ∈ o.after, Region.binds .any e = true → L e.on = true) → ∃ v, (execOp a.eval o).run P w = .ok (.value v) w ∧ R i v w) (hgd : o.guard = none := by rfl) : Does P Q D A R G a₀ i o := by
  intro γ L a w hH hl haft
  refine ⟨fun _ => ?_, fun hw => by simp [wantedD, hgd] at hw⟩
  obtain ⟨v, hr, hR⟩ := h γ L a w hH hl haft
  unfold Oper.wp
  rw [hr]
  exact ⟨v, rfl, hR, fun _ _ _ h => h, hG _ _ _ _ hl hH.glob⟩
/-- An operation that touches the world. -/
theorem does_step {i : Nat} {o : Oper}
    (h : ∀ γ L a w, Held D A R G a₀ γ L a w → L i = false → (∀ e ∈ o.after, Region.binds .any e = true → L e.on = true) → ∃ v w', (execOp a.eval o).run P w = .ok (.value v) w' ∧ R i v w' ∧ (∀ j v, L j = true → R j v w → R j v w') ∧ G (upd γ i v) (more L i) w') (hgd : o.guard = none := by rfl) : Does P Q D A R G a₀ i o := by
  intro γ L a w hH hl haft
  refine ⟨fun _ => ?_, fun hw => by simp [wantedD, hgd] at hw⟩
  obtain ⟨v, w', hr, hR, hk, hg⟩ := h γ L a w hH hl haft
  unfold Oper.wp
  rw [hr]
  exact ⟨v, rfl, hR, hk, hg⟩
/-- A store. -/
theorem does_store {i : Nat} {o : Oper}
    (h : ∀ γ L a w, Held D A R G a₀ γ L a w → L i = false → (∀ e ∈ o.after, Region.binds .any e = true → L e.on = true) → ∃ w', (execOp a.eval o).run P w = .ok .skip w' ∧ R i undef w' ∧ (∀ j v, L j = true → R j v w → R j v w') ∧ G (upd γ i undef) (more L i) w') (hgd : o.guard = none := by rfl) : Does P Q D A R G a₀ i o := by
  intro γ L a w hH hl haft
  refine ⟨fun _ => ?_, fun hw => by simp [wantedD, hgd] at hw⟩
  obtain ⟨w', hr, hR, hk, hg⟩ := h γ L a w hH hl haft
  unfold Oper.wp
  rw [hr]
  exact ⟨undef, rfl, hR, hk, hg⟩
/-- A call. -/
theorem does_call {i : Nat} {o : Oper}
    (h : ∀ γ L a w, Held D A R G a₀ γ L a w → L i = false → (∀ e ∈ o.after, Region.binds .any e = true → L e.on = true) → ∃ f args, (execOp a.eval o).run P w = .ok (.enter f args) w ∧ Calls P f args w fun e w' => ∃ v, e = .returned v ∧ R i v w' ∧ (∀ j v, L j = true → R j v w → R j v w') ∧ G (upd γ i v) (more L i) w') (hgd : o.guard = none := by rfl) : Does P Q D A R G a₀ i o := by
  intro γ L a w hH hl haft
  refine ⟨fun _ => ?_, fun hw => by simp [wantedD, hgd] at hw⟩
  obtain ⟨f, args, hr, hc⟩ := h γ L a w hH hl haft
  unfold Oper.wp
  rw [hr]
  refine Calls.mono hc ?_
  rintro e w' ⟨v, rfl, hR, hk, hg⟩
  exact ⟨v, rfl, hR, hk, hg⟩
/-- An operation whose guard's slot says that it is wanted. -/
theorem does_guarded {i : Nat} {o : Oper} {g : Nat} {b : Bool} {t : Tmp} (hgd : o.guard = some (g, b)) (hD : D g = some t) (hs : ∀ v w, R g v w → v = .bool b) (he : ⟨g, .guard⟩ ∈ o.after)
    (h : Does P Q D A R G a₀ i { o with guard := none }) : Does P Q D A R G a₀ i o := by
  intro γ L a w hH hl haft
  have hL := haft ⟨g, .guard⟩ he rfl
  have hslot := hH.slot g t hD hL
  rw [hs _ _ (hH.holds g hL)] at hslot
  refine ⟨fun _ => (h γ L a w hH hl haft).1 rfl, fun hw => ?_⟩
  simp [wantedD, hgd, hD, hslot] at hw
/-- An operation whose guard's slot says that it is not wanted. -/
theorem does_skip {i : Nat} {o : Oper} {g : Nat} {b : Bool} {t : Tmp} (hgd : o.guard = some (g, b)) (hD : D g = some t) (hs : ∀ v w, R g v w → v = .bool (!b)) (he : ⟨g, .guard⟩ ∈ o.after)
    (hi : ∀ w, R i undef w) (hG : ∀ γ v L w, L i = false → G γ L w → G (upd γ i v) (more L i) w) : Does P Q D A R G a₀ i o := by
  intro γ L a w hH hl haft
  have hL := haft ⟨g, .guard⟩ he rfl
  have hslot := hH.slot g t hD hL
  rw [hs _ _ (hH.holds g hL)] at hslot
  refine ⟨fun hw => ?_, fun _ => ⟨hi _, hG _ _ _ _ hl hH.glob⟩⟩
  simp [wantedD, hgd, hD, hslot] at hw
theorem not_yet {a : Act} {γ : Nat → Value} {L : Nat → Bool} {w : World} (hH : Held D A R G a₀ γ L a w) {i j : Nat} (hA : A j i) (hl : L i = false) : L j = false := by
  cases h : L j with
  | false => rfl
  | true => rw [hH.closed j i hA h] at hl; cases hl
end

theorem more_ne {L : Nat → Bool} {i j : Nat} (h : j ≠ i) : more L i j = L j := by simp [more, h]
theorem more_self {L : Nat → Bool} {i : Nat} : more L i i = true := by simp [more]
theorem dst_free {ops : Array Oper} {t : Tmp} (h : (ops.toList.all fun o => decide (o.dst ≠ some t)) = true) : ∀ j, dstOf ops j ≠ some t := by
  intro j e
  obtain ⟨o, ho, hd⟩ := Option.bind_eq_some_iff.1 e
  have := (List.all_eq_true.1 h) o (List.mem_of_getElem? (by simpa using ho))
  simp [hd] at this

def putAll (v : Nat → Value) : List Oper → Nat → Act → Act
  | [], _, a => a
  | o :: r, n, a => putAll v r (n + 1) (a.put o.dst (v n))
theorem putAll_defers (v : Nat → Value) : ∀ (l : List Oper) (n : Nat) (a : Act), (putAll v l n a).defers = a.defers
  | [], _, _ => rfl
  | o :: r, n, a => by
    rw [putAll, putAll_defers v r]
    cases o.dst <;> simp [Act.put]
theorem putAll_other (v : Nat → Value) {t : Tmp} : ∀ (l : List Oper) (n : Nat) (a : Act), (∀ o ∈ l, o.dst ≠ some t) → (putAll v l n a).tmps[t]? = a.tmps[t]?
  | [], _, _, _ => rfl
  | o :: r, n, a, h => by
    rw [putAll, putAll_other v r _ _ (fun x hx => h x (List.mem_cons_of_mem _ hx))]
    have h0 := h o (by simp)
    cases hd : o.dst with
    | none => simp [Act.put]
    | some d =>
      have hne : d ≠ t := fun e => h0 (by rw [hd, e])
      simp only [Act.put]
      rw [Array.getElem?_setIfInBounds_ne hne]
theorem putAll_at (v : Nat → Value) {t : Tmp} : ∀ (l : List Oper) (n j : Nat) (o : Oper) (a : Act), (l.filterMap (·.dst)).Nodup → l[j]? = some o → o.dst = some t → t < a.tmps.size → (putAll v l n a).tmps[t]? = some (v (n + j))
  | [], _, _, _, _, _, h, _, _ => by simp at h
  | x :: r, n, 0, o, a, hn, h, hd, ht => by
    simp only [List.getElem?_cons_zero, Option.some.injEq] at h
    subst h
    rw [List.filterMap_cons, hd] at hn
    have hno := (List.nodup_cons.1 hn).1
    rw [putAll, putAll_other v r _ _ (fun o ho e => hno (List.mem_filterMap.2 ⟨o, ho, e⟩))]
    simp [Act.put, hd, ht]
  | x :: r, n, j + 1, o, a, hn, h, hd, ht => by
    have hr : (r.filterMap (·.dst)).Nodup := by
      rw [List.filterMap_cons] at hn
      cases hx : x.dst with
      | none => simpa [hx] using hn
      | some d => rw [hx] at hn; exact (List.nodup_cons.1 hn).2
    rw [putAll, putAll_at v r (n + 1) j o _ hr (by simpa using h) hd (by cases hx : x.dst <;> simpa [Act.put] using ht)]
    congr 2; omega
/-- Behind the region the frame is the first one with every value put where it belongs. -/
theorem held_act {ops : Array Oper} {A : Nat → Nat → Prop} {R : Nat → Value → World → Prop} {G : (Nat → Value) → (Nat → Bool) → World → Prop} {a₀ a : Act} {γ : Nat → Value} {L : Nat → Bool} {w : World}
    (h : Held (dstOf ops) A R G a₀ γ L a w) (hL : ∀ j, j < ops.size → L j = true) (hn : Once ops.toList = true) (hf : Fits ops.toList a₀.tmps.size = true) : a = putAll γ ops.toList 0 a₀ := by
  have hd : a.defers = (putAll γ ops.toList 0 a₀).defers := by rw [putAll_defers]; exact h.defers
  have ht : a.tmps = (putAll γ ops.toList 0 a₀).tmps := by
    apply Array.ext_getElem?
    intro t
    by_cases hx : ∃ (j : Nat) (o : Oper), ops.toList[j]? = some o ∧ o.dst = some t
    · obtain ⟨j, o, ho, hd⟩ := hx
      have hfit : t < a₀.tmps.size := by
        have := (List.all_eq_true.1 hf) o (List.mem_of_getElem? ho)
        simpa [hd] using this
      have ho' : ops[j]? = some o := by simpa using ho
      rw [putAll_at γ ops.toList 0 j o a₀ (of_decide_eq_true hn) ho hd hfit, Nat.zero_add]
      exact h.slot j t (by simp [dstOf, ho', hd]) (hL j (Array.getElem?_eq_some_iff.1 ho').1)
    · rw [putAll_other γ ops.toList 0 a₀ (fun o ho e => by
        obtain ⟨j, hj⟩ := List.getElem?_of_mem ho
        exact hx ⟨j, o, hj, e⟩)]
      refine h.rest t (fun j e => ?_)
      obtain ⟨o, ho, hd⟩ := Option.bind_eq_some_iff.1 e
      exact hx ⟨j, o, by simpa using ho, hd⟩
  cases a
  cases hp : putAll γ ops.toList 0 a₀
  rw [hp] at hd ht
  simp only at hd ht
  rw [hd, ht]

/-- A box that operation i makes and operation j fills. -/
def Pend (W0 : World) (T i j : Nat) (fin : Array Value) (γ : Nat → Value) (L : Nat → Bool) (w : World) : Prop :=
  L i = true → ∃ (b : Nat) (cs : Array Value), γ i = .pointer (some ⟨b, 0, none⟩) ∧ W0.heap.size ≤ b ∧ w.heap[b]? = some (.cells cs T (0, 0)) ∧ cs.size = fin.size ∧ (L j = true → cs = fin)
section
variable {W0 : World} {T i j : Nat} {fin : Array Value} {γ : Nat → Value} {L : Nat → Bool} {w w' : World}
theorem Pend.start (h : L i = false) : Pend W0 T i j fin γ L w := fun e => by rw [h] at e; cases e
theorem Pend.other (h : Pend W0 T i j fin γ L w) {k : Nat} (v : Value) (hi : i ≠ k) (hj : j ≠ k) : Pend W0 T i j fin (upd γ k v) (more L k) w := by
  intro hl
  rw [more_ne hi] at hl
  obtain ⟨b, cs, h1, h2, h3, h4, h5⟩ := h hl
  exact ⟨b, cs, by rw [upd_ne _ _ hi]; exact h1, h2, h3, h4, fun e => h5 (by rw [more_ne hj] at e; exact e)⟩
theorem Pend.below (h : Pend W0 T i j fin γ L w) (hb : Below w.heap.size w w') : Pend W0 T i j fin γ L w' := by
  intro hl
  obtain ⟨b, cs, h1, h2, h3, h4, h5⟩ := h hl
  exact ⟨b, cs, h1, h2, (hb.block b (Array.getElem?_eq_some_iff.1 h3).1).trans h3, h4, h5⟩
theorem Pend.made (cs : Array Value) (hs : cs.size = fin.size) (hw : W0.heap.size ≤ w.heap.size) (hj : L j = false) (hij : j ≠ i) : Pend W0 T i j fin (upd γ i (.pointer (some ⟨w.heap.size, 0, none⟩))) (more L i) (w.alloc (.cells cs T (0, 0))) := by
  intro _
  exact ⟨w.heap.size, cs, by rw [upd_self], hw, heap_alloc_new _ _, hs, fun e => by rw [more_ne hij, hj] at e; cases e⟩
theorem Pend.filled {b : Nat} (hi : γ i = .pointer (some ⟨b, 0, none⟩)) (hb : W0.heap.size ≤ b) (hx : w'.heap[b]? = some (.cells fin T (0, 0))) (hij : i ≠ j) (v : Value) : Pend W0 T i j fin (upd γ j v) (more L j) w' := by
  intro _
  exact ⟨b, fin, by rw [upd_ne _ _ hij]; exact hi, hb, hx, rfl, fun _ => rfl⟩
end
end RV
end Go.Proofs.Ytdbiikllcplmgaa
