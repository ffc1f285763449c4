/- (With guards.) A region that draws its order, in a round of a range over a function too: by one condition that every operation keeps, whatever order is drawn. -/
import Derived.Test.YtbhdfjoagajipaaGreatBBW1
import Derived.OrdersIn
import Derived.Test.YtbhdfjoagajipaaGreatBBW2
namespace Go.Proofs.YtbhdfjoagajipaaGreat
namespace RI
open Go.RowKit Go.Shelf

section
variable {F : Fence} {n : Nat} {P : Program} {ops : Array Oper} {Q : Exit → Act → World → Prop} {md : Region.Mode}

theorem wpAnyIn_by (I : Array Bool → Act → World → Prop)
    (hstep : ∀ listed a w i, listed.size = ops.size → i ∈ Region.ready md ops listed → I listed a w → wpOpIn F n P ops Q i (I (listed.setIfInBounds i true)) a w)
    (hdone : ∀ listed a w, listed.size = ops.size → Region.ready md ops listed = [] → I listed a w → Q .normal a w) :
    ∀ (fuel : Nat) (listed : Array Bool) (a : Act) (w : World), listed.size = ops.size → listed.toList.count false ≤ fuel → I listed a w → wpAnyIn F n P md ops Q fuel listed a w
  | 0, listed, a, w, hs, hf, h => by
    have hr : Region.ready md ops listed = [] := by
      apply List.eq_nil_iff_forall_not_mem.2
      intro i hi
      obtain ⟨h0, o, ho, _⟩ := mem_ready.1 hi
      have hlt : i < listed.size := by rw [hs]; exact (Array.getElem?_eq_some_iff.1 ho).1
      have hm : false ∈ listed.toList := by
        have : listed[i] = false := by simpa [hlt] using h0
        rw [← this]; exact Array.getElem_mem_toList hlt
      have := List.count_pos_iff.2 hm
      omega
    exact ⟨hr, hdone _ _ _ hs hr h⟩
  | fuel + 1, listed, a, w, hs, hf, h => by
    refine ⟨fun hr => hdone _ _ _ hs hr h, fun i hi => ?_⟩
    have hlt : i < listed.size := by
      obtain ⟨h0, o, ho, _⟩ := mem_ready.1 hi
      rw [hs]; exact (Array.getElem?_eq_some_iff.1 ho).1
    have hfalse : listed[i] = false := by
      have := (mem_ready.1 hi).1
      simpa [hlt] using this
    refine wpOpIn_mono (fun a' w' h' => ?_) (hstep _ _ _ _ hs hi h)
    refine wpAnyIn_by I hstep hdone fuel _ a' w' (by simpa using hs) ?_ h'
    have hc : (listed.toList.set i true).count false + 1 = listed.toList.count false := by
      have hl : i < listed.toList.length := by simpa using hlt
      rw [List.count_set hl]
      have : listed.toList[i] = false := by simpa using hfalse
      simp only [this, beq_self_eq_true, if_true]
      have hm : false ∈ listed.toList := by rw [← this]; exact List.getElem_mem hl
      have := List.count_pos_iff.2 hm
      have e : (true == false) = false := rfl
      simp only [e, Bool.false_eq_true, if_false]
      omega
    have : (listed.setIfInBounds i true).toList = listed.toList.set i true := by simp
    rw [this]; omega

/-- Every operation waits for those alone that stand ahead of it. -/
def Tidy : List Oper → Nat → Bool
  | [], _ => true
  | o :: rest, n => (o.after.all fun e => decide (e.on < n)) && Tidy rest (n + 1)

theorem tidy_at : ∀ (l : List Oper) (n i : Nat) (o : Oper), Tidy l n = true → l[i]? = some o → ∀ e ∈ o.after, e.on < n + i
  | [], _, _, _, _, h => by simp at h
  | x :: rest, n, 0, o, ht, h => by
    simp only [Tidy, Bool.and_eq_true] at ht
    simp only [List.getElem?_cons_zero, Option.some.injEq] at h
    subst h
    intro e he
    have := (Array.all_eq_true_iff_forall_mem.1 ht.1) e he
    simpa using this
  | x :: rest, n, i + 1, o, ht, h => by
    simp only [Tidy, Bool.and_eq_true] at ht
    intro e he
    have := tidy_at rest (n + 1) i o ht.2 (by simpa using h) e he
    omega

/-- Where nothing may come up any more, all have come up. -/
theorem all_listed {listed : Array Bool} (ht : Tidy ops.toList 0 = true) (hr : Region.ready md ops listed = []) (hs : listed.size = ops.size) : ∀ i, i < ops.size → listed.getD i false = true := by
  intro i
  induction i using Nat.strongRecOn with
  | _ i ih =>
    intro hi
    cases hl : listed.getD i false with
    | true => rfl
    | false =>
      exfalso
      have ho : ops[i]? = some ops[i] := Array.getElem?_eq_getElem hi
      have hmem : i ∈ Region.ready md ops listed := by
        refine mem_ready.2 ⟨?_, ops[i], ho, fun e he _ => ?_⟩
        · have : i < listed.size := by omega
          simp [this] at hl ⊢; exact hl
        · have := tidy_at ops.toList 0 i ops[i] ht (by simp [hi]) e he
          exact ih e.on (by omega) (by omega)
      rw [hr] at hmem
      simp at hmem

/-- Where an operation leaves its value. -/
def dstOf (ops : Array Oper) (j : Nat) : Option Tmp := (ops[j]?).bind (·.dst)
/-- For whom an operation waits. -/
def waitsFor (ops : Array Oper) (j e : Nat) : Prop := ∃ o, ops[j]? = some o ∧ ∃ x ∈ o.after, Region.binds .any x = true ∧ x.on = e

/-- The slots that the region writes, each by one operation alone. -/
def Once (ops : List Oper) : Bool := (ops.filterMap (·.dst)).Nodup

/-- What holds while the region runs: what has come up has left the value val (γ tells where what the region makes lies); the other slots are as they were; G holds of the world. -/
structure Held (D : Nat → Option Tmp) (A : Nat → Nat → Prop) (val : (Nat → Nat) → Nat → Value) (G : (Nat → Nat) → (Nat → Bool) → World → Prop) (a₀ : Act) (γ : Nat → Nat) (L : Nat → Bool) (a : Act) (w : World) : Prop where
  defers : a.defers = a₀.defers
  size : a.tmps.size = a₀.tmps.size
  slot : ∀ (j : Nat) (t : Tmp), D j = some t → L j = true → a.tmps[t]? = some (val γ j)
  rest : ∀ t : Tmp, (∀ j : Nat, D j ≠ some t) → a.tmps[t]? = a₀.tmps[t]?
  closed : ∀ j e : Nat, A j e → L j = true → L e = true
  glob : G γ L w

/-- With one more. -/
def more (L : Nat → Bool) (i : Nat) : Nat → Bool := fun j => decide (j = i) || L j

/-- Is an operation carried out at all? (Its guard's slot tells.) -/
def wantedD (D : Nat → Option Tmp) (o : Oper) (a : Act) : Bool :=
  match o.guard with
  | none => true
  | some (g, b) => (match (D g).bind (a.tmps[·]?) with | some (.bool x) => some x | _ => none) == some b

theorem wantedD_eq (ops : Array Oper) (o : Oper) (a : Act) : Region.wanted o (yielded ops a.tmps) = wantedD (dstOf ops) o a := by
  unfold Region.wanted wantedD yielded dstOf
  cases o.guard <;> rfl

/-- What an operation must do. -/
def Does (F : Fence) (n : Nat) (P : Program) (Q : Exit → Act → World → Prop) (D : Nat → Option Tmp) (A : Nat → Nat → Prop) (val : (Nat → Nat) → Nat → Value) (G : (Nat → Nat) → (Nat → Bool) → World → Prop) (a₀ : Act) (i : Nat) (o : Oper) : Prop :=
  ∀ (γ : Nat → Nat) (L : Nat → Bool) (a : Act) (w : World), Held D A val G a₀ γ L a w → L i = false → (∀ e ∈ o.after, Region.binds .any e = true → L e.on = true) →
    (wantedD D o a = true → o.wpIn F n P a w (fun a' w' => ∃ v γ', a' = a.put o.dst v ∧ (∀ j, L j = true → val γ' j = val γ j) ∧ (o.dst.isSome = true → v = val γ' i) ∧ G γ' (more L i) w') Q) ∧
    (wantedD D o a = false → (o.dst.isSome = true → undef = val γ i) ∧ G γ (more L i) w)

theorem dst_once (hn : Once ops.toList = true) {i j : Nat} {t : Tmp} (h : dstOf ops i = some t) (h' : dstOf ops j = some t) : i = j := by
  have key : ∀ (l : List Oper), (l.filterMap (·.dst)).Nodup → ∀ (i j : Nat) (o o' : Oper), l[i]? = some o → l[j]? = some o' → o.dst = some t → o'.dst = some t → i = j := by
    intro l
    induction l with
    | nil => intro _ i j o o' hi; simp at hi
    | cons x rest ih =>
      intro hnd i j o o' hi hj h h'
      have hrest : (rest.filterMap (·.dst)).Nodup := by
        rw [List.filterMap_cons] at hnd
        cases hx : x.dst with
        | none => simpa [hx] using hnd
        | some d => rw [hx] at hnd; exact (List.nodup_cons.1 hnd).2
      have hno : x.dst = some t → t ∉ rest.filterMap (·.dst) := by
        intro hx
        rw [List.filterMap_cons, hx] at hnd
        exact (List.nodup_cons.1 hnd).1
      match i, j with
      | 0, 0 => rfl
      | 0, j + 1 =>
        simp only [List.getElem?_cons_zero, Option.some.injEq] at hi
        subst hi
        exact absurd (List.mem_filterMap.2 ⟨o', List.mem_of_getElem? (by simpa using hj), h'⟩) (hno h)
      | i + 1, 0 =>
        simp only [List.getElem?_cons_zero, Option.some.injEq] at hj
        subst hj
        exact absurd (List.mem_filterMap.2 ⟨o, List.mem_of_getElem? (by simpa using hi), h⟩) (hno h')
      | i + 1, j + 1 => have := ih hrest i j o o' (by simpa using hi) (by simpa using hj) h h'; omega
  unfold dstOf at h h'
  obtain ⟨o, ho, hd⟩ := Option.bind_eq_some_iff.1 h
  obtain ⟨o', ho', hd'⟩ := Option.bind_eq_some_iff.1 h'
  exact key ops.toList (of_decide_eq_true hn) i j o o' (by simpa using ho) (by simpa using ho') hd hd'

/-- Each operation of a list from number n on. -/
def AllDo (F : Fence) (n : Nat) (P : Program) (Q : Exit → Act → World → Prop) (D : Nat → Option Tmp) (A : Nat → Nat → Prop) (val : (Nat → Nat) → Nat → Value) (G : (Nat → Nat) → (Nat → Bool) → World → Prop) (a₀ : Act) : List Oper → Nat → Prop
  | [], _ => True
  | o :: rest, k => Does F n P Q D A val G a₀ k o ∧ AllDo F n P Q D A val G a₀ rest (k + 1)

theorem allDo_at {D : Nat → Option Tmp} {A : Nat → Nat → Prop} {val : (Nat → Nat) → Nat → Value} {G : (Nat → Nat) → (Nat → Bool) → World → Prop} {a₀ : Act} : ∀ (l : List Oper) (k i : Nat) (o : Oper), AllDo F n P Q D A val G a₀ l k → l[i]? = some o → Does F n P Q D A val G a₀ (k + i) o
  | [], _, _, _, _, h => by simp at h
  | x :: rest, k, 0, o, ha, h => by
    simp only [List.getElem?_cons_zero, Option.some.injEq] at h
    subst h; exact ha.1
  | x :: rest, k, i + 1, o, ha, h => by
    have := allDo_at rest (k + 1) i o ha.2 (by simpa using h)
    rwa [show k + 1 + i = k + (i + 1) by omega] at this

/-- All slots that the region writes are there. -/
def Fits (ops : List Oper) (n : Nat) : Bool := ops.all fun o => match o.dst with | some t => decide (t < n) | none => true

/-- THE LAW. -/
theorem region_by (hF : ∀ f, F.fn f) {id : Nat} {a₀ : Act} {w : World} (val : (Nat → Nat) → Nat → Value) (G : (Nat → Nat) → (Nat → Bool) → World → Prop) (hm : P.follows .mixedOrders = true)
    (ht : Tidy ops.toList 0 = true) (hn : Once ops.toList = true) (hfit : Fits ops.toList a₀.tmps.size = true)
    (γ₀ : Nat → Nat) (h0 : G γ₀ (fun _ => false) w.drew) (hall : AllDo F n P Q (dstOf ops) (waitsFor ops) val G a₀ ops.toList 0)
    (hq : ∀ (γ : Nat → Nat) (a : Act) (w : World) (L : Nat → Bool), (∀ j, j < ops.size → L j = true) → (∀ j, ops.size ≤ j → L j = false) → Held (dstOf ops) (waitsFor ops) val G a₀ γ L a w → Q .normal a w) :
    (Code.region id ops true).wpIn F n P Q a₀ w := by
  refine wpIn_region_any hm (wpAnyIn_by (fun listed a w => ∃ γ, Held (dstOf ops) (waitsFor ops) val G a₀ γ (fun j => listed.getD j false) a w) ?_ ?_ _ _ _ _ (by simp) (by simp) ?_)
  · intro listed a w i hs hi hI
    obtain ⟨γ, hI⟩ := hI
    obtain ⟨hl, o, ho, hafter⟩ := mem_ready.1 hi
    have hlt : i < listed.size := by rw [hs]; exact (Array.getElem?_eq_some_iff.1 ho).1
    have hl' : listed.getD i false = false := by simp [hlt] at hl ⊢; exact hl
    have hd := allDo_at ops.toList 0 i o hall (by simpa using ho)
    rw [Nat.zero_add] at hd
    have hstep := hd γ _ a w hI hl' hafter
    have hdst : dstOf ops i = o.dst := by simp [dstOf, ho]
    suffices hmain : ∀ (a' : Act) (w' : World), (∃ v γ', a' = a.put o.dst v ∧ (∀ j, listed.getD j false = true → val γ' j = val γ j) ∧ (o.dst.isSome = true → v = val γ' i) ∧ G γ' (more (fun j => listed.getD j false) i) w') →
        ∃ γ, Held (dstOf ops) (waitsFor ops) val G a₀ γ (fun j => (listed.setIfInBounds i true).getD j false) a' w' by
      unfold wpOpIn
      simp only [ho]
      cases hw : Region.wanted o (yielded ops a.tmps)
      · rw [wantedD_eq] at hw
        obtain ⟨s1, s2⟩ := hstep.2 hw
        simp only [Bool.false_eq_true, if_false]
        exact ⟨fun f _ => hF f, hmain _ _ ⟨undef, γ, rfl, fun _ _ => rfl, s1, s2⟩⟩
      · rw [wantedD_eq] at hw
        simp only [if_true]
        exact Oper.wpIn_mono hmain (hstep.1 hw)
    rintro a' w' ⟨v, γ', rfl, hkeep, hJ, hG⟩
    have hset : (fun j => (listed.setIfInBounds i true).getD j false) = more (fun j => listed.getD j false) i := by
      funext j
      unfold more
      by_cases e : j = i
      · subst e; simp [hlt]
      · rw [getD_set_ne false (Ne.symm e)]; simp [e]
    refine ⟨γ', ?_⟩
    rw [hset]
    refine ⟨?_, ?_, ?_, ?_, ?_, hG⟩
    · cases hd : o.dst <;> simp [Act.put, hI.defers]
    · cases hd : o.dst <;> simp [Act.put, hI.size]
    · intro j t hdt hlj
      by_cases e : j = i
      · subst e
        rw [hdst] at hdt
        rw [← hJ (by simp [hdt])]
        have hfit' : t < a₀.tmps.size := by
          have := (List.all_eq_true.1 hfit) o (List.mem_of_getElem? (by simpa using ho))
          simpa [hdt] using this
        simp [Act.put, hdt, hI.size, hfit']
      · have hlj' : listed.getD j false = true := by simpa [more, e] using hlj
        have hu := hI.slot j t hdt hlj'
        rw [hkeep j hlj', ← hu]
        cases hd : o.dst with
        | none => simp [Act.put]
        | some d =>
          have hne : d ≠ t := fun e' => e (dst_once hn hdt (by rw [hdst, hd, e']))
          simp only [Act.put]
          rw [Array.getElem?_setIfInBounds_ne hne]
    · intro t hno
      rw [← hI.rest t hno]
      cases hd : o.dst with
      | none => simp [Act.put]
      | some d =>
        have hne : d ≠ t := fun e' => hno i (by rw [hdst, hd, e'])
        simp only [Act.put]
        rw [Array.getElem?_setIfInBounds_ne hne]
    · intro j e hA hj
      by_cases h : j = i
      · subst h
        obtain ⟨o', ho', x, hx, hb, rfl⟩ := hA
        obtain rfl : o = o' := by rw [ho] at ho'; exact Option.some.inj ho'
        have := hafter x hx hb
        simp only [more, this, Bool.or_true]
      · have := hI.closed j e hA (by simpa [more, h] using hj)
        simp only [more, this, Bool.or_true]
  · rintro listed a w hs hr ⟨γ, hI⟩
    exact hq γ a w _ (all_listed ht hr hs) (fun j hj => by have : ¬ j < listed.size := by omega
                                                           simp [this]) hI
  · refine ⟨γ₀, rfl, rfl, fun j t hd hl => ?_, fun _ _ => rfl, fun j e _ hj => ?_, ?_⟩
    · exfalso
      by_cases e : j < ops.size <;> simp [e] at hl
    · exfalso
      by_cases e : j < ops.size <;> simp [e] at hj
    · have : (fun j => (Array.replicate ops.size false).getD j false) = (fun _ => false) := by
        funext j
        by_cases e : j < ops.size <;> simp [e]
      rw [this]; exact h0

/-- An operation that computes. -/
theorem does_pure (hF : ∀ f, F.fn f) {D : Nat → Option Tmp} {A : Nat → Nat → Prop} {val : (Nat → Nat) → Nat → Value} {G : (Nat → Nat) → (Nat → Bool) → World → Prop} {a₀ : Act} {i : Nat} {o : Oper} (hgd : o.guard = none)
    (hG : ∀ γ L w, G γ L w → G γ (more L i) w)
    (h : ∀ γ L a w, Held D A val G a₀ γ L a w → L i = false → (∀ e ∈ o.after, Region.binds .any e = true → L e.on = true) → (o.semAt F.round a.eval).run P w = .ok (.value (val γ i)) w) : Does F n P Q D A val G a₀ i o := by
  intro γ L a w hH hl hA
  refine ⟨fun _ => ⟨fun f _ => hF f, ?_⟩, fun hw => ?_⟩
  · rw [h γ L a w hH hl hA]
    exact ⟨_, γ, rfl, fun _ _ => rfl, fun _ => rfl, hG _ _ _ hH.glob⟩
  · unfold wantedD at hw; rw [hgd] at hw; cases hw
/-- A call. -/
theorem does_call (hF : ∀ f, F.fn f) (hn : 1 ≤ n) {D : Nat → Option Tmp} {A : Nat → Nat → Prop} {val : (Nat → Nat) → Nat → Value} {G : (Nat → Nat) → (Nat → Bool) → World → Prop} {a₀ : Act} {i : Nat} {o : Oper} (hgd : o.guard = none)
    (h : ∀ γ L a w, Held D A val G a₀ γ L a w → L i = false → (∀ e ∈ o.after, Region.binds .any e = true → L e.on = true) → ∃ f args, (o.semAt F.round a.eval).run P w = .ok (.enter f args) w ∧ CallsIn F (n - 1) P f args w fun e w' => ∃ v, e = .returned v ∧ (o.dst.isSome = true → v = val γ i) ∧ G γ (more L i) w') : Does F n P Q D A val G a₀ i o := by
  intro γ L a w hH hl hA
  refine ⟨fun _ => ⟨fun f _ => hF f, ?_⟩, fun hw => ?_⟩
  · obtain ⟨f, args, hr, hc⟩ := h γ L a w hH hl hA
    rw [hr]
    refine ⟨fun _ => hn, hc.mono ?_⟩
    rintro e w' ⟨v, rfl, hv, hg⟩
    exact ⟨v, γ, rfl, fun _ _ => rfl, hv, hg⟩
  · unfold wantedD at hw; rw [hgd] at hw; cases hw
/-- A round of a loop that is told to. -/
theorem does_round (hF : ∀ f, F.fn f) (hn : 1 ≤ n) {D : Nat → Option Tmp} {A : Nat → Nat → Prop} {val : (Nat → Nat) → Nat → Value} {G : (Nat → Nat) → (Nat → Bool) → World → Prop} {a₀ : Act} {i : Nat} {o : Oper} (hgd : o.guard = none)
    (h : ∀ γ L a w, Held D A val G a₀ γ L a w → L i = false → (∀ e ∈ o.after, Region.binds .any e = true → L e.on = true) → ∃ l f tmps assign body, (o.semAt F.round a.eval).run P w = .ok (.round l f tmps assign body) w ∧ RoundIn F (n - 1) P l f tmps assign body w fun e w' => ∃ v γ', e = .returned v ∧ (∀ j, L j = true → val γ' j = val γ j) ∧ (o.dst.isSome = true → v = val γ' i) ∧ G γ' (more L i) w') : Does F n P Q D A val G a₀ i o := by
  intro γ L a w hH hl hA
  refine ⟨fun _ => ⟨fun f _ => hF f, ?_⟩, fun hw => ?_⟩
  · obtain ⟨l, f, tmps, assign, body, hr, hc⟩ := h γ L a w hH hl hA
    rw [hr]
    refine ⟨fun _ => hn, hc.mono ?_⟩
    rintro e w' ⟨v, γ', rfl, hk, hv, hg⟩
    exact ⟨v, γ', rfl, hk, hv, hg⟩
  · unfold wantedD at hw; rw [hgd] at hw; cases hw
theorem does_guarded {D : Nat → Option Tmp} {A : Nat → Nat → Prop} {val : (Nat → Nat) → Nat → Value} {G : (Nat → Nat) → (Nat → Bool) → World → Prop} {a₀ : Act} {i : Nat} {o : Oper} {g : Nat} {b : Bool} {t : Tmp} (hgd : o.guard = some (g, b)) (hD : D g = some t) (hs : ∀ γ, val γ g = .bool b) (he : ⟨g, .guard⟩ ∈ o.after)
    (h : Does F n P Q D A val G a₀ i { o with guard := none }) : Does F n P Q D A val G a₀ i o := by
  intro γ L a w hH hl haft
  have hL := haft ⟨g, .guard⟩ he rfl
  have hslot := hH.slot g t hD hL
  rw [hs] at hslot
  refine ⟨fun _ => (h γ L a w hH hl haft).1 rfl, fun hw => ?_⟩
  simp [wantedD, hgd, hD, hslot] at hw
theorem not_yet {D : Nat → Option Tmp} {A : Nat → Nat → Prop} {val : (Nat → Nat) → Nat → Value} {G : (Nat → Nat) → (Nat → Bool) → World → Prop} {a₀ a : Act} {γ : Nat → Nat} {L : Nat → Bool} {w : World} (hH : Held D A val G a₀ γ L a w) {i j : Nat} (hA : A j i) (hl : L i = false) : L j = false := by
  cases h : L j with
  | false => rfl
  | true => rw [hH.closed j i hA h] at hl; cases hl
end
theorem dst_free {ops : Array Oper} {t : Tmp} (h : (ops.toList.all fun o => decide (o.dst ≠ some t)) = true) : ∀ j, dstOf ops j ≠ some t := by
  intro j e
  obtain ⟨o, ho, hd⟩ := Option.bind_eq_some_iff.1 e
  have := (List.all_eq_true.1 h) o (List.mem_of_getElem? (by simpa using ho))
  simp [hd] at this
theorem early {p : Bool} {X Y : Prop} (h : (p = false ∧ X) ∨ (p = true ∧ Y)) (hp : p = false) : X := by
  rcases h with h | h
  · exact h.2
  · rw [h.1] at hp; cases hp
theorem late {p : Bool} {X Y : Prop} (h : (p = false ∧ X) ∨ (p = true ∧ Y)) (hp : p = true) : Y := by
  rcases h with h | h
  · rw [h.1] at hp; cases hp
  · exact h.2
theorem more_ne {L : Nat → Bool} {i j : Nat} (h : j ≠ i) : more L i j = L j := by simp [more, h]
theorem more_self {L : Nat → Bool} {i : Nat} : more L i i = true := by simp [more]
theorem AllDo.cons {F : Fence} {n : Nat} {P : Program} {Q : Exit → Act → World → Prop} {D : Nat → Option Tmp} {A : Nat → Nat → Prop} {val : (Nat → Nat) → Nat → Value} {G : (Nat → Nat) → (Nat → Bool) → World → Prop} {a₀ : Act} {o : Oper} {rest : List Oper} (k : Nat) (h : Does F n P Q D A val G a₀ k o) (h' : AllDo F n P Q D A val G a₀ rest (k + 1)) : AllDo F n P Q D A val G a₀ (o :: rest) k := ⟨h, h'⟩
theorem AllDo.nil {F : Fence} {n : Nat} {P : Program} {Q : Exit → Act → World → Prop} {D : Nat → Option Tmp} {A : Nat → Nat → Prop} {val : (Nat → Nat) → Nat → Value} {G : (Nat → Nat) → (Nat → Bool) → World → Prop} {a₀ : Act} {k : Nat} : AllDo F n P Q D A val G a₀ [] k := trivial
def putAll (v : Nat → Value) : List Oper → Nat → Act → Act
  | [], _, a => a
  | o :: r, n, a => putAll v r (n + 1) (a.put o.dst (v n))

theorem putAll_defers (v : Nat → Value) : ∀ (l : List Oper) (n : Nat) (a : Act), (putAll v l n a).defers = a.defers
  | [], _, _ => rfl
  | o :: r, n, a => by
    rw [putAll, putAll_defers v r]
    cases o.dst <;> simp [Act.put]
theorem putAll_other (v : Nat → Value) {t : Tmp} : ∀ (l : List Oper) (n : Nat) (a : Act), (∀ o ∈ l, o.dst ≠ some t) → (putAll v l n a).tmps[t]? = a.tmps[t]?
  | [], _, _, _ => rfl
  | o :: r, n, a, h => by
    rw [putAll, putAll_other v r _ _ (fun x hx => h x (List.mem_cons_of_mem _ hx))]
    have h0 := h o (by simp)
    cases hd : o.dst with
    | none => simp [Act.put]
    | some d =>
      have hne : d ≠ t := fun e => h0 (by rw [hd, e])
      simp only [Act.put]
      rw [Array.getElem?_setIfInBounds_ne hne]
theorem putAll_at (v : Nat → Value) {t : Tmp} : ∀ (l : List Oper) (n j : Nat) (o : Oper) (a : Act), (l.filterMap (·.dst)).Nodup → l[j]? = some o → o.dst = some t → t < a.tmps.size → (putAll v l n a).tmps[t]? = some (v (n + j))
  | [], _, _, _, _, _, h, _, _ => by simp at h
  | x :: r, n, 0, o, a, hn, h, hd, ht => by
    simp only [List.getElem?_cons_zero, Option.some.injEq] at h
    subst h
    rw [List.filterMap_cons, hd] at hn
    have hno := (List.nodup_cons.1 hn).1
    rw [putAll, putAll_other v r _ _ (fun o ho e => hno (List.mem_filterMap.2 ⟨o, ho, e⟩))]
    simp [Act.put, hd, ht]
  | x :: r, n, j + 1, o, a, hn, h, hd, ht => by
    have hr : (r.filterMap (·.dst)).Nodup := by
      rw [List.filterMap_cons] at hn
      cases hx : x.dst with
      | none => simpa [hx] using hn
      | some d => rw [hx] at hn; exact (List.nodup_cons.1 hn).2
    rw [putAll, putAll_at v r (n + 1) j o _ hr (by simpa using h) hd (by cases hx : x.dst <;> simpa [Act.put] using ht)]
    congr 2; omega

/-- Behind the region the frame is the first one with every value put where it belongs. -/
theorem held_act {ops : Array Oper} {A : Nat → Nat → Prop} {val : (Nat → Nat) → Nat → Value} {G : (Nat → Nat) → (Nat → Bool) → World → Prop} {a₀ a : Act} {γ : Nat → Nat} {L : Nat → Bool} {w : World}
    (h : Held (dstOf ops) A val G a₀ γ L a w) (hL : ∀ j, j < ops.size → L j = true) (hn : Once ops.toList = true) (hf : Fits ops.toList a₀.tmps.size = true) : a = putAll (val γ) ops.toList 0 a₀ := by
  have hd : a.defers = (putAll (val γ) ops.toList 0 a₀).defers := by rw [putAll_defers]; exact h.defers
  have ht : a.tmps = (putAll (val γ) ops.toList 0 a₀).tmps := by
    apply Array.ext_getElem?
    intro t
    by_cases hx : ∃ (j : Nat) (o : Oper), ops.toList[j]? = some o ∧ o.dst = some t
    · obtain ⟨j, o, ho, hd⟩ := hx
      have hfit : t < a₀.tmps.size := by
        have := (List.all_eq_true.1 hf) o (List.mem_of_getElem? ho)
        simpa [hd] using this
      have ho' : ops[j]? = some o := by simpa using ho
      rw [putAll_at (val γ) ops.toList 0 j o a₀ (of_decide_eq_true hn) ho hd hfit, Nat.zero_add]
      exact h.slot j t (by simp [dstOf, ho', hd]) (hL j (Array.getElem?_eq_some_iff.1 ho').1)
    · rw [putAll_other (val γ) ops.toList 0 a₀ (fun o ho e => by
        obtain ⟨j, hj⟩ := List.getElem?_of_mem ho
        exact hx ⟨j, o, hj, e⟩)]
      refine h.rest t (fun j e => ?_)
      obtain ⟨o, ho, hd⟩ := Option.bind_eq_some_iff.1 e
      exact hx ⟨j, o, by simpa using ho, hd⟩
  cases a
  cases hp : putAll (val γ) ops.toList 0 a₀
  rw [hp] at hd ht
  simp only at hd ht
  rw [hd, ht]

end RI
end Go.Proofs.YtbhdfjoagajipaaGreat
namespace Go.Proofs.YtbhdfjoagajipaaGreat
open Go.RowKit Go.Shelf
attribute [local go_sem] Oper.semAt_some
set_option linter.unusedVariables false

/-- The marks that ranges over functions leave. -/
def mkD (D : Nat) : Deferred := { target := .collected D, args := #[] }
structure Marks (base : Nat) (Dl : List Nat) (W : World) : Prop where
  nodup : Dl.Nodup
  at_ : ∀ D ∈ Dl, base ≤ D ∧ W.heap[D]? = some (.deferred (some []))
theorem Marks.nil (base : Nat) (W : World) : Marks base [] W := ⟨List.nodup_nil, fun D h => by cases h⟩
theorem Marks.keeps {base B : Nat} {Dl : List Nat} {V V' : World} (h : Marks base Dl V) (hk : KeepsFrom B V V') (hB : B ≤ base) : Marks base Dl V' :=
  ⟨h.nodup, fun D hD => ⟨(h.at_ D hD).1, hk.same D _ (Nat.le_trans hB (h.at_ D hD).1) (h.at_ D hD).2 rfl⟩⟩
theorem Marks.below {base : Nat} {Dl : List Nat} {V V' : World} (h : Marks base Dl V) (hb : Below V.heap.size V V') : Marks base Dl V' :=
  ⟨h.nodup, fun D hD => ⟨(h.at_ D hD).1, (hb.block D (Array.getElem?_eq_some_iff.1 (h.at_ D hD).2).1).trans (h.at_ D hD).2⟩⟩
theorem Marks.more {base D : Nat} {Dl : List Nat} {W : World} (h : Marks base Dl W) (hD : base ≤ D) (hn : D ∉ Dl) (hd : W.heap[D]? = some (.deferred (some []))) : Marks base (D :: Dl) W :=
  ⟨List.nodup_cons.2 ⟨hn, h.nodup⟩, fun E hE => by
    rcases List.mem_cons.1 hE with rfl | hE
    · exact ⟨hD, hd⟩
    · exact h.at_ E hE⟩
theorem leave_marks {n : Nat} {fn : Func} {tmps : Array Value} {base m : Nat} {J : Nat → World → Prop} (hJ : OwnFrom m J) (hm : m ≤ base) (hres : fn.results = #[]) (k : Nat) : ∀ (Dl : List Nat) (W : World), Marks base Dl W → J k W →
    LeavesInM Fence.wide n Tryz.prog fn tmps (fun e W' => (∃ v, e = .returned v) ∧ J k W') (Dl.map mkD) .returning W
  | [], W, _, hj => ⟨_, results_none hres _ _ _, ⟨_, rfl⟩, hj⟩
  | D :: Dl, W, h, hj => by
    obtain ⟨h1, h2⟩ := h.at_ D List.mem_cons_self
    obtain ⟨hn, hd⟩ := List.nodup_cons.1 h.nodup
    refine ⟨by simp, .inl ⟨_, _, rfl, run_takeDeferred h2, ?_⟩⟩
    refine leave_marks hJ hm hres k Dl _ ⟨hd, fun E hE => ⟨(h.at_ E (List.mem_cons_of_mem _ hE)).1, ?_⟩⟩ (hJ.putObj _ hj (by omega) h2 rfl)
    exact (World.putObj_heap_other (fun e => hn (by rw [← e]; exact hE))).trans (h.at_ E (List.mem_cons_of_mem _ hE)).2

/-- A block's cells, as they are read. -/
def Cel (W : World) (b : Nat) (vs : List Value) : Prop := ∀ i v, vs[i]? = some v → W.cell? ⟨b, i, none⟩ = some v
theorem Cel.step {A B : World} {b : Nat} {vs : List Value} (h : Cel A b vs) (hb : Below A.heap.size A B) : Cel B b vs := fun i v e => c_after hb (h i v e)
theorem Cel.keepC {S : Nat → Prop} {A B : World} {b : Nat} {vs : List Value} (h : Cel A b vs) (hk : KeepC S A B) (hb : S b) : Cel B b vs := fun i v e => hk.cell ⟨b, i, none⟩ v hb (h i v e)
theorem Cel.new (w : World) (vs : List Value) (t : TypeId) : Cel (w.alloc (.cells vs.toArray t)) w.heap.size vs := fun i v e => by
  unfold World.cell?
  rw [World.alloc_heap_new]
  simpa using e
theorem Cel.lt {W : World} {b : Nat} {u : Value} {vs : List Value} (h : Cel W b (u :: vs)) : b < W.heap.size := World.block_lt_of_cell? _ _ (h 0 u rfl)
set_option maxHeartbeats 1000000 in
theorem nways_in (v1 v2 v3 v4 v5 v6 : Value) (r s : Int) (w : World) : Calls Tryz.prog 139 #[coreA v1 v2 v3 r, coreA v4 v5 v6 s] w fun e w' => e = .returned (.func (.func 160) #[] #[.pointer (some ⟨w.heap.size, 0, none⟩), .pointer (some ⟨w.heap.size + 1, 0, none⟩)]) ∧ w' = (w.alloc (.cells #[v1, v2, v3, .int .i64 r] 35)).alloc (.cells #[v4, v5, v6, .int .i64 s] 35) := by
  unfold coreA
  go_enter Tryz.func139, Tryz.ntmps139
  go_wp2
  go_ret
  exact ⟨rfl, rfl⟩

theorem Marks.own {base m : Nat} {Dl : List Nat} {A B : World} {row : Option Nat} (h : Marks base Dl A) (hlt : ∀ D ∈ Dl, D < m) (hg : A.grownBy B row) (hr : ∀ r, row = some r → m ≤ r) : Marks base Dl B :=
  ⟨h.nodup, fun D hD => ⟨(h.at_ D hD).1, (hg.block D (Array.getElem?_eq_some_iff.1 (h.at_ D hD).2).1 (fun e => by have := hr D e.symm; have := hlt D hD; omega)).trans (h.at_ D hD).2⟩⟩
theorem Marks.lt {base : Nat} {Dl : List Nat} {A : World} (h : Marks base Dl A) : ∀ D ∈ Dl, D < A.heap.size := fun D hD => (Array.getElem?_eq_some_iff.1 (h.at_ D hD).2).1
theorem KeepC.own {S : Nat → Prop} {W A B : World} {m : Nat} {row : Option Nat} (h : KeepC S W A) (hg : A.grownBy B row) (hr : ∀ r, row = some r → m ≤ r ∧ ∃ o : Obj, A.heap[r]? = some o ∧ o.isCells = false) : KeepC S W B :=
  ⟨Nat.le_trans h.size hg.size, fun q v hq hv => by
    have hA := h.cell q v hq hv
    refine hg.cell hA (fun e => ?_)
    obtain ⟨_, o, ho, hc⟩ := hr _ e.symm
    unfold World.cell? at hA
    rw [ho] at hA
    cases o <;> simp_all [Obj.isCells]⟩
theorem round_any {m : Nat} (m' : Nat) {P : Program} {l l2 : Nat} {f : FuncId} {tmps : Array Value} {assign body : Code} {w : World} {R : Ending → World → Prop} (h : RoundIn Fence.wide m P l f tmps assign body w R) : RoundIn (Fence.wide.inRound l2) m' P l f tmps assign body w R :=
  ⟨h.1, fun c cs _ => h.2 c cs (room_wide _)⟩

theorem keeps_below {m : Nat} {V V' : World} (h : Below V.heap.size V V') : KeepsFrom m V V' := ⟨h.size, fun k o _ hk _ => (h.block k (Array.getElem?_eq_some_iff.1 hk).1).trans hk⟩
theorem keeps_up {A B : Nat} {X Y : World} (h : KeepsFrom A X Y) (hAB : A ≤ B) : KeepsFrom B X Y := ⟨h.size, fun k o hk hX ho => h.same k o (Nat.le_trans hAB hk) hX ho⟩
set_option maxRecDepth 100000 in
set_option maxHeartbeats 16000000 in
theorem nways_tells (n : Nat) (h3 : 3 ≤ n) (Ba Bb : Nat) (P A E Q B F : List Pt) (va1 va2 va3 vb1 vb2 vb3 : Value) (r s : Int) (S : Nat → Prop) (w : World)
    (ca : Cel w Ba [va1, va2, va3, .int .i64 r]) (cb : Cel w Bb [vb1, vb2, vb3, .int .i64 s])
    (hP : Lies w va1 P) (hE : Lies w va3 E) (hQ : Lies w vb1 Q) (hF : Lies w vb3 F) (sP : InS S va1 P) (sE : InS S va3 E) (sQ : InS S vb1 Q) (sF : InS S vb3 F) (sa : S Ba) (sb : S Bb) (hSn : ∀ b, w.heap.size ≤ b → S b)
    (iP : ∀ p ∈ P, p.inB 16777216 = true) (iQ : ∀ p ∈ Q, p.inB 16777216 = true) (iE : ∀ p ∈ E, p.inB 1048576 = true) (iF : ∀ p ∈ F, p.inB 1048576 = true) :
    TellsT n Tryz.prog 160 #[.pointer (some ⟨Ba, 0, none⟩), .pointer (some ⟨Bb, 0, none⟩)] (wayL P Q (E ++ F)) S w := by
  intro l J W hb hJ hY hJ0
  obtain ⟨m0, hm0⟩ : ∃ m, m = w.heap.size := ⟨_, rfl⟩
  rw [← hm0] at hY
  have CA : Hid _ := Cel.step ca hb
  have CB : Hid _ := Cel.step cb hb
  have LP : Hid _ := hP.below hb
  have LQ : Hid _ := hQ.below hb
  have LE : Hid _ := hE.below hb
  have LF : Hid _ := hF.below hb
  have HSn : Hid (∀ b, W.heap.size ≤ b → S b) := fun b h => hSn b (Nat.le_trans hb.size h)
  have hws : m0 ≤ W.heap.size := by rw [hm0]; exact hb.size
  obtain ⟨op, cp, rfl, hp1, hp2, hp3⟩ := hP.form
  obtain ⟨oq, cq, rfl, hq1, hq2, hq3⟩ := hQ.form
  obtain ⟨oe, ce, rfl, he1, he2, he3⟩ := hE.form
  obtain ⟨of, cf, rfl, hf1, hf2, hf3⟩ := hF.form
  clear ca cb hP hQ hE hF hp3 hq3 he3 hf3 hSn
  have k0 := CA.out 0 _ rfl
  have k1 := CB.out 0 _ rfl
  have k0x := c_after (n_after W (.cells #[.func (.yield l) #[] #[]] 120)) k0
  have k1x := c_after (n_after W (.cells #[.func (.yield l) #[] #[]] 120)) k1
  obtain ⟨W0, hW0⟩ : ∃ V, V = W.alloc (.cells #[.func (.yield l) #[] #[]] 120) := ⟨_, rfl⟩
  obtain ⟨S0, hS0⟩ : ∃ b, b = W.heap.size := ⟨_, rfl⟩
  have b0 : Below W.heap.size W W0 := by rw [hW0]; exact n_after _ _
  have CT : Hid (Cel W0 S0 [.func (.yield l) #[] #[]]) := by show Cel _ _ _; rw [hW0, hS0]; exact Cel.new _ _ _
  have hs0 : W0.heap.size = W.heap.size + 1 := by rw [hW0]; simp
  have sT : S S0 := HSn.out S0 (by omega)
  have HJ0 : Hid (J 0 W0) := own_step hJ hJ0 b0
  refine callsIn_of_wp_marks Tryz.func160 rfl trivial ?_ rfl
  simp only [Tryz.ntmps160, List.size_toArray, List.length_cons, List.length_nil, Nat.reduceAdd, Nat.reduceSub, Array.replicate_succ, Array.replicate_zero, List.push_toArray, List.append_toArray, List.nil_append, List.cons_append]
  gi_wp2
  refine scope_inN ?_
  by_cases h22 : 2 < P.length ∧ 2 < Q.length
  · have HT : Hid (wayL P Q (E ++ F) = []) := by show _ = _; unfold wayL; rw [if_pos h22]
    obtain ⟨hx2, hy2⟩ := h22
    have hx2' : (2 : Int) < (P.length : Int) := by omega
    have hy2' : (2 : Int) < (Q.length : Int) := by omega
    clear hx2 hy2
    gi_wp2
    exact ⟨_, results_none rfl _ _ _, ⟨_, rfl⟩, by rw [HT.out]; rw [hW0] at HJ0; exact HJ0.out⟩
  · have HT : Hid (wayL P Q (E ++ F) = P.flatMap fun p => wayR Q (E ++ F) p) := by show _ = _; unfold wayL; rw [if_neg h22]
    have HTP : Hid (∀ i m, i < P.length → m < (wayR Q (E ++ F) (pt P i)).length → pt (wayL P Q (E ++ F)) (((P.take i).flatMap (wayR Q (E ++ F))).length + m) = pt (wayR Q (E ++ F) (pt P i)) m ∧ ((P.take i).flatMap (wayR Q (E ++ F))).length + m < (wayL P Q (E ++ F)).length) := fun i m hi hm => by rw [HT.out]; exact ⟨flat_at _ P hi hm, flat_lt _ P hi hm⟩
    have HNP : Hid (∀ i, i < P.length → ((P.take (i + 1)).flatMap (wayR Q (E ++ F))).length = ((P.take i).flatMap (wayR Q (E ++ F))).length + (wayR Q (E ++ F) (pt P i)).length) := fun i hi => flat_next _ P hi
    have hcase : (¬ (2 : Int) < (P.length : Int)) ∨ ((2 : Int) < (P.length : Int) ∧ ¬ (2 : Int) < (Q.length : Int)) := by omega
    clear h22
    rcases hcase with hx2 | ⟨hx2, hy2⟩
    all_goals
      gi_wp2
      refine wpIn_label ?_
      gi_wp2
      rw [← hW0, ← hS0]
      clear k0 k1 k0x k1x hS0
      refine wpIn_loop (fun a wr => ∃ u4 u5 u6 u7 u8 u9 u10 u11 u12 u13 u14 u15 u16 u17 u18 u19 u20 u24 u25 u26 u27 u28 u29 u30 u31 u32 u33 u34 u35 u36 u37 u38 u39 u40 u41 u42 u43 u44 u45 u46 u47 u48 u49 u50 u51 u52 u53 u54 u55 u56 u57 u58 u59 : Value, ∃ (i : Nat) (Dl : List Nat), a = ({ tmps := #[.func (.yield l) #[] #[], .pointer (some ⟨Ba, 0, none⟩), .pointer (some ⟨Bb, 0, none⟩), .pointer (some ⟨S0, 0, none⟩), u4, u5, u6, u7, u8, u9, u10, u11, u12, u13, u14, u15, u16, u17, u18, u19, u20, .slice op P.length cp, .int .i64 (P.length : Int), .int .i64 (i : Int), u24, u25, u26, u27, u28, u29, u30, u31, u32, u33, u34, u35, u36, u37, u38, u39, u40, u41, u42, u43, u44, u45, u46, u47, u48, u49, u50, u51, u52, u53, u54, u55, u56, u57, u58, u59], defers := Dl.map mkD } : Act) ∧ i ≤ P.length ∧ Hid (J ((P.take i).flatMap (wayR Q (E ++ F))).length wr) ∧ Hid (KeepC S W0 wr) ∧ Hid (Marks (W.heap.size + 2) Dl wr)) (fun a _ => P.length - (intOf (a.tmps.getD 23 undef)).toNat) ⟨_, _, _, _, _, _, _, _, _, _, _, _, _, _, _, _, _, _, _, _, _, _, _, _, _, _, _, _, _, _, _, _, _, _, _, _, _, _, _, _, _, _, _, _, _, _, _, _, _, _, _, _, _, 0, [], rfl, Nat.zero_le _, HJ0, KeepC.refl _ _, Marks.nil _ _⟩ ?_
      clear HJ0 hJ0 hW0
      rintro a wr ⟨u4, u5, u6, u7, u8, u9, u10, u11, u12, u13, u14, u15, u16, u17, u18, u19, u20, u24, u25, u26, u27, u28, u29, u30, u31, u32, u33, u34, u35, u36, u37, u38, u39, u40, u41, u42, u43, u44, u45, u46, u47, u48, u49, u50, u51, u52, u53, u54, u55, u56, u57, u58, u59, i, Dl, rfl, hi, HJ, HK, HM⟩
      by_cases hit : i < P.length
      · obtain ⟨o9, c9, e9, _, _, h9⟩ := ((LP.out.below b0).keepC HK.out sP).form
        simp only [Value.slice.injEq, true_and] at e9
        obtain ⟨e9, e8⟩ := e9
        subst e9 e8
        obtain ⟨g, f, rfl, x0, x1, x2⟩ := h9 i hit
        have d1 := Cel.keepC (Cel.step CB.out b0) HK.out sb 0 _ rfl
        have HTi : Hid _ := fun (m : Nat) hm => HTP.out i m hit hm
        have HNi : Hid _ := HNP.out i hit
        have ipi := iP _ (pt_mem hit)
        clear h9 HTP HNP
        generalize ((P.take i).flatMap (wayR Q (E ++ F))).length = base at *
        generalize pt P i = p at *
        obtain ⟨px, py, pz⟩ := p
        obtain ⟨W1, hW1⟩ : ∃ V, V = wr.alloc (.cells #[.int .i64 px, .int .i64 py, .int .i64 pz] 23) := ⟨_, rfl⟩
        obtain ⟨pb, hpb⟩ : ∃ b, b = wr.heap.size := ⟨_, rfl⟩
        have b9 : Below wr.heap.size wr W1 := by rw [hW1]; exact n_after _ _
        have BP : Hid (Cel W1 pb [.int .i64 px, .int .i64 py, .int .i64 pz]) := by show Cel _ _ _; rw [hW1, hpb]; exact Cel.new _ _ _
        have HJ : Hid (J (base + ((Q.take 0).flatMap (wayG (E ++ F) ⟨px, py, pz⟩)).length) W1) := own_step hJ HJ.out b9
        have hpS : S pb := HSn.out pb (by have := HK.out.size; omega)
        have HK1 : Hid (KeepC S W0 W1) := HK.out.trans (KeepC.below b9)
        have HM : Hid (Marks (W.heap.size + 2) Dl W1) := HM.out.below b9
        have d1x := c_after (n_after wr (.cells #[.int .i64 px, .int .i64 py, .int .i64 pz] 23)) d1
        dsimp only at *
        gi_wp2
        rw [← hW1, ← hpb]
        clear x0 x1 x2 d1 d1x hW1 hpb b9
        have HTQ : Hid (∀ j m, j < Q.length → m < (wayG (E ++ F) ⟨px, py, pz⟩ (pt Q j)).length → pt (wayR Q (E ++ F) ⟨px, py, pz⟩) (((Q.take j).flatMap (wayG (E ++ F) ⟨px, py, pz⟩)).length + m) = pt (wayG (E ++ F) ⟨px, py, pz⟩ (pt Q j)) m ∧ ((Q.take j).flatMap (wayG (E ++ F) ⟨px, py, pz⟩)).length + m < (wayR Q (E ++ F) ⟨px, py, pz⟩).length) := fun j m hj hm => ⟨flat_at _ Q hj hm, flat_lt _ Q hj hm⟩
        have HNQ : Hid (∀ j, j < Q.length → ((Q.take (j + 1)).flatMap (wayG (E ++ F) ⟨px, py, pz⟩)).length = ((Q.take j).flatMap (wayG (E ++ F) ⟨px, py, pz⟩)).length + (wayG (E ++ F) ⟨px, py, pz⟩ (pt Q j)).length) := fun j hj => flat_next _ Q hj
        have HZQ : Hid (((Q.take Q.length).flatMap (wayG (E ++ F) ⟨px, py, pz⟩)).length = (wayR Q (E ++ F) ⟨px, py, pz⟩).length) := by show _ = _; rw [List.take_length]; rfl
        refine wpIn_loop (fun a wr => ∃ x4 x6 x7 x8 x9 x10 x11 x12 x13 x14 x15 x16 x17 x18 x19 x20 x24 x25 x26 x27 x31 x32 x33 x34 x35 x36 x37 x38 x39 x40 x41 x42 x43 x44 x45 x46 x47 x48 x49 x50 x51 x52 x53 x54 x55 x56 x57 x58 x59 : Value, ∃ (j : Nat) (Dl : List Nat), a = ({ tmps := #[.func (.yield l) #[] #[], .pointer (some ⟨Ba, 0, none⟩), .pointer (some ⟨Bb, 0, none⟩), .pointer (some ⟨S0, 0, none⟩), x4, .pointer (some ⟨pb, 0, none⟩), x6, x7, x8, x9, x10, x11, x12, x13, x14, x15, x16, x17, x18, x19, x20, .slice (some ⟨g, f, none⟩) P.length cp, .int .i64 (P.length : Int), .int .i64 (i : Int), x24, x25, x26, x27, .slice oq Q.length cq, .int .i64 (Q.length : Int), .int .i64 (j : Int), x31, x32, x33, x34, x35, x36, x37, x38, x39, x40, x41, x42, x43, x44, x45, x46, x47, x48, x49, x50, x51, x52, x53, x54, x55, x56, x57, x58, x59], defers := Dl.map mkD } : Act) ∧ j ≤ Q.length ∧ Hid (J (base + ((Q.take j).flatMap (wayG (E ++ F) ⟨px, py, pz⟩)).length) wr) ∧ Hid (KeepC S W1 wr) ∧ Hid (Marks (W.heap.size + 2) Dl wr)) (fun a _ => Q.length - (intOf (a.tmps.getD 30 undef)).toNat) ⟨_, _, _, _, _, _, _, _, _, _, _, _, _, _, _, _, _, _, _, _, _, _, _, _, _, _, _, _, _, _, _, _, _, _, _, _, _, _, _, _, _, _, _, _, _, _, _, _, _, 0, Dl, rfl, Nat.zero_le _, HJ, KeepC.refl _ _, HM⟩ ?_
        clear HJ HM HK
        rintro a wr ⟨x4, x6, x7, x8, x9, x10, x11, x12, x13, x14, x15, x16, x17, x18, x19, x20, x24, x25, x26, x27, x31, x32, x33, x34, x35, x36, x37, x38, x39, x40, x41, x42, x43, x44, x45, x46, x47, x48, x49, x50, x51, x52, x53, x54, x55, x56, x57, x58, x59, j, Dl, rfl, hj, HJ, HK, HM⟩
        by_cases hjt : j < Q.length
        · obtain ⟨o9, c9, e9, _, _, h9⟩ := (((LQ.out.below b0).keepC HK1.out sQ).keepC HK.out sQ).form
          simp only [Value.slice.injEq, true_and] at e9
          obtain ⟨e9, e8⟩ := e9
          subst e9 e8
          obtain ⟨g2, f2, rfl, x0, x1, x2⟩ := h9 j hjt
          have p0 := Cel.keepC BP.out HK.out hpS 0 _ rfl
          have p1 := Cel.keepC BP.out HK.out hpS 1 _ rfl
          have p2 := Cel.keepC BP.out HK.out hpS 2 _ rfl
          have hpl : pb < wr.heap.size := World.block_lt_of_cell? _ _ p0
          have HTj : Hid _ := fun (m : Nat) hm => HTQ.out j m hjt hm
          have HNj : Hid _ := HNQ.out j hjt
          have iqj := iQ _ (pt_mem hjt)
          clear h9 HTQ HNQ HZQ
          obtain ⟨bj, hbj⟩ : ∃ b, b = ((Q.take j).flatMap (wayG (E ++ F) ⟨px, py, pz⟩)).length := ⟨_, rfl⟩
          rw [← hbj] at HJ HTj HNj
          have HBJ : Hid _ := hbj
          clear hbj
          generalize pt Q j = q at *
          obtain ⟨qx, qy, qz⟩ := q
          have HLS : Hid _ := fun w' => nless_any ⟨qx, qy, qz⟩ ⟨px, py, pz⟩ w' (inB_mono iqj (by decide)) (inB_mono ipi (by decide))
          have HSH : Hid _ := fun w' => short_any (Pt.sub ⟨qx, qy, qz⟩ ⟨px, py, pz⟩) w'
          have idd : (Pt.short (Pt.sub ⟨qx, qy, qz⟩ ⟨px, py, pz⟩)).inB 1048576 = true := short_in _
          have HL9 : Hid ((wayG (E ++ F) ⟨px, py, pz⟩ ⟨qx, qy, qz⟩).length = (E ++ F).length + 1) := by show _ = _; simp [wayG]
          have HPT : Hid (∀ m, m < (E ++ F).length + 1 → base + (bj + m) < (wayL P Q (E ++ F)).length ∧ pt (wayL P Q (E ++ F)) (base + (bj + m)) = pt (wayG (E ++ F) ⟨px, py, pz⟩ ⟨qx, qy, qz⟩) m) := fun m hm => by
            obtain ⟨h4, h5⟩ := HTj.out m (by rw [HL9.out]; exact hm)
            obtain ⟨h6, h7⟩ := HTi.out (bj + m) h5
            exact ⟨h7, h6.trans h4⟩
          have HD0 : Hid (pt (wayG (E ++ F) ⟨px, py, pz⟩ ⟨qx, qy, qz⟩) 0 = Pt.short (Pt.sub ⟨qx, qy, qz⟩ ⟨px, py, pz⟩)) := rfl
          have HDk : Hid (∀ k, k < (E ++ F).length → pt (wayG (E ++ F) ⟨px, py, pz⟩ ⟨qx, qy, qz⟩) (k + 1) = wayE (Pt.short (Pt.sub ⟨qx, qy, qz⟩ ⟨px, py, pz⟩)) (pt (E ++ F) k)) := fun k hk => by
            have h8 : pt (wayG (E ++ F) ⟨px, py, pz⟩ ⟨qx, qy, qz⟩) (k + 1) = pt ((E ++ F).map fun e => wayE (Pt.short (Pt.sub ⟨qx, qy, qz⟩ ⟨px, py, pz⟩)) e) k := by unfold wayG wayD pt; rfl
            rw [h8, pt_map hk]
          clear HTi HTj
          generalize Pt.sub ⟨qx, qy, qz⟩ ⟨px, py, pz⟩ = df at *
          generalize Pt.short df = d at *
          obtain ⟨fx, fy, fz⟩ := df
          obtain ⟨dx, dy, dz⟩ := d
          have HJx : Hid (∀ Vx, Below wr.heap.size wr Vx → J (base + (bj + 0)) Vx) := fun Vx h => own_step hJ HJ.out h
          obtain ⟨hlt0, hpt0⟩ := HPT.out 0 (by omega)
          have HYd : Hid _ := fun Vx hV => yield_at (hY (base + (bj + 0)) Vx hlt0 hV) (hpt0.trans HD0.out)
          clear hlt0 hpt0
          unfold Pt.v at HLS HSH HYd
          dsimp only at *
          gi_wp2
          refine ⟨trivial, fun h => (by cases h), (callsIn_wide.2 (HLS.out _)).mono ?_⟩
          rintro e V3 ⟨rfl, hb3⟩
          have b3 : Below wr.heap.size wr V3 := b_step (n_after _ _) hb3
          clear hb3 HLS
          gi_wp2
          refine ⟨trivial, fun h => (by cases h), (callsIn_wide.2 (HSH.out _)).mono ?_⟩
          rintro e V4 ⟨rfl, hb4⟩
          have b4 : Below wr.heap.size wr V4 := b_step b3 hb4
          clear hb4 HSH b3 x0 x1 x2 p0 p1 p2
          obtain ⟨W4, hW4⟩ : ∃ V, V = V4.alloc (.cells #[.int .i64 dx, .int .i64 dy, .int .i64 dz] 23) := ⟨_, rfl⟩
          obtain ⟨db, hdb⟩ : ∃ b, b = V4.heap.size := ⟨_, rfl⟩
          have b5 : Below V4.heap.size V4 W4 := by rw [hW4]; exact n_after _ _
          have BD : Hid (Cel W4 db [.int .i64 dx, .int .i64 dy, .int .i64 dz]) := by show Cel _ _ _; rw [hW4, hdb]; exact Cel.new _ _ _
          have b45 : Below wr.heap.size wr W4 := b_step b4 b5
          have KT : Hid (KeepC S W0 W4) := (HK1.out.trans HK.out).trans (KeepC.below b45)
          have t0x := c_after (n_after V4 (.cells #[.int .i64 dx, .int .i64 dy, .int .i64 dz] 23)) (Cel.keepC CT.out ((HK1.out.trans HK.out).trans (KeepC.below b4)) sT 0 _ rfl)
          have HM4 : Hid (Marks (W.heap.size + 2) Dl W4) := HM.out.below b45
          obtain ⟨fn, tmps, assign, body, hy, hR⟩ := HYd.out _ (HJx.out _ b45)
          have hR : Hid _ := hR
          have hy : Hid _ := hy
          rw [hW4] at hR hy
          have hyx := hy.out
          have hdS : S db := HSn.out db (by have := KT.out.size; have := b4.size; have := HK.out.size; have := HK1.out.size; omega)
          gi_wp2
          refine ⟨fun h => (by cases h), RoundIn.mono hR.out ?_⟩
          rw [← hW4, ← hdb]
          rintro e W5 ⟨rfl, hJ5, hk5, hf5⟩
          have BD : Hid _ := Cel.keepC BD.out hk5 hdS
          have KT : Hid _ := KT.out.trans hk5
          have KW : Hid (KeepC S W1 W5) := (HK.out.trans (KeepC.below b45)).trans hk5
          have HM5 : Hid (Marks (W.heap.size + 2) Dl W5) := HM4.out.keeps hf5 (by omega)
          have HJ5 : Hid _ := hJ5
          clear hk5 hf5 hJ5 hR hy hyx HYd HJx hW4 hdb b4 b45 b5 t0x HM HM4 HJ
          have a2 := Cel.keepC (Cel.step CA.out b0) KT.out sa 2 _ rfl
          have c2 := Cel.keepC (Cel.step CB.out b0) KT.out sb 2 _ rfl
          gi_wp2
          refine ⟨trivial, fun h => (by cases h), (callsIn_wide.2 (neach_in _ _ _ _)).mono ?_⟩
          rintro e w' ⟨rfl, rfl⟩
          gi_wp2
          obtain ⟨W6, hW6⟩ : ∃ V, V = (W5.alloc (.cells #[.slice oe E.length ce, .slice of F.length cf] 24)).alloc (.cells #[.slice (some ⟨W5.heap.size, 0, none⟩) 2 2] 150) := ⟨_, rfl⟩
          have b6 : Below W5.heap.size W5 W6 := by rw [hW6]; exact b_step (n_after _ _) (n_after _ _)
          have CL : Cel W6 W5.heap.size [.slice oe E.length ce, .slice of F.length cf] := by rw [hW6]; exact Cel.step (Cel.new _ _ _) (n_after _ _)
          have CB6 : Cel W6 (W5.heap.size + 1) [.slice (some ⟨W5.heap.size, 0, none⟩) 2 2] := by rw [hW6]; have h9 := Cel.new (W5.alloc (.cells #[.slice oe E.length ce, .slice of F.length cf] 24)) [.slice (some ⟨W5.heap.size, 0, none⟩) 2 2] 150; rw [World.size_alloc] at h9; exact h9
          have hs6 : W6.heap.size = W5.heap.size + 2 := by rw [hW6]; simp
          have hs5 : W.heap.size + 1 ≤ W5.heap.size := by have := KT.out.size; omega
          rw [← hW6]
          clear hW6
          have LE6 := ((LE.out.below b0).keepC KT.out sE).below b6
          have LF6 := ((LF.out.below b0).keepC KT.out sF).below b6
          have HM6 := HM5.out.below b6
          have hml := HM6.lt
          refine' range_t (n := n) (by omega) (gf := 157) (lb := #[.pointer (some ⟨W5.heap.size + 1, 0, none⟩)]) rfl (enters_of Tryz.func157 (by kernel_rfl) rfl)
            (neach_tells (n - 1) (W5.heap.size + 1) W5.heap.size E F (.slice oe E.length ce) (.slice of F.length cf) S W6 (CB6 0 _ rfl) (CL 0 _ rfl) (CL 1 _ rfl) LE6 LF6 sE sF (HSn.out _ (by omega)) (HSn.out _ (by omega))) rfl
            (fun k V => J (base + (bj + (k + 1))) V ∧ KeepC S W6 V ∧ Marks (W.heap.size + 2) Dl V)
            (fun k A B row hs hg hr => ⟨hJ _ A B row hs.1 hg (fun r e => ⟨by have := (hr r e).1; omega, (hr r e).2⟩), hs.2.1.own hg hr, hs.2.2.own hml hg (fun r e => (hr r e).1)⟩)
            ⟨own_step hJ HJ5.out b6, KeepC.refl _ _, HM6⟩ _ 23 ?assign ?body ?done
          case assign =>
            intro l2 k V nb K hk hnb hK
            unfold Pt.v
            gi_wp2
            rw [← hnb]
            exact hK
          case body =>
            rintro l2 k V nb hk hIw hnb hob
            obtain ⟨hj7, hk7, hm7⟩ := hIw V ⟨rfl, rfl, rfl, Nat.le_refl _, fun _ _ _ => rfl⟩
            clear hIw
            have y0 : V.cell? ⟨nb, 0, none⟩ = some (.int .i64 (pt (E ++ F) k).x) := by simp [World.cell?, hob]
            have y1 : V.cell? ⟨nb, 1, none⟩ = some (.int .i64 (pt (E ++ F) k).y) := by simp [World.cell?, hob]
            have y2 : V.cell? ⟨nb, 2, none⟩ = some (.int .i64 (pt (E ++ F) k).z) := by simp [World.cell?, hob]
            have t0 := Cel.keepC CT.out ((KT.out.trans (KeepC.below b6)).trans hk7) sT 0 _ rfl
            have z0 := Cel.keepC BD.out ((KeepC.below b6).trans hk7) hdS 0 _ rfl
            have z1 := Cel.keepC BD.out ((KeepC.below b6).trans hk7) hdS 1 _ rfl
            have z2 := Cel.keepC BD.out ((KeepC.below b6).trans hk7) hdS 2 _ rfl
            have iek : (pt (E ++ F) k).inB 1048576 = true := by
              rcases List.mem_append.1 (pt_mem hk) with h | h
              · exact iE _ h
              · exact iF _ h
            obtain ⟨hltk, hptk⟩ := HPT.out (k + 1) (by omega)
            have hptk := hptk.trans (HDk.out k hk)
            unfold wayE at hptk
            have HYe : Hid _ := fun Vx hV => yield_at (hY (base + (bj + (k + 1))) Vx hltk hV) hptk
            have HC1 : Hid _ := fun w' => ncross_any (pt (E ++ F) k) ⟨dx, dy, dz⟩ w' (inB_mono iek (by decide)) (inB_mono idd (by decide))
            have HS2 : Hid _ := fun w' => short_any (Pt.cross (pt (E ++ F) k) ⟨dx, dy, dz⟩) w'
            have HC2 : Hid _ := fun w' => ncross_any (Pt.short (Pt.cross (pt (E ++ F) k) ⟨dx, dy, dz⟩)) (pt (E ++ F) k) w' (inB_mono (short_in _) (by decide)) (inB_mono iek (by decide))
            have HJV : Hid (∀ Vx, Below V.heap.size V Vx → J (base + (bj + (k + 1))) Vx) := fun Vx h => own_step hJ hj7 h
            have HK7 : Hid _ := hk7
            have HM7 : Hid _ := hm7
            clear hltk hptk hob iek hk7 hm7 hj7 LE6 LF6 HM6 CL CB6 HPT HDk
            generalize Pt.cross (Pt.short (Pt.cross (pt (E ++ F) k) ⟨dx, dy, dz⟩)) (pt (E ++ F) k) = c3 at *
            generalize Pt.short (Pt.cross (pt (E ++ F) k) ⟨dx, dy, dz⟩) = cs at *
            generalize Pt.cross (pt (E ++ F) k) ⟨dx, dy, dz⟩ = c1 at *
            generalize pt (E ++ F) k = ee at *
            obtain ⟨ex, ey, ez⟩ := ee
            obtain ⟨c1x, c1y, c1z⟩ := c1
            obtain ⟨c2x, c2y, c2z⟩ := cs
            obtain ⟨c3x, c3y, c3z⟩ := c3
            unfold Pt.v at HYe HC1 HS2 HC2
            dsimp only at *
            gi_wp2
            refine RI.region_by (fun _ => trivial) (fun γ j => match j with | 0 => .func (.yield l) #[] #[] | 1 => .agg #[.int .i64 ex, .int .i64 ey, .int .i64 ez] | 2 => .agg #[.int .i64 dx, .int .i64 dy, .int .i64 dz] | 3 => .agg #[.int .i64 c1x, .int .i64 c1y, .int .i64 c1z] | 4 => .agg #[.int .i64 c2x, .int .i64 c2y, .int .i64 c2z] | 5 => .agg #[.int .i64 ex, .int .i64 ey, .int .i64 ez] | 6 => .agg #[.int .i64 c3x, .int .i64 c3y, .int .i64 c3z] | 7 => .bool true | 8 => .bool false | _ => undef) (fun γ L v => (L 7 = false ∧ Below V.heap.size V v) ∨ (L 7 = true ∧ (J (base + (bj + (k + 1 + 1))) v ∧ KeepC S V v ∧ KeepsFrom (m0 + 2) V v))) (by kernel_rfl) (by kernel_rfl) (by kernel_rfl) (by kernel_rfl) (fun _ => 0) ?_ ?_ ?_
            · exact Or.inl ⟨rfl, (Below.refl _ V).drew⟩
            · generalize hD : RI.dstOf _ = D
              generalize hWA : RI.waitsFor _ = A
              generalize hZ : Act.mk _ _ = Z
              have d0 : D 0 = some 49 := by rw [← hD]; rfl
              have d1 : D 1 = some 50 := by rw [← hD]; rfl
              have d2 : D 2 = some 51 := by rw [← hD]; rfl
              have d3 : D 3 = some 52 := by rw [← hD]; rfl
              have d4 : D 4 = some 53 := by rw [← hD]; rfl
              have d5 : D 5 = some 54 := by rw [← hD]; rfl
              have d6 : D 6 = some 55 := by rw [← hD]; rfl
              have d7 : D 7 = some 56 := by rw [← hD]; rfl
              have d8 : D 8 = some 57 := by rw [← hD]; rfl
              have R3 : ∀ (γ : Nat → Nat) (L : Nat → Bool) (a : Act) (w : World), RI.Held D A (fun γ j => match j with | 0 => .func (.yield l) #[] #[] | 1 => .agg #[.int .i64 ex, .int .i64 ey, .int .i64 ez] | 2 => .agg #[.int .i64 dx, .int .i64 dy, .int .i64 dz] | 3 => .agg #[.int .i64 c1x, .int .i64 c1y, .int .i64 c1z] | 4 => .agg #[.int .i64 c2x, .int .i64 c2y, .int .i64 c2z] | 5 => .agg #[.int .i64 ex, .int .i64 ey, .int .i64 ez] | 6 => .agg #[.int .i64 c3x, .int .i64 c3y, .int .i64 c3z] | 7 => .bool true | 8 => .bool false | _ => undef) (fun γ L v => (L 7 = false ∧ Below V.heap.size V v) ∨ (L 7 = true ∧ (J (base + (bj + (k + 1 + 1))) v ∧ KeepC S V v ∧ KeepsFrom (m0 + 2) V v))) Z γ L a w → a.tmps[3]? = some (.pointer (some ⟨S0, 0, none⟩)) := fun γ L a w hH => (hH.rest 3 (by rw [← hD]; exact RI.dst_free (by kernel_rfl))).trans (by rw [← hZ]; rfl)
              have R8 : ∀ (γ : Nat → Nat) (L : Nat → Bool) (a : Act) (w : World), RI.Held D A (fun γ j => match j with | 0 => .func (.yield l) #[] #[] | 1 => .agg #[.int .i64 ex, .int .i64 ey, .int .i64 ez] | 2 => .agg #[.int .i64 dx, .int .i64 dy, .int .i64 dz] | 3 => .agg #[.int .i64 c1x, .int .i64 c1y, .int .i64 c1z] | 4 => .agg #[.int .i64 c2x, .int .i64 c2y, .int .i64 c2z] | 5 => .agg #[.int .i64 ex, .int .i64 ey, .int .i64 ez] | 6 => .agg #[.int .i64 c3x, .int .i64 c3y, .int .i64 c3z] | 7 => .bool true | 8 => .bool false | _ => undef) (fun γ L v => (L 7 = false ∧ Below V.heap.size V v) ∨ (L 7 = true ∧ (J (base + (bj + (k + 1 + 1))) v ∧ KeepC S V v ∧ KeepsFrom (m0 + 2) V v))) Z γ L a w → a.tmps[8]? = some (.pointer (some ⟨db, 0, none⟩)) := fun γ L a w hH => (hH.rest 8 (by rw [← hD]; exact RI.dst_free (by kernel_rfl))).trans (by rw [← hZ]; rfl)
              have R9 : ∀ (γ : Nat → Nat) (L : Nat → Bool) (a : Act) (w : World), RI.Held D A (fun γ j => match j with | 0 => .func (.yield l) #[] #[] | 1 => .agg #[.int .i64 ex, .int .i64 ey, .int .i64 ez] | 2 => .agg #[.int .i64 dx, .int .i64 dy, .int .i64 dz] | 3 => .agg #[.int .i64 c1x, .int .i64 c1y, .int .i64 c1z] | 4 => .agg #[.int .i64 c2x, .int .i64 c2y, .int .i64 c2z] | 5 => .agg #[.int .i64 ex, .int .i64 ey, .int .i64 ez] | 6 => .agg #[.int .i64 c3x, .int .i64 c3y, .int .i64 c3z] | 7 => .bool true | 8 => .bool false | _ => undef) (fun γ L v => (L 7 = false ∧ Below V.heap.size V v) ∨ (L 7 = true ∧ (J (base + (bj + (k + 1 + 1))) v ∧ KeepC S V v ∧ KeepsFrom (m0 + 2) V v))) Z γ L a w → a.tmps[9]? = some (.pointer (some ⟨nb, 0, none⟩)) := fun γ L a w hH => (hH.rest 9 (by rw [← hD]; exact RI.dst_free (by kernel_rfl))).trans (by rw [← hZ]; rfl)
              have A_3_1 : A 3 1 := by rw [← hWA]; exact ⟨_, rfl, ⟨1, .data⟩, by simp, rfl, rfl⟩
              have A_3_2 : A 3 2 := by rw [← hWA]; exact ⟨_, rfl, ⟨2, .data⟩, by simp, rfl, rfl⟩
              have A_4_3 : A 4 3 := by rw [← hWA]; exact ⟨_, rfl, ⟨3, .data⟩, by simp, rfl, rfl⟩
              have A_6_4 : A 6 4 := by rw [← hWA]; exact ⟨_, rfl, ⟨4, .data⟩, by simp, rfl, rfl⟩
              have A_6_5 : A 6 5 := by rw [← hWA]; exact ⟨_, rfl, ⟨5, .data⟩, by simp, rfl, rfl⟩
              have A_7_0 : A 7 0 := by rw [← hWA]; exact ⟨_, rfl, ⟨0, .data⟩, by simp, rfl, rfl⟩
              have A_7_6 : A 7 6 := by rw [← hWA]; exact ⟨_, rfl, ⟨6, .data⟩, by simp, rfl, rfl⟩
              have A_8_7 : A 8 7 := by rw [← hWA]; exact ⟨_, rfl, ⟨7, .data⟩, by simp, rfl, rfl⟩
              clear hD hWA hZ
              refine RI.AllDo.cons 0 (RI.does_pure (fun _ => trivial) rfl (fun γ L w h => by rw [RI.more_ne (by omega)]; exact h) (fun γ L a w hH hl hA => by have e0 := R3 γ L a w hH; have n7 : L 7 = false := RI.not_yet hH A_7_0 hl; have hB9 := RI.early hH.glob n7; have zz0 := c_after hB9 t0; simp [execOp, go_sem, e0, zz0])) ?_
              refine RI.AllDo.cons 1 (RI.does_pure (fun _ => trivial) rfl (fun γ L w h => by rw [RI.more_ne (by omega)]; exact h) (fun γ L a w hH hl hA => by have e0 := R9 γ L a w hH; have n3 : L 3 = false := RI.not_yet hH A_3_1 hl; have n4 : L 4 = false := RI.not_yet hH A_4_3 n3; have n6 : L 6 = false := RI.not_yet hH A_6_4 n4; have n7 : L 7 = false := RI.not_yet hH A_7_6 n6; have hB9 := RI.early hH.glob n7; have zz0 := c_after hB9 y0; have zz1 := c_after hB9 y1; have zz2 := c_after hB9 y2; simp [execOp, go_sem, e0, zz0, zz1, zz2])) ?_
              refine RI.AllDo.cons 2 (RI.does_pure (fun _ => trivial) rfl (fun γ L w h => by rw [RI.more_ne (by omega)]; exact h) (fun γ L a w hH hl hA => by have e0 := R8 γ L a w hH; have n3 : L 3 = false := RI.not_yet hH A_3_2 hl; have n4 : L 4 = false := RI.not_yet hH A_4_3 n3; have n6 : L 6 = false := RI.not_yet hH A_6_4 n4; have n7 : L 7 = false := RI.not_yet hH A_7_6 n6; have hB9 := RI.early hH.glob n7; have zz0 := c_after hB9 z0; have zz1 := c_after hB9 z1; have zz2 := c_after hB9 z2; simp [execOp, go_sem, e0, zz0, zz1, zz2])) ?_
              refine RI.AllDo.cons 3 (RI.does_call (fun _ => trivial) (by omega) rfl (fun γ L a w hH hl hA => by have e0 : a.tmps[50]? = some (.agg #[.int .i64 ex, .int .i64 ey, .int .i64 ez]) := hH.slot 1 50 d1 (hA ⟨1, .data⟩ (by simp) rfl); have e1 : a.tmps[51]? = some (.agg #[.int .i64 dx, .int .i64 dy, .int .i64 dz]) := hH.slot 2 51 d2 (hA ⟨2, .data⟩ (by simp) rfl); have n4 : L 4 = false := RI.not_yet hH A_4_3 hl; have n6 : L 6 = false := RI.not_yet hH A_6_4 n4; have n7 : L 7 = false := RI.not_yet hH A_7_6 n6; have hB9 := RI.early hH.glob n7; exact ⟨159, #[.agg #[.int .i64 ex, .int .i64 ey, .int .i64 ez], .agg #[.int .i64 dx, .int .i64 dy, .int .i64 dz]], by simp [go_sem, e0, e1], (CallsIn.inRound l2 (callsIn_wide.2 (HC1.out w))).mono (by rintro e w2 ⟨rfl, hb⟩; exact ⟨_, rfl, fun _ => rfl, (by rw [RI.more_ne (by omega)]; exact Or.inl ⟨n7, b_step hB9 hb⟩)⟩)⟩)) ?_
              refine RI.AllDo.cons 4 (RI.does_call (fun _ => trivial) (by omega) rfl (fun γ L a w hH hl hA => by have e0 : a.tmps[52]? = some (.agg #[.int .i64 c1x, .int .i64 c1y, .int .i64 c1z]) := hH.slot 3 52 d3 (hA ⟨3, .data⟩ (by simp) rfl); have n6 : L 6 = false := RI.not_yet hH A_6_4 hl; have n7 : L 7 = false := RI.not_yet hH A_7_6 n6; have hB9 := RI.early hH.glob n7; exact ⟨67, #[.agg #[.int .i64 c1x, .int .i64 c1y, .int .i64 c1z]], by simp [go_sem, e0], (CallsIn.inRound l2 (callsIn_wide.2 (HS2.out w))).mono (by rintro e w2 ⟨rfl, hb⟩; exact ⟨_, rfl, fun _ => rfl, (by rw [RI.more_ne (by omega)]; exact Or.inl ⟨n7, b_step hB9 hb⟩)⟩)⟩)) ?_
              refine RI.AllDo.cons 5 (RI.does_pure (fun _ => trivial) rfl (fun γ L w h => by rw [RI.more_ne (by omega)]; exact h) (fun γ L a w hH hl hA => by have e0 := R9 γ L a w hH; have n6 : L 6 = false := RI.not_yet hH A_6_5 hl; have n7 : L 7 = false := RI.not_yet hH A_7_6 n6; have hB9 := RI.early hH.glob n7; have zz0 := c_after hB9 y0; have zz1 := c_after hB9 y1; have zz2 := c_after hB9 y2; simp [execOp, go_sem, e0, zz0, zz1, zz2])) ?_
              refine RI.AllDo.cons 6 (RI.does_call (fun _ => trivial) (by omega) rfl (fun γ L a w hH hl hA => by have e0 : a.tmps[53]? = some (.agg #[.int .i64 c2x, .int .i64 c2y, .int .i64 c2z]) := hH.slot 4 53 d4 (hA ⟨4, .data⟩ (by simp) rfl); have e1 : a.tmps[54]? = some (.agg #[.int .i64 ex, .int .i64 ey, .int .i64 ez]) := hH.slot 5 54 d5 (hA ⟨5, .data⟩ (by simp) rfl); have n7 : L 7 = false := RI.not_yet hH A_7_6 hl; have hB9 := RI.early hH.glob n7; exact ⟨159, #[.agg #[.int .i64 c2x, .int .i64 c2y, .int .i64 c2z], .agg #[.int .i64 ex, .int .i64 ey, .int .i64 ez]], by simp [go_sem, e0, e1], (CallsIn.inRound l2 (callsIn_wide.2 (HC2.out w))).mono (by rintro e w2 ⟨rfl, hb⟩; exact ⟨_, rfl, fun _ => rfl, (by rw [RI.more_ne (by omega)]; exact Or.inl ⟨n7, b_step hB9 hb⟩)⟩)⟩)) ?_
              refine RI.AllDo.cons 7 (RI.does_round (fun _ => trivial) (by omega) rfl (fun γ L a w hH hl hA => by have e0 : a.tmps[49]? = some (.func (.yield l) #[] #[]) := hH.slot 0 49 d0 (hA ⟨0, .data⟩ (by simp) rfl); have e1 : a.tmps[55]? = some (.agg #[.int .i64 c3x, .int .i64 c3y, .int .i64 c3z]) := hH.slot 6 55 d6 (hA ⟨6, .data⟩ (by simp) rfl); have hB9 := RI.early hH.glob hl; obtain ⟨fn2, tm2, as2, bo2, hy2, hR2⟩ := HYe.out _ (HJV.out _ hB9); exact ⟨l, fn2, tm2, as2, bo2, by simp [go_sem, e0, e1, hy2], (round_any _ hR2).mono (by rintro e w2 ⟨rfl, hJ8, hk8, hf8⟩; exact ⟨_, γ, rfl, fun _ _ => rfl, fun _ => rfl, by rw [RI.more_self]; exact Or.inr ⟨rfl, hJ8, (KeepC.below hB9).trans hk8, (keeps_below hB9).trans hf8⟩⟩)⟩)) ?_
              refine RI.AllDo.cons 8 (RI.does_pure (fun _ => trivial) rfl (fun γ L w h => by rw [RI.more_ne (by omega)]; exact h) (fun γ L a w hH hl hA => by have e0 : a.tmps[56]? = some (.bool true) := hH.slot 7 56 d7 (hA ⟨7, .data⟩ (by simp) rfl); simp [execOp, go_sem, e0])) ?_
              exact RI.AllDo.nil
            · intro γ a5 w5 L9 hL hLo hH
              have ha := RI.held_act hH hL (by kernel_rfl) (by kernel_rfl)
              obtain ⟨hJ8, hk8, hf8⟩ := RI.late hH.glob (hL 7 (by decide))
              rw [ha]
              clear ha hH hL hLo
              simp only [RI.putAll, Act.put, List.setIfInBounds_toArray, List.set_cons_zero, List.set_cons_succ, Nat.zero_add, Nat.reduceAdd]
              have HFI : Hid _ := And.intro (keeps_up (B := W6.heap.size) hf8 (by omega)) (And.intro hk8 (And.intro hJ8 (And.intro (HK7.out.trans hk8) (HM7.out.keeps hf8 (by omega)))))
              clear hJ8 hk8 hf8
              gi_wp2
              exact ⟨HFI.out.1, HFI.out.2.1.mono (fun b h => h.1), HFI.out.2.2⟩
          case done =>
            rintro D V hD ⟨hj7, hk7, hm7⟩ hKD
            have HF1 : Hid (J (base + ((Q.take (j + 1)).flatMap (wayG (E ++ F) ⟨px, py, pz⟩)).length) V) := by show J _ _; rw [HNj.out, HL9.out]; exact hj7
            have HF2 : Hid (Marks (W.heap.size + 2) (D :: Dl) V) := hm7.more (by omega) (fun h => by have := hml D h; omega) hKD
            have HF3 : Hid (KeepC S W1 V) := (KW.out.trans (KeepC.below b6)).trans hk7
            clear hj7 hk7 hm7 hKD LE6 LF6 HM6 CL CB6
            gi_wp2
            refine ⟨⟨_, _, _, _, _, _, _, _, _, _, _, _, _, _, _, _, _, _, _, _, _, _, _, _, _, _, _, _, _, _, _, _, _, _, _, _, _, _, _, _, _, _, _, _, _, _, _, _, _, j + 1, D :: Dl, rfl, by omega, HF1, HF3, HF2⟩, ?_⟩
            simp [intOf]
            omega
        · obtain rfl : j = Q.length := by omega
          rw [HZQ.out, ← HNi.out] at HJ
          gi_wp2
          refine ⟨⟨_, _, _, _, _, _, _, _, _, _, _, _, _, _, _, _, _, _, _, _, _, _, _, _, _, _, _, _, _, _, _, _, _, _, _, _, _, _, _, _, _, _, _, _, _, _, _, _, _, _, _, _, _, i + 1, Dl, rfl, by omega, HJ, HK1.out.trans HK.out, HM⟩, ?_⟩
          simp [intOf]
          omega
      · obtain rfl : i = P.length := by omega
        have HJ : Hid (J (wayL P Q (E ++ F)).length wr) := by have h8 := HJ.out; rw [List.take_length] at h8; rw [HT.out]; exact h8
        gi_wp2
        rw [Exit.noGoto_normal]
        gi_wp2
        exact leave_marks hJ (by omega) rfl _ Dl wr HM.out HJ.out
end Go.Proofs.YtbhdfjoagajipaaGreat
namespace Go.Proofs.YtbhdfjoagajipaaGreat
set_option linter.unusedVariables false

/-- The told ones, by their places among all. -/
theorem both_step (X T Y : List Pt) {k : Nat} (h : k < T.length) :
    ((pt T k).lng = Pt.O → both (X ++ T.take (k + 1)) = both (X ++ T.take k)) ∧
    ((pt T k).lng ≠ Pt.O → (both (X ++ T.take (k + 1))).length = (both (X ++ T.take k)).length + 2 ∧ (both (X ++ T.take k)).length + 1 < (both (X ++ (T ++ Y))).length ∧
      pt (both (X ++ (T ++ Y))) (both (X ++ T.take k)).length = (pt T k).lng ∧ pt (both (X ++ (T ++ Y))) ((both (X ++ T.take k)).length + 1) = (pt T k).lng.neg) := by
  have e1 : X ++ T.take (k + 1) = (X ++ T.take k) ++ [pt T k] := by rw [take_pt h, List.append_assoc]
  have e2 : X ++ (T ++ Y) = (X ++ T.take k) ++ ([pt T k] ++ (T.drop (k + 1) ++ Y)) := by
    have e3 : T = T.take k ++ pt T k :: T.drop (k + 1) := by rw [← drop_pt h, List.take_append_drop]
    have e4 : X ++ (T ++ Y) = X ++ ((T.take k ++ pt T k :: T.drop (k + 1)) ++ Y) := congrArg (fun t => X ++ (t ++ Y)) e3
    rw [e4]
    simp [List.append_assoc]
  refine ⟨fun hz => ?_, fun hz => ?_⟩
  · rw [e1, both_app]
    simp [both, hz]
  · have e5 : both [pt T k] = [(pt T k).lng, (pt T k).lng.neg] := by simp [both, hz]
    have e6 : both (X ++ (T ++ Y)) = both (X ++ T.take k) ++ ([(pt T k).lng, (pt T k).lng.neg] ++ both (T.drop (k + 1) ++ Y)) := by rw [e2, both_app (X ++ T.take k), both_app [pt T k], e5]
    have e7 : both (X ++ T.take (k + 1)) = both (X ++ T.take k) ++ [(pt T k).lng, (pt T k).lng.neg] := by rw [e1, both_app (X ++ T.take k), e5]
    generalize both (X ++ T.take k) = U at *
    refine ⟨by rw [e7]; simp, by rw [e6]; simp, ?_, ?_⟩
    · rw [e6]
      have := pt_mid (A := U) (B := [(pt T k).lng, (pt T k).lng.neg]) (C := both (T.drop (k + 1) ++ Y)) (j := 0) (by simp)
      rw [Nat.add_zero] at this
      exact this
    · rw [e6]
      exact pt_mid (A := U) (B := [(pt T k).lng, (pt T k).lng.neg]) (C := both (T.drop (k + 1) ++ Y)) (j := 1) (by simp)
end Go.Proofs.YtbhdfjoagajipaaGreat
