/- A region that draws its order, by one condition that every operation keeps, whatever order is drawn: each operation is looked at once. -/
import Derived.Test.YtdbiikllcplmgaaProg
import Derived.WalkKit
import Derived.Orders
namespace Go.Proofs.Ytdbiikllcplmgaa

section
variable {P : Program} {ops : Array Oper} {Q : Exit → Act → World → Prop} {md : Region.Mode}

theorem wpAny_by (I : Array Bool → Act → World → Prop)
    (hstep : ∀ listed a w i, listed.size = ops.size → i ∈ Region.ready md ops listed → I listed a w → wpOp P ops Q i (I (listed.setIfInBounds i true)) a w)
    (hdone : ∀ listed a w, listed.size = ops.size → Region.ready md ops listed = [] → I listed a w → Q .normal a w) :
    ∀ (fuel : Nat) (listed : Array Bool) (a : Act) (w : World), listed.size = ops.size → listed.toList.count false ≤ fuel → I listed a w → wpAny P md ops Q fuel listed a w
  | 0, listed, a, w, hs, hf, h => by
    have hr : Region.ready md ops listed = [] := by
      apply List.eq_nil_iff_forall_not_mem.2
      intro i hi
      obtain ⟨h0, o, ho, _⟩ := mem_ready.1 hi
      have hlt : i < listed.size := by rw [hs]; exact (Array.getElem?_eq_some_iff.1 ho).1
      have hm : false ∈ listed.toList := by
        have : listed[i] = false := by simpa [hlt] using h0
        rw [← this]; exact Array.getElem_mem_toList hlt
      have := List.count_pos_iff.2 hm
      omega
    exact ⟨hr, hdone _ _ _ hs hr h⟩
  | fuel + 1, listed, a, w, hs, hf, h => by
    refine ⟨fun hr => hdone _ _ _ hs hr h, fun i hi => ?_⟩
    have hlt : i < listed.size := by
      obtain ⟨h0, o, ho, _⟩ := mem_ready.1 hi
      rw [hs]; exact (Array.getElem?_eq_some_iff.1 ho).1
    have hfalse : listed[i] = false := by
      have := (mem_ready.1 hi).1
      simpa [hlt] using this
    refine wpOp_mono (fun a' w' h' => ?_) (hstep _ _ _ _ hs hi h)
    refine wpAny_by I hstep hdone fuel _ a' w' (by simpa using hs) ?_ h'
    have hc : (listed.toList.set i true).count false + 1 = listed.toList.count false := by
      have hl : i < listed.toList.length := by simpa using hlt
      rw [List.count_set hl]
      have : listed.toList[i] = false := by simpa using hfalse
      simp only [this, beq_self_eq_true, if_true]
      have hm : false ∈ listed.toList := by rw [← this]; exact List.getElem_mem hl
      have := List.count_pos_iff.2 hm
      have e : (true == false) = false := rfl
      simp only [e, Bool.false_eq_true, if_false]
      omega
    have : (listed.setIfInBounds i true).toList = listed.toList.set i true := by simp
    rw [this]; omega

/-- Every operation waits for those alone that stand ahead of it. -/
def Tidy : List Oper → Nat → Bool
  | [], _ => true
  | o :: rest, n => (o.after.all fun e => decide (e.on < n)) && Tidy rest (n + 1)

theorem tidy_at : ∀ (l : List Oper) (n i : Nat) (o : Oper), Tidy l n = true → l[i]? = some o → ∀ e ∈ o.after, e.on < n + i
  | [], _, _, _, _, h => by simp at h
  | x :: rest, n, 0, o, ht, h => by
    simp only [Tidy, Bool.and_eq_true] at ht
    simp only [List.getElem?_cons_zero, Option.some.injEq] at h
    subst h
    intro e he
    have := (Array.all_eq_true_iff_forall_mem.1 ht.1) e he
    simpa using this
  | x :: rest, n, i + 1, o, ht, h => by
    simp only [Tidy, Bool.and_eq_true] at ht
    intro e he
    have := tidy_at rest (n + 1) i o ht.2 (by simpa using h) e he
    omega

/-- Where nothing may come up any more, all have come up. -/
theorem all_listed {listed : Array Bool} (ht : Tidy ops.toList 0 = true) (hr : Region.ready md ops listed = []) (hs : listed.size = ops.size) : ∀ i, i < ops.size → listed.getD i false = true := by
  intro i
  induction i using Nat.strongRecOn with
  | _ i ih =>
    intro hi
    cases hl : listed.getD i false with
    | true => rfl
    | false =>
      exfalso
      have ho : ops[i]? = some ops[i] := Array.getElem?_eq_getElem hi
      have hmem : i ∈ Region.ready md ops listed := by
        refine mem_ready.2 ⟨?_, ops[i], ho, fun e he _ => ?_⟩
        · have : i < listed.size := by omega
          simp [this] at hl ⊢; exact hl
        · have := tidy_at ops.toList 0 i ops[i] ht (by simp [hi]) e he
          exact ih e.on (by omega) (by omega)
      rw [hr] at hmem
      simp at hmem

/-- Where an operation leaves its value. -/
def dstOf (ops : Array Oper) (j : Nat) : Option Tmp := (ops[j]?).bind (·.dst)
/-- For whom an operation waits. -/
def waitsFor (ops : Array Oper) (j e : Nat) : Prop := ∃ o, ops[j]? = some o ∧ ∃ x ∈ o.after, Region.binds .any x = true ∧ x.on = e

/-- The slots that the region writes, each by one operation alone. -/
def Once (ops : List Oper) : Bool := (ops.filterMap (·.dst)).Nodup

/-- What holds while the region runs: what has come up has left the value val (γ tells where what the region makes lies); the other slots are as they were; G holds of the world. -/
structure Held (D : Nat → Option Tmp) (A : Nat → Nat → Prop) (val : (Nat → Nat) → Nat → Value) (G : (Nat → Nat) → (Nat → Bool) → World → Prop) (a₀ : Act) (γ : Nat → Nat) (L : Nat → Bool) (a : Act) (w : World) : Prop where
  defers : a.defers = a₀.defers
  size : a.tmps.size = a₀.tmps.size
  slot : ∀ (j : Nat) (t : Tmp), D j = some t → L j = true → a.tmps[t]? = some (val γ j)
  rest : ∀ t : Tmp, (∀ j : Nat, D j ≠ some t) → a.tmps[t]? = a₀.tmps[t]?
  closed : ∀ j e : Nat, A j e → L j = true → L e = true
  glob : G γ L w

/-- With one more. -/
def more (L : Nat → Bool) (i : Nat) : Nat → Bool := fun j => decide (j = i) || L j

/-- Is an operation carried out at all? (Its guard's slot tells.) -/
def wantedD (D : Nat → Option Tmp) (o : Oper) (a : Act) : Bool :=
  match o.guard with
  | none => true
  | some (g, b) => (match (D g).bind (a.tmps[·]?) with | some (.bool x) => some x | _ => none) == some b

theorem wantedD_eq (ops : Array Oper) (o : Oper) (a : Act) : Region.wanted o (yielded ops a.tmps) = wantedD (dstOf ops) o a := by
  unfold Region.wanted wantedD yielded dstOf
  cases o.guard <;> rfl

/-- What an operation must do. -/
def Does (P : Program) (Q : Exit → Act → World → Prop) (D : Nat → Option Tmp) (A : Nat → Nat → Prop) (val : (Nat → Nat) → Nat → Value) (G : (Nat → Nat) → (Nat → Bool) → World → Prop) (a₀ : Act) (i : Nat) (o : Oper) : Prop :=
  ∀ (γ : Nat → Nat) (L : Nat → Bool) (a : Act) (w : World), Held D A val G a₀ γ L a w → L i = false → (∀ e ∈ o.after, Region.binds .any e = true → L e.on = true) →
    (wantedD D o a = true → o.wp P a w (fun a' w' => ∃ v γ', a' = a.put o.dst v ∧ (∀ j, L j = true → val γ' j = val γ j) ∧ (o.dst.isSome = true → v = val γ' i) ∧ G γ' (more L i) w') Q) ∧
    (wantedD D o a = false → (o.dst.isSome = true → undef = val γ i) ∧ G γ (more L i) w)

theorem dst_once (hn : Once ops.toList = true) {i j : Nat} {t : Tmp} (h : dstOf ops i = some t) (h' : dstOf ops j = some t) : i = j := by
  have key : ∀ (l : List Oper), (l.filterMap (·.dst)).Nodup → ∀ (i j : Nat) (o o' : Oper), l[i]? = some o → l[j]? = some o' → o.dst = some t → o'.dst = some t → i = j := by
    intro l
    induction l with
    | nil => intro _ i j o o' hi; simp at hi
    | cons x rest ih =>
      intro hnd i j o o' hi hj h h'
      have hrest : (rest.filterMap (·.dst)).Nodup := by
        rw [List.filterMap_cons] at hnd
        cases hx : x.dst with
        | none => simpa [hx] using hnd
        | some d => rw [hx] at hnd; exact (List.nodup_cons.1 hnd).2
      have hno : x.dst = some t → t ∉ rest.filterMap (·.dst) := by
        intro hx
        rw [List.filterMap_cons, hx] at hnd
        exact (List.nodup_cons.1 hnd).1
      match i, j with
      | 0, 0 => rfl
      | 0, j + 1 =>
        simp only [List.getElem?_cons_zero, Option.some.injEq] at hi
        subst hi
        exact absurd (List.mem_filterMap.2 ⟨o', List.mem_of_getElem? (by simpa using hj), h'⟩) (hno h)
      | i + 1, 0 =>
        simp only [List.getElem?_cons_zero, Option.some.injEq] at hj
        subst hj
        exact absurd (List.mem_filterMap.2 ⟨o, List.mem_of_getElem? (by simpa using hi), h⟩) (hno h')
      | i + 1, j + 1 => have := ih hrest i j o o' (by simpa using hi) (by simpa using hj) h h'; omega
  unfold dstOf at h h'
  obtain ⟨o, ho, hd⟩ := Option.bind_eq_some_iff.1 h
  obtain ⟨o', ho', hd'⟩ := Option.bind_eq_some_iff.1 h'
  exact key ops.toList (of_decide_eq_true hn) i j o o' (by simpa using ho) (by simpa using ho') hd hd'

/-- Each operation of a list from number n on. -/
def AllDo (P : Program) (Q : Exit → Act → World → Prop) (D : Nat → Option Tmp) (A : Nat → Nat → Prop) (val : (Nat → Nat) → Nat → Value) (G : (Nat → Nat) → (Nat → Bool) → World → Prop) (a₀ : Act) : List Oper → Nat → Prop
  | [], _ => True
  | o :: rest, n => Does P Q D A val G a₀ n o ∧ AllDo P Q D A val G a₀ rest (n + 1)

theorem allDo_at {D : Nat → Option Tmp} {A : Nat → Nat → Prop} {val : (Nat → Nat) → Nat → Value} {G : (Nat → Nat) → (Nat → Bool) → World → Prop} {a₀ : Act} : ∀ (l : List Oper) (n i : Nat) (o : Oper), AllDo P Q D A val G a₀ l n → l[i]? = some o → Does P Q D A val G a₀ (n + i) o
  | [], _, _, _, _, h => by simp at h
  | x :: rest, n, 0, o, ha, h => by
    simp only [List.getElem?_cons_zero, Option.some.injEq] at h
    subst h; exact ha.1
  | x :: rest, n, i + 1, o, ha, h => by
    have := allDo_at rest (n + 1) i o ha.2 (by simpa using h)
    rwa [show n + 1 + i = n + (i + 1) by omega] at this

/-- All slots that the region writes are there. -/
def Fits (ops : List Oper) (n : Nat) : Bool := ops.all fun o => match o.dst with | some t => decide (t < n) | none => true

/-- THE LAW. -/
theorem region_by {id : Nat} {a₀ : Act} {w : World} (val : (Nat → Nat) → Nat → Value) (G : (Nat → Nat) → (Nat → Bool) → World → Prop) (hm : P.follows .mixedOrders = true)
    (ht : Tidy ops.toList 0 = true) (hn : Once ops.toList = true) (hfit : Fits ops.toList a₀.tmps.size = true)
    (γ₀ : Nat → Nat) (h0 : G γ₀ (fun _ => false) w.drew) (hall : AllDo P Q (dstOf ops) (waitsFor ops) val G a₀ ops.toList 0)
    (hq : ∀ (γ : Nat → Nat) (a : Act) (w : World) (L : Nat → Bool), (∀ j, j < ops.size → L j = true) → (∀ j, ops.size ≤ j → L j = false) → Held (dstOf ops) (waitsFor ops) val G a₀ γ L a w → Q .normal a w) :
    (Code.region id ops true).wp P Q a₀ w := by
  refine wp_region_any hm (wpAny_by (fun listed a w => ∃ γ, Held (dstOf ops) (waitsFor ops) val G a₀ γ (fun j => listed.getD j false) a w) ?_ ?_ _ _ _ _ (by simp) (by simp) ?_)
  · intro listed a w i hs hi hI
    obtain ⟨γ, hI⟩ := hI
    obtain ⟨hl, o, ho, hafter⟩ := mem_ready.1 hi
    have hlt : i < listed.size := by rw [hs]; exact (Array.getElem?_eq_some_iff.1 ho).1
    have hl' : listed.getD i false = false := by simp [hlt] at hl ⊢; exact hl
    have hd := allDo_at ops.toList 0 i o hall (by simpa using ho)
    rw [Nat.zero_add] at hd
    have hstep := hd γ _ a w hI hl' hafter
    have hdst : dstOf ops i = o.dst := by simp [dstOf, ho]
    suffices hmain : ∀ (a' : Act) (w' : World), (∃ v γ', a' = a.put o.dst v ∧ (∀ j, listed.getD j false = true → val γ' j = val γ j) ∧ (o.dst.isSome = true → v = val γ' i) ∧ G γ' (more (fun j => listed.getD j false) i) w') →
        ∃ γ, Held (dstOf ops) (waitsFor ops) val G a₀ γ (fun j => (listed.setIfInBounds i true).getD j false) a' w' by
      unfold wpOp
      simp only [ho]
      cases hw : Region.wanted o (yielded ops a.tmps)
      · rw [wantedD_eq] at hw
        obtain ⟨s1, s2⟩ := hstep.2 hw
        simp only [Bool.false_eq_true, if_false]
        exact hmain _ _ ⟨undef, γ, rfl, fun _ _ => rfl, s1, s2⟩
      · rw [wantedD_eq] at hw
        simp only [if_true]
        exact .inl (Oper.wp_mono hmain (hstep.1 hw))
    rintro a' w' ⟨v, γ', rfl, hkeep, hJ, hG⟩
    have hset : (fun j => (listed.setIfInBounds i true).getD j false) = more (fun j => listed.getD j false) i := by
      funext j
      unfold more
      by_cases e : j = i
      · subst e; simp [hlt]
      · rw [getD_set_ne false (Ne.symm e)]; simp [e]
    refine ⟨γ', ?_⟩
    rw [hset]
    refine ⟨?_, ?_, ?_, ?_, ?_, hG⟩
    · cases hd : o.dst <;> simp [Act.put, hI.defers]
    · cases hd : o.dst <;> simp [Act.put, hI.size]
    · intro j t hdt hlj
      by_cases e : j = i
      · subst e
        rw [hdst] at hdt
        rw [← hJ (by simp [hdt])]
        have hfit' : t < a₀.tmps.size := by
          have := (List.all_eq_true.1 hfit) o (List.mem_of_getElem? (by simpa using ho))
          simpa [hdt] using this
        simp [Act.put, hdt, hI.size, hfit']
      · have hlj' : listed.getD j false = true := by simpa [more, e] using hlj
        have hu := hI.slot j t hdt hlj'
        rw [hkeep j hlj', ← hu]
        cases hd : o.dst with
        | none => simp [Act.put]
        | some d =>
          have hne : d ≠ t := fun e' => e (dst_once hn hdt (by rw [hdst, hd, e']))
          simp only [Act.put]
          rw [Array.getElem?_setIfInBounds_ne hne]
    · intro t hno
      rw [← hI.rest t hno]
      cases hd : o.dst with
      | none => simp [Act.put]
      | some d =>
        have hne : d ≠ t := fun e' => hno i (by rw [hdst, hd, e'])
        simp only [Act.put]
        rw [Array.getElem?_setIfInBounds_ne hne]
    · intro j e hA hj
      by_cases h : j = i
      · subst h
        obtain ⟨o', ho', x, hx, hb, rfl⟩ := hA
        obtain rfl : o = o' := by rw [ho] at ho'; exact Option.some.inj ho'
        have := hafter x hx hb
        simp only [more, this, Bool.or_true]
      · have := hI.closed j e hA (by simpa [more, h] using hj)
        simp only [more, this, Bool.or_true]
  · rintro listed a w hs hr ⟨γ, hI⟩
    exact hq γ a w _ (all_listed ht hr hs) (fun j hj => by have : ¬ j < listed.size := by omega
                                                           simp [this]) hI
  · refine ⟨γ₀, rfl, rfl, fun j t hd hl => ?_, fun _ _ => rfl, fun j e _ hj => ?_, ?_⟩
    · exfalso
      by_cases e : j < ops.size <;> simp [e] at hl
    · exfalso
      by_cases e : j < ops.size <;> simp [e] at hj
    · have : (fun j => (Array.replicate ops.size false).getD j false) = (fun _ => false) := by
        funext j
        by_cases e : j < ops.size <;> simp [e]
      rw [this]; exact h0
end
end Go.Proofs.Ytdbiikllcplmgaa
