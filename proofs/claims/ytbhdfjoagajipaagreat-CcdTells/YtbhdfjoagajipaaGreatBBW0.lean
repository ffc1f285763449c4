/- A region that draws its order, by one condition that every operation keeps, whatever order is drawn: each operation is looked at once. -/
import Derived.Test.YtbhdfjoagajipaaGreatProg
import Derived.WalkKit
import Derived.Orders
import Derived.Below
import Derived.Laws.Rows
import Derived.RowKit
import Derived.RangeFuncBox
import Derived.Shelf.Abstract
import Derived.OwnWalkIn
import Derived.TacticsInMore
import Derived.LoopNIn
import Derived.LoopIn
import Derived.LoopTactic
import Derived.ProofKit
import Derived.Handy
import Derived.Laws.MakeOwn
import Derived.Laws.OwnMore
import Derived.Maps.AppendAt
import Derived.Deep.RegionWith
import Derived.Deep.QuietTactic
import Derived.BigQuiet
import Derived.Deep.CutBlock
import Derived.Deep.CutRange
import Derived.Deep.LoopGhost
import Derived.Lib.SmallJoins
namespace Go.Proofs.YtbhdfjoagajipaaGreat

section
variable {P : Program} {ops : Array Oper} {Q : Exit → Act → World → Prop} {md : Region.Mode}

theorem wpAny_by (I : Array Bool → Act → World → Prop)
    (hstep : ∀ listed a w i, listed.size = ops.size → i ∈ Region.ready md ops listed → I listed a w → wpOp P ops Q i (I (listed.setIfInBounds i true)) a w)
    (hdone : ∀ listed a w, listed.size = ops.size → Region.ready md ops listed = [] → I listed a w → Q .normal a w) :
    ∀ (fuel : Nat) (listed : Array Bool) (a : Act) (w : World), listed.size = ops.size → listed.toList.count false ≤ fuel → I listed a w → wpAny P md ops Q fuel listed a w
  | 0, listed, a, w, hs, hf, h => by
    have hr : Region.ready md ops listed = [] := by
      apply List.eq_nil_iff_forall_not_mem.2
      intro i hi
      obtain ⟨h0, o, ho, _⟩ := mem_ready.1 hi
      have hlt : i < listed.size := by rw [hs]; exact (Array.getElem?_eq_some_iff.1 ho).1
      have hm : false ∈ listed.toList := by
        have : listed[i] = false := by simpa [hlt] using h0
        rw [← this]; exact Array.getElem_mem_toList hlt
      have := List.count_pos_iff.2 hm
      omega
    exact ⟨hr, hdone _ _ _ hs hr h⟩
  | fuel + 1, listed, a, w, hs, hf, h => by
    refine ⟨fun hr => hdone _ _ _ hs hr h, fun i hi => ?_⟩
    have hlt : i < listed.size := by
      obtain ⟨h0, o, ho, _⟩ := mem_ready.1 hi
      rw [hs]; exact (Array.getElem?_eq_some_iff.1 ho).1
    have hfalse : listed[i] = false := by
      have := (mem_ready.1 hi).1
      simpa [hlt] using this
    refine wpOp_mono (fun a' w' h' => ?_) (hstep _ _ _ _ hs hi h)
    refine wpAny_by I hstep hdone fuel _ a' w' (by simpa using hs) ?_ h'
    have hc : (listed.toList.set i true).count false + 1 = listed.toList.count false := by
      have hl : i < listed.toList.length := by simpa using hlt
      rw [List.count_set hl]
      have : listed.toList[i] = false := by simpa using hfalse
      simp only [this, beq_self_eq_true, if_true]
      have hm : false ∈ listed.toList := by rw [← this]; exact List.getElem_mem hl
      have := List.count_pos_iff.2 hm
      have e : (true == false) = false := rfl
      simp only [e, Bool.false_eq_true, if_false]
      omega
    have : (listed.setIfInBounds i true).toList = listed.toList.set i true := by simp
    rw [this]; omega

/-- Every operation waits for those alone that stand ahead of it. -/
def Tidy : List Oper → Nat → Bool
  | [], _ => true
  | o :: rest, n => (o.after.all fun e => decide (e.on < n)) && Tidy rest (n + 1)

/-- Where an operation leaves its value. -/
def dstOf (ops : Array Oper) (j : Nat) : Option Tmp := (ops[j]?).bind (·.dst)
/-- For whom an operation waits. -/
def waitsFor (ops : Array Oper) (j e : Nat) : Prop := ∃ o, ops[j]? = some o ∧ ∃ x ∈ o.after, Region.binds .any x = true ∧ x.on = e

/-- The slots that the region writes, each by one operation alone. -/
def Once (ops : List Oper) : Bool := (ops.filterMap (·.dst)).Nodup

/-- What holds while the region runs: what has come up has left the value val (γ tells where what the region makes lies); the other slots are as they were; G holds of the world. -/
structure Held (D : Nat → Option Tmp) (A : Nat → Nat → Prop) (val : (Nat → Nat) → Nat → Value) (G : (Nat → Nat) → (Nat → Bool) → World → Prop) (a₀ : Act) (γ : Nat → Nat) (L : Nat → Bool) (a : Act) (w : World) : Prop where
  defers : a.defers = a₀.defers
  size : a.tmps.size = a₀.tmps.size
  slot : ∀ (j : Nat) (t : Tmp), D j = some t → L j = true → a.tmps[t]? = some (val γ j)
  rest : ∀ t : Tmp, (∀ j : Nat, D j ≠ some t) → a.tmps[t]? = a₀.tmps[t]?
  closed : ∀ j e : Nat, A j e → L j = true → L e = true
  glob : G γ L w

/-- With one more. -/
def more (L : Nat → Bool) (i : Nat) : Nat → Bool := fun j => decide (j = i) || L j

/-- Is an operation carried out at all? (Its guard's slot tells.) -/
def wantedD (D : Nat → Option Tmp) (o : Oper) (a : Act) : Bool :=
  match o.guard with
  | none => true
  | some (g, b) => (match (D g).bind (a.tmps[·]?) with | some (.bool x) => some x | _ => none) == some b

theorem wantedD_eq (ops : Array Oper) (o : Oper) (a : Act) : Region.wanted o (yielded ops a.tmps) = wantedD (dstOf ops) o a := by
  unfold Region.wanted wantedD yielded dstOf
  cases o.guard <;> rfl

/-- What an operation must do. -/
def Does (P : Program) (Q : Exit → Act → World → Prop) (D : Nat → Option Tmp) (A : Nat → Nat → Prop) (val : (Nat → Nat) → Nat → Value) (G : (Nat → Nat) → (Nat → Bool) → World → Prop) (a₀ : Act) (i : Nat) (o : Oper) : Prop :=
  ∀ (γ : Nat → Nat) (L : Nat → Bool) (a : Act) (w : World), Held D A val G a₀ γ L a w → L i = false → (∀ e ∈ o.after, Region.binds .any e = true → L e.on = true) →
    (wantedD D o a = true → o.wp P a w (fun a' w' => ∃ v γ', a' = a.put o.dst v ∧ (∀ j, L j = true → val γ' j = val γ j) ∧ (o.dst.isSome = true → v = val γ' i) ∧ G γ' (more L i) w') Q) ∧
    (wantedD D o a = false → (o.dst.isSome = true → undef = val γ i) ∧ G γ (more L i) w)

theorem dst_once (hn : Once ops.toList = true) {i j : Nat} {t : Tmp} (h : dstOf ops i = some t) (h' : dstOf ops j = some t) : i = j := by
  have key : ∀ (l : List Oper), (l.filterMap (·.dst)).Nodup → ∀ (i j : Nat) (o o' : Oper), l[i]? = some o → l[j]? = some o' → o.dst = some t → o'.dst = some t → i = j := by
    intro l
    induction l with
    | nil => intro _ i j o o' hi; simp at hi
    | cons x rest ih =>
      intro hnd i j o o' hi hj h h'
      have hrest : (rest.filterMap (·.dst)).Nodup := by
        rw [List.filterMap_cons] at hnd
        cases hx : x.dst with
        | none => simpa [hx] using hnd
        | some d => rw [hx] at hnd; exact (List.nodup_cons.1 hnd).2
      have hno : x.dst = some t → t ∉ rest.filterMap (·.dst) := by
        intro hx
        rw [List.filterMap_cons, hx] at hnd
        exact (List.nodup_cons.1 hnd).1
      match i, j with
      | 0, 0 => rfl
      | 0, j + 1 =>
        simp only [List.getElem?_cons_zero, Option.some.injEq] at hi
        subst hi
        exact absurd (List.mem_filterMap.2 ⟨o', List.mem_of_getElem? (by simpa using hj), h'⟩) (hno h)
      | i + 1, 0 =>
        simp only [List.getElem?_cons_zero, Option.some.injEq] at hj
        subst hj
        exact absurd (List.mem_filterMap.2 ⟨o, List.mem_of_getElem? (by simpa using hi), h⟩) (hno h')
      | i + 1, j + 1 => have := ih hrest i j o o' (by simpa using hi) (by simpa using hj) h h'; omega
  unfold dstOf at h h'
  obtain ⟨o, ho, hd⟩ := Option.bind_eq_some_iff.1 h
  obtain ⟨o', ho', hd'⟩ := Option.bind_eq_some_iff.1 h'
  exact key ops.toList (of_decide_eq_true hn) i j o o' (by simpa using ho) (by simpa using ho') hd hd'

/-- Each operation of a list from number n on. -/
def AllDo (P : Program) (Q : Exit → Act → World → Prop) (D : Nat → Option Tmp) (A : Nat → Nat → Prop) (val : (Nat → Nat) → Nat → Value) (G : (Nat → Nat) → (Nat → Bool) → World → Prop) (a₀ : Act) : List Oper → Nat → Prop
  | [], _ => True
  | o :: rest, n => Does P Q D A val G a₀ n o ∧ AllDo P Q D A val G a₀ rest (n + 1)

/-- All slots that the region writes are there. -/
def Fits (ops : List Oper) (n : Nat) : Bool := ops.all fun o => match o.dst with | some t => decide (t < n) | none => true

end
end Go.Proofs.YtbhdfjoagajipaaGreat
namespace Go.Proofs.YtbhdfjoagajipaaGreat
open Go.RowKit
def Tidy2 : List Oper → Nat → Bool
  | [], _ => true
  | o :: rest, n => (o.after.all fun e => !(Region.binds .any e) || decide (e.on < n)) && Tidy2 rest (n + 1)
theorem tidy2_at : ∀ (l : List Oper) (n i : Nat) (o : Oper), Tidy2 l n = true → l[i]? = some o → ∀ e ∈ o.after, Region.binds .any e = true → e.on < n + i
  | [], _, _, _, _, h => by simp at h
  | x :: rest, n, 0, o, ht, h => by
    simp only [Tidy2, Bool.and_eq_true] at ht
    simp only [List.getElem?_cons_zero, Option.some.injEq] at h
    subst h
    intro e he hb
    have := (Array.all_eq_true_iff_forall_mem.1 ht.1) e he
    rw [hb] at this
    simpa using this
  | x :: rest, n, i + 1, o, ht, h => by
    simp only [Tidy2, Bool.and_eq_true] at ht
    intro e he hb
    have := tidy2_at rest (n + 1) i o ht.2 (by simpa using h) e he hb
    omega
theorem all_listed2 {ops : Array Oper} {listed : Array Bool} (ht : Tidy2 ops.toList 0 = true) (hr : Region.ready .any ops listed = []) (hs : listed.size = ops.size) : ∀ i, i < ops.size → listed.getD i false = true := by
  intro i
  induction i using Nat.strongRecOn with
  | _ i ih =>
    intro hi
    cases hl : listed.getD i false with
    | true => rfl
    | false =>
      exfalso
      have ho : ops[i]? = some ops[i] := Array.getElem?_eq_getElem hi
      have hmem : i ∈ Region.ready .any ops listed := by
        refine mem_ready.2 ⟨?_, ops[i], ho, fun e he hb => ?_⟩
        · have : i < listed.size := by omega
          simp [this] at hl ⊢; exact hl
        · have := tidy2_at ops.toList 0 i ops[i] ht (by simp [hi]) e he hb
          exact ih e.on (by omega) (by omega)
      rw [hr] at hmem
      simp at hmem
theorem tidy2_of : ∀ {l : List Oper} {n : Nat}, Tidy l n = true → Tidy2 l n = true
  | [], _, _ => rfl
  | o :: r, n, h => by
    simp only [Tidy, Bool.and_eq_true] at h
    simp only [Tidy2, Bool.and_eq_true]
    refine ⟨?_, tidy2_of h.2⟩
    rw [Array.all_eq_true'] at h ⊢
    exact fun e he => by rw [h.1 e he, Bool.or_true]
namespace RV
open Go.RowKit
set_option linter.unusedVariables false

/-- With one more. -/
def upd (γ : Nat → Value) (i : Nat) (v : Value) : Nat → Value := fun j => if j = i then v else γ j
theorem upd_self (γ : Nat → Value) (i : Nat) (v : Value) : upd γ i v i = v := by simp [upd]
theorem upd_ne (γ : Nat → Value) {i j : Nat} (v : Value) (h : j ≠ i) : upd γ i v j = γ j := by simp [upd, h]

section
variable {P : Program} {ops : Array Oper} {Q : Exit → Act → World → Prop}

/-- What holds while the region runs: γ is what the operations have left, R what is known of it, G what is known of the world. -/
structure Held (D : Nat → Option Tmp) (A : Nat → Nat → Prop) (R : Nat → Value → World → Prop) (G : (Nat → Value) → (Nat → Bool) → World → Prop) (a₀ : Act) (γ : Nat → Value) (L : Nat → Bool) (a : Act) (w : World) : Prop where
  defers : a.defers = a₀.defers
  size : a.tmps.size = a₀.tmps.size
  slot : ∀ (j : Nat) (t : Tmp), D j = some t → L j = true → a.tmps[t]? = some (γ j)
  holds : ∀ j : Nat, L j = true → R j (γ j) w
  early : ∀ t : Tmp, (∀ j : Nat, D j = some t → L j = false) → a.tmps[t]? = a₀.tmps[t]?
  closed : ∀ j e : Nat, A j e → L j = true → L e = true
  glob : G γ L w

theorem Held.rest {D : Nat → Option Tmp} {A : Nat → Nat → Prop} {R : Nat → Value → World → Prop} {G : (Nat → Value) → (Nat → Bool) → World → Prop} {a₀ : Act} {γ : Nat → Value} {L : Nat → Bool} {a : Act} {w : World} (h : Held D A R G a₀ γ L a w) (t : Tmp) (hno : ∀ j : Nat, D j ≠ some t) : a.tmps[t]? = a₀.tmps[t]? := h.early t fun j e => absurd e (hno j)

/-- What an operation must do. -/
def Does (P : Program) (Q : Exit → Act → World → Prop) (D : Nat → Option Tmp) (A : Nat → Nat → Prop) (R : Nat → Value → World → Prop) (G : (Nat → Value) → (Nat → Bool) → World → Prop) (a₀ : Act) (i : Nat) (o : Oper) : Prop :=
  ∀ (γ : Nat → Value) (L : Nat → Bool) (a : Act) (w : World), Held D A R G a₀ γ L a w → L i = false → (∀ e ∈ o.after, Region.binds .any e = true → L e.on = true) →
    (wantedD D o a = true → o.wp P a w (fun a' w' => ∃ v, a' = a.put o.dst v ∧ R i v w' ∧ (∀ j v, L j = true → R j v w → R j v w') ∧ G (upd γ i v) (more L i) w') Q) ∧
    (wantedD D o a = false → R i undef w ∧ G (upd γ i undef) (more L i) w)

/-- Each operation of a list from number n on. -/
def AllDo (P : Program) (Q : Exit → Act → World → Prop) (D : Nat → Option Tmp) (A : Nat → Nat → Prop) (R : Nat → Value → World → Prop) (G : (Nat → Value) → (Nat → Bool) → World → Prop) (a₀ : Act) : List Oper → Nat → Prop
  | [], _ => True
  | o :: rest, n => Does P Q D A R G a₀ n o ∧ AllDo P Q D A R G a₀ rest (n + 1)
theorem AllDo.cons {D : Nat → Option Tmp} {A : Nat → Nat → Prop} {R : Nat → Value → World → Prop} {G : (Nat → Value) → (Nat → Bool) → World → Prop} {a₀ : Act} {o : Oper} {rest : List Oper} (k : Nat) (h : Does P Q D A R G a₀ k o) (h' : AllDo P Q D A R G a₀ rest (k + 1)) : AllDo P Q D A R G a₀ (o :: rest) k := ⟨h, h'⟩
theorem AllDo.nil {D : Nat → Option Tmp} {A : Nat → Nat → Prop} {R : Nat → Value → World → Prop} {G : (Nat → Value) → (Nat → Bool) → World → Prop} {a₀ : Act} {k : Nat} : AllDo P Q D A R G a₀ [] k := trivial
theorem allDo_at {D : Nat → Option Tmp} {A : Nat → Nat → Prop} {R : Nat → Value → World → Prop} {G : (Nat → Value) → (Nat → Bool) → World → Prop} {a₀ : Act} : ∀ (l : List Oper) (n i : Nat) (o : Oper), AllDo P Q D A R G a₀ l n → l[i]? = some o → Does P Q D A R G a₀ (n + i) o
  | [], _, _, _, _, h => by simp at h
  | x :: rest, n, 0, o, ha, h => by
    simp only [List.getElem?_cons_zero, Option.some.injEq] at h
    subst h; exact ha.1
  | x :: rest, n, i + 1, o, ha, h => by
    have := allDo_at rest (n + 1) i o ha.2 (by simpa using h)
    rwa [show n + 1 + i = n + (i + 1) by omega] at this

/-- THE LAW. -/
theorem region_by2 {id : Nat} {a₀ : Act} {w : World} (R : Nat → Value → World → Prop) (G : (Nat → Value) → (Nat → Bool) → World → Prop) (hm : P.follows .mixedOrders = true)
    (ht : Tidy2 ops.toList 0 = true) (hn : Once ops.toList = true) (hfit : Fits ops.toList a₀.tmps.size = true)
    (h0 : G (fun _ => undef) (fun _ => false) w.drew) (hall : AllDo P Q (dstOf ops) (waitsFor ops) R G a₀ ops.toList 0)
    (hq : ∀ (γ : Nat → Value) (a : Act) (w : World) (L : Nat → Bool), (∀ j, j < ops.size → L j = true) → (∀ j, ops.size ≤ j → L j = false) → Held (dstOf ops) (waitsFor ops) R G a₀ γ L a w → Q .normal a w) :
    (Code.region id ops true).wp P Q a₀ w := by
  refine wp_region_any hm (wpAny_by (fun listed a w => ∃ γ, Held (dstOf ops) (waitsFor ops) R G a₀ γ (fun j => listed.getD j false) a w) ?_ ?_ _ _ _ _ (by simp) (by simp) ?_)
  · intro listed a w i hs hi hI
    obtain ⟨γ, hI⟩ := hI
    obtain ⟨hl, o, ho, hafter⟩ := mem_ready.1 hi
    have hlt : i < listed.size := by rw [hs]; exact (Array.getElem?_eq_some_iff.1 ho).1
    have hl' : listed.getD i false = false := by simp [hlt] at hl ⊢; exact hl
    have hd := allDo_at ops.toList 0 i o hall (by simpa using ho)
    rw [Nat.zero_add] at hd
    have hstep := hd γ _ a w hI hl' hafter
    have hdst : dstOf ops i = o.dst := by simp [dstOf, ho]
    suffices hmain : ∀ (a' : Act) (w' : World), (∃ v, a' = a.put o.dst v ∧ R i v w' ∧ (∀ j v, listed.getD j false = true → R j v w → R j v w') ∧ G (upd γ i v) (more (fun j => listed.getD j false) i) w') →
        ∃ γ, Held (dstOf ops) (waitsFor ops) R G a₀ γ (fun j => (listed.setIfInBounds i true).getD j false) a' w' by
      unfold wpOp
      simp only [ho]
      cases hw : Region.wanted o (yielded ops a.tmps)
      · rw [wantedD_eq] at hw
        obtain ⟨s1, s2⟩ := hstep.2 hw
        simp only [Bool.false_eq_true, if_false]
        exact hmain _ _ ⟨undef, rfl, s1, fun _ _ _ h => h, s2⟩
      · rw [wantedD_eq] at hw
        simp only [if_true]
        exact .inl (Oper.wp_mono hmain (hstep.1 hw))
    rintro a' w' ⟨v, rfl, hR, hkeep, hG⟩
    have hset : (fun j => (listed.setIfInBounds i true).getD j false) = more (fun j => listed.getD j false) i := by
      funext j
      unfold more
      by_cases e : j = i
      · subst e; simp [hlt]
      · rw [getD_set_ne false (Ne.symm e)]; simp [e]
    refine ⟨upd γ i v, ?_⟩
    rw [hset]
    refine ⟨?_, ?_, ?_, ?_, ?_, ?_, hG⟩
    · cases hd : o.dst <;> simp [Act.put, hI.defers]
    · cases hd : o.dst <;> simp [Act.put, hI.size]
    · intro j t hdt hlj
      by_cases e : j = i
      · subst e
        rw [hdst] at hdt
        have hfit' : t < a₀.tmps.size := by
          have := (List.all_eq_true.1 hfit) o (List.mem_of_getElem? (by simpa using ho))
          simpa [hdt] using this
        simp [Act.put, hdt, hI.size, hfit', upd]
      · have hlj' : listed.getD j false = true := by simpa [more, e] using hlj
        have hu := hI.slot j t hdt hlj'
        rw [upd_ne _ _ e, ← hu]
        cases hd : o.dst with
        | none => simp [Act.put]
        | some d =>
          have hne : d ≠ t := fun e' => e (dst_once hn hdt (by rw [hdst, hd, e']))
          simp only [Act.put]
          rw [Array.getElem?_setIfInBounds_ne hne]
    · intro j hlj
      by_cases e : j = i
      · subst e; rw [upd_self]; exact hR
      · have hlj' : listed.getD j false = true := by simpa [more, e] using hlj
        rw [upd_ne _ _ e]
        exact hkeep j _ hlj' (hI.holds j hlj')
    · intro t hno
      have hno' : ∀ j, dstOf ops j = some t → listed.getD j false = false := fun j e => by
        have := hno j e
        by_cases h : j = i
        · subst h; exact hl'
        · simpa [more, h] using this
      rw [← hI.early t hno']
      cases hd : o.dst with
      | none => simp [Act.put]
      | some d =>
        have hne : d ≠ t := fun e' => by have := hno i (by rw [hdst, hd, e']); simp [more] at this
        simp only [Act.put]
        rw [Array.getElem?_setIfInBounds_ne hne]
    · intro j e hA hj
      by_cases h : j = i
      · subst h
        obtain ⟨o', ho', x, hx, hb, rfl⟩ := hA
        obtain rfl : o = o' := by rw [ho] at ho'; exact Option.some.inj ho'
        have := hafter x hx hb
        simp only [more, this, Bool.or_true]
      · have := hI.closed j e hA (by simpa [more, h] using hj)
        simp only [more, this, Bool.or_true]
  · rintro listed a w hs hr ⟨γ, hI⟩
    exact hq γ a w _ (all_listed2 ht hr hs) (fun j hj => by have h9 : ¬ j < listed.size := (by omega); simp [h9]) hI
  · refine ⟨fun _ => undef, rfl, rfl, fun j t hd hl => ?_, fun j hl => ?_, fun _ _ => rfl, fun j e _ hj => ?_, ?_⟩
    · exfalso
      by_cases e : j < ops.size <;> simp [e] at hl
    · exfalso
      by_cases e : j < ops.size <;> simp [e] at hl
    · exfalso
      by_cases e : j < ops.size <;> simp [e] at hj
    · have : (fun j => (Array.replicate ops.size false).getD j false) = (fun _ => false) := by
        funext j
        by_cases e : j < ops.size <;> simp [e]
      rw [this]; exact h0
theorem region_by {id : Nat} {a₀ : Act} {w : World} (R : Nat → Value → World → Prop) (G : (Nat → Value) → (Nat → Bool) → World → Prop) (hm : P.follows .mixedOrders = true)
    (ht : Tidy ops.toList 0 = true) (hn : Once ops.toList = true) (hfit : Fits ops.toList a₀.tmps.size = true)
    (h0 : G (fun _ => undef) (fun _ => false) w.drew) (hall : AllDo P Q (dstOf ops) (waitsFor ops) R G a₀ ops.toList 0)
    (hq : ∀ (γ : Nat → Value) (a : Act) (w : World) (L : Nat → Bool), (∀ j, j < ops.size → L j = true) → (∀ j, ops.size ≤ j → L j = false) → Held (dstOf ops) (waitsFor ops) R G a₀ γ L a w → Q .normal a w) :
    (Code.region id ops true).wp P Q a₀ w :=
  region_by2 R G hm (tidy2_of ht) hn hfit h0 hall hq

variable {D : Nat → Option Tmp} {A : Nat → Nat → Prop} {R : Nat → Value → World → Prop} {G : (Nat → Value) → (Nat → Bool) → World → Prop} {a₀ : Act}

/-- An operation that computes. -/
theorem does_pure {i : Nat} {o : Oper} (hG : ∀ γ v L w, L i = false → G γ L w → G (upd γ i v) (more L i) w)
    (h : ∀ γ L a w, Held D A R G a₀ γ L a w → L i = false → (∀ e ∈ o.after, Region.binds .any e = true → L e.on = true) → ∃ v, (execOp a.eval o).run P w = .ok (.value v) w ∧ R i v w) (hgd : o.guard = none := by rfl) : Does P Q D A R G a₀ i o := by
  intro γ L a w hH hl haft
  refine ⟨fun _ => ?_, fun hw => by simp [wantedD, hgd] at hw⟩
  obtain ⟨v, hr, hR⟩ := h γ L a w hH hl haft
  unfold Oper.wp
  rw [hr]
  exact ⟨v, rfl, hR, fun _ _ _ h => h, hG _ _ _ _ hl hH.glob⟩
/-- An operation that touches the world. -/
theorem does_step {i : Nat} {o : Oper}
    (h : ∀ γ L a w, Held D A R G a₀ γ L a w → L i = false → (∀ e ∈ o.after, Region.binds .any e = true → L e.on = true) → ∃ v w', (execOp a.eval o).run P w = .ok (.value v) w' ∧ R i v w' ∧ (∀ j v, L j = true → R j v w → R j v w') ∧ G (upd γ i v) (more L i) w') (hgd : o.guard = none := by rfl) : Does P Q D A R G a₀ i o := by
  intro γ L a w hH hl haft
  refine ⟨fun _ => ?_, fun hw => by simp [wantedD, hgd] at hw⟩
  obtain ⟨v, w', hr, hR, hk, hg⟩ := h γ L a w hH hl haft
  unfold Oper.wp
  rw [hr]
  exact ⟨v, rfl, hR, hk, hg⟩
/-- A store. -/
theorem does_store {i : Nat} {o : Oper}
    (h : ∀ γ L a w, Held D A R G a₀ γ L a w → L i = false → (∀ e ∈ o.after, Region.binds .any e = true → L e.on = true) → ∃ w', (execOp a.eval o).run P w = .ok .skip w' ∧ R i undef w' ∧ (∀ j v, L j = true → R j v w → R j v w') ∧ G (upd γ i undef) (more L i) w') (hgd : o.guard = none := by rfl) : Does P Q D A R G a₀ i o := by
  intro γ L a w hH hl haft
  refine ⟨fun _ => ?_, fun hw => by simp [wantedD, hgd] at hw⟩
  obtain ⟨w', hr, hR, hk, hg⟩ := h γ L a w hH hl haft
  unfold Oper.wp
  rw [hr]
  exact ⟨undef, rfl, hR, hk, hg⟩
/-- A call. -/
theorem does_call {i : Nat} {o : Oper}
    (h : ∀ γ L a w, Held D A R G a₀ γ L a w → L i = false → (∀ e ∈ o.after, Region.binds .any e = true → L e.on = true) → ∃ f args, (execOp a.eval o).run P w = .ok (.enter f args) w ∧ Calls P f args w fun e w' => ∃ v, e = .returned v ∧ R i v w' ∧ (∀ j v, L j = true → R j v w → R j v w') ∧ G (upd γ i v) (more L i) w') (hgd : o.guard = none := by rfl) : Does P Q D A R G a₀ i o := by
  intro γ L a w hH hl haft
  refine ⟨fun _ => ?_, fun hw => by simp [wantedD, hgd] at hw⟩
  obtain ⟨f, args, hr, hc⟩ := h γ L a w hH hl haft
  unfold Oper.wp
  rw [hr]
  refine Calls.mono hc ?_
  rintro e w' ⟨v, rfl, hR, hk, hg⟩
  exact ⟨v, rfl, hR, hk, hg⟩
theorem not_yet {a : Act} {γ : Nat → Value} {L : Nat → Bool} {w : World} (hH : Held D A R G a₀ γ L a w) {i j : Nat} (hA : A j i) (hl : L i = false) : L j = false := by
  cases h : L j with
  | false => rfl
  | true => rw [hH.closed j i hA h] at hl; cases hl
end

theorem more_ne {L : Nat → Bool} {i j : Nat} (h : j ≠ i) : more L i j = L j := by simp [more, h]
theorem more_self {L : Nat → Bool} {i : Nat} : more L i i = true := by simp [more]
theorem dst_free {ops : Array Oper} {t : Tmp} (h : (ops.toList.all fun o => decide (o.dst ≠ some t)) = true) : ∀ j, dstOf ops j ≠ some t := by
  intro j e
  obtain ⟨o, ho, hd⟩ := Option.bind_eq_some_iff.1 e
  have := (List.all_eq_true.1 h) o (List.mem_of_getElem? (by simpa using ho))
  simp [hd] at this

def putAll (v : Nat → Value) : List Oper → Nat → Act → Act
  | [], _, a => a
  | o :: r, n, a => putAll v r (n + 1) (a.put o.dst (v n))
theorem putAll_defers (v : Nat → Value) : ∀ (l : List Oper) (n : Nat) (a : Act), (putAll v l n a).defers = a.defers
  | [], _, _ => rfl
  | o :: r, n, a => by
    rw [putAll, putAll_defers v r]
    cases o.dst <;> simp [Act.put]
theorem putAll_other (v : Nat → Value) {t : Tmp} : ∀ (l : List Oper) (n : Nat) (a : Act), (∀ o ∈ l, o.dst ≠ some t) → (putAll v l n a).tmps[t]? = a.tmps[t]?
  | [], _, _, _ => rfl
  | o :: r, n, a, h => by
    rw [putAll, putAll_other v r _ _ (fun x hx => h x (List.mem_cons_of_mem _ hx))]
    have h0 := h o (by simp)
    cases hd : o.dst with
    | none => simp [Act.put]
    | some d =>
      have hne : d ≠ t := fun e => h0 (by rw [hd, e])
      simp only [Act.put]
      rw [Array.getElem?_setIfInBounds_ne hne]
theorem putAll_at (v : Nat → Value) {t : Tmp} : ∀ (l : List Oper) (n j : Nat) (o : Oper) (a : Act), (l.filterMap (·.dst)).Nodup → l[j]? = some o → o.dst = some t → t < a.tmps.size → (putAll v l n a).tmps[t]? = some (v (n + j))
  | [], _, _, _, _, _, h, _, _ => by simp at h
  | x :: r, n, 0, o, a, hn, h, hd, ht => by
    simp only [List.getElem?_cons_zero, Option.some.injEq] at h
    subst h
    rw [List.filterMap_cons, hd] at hn
    have hno := (List.nodup_cons.1 hn).1
    rw [putAll, putAll_other v r _ _ (fun o ho e => hno (List.mem_filterMap.2 ⟨o, ho, e⟩))]
    simp [Act.put, hd, ht]
  | x :: r, n, j + 1, o, a, hn, h, hd, ht => by
    have hr : (r.filterMap (·.dst)).Nodup := by
      rw [List.filterMap_cons] at hn
      cases hx : x.dst with
      | none => simpa [hx] using hn
      | some d => rw [hx] at hn; exact (List.nodup_cons.1 hn).2
    rw [putAll, putAll_at v r (n + 1) j o _ hr (by simpa using h) hd (by cases hx : x.dst <;> simpa [Act.put] using ht)]
    congr 2; omega
/-- Behind the region the frame is the first one with every value put where it belongs. -/
theorem held_act {ops : Array Oper} {A : Nat → Nat → Prop} {R : Nat → Value → World → Prop} {G : (Nat → Value) → (Nat → Bool) → World → Prop} {a₀ a : Act} {γ : Nat → Value} {L : Nat → Bool} {w : World}
    (h : Held (dstOf ops) A R G a₀ γ L a w) (hL : ∀ j, j < ops.size → L j = true) (hn : Once ops.toList = true) (hf : Fits ops.toList a₀.tmps.size = true) : a = putAll γ ops.toList 0 a₀ := by
  have hd : a.defers = (putAll γ ops.toList 0 a₀).defers := by rw [putAll_defers]; exact h.defers
  have ht : a.tmps = (putAll γ ops.toList 0 a₀).tmps := by
    apply Array.ext_getElem?
    intro t
    by_cases hx : ∃ (j : Nat) (o : Oper), ops.toList[j]? = some o ∧ o.dst = some t
    · obtain ⟨j, o, ho, hd⟩ := hx
      have hfit : t < a₀.tmps.size := by
        have := (List.all_eq_true.1 hf) o (List.mem_of_getElem? ho)
        simpa [hd] using this
      have ho' : ops[j]? = some o := by simpa using ho
      rw [putAll_at γ ops.toList 0 j o a₀ (of_decide_eq_true hn) ho hd hfit, Nat.zero_add]
      exact h.slot j t (by simp [dstOf, ho', hd]) (hL j (Array.getElem?_eq_some_iff.1 ho').1)
    · rw [putAll_other γ ops.toList 0 a₀ (fun o ho e => by
        obtain ⟨j, hj⟩ := List.getElem?_of_mem ho
        exact hx ⟨j, o, hj, e⟩)]
      refine h.rest t (fun j e => ?_)
      obtain ⟨o, ho, hd⟩ := Option.bind_eq_some_iff.1 e
      exact hx ⟨j, o, by simpa using ho, hd⟩
  cases a
  cases hp : putAll γ ops.toList 0 a₀
  rw [hp] at hd ht
  simp only at hd ht
  rw [hd, ht]

/-- A box that operation i makes and operation j fills. -/
def Pend (W0 : World) (T i j : Nat) (fin : Array Value) (γ : Nat → Value) (L : Nat → Bool) (w : World) : Prop :=
  L i = true → ∃ (b : Nat) (cs : Array Value), γ i = .pointer (some ⟨b, 0, none⟩) ∧ W0.heap.size ≤ b ∧ w.heap[b]? = some (.cells cs T (0, 0)) ∧ cs.size = fin.size ∧ (L j = true → cs = fin)
section
variable {W0 : World} {T i j : Nat} {fin : Array Value} {γ : Nat → Value} {L : Nat → Bool} {w w' : World}
theorem Pend.start (h : L i = false) : Pend W0 T i j fin γ L w := fun e => by rw [h] at e; cases e
theorem Pend.other (h : Pend W0 T i j fin γ L w) {k : Nat} (v : Value) (hi : i ≠ k) (hj : j ≠ k) : Pend W0 T i j fin (upd γ k v) (more L k) w := by
  intro hl
  rw [more_ne hi] at hl
  obtain ⟨b, cs, h1, h2, h3, h4, h5⟩ := h hl
  exact ⟨b, cs, by rw [upd_ne _ _ hi]; exact h1, h2, h3, h4, fun e => h5 (by rw [more_ne hj] at e; exact e)⟩
theorem Pend.below (h : Pend W0 T i j fin γ L w) (hb : Below w.heap.size w w') : Pend W0 T i j fin γ L w' := by
  intro hl
  obtain ⟨b, cs, h1, h2, h3, h4, h5⟩ := h hl
  exact ⟨b, cs, h1, h2, (hb.block b (Array.getElem?_eq_some_iff.1 h3).1).trans h3, h4, h5⟩
theorem Pend.made (cs : Array Value) (hs : cs.size = fin.size) (hw : W0.heap.size ≤ w.heap.size) (hj : L j = false) (hij : j ≠ i) : Pend W0 T i j fin (upd γ i (.pointer (some ⟨w.heap.size, 0, none⟩))) (more L i) (w.alloc (.cells cs T (0, 0))) := by
  intro _
  exact ⟨w.heap.size, cs, by rw [upd_self], hw, heap_alloc_new _ _, hs, fun e => by rw [more_ne hij, hj] at e; cases e⟩
theorem Pend.filled {b : Nat} (hi : γ i = .pointer (some ⟨b, 0, none⟩)) (hb : W0.heap.size ≤ b) (hx : w'.heap[b]? = some (.cells fin T (0, 0))) (hij : i ≠ j) (v : Value) : Pend W0 T i j fin (upd γ j v) (more L j) w' := by
  intro _
  exact ⟨b, fin, by rw [upd_ne _ _ hij]; exact hi, hb, hx, rfl, fun _ => rfl⟩
end
end RV
end Go.Proofs.YtbhdfjoagajipaaGreat
namespace Go.Proofs.YtbhdfjoagajipaaGreat
namespace RV
open Go.RowKit
set_option linter.unusedVariables false

/-- What operation j leaves, by a list (none: anything). -/
def Is : List (Option Value) → Nat → Value → World → Prop
  | some x :: _, 0, v, _ => v = x
  | _ :: l, n + 1, v, w => Is l n v w
  | _, _, _, _ => True
theorem Is.at : ∀ {l : List (Option Value)} {j : Nat} {v x : Value} {w : World}, Is l j v w → l[j]? = some (some x) → v = x
  | [], _, _, _, _, _, e => by simp at e
  | some y :: l, 0, v, x, w, h, e => by
    simp only [List.getElem?_cons_zero, Option.some.injEq] at e
    rw [← e]; exact h
  | none :: l, 0, v, x, w, h, e => by simp at e
  | some y :: l, n + 1, v, x, w, h, e => Is.at (l := l) (j := n) (w := w) h (by simpa using e)
  | none :: l, n + 1, v, x, w, h, e => Is.at (l := l) (j := n) (w := w) h (by simpa using e)
theorem Is.keep : ∀ {l : List (Option Value)} {j : Nat} {v : Value} {w : World} (w' : World), Is l j v w → Is l j v w'
  | [], _, _, _, _, _ => by simp only [Is]
  | some y :: l, 0, v, w, w', h => h
  | none :: l, 0, v, w, w', h => trivial
  | some y :: l, n + 1, v, w, w', h => Is.keep (l := l) (j := n) (w := w) w' h
  | none :: l, n + 1, v, w, w', h => Is.keep (l := l) (j := n) (w := w) w' h
/-- A slot's number and one, or 0. -/
def dstN (o : Oper) : Nat := match o.dst with | none => 0 | some t => t + 1
/-- What the slots of those hold that have come up. -/
def Slots (L : Nat → Bool) (a : Act) : List Nat → List (Option Value) → Nat → Prop
  | (t + 1) :: ds, some v :: vs, n => (L n = true → a.tmps[t]? = some v) ∧ Slots L a ds vs (n + 1)
  | _ :: ds, _ :: vs, n => Slots L a ds vs (n + 1)
  | _, _, _ => True
/-- What the slots hold that the region leaves alone. -/
def Outs (a : Act) : List (Nat × Value) → Prop
  | [] => True
  | x :: r => a.tmps[x.1]? = some x.2 ∧ Outs a r
def free (ops : Array Oper) (E : List (Nat × Value)) : Bool := E.all fun x => ops.toList.all fun o => decide (o.dst ≠ some x.1)
/-- Does j wait for i? -/
def waitsB (ops : Array Oper) (j i : Nat) : Bool := match ops[j]? with | some o => o.after.any fun e => Region.binds .any e && e.on == i | none => false
theorem wt {ops : Array Oper} {A : Nat → Nat → Prop} {j i : Nat} (hA : waitsFor ops = A) (h : waitsB ops j i = true) : A j i := by
  rw [← hA]
  unfold waitsB at h
  cases ho : ops[j]? with
  | none => rw [ho] at h; cases h
  | some o =>
    rw [ho] at h
    obtain ⟨e, he, hb⟩ := Array.any_eq_true'.1 h
    simp only [Bool.and_eq_true, beq_iff_eq] at hb
    exact ⟨o, ho, e, he, hb.1, hb.2⟩
section
variable {P : Program} {ops : Array Oper} {Q : Exit → Act → World → Prop}
theorem outs_of {D : Nat → Option Tmp} {A : Nat → Nat → Prop} {R : Nat → Value → World → Prop} {G : (Nat → Value) → (Nat → Bool) → World → Prop} {a₀ : Act} {γ : Nat → Value} {L : Nat → Bool} {a : Act} {w : World} (hD : dstOf ops = D) (h : Held D A R G a₀ γ L a w) : ∀ (E : List (Nat × Value)), free ops E = true → Outs a₀ E → Outs a E
  | [], _, _ => trivial
  | x :: r, hf, ho => by
    unfold free at hf
    rw [List.all_cons, Bool.and_eq_true] at hf
    refine ⟨?_, outs_of hD h r hf.2 ho.2⟩
    rw [h.rest x.1 (by rw [← hD]; exact dst_free hf.1)]
    exact ho.1
theorem slots_of {D : Nat → Option Tmp} {A : Nat → Nat → Prop} {l : List (Option Value)} {G : (Nat → Value) → (Nat → Bool) → World → Prop} {a₀ : Act} {γ : Nat → Value} {L : Nat → Bool} {a : Act} {w : World} (hD : dstOf ops = D) (h : Held D A (Is l) G a₀ γ L a w) :
    ∀ (os : List Oper) (vs : List (Option Value)) (n : Nat), (∀ k, ops[n + k]? = os[k]?) → (∀ k, l[n + k]? = vs[k]?) → Slots L a (os.map dstN) vs n
  | [], vs, n, _, _ => by simp only [List.map_nil, Slots]
  | o :: os, [], n, _, _ => by rw [List.map_cons]; cases dstN o <;> trivial
  | o :: os, v :: vs, n, ho, hv => by
    have ih := slots_of hD h os vs (n + 1) (fun k => by have := ho (k + 1); rw [show n + (k + 1) = n + 1 + k by omega] at this; simpa using this) (fun k => by have := hv (k + 1); rw [show n + (k + 1) = n + 1 + k by omega] at this; simpa using this)
    have o0 : ops[n]? = some o := by have := ho 0; simpa using this
    have v0 : l[n]? = some v := by have := hv 0; simpa using this
    rw [List.map_cons]
    cases hd : o.dst with
    | none => rw [show dstN o = 0 by simp [dstN, hd]]; simp only [Slots]; exact ih
    | some t =>
      rw [show dstN o = t + 1 by simp [dstN, hd]]
      cases v with
      | none => simp only [Slots]; exact ih
      | some x =>
        simp only [Slots]
        refine ⟨fun hl => ?_, ih⟩
        rw [h.slot n t (by rw [← hD]; simp [dstOf, o0, hd]) hl, Is.at (h.holds n hl) v0]
/-- The frame behind the region. -/
def putL (γ : Nat → Value) : List (Option Value) → List Oper → Nat → Act → Act
  | some v :: vs, o :: os, n, a => putL γ vs os (n + 1) (a.put o.dst v)
  | none :: vs, o :: os, n, a => putL γ vs os (n + 1) (a.put o.dst (γ n))
  | _, _, _, a => a
theorem putL_of (γ : Nat → Value) : ∀ (os : List Oper) (vs : List (Option Value)) (n : Nat) (a : Act), vs.length = os.length → (∀ k x, vs[k]? = some (some x) → γ (n + k) = x) → putAll γ os n a = putL γ vs os n a
  | [], vs, n, a, _, _ => by cases vs with | nil => rfl | cons v vs => cases v <;> rfl
  | o :: os, [], n, a, hl, _ => by simp at hl
  | o :: os, v :: vs, n, a, hl, h => by
    have ih := fun b => putL_of γ os vs (n + 1) b (by simpa using hl) (fun k x e => by rw [show n + 1 + k = n + (k + 1) by omega]; exact h (k + 1) x (by simpa using e))
    cases v with
    | none => rw [putAll, putL]; exact ih _
    | some v => rw [putAll, putL, show γ n = v from h 0 v (by simp)]; exact ih _
theorem is_act {A : Nat → Nat → Prop} {l : List (Option Value)} {G : (Nat → Value) → (Nat → Bool) → World → Prop} {a₀ a : Act} {γ : Nat → Value} {L : Nat → Bool} {w : World}
    (h : Held (dstOf ops) A (Is l) G a₀ γ L a w) (hL : ∀ j, j < ops.size → L j = true) (hn : Once ops.toList = true) (hf : Fits ops.toList a₀.tmps.size = true) (hs : l.length = ops.toList.length) :
    a = putL γ l ops.toList 0 a₀ :=
  (held_act h hL hn hf).trans (putL_of γ _ _ 0 _ hs fun k x e => by
    have hk : k < l.length := (List.getElem?_eq_some_iff.1 e).1
    rw [Nat.zero_add]
    exact Is.at (h.holds k (hL k (by rw [hs] at hk; simpa using hk))) e)

/-- THE LAW, in short. -/
theorem region_is {id : Nat} {a₀ : Act} {w : World} (l : List (Option Value)) (ds : List Nat) (E : List (Nat × Value)) (G : (Nat → Value) → (Nat → Bool) → World → Prop) (hm : P.follows .mixedOrders = true)
    (ht : Tidy2 ops.toList 0 = true) (hn : Once ops.toList = true) (hfit : Fits ops.toList a₀.tmps.size = true) (hd : ops.toList.map dstN = ds) (hs : l.length = ops.toList.length) (hE : free ops E = true) (hE0 : Outs a₀ E)
    (h0 : G (fun _ => undef) (fun _ => false) w.drew)
    (hall : ∀ D A Z, dstOf ops = D → waitsFor ops = A → a₀ = Z → (∀ γ L a w, Held D A (Is l) G Z γ L a w → Outs a E ∧ Slots L a ds l 0) → AllDo P Q D A (Is l) G Z ops.toList 0)
    (hq : ∀ (γ : Nat → Value) (w : World) (L : Nat → Bool), (∀ j, j < ops.size → L j = true) → (∀ j, L j = true → Is l j (γ j) w) → G γ L w → Q .normal (putL γ l ops.toList 0 a₀) w) :
    (Code.region id ops true).wp P Q a₀ w := by
  refine region_by2 (Is l) G hm ht hn hfit h0 (hall _ _ _ rfl rfl rfl fun γ L a w h => ⟨outs_of rfl h E hE hE0, ?_⟩) fun γ a w L hL _ h => ?_
  · rw [← hd]
    exact slots_of rfl h _ l 0 (fun k => by simp) (fun k => by simp)
  · rw [is_act h hL hn hfit hs]
    exact hq γ w L hL h.holds h.glob

theorem rs {id : Nat} {a₀ : Act} {w : World} (l : List (Option Value)) (ds : List Nat) (E : List (Nat × Value)) (G : (Nat → Value) → (Nat → Bool) → World → Prop) (hE0 : Outs a₀ E)
    (h0 : G (fun _ => undef) (fun _ => false) w.drew)
    (hall : ∀ D A Z, dstOf ops = D → waitsFor ops = A → a₀ = Z → (∀ γ L a w, Held D A (Is l) G Z γ L a w → Outs a E ∧ Slots L a ds l 0) → AllDo P Q D A (Is l) G Z ops.toList 0)
    (hq : ∀ (γ : Nat → Value) (w : World) (L : Nat → Bool), (∀ j, j < ops.size → L j = true) → (∀ j, L j = true → Is l j (γ j) w) → G γ L w → Q .normal (putL γ l ops.toList 0 a₀) w)
    (hm : P.follows .mixedOrders = true := by kernel_rfl) (ht : Tidy2 ops.toList 0 = true := by kernel_rfl) (hn : Once ops.toList = true := by kernel_rfl) (hfit : Fits ops.toList a₀.tmps.size = true := by kernel_rfl) (hd : ops.toList.map dstN = ds := by kernel_rfl) (hs : l.length = ops.toList.length := by kernel_rfl) (hE : free ops E = true := by kernel_rfl) :
    (Code.region id ops true).wp P Q a₀ w := region_is l ds E G hm ht hn hfit hd hs hE hE0 h0 hall hq
variable {D : Nat → Option Tmp} {A : Nat → Nat → Prop} {l : List (Option Value)} {G : (Nat → Value) → (Nat → Bool) → World → Prop} {a₀ : Act} {F : (Nat → Bool) → Act → Prop}
/-- An operation that computes. -/
theorem pu (T : ∀ γ L a w, Held D A (Is l) G a₀ γ L a w → F L a) {i : Nat} {o : Oper} (hG : ∀ γ v L w, L i = false → G γ L w → G (upd γ i v) (more L i) w)
    (h : ∀ γ L a w, Held D A (Is l) G a₀ γ L a w → L i = false → F L a → (∀ e ∈ o.after, Region.binds .any e = true → L e.on = true) → ∃ v, (execOp a.eval o).run P w = .ok (.value v) w ∧ Is l i v w) (hgd : o.guard = none := by rfl) : Does P Q D A (Is l) G a₀ i o :=
  does_pure hG (fun γ L a w hH hl hA => h γ L a w hH hl (T γ L a w hH) hA) hgd
/-- Of which operations what they leave is known, whatever is known of the others. -/
def Kn (R : Nat → Value → World → Prop) : List (Option Value) → Nat → Prop
  | some x :: l, n => (∀ v w, R n v w ↔ v = x) ∧ Kn R l (n + 1)
  | none :: l, n => Kn R l (n + 1)
  | [], _ => True
theorem Kn.at {R : Nat → Value → World → Prop} : ∀ {l : List (Option Value)} {n k : Nat} {x : Value}, Kn R l n → l[k]? = some (some x) → ∀ v w, R (n + k) v w ↔ v = x
  | [], _, _, _, _, e => by simp at e
  | some y :: l, n, 0, x, h, e => by
    simp only [List.getElem?_cons_zero, Option.some.injEq] at e
    rw [← e]; exact h.1
  | none :: l, n, 0, x, h, e => by simp at e
  | some y :: l, n, k + 1, x, h, e => by rw [show n + (k + 1) = n + 1 + k by omega]; exact Kn.at h.2 (by simpa using e)
  | none :: l, n, k + 1, x, h, e => by rw [show n + (k + 1) = n + 1 + k by omega]; exact Kn.at (l := l) h (by simpa using e)
theorem slots_kn {D : Nat → Option Tmp} {A : Nat → Nat → Prop} {R : Nat → Value → World → Prop} {l : List (Option Value)} {G : (Nat → Value) → (Nat → Bool) → World → Prop} {a₀ : Act} {γ : Nat → Value} {L : Nat → Bool} {a : Act} {w : World} (hD : dstOf ops = D) (hk : Kn R l 0) (h : Held D A R G a₀ γ L a w) :
    ∀ (os : List Oper) (vs : List (Option Value)) (n : Nat), (∀ k, ops[n + k]? = os[k]?) → (∀ k, l[n + k]? = vs[k]?) → Slots L a (os.map dstN) vs n
  | [], vs, n, _, _ => by simp only [List.map_nil, Slots]
  | o :: os, [], n, _, _ => by rw [List.map_cons]; cases dstN o <;> trivial
  | o :: os, v :: vs, n, ho, hv => by
    have ih := slots_kn hD hk h os vs (n + 1) (fun k => by have := ho (k + 1); rw [show n + (k + 1) = n + 1 + k by omega] at this; simpa using this) (fun k => by have := hv (k + 1); rw [show n + (k + 1) = n + 1 + k by omega] at this; simpa using this)
    have o0 : ops[n]? = some o := by have := ho 0; simpa using this
    have v0 : l[n]? = some v := by have := hv 0; simpa using this
    rw [List.map_cons]
    cases hd : o.dst with
    | none => rw [show dstN o = 0 by simp [dstN, hd]]; simp only [Slots]; exact ih
    | some t =>
      rw [show dstN o = t + 1 by simp [dstN, hd]]
      cases v with
      | none => simp only [Slots]; exact ih
      | some x =>
        simp only [Slots]
        refine ⟨fun hl => ?_, ih⟩
        have := (Kn.at hk v0 (γ n) w).1 (by rw [Nat.zero_add]; exact h.holds n hl)
        rw [h.slot n t (by rw [← hD]; simp [dstOf, o0, hd]) hl, this]
theorem kfacts {D : Nat → Option Tmp} {R : Nat → Value → World → Prop} {a₀ Z : Act} {l : List (Option Value)} (ds : List Nat) (E : List (Nat × Value)) (hD : dstOf ops = D) (hZ : a₀ = Z) (hk : Kn R l 0) (hE0 : Outs a₀ E) (hd : ops.toList.map dstN = ds) (hE : free ops E = true) :
    ∀ (A : Nat → Nat → Prop) (G : (Nat → Value) → (Nat → Bool) → World → Prop) (γ : Nat → Value) (L : Nat → Bool) (a : Act) (w : World), Held D A R G Z γ L a w → Outs a E ∧ Slots L a ds l 0 := fun A G γ L a w h =>
  ⟨outs_of hD h E hE (by rw [← hZ]; exact hE0), by rw [← hd]; exact slots_kn hD hk h _ l 0 (fun k => by simp) (fun k => by simp)⟩
/-- An operation that computes, beside others of which less is known. -/
theorem pk {D : Nat → Option Tmp} {A : Nat → Nat → Prop} {R : Nat → Value → World → Prop} {G : (Nat → Value) → (Nat → Bool) → World → Prop} {a₀ : Act} {l : List (Option Value)} {F : (Nat → Bool) → Act → Prop} (hk : Kn R l 0) (T : ∀ (A : Nat → Nat → Prop) (G : (Nat → Value) → (Nat → Bool) → World → Prop) (γ : Nat → Value) (L : Nat → Bool) (a : Act) (w : World), Held D A R G a₀ γ L a w → F L a) {i : Nat} {o : Oper} (hG : ∀ γ v L w, L i = false → G γ L w → G (upd γ i v) (more L i) w)
    (h : ∀ γ L a w, Held D A R G a₀ γ L a w → L i = false → F L a → (∀ e ∈ o.after, Region.binds .any e = true → L e.on = true) → ∃ v, (execOp a.eval o).run P w = .ok (.value v) w ∧ l[i]? = some (some v)) (hgd : o.guard = none := by rfl) : Does P Q D A R G a₀ i o :=
  does_pure hG (fun γ L a w hH hl hA => by
    obtain ⟨v, hv, e⟩ := h γ L a w hH hl (T _ _ γ L a w hH) hA
    have := (Kn.at hk e v w).2 rfl
    rw [Nat.zero_add] at this
    exact ⟨v, hv, this⟩) hgd
end
end RV
end Go.Proofs.YtbhdfjoagajipaaGreat
namespace Go.Proofs.YtbhdfjoagajipaaGreat
set_option linter.unusedVariables false

/-- A point of whole grains. -/
structure Pt where
  x : Int
  y : Int
  z : Int
  deriving DecidableEq
def Pt.O : Pt := ⟨0, 0, 0⟩
/-- No part's size is above m. -/
def Pt.inB (p : Pt) (m : Int) : Bool := decide ((-m ≤ p.x ∧ p.x ≤ m) ∧ (-m ≤ p.y ∧ p.y ≤ m) ∧ (-m ≤ p.z ∧ p.z ≤ m))
theorem Pt.inB_iff (p : Pt) (m : Int) : p.inB m = true ↔ (-m ≤ p.x ∧ p.x ≤ m) ∧ (-m ≤ p.y ∧ p.y ≤ m) ∧ (-m ≤ p.z ∧ p.z ≤ m) := by simp [Pt.inB]
theorem Pt.inB_no (p : Pt) (m : Int) : p.inB m = false ↔ ¬ ((-m ≤ p.x ∧ p.x ≤ m) ∧ (-m ≤ p.y ∧ p.y ≤ m) ∧ (-m ≤ p.z ∧ p.z ≤ m)) := by rw [← Pt.inB_iff]; simp
def Pt.by (p : Pt) (n : Int) : Pt := ⟨p.x.tdiv n, p.y.tdiv n, p.z.tdiv n⟩
def Pt.neg (p : Pt) : Pt := ⟨-p.x, -p.y, -p.z⟩
def Pt.sub (p q : Pt) : Pt := ⟨p.x - q.x, p.y - q.y, p.z - q.z⟩
def Pt.dot (p q : Pt) : Int := p.x * q.x + p.y * q.y + p.z * q.z
def Pt.cross (p q : Pt) : Pt := ⟨p.y * q.z - p.z * q.y, p.z * q.x - p.x * q.z, p.x * q.y - p.y * q.x⟩
/-- The greatest number that divides all parts. -/
def Pt.g (p : Pt) : Nat := Nat.gcd (Nat.gcd p.x.natAbs p.y.natAbs) p.z.natAbs
def Pt.low (p : Pt) : Pt := if p.g = 0 then p else p.by p.g
def halveF : Nat → Pt → Pt
  | 0, p => p
  | n + 1, p => if p.inB 1048576 then p else halveF n (p.by 2)
def Pt.half (p : Pt) : Pt := halveF 43 p
def Pt.short (p : Pt) : Pt := if p.inB 4398046511104 then p.low.half.low else Pt.O

theorem abs_tdiv (a : Int) (n : Nat) : (a.tdiv n).natAbs = a.natAbs / n := Int.natAbs_tdiv a n
theorem tdiv_le (a : Int) (m : Int) (n : Nat) (h : -m ≤ a ∧ a ≤ m) : -m ≤ a.tdiv n ∧ a.tdiv n ≤ m := by
  have e := abs_tdiv a n
  have := Nat.div_le_self a.natAbs n
  generalize a.natAbs / n = q at e this
  omega
theorem Pt.by_in {p : Pt} {m : Int} (n : Nat) (h : p.inB m = true) : (p.by n).inB m = true := by
  rw [Pt.inB_iff] at h ⊢
  exact ⟨tdiv_le _ _ _ h.1, tdiv_le _ _ _ h.2.1, tdiv_le _ _ _ h.2.2⟩
theorem Pt.low_in {p : Pt} {m : Int} (h : p.inB m = true) : p.low.inB m = true := by
  unfold Pt.low
  split
  · exact h
  · exact Pt.by_in _ h
theorem half_le (a m : Int) (h : -(2 * m) ≤ a ∧ a ≤ 2 * m) : -m ≤ a.tdiv 2 ∧ a.tdiv 2 ≤ m := by
  have e : (a.tdiv 2).natAbs = a.natAbs / 2 := abs_tdiv a 2
  omega
theorem half_in {p : Pt} {m : Int} (h : p.inB (2 * m) = true) : (p.by 2).inB m = true := by
  rw [Pt.inB_iff] at h ⊢
  exact ⟨half_le _ _ h.1, half_le _ _ h.2.1, half_le _ _ h.2.2⟩
theorem inB_mono {p : Pt} {m n : Int} (h : p.inB m = true) (k : m ≤ n) : p.inB n = true := by
  rw [Pt.inB_iff] at h ⊢
  omega
theorem halveF_in (n : Nat) (p : Pt) (h : p.inB (2 ^ n : Nat) = true) : (halveF n p).inB 1048576 = true := by
  induction n generalizing p with
  | zero => exact inB_mono h (by decide)
  | succ n ih =>
    unfold halveF
    split
    · assumption
    · refine ih _ (half_in ?_)
      rw [Nat.pow_succ, Nat.mul_comm, Int.natCast_mul] at h
      exact h
theorem half_in20 {p : Pt} (h : p.inB 4398046511104 = true) : p.half.inB 1048576 = true := halveF_in 43 p (inB_mono h (by decide))
theorem halveF_id (n : Nat) (p : Pt) (h : p.inB 1048576 = true) : halveF n p = p := by
  cases n with
  | zero => rfl
  | succ n => simp [halveF, h]
theorem short_in (p : Pt) : p.short.inB 1048576 = true := by
  unfold Pt.short
  split
  · exact Pt.low_in (half_in20 (Pt.low_in (by assumption)))
  · decide
theorem neg_in (p : Pt) (m : Int) : p.neg.inB m = p.inB m := by
  rw [Bool.eq_iff_iff, Pt.inB_iff, Pt.inB_iff]
  unfold Pt.neg
  dsimp only
  omega
def pt (L : List Pt) (i : Nat) : Pt := L[i]?.getD Pt.O
theorem pt_mem {L : List Pt} {i : Nat} (h : i < L.length) : pt L i ∈ L := by unfold pt; rw [List.getElem?_eq_getElem h]; exact List.getElem_mem h
theorem drop_pt {L : List Pt} {i : Nat} (h : i < L.length) : L.drop i = pt L i :: L.drop (i + 1) := by
  rw [List.drop_eq_getElem_cons h]; unfold pt; rw [List.getElem?_eq_getElem h]; rfl
theorem take_pt {L : List Pt} {i : Nat} (h : i < L.length) : L.take (i + 1) = L.take i ++ [pt L i] := by
  rw [List.take_succ_eq_append_getElem h]; unfold pt; rw [List.getElem?_eq_getElem h]; rfl
end Go.Proofs.YtbhdfjoagajipaaGreat
namespace Go.Proofs.YtbhdfjoagajipaaGreat
open Go.RowKit Go.Shelf
set_option linter.unusedVariables false

def Pt.v (p : Pt) : Value := .agg #[.int .i64 p.x, .int .i64 p.y, .int .i64 p.z]
def fl3 : List Pt → List Value
  | [] => []
  | p :: r => .int .i64 p.x :: .int .i64 p.y :: .int .i64 p.z :: fl3 r
theorem fl3_length : ∀ L : List Pt, (fl3 L).length = L.length * 3
  | [] => rfl
  | p :: r => by simp only [fl3, List.length_cons, fl3_length r]; omega
theorem fl3_append : ∀ A B : List Pt, fl3 (A ++ B) = fl3 A ++ fl3 B
  | [], B => rfl
  | p :: r, B => by simp [fl3, fl3_append r B]
theorem fl3_at : ∀ (L : List Pt) (i : Nat), i < L.length → (fl3 L)[i * 3]? = some (.int .i64 (L[i]?.getD Pt.O).x) ∧ (fl3 L)[i * 3 + 1]? = some (.int .i64 (L[i]?.getD Pt.O).y) ∧ (fl3 L)[i * 3 + 2]? = some (.int .i64 (L[i]?.getD Pt.O).z)
  | [], i, h => by simp at h
  | p :: r, 0, _ => ⟨rfl, rfl, rfl⟩
  | p :: r, i + 1, h => by
    have := fl3_at r i (by simpa using h)
    rw [show (i + 1) * 3 = i * 3 + 3 by omega]
    simpa [fl3] using this
theorem fl3_one (L : List Pt) : ∀ u ∈ fl3 L, u.oneCell' = true := by
  induction L with
  | nil => intro u hu; cases hu
  | cons p r ih =>
    intro u hu
    simp only [fl3, List.mem_cons] at hu
    rcases hu with rfl | rfl | rfl | hu
    · rfl
    · rfl
    · rfl
    · exact ih u hu
theorem point_info : (Tryz.prog.info? 23).map (fun i => (i.zero, i.size, i.bytes)) = some (some (.agg #[.int .i64 0, .int .i64 0, .int .i64 0]), 3, 24) := by kernel_rfl

theorem b_step {w w1 w2 : World} (h1 : Below w.heap.size w w1) (h2 : Below w1.heap.size w1 w2) : Below w.heap.size w w2 := h1.trans (h2.mono h1.size)
theorem c_after {w w1 : World} {p : Addr} {v : Value} (hb : Below w.heap.size w w1) (hc : w.cell? p = some v) : w1.cell? p = some v := (hb.cell (World.block_lt_of_cell? _ _ hc)).trans hc
theorem n_after (w : World) (o : Obj) : Below w.heap.size w (w.alloc o) := (Below.refl _ _).alloc (Nat.le_refl _) _

theorem f_after {w w1 : World} {p : Addr} {v : Value} (hb : Below w.heap.size w w1) (hc : w.cell? p = some v) (hf : w.frozen? p = false) : w1.frozen? p = false := (hb.frozen (World.block_lt_of_cell? _ _ hc)).trans hf
theorem early9 {p : Bool} {X Y : Prop} (h : (p = false ∧ X) ∨ (p = true ∧ Y)) (hp : p = false) : X := by
  rcases h with h | h
  · exact h.2
  · rw [hp] at h; cases h.1
theorem late9 {p : Bool} {X Y : Prop} (h : (p = false ∧ X) ∨ (p = true ∧ Y)) (hp : p = true) : Y := by
  rcases h with h | h
  · rw [hp] at h; cases h.1
  · exact h.2
theorem w64 {n : Int} (h1 : -9223372036854775808 ≤ n) (h2 : n ≤ 9223372036854775807) : wrap64 n = n := by unfold wrap64; omega

/-- A point's box. -/
structure Box3 (W : World) (b : Nat) (q : Pt) : Prop where
  c0 : W.cell? ⟨b, 0, none⟩ = some (.int .i64 q.x)
  c1 : W.cell? ⟨b, 1, none⟩ = some (.int .i64 q.y)
  c2 : W.cell? ⟨b, 2, none⟩ = some (.int .i64 q.z)
  f0 : W.frozen? ⟨b, 0, none⟩ = false
  f1 : W.frozen? ⟨b, 1, none⟩ = false
  f2 : W.frozen? ⟨b, 2, none⟩ = false
theorem Box3.step {A B : World} {b : Nat} {q : Pt} (h : Box3 A b q) (hb : Below A.heap.size A B) : Box3 B b q :=
  ⟨c_after hb h.c0, c_after hb h.c1, c_after hb h.c2, f_after hb h.c0 h.f0, f_after hb h.c1 h.f1, f_after hb h.c2 h.f2⟩
theorem Box3.lt {W : World} {b : Nat} {q : Pt} (h : Box3 W b q) : b < W.heap.size := World.block_lt_of_cell? _ _ h.c0
theorem Box3.new (w : World) (x y z : Int) (t : TypeId) : Box3 (w.alloc (.cells #[.int .i64 x, .int .i64 y, .int .i64 z] t)) w.heap.size ⟨x, y, z⟩ :=
  ⟨by simp, by simp, by simp, by simp [go_sem], by simp [go_sem], by simp [go_sem]⟩
def set3 (W : World) (b : Nat) (x y z : Int) : World := ((W.setCell ⟨b, 0, none⟩ (.int .i64 x)).setCell ⟨b, 1, none⟩ (.int .i64 y)).setCell ⟨b, 2, none⟩ (.int .i64 z)
theorem Box3.set {W : World} {b : Nat} {q : Pt} (h : Box3 W b q) (x y z : Int) : Box3 (set3 W b x y z) b ⟨x, y, z⟩ := by
  obtain ⟨c0, c1, c2, f0, f1, f2⟩ := h
  unfold set3
  exact ⟨by simp [go_sem, c0], by simp [go_sem, c1], by simp [go_sem, c2], by simp [go_sem, f0], by simp [go_sem, f1], by simp [go_sem, f2]⟩
theorem Box3.other {W : World} {b b' : Nat} {q : Pt} (h : Box3 W b q) (hne : b' ≠ b) (x y z : Int) : Box3 (set3 W b' x y z) b q := by
  obtain ⟨c0, c1, c2, f0, f1, f2⟩ := h
  unfold set3
  have hne' : ¬ b = b' := fun e => hne e.symm
  exact ⟨by simp [go_sem, c0], by simp [go_sem, c1], by simp [go_sem, c2], by simp [go_sem, f0], by simp [go_sem, f1], by simp [go_sem, f2]⟩
theorem set3_below {n : Nat} {w W : World} {b : Nat} (h : Below n w W) (hb : n ≤ b) (x y z : Int) : Below n w (set3 W b x y z) := ((h.setCell hb _).setCell hb _).setCell hb _
theorem set3_size (W : World) (b : Nat) (x y z : Int) : (set3 W b x y z).heap.size = W.heap.size := by simp [set3, World.setCell]

/-- A list of points that can be read. -/
structure Lies (W : World) (v : Value) (L : List Pt) : Prop where
  form : ∃ o cap, v = .slice o L.length cap ∧ L.length ≤ cap ∧ cap ≤ 9223372036854775807 ∧ ∀ i, i < L.length → ∃ g off, o = some ⟨g, off, none⟩ ∧ W.cell? ⟨g, off + i * 3, none⟩ = some (.int .i64 (pt L i).x) ∧ W.cell? ⟨g, off + i * 3 + 1, none⟩ = some (.int .i64 (pt L i).y) ∧ W.cell? ⟨g, off + i * 3 + 2, none⟩ = some (.int .i64 (pt L i).z)
theorem Lies.of_row {W : World} {base : Nat} {v : Value} {L : List Pt} (h : W.ownsRow base 23 3 v L.length (fl3 L)) : Lies W v L := by
  refine ⟨?_⟩
  rcases h.2 with ⟨rfl, h0⟩ | ⟨g, cap, cur, rfl, hb, hg, h1, h2, h3, h4⟩
  · exact ⟨none, 0, by rw [h0], by omega, by omega, fun i hi => by omega⟩
  · refine ⟨_, cap, rfl, h1, by unfold maxLen at h2; omega, fun i hi => ⟨g, 0, rfl, ?_, ?_, ?_⟩⟩
    · rw [Nat.zero_add]; exact (h.cellAt (i * 3) (by omega)).trans (fl3_at L i hi).1
    · rw [Nat.zero_add]; exact (h.cellAt (i * 3 + 1) (by omega)).trans (fl3_at L i hi).2.1
    · rw [Nat.zero_add]; exact (h.cellAt (i * 3 + 2) (by omega)).trans (fl3_at L i hi).2.2
theorem Lies.below {w W : World} {v : Value} {L : List Pt} (h : Lies w v L) (hb : Below w.heap.size w W) : Lies W v L := by
  obtain ⟨o, cap, e, h1, h2, h3⟩ := h.form
  refine ⟨o, cap, e, h1, h2, fun i hi => ?_⟩
  obtain ⟨g, off, e, a, b, c⟩ := h3 i hi
  exact ⟨g, off, e, c_after hb a, c_after hb b, c_after hb c⟩
/-- A list of the call's own. -/
structure Row (w V : World) (u : Value) (M : List Pt) : Prop where
  row : V.ownsRow w.heap.size 23 3 u M.length (fl3 M)
  below : Below w.heap.size w V
theorem Row.lies {w V : World} {u : Value} {M : List Pt} (h : Row w V u M) : Lies V u M := Lies.of_row h.row
theorem news_at {w : World} {vb : Nat} {x y z : Value} {t : TypeId} (h : w.heap[vb]? = some (.cells #[x, y, z] t (0, 0))) : ∀ j u, [x, y, z][j]? = some u → w.cell? ((⟨vb, 0, none⟩ : Addr).add j) = some u := by
  intro j u hj
  have ad : (⟨vb, 0, none⟩ : Addr).add j = ⟨vb, j, none⟩ := by unfold Addr.add; split <;> simp_all
  rw [ad]
  match j, hj with
  | 0, hj => simp at hj; subst hj; simp [World.cell?, h]
  | 1, hj => simp at hj; subst hj; simp [World.cell?, h]
  | 2, hj => simp at hj; subst hj; simp [World.cell?, h]
theorem below_grown {w W : World} (h : Below w.heap.size w W) (row : Option Nat) : w.grownBy W row := ⟨h.os, h.tape, h.output, h.size, fun k hk _ => h.block k hk⟩
theorem G.trans {a b c : World} {row : Option Nat} (h : a.grownBy b row) (k : b.grownBy c row) : a.grownBy c row := ⟨k.os.trans h.os, k.tape.trans h.tape, k.output.trans h.output, Nat.le_trans h.size k.size, fun i hi hn => (k.block i (Nat.lt_of_lt_of_le hi h.size) hn).trans (h.block i hi hn)⟩
theorem own_below {A W : World} {base : Nat} {t : TypeId} {sz n : Nat} {u : Value} {xs : List Value} (h : A.ownsRow base t sz u n xs) (hb : Below A.heap.size A W) : W.ownsRow base t sz u n xs := by
  cases e : u.ownBlock with
  | none => exact h.kept (below_grown hb none) (Or.inl e)
  | some k => exact h.kept (below_grown hb none) (Or.inr (by rw [e]; simp))
/-- What a call does that appends to the list u. -/
structure Grew (w W : World) (u u' : Value) : Prop where
  grown : w.grownBy W u.ownBlock
  same : u'.ownBlock = u.ownBlock ∨ ∃ k, u'.ownBlock = some k ∧ w.heap.size ≤ k
theorem Grew.below {w W : World} (hb : Below w.heap.size w W) (u : Value) : Grew w W u u := ⟨below_grown hb _, Or.inl rfl⟩
theorem Grew.trans {w W X : World} {u v x : Value} (h : Grew w W u v) (k : Grew W X v x) : Grew w X u x := by
  obtain ⟨h1, h2⟩ := h
  obtain ⟨k1, k2⟩ := k
  refine ⟨⟨k1.os.trans h1.os, k1.tape.trans h1.tape, k1.output.trans h1.output, Nat.le_trans h1.size k1.size, fun i hi hn => ?_⟩, ?_⟩
  · refine (k1.block i (Nat.lt_of_lt_of_le hi h1.size) ?_).trans (h1.block i hi hn)
    rcases h2 with e | ⟨j, e, hj⟩
    · rw [e]; exact hn
    · rw [e]; intro e'; cases e'; omega
  · rcases k2 with e | ⟨j, e, hj⟩
    · rw [e]
      rcases h2 with e | ⟨j, e, hj⟩
      · exact Or.inl e
      · exact Or.inr ⟨j, e, hj⟩
    · exact Or.inr ⟨j, e, Nat.le_trans h1.size hj⟩
theorem Grew.on {w0 w W : World} {u u' : Value} {base : Nat} {t : TypeId} {sz n : Nat} {xs : List Value} (h : Grew w W u u') (hb : Below base w0 w) (ho : w.ownsRow base t sz u n xs) (hB : base ≤ w.heap.size) : Below base w0 W := hb.grown h.grown hB (fun k e => (ho.lt k e).1)
/-- A list beside the one that grew. -/
theorem Grew.beside {w W : World} {u u' x : Value} {base : Nat} {t : TypeId} {sz n : Nat} {xs : List Value} (h : Grew w W u u') (ho : w.ownsRow base t sz x n xs) (hne : ∀ k, x.ownBlock = some k → u.ownBlock ≠ some k) :
    W.ownsRow base t sz x n xs ∧ ∀ k, x.ownBlock = some k → u'.ownBlock ≠ some k := by
  refine ⟨?_, fun k e e' => ?_⟩
  · cases e : x.ownBlock with
    | none => exact ho.kept h.grown (Or.inl e)
    | some k => exact ho.kept h.grown (Or.inr (by rw [e]; exact fun e' => hne k e e'.symm))
  · rcases h.same with s | ⟨j, s, hj⟩
    · rw [s] at e'; exact hne k e e'
    · rw [s] at e'; cases e'; have := (ho.lt k e).2; omega
end Go.Proofs.YtbhdfjoagajipaaGreat
