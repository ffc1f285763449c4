/- The frame behind a region that draws its order, written out. -/
import Derived.Test.YtioailboehpcaaaReg2
namespace Go.Proofs.Ytioailboehpcaaa

/-- Three numbers that are told together: is one none; each. -/
def v3bad (a b c : Option Int) : Bool := a.isNone || b.isNone || c.isNone
def v3at (a b c o : Option Int) : Int := cond (a.isNone || b.isNone || c.isNone) 0 (o.getD 0)

def putAll (v : Nat → Value) : List Oper → Nat → Act → Act
  | [], _, a => a
  | o :: r, n, a => putAll v r (n + 1) (a.put o.dst (v n))

theorem putAll_size (v : Nat → Value) : ∀ (l : List Oper) (n : Nat) (a : Act), (putAll v l n a).tmps.size = a.tmps.size
  | [], _, _ => rfl
  | o :: r, n, a => by
    rw [putAll, putAll_size v r]
    cases o.dst <;> simp [Act.put]
theorem putAll_defers (v : Nat → Value) : ∀ (l : List Oper) (n : Nat) (a : Act), (putAll v l n a).defers = a.defers
  | [], _, _ => rfl
  | o :: r, n, a => by
    rw [putAll, putAll_defers v r]
    cases o.dst <;> simp [Act.put]
theorem putAll_other (v : Nat → Value) {t : Tmp} : ∀ (l : List Oper) (n : Nat) (a : Act), (∀ o ∈ l, o.dst ≠ some t) → (putAll v l n a).tmps[t]? = a.tmps[t]?
  | [], _, _, _ => rfl
  | o :: r, n, a, h => by
    rw [putAll, putAll_other v r _ _ (fun x hx => h x (List.mem_cons_of_mem _ hx))]
    have h0 := h o (by simp)
    cases hd : o.dst with
    | none => simp [Act.put]
    | some d =>
      have hne : d ≠ t := fun e => h0 (by rw [hd, e])
      simp only [Act.put]
      rw [Array.getElem?_setIfInBounds_ne hne]
theorem putAll_at (v : Nat → Value) {t : Tmp} : ∀ (l : List Oper) (n j : Nat) (o : Oper) (a : Act), (l.filterMap (·.dst)).Nodup → l[j]? = some o → o.dst = some t → t < a.tmps.size → (putAll v l n a).tmps[t]? = some (v (n + j))
  | [], _, _, _, _, _, h, _, _ => by simp at h
  | x :: r, n, 0, o, a, hn, h, hd, ht => by
    simp only [List.getElem?_cons_zero, Option.some.injEq] at h
    subst h
    rw [List.filterMap_cons, hd] at hn
    have hno := (List.nodup_cons.1 hn).1
    rw [putAll, putAll_other v r _ _ (fun o ho e => hno (List.mem_filterMap.2 ⟨o, ho, e⟩))]
    simp [Act.put, hd, ht]
  | x :: r, n, j + 1, o, a, hn, h, hd, ht => by
    have hr : (r.filterMap (·.dst)).Nodup := by
      rw [List.filterMap_cons] at hn
      cases hx : x.dst with
      | none => simpa [hx] using hn
      | some d => rw [hx] at hn; exact (List.nodup_cons.1 hn).2
    rw [putAll, putAll_at v r (n + 1) j o _ hr (by simpa using h) hd (by cases hx : x.dst <;> simpa [Act.put] using ht)]
    congr 2; omega

/-- Behind the region the frame is the first one with every value put where it belongs. -/
theorem held_act {ops : Array Oper} {A : Nat → Nat → Prop} {val : (Nat → Nat) → Nat → Value} {G : (Nat → Nat) → (Nat → Bool) → World → Prop} {a₀ a : Act} {γ : Nat → Nat} {L : Nat → Bool} {w : World}
    (h : Held (dstOf ops) A val G a₀ γ L a w) (hL : ∀ j, j < ops.size → L j = true) (hn : Once ops.toList = true) (hf : Fits ops.toList a₀.tmps.size = true) : a = putAll (val γ) ops.toList 0 a₀ := by
  have hd : a.defers = (putAll (val γ) ops.toList 0 a₀).defers := by rw [putAll_defers]; exact h.defers
  have ht : a.tmps = (putAll (val γ) ops.toList 0 a₀).tmps := by
    apply Array.ext_getElem?
    intro t
    by_cases hx : ∃ (j : Nat) (o : Oper), ops.toList[j]? = some o ∧ o.dst = some t
    · obtain ⟨j, o, ho, hd⟩ := hx
      have hfit : t < a₀.tmps.size := by
        have := (List.all_eq_true.1 hf) o (List.mem_of_getElem? ho)
        simpa [hd] using this
      have ho' : ops[j]? = some o := by simpa using ho
      rw [putAll_at (val γ) ops.toList 0 j o a₀ (of_decide_eq_true hn) ho hd hfit, Nat.zero_add]
      exact h.slot j t (by simp [dstOf, ho', hd]) (hL j (Array.getElem?_eq_some_iff.1 ho').1)
    · rw [putAll_other (val γ) ops.toList 0 a₀ (fun o ho e => by
        obtain ⟨j, hj⟩ := List.getElem?_of_mem ho
        exact hx ⟨j, o, hj, e⟩)]
      refine h.rest t (fun j e => ?_)
      obtain ⟨o, ho, hd⟩ := Option.bind_eq_some_iff.1 e
      exact hx ⟨j, o, by simpa using ho, hd⟩
  cases a
  cases hp : putAll (val γ) ops.toList 0 a₀
  rw [hp] at hd ht
  simp only at hd ht
  rw [hd, ht]
end Go.Proofs.Ytioailboehpcaaa
