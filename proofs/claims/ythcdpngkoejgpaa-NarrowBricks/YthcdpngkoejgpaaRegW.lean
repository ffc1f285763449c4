/- The law for regions that draw their order, where an edge of one compiler's own may point behind: it binds nobody here. -/
import Derived.Test.YthcdpngkoejgpaaRegV
namespace Go.Proofs.Ythcdpngkoejgpaa
open Go.RowKit
def Tidy2 : List Oper → Nat → Bool
  | [], _ => true
  | o :: rest, n => (o.after.all fun e => !(Region.binds .any e) || decide (e.on < n)) && Tidy2 rest (n + 1)
theorem tidy2_at : ∀ (l : List Oper) (n i : Nat) (o : Oper), Tidy2 l n = true → l[i]? = some o → ∀ e ∈ o.after, Region.binds .any e = true → e.on < n + i
  | [], _, _, _, _, h => by simp at h
  | x :: rest, n, 0, o, ht, h => by
    simp only [Tidy2, Bool.and_eq_true] at ht
    simp only [List.getElem?_cons_zero, Option.some.injEq] at h
    subst h
    intro e he hb
    have := (Array.all_eq_true_iff_forall_mem.1 ht.1) e he
    rw [hb] at this
    simpa using this
  | x :: rest, n, i + 1, o, ht, h => by
    simp only [Tidy2, Bool.and_eq_true] at ht
    intro e he hb
    have := tidy2_at rest (n + 1) i o ht.2 (by simpa using h) e he hb
    omega
theorem all_listed2 {ops : Array Oper} {listed : Array Bool} (ht : Tidy2 ops.toList 0 = true) (hr : Region.ready .any ops listed = []) (hs : listed.size = ops.size) : ∀ i, i < ops.size → listed.getD i false = true := by
  intro i
  induction i using Nat.strongRecOn with
  | _ i ih =>
    intro hi
    cases hl : listed.getD i false with
    | true => rfl
    | false =>
      exfalso
      have ho : ops[i]? = some ops[i] := Array.getElem?_eq_getElem hi
      have hmem : i ∈ Region.ready .any ops listed := by
        refine mem_ready.2 ⟨?_, ops[i], ho, fun e he hb => ?_⟩
        · have : i < listed.size := by omega
          simp [this] at hl ⊢; exact hl
        · have := tidy2_at ops.toList 0 i ops[i] ht (by simp [hi]) e he hb
          exact ih e.on (by omega) (by omega)
      rw [hr] at hmem
      simp at hmem
namespace RV
set_option linter.unusedVariables false
section
variable {P : Program} {ops : Array Oper} {Q : Exit → Act → World → Prop}
/-- THE LAW. -/
theorem region_by2 {id : Nat} {a₀ : Act} {w : World} (R : Nat → Value → World → Prop) (G : (Nat → Value) → (Nat → Bool) → World → Prop) (hm : P.follows .mixedOrders = true)
    (ht : Tidy2 ops.toList 0 = true) (hn : Once ops.toList = true) (hfit : Fits ops.toList a₀.tmps.size = true)
    (h0 : G (fun _ => undef) (fun _ => false) w.drew) (hall : AllDo P Q (dstOf ops) (waitsFor ops) R G a₀ ops.toList 0)
    (hq : ∀ (γ : Nat → Value) (a : Act) (w : World) (L : Nat → Bool), (∀ j, j < ops.size → L j = true) → (∀ j, ops.size ≤ j → L j = false) → Held (dstOf ops) (waitsFor ops) R G a₀ γ L a w → Q .normal a w) :
    (Code.region id ops true).wp P Q a₀ w := by
  refine wp_region_any hm (wpAny_by (fun listed a w => ∃ γ, Held (dstOf ops) (waitsFor ops) R G a₀ γ (fun j => listed.getD j false) a w) ?_ ?_ _ _ _ _ (by simp) (by simp) ?_)
  · intro listed a w i hs hi hI
    obtain ⟨γ, hI⟩ := hI
    obtain ⟨hl, o, ho, hafter⟩ := mem_ready.1 hi
    have hlt : i < listed.size := by rw [hs]; exact (Array.getElem?_eq_some_iff.1 ho).1
    have hl' : listed.getD i false = false := by simp [hlt] at hl ⊢; exact hl
    have hd := allDo_at ops.toList 0 i o hall (by simpa using ho)
    rw [Nat.zero_add] at hd
    have hstep := hd γ _ a w hI hl' hafter
    have hdst : dstOf ops i = o.dst := by simp [dstOf, ho]
    suffices hmain : ∀ (a' : Act) (w' : World), (∃ v, a' = a.put o.dst v ∧ R i v w' ∧ (∀ j v, listed.getD j false = true → R j v w → R j v w') ∧ G (upd γ i v) (more (fun j => listed.getD j false) i) w') →
        ∃ γ, Held (dstOf ops) (waitsFor ops) R G a₀ γ (fun j => (listed.setIfInBounds i true).getD j false) a' w' by
      unfold wpOp
      simp only [ho]
      cases hw : Region.wanted o (yielded ops a.tmps)
      · rw [wantedD_eq] at hw
        obtain ⟨s1, s2⟩ := hstep.2 hw
        simp only [Bool.false_eq_true, if_false]
        exact hmain _ _ ⟨undef, rfl, s1, fun _ _ _ h => h, s2⟩
      · rw [wantedD_eq] at hw
        simp only [if_true]
        exact .inl (Oper.wp_mono hmain (hstep.1 hw))
    rintro a' w' ⟨v, rfl, hR, hkeep, hG⟩
    have hset : (fun j => (listed.setIfInBounds i true).getD j false) = more (fun j => listed.getD j false) i := by
      funext j
      unfold more
      by_cases e : j = i
      · subst e; simp [hlt]
      · rw [getD_set_ne false (Ne.symm e)]; simp [e]
    refine ⟨upd γ i v, ?_⟩
    rw [hset]
    refine ⟨?_, ?_, ?_, ?_, ?_, ?_, hG⟩
    · cases hd : o.dst <;> simp [Act.put, hI.defers]
    · cases hd : o.dst <;> simp [Act.put, hI.size]
    · intro j t hdt hlj
      by_cases e : j = i
      · subst e
        rw [hdst] at hdt
        have hfit' : t < a₀.tmps.size := by
          have := (List.all_eq_true.1 hfit) o (List.mem_of_getElem? (by simpa using ho))
          simpa [hdt] using this
        simp [Act.put, hdt, hI.size, hfit', upd]
      · have hlj' : listed.getD j false = true := by simpa [more, e] using hlj
        have hu := hI.slot j t hdt hlj'
        rw [upd_ne _ _ e, ← hu]
        cases hd : o.dst with
        | none => simp [Act.put]
        | some d =>
          have hne : d ≠ t := fun e' => e (dst_once hn hdt (by rw [hdst, hd, e']))
          simp only [Act.put]
          rw [Array.getElem?_setIfInBounds_ne hne]
    · intro j hlj
      by_cases e : j = i
      · subst e; rw [upd_self]; exact hR
      · have hlj' : listed.getD j false = true := by simpa [more, e] using hlj
        rw [upd_ne _ _ e]
        exact hkeep j _ hlj' (hI.holds j hlj')
    · intro t hno
      have hno' : ∀ j, dstOf ops j = some t → listed.getD j false = false := fun j e => by
        have := hno j e
        by_cases h : j = i
        · subst h; exact hl'
        · simpa [more, h] using this
      rw [← hI.early t hno']
      cases hd : o.dst with
      | none => simp [Act.put]
      | some d =>
        have hne : d ≠ t := fun e' => by have := hno i (by rw [hdst, hd, e']); simp [more] at this
        simp only [Act.put]
        rw [Array.getElem?_setIfInBounds_ne hne]
    · intro j e hA hj
      by_cases h : j = i
      · subst h
        obtain ⟨o', ho', x, hx, hb, rfl⟩ := hA
        obtain rfl : o = o' := by rw [ho] at ho'; exact Option.some.inj ho'
        have := hafter x hx hb
        simp only [more, this, Bool.or_true]
      · have := hI.closed j e hA (by simpa [more, h] using hj)
        simp only [more, this, Bool.or_true]
  · rintro listed a w hs hr ⟨γ, hI⟩
    exact hq γ a w _ (all_listed2 ht hr hs) (fun j hj => by have h9 : ¬ j < listed.size := (by omega); simp [h9]) hI
  · refine ⟨fun _ => undef, rfl, rfl, fun j t hd hl => ?_, fun j hl => ?_, fun _ _ => rfl, fun j e _ hj => ?_, ?_⟩
    · exfalso
      by_cases e : j < ops.size <;> simp [e] at hl
    · exfalso
      by_cases e : j < ops.size <;> simp [e] at hl
    · exfalso
      by_cases e : j < ops.size <;> simp [e] at hj
    · have : (fun j => (Array.replicate ops.size false).getD j false) = (fun _ => false) := by
        funext j
        by_cases e : j < ops.size <;> simp [e]
      rw [this]; exact h0

end
end RV
end Go.Proofs.Ythcdpngkoejgpaa
