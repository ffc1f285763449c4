/- What was told of a pool, and what is there: plain lists. -/
import Derived.Test.YtoocenbmggfodaaPoolE
namespace Go.Proofs.Ytoocenbmggfodaa
open Go.RowKit Go.Shelf
set_option linter.unusedVariables false

def cnt (L : List Pl) : Nat := L.countP (·.has)
theorem cnt_new (n : Nat) : cnt (List.replicate n ⟨0, false, 0⟩) = 0 := by simp [cnt, List.countP_replicate]
theorem at_get {L : List Pl} {i : Nat} (h : i < L.length) : at_ L i = L[i] := by simp [at_, h]
theorem lives_cnt (L : List Pl) : ∀ k, k ≤ L.length → (lives L (ups L.length k)).length = (L.take k).countP (·.has)
  | 0, _ => by rw [ups_zero]; simp [lives]
  | k + 1, hk => by
    have ih := lives_cnt L k (by omega)
    rw [ups_succ (by omega), lives_append, List.length_append, ih, List.take_succ_eq_append_getElem (by omega), List.countP_append]
    congr 1
    have e : at_ L k = L[k] := at_get (by omega)
    by_cases hh : (at_ L k).has = true
    · have h2 : L[k].has = true := by rw [← e]; exact hh
      simp [lives, hh, h2]
    · have h2 : ¬ L[k].has = true := by rw [← e]; exact hh
      simp [lives, hh, h2]
theorem held_cnt (L : List Pl) : held L = cnt L := by
  unfold held cnt
  rw [lives_cnt L L.length (Nat.le_refl _), List.take_length]
theorem cnt_set {L : List Pl} {i : Nat} (h : i < L.length) (p : Pl) : cnt (L.set i p) + (if (at_ L i).has then 1 else 0) = cnt L + (if p.has then 1 else 0) := by
  unfold cnt
  rw [List.countP_set h, at_get h]
  have hpos : L[i].has = true → 0 < L.countP (·.has) := fun hh => List.countP_pos_iff.2 ⟨L[i], List.getElem_mem h, hh⟩
  by_cases hh : L[i].has = true
  · have := hpos hh
    simp only [hh, if_true]; omega
  · simp only [hh]; simp
theorem cnt_le (L : List Pl) : cnt L ≤ L.length := List.countP_le_length
theorem cnt_full {L : List Pl} (h : ∀ i, i < L.length → (at_ L i).has = true) : cnt L = L.length := by
  unfold cnt
  rw [List.countP_eq_length]
  intro p hp
  obtain ⟨i, hi, rfl⟩ := List.mem_iff_getElem.1 hp
  rw [← at_get hi]; exact h i hi
theorem cnt_room {L : List Pl} {i : Nat} (hi : i < L.length) (h : (at_ L i).has = false) : cnt L < L.length := by
  have h1 := cnt_set hi ⟨0, true, 0⟩
  have h2 := cnt_le (L.set i ⟨0, true, 0⟩)
  rw [h] at h1
  simp at h1 h2
  omega

/-- What was told, and what is there still. -/
structure Told (step : Nat) (L : List Pl) (H X : List Int) (B : List Bool) : Prop where
  lenX : X.length = H.length
  lenB : B.length = H.length
  ages : ∀ i, i < L.length → 0 ≤ (at_ L i).age ∧ (at_ L i).age ≤ step
  each : ∀ k, k < H.length → ∃ (i : Nat) (ag : Int), i < L.length ∧ 0 ≤ ag ∧ H[k]?.getD 0 = ag * 65536 + (i : Int) + 1 ∧ (B[k]?.getD false = true → at_ L i = ⟨ag, true, X[k]?.getD 0⟩) ∧ (B[k]?.getD false = false → ag < (at_ L i).age)
  uniq : ∀ k k', k < H.length → k' < H.length → H[k]?.getD 0 = H[k']?.getD 0 → k = k'

theorem decode {ag : Int} {i : Nat} (h0 : 0 ≤ ag) (hi : i < 65536) : (ag * 65536 + (i : Int) + 1 - 1) % 65536 = i ∧ (ag * 65536 + (i : Int) + 1 - 1) / 65536 = ag := by omega
theorem same_handle {ag ag' : Int} {i i' : Nat} (hi : i < 65536) (hi' : i' < 65536) (e : ag * 65536 + (i : Int) + 1 = ag' * 65536 + (i' : Int) + 1) : ag = ag' ∧ i = i' := by omega

theorem Told.found_yes {step : Nat} {L : List Pl} {H X : List Int} {B : List Bool} (h : Told step L H X B) (hL : L.length ≤ 1024) {k : Nat} (hk : k < H.length) (hb : B[k]?.getD false = true) : ∃ i, found L (H[k]?.getD 0) = some i ∧ (at_ L i).x = X[k]?.getD 0 := by
  obtain ⟨i, ag, hi, h0, e, h1, _⟩ := h.each k hk
  have ha := h1 hb
  have hd := decode (i := i) h0 (by omega)
  refine ⟨i, ?_, by rw [ha]⟩
  unfold found
  rw [e, hd.1, hd.2, Int.toNat_natCast, ha, if_pos ⟨by omega, hi, rfl, rfl⟩]
theorem Told.found_no {step : Nat} {L : List Pl} {H X : List Int} {B : List Bool} (h : Told step L H X B) (hL : L.length ≤ 1024) {k : Nat} (hk : k < H.length) (hb : B[k]?.getD false = false) : found L (H[k]?.getD 0) = none := by
  obtain ⟨i, ag, hi, h0, e, _, h1⟩ := h.each k hk
  have ha := h1 hb
  have hd := decode (i := i) h0 (by omega)
  unfold found
  rw [e, hd.1, hd.2, Int.toNat_natCast, if_neg (fun hc => by have := hc.2.2.2; omega)]
theorem Told.small {step : Nat} {L : List Pl} {H X : List Int} {B : List Bool} (h : Told step L H X B) (hL : L.length ≤ 1024) (hs : step ≤ 1000) {k : Nat} (hk : k < H.length) : 0 < H[k]?.getD 0 ∧ H[k]?.getD 0 ≤ 100000000 := by
  obtain ⟨i, ag, hi, h0, e, h1, h2⟩ := h.each k hk
  have ha := h.ages i hi
  have : ag ≤ 1000 := by
    cases hb : B[k]?.getD false with
    | true => have := h1 hb; rw [this] at ha; have := ha.2; simp at this; omega
    | false => have := h2 hb; omega
  omega

theorem at_set_same {L : List Pl} {i : Nat} (h : i < L.length) (p : Pl) : at_ (L.set i p) i = p := by unfold at_; rw [List.getElem?_set_self h]; rfl
theorem at_set_ne {L : List Pl} {i j : Nat} (h : i ≠ j) (p : Pl) : at_ (L.set i p) j = at_ L j := by unfold at_; rw [List.getElem?_set_ne h]

/-- A handle that is told is none of the elder ones. -/
theorem Told.fresh {step : Nat} {L : List Pl} {H X : List Int} {B : List Bool} (h : Told step L H X B) (hL : L.length ≤ 1024) {i : Nat} (hi : i < L.length) (hf : (at_ L i).has = false) {k : Nat} (hk : k < H.length) : H[k]?.getD 0 ≠ (at_ L i).age * 65536 + (i : Int) + 1 := by
  intro e
  obtain ⟨j, ag, hj, h0, e', h1, h2⟩ := h.each k hk
  rw [e'] at e
  obtain ⟨rfl, rfl⟩ := same_handle (by omega) (by omega) e
  cases hb : B[k]?.getD false with
  | true => have := h1 hb; rw [this] at hf; cases hf
  | false => have := h2 hb; omega

theorem Told.mono {step step' : Nat} {L : List Pl} {H X : List Int} {B : List Bool} (h : Told step L H X B) (hs : step ≤ step') : Told step' L H X B := ⟨h.lenX, h.lenB, fun i hi => ⟨(h.ages i hi).1, by have := (h.ages i hi).2; omega⟩, h.each, h.uniq⟩
theorem Told.put {step : Nat} {L : List Pl} {H X : List Int} {B : List Bool} (h : Told step L H X B) (hL : L.length ≤ 1024) {i : Nat} (hi : i < L.length) (hf : (at_ L i).has = false) (x : Int) :
    Told step (L.set i ⟨(at_ L i).age, true, x⟩) (H ++ [(at_ L i).age * 65536 + (i : Int) + 1]) (X ++ [x]) (B ++ [true]) := by
  have ge : ∀ {α : Type} (l : List α) (a d : α) (k : Nat), k < l.length → (l ++ [a])[k]?.getD d = l[k]?.getD d := fun l a d k hk => by rw [List.getElem?_append_left hk]
  have gl : ∀ {α : Type} (l : List α) (a d : α), (l ++ [a])[l.length]?.getD d = a := fun l a d => by simp
  refine ⟨by simp [h.lenX], by simp [h.lenB], fun j hj => ?_, fun k hk => ?_, fun k k' hk hk' e => ?_⟩
  · rw [List.length_set] at hj
    by_cases e : i = j
    · subst e; rw [at_set_same hi]; exact h.ages i hi
    · rw [at_set_ne e]; exact h.ages j hj
  · rw [List.length_append] at hk
    by_cases hlt : k < H.length
    · obtain ⟨j, ag, hj, h0, e, h1, h2⟩ := h.each k hlt
      refine ⟨j, ag, by simpa using hj, h0, by rw [ge _ _ _ _ hlt]; exact e, fun hb => ?_, fun hb => ?_⟩
      · rw [ge _ _ _ _ (by rw [h.lenB]; exact hlt)] at hb
        rw [ge _ _ _ _ (by rw [h.lenX]; exact hlt)]
        have := h1 hb
        have hne : i ≠ j := fun e => by subst e; rw [this] at hf; cases hf
        rw [at_set_ne hne]; exact this
      · rw [ge _ _ _ _ (by rw [h.lenB]; exact hlt)] at hb
        have := h2 hb
        by_cases e : i = j
        · subst e; rw [at_set_same hi]; exact this
        · rw [at_set_ne e]; exact this
    · obtain rfl : k = H.length := by simp at hk; omega
      refine ⟨i, (at_ L i).age, by simpa using hi, (h.ages i hi).1, gl _ _ _, fun _ => ?_, fun hb => ?_⟩
      · rw [at_set_same hi, show H.length = X.length from h.lenX.symm, gl]
      · rw [show H.length = B.length from h.lenB.symm, gl] at hb; cases hb
  · rw [List.length_append] at hk hk'
    by_cases hlt : k < H.length
    · by_cases hlt' : k' < H.length
      · rw [ge _ _ _ _ hlt, ge _ _ _ _ hlt'] at e; exact h.uniq k k' hlt hlt' e
      · obtain rfl : k' = H.length := by simp at hk'; omega
        rw [ge _ _ _ _ hlt, gl] at e
        exact absurd e (h.fresh hL hi hf hlt)
    · obtain rfl : k = H.length := by simp at hk; omega
      by_cases hlt' : k' < H.length
      · rw [ge _ _ _ _ hlt', gl] at e
        exact absurd e.symm (h.fresh hL hi hf hlt')
      · simp at hk'; omega
theorem Told.drop {step : Nat} {L : List Pl} {H X : List Int} {B : List Bool} (h : Told step L H X B) (hL : L.length ≤ 1024) {k i : Nat} (hk : k < H.length) (hb : B[k]?.getD false = true) (hfd : found L (H[k]?.getD 0) = some i) :
    Told (step + 1) (L.set i ⟨(at_ L i).age + 1, false, 0⟩) H X (B.set k false) := by
  obtain ⟨_, hi, hh, ha, hm⟩ := found_some hfd
  have gb : ∀ j, j < H.length → (B.set k false)[j]?.getD false = if k = j then false else B[j]?.getD false := fun j hj => by
    by_cases e : k = j
    · subst e; rw [List.getElem?_set_self (by rw [h.lenB]; exact hk), if_pos rfl]; rfl
    · rw [List.getElem?_set_ne e, if_neg e]
  refine ⟨h.lenX, by simp [h.lenB], fun j hj => ?_, fun j hj => ?_, h.uniq⟩
  · rw [List.length_set] at hj
    by_cases e : i = j
    · subst e; rw [at_set_same hi]; have := h.ages i hi; constructor <;> (show _ ≤ _) <;> simp <;> omega
    · rw [at_set_ne e]; have := h.ages j hj; omega
  · obtain ⟨q, ag, hq, h0, e, h1, h2⟩ := h.each j hj
    refine ⟨q, ag, by simpa using hq, h0, e, fun hb' => ?_, fun hb' => ?_⟩
    · rw [gb j hj] at hb'
      by_cases ekj : k = j
      · rw [if_pos ekj] at hb'; cases hb'
      · rw [if_neg ekj] at hb'
        have hq2 := h1 hb'
        have hne : i ≠ q := fun eq => by
          subst eq
          have hd := decode (i := i) h0 (by omega)
          have : H[k]?.getD 0 = H[j]?.getD 0 := by
            rw [e]
            have h3 : (at_ L i).age = ag := by rw [hq2]
            omega
          exact ekj (h.uniq k j hk hj this)
        rw [at_set_ne hne]; exact hq2
    · rw [gb j hj] at hb'
      by_cases ekj : k = j
      · subst ekj
        have hd := decode (i := q) h0 (by omega)
        rw [e] at hm ha
        rw [hd.1] at hm
        have hiq : q = i := by omega
        subst hiq
        rw [hd.2] at ha
        rw [at_set_same hi]
        show ag < (at_ L q).age + 1
        omega
      · rw [if_neg ekj] at hb'
        have := h2 hb'
        by_cases eq : i = q
        · subst eq; rw [at_set_same hi]; show ag < (at_ L i).age + 1; omega
        · rw [at_set_ne eq]; exact this
theorem free_of {L : List Pl} {i : Nat} {step : Nat} (hs : step ≤ 1000) (ha : (at_ L i).age ≤ step) : (at_ L i).free = !(at_ L i).has := by
  unfold Pl.free
  rw [decide_eq_true (by omega)]; simp
/-- Put, by what was told. -/
theorem put_once {pp pl step : Nat} {L : List Pl} {H X : List Int} {B : List Bool} (x : Int) {w : World} (h : IsPool w pp pl L) (ht : Told step L H X B) (hL : L.length ≤ 1024) (hs : step ≤ 1000) :
    Calls Try.prog 17 #[.pointer (some ⟨pp, 0, none⟩), .int .i64 x] w fun e W =>
      (∃ (hd : Int) (L1 : List Pl), e = .returned (.tuple #[.int .i64 hd, .int .i64 0]) ∧ Hid (Told step L1 (H ++ [hd]) (X ++ [x]) (B ++ [true])) ∧ cnt L < L.length ∧ Hid (cnt L1 = cnt L + 1) ∧ Hid (L1.length = L.length) ∧ Hid (∀ k, k < H.length → H[k]?.getD 0 ≠ hd) ∧ 0 < hd ∧ hd ≤ 100000000 ∧ IsPool W pp pl L1 ∧ w.grownBy W (some pl)) ∨
      (e = .returned (.tuple #[.int .i64 0, .int .i64 30]) ∧ Hid (cnt L = L.length) ∧ IsPool W pp pl L ∧ w.grownBy W (some pl)) := by
  refine (put_any pp pl L x w h).mono ?_
  rintro e W (⟨k, hk, hf, hlow, rfl, hp, hg⟩ | ⟨hall, rfl, hp, hg⟩)
  · have ha := ht.ages k hk
    have hh : (at_ L k).has = false := by rw [free_of hs ha.2] at hf; simpa using hf
    have hc := cnt_set hk ⟨(at_ L k).age, true, x⟩
    rw [hh] at hc
    simp at hc
    exact Or.inl ⟨_, _, rfl, ht.put hL hk hh x, cnt_room hk hh, hc, (by show _ = _; simp), fun j hj => ht.fresh hL hk hh hj, by omega, by omega, hp, hg⟩
  · refine Or.inr ⟨rfl, cnt_full fun i hi => ?_, hp, hg⟩
    have := hall i hi
    rw [free_of hs (ht.ages i hi).2] at this
    simpa using this
theorem drop_cnt {step : Nat} {L : List Pl} {i : Nat} {h : Int} (hfd : found L h = some i) : cnt (L.set i ⟨(at_ L i).age + 1, false, 0⟩) + 1 = cnt L := by
  obtain ⟨_, hi, hh, _, _⟩ := found_some hfd
  have hc := cnt_set hi ⟨(at_ L i).age + 1, false, 0⟩
  rw [hh] at hc
  simpa using hc
end Go.Proofs.Ytoocenbmggfodaa
