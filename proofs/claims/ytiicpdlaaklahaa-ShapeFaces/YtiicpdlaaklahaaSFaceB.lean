/- A hull's axes, whatever the order of its points. -/
import Derived.Test.YtiicpdlaaklahaaSFace
namespace Go.Proofs.Ytiicpdlaaklahaa
set_option linter.unusedVariables false

theorem mem_axis {A : List Pt} {n q : Pt} : q ∈ withAxisP A n ↔ q ∈ A ∨ q = n := by
  unfold withAxisP
  split
  · rename_i h
    exact ⟨Or.inl, fun k => k.elim id fun e => e ▸ h⟩
  · simp
/-- What three points give. -/
def Gives (L : List Pt) (a b c q : Pt) : Prop :=
  (b.sub a).cross (c.sub a) ≠ Pt.O ∧ ¬ (above L ((b.sub a).cross (c.sub a)) a = true ∧ below L ((b.sub a).cross (c.sub a)) a = true) ∧ q = (if above L ((b.sub a).cross (c.sub a)) a then ((b.sub a).cross (c.sub a)).neg else (b.sub a).cross (c.sub a)).short
theorem mem_tri {L : List Pt} {a b c q : Pt} {s : List Pt × List Pt} : q ∈ (triP L a b c s).1 ↔ q ∈ s.1 ∨ Gives L a b c q := by
  unfold triP Gives
  dsimp only
  generalize (b.sub a).cross (c.sub a) = n
  split
  · rename_i h
    refine ⟨Or.inl, fun k => k.elim id fun g => ?_⟩
    rcases h with h | h
    · exact absurd h g.1
    · exact absurd h g.2.1
  · rename_i h
    rw [not_or] at h
    dsimp only
    rw [mem_axis]
    exact ⟨fun k => k.elim Or.inl fun e => Or.inr ⟨h.1, h.2, e⟩, fun k => k.elim Or.inl fun g => Or.inr g.2.2⟩
theorem mem_inner {L : List Pt} {a b q : Pt} : ∀ (M : List Pt) (s : List Pt × List Pt), q ∈ (innerP L a b M s).1 ↔ q ∈ s.1 ∨ ∃ c ∈ M, Gives L a b c q
  | [], s => by simp [innerP]
  | c :: r, s => by
    rw [innerP, mem_inner r, mem_tri]
    simp only [List.mem_cons, exists_eq_or_imp, or_assoc]
theorem mem_mid {L : List Pt} {a q : Pt} : ∀ (M : List Pt) (s : List Pt × List Pt), q ∈ (midP L a M s).1 ↔ q ∈ s.1 ∨ ∃ b c, List.Sublist [b, c] M ∧ Gives L a b c q
  | [], s => by simp [midP]
  | b :: r, s => by
    rw [midP, mem_mid r, mem_inner]
    constructor
    · rintro ((h | ⟨c, hc, g⟩) | ⟨b', c, hs, g⟩)
      · exact Or.inl h
      · exact Or.inr ⟨b, c, List.Sublist.cons_cons _ (List.singleton_sublist.2 hc), g⟩
      · exact Or.inr ⟨b', c, hs.cons _, g⟩
    · rintro (h | ⟨b', c, hs, g⟩)
      · exact Or.inl (Or.inl h)
      · rcases List.sublist_cons_iff.1 hs with h | ⟨t, e, h⟩
        · exact Or.inr ⟨b', c, h, g⟩
        · simp only [List.cons.injEq] at e
          obtain ⟨rfl, rfl⟩ := e
          exact Or.inl (Or.inr ⟨c, List.singleton_sublist.1 h, g⟩)
theorem mem_outer {L : List Pt} {q : Pt} : ∀ (M : List Pt) (s : List Pt × List Pt), q ∈ (outerP L M s).1 ↔ q ∈ s.1 ∨ ∃ a b c, List.Sublist [a, b, c] M ∧ Gives L a b c q
  | [], s => by simp [outerP]
  | a :: r, s => by
    rw [outerP, mem_outer r, mem_mid]
    constructor
    · rintro ((h | ⟨b, c, hc, g⟩) | ⟨a', b', c, hs, g⟩)
      · exact Or.inl h
      · exact Or.inr ⟨a, b, c, List.Sublist.cons_cons _ hc, g⟩
      · exact Or.inr ⟨a', b', c, hs.cons _, g⟩
    · rintro (h | ⟨a', b', c, hs, g⟩)
      · exact Or.inl (Or.inl h)
      · rcases List.sublist_cons_iff.1 hs with h | ⟨t, e, h⟩
        · exact Or.inr ⟨a', b', c, h, g⟩
        · simp only [List.cons.injEq] at e
          obtain ⟨rfl, rfl⟩ := e
          exact Or.inl (Or.inr ⟨b', c, h, g⟩)
theorem mem_sides {L : List Pt} {q : Pt} : q ∈ (sidesP L).1 ↔ ∃ a b c, List.Sublist [a, b, c] L ∧ Gives L a b c q := by
  unfold sidesP
  rw [mem_outer]
  simp
theorem two_of {a b : Pt} : ∀ {L : List Pt}, a ∈ L → b ∈ L → a ≠ b → List.Sublist [a, b] L ∨ List.Sublist [b, a] L
  | [], h, _, _ => by cases h
  | x :: r, ha, hb, hne => by
    rw [List.mem_cons] at ha hb
    rcases ha with rfl | ha
    · rcases hb with rfl | hb
      · exact absurd rfl hne
      · exact Or.inl (List.Sublist.cons_cons _ (List.singleton_sublist.2 hb))
    · rcases hb with rfl | hb
      · exact Or.inr (List.Sublist.cons_cons _ (List.singleton_sublist.2 ha))
      · exact (two_of ha hb hne).imp (fun h => h.cons _) (fun h => h.cons _)
theorem three_of_mem {a b c : Pt} : ∀ {L : List Pt}, a ∈ L → b ∈ L → c ∈ L → a ≠ b → a ≠ c → b ≠ c → List.Sublist [a, b, c] L ∨ List.Sublist [a, c, b] L ∨ List.Sublist [b, a, c] L ∨ List.Sublist [b, c, a] L ∨ List.Sublist [c, a, b] L ∨ List.Sublist [c, b, a] L
  | [], h, _, _, _, _, _ => by cases h
  | x :: r, ha, hb, hc, h1, h2, h3 => by
    rw [List.mem_cons] at ha hb hc
    by_cases ea : a = x
    · subst ea
      have hb3 := hb.resolve_left (Ne.symm h1)
      have hc3 := hc.resolve_left (Ne.symm h2)
      rcases two_of hb3 hc3 h3 with h | h
      · exact Or.inl (List.Sublist.cons_cons _ h)
      · exact Or.inr (Or.inl (List.Sublist.cons_cons _ h))
    · have ha2 := ha.resolve_left ea
      by_cases eb : b = x
      · subst eb
        have hc3 := hc.resolve_left (Ne.symm h3)
        rcases two_of ha2 hc3 h2 with h | h
        · exact Or.inr (Or.inr (Or.inl (List.Sublist.cons_cons _ h)))
        · exact Or.inr (Or.inr (Or.inr (Or.inl (List.Sublist.cons_cons _ h))))
      · have hb2 := hb.resolve_left eb
        by_cases ec : c = x
        · subst ec
          rcases two_of ha2 hb2 h1 with h | h
          · exact Or.inr (Or.inr (Or.inr (Or.inr (Or.inl (List.Sublist.cons_cons _ h)))))
          · exact Or.inr (Or.inr (Or.inr (Or.inr (Or.inr (List.Sublist.cons_cons _ h)))))
        · have hc2 := hc.resolve_left ec
          rcases three_of_mem ha2 hb2 hc2 h1 h2 h3 with h | h | h | h | h | h
          · exact Or.inl (h.cons _)
          · exact Or.inr (Or.inl (h.cons _))
          · exact Or.inr (Or.inr (Or.inl (h.cons _)))
          · exact Or.inr (Or.inr (Or.inr (Or.inl (h.cons _))))
          · exact Or.inr (Or.inr (Or.inr (Or.inr (Or.inl (h.cons _)))))
          · exact Or.inr (Or.inr (Or.inr (Or.inr (Or.inr (h.cons _)))))
theorem above_no {L : List Pt} {n a : Pt} : above L n a = false ↔ Sup L n a := by
  unfold above Sup
  rw [List.any_eq_false]
  simp only [decide_eq_true_eq, Int.not_lt]
theorem below_no {L : List Pt} {n a : Pt} : below L n a = false ↔ Sup L n.neg a := by
  unfold below Sup
  rw [List.any_eq_false]
  simp only [decide_eq_true_eq, Int.not_lt, neg_dot]
  exact ⟨fun h m hm => by have := h m hm; omega, fun h m hm => by have := h m hm; omega⟩
theorem face_of_gives {L : List Pt} {a b c q : Pt} (hs : List.Sublist [a, b, c] L) (g : Gives L a b c q) : ∃ a b c, Face L a b c ∧ q = ((b.sub a).cross (c.sub a)).short := by
  obtain ⟨g1, g2, g3⟩ := g
  have ma : a ∈ L := hs.subset (by simp)
  have mb : b ∈ L := hs.subset (by simp)
  have mc : c ∈ L := hs.subset (by simp)
  cases h : above L ((b.sub a).cross (c.sub a)) a with
  | true =>
    rw [h] at g2 g3
    have hb : below L ((b.sub a).cross (c.sub a)) a = false := by simpa using g2
    refine ⟨a, c, b, ⟨ma, mc, mb, ?_, ?_⟩, ?_⟩
    · rw [cross_swap]; exact neg_ne g1
    · rw [cross_swap]; exact below_no.1 hb
    · rw [cross_swap]; simpa using g3
  | false =>
    rw [h] at g3
    exact ⟨a, b, c, ⟨ma, mb, mc, g1, above_no.1 h⟩, by simpa using g3⟩
theorem gives_of {L : List Pt} {n a p x y : Pt} (hnf : ¬ flatAll L) (ha : a ∈ L) (hn : n ≠ Pt.O) (hs : Sup L n a) (hp : n.dot (p.sub a) = 0) (h : (x.sub p).cross (y.sub p) = n ∨ (x.sub p).cross (y.sub p) = n.neg) : Gives L p x y n.short := by
  have sh : ∀ m : Pt, n.dot (m.sub p) = n.dot (m.sub a) := by
    intro m
    have : n.dot (m.sub p) = n.dot (m.sub a) - n.dot (p.sub a) := by simp only [Pt.dot, Pt.sub]; grind
    omega
  have sp : Sup L n p := fun m hm => by rw [sh m]; exact hs m hm
  unfold Gives
  rcases h with h | h
  · rw [h, above_no.2 sp]
    exact ⟨hn, by simp, by simp⟩
  · have hb : below L n.neg p = false := below_no.2 (by rw [neg_neg']; exact sp)
    have hab : above L n.neg p = true := by
      cases e : above L n.neg p with
      | true => rfl
      | false =>
        exfalso
        have k := above_no.1 e
        obtain ⟨m, hm, hd⟩ := thick_of ha hnf n hn
        have k1 := k m hm
        rw [neg_dot, sh m] at k1
        have k2 := hs m hm
        omega
    rw [h, hb, hab]
    exact ⟨neg_ne hn, by simp, by simp [neg_neg']⟩
theorem face_unlike {L : List Pt} {a b c : Pt} (h : Face L a b c) : a ≠ b ∧ a ≠ c ∧ b ≠ c := by
  obtain ⟨_, _, _, h, _⟩ := h
  refine ⟨fun e => h ?_, fun e => h ?_, fun e => h ?_⟩
  · subst e; simp [Pt.sub, Pt.cross, Pt.O]
  · subst e; simp [Pt.sub, Pt.cross, Pt.O]
  · subst e; simp only [Pt.sub, Pt.cross, Pt.O, Pt.mk.injEq]; refine ⟨?_, ?_, ?_⟩ <;> grind
theorem mem_axes {L : List Pt} {q : Pt} (hnf : ¬ flatAll L) : q ∈ (sidesP L).1 ↔ ∃ a b c, Face L a b c ∧ q = ((b.sub a).cross (c.sub a)).short := by
  rw [mem_sides]
  constructor
  · rintro ⟨a, b, c, hs, g⟩; exact face_of_gives hs g
  · rintro ⟨a, b, c, hf, rfl⟩
    obtain ⟨u1, u2, u3⟩ := face_unlike hf
    obtain ⟨ma, mb, mc, hn, hs⟩ := hf
    have pa : ((b.sub a).cross (c.sub a)).dot (a.sub a) = 0 := by simp [Pt.sub, Pt.dot]
    have pb : ((b.sub a).cross (c.sub a)).dot (b.sub a) = 0 := by simp only [Pt.sub, Pt.dot, Pt.cross]; grind
    have pc : ((b.sub a).cross (c.sub a)).dot (c.sub a) = 0 := by simp only [Pt.sub, Pt.dot, Pt.cross]; grind
    rcases three_of_mem ma mb mc u1 u2 u3 with h | h | h | h | h | h
    · exact ⟨_, _, _, h, gives_of hnf ma hn hs pa (Or.inl rfl)⟩
    · exact ⟨_, _, _, h, gives_of hnf ma hn hs pa (Or.inr (cross_swap _ _))⟩
    · exact ⟨_, _, _, h, gives_of hnf ma hn hs pb (Or.inr (by simp only [Pt.sub, Pt.cross, Pt.neg, Pt.mk.injEq]; refine ⟨?_, ?_, ?_⟩ <;> grind))⟩
    · exact ⟨_, _, _, h, gives_of hnf ma hn hs pb (Or.inl (by simp only [Pt.sub, Pt.cross, Pt.mk.injEq]; refine ⟨?_, ?_, ?_⟩ <;> grind))⟩
    · exact ⟨_, _, _, h, gives_of hnf ma hn hs pc (Or.inl (by simp only [Pt.sub, Pt.cross, Pt.mk.injEq]; refine ⟨?_, ?_, ?_⟩ <;> grind))⟩
    · exact ⟨_, _, _, h, gives_of hnf ma hn hs pc (Or.inr (by simp only [Pt.sub, Pt.cross, Pt.neg, Pt.mk.injEq]; refine ⟨?_, ?_, ?_⟩ <;> grind))⟩
theorem face_perm {L M : List Pt} (h : ∀ p, p ∈ L ↔ p ∈ M) {a b c : Pt} : Face L a b c ↔ Face M a b c := by
  unfold Face Sup
  simp only [h]
theorem axes_perm {L M : List Pt} (h : List.Perm L M) (hnf : ¬ flatAll L) (hL : ∀ b ∈ L, b.inB 65536 = true) (hd : L.Nodup) : List.Perm (sidesP L).1 (sidesP M).1 := by
  have hm : ∀ p, p ∈ L ↔ p ∈ M := fun p => h.mem_iff
  have hnf' : ¬ flatAll M := fun k => hnf ((flatAll_perm hm).2 k)
  refine (List.perm_ext_iff_of_nodup (sides_tidy hL hd).a1 (sides_tidy (fun b hb => hL b ((hm b).2 hb)) (h.nodup_iff.1 hd)).a1).2 fun q => ?_
  rw [mem_axes hnf, mem_axes hnf']
  simp only [face_perm hm]
theorem tdiv_sign (a : Int) {n : Int} (hn : 0 ≤ n) : (0 ≤ a → 0 ≤ a.tdiv n) ∧ (a ≤ 0 → a.tdiv n ≤ 0) := by
  refine ⟨fun h => Int.tdiv_nonneg h hn, fun h => ?_⟩
  have := Int.tdiv_nonneg (show 0 ≤ -a by omega) hn
  rw [Int.neg_tdiv] at this
  omega
/-- No part turns. -/
structure SameWay (p q : Pt) : Prop where
  x0 : 0 ≤ p.x → 0 ≤ q.x
  x1 : p.x ≤ 0 → q.x ≤ 0
  y0 : 0 ≤ p.y → 0 ≤ q.y
  y1 : p.y ≤ 0 → q.y ≤ 0
  z0 : 0 ≤ p.z → 0 ≤ q.z
  z1 : p.z ≤ 0 → q.z ≤ 0
theorem SameWay.refl (p : Pt) : SameWay p p := ⟨id, id, id, id, id, id⟩
theorem SameWay.trans {p q r : Pt} (h : SameWay p q) (k : SameWay q r) : SameWay p r := ⟨fun e => k.x0 (h.x0 e), fun e => k.x1 (h.x1 e), fun e => k.y0 (h.y0 e), fun e => k.y1 (h.y1 e), fun e => k.z0 (h.z0 e), fun e => k.z1 (h.z1 e)⟩
theorem way_by (p : Pt) {n : Int} (hn : 0 ≤ n) : SameWay p (p.by n) := ⟨(tdiv_sign _ hn).1, (tdiv_sign _ hn).2, (tdiv_sign _ hn).1, (tdiv_sign _ hn).2, (tdiv_sign _ hn).1, (tdiv_sign _ hn).2⟩
theorem way_low (p : Pt) : SameWay p p.low := by
  unfold Pt.low
  split
  · exact SameWay.refl p
  · exact way_by p (by omega)
theorem way_halveF : ∀ (n : Nat) (p : Pt), SameWay p (halveF n p)
  | 0, p => SameWay.refl p
  | n + 1, p => by
    unfold halveF
    split
    · exact SameWay.refl p
    · exact (way_by p (by decide)).trans (way_halveF n _)
theorem way_short (p : Pt) (h : p.inB 4398046511104 = true) : SameWay p p.short := by
  unfold Pt.short
  rw [if_pos h]
  exact ((way_low p).trans (way_halveF 43 _)).trans (way_low _)
theorem face_in {L : List Pt} (hL : ∀ b ∈ L, b.inB 65536 = true) {a b c : Pt} (h : Face L a b c) : ((b.sub a).cross (c.sub a)).inB 4398046511104 = true :=
  inB_mono (cross_in (inB_mono (sub_in (hL b h.2.1) (hL a h.1)) (by decide)) (inB_mono (sub_in (hL c h.2.2.1) (hL a h.1)) (by decide))) (by decide)
theorem axes_two {L : List Pt} (h0 : L ≠ []) (hnf : ¬ flatAll L) (hL : ∀ b ∈ L, b.inB 65536 = true) : 2 ≤ (sidesP L).1.length := by
  obtain ⟨a, b, c, hf, _⟩ := face_out (u := ⟨1, 0, 0⟩) (w := ⟨0, 1, 0⟩) h0 hnf (by decide) (by decide) (by decide)
  have hs : ((b.sub a).cross (c.sub a)).short ∈ (sidesP L).1 := (mem_axes hnf).2 ⟨a, b, c, hf, rfl⟩
  have hne : ((b.sub a).cross (c.sub a)).short ≠ Pt.O := short_ne (face_in hL hf) hf.2.2.2.1
  generalize ((b.sub a).cross (c.sub a)).short = s at *
  have other : ∀ u w : Pt, u ≠ Pt.O → w ≠ Pt.O → u.dot w = 0 → ∃ t ∈ (sidesP L).1, ∃ n : Pt, SameWay n t ∧ 0 < n.dot u := by
    intro u w hu hw huw
    obtain ⟨a, b, c, hf, hd⟩ := face_out h0 hnf hu hw huw
    exact ⟨_, (mem_axes hnf).2 ⟨a, b, c, hf, rfl⟩, _, way_short _ (face_in hL hf), hd⟩
  have two : ∃ t ∈ (sidesP L).1, t ≠ s := by
    rcases Pt.ne_O hne with h | h | h
    · rcases Int.lt_or_gt_of_ne h with h | h
      · obtain ⟨t, ht, n, hw, hd⟩ := other ⟨1, 0, 0⟩ ⟨0, 1, 0⟩ (by decide) (by decide) (by decide)
        refine ⟨t, ht, fun e => ?_⟩
        subst e
        have := hw.x0
        simp [Pt.dot] at hd
        omega
      · obtain ⟨t, ht, n, hw, hd⟩ := other ⟨-1, 0, 0⟩ ⟨0, 1, 0⟩ (by decide) (by decide) (by decide)
        refine ⟨t, ht, fun e => ?_⟩
        subst e
        have := hw.x1
        simp [Pt.dot] at hd
        omega
    · rcases Int.lt_or_gt_of_ne h with h | h
      · obtain ⟨t, ht, n, hw, hd⟩ := other ⟨0, 1, 0⟩ ⟨1, 0, 0⟩ (by decide) (by decide) (by decide)
        refine ⟨t, ht, fun e => ?_⟩
        subst e
        have := hw.y0
        simp [Pt.dot] at hd
        omega
      · obtain ⟨t, ht, n, hw, hd⟩ := other ⟨0, -1, 0⟩ ⟨1, 0, 0⟩ (by decide) (by decide) (by decide)
        refine ⟨t, ht, fun e => ?_⟩
        subst e
        have := hw.y1
        simp [Pt.dot] at hd
        omega
    · rcases Int.lt_or_gt_of_ne h with h | h
      · obtain ⟨t, ht, n, hw, hd⟩ := other ⟨0, 0, 1⟩ ⟨1, 0, 0⟩ (by decide) (by decide) (by decide)
        refine ⟨t, ht, fun e => ?_⟩
        subst e
        have := hw.z0
        simp [Pt.dot] at hd
        omega
      · obtain ⟨t, ht, n, hw, hd⟩ := other ⟨0, 0, -1⟩ ⟨1, 0, 0⟩ (by decide) (by decide) (by decide)
        refine ⟨t, ht, fun e => ?_⟩
        subst e
        have := hw.z1
        simp [Pt.dot] at hd
        omega
  obtain ⟨t, ht, hts⟩ := two
  have := List.Nodup.length_le_of_subset (l₁ := [t, s]) (l₂ := (sidesP L).1) (by simp [hts]) (by intro x hx; simp at hx; rcases hx with rfl | rfl <;> assumption)
  simpa using this
end Go.Proofs.Ytiicpdlaaklahaa
