/- Groups as plain functions: what links join; whose number is the least one's. -/
import Init
namespace Go.Proofs.Ytdbiikllcplmgaa
set_option linter.unusedVariables false

/-- One link more: the greater of both groups becomes the lesser one. -/
def jnF (G : Nat → Nat) (a b : Nat) : Nat → Nat := fun i => if G i = max (G a) (G b) then min (G a) (G b) else G i
def okI (N : Nat) (Wl : List Bool) (i : Int) : Bool := decide (0 ≤ i) && decide (i < (N : Int)) && !(Wl[i.toNat]?.getD false)
def stepG (N : Nat) (Wl : List Bool) (G : Nat → Nat) (l : Int × Int) : Nat → Nat := if (okI N Wl l.1 && okI N Wl l.2) = true then jnF G l.1.toNat l.2.toNat else G
def grpF (N : Nat) (Wl : List Bool) (L : List (Int × Int)) : Nat → Nat := L.foldl (stepG N Wl) id
def grp (N : Nat) (Wl : List Bool) (L : List (Int × Int)) : List Int := (List.range N).map (fun i => (grpF N Wl L i : Int))
theorem grp_length (N : Nat) (Wl : List Bool) (L : List (Int × Int)) : (grp N Wl L).length = N := by simp [grp]
theorem grp_at (N : Nat) (Wl : List Bool) (L : List (Int × Int)) (i : Nat) (h : i < N) : (grp N Wl L)[i]? = some (grpF N Wl L i : Int) := by simp [grp, h]
theorem grpF_snoc (N : Nat) (Wl : List Bool) (L : List (Int × Int)) (l : Int × Int) : grpF N Wl (L ++ [l]) = stepG N Wl (grpF N Wl L) l := by simp [grpF]

/-- Numbers of groups: each one's is the least of those that it hangs together with. -/
structure Grp (E : Nat → Nat → Prop) (G : Nat → Nat) : Prop where
  le : ∀ i, G i ≤ i
  eq : ∀ a b, E a b → G a = G b
  conn : ∀ i (f : Nat → Nat), (∀ a b, E a b → f a = f b) → f i = f (G i)
theorem Grp.fix {E : Nat → Nat → Prop} {G : Nat → Nat} (h : Grp E G) (i : Nat) : G (G i) = G i := (h.conn i G h.eq).symm
theorem Grp.unique {E : Nat → Nat → Prop} {G H : Nat → Nat} (h : Grp E G) (k : Grp E H) (i : Nat) : G i = H i := by
  have h1 : G i ≤ H i := by rw [k.conn i G h.eq]; exact h.le _
  have h2 : H i ≤ G i := by rw [h.conn i H k.eq]; exact k.le _
  omega
theorem Grp.same {E F : Nat → Nat → Prop} {G : Nat → Nat} (h : Grp E G) (e : ∀ a b, E a b → F a b ∨ F b a ∨ a = b) (f : ∀ a b, F a b → E a b ∨ E b a ∨ a = b) : Grp F G :=
  ⟨h.le, fun a b hab => by
    rcases f a b hab with k | k | k
    · exact h.eq _ _ k
    · exact (h.eq _ _ k).symm
    · rw [k],
   fun i g hg => h.conn i g (fun a b hab => by
    rcases e a b hab with k | k | k
    · exact hg _ _ k
    · exact (hg _ _ k).symm
    · rw [k])⟩
theorem Grp.start : Grp (fun _ _ => False) id := ⟨fun i => Nat.le_refl _, fun a b h => h.elim, fun i f _ => rfl⟩
theorem Grp.join {E : Nat → Nat → Prop} {G : Nat → Nat} (h : Grp E G) (a b : Nat) : Grp (fun x y => E x y ∨ (x = a ∧ y = b)) (jnF G a b) := by
  refine ⟨fun i => ?_, fun x y hxy => ?_, fun i f hf => ?_⟩
  · unfold jnF
    have := h.le i
    split <;> omega
  · unfold jnF
    rcases hxy with hxy | ⟨rfl, rfl⟩
    · rw [h.eq x y hxy]
    · split <;> split <;> omega
  · have hE : ∀ a b, E a b → f a = f b := fun a b hab => hf a b (Or.inl hab)
    have h1 := h.conn i f hE
    have h2 := h.conn a f hE
    have h3 := h.conn b f hE
    have h4 := hf a b (Or.inr ⟨rfl, rfl⟩)
    unfold jnF
    split
    · rename_i e
      rcases Nat.le_total (G a) (G b) with k | k
      · rw [Nat.max_eq_right k] at e
        rw [Nat.min_eq_left k]
        rw [e] at h1
        omega
      · rw [Nat.max_eq_left k] at e
        rw [Nat.min_eq_right k]
        rw [e] at h1
        omega
    · exact h1
/-- Which two are joined by a list of links. -/
def Ej (N : Nat) (Wl : List Bool) (L : List (Int × Int)) (a b : Nat) : Prop := ((a : Int), (b : Int)) ∈ L ∧ okI N Wl (a : Int) = true ∧ okI N Wl (b : Int) = true
theorem okI_lo {N : Nat} {Wl : List Bool} {i : Int} (h : okI N Wl i = true) : 0 ≤ i ∧ i < (N : Int) ∧ Wl[i.toNat]?.getD false = false := by
  unfold okI at h
  simp only [Bool.and_eq_true, decide_eq_true_eq, Bool.not_eq_true'] at h
  exact ⟨h.1.1, h.1.2, h.2⟩
theorem grp_is (N : Nat) (Wl : List Bool) (L : List (Int × Int)) : Grp (Ej N Wl L) (grpF N Wl L) := by
  suffices H : ∀ (A B : List (Int × Int)), Grp (Ej N Wl A) (grpF N Wl A) → Grp (Ej N Wl (A ++ B)) (grpF N Wl (A ++ B)) by
    have := H [] L ⟨fun i => Nat.le_refl _, fun a b h => by have := h.1; simp at this, fun i f _ => rfl⟩
    simpa using this
  intro A B
  induction B generalizing A with
  | nil => intro h; simpa using h
  | cons l r ih =>
    intro h
    rw [show A ++ l :: r = (A ++ [l]) ++ r by simp]
    refine ih (A ++ [l]) ?_
    rw [grpF_snoc]
    unfold stepG
    by_cases c : (okI N Wl l.1 && okI N Wl l.2) = true
    · rw [if_pos c]
      rw [Bool.and_eq_true] at c
      obtain ⟨c1, c2⟩ := c
      have l1 := okI_lo c1
      have l2 := okI_lo c2
      obtain ⟨x, y⟩ := l
      dsimp only at *
      have e1 : ((x.toNat : Nat) : Int) = x := by omega
      have e2 : ((y.toNat : Nat) : Int) = y := by omega
      refine (h.join x.toNat y.toNat).same ?_ ?_
      · intro a b hab
        left
        rcases hab with hab | ⟨rfl, rfl⟩
        · exact ⟨List.mem_append_left _ hab.1, hab.2⟩
        · exact ⟨by rw [e1, e2]; simp, by rw [e1]; exact c1, by rw [e2]; exact c2⟩
      · intro a b hab
        left
        obtain ⟨hm, k1, k2⟩ := hab
        rcases List.mem_append.1 hm with hm | hm
        · exact Or.inl ⟨hm, k1, k2⟩
        · right
          simp only [List.mem_singleton, Prod.mk.injEq] at hm
          omega
    · rw [if_neg c]
      refine h.same ?_ ?_
      · intro a b hab
        exact Or.inl ⟨List.mem_append_left _ hab.1, hab.2⟩
      · intro a b hab
        left
        obtain ⟨hm, k1, k2⟩ := hab
        rcases List.mem_append.1 hm with hm | hm
        · exact ⟨hm, k1, k2⟩
        · exfalso
          simp only [List.mem_singleton] at hm
          apply c
          rw [← hm, k1, k2]; rfl

theorem jnF_is (G : Nat → Nat) (a b i : Nat) : jnF G a b i = if G i = G a ∨ G i = G b then min (G a) (G b) else G i := by
  unfold jnF
  split <;> split <;> omega
/-- Trees of things: each hangs on one of its own group that is not greater, and roots are who stand for a group. -/
structure Tree (N : Nat) (T G : Nat → Nat) : Prop where
  at_ : ∀ i, i < N → T i ≤ i ∧ G (T i) = G i ∧ (T i = i → G i = i)
def upd (T : Nat → Nat) (k x : Nat) : Nat → Nat := fun i => if i = k then x else T i
theorem upd_same (T : Nat → Nat) (k x : Nat) : upd T k x k = x := by simp [upd]
theorem upd_other (T : Nat → Nat) (k x i : Nat) (h : i ≠ k) : upd T k x i = T i := by simp [upd, h]
structure Low (G : Nat → Nat) : Prop where
  le : ∀ i, G i ≤ i
  fix : ∀ i, G (G i) = G i
theorem Grp.low {E : Nat → Nat → Prop} {G : Nat → Nat} (h : Grp E G) : Low G := ⟨h.le, h.fix⟩
theorem Tree.start (N : Nat) : Tree N id id := ⟨fun i _ => ⟨Nat.le_refl _, rfl, fun _ => rfl⟩⟩
theorem Tree.half {N : Nat} {T G : Nat → Nat} (h : Tree N T G) {i : Nat} (hi : i < N) : Tree N (upd T i (T (T i))) G := by
  refine ⟨fun j hj => ?_⟩
  by_cases e : j = i
  · subst e
    rw [upd_same]
    obtain ⟨a, b, c⟩ := h.at_ j hj
    obtain ⟨a', b', c'⟩ := h.at_ (T j) (by omega)
    exact ⟨by omega, by rw [b', b], fun e => c (by omega)⟩
  · rw [upd_other _ _ _ _ e]; exact h.at_ j hj
theorem Tree.half_same {N : Nat} {T G : Nat → Nat} (h : Tree N T G) (l : Low G) {i j : Nat} (hj : j < N) (e : T j = G j) : upd T i (T (T i)) j = G j := by
  by_cases c : j = i
  · subst c
    rw [upd_same, e]
    have hl := l.le j
    obtain ⟨a, b, _⟩ := h.at_ (G j) (by omega)
    have := l.le (T (G j))
    rw [b, l.fix] at this
    omega
  · rw [upd_other _ _ _ _ c]; exact e
theorem Tree.flat {N : Nat} {T G : Nat → Nat} (h : Tree N T G) (l : Low G) {i : Nat} (hi : i < N) : Tree N (upd T i (G i)) G := by
  refine ⟨fun j hj => ?_⟩
  by_cases e : j = i
  · subst e
    rw [upd_same]
    exact ⟨l.le j, l.fix j, fun e => e⟩
  · rw [upd_other _ _ _ _ e]; exact h.at_ j hj
theorem Tree.join {N : Nat} {T G : Nat → Nat} (h : Tree N T G) (l : Low G) (a b : Nat) : Tree N (upd T (max (G a) (G b)) (min (G a) (G b))) (jnF G a b) := by
  have fa := l.fix a
  have fb := l.fix b
  have em : G (min (G a) (G b)) = min (G a) (G b) := by
    rcases Nat.le_total (G a) (G b) with k | k
    · rw [Nat.min_eq_left k]; exact fa
    · rw [Nat.min_eq_right k]; exact fb
  have ex : G (max (G a) (G b)) = max (G a) (G b) := by
    rcases Nat.le_total (G a) (G b) with k | k
    · rw [Nat.max_eq_right k]; exact fb
    · rw [Nat.max_eq_left k]; exact fa
  refine ⟨fun j hj => ?_⟩
  by_cases e : j = max (G a) (G b)
  · subst e
    rw [upd_same]
    refine ⟨by omega, ?_, fun e => ?_⟩
    · unfold jnF
      rw [em, ex, if_pos rfl]
      split <;> rfl
    · unfold jnF
      rw [ex, if_pos rfl, e]
  · rw [upd_other _ _ _ _ e]
    obtain ⟨p, q, r⟩ := h.at_ j hj
    refine ⟨p, ?_, fun e' => ?_⟩
    · unfold jnF
      rw [q]
    · unfold jnF
      rw [r e', if_neg e]

/-- The sum of all numbers. -/
def sumT (T : Nat → Nat) : Nat → Nat
  | 0 => 0
  | n + 1 => sumT T n + T n
theorem sum_le (T U : Nat → Nat) (h : ∀ i, U i ≤ T i) : ∀ n, sumT U n ≤ sumT T n
  | 0 => Nat.le_refl _
  | n + 1 => Nat.add_le_add (sum_le T U h n) (h n)
theorem sum_lt (T U : Nat → Nat) (h : ∀ i, U i ≤ T i) (k : Nat) (hk : U k < T k) : ∀ n, k < n → sumT U n < sumT T n
  | 0, h' => by omega
  | n + 1, h' => by
    by_cases e : k = n
    · subst e
      have := sum_le T U h k
      simp only [sumT]; omega
    · have := sum_lt T U h k hk n (by omega)
      have := h n
      simp only [sumT]; omega
/-- What the document's own way knows of its numbers at any time. -/
structure Low2 (E : Nat → Nat → Prop) (T : Nat → Nat) : Prop where
  le : ∀ i, T i ≤ i
  conn : ∀ i (f : Nat → Nat), (∀ a b, E a b → f a = f b) → f i = f (T i)
theorem Low2.start (E : Nat → Nat → Prop) : Low2 E id := ⟨fun i => Nat.le_refl _, fun i f _ => rfl⟩
def lower (T : Nat → Nat) (a b : Nat) : Nat → Nat := upd (upd T a (min (T a) (T b))) b (min (T a) (T b))
theorem lower_le (T : Nat → Nat) (a b i : Nat) : lower T a b i ≤ T i := by
  unfold lower upd
  split
  · subst_vars; omega
  · split
    · subst_vars; omega
    · omega
theorem lower_lt (T : Nat → Nat) (a b : Nat) (h : T a ≠ T b) : ∀ n, a < n → b < n → sumT (lower T a b) n < sumT T n := by
  intro n ha hb
  rcases Nat.lt_or_gt_of_ne h with k | k
  · refine sum_lt T _ (lower_le T a b) b ?_ n hb
    unfold lower
    rw [upd_same]; omega
  · refine sum_lt T _ (lower_le T a b) a ?_ n ha
    unfold lower upd
    split
    · omega
    · rw [if_pos rfl]; omega
theorem Low2.lower {E : Nat → Nat → Prop} {T : Nat → Nat} (h : Low2 E T) {a b : Nat} (hab : E a b) : Low2 E (lower T a b) := by
  refine ⟨fun i => Nat.le_trans (lower_le T a b i) (h.le i), fun i f hf => ?_⟩
  have h1 := h.conn i f hf
  have h2 := h.conn a f hf
  have h3 := h.conn b f hf
  have h4 := hf a b hab
  have hm : f (min (T a) (T b)) = f a := by
    rcases Nat.le_total (T a) (T b) with k | k
    · rw [Nat.min_eq_left k]; exact h2.symm
    · rw [Nat.min_eq_right k]; omega
  unfold Go.Proofs.Ytdbiikllcplmgaa.lower upd
  split
  · subst_vars; omega
  · split
    · subst_vars; exact hm.symm
    · exact h1
theorem Low2.grp {E : Nat → Nat → Prop} {T : Nat → Nat} (h : Low2 E T) (e : ∀ a b, E a b → T a = T b) : Grp E T := ⟨h.le, e, h.conn⟩

/-- The places up to k at which a list has a number. -/
def memb (L : List Int) (z : Int) : Nat → List Int
  | 0 => []
  | k + 1 => if L[k]? = some z then memb L z k ++ [(k : Int)] else memb L z k
theorem memb_yes {L : List Int} {z : Int} {k : Nat} (h : L[k]? = some z) : memb L z (k + 1) = memb L z k ++ [(k : Int)] := by rw [memb, if_pos h]
theorem memb_no {L : List Int} {z : Int} {k : Nat} (h : ¬ L[k]? = some z) : memb L z (k + 1) = memb L z k := by rw [memb, if_neg h]
theorem memb_length (L : List Int) (z : Int) : ∀ k, (memb L z k).length ≤ k
  | 0 => Nat.le_refl _
  | k + 1 => by
    have := memb_length L z k
    rw [memb]
    split <;> simp <;> omega
theorem memb_mem {L : List Int} {z : Int} {p : Nat} (h : L[p]? = some z) : ∀ k, p < k → (p : Int) ∈ memb L z k
  | 0, hk => absurd hk (by omega)
  | k + 1, hk => by
    rw [memb]
    by_cases e : p = k
    · subst e; rw [if_pos h]; simp
    · have := memb_mem h k (by omega)
      split
      · exact List.mem_append_left _ this
      · exact this
theorem memb_of {L : List Int} {z x : Int} : ∀ k, x ∈ memb L z k → ∃ p : Nat, x = (p : Int) ∧ p < k ∧ L[p]? = some z
  | 0, h => by simp [memb] at h
  | k + 1, h => by
    rw [memb] at h
    split at h
    · rename_i hk
      rcases List.mem_append.1 h with h | h
      · obtain ⟨p, e, hp, hl⟩ := memb_of k h
        exact ⟨p, e, by omega, hl⟩
      · simp only [List.mem_singleton] at h
        exact ⟨k, h, by omega, hk⟩
    · obtain ⟨p, e, hp, hl⟩ := memb_of k h
      exact ⟨p, e, by omega, hl⟩
theorem memb_rise (L : List Int) (z : Int) : ∀ k, (memb L z k).Pairwise (· < ·)
  | 0 => List.Pairwise.nil
  | k + 1 => by
    rw [memb]
    split
    · rw [List.pairwise_append]
      refine ⟨memb_rise L z k, List.pairwise_singleton _ _, fun x hx y hy => ?_⟩
      obtain ⟨p, e, hp, _⟩ := memb_of k hx
      simp only [List.mem_singleton] at hy
      omega
    · exact memb_rise L z k
theorem rise_at {M : List Int} (h : M.Pairwise (· < ·)) {j : Nat} {x y : Int} (hx : M[j]? = some x) (hy : M[j + 1]? = some y) : x < y := by
  obtain ⟨h1, e1⟩ := List.getElem?_eq_some_iff.1 hx
  obtain ⟨h2, e2⟩ := List.getElem?_eq_some_iff.1 hy
  rw [← e1, ← e2]
  exact List.pairwise_iff_getElem.1 h j (j + 1) h1 h2 (by omega)
/-- Is somebody of the number z among the first k who is not quiet? -/
def loud (L Q : List Int) (need z : Int) : Nat → Bool
  | 0 => false
  | k + 1 => loud L Q need z k || (decide (L[k]? = some z) && decide (Q[k]?.getD 0 < need))
theorem loud_any (L Q : List Int) (need z : Int) : ∀ k, (memb L z k).any (fun p => decide (Q[p.toNat]?.getD 0 < need)) = loud L Q need z k
  | 0 => rfl
  | k + 1 => by
    rw [memb, loud, ← loud_any L Q need z k]
    by_cases h : L[k]? = some z
    · rw [if_pos h, decide_eq_true h]; simp
    · rw [if_neg h, decide_eq_false h]; simp
theorem any_step {M : List Int} (f : Int → Bool) {j : Nat} {x : Int} (h : M[j]? = some x) : (M.take (j + 1)).any f = ((M.take j).any f || f x) := by
  rw [List.take_add_one, h]; simp
def rests (L Q : List Int) (need : Int) : List Bool := L.map (fun z => !(loud L Q need z L.length))
theorem rests_length (L Q : List Int) (need : Int) : (rests L Q need).length = L.length := by simp [rests]
theorem rests_at {L : List Int} (Q : List Int) (need : Int) {k : Nat} {z : Int} (h : L[k]? = some z) : (rests L Q need)[k]? = some (!(loud L Q need z L.length)) := by simp [rests, h]
end Go.Proofs.Ytdbiikllcplmgaa
