/- Lists of links that the statements lay; a drawn region that lays things and appends them. -/
import Derived.Test.YtdbiikllcplmgaaIsO
import Derived.Test.YtdbiikllcplmgaaRegW
namespace Go.Proofs.Ytdbiikllcplmgaa
open Go.RowKit Go.Shelf
set_option linter.unusedVariables false

theorem exec_app {P : Program} {w : World} {a : Act} (s x : Operand) (t ty : TypeId)
    (base : Nat) (e : TypeId) (i : TypeInfo) (z : Value) (size bytes : Nat) (ht : P.underlying t = some (.slice e)) (hi : P.info? e = some i) (hz : i.zero = some z)
    (hsize : i.size = size) (hby : i.bytes = bytes) (hzs : z.cells.size = size) (hsz : 0 < size)
    (v : Value) (n : Nat) (xs : List Value) (hs : a.eval s = v) (hown : w.ownsRow base e size v n xs)
    (ad : Addr) (m c : Nat) (news : List Value) (hx : a.eval x = .slice (some ad) m c) (hl : news.length = m * size) (hnews : ∀ j u, news[j]? = some u → w.cell? (ad.add j) = some u) (h1 : ∀ u ∈ news, u.oneCell' = true)
    (h63 : n + m ≤ maxLen) (hbytes : (n + m) * bytes ≤ 140737488355328) (hbase : base ≤ w.heap.size) :
    ∃ v' w', (∀ o : Oper, o.op = .call { callee := .builtin .append, args := #[s, x], argTypes := #[t, t] } → o.type = ty → (execOp a.eval o).run P w = .ok (.value v') w') ∧ w'.ownsRow base e size v' (n + m) (xs ++ news) ∧ w.grownBy w' v.ownBlock ∧ (v'.ownBlock = v.ownBlock ∨ ∃ k, v'.ownBlock = some k ∧ w.heap.size ≤ k) := by
  obtain ⟨v', w', hr, h2, h3, h4, h5⟩ := run_append_own_at (P := P) w base t ty e i z size bytes ht hi hz hsize hby hzs hsz v n xs hown ad m c news hl hnews h1 h63 hbytes hbase
  refine ⟨v', w', ?_, h2, h3, ?_⟩
  rotate_left
  · rcases h5 with e | e
    · exact Or.inl e
    · exact Or.inr ⟨_, e, Nat.le_refl _⟩
  intro o ho hty
  unfold execOp
  simp only [ho, hty, resolve, invoke, builtin, Sem.run_bind, Sem.run_pure, Result.andThen_ok, List.map_toArray, List.map_cons, List.map_nil, hs, hx, hr]
/-- Where a list lies behind an append. -/
def NewOr (W : World) (u v : Value) : Prop := v.ownBlock = u.ownBlock ∨ ∃ k, v.ownBlock = some k ∧ W.heap.size ≤ k
/-- A region that lays m links in one block (p), appends them (q), and hands the list on (z). -/
def AG (m p q z : Nat) (W7 : World) (B : Nat) (u : Value) (n : Nat) (xs news : List Value) (γ : Nat → Value) (L : Nat → Bool) (w : World) : Prop :=
  ((L q = false ∧ Below W7.heap.size W7 w ∧ (L p = true → ∃ g, γ p = .slice (some ⟨g, 0, none⟩) m m ∧ w.heap[g]? = some (.cells news.toArray 32 (0, 0)))) ∨
  (L q = true ∧ w.ownsRow B 32 2 (γ q) (n + m) (xs ++ news) ∧ W7.grownBy w u.ownBlock ∧ NewOr W7 u (γ q))) ∧ (L z = true → γ z = γ q)
section
variable {m p q z : Nat} {W7 : World} {B : Nat} {u : Value} {n : Nat} {xs news : List Value} {γ : Nat → Value} {L : Nat → Bool} {w : World}
theorem AG.start (hp : L p = false) (hq : L q = false) (hz : L z = false) (hb : Below W7.heap.size W7 w) : AG m p q z W7 B u n xs news γ L w := ⟨Or.inl ⟨hq, hb, fun e => by rw [hp] at e; cases e⟩, fun e => by rw [hz] at e; cases e⟩
theorem AG.other (h : AG m p q z W7 B u n xs news γ L w) {i : Nat} (v : Value) (hp : p ≠ i) (hq : q ≠ i) (hz : z ≠ i) : AG m p q z W7 B u n xs news (RV.upd γ i v) (more L i) w := by
  unfold AG
  rw [RV.more_ne hp, RV.more_ne hq, RV.more_ne hz, RV.upd_ne _ _ hp, RV.upd_ne _ _ hq, RV.upd_ne _ _ hz]
  exact h
theorem AG.early (h : AG m p q z W7 B u n xs news γ L w) (hq : L q = false) : Below W7.heap.size W7 w ∧ (L p = true → ∃ g, γ p = .slice (some ⟨g, 0, none⟩) m m ∧ w.heap[g]? = some (.cells news.toArray 32 (0, 0))) := by
  rcases h.1 with h | h
  · exact h.2
  · rw [hq] at h; cases h.1
theorem AG.call {w' : World} (h : AG m p q z W7 B u n xs news γ L w) (hq : L q = false) (hb : Below w.heap.size w w') {i : Nat} (v : Value) (hpi : p ≠ i) (hqi : q ≠ i) (hzi : z ≠ i) : AG m p q z W7 B u n xs news (RV.upd γ i v) (more L i) w' := by
  obtain ⟨h1, h2⟩ := h.early hq
  refine ⟨Or.inl ⟨by rw [RV.more_ne hqi]; exact hq, b_step h1 hb, fun e => ?_⟩, fun e => ?_⟩
  · rw [RV.more_ne hpi] at e
    rw [RV.upd_ne _ _ hpi]
    obtain ⟨g, e1, e2⟩ := h2 e
    exact ⟨g, e1, (hb.block g (Array.getElem?_eq_some_iff.1 e2).1).trans e2⟩
  · rw [RV.more_ne hzi] at e
    rw [RV.upd_ne _ _ hzi, RV.upd_ne _ _ hqi]
    exact h.2 e
theorem AG.lay (h : AG m p q z W7 B u n xs news γ L w) (hq : L q = false) (npq : q ≠ p) (npz : z ≠ p) : AG m p q z W7 B u n xs news (RV.upd γ p (.slice (some ⟨w.heap.size, 0, none⟩) m m)) (more L p) (w.alloc (.cells news.toArray 32)) :=
  ⟨Or.inl ⟨by rw [RV.more_ne npq]; exact hq, b_step (h.early hq).1 (n_after _ _), fun _ => ⟨w.heap.size, by rw [RV.upd_self], heap_alloc_new _ _⟩⟩, fun e => by rw [RV.more_ne npz] at e; rw [RV.upd_ne _ _ npz, RV.upd_ne _ _ npq]; exact h.2 e⟩
theorem AG.app {w' : World} {v' : Value} (hz : L z = false) (nqz : z ≠ q) (hr : w'.ownsRow B 32 2 v' (n + m) (xs ++ news)) (hg : W7.grownBy w' u.ownBlock) (hs : NewOr W7 u v') : AG m p q z W7 B u n xs news (RV.upd γ q v') (more L q) w' :=
  ⟨Or.inr ⟨RV.more_self, by rw [RV.upd_self]; exact hr, hg, by rw [RV.upd_self]; exact hs⟩, fun e => by rw [RV.more_ne nqz, hz] at e; cases e⟩
theorem AG.set (h : AG m p q z W7 B u n xs news γ L w) (nqz : q ≠ z) (npz : p ≠ z) : AG m p q z W7 B u n xs news (RV.upd γ z (γ q)) (more L z) w := by
  refine ⟨?_, fun _ => by rw [RV.upd_self, RV.upd_ne _ _ nqz]⟩
  rw [RV.more_ne nqz, RV.more_ne npz, RV.upd_ne _ _ nqz, RV.upd_ne _ _ npz]
  exact h.1
theorem AG.done (h : AG m p q z W7 B u n xs news γ L w) (hq : L q = true) (hz : L z = true) : γ z = γ q ∧ w.ownsRow B 32 2 (γ q) (n + m) (xs ++ news) ∧ W7.grownBy w u.ownBlock ∧ NewOr W7 u (γ q) := by
  rcases h.1 with h9 | h9
  · rw [hq] at h9; cases h9.1
  · exact ⟨h.2 hz, h9.2⟩
end
theorem news_cells {w : World} {g : Nat} {xs : List Value} {t : TypeId} (h : w.heap[g]? = some (.cells xs.toArray t (0, 0))) : ∀ j u, xs[j]? = some u → w.cell? ((⟨g, 0, none⟩ : Addr).add j) = some u := by
  intro j u hj
  rw [ad_add, Nat.zero_add]
  simp [World.cell?, h, hj]
theorem link_info : (Try.prog.info? 32).map (fun i => (i.zero, i.size, i.bytes)) = some (some (.agg #[.int .i64 0, .int .i64 0]), 2, 16) := by kernel_rfl
/-- A list of links of the call's own. -/
structure LOwn (w W : World) (u : Value) (M : List (Int × Int)) : Prop where
  row : W.ownsRow w.heap.size 32 2 u M.length (flat M)
  below : Below w.heap.size w W
theorem LOwn.app {w A B : World} {u u' : Value} {M N : List (Int × Int)} (h : LOwn w A u M) (hr : B.ownsRow w.heap.size 32 2 u' (M.length + N.length) (flat M ++ flat N)) (hg : A.grownBy B u.ownBlock) : LOwn w B u' (M ++ N) :=
  ⟨by rw [List.length_append, flat_append]; exact hr, h.below.grown hg h.below.size (fun k e => (h.row.lt k e).1)⟩
theorem LOwn.step {w A B : World} {u : Value} {M : List (Int × Int)} (h : LOwn w A u M) (hb : Below A.heap.size A B) : LOwn w B u M := ⟨own_below h.row hb, b_step h.below hb⟩
theorem LOwn.start (w : World) : LOwn w w (.slice none 0 0) [] := ⟨World.ownsRow_nil _ _ _ _, Below.refl _ _⟩
theorem LOwn.rd {w A : World} {u : Value} {M : List (Int × Int)} (h : LOwn w A u M) : RdL A u M := RdL.of_row h.row
theorem NewOr.below {A B : World} {u v : Value} (hb : Below A.heap.size A B) (h : v.ownBlock = u.ownBlock ∨ ∃ k, v.ownBlock = some k ∧ B.heap.size ≤ k) : NewOr A u v := by
  rcases h with e | ⟨k, e, hk⟩
  · exact Or.inl e
  · exact Or.inr ⟨k, e, Nat.le_trans hb.size hk⟩
/-- Two lists of links of the call's own, in two rows. -/
structure LTwo (w W : World) (u v : Value) (P M : List (Int × Int)) : Prop where
  one : LOwn w W u P
  two : LOwn w W v M
  apart : ∀ b, u.ownBlock = some b → v.ownBlock ≠ some b
theorem LTwo.app {w A B : World} {u v v' : Value} {P M N : List (Int × Int)} (h : LTwo w A u v P M) (hr : B.ownsRow w.heap.size 32 2 v' (M.length + N.length) (flat M ++ flat N)) (hg : A.grownBy B v.ownBlock) (hn : NewOr A v v') : LTwo w B u v' P (M ++ N) := by
  refine ⟨⟨?_, h.one.below.grown hg h.one.below.size (fun k e => (h.two.row.lt k e).1)⟩, h.two.app hr hg, fun b e e' => ?_⟩
  · cases e : u.ownBlock with
    | none => exact h.one.row.kept hg (Or.inl e)
    | some k => exact h.one.row.kept hg (Or.inr (by rw [e]; exact fun e' => h.apart k e e'.symm))
  · rcases hn with s | ⟨j, s, hj⟩
    · rw [s] at e'; exact h.apart b e e'
    · rw [s] at e'; cases e'; have := (h.one.row.lt b e).2; omega
theorem LTwo.step {w A B : World} {u v : Value} {P M : List (Int × Int)} (h : LTwo w A u v P M) (hb : Below A.heap.size A B) : LTwo w B u v P M := ⟨h.one.step hb, h.two.step hb, h.apart⟩
/-- The same links, some of them turned about. -/
structure Alike (P M : List (Int × Int)) (j : Nat) : Prop where
  from_ : ∀ l ∈ M, l ∈ P ∨ (l.2, l.1) ∈ P
  till : ∀ i, j ≤ i → ∀ l, P[i]? = some l → l ∈ M
theorem Alike.start (P : List (Int × Int)) : Alike P [] P.length := ⟨fun l h => by simp at h, fun i hi l h => by rw [List.getElem?_eq_none hi] at h; cases h⟩
theorem Alike.step {P M : List (Int × Int)} {i : Nat} {x y : Int} (h : Alike P M (i + 1)) (hx : P[i]? = some (x, y)) : Alike P (M ++ [(y, x), (x, y)]) i := by
  have hm : (x, y) ∈ P := List.mem_of_getElem? hx
  refine ⟨fun l hl => ?_, fun i' hi l hl => ?_⟩
  · rcases List.mem_append.1 hl with hl | hl
    · exact h.from_ l hl
    · simp only [List.mem_cons, List.not_mem_nil, or_false] at hl
      rcases hl with rfl | rfl
      · exact Or.inr hm
      · exact Or.inl hm
  · by_cases e : i' = i
    · subst e
      rw [hx] at hl
      cases hl
      simp
    · exact List.mem_append_left _ (h.till i' (by omega) l hl)
theorem Alike.grp {N : Nat} {Wl : List Bool} {P M : List (Int × Int)} (h : Alike P M 0) : grp N Wl M = grp N Wl P := by
  have hs : Grp (Ej N Wl P) (grpF N Wl M) := (grp_is N Wl M).same (fun a b hab => by
      obtain ⟨hm, k1, k2⟩ := hab
      rcases h.from_ _ hm with e | e
      · exact Or.inl ⟨e, k1, k2⟩
      · exact Or.inr (Or.inl ⟨e, k2, k1⟩)) (fun a b hab => by
      obtain ⟨hm, k1, k2⟩ := hab
      obtain ⟨i, hi, e⟩ := mem_at hm
      exact Or.inl ⟨h.till i (Nat.zero_le _) _ e, k1, k2⟩)
  unfold Go.Proofs.Ytdbiikllcplmgaa.grp
  apply List.map_congr_left
  intro i _
  rw [hs.unique (grp_is N Wl P) i]
theorem wall_alone {N : Nat} {Wl : List Bool} {P : List (Int × Int)} {i : Nat} (hw : Wl[i]?.getD false = true) (j : Nat) (h : grpF N Wl P j = grpF N Wl P i) : j = i := by
  have h1 := grp_is N Wl P
  have hf : ∀ a b, Ej N Wl P a b → (fun x => if x = i then 1 else 0) a = (fun x => if x = i then 1 else 0) b := fun a b hab => by
    have ha : a ≠ i := fun e => by subst e; have := (okI_lo hab.2.1).2.2; simp [hw] at this
    have hb : b ≠ i := fun e => by subst e; have := (okI_lo hab.2.2).2.2; simp [hw] at this
    simp [ha, hb]
  have e1 := h1.conn i (fun x => if x = i then 1 else 0) hf
  have e2 := h1.conn j (fun x => if x = i then 1 else 0) hf
  simp only [if_true] at e1
  rw [h, ← e1] at e2
  by_cases e : j = i
  · exact e
  · simp [e] at e2
theorem wall_one {N : Nat} {Wl : List Bool} {P : List (Int × Int)} {i : Nat} (hi : i < N) (hw : Wl[i]?.getD false = true) : (memb (grp N Wl P) (i : Int) N).length = 1 ∧ grpF N Wl P i = i := by
  have h1 := grp_is N Wl P
  have hg : grpF N Wl P i = i := wall_alone hw _ (h1.fix i)
  refine ⟨?_, hg⟩
  have hall : ∀ x ∈ memb (grp N Wl P) (i : Int) N, x = (i : Int) := fun x hx => by
    obtain ⟨p, rfl, hp, hl⟩ := memb_of N hx
    rw [grp_at _ _ _ _ hp] at hl
    have e : grpF N Wl P p = i := by have := Option.some.inj hl; omega
    rw [wall_alone hw p (by rw [e, hg])]
  have hin : (i : Int) ∈ memb (grp N Wl P) (i : Int) N := memb_mem (by rw [grp_at _ _ _ _ hi, hg]) N hi
  have hr := memb_rise (grp N Wl P) (i : Int) N
  generalize memb (grp N Wl P) (i : Int) N = E at *
  match E, hall, hin, hr with
  | [], _, hin, _ => simp at hin
  | [x], _, _, _ => rfl
  | x :: y :: r, hall, _, hr =>
    have h2 := hall x (by simp)
    have h3 := hall y (by simp)
    have := (List.pairwise_cons.1 hr).1 y (by simp)
    omega
/-- What the statements make of the links that they are handed. -/
def pk (n : Int) (L : List (Int × Int)) (k : Nat) : List (Int × Int) := (L.take k).map (fun l => (pickY l.1 n, pickY l.2 n))
theorem pk_zero (n : Int) (L : List (Int × Int)) : pk n L 0 = [] := by simp [pk]
theorem pk_snoc {n : Int} {L : List (Int × Int)} {k : Nat} {x y : Int} (h : L[k]? = some (x, y)) : pk n L (k + 1) = pk n L k ++ [(pickY x n, pickY y n)] := by
  unfold pk
  rw [take_snoc L k _ h]; simp
theorem pk_length {n : Int} {L : List (Int × Int)} {k : Nat} (h : k ≤ L.length) : (pk n L k).length = k := by simp [pk]; omega
theorem pk_mem {n : Int} (hn : 0 < n) {L : List (Int × Int)} {k : Nat} {l : Int × Int} (h : l ∈ pk n L k) : (0 ≤ l.1 ∧ l.1 < n) ∧ (0 ≤ l.2 ∧ l.2 < n) := by
  unfold pk at h
  obtain ⟨a, _, rfl⟩ := List.mem_map.1 h
  exact ⟨⟨pickY_lo _ hn, pickY_hi _ hn⟩, ⟨pickY_lo _ hn, pickY_hi _ hn⟩⟩
theorem cnt_nat {n : Nat} (h : n ≤ 4096) : cnt (n : Int) = n := by unfold cnt; omega
theorem RdI.grp {W : World} {v : Value} {N : Nat} {Wl : List Bool} {L : List (Int × Int)} (h : RdI W v (grp N Wl L)) : ∃ o c, v = .slice o N c ∧ N ≤ c ∧ c ≤ 9223372036854775807 ∧ ∀ i, i < N → ∃ g off, o = some ⟨g, off, none⟩ ∧ W.cell? ⟨g, off + i, none⟩ = some (.int .i64 (grpF N Wl L i : Int)) := by
  obtain ⟨o, c, e, h1, h2, h3⟩ := h.form
  rw [grp_length] at e h1 h3
  refine ⟨o, c, e, h1, h2, fun i hi => ?_⟩
  obtain ⟨g, off, z, e, hz, hc⟩ := h3 i hi
  rw [grp_at _ _ _ _ hi] at hz
  cases hz
  exact ⟨g, off, e, hc⟩
theorem ends_same {N : Nat} {Wl : List Bool} {P : List (Int × Int)} {i a b : Nat} (h : P[i]? = some ((a : Int), (b : Int))) (ha : a < N) (hb : b < N) (wa : Wl[a]?.getD false = false) (wb : Wl[b]?.getD false = false) : grpF N Wl P a = grpF N Wl P b :=
  (grp_is N Wl P).eq a b ⟨List.mem_of_getElem? h, okI_of ha wa, okI_of hb wb⟩
theorem okI_nil {N a : Nat} (h : a < N) : okI N [] (a : Int) = true := okI_of h (by simp)
end Go.Proofs.Ytdbiikllcplmgaa
