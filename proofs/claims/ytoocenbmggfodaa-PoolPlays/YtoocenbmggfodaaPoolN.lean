/- A pool and the reference's with the same places are told to be the same. -/
import Derived.Test.YtoocenbmggfodaaPoolM
import Derived.Test.YtoocenbmggfodaaRegV
namespace Go.Proofs.Ytoocenbmggfodaa
open Go.RowKit Go.Shelf
set_option linter.unusedVariables false

theorem row_own {A B : World} {base size m n : Nat} {e : TypeId} {v : Value} {xs : List Value} {row : Option Nat} (h : A.ownsRow base e size v m xs) (hg : A.grownBy B row) (hr : ∀ r, row = some r → n ≤ r ∧ ∃ o : Obj, A.heap[r]? = some o ∧ o.isCells = false) : B.ownsRow base e size v m xs := by
  refine World.ownsRow.kept h hg ?_
  cases hv : v.ownBlock with
  | none => exact Or.inl rfl
  | some k =>
    right
    intro e2
    obtain ⟨_, o, ho, hc⟩ := hr k e2.symm
    rcases h.2 with ⟨rfl, _⟩ | ⟨g, cap, cur, rfl, _, hg2, _⟩
    · cases hv
    · simp only [Value.ownBlock, Option.some.injEq] at hv
      subst hv
      rw [hg2] at ho
      cases ho
      cases hc
theorem row_far {W : World} {base size m : Nat} {e : TypeId} {v : Value} {xs : List Value} (h : W.ownsRow base e size v m xs) {b : Nat} (hb : ∀ k, v.ownBlock = some k → k ≠ b) (o : Nat) (u : Value) : (W.setCell ⟨b, o, none⟩ u).ownsRow base e size v m xs := by
  refine World.ownsRow.kept h (row := some b) ⟨rfl, rfl, rfl, by simp [World.setCell], fun k _ hk => Below.heap_setCell _ _ _ k (fun e => hk (by rw [e]))⟩ ?_
  cases hv : v.ownBlock with
  | none => exact Or.inl rfl
  | some k => right; intro e2; simp only [Option.some.injEq] at e2; exact hb k hv e2
theorem row_below {w W : World} {base size m : Nat} {e : TypeId} {v : Value} {xs : List Value} (h : w.ownsRow base e size v m xs) (hb : Below w.heap.size w W) : W.ownsRow base e size v m xs := by
  refine World.ownsRow.kept h (below_grown hb none) ?_
  cases hv : v.ownBlock with
  | none => exact Or.inl rfl
  | some k => exact Or.inr (by simp)
/-- The n-th number of a row. -/
theorem num_at {W : World} {base cap n : Nat} {o : Option Addr} {H : List Int} (hH : H.length = n) (h : W.ownsRow base 3 1 (.slice o n cap) n (nums H)) {k : Nat} (hk : k < n) : ∃ g, o = some ⟨g, 0, none⟩ ∧ W.cell? ⟨g, k, none⟩ = some (.int .i64 (H[k]?.getD 0)) := by
  rcases h.2 with ⟨e, h0⟩ | ⟨g, cap', cur, e, hb, hg, h1, h2, h3, h4⟩
  · omega
  · simp only [Value.slice.injEq, true_and] at e
    obtain ⟨rfl, rfl⟩ := e
    refine ⟨g, rfl, ?_⟩
    rw [World.ownsRow.cellAt h k (by omega)]
    simp [nums, show k < H.length by omega]
theorem Hs_at {L : List Pl} {T : List (Live L)} {k : Nat} (hk : k < T.length) : (Hs T)[k]?.getD 0 = handleOf (at_ L T[k].1.val) T[k].1.val := by simp [Hs, hk]
theorem Xs_at {L : List Pl} {T : List (Live L)} {k : Nat} (hk : k < T.length) : (Xs T)[k]?.getD 0 = (at_ L T[k].1.val).x := by simp [Xs, hk]
theorem early9 {p : Bool} {X Y : Prop} (h : (p = false ∧ X) ∨ (p = true ∧ Y)) (hp : p = false) : X := by
  rcases h with h | h
  · exact h.2
  · rw [h.1] at hp; cases hp
theorem late9 {p : Bool} {X Y : Prop} (h : (p = false ∧ X) ∨ (p = true ∧ Y)) (hp : p = true) : Y := by
  rcases h with h | h
  · rw [h.1] at hp; cases hp
  · exact h.2

theorem handle_inj {L : List Pl} (hr : L.length ≤ 1024) {x y : Live L} (hx : 0 ≤ (at_ L x.1.val).age) (hy : 0 ≤ (at_ L y.1.val).age) (h : handleOf (at_ L x.1.val) x.1.val = handleOf (at_ L y.1.val) y.1.val) : x = y := by
  unfold handleOf at h
  have h1 := x.1.isLt
  have h2 := y.1.isLt
  have e : x.1.val = y.1.val := by omega
  exact Subtype.ext (Fin.ext e)
/-- The first ones. -/
def Pref {L : List Pl} (T pre : List (Live L)) : Prop := pre = T.take pre.length
theorem Pref.snoc {L : List Pl} {T pre : List (Live L)} (h : Pref T pre) (hn : pre.length < T.length) : Pref T (pre ++ [T[pre.length]]) := by
  unfold Pref at *
  rw [List.length_append, List.length_singleton, List.take_succ_eq_append_getElem hn, ← h]
theorem Pref.last {L : List Pl} {T pre : List (Live L)} {x : Live L} (h : Pref T (pre ++ [x])) : ∃ hn : pre.length < T.length, T[pre.length] = x := by
  unfold Pref at h
  have hl : (pre ++ [x]).length = (T.take (pre ++ [x]).length).length := by rw [← h]
  rw [List.length_take, List.length_append, List.length_singleton] at hl
  have hn : pre.length < T.length := by omega
  refine ⟨hn, ?_⟩
  have h2 : (pre ++ [x])[pre.length]? = (T.take (pre ++ [x]).length)[pre.length]? := by rw [← h]
  rw [List.getElem?_append_right (Nat.le_refl _), Nat.sub_self, List.getElem?_take, List.length_append, List.length_singleton, if_pos (by omega), List.getElem?_eq_getElem hn] at h2
  simpa using h2.symm
theorem pref_lives {L : List Pl} {k : Nat} (hk : k ≤ L.length) : Pref (lives L (ups L.length L.length)) (lives L (ups L.length k)) := by
  have e : ups L.length L.length = ups L.length k ++ (List.finRange L.length).drop k := by
    unfold ups
    rw [List.take_append_drop, List.take_of_length_le (by simp)]
  unfold Pref
  rw [e, lives_append, List.take_left']
  rfl

attribute [local go_sem] Oper.semAt_some in
set_option maxRecDepth 100000 in
set_option maxHeartbeats 8000000 in
theorem same_any (pp pl rp rl : Nat) (L : List Pl) (w : World) (hp : IsPool w pp pl L) (hr : IsPool w rp rl L) :
    Calls Try.prog 19 #[.pointer (some ⟨pp, 0, none⟩), .pointer (some ⟨rp, 0, none⟩)] w fun e W => e = .returned (.bool true) ∧ Below w.heap.size w W := by
  refine (callsIn_wide (n := 12)).1 ?_
  have h1 : 1 ≤ 12 := by omega
  have hroom := hp.room
  refine callsIn_of_wp_marks Try.func19 rfl trivial ?_ rfl
  simp only [Try.ntmps19, List.size_toArray, List.length_cons, List.length_nil, Nat.reduceAdd, Nat.reduceSub, Array.replicate_succ, Array.replicate_zero, List.push_toArray, List.append_toArray, List.nil_append, List.cons_append]
  gi_wp2_with (fail)
  have hA1 : Below w.heap.size w (w.alloc (.cells #[.bool false] 4)) := (Below.refl _ w).alloc (Nat.le_refl _) _
  have N := rall_any rp rl L (w.alloc (.cells #[.bool false] 4)) (hr.below hA1)
  refine ⟨trivial, (callsIn_wide.2 N).mono ?_⟩
  clear N
  rintro e V1 ⟨u, m, rfl, hT⟩
  obtain ⟨S0, hS0⟩ : ∃ n, n = w.heap.size := ⟨_, rfl⟩
  have br1 : Boxed V1 S0 4 (.bool false) := (hT.below.block _ (by simp; omega)).trans (by rw [hS0]; exact Boxed.new w 4 (.bool false))
  have hB1 : Below w.heap.size w V1 := hA1.trans (hT.below.mono (by simp))
  have ro1 := hT.o1
  have ro2 := hT.o2
  have hs1 := hT.below.size
  simp only [World.size_alloc] at hs1
  obtain ⟨T, hTT⟩ : ∃ T, T = lives L (ups L.length L.length) := ⟨_, rfl⟩
  rw [← hTT] at ro1 ro2
  have hHl : (Hs T).length = T.length := Hs_length T
  have hXl : (Xs T).length = T.length := Xs_length T
  rw [hHl] at ro1
  rw [hXl] at ro2
  obtain ⟨o1, c1, rfl⟩ := num_row ro1
  obtain ⟨o2, c2, rfl⟩ := num_row ro2
  have hTl : T.length ≤ 1024 := by rw [hTT]; exact Nat.le_trans (lives_length L _) (by rw [ups_length (Nat.le_refl _)]; exact hroom)
  obtain ⟨B9, hB9e⟩ : ∃ n, n = (w.alloc (.cells #[.bool false] 4)).heap.size := ⟨_, rfl⟩
  rw [← hB9e] at ro1 ro2
  have hB9 : B9 = S0 + 1 := by rw [hB9e, hS0]; simp
  obtain ⟨S1, hS1⟩ : ∃ n, n = V1.heap.size := ⟨_, rfl⟩
  have lt1 : ∀ k, (Value.slice o1 T.length c1).ownBlock = some k → k < S1 := fun k e => by rw [hS1]; exact (ro1.lt k e).2
  have lt2 : ∀ k, (Value.slice o2 T.length c2).ownBlock = some k → k < S1 := fun k e => by rw [hS1]; exact (ro2.lt k e).2
  have ge1 : ∀ k, (Value.slice o1 T.length c1).ownBlock = some k → S0 < k := fun k e => by have := (ro1.lt k e).1; omega
  have ge2 : ∀ k, (Value.slice o2 T.length c2).ownBlock = some k → S0 < k := fun k e => by have := (ro2.lt k e).1; omega
  have hSS : S0 < S1 := by omega
  have hpp1 : pp < S0 := by rw [hS0]; exact hp.plt
  have hpl1 : pl < S0 := by rw [hS0]; exact hp.lt
  have hp1 : IsPool V1 pp pl L := hp.below hB1
  have HPW : Hid (IsPool w pp pl L) := hp
  have HR1 : Hid _ := ro1
  have HR2 : Hid _ := ro2
  have HTT : Hid _ := hTT
  have HHl : Hid _ := hHl
  have HXl : Hid _ := hXl
  clear hT ro1 ro2 hTT hr hp hB9e hA1 hHl hXl hs1
  gi_wp2_with (refine ⟨trivial, ?_⟩; gi_at_call 29; refine (callsIn_wide.2 (all_in _ _)).mono ?_; rintro e w' ⟨rfl, rfl⟩)
  obtain ⟨W0, hW0⟩ : ∃ W0, W0 = (((V1.alloc (.cells #[.slice o1 T.length c1] 31)).alloc (.cells #[.slice o2 T.length c2] 31)).alloc (.cells #[.int .i64 0] 3)).alloc (.cells #[.pointer (some ⟨pp, 0, none⟩)] 24) := ⟨_, rfl⟩
  have hsz : W0.heap.size = S1 + 4 := by rw [hW0, hS1]; simp
  have hBV : Below V1.heap.size V1 W0 := by rw [hW0]; exact ((((Below.refl _ V1).alloc (Nat.le_refl _) _).alloc (by simp) _).alloc (by simp; omega) _).alloc (by simp; omega) _
  have hB0 : Below w.heap.size w W0 := hB1.trans (hBV.mono hB1.size)
  have bl0 : Boxed W0 S1 31 (.slice o1 T.length c1) := by rw [hW0, hS1]; exact (((Boxed.new V1 31 (.slice o1 T.length c1)).alloc _).alloc _).alloc _
  have bm0 : Boxed W0 (S1 + 1) 31 (.slice o2 T.length c2) := by
    rw [hW0, hS1]
    have h := Boxed.new (V1.alloc (.cells #[.slice o1 T.length c1] 31)) 31 (.slice o2 T.length c2)
    rw [World.size_alloc] at h
    exact (h.alloc _).alloc _
  have bn0 : Boxed W0 (S1 + 1 + 1) 3 (.int .i64 0) := by
    rw [hW0, hS1]
    have h := Boxed.new ((V1.alloc (.cells #[.slice o1 T.length c1] 31)).alloc (.cells #[.slice o2 T.length c2] 31)) 3 (.int .i64 0)
    rw [World.size_alloc, World.size_alloc] at h
    exact h.alloc _
  have hbs : W0.cell? ⟨S1 + 1 + 1 + 1, 0, none⟩ = some (.pointer (some ⟨pp, 0, none⟩)) := by
    rw [hW0, hS1]
    have h := (Boxed.new (((V1.alloc (.cells #[.slice o1 T.length c1] 31)).alloc (.cells #[.slice o2 T.length c2] 31)).alloc (.cells #[.int .i64 0] 3)) 24 (.pointer (some ⟨pp, 0, none⟩))).cell
    rw [World.size_alloc, World.size_alloc, World.size_alloc] at h
    exact h
  have br0 : Boxed W0 S0 4 (.bool false) := (hBV.block S0 (by omega)).trans br1
  have hp0 : IsPool W0 pp pl L := hp1.below hBV
  have ro1 := row_below HR1.out hBV
  have ro2 := row_below HR2.out hBV
  rw [← hW0, ← hS1, ← hS0]
  have hSl : w.heap.size ≤ S0 := by omega
  have hSr : S0 ≤ w.heap.size := by omega
  clear hW0 hS1 hS0 hBV br1 hp1 hB1 HR1 HR2
  refine' range_by h1 (gf := 31) (lb := #[.pointer (some ⟨S1 + 1 + 1 + 1, 0, none⟩)]) rfl (enters_of Try.func31 (by kernel_rfl) rfl)
    (all_tells (12 - 1) (by omega) (S1 + 1 + 1 + 1) pp pl L W0 hp0 hbs) (fun h k => Keep.trans h k) (fun _ _ _ o' _ h hc => keep_b o' h hc) (fun _ => rfl)
    (fun pre V => Pref T pre ∧ Below w.heap.size w V ∧ Boxed V (S1 + 1 + 1) 3 (.int .i64 (pre.length : Int)) ∧ Boxed V S1 31 (.slice o1 T.length c1) ∧ Boxed V (S1 + 1) 31 (.slice o2 T.length c2) ∧ Boxed V S0 4 (.bool false) ∧ V.ownsRow B9 3 1 (.slice o1 T.length c1) T.length (nums (Hs T)) ∧ V.ownsRow B9 3 1 (.slice o2 T.length c2) T.length (nums (Xs T)) ∧ S1 + 4 ≤ V.heap.size)
    (fun c pre V => c = .ret ∧ ¬ Pref T pre)
    (fun s A B row hs hg hr => ⟨hs.1, hs.2.1.grown hg hs.2.1.size (fun k e => by have := (hr k e).1; omega), box_own hs.2.2.1 hg hr, box_own hs.2.2.2.1 hg hr, box_own hs.2.2.2.2.1 hg hr, box_own hs.2.2.2.2.2.1 hg hr, row_own hs.2.2.2.2.2.2.1 hg hr, row_own hs.2.2.2.2.2.2.2.1 hg hr, Nat.le_trans hs.2.2.2.2.2.2.2.2 hg.size⟩)
    (fun c s A B row hs hg hr => hs)
    ⟨rfl, hB0, bn0, bl0, bm0, br0, ro1, ro2, by omega⟩ _ ?assign ?body ?done ?stop
  case assign =>
    intro l x W K hK
    unfold encA
    gi_wp2
    exact hK
  case body =>
    rintro l pre x V ⟨hpf, hB, bn, bl, bm, br, r1, r2, hsV⟩ hlen
    have cn := bn.cell
    have fn := bn.frozen
    have cl := bl.cell
    have cm := bm.cell
    have cr := br.cell
    have fr := br.frozen
    have hlen' : pre.length < 1024 := by omega
    have okx := (hp0.okAt x.1.val).1
    by_cases hn : pre.length < T.length
    · obtain ⟨g1, rfl, z1⟩ := num_at HHl.out r1 hn
      obtain ⟨g2, rfl, z2⟩ := num_at HXl.out r2 hn
      rw [Hs_at hn] at z1
      rw [Xs_at hn] at z2
      by_cases hxy : T[pre.length] = x
      · rw [hxy] at z1 z2
        have HPF : Hid (Pref T (pre ++ [x])) := by show Pref _ _; rw [← hxy]; exact hpf.snoc hn
        generalize handleOf (at_ L x.1.val) x.1.val = hv at *
        generalize (at_ L x.1.val).x = xv at *
        clear hxy
        --@b1
        gi_wp2
        refine ⟨(KeepsOthers.setCell _ _ _).from _, keep_grown (G.set (World.grownBy.refl V (some (S1 + 1 + 1))) 0 _) (fun r e => by cases e; omega), HPF.out, hB.setCell (p := ⟨S1 + 1 + 1, 0, none⟩) (by show w.heap.size ≤ S1 + 1 + 1; omega) _, ?_, box_far bl (by show S1 ≠ S1 + 1 + 1; omega) _, box_far bm (by show S1 + 1 ≠ S1 + 1 + 1; omega) _, box_far br (by show S0 ≠ S1 + 1 + 1; omega) _, row_far r1 (fun k e => by have := lt1 k e; omega) _ _, row_far r2 (fun k e => by have := lt2 k e; omega) _ _, by simpa [World.setCell] using hsV⟩
        rw [List.length_append]; exact bn.set _
      · have hne : handleOf (at_ L x.1.val) x.1.val ≠ handleOf (at_ L (T[pre.length]).1.val) (T[pre.length]).1.val := fun e => hxy (handle_inj hroom okx (hp0.okAt _).1 e).symm
        have HNP : Hid (¬ Pref T (pre ++ [x])) := fun h => hxy h.last.2
        have hb1 : (handleOf (at_ L x.1.val) x.1.val == handleOf (at_ L (T[pre.length]).1.val) (T[pre.length]).1.val) = false := beq_eq_false_iff_ne.2 hne
        have hb2 : (handleOf (at_ L x.1.val) x.1.val != handleOf (at_ L (T[pre.length]).1.val) (T[pre.length]).1.val) = true := bne_iff_ne.2 hne
        clear hxy hne okx
        generalize handleOf (at_ L x.1.val) x.1.val = hv at *
        generalize handleOf (at_ L (T[pre.length]).1.val) (T[pre.length]).1.val = hy at *
        generalize (at_ L x.1.val).x = xv at *
        --@b2
        gi_wp2
        exact ⟨(KeepsOthers.setCell _ _ _).from _, rfl, HNP.out⟩
    · have HNP : Hid (¬ Pref T (pre ++ [x])) := fun h => hn h.last.1
      have hge : (T.length : Int) ≤ (pre.length : Int) := by omega
      generalize handleOf (at_ L x.1.val) x.1.val = hv at *
      generalize (at_ L x.1.val).x = xv at *
      --@b3
      gi_wp2
      exact ⟨(KeepsOthers.setCell _ _ _).from _, rfl, HNP.out⟩
  case done =>
    rintro D ys V hD rfl ⟨hpf, hB, bn, bl, bm, br, r1, r2, hsV⟩ hK
    rw [← HTT.out] at bn
    have hheld : held L = T.length := by unfold held; rw [← HTT.out]
    have cn := bn.cell
    have cl := bl.cell
    have cr := br.cell
    have fr := br.frozen
    have hbn := bn.lt
    have hbl := bl.lt
    have hbr := br.lt
    have LEN : ∀ W, Below V.heap.size V W → Calls Try.prog 20 #[.pointer (some ⟨pp, 0, none⟩)] W fun e W' => e = .returned (.int .i64 (T.length : Int)) ∧ Below W.heap.size W W' := fun W hW => by
      rw [← hheld]
      exact len_any pp pl L W ((HPW.out.below hB).below hW)
    have HLEN : Hid _ := LEN
    have HK : Hid _ := hK
    clear LEN hpf r1 r2 bm hK
    gi_wp2
    --@d
    refine (wpIn_wide (n := 12)).2 ?_
    refine RV.region_by (fun j v w => match j with | 0 => v = .int .i64 (T.length : Int) | 1 => v = .slice o1 T.length c1 | 2 => v = .int .i64 (T.length : Int) | 3 => v = .bool true | 4 => v = .bool true | 5 => v = .pointer (some ⟨pp, 0, none⟩) | 6 => v = .int .i64 (T.length : Int) | 7 => v = .int .i64 (T.length : Int) | 8 => v = .bool true | 9 => v = .bool true | 10 => True | _ => True) (fun γ L w9 => (L 10 = false ∧ Below V.heap.size V w9) ∨ (L 10 = true ∧ ∃ w8, Below V.heap.size V w8 ∧ w9 = w8.setCell ⟨S0, 0, none⟩ (.bool true))) (by kernel_rfl) (by kernel_rfl) (by kernel_rfl) (by kernel_rfl) ?_ ?_ ?_
    · exact Or.inl ⟨rfl, (Below.refl _ V).drew⟩
    · generalize hD : dstOf _ = D
      generalize hWA : waitsFor _ = WA
      generalize hZ : Act.mk _ _ = Z
      obtain ⟨R, hR⟩ : ∃ R : Nat → Value → World → Prop, R = (fun j v w => match j with | 0 => v = .int .i64 (T.length : Int) | 1 => v = .slice o1 T.length c1 | 2 => v = .int .i64 (T.length : Int) | 3 => v = .bool true | 4 => v = .bool true | 5 => v = .pointer (some ⟨pp, 0, none⟩) | 6 => v = .int .i64 (T.length : Int) | 7 => v = .int .i64 (T.length : Int) | 8 => v = .bool true | 9 => v = .bool true | 10 => True | _ => True) := ⟨_, rfl⟩
      rw [← hR]
      have d0 : D 0 = some 41 := by rw [← hD]; rfl
      have d1 : D 1 = some 42 := by rw [← hD]; rfl
      have d2 : D 2 = some 43 := by rw [← hD]; rfl
      have d3 : D 3 = some 44 := by rw [← hD]; rfl
      have d4 : D 4 = some 45 := by rw [← hD]; rfl
      have d5 : D 5 = some 46 := by rw [← hD]; rfl
      have d6 : D 6 = some 47 := by rw [← hD]; rfl
      have d7 : D 7 = some 48 := by rw [← hD]; rfl
      have d8 : D 8 = some 49 := by rw [← hD]; rfl
      have d9 : D 9 = some 50 := by rw [← hD]; rfl
      have r0 : ∀ v w, R 0 v w = (v = .int .i64 (T.length : Int)) := fun v w => by rw [hR]; rfl
      have r1 : ∀ v w, R 1 v w = (v = .slice o1 T.length c1) := fun v w => by rw [hR]; rfl
      have r2 : ∀ v w, R 2 v w = (v = .int .i64 (T.length : Int)) := fun v w => by rw [hR]; rfl
      have r3 : ∀ v w, R 3 v w = (v = .bool true) := fun v w => by rw [hR]; rfl
      have r4 : ∀ v w, R 4 v w = (v = .bool true) := fun v w => by rw [hR]; rfl
      have r5 : ∀ v w, R 5 v w = (v = .pointer (some ⟨pp, 0, none⟩)) := fun v w => by rw [hR]; rfl
      have r6 : ∀ v w, R 6 v w = (v = .int .i64 (T.length : Int)) := fun v w => by rw [hR]; rfl
      have r7 : ∀ v w, R 7 v w = (v = .int .i64 (T.length : Int)) := fun v w => by rw [hR]; rfl
      have r8 : ∀ v w, R 8 v w = (v = .bool true) := fun v w => by rw [hR]; rfl
      have r9 : ∀ v w, R 9 v w = (v = .bool true) := fun v w => by rw [hR]; rfl
      have r10 : ∀ v w, R 10 v w = (True) := fun v w => by rw [hR]; rfl
      have E0 : ∀ (γ : Nat → Value) (L : Nat → Bool) (a : Act) (w : World), RV.Held D WA R (fun γ L w9 => (L 10 = false ∧ Below V.heap.size V w9) ∨ (L 10 = true ∧ ∃ w8, Below V.heap.size V w8 ∧ w9 = w8.setCell ⟨S0, 0, none⟩ (.bool true))) Z γ L a w → a.tmps[0]? = some (.pointer (some ⟨pp, 0, none⟩)) := fun γ L a w hH => (hH.rest 0 (by rw [← hD]; exact RV.dst_free (by kernel_rfl))).trans (by rw [← hZ]; rfl)
      have E4 : ∀ (γ : Nat → Value) (L : Nat → Bool) (a : Act) (w : World), RV.Held D WA R (fun γ L w9 => (L 10 = false ∧ Below V.heap.size V w9) ∨ (L 10 = true ∧ ∃ w8, Below V.heap.size V w8 ∧ w9 = w8.setCell ⟨S0, 0, none⟩ (.bool true))) Z γ L a w → a.tmps[4]? = some (.pointer (some ⟨S0, 0, none⟩)) := fun γ L a w hH => (hH.rest 4 (by rw [← hD]; exact RV.dst_free (by kernel_rfl))).trans (by rw [← hZ]; rfl)
      have E5 : ∀ (γ : Nat → Value) (L : Nat → Bool) (a : Act) (w : World), RV.Held D WA R (fun γ L w9 => (L 10 = false ∧ Below V.heap.size V w9) ∨ (L 10 = true ∧ ∃ w8, Below V.heap.size V w8 ∧ w9 = w8.setCell ⟨S0, 0, none⟩ (.bool true))) Z γ L a w → a.tmps[5]? = some (.pointer (some ⟨S1, 0, none⟩)) := fun γ L a w hH => (hH.rest 5 (by rw [← hD]; exact RV.dst_free (by kernel_rfl))).trans (by rw [← hZ]; rfl)
      have E7 : ∀ (γ : Nat → Value) (L : Nat → Bool) (a : Act) (w : World), RV.Held D WA R (fun γ L w9 => (L 10 = false ∧ Below V.heap.size V w9) ∨ (L 10 = true ∧ ∃ w8, Below V.heap.size V w8 ∧ w9 = w8.setCell ⟨S0, 0, none⟩ (.bool true))) Z γ L a w → a.tmps[7]? = some (.pointer (some ⟨S1 + 1 + 1, 0, none⟩)) := fun γ L a w hH => (hH.rest 7 (by rw [← hD]; exact RV.dst_free (by kernel_rfl))).trans (by rw [← hZ]; rfl)
      have K : ∀ j v w w', R j v w → R j v w' := by rw [hR]; intro j v w w' h; exact h
      have A_10_0 : WA 10 0 := by rw [← hWA]; exact ⟨_, rfl, ⟨0, .phase⟩, by simp, rfl, rfl⟩
      have A_10_1 : WA 10 1 := by rw [← hWA]; exact ⟨_, rfl, ⟨1, .phase⟩, by simp, rfl, rfl⟩
      have A_10_6 : WA 10 6 := by rw [← hWA]; exact ⟨_, rfl, ⟨6, .phase⟩, by simp, rfl, rfl⟩
      have A_10_7 : WA 10 7 := by rw [← hWA]; exact ⟨_, rfl, ⟨7, .phase⟩, by simp, rfl, rfl⟩
      clear hD hWA hZ hR
      refine RV.AllDo.cons 0 (RV.does_pure (fun γ v L w hl h => by rw [RV.more_ne (L := L) (i := 0) (j := 10) (by decide)]; exact h) (fun γ L a w hH hl hA => by have e0 := E7 γ L a w hH; have hB9 := early9 hH.glob (RV.not_yet hH A_10_0 hl); have z := (hB9.cell (p := ⟨S1 + 1 + 1, 0, none⟩) hbn).trans cn; exact ⟨.int .i64 (T.length : Int), by simp [execOp, go_sem, e0, z], (r0 _ _).mpr rfl⟩)) ?_
      refine RV.AllDo.cons 1 (RV.does_pure (fun γ v L w hl h => by rw [RV.more_ne (L := L) (i := 1) (j := 10) (by decide)]; exact h) (fun γ L a w hH hl hA => by have e0 := E5 γ L a w hH; have hB9 := early9 hH.glob (RV.not_yet hH A_10_1 hl); have z := (hB9.cell (p := ⟨S1, 0, none⟩) hbl).trans cl; exact ⟨.slice o1 T.length c1, by simp [execOp, go_sem, e0, z], (r1 _ _).mpr rfl⟩)) ?_
      refine RV.AllDo.cons 2 (RV.does_pure (fun γ v L w hl h => by rw [RV.more_ne (L := L) (i := 2) (j := 10) (by decide)]; exact h) (fun γ L a w hH hl hA => by have l0 : L 1 = true := hA ⟨1, .data⟩ (by simp) rfl; have e0 := hH.slot 1 42 d1 l0; have g0 := hH.holds 1 l0; rw [r1] at g0; rw [g0] at e0; exact ⟨.int .i64 (T.length : Int), by simp [go_sem, e0], (r2 _ _).mpr rfl⟩)) ?_
      refine RV.AllDo.cons 3 (RV.does_pure (fun γ v L w hl h => by rw [RV.more_ne (L := L) (i := 3) (j := 10) (by decide)]; exact h) (fun γ L a w hH hl hA => by have l0 : L 0 = true := hA ⟨0, .data⟩ (by simp) rfl; have e0 := hH.slot 0 41 d0 l0; have g0 := hH.holds 0 l0; rw [r0] at g0; rw [g0] at e0; have l1 : L 2 = true := hA ⟨2, .data⟩ (by simp) rfl; have e1 := hH.slot 2 43 d2 l1; have g1 := hH.holds 2 l1; rw [r2] at g1; rw [g1] at e1; exact ⟨.bool true, by simp [execOp, go_sem, e0, e1], (r3 _ _).mpr rfl⟩)) ?_
      refine RV.AllDo.cons 4 (RV.does_pure (fun γ v L w hl h => by rw [RV.more_ne (L := L) (i := 4) (j := 10) (by decide)]; exact h) (fun γ L a w hH hl hA => by have l0 : L 3 = true := hA ⟨3, .data⟩ (by simp) rfl; have e0 := hH.slot 3 44 d3 l0; have g0 := hH.holds 3 l0; rw [r3] at g0; rw [g0] at e0; exact ⟨.bool true, by simp [execOp, go_sem, e0], (r4 _ _).mpr rfl⟩)) ?_
      refine RV.AllDo.cons 5 (RV.does_guarded rfl d4 (fun v w h => by rw [r4] at h; exact h) (by simp) (RV.does_pure (fun γ v L w hl h => by rw [RV.more_ne (L := L) (i := 5) (j := 10) (by decide)]; exact h) (fun γ L a w hH hl hA => by have e0 := E0 γ L a w hH; exact ⟨.pointer (some ⟨pp, 0, none⟩), by simp [execOp, go_sem, e0], (r5 _ _).mpr rfl⟩))) ?_
      refine RV.AllDo.cons 6 (RV.does_guarded rfl d4 (fun v w h => by rw [r4] at h; exact h) (by simp) (RV.does_call (fun γ L a w hH hl hA => by have l0 : L 5 = true := hA ⟨5, .data⟩ (by simp) rfl; have e0 := hH.slot 5 46 d5 l0; have g0 := hH.holds 5 l0; rw [r5] at g0; rw [g0] at e0; have hB9 := early9 hH.glob (RV.not_yet hH A_10_6 hl); exact ⟨20, #[.pointer (some ⟨pp, 0, none⟩)], by simp [go_sem, e0], Calls.mono (HLEN.out w hB9) (by rintro e w2 ⟨rfl, hb⟩; exact ⟨_, rfl, (r6 _ _).mpr rfl, fun j v _ h => K j v _ _ h, Or.inl ⟨by rw [RV.more_ne (L := L) (i := 6) (j := 10) (by decide)]; exact RV.not_yet hH A_10_6 hl, hB9.trans (hb.mono hB9.size)⟩⟩)⟩))) ?_
      refine RV.AllDo.cons 7 (RV.does_guarded rfl d4 (fun v w h => by rw [r4] at h; exact h) (by simp) (RV.does_pure (fun γ v L w hl h => by rw [RV.more_ne (L := L) (i := 7) (j := 10) (by decide)]; exact h) (fun γ L a w hH hl hA => by have e0 := E7 γ L a w hH; have hB9 := early9 hH.glob (RV.not_yet hH A_10_7 hl); have z := (hB9.cell (p := ⟨S1 + 1 + 1, 0, none⟩) hbn).trans cn; exact ⟨.int .i64 (T.length : Int), by simp [execOp, go_sem, e0, z], (r7 _ _).mpr rfl⟩))) ?_
      refine RV.AllDo.cons 8 (RV.does_guarded rfl d4 (fun v w h => by rw [r4] at h; exact h) (by simp) (RV.does_pure (fun γ v L w hl h => by rw [RV.more_ne (L := L) (i := 8) (j := 10) (by decide)]; exact h) (fun γ L a w hH hl hA => by have l0 : L 6 = true := hA ⟨6, .data⟩ (by simp) rfl; have e0 := hH.slot 6 47 d6 l0; have g0 := hH.holds 6 l0; rw [r6] at g0; rw [g0] at e0; have l1 : L 7 = true := hA ⟨7, .data⟩ (by simp) rfl; have e1 := hH.slot 7 48 d7 l1; have g1 := hH.holds 7 l1; rw [r7] at g1; rw [g1] at e1; exact ⟨.bool true, by simp [execOp, go_sem, e0, e1], (r8 _ _).mpr rfl⟩))) ?_
      refine RV.AllDo.cons 9 (RV.does_pure (fun γ v L w hl h => by rw [RV.more_ne (L := L) (i := 9) (j := 10) (by decide)]; exact h) (fun γ L a w hH hl hA => by have l0 : L 4 = true := hA ⟨4, .data⟩ (by simp) rfl; have e0 := hH.slot 4 45 d4 l0; have g0 := hH.holds 4 l0; rw [r4] at g0; rw [g0] at e0; have l1 : L 8 = true := hA ⟨8, .data⟩ (by simp) rfl; have e1 := hH.slot 8 49 d8 l1; have g1 := hH.holds 8 l1; rw [r8] at g1; rw [g1] at e1; exact ⟨.bool true, by simp [execOp, go_sem, e0, e1], (r9 _ _).mpr rfl⟩)) ?_
      refine RV.AllDo.cons 10 (RV.does_store (fun γ L a w hH hl hA => by have e0 := E4 γ L a w hH; have l1 : L 9 = true := hA ⟨9, .data⟩ (by simp) rfl; have e1 := hH.slot 9 50 d9 l1; have g1 := hH.holds 9 l1; rw [r9] at g1; rw [g1] at e1; have hB9 := early9 hH.glob hl; have z := (hB9.cell (p := ⟨S0, 0, none⟩) hbr).trans cr; have zf := (hB9.frozen (p := ⟨S0, 0, none⟩) hbr).trans fr; exact ⟨w.setCell ⟨S0, 0, none⟩ (.bool true), by simp [execOp, go_sem, e0, e1, z, zf], (r10 _ _).mpr trivial, fun j v _ h => K j v _ _ h, Or.inr ⟨RV.more_self, w, hB9, rfl⟩⟩)) ?_
      exact RV.AllDo.nil
    · intro γ a5 w5 L9 hL hLo hH
      have ha := RV.held_act hH hL (by kernel_rfl) (by kernel_rfl)
      obtain ⟨w8, hb8, rfl⟩ := late9 hH.glob (hL 10 (by decide))
      rw [ha]
      clear ha hH hL hLo
      simp only [RV.putAll, Act.put, List.setIfInBounds_toArray, List.set_cons_zero, List.set_cons_succ, Nat.zero_add, Nat.reduceAdd]
      have hK8 : (w8.setCell ⟨S0, 0, none⟩ (.bool true)).heap[D]? = some (.deferred (some [])) := (KeepsOthers.setCell _ _ _).same D _ ((hb8.block D (Array.getElem?_eq_some_iff.1 HK.out).1).trans HK.out) rfl
      have br8 : Boxed w8 S0 4 (.bool false) := (hb8.block S0 hbr).trans br
      gi_wp2
      refine ⟨by simp, .inl ⟨_, _, rfl, run_takeDeferred hK8, ?_⟩⟩
      have b9 := ((br8.set (.bool true)).kept (grownBy_putObj' _ D (.deferred none)) (by simp; omega)).cell
      refine ⟨.bool true, by simp [results, Try.results19, go_sem, b9], rfl, ?_⟩
      exact ((hB.trans (hb8.mono hB.size)).setCell (p := ⟨S0, 0, none⟩) hSl _).trans (belowK_b (w := w) (Nat.le_refl _) _ D _ _ (by omega) hK8 rfl rfl)
  case stop =>
    rintro D c pre V hD ⟨mm, hmm, hpre⟩ ⟨_, hx⟩ hK
    exact absurd (by rw [hpre, HTT.out]; exact pref_lives hmm) hx
end Go.Proofs.Ytoocenbmggfodaa
