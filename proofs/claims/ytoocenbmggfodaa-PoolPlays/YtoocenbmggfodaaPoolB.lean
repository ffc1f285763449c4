/- A pool's Put. -/
import Derived.Test.YtoocenbmggfodaaRegI
namespace Go.Proofs.Ytoocenbmggfodaa
open Go.RowKit Go.Shelf
attribute [local go_sem] Oper.semAt_some
set_option linter.unusedVariables false

/-- May a place take a thing? -/
def Pl.free (p : Pl) : Bool := !p.has && decide (p.age ≤ 1073741824)
def at_ (L : List Pl) (i : Nat) : Pl := L[i]?.getD default

set_option maxRecDepth 100000 in
set_option maxHeartbeats 2000000 in
theorem put_any (pp pl : Nat) (L : List Pl) (x : Int) (w : World) (h : IsPool w pp pl L) :
    Calls Try.prog 17 #[.pointer (some ⟨pp, 0, none⟩), .int .i64 x] w fun e W =>
      (∃ k, k < L.length ∧ (at_ L k).free = true ∧ (∀ j, j < k → (at_ L j).free = false) ∧ e = .returned (.tuple #[.int .i64 ((at_ L k).age * 65536 + (k : Int) + 1), .int .i64 0]) ∧ IsPool W pp pl (L.set k ⟨(at_ L k).age, true, x⟩) ∧ w.grownBy W (some pl)) ∨
      ((∀ j, j < L.length → (at_ L j).free = false) ∧ e = .returned (.tuple #[.int .i64 0, .int .i64 30]) ∧ IsPool W pp pl L ∧ w.grownBy W (some pl)) := by
  refine (callsIn_wide (n := 9)).1 ?_
  have h1 : 1 ≤ 9 := by omega
  refine callsIn_of_wp_marks Try.func17 rfl trivial ?_ rfl
  simp only [Try.ntmps17, List.size_toArray, List.length_cons, List.length_nil, Nat.reduceAdd, Nat.reduceSub, Array.replicate_succ, Array.replicate_zero, List.push_toArray, List.append_toArray, List.nil_append, List.cons_append]
  gi_wp2_with (refine ⟨trivial, ?_⟩; gi_at_call 26; refine (callsIn_wide.2 (each_in _ _)).mono ?_; rintro e w' ⟨rfl, rfl⟩)
  have hpp : pp < w.heap.size := h.plt
  have hpl := h.lt
  obtain ⟨S0, hS0⟩ : ∃ n, n = w.heap.size := ⟨_, rfl⟩
  obtain ⟨W0, hW0⟩ : ∃ W0, W0 = (((w.alloc (.cells #[.int .i64 x] 3)).alloc (.cells #[.int .i64 0] 36)).alloc (.cells #[.int .i64 0] 25)).alloc (.cells #[.pointer (some ⟨pp, 0, none⟩)] 24) := ⟨_, rfl⟩
  have hsz : W0.heap.size = S0 + 4 := by rw [hW0, hS0]; simp
  have hB0 : Below w.heap.size w W0 := by rw [hW0]; exact ((((Below.refl _ w).alloc (Nat.le_refl _) _).alloc (by simp) _).alloc (by simp; omega) _).alloc (by simp; omega) _
  have bx0 : Boxed W0 S0 3 (.int .i64 x) := by rw [hW0, hS0]; exact ((Boxed.new w 3 (.int .i64 x)).alloc _).alloc _ |>.alloc _
  have bh0 : Boxed W0 (S0 + 1) 36 (.int .i64 0) := by
    rw [hW0, hS0]
    have := Boxed.new (w.alloc (.cells #[.int .i64 x] 3)) 36 (.int .i64 0)
    rw [World.size_alloc] at this
    exact (this.alloc _).alloc _
  have be0 : Boxed W0 (S0 + 1 + 1) 25 (.int .i64 0) := by
    rw [hW0, hS0]
    have := Boxed.new ((w.alloc (.cells #[.int .i64 x] 3)).alloc (.cells #[.int .i64 0] 36)) 25 (.int .i64 0)
    rw [World.size_alloc, World.size_alloc] at this
    exact this.alloc _
  have hbs : W0.cell? ⟨S0 + 1 + 1 + 1, 0, none⟩ = some (.pointer (some ⟨pp, 0, none⟩)) := by rw [hW0, hS0]; simp [go_sem]
  rw [← hW0, ← hS0]
  have hSl : w.heap.size ≤ S0 := by omega
  have hSr : S0 ≤ w.heap.size := by omega
  clear hW0 hS0
  have hp0 := h.below hB0
  refine wpIn_rangeFunc_ownG rfl h1 (gf := 30) (lb := #[.pointer (some ⟨S0 + 1 + 1 + 1, 0, none⟩)]) rfl trivial (enters_of Try.func30 (by kernel_rfl) rfl)
    (each_stops (9 - 1) (by omega) (S0 + 1 + 1 + 1) pp pl L.length h.room W0 hbs hp0.slice) (fun h k => Keep.trans h k) (fun _ _ _ o' _ h hc _ => keep_b o' h hc) (Below.refl _ _) (fun _ => rfl)
    (fun pre W => (∀ j ∈ pre, (at_ L j.val).free = false) ∧ Below w.heap.size w W ∧ Boxed W S0 3 (.int .i64 x) ∧ Boxed W (S0 + 1) 36 (.int .i64 0) ∧ Boxed W (S0 + 1 + 1) 25 (.int .i64 0))
    (fun c pre W => c = .ret ∧ ∃ (pre' : List (Fin L.length)) (k : Fin L.length), pre = pre' ++ [k] ∧ (∀ j ∈ pre', (at_ L j.val).free = false) ∧ (at_ L k.val).free = true ∧ IsPool W pp pl (L.set k.val ⟨(at_ L k.val).age, true, x⟩) ∧ w.grownBy W (some pl) ∧ Boxed W (S0 + 1) 36 (.int .i64 ((at_ L k.val).age * 65536 + (k.val : Int) + 1)) ∧ Boxed W (S0 + 1 + 1) 25 (.int .i64 0))
    (fun s A B row hs hg hr => ⟨hs.1, hs.2.1.grown hg hs.2.1.size (fun k e => by have := (hr k e).1; omega), box_own hs.2.2.1 hg hr, box_own hs.2.2.2.1 hg hr, box_own hs.2.2.2.2 hg hr⟩)
    (fun c s A B row hs hg hr => by
      obtain ⟨hc, pre', k, e1, e2, e3, e4, e5, e6, e7⟩ := hs
      exact ⟨hc, pre', k, e1, e2, e3, e4.own hg hr (by omega) (by omega), G.andNew e5 hg (fun j e => by have := (hr j e).1; omega), box_own e6 hg hr, box_own e7 hg hr⟩)
    ⟨fun j hj => (by simp at hj), hB0, bx0, bh0, be0⟩
    (fun k => { tmps := #[.pointer (some ⟨pp, 0, none⟩), .int .i64 x, undef, .pointer (some ⟨S0, 0, none⟩), .pointer (some ⟨S0 + 1, 0, none⟩), .pointer (some ⟨S0 + 1 + 1, 0, none⟩), .int .i64 (k.val : Int), .pointer (some ⟨pl, k.val * 3, none⟩), .pointer (some ⟨pp, 0, none⟩), .func (.func 30) #[] #[.pointer (some ⟨S0 + 1 + 1 + 1, 0, none⟩)], .int .i64 (k.val : Int), .pointer (some ⟨pl, k.val * 3, none⟩), undef, undef, undef, undef, undef, undef, undef, undef, undef, undef, undef, undef, undef, undef, undef, undef, undef, undef, undef, undef, undef, undef, undef, undef, undef], defers := [] }) ?assign ?body ?done ?stop
  case assign =>
    intro l x W K hK
    unfold enc2
    gi_wp2
    exact hK
  case body =>
    rintro l pre ⟨k, hk⟩ W ⟨hfr, hB, bx, bh, be⟩ _
    have hp := h.below hB
    have c0 := hp.age k hk
    have c1 := hp.has k hk
    have c2 := hp.x k hk
    have f0 := hp.free (k * 3) (by omega)
    have f1 := hp.free (k * 3 + 1) (by omega)
    have f2 := hp.free (k * 3 + 2) (by omega)
    have hok := hp.ok k hk
    obtain ⟨P, hP⟩ : ∃ P, P = at_ L k := ⟨_, rfl⟩
    have hP' : L[k]?.getD default = P := hP.symm
    rw [hP'] at c0 c1 c2 hok
    obtain ⟨ag, hs, px⟩ := P
    obtain ⟨hok0, hok1, hok2⟩ := hok
    dsimp only at c0 c1 c2 hok0 hok1 hok2
    have hkr : k < 1024 := Nat.lt_of_lt_of_le hk h.room
    have HP : Hid _ := hP
    clear hP hP'
    cases hs with
    | true =>
      gi_wp2
      exact ⟨(KeepsOthers.refl _).from _, Keep.refl _ _, fun j hj => (by
        rcases List.mem_append.1 hj with h | h
        · exact hfr j h
        · simp only [List.mem_singleton] at h; subst h; show (at_ L k).free = false; rw [← HP.out]; rfl), hB, bx, bh, be⟩
    | false =>
      by_cases ha : ag ≤ 1073741824
      · have bxc := bx.cell
        have bhc := bh.cell
        have bec := be.cell
        obtain ⟨U, hU⟩ : ∃ U, U = ((W.drew.setCell ⟨pl, k * 3, none⟩ (.int .i64 ag)).setCell ⟨pl, k * 3 + 1, none⟩ (.bool true)).setCell ⟨pl, k * 3 + 2, none⟩ (.int .i64 x) := ⟨_, rfl⟩
        have hgd : W.grownBy W.drew none := ⟨rfl, rfl, rfl, Nat.le_refl _, fun _ _ _ => rfl⟩
        have hpU : IsPool U pp pl (L.set k ⟨ag, true, x⟩) := by
          rw [hU]; exact (hp.grown hgd (by simp) (by simp)).set3 hk ⟨ag, true, x⟩ ⟨hok0, hok1, fun _ => ha⟩
        have hgU : w.grownBy U (some pl) := by rw [hU]; exact G.set (G.set (G.set (G.below (below_grown hB _) (Below.refl _ _).drew) _ _) _ _) _ _
        have bhU : Boxed U (S0 + 1) 36 (.int .i64 0) := by
          rw [hU]; exact box_far (box_far (box_far (bh.kept hgd (by simp)) (by show S0 + 1 ≠ pl; omega) _) (by show S0 + 1 ≠ pl; omega) _) (by show S0 + 1 ≠ pl; omega) _
        have beU : Boxed U (S0 + 1 + 1) 25 (.int .i64 0) := by
          rw [hU]; exact box_far (box_far (box_far (be.kept hgd (by simp)) (by show S0 + 1 + 1 ≠ pl; omega) _) (by show S0 + 1 + 1 ≠ pl; omega) _) (by show S0 + 1 + 1 ≠ pl; omega) _
        have hKU : KeepsOthers W U := by rw [hU]; exact (KeepsOthers.drew _).trans ((KeepsOthers.setCell _ _ _).trans ((KeepsOthers.setCell _ _ _).trans (KeepsOthers.setCell _ _ _)))
        have cU : U.cell? ⟨pl, k * 3, none⟩ = some (.int .i64 ag) := by
          have := hpU.age k (by simpa using hk)
          rw [List.getElem?_set_self hk] at this; exact this
        have chU := bhU.cell
        have ceU := beU.cell
        have fhU := bhU.frozen
        have feU := beU.frozen
        have hS1 : S0 + 1 ≠ pl := by omega
        have hS2 : S0 + 1 + 1 ≠ pl := by omega
        have d0 : W.drew.cell? ⟨pl, k * 3, none⟩ = some (.int .i64 ag) := c0
        have d1 : W.drew.cell? ⟨pl, k * 3 + 1, none⟩ = some (.bool false) := c1
        have d2 : W.drew.cell? ⟨pl, k * 3 + 2, none⟩ = some (.int .i64 px) := c2
        have HU : Hid _ := hU
        clear hU
        gi_wp2
        have hU := HU.out
        clear HU
        refine RI.region_by (fun _ => trivial) (fun γ j => match j with | 0 => .pointer (some ⟨pl, k * 3, none⟩) | 1 => .pointer (some ⟨pl, k * 3, none⟩) | 2 => .pointer (some ⟨pl, k * 3, none⟩) | 3 => .pointer (some ⟨pl, k * 3, none⟩) | 4 => .int .i64 ag | 5 => .int .i64 x | 6 => .tuple #[] | _ => undef) (fun _ L w => (L 6 = false ∧ w = W.drew) ∨ (L 6 = true ∧ w = U)) (by kernel_rfl) (by kernel_rfl) (by kernel_rfl) (by kernel_rfl) (fun _ => 0) ?_ ?_ ?_
        · exact Or.inl ⟨rfl, rfl⟩
        · generalize hD : RI.dstOf _ = D
          generalize hWA : RI.waitsFor _ = A
          generalize hZ : Act.mk _ _ = Z
          have d0 : D 0 = some 24 := by rw [← hD]; rfl
          have d1 : D 1 = some 25 := by rw [← hD]; rfl
          have d2 : D 2 = some 26 := by rw [← hD]; rfl
          have d3 : D 3 = some 27 := by rw [← hD]; rfl
          have d4 : D 4 = some 28 := by rw [← hD]; rfl
          have d5 : D 5 = some 29 := by rw [← hD]; rfl
          have d6 : D 6 = some 30 := by rw [← hD]; rfl
          have R3 : ∀ (γ : Nat → Nat) (L : Nat → Bool) (a : Act) (w : World), RI.Held D A (fun γ j => match j with | 0 => .pointer (some ⟨pl, k * 3, none⟩) | 1 => .pointer (some ⟨pl, k * 3, none⟩) | 2 => .pointer (some ⟨pl, k * 3, none⟩) | 3 => .pointer (some ⟨pl, k * 3, none⟩) | 4 => .int .i64 ag | 5 => .int .i64 x | 6 => .tuple #[] | _ => undef) (fun _ L w => (L 6 = false ∧ w = W.drew) ∨ (L 6 = true ∧ w = U)) Z γ L a w → a.tmps[3]? = some (.pointer (some ⟨S0, 0, none⟩)) := fun γ L a w hH => (hH.rest 3 (by rw [← hD]; exact RI.dst_free (by kernel_rfl))).trans (by rw [← hZ]; rfl)
          have R7 : ∀ (γ : Nat → Nat) (L : Nat → Bool) (a : Act) (w : World), RI.Held D A (fun γ j => match j with | 0 => .pointer (some ⟨pl, k * 3, none⟩) | 1 => .pointer (some ⟨pl, k * 3, none⟩) | 2 => .pointer (some ⟨pl, k * 3, none⟩) | 3 => .pointer (some ⟨pl, k * 3, none⟩) | 4 => .int .i64 ag | 5 => .int .i64 x | 6 => .tuple #[] | _ => undef) (fun _ L w => (L 6 = false ∧ w = W.drew) ∨ (L 6 = true ∧ w = U)) Z γ L a w → a.tmps[7]? = some (.pointer (some ⟨pl, k * 3, none⟩)) := fun γ L a w hH => (hH.rest 7 (by rw [← hD]; exact RI.dst_free (by kernel_rfl))).trans (by rw [← hZ]; rfl)
          have A_2_1 : A 2 1 := by rw [← hWA]; exact ⟨_, rfl, ⟨1, .data⟩, by simp, rfl, rfl⟩
          have A_3_2 : A 3 2 := by rw [← hWA]; exact ⟨_, rfl, ⟨2, .data⟩, by simp, rfl, rfl⟩
          have A_4_3 : A 4 3 := by rw [← hWA]; exact ⟨_, rfl, ⟨3, .data⟩, by simp, rfl, rfl⟩
          have A_6_0 : A 6 0 := by rw [← hWA]; exact ⟨_, rfl, ⟨0, .data⟩, by simp, rfl, rfl⟩
          have A_6_4 : A 6 4 := by rw [← hWA]; exact ⟨_, rfl, ⟨4, .data⟩, by simp, rfl, rfl⟩
          have A_6_5 : A 6 5 := by rw [← hWA]; exact ⟨_, rfl, ⟨5, .data⟩, by simp, rfl, rfl⟩
          clear hD hWA hZ
          refine RI.AllDo.cons 0 (RI.does_pure (fun _ => trivial) rfl (fun γ L w h => by rw [RI.more_ne (by omega)]; exact h) (fun γ L a w hH hl hA => by have e0 := R7 γ L a w hH; simp [execOp, go_sem, e0])) ?_
          refine RI.AllDo.cons 1 (RI.does_pure (fun _ => trivial) rfl (fun γ L w h => by rw [RI.more_ne (by omega)]; exact h) (fun γ L a w hH hl hA => by have e0 := R7 γ L a w hH; simp [execOp, go_sem, e0])) ?_
          refine RI.AllDo.cons 2 (RI.does_pure (fun _ => trivial) rfl (fun γ L w h => by rw [RI.more_ne (by omega)]; exact h) (fun γ L a w hH hl hA => by have e0 : a.tmps[25]? = some (.pointer (some ⟨pl, k * 3, none⟩)) := hH.slot 1 25 d1 (hA ⟨1, .data⟩ (by simp) rfl); simp [execOp, go_sem, e0])) ?_
          refine RI.AllDo.cons 3 (RI.does_pure (fun _ => trivial) rfl (fun γ L w h => by rw [RI.more_ne (by omega)]; exact h) (fun γ L a w hH hl hA => by have e0 : a.tmps[26]? = some (.pointer (some ⟨pl, k * 3, none⟩)) := hH.slot 2 26 d2 (hA ⟨2, .data⟩ (by simp) rfl); simp [execOp, go_sem, e0])) ?_
          refine RI.AllDo.cons 4 (RI.does_pure (fun _ => trivial) rfl (fun γ L w h => by rw [RI.more_ne (by omega)]; exact h) (fun γ L a w hH hl hA => by have e0 : a.tmps[27]? = some (.pointer (some ⟨pl, k * 3, none⟩)) := hH.slot 3 27 d3 (hA ⟨3, .data⟩ (by simp) rfl); have h6 : L 6 = false := RI.not_yet hH A_6_4 hl; have hw : w = W.drew := RI.early hH.glob h6; subst hw; simp [execOp, go_sem, e0, c0])) ?_
          refine RI.AllDo.cons 5 (RI.does_pure (fun _ => trivial) rfl (fun γ L w h => by rw [RI.more_ne (by omega)]; exact h) (fun γ L a w hH hl hA => by have e0 := R3 γ L a w hH; have h6 : L 6 = false := RI.not_yet hH A_6_5 hl; have hw : w = W.drew := RI.early hH.glob h6; subst hw; simp [execOp, go_sem, e0, bxc])) ?_
          refine RI.AllDo.cons 6 (RI.does_call (fun _ => trivial) (by omega) rfl (fun γ L a w hH hl hA => by have e0 : a.tmps[24]? = some (.pointer (some ⟨pl, k * 3, none⟩)) := hH.slot 0 24 d0 (hA ⟨0, .data⟩ (by simp) rfl); have e1 : a.tmps[28]? = some (.int .i64 ag) := hH.slot 4 28 d4 (hA ⟨4, .data⟩ (by simp) rfl); have e2 : a.tmps[29]? = some (.int .i64 x) := hH.slot 5 29 d5 (hA ⟨5, .data⟩ (by simp) rfl); have hw : w = W.drew := RI.early hH.glob hl; subst hw; exact ⟨22, #[.pointer (some ⟨pl, k * 3, none⟩), .int .i64 ag, .int .i64 x], by simp [go_sem, e0, e1, e2], (CallsIn.inRound l (callsIn_wide.2 (fill_any pl (k * 3) ag x W.drew _ _ _ c0 c1 c2 f0 f1 f2))).mono (by rintro e w2 ⟨rfl, rfl⟩; exact ⟨_, rfl, fun _ => rfl, Or.inr ⟨RI.more_self, by rw [hU]⟩⟩)⟩)) ?_
          exact RI.AllDo.nil
        · intro γ a5 w5 L9 hL hLo hH
          have ha := RI.held_act hH hL (by kernel_rfl) (by kernel_rfl)
          have hw : w5 = U := RI.late hH.glob (hL 6 (by decide))
          subst hw
          rw [ha]
          clear ha hH hL hLo hU
          simp only [RI.putAll, Act.put, List.setIfInBounds_toArray, List.set_cons_zero, List.set_cons_succ, Nat.zero_add, Nat.reduceAdd]
          gi_wp2_with (refine ⟨trivial, ?_⟩; gi_at_call 27; refine (CallsIn.inRound l (callsIn_wide.2 (handle_any (k : Int) ag _ (by omega) (by omega) hok0 hok1))).mono ?_; rintro e w' ⟨rfl, rfl⟩)
          refine ⟨(hKU.trans ((KeepsOthers.setCell _ _ _).trans (KeepsOthers.setCell _ _ _))).from _, rfl, pre, ⟨k, hk⟩, rfl, hfr, ?_, ?_, ?_, ?_, ?_⟩
          · show (at_ L k).free = true; rw [← HP.out]; simp [Pl.free]; omega
          · show IsPool _ pp pl (L.set k ⟨(at_ L k).age, true, x⟩)
            rw [← HP.out]; exact (hpU.far (by show pl ≠ S0 + 1; omega) (by show pp ≠ S0 + 1; omega) _).far (by show pl ≠ S0 + 1 + 1; omega) (by show pp ≠ S0 + 1 + 1; omega) _
          · exact G.setNew (G.setNew hgU (by show w.heap.size ≤ S0 + 1; omega) _) (by show w.heap.size ≤ S0 + 1 + 1; omega) _
          · show Boxed _ (S0 + 1) _ (.int .i64 ((at_ L k).age * 65536 + (k : Int) + 1))
            rw [← HP.out]; exact box_far (bhU.set _) (by show S0 + 1 ≠ S0 + 1 + 1; omega) _
          · exact (box_far beU (by show S0 + 1 + 1 ≠ S0 + 1; omega) _).set _
      · gi_wp2
        exact ⟨(KeepsOthers.refl _).from _, Keep.refl _ _, fun j hj => (by
          rcases List.mem_append.1 hj with h | h
          · exact hfr j h
          · simp only [List.mem_singleton] at h; subst h; show (at_ L k).free = false; rw [← HP.out]; simp [Pl.free]; omega), hB, bx, bh, be⟩
  case done =>
    rintro D ys W hD rfl ⟨hfr, hB, bx, bh, be⟩ hK
    have chU := bh.cell
    have ceU := be.cell
    have fhU := bh.frozen
    have feU := be.frozen
    have hall : ∀ j, j < L.length → (at_ L j).free = false := fun j hj => hfr ⟨j, hj⟩ ((mem_ups _ (Nat.le_refl _)).2 hj)
    have HA : Hid _ := hall
    clear hall
    gi_wp2
    obtain ⟨W2, hW2⟩ : ∃ W2, W2 = (W.setCell ⟨S0 + 1, 0, none⟩ (.int .i64 0)).setCell ⟨S0 + 1 + 1, 0, none⟩ (.int .i64 30) := ⟨_, rfl⟩
    rw [← hW2]
    have bh2 : Boxed W2 (S0 + 1) 36 (.int .i64 0) := by rw [hW2]; exact box_far (bh.set _) (by show S0 + 1 ≠ S0 + 1 + 1; omega) _
    have be2 : Boxed W2 (S0 + 1 + 1) 25 (.int .i64 30) := by rw [hW2]; exact (box_far be (by show S0 + 1 + 1 ≠ S0 + 1; omega) _).set _
    have hK2 : W2.heap[D]? = some (.deferred (some [])) := by rw [hW2]; exact ((KeepsOthers.setCell _ _ _).trans (KeepsOthers.setCell _ _ _)).same D _ hK rfl
    have hp2 : IsPool W2 pp pl L := by
      rw [hW2]; exact ((h.below hB).far (by show pl ≠ S0 + 1; omega) (by show pp ≠ S0 + 1; omega) _).far (by show pl ≠ S0 + 1 + 1; omega) (by show pp ≠ S0 + 1 + 1; omega) _
    have hg2 : w.grownBy W2 (some pl) := by
      rw [hW2]; exact G.setNew (G.setNew (below_grown hB _) (by show w.heap.size ≤ S0 + 1; omega) _) (by show w.heap.size ≤ S0 + 1 + 1; omega) _
    have hDl : D < W2.heap.size := (Array.getElem?_eq_some_iff.1 hK2).1
    have hgp := grownBy_putObj' W2 D (.deferred none)
    have ch3 := (bh2.kept hgp (by simp; omega)).cell
    have ce3 := (be2.kept hgp (by simp; omega)).cell
    refine ⟨by simp, .inl ⟨_, _, rfl, run_takeDeferred hK2, ?_⟩⟩
    refine ⟨.tuple #[.int .i64 0, .int .i64 30], by simp [results, Try.results17, go_sem, ch3, ce3], Or.inr ⟨HA.out, rfl, hp2.grown hgp (by simp; omega) (by simp; omega), G.putNew hg2 (by omega) hDl _⟩⟩
  case stop =>
    rintro D c pre W hD ⟨m, hm, hpre⟩ ⟨rfl, pre', k, hk, hfr, hfree, hp, hg, bh, be⟩ hK
    have hgp := grownBy_putObj' W D (.deferred none)
    have hDl : D < W.heap.size := (Array.getElem?_eq_some_iff.1 hK).1
    have ch3 := (bh.kept hgp (by simp; omega)).cell
    have ce3 := (be.kept hgp (by simp; omega)).cell
    have hlow : ∀ j, j < k.val → (at_ L j).free = false := by
      cases m with
      | zero => rw [ups_zero] at hpre; rw [hpre] at hk; simp at hk
      | succ m =>
        rw [hpre, ups_succ (by omega)] at hk
        obtain ⟨e1, e2⟩ := List.append_inj' hk rfl
        simp only [List.cons.injEq, and_true] at e2
        subst e2
        intro j hj
        have hj' : j < m := hj
        exact hfr ⟨j, by omega⟩ (by rw [← e1]; exact (mem_ups _ (by omega)).2 hj')
    have HLo : Hid _ := hlow
    have HF : Hid _ := hfree
    clear hlow hfree hfr hk hpre
    gi_wp2
    refine ⟨by simp, .inl ⟨_, _, rfl, run_takeDeferred hK, ?_⟩⟩
    refine ⟨.tuple #[.int .i64 ((at_ L k.val).age * 65536 + (k.val : Int) + 1), .int .i64 0], by simp [results, Try.results17, go_sem, ch3, ce3], Or.inl ⟨k.val, k.isLt, HF.out, HLo.out, rfl, hp.grown hgp (by simp; omega) (by simp; omega), G.putNew hg (by omega) hDl _⟩⟩
end Go.Proofs.Ytoocenbmggfodaa
