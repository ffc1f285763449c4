/- Package pose: directions, and the box around a core. -/
import Derived.Test.YtocdompopadanaaGreatKPsG
namespace Go.Proofs.YtocdompopadanaaGreat
open Go.RowKit Go.Shelf
attribute [local go_sem] Oper.semAt_some
set_option linter.unusedVariables false

set_option maxRecDepth 100000 in
set_option maxHeartbeats 8000000 in
theorem directions_any (fb : Nat) (f : Bool) (m : M9) (t : Pt) (Ls : List Pt) (v : Value) (w : World) (hF : Cells w fb (frL f m t)) (hv : Lies w v Ls) (hne : ∀ q n c, v = .slice (some q) n c → Ls ≠ [] → q.block ≠ fb) (hN : Ls.length < 1099511627776) :
    Calls Tryz.prog 28 #[.pointer (some ⟨fb, 0, none⟩), v] w fun e W => ∃ u, e = .returned u ∧ W.ownsRow w.heap.size 31 3 u (m.dirs Ls).length (fl3 (m.dirs Ls)) ∧ w.grownBy W (some fb) ∧ Cells W fb (frL (f || Ls.any m.dirB) m t) := by
  obtain ⟨o, cap, rfl, hlc, hcm, hcell⟩ := hv.form
  have HV : Hid _ := hv
  have hlt := hF.lt
  clear hv hcell
  refine (callsIn_wide (n := 9)).1 ?_
  have h1 : 1 ≤ 9 := by omega
  obtain ⟨i0, hii, hiz, hisz, hib⟩ := info_parts point_info
  have HI : Hid _ := And.intro hii (And.intro hiz (And.intro hisz hib))
  clear hii hiz hisz hib
  refine callsIn_of_wp_marks Tryz.func28 rfl trivial ?_ rfl
  simp only [Tryz.ntmps28, List.size_toArray, List.length_cons, List.length_nil, Nat.reduceAdd, Nat.reduceSub, Array.replicate_succ, Array.replicate_zero, List.push_toArray, List.append_toArray, List.nil_append, List.cons_append]
  gi_wp2_with (refine ⟨trivial, ?_⟩; gi_at_call 26; refine (callsIn_wide.2 (each_in_pt _ _ _ _ _ _ _)).mono ?_; rintro e w' ⟨rfl, rfl⟩)
  obtain ⟨S0, hS0⟩ : ∃ n, n = w.heap.size := ⟨_, rfl⟩
  obtain ⟨W0, hW0⟩ : ∃ W0, W0 = ((w.alloc (.cells #[.slice none 0 0] 22)).alloc (.cells #[.slice o Ls.length cap] 22)).alloc (.cells #[.func (.func 63) #[.pointer (some ⟨fb, 0, none⟩)] #[]] 63) := ⟨_, rfl⟩
  have hsz : W0.heap.size = S0 + 3 := by rw [hW0, hS0]; simp
  have hB0 : Hid (Below w.heap.size w W0) := by show Below _ _ _; rw [hW0]; exact b_step (b_step (n_after _ _) (n_after _ _)) (n_after _ _)
  have bx0 : Boxed W0 S0 22 (.slice none 0 0) := by rw [hW0, hS0]; exact ((Boxed.new w _ _).alloc _).alloc _
  have cp : W0.cell? ⟨S0 + 1, 0, none⟩ = some (.slice o Ls.length cap) := by rw [hW0, hS0]; simp [go_sem]
  have cf : W0.cell? ⟨S0 + 1 + 1, 0, none⟩ = some (.func (.func 63) #[.pointer (some ⟨fb, 0, none⟩)] #[]) := by rw [hW0, hS0]; simp [go_sem]
  rw [← hW0, ← hS0]
  have hSl : w.heap.size = S0 := hS0.symm
  clear hW0 hS0
  have HV0 : Hid _ := HV.out.below hB0.out
  have hF0 := hF.step hB0.out
  have hblk : Hid (∀ q, o = some q → Ls ≠ [] → q.block < w.heap.size) := fun q e hne => by
    obtain ⟨o', c', e', _, _, h9⟩ := HV.out.form
    cases e'
    obtain ⟨g, off, e2, x0, _⟩ := h9 0 (List.length_pos_iff.2 hne)
    rw [e] at e2; cases e2
    exact World.block_lt_of_cell? _ _ x0
  refine' range_n h1 (gf := 60) (lb := #[.pointer (some ⟨S0 + 1, 0, none⟩), .pointer (some ⟨S0 + 1 + 1, 0, none⟩)]) rfl (enters_of Tryz.func60 (by kernel_rfl) rfl)
    (row := some fb) (S := fun b => b < W0.heap.size ∧ b ≠ S0) (St := fun k V => Cells V fb (frL (f || anyK (fun k => m.dirB (pt Ls k)) k) m t))
    (each_tells_pt (9 - 1) (S0 + 1) (S0 + 1 + 1) Ls o cap 63 #[.pointer (some ⟨fb, 0, none⟩)] #[] (fun k => (m.dirV (pt Ls k)).v) (some fb) (fun b => b < W0.heap.size ∧ b ≠ S0) (fun k V => Cells V fb (frL (f || anyK (fun k => m.dirB (pt Ls k)) k) m t)) W0
      (enters_of Tryz.func63 (by kernel_rfl) rfl) HV0.out cp cf ?blk ⟨⟨by omega, by omega⟩, fun e => by simp at e; omega⟩ (fun _ h => h.1)
      (fun W hb => by simpa [anyK] using hF0.step hb) (fun k A B hs hk => Cells.keepO hs hk ⟨by show fb < _; omega, by show fb ≠ _; omega⟩)
      (fun k V hk hs => (direction_any fb _ m t (pt Ls k) V hs).mono fun e V' h => ⟨h.1, after_grown h.2.out, by have h9 := Cells.after hs h.2.out; rw [Bool.or_assoc] at h9; exact h9⟩))
    (fun _ h => h.1) (fun r e => by cases e; omega) ?st (fun _ => rfl)
    (fun k V => ∃ u, OutP w V W0.heap.size (some fb) S0 u (dirsK (fun k => m.dirV (pt Ls k)) k)) (fun _ _ _ => False)
    (fun k A B r2 hs hg hr => hs.elim fun u h => ⟨u, h.kept (by omega) hg hr⟩) (fun _ _ _ _ _ hs _ _ => hs)
    (fun k A B hs hg => hs.elim fun u h => ⟨u, h.turn hg (fun r e => by cases e; exact hlt)⟩) ⟨_, bx0, World.ownsRow_nil _ _ _ _, below_grown hB0.out _, by omega, by omega, Nat.le_refl _⟩ _ (fun k => some (.cells #[.int .i64 (m.dirV (pt Ls k)).x, .int .i64 (m.dirV (pt Ls k)).y, .int .i64 (m.dirV (pt Ls k)).z] 31)) ?assign ?body ?done ?stop
  case blk => exact fun q e hne' => ⟨⟨by have := hblk.out q e hne'; omega, by have := hblk.out q e hne'; omega⟩, fun e9 => hne q _ _ (by rw [e]) hne' (by simpa using e9)⟩
  case st => exact fun k A B r2 hs hg hr => Cells.grew hs hg (fun r e => by have := (hr r e).1; omega)
  case assign =>
    intro l k W nb K hk hnb hK
    unfold Pt.v
    gi_wp2
    rw [← hnb]
    exact hK
  case body =>
    rintro l k V nb hk ⟨u, hO⟩ hnb hob
    have hob := hob _ rfl
    have hlp : (dirsK (fun k => m.dirV (pt Ls k)) k).length < 1099511627776 := by have := dirsK_length (fun k => m.dirV (pt Ls k)) k; omega
    have b0 : V.cell? ⟨nb, 0, none⟩ = some (.int .i64 (m.dirV (pt Ls k)).x) := by simp [World.cell?, hob]
    have b1 : V.cell? ⟨nb, 1, none⟩ = some (.int .i64 (m.dirV (pt Ls k)).y) := by simp [World.cell?, hob]
    have b2 : V.cell? ⟨nb, 2, none⟩ = some (.int .i64 (m.dirV (pt Ls k)).z) := by simp [World.cell?, hob]
    have hc := hO.box.cell
    have hSV : S0 < V.heap.size := hO.box.lt
    have hwV : W0.heap.size ≤ V.heap.size := hO.sz
    obtain ⟨oo, cc, hu⟩ := rowp_form hO.own
    subst hu
    have HO : Hid _ := hO
    clear hO hob
    by_cases hz : m.dirV (pt Ls k) = Pt.O
    · have HPA : Hid (dirsK (fun k => m.dirV (pt Ls k)) (k + 1) = dirsK (fun k => m.dirV (pt Ls k)) k) := dirsK_no _ _ hz
      rw [hz] at b0 b1 b2 ⊢
      simp only [Pt.O] at b0 b1 b2 ⊢
      clear hz
      gi_wp2
      exact ⟨KeepsFrom.refl _ _, KeepO.refl _ _, _, by rw [HPA.out]; exact HO.out⟩
    · have HPA : Hid (dirsK (fun k => m.dirV (pt Ls k)) (k + 1) = dirsK (fun k => m.dirV (pt Ls k)) k ++ [⟨(m.dirV (pt Ls k)).x, (m.dirV (pt Ls k)).y, (m.dirV (pt Ls k)).z⟩]) := dirsK_yes _ _ hz
      have hz3 : (m.dirV (pt Ls k)).x = 0 → (m.dirV (pt Ls k)).y = 0 → (m.dirV (pt Ls k)).z ≠ 0 := fun a b c => hz (by cases hp : m.dirV (pt Ls k); rw [hp] at a b c; simp only [Pt.O] at *; simp [a, b, c])
      clear hz
      generalize (m.dirV (pt Ls k)).x = px at *
      generalize (m.dirV (pt Ls k)).y = py at *
      generalize (m.dirV (pt Ls k)).z = pz at *
      by_cases hx : px = 0
      · subst hx
        by_cases hy : py = 0
        · subst hy
          have hzz : pz ≠ 0 := hz3 rfl rfl
          clear hz3
          gi_wp2_with (gi_at_builtin; refine wpListIn_append_own _ rfl _ _ 22 rfl W0.heap.size 31 i0 _ 3 24 Tryz.underlying22 HI.out.1 HI.out.2.1 HI.out.2.2.1 HI.out.2.2.2 rfl (by decide) _ _ _ rfl (HO.out.alloc (.cells #[.int .i64 0, .int .i64 0, .int .i64 pz] 31)).own ⟨V.heap.size, 0, none⟩ 1 1 [.int .i64 0, .int .i64 0, .int .i64 pz] rfl rfl (news_at (heap_alloc_new V _)) (by intro u hu; simp at hu; rcases hu with rfl | rfl | rfl <;> rfl) (by unfold maxLen; omega) (by omega) (by simp; omega) ?_; intro u' V2 r8 g8 _; obtain ⟨gg8, kk8, rfl⟩ := ownsRow_succ r8; obtain ⟨hO2, hbx2⟩ := (HO.out.alloc (.cells #[.int .i64 0, .int .i64 0, .int .i64 pz] 31)).app (p := ⟨0, 0, pz⟩) r8 g8; have q1 := hbx2.cell; have q2 := hbx2.frozen)
          rw [← HPA.out] at hO2
          exact ⟨((KeepsOthers.alloc V _).from _).trans ((HO.out.alloc _).keepsFrom g8 _), (KeepO.alloc _ V _).trans ((HO.out.alloc _).keep g8 (fun b hb => ⟨hb.2, hb.1⟩)), _, hO2⟩
        · clear hz3
          gi_wp2_with (gi_at_builtin; refine wpListIn_append_own _ rfl _ _ 22 rfl W0.heap.size 31 i0 _ 3 24 Tryz.underlying22 HI.out.1 HI.out.2.1 HI.out.2.2.1 HI.out.2.2.2 rfl (by decide) _ _ _ rfl (HO.out.alloc (.cells #[.int .i64 0, .int .i64 py, .int .i64 pz] 31)).own ⟨V.heap.size, 0, none⟩ 1 1 [.int .i64 0, .int .i64 py, .int .i64 pz] rfl rfl (news_at (heap_alloc_new V _)) (by intro u hu; simp at hu; rcases hu with rfl | rfl | rfl <;> rfl) (by unfold maxLen; omega) (by omega) (by simp; omega) ?_; intro u' V2 r8 g8 _; obtain ⟨gg8, kk8, rfl⟩ := ownsRow_succ r8; obtain ⟨hO2, hbx2⟩ := (HO.out.alloc (.cells #[.int .i64 0, .int .i64 py, .int .i64 pz] 31)).app (p := ⟨0, py, pz⟩) r8 g8; have q1 := hbx2.cell; have q2 := hbx2.frozen)
          rw [← HPA.out] at hO2
          exact ⟨((KeepsOthers.alloc V _).from _).trans ((HO.out.alloc _).keepsFrom g8 _), (KeepO.alloc _ V _).trans ((HO.out.alloc _).keep g8 (fun b hb => ⟨hb.2, hb.1⟩)), _, hO2⟩
      · clear hz3
        gi_wp2_with (gi_at_builtin; refine wpListIn_append_own _ rfl _ _ 22 rfl W0.heap.size 31 i0 _ 3 24 Tryz.underlying22 HI.out.1 HI.out.2.1 HI.out.2.2.1 HI.out.2.2.2 rfl (by decide) _ _ _ rfl (HO.out.alloc (.cells #[.int .i64 px, .int .i64 py, .int .i64 pz] 31)).own ⟨V.heap.size, 0, none⟩ 1 1 [.int .i64 px, .int .i64 py, .int .i64 pz] rfl rfl (news_at (heap_alloc_new V _)) (by intro u hu; simp at hu; rcases hu with rfl | rfl | rfl <;> rfl) (by unfold maxLen; omega) (by omega) (by simp; omega) ?_; intro u' V2 r8 g8 _; obtain ⟨gg8, kk8, rfl⟩ := ownsRow_succ r8; obtain ⟨hO2, hbx2⟩ := (HO.out.alloc (.cells #[.int .i64 px, .int .i64 py, .int .i64 pz] 31)).app (p := ⟨px, py, pz⟩) r8 g8; have q1 := hbx2.cell; have q2 := hbx2.frozen)
        rw [← HPA.out] at hO2
        exact ⟨((KeepsOthers.alloc V _).from _).trans ((HO.out.alloc _).keepsFrom g8 _), (KeepO.alloc _ V _).trans ((HO.out.alloc _).keep g8 (fun b hb => ⟨hb.2, hb.1⟩)), _, hO2⟩
  case done =>
    rintro D V hD ⟨u, hO⟩ hs hK
    have hc := hO.box.cell
    gi_wp2
    refine ⟨by simp, .inl ⟨_, _, rfl, run_takeDeferred hK, ?_⟩⟩
    have hO2 := hO.kept (n2 := w.heap.size) (Nat.le_refl _) (grownBy_putObj' V D (.deferred none)) (fun r e => by cases e; exact ⟨by omega, _, hK, rfl⟩)
    have hr2 := own_le hO2.own hO2.ln
    have e9 : dirsK (fun k => m.dirV (pt Ls k)) Ls.length = m.dirs Ls := by unfold dirsK M9.dirs; rw [firsts_map]
    rw [e9] at hr2
    rw [anyK_any] at hs
    exact ⟨_, results_tmp rfl _ _ _, u, rfl, hr2, hO2.grown, Cells.grew hs (grownBy_putObj' V D (.deferred none)) (fun r e => by cases e; omega)⟩
  case stop =>
    rintro D c k V _ _ h _
    exact h.elim
end Go.Proofs.YtocdompopadanaaGreat
/- Package pose: the box around a core; whether a core can be placed. -/
namespace Go.Proofs.YtocdompopadanaaGreat
open Go.RowKit Go.Shelf
attribute [local go_sem] Oper.semAt_some
set_option linter.unusedVariables false

def Bx.l (b : Bx) : List Value := [.int .i64 b.lo.x, .int .i64 b.lo.y, .int .i64 b.lo.z, .int .i64 b.hi.x, .int .i64 b.hi.y, .int .i64 b.hi.z]
set_option maxHeartbeats 1000000 in
theorem around_any (p : Pt) (w : World) :
    Calls Tryz.prog 40 #[p.v] w fun e W => e = .returned (Bx.v ⟨p, p⟩) ∧ Below w.heap.size w W := by
  obtain ⟨x, y, z⟩ := p
  unfold Pt.v Bx.v
  dsimp only at *
  go_enter Tryz.func40, Tryz.ntmps40
  go_wp2
  refine bodyPost_ret (v := .agg #[.int .i64 x, .int .i64 y, .int .i64 z, .int .i64 x, .int .i64 y, .int .i64 z]) (by simp [results, Tryz.results40, go_sem]) rfl ⟨rfl, ?_⟩
  exact b_step (n_after w _) (n_after _ _)

/-- The box around a list's first k points, and its first one. -/
def spanK (P : List Pt) : Nat → Bx
  | 0 => ⟨pt P 0, pt P 0⟩
  | k + 1 => (spanK P k).join ⟨pt P k, pt P k⟩
def spanP (P : List Pt) (r : Int) : Bx := if P = [] then ⟨Pt.O, Pt.O⟩ else (spanK P P.length).grown r
def coreV (pv av ev : Value) (r : Int) : Value := .agg #[pv, av, ev, .int .i64 r]
def set6 (W : World) (b : Nat) (q : Bx) : World := (((((W.setCell ⟨b, 0, none⟩ (.int .i64 q.lo.x)).setCell ⟨b, 1, none⟩ (.int .i64 q.lo.y)).setCell ⟨b, 2, none⟩ (.int .i64 q.lo.z)).setCell ⟨b, 3, none⟩ (.int .i64 q.hi.x)).setCell ⟨b, 4, none⟩ (.int .i64 q.hi.y)).setCell ⟨b, 5, none⟩ (.int .i64 q.hi.z)
theorem set6_cells {W : World} {b : Nat} {q : Bx} (h : Cells W b q.l) (r : Bx) : Cells (set6 W b r) b r.l := Cells.set6 h _ _ _ _ _ _
theorem set6_apart {W : World} {b b' : Nat} {vs : List Value} (h : Cells W b vs) (hne : b ≠ b') (r : Bx) : Cells (set6 W b' r) b vs := ((((((h.apart hne _ _).apart hne _ _).apart hne _ _).apart hne _ _).apart hne _ _).apart hne _ _)
theorem set6_below {n : Nat} {w W : World} {b : Nat} (h : Below n w W) (hb : n ≤ b) (r : Bx) : Below n w (set6 W b r) := (((((h.setCell hb _).setCell hb _).setCell hb _).setCell hb _).setCell hb _).setCell hb _
theorem set6_keeps (W : World) (b n : Nat) (r : Bx) : KeepsFrom n W (set6 W b r) := (((((((KeepsOthers.setCell W _ _).from n).trans ((KeepsOthers.setCell _ _ _).from n)).trans ((KeepsOthers.setCell _ _ _).from n)).trans ((KeepsOthers.setCell _ _ _).from n)).trans ((KeepsOthers.setCell _ _ _).from n)).trans ((KeepsOthers.setCell _ _ _).from n))
theorem set1_keepO {S : Nat → Prop} (W : World) (b o : Nat) (v : Value) (hb : ¬ S b) : KeepO S W (W.setCell ⟨b, o, none⟩ v) := ⟨by simp [World.setCell], fun k hk _ => Below.heap_setCell _ _ _ k (fun e => hb (by rw [show b = k from e.symm]; exact hk))⟩
theorem set6_keepO {S : Nat → Prop} (W : World) (b : Nat) (r : Bx) (hb : ¬ S b) : KeepO S W (set6 W b r) := (((((set1_keepO W b 0 _ hb).trans (set1_keepO _ b 1 _ hb)).trans (set1_keepO _ b 2 _ hb)).trans (set1_keepO _ b 3 _ hb)).trans (set1_keepO _ b 4 _ hb)).trans (set1_keepO _ b 5 _ hb)

set_option maxRecDepth 100000 in
set_option maxHeartbeats 8000000 in
theorem span_any (P A E : List Pt) (r : Int) (pv av ev : Value) (w : World) (hp : Lies w pv P) (ha : Lies w av A) (he : Lies w ev E) :
    Calls Tryz.prog 14 #[coreV pv av ev r] w fun e W => e = .returned (spanP P r).v ∧ Below w.heap.size w W := by
  obtain ⟨o, cap, rfl, hlc, hcm, hcell⟩ := hp.form
  obtain ⟨oa, ca, rfl, _⟩ := ha.form
  obtain ⟨oe, ce, rfl, _⟩ := he.form
  have HV : Hid _ := hp
  clear hp ha he
  unfold coreV
  by_cases h0 : P = []
  · subst h0
    have e9 : spanP [] r = ⟨Pt.O, Pt.O⟩ := by simp [spanP]
    rw [e9]
    unfold Bx.v Pt.O
    dsimp only
    clear hcell
    refine (callsIn_wide (n := 9)).1 ?_
    refine callsIn_of_wp_marks Tryz.func14 rfl trivial ?_ rfl
    simp only [Tryz.ntmps14, List.size_toArray, List.length_cons, List.length_nil, Nat.reduceAdd, Nat.reduceSub, Array.replicate_succ, Array.replicate_zero, List.push_toArray, List.append_toArray, List.nil_append, List.cons_append]
    gi_wp2
    exact ⟨.agg #[.int .i64 0, .int .i64 0, .int .i64 0, .int .i64 0, .int .i64 0, .int .i64 0], by simp [results, Tryz.results14, go_sem], rfl, b_step (n_after _ _) (n_after _ _)⟩
  · have hlen : 0 < P.length := List.length_pos_iff.2 h0
    obtain ⟨g, off, rfl, x0, x1, x2⟩ := hcell 0 hlen
    have e9 : spanP P r = (spanK P P.length).grown r := by simp [spanP, h0]
    rw [e9]
    have HAR : Hid _ := fun w' => around_any (pt P 0) w'
    have HG : Hid _ := fun w' => grown_any (spanK P P.length) r w'
    simp only [Nat.zero_mul, Nat.add_zero] at x0 x1 x2
    have gx0 : Hid _ := x0
    have HJ : Hid _ := fun (k : Nat) (w' : World) => join_any (spanK P k) ⟨pt P k, pt P k⟩ w'
    have e8 : spanK P 0 = ⟨pt P 0, pt P 0⟩ := rfl
    rw [← e8] at HAR
    unfold Pt.v at HAR
    refine (callsIn_wide (n := 9)).1 ?_
    have h1 : 1 ≤ 9 := by omega
    refine callsIn_of_wp_marks Tryz.func14 rfl trivial ?_ rfl
    simp only [Tryz.ntmps14, List.size_toArray, List.length_cons, List.length_nil, Nat.reduceAdd, Nat.reduceSub, Array.replicate_succ, Array.replicate_zero, List.push_toArray, List.append_toArray, List.nil_append, List.cons_append]
    obtain ⟨V, hV⟩ : ∃ V, V = (w.alloc (.cells #[.slice (some ⟨g, off, none⟩) P.length cap, .slice oa A.length ca, .slice oe E.length ce, .int .i64 r] 24)).alloc (.cells #[.int .i64 0, .int .i64 0, .int .i64 0, .int .i64 0, .int .i64 0, .int .i64 0] 39) := ⟨_, rfl⟩
    have hBV : Hid (Below w.heap.size w V) := by show Below _ _ _; rw [hV]; exact b_step (n_after _ _) (n_after _ _)
    have C1 : Hid (Cells V w.heap.size [.slice (some ⟨g, off, none⟩) P.length cap, .slice oa A.length ca, .slice oe E.length ce, .int .i64 r]) := by show Cells _ _ _; rw [hV]; exact (Cells.new w _ _).step (n_after _ _)
    have C2 : Hid (Cells V (w.heap.size + 1) (Bx.l ⟨Pt.O, Pt.O⟩)) := by show Cells _ _ _; rw [hV]; have := Cells.new (w.alloc (.cells #[.slice (some ⟨g, off, none⟩) P.length cap, .slice oa A.length ca, .slice oe E.length ce, .int .i64 r] 24)) (Bx.l ⟨Pt.O, Pt.O⟩) 39; rwa [World.size_alloc] at this
    have y0 := c_after hBV.out x0
    have y1 := c_after hBV.out x1
    have y2 := c_after hBV.out x2
    rw [hV] at y0 y1 y2
    clear x0 x1 x2 e9
    gi_wp2
    rw [← hV]
    refine ⟨trivial, ?_⟩
    gi_at_call 40
    refine (callsIn_wide.2 (HAR.out _)).mono ?_
    rintro e V1 ⟨rfl, hb⟩
    have hB1 : Hid _ := b_step hBV.out hb
    have D1 : Hid _ := C1.out.step hb
    have D2 : Hid _ := C2.out.step hb
    clear hV y0 y1 y2 C1 C2 hb hBV HAR
    have s0 := (D1.out 0 _ rfl).1
    have l1 : w.heap.size < V1.heap.size := Cells.lt D1.out
    have l2 : w.heap.size + 1 < V1.heap.size := Cells.lt D2.out
    clear e8
    obtain ⟨q0, hq0⟩ : ∃ q, q = spanK P 0 := ⟨_, rfl⟩
    rw [← hq0]
    have Hq0 : Hid _ := hq0
    clear hq0
    unfold Bx.v
    gi_wp2_with (refine ⟨trivial, ?_⟩; gi_at_call 41; refine (callsIn_wide.2 (each_in_box _ _ _ _ _ _ _)).mono ?_; rintro e w' ⟨rfl, rfl⟩)
    obtain ⟨bb, hbb⟩ : ∃ n, n = V1.heap.size := ⟨_, rfl⟩
    obtain ⟨W0, hW0⟩ : ∃ W0, W0 = ((V1.alloc (.cells #[.int .i64 q0.lo.x, .int .i64 q0.lo.y, .int .i64 q0.lo.z, .int .i64 q0.hi.x, .int .i64 q0.hi.y, .int .i64 q0.hi.z] 39)).alloc (.cells #[.slice (some ⟨g, off, none⟩) P.length cap] 22)).alloc (.cells #[.func (.func 40) #[] #[]] 83) := ⟨_, rfl⟩
    have hsz : W0.heap.size = bb + 3 := by rw [hW0, hbb]; simp
    have b9 : Below V1.heap.size V1 W0 := by rw [hW0]; exact b_step (b_step (n_after _ _) (n_after _ _)) (n_after _ _)
    have cb : Cells W0 bb q0.l := by rw [hW0, hbb]; exact ((Cells.new V1 q0.l _).step (n_after _ _)).step (n_after _ _)
    have cp : W0.cell? ⟨bb + 1, 0, none⟩ = some (.slice (some ⟨g, off, none⟩) P.length cap) := by rw [hW0, hbb]; simp [go_sem]
    have cf : W0.cell? ⟨bb + 1 + 1, 0, none⟩ = some (.func (.func 40) #[] #[]) := by rw [hW0, hbb]; simp [go_sem]
    rw [← hW0, ← hbb]
    have hB0 : Hid _ := b_step hB1.out b9
    have E1 : Hid _ := Cells.step D1.out b9
    have E2 : Hid _ := Cells.step D2.out b9
    have HV0 : Hid _ := HV.out.below hB0.out
    have l3 : w.heap.size + 1 < bb := by omega
    have hgb : g < w.heap.size := World.block_lt_of_cell? _ _ gx0.out
    clear hW0 hbb b9 D1 D2 hB1 s0 l1 l2
    rw [Hq0.out] at cb
    refine' range_n h1 (gf := 74) (lb := #[.pointer (some ⟨bb + 1, 0, none⟩), .pointer (some ⟨bb + 1 + 1, 0, none⟩)]) rfl (enters_of Tryz.func74 (by kernel_rfl) rfl)
      (row := none) (S := fun b => b < W0.heap.size ∧ b ≠ bb) (St := fun _ _ => True)
      (each_tells_box (9 - 1) (bb + 1) (bb + 1 + 1) P _ cap 40 #[] #[] (fun k => Bx.v ⟨pt P k, pt P k⟩) none (fun b => b < W0.heap.size ∧ b ≠ bb) (fun _ _ => True) W0
        (enters_of Tryz.func40 (by kernel_rfl) rfl) HV0.out cp cf (fun q e _ => by cases e; exact ⟨⟨by show g < _; omega, by show g ≠ _; omega⟩, by simp⟩) ⟨⟨by omega, by omega⟩, by simp⟩ (fun _ h => h.1)
        (fun _ _ => trivial) (fun _ _ _ _ _ => trivial)
        (fun k V hk hs => (around_any (pt P k) V).mono fun e V' h => ⟨h.1, below_grown h.2 none, trivial⟩))
      (fun _ h => h.1) (fun r e => by cases e) (fun _ _ _ _ _ _ _ => trivial) (fun _ => rfl)
      (fun k V => Below w.heap.size w V ∧ Cells V bb (spanK P k).l ∧ Cells V w.heap.size [.slice (some ⟨g, off, none⟩) P.length cap, .slice oa A.length ca, .slice oe E.length ce, .int .i64 r] ∧ Cells V (w.heap.size + 1) (Bx.l ⟨Pt.O, Pt.O⟩)) (fun _ _ _ => False)
      (fun k X Y r2 hs hg hr => ⟨gbelow hs.1 hg (fun r e => (hr r e).1) (by omega), hs.2.1.grew hg (fun r e => by have := (hr r e).1; omega), hs.2.2.1.grew hg (fun r e => by have := (hr r e).1; omega), hs.2.2.2.grew hg (fun r e => by have := (hr r e).1; omega)⟩) (fun _ _ _ _ _ hs _ _ => hs)
      (fun k X Y hs hg => ⟨gbelow (n := W0.heap.size) hs.1 hg (fun r e => by cases e) (by omega), hs.2.1.grew hg (fun r e => by cases e), hs.2.2.1.grew hg (fun r e => by cases e), hs.2.2.2.grew hg (fun r e => by cases e)⟩) ⟨hB0.out, cb, E1.out, E2.out⟩ _ (fun k => some (.cells #[.int .i64 (pt P k).x, .int .i64 (pt P k).y, .int .i64 (pt P k).z, .int .i64 (pt P k).x, .int .i64 (pt P k).y, .int .i64 (pt P k).z] 39)) ?assign ?body ?done ?stop
    case assign =>
      intro l k W nb K hk hnb hK
      unfold Bx.v
      gi_wp2
      rw [← hnb]
      exact hK
    case body =>
      rintro l k V nb hk ⟨hB, hb9, hc1, hc2⟩ hnb hob
      have hob := hob _ rfl
      have HJk : Hid _ := HJ.out k
      have HK : Hid (spanK P (k + 1) = (spanK P k).join ⟨pt P k, pt P k⟩) := rfl
      obtain ⟨q2, hq2⟩ : ∃ q, (spanK P k).join ⟨pt P k, pt P k⟩ = q := ⟨_, rfl⟩
      rw [hq2] at HJk HK
      clear hq2
      obtain ⟨q1, hq1⟩ : ∃ q, spanK P k = q := ⟨_, rfl⟩
      rw [hq1] at HJk hb9
      clear hq1
      have v0 : V.cell? ⟨nb, 0, none⟩ = some (.int .i64 (pt P k).x) := by simp [World.cell?, hob]
      have v1 : V.cell? ⟨nb, 1, none⟩ = some (.int .i64 (pt P k).y) := by simp [World.cell?, hob]
      have v2 : V.cell? ⟨nb, 2, none⟩ = some (.int .i64 (pt P k).z) := by simp [World.cell?, hob]
      have v3 : V.cell? ⟨nb, 3, none⟩ = some (.int .i64 (pt P k).x) := by simp [World.cell?, hob]
      have v4 : V.cell? ⟨nb, 4, none⟩ = some (.int .i64 (pt P k).y) := by simp [World.cell?, hob]
      have v5 : V.cell? ⟨nb, 5, none⟩ = some (.int .i64 (pt P k).z) := by simp [World.cell?, hob]
      have u0 := (hb9 0 _ rfl).1
      have u1 := (hb9 1 _ rfl).1
      have u2 := (hb9 2 _ rfl).1
      have u3 := (hb9 3 _ rfl).1
      have u4 := (hb9 4 _ rfl).1
      have u5 := (hb9 5 _ rfl).1
      have hH : Hid _ := And.intro hB (And.intro hb9 (And.intro hc1 hc2))
      clear hB hb9 hc1 hc2 hob
      unfold Bx.v at HJk
      gi_wp2
      refine ⟨trivial, ?_⟩
      gi_at_call 22
      refine (callsIn_wide.2 (HJk.out _)).mono ?_
      rintro e V2 ⟨rfl, hb⟩
      obtain ⟨hB, hb9, hc1, hc2⟩ := hH.out
      have hb8 := hb9.step hb
      have t0 := hb8 0 _ rfl
      have t1 := hb8 1 _ rfl
      have t2 := hb8 2 _ rfl
      have t3 := hb8 3 _ rfl
      have t4 := hb8 4 _ rfl
      have t5 := hb8 5 _ rfl
      obtain ⟨t0, t0f⟩ := t0
      obtain ⟨t1, t1f⟩ := t1
      obtain ⟨t2, t2f⟩ := t2
      obtain ⟨t3, t3f⟩ := t3
      obtain ⟨t4, t4f⟩ := t4
      obtain ⟨t5, t5f⟩ := t5
      have HC : Hid (KeepsFrom W0.heap.size V (set6 V2 bb q2) ∧ KeepO (fun b => b < W0.heap.size ∧ b ≠ bb) V (set6 V2 bb q2) ∧ Below w.heap.size w (set6 V2 bb q2) ∧ Cells (set6 V2 bb q2) bb q2.l ∧ Cells (set6 V2 bb q2) w.heap.size [.slice (some ⟨g, off, none⟩) P.length cap, .slice oa A.length ca, .slice oe E.length ce, .int .i64 r] ∧ Cells (set6 V2 bb q2) (w.heap.size + 1) (Bx.l ⟨Pt.O, Pt.O⟩)) :=
        ⟨((KeepsOthers.of_grownBy (below_grown hb none) (fun j o e ho => by cases e)).from _).trans (set6_keeps _ _ _ _), (KeepO.grown (below_grown hb none) (fun b _ e => by cases e)).trans (set6_keepO _ _ _ (fun h => h.2 rfl)), set6_below (b_step hB hb) (by omega) _, set6_cells hb8 _, set6_apart (hc1.step hb) (by omega) _, set6_apart (hc2.step hb) (by omega) _⟩
      clear hb8 hb hH hB hb9 hc1 hc2 u0 u1 u2 u3 u4 u5 v0 v1 v2 v3 v4 v5
      unfold set6 at HC
      gi_wp2
      obtain ⟨k1, k2, k3, k4, k5, k6⟩ := HC.out
      exact ⟨k1, k2, k3, by rw [HK.out]; exact k4, k5, k6⟩
    case done =>
      rintro D V hD ⟨hB, hb9, hc1, hc2⟩ _ hK
      obtain ⟨q1, hq1⟩ : ∃ q, spanK P P.length = q := ⟨_, rfl⟩
      rw [hq1] at HG hb9
      obtain ⟨q2, hq2⟩ : ∃ q, q1.grown r = q := ⟨_, rfl⟩
      rw [hq2] at HG
      have HQ : Hid ((spanK P P.length).grown r = q2) := by show _ = _; rw [hq1]; exact hq2
      clear hq2 hq1
      have u0 := (hb9 0 _ rfl).1
      have u1 := (hb9 1 _ rfl).1
      have u2 := (hb9 2 _ rfl).1
      have u3 := (hb9 3 _ rfl).1
      have u4 := (hb9 4 _ rfl).1
      have u5 := (hb9 5 _ rfl).1
      have rr := (hc1 3 _ rfl).1
      have hH : Hid _ := And.intro hB hc2
      have HK : Hid _ := hK
      clear hB hc2 hc1 hb9 hK
      unfold Bx.v at HG
      gi_wp2
      refine ⟨trivial, ?_⟩
      gi_at_call 42
      refine (callsIn_wide.2 (HG.out _)).mono ?_
      rintro e V2 ⟨rfl, hb⟩
      obtain ⟨hB, hc2⟩ := hH.out
      have hb8 := hc2.step hb
      have hK : V2.heap[D]? = some (.deferred (some [])) := (hb.block D (Array.getElem?_eq_some_iff.1 HK.out).1).trans HK.out
      have HB : Hid (Below w.heap.size w (set6 V2 (w.heap.size + 1) q2)) := set6_below (b_step hB hb) (by omega) _
      have HC : Hid (Cells (set6 V2 (w.heap.size + 1) q2) (w.heap.size + 1) q2.l) := set6_cells hb8 _
      have t0 := hb8 0 _ rfl
      have t1 := hb8 1 _ rfl
      have t2 := hb8 2 _ rfl
      have t3 := hb8 3 _ rfl
      have t4 := hb8 4 _ rfl
      have t5 := hb8 5 _ rfl
      obtain ⟨t0, t0f⟩ := t0
      obtain ⟨t1, t1f⟩ := t1
      obtain ⟨t2, t2f⟩ := t2
      obtain ⟨t3, t3f⟩ := t3
      obtain ⟨t4, t4f⟩ := t4
      obtain ⟨t5, t5f⟩ := t5
      clear hb8 hb hH hB hc2 u0 u1 u2 u3 u4 u5 rr
      have hD9 : (set6 V2 (w.heap.size + 1) q2).heap[D]? = some (.deferred (some [])) := ((set6_keeps V2 (w.heap.size + 1) 0 q2).same D _ (Nat.zero_le _) hK rfl)
      have HD9 : Hid _ := hD9
      clear hD9 hK HK
      unfold set6 at HB HC HD9
      gi_wp2
      refine ⟨by simp, .inl ⟨_, _, rfl, run_takeDeferred HD9.out, ?_⟩⟩
      have hC9 := Cells.grew HC.out (grownBy_putObj' _ D (.deferred none)) (fun r e => by cases e; omega)
      obtain ⟨z0, z1, z2, z3, z4, z5⟩ : _ ∧ _ ∧ _ ∧ _ ∧ _ ∧ _ := ⟨(hC9 0 _ rfl).1, (hC9 1 _ rfl).1, (hC9 2 _ rfl).1, (hC9 3 _ rfl).1, (hC9 4 _ rfl).1, (hC9 5 _ rfl).1⟩
      exact ⟨q2.v, by simp [results, Tryz.results14, go_sem, z0, z1, z2, z3, z4, z5, Bx.v], by rw [HQ.out], HB.out.grown (grownBy_putObj' _ D _) HB.out.size (fun k e => by cases e; omega)⟩
    case stop =>
      rintro D c k V _ _ h _
      exact h.elim
end Go.Proofs.YtocdompopadanaaGreat
