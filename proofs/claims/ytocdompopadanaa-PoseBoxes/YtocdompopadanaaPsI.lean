/- Package pose: directions, and the box around a core. -/
import Derived.Test.YtocdompopadanaaPsH
namespace Go.Proofs.Ytocdompopadanaa
open Go.RowKit Go.Shelf
attribute [local go_sem] Oper.semAt_some
set_option linter.unusedVariables false

set_option maxRecDepth 100000 in
set_option maxHeartbeats 8000000 in
theorem directions_any (fb : Nat) (f : Bool) (m : M9) (t : Pt) (Ls : List Pt) (v : Value) (w : World) (hF : Cells w fb (frL f m t)) (hv : Lies w v Ls) (hne : ∀ q n c, v = .slice (some q) n c → Ls ≠ [] → q.block ≠ fb) (hN : Ls.length < 1099511627776) :
    Calls Try.prog 36 #[.pointer (some ⟨fb, 0, none⟩), v] w fun e W => ∃ u, e = .returned u ∧ W.ownsRow w.heap.size 23 3 u (m.dirs Ls).length (fl3 (m.dirs Ls)) ∧ w.grownBy W (some fb) ∧ Cells W fb (frL (f || Ls.any m.dirB) m t) := by
  obtain ⟨o, cap, rfl, hlc, hcm, hcell⟩ := hv.form
  have HV : Hid _ := hv
  have hlt := hF.lt
  clear hv hcell
  refine (callsIn_wide (n := 9)).1 ?_
  have h1 : 1 ≤ 9 := by omega
  obtain ⟨i0, hii, hiz, hisz, hib⟩ := info_parts point_info
  have HI : Hid _ := And.intro hii (And.intro hiz (And.intro hisz hib))
  clear hii hiz hisz hib
  refine callsIn_of_wp_marks Try.func36 rfl trivial ?_ rfl
  simp only [Try.ntmps36, List.size_toArray, List.length_cons, List.length_nil, Nat.reduceAdd, Nat.reduceSub, Array.replicate_succ, Array.replicate_zero, List.push_toArray, List.append_toArray, List.nil_append, List.cons_append]
  gi_wp2_with (refine ⟨trivial, ?_⟩; gi_at_call 34; refine (callsIn_wide.2 (each_in_pt _ _ _ _ _ _ _)).mono ?_; rintro e w' ⟨rfl, rfl⟩)
  obtain ⟨S0, hS0⟩ : ∃ n, n = w.heap.size := ⟨_, rfl⟩
  obtain ⟨W0, hW0⟩ : ∃ W0, W0 = ((w.alloc (.cells #[.slice none 0 0] 31)).alloc (.cells #[.slice o Ls.length cap] 31)).alloc (.cells #[.func (.func 55) #[.pointer (some ⟨fb, 0, none⟩)] #[]] 69) := ⟨_, rfl⟩
  have hsz : W0.heap.size = S0 + 3 := by rw [hW0, hS0]; simp
  have hB0 : Hid (Below w.heap.size w W0) := by show Below _ _ _; rw [hW0]; exact b_step (b_step (n_after _ _) (n_after _ _)) (n_after _ _)
  have bx0 : Boxed W0 S0 31 (.slice none 0 0) := by rw [hW0, hS0]; exact ((Boxed.new w _ _).alloc _).alloc _
  have cp : W0.cell? ⟨S0 + 1, 0, none⟩ = some (.slice o Ls.length cap) := by rw [hW0, hS0]; simp [go_sem]
  have cf : W0.cell? ⟨S0 + 1 + 1, 0, none⟩ = some (.func (.func 55) #[.pointer (some ⟨fb, 0, none⟩)] #[]) := by rw [hW0, hS0]; simp [go_sem]
  rw [← hW0, ← hS0]
  have hSl : w.heap.size = S0 := hS0.symm
  clear hW0 hS0
  have HV0 : Hid _ := HV.out.below hB0.out
  have hF0 := hF.step hB0.out
  have hblk : Hid (∀ q, o = some q → Ls ≠ [] → q.block < w.heap.size) := fun q e hne => by
    obtain ⟨o', c', e', _, _, h9⟩ := HV.out.form
    cases e'
    obtain ⟨g, off, e2, x0, _⟩ := h9 0 (List.length_pos_iff.2 hne)
    rw [e] at e2; cases e2
    exact World.block_lt_of_cell? _ _ x0
  refine' range_n h1 (gf := 52) (lb := #[.pointer (some ⟨S0 + 1, 0, none⟩), .pointer (some ⟨S0 + 1 + 1, 0, none⟩)]) rfl (enters_of Try.func52 (by kernel_rfl) rfl)
    (row := some fb) (S := fun b => b < W0.heap.size ∧ b ≠ S0) (St := fun k V => Cells V fb (frL (f || anyK (fun k => m.dirB (pt Ls k)) k) m t))
    (each_tells_pt (9 - 1) (S0 + 1) (S0 + 1 + 1) Ls o cap 55 #[.pointer (some ⟨fb, 0, none⟩)] #[] (fun k => (m.dirV (pt Ls k)).v) (some fb) (fun b => b < W0.heap.size ∧ b ≠ S0) (fun k V => Cells V fb (frL (f || anyK (fun k => m.dirB (pt Ls k)) k) m t)) W0
      (enters_of Try.func55 (by kernel_rfl) rfl) HV0.out cp cf ?blk ⟨⟨by omega, by omega⟩, fun e => by simp at e; omega⟩ (fun _ h => h.1)
      (fun W hb => by simpa [anyK] using hF0.step hb) (fun k A B hs hk => Cells.keepO hs hk ⟨by show fb < _; omega, by show fb ≠ _; omega⟩)
      (fun k V hk hs => (direction_any fb _ m t (pt Ls k) V hs).mono fun e V' h => ⟨h.1, after_grown h.2.out, by have h9 := Cells.after hs h.2.out; rw [Bool.or_assoc] at h9; exact h9⟩))
    (fun _ h => h.1) (fun r e => by cases e; omega) ?st (fun _ => rfl)
    (fun k V => ∃ u, OutP w V W0.heap.size (some fb) S0 u (dirsK (fun k => m.dirV (pt Ls k)) k)) (fun _ _ _ => False)
    (fun k A B r2 hs hg hr => hs.elim fun u h => ⟨u, h.kept (by omega) hg hr⟩) (fun _ _ _ _ _ hs _ _ => hs)
    (fun k A B hs hg => hs.elim fun u h => ⟨u, h.turn hg (fun r e => by cases e; exact hlt)⟩) ⟨_, bx0, World.ownsRow_nil _ _ _ _, below_grown hB0.out _, by omega, by omega, Nat.le_refl _⟩ _ (fun k => some (.cells #[.int .i64 (m.dirV (pt Ls k)).x, .int .i64 (m.dirV (pt Ls k)).y, .int .i64 (m.dirV (pt Ls k)).z] 23)) ?assign ?body ?done ?stop
  case blk => exact fun q e hne' => ⟨⟨by have := hblk.out q e hne'; omega, by have := hblk.out q e hne'; omega⟩, fun e9 => hne q _ _ (by rw [e]) hne' (by simpa using e9)⟩
  case st => exact fun k A B r2 hs hg hr => Cells.grew hs hg (fun r e => by have := (hr r e).1; omega)
  case assign =>
    intro l k W nb K hk hnb hK
    unfold Pt.v
    gi_wp2
    rw [← hnb]
    exact hK
  case body =>
    rintro l k V nb hk ⟨u, hO⟩ hnb hob
    have hob := hob _ rfl
    have hlp : (dirsK (fun k => m.dirV (pt Ls k)) k).length < 1099511627776 := by have := dirsK_length (fun k => m.dirV (pt Ls k)) k; omega
    have b0 : V.cell? ⟨nb, 0, none⟩ = some (.int .i64 (m.dirV (pt Ls k)).x) := by simp [World.cell?, hob]
    have b1 : V.cell? ⟨nb, 1, none⟩ = some (.int .i64 (m.dirV (pt Ls k)).y) := by simp [World.cell?, hob]
    have b2 : V.cell? ⟨nb, 2, none⟩ = some (.int .i64 (m.dirV (pt Ls k)).z) := by simp [World.cell?, hob]
    have hc := hO.box.cell
    have hSV : S0 < V.heap.size := hO.box.lt
    have hwV : W0.heap.size ≤ V.heap.size := hO.sz
    obtain ⟨oo, cc, hu⟩ := rowp_form hO.own
    subst hu
    have HO : Hid _ := hO
    clear hO hob
    by_cases hz : m.dirV (pt Ls k) = Pt.O
    · have HPA : Hid (dirsK (fun k => m.dirV (pt Ls k)) (k + 1) = dirsK (fun k => m.dirV (pt Ls k)) k) := dirsK_no _ _ hz
      rw [hz] at b0 b1 b2 ⊢
      simp only [Pt.O] at b0 b1 b2 ⊢
      clear hz
      gi_wp2
      exact ⟨KeepsFrom.refl _ _, KeepO.refl _ _, _, by rw [HPA.out]; exact HO.out⟩
    · have HPA : Hid (dirsK (fun k => m.dirV (pt Ls k)) (k + 1) = dirsK (fun k => m.dirV (pt Ls k)) k ++ [⟨(m.dirV (pt Ls k)).x, (m.dirV (pt Ls k)).y, (m.dirV (pt Ls k)).z⟩]) := dirsK_yes _ _ hz
      have hz3 : (m.dirV (pt Ls k)).x = 0 → (m.dirV (pt Ls k)).y = 0 → (m.dirV (pt Ls k)).z ≠ 0 := fun a b c => hz (by cases hp : m.dirV (pt Ls k); rw [hp] at a b c; simp only [Pt.O] at *; simp [a, b, c])
      clear hz
      generalize (m.dirV (pt Ls k)).x = px at *
      generalize (m.dirV (pt Ls k)).y = py at *
      generalize (m.dirV (pt Ls k)).z = pz at *
      by_cases hx : px = 0
      · subst hx
        by_cases hy : py = 0
        · subst hy
          have hzz : pz ≠ 0 := hz3 rfl rfl
          clear hz3
          gi_wp2_with (gi_at_builtin; refine wpListIn_append_own _ rfl _ _ 31 rfl W0.heap.size 23 i0 _ 3 24 Try.underlying31 HI.out.1 HI.out.2.1 HI.out.2.2.1 HI.out.2.2.2 rfl (by decide) _ _ _ rfl (HO.out.alloc (.cells #[.int .i64 0, .int .i64 0, .int .i64 pz] 23)).own ⟨V.heap.size, 0, none⟩ 1 1 [.int .i64 0, .int .i64 0, .int .i64 pz] rfl rfl (news_at (heap_alloc_new V _)) (by intro u hu; simp at hu; rcases hu with rfl | rfl | rfl <;> rfl) (by unfold maxLen; omega) (by omega) (by simp; omega) ?_; intro u' V2 r8 g8 _; obtain ⟨gg8, kk8, rfl⟩ := ownsRow_succ r8; obtain ⟨hO2, hbx2⟩ := (HO.out.alloc (.cells #[.int .i64 0, .int .i64 0, .int .i64 pz] 23)).app (p := ⟨0, 0, pz⟩) r8 g8; have q1 := hbx2.cell; have q2 := hbx2.frozen)
          rw [← HPA.out] at hO2
          exact ⟨((KeepsOthers.alloc V _).from _).trans ((HO.out.alloc _).keepsFrom g8 _), (KeepO.alloc _ V _).trans ((HO.out.alloc _).keep g8 (fun b hb => ⟨hb.2, hb.1⟩)), _, hO2⟩
        · clear hz3
          gi_wp2_with (gi_at_builtin; refine wpListIn_append_own _ rfl _ _ 31 rfl W0.heap.size 23 i0 _ 3 24 Try.underlying31 HI.out.1 HI.out.2.1 HI.out.2.2.1 HI.out.2.2.2 rfl (by decide) _ _ _ rfl (HO.out.alloc (.cells #[.int .i64 0, .int .i64 py, .int .i64 pz] 23)).own ⟨V.heap.size, 0, none⟩ 1 1 [.int .i64 0, .int .i64 py, .int .i64 pz] rfl rfl (news_at (heap_alloc_new V _)) (by intro u hu; simp at hu; rcases hu with rfl | rfl | rfl <;> rfl) (by unfold maxLen; omega) (by omega) (by simp; omega) ?_; intro u' V2 r8 g8 _; obtain ⟨gg8, kk8, rfl⟩ := ownsRow_succ r8; obtain ⟨hO2, hbx2⟩ := (HO.out.alloc (.cells #[.int .i64 0, .int .i64 py, .int .i64 pz] 23)).app (p := ⟨0, py, pz⟩) r8 g8; have q1 := hbx2.cell; have q2 := hbx2.frozen)
          rw [← HPA.out] at hO2
          exact ⟨((KeepsOthers.alloc V _).from _).trans ((HO.out.alloc _).keepsFrom g8 _), (KeepO.alloc _ V _).trans ((HO.out.alloc _).keep g8 (fun b hb => ⟨hb.2, hb.1⟩)), _, hO2⟩
      · clear hz3
        gi_wp2_with (gi_at_builtin; refine wpListIn_append_own _ rfl _ _ 31 rfl W0.heap.size 23 i0 _ 3 24 Try.underlying31 HI.out.1 HI.out.2.1 HI.out.2.2.1 HI.out.2.2.2 rfl (by decide) _ _ _ rfl (HO.out.alloc (.cells #[.int .i64 px, .int .i64 py, .int .i64 pz] 23)).own ⟨V.heap.size, 0, none⟩ 1 1 [.int .i64 px, .int .i64 py, .int .i64 pz] rfl rfl (news_at (heap_alloc_new V _)) (by intro u hu; simp at hu; rcases hu with rfl | rfl | rfl <;> rfl) (by unfold maxLen; omega) (by omega) (by simp; omega) ?_; intro u' V2 r8 g8 _; obtain ⟨gg8, kk8, rfl⟩ := ownsRow_succ r8; obtain ⟨hO2, hbx2⟩ := (HO.out.alloc (.cells #[.int .i64 px, .int .i64 py, .int .i64 pz] 23)).app (p := ⟨px, py, pz⟩) r8 g8; have q1 := hbx2.cell; have q2 := hbx2.frozen)
        rw [← HPA.out] at hO2
        exact ⟨((KeepsOthers.alloc V _).from _).trans ((HO.out.alloc _).keepsFrom g8 _), (KeepO.alloc _ V _).trans ((HO.out.alloc _).keep g8 (fun b hb => ⟨hb.2, hb.1⟩)), _, hO2⟩
  case done =>
    rintro D V hD ⟨u, hO⟩ hs hK
    have hc := hO.box.cell
    gi_wp2
    refine ⟨by simp, .inl ⟨_, _, rfl, run_takeDeferred hK, ?_⟩⟩
    have hO2 := hO.kept (n2 := w.heap.size) (Nat.le_refl _) (grownBy_putObj' V D (.deferred none)) (fun r e => by cases e; exact ⟨by omega, _, hK, rfl⟩)
    have hr2 := own_le hO2.own hO2.ln
    have e9 : dirsK (fun k => m.dirV (pt Ls k)) Ls.length = m.dirs Ls := by unfold dirsK M9.dirs; rw [firsts_map]
    rw [e9] at hr2
    rw [anyK_any] at hs
    exact ⟨_, results_tmp rfl _ _ _, u, rfl, hr2, hO2.grown, Cells.grew hs (grownBy_putObj' V D (.deferred none)) (fun r e => by cases e; omega)⟩
  case stop =>
    rintro D c k V _ _ h _
    exact h.elim
end Go.Proofs.Ytocdompopadanaa
