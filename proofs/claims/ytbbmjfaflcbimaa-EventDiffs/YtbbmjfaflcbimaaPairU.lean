/- Beyond of nil, by the set and by the reference; the reference's Of; which of n a number speaks of. -/
import Derived.Test.YtbbmjfaflcbimaaPairT
namespace Go.Proofs.Ytbbmjfaflcbimaa
open Go.RowKit Go.Shelf
set_option linter.unusedVariables false

section
attribute [local go_sem] Oper.semAt_some
set_option maxRecDepth 100000 in
set_option maxHeartbeats 8000000 in
/-- Beyond of nil: all. -/
theorem beyond_nil (sp base : Nat) (v : Value) (room : Nat) (L : List Pr) (w : World) (hs : IsSet w sp base v room L) :
    Calls Try.prog 27 #[.pointer (some ⟨sp, 0, none⟩), .pointer none] w fun e W => ∃ u, e = .returned u ∧ W.ownsRow w.heap.size 60 2 u L.length (flat L) ∧ Below w.heap.size w W := by
  refine (callsIn_wide (n := 9)).1 ?_
  have h1 : 1 ≤ 9 := by omega
  have hT : ∀ b, some b = v.ownBlock → b < w.heap.size := fun b e => (hs.own.lt b e.symm).2
  obtain ⟨i0, hii, hiz, hisz, hib⟩ := info_parts pair_info
  have HI : Hid _ := And.intro hii (And.intro hiz (And.intro hisz hib))
  clear hii hiz hisz hib
  refine callsIn_of_wp_marks Try.func27 rfl trivial ?_ rfl
  simp only [Try.ntmps27, List.size_toArray, List.length_cons, List.length_nil, Nat.reduceAdd, Nat.reduceSub, Array.replicate_succ, Array.replicate_zero, List.push_toArray, List.append_toArray, List.nil_append, List.cons_append]
  gi_wp2_with (refine ⟨trivial, ?_⟩; gi_at_call 40; refine (callsIn_wide.2 (all_in _ _)).mono ?_; rintro e w' ⟨rfl, rfl⟩)
  obtain ⟨S0, hS0⟩ : ∃ n, n = w.heap.size := ⟨_, rfl⟩
  obtain ⟨W0, hW0⟩ : ∃ W0, W0 = ((w.alloc (.cells #[.pointer none] 51)).alloc (.cells #[.slice none 0 0] 50)).alloc (.cells #[.pointer (some ⟨sp, 0, none⟩)] 51) := ⟨_, rfl⟩
  have hsz : W0.heap.size = S0 + 3 := by rw [hW0, hS0]; simp
  have hB0 : Below w.heap.size w W0 := by rw [hW0]; exact (((Below.refl _ w).alloc (Nat.le_refl _) _).alloc (by simp) _).alloc (by simp; omega) _
  have bt0 : Boxed W0 S0 51 (.pointer none) := by rw [hW0, hS0]; exact ((Boxed.new w _ _).alloc _).alloc _
  have bx0 : Boxed W0 (S0 + 1) 50 (.slice none 0 0) := by
    rw [hW0, hS0]
    have := (Boxed.new (w.alloc (.cells #[.pointer none] 51)) 50 (.slice none 0 0)).alloc (.cells #[.pointer (some ⟨sp, 0, none⟩)] 51)
    rw [World.size_alloc] at this
    exact this
  have hbs : W0.cell? ⟨S0 + 1 + 1, 0, none⟩ = some (.pointer (some ⟨sp, 0, none⟩)) := by rw [hW0, hS0]; simp [go_sem]
  rw [← hW0, ← hS0]
  have hSl : w.heap.size ≤ S0 := by omega
  have hSr : S0 ≤ w.heap.size := by omega
  clear hW0 hS0
  have hs0 := hs.below hB0
  have hln := hs.len
  have hrm := hs.rm
  refine' range_box h1 (gf := 46) (lb := #[.pointer (some ⟨S0 + 1 + 1, 0, none⟩)]) rfl (enters_of Try.func46 (by kernel_rfl) rfl)
    (all_tells (9 - 1) (by omega) (S0 + 1 + 1) sp base v room L W0 hs0 hbs) (fun h k => Keep.trans h k) (fun _ _ _ o' _ h hc => keep_b o' h hc) (fun W o => keep_grown (World.grownBy_alloc W o none) (fun r e => by cases e)) (fun _ => rfl)
    (fun pre V => ∃ u, Out w V (S0 + 1) u (pick_ L pre) ∧ Boxed V S0 51 (.pointer none))
    (fun _ _ _ => False)
    (fun s A B row hs hg hr => hs.elim fun u h => ⟨u, h.1.own (by omega) hg hr, box_own h.2 hg hr⟩)
    (fun _ _ _ _ _ hs _ _ => hs)
    ⟨_, ⟨bx0, World.ownsRow_nil _ _ _ _, hB0, by omega⟩, bt0⟩ (fun x nb => { tmps := #[.pointer (some ⟨sp, 0, none⟩), .pointer none, undef, .pointer (some ⟨S0, 0, none⟩), .slice none 0 0, .pointer (some ⟨S0 + 1, 0, none⟩), .pointer (some ⟨nb, 0, none⟩), .pointer (some ⟨sp, 0, none⟩), .func (.func 46) #[] #[.pointer (some ⟨S0 + 1 + 1, 0, none⟩)], .agg #[.int .i64 (pt L x.val).a, .int .i64 (pt L x.val).b], undef, undef, undef, undef, undef, undef, undef, undef, undef, undef, undef, undef, undef], defers := [] }) (fun x => .cells #[.int .i64 (pt L x.val).a, .int .i64 (pt L x.val).b] 60) ?assign ?body ?done ?stop
  case assign =>
    intro l x W K hK
    unfold encP
    gi_wp2
    exact hK
  case body =>
    rintro l pre x V nb ⟨u, hO, hbt⟩ hnb hob hlen
    have hlp : (pick_ L pre).length < 4096 := by rw [pick_length]; omega
    have b0 : V.cell? ⟨nb, 0, none⟩ = some (.int .i64 (pt L x.val).a) := by simp [World.cell?, hob]
    have b1 : V.cell? ⟨nb, 1, none⟩ = some (.int .i64 (pt L x.val).b) := by simp [World.cell?, hob]
    have hc := hO.box.cell
    have ct := hbt.cell
    have hSV : S0 + 1 < V.heap.size := hO.box.lt
    have hwV : w.heap.size ≤ V.heap.size := hO.below.size
    obtain ⟨oo, cc, hu⟩ := row_form hO.row
    subst hu
    have HPA : Hid (pick_ L (pre ++ [x]) = pick_ L pre ++ [⟨(pt L x.val).a, (pt L x.val).b⟩]) := pick_append L pre x
    have HO : Hid _ := hO
    have HBT : Hid (Boxed V S0 51 (.pointer none)) := hbt
    clear hO hob hbt
    generalize (pt L x.val).a = ma at *
    generalize (pt L x.val).b = mb at *
    gi_wp2_with (fail)
    refine ⟨trivial, ?_⟩
    gi_wp2_with (gi_at_builtin; refine wpListIn_append_own _ rfl _ _ 50 rfl w.heap.size 60 i0 _ 2 16 Try.underlying50 HI.out.1 HI.out.2.1 HI.out.2.2.1 HI.out.2.2.2 rfl (by decide) _ _ _ rfl (HO.out.alloc (.cells #[.int .i64 ma, .int .i64 mb] 60)).row ⟨V.heap.size, 0, none⟩ 1 1 [.int .i64 ma, .int .i64 mb] rfl rfl (news_at (heap_alloc_new V _)) (by intro u hu; simp at hu; rcases hu with rfl | rfl <;> rfl) (by unfold maxLen; omega) (by omega) (by simp; omega) ?_; intro u' V2 r8 g8 _; obtain ⟨gg8, kk8, rfl⟩ := ownsRow_succ r8; obtain ⟨hO2, hbx2⟩ := (HO.out.alloc (.cells #[.int .i64 ma, .int .i64 mb] 60)).app (p := ⟨ma, mb⟩) r8 g8; have q1 := hbx2.cell; have q2 := hbx2.frozen)
    rw [← HPA.out] at hO2
    have HO3 := HO.out.alloc (.cells #[.int .i64 ma, .int .i64 mb] 60)
    have hbt2 := ((HBT.out.alloc (.cells #[.int .i64 ma, .int .i64 mb] 60)).kept g8 ((HBT.out.alloc _).not_row (by decide) HO3.row))
    exact ⟨((KeepsOthers.alloc V _).from _).trans (HO3.keepsFrom g8 _), (keep_grown (World.grownBy_alloc V _ none) (fun r e => by cases e)).trans (HO3.keep g8 hT), _, hO2, (Below.heap_setCell _ _ _ _ (by simp)).trans hbt2⟩
  case done =>
    rintro D ys V hD rfl ⟨u, hO, _⟩ hK
    rw [pick_ups] at hO
    have hc := hO.box.cell
    gi_wp2
    refine ⟨by simp, .inl ⟨_, _, rfl, run_takeDeferred hK, ?_⟩⟩
    have hO2 := hO.own (n := w.heap.size) (Nat.le_refl _) (grownBy_putObj' V D (.deferred none)) (fun r e => by cases e; exact ⟨by omega, _, hK, rfl⟩)
    exact ⟨_, results_tmp rfl _ _ _, u, rfl, hO2.row, hO2.below⟩
  case stop =>
    rintro D c pre V _ _ h _
    exact h.elim
end

set_option maxHeartbeats 4000000 in
set_option maxRecDepth 100000 in
theorem rbeyond_nil (rp base : Nat) (v : Value) (room : Nat) (L : List Pr) (w : World) (hs : IsRef w rp base v room L) :
    Calls Try.prog 38 #[.pointer (some ⟨rp, 0, none⟩), .pointer none] w fun e W => ∃ u, e = .returned u ∧ W.ownsRow w.heap.size 60 2 u L.length (flat L) ∧ Below w.heap.size w W := by
  obtain ⟨i0, hii, hiz, hisz, hib⟩ := info_parts pair_info
  have HI : Hid _ := And.intro hii (And.intro hiz (And.intro hisz hib))
  clear hii hiz hisz hib
  have hrl := hs.lt
  have hlen := hs.len
  have hrm := hs.rm
  obtain ⟨o, cap, hlv, hlc, hcm, hcell⟩ := (Lies.of_row hs.own).form
  have c0 := hs.c0
  rw [hlv] at c0
  have HC : Hid _ := hcell
  clear hs hcell hlv
  go_enter Try.func38, Try.ntmps38
  go_wp2_with (fail)
  go_loopw [5, 6] (fun u i wr => ∃ k : Nat, i = .int .i64 (k : Int) ∧ k ≤ L.length ∧ Hid (Row w wr u (L.take k)) ∧ ∃ oo cc, u = .slice oo (L.take k).length cc) (fun _ i _ => L.length - (intOf i).toNat)
  case atStart => exact ⟨0, rfl, Nat.zero_le _, by rw [List.take_zero]; exact ⟨World.ownsRow_nil _ _ _ _, Below.refl _ _⟩, none, 0, by rw [List.take_zero]; rfl⟩
  case round =>
    obtain ⟨k, rfl, hk, HR, oo, cc, rfl⟩ := hrel
    have e0 : wr.cell? ⟨rp, 0, none⟩ = some (.slice o L.length cap) := (HR.out.below.cell hrl).trans c0
    by_cases hlt : k < L.length
    · obtain ⟨g, off, rfl, x0, x1⟩ := HC.out k hlt
      have x0 := (HR.out.below.cell (World.block_lt_of_cell? _ _ x0)).trans x0
      have x1 := (HR.out.below.cell (World.block_lt_of_cell? _ _ x1)).trans x1
      have hgw : g < wr.heap.size := World.block_lt_of_cell? _ _ x0
      have hrw : rp < wr.heap.size := World.block_lt_of_cell? _ _ e0
      have hml : (L.take k).length ≤ 4096 := by simp; omega
      have hx : Hid (L.take (k + 1) = L.take k ++ [⟨(pt L k).a, (pt L k).b⟩]) := take_pt hlt
      generalize (pt L k).a = ma at *
      generalize (pt L k).b = mb at *
      generalize hM : L.take k = M at *
      clear hM
      go_wp2_with (at_builtin; refine wpList_append_own _ rfl _ _ 50 rfl w.heap.size 60 i0 _ 2 16 Try.underlying50 HI.out.1 HI.out.2.1 HI.out.2.2.1 HI.out.2.2.2 rfl (by decide) _ _ _ rfl (HR.out.step ((Below.refl _ wr).alloc (Nat.le_refl _) (.cells #[.int .i64 ma, .int .i64 mb] 60))).row ⟨wr.heap.size, 0, none⟩ 1 1 [.int .i64 ma, .int .i64 mb] rfl rfl (news_at (heap_alloc_new wr _)) (by intro u hu; simp at hu; rcases hu with rfl | rfl <;> rfl) (by unfold maxLen; omega) (by omega) (by have := HR.out.below.size; simp; omega) ?_; intro u9 V2 r8 g8 _; obtain ⟨gg8, kk8, rfl⟩ := ownsRow_succ r8; have HR2 : Hid _ := (HR.out.step ((Below.refl _ wr).alloc (Nat.le_refl _) (.cells #[.int .i64 ma, .int .i64 mb] 60))).app (p := ⟨ma, mb⟩) r8 g8; clear r8 g8)
      go_roundw
      case rel => exact ⟨k + 1, by go_num, by omega, by rw [hx.out]; exact HR2.out, _, _, by rw [hx.out, List.length_append]; rfl⟩
      case measure => simp [intOf]; omega
    · obtain rfl : k = L.length := by omega
      rw [List.take_length] at HR ⊢
      go_wp2_with (fail)
      go_ret
      exact ⟨_, rfl, HR.out.row, HR.out.below⟩

/-- Which of n things a raw number speaks of. -/
def pickZ (c n : Int) : Int := (if c < 0 then -(c + 1) else c) % n
theorem pickZ_lo (c : Int) {n : Int} (hn : 0 < n) : 0 ≤ pickZ c n := Int.emod_nonneg _ (by omega)
theorem pickZ_hi (c : Int) {n : Int} (hn : 0 < n) : pickZ c n < n := Int.emod_lt_of_pos _ hn

end Go.Proofs.Ytbbmjfaflcbimaa
