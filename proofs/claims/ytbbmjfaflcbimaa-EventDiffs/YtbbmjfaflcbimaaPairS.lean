/- The reference's Without and Beyond. -/
import Derived.Test.YtbbmjfaflcbimaaPairR
namespace Go.Proofs.Ytbbmjfaflcbimaa
open Go.RowKit Go.Shelf
set_option linter.unusedVariables false

set_option maxHeartbeats 4000000 in
set_option maxRecDepth 100000 in
theorem rbeyond_some (rp base : Nat) (v : Value) (room : Nat) (L : List Pr) (qp qbase : Nat) (qv : Value) (qroom : Nat) (N : List Pr) (w : World) (hs : IsRef w rp base v room L) (ht : IsRef w qp qbase qv qroom N) :
    Calls Try.prog 38 #[.pointer (some ⟨rp, 0, none⟩), .pointer (some ⟨qp, 0, none⟩)] w fun e W => ∃ u, e = .returned u ∧ W.ownsRow w.heap.size 60 2 u (minus L (some N)).length (flat (minus L (some N))) ∧ Below w.heap.size w W := by
  obtain ⟨i0, hii, hiz, hisz, hib⟩ := info_parts pair_info
  have HI : Hid _ := And.intro hii (And.intro hiz (And.intro hisz hib))
  clear hii hiz hisz hib
  have hrl := hs.lt
  have hlen := hs.len
  have hrm := hs.rm
  obtain ⟨o, cap, hlv, hlc, hcm, hcell⟩ := (Lies.of_row hs.own).form
  have c0 := hs.c0
  rw [hlv] at c0
  have HC : Hid _ := hcell
  have HT : Hid _ := ht
  clear hs hcell hlv ht
  obtain ⟨f, hf⟩ : ∃ f : Pr → Bool, f = fun q => decide (q ∉ N) := ⟨_, rfl⟩
  have HF : Hid (∀ q, f q = !decide (q ∈ N)) := fun q => by rw [hf]; by_cases hq : q ∈ N <;> simp [hq]
  rw [show minus L (some N) = L.filter f by rw [hf]; rfl]
  clear hf
  go_enter Try.func38, Try.ntmps38
  go_wp2_with (fail)
  go_loopw [5, 6] (fun u i wr => ∃ k : Nat, i = .int .i64 (k : Int) ∧ k ≤ L.length ∧ Hid (Row w wr u ((L.take k).filter f)) ∧ ∃ oo cc, u = .slice oo ((L.take k).filter f).length cc) (fun _ i _ => L.length - (intOf i).toNat)
  case atStart => exact ⟨0, rfl, Nat.zero_le _, ⟨World.ownsRow_nil _ _ _ _, Below.refl _ _⟩, none, 0, rfl⟩
  case round =>
    obtain ⟨k, rfl, hk, HR, oo, cc, rfl⟩ := hrel
    have e0 : wr.cell? ⟨rp, 0, none⟩ = some (.slice o L.length cap) := (HR.out.below.cell hrl).trans c0
    by_cases hlt : k < L.length
    · obtain ⟨g, off, rfl, x0, x1⟩ := HC.out k hlt
      have x0 := (HR.out.below.cell (World.block_lt_of_cell? _ _ x0)).trans x0
      have x1 := (HR.out.below.cell (World.block_lt_of_cell? _ _ x1)).trans x1
      have hgw : g < wr.heap.size := World.block_lt_of_cell? _ _ x0
      have hrw : rp < wr.heap.size := World.block_lt_of_cell? _ _ e0
      have hml : ((L.take k).filter f).length ≤ 4096 := by have := half_len (f := f) hk; omega
      have HTF : Hid _ := take_filter (f := f) hlt (pt L k).a (pt L k).b rfl
      rw [HF.out] at HTF
      have HH : Hid (Calls Try.prog 33 #[.pointer (some ⟨qp, 0, none⟩), .agg #[.int .i64 (pt L k).a, .int .i64 (pt L k).b]] wr fun e W => e = .returned (.bool (decide ((⟨(pt L k).a, (pt L k).b⟩ : Pr) ∈ N))) ∧ Below wr.heap.size wr W) := rhas_any qp qbase qv qroom N (pt L k) wr (HT.out.below HR.out.below)
      generalize (pt L k).a = ma at *
      generalize (pt L k).b = mb at *
      generalize hM : (L.take k).filter f = M at *
      clear hM
      generalize hd : decide ((⟨ma, mb⟩ : Pr) ∈ N) = dd at *
      clear hd
      go_wp2_with (fail)
      refine Calls.mono HH.out ?_
      clear HH
      rintro e V0 ⟨rfl, hb0⟩
      have HR0 : Hid (Row w V0 (.slice oo M.length cc) M) := HR.out.step hb0
      have e0 : V0.cell? ⟨rp, 0, none⟩ = some (.slice (some ⟨g, off, none⟩) L.length cap) := (hb0.cell hrw).trans e0
      have x0 := (hb0.cell (p := ⟨g, off + k * 2, none⟩) hgw).trans x0
      have x1 := (hb0.cell (p := ⟨g, off + k * 2 + 1, none⟩) hgw).trans x1
      clear hb0 HR
      cases dd with
      | true =>
        have hx : Hid ((L.take (k + 1)).filter f = M) := by show _ = _; have := HTF.out; simpa using this
        clear HTF
        go_wp2_with (fail)
        go_roundw
        case rel => exact ⟨k + 1, by go_num, by omega, by rw [hx.out]; exact HR0.out, oo, cc, by rw [hx.out]⟩
        case measure => simp [intOf]; omega
      | false =>
        have hx : Hid ((L.take (k + 1)).filter f = M ++ [⟨ma, mb⟩]) := by show _ = _; have := HTF.out; simpa using this
        clear HTF
        go_wp2_with (at_builtin; refine wpList_append_own _ rfl _ _ 50 rfl w.heap.size 60 i0 _ 2 16 Try.underlying50 HI.out.1 HI.out.2.1 HI.out.2.2.1 HI.out.2.2.2 rfl (by decide) _ _ _ rfl (HR0.out.step ((Below.refl _ V0).alloc (Nat.le_refl _) (.cells #[.int .i64 ma, .int .i64 mb] 60))).row ⟨V0.heap.size, 0, none⟩ 1 1 [.int .i64 ma, .int .i64 mb] rfl rfl (news_at (heap_alloc_new V0 _)) (by intro u hu; simp at hu; rcases hu with rfl | rfl <;> rfl) (by unfold maxLen; omega) (by omega) (by have := HR0.out.below.size; simp; omega) ?_; intro u9 V2 r8 g8 _; obtain ⟨gg8, kk8, rfl⟩ := ownsRow_succ r8; have HR2 : Hid _ := (HR0.out.step ((Below.refl _ V0).alloc (Nat.le_refl _) (.cells #[.int .i64 ma, .int .i64 mb] 60))).app (p := ⟨ma, mb⟩) r8 g8; clear r8 g8)
        go_roundw
        case rel => exact ⟨k + 1, by go_num, by omega, by rw [hx.out]; exact HR2.out, _, _, by rw [hx.out, List.length_append]; rfl⟩
        case measure => simp [intOf]; omega
    · obtain rfl : k = L.length := by omega
      rw [List.take_length] at HR ⊢
      go_wp2_with (fail)
      go_ret
      exact ⟨_, rfl, HR.out.row, HR.out.below⟩
end Go.Proofs.Ytbbmjfaflcbimaa
