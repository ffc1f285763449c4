/- The reference's Without and Beyond. -/
import Derived.Test.YtdfgimfihejjhaaPairR
namespace Go.Proofs.Ytdfgimfihejjhaa
open Go.RowKit Go.Shelf
set_option linter.unusedVariables false

set_option maxHeartbeats 4000000 in
set_option maxRecDepth 100000 in
theorem rwithout_any (rp base : Nat) (v : Value) (room : Nat) (L : List Pr) (h : Int) (w : World) (hs : IsRef w rp base v room L) (hbase : base ≤ w.heap.size) :
    Calls Try.prog 13 #[.pointer (some ⟨rp, 0, none⟩), .int .i64 h] w fun e W => e = .returned (.int .i64 ((L.length : Int) - ((L.filter (fun q => !ofH h q)).length : Int))) ∧ ∃ v', IsRef W rp base v' room (L.filter (fun q => !ofH h q)) ∧ Ch w W rp none ∧ (v'.ownBlock = none ∨ ∃ g, v'.ownBlock = some g ∧ w.heap.size ≤ g) := by
  obtain ⟨i0, hii, hiz, hisz, hib⟩ := info_parts pair_info
  have HI : Hid _ := And.intro hii (And.intro hiz (And.intro hisz hib))
  clear hii hiz hisz hib
  have hrl := hs.lt
  have hlen := hs.len
  have hrm := hs.rm
  obtain ⟨o, cap, hlv, hlc, hcm, hcell⟩ := (Lies.of_row hs.own).form
  have c0 := hs.c0
  have f0 := hs.f0 0
  rw [hlv] at c0
  have HC : Hid _ := hcell
  have HS : Hid _ := hs
  clear hs hcell hlv
  obtain ⟨f, hf⟩ : ∃ f : Pr → Bool, f = fun q => !ofH h q := ⟨_, rfl⟩
  have HF : Hid (∀ a b, f ⟨a, b⟩ = !((a == h) || (b == h))) := fun a b => by rw [hf]; rfl
  rw [← hf]
  clear hf
  go_enter Try.func13, Try.ntmps13
  go_wp2_with (fail)
  go_loopw [6, 7] (fun u i wr => ∃ k : Nat, i = .int .i64 (k : Int) ∧ k ≤ L.length ∧ Hid (Row w wr u ((L.take k).filter f)) ∧ ∃ oo cc, u = .slice oo ((L.take k).filter f).length cc) (fun _ i _ => L.length - (intOf i).toNat)
  case atStart => exact ⟨0, rfl, Nat.zero_le _, ⟨World.ownsRow_nil _ _ _ _, Below.refl _ _⟩, none, 0, rfl⟩
  case round =>
    obtain ⟨k, rfl, hk, HR, oo, cc, rfl⟩ := hrel
    have e0 : wr.cell? ⟨rp, 0, none⟩ = some (.slice o L.length cap) := (HR.out.below.cell hrl).trans c0
    by_cases hlt : k < L.length
    · obtain ⟨g, off, rfl, x0, x1⟩ := HC.out k hlt
      have x0 := (HR.out.below.cell (World.block_lt_of_cell? _ _ x0)).trans x0
      have x1 := (HR.out.below.cell (World.block_lt_of_cell? _ _ x1)).trans x1
      have hml : ((L.take k).filter f).length ≤ 4096 := by have := half_len (f := f) hk; omega
      have HTF : Hid _ := take_filter (f := f) hlt (pt L k).a (pt L k).b rfl
      rw [HF.out] at HTF
      generalize (pt L k).a = ma at *
      generalize (pt L k).b = mb at *
      generalize hM : (L.take k).filter f = M at *
      clear hM
      have fin : ∀ (hx : Hid ((L.take (k + 1)).filter f = M)), ∃ k' : Nat, Value.int .i64 ((k : Int) + 1) = .int .i64 (k' : Int) ∧ k' ≤ L.length ∧ Hid (Row w wr (.slice oo M.length cc) ((L.take k').filter f)) ∧ ∃ oo' cc', Value.slice oo M.length cc = .slice oo' ((L.take k').filter f).length cc' := fun hx =>
        ⟨k + 1, by go_num, by omega, by rw [hx.out]; exact HR.out, oo, cc, by rw [hx.out]⟩
      by_cases ea : ma = h
      · subst ea
        have hx : Hid ((L.take (k + 1)).filter f = M) := by show _ = _; have := HTF.out; simpa using this
        clear HTF
        go_wp2_with (fail)
        go_roundw
        case rel => exact fin hx
        case measure => simp [intOf]; omega
      · have ea' : (ma == h) = false := beq_eq_false_iff_ne.2 ea
        have ea2 : (ma != h) = true := bne_iff_ne.2 ea
        by_cases eb : mb = h
        · subst eb
          have hx : Hid ((L.take (k + 1)).filter f = M) := by show _ = _; have := HTF.out; simpa using this
          clear HTF
          go_wp2_with (fail)
          go_roundw
          case rel => exact fin hx
          case measure => simp [intOf]; omega
        · have eb' : (mb == h) = false := beq_eq_false_iff_ne.2 eb
          have eb2 : (mb != h) = true := bne_iff_ne.2 eb
          have hx : Hid ((L.take (k + 1)).filter f = M ++ [⟨ma, mb⟩]) := by show _ = _; have := HTF.out; rw [ea', eb'] at this; simpa using this
          clear HTF fin
          go_wp2_with (at_builtin; refine wpList_append_own _ rfl _ _ 43 rfl w.heap.size 35 i0 _ 2 16 Try.underlying43 HI.out.1 HI.out.2.1 HI.out.2.2.1 HI.out.2.2.2 rfl (by decide) _ _ _ rfl (HR.out.step ((Below.refl _ wr).alloc (Nat.le_refl _) (.cells #[.int .i64 ma, .int .i64 mb] 35))).row ⟨wr.heap.size, 0, none⟩ 1 1 [.int .i64 ma, .int .i64 mb] rfl rfl (news_at (heap_alloc_new wr _)) (by intro u hu; simp at hu; rcases hu with rfl | rfl <;> rfl) (by unfold maxLen; omega) (by omega) (by have := HR.out.below.size; simp; omega) ?_; intro u9 V2 r8 g8 _; obtain ⟨gg8, kk8, rfl⟩ := ownsRow_succ r8; have HR2 : Hid _ := (HR.out.step ((Below.refl _ wr).alloc (Nat.le_refl _) (.cells #[.int .i64 ma, .int .i64 mb] 35))).app (p := ⟨ma, mb⟩) r8 g8; clear r8 g8)
          go_roundw
          case rel => exact ⟨k + 1, by go_num, by omega, by rw [hx.out]; exact HR2.out, _, _, by rw [hx.out, List.length_append]; rfl⟩
          case measure => simp [intOf]; omega
    · obtain rfl : k = L.length := by omega
      rw [List.take_length] at HR ⊢
      have f1 : wr.frozen? ⟨rp, 0, none⟩ = false := (HR.out.below.frozen hrl).trans f0
      have HFN : Hid _ := HR.out.ref HS.out hbase (Nat.le_trans (List.length_filter_le _ _) hlen) (HS.out.sorted.filter _)
      have hfl : (L.filter f).length ≤ L.length := List.length_filter_le _ _
      go_wp2_with (fail)
      go_ret
      obtain ⟨q1, q2, q3⟩ := HFN.out
      exact ⟨rfl, _, q1, q2, q3⟩

set_option maxHeartbeats 4000000 in
set_option maxRecDepth 100000 in
theorem rbeyond_some (rp base : Nat) (v : Value) (room : Nat) (L : List Pr) (qp qbase : Nat) (qv : Value) (qroom : Nat) (N : List Pr) (w : World) (hs : IsRef w rp base v room L) (ht : IsRef w qp qbase qv qroom N) :
    Calls Try.prog 22 #[.pointer (some ⟨rp, 0, none⟩), .pointer (some ⟨qp, 0, none⟩)] w fun e W => ∃ u, e = .returned u ∧ W.ownsRow w.heap.size 35 2 u (minus L (some N)).length (flat (minus L (some N))) ∧ Below w.heap.size w W := by
  obtain ⟨i0, hii, hiz, hisz, hib⟩ := info_parts pair_info
  have HI : Hid _ := And.intro hii (And.intro hiz (And.intro hisz hib))
  clear hii hiz hisz hib
  have hrl := hs.lt
  have hlen := hs.len
  have hrm := hs.rm
  obtain ⟨o, cap, hlv, hlc, hcm, hcell⟩ := (Lies.of_row hs.own).form
  have c0 := hs.c0
  rw [hlv] at c0
  have HC : Hid _ := hcell
  have HT : Hid _ := ht
  clear hs hcell hlv ht
  obtain ⟨f, hf⟩ : ∃ f : Pr → Bool, f = fun q => decide (q ∉ N) := ⟨_, rfl⟩
  have HF : Hid (∀ q, f q = !decide (q ∈ N)) := fun q => by rw [hf]; by_cases hq : q ∈ N <;> simp [hq]
  rw [show minus L (some N) = L.filter f by rw [hf]; rfl]
  clear hf
  go_enter Try.func22, Try.ntmps22
  go_wp2_with (fail)
  go_loopw [5, 6] (fun u i wr => ∃ k : Nat, i = .int .i64 (k : Int) ∧ k ≤ L.length ∧ Hid (Row w wr u ((L.take k).filter f)) ∧ ∃ oo cc, u = .slice oo ((L.take k).filter f).length cc) (fun _ i _ => L.length - (intOf i).toNat)
  case atStart => exact ⟨0, rfl, Nat.zero_le _, ⟨World.ownsRow_nil _ _ _ _, Below.refl _ _⟩, none, 0, rfl⟩
  case round =>
    obtain ⟨k, rfl, hk, HR, oo, cc, rfl⟩ := hrel
    have e0 : wr.cell? ⟨rp, 0, none⟩ = some (.slice o L.length cap) := (HR.out.below.cell hrl).trans c0
    by_cases hlt : k < L.length
    · obtain ⟨g, off, rfl, x0, x1⟩ := HC.out k hlt
      have x0 := (HR.out.below.cell (World.block_lt_of_cell? _ _ x0)).trans x0
      have x1 := (HR.out.below.cell (World.block_lt_of_cell? _ _ x1)).trans x1
      have hgw : g < wr.heap.size := World.block_lt_of_cell? _ _ x0
      have hrw : rp < wr.heap.size := World.block_lt_of_cell? _ _ e0
      have hml : ((L.take k).filter f).length ≤ 4096 := by have := half_len (f := f) hk; omega
      have HTF : Hid _ := take_filter (f := f) hlt (pt L k).a (pt L k).b rfl
      rw [HF.out] at HTF
      have HH : Hid (Calls Try.prog 18 #[.pointer (some ⟨qp, 0, none⟩), .agg #[.int .i64 (pt L k).a, .int .i64 (pt L k).b]] wr fun e W => e = .returned (.bool (decide ((⟨(pt L k).a, (pt L k).b⟩ : Pr) ∈ N))) ∧ Below wr.heap.size wr W) := rhas_any qp qbase qv qroom N (pt L k) wr (HT.out.below HR.out.below)
      generalize (pt L k).a = ma at *
      generalize (pt L k).b = mb at *
      generalize hM : (L.take k).filter f = M at *
      clear hM
      generalize hd : decide ((⟨ma, mb⟩ : Pr) ∈ N) = dd at *
      clear hd
      go_wp2_with (fail)
      refine Calls.mono HH.out ?_
      clear HH
      rintro e V0 ⟨rfl, hb0⟩
      have HR0 : Hid (Row w V0 (.slice oo M.length cc) M) := HR.out.step hb0
      have e0 : V0.cell? ⟨rp, 0, none⟩ = some (.slice (some ⟨g, off, none⟩) L.length cap) := (hb0.cell hrw).trans e0
      have x0 := (hb0.cell (p := ⟨g, off + k * 2, none⟩) hgw).trans x0
      have x1 := (hb0.cell (p := ⟨g, off + k * 2 + 1, none⟩) hgw).trans x1
      clear hb0 HR
      cases dd with
      | true =>
        have hx : Hid ((L.take (k + 1)).filter f = M) := by show _ = _; have := HTF.out; simpa using this
        clear HTF
        go_wp2_with (fail)
        go_roundw
        case rel => exact ⟨k + 1, by go_num, by omega, by rw [hx.out]; exact HR0.out, oo, cc, by rw [hx.out]⟩
        case measure => simp [intOf]; omega
      | false =>
        have hx : Hid ((L.take (k + 1)).filter f = M ++ [⟨ma, mb⟩]) := by show _ = _; have := HTF.out; simpa using this
        clear HTF
        go_wp2_with (at_builtin; refine wpList_append_own _ rfl _ _ 43 rfl w.heap.size 35 i0 _ 2 16 Try.underlying43 HI.out.1 HI.out.2.1 HI.out.2.2.1 HI.out.2.2.2 rfl (by decide) _ _ _ rfl (HR0.out.step ((Below.refl _ V0).alloc (Nat.le_refl _) (.cells #[.int .i64 ma, .int .i64 mb] 35))).row ⟨V0.heap.size, 0, none⟩ 1 1 [.int .i64 ma, .int .i64 mb] rfl rfl (news_at (heap_alloc_new V0 _)) (by intro u hu; simp at hu; rcases hu with rfl | rfl <;> rfl) (by unfold maxLen; omega) (by omega) (by have := HR0.out.below.size; simp; omega) ?_; intro u9 V2 r8 g8 _; obtain ⟨gg8, kk8, rfl⟩ := ownsRow_succ r8; have HR2 : Hid _ := (HR0.out.step ((Below.refl _ V0).alloc (Nat.le_refl _) (.cells #[.int .i64 ma, .int .i64 mb] 35))).app (p := ⟨ma, mb⟩) r8 g8; clear r8 g8)
        go_roundw
        case rel => exact ⟨k + 1, by go_num, by omega, by rw [hx.out]; exact HR2.out, _, _, by rw [hx.out, List.length_append]; rfl⟩
        case measure => simp [intOf]; omega
    · obtain rfl : k = L.length := by omega
      rw [List.take_length] at HR ⊢
      go_wp2_with (fail)
      go_ret
      exact ⟨_, rfl, HR.out.row, HR.out.below⟩
end Go.Proofs.Ytdfgimfihejjhaa
