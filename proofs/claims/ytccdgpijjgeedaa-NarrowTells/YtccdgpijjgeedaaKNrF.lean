/- Package narrow: going through the crosses of edges. -/
import Derived.Test.YtccdgpijjgeedaaKNrE
namespace Go.Proofs.Ytccdgpijjgeedaa
open Go.RowKit Go.Shelf
attribute [local go_sem] Oper.semAt_some
set_option linter.unusedVariables false

set_option maxHeartbeats 1000000 in
theorem ncrosses_in (o : Option Addr) (k c : Nat) (o2 : Option Addr) (k2 c2 : Nat) (w : World) : Calls Try.prog 49 #[.slice o k c, .slice o2 k2 c2] w fun e w' => e = .returned (.func (.func 72) #[] #[.pointer (some ⟨w.heap.size, 0, none⟩), .pointer (some ⟨w.heap.size + 1, 0, none⟩)]) ∧ w' = (w.alloc (.cells #[.slice o k c] 22)).alloc (.cells #[.slice o2 k2 c2] 22) := by
  go_enter Try.func49, Try.ntmps49
  go_wp2
  go_ret
  exact ⟨rfl, rfl⟩

set_option maxRecDepth 100000 in
set_option maxHeartbeats 4000000 in
theorem ncrosses_tells (n : Nat) (Be Bf : Nat) (E F : List Pt) (ve vf : Value) (S : Nat → Prop) (w : World) (h0 : w.cell? ⟨Be, 0, none⟩ = some ve) (h1 : w.cell? ⟨Bf, 0, none⟩ = some vf)
    (hE : Lies w ve E) (hF : Lies w vf F) (sE : InS S ve E) (sF : InS S vf F) (s0 : S Be) (s1 : S Bf) (hSn : ∀ b, w.heap.size ≤ b → S b) (iE : ∀ p ∈ E, p.inB 1048576 = true) (iF : ∀ p ∈ F, p.inB 1048576 = true) :
    TellsT n Try.prog 72 #[.pointer (some ⟨Be, 0, none⟩), .pointer (some ⟨Bf, 0, none⟩)] (crossL E F) S w := by
  intro l J W hb hJ hY hJ0
  have c0 := c_after hb h0
  have c1 := c_after hb h1
  have LE : Hid _ := hE.below hb
  have LF : Hid _ := hF.below hb
  have HSn : Hid (∀ b, W.heap.size ≤ b → S b) := fun b h => hSn b (Nat.le_trans hb.size h)
  have HX : Hid _ := fun (i j : Nat) (hi : i < E.length) (hj : j < F.length) w' => ncross_any (pt E i) (pt F j) w' (inB_mono (iE _ (pt_mem hi)) (by decide)) (inB_mono (iF _ (pt_mem hj)) (by decide))
  have HT : Hid (∀ i j, i < E.length → j < F.length → pt (crossL E F) (((E.take i).flatMap fun e => F.map fun f => e.cross f).length + j) = (pt E i).cross (pt F j) ∧ ((E.take i).flatMap fun e => F.map fun f => e.cross f).length + j < (crossL E F).length) := fun i j hi hj => by
    unfold crossL
    refine ⟨?_, flat_lt _ E hi (by simpa using hj)⟩
    rw [flat_at _ E hi (by simpa using hj), pt_map hj]
  have HN : Hid (∀ i, i < E.length → ((E.take (i + 1)).flatMap fun e => F.map fun f => e.cross f).length = ((E.take i).flatMap fun e => F.map fun f => e.cross f).length + F.length) := fun i hi => by
    rw [flat_next _ E hi, List.length_map]
  have HZ : Hid (((E.take E.length).flatMap fun e => F.map fun f => e.cross f).length = (crossL E F).length) := by show _ = _; rw [List.take_length]; rfl
  have HJ0 : Hid (J ((E.take 0).flatMap fun e => F.map fun f => e.cross f).length W) := hJ0
  obtain ⟨oe, ce, rfl, ha1, ha2, ha3⟩ := hE.form
  obtain ⟨of, cf, rfl, hb1, hb2, hb3⟩ := hF.form
  clear h0 h1 hE hF ha3 hb3 iE iF hSn hJ0
  refine callsIn_of_wp Try.func72 rfl trivial ?_ rfl
  simp only [Try.ntmps72, List.size_toArray, List.length_cons, List.length_nil, Nat.reduceAdd, Nat.reduceSub, Array.replicate_succ, Array.replicate_zero, List.push_toArray, List.append_toArray, List.nil_append, List.cons_append]
  gi_wp2
  refine scope_inN ?_
  gi_wp2
  refine wpIn_label ?_
  gi_wp2
  gi_loopw [10] (fun s wr => ∃ i : Nat, i ≤ E.length ∧ s = .int .i64 (i : Int) ∧ Hid (J ((E.take i).flatMap fun e => F.map fun f => e.cross f).length wr) ∧ Hid (KeepC S W wr)) (fun s _ => E.length - (intOf s).toNat)
  case atStart => exact ⟨0, Nat.zero_le _, rfl, HJ0, KeepC.refl _ _⟩
  case round =>
    clear HJ0
    obtain ⟨i, hi, rfl, HJ, HK⟩ := hrel
    by_cases hit : i < E.length
    · obtain ⟨o9, c9, e9, _, _, h9⟩ := (Lies.keepC LE.out HK.out sE).form
      simp only [Value.slice.injEq, true_and] at e9
      obtain ⟨e9, e8⟩ := e9
      subst e9 e8
      obtain ⟨g, f, rfl, x0, x1, x2⟩ := h9 i hit
      have d1 := HK.out.cell ⟨Bf, 0, none⟩ _ s1 c1
      have HXi : Hid _ := fun (j : Nat) (hj : j < F.length) w' => HX.out i j hit hj w'
      have HTi : Hid _ := fun (j : Nat) (hj : j < F.length) => HT.out i j hit hj
      have HNi : Hid _ := HN.out i hit
      clear h9 HX HT HN
      generalize ((E.take i).flatMap fun e => F.map fun f => e.cross f).length = base at *
      generalize pt E i = p at *
      obtain ⟨px, py, pz⟩ := p
      obtain ⟨V, hV⟩ : ∃ V, V = wr.alloc (.cells #[.int .i64 px, .int .i64 py, .int .i64 pz] 26) := ⟨_, rfl⟩
      obtain ⟨eb, heb⟩ : ∃ b, b = wr.heap.size := ⟨_, rfl⟩
      have b9 : Below wr.heap.size wr V := by rw [hV]; exact n_after _ _
      have BE : Hid (Box3 V eb ⟨px, py, pz⟩) := by show Box3 _ _ _; rw [hV, heb]; exact Box3.new _ _ _ _ _
      have HJ : Hid (J (base + 0) V) := own_step hJ HJ.out b9
      have HK : Hid (KeepC S W V) := HK.out.trans (KeepC.below b9)
      have hSe : S eb := HSn.out eb (by rw [heb]; exact KeepC.size (S := S) (by assumption))
      have d1x := c_after (n_after wr (.cells #[.int .i64 px, .int .i64 py, .int .i64 pz] 26)) d1
      dsimp only at *
      gi_wp2
      rw [← hV] at d1x ⊢
      rw [← heb]
      clear x0 x1 x2 d1 hV b9 heb
      gi_loopw [16] (fun s wr2 => ∃ j : Nat, j ≤ F.length ∧ s = .int .i64 (j : Int) ∧ Hid (J (base + j) wr2) ∧ Hid (KeepC S V wr2)) (fun s _ => F.length - (intOf s).toNat)
      case atStart => exact ⟨0, Nat.zero_le _, rfl, HJ, KeepC.refl _ _⟩
      case round =>
        clear HJ
        obtain ⟨j, hj, rfl, HJ, HK2⟩ := hrel
        by_cases hjl : j < F.length
        · obtain ⟨o9, c9, e9, _, _, h9⟩ := (Lies.keepC (Lies.keepC LF.out HK.out sF) HK2.out sF).form
          simp only [Value.slice.injEq, true_and] at e9
          obtain ⟨e9, e8⟩ := e9
          subst e9 e8
          obtain ⟨g2, f2, rfl, x0, x1, x2⟩ := h9 j hjl
          have y0 := HK2.out.cell ⟨eb, 0, none⟩ _ hSe BE.out.c0
          have y1 := HK2.out.cell ⟨eb, 1, none⟩ _ hSe BE.out.c1
          have y2 := HK2.out.cell ⟨eb, 2, none⟩ _ hSe BE.out.c2
          dsimp only at y0 y1 y2
          have hebl : eb < wr.heap.size := World.block_lt_of_cell? _ _ y0
          have HXj : Hid _ := fun w' => HXi.out j hjl w'
          obtain ⟨hpt, hlt⟩ := HTi.out j hjl
          have HYk : Hid _ := fun Vx hV => yield_at (hY (base + j) Vx hlt hV) hpt
          clear h9 hlt hpt HXi HTi
          have HJx : Hid (∀ Vx, Below wr.heap.size wr Vx → J (base + j) Vx) := fun Vx h => own_step hJ HJ.out h
          generalize Pt.cross ⟨px, py, pz⟩ (pt F j) = cr at *
          generalize pt F j = q at *
          obtain ⟨qx, qy, qz⟩ := q
          obtain ⟨rx, ry, rz⟩ := cr
          unfold Pt.v at HYk HXj
          dsimp only at *
          gi_wp2
          refine ⟨trivial, fun h => (by cases h), (callsIn_wide.2 (HXj.out _)).mono ?_⟩
          rintro e V4 ⟨rfl, hb4⟩
          have b4 : Below wr.heap.size wr V4 := b_step (n_after _ _) hb4
          obtain ⟨fn, tmps, assign, body, hy, hR⟩ := HYk.out _ (HJx.out _ b4)
          have k4 : Hid (KeepC S wr V4) := KeepC.below b4
          clear HYk HXj hb4 b4 y0 y1 y2 x0 x1 x2
          gi_wp2
          refine ⟨fun h => (by cases h), hR.mono ?_⟩
          rintro e W3 ⟨rfl, hJ3, hk3, _⟩
          gi_wp2
          go_roundw
          case rel => exact ⟨j + 1, by omega, by simp, (by rw [← Nat.add_assoc]; exact hJ3), (HK2.out.trans k4.out).trans hk3⟩
          case measure => simp [intOf]; omega
        · obtain rfl : j = F.length := by omega
          rw [← HNi.out] at HJ
          gi_wp2
          go_roundw
          case rel => exact ⟨i + 1, by omega, by simp, HJ, HK.out.trans HK2.out⟩
          case measure => simp [intOf]; omega
    · obtain rfl : i = E.length := by omega
      rw [HZ.out] at HJ
      gi_wp2
      rw [Exit.noGoto_normal]
      gi_wp2
      go_end0
      exact ⟨⟨_, rfl⟩, HJ.out⟩
end Go.Proofs.Ytccdgpijjgeedaa
