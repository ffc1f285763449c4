/- Chapter 19's example. -/
import Derived.Test.YtbbmjfaflcbimaaEvI
import Derived.Test.YtbbmjfaflcbimaaEvK
namespace Go.Proofs.Ytbbmjfaflcbimaa
open Go.RowKit Go.Shelf
set_option linter.unusedVariables false

theorem lit_lies {W : World} {g : Nat} {L : List Ev} (h : W.heap[g]? = some (.cells (evs L).toArray 37 (0, 0))) (hL : L.length ≤ 1048576) : LiesE W (.slice (some ⟨g, 0, none⟩) L.length L.length) L :=
  OA.lies (OA.of_row ((EL.mk h).own (Nat.zero_le g) (by omega)))
theorem far_new {g off n c p q : Nat} (h1 : g ≠ p) (h2 : g ≠ q) : Far (.slice (some ⟨g, off, none⟩) n c) p q := fun g' off' n' c' e => by
  injection e with e1 e2 e3
  injection e1 with e1
  injection e1 with e1 e4
  subst e1
  exact ⟨h1, h2⟩
set_option maxRecDepth 100000 in
set_option maxHeartbeats 4000000 in
theorem awake19_any (w : World) : Calls Try.prog 6 #[] w fun e w' => e = .returned (.bool true) ∧ Below w.heap.size w w' := by
  go_enter Try.func6, Try.ntmps6
  go_wp2_with (fail)
  refine Calls.mono (new19_yes 2 w (by omega) (by omega)) ?_
  rintro e W0 ⟨qp, rb, rfl, hq, hr, hQ, hB⟩
  have HB : Hid _ := hB
  have HQ : Hid (Qu _ _ _ _ _) := hQ
  have HH : Hid _ := And.intro hq hr
  clear hB hQ hq hr
  obtain ⟨V1, hV1⟩ : ∃ V, V = W0.alloc (.cells #[.int .i64 1, .int .i64 0, .int .i64 0, .int .i64 2, .int .i64 0, .int .i64 0] 37) := ⟨_, rfl⟩
  have hb1 : Below W0.heap.size W0 V1 := by rw [hV1]; exact (Below.refl _ _).alloc (Nat.le_refl _) _
  have hl1 : LiesE V1 (.slice (some ⟨W0.heap.size, 0, none⟩) 2 2) [⟨1, 0, 0⟩, ⟨2, 0, 0⟩] := lit_lies (L := [⟨1, 0, 0⟩, ⟨2, 0, 0⟩]) (by rw [hV1]; exact heap_alloc_new W0 _) (by simp)
  have hql := Qu.lt HQ.out
  have HP : Hid _ := qpush_fits qp rb 2 [] [⟨1, 0, 0⟩, ⟨2, 0, 0⟩] _ V1 (Qu.below HQ.out hb1) hl1 (fun _ => far_new (by omega) (by omega)) (by simp)
  go_wp2_with (fail)
  rw [← hV1]
  refine Calls.mono HP.out ?_
  rintro e W1 ⟨rfl, hQ, hT⟩
  have HB : Hid _ := Two2.below (z_step HB.out hb1) (z_step HB.out hb1).size HH.out.1 HH.out.2 hT
  have HQ : Hid (Qu _ _ _ _ _) := hQ
  clear hQ hT hV1 hb1 hl1 hql HP V1
  obtain ⟨V1, hV1⟩ : ∃ V, V = W1.alloc (.cells #[.int .i64 3, .int .i64 0, .int .i64 0] 37) := ⟨_, rfl⟩
  have hb1 : Below W1.heap.size W1 V1 := by rw [hV1]; exact (Below.refl _ _).alloc (Nat.le_refl _) _
  have hl1 : LiesE V1 (.slice (some ⟨W1.heap.size, 0, none⟩) 1 1) [⟨3, 0, 0⟩] := by rw [hV1]; exact one_lies 3 0 0
  have HP : Hid _ := qpush_full qp rb 2 [⟨1, 0, 0⟩, ⟨2, 0, 0⟩] [⟨3, 0, 0⟩] _ V1 (Qu.below HQ.out hb1) hl1 (by simp)
  go_wp2_with (fail)
  rw [← hV1]
  refine Calls.mono HP.out ?_
  rintro e W2 ⟨rfl, hb⟩
  have hb2 := z_step hb1 hb
  have HB : Hid _ := z_step HB.out hb2
  have HQ : Hid (Qu _ _ _ _ _) := Qu.below HQ.out hb2
  clear hb hb2 hV1 hb1 hl1 HP V1
  obtain ⟨R, f, hq1, hR, hrg⟩ := HQ.out
  have HT : Hid _ := qtake_some qp rb R f 1 W2 hq1
  have HE : Hid (evAt R f = ⟨1, 0, 0⟩) := by
    have h1 := ring_take R f 1 Ev.O hq1.first (by omega)
    have h2 : ring R f 2 = [⟨1, 0, 0⟩, ⟨2, 0, 0⟩] := hrg
    rw [h2] at h1
    injection h1 with h1 _
    exact h1.symm
  rw [HE.out] at HT
  unfold Ev.v at HT
  dsimp only at HT
  have HRL : Hid _ := hR
  clear hq1 hrg HQ hR
  go_wp2_with (fail)
  refine Calls.mono HT.out ?_
  rintro e W3 ⟨rfl, hq3, hT⟩
  have HB : Hid _ := Two2.below HB.out HB.out.size HH.out.1 HH.out.2 hT
  have HQ3 : Hid _ := hq3
  clear hT hq3 HT HE
  go_upto_region 7 with fail
  obtain ⟨V1, hV1⟩ : ∃ V, V = W3.alloc (.cells #[.int .i64 1, .int .i64 0, .int .i64 0] 37) := ⟨_, rfl⟩
  have hb1 : Below W3.heap.size W3 V1 := by rw [hV1]; exact (Below.refl _ _).alloc (Nat.le_refl _) _
  have x0 : V1.cell? ⟨W3.heap.size, 0, none⟩ = some (.int .i64 1) := by rw [hV1]; simp [go_sem]
  rw [← hV1]
  have HB : Hid _ := z_step HB.out hb1
  have HQ3 : Hid _ := HQ3.out.below hb1
  have hqV : Hid (qp < V1.heap.size ∧ rb < V1.heap.size) := ⟨HQ3.out.qlt, HQ3.out.rlt⟩
  generalize W3.heap.size = S0 at *
  clear hV1 hb1
  go_wp2_with (fail)
  refine Calls.mono (new_yes 4 V1.heap.size V1 (by omega) (by omega)) ?_
  rintro e W4 ⟨sp, rfl, hsp, hs, hb⟩
  have HB : Hid _ := z_step HB.out hb
  have HQ3 : Hid _ := HQ3.out.below hb
  have x0 := z_after hb x0
  have hSV : S0 < V1.heap.size := World.block_lt_of_cell? _ _ ‹V1.cell? _ = _›
  have P1 : Calls Try.prog 22 #[.pointer (some ⟨sp, 0, none⟩), .agg #[.int .i64 1, .int .i64 2]] W4 fun e W => e = .returned (.tuple #[.bool true, .int .i64 0]) ∧ ∃ v', IsSet W sp V1.heap.size v' 4 [⟨1, 2⟩] ∧ Ch W4 W sp none ∧ _ := put_any sp V1.heap.size _ 4 [] ⟨1, 2⟩ W4 hs hb.size
  have HP : Hid _ := P1
  have hwV : Hid (w.heap.size ≤ V1.heap.size) := ‹Hid (Below w.heap.size w V1)›.out.size
  clear hs hb P1
  go_wp2_with (fail)
  refine Calls.mono HP.out ?_
  rintro e W5 ⟨rfl, v5, hs, hch, _⟩
  have hn1 := hqV.out.1
  have hn2 := hqV.out.2
  have hn3 := hwV.out
  have HB : Hid _ := hch.below HB.out HB.out.size (by omega) (fun k e => by cases e)
  have HQ3 : Hid _ := HQ3.out.keep (hch.block qp HQ3.out.qlt (by omega) (by simp)) (hch.block rb HQ3.out.rlt (by omega) (by simp))
  have x0 : W5.cell? ⟨S0, 0, none⟩ = some (.int .i64 1) := (World.cell?_of_block (a := ⟨S0, 0, none⟩) (hch.block S0 (World.block_lt_of_cell? _ _ x0) (by omega) (by simp))).trans x0
  have HS : Hid _ := hs
  have HF : Hid (Calls Try.prog 16 #[.pointer (some ⟨qp, 0, none⟩)] W5 fun e W => e = .returned (.int .i64 1) ∧ Below W5.heap.size W5 W) := by
    refine Calls.mono (qfree_any qp rb _ _ 1 W5 HQ3.out) ?_
    rintro e W ⟨rfl, hb⟩
    refine ⟨?_, hb⟩
    rw [List.length_set, HRL.out]
    rfl
  clear hs hch HP HQ3 hn1 hn2 hn3 hqV hwV
  go_wp2_with (fail)
  refine Calls.mono HF.out ?_
  rintro e W6 ⟨rfl, hb⟩
  have HB : Hid _ := z_step HB.out hb
  have HS : Hid _ := HS.out.below hb
  clear hb HF x0
  go_wp2_with (fail)
  refine Calls.mono (diff19_any none (some ⟨sp, 0, none⟩) [⟨1, 2⟩] [] W6 (by_bare sp _ v5 4 [⟨1, 2⟩] W6 HS.out) (by_nil W6 _) (by simp) (by simp)) ?_
  rintro e W7 ⟨u7, rfl, hu, hb⟩
  have HB : Hid _ := z_step HB.out hb
  have HU : Hid (OA W7 W6.heap.size u7 [⟨1, 1, 2⟩]) := hu
  obtain ⟨o7, c7, rfl, _, _⟩ := hu.len
  clear hu hb HS
  have hE := events_same (.slice o7 1 c7) (.slice (some ⟨W7.heap.size, 0, none⟩) 1 1) [⟨1, 1, 2⟩] (W7.alloc (.cells #[.int .i64 1, .int .i64 1, .int .i64 2] 37)) (HU.out.below ((Below.refl _ W7).alloc (Nat.le_refl _) _)).lies (one_lies 1 1 2)
  have HE2 : Hid _ := hE
  clear hE
  go_wp2_with (fail)
  refine Calls.mono HE2.out ?_
  rintro e W8 ⟨rfl, hb⟩
  have HB : Hid _ := z_step (z_step HB.out ((Below.refl _ W7).alloc (Nat.le_refl _) _)) hb
  clear hb HE2
  go_wp2_with (fail)
  go_ret
  exact ⟨rfl, HB.out⟩
end Go.Proofs.Ytbbmjfaflcbimaa
